import PyProof.Rows.All
import Wide.All
import OpenK.AllK
import Wide.FinOn
import Lean
import PyProof.EqAt
import PyProof.EqKinds
import PyProof.TupleCall
import PySem.Challenge.RW_notefall_k11_deeds_made
set_option Elab.async false
set_option linter.all false
set_option maxRecDepth 100000
namespace L2
open PySem PySem.Spec PyProof.Rows
abbrev Key := Sum Int Str
def keyIs : Key → Value → Bool
  | .inl k, v => Value.isInt k v
  | .inr x, v => Value.isStrOf x v
def keyH (w : World) : Key → Int
  | .inl k => hashInt k
  | .inr x => hashStr w x
theorem keyIs_shape : ∀ {k : Key} {v : Value}, keyIs k v = true → (∃ i t, k = Sum.inl i ∧ v = Value.int i t) ∨ (∃ x t, k = Sum.inr x ∧ v = Value.str x t)
  | .inl i, v, h => by
    obtain ⟨t, e⟩ := Value.isInt_shape (k := i) (v := v) h
    exact .inl ⟨i, t, rfl, e⟩
  | .inr x, v, h => by
    obtain ⟨t, e⟩ := Value.isStrOf_shape (x := x) (v := v) h
    exact .inr ⟨x, t, rfl, e⟩
theorem keyIs_int (i : Int) (t : Tok) : keyIs (.inl i) (.int i t) = true := by simp [keyIs, Value.isInt]
theorem keyIs_str (x : Str) (t : Tok) : keyIs (.inr x) (.str x t) = true := by simp [keyIs, Value.isStrOf]
theorem key_ll (a b : Int) : decide ((Sum.inl a : Key) = Sum.inl b) = (a == b) := by
  by_cases e : a = b
  · subst e; simp
  · have h : ¬ (Sum.inl a : Key) = Sum.inl b := fun q => e (Sum.inl.inj q)
    rw [decide_eq_false h]
    exact (beq_eq_false_iff_ne.mpr e).symm
theorem key_rr (a b : Str) : decide ((Sum.inr a : Key) = Sum.inr b) = decide (a = b) := by
  by_cases e : a = b
  · subst e; simp
  · have h : ¬ (Sum.inr a : Key) = Sum.inr b := fun q => e (Sum.inr.inj q)
    rw [decide_eq_false h, decide_eq_false e]
theorem key_lr (a : Int) (b : Str) : decide ((Sum.inl a : Key) = Sum.inr b) = false := decide_eq_false (fun q => nomatch q)
theorem key_rl (a : Str) (b : Int) : decide ((Sum.inr a : Key) = Sum.inl b) = false := decide_eq_false (fun q => nomatch q)
def mixKind (prog : Program) (w : World) : PySem.KeyKind prog w Key where
  is := keyIs
  hash := keyH w
  inj := fun v a b ha hb => by
    rcases keyIs_shape ha with ⟨i, t, rfl, rfl⟩ | ⟨x, t, rfl, rfl⟩
    · rcases keyIs_shape hb with ⟨j, u, rfl, e⟩ | ⟨y, u, rfl, e⟩
      · injection e with e1 _; rw [e1]
      · exact nomatch e
    · rcases keyIs_shape hb with ⟨j, u, rfl, e⟩ | ⟨y, u, rfl, e⟩
      · exact nomatch e
      · injection e with e1 _; rw [e1]
  byValue := fun k v h => by
    rcases keyIs_shape h with ⟨i, t, rfl, rfl⟩ | ⟨x, t, rfl, rfl⟩ <;> rfl
  pyHash := fun hv h => by
    rcases keyIs_shape hv with ⟨i, t, rfl, rfl⟩ | ⟨x, t, rfl, rfl⟩
    · exact wpAny_pyHash_int h
    · exact wpAny_pyHash_str h
  eqBool := fun hu hv h => by
    rcases keyIs_shape hu with ⟨i, t, rfl, rfl⟩ | ⟨x, t, rfl, rfl⟩
    · rcases keyIs_shape hv with ⟨j, u, rfl, rfl⟩ | ⟨y, u, rfl, rfl⟩
      · rw [key_ll] at h; exact wpAny_eqBool_int h
      · rw [key_lr] at h; exact SeqAt.EqAt.int_str i t y u _ _ _ _ h
    · rcases keyIs_shape hv with ⟨j, u, rfl, rfl⟩ | ⟨y, u, rfl, rfl⟩
      · rw [key_rl] at h; exact SeqAt.EqAt.str_int x t j u _ _ _ _ h
      · rw [key_rr] at h; exact wpAny_eqBool_str h
  «strs» := fun k x t v h => by
    rcases keyIs_shape h with ⟨i, u, rfl, e⟩ | ⟨y, u, rfl, e⟩
    · exact nomatch e
    · injection e with e1 _
      subst e1
      cases v <;> rfl
theorem mixKind_int (prog : Program) (w : World) (i : Int) (t : Tok) : (mixKind prog w).is (.inl i) (.int i t) = true := keyIs_int i t
theorem mixKind_str (prog : Program) (w : World) (x : Str) (t : Tok) : (mixKind prog w).is (.inr x) (.str x t) = true := keyIs_str x t
end L2
namespace L2
open PySem PySem.Spec PyProof.Rows
inductive V where
  | non | bl (b : Bool) | int (i : Int) | str (x : Str) | byt (b : Array UInt8) | flt (b : UInt64) | ref (a : Addr) | ty (n : String)
  deriving DecidableEq
def RelV : V → Value → Prop
  | .non, u => u = Value.none
  | .bl b, u => u = Value.bool b
  | .int i, u => ∃ t, u = Value.int i t
  | .str x, u => ∃ t, u = Value.str x t
  | .byt b, u => ∃ t, u = Value.bytes b t
  | .flt b, u => ∃ t, u = Value.float b t
  | .ref a, u => u = Value.ref a
  | .ty n, u => u = Value.type n
abbrev Vals : List V → List Value → Prop := Paired RelV
theorem Vals.length {xs : List V} {us : List Value} (r : Vals xs us) : xs.length = us.length := Paired.length r
theorem Vals.get : ∀ {xs : List V} {us : List Value} {i : Nat} {x : V}, Vals xs us → xs[i]? = some x → ∃ u, us[i]? = some u ∧ RelV x u
  | _, _, _, _, .nil, e => by simp at e
  | _, _, 0, _, .cons r _, e => by simp at e; subst e; exact ⟨_, rfl, r⟩
  | _, _, i + 1, x, .cons _ t, e => by
    obtain ⟨u, h1, h2⟩ := Vals.get (i := i) (x := x) t (by simpa using e)
    exact ⟨u, by simpa using h1, h2⟩
theorem Vals.set {x : V} {u : Value} (r : RelV x u) : ∀ {xs : List V} {us : List Value} (i : Nat), Vals xs us → Vals (xs.set i x) (us.set i u)
  | _, _, _, .nil => .nil
  | _, _, 0, .cons _ t => .cons r t
  | _, _, i + 1, .cons q t => .cons q (Vals.set r i t)
theorem Vals.append : ∀ {xs ys : List V} {us ws : List Value}, Vals xs us → Vals ys ws → Vals (xs ++ ys) (us ++ ws)
  | _, _, _, _, .nil, s => s
  | _, _, _, _, .cons r t, s => .cons r (Vals.append t s)
theorem Vals.take : ∀ {xs : List V} {us : List Value} (n : Nat), Vals xs us → Vals (xs.take n) (us.take n)
  | _, _, 0, _ => .nil
  | _, _, _ + 1, .nil => .nil
  | _, _, n + 1, .cons r t => .cons r (Vals.take n t)
theorem Vals.drop : ∀ {xs : List V} {us : List Value} (n : Nat), Vals xs us → Vals (xs.drop n) (us.drop n)
  | _, _, 0, r => r
  | _, _, _ + 1, .nil => .nil
  | _, _, n + 1, .cons _ t => Vals.drop n t
theorem Vals.none_of : ∀ {xs : List V} {us : List Value} {i : Nat}, Vals xs us → xs[i]? = none → us[i]? = none := fun {xs us i} r e => by
  have h1 := r.length
  have h2 : xs.length ≤ i := List.getElem?_eq_none_iff.mp e
  exact List.getElem?_eq_none_iff.mpr (by omega)
def RelO : Option V → Option Value → Prop
  | some v, some u => RelV v u
  | none, none => True
  | _, _ => False
def KV {κ : Type} : List (κ × V) → List (κ × Value) → Prop := Paired fun (p : κ × V) (q : κ × Value) => p.1 = q.1 ∧ RelV p.2 q.2
def kV : Key → V
  | .inl i => .int i
  | .inr x => .str x
inductive HO where
  | lst (xs : List V)
  | tup (xs : List V)
  | dK (kvs : List (Key × V)) | dT (kvs : List (List Key × V))
  | set (S : Int → Bool) (n : Nat)
  | ins (C dx : Addr) (fs : List (Str × V))
  | own (x : Addr)
  | xd (fs : List (Str × V))
  | met (f x : Addr)
  | rng (lo hi : Int)
  | frz (o : Obj) (u : HO)
  | tbl (ps : Array Value)
  | ext (φ : Heap → Prop)
abbrev Hp := Addr → Option HO
def upd (H : Hp) (a : Addr) (o : HO) : Hp := fun b => if b = a then some o else H b
theorem upd_same {H : Hp} {a : Addr} {o : HO} : upd H a o a = some o := by unfold upd; rw [if_pos rfl]
theorem upd_ne {H : Hp} {a b : Addr} {o : HO} (h : b ≠ a) : upd H a o b = H b := by unfold upd; rw [if_neg h]
theorem upd_upd {H : Hp} {a : Addr} {o u : HO} : upd (upd H a o) a u = upd H a u := by
  funext b; unfold upd; split <;> rfl
theorem ne_of {H : Hp} {a b : Addr} {o u : HO} (h : H a = some o) (h' : H b = some u) (d : o ≠ u) : a ≠ b := by
  intro e; subst e; rw [h] at h'; exact d (Option.some.inj h')
theorem ne_of_none {H : Hp} {a b : Addr} {o : HO} (h : H a = some o) (h' : H b = none) : a ≠ b := by
  intro e; subst e; rw [h] at h'; cases h'
section
variable (P : Program) (w : World)
def ObjOk (H : Hp) (h : Heap) (a : Addr) : HO → Prop
  | .lst xs => xs.length ≤ sizeLine ∧ ∃ (its : List Value) (n : Nat), Vals xs its ∧ h.get? a = some { cls := .type "list", data := .seq its.toArray n }
  | .tup xs => xs.length ≤ sizeLine ∧ ∃ its : List Value, Vals xs its ∧ IsTup h a its.toArray
  | .dK kvs => kvs.length ≤ sizeLine ∧ (a == sysModules) = false ∧ ∃ vs, KV kvs vs ∧ h.DictOf (mixKind P w) a vs
  | .dT kvs => kvs.length ≤ sizeLine ∧ (a == sysModules) = false ∧ ∃ xs : List (List Key × Addr × Value),
      Paired (fun (p : List Key × V) (q : List Key × Addr × Value) => p.1 = q.1 ∧ H q.2.1 = some (.tup (p.1.map kV)) ∧ RelV p.2 q.2.2) kvs xs ∧
      ∃ o es ep, h.get? a = some o ∧ o.ExactDict ∧ o.data = .dict es ep ∧ es.toList = xs.map (entryOfKey (tupleKind (mixKind P w))) ∧ (xs.map (·.1)).Nodup
  | .set S n => h.SetOf (intKind P w) a S n
  | .ins C dx fs => H dx = some (.own a) ∧ fs.length ≤ 1000 ∧ dx ≠ a ∧ h.get? a = some (PySem.W.instObj C dx) ∧
      ∃ mA, h.Ns1 dx mA ∧ (∀ f, RelO (fs.lookup f) (mA f)) ∧ PySem.Within mA (fs.map (·.1))
  | .own _ => ∃ o, h.get? a = some o
  | .xd fs => ∃ mA, h.Ns1 a mA ∧ ∀ f, RelO (fs.lookup f) (mA f)
  | .rng lo hi => ∃ t u v, h.get? a = some { cls := .type "range", data := .fields #[.int lo t, .int hi u, .int 1 v] }
  | .frz o u => h.get? a = some o ∧ ObjOk H h a u
  | .tbl ps => h.get? a = some { cls := .none, data := .fields ps }
  | .met f x => h.get? a = some (PySem.W.methodObj (.ref f) (.ref x))
  | .ext φ => φ h ∧ (∃ o, h.get? a = some o) ∧ ∀ h1 h2 : Heap, φ h1 → (∀ o, h1.get? a = some o → h2.get? a = some o) → φ h2
def HOk (H : Hp) (h : Heap) : Prop := ∀ a o, H a = some o → ObjOk P w H h a o
end
section
variable {P : Program} {w : World} {H H' : Hp} {h h' : Heap} {a : Addr} {o : HO}
theorem ObjOk.lt (x : ObjOk P w H h a o) : a < h.objs.size := by
  cases o with
  | lst xs => obtain ⟨_, _, _, _, e⟩ := x; exact Heap.lt_size e
  | tup xs => obtain ⟨_, _, _, p⟩ := x; exact p.lt
  | dK kvs => obtain ⟨_, _, _, _, o, _, _, e, _⟩ := x; exact Heap.lt_size e
  | dT kvs => obtain ⟨_, _, _, _, o, _, _, e, _⟩ := x; exact Heap.lt_size e
  | set S n => obtain ⟨o, _, _, _, e, _⟩ := x; exact Heap.lt_size e
  | ins C dx fs => obtain ⟨_, _, _, e, _⟩ := x; exact Heap.lt_size e
  | own y => obtain ⟨_, e⟩ := x; exact Heap.lt_size e
  | xd fs => obtain ⟨_, ⟨_, _, _, e, _⟩, _⟩ := x; exact Heap.lt_size e
  | rng lo hi => obtain ⟨_, _, _, e⟩ := x; exact Heap.lt_size e
  | frz ob u => obtain ⟨e, _⟩ := x; exact Heap.lt_size e
  | tbl ps => exact Heap.lt_size (show h.get? a = some _ from x)
  | met f y => exact Heap.lt_size (show h.get? a = some _ from x)
  | ext φ => obtain ⟨_, ⟨_, e⟩, _⟩ := x; exact Heap.lt_size e
theorem Paired.mapP {α β : Type} {F G : α → β → Prop} : ∀ {l₁ : List α} {l₂ : List β}, Paired F l₁ l₂ → (∀ a b, F a b → G a b) → Paired G l₁ l₂
  | _, _, .nil, _ => .nil
  | _, _, .cons r t, f => .cons (f _ _ r) (Paired.mapP t f)
theorem ObjOk.stay (x : ObjOk P w H h a o) (k : ∀ b u, (b = a ∨ H b = some (.own a)) → h.get? b = some u → h'.get? b = some u)
    (ho : ∀ b, H b = some (.own a) → H' b = some (.own a)) (ht : ∀ b xs, H b = some (.tup xs) → H' b = some (.tup xs)) : ObjOk P w H' h' a o := by
  induction o with
  | lst xs => obtain ⟨z, its, n, r, e⟩ := x; exact ⟨z, its, n, r, k _ _ (.inl rfl) e⟩
  | tup xs => obtain ⟨z, its, r, ob, e, c⟩ := x; exact ⟨z, its, r, ob, k _ _ (.inl rfl) e, c⟩
  | dK kvs => obtain ⟨z, y, vs, r, ob, es, ep, e, c⟩ := x; exact ⟨z, y, vs, r, ob, es, ep, k _ _ (.inl rfl) e, c⟩
  | dT kvs =>
    obtain ⟨z, y, xs, r, ob, es, ep, e, c⟩ := x
    exact ⟨z, y, xs, Paired.mapP r fun p q z => ⟨z.1, ht _ _ z.2.1, z.2.2⟩, ob, es, ep, k _ _ (.inl rfl) e, c⟩
  | set S n => obtain ⟨ob, es, ep, t, e, c⟩ := x; exact ⟨ob, es, ep, t, k _ _ (.inl rfl) e, c⟩
  | ins C dx fs =>
    obtain ⟨d, z, ne, e, mA, ⟨od, es, ep, e2, c⟩, r⟩ := x
    exact ⟨ho _ d, z, ne, k _ _ (.inl rfl) e, mA, ⟨od, es, ep, k _ _ (.inr d) e2, c⟩, r⟩
  | own y => obtain ⟨ob, e⟩ := x; exact ⟨ob, k _ _ (.inl rfl) e⟩
  | xd fs => obtain ⟨mA, ⟨od, es, ep, e, c⟩, r⟩ := x; exact ⟨mA, ⟨od, es, ep, k _ _ (.inl rfl) e, c⟩, r⟩
  | rng lo hi => obtain ⟨t, u, v, e⟩ := x; exact ⟨t, u, v, k _ _ (.inl rfl) e⟩
  | frz ob u ih => obtain ⟨e, q⟩ := x; exact ⟨k _ _ (.inl rfl) e, ih q⟩
  | tbl ps =>
    have e : h.get? a = some { cls := .none, data := .fields ps } := x
    show h'.get? a = some { cls := .none, data := .fields ps }
    exact k a _ (.inl rfl) e
  | met f y =>
    have e : h.get? a = some (PySem.W.methodObj (.ref f) (.ref y)) := x
    show h'.get? a = some (PySem.W.methodObj (.ref f) (.ref y))
    exact k a _ (.inl rfl) e
  | ext φ => obtain ⟨p, ⟨o, e⟩, st⟩ := x; exact ⟨st _ _ p fun o q => k _ _ (.inl rfl) q, ⟨o, k _ _ (.inl rfl) e⟩, st⟩
theorem HOk.lt (x : HOk P w H h) (e : H a = some o) : a < h.objs.size := (x a o e).lt
theorem HOk.fresh (x : HOk P w H h) (e : h.objs.size ≤ a) : H a = none := by
  cases q : H a with
  | none => rfl
  | some u => exact absurd (Nat.lt_of_lt_of_le (x.lt q) e) (Nat.lt_irrefl _)
theorem HOk.kept (x : HOk P w H h) (k : ∀ b u, h.get? b = some u → h'.get? b = some u) : HOk P w H h' := fun a o e =>
  (x a o e).stay (fun b u _ q => k b u q) (fun _ q => q) fun _ _ q => q
theorem HOk.laid (x : HOk P w H h) (k : ∀ b u, h.get? b = some u → h'.get? b = some u) (hp : h.objs.size ≤ a) (new : ObjOk P w (upd H a o) h' a o) : HOk P w (upd H a o) h' := fun b u e => by
  have hn := x.fresh hp
  by_cases hb : b = a
  · subst hb; rw [upd_same] at e; cases e; exact new
  · rw [upd_ne hb] at e
    exact (x b u e).stay (fun c v _ q => k c v q) (fun c q => by rw [upd_ne (ne_of_none q hn)]; exact q) fun c xs q => by rw [upd_ne (ne_of_none q hn)]; exact q
end
def Rd (H : Hp) (a : Addr) (u : HO) : Prop := H a = some u ∨ ∃ o, H a = some (.frz o u)
theorem Rd.of {H : Hp} {a : Addr} {u : HO} (h : H a = some u) : Rd H a u := .inl h
theorem Rd.ok {P : Program} {w : World} {H : Hp} {h : Heap} {a : Addr} {u : HO} (r : Rd H a u) (x : HOk P w H h) : ObjOk P w H h a u := by
  rcases r with r | ⟨o, r⟩
  · exact x a u r
  · obtain ⟨_, q⟩ := x a _ r
    exact q
def Mut : Option HO → Prop
  | some (.lst _) => True
  | some (.dK _) => True
  | some (.dT _) => True
  | some (.set _ _) => True
  | some (.ins _ _ _) => True
  | some (.ext _) => True
  | _ => False
section
variable {P : Program} {w : World} {H : Hp} {h h' : Heap} {x e : Addr} {o' : HO}
theorem HOk.write (ok : HOk P w H h) (mu : Mut (H x)) (he : e = x ∨ H e = some (.own x)) (k : ∀ b u, b ≠ e → h.get? b = some u → h'.get? b = some u) (heo : ∃ u, h'.get? e = some u)
    (new : ObjOk P w (upd H x o') h' x o') : HOk P w (upd H x o') h' := fun b u q => by
  have nown : ∀ c y, H c = some (.own y) → c ≠ x := fun c y r z => by subst z; rw [r] at mu; exact mu
  have ntup : ∀ c xs, H c = some (.tup xs) → c ≠ x := fun c xs r z => by subst z; rw [r] at mu; exact mu
  by_cases hb : b = x
  · subst hb; rw [upd_same] at q; cases q; exact new
  · rw [upd_ne hb] at q
    by_cases hbe : b = e
    · have q' : H b = some (.own x) := by
        rcases he with z | z
        · exact absurd (hbe.trans z) hb
        · rw [hbe]; exact z
      rw [q] at q'; cases q'
      obtain ⟨v, hv⟩ := heo
      exact ⟨v, by rw [hbe]; exact hv⟩
    · refine (ok b u q).stay (fun c v hc r => k c v ?_ r) (fun c r => by rw [upd_ne (nown c b r)]; exact r) fun c xs r => by rw [upd_ne (ntup c xs r)]; exact r
      rcases hc with rfl | hc
      · exact hbe
      · rintro rfl
        rcases he with z | z
        · exact nown c b hc z
        · rw [hc] at z; cases z; exact hb rfl
end
structure Un (fs ex : List Addr) (H H' : Hp) (h h' : Heap) : Prop where
  keep : ∀ b o, h.get? b = some o → H b = none → b ∉ fs → b ∉ ex → h'.get? b = some o
  slot : ∀ b o, h.get? b = some o → H b = none → b ∈ fs → b ∉ ex → ∃ sl, h'.get? b = some { o with slots := sl }
  free : ∀ b o, h.get? b = some o → H b = none → b ∉ ex → H' b = none
  there : ∀ b o, h.get? b = some o → b ∉ ex → ∃ o', h'.get? b = some o'
  tups : ∀ b xs, H b = some (.tup xs) → H' b = some (.tup xs)
  frzs : ∀ b o u, H b = some (.frz o u) → H' b = some (.frz o u)
  tbls : ∀ b ps, H b = some (.tbl ps) → ∃ more, H' b = some (.tbl (ps ++ more))
section
variable {fs fs' ex ex' : List Addr} {H H1 H2 : Hp} {h h1 h2 h' : Heap} {a x e : Addr} {o : HO}
theorem Un.any (u : Un fs ex H H1 h h1) {b : Addr} {ob : Obj} (q : h.get? b = some ob) (n : H b = none) (hx : b ∉ ex) : ∃ sl, h1.get? b = some { ob with slots := sl } := by
  by_cases hb : b ∈ fs
  · exact u.slot b ob q n hb hx
  · exact ⟨ob.slots, u.keep b ob q n hb hx⟩
theorem Un.trans (a : Un fs ex H H1 h h1) (b : Un fs ex H1 H2 h1 h2) : Un fs ex H H2 h h2 where
  keep := fun c ob q n hc hx => b.keep c ob (a.keep c ob q n hc hx) (a.free c ob q n hx) hc hx
  slot := fun c ob q n hc hx => by
    obtain ⟨sl, e1⟩ := a.slot c ob q n hc hx
    obtain ⟨sl', e2⟩ := b.slot c _ e1 (a.free c ob q n hx) hc hx
    exact ⟨sl', e2⟩
  free := fun c ob q n hx => by
    obtain ⟨o', e1⟩ := a.there c ob q hx
    exact b.free c o' e1 (a.free c ob q n hx) hx
  there := fun c ob q hx => by
    obtain ⟨o', e1⟩ := a.there c ob q hx
    exact b.there c o' e1 hx
  tups := fun c xs q => b.tups c xs (a.tups c xs q)
  frzs := fun c ob xs q => b.frzs c ob xs (a.frzs c ob xs q)
  tbls := fun c ps q => by
    obtain ⟨m1, e1⟩ := a.tbls c ps q
    obtain ⟨m2, e2⟩ := b.tbls c _ e1
    exact ⟨m1 ++ m2, by rw [e2, Array.append_assoc]⟩
theorem Un.kept (k : ∀ b u, h.get? b = some u → h'.get? b = some u) : Un fs ex H H h h' :=
  ⟨fun b ob q _ _ _ => k b ob q, fun b ob q _ _ _ => ⟨ob.slots, k b ob q⟩, fun _ _ _ n _ => n, fun b ob q _ => ⟨ob, k b ob q⟩, fun _ _ q => q, fun _ _ _ q => q, fun _ ps q => ⟨#[], by rw [q]; simp⟩⟩
theorem Un.refl : Un fs ex H H h h := Un.kept fun _ _ q => q
theorem Un.laid (k : ∀ b u, h.get? b = some u → h'.get? b = some u) (hp : h.objs.size ≤ a) (hn : H a = none) : Un fs ex H (upd H a o) h h' where
  keep := fun b u q _ _ _ => k b u q
  slot := fun b u q _ _ _ => ⟨u.slots, k b u q⟩
  free := fun b u q n _ => by rw [upd_ne (Nat.ne_of_lt (Nat.lt_of_lt_of_le (Heap.lt_size q) hp))]; exact n
  there := fun b u q _ => ⟨u, k b u q⟩
  tups := fun b xs q => by rw [upd_ne (ne_of_none q hn)]; exact q
  frzs := fun b u xs q => by rw [upd_ne (ne_of_none q hn)]; exact q
  tbls := fun b ps q => ⟨#[], by rw [upd_ne (ne_of_none q hn), q]; simp⟩
theorem Un.write (mu : Mut (H x)) (he : e = x ∨ H e = some (.own x)) (k : ∀ b u, b ≠ e → h.get? b = some u → h'.get? b = some u) (heo : ∃ u, h'.get? e = some u) : Un fs ex H (upd H x o) h h' := by
  have hx : ∀ b, H b = none → b ≠ x := fun b n z => by subst z; rw [n] at mu; exact mu
  have hb : ∀ b, H b = none → b ≠ e := fun b n z => by
    subst z
    rcases he with r | r
    · exact hx b n r
    · rw [n] at r; cases r
  have hm : ∀ b u, H b = some u → ¬ Mut (some u) → b ≠ x := fun b u q nm z => by subst z; rw [q] at mu; exact nm mu
  refine ⟨fun b u q n _ _ => k b u (hb b n) q, fun b u q n _ _ => ⟨u.slots, k b u (hb b n) q⟩, fun b u q n _ => by rw [upd_ne (hx b n)]; exact n, fun b u q _ => ?_,
    fun b xs q => by rw [upd_ne (hm b _ q fun z => z)]; exact q, fun b u xs q => by rw [upd_ne (hm b _ q fun z => z)]; exact q, fun b ps q => ⟨#[], by rw [upd_ne (hm b _ q fun z => z), q]; simp⟩⟩
  by_cases hbe : b = e
  · subst hbe; exact heo
  · exact ⟨u, k b u hbe q⟩
theorem Un.mono (u : Un fs ex H H1 h h1) (hs : ∀ b ∈ fs, b ∈ fs') (hx : ∀ b ∈ ex, b ∈ ex') : Un fs' ex' H H1 h h1 :=
  ⟨fun b ob q n hb he => u.keep b ob q n (fun z => hb (hs b z)) fun z => he (hx b z), fun _ _ q n _ he => u.any q n fun z => he (hx _ z), fun b ob q n he => u.free b ob q n fun z => he (hx b z), fun b ob q he => u.there b ob q fun z => he (hx b z), u.tups, u.frzs, u.tbls⟩
end
def trk (h : Heap) (H : Hp) : List Addr := (List.range h.objs.size).filter fun a => (H a).isSome
def hidT (h : Heap) (H : Hp) : Heap := PySem.W.hideAll h (trk h H)
theorem hidT_size (h : Heap) (H : Hp) : (hidT h H).objs.size = h.objs.size := PySem.W.hideAll_size _ _
theorem hidT_get {h : Heap} {H : Hp} {b : Addr} {o : Obj} (e : h.get? b = some o) (n : H b = none) : (hidT h H).get? b = some o :=
  PySem.W.hideAll_get _ e fun hm => by
    have q : (H b).isSome = true := (List.mem_filter.mp hm).2
    rw [n] at q; simp at q
theorem of_hidT {h : Heap} {H : Hp} {b : Addr} {o : Obj} (e : (hidT h H).get? b = some o) : h.get? b = some o ∧ H b = none := by
  have e' : h.get? b = some o := PySem.W.of_hideAll (trk h H) e
  refine ⟨e', ?_⟩
  cases q : H b with
  | none => rfl
  | some x =>
    have hm : b ∈ trk h H := List.mem_filter.mpr ⟨List.mem_range.mpr (Heap.lt_size e'), by simp [q]⟩
    have z : (hidT h H).get? b = none := PySem.W.hideAll_none (trk h H) hm
    rw [z] at e; cases e
def allNews (g h : Heap) (L : Addr) : List (Addr × Obj) := (List.range h.objs.size).filterMap fun a => if a = L ∨ (g.get? a).isSome = true then none else (h.get? a).map fun o => (a, o)
def rest (g h : Heap) (L d : Addr) : List (Addr × Obj) := (allNews g h L).filter fun p => decide (p.1 ≠ d)
end L2
namespace L2
open PySem PySem.Spec PyProof.Rows
structure Mod (K : PySem.W.Frag) (mg : Str → Option Value) (base : Heap) : Prop where
  kin : K.In base
  glob : base.Ns mainGlobals mg
  blt : ∃ mb, base.Ns builtinsNs mb ∧ ∀ x : Str, x ≠ "__name__" → mb x = bootBuiltins x
  nolimit : base.NoLimit
structure Cx where
  prog : Program
  w : World
  K : PySem.W.Frag
  mg : Str → Option Value
  base : Heap
  A : Around
  N : List Str
  s₀ : Shared
  H₀ : Hp
  env : Env
  outer : List Env
  stack : List Env
  ex : List Addr
  fn : Str → Bool
  calm : Bool
  pn : List (Addr × Obj)
  xe : Value → Shared → Prop
def frs (l : List Env) : List Addr := l.filterMap (·.frame)
abbrev Cx.fs (X : Cx) : List Addr := frs X.outer
def Vis (sc : Scope) (x : Str) : Prop := sc.names.lookup x = some .local ∨ sc.names.lookup x = some .cell ∨ sc.names.lookup x = some .free
def Loc (sc : Scope) (x : Str) : Prop := sc.names.lookup x = some .local ∨ sc.names.lookup x = some .cell
def Look (env : Env) (h : Heap) (m : Str → Option Value) (x : Str) (u : Value) : Prop :=
  (env.kindOf x = some .local ∧ m x = some u) ∨ ((env.kindOf x = some .cell ∨ env.kindOf x = some .free) ∧ ∃ c, env.cells.lookup x = some c ∧ h.IsCell c (some u))
structure Cx.Ok (X : Cx) : Prop where
  mod : Mod X.K X.mg X.base
  kind : X.env.scope.kind = .function
  glob : X.env.globals = mainGlobals
  blt : X.env.builtins = builtinsNs
  above : X.s₀.heap.objs.size ≤ X.env.locals
  inj : ∀ x y c, X.env.cells.lookup x = some c → X.env.cells.lookup y = some c → x = y
  has : ∀ x, (X.env.kindOf x = some .cell ∨ X.env.kindOf x = some .free) → ∃ c, X.env.cells.lookup x = some c
  cab : ∀ x c, X.fn x = true → X.env.cells.lookup x = some c → X.s₀.heap.objs.size ≤ c
  hd : X.calm = true → X.A.handled = none
  frames : X.A.frames = some X.stack
  stk : X.stack = X.outer ∨ (X.stack = X.env :: X.outer ∧ X.env.frame = some X.env.locals)
  exf : ∀ b ∈ X.ex, b ≠ X.env.locals ∧ ∀ x c, X.env.cells.lookup x = some c → c ≠ b
  bs : ∀ b o, X.base.get? b = some o → X.s₀.heap.get? b = some o ∧ X.H₀ b = none
  bsz : X.base.objs.size ≤ X.s₀.heap.objs.size
  noex : ∀ b o, X.base.get? b = some o → b ∉ X.ex
  exfs : ∀ b ∈ X.ex, b ∉ X.fs
  funs : X.s₀.heap.FunFrames X.base X.outer
  frf : ∀ b ∈ X.fs, X.H₀ b = none
structure Inv (X : Cx) (pins : List (Addr × Obj)) (σ : List (Option V)) (H : Hp) (s : Shared) : Prop where
  ok : X.Ok
  os : s.os = X.s₀.os
  bare : AllBare s.gens
  base : Un X.fs X.ex X.H₀ H X.s₀.heap s.heap
  loc : ∃ m, s.heap.Ns X.env.locals m ∧ ∀ (i : Nat) (x : Str) (v : V), X.N[i]? = some x → σ[i]? = some (some v) → Vis X.env.scope x → ∃ u, RelV v u ∧ Look X.env s.heap m x u
  cell : ∀ x c, X.env.cells.lookup x = some c → ∃ v, s.heap.IsCell c v
  free : H X.env.locals = none
  freeC : ∀ x c, X.env.cells.lookup x = some c → H c = none
  pin : ∀ p ∈ X.pn ++ pins, s.heap.get? p.1 = some p.2 ∧ H p.1 = none ∧ p.1 ≠ X.env.locals ∧ p.1 ∉ X.fs ∧ ∀ v, p.2.data ≠ .cell v
  hok : HOk X.prog X.w H s.heap
  len : σ.length = X.N.length
section
variable {X : Cx} {pins : List (Addr × Obj)} {σ : List (Option V)} {H H' : Hp} {s : Shared} {h' : Heap}
theorem Cx.Ok.nofr (ok : X.Ok) {b : Addr} {o : Obj} (e : X.base.get? b = some o) : b ∉ X.fs := fun hb => by
  have := (ok.funs.mem hb).1
  rw [e] at this; cases this
theorem Inv.bs (I : Inv X pins σ H s) : ∀ b o, X.base.get? b = some o → s.heap.get? b = some o ∧ H b = none := fun b o e =>
  ⟨I.base.keep b o (I.ok.bs b o e).1 (I.ok.bs b o e).2 (I.ok.nofr e) (I.ok.noex b o e), I.base.free b o (I.ok.bs b o e).1 (I.ok.bs b o e).2 (I.ok.noex b o e)⟩
theorem Inv.bk (I : Inv X pins σ H s) : ∀ b o, X.base.get? b = some o → s.heap.get? b = some o := fun b o e => (I.bs b o e).1
theorem Inv.mod (I : Inv X pins σ H s) : Mod X.K X.mg X.base := I.ok.mod
theorem Inv.kIn (I : Inv X pins σ H s) : X.K.In s.heap := I.ok.mod.kin.keeps I.bk
theorem Inv.nolimit (I : Inv X pins σ H s) : s.heap.NoLimit := I.ok.mod.nolimit.keeps I.bk
theorem Inv.fr (I : Inv X pins σ H s) : ∃ m, Fr X.base X.env.locals s.heap m :=
  let ⟨m, hn, _⟩ := I.loc
  ⟨m, hn, I.bk, Nat.le_trans I.ok.bsz I.ok.above⟩
theorem Inv.lt (I : Inv X pins σ H s) : X.env.locals < s.heap.objs.size := let ⟨_, hn, _⟩ := I.loc; hn.lt
theorem Inv.sz (I : Inv X pins σ H s) : X.s₀.heap.objs.size ≤ s.heap.objs.size := Nat.le_trans I.ok.above (Nat.le_of_lt I.lt)
theorem Inv.nofs (I : Inv X pins σ H s) {a : Addr} (h : s.heap.objs.size ≤ a) : a ∉ X.fs := fun hb => by
  obtain ⟨_, o, ho, _⟩ := I.ok.funs.mem hb
  exact absurd (Nat.lt_of_lt_of_le (Heap.lt_size ho) (Nat.le_trans I.sz h)) (Nat.lt_irrefl _)
theorem Inv.cne (I : Inv X pins σ H s) : ∀ x c, X.env.cells.lookup x = some c → c ≠ X.env.locals := fun x c e z => by
  obtain ⟨v, o, ho, hd⟩ := I.cell x c e
  obtain ⟨m, ⟨o', es, ep, ho', hd', _⟩, _⟩ := I.loc
  rw [z, ho'] at ho; cases ho; rw [hd'] at hd; cases hd
theorem Inv.funs (I : Inv X pins σ H s) : s.heap.FunFrames X.base X.outer := by
  have all : ∀ (l : List Env), (∀ b ∈ frs l, b ∈ X.fs) → X.s₀.heap.FunFrames X.base l → s.heap.FunFrames X.base l := by
    intro l
    induction l with
    | nil => intro _ _; trivial
    | cons env r ih =>
      intro hs hl
      obtain ⟨hk, ⟨L, o, hf, hn, ho, hd⟩, hr⟩ := hl
      have hL : L ∈ X.fs := hs L (by unfold frs; rw [List.filterMap_cons, hf]; exact List.mem_cons_self)
      obtain ⟨sl, e⟩ := I.base.slot L o ho (I.ok.frf L hL) hL fun z => I.ok.exfs L z hL
      exact ⟨hk, ⟨L, _, hf, hn, e, hd⟩, ih (fun b hb => hs b (by unfold frs; rw [List.filterMap_cons, hf]; exact List.mem_cons_of_mem _ hb)) hr⟩
  exact all X.outer (fun _ hb => hb) I.ok.funs
theorem Inv.stack (I : Inv X pins σ H s) : s.heap.FunFrames X.base X.stack := by
  rcases I.ok.stk with e | ⟨e, hf⟩
  · rw [e]; exact I.funs
  · rw [e]
    obtain ⟨m, hn, _⟩ := I.loc
    refine .cons (by rw [I.ok.kind]; decide) hf hn ?_ I.funs
    exact Heap.get?_none_of_le (Nat.le_trans I.ok.bsz I.ok.above)
theorem Inv.stkSub (I : Inv X pins σ H s) : ∀ b ∈ frs X.stack, b ∈ X.env.locals :: X.fs := fun b hb => by
  rcases I.ok.stk with e | ⟨e, hf⟩
  · rw [e] at hb; exact List.mem_cons_of_mem _ hb
  · rw [e] at hb
    unfold frs at hb
    rw [List.filterMap_cons, hf] at hb
    exact hb
theorem Inv.stkFree (I : Inv X pins σ H s) : ∀ b ∈ frs X.stack, H b = none := fun b hb => by
  rcases List.mem_cons.mp (I.stkSub b hb) with e | hb
  · rw [e]; exact I.free
  · obtain ⟨_, o, ho, _⟩ := I.ok.funs.mem hb
    exact I.base.free b o ho (I.ok.frf b hb) fun z => I.ok.exfs b z hb
theorem Inv.step {g' : Array GenState} {t' : Nat} {d' : Drawn} {ch : List Addr} (I : Inv X pins σ H s)
    (hch : ∀ b ∈ ch, (b ∈ X.ex ∨ X.s₀.heap.objs.size ≤ b) ∧ b ≠ X.env.locals ∧ (∀ x c, X.env.cells.lookup x = some c → c ≠ b) ∧ ∀ p ∈ X.pn ++ pins, p.1 ≠ b)
    (keep : ∀ b o, b ≠ X.env.locals → b ∉ X.fs → b ∉ ch → s.heap.get? b = some o → H b = none → h'.get? b = some o)
    (slot : ∀ b o, b ≠ X.env.locals → b ∈ X.fs → b ∉ ch → s.heap.get? b = some o → H b = none → ∃ sl, h'.get? b = some { o with slots := sl }) (free : ∀ b o, b ∉ ch → s.heap.get? b = some o → H b = none → H' b = none)
    (there : ∀ b o, b ∉ ch → s.heap.get? b = some o → ∃ o', h'.get? b = some o')
    (tups : ∀ b xs, H b = some (.tup xs) → H' b = some (.tup xs)) (frzs : ∀ b o u, H b = some (.frz o u) → H' b = some (.frz o u)) (tbls : ∀ b ps, H b = some (.tbl ps) → ∃ more, H' b = some (.tbl (ps ++ more)))
    (ns : ∀ m, s.heap.Ns X.env.locals m → h'.Ns X.env.locals m) (hok : HOk X.prog X.w H' h') (hg : AllBare g') :
    Inv X pins σ H' { s with heap := h', gens := g', drawn := d', toks := t' } := by
  have neL : ∀ b o, X.s₀.heap.get? b = some o → b ≠ X.env.locals := fun b o e => Nat.ne_of_lt (Nat.lt_of_lt_of_le (Heap.lt_size e) I.ok.above)
  have neC : ∀ b o, X.s₀.heap.get? b = some o → b ∉ X.ex → b ∉ ch := fun b o e hx hb => by
    rcases (hch b hb).1 with z | z
    · exact hx z
    · exact absurd (Nat.lt_of_lt_of_le (Heap.lt_size e) z) (Nat.lt_irrefl _)
  have cellK : ∀ x c, X.env.cells.lookup x = some c → ∀ v, s.heap.IsCell c v → h'.IsCell c v := fun x c e v ⟨o, ho, hd⟩ => by
    have nch : c ∉ ch := fun z => (hch c z).2.2.1 x c e rfl
    by_cases hc : c ∈ X.fs
    · obtain ⟨sl, q⟩ := slot c o (I.cne x c e) hc nch ho (I.freeC x c e)
      exact ⟨_, q, hd⟩
    · exact ⟨o, keep c o (I.cne x c e) hc nch ho (I.freeC x c e), hd⟩
  refine ⟨I.ok, I.os, hg, ⟨fun b o e n hb hx => ?_, fun b o e n hb hx => ?_, fun b o e n hx => ?_, fun b o e hx => ?_, fun b xs e => tups b xs (I.base.tups b xs e), fun b o xs e => frzs b o xs (I.base.frzs b o xs e), fun b ps e => ?_⟩, ?_, fun x c e => ?_, ?_, fun x c e => ?_, fun p hp => ?_, hok, I.len⟩
  · exact keep b o (neL b o e) hb (neC b o e hx) (I.base.keep b o e n hb hx) (I.base.free b o e n hx)
  · obtain ⟨sl, e1⟩ := I.base.slot b o e n hb hx
    obtain ⟨sl', e2⟩ := slot b _ (neL b o e) hb (neC b o e hx) e1 (I.base.free b o e n hx)
    exact ⟨sl', e2⟩
  · obtain ⟨o', e1⟩ := I.base.there b o e hx
    exact free b o' (neC b o e hx) e1 (I.base.free b o e n hx)
  · obtain ⟨o', e1⟩ := I.base.there b o e hx
    exact there b o' (neC b o e hx) e1
  · obtain ⟨m1, e1⟩ := I.base.tbls b ps e
    obtain ⟨m2, e2⟩ := tbls b _ e1
    exact ⟨m1 ++ m2, by rw [e2, Array.append_assoc]⟩
  · obtain ⟨m, hn, hl⟩ := I.loc
    refine ⟨m, ns m hn, fun i x v e1 e2 e3 => ?_⟩
    obtain ⟨u, r, l⟩ := hl i x v e1 e2 e3
    refine ⟨u, r, ?_⟩
    rcases l with l | ⟨k, c, e, z⟩
    · exact .inl l
    · exact .inr ⟨k, c, e, cellK x c e _ z⟩
  · obtain ⟨v, z⟩ := I.cell x c e
    exact ⟨v, cellK x c e v z⟩
  · obtain ⟨m, ⟨o, _, _, ho, _⟩, _⟩ := I.loc
    exact free _ o (fun z => (hch _ z).2.1 rfl) ho I.free
  · obtain ⟨v, o, ho, hd⟩ := I.cell x c e
    exact free c o (fun z => (hch c z).2.2.1 x c e rfl) ho (I.freeC x c e)
  · obtain ⟨e, n, ne, nf, d⟩ := I.pin p hp
    have nch : p.1 ∉ ch := fun z => (hch p.1 z).2.2.2 p hp rfl
    exact ⟨keep p.1 p.2 ne nf nch e n, free p.1 p.2 nch e n, ne, nf, d⟩
theorem Inv.un {t' : Nat} (I : Inv X pins σ H s) (u : Un X.fs [] H H' s.heap h') (hok : HOk X.prog X.w H' h') : Inv X pins σ H' { s with heap := h', toks := t' } := by
  obtain ⟨m, ⟨o, es, ep, ho, r⟩, _⟩ := id I.loc
  obtain ⟨sl, hL⟩ := u.any ho I.free (by simp)
  exact I.step (g' := s.gens) (d' := s.drawn) (ch := []) (fun _ z => nomatch z) (fun b o _ hb _ e n => u.keep b o e n hb (by simp)) (fun b o _ hb _ e n => u.slot b o e n hb (by simp)) (fun b o _ e n => u.free b o e n (by simp)) (fun b o _ e => u.there b o e (by simp)) u.tups u.frzs u.tbls (fun m' hm => by
    obtain ⟨o', es', ep', ho', r'⟩ := hm
    rw [ho] at ho'; cases ho'
    exact ⟨_, es', ep', hL, r'⟩) hok I.bare
theorem Inv.call {g' : Array GenState} {t' : Nat} {d' : Drawn} {ch : List Addr} (I : Inv X pins σ H s) (u : Un (frs X.stack) ch H H' s.heap h') (hok : HOk X.prog X.w H' h') (hg : AllBare g')
    (hch : ∀ b ∈ ch, (b ∈ X.ex ∨ X.s₀.heap.objs.size ≤ b) ∧ b ≠ X.env.locals ∧ (∀ x c, X.env.cells.lookup x = some c → c ≠ b) ∧ ∀ p ∈ X.pn ++ pins, p.1 ≠ b) :
    Inv X pins σ H' { s with heap := h', gens := g', drawn := d', toks := t' } := by
  obtain ⟨m, ⟨o, es, ep, ho, r⟩, _⟩ := id I.loc
  obtain ⟨sl, hL⟩ := u.any ho I.free fun z => (hch _ z).2.1 rfl
  exact I.step (ch := ch) hch (fun b o hL hb hc e n => u.keep b o e n (fun z => (List.mem_cons.mp (I.stkSub b z)).elim hL hb) hc) (fun b o _ _ hc e n => u.any e n hc) (fun b o hc e n => u.free b o e n hc) (fun b o hc e => u.there b o e hc) u.tups u.frzs u.tbls (fun m' hm => by
    obtain ⟨o', es', ep', ho', r'⟩ := hm
    rw [ho] at ho'; cases ho'
    exact ⟨_, es', ep', hL, r'⟩) hok hg
theorem Inv.turned {t' : Nat} {it : Addr} (I : Inv X pins σ H s) (k : ∀ b o, b ≠ it → s.heap.get? b = some o → h'.get? b = some o) (hn : H it = none) (hL : it ≠ X.env.locals)
    (h1 : it ∈ X.ex ∨ X.s₀.heap.objs.size ≤ it) (h2 : ∀ x c, X.env.cells.lookup x = some c → c ≠ it) (h3 : ∀ p ∈ X.pn ++ pins, p.1 ≠ it) : Inv X pins σ H { s with heap := h', toks := t' } := by
  have nit : ∀ b u, H b = some u → b ≠ it := fun b u e z => by rw [z, hn] at e; cases e
  refine I.step (g' := s.gens) (d' := s.drawn) (ch := [it]) (fun b hb => ?_) (fun b o _ _ hc e _ => k b o (fun z => hc (by simp [z])) e) (fun b o _ _ hc e _ => ⟨o.slots, k b o (fun z => hc (by simp [z])) e⟩) (fun _ _ _ _ n => n)
    (fun b o hc e => ⟨o, k b o (fun z => hc (by simp [z])) e⟩) (fun _ _ e => e) (fun _ _ _ e => e) (fun b ps e => ⟨#[], by rw [e]; simp⟩) (fun m hm => ?_) (fun b u e => ?_) I.bare
  · have e : b = it := by simpa using hb
    subst e
    exact ⟨h1, hL, h2, h3⟩
  · obtain ⟨o, es, ep, ho, r⟩ := hm
    exact ⟨o, es, ep, k _ o (Ne.symm hL) ho, r⟩
  · refine (I.hok b u e).stay (fun c v hc q => k c v ?_ q) (fun _ q => q) fun _ _ q => q
    rcases hc with z | z
    · rw [z]; exact nit b u e
    · exact nit c _ z
theorem Inv.tok (I : Inv X pins σ H s) (t : Nat) : Inv X pins σ H { s with toks := t } := I.un (h' := s.heap) (t' := t) Un.refl I.hok
theorem Inv.kept {t' : Nat} (I : Inv X pins σ H s) (k : ∀ b u, s.heap.get? b = some u → h'.get? b = some u) : Inv X pins σ H { s with heap := h', toks := t' } := I.un (Un.kept k) (I.hok.kept k)
theorem Inv.laid {a : Addr} {o : HO} {t' : Nat} (I : Inv X pins σ H s) (k : ∀ b u, s.heap.get? b = some u → h'.get? b = some u) (hp : s.heap.objs.size ≤ a) (new : ObjOk X.prog X.w (upd H a o) h' a o) :
    Inv X pins σ (upd H a o) { s with heap := h', toks := t' } := I.un (Un.laid k hp (I.hok.fresh hp)) (I.hok.laid k hp new)
theorem Inv.write {x e : Addr} {o : HO} {t' : Nat} (I : Inv X pins σ H s) (mu : Mut (H x)) (he : e = x ∨ H e = some (.own x)) (k : ∀ b u, b ≠ e → s.heap.get? b = some u → h'.get? b = some u) (heo : ∃ u, h'.get? e = some u)
    (new : ObjOk X.prog X.w (upd H x o) h' x o) : Inv X pins σ (upd H x o) { s with heap := h', toks := t' } := I.un (Un.write mu he k heo) (I.hok.write mu he k heo new)
theorem Inv.pins_of {pins' : List (Addr × Obj)} (I : Inv X pins σ H s) (h : ∀ p ∈ pins', s.heap.get? p.1 = some p.2 ∧ H p.1 = none ∧ p.1 ≠ X.env.locals ∧ p.1 ∉ X.fs ∧ ∀ v, p.2.data ≠ .cell v) : Inv X pins' σ H s :=
  ⟨I.ok, I.os, I.bare, I.base, I.loc, I.cell, I.free, I.freeC, fun p hp => (List.mem_append.mp hp).elim (fun z => I.pin p (List.mem_append_left _ z)) (h p), I.hok, I.len⟩
theorem nodup_ix {N : List Str} (hN : N.Nodup) {i j : Nat} {x : Str} (a : N[i]? = some x) (b : N[j]? = some x) : i = j := by
  obtain ⟨h1, e1⟩ := List.getElem?_eq_some_iff.mp a
  obtain ⟨h2, e2⟩ := List.getElem?_eq_some_iff.mp b
  exact (List.getElem_inj hN).mp (e1.trans e2.symm)
theorem store_ok2 {M : Model} {A : Around} {E : Value → Shared → Prop} {i : Nat} {x : Str} {v : V} {u : Value} {Q : Unit → Shared → Prop} (I : Inv X pins σ H s) (hN : X.N.Nodup) (hi : X.N[i]? = some x) (hx : Loc X.env.scope x) (r : RelV v u)
    (h : ∀ s', Inv X pins (σ.set i (some v)) H s' → (∃ a, Heap.SameBut a s.heap s'.heap ∧ (a = X.env.locals ∨ X.env.cells.lookup x = some a)) → Q () s') (hf : X.fn x = true ∨ X.env.scope.names.lookup x = some .local := by first | exact .inl rfl | exact .inr rfl | assumption) : wpAny M A (storeName X.env x u) Q E s := by
  obtain ⟨m, hn, hl⟩ := id I.loc
  have hcls : (X.env.scope.kind == .class || (X.env.scope.kind == .module && X.env.locals != X.env.globals)) = false := by rw [I.ok.kind]; rfl
  have hiσ : i < σ.length := by rw [I.len]; exact (List.getElem?_eq_some_iff.mp hi).1
  have cne := I.cne
  have tracked : ∀ {a : Addr} {h' : Heap}, (∃ o, s.heap.get? a = some o ∧ H a = none) → Heap.SameBut a s.heap h' → HOk X.prog X.w H h' := fun {a h'} ha hs b ob e => by
    obtain ⟨_, _, hfree⟩ := ha
    refine (I.hok b ob e).stay (fun c w' hc q => (hs.2 c ?_).trans q) (fun _ q => q) fun _ _ q => q
    rintro rfl
    rcases hc with rfl | hc
    · rw [hfree] at e; cases e
    · rw [hfree] at hc; cases hc
  rcases hx with hk | hk
  · refine wpAny_storeName_local hk hn (fun h' hn' hs => ?_) hcls
    obtain ⟨oL, _, _, hoL, _⟩ := id hn
    refine h _ ⟨I.ok, I.os, I.bare, ⟨fun b o e n hb hx => ?_, fun b o e n hb hx => ?_, I.base.free, fun b o e hx => ?_, I.base.tups, I.base.frzs, I.base.tbls⟩, ⟨_, hn', fun j y v' e1 e2 e3 => ?_⟩, fun y c e => ?_, I.free, I.freeC, fun p hp => ?_, tracked ⟨oL, hoL, I.free⟩ hs, by simpa using I.len⟩ ⟨_, hs, .inl rfl⟩
    · exact (hs.2 b (Nat.ne_of_lt (Nat.lt_of_lt_of_le (Heap.lt_size e) I.ok.above))).trans (I.base.keep b o e n hb hx)
    · obtain ⟨sl, e1⟩ := I.base.slot b o e n hb hx
      exact ⟨sl, (hs.2 b (Nat.ne_of_lt (Nat.lt_of_lt_of_le (Heap.lt_size e) I.ok.above))).trans e1⟩
    · obtain ⟨o', e1⟩ := I.base.there b o e hx
      exact ⟨o', (hs.2 b (Nat.ne_of_lt (Nat.lt_of_lt_of_le (Heap.lt_size e) I.ok.above))).trans e1⟩
    · by_cases hj : j = i
      · subst hj
        rw [hi] at e1; cases e1
        rw [List.getElem?_set_self hiσ] at e2
        cases e2
        exact ⟨u, r, .inl ⟨hk, by simp⟩⟩
      · rw [List.getElem?_set_ne (Ne.symm hj)] at e2
        obtain ⟨u', r', q⟩ := hl j y v' e1 e2 e3
        refine ⟨u', r', ?_⟩
        rcases q with ⟨k, e⟩ | ⟨k, c, e, z⟩
        · refine .inl ⟨k, ?_⟩
          have : y ≠ x := fun e => hj (nodup_ix hN e1 (e ▸ hi))
          simp [this, e]
        · exact .inr ⟨k, c, e, z.sameBut hs (cne y c e)⟩
    · obtain ⟨w', z⟩ := I.cell y c e
      exact ⟨w', z.sameBut hs (cne y c e)⟩
    · obtain ⟨e, n, ne, nf, d⟩ := I.pin p hp
      exact ⟨(hs.2 p.1 ne).trans e, n, ne, nf, d⟩
  · have hfn : X.fn x = true := by
      rcases hf with z | z
      · exact z
      · rw [z] at hk; cases hk
    obtain ⟨c, hc⟩ := I.ok.has x (.inl hk)
    obtain ⟨w', z⟩ := I.cell x c hc
    refine wpAny_storeName_cell I.ok.kind hk hc z (fun h' hc' hs => ?_)
    obtain ⟨oc, hoc, hocd⟩ := id z
    refine h { s with heap := h' } ⟨I.ok, I.os, I.bare, ⟨fun b o e n hb hx => ?_, fun b o e n hb hx => ?_, I.base.free, fun b o e hx => ?_, I.base.tups, I.base.frzs, I.base.tbls⟩, ⟨m, hn.sameBut hs (Ne.symm (cne x c hc)), fun j y v' e1 e2 e3 => ?_⟩, fun y c' e => ?_, I.free, I.freeC, fun p hp => ?_, tracked ⟨oc, hoc, I.freeC x c hc⟩ hs, by simpa using I.len⟩ ⟨c, hs, .inr hc⟩
    · exact (hs.2 b (Nat.ne_of_lt (Nat.lt_of_lt_of_le (Heap.lt_size e) (I.ok.cab x c hfn hc)))).trans (I.base.keep b o e n hb hx)
    · obtain ⟨sl, e1⟩ := I.base.slot b o e n hb hx
      exact ⟨sl, (hs.2 b (Nat.ne_of_lt (Nat.lt_of_lt_of_le (Heap.lt_size e) (I.ok.cab x c hfn hc)))).trans e1⟩
    · obtain ⟨o', e1⟩ := I.base.there b o e hx
      exact ⟨o', (hs.2 b (Nat.ne_of_lt (Nat.lt_of_lt_of_le (Heap.lt_size e) (I.ok.cab x c hfn hc)))).trans e1⟩
    · by_cases hj : j = i
      · subst hj
        rw [hi] at e1; cases e1
        rw [List.getElem?_set_self hiσ] at e2
        cases e2
        exact ⟨u, r, .inr ⟨.inl hk, c, hc, hc'⟩⟩
      · rw [List.getElem?_set_ne (Ne.symm hj)] at e2
        obtain ⟨u', r', q⟩ := hl j y v' e1 e2 e3
        refine ⟨u', r', ?_⟩
        rcases q with q | ⟨k, c', e, z'⟩
        · exact .inl q
        · refine .inr ⟨k, c', e, z'.sameBut hs ?_⟩
          rintro rfl
          exact hj (nodup_ix hN e1 (I.ok.inj _ _ _ e hc ▸ hi))
    · by_cases hcc : c' = c
      · subst hcc; exact ⟨_, hc'⟩
      · obtain ⟨w2, z2⟩ := I.cell y c' e
        exact ⟨w2, z2.sameBut hs hcc⟩
    · obtain ⟨e, n, ne, nf, d⟩ := I.pin p hp
      refine ⟨(hs.2 p.1 ?_).trans e, n, ne, nf, d⟩
      intro q
      rw [q, hoc] at e
      have q' : oc = p.2 := Option.some.inj e
      exact d w' (by rw [← q']; exact hocd)
theorem store_ok {M : Model} {A : Around} {E : Value → Shared → Prop} {i : Nat} {x : Str} {v : V} {u : Value} {Q : Unit → Shared → Prop} (I : Inv X pins σ H s) (hN : X.N.Nodup) (hi : X.N[i]? = some x) (hx : Loc X.env.scope x) (r : RelV v u)
    (h : ∀ s', Inv X pins (σ.set i (some v)) H s' → Q () s') (hf : X.fn x = true ∨ X.env.scope.names.lookup x = some .local := by first | exact .inl rfl | exact .inr rfl | assumption) : wpAny M A (storeName X.env x u) Q E s :=
  store_ok2 I hN hi hx r (fun s' I' _ => h s' I') hf
theorem Inv.call' {s' : Shared} {ch : List Addr} (I : Inv X pins σ H s) (ho : s'.os = s.os) (u : Un (frs X.stack) ch H H' s.heap s'.heap) (hok : HOk X.prog X.w H' s'.heap) (hg : AllBare s'.gens)
    (hch : ∀ b ∈ ch, (b ∈ X.ex ∨ X.s₀.heap.objs.size ≤ b) ∧ b ≠ X.env.locals ∧ (∀ x c, X.env.cells.lookup x = some c → c ≠ b) ∧ ∀ p ∈ X.pn ++ pins, p.1 ≠ b) : Inv X pins σ H' s' := by
  obtain ⟨h', g', d', t', o'⟩ := s'
  have e : o' = s.os := ho
  subst e
  exact I.call (g' := g') (t' := t') (d' := d') u hok hg hch
end
abbrev XK := Value → Option Addr → Hp → Prop
abbrev St := List (Option V)
abbrev VK := V → Hp → Prop
abbrev TE := St → Hp → VK → Prop
abbrev TT := St → Hp → (Bool → Hp → Prop) → Prop
abbrev TA := St → Hp → (List V → Hp → Prop) → Prop
structure Ends where
  nx : St → Hp → Prop
  rt : VK
  bk : St → Hp → Prop := fun _ _ => False
  ct : St → Hp → Prop := fun _ _ => False
abbrev TS := Ends → St → Hp → Prop
def EP (X : Cx) (pins : List (Addr × Obj)) (σ : St) (Q : VK) (u : Value) (s' : Shared) : Prop := ∃ v H', Inv X pins σ H' s' ∧ RelV v u ∧ Q v H'
def TP (X : Cx) (pins : List (Addr × Obj)) (σ : St) (Q : Bool → Hp → Prop) (b : Bool) (s' : Shared) : Prop := ∃ H', Inv X pins σ H' s' ∧ Q b H'
def AP (X : Cx) (pins : List (Addr × Obj)) (σ : St) (Q : List V → Hp → Prop) (us : List Value) (s' : Shared) : Prop := ∃ vs H', Inv X pins σ H' s' ∧ Vals vs us ∧ Q vs H'
def SP (X : Cx) (pins : List (Addr × Obj)) (D : Ends) (f : Flow) (s' : Shared) : Prop :=
  match f with
  | .next => ∃ σ' H', Inv X pins σ' H' s' ∧ D.nx σ' H'
  | .brk => ∃ σ' H', Inv X pins σ' H' s' ∧ D.bk σ' H'
  | .cont => ∃ σ' H', Inv X pins σ' H' s' ∧ D.ct σ' H'
  | .ret u => ∃ v σ' H', Inv X pins σ' H' s' ∧ RelV v u ∧ D.rt v H'
def PE (X : Cx) (e : Expr) (t : TE) : Prop :=
  ∀ (pins : List (Addr × Obj)) (s : Shared) (σ : St) (H : Hp) (Q : VK), Inv X pins σ H s → t σ H Q → wpAny (model X.prog X.w) X.A (eval e X.env) (EP X pins σ Q) X.xe s
def PT (X : Cx) (e : Expr) (t : TT) : Prop :=
  ∀ (pins : List (Addr × Obj)) (s : Shared) (σ : St) (H : Hp) (Q : Bool → Hp → Prop), Inv X pins σ H s → t σ H Q → wpAny (model X.prog X.w) X.A (isTrue e X.env (eval e X.env)) (TP X pins σ Q) X.xe s
def PW (X : Cx) (e : Expr) (t : TT) : Prop :=
  ∀ (whole : Sem Value) (pins : List (Addr × Obj)) (s : Shared) (σ : St) (H : Hp) (Q : Bool → Hp → Prop), Inv X pins σ H s → t σ H Q → wpAny (model X.prog X.w) X.A (isTrue e X.env whole) (TP X pins σ Q) X.xe s
theorem PW.pt {X : Cx} {e : Expr} {t : TT} (h : PW X e t) : PT X e t := h _
def PA (X : Cx) (es : List Expr) (t : TA) : Prop :=
  ∀ (pos : Pos) (pins : List (Addr × Obj)) (s : Shared) (σ : St) (H : Hp) (Q : List V → Hp → Prop), Inv X pins σ H s → t σ H Q → wpAny (model X.prog X.w) X.A (spliced (backTo pos (starEach es X.env))) (AP X pins σ Q) X.xe s
def PS (X : Cx) (st : Stmt) (t : TS) : Prop :=
  ∀ (pins : List (Addr × Obj)) (s : Shared) (σ : St) (H : Hp) (D : Ends), Inv X pins σ H s → t D σ H → wpAny (model X.prog X.w) X.A (exec st X.env) (SP X pins D) X.xe s
def PSs (X : Cx) (st : List Stmt) (t : TS) : Prop :=
  ∀ (pins : List (Addr × Obj)) (s : Shared) (σ : St) (H : Hp) (D : Ends), Inv X pins σ H s → t D σ H → wpAny (model X.prog X.w) X.A (execs st X.env) (SP X pins D) X.xe s
theorem thn {α : Type} {t : Sem α} {Q Q' : α → Shared → Prop} {M : Model} {A : Around} {E : Value → Shared → Prop} {s : Shared} (h : wpAny M A t Q E s) (hQ : ∀ a s, Q a s → Q' a s) : wpAny M A t Q' E s := wpAny_mono h hQ fun _ _ x => x
end L2
namespace L2
open PySem PySem.Spec PyProof.Rows
section
variable {X : Cx}
def tVar (i : Nat) : TE := fun σ H Q => ∃ v, σ[i]? = some (some v) ∧ Q v H
def tC (v : V) : TE := fun _ H Q => Q v H
theorem pe_var {i : Nat} {x : Str} {pos : Pos} (hN : X.N[i]? = some x) (hv : Vis X.env.scope x) (hd : (x == ("__debug__" : Str)) = false := by decide) (hcd : (x == ("__classdict__" : Str)) = false := by decide) : PE X (.Name x pos) (tVar i) := by
  intro pins s σ H Q I h
  obtain ⟨v, e, h⟩ := h
  obtain ⟨m, hn, hl⟩ := I.loc
  obtain ⟨u, r, l⟩ := hl i x v hN e hv
  have fin : EP X pins σ Q u s := ⟨v, H, I, r, h⟩
  rcases l with ⟨hk, hm⟩ | ⟨hk, c, hc, hcell⟩
  · exact wpAny_Name (wpAny_loadName_local I.ok.kind hk hn hm fin) hd
  · rcases hk with hk | hk
    · exact wpAny_Name (wpAny_loadName_cell I.ok.kind hk hc hcell fin) hd
    · exact wpAny_Name (wpAny_loadName_free I.ok.kind hk hc hcell fin hcd) hd
theorem pe_int {i j pos} : PE X (.Constant (.int i) j pos) (tC (.int i)) := fun _ _ _ H _ I h => wpAny_Constant_int ⟨.int i, H, I.tok _, ⟨_, rfl⟩, h⟩
theorem pe_bl {b j pos} : PE X (.Constant (.bool b) j pos) (tC (.bl b)) := fun _ _ _ H _ I h => Constant_bool ⟨.bl b, H, I, rfl, h⟩
theorem pe_non {j pos} : PE X (.Constant .none j pos) (tC .non) := fun _ _ _ H _ I h => Constant_none ⟨.non, H, I, rfl, h⟩
theorem pe_str {x j pos} : PE X (.Constant (.str x) j pos) (tC (.str x)) := fun _ _ _ H _ I h => Calls.Constant_str ⟨.str x, H, I.tok _, ⟨_, rfl⟩, h⟩
def Gl (X : Cx) (x : Str) : Prop := X.env.kindOf x = some .globalImplicit
theorem ld_glob {E : Value → Shared → Prop} {pins : List (Addr × Obj)} {s : Shared} {σ : St} {H : Hp} {x : Str} {u : Value} {pos : Pos} {Q : Value → Shared → Prop} (I : Inv X pins σ H s) (hg : Gl X x) (hm : X.mg x = some u) (h : Q u s)
    (hd : (x == ("__debug__" : Str)) = false := by decide) : wpAny (model X.prog X.w) X.A (eval (.Name x pos) X.env) Q E s :=
  Calls.Name_function_global I.ok.kind hg (Calls.loadGlobal_global (by rw [I.ok.glob]; exact I.mod.glob.keeps I.bk) hm h) hd
theorem ld_blt {E : Value → Shared → Prop} {pins : List (Addr × Obj)} {s : Shared} {σ : St} {H : Hp} {x : Str} {u : Value} {pos : Pos} {Q : Value → Shared → Prop} (I : Inv X pins σ H s) (hg : Gl X x) (hm : X.mg x = none) (hv : bootBuiltins x = some u) (h : Q u s)
    (hn : x ≠ "__name__" := by decide) (hd : (x == ("__debug__" : Str)) = false := by decide) : wpAny (model X.prog X.w) X.A (eval (.Name x pos) X.env) Q E s := by
  obtain ⟨mb, h1, h2⟩ := I.mod.blt
  exact Calls.Name_function_global I.ok.kind hg (Calls.loadGlobal_builtin (by rw [I.ok.glob]; exact I.mod.glob.keeps I.bk) hm (by rw [I.ok.blt]; exact h1.keeps I.bk) ((h2 x hn).trans hv) h) hd
theorem pe_glob {x : Str} {v : V} {u : Value} {pos : Pos} (hg : Gl X x) (hm : X.mg x = some u) (r : RelV v u) (hd : (x == ("__debug__" : Str)) = false := by decide) : PE X (.Name x pos) (tC v) :=
  fun _ _ _ H _ I h => ld_glob I hg hm ⟨v, H, I, r, h⟩ hd
theorem pe_bltn {x : Str} {v : V} {u : Value} {pos : Pos} (hg : Gl X x) (hm : X.mg x = none) (hv : bootBuiltins x = some u) (r : RelV v u) (hn : x ≠ "__name__" := by decide) (hd : (x == ("__debug__" : Str)) = false := by decide) : PE X (.Name x pos) (tC v) :=
  fun _ _ _ H _ I h => ld_blt I hg hm hv ⟨v, H, I, r, h⟩ hn hd
variable {a b : Expr} {ta tb : TE} {pos : Pos}
def tB (t : TE) : TT := fun σ H Q => t σ H fun x H1 => ∃ c, x = .bl c ∧ Q c H1
theorem pt_val {e : Expr} {t : TE} (h : PE X e t) (he : ∀ whole, isTrue e X.env whole = (do let v ← whole; standAt e.pos; holding [v] (truthy v)) := by intro _; rfl) : PT X e (tB t) := by
  intro pins s σ H Q I hw
  refine isTrue_plain (thn (h pins s σ H _ I hw) fun v s1 ⟨x, H1, I1, r1, q1⟩ => ?_) (he _)
  obtain ⟨d, rfl, q⟩ := q1
  cases r1
  exact wpAny_truthy_bool ⟨H1, I1, q⟩
variable {tA tB' : TT} {rest : List Expr}
def tAnd (t u : TT) : TT := fun σ H Q => t σ H fun c H1 => if c = true then u σ H1 Q else Q false H1
def tOr (t u : TT) : TT := fun σ H Q => t σ H fun c H1 => if c = true then Q true H1 else u σ H1 Q
def tNot (t : TT) : TT := fun σ H Q => t σ H fun c H1 => Q (!c) H1
theorem pw_and1 (ha : PT X a tA) : PW X (.BoolOp .And [a] pos) tA := by
  intro wh pins s σ H Q I h
  refine isTrue_and (thn (ha pins s σ H Q I h) fun c s1 e => ?_)
  cases c with
  | true => exact isTrue_and_nil e
  | false => exact e
theorem pw_or1 (ha : PT X a tA) : PW X (.BoolOp .Or [a] pos) tA := by
  intro wh pins s σ H Q I h
  refine isTrue_or (thn (ha pins s σ H Q I h) fun c s1 e => ?_)
  cases c with
  | false => exact isTrue_or_nil e
  | true => exact e
theorem pw_and (ha : PT X a tA) (hb : PW X (.BoolOp .And (b :: rest) pos) tB') : PW X (.BoolOp .And (a :: b :: rest) pos) (tAnd tA tB') := by
  intro wh pins s σ H Q I h
  refine isTrue_and (thn (ha pins s σ H _ I h) fun c s1 ⟨H1, I1, q1⟩ => ?_)
  cases c with
  | true => exact hb wh pins s1 σ H1 Q I1 q1
  | false => exact ⟨H1, I1, q1⟩
theorem pw_or (ha : PT X a tA) (hb : PW X (.BoolOp .Or (b :: rest) pos) tB') : PW X (.BoolOp .Or (a :: b :: rest) pos) (tOr tA tB') := by
  intro wh pins s σ H Q I h
  refine isTrue_or (thn (ha pins s σ H _ I h) fun c s1 ⟨H1, I1, q1⟩ => ?_)
  cases c with
  | true => exact ⟨H1, I1, q1⟩
  | false => exact hb wh pins s1 σ H1 Q I1 q1
theorem pt_not (ha : PT X a tA) : PT X (.UnaryOp .Not a pos) (tNot tA) := by
  intro pins s σ H Q I h
  exact isTrue_not (ha pins s σ H (fun c H1 => Q (!c) H1) I h)
def tAndV (ta tb : TE) : TE := fun σ H Q => ta σ H fun x H1 => ∃ c, x = .bl c ∧ if c = true then tb σ H1 Q else Q (.bl false) H1
def tOrV (ta tb : TE) : TE := fun σ H Q => ta σ H fun x H1 => ∃ c, x = .bl c ∧ if c = true then Q (.bl true) H1 else tb σ H1 Q
def tNotV (ta : TE) : TE := fun σ H Q => ta σ H fun x H1 => ∃ c, x = .bl c ∧ Q (.bl (!c)) H1
theorem pe_one {op} {t : TE} (h : PE X a t) : PE X (.BoolOp op [a] pos) t := fun pins s σ H Q I hw => BoolOp_one (h pins s σ H Q I hw)
theorem pe_and (ha : PE X a ta) (hb : PE X (.BoolOp .And (b :: rest) pos) tb) : PE X (.BoolOp .And (a :: b :: rest) pos) (tAndV ta tb) := by
  intro pins s σ H Q I h
  refine BoolOp_and (thn (ha pins s σ H _ I h) fun v s1 ⟨x, H1, I1, r1, q1⟩ => ?_)
  obtain ⟨c, rfl, q1⟩ := q1
  cases r1
  refine wpAny_truthy_bool ?_
  cases c with
  | true => exact hb pins s1 σ H1 Q I1 q1
  | false => exact ⟨.bl false, H1, I1, rfl, q1⟩
theorem pe_not (ha : PE X a ta) : PE X (.UnaryOp .Not a pos) (tNotV ta) := by
  intro pins s σ H Q I h
  refine UnaryOp_ (thn (ha pins s σ H _ I h) fun v s1 ⟨x, H1, I1, r1, q1⟩ => ?_)
  obtain ⟨c, rfl, q1⟩ := q1
  cases r1
  exact not_of (wpAny_truthy_bool ⟨.bl (!c), H1, I1, rfl, q1⟩)
def tIf (t : TT) (ta tb : TE) : TE := fun σ H Q => t σ H fun c H1 => if c = true then ta σ H1 Q else tb σ H1 Q
theorem pe_ifExp {c : Expr} (hc : PT X c tA) (ha : PE X a ta) (hb : PE X b tb) : PE X (.IfExp c a b pos) (tIf tA ta tb) := by
  intro pins s σ H Q I h
  refine wpAny_IfExp (thn (hc pins s σ H _ I h) fun d s1 ⟨H1, I1, q1⟩ => ?_)
  cases d with
  | true => exact ha pins s1 σ H1 Q I1 q1
  | false => exact hb pins s1 σ H1 Q I1 q1
end
end L2
namespace L2
open PySem PySem.Spec PyProof.Rows
def SqL (K : PySem.W.Frag) (H : Hp) (a : Addr) (xs : List V) : Prop :=
  Rd H a (.lst xs) ∨
    ∃ (o : Obj) (its : Array Value) (n : Nat), K.lookup a = some o ∧ o.cls = .type "list" ∧ o.dict = none ∧ o.data = .seq its n ∧ its.size ≤ sizeLine ∧ Vals xs its.toList
def SqT (K : PySem.W.Frag) (H : Hp) (a : Addr) (xs : List V) : Prop :=
  Rd H a (.tup xs) ∨
    ∃ (o : Obj) (its : Array Value) (n : Nat), K.lookup a = some o ∧ o.cls = .type "tuple" ∧ o.data = .seq its n ∧ its.size ≤ sizeLine ∧ Vals xs its.toList
def absV : Value → Option V
  | .none => some .non
  | .bool b => some (.bl b)
  | .int i _ => some (.int i)
  | .str x _ => some (.str x)
  | .bytes b _ => some (.byt b)
  | .float b _ => some (.flt b)
  | .ref a => some (.ref a)
  | .type n => some (.ty n)
  | _ => none
theorem RelV.abs {x : V} {u : Value} (r : RelV x u) : absV u = some x := by
  cases x with
  | non => cases r; rfl
  | bl _ => cases r; rfl
  | int _ => obtain ⟨t, rfl⟩ := r; rfl
  | str _ => obtain ⟨t, rfl⟩ := r; rfl
  | byt _ => obtain ⟨t, rfl⟩ := r; rfl
  | flt _ => obtain ⟨t, rfl⟩ := r; rfl
  | ref _ => cases r; rfl
  | ty _ => cases r; rfl
theorem RelV.inj {x y : V} {u : Value} (r : RelV x u) (q : RelV y u) : x = y := Option.some.inj (r.abs.symm.trans q.abs)
theorem Vals.inj : ∀ {xs ys : List V} {us : List Value}, Vals xs us → Vals ys us → xs = ys
  | _, _, _, .nil, .nil => rfl
  | _, _, _, .cons r t, .cons r' t' => by rw [r.inj r', Vals.inj t t']
section
variable {X : Cx} {pins : List (Addr × Obj)} {σ : St} {H : Hp} {s : Shared} {a : Addr} {xs ys : List V}
theorem SqL.of {K : PySem.W.Frag} (h : H a = some (.lst xs)) : SqL K H a xs := .inl (.inl h)
theorem SqT.of {K : PySem.W.Frag} (h : H a = some (.tup xs)) : SqT K H a xs := .inl (.inl h)
theorem Inv.list (I : Inv X pins σ H s) (h : SqL X.K H a xs) : ∃ its : List Value, Vals xs its ∧ PlainL s.heap a its.toArray ∧ xs.length ≤ sizeLine := by
  rcases h with h | ⟨o, its, n, hk, hc, hd, hs, hz, r⟩
  · obtain ⟨z, its, n, r, e⟩ := h.ok I.hok
    exact ⟨its, r, ⟨_, n, e, rfl, rfl, rfl⟩, z⟩
  · refine ⟨its.toList, r, ⟨o, n, I.kIn a o hk, hc, hd, by simpa using hs⟩, ?_⟩
    have e := r.length
    simp only [Array.length_toList] at e
    omega
theorem Inv.tuple (I : Inv X pins σ H s) (h : SqT X.K H a xs) : ∃ its : List Value, Vals xs its ∧ IsTup s.heap a its.toArray ∧ xs.length ≤ sizeLine := by
  rcases h with h | ⟨o, its, n, hk, hc, hs, hz, r⟩
  · obtain ⟨z, its, r, p⟩ := h.ok I.hok
    exact ⟨its, r, p, z⟩
  · refine ⟨its.toList, r, ⟨o, I.kIn a o hk, hc, n, by simpa using hs⟩, ?_⟩
    have e := r.length
    simp only [Array.length_toList] at e
    omega
theorem Inv.list_inj (I : Inv X pins σ H s) (h : SqL X.K H a xs) (h' : SqL X.K H a ys) : xs = ys := by
  obtain ⟨its, r, ⟨o, n, e, _, _, d⟩, _⟩ := I.list h
  obtain ⟨its', r', ⟨o', n', e', _, _, d'⟩, _⟩ := I.list h'
  rw [e] at e'; cases e'
  rw [d] at d'
  injection d' with d1 _
  have : its = its' := by simpa using congrArg Array.toList d1
  subst this
  exact r.inj r'
theorem Inv.tuple_inj (I : Inv X pins σ H s) (h : SqT X.K H a xs) (h' : SqT X.K H a ys) : xs = ys := by
  obtain ⟨its, r, ⟨o, e, _, n, d⟩, _⟩ := I.tuple h
  obtain ⟨its', r', ⟨o', e', _, n', d'⟩, _⟩ := I.tuple h'
  rw [e] at e'; cases e'
  rw [d] at d'
  injection d' with d1 _
  have : its = its' := by simpa using congrArg Array.toList d1
  subst this
  exact r.inj r'
end
abbrev Cx.wish (X : Cx) (E : Value → Shared → Prop) : Cx := { X with xe := E }
abbrev Cx.nox (X : Cx) : Cx := X.wish fun _ _ => False
theorem Cx.Ok.wish {X : Cx} (ok : X.Ok) (E : Value → Shared → Prop) : (X.wish E).Ok :=
  ⟨ok.mod, ok.kind, ok.glob, ok.blt, ok.above, ok.inj, ok.has, ok.cab, ok.hd, ok.frames, ok.stk, ok.exf, ok.bs, ok.bsz, ok.noex, ok.exfs, ok.funs, ok.frf⟩
theorem Cx.Ok.unwish {X : Cx} {E : Value → Shared → Prop} (ok : (X.wish E).Ok) : X.Ok :=
  ⟨ok.mod, ok.kind, ok.glob, ok.blt, ok.above, ok.inj, ok.has, ok.cab, ok.hd, ok.frames, ok.stk, ok.exf, ok.bs, ok.bsz, ok.noex, ok.exfs, ok.funs, ok.frf⟩
section
variable {X : Cx} {pins : List (Addr × Obj)} {σ : St} {H : Hp} {s : Shared} {E : Value → Shared → Prop}
theorem Inv.wish (I : Inv X pins σ H s) (E : Value → Shared → Prop) : Inv (X.wish E) pins σ H s := ⟨I.ok.wish E, I.os, I.bare, I.base, I.loc, I.cell, I.free, I.freeC, I.pin, I.hok, I.len⟩
theorem Inv.unwish (I : Inv (X.wish E) pins σ H s) : Inv X pins σ H s := ⟨I.ok.unwish, I.os, I.bare, I.base, I.loc, I.cell, I.free, I.freeC, I.pin, I.hok, I.len⟩
theorem SP.unwish {D : Ends} {f : Flow} {s' : Shared} (h : SP (X.wish E) pins D f s') : SP X pins D f s' := by
  cases f with
  | next => obtain ⟨σ', H', I, q⟩ := h; exact ⟨σ', H', I.unwish, q⟩
  | brk => obtain ⟨σ', H', I, q⟩ := h; exact ⟨σ', H', I.unwish, q⟩
  | cont => obtain ⟨σ', H', I, q⟩ := h; exact ⟨σ', H', I.unwish, q⟩
  | ret u => obtain ⟨v, σ', H', I, r, q⟩ := h; exact ⟨v, σ', H', I.unwish, r, q⟩
theorem PE.nox {e : Expr} {t : TE} (h : PE X.nox e t) : PE X e t := fun pins s σ H Q I hw =>
  wpAny_mono (h pins s σ H Q (I.wish _) hw) (fun _ _ ⟨v, H', I', r, q⟩ => ⟨v, H', I'.unwish, r, q⟩) fun _ _ z => False.elim z
theorem PT.nox {e : Expr} {t : TT} (h : PT X.nox e t) : PT X e t := fun pins s σ H Q I hw =>
  wpAny_mono (h pins s σ H Q (I.wish _) hw) (fun _ _ ⟨H', I', q⟩ => ⟨H', I'.unwish, q⟩) fun _ _ z => False.elim z
theorem PSs.nox {st : List Stmt} {t : TS} (h : PSs X.nox st t) : PSs X st t := fun pins s σ H D I hw =>
  wpAny_mono (h pins s σ H D (I.wish _) hw) (fun _ _ q => q.unwish) fun _ _ z => False.elim z
end
section
variable {X : Cx} {st : Stmt} {rest : List Stmt} {t u : TS} {e : Expr} {te : TE} {pos : Pos}
def tNext : TS := fun D σ H => D.nx σ H
def tSeq (t u : TS) : TS := fun D σ H => t { D with nx := u D } σ H
theorem pss_nil : PSs X [] tNext := fun _ _ σ H _ I h => wpAny_execs_nil ⟨σ, H, I, h⟩
theorem pss_cons (h1 : PS X st t) (h2 : PSs X rest u) : PSs X (st :: rest) (tSeq t u) := by
  intro pins s σ H D I h
  refine wpAny_execs_cons (thn (h1 pins s σ H { D with nx := u D } I h) fun f s1 q => ?_)
  cases f with
  | next =>
    obtain ⟨σ', H', I', q⟩ := q
    exact h2 pins s1 σ' H' D I' q
  | ret v => exact q
  | brk => exact q
  | cont => exact q
theorem pss_one (h1 : PS X st t) : PSs X [st] t := by
  intro pins s σ H D I h
  refine wpAny_execs_cons (thn (h1 pins s σ H D I h) fun f s1 q => ?_)
  cases f with
  | next => exact wpAny_execs_nil q
  | ret v => exact q
  | brk => exact q
  | cont => exact q
theorem Inv.quiet {pins : List (Addr × Obj)} {σ : St} {H : Hp} {s : Shared} (I : Inv X pins σ H s) : interactive X.env = false := by simp [interactive, I.ok.kind]
def tDrop (te : TE) : TS := fun D σ H => te σ H fun _ H1 => D.nx σ H1
theorem ps_expr (he : PE X e te) (hs : swapsWith e none pos.line X.env = pure false := by rfl) : PS X (.Expr e pos) (tDrop te) := by
  intro pins s σ H D I h
  exact wpAny_Expr_any (thn (he pins s σ H _ I h) fun v s1 ⟨x, H1, I1, r1, q1⟩ => ⟨σ, H1, I1, q1⟩) I.quiet hs
def tRet (te : TE) : TS := fun D σ H => te σ H D.rt
theorem ps_ret (he : PE X e te) : PS X (.Return (some e) pos) (tRet te) := by
  intro pins s σ H D I h
  exact wpAny_Return_some (thn (he pins s σ H _ I h) fun v s1 ⟨x, H1, I1, r1, q1⟩ => ⟨x, σ, H1, I1, r1, q1⟩)
def tRetN : TS := fun D _ H => D.rt .non H
def tIfS (c : TT) (t u : TS) : TS := fun D σ H => c σ H fun b H1 => if b = true then t D σ H1 else u D σ H1
theorem ps_if {c : Expr} {a b : List Stmt} {tc : TT} (hc : PT X c tc) (ha : PSs X a t) (hb : PSs X b u) : PS X (.If c a b pos) (tIfS tc t u) := by
  intro pins s σ H D I h
  refine wpAny_If (thn (hc pins s σ H _ I h) fun d s1 ⟨H1, I1, q1⟩ => ?_)
  cases d with
  | true => exact ha pins s1 σ H1 D I1 q1
  | false => exact hb pins s1 σ H1 D I1 q1
def tNever : TS := fun _ _ _ => False
theorem ps_never : PS X st tNever := fun _ _ _ _ _ _ h => h.elim
end
abbrev TG := V → St → Hp → (St → Hp → Prop) → Prop
abbrev TGs := List V → St → Hp → (St → Hp → Prop) → Prop
def PG (X : Cx) (target : Expr) (t : TG) : Prop :=
  ∀ (pins : List (Addr × Obj)) (s : Shared) (σ : St) (H : Hp) (v : V) (u : Value) (Q : St → Hp → Prop), Inv X pins σ H s → RelV v u → t v σ H Q →
    wpAny (model X.prog X.w) X.A (assign target X.env u) (fun _ s' => ∃ σ' H', Inv X pins σ' H' s' ∧ Q σ' H') X.xe s
def PGs (X : Cx) (ts : List Expr) (t : TGs) : Prop :=
  ∀ (pins : List (Addr × Obj)) (s : Shared) (σ : St) (H : Hp) (vs : List V) (us : List Value) (Q : St → Hp → Prop), Inv X pins σ H s → Vals vs us → t vs σ H Q →
    wpAny (model X.prog X.w) X.A (assignInOrder ((assignEach ts X.env).map (·.2)) us) (fun _ s' => ∃ σ' H', Inv X pins σ' H' s' ∧ Q σ' H') X.xe s
abbrev TSet := V → V → V → Hp → (Hp → Prop) → Prop
def PSet (X : Cx) (t : TSet) : Prop :=
  ∀ (pins : List (Addr × Obj)) (s : Shared) (σ : St) (H : Hp) (o i v : V) (ov iv u : Value) (Q : Hp → Prop), Inv X pins σ H s → RelV o ov → RelV i iv → RelV v u → t o i v H Q →
    wpAny (model X.prog X.w) X.A (setItem ov iv u) (fun _ s' => ∃ H', Inv X pins σ H' s' ∧ Q H') X.xe s
section
variable {X : Cx} {pos : Pos}
def gName (i : Nat) : TG := fun v σ H Q => Q (σ.set i (some v)) H
theorem pg_name {i : Nat} {x : Str} (hN : X.N.Nodup) (hi : X.N[i]? = some x) (hx : Loc X.env.scope x) (hf : X.fn x = true ∨ X.env.scope.names.lookup x = some .local := by first | exact .inl rfl | exact .inr rfl | assumption) : PG X (.Name x pos) (gName i) := by
  intro pins s σ H v u Q I r h
  exact wpAny_assign_Name (store_ok I hN hi hx r (fun s' I' => ⟨_, H, I', h⟩) hf)
def gNil : TGs := fun vs σ H Q => vs = [] ∧ Q σ H
def gCons (t : TG) (u : TGs) : TGs := fun vs σ H Q => ∃ v r, vs = v :: r ∧ t v σ H fun σ' H' => u r σ' H' Q
theorem pgs_nil : PGs X [] gNil := by
  intro pins s σ H vs us Q I r h
  obtain ⟨e, h⟩ := h
  subst e
  cases r
  exact assignInOrder_nil ⟨σ, H, I, h⟩
theorem pgs_cons {e : Expr} {es : List Expr} {t : TG} {u : TGs} (h1 : PG X e t) (h2 : PGs X es u)
    (hs : (assignEach (e :: es) X.env).map (·.2) = assign e X.env :: (assignEach es X.env).map (·.2) := by rfl) : PGs X (e :: es) (gCons t u) := by
  intro pins s σ H vs us Q I r h
  obtain ⟨v, vr, e1, h⟩ := h
  subst e1
  cases r with
  | cons r rr =>
    rw [hs]
    refine assignInOrder_cons (thn (h1 pins s σ H _ _ _ I r h) fun _ s1 ⟨σ1, H1, I1, q1⟩ => ?_)
    exact h2 pins s1 σ1 H1 _ _ Q I1 rr q1
def gTup (K : PySem.W.Frag) (n : Nat) (t : TGs) : TG := fun v σ H Q => ∃ a xs, v = .ref a ∧ SqT K H a xs ∧ xs.length = n ∧ t xs σ H Q
theorem pg_tup {es : List Expr} {k : Nat} {t : TGs} {n : Nat} (hc : X.calm = true) (h : PGs X es t)
    (hn : (assignEach es X.env).length = n := by rfl) (hst : (assignEach es X.env).findIdx? (·.1) = none := by rfl) : PG X (.Tuple es k pos) (gTup X.K n t) := by
  intro pins s σ H v u Q I r hw
  obtain ⟨a, xs, e1, hq, hl, hw⟩ := hw
  subst e1
  cases r
  obtain ⟨its, rv, ht, hz⟩ := I.tuple hq
  refine assign_Tuple_tuple (I.ok.hd hc) ht (by simp [hn, ← hl, rv.length]) hst fun h' hx => ?_
  have I1 : Inv X pins σ H { s with heap := h' } := I.kept (t' := s.toks) fun b o e => hx b o (Nat.ne_of_lt (Heap.lt_size e)) e
  exact h pins _ σ H xs _ Q I1 (by simpa using rv) hw
def gSub (to ti : TE) (t : TSet) : TG := fun v σ H Q => to σ H fun o H1 => ti σ H1 fun i H2 => t o i v H2 fun H3 => Q σ H3
theorem pg_sub {o i : Expr} {to ti : TE} {t : TSet} (ho : PE X o to) (hi : PE X i ti) (hs : PSet X t)
    (ha : ∀ v, assign (.Subscript o i pos) X.env v = (do
      let ov ← holding [v] (eval o X.env)
      let iv ← holding [v, ov] (eval i X.env)
      standAt pos
      holding [v, ov, iv] (setItem ov iv v)
      release [v, ov, iv] []) := by intro _; rfl) : PG X (.Subscript o i pos) (gSub to ti t) := by
  intro pins s σ H v u Q I r h
  rw [ha]
  refine wpAny_bind (wpAny_holding (thn (ho pins s σ H _ I h) fun ov s1 ⟨x, H1, I1, r1, q1⟩ => ?_))
  refine wpAny_bind (wpAny_holding (thn (hi pins s1 σ H1 _ I1 q1) fun iv s2 ⟨y, H2, I2, r2, q2⟩ => ?_))
  refine wpAny_bind (wpAny_standAt (wpAny_bind (wpAny_holding (thn (hs pins s2 σ H2 x y v ov iv u _ I2 r1 r2 r q2) fun _ s3 ⟨H3, I3, q3⟩ => ?_))))
  exact wpAny_release ⟨σ, H3, I3, q3⟩
def tAsg (te : TE) (g : TG) : TS := fun D σ H => te σ H fun x H1 => g x σ H1 D.nx
theorem ps_asg {tg e : Expr} {te : TE} {g : TG} (he : PE X e te) (hg : PG X tg g) (hs : swapsWithSole [tg] e pos.line X.env = pure false := by rfl) (hw : swappedStores [tg] e X.env = pure none := by rfl)
    (h1 : (assignEach [tg] X.env).map (·.2) = [assign tg X.env] := by rfl) : PS X (.Assign [tg] e pos) (tAsg te g) := by
  intro pins s σ H D I h
  refine wpAny_Assign_stores (thn (he pins s σ H _ I h) fun v s1 ⟨x, H1, I1, r1, q1⟩ => ?_) hs hw
  rw [h1]
  exact thn (hg pins s1 σ H1 x v _ I1 r1 q1) fun _ s2 q => q
theorem ps_set {i : Nat} {x : Str} {e : Expr} {te : TE} {pos' : Pos} (hN : X.N.Nodup) (hi : X.N[i]? = some x) (hx : Loc X.env.scope x) (he : PE X e te) (hs : swapsWith e (some (.Name x pos')) pos.line X.env = pure false := by rfl) (hf : X.fn x = true ∨ X.env.scope.names.lookup x = some .local := by first | exact .inl rfl | exact .inr rfl | assumption) :
    PS X (.Assign [.Name x pos'] e pos) (tAsg te (gName i)) := by
  intro pins s σ H D I h
  refine wpAny_Assign_Name (thn (he pins s σ H _ I h) fun v s1 ⟨y, H1, I1, r1, q1⟩ => ?_) hs
  exact store_ok I1 hN hi hx r1 (fun s2 I2 => ⟨_, H1, I2, q1⟩) hf
end
section
variable {X : Cx} {pos : Pos}
end
structure It where
  go : Nat → Hp → Prop
  yld : Nat → Hp → V → Hp → Prop
  stop : Nat → Hp → Prop
def FpOk (X : Cx) (pins : List (Addr × Obj)) (H : Hp) (b : Addr) : Prop :=
  H b = none ∧ b ≠ X.env.locals ∧ b ∉ X.fs ∧ (b ∈ X.ex ∨ X.s₀.heap.objs.size ≤ b) ∧ (∀ x c, X.env.cells.lookup x = some c → c ≠ b) ∧ ∀ p ∈ X.pn ++ pins, p.1 ≠ b
theorem Inv.fpOk {X : Cx} {pins : List (Addr × Obj)} {σ : St} {H H' : Hp} {s : Shared} {b : Addr} (I : Inv X pins σ H s) (hb : s.heap.objs.size ≤ b) (hn : H' b = none) : FpOk X pins H' b := by
  refine ⟨hn, Nat.ne_of_gt (Nat.lt_of_lt_of_le I.lt hb), I.nofs hb, .inr (Nat.le_trans I.sz hb), fun x c e z => ?_, fun p hp z => ?_⟩
  · obtain ⟨v, q⟩ := I.cell x c e
    exact absurd (Nat.lt_of_lt_of_le q.lt (by rw [z]; exact hb)) (Nat.lt_irrefl _)
  · exact absurd (Nat.lt_of_lt_of_le (Heap.lt_size (I.pin p hp).1) (by rw [z]; exact hb)) (Nat.lt_irrefl _)
structure Turn (P : Program) (w : World) (K : PySem.W.Frag) (tg : Expr) (J : It) (fp : List Addr) (it : Addr) (tn : Nat → Heap → Prop) : Prop where
  mem : it ∈ fp
  obj : ∀ i h, tn i h → ∀ b ∈ fp, ∃ o, h.get? b = some o ∧ ∀ v, o.data ≠ .cell v
  keep : ∀ i h h', tn i h → (∀ b ∈ fp, ∀ o, h.get? b = some o → h'.get? b = some o) → tn i h'
  item : ∀ (X : Cx), X.prog = P → X.w = w → X.K = K → X.calm = true → ∀ (i : Nat) (pins : List (Addr × Obj)) (s : Shared) (σ : St) (H : Hp) (E : Value → Shared → Prop), Inv X pins σ H s → (∀ b ∈ fp, FpOk X pins H b) → tn i s.heap → J.go i H →
    wpAny (model P w) X.A (pyNext (.ref it)) (fun r s1 => ∃ u, r = some u ∧
      wpAny (model P w) X.A (letOwnedTupleGo tg (.ref it) u) (fun _ s2 => ∃ x H', Inv X pins σ H' s2 ∧ RelV x u ∧ J.yld i H x H' ∧ tn (i + 1) s2.heap ∧ ∀ b ∈ fp, H' b = none) E s1) E s
  done : ∀ (X : Cx), X.prog = P → X.w = w → X.K = K → X.calm = true → ∀ (i : Nat) (pins : List (Addr × Obj)) (s : Shared) (σ : St) (H : Hp) (E : Value → Shared → Prop), Inv X pins σ H s → (∀ b ∈ fp, FpOk X pins H b) → tn i s.heap → J.stop i H →
    wpAny (model P w) X.A (pyNext (.ref it)) (fun r s1 => r = none ∧ Inv X pins σ H s1) E s
  self : ∀ (A : Around) (i : Nat) (s : Shared) (Q : Value → Shared → Prop) (E : Value → Shared → Prop), tn i s.heap → Q (.ref it) s → wpAny (model P w) A (pyIter (.ref it)) Q E s
abbrev TI := St → Hp → (It → Hp → Prop) → Prop
def PIE (X : Cx) (pins : List (Addr × Obj)) (σ : St) (tg : Expr) (R : It → Hp → Prop) (itv : Value) (s2 : Shared) : Prop :=
  ∃ (it : Addr) (fp : List Addr) (tn : Nat → Heap → Prop) (J : It) (H' : Hp), itv = .ref it ∧ Inv X pins σ H' s2 ∧ Turn X.prog X.w X.K tg J fp it tn ∧ tn 0 s2.heap ∧ (∀ b ∈ fp, FpOk X pins H' b) ∧ R J H'
def PI (X : Cx) (tg iter : Expr) (wi : TI) : Prop :=
  ∀ (pins : List (Addr × Obj)) (s : Shared) (σ : St) (H : Hp) (R : It → Hp → Prop), Inv X pins σ H s → wi σ H R →
    wpAny (model X.prog X.w) X.A (eval iter X.env) (fun v s1 => wpAny (model X.prog X.w) X.A (pyIter v) (PIE X pins σ tg R) X.xe s1) X.xe s
theorem go_of {M : Model} {A : Around} {E : Value → Shared → Prop} {s : Shared} {tg : Expr} {it : Addr} {u : Value} {o : Obj} {n : String} {vs : Array Value} {Q : Unit → Shared → Prop} (ho : s.heap.get? it = some o) (hc : o.cls = .type n) (hd : o.data = .fields vs)
    (hn : ["enumerate", "zip", "dict_itemiterator", "dict_reverseitemiterator", "odict_iterator", "itertools.zip_longest", "itertools.pairwise"].contains n = false) (hQ : Q () s) : wpAny M A (letOwnedTupleGo tg (.ref it) u) Q E s := by
  unfold letOwnedTupleGo
  cases tg <;> first
    | exact wpAny_pure hQ
    | (cases u <;> first
        | exact wpAny_pure hQ
        | (refine wpAny_bind (wpAny_load ho ?_)
           rw [hc, hd]
           show wpAny M A (if (["enumerate", "zip", "dict_itemiterator", "dict_reverseitemiterator", "odict_iterator", "itertools.zip_longest", "itertools.pairwise"].contains n && vs[0]? == some (rawInt _)) = true then _ else _) Q E s
           rw [if_neg (by intro h; rw [hn, Bool.false_and] at h; cases h)]
           exact wpAny_pure hQ))
def Itl (K : PySem.W.Frag) (a : Addr) : It :=
  ⟨fun i H => ∃ xs x, SqL K H a xs ∧ xs[i]? = some x, fun i H x H' => H' = H ∧ ∀ xs, SqL K H a xs → xs[i]? = some x, fun i H => ∃ xs, SqL K H a xs ∧ xs.length ≤ i⟩
def Itt (K : PySem.W.Frag) (a : Addr) : It :=
  ⟨fun i H => ∃ xs x, SqT K H a xs ∧ xs[i]? = some x, fun i H x H' => H' = H ∧ ∀ xs, SqT K H a xs → xs[i]? = some x, fun i H => ∃ xs, SqT K H a xs ∧ xs.length ≤ i⟩
def Itr (lo : Int) (n : Nat) : It := ⟨fun i _ => i < n, fun i H x H' => H' = H ∧ x = .int (lo + i), fun i _ => n ≤ i⟩
theorem turn_list {P : Program} {w : World} {K : PySem.W.Frag} {tg : Expr} (a it : Addr) : Turn P w K tg (Itl K a) [it] it (fun i h => h.IsListIter it a i) where
  mem := by simp
  obj := fun i h st b hb => by
    have e : b = it := by simpa using hb
    subst e
    obtain ⟨o, e, c, d⟩ := st
    exact ⟨o, e, fun v z => by rw [d] at z; cases z⟩
  keep := fun i h h' st k => st.at fun o e => k it (by simp) o e
  item := by
    intro X hP hw hK hc i pins s σ H E I hf st hg
    subst hP hw hK
    obtain ⟨xs, x, hq, hx⟩ := hg
    obtain ⟨its, rv, p, hz⟩ := I.list hq
    obtain ⟨u, hu, ru⟩ := rv.get hx
    obtain ⟨f0, f1, f2, f3, f4, f5⟩ := hf it (by simp)
    refine wpAny_pyNext_list_item st p.isList (x := u) (by simpa using hu) fun h' st' sb => ?_
    have I1 : Inv X pins σ H { s with heap := h' } := I.turned (t' := s.toks) (fun b o hb e => (sb.2 b hb).trans e) f0 f1 f3 f4 f5
    obtain ⟨o, e, c, d⟩ := id st'
    exact ⟨u, rfl, go_of (s := { s with heap := h' }) e c d (by decide) ⟨x, H, I1, ru, ⟨rfl, fun ys hy => by rw [I.list_inj hy hq]; exact hx⟩, st', fun b hb => (hf b hb).1⟩⟩
  done := by
    intro X hP hw hK hc i pins s σ H E I hf st hg
    subst hP hw hK
    obtain ⟨xs, hq, hx⟩ := hg
    obtain ⟨its, rv, p, hz⟩ := I.list hq
    obtain ⟨f0, f1, f2, f3, f4, f5⟩ := hf it (by simp)
    have hl := rv.length
    exact wpAny_pyNext_list_end (I.ok.hd hc) st p.isList (by simp; omega) fun h' eb => ⟨rfl, I.turned (t' := s.toks) (fun b o hb e => eb b o hb e) f0 f1 f3 f4 f5⟩
  self := fun _ _ _ _ _ st h => wpAny_pyIter_listiter st h
theorem turn_tuple {P : Program} {w : World} {K : PySem.W.Frag} {tg : Expr} (a it : Addr) : Turn P w K tg (Itt K a) [it] it (fun i h => h.IsTupleIter it a i) where
  mem := by simp
  obj := fun i h st b hb => by
    have e : b = it := by simpa using hb
    subst e
    obtain ⟨o, e, c, d⟩ := st
    exact ⟨o, e, fun v z => by rw [d] at z; cases z⟩
  keep := fun i h h' st k => st.at fun o e => k it (by simp) o e
  item := by
    intro X hP hw hK hc i pins s σ H E I hf st hg
    subst hP hw hK
    obtain ⟨xs, x, hq, hx⟩ := hg
    obtain ⟨its, rv, p, hz⟩ := I.tuple hq
    obtain ⟨u, hu, ru⟩ := rv.get hx
    obtain ⟨f0, f1, f2, f3, f4, f5⟩ := hf it (by simp)
    refine wpAny_pyNext_tuple_item st (show s.heap.IsTuple a its.toArray from p) (x := u) (by simpa using hu) fun h' st' sb => ?_
    have I1 : Inv X pins σ H { s with heap := h' } := I.turned (t' := s.toks) (fun b o hb e => (sb.2 b hb).trans e) f0 f1 f3 f4 f5
    obtain ⟨o, e, c, d⟩ := id st'
    exact ⟨u, rfl, go_of (s := { s with heap := h' }) e c d (by decide) ⟨x, H, I1, ru, ⟨rfl, fun ys hy => by rw [I.tuple_inj hy hq]; exact hx⟩, st', fun b hb => (hf b hb).1⟩⟩
  done := by
    intro X hP hw hK hc i pins s σ H E I hf st hg
    subst hP hw hK
    obtain ⟨xs, hq, hx⟩ := hg
    obtain ⟨its, rv, p, hz⟩ := I.tuple hq
    obtain ⟨f0, f1, f2, f3, f4, f5⟩ := hf it (by simp)
    have hl := rv.length
    exact wpAny_pyNext_tuple_end (I.ok.hd hc) st (show s.heap.IsTuple a its.toArray from p) (by simp; omega) fun h' eb => ⟨rfl, I.turned (t' := s.toks) (fun b o hb e => eb b o hb e) f0 f1 f3 f4 f5⟩
  self := fun _ _ _ _ _ st h => wpAny_pyIter_tupleiter st h
end L2
namespace L2
open PySem PySem.Spec PyProof.Rows
section
variable {X : Cx} {tg : Expr}
def iList (K : PySem.W.Frag) (tl : TE) : TI := fun σ H R => tl σ H fun x H1 => ∃ a, x = .ref a ∧ (∃ xs, SqL K H1 a xs) ∧ R (Itl K a) H1
def iTup (K : PySem.W.Frag) (tl : TE) : TI := fun σ H R => tl σ H fun x H1 => ∃ a, x = .ref a ∧ (∃ xs, SqT K H1 a xs) ∧ R (Itt K a) H1
theorem pi_list {l : Expr} {tl : TE} (hl : PE X l tl) : PI X tg l (iList X.K tl) := by
  intro pins s σ H R I h
  refine thn (hl pins s σ H _ I h) fun v s1 ⟨x, H1, I1, r1, q1⟩ => ?_
  obtain ⟨a, e, ⟨xs, hq⟩, q⟩ := q1
  subst e
  cases r1
  obtain ⟨its, rv, p, hz⟩ := I1.list hq
  refine wpAny_pyIter_list p.isList ?_
  refine ⟨s1.heap.objs.size, [s1.heap.objs.size], _, _, H1, rfl, I1.kept (t' := s1.toks) fun b o e => Heap.get?_push_of_some _ e, turn_list a _, ⟨_, Heap.get?_push_size _ rfl, rfl, rfl⟩, fun b hb => ?_, q⟩
  have e : b = s1.heap.objs.size := by simpa using hb
  subst e
  exact I1.fpOk (Nat.le_refl _) (I1.hok.fresh (Nat.le_refl _))
theorem pi_tup {l : Expr} {tl : TE} (hl : PE X l tl) : PI X tg l (iTup X.K tl) := by
  intro pins s σ H R I h
  refine thn (hl pins s σ H _ I h) fun v s1 ⟨x, H1, I1, r1, q1⟩ => ?_
  obtain ⟨a, e, ⟨xs, hq⟩, q⟩ := q1
  subst e
  cases r1
  obtain ⟨its, rv, p, hz⟩ := I1.tuple hq
  refine wpAny_pyIter_tuple (show s1.heap.IsTuple a its.toArray from p) ?_
  refine ⟨s1.heap.objs.size, [s1.heap.objs.size], _, _, H1, rfl, I1.kept (t' := s1.toks) fun b o e => Heap.get?_push_of_some _ e, turn_tuple a _, ⟨_, Heap.get?_push_size _ rfl, rfl, rfl⟩, fun b hb => ?_, q⟩
  have e : b = s1.heap.objs.size := by simpa using hb
  subst e
  exact I1.fpOk (Nat.le_refl _) (I1.hok.fresh (Nat.le_refl _))
def iRng1 (ta : TA) : TI := fun σ H R => ta σ H fun vs H1 => ∃ j : Int, vs = [.int j] ∧ -(2 ^ 62) ≤ j ∧ j < 2 ^ 62 ∧ R (Itr 0 j.toNat) H1
def iRng2 (ta : TA) : TI := fun σ H R => ta σ H fun vs H1 => ∃ i j : Int, vs = [.int i, .int j] ∧ (-(2 ^ 62) ≤ i ∧ i < 2 ^ 62 ∧ -(2 ^ 62) ≤ j ∧ j < 2 ^ 62) ∧ R (Itr i (j - i).toNat) H1
def tFor (wi : TI) (g : TG) (tb : TS) : TS := fun D σ H => wi σ H fun J H1 => ∃ W : Nat → Nat → St → Hp → Prop, (∃ m, W 0 m σ H1) ∧ ∀ i m σ H, W i m σ H →
  (J.stop i H ∧ D.nx σ H) ∨ (J.go i H ∧ ∃ N : St → Hp → Prop, (∀ σ' H', N σ' H' → ∃ m', m' < m ∧ W (i + 1) m' σ' H') ∧ ∀ x H', J.yld i H x H' → g x σ H' fun σ2 H2 => tb { D with nx := N, ct := N, bk := D.nx } σ2 H2)
def pinsAt (fp : List Addr) (h : Heap) : List (Addr × Obj) := fp.filterMap fun b => (h.get? b).map fun o => (b, o)
theorem mem_pinsAt {fp : List Addr} {h : Heap} {b : Addr} {o : Obj} (hb : b ∈ fp) (e : h.get? b = some o) : (b, o) ∈ pinsAt fp h := List.mem_filterMap.mpr ⟨b, hb, by rw [e]; rfl⟩
theorem of_pinsAt {fp : List Addr} {h : Heap} {p : Addr × Obj} (hp : p ∈ pinsAt fp h) : p.1 ∈ fp ∧ h.get? p.1 = some p.2 := by
  obtain ⟨b, hb, e⟩ := List.mem_filterMap.mp hp
  cases q : h.get? b with
  | none => rw [q] at e; cases e
  | some o =>
    rw [q] at e
    have e' : (b, o) = p := Option.some.inj e
    subst e'
    exact ⟨hb, q⟩
theorem Inv.pinned {pins : List (Addr × Obj)} {σ : St} {H : Hp} {s : Shared} {fp : List Addr} (I : Inv X pins σ H s) (hf : ∀ b ∈ fp, FpOk X pins H b) (ho : ∀ b ∈ fp, ∃ o, s.heap.get? b = some o ∧ ∀ v, o.data ≠ .cell v) : Inv X (pins ++ pinsAt fp s.heap) σ H s :=
  I.pins_of fun p hp => (List.mem_append.mp hp).elim (fun z => I.pin p (List.mem_append_right _ z)) fun z => by
    obtain ⟨hb, e⟩ := of_pinsAt z
    obtain ⟨f0, f1, f2, _⟩ := hf p.1 hb
    obtain ⟨o, e', d⟩ := ho p.1 hb
    rw [e] at e'; cases e'
    exact ⟨e, f0, f1, f2, d⟩
theorem Inv.unpinned {pins pl : List (Addr × Obj)} {σ : St} {H : Hp} {s : Shared} (I : Inv X (pins ++ pl) σ H s) : Inv X pins σ H s := I.pins_of fun p hp => I.pin p (List.mem_append_right _ (List.mem_append_left _ hp))
theorem ps_for {iter : Expr} {body : List Stmt} {wi : TI} {g : TG} {tb : TS} {pos : Pos} (hp : PassesOwn (model X.prog X.w) X.A X.env X.xe) (hc : X.calm = true) (hi : PI X tg iter wi) (hg : PG X tg g) (hb : PSs X body tb)
    (hs : ∀ x, foldedSetIterable iter X.env x = pure x := by intro _; rfl) : PS X (.For tg iter body [] pos) (tFor wi g tb) := by
  intro pins s σ H D I h
  refine wpAny_For (thn (hi pins s σ H _ I h) fun v s1 h1 => thn h1 fun itv s2 h2 => ?_) hs
  obtain ⟨it, fp, tn, J, H2, e, I2, T, st2, f2, W, ⟨m0, w0⟩, turn⟩ := h2
  subst e
  have stat : ∀ {H' : Hp}, (∀ b ∈ fp, H' b = none) → ∀ b ∈ fp, FpOk X pins H' b := fun hn b hb => ⟨hn b hb, (f2 b hb).2⟩
  refine codeAny_forLoop_any (fun n s' => ∃ i σ' H', Inv X pins σ' H' s' ∧ tn i s'.heap ∧ (∀ b ∈ fp, H' b = none) ∧ W i n σ' H') ?_ m0 ⟨0, σ, H2, I2, st2, fun b hb => (f2 b hb).1, w0⟩
  rintro n s3 ⟨i, σ3, H3, I3, st3, fr3, w3⟩
  rcases turn i n σ3 H3 w3 with ⟨stop, qn⟩ | ⟨go, N, hN, step⟩
  · refine wpAny_passesOwn hp (thn (T.done X rfl rfl rfl hc i pins s3 σ3 H3 X.xe I3 (stat fr3) st3 stop) fun r s4 ⟨hr, I4⟩ => ?_)
    subst hr
    exact wpAny_execs_nil ⟨σ3, H3, I4, qn⟩
  · refine wpAny_passesOwn hp (thn (T.item X rfl rfl rfl hc i pins s3 σ3 H3 X.xe I3 (stat fr3) st3 go) fun r s4 ⟨u, hr, h4⟩ => ?_)
    subst hr
    refine wpAny_passesOwn hp (thn h4 fun _ s5 ⟨x, H5, I5, r5, y5, st5, fr5⟩ => ?_)
    have I5' := I5.pinned (stat fr5) (T.obj _ _ st5)
    refine wpAny_passesOwn hp (thn (hg _ s5 σ3 H5 x u _ I5' r5 (step x H5 y5)) fun _ s6 ⟨σ6, H6, I6, q6⟩ => ?_)
    refine wpAny_passesOwn hp (thn (hb _ s6 σ6 H6 _ I6 q6) fun f s7 q7 => ?_)
    have again : ∀ {σ7 : St} {H7 : Hp}, Inv X (pins ++ pinsAt fp s5.heap) σ7 H7 s7 → N σ7 H7 → ∃ m, m < n ∧ ∃ i σ' H', Inv X pins σ' H' s7 ∧ tn i s7.heap ∧ (∀ b ∈ fp, H' b = none) ∧ W i m σ' H' := fun {σ7 H7} I7 n7 => by
      obtain ⟨m', hm, w7⟩ := hN σ7 H7 n7
      refine ⟨m', hm, i + 1, σ7, H7, I7.unpinned, T.keep _ _ _ st5 fun b hb o e => (I7.pin (b, o) (List.mem_append_right _ (List.mem_append_right _ (mem_pinsAt hb e)))).1, fun b hb => ?_, w7⟩
      obtain ⟨o, e, d⟩ := T.obj _ _ st5 b hb
      exact (I7.pin (b, o) (List.mem_append_right _ (List.mem_append_right _ (mem_pinsAt hb e)))).2.1
    cases f with
    | next => obtain ⟨σ7, H7, I7, n7⟩ := q7; exact again I7 n7
    | cont => obtain ⟨σ7, H7, I7, n7⟩ := q7; exact again I7 n7
    | brk => obtain ⟨σ7, H7, I7, q7⟩ := q7; exact ⟨σ7, H7, I7.unpinned, q7⟩
    | ret v => obtain ⟨x7, σ7, H7, I7, r7, q7⟩ := q7; exact ⟨x7, σ7, H7, I7.unpinned, r7, q7⟩
end
theorem for_list {K : PySem.W.Frag} {a : Addr} {xs : List V} {g : TG} {tb : TS} {D : Ends} {σ : St} {H : Hp} (Pv : Nat → St → Hp → Prop) (h0 : Pv 0 σ H) (hl : ∀ i σ H, i ≤ xs.length → Pv i σ H → SqL K H a xs)
    (hs : ∀ i x σ H, xs[i]? = some x → Pv i σ H → g x σ H fun σ2 H2 => tb { D with nx := Pv (i + 1), ct := Pv (i + 1), bk := D.nx } σ2 H2) (hd : ∀ σ H, Pv xs.length σ H → D.nx σ H) :
    ∃ W : Nat → Nat → St → Hp → Prop, (∃ m, W 0 m σ H) ∧ ∀ i m σ H, W i m σ H →
      ((Itl K a).stop i H ∧ D.nx σ H) ∨ ((Itl K a).go i H ∧ ∃ N : St → Hp → Prop, (∀ σ' H', N σ' H' → ∃ m', m' < m ∧ W (i + 1) m' σ' H') ∧ ∀ x H', (Itl K a).yld i H x H' → g x σ H' fun σ2 H2 => tb { D with nx := N, ct := N, bk := D.nx } σ2 H2) := by
  refine ⟨fun i m σ H => m = xs.length - i ∧ i ≤ xs.length ∧ Pv i σ H, ⟨xs.length, by simp, Nat.zero_le _, h0⟩, ?_⟩
  rintro i m σ H ⟨rfl, hi, p⟩
  have q := hl i σ H hi p
  by_cases hlt : i < xs.length
  · refine .inr ⟨⟨xs, xs[i], q, by simp [hlt]⟩, Pv (i + 1), fun σ' H' p' => ⟨xs.length - (i + 1), by omega, rfl, hlt, p'⟩, fun x H' y => ?_⟩
    obtain ⟨e, y⟩ := y
    subst e
    exact hs i x σ _ (y xs q) p
  · have e : i = xs.length := by omega
    subst e
    exact .inl ⟨⟨xs, q, Nat.le_refl _⟩, hd σ H p⟩
end L2
namespace L2
open PySem PySem.Spec PyProof.Rows
abbrev R2 := V → V → Hp → VK → Prop
def OpR (X : Cx) (f : Value → Value → Sem Value) (r : R2) : Prop :=
  ∀ (pins : List (Addr × Obj)) (s : Shared) (σ : St) (H : Hp) (x y : V) (v u : Value) (Q : VK), Inv X pins σ H s → RelV x v → RelV y u → r x y H Q →
    wpAny (model X.prog X.w) X.A (f v u) (EP X pins σ Q) X.xe s
def UnR (X : Cx) (f : Value → Sem Value) (r : V → Hp → VK → Prop) : Prop :=
  ∀ (pins : List (Addr × Obj)) (s : Shared) (σ : St) (H : Hp) (x : V) (v : Value) (Q : VK), Inv X pins σ H s → RelV x v → r x H Q →
    wpAny (model X.prog X.w) X.A (f v) (EP X pins σ Q) X.xe s
def CallR (X : Cx) (f : Value) (r : List V → Hp → VK → Prop) : Prop :=
  ∀ (pins : List (Addr × Obj)) (s : Shared) (σ : St) (H : Hp) (xs : List V) (us : List Value) (Q : VK), Inv X pins σ H s → Vals xs us → r xs H Q →
    wpAny (model X.prog X.w) X.A (call f us) (EP X pins σ Q) X.xe s
def TruR (X : Cx) (r : V → Hp → (Bool → Hp → Prop) → Prop) : Prop :=
  ∀ (pins : List (Addr × Obj)) (s : Shared) (σ : St) (H : Hp) (x : V) (v : Value) (Q : Bool → Hp → Prop), Inv X pins σ H s → RelV x v → r x H Q →
    wpAny (model X.prog X.w) X.A (truthy v) (TP X pins σ Q) X.xe s
def tOp (r : R2) (ta tb : TE) : TE := fun σ H Q => ta σ H fun x H1 => tb σ H1 fun y H2 => r x y H2 Q
def tUn (r : V → Hp → VK → Prop) (ta : TE) : TE := fun σ H Q => ta σ H fun x H1 => r x H1 Q
def rI (C : Int → Int → Prop) (g : Int → Int → V) : R2 := fun x y H Q => ∃ i j, x = .int i ∧ y = .int j ∧ C i j ∧ Q (g i j) H
def rI0 (g : Int → Int → V) : R2 := fun x y H Q => ∃ i j, x = .int i ∧ y = .int j ∧ Q (g i j) H
def rU (g : Int → V) : V → Hp → VK → Prop := fun x H Q => ∃ i, x = .int i ∧ Q (g i) H
section
variable {X : Cx} {a b c : Expr} {ta tb tc : TE} {pos : Pos}
theorem binT (ha : PE X a ta) (hb : PE X b tb) {pins : List (Addr × Obj)} {s : Shared} {σ : St} {H : Hp} {R : V → V → Hp → Prop} (I : Inv X pins σ H s)
    (h : ta σ H fun x H1 => tb σ H1 fun y H2 => R x y H2) {Q : Value → Shared → Prop} {f : Value → Value → Sem Value}
    (hf : ∀ v u s2 x y H2, Inv X pins σ H2 s2 → RelV x v → RelV y u → R x y H2 → wpAny (model X.prog X.w) X.A (f v u) Q X.xe s2) :
    wpAny (model X.prog X.w) X.A (eval a X.env) (fun v s₁ => wpAny (model X.prog X.w) X.A (eval b X.env) (fun u s₂ => wpAny (model X.prog X.w) X.A (f v u) Q X.xe s₂) X.xe s₁) X.xe s := by
  refine thn (ha pins s σ H _ I h) fun v s1 ⟨x, H1, I1, r1, q1⟩ => ?_
  refine thn (hb pins s1 σ H1 _ I1 q1) fun u s2 ⟨y, H2, I2, r2, q2⟩ => ?_
  exact hf v u s2 x y H2 I2 r1 r2 q2
theorem pe_op {op : Operator} {r : R2} (ho : OpR X (binaryOp op) r) (ha : PE X a ta) (hb : PE X b tb) : PE X (.BinOp a op b pos) (tOp r ta tb) := by
  intro pins s σ H Q I h
  exact wpAny_BinOp (binT ha hb I h fun v u s2 x y H2 I2 rx ry q => ho pins s2 σ H2 x y v u Q I2 rx ry q)
theorem pe_un {op : UnaryOp} {r : V → Hp → VK → Prop} (ho : UnR X (unaryOp op) r) (ha : PE X a ta) : PE X (.UnaryOp op a pos) (tUn r ta) := by
  intro pins s σ H Q I h
  exact UnaryOp_ (thn (ha pins s σ H _ I h) fun v s1 ⟨x, H1, I1, r1, q1⟩ => ho pins s1 σ H1 x v Q I1 r1 q1)
theorem opI {f : Value → Value → Sem Value} {C : Int → Int → Prop} {g : Int → Int → Int}
    (rule : ∀ (i j : Int) (t u : Tok) (s : Shared) (Q : Value → Shared → Prop) (E : Value → Shared → Prop), C i j → Q (.int (g i j) s.toks) { s with toks := s.toks + 1 } → wpAny (model X.prog X.w) X.A (f (.int i t) (.int j u)) Q E s) :
    OpR X f (rI C fun i j => .int (g i j)) := by
  intro pins s σ H x y v u Q I rx ry h
  obtain ⟨i, j, rfl, rfl, hc, q⟩ := h
  obtain ⟨t, rfl⟩ := rx
  obtain ⟨t', rfl⟩ := ry
  exact rule i j t t' s _ _ hc ⟨.int (g i j), H, I.tok _, ⟨_, rfl⟩, q⟩
theorem opI0 {f : Value → Value → Sem Value} {g : Int → Int → Int}
    (rule : ∀ (i j : Int) (t u : Tok) (s : Shared) (Q : Value → Shared → Prop) (E : Value → Shared → Prop), Q (.int (g i j) s.toks) { s with toks := s.toks + 1 } → wpAny (model X.prog X.w) X.A (f (.int i t) (.int j u)) Q E s) :
    OpR X f (rI0 fun i j => .int (g i j)) := by
  intro pins s σ H x y v u Q I rx ry h
  obtain ⟨i, j, rfl, rfl, q⟩ := h
  obtain ⟨t, rfl⟩ := rx
  obtain ⟨t', rfl⟩ := ry
  exact rule i j t t' s _ _ ⟨.int (g i j), H, I.tok _, ⟨_, rfl⟩, q⟩
theorem opB0 {f : Value → Value → Sem Value} {g : Int → Int → Bool}
    (rule : ∀ (i j : Int) (t u : Tok) (s : Shared) (Q : Value → Shared → Prop) (E : Value → Shared → Prop), Q (.bool (g i j)) s → wpAny (model X.prog X.w) X.A (f (.int i t) (.int j u)) Q E s) :
    OpR X f (rI0 fun i j => .bl (g i j)) := by
  intro pins s σ H x y v u Q I rx ry h
  obtain ⟨i, j, rfl, rfl, q⟩ := h
  obtain ⟨t, rfl⟩ := rx
  obtain ⟨t', rfl⟩ := ry
  exact rule i j t t' s _ _ ⟨.bl (g i j), H, I, rfl, q⟩
def CPow (i j : Int) : Prop := 0 ≤ j ∧ j ≤ 1000000 ∧ i.natAbs < 2 ^ 64
def CMul (i j : Int) : Prop := (-(2 ^ 64) < i ∧ i < 2 ^ 64) ∨ (-(2 ^ 64) < j ∧ j < 2 ^ 64)
theorem CMul.ok {i j : Int} (h : CMul i j) : IntMulOk i j := by
  rcases h with ⟨h1, h2⟩ | ⟨h1, h2⟩
  · exact .of_left (intBits_le_64 h1 h2)
  · exact .of_right (intBits_le_64 h1 h2)
theorem op_add : OpR X (binaryOp .Add) (rI0 fun i j => .int (i + j)) := opI0 fun _ _ _ _ _ _ _ q => add_int q
theorem op_sub : OpR X (binaryOp .Sub) (rI0 fun i j => .int (i - j)) := opI0 fun _ _ _ _ _ _ _ q => sub_int q
theorem op_mul : OpR X (binaryOp .Mult) (rI CMul fun i j => .int (i * j)) := opI fun _ _ _ _ _ _ _ hc q => mul_int q hc.ok
theorem op_mod : OpR X (binaryOp .Mod) (rI (fun _ j => 0 < j) fun i j => .int (i % j)) := opI fun i j _ _ _ _ _ hc q => by
  have h1 : (0 : Int) < j := hc
  exact mod_int' (by omega) (by rw [Int.fmod_eq_emod_of_nonneg i (by omega)]; exact q)
theorem op_pow : OpR X (binaryOp .Pow) (rI CPow fun i j => .int (i ^ j.toNat)) := opI fun _ _ _ _ _ _ _ hc q => pow_int_small hc.1 hc.2.1 hc.2.2 q
theorem unI {f : Value → Sem Value} {g : Int → Int}
    (rule : ∀ (i : Int) (t : Tok) (s : Shared) (Q : Value → Shared → Prop) (E : Value → Shared → Prop), Q (.int (g i) s.toks) { s with toks := s.toks + 1 } → wpAny (model X.prog X.w) X.A (f (.int i t)) Q E s) :
    UnR X f (rU fun i => .int (g i)) := by
  intro pins s σ H x v Q I rx h
  obtain ⟨i, rfl, q⟩ := h
  obtain ⟨t, rfl⟩ := rx
  exact rule i t s _ _ ⟨.int (g i), H, I.tok _, ⟨_, rfl⟩, q⟩
theorem un_neg : UnR X (unaryOp .USub) (rU fun i => .int (-i)) := unI fun _ _ _ _ _ q => neg_int q
end
def scal : V → V → Bool
  | .non, .non => true | .non, .int _ => true | .int _, .non => true | .non, .bl _ => true | .bl _, .non => true | .non, .str _ => true | .str _, .non => true
  | .int _, .int _ => true | .bl _, .bl _ => true | .str _, .str _ => true | .byt _, .byt _ => true
  | .int _, .str _ => true | .str _, .int _ => true | .bl _, .str _ => true | .str _, .bl _ => true
  | _, _ => false
def rEq : R2 := fun x y H Q => scal x y = true ∧ Q (.bl (decide (x = y))) H
def rNe : R2 := fun x y H Q => scal x y = true ∧ Q (.bl (!decide (x = y))) H
theorem dec_int {i j : Int} : decide (V.int i = V.int j) = (i == j) := by
  rw [Bool.eq_iff_iff]
  simp
theorem dec_bl {i j : Bool} : decide (V.bl i = V.bl j) = (i == j) := by
  rw [Bool.eq_iff_iff]
  simp
theorem dec_str {i j : Str} : decide (V.str i = V.str j) = (i == j) := by
  rw [Bool.eq_iff_iff]
  simp
theorem dec_byt {i j : Array UInt8} : decide (V.byt i = V.byt j) = (i.toList == j.toList) := by
  rw [Bool.eq_iff_iff]
  cases i
  cases j
  simp
section
variable {X : Cx} {a b c : Expr} {ta tb tc : TE} {pos : Pos}
theorem fin_bl {pins : List (Addr × Obj)} {σ : St} {H : Hp} {s : Shared} {Q : VK} {k k' : Bool} (I : Inv X pins σ H s) (q : Q (.bl k) H) (e : k = k') : EP X pins σ Q (.bool k') s := by
  subst e
  exact ⟨.bl k, H, I, rfl, q⟩
theorem op_eq : OpR X (compareOp .Eq) rEq := by
  intro pins s σ H x y v u Q I rx ry h
  obtain ⟨hs, q⟩ := h
  cases x with
  | non =>
    cases rx
    cases y with
    | non => cases ry; exact PySem.EqNone.eq_none_none (fin_bl I q (by simp))
    | bl j => cases ry; exact PySem.EqNone.eq_none_bool (fin_bl I q (by simp))
    | int j => obtain ⟨t', rfl⟩ := ry; exact PySem.EqNone.eq_none_int (fin_bl I q (by simp))
    | str j => obtain ⟨t', rfl⟩ := ry; exact PySem.EqNone.eq_none_str (fin_bl I q (by simp))
    | _ => exact absurd (show false = true from hs) Bool.false_ne_true
  | bl i =>
    cases rx
    cases y with
    | non => cases ry; exact PySem.EqNone.eq_bool_none (fin_bl I q (by simp))
    | bl j => cases ry; exact eq_bool (fin_bl I q dec_bl)
    | str j => obtain ⟨t', rfl⟩ := ry; exact PySem.EqMixed.eq_bool_str (fin_bl I q (by simp))
    | _ => exact absurd (show false = true from hs) Bool.false_ne_true
  | int i =>
    obtain ⟨t, rfl⟩ := rx
    cases y with
    | non => cases ry; exact PySem.EqNone.eq_int_none (fin_bl I q (by simp))
    | int j => obtain ⟨t', rfl⟩ := ry; exact eq_int (fin_bl I q dec_int)
    | str j => obtain ⟨t', rfl⟩ := ry; exact PySem.EqMixed.eq_int_str (fin_bl I q (by simp))
    | _ => exact absurd (show false = true from hs) Bool.false_ne_true
  | str i =>
    obtain ⟨t, rfl⟩ := rx
    cases y with
    | non => cases ry; exact PySem.EqNone.eq_str_none (fin_bl I q (by simp))
    | bl j => cases ry; exact PySem.EqMixed.eq_str_bool (fin_bl I q (by simp))
    | int j => obtain ⟨t', rfl⟩ := ry; exact PySem.EqMixed.eq_str_int (fin_bl I q (by simp))
    | str j => obtain ⟨t', rfl⟩ := ry; exact eq_str (fin_bl I q dec_str)
    | _ => exact absurd (show false = true from hs) Bool.false_ne_true
  | byt i =>
    obtain ⟨t, rfl⟩ := rx
    cases y with
    | byt j => obtain ⟨t', rfl⟩ := ry; exact PySem.W.eq_bytes (fin_bl I q dec_byt)
    | _ => exact absurd (show false = true from hs) Bool.false_ne_true
  | _ => cases y <;> exact absurd (show false = true from hs) Bool.false_ne_true
theorem op_ne : OpR X (compareOp .NotEq) rNe := by
  intro pins s σ H x y v u Q I rx ry h
  obtain ⟨hs, q⟩ := h
  cases x with
  | non =>
    cases rx
    cases y with
    | non => cases ry; exact PySem.EqNone.ne_none_none (fin_bl I q (by simp))
    | bl j => cases ry; exact PySem.EqNone.ne_none_bool (fin_bl I q (by simp))
    | int j => obtain ⟨t', rfl⟩ := ry; exact PySem.EqNone.ne_none_int (fin_bl I q (by simp))
    | str j => obtain ⟨t', rfl⟩ := ry; exact PySem.EqNone.ne_none_str (fin_bl I q (by simp))
    | _ => exact absurd (show false = true from hs) Bool.false_ne_true
  | bl i =>
    cases rx
    cases y with
    | non => cases ry; exact PySem.EqNone.ne_bool_none (fin_bl I q (by simp))
    | bl j => cases ry; exact ne_bool (fin_bl I q (congrArg not dec_bl))
    | str j => obtain ⟨t', rfl⟩ := ry; exact PySem.EqMixed.ne_bool_str (fin_bl I q (by simp))
    | _ => exact absurd (show false = true from hs) Bool.false_ne_true
  | int i =>
    obtain ⟨t, rfl⟩ := rx
    cases y with
    | non => cases ry; exact PySem.EqNone.ne_int_none (fin_bl I q (by simp))
    | int j => obtain ⟨t', rfl⟩ := ry; exact ne_int (fin_bl I q (congrArg not dec_int))
    | str j => obtain ⟨t', rfl⟩ := ry; exact PySem.EqMixed.ne_int_str (fin_bl I q (by simp))
    | _ => exact absurd (show false = true from hs) Bool.false_ne_true
  | str i =>
    obtain ⟨t, rfl⟩ := rx
    cases y with
    | non => cases ry; exact PySem.EqNone.ne_str_none (fin_bl I q (by simp))
    | bl j => cases ry; exact PySem.EqMixed.ne_str_bool (fin_bl I q (by simp))
    | int j => obtain ⟨t', rfl⟩ := ry; exact PySem.EqMixed.ne_str_int (fin_bl I q (by simp))
    | str j => obtain ⟨t', rfl⟩ := ry; exact ne_str (fin_bl I q (congrArg not dec_str))
    | _ => exact absurd (show false = true from hs) Bool.false_ne_true
  | byt i =>
    obtain ⟨t, rfl⟩ := rx
    cases y with
    | byt j => obtain ⟨t', rfl⟩ := ry; exact PySem.W.ne_bytes (fin_bl I q (congrArg not dec_byt))
    | _ => exact absurd (show false = true from hs) Bool.false_ne_true
  | _ => cases y <;> exact absurd (show false = true from hs) Bool.false_ne_true
theorem op_lt : OpR X (compareOp .Lt) (rI0 fun i j => .bl (decide (i < j))) := opB0 fun _ _ _ _ _ _ _ q => lt_int q
theorem op_le : OpR X (compareOp .LtE) (rI0 fun i j => .bl (decide (i ≤ j))) := opB0 fun _ _ _ _ _ _ _ q => le_int q
theorem op_gt : OpR X (compareOp .Gt) (rI0 fun i j => .bl (decide (j < i))) := opB0 fun _ _ _ _ _ _ _ q => gt_int q
theorem op_ge : OpR X (compareOp .GtE) (rI0 fun i j => .bl (decide (j ≤ i))) := opB0 fun _ _ _ _ _ _ _ q => ge_int q
theorem op_isN : OpR X (compareOp .Is) (fun x y H Q => y = .non ∧ Q (.bl (decide (x = .non))) H) := by
  intro pins s σ H x y v u Q I rx ry h
  obtain ⟨rfl, q⟩ := h
  cases ry
  refine is_none_gen (fin_bl I q ?_)
  cases x <;> first
    | (cases rx; rfl)
    | (obtain ⟨t, rfl⟩ := rx; rfl)
theorem OpR.or {f : Value → Value → Sem Value} {r r' : R2} (h : OpR X f r) (h' : OpR X f r') : OpR X f (fun x y H Q => r x y H Q ∨ r' x y H Q) := by
  intro pins s σ H x y v u Q I rx ry q
  rcases q with q | q
  · exact h pins s σ H x y v u Q I rx ry q
  · exact h' pins s σ H x y v u Q I rx ry q
theorem nomark (b : Expr) {op : CmpOp} (h : op ≠ .In := by decide) (h2 : op ≠ .NotIn := by decide) : behindInMarks op b = false := by
  have e1 : (op == CmpOp.In) = false := by cases op <;> first | rfl | exact absurd rfl h
  have e2 : (op == CmpOp.NotIn) = false := by cases op <;> first | rfl | exact absurd rfl h2
  cases b <;> simp [behindInMarks, e1, e2]
theorem pe_cmpR {op : CmpOp} {r : R2} (ho : OpR X (compareOp op) r) (ha : PE X a ta) (hb : PE X b tb) (hm : behindInMarks op b = false) : PE X (.Compare a [op] [b] pos) (tOp r ta tb) := by
  intro pins s σ H Q I h
  exact wpAny_Compare1 (binT ha hb I h fun v u s2 x y H2 I2 rx ry q => ho pins s2 σ H2 x y v u Q I2 rx ry q) hm
def tTest (t : TE) : TT := fun σ H Q => t σ H fun x H' => ∃ k, x = .bl k ∧ Q k H'
theorem pt_cmpR {op : CmpOp} {r : R2} (ho : OpR X (compareOp op) r) (ha : PE X a ta) (hb : PE X b tb) (hm : behindInMarks op b = false) : PT X (.Compare a [op] [b] pos) (tTest (tOp r ta tb)) := by
  intro pins s σ H Q I h
  refine wpAny_isTrue_Compare1 (thn (ha pins s σ H _ I h) fun v s1 ⟨x, H1, I1, r1, q1⟩ => thn (hb pins s1 σ H1 _ I1 q1) fun u s2 ⟨y, H2, I2, r2, q2⟩ =>
    thn (ho pins s2 σ H2 x y v u _ I2 r1 r2 q2) fun c s3 ⟨z, H3, I3, r3, k, e, q3⟩ => ?_) hm
  subst e
  cases r3
  exact wpAny_truthy_bool ⟨H3, I3, q3⟩
def tChain (r r' : R2) (ta tb tc : TE) : TE := fun σ H Q => ta σ H fun x H1 => tb σ H1 fun y H2 => r x y H2 fun z H3 => ∃ k, z = .bl k ∧
  (if k = true then tc σ H3 fun w' H4 => r' y w' H4 Q else Q (.bl false) H3)
theorem pe_chain {op op' : CmpOp} {r r' : R2} (ho : OpR X (compareOp op) r) (ho' : OpR X (compareOp op') r') (ha : PE X a ta) (hb : PE X b tb) (hc : PE X c tc)
    (hm : lastMarks [op, op'] [b, c] = false := by with_unfolding_all rfl) : PE X (.Compare a [op, op'] [b, c] pos) (tChain r r' ta tb tc) := by
  intro pins s σ H Q I h
  refine Compare_chain (thn (ha pins s σ H _ I h) fun v s1 ⟨x, H1, I1, r1, q1⟩ => chain_link (thn (hb pins s1 σ H1 _ I1 q1) fun u s2 ⟨y, H2, I2, r2, q2⟩ =>
    thn (ho pins s2 σ H2 x y v u _ I2 r1 r2 q2) fun d s3 ⟨z, H3, I3, r3, k, e, q3⟩ => ?_)) hm
  subst e
  cases r3
  refine wpAny_truthy_bool ?_
  cases k with
  | false => exact ite_ff ⟨.bl false, H3, I3, rfl, q3⟩
  | true => exact ite_tt (chain_last (thn (hc pins s3 σ H3 _ I3 q3) fun w' s4 ⟨z', H4, I4, r4, q4⟩ => ho' pins s4 σ H4 y z' u w' Q I4 r2 r4 q4))
def TruV (K : PySem.W.Frag) (x : V) (H : Hp) (k : Bool) : Prop :=
  match x with
  | .non => k = false
  | .bl b => k = b
  | .int i => k = (i != 0)
  | .str y => y.length ≤ sizeLine ∧ k = ((y.length : Int) != 0)
  | .byt y => y.size ≤ sizeLine ∧ k = ((y.size : Int) != 0)
  | .ref p => (∃ xs, SqL K H p xs ∧ k = !xs.isEmpty) ∨ (∃ xs, SqT K H p xs ∧ k = !xs.isEmpty) ∨ ∃ kvs, H p = some (.dK kvs) ∧ k = !kvs.isEmpty
  | _ => False
theorem isEmpty_kv {κ : Type} {kvs : List (κ × V)} {vs : List (κ × Value)} (r : KV kvs vs) : (!vs.isEmpty) = !kvs.isEmpty := by
  cases r <;> rfl
theorem isEmpty_of {xs : List V} {its : List Value} (r : Vals xs its) : (!its.toArray.isEmpty) = !xs.isEmpty := by
  cases r <;> simp
theorem line63 : (sizeLine : Nat) < 2 ^ 63 := by rw [sizeLine_eq]; decide
theorem tru_ok : TruR X (fun x H Q => ∃ k, TruV X.K x H k ∧ Q k H) := by
  intro pins s σ H x v Q I rx h
  obtain ⟨k, e, q⟩ := h
  have hl := line63
  have hs : sizeLine = 16777216 := sizeLine_eq
  cases x with
  | non =>
    cases rx
    have e' : k = false := e
    subst e'
    exact truthy_none ⟨H, I, q⟩
  | bl b =>
    cases rx
    have e' : k = b := e
    subst e'
    exact wpAny_truthy_bool ⟨H, I, q⟩
  | int i =>
    obtain ⟨t, rfl⟩ := rx
    have e' : k = (i != 0) := e
    subst e'
    exact PySem.P.truthy_int ⟨H, I, q⟩
  | str y =>
    obtain ⟨t, rfl⟩ := rx
    obtain ⟨hy, e'⟩ : y.length ≤ sizeLine ∧ k = ((y.length : Int) != 0) := e
    subst e'
    exact PySem.P.truthy_str (by omega) ⟨H, I.tok _, q⟩
  | byt y =>
    obtain ⟨t, rfl⟩ := rx
    obtain ⟨hy, e'⟩ : y.size ≤ sizeLine ∧ k = ((y.size : Int) != 0) := e
    subst e'
    exact PySem.W.truthy_bytes (by omega) ⟨H, I.tok _, q⟩
  | ref p =>
    cases rx
    have e' : (∃ xs, SqL X.K H p xs ∧ k = !xs.isEmpty) ∨ (∃ xs, SqT X.K H p xs ∧ k = !xs.isEmpty) ∨ ∃ kvs, H p = some (.dK kvs) ∧ k = !kvs.isEmpty := e
    rcases e' with ⟨xs, hx, e'⟩ | ⟨xs, hx, e'⟩ | ⟨kvs, hx, e'⟩
    · subst e'
      obtain ⟨its, r, pl, hz⟩ := I.list hx
      have hlen := r.length
      exact wpAny_truthy_list pl.isList (by simp only [List.size_toArray]; omega) ⟨H, I.tok _, by rw [isEmpty_of r]; exact q⟩
    · subst e'
      obtain ⟨its, r, pl, hz⟩ := I.tuple hx
      have hlen := r.length
      exact truthy_tuple pl (by simp only [List.size_toArray]; omega) ⟨H, I.tok _, by rw [isEmpty_of r]; exact q⟩
    · subst e'
      obtain ⟨hz, hS, vs, r, m⟩ : kvs.length ≤ sizeLine ∧ (p == sysModules) = false ∧ ∃ vs, KV kvs vs ∧ s.heap.DictOf (mixKind X.prog X.w) p vs := I.hok p _ hx
      have hlen : kvs.length = vs.length := Paired.length r
      exact wpAny_truthy_dict hS m (by omega) ⟨H, I.tok _, by rw [isEmpty_kv r]; exact q⟩
  | _ => exact (show False from e).elim
theorem pt_truth (ha : PE X a ta) (he : ∀ whole, isTrue a X.env whole = (do let v ← whole; standAt a.pos; holding [v] (truthy v))) :
    PT X a (fun σ H Q => ta σ H fun x H' => ∃ k, TruV X.K x H' k ∧ Q k H') := by
  intro pins s σ H Q I h
  exact isTrue_plain (thn (ha pins s σ H _ I h) fun v s1 ⟨x, H1, I1, r1, q1⟩ => tru_ok pins s1 σ H1 x v Q I1 r1 q1) (he _)
theorem vals1 {x : V} {us : List Value} (r : Vals [x] us) : ∃ u, us = [u] ∧ RelV x u := by
  cases r with
  | cons r1 r2 => cases r2; exact ⟨_, rfl, r1⟩
theorem vals2 {x y : V} {us : List Value} (r : Vals [x, y] us) : ∃ u w', us = [u, w'] ∧ RelV x u ∧ RelV y w' := by
  cases r with
  | cons r1 r2 =>
    cases r2 with
    | cons r3 r4 => cases r4; exact ⟨_, _, rfl, r1, r3⟩
theorem call_min2 (hc : X.calm = true) : CallR X (.builtin "min") (fun xs H Q => ∃ i j, xs = [.int i, .int j] ∧ Q (.int (if j < i then j else i)) H) := by
  intro pins s σ H xs us Q I r h
  obtain ⟨i, j, rfl, q⟩ := h
  obtain ⟨u, w', rfl, ⟨t, rfl⟩, ⟨t', rfl⟩⟩ := vals2 r
  refine min_two_ints (I.ok.hd hc) fun h' tk k => ⟨_, H, I.kept k, ?_, q⟩
  by_cases hj : j < i
  · rw [if_pos hj, if_pos hj]; exact ⟨_, rfl⟩
  · rw [if_neg hj, if_neg hj]; exact ⟨_, rfl⟩
theorem call_int1 : CallR X (.type "int") (fun xs H Q => (∃ i, xs = [.int i] ∧ Q (.int i) H) ∨ ∃ k, xs = [.bl k] ∧ Q (.int (if k then 1 else 0)) H) := by
  intro pins s σ H xs us Q I r h
  rcases h with ⟨i, rfl, q⟩ | ⟨k, rfl, q⟩
  · obtain ⟨u, rfl, t, rfl⟩ := vals1 r
    exact call_int_int ⟨.int i, H, I, ⟨_, rfl⟩, q⟩
  · obtain ⟨u, rfl, r1⟩ := vals1 r
    cases r1
    exact call_int_bool ⟨.int (if k then 1 else 0), H, I.tok _, ⟨_, rfl⟩, q⟩
theorem call_str_int : CallR X (.type "str") (fun xs H Q => ∃ i, xs = [.int i] ∧ i.natAbs.log2 < 1920 ∧ Q (.str (toString i)) H) := by
  intro pins s σ H xs us Q I r h
  obtain ⟨i, rfl, hz, q⟩ := h
  obtain ⟨u, rfl, t, rfl⟩ := vals1 r
  exact PySem.P.str_of_int hz ⟨.str _, H, I.tok _, ⟨_, rfl⟩, q⟩
end
end L2
namespace L2
open PySem PySem.Spec PyProof.Rows
structure ObjM (h : Heap) (x dx C : Addr) (mA : Str → Option Value) : Prop where
  obj : h.get? x = some (PySem.W.instObj C dx)
  ns : h.Ns1 dx mA
  ne : dx ≠ x
theorem lookIn_ns {h : Heap} {dx : Addr} {mA : Str → Option Value} (n : h.Ns1 dx mA) : ∃ od, h.get? dx = some od ∧ ∀ name, PySem.W.lookIn name od = some (mA name) := by
  obtain ⟨o, es, ep, ho, hd, hk, _, hm⟩ := n
  refine ⟨o, ho, fun name => ?_⟩
  have e := hm name
  unfold nsFind findBy at e
  rw [← Array.find?_toList] at e
  unfold PySem.W.lookIn
  rw [hd]
  dsimp only
  split
  · rename_i y q
    rw [q] at e
    exact congrArg some e
  · rename_i q
    rw [q] at e
    have a : es.toList.any (·.refKey) = false := by
      rw [List.any_eq_false]
      intro y hy
      obtain ⟨z, t, hkey⟩ := hk y (Array.mem_toList_iff.mp hy)
      simp [DictEntry.refKey, hkey]
    have a' : ¬ es.toList.any (·.refKey) = true := by rw [a]; exact Bool.false_ne_true
    rw [if_neg a']
    exact congrArg some e
theorem ObjM.look {h : Heap} {x dx C : Addr} {mA : Str → Option Value} (I : ObjM h x dx C mA) : ∃ od, PySem.W.InstAt h x (PySem.W.instObj C dx) C (some od) ∧ ∀ name, PySem.W.lookIn name od = some (mA name) :=
  let ⟨od, ho, hl⟩ := lookIn_ns I.ns
  ⟨od, ⟨I.obj, rfl, rfl, ho⟩, hl⟩
section
variable {prog : Program} {w : World} {A : Around} {E : Value → Shared → Prop} {s : Shared} {K : PySem.W.Frag} {x dx C f : Addr} {mA : Str → Option Value} {name : Str} {v : Value}
theorem get_map {expr : Bool} {Q : Value → Shared → Prop} (X : K.In s.heap) (I : ObjM s.heap x dx C mA) (hg : PySem.W.plainGet K C name = true) (hh : PySem.W.hasDictIn K C = true)
    (ha : PySem.W.findIn K (.ref C) name = some none) (hv : mA name = some v) (hv' : PySem.W.handedIn v = true) (h : Q v { s with toks := s.toks + 1 }) :
    wpAny (model prog w) A (getAttr (.ref x) name expr) Q E s := by
  obtain ⟨od, J, hl⟩ := I.look
  exact PySem.W.get_value X J (PySem.W.plainGet_of hg).1 (PySem.W.findObj_own hh ha rfl (by rw [hl, hv])) hv' h
theorem get_meth {pl : Sem Bool} {Q : Value × List Value → Shared → Prop} (X : K.In s.heap) (I : ObjM s.heap x dx C mA) (hg : PySem.W.plainGet K C name = true)
    (hf : PySem.W.findIn K (.ref C) name = some (some (.ref f))) (ht : PySem.W.isFn K (.ref f) = true) (hv : mA name = none) (h : Q (.ref f, [.ref x]) s) :
    wpAny (model prog w) A (getMethod (.ref x) name pl) Q E s := by
  obtain ⟨od, J, hl⟩ := I.look
  exact PySem.W.method_fn X J (PySem.W.plainGet_of hg).1 (PySem.W.plainGet_of hg).2 hf (beq_iff_eq.mp ht) (by show (PySem.W.lookIn name od).map (·.isSome) = some false; rw [hl, hv]; rfl) h
theorem set_map {ns : List Str} {Q : Unit → Shared → Prop} (X : K.In s.heap) (I : ObjM s.heap x dx C mA)
    (hs : PySem.W.findIn K (.ref C) "__setattr__" = some (some (.builtin "object.__setattr__"))) (hp : PySem.W.plainOver K C = true) (ht : PySem.W.takerIn K C name = some none) (hh : PySem.W.hasDictIn K C = true)
    (hw : PySem.Within mA ns) (hsz : ns.length ≤ sizeLine)
    (h : ∀ h', ObjM h' x dx C (fun y => if y = name then some v else mA y) → Heap.SameBut dx s.heap h' → Q () { s with heap := h', toks := s.toks + 2 }) :
    wpAny (model prog w) A (setAttr (.ref x) name v) Q E s := by
  obtain ⟨od, J, hl⟩ := I.look
  refine PySem.W.set_plain X J hs (PySem.W.osa_open (s := { s with toks := s.toks + 1 }) (r := none) X J hp ht fun b => ?_)
  obtain ⟨cd, hc, hd'⟩ := PySem.W.any_some hh
  have hx : s.heap.get? x = some ⟨.ref C, some dx, .plain, #[]⟩ := I.obj
  refine wpAny_bind (wpAny_pure (wpAny_bind (wpAny_bind (wpAny_loadPart hx (wpAny_bind (PySem.W.Looks.here (s := { s with toks := s.toks + 1 }) (PySem.W.looks_clsIn X hc) ?_))))))
  rw [hd']
  refine wpAny_pure (a := some dx) (wpAny_bind (wpAny_pure (wpAny_bind ?_)))
  refine wpAny_nsSet1 (s := { s with toks := s.toks + 1 }) I.ns fun h' hn2 hs2 => ?_
  obtain ⟨oD, esD, epD, hoD, hdD, hcD⟩ := hn2.count (PySem.Within.cons name v hw)
  refine wpAny_bind (wpAny_lookBehind hoD (by rw [hdD]; exact pastItsLine_dict (Nat.le_trans hcD (by rw [List.length_cons]; omega))) ?_)
  exact wpAny_pure (h _ ⟨(hs2.2 _ (Ne.symm I.ne)).trans I.obj, hn2, I.ne⟩ hs2)
theorem make_map {R : Result → Shared → Prop} {vs : List Value} {kw : List (Str × Value)} (X : K.In s.heap) (hm : PySem.W.makesIn K C = true)
    (hi : PySem.W.findIn K (.ref C) "__init__" = some (some (.ref f))) (hf : PySem.W.typeIn K (.ref f) = some (.type "function"))
    (h : codeAny (model prog w) (A.under (.builtin "type.__call__" ⟨.ref C :: vs, kw⟩)) (.call (.ref f) ⟨.ref (s.heap.objs.size + 1) :: vs, kw⟩) (PySem.W.InitBack (s.heap.objs.size + 1) R)
      { s with heap := (s.heap.push PySem.W.emptyDict).push (PySem.W.instObj C s.heap.objs.size) }) :
    codeAny (model prog w) A (.call (.ref C) ⟨vs, kw⟩) R s := by
  obtain ⟨hh, g, d, t, os⟩ := s
  exact PySem.W.make_core (PySem.W.makes_of X hm) (PySem.W.looks_findIn X hi) (fun self => PySem.W.bind_fn X self hf) (.inl rfl) h
end
def putF (f : Str) (v : V) : List (Str × V) → List (Str × V)
  | [] => [(f, v)]
  | (g, x) :: r => if g = f then (g, v) :: r else (g, x) :: putF f v r
theorem lookup_putF (f g : Str) (v : V) : ∀ fs : List (Str × V), (putF f v fs).lookup g = if g = f then some v else fs.lookup g
  | [] => by
    show List.lookup g [(f, v)] = _
    by_cases h : g = f
    · have hb : (g == f) = true := beq_iff_eq.mpr h
      simp only [List.lookup, hb, if_pos h]
    · have hb : (g == f) = false := beq_eq_false_iff_ne.mpr h
      simp only [List.lookup, hb, if_neg h]
  | (k, x) :: r => by
    have ih := lookup_putF f g v r
    rw [show putF f v ((k, x) :: r) = (if k = f then (k, v) :: r else (k, x) :: putF f v r) from rfl]
    by_cases hk : k = f
    · rw [if_pos hk]
      by_cases h : g = k
      · have hb : (g == k) = true := beq_iff_eq.mpr h
        simp only [List.lookup, hb, if_pos (h.trans hk)]
      · have hb : (g == k) = false := beq_eq_false_iff_ne.mpr h
        simp only [List.lookup, hb, if_neg (fun e : g = f => h (e.trans hk.symm))]
    · rw [if_neg hk]
      by_cases h : g = k
      · have hb : (g == k) = true := beq_iff_eq.mpr h
        simp only [List.lookup, hb, if_neg (fun e : g = f => hk (h.symm.trans e))]
      · have hb : (g == k) = false := beq_eq_false_iff_ne.mpr h
        simp only [List.lookup, hb]
        exact ih
theorem keys_putF (f : Str) (v : V) : ∀ fs : List (Str × V), f ∈ (putF f v fs).map (·.1) ∧ ∀ g, g ∈ fs.map (·.1) → g ∈ (putF f v fs).map (·.1)
  | [] => ⟨by simp [putF], fun g h => by simp at h⟩
  | (k, x) :: r => by
    obtain ⟨i1, i2⟩ := keys_putF f v r
    rw [show putF f v ((k, x) :: r) = (if k = f then (k, v) :: r else (k, x) :: putF f v r) from rfl]
    by_cases hk : k = f
    · rw [if_pos hk]
      subst hk
      exact ⟨by simp, fun g h => by simpa using h⟩
    · rw [if_neg hk]
      refine ⟨?_, fun g h => ?_⟩
      · rw [List.map_cons]
        exact List.mem_cons_of_mem _ i1
      · rw [List.map_cons] at h ⊢
        rcases List.mem_cons.mp h with e | e
        · exact List.mem_cons.mpr (.inl e)
        · exact List.mem_cons_of_mem _ (i2 g e)
theorem length_putF (f : Str) (v : V) : ∀ fs : List (Str × V), (putF f v fs).length ≤ fs.length + 1
  | [] => by simp [putF]
  | (k, x) :: r => by
    have ih := length_putF f v r
    rw [show putF f v ((k, x) :: r) = (if k = f then (k, v) :: r else (k, x) :: putF f v r) from rfl]
    by_cases hk : k = f
    · rw [if_pos hk, List.length_cons, List.length_cons]; omega
    · rw [if_neg hk, List.length_cons, List.length_cons]; omega
theorem RelO.some_of {v : V} {o : Option Value} (r : RelO (some v) o) : ∃ u, o = some u ∧ RelV v u := by
  cases o with
  | none => exact (show False from r).elim
  | some u => exact ⟨u, rfl, r⟩
theorem RelO.none_of {o : Option Value} (r : RelO none o) : o = none := by
  cases o with
  | none => rfl
  | some u => exact (show False from r).elim
theorem handed_of {v : V} {u : Value} (r : RelV v u) : PySem.W.handedIn u = true := by
  cases v with
  | non => cases (show u = Value.none from r); rfl
  | bl b => cases (show u = Value.bool b from r); rfl
  | int i => obtain ⟨t, e⟩ := (show ∃ t, u = Value.int i t from r); cases e; rfl
  | str x => obtain ⟨t, e⟩ := (show ∃ t, u = Value.str x t from r); cases e; rfl
  | byt b => obtain ⟨t, e⟩ := (show ∃ t, u = Value.bytes b t from r); cases e; rfl
  | flt b => obtain ⟨t, e⟩ := (show ∃ t, u = Value.float b t from r); cases e; rfl
  | ref a => cases (show u = Value.ref a from r); rfl
  | ty n => cases (show u = Value.type n from r); rfl
section
variable {P : Program} {w : World} {H H' : Hp} {h h' : Heap} {a C dx : Addr} {fs fs' : List (Str × V)}
theorem ins_get (hok : HOk P w H h) (e : H a = some (.ins C dx fs)) : ∃ mA, ObjM h a dx C mA ∧ (∀ f, RelO (fs.lookup f) (mA f)) ∧ PySem.Within mA (fs.map (·.1)) ∧ fs.length ≤ 1000 ∧ H dx = some (.own a) := by
  obtain ⟨d, z, ne, ob, mA, n, r, q⟩ := (show ObjOk P w H h a (.ins C dx fs) from hok a _ e)
  exact ⟨mA, ⟨ob, n, ne⟩, r, q, z, d⟩
end
structure Cls (K : PySem.W.Frag) (C : Addr) : Prop where
  pg : PySem.W.plainGet K C Str.empty = true
  hd : PySem.W.hasDictIn K C = true
  po : PySem.W.plainOver K C = true
  sa : PySem.W.findIn K (.ref C) "__setattr__" = some (some (.builtin "object.__setattr__"))
theorem Cls.get {K : PySem.W.Frag} {C : Addr} (c : Cls K C) (f : Str) : PySem.W.plainGet K C f = true := c.pg
def NoAttr (K : PySem.W.Frag) (C : Addr) (f : Str) : Prop := PySem.W.findIn K (.ref C) f = some none
theorem NoAttr.taker {K : PySem.W.Frag} {C : Addr} {f : Str} (n : NoAttr K C f) : PySem.W.takerIn K C f = some none := by
  unfold PySem.W.takerIn
  rw [show PySem.W.findIn K (.ref C) f = some none from n]
  rfl
structure Con (K : PySem.W.Frag) (C : Addr) (f : Str) (v : V) (u : Value) : Prop where
  at_ : PySem.W.findIn K (.ref C) f = some (some u)
  rel : RelV v u
  get : PySem.W.specialIn K u "__get__" = some none
  cp : PySem.W.copiedNames.contains f = false
structure Meth (K : PySem.W.Frag) (C : Addr) (m : Str) (f : Addr) : Prop where
  at_ : PySem.W.findIn K (.ref C) m = some (some (.ref f))
  fn : PySem.W.isFn K (.ref f) = true
  kp : PySem.W.keepIn K (.ref f) = true
section
variable {X : Cx} {pins : List (Addr × Obj)} {σ : St} {H : Hp} {s : Shared} {a C dx : Addr} {fs : List (Str × V)} {f : Str} {v : V} {A : Around} {E : Value → Shared → Prop}
theorem getattr_ok {b : Bool} {Q : Value → Shared → Prop} (I : Inv X pins σ H s) (e : H a = some (.ins C dx fs)) (c : Cls X.K C) (n : NoAttr X.K C f) (l : fs.lookup f = some v)
    (h : ∀ u s', Inv X pins σ H s' → RelV v u → Q u s') : wpAny (model X.prog X.w) A (getAttr (.ref a) f b) Q E s := by
  obtain ⟨mA, O, r, _, _, _⟩ := ins_get I.hok e
  obtain ⟨u, hu, ru⟩ := RelO.some_of (v := v) (o := mA f) (by rw [← l]; exact r f)
  exact get_map I.kIn O (c.get f) c.hd n hu (handed_of ru) (h u _ (I.tok _) ru)
theorem getmeth_ok {m : Str} {g : Addr} {pl : Sem Bool} {Q : Value × List Value → Shared → Prop} (I : Inv X pins σ H s) (e : H a = some (.ins C dx fs)) (c : Cls X.K C) (k : Meth X.K C m g) (l : fs.lookup m = none)
    (h : Q (.ref g, [.ref a]) s) : wpAny (model X.prog X.w) A (getMethod (.ref a) m pl) Q E s := by
  obtain ⟨mA, O, r, _, _, _⟩ := ins_get I.hok e
  have hn : mA m = none := RelO.none_of (by rw [← l]; exact r m)
  exact get_meth I.kIn O (c.get m) k.at_ k.fn hn h
theorem setattr_ok {y : V} {u : Value} {Q : Unit → Shared → Prop} (I : Inv X pins σ H s) (e : H a = some (.ins C dx fs)) (c : Cls X.K C) (n : NoAttr X.K C f) (hl : fs.length < 1000) (ry : RelV y u)
    (h : ∀ s', Inv X pins σ (upd H a (.ins C dx (putF f y fs))) s' → Q () s') : wpAny (model X.prog X.w) A (setAttr (.ref a) f u) Q E s := by
  obtain ⟨mA, O, r, wi, _, ho⟩ := ins_get I.hok e
  have hz : (fs.map (·.1)).length ≤ sizeLine := by rw [List.length_map, sizeLine_eq]; omega
  refine set_map I.kIn O c.sa c.po n.taker c.hd wi hz fun h' O' sb => h _ ?_
  have hd : ∃ o, h'.get? dx = some o := let ⟨o, _, _, e', _⟩ := O'.ns; ⟨o, e'⟩
  refine I.write (x := a) (e := dx) (by rw [e]; exact True.intro) (.inr ho) (fun b q hb z => (sb.2 b hb).trans z) hd ?_
  refine ⟨by rw [upd_ne O.ne]; exact ho, ?_, O.ne, O'.obj, _, O'.ns, fun g => ?_, fun g hg => ?_⟩
  · have := length_putF f y fs; omega
  · show RelO ((putF f y fs).lookup g) (if g = f then some u else mA g)
    rw [lookup_putF]
    by_cases q : g = f
    · rw [if_pos q, if_pos q]; exact ry
    · rw [if_neg q, if_neg q]; exact r g
  · by_cases q : g = f
    · rw [q]; exact (keys_putF f y fs).1
    · refine (keys_putF f y fs).2 g (wi g fun z => hg ?_)
      show (if g = f then some u else mA g) = none
      rw [if_neg q]; exact z
theorem Inv.made (I : Inv X pins σ H s) : Inv X pins σ (upd (upd H s.heap.objs.size (.own (s.heap.objs.size + 1))) (s.heap.objs.size + 1) (.ins C s.heap.objs.size []))
    { s with heap := (s.heap.push PySem.W.emptyDict).push (PySem.W.instObj C s.heap.objs.size) } := by
  have e1 : (s.heap.push PySem.W.emptyDict).get? s.heap.objs.size = some PySem.W.emptyDict := Heap.get?_push_size s.heap rfl
  have e2 : ((s.heap.push PySem.W.emptyDict).push (PySem.W.instObj C s.heap.objs.size)).get? (s.heap.objs.size + 1) = some (PySem.W.instObj C s.heap.objs.size) := by
    have := Heap.get?_push_size (s.heap.push PySem.W.emptyDict) (o := PySem.W.instObj C s.heap.objs.size) rfl
    rwa [Heap.size_push] at this
  have e3 : (s.heap.push PySem.W.emptyDict).Ns s.heap.objs.size (fun _ => none) := ⟨PySem.W.emptyDict, #[], _, e1, rfl, (fun e he => absurd he (by simp)), fun _ => rfl⟩
  have I1 := I.laid (a := s.heap.objs.size) (o := .own (s.heap.objs.size + 1)) (h' := s.heap.push PySem.W.emptyDict) (t' := s.toks) (fun b u q => Heap.get?_push_of_some _ q) (Nat.le_refl _) ⟨_, e1⟩
  refine I1.laid (a := s.heap.objs.size + 1) (o := .ins C s.heap.objs.size []) (t' := s.toks) (fun b u q => Heap.get?_push_of_some _ q) (Nat.le_of_eq (Heap.size_push _ _)) ?_
  have ne : s.heap.objs.size ≠ s.heap.objs.size + 1 := Nat.ne_of_lt (Nat.lt_succ_self _)
  refine ⟨by rw [upd_ne ne, upd_same], Nat.zero_le _, ne, e2, fun _ => none, (Heap.Ns1.of_empty e3).at fun o q => Heap.get?_push_of_some _ q, fun _ => True.intro, fun y hy => absurd rfl hy⟩
theorem attr_of {prog : Program} {w : World} {env : Env} {e : Expr} {f : Str} {pos : Pos} {s : Shared} {Q : Value → Shared → Prop} (hb : attributeBase e f env (eval e env) = eval e env)
    (h : wpAny (model prog w) A (eval e env) (fun o s₁ => wpAny (model prog w) A (getAttr o f true) Q E s₁) E s) : wpAny (model prog w) A (eval (.Attribute e f pos) env) Q E s :=
  Attribute_any_ h (by rw [arm_eval_Attribute, hb])
end
def tFld (K : PySem.W.Frag) (ta : TE) (f : Str) : TE := fun σ H Q => ta σ H fun x H1 => ∃ a C dx fs v, x = .ref a ∧ H1 a = some (.ins C dx fs) ∧ Cls K C ∧ NoAttr K C f ∧ fs.lookup f = some v ∧ Q v H1
def sFld (K : PySem.W.Frag) (ta tv : TE) (f : Str) : TS := fun D σ H => tv σ H fun y H1 => ta σ H1 fun x H2 => ∃ a C dx fs, x = .ref a ∧ H2 a = some (.ins C dx fs) ∧ Cls K C ∧ NoAttr K C f ∧ fs.length < 1000 ∧
  D.nx σ (upd H2 a (.ins C dx (putF f y fs)))
section
variable {X : Cx} {o e value : Expr} {f : Str} {pos pos' tpos : Pos} {ta tv : TE}
theorem pe_fld (he : PE X e ta) (hb : attributeBase e f X.env (eval e X.env) = eval e X.env) : PE X (.Attribute e f pos) (tFld X.K ta f) := by
  intro pins s σ H Q I h
  refine attr_of hb (thn (he pins s σ H _ I h) fun u s1 ⟨x, H1, I1, rx, a, C, dx, fs, v, ex, ea, c, n, l, q⟩ => ?_)
  subst ex
  obtain rfl : u = Value.ref a := rx
  exact getattr_ok I1 ea c n l fun u' s2 I2 ru => ⟨v, H1, I2, ru, q⟩
theorem ps_fld (ha : PE X o ta) (hv : PE X value tv) (hs : swapsWith value (some (.Attribute o f pos')) pos.line X.env = pure false) : PS X (.Assign [.Attribute o f pos'] value pos) (sFld X.K ta tv f) := by
  intro pins s σ H D I h
  refine plainObj_wpAny_Assign_Attribute (thn (hv pins s σ H _ I h) fun u s1 ⟨y, H1, I1, ry, q⟩ => thn (ha pins s1 σ H1 _ I1 q) fun ov s2 ⟨x, H2, I2, rx, a, C, dx, fs, ex, ea, c, n, l, q2⟩ => ?_) hs
  subst ex
  obtain rfl : ov = Value.ref a := rx
  exact setattr_ok I2 ea c n l ry fun s3 I3 => ⟨σ, _, I3, q2⟩
end
section
variable {X : Cx} {pins : List (Addr × Obj)} {σ : St} {H : Hp} {s : Shared} {A : Around} {E : Value → Shared → Prop} {Q : Value → Shared → Prop} {c : Value} {b : Bool}
inductive TyOf (K : PySem.W.Frag) (H : Hp) : V → Value → Prop where
  | non : TyOf K H .non (.type "NoneType")
  | bl (x : Bool) : TyOf K H (.bl x) (.type "bool")
  | int (i : Int) : TyOf K H (.int i) (.type "int")
  | str (x : Str) : TyOf K H (.str x) (.type "str")
  | flt (x : UInt64) : TyOf K H (.flt x) (.type "float")
  | lst {a : Addr} {xs : List V} (e : H a = some (.lst xs)) : TyOf K H (.ref a) (.type "list")
  | frz {a : Addr} {o : Obj} {xs : List V} (e : H a = some (.frz o (.lst xs))) : TyOf K H (.ref a) (.type "list")
  | tup {a : Addr} {xs : List V} (e : H a = some (.tup xs)) : TyOf K H (.ref a) (.type "tuple")
  | dK {a : Addr} {kvs : List (Key × V)} (e : H a = some (.dK kvs)) : TyOf K H (.ref a) (.type "dict")
  | dT {a : Addr} {kvs : List (List Key × V)} (e : H a = some (.dT kvs)) : TyOf K H (.ref a) (.type "dict")
  | ins {a C dx : Addr} {fs : List (Str × V)} (e : H a = some (.ins C dx fs)) (cl : Cls K C) (ha : PySem.W.findIn K (.ref C) "__class__" = some (some (.builtin "object.__class__")))
      (hn : PySem.W.specialIn K (.builtin "object.__class__") "__get__" = some (some (.builtin "getset_descriptor.__get__"))) (htk : PySem.W.takesIn K (.builtin "object.__class__") = some true)
      (hm : PySem.W.mroIn K C (.type "object") = some true) : TyOf K H (.ref a) (.ref C)
theorem isinst_ok {x : V} {u t : Value} (I : Inv X pins σ H s) (rx : RelV x u) (ty : TyOf X.K H x t) (e : PySem.W.kitOne X.K t c = some b) (h : ∀ tk, Q (.bool b) { s with toks := tk }) :
    wpAny (model X.prog X.w) A (call (.builtin "isinstance") [u, c]) Q E s := by
  cases ty with
  | non => cases (show u = Value.none from rx); exact PySem.W.kia_one PySem.W.kitx_none I.kIn True.intro e (fun z => nomatch z) h
  | bl y => cases (show u = Value.bool y from rx); exact PySem.W.kia_one PySem.W.kitx_bool I.kIn True.intro e (fun z => nomatch z) h
  | int i => obtain ⟨t, q⟩ := (show ∃ t, u = Value.int i t from rx); cases q; exact PySem.W.kia_one PySem.W.kitx_int I.kIn True.intro e (fun z => nomatch z) h
  | str y => obtain ⟨t, q⟩ := (show ∃ t, u = Value.str y t from rx); cases q; exact PySem.W.kia_one PySem.W.kitx_str I.kIn True.intro e (fun z => nomatch z) h
  | flt y => obtain ⟨t, q⟩ := (show ∃ t, u = Value.float y t from rx); cases q; exact PySem.W.kia_one PySem.W.kitx_float I.kIn True.intro e (fun z => nomatch z) h
  | @lst a xs ea =>
    cases (show u = Value.ref a from rx)
    obtain ⟨_, _, n, _, h1⟩ := (show ObjOk X.prog X.w H s.heap a (.lst xs) from I.hok a _ ea)
    exact PySem.W.kia_one PySem.W.kitx_list I.kIn ⟨_, h1, rfl⟩ e (fun z => nomatch z) h
  | @frz a ob xs ea =>
    cases (show u = Value.ref a from rx)
    obtain ⟨_, _, _, n, _, h1⟩ := (show ObjOk X.prog X.w H s.heap a (.frz ob (.lst xs)) from I.hok a _ ea)
    exact PySem.W.kia_one PySem.W.kitx_list I.kIn ⟨_, h1, rfl⟩ e (fun z => nomatch z) h
  | @tup a xs ea =>
    cases (show u = Value.ref a from rx)
    obtain ⟨_, _, _, p⟩ := (show ObjOk X.prog X.w H s.heap a (.tup xs) from I.hok a _ ea)
    obtain ⟨o, h1, h2, _⟩ := p
    exact PySem.W.kia_one PySem.W.kitx_tuple I.kIn ⟨o, h1, h2⟩ e (fun z => nomatch z) h
  | @dK a kvs ea =>
    cases (show u = Value.ref a from rx)
    obtain ⟨_, _, vs, _, p⟩ := (show ObjOk X.prog X.w H s.heap a (.dK kvs) from I.hok a _ ea)
    obtain ⟨o, es, ep, h1, h2, _⟩ := p
    exact PySem.W.kia_one PySem.W.kitx_dict I.kIn ⟨o, h1, h2.1⟩ e (fun z => nomatch z) h
  | @dT a kvs ea =>
    cases (show u = Value.ref a from rx)
    obtain ⟨_, _, xs, _, o, es, ep, h1, h2, _⟩ := (show ObjOk X.prog X.w H s.heap a (.dT kvs) from I.hok a _ ea)
    exact PySem.W.kia_one PySem.W.kitx_dict I.kIn ⟨o, h1, h2.1⟩ e (fun z => nomatch z) h
  | @ins a C dx fs ea cl ha hn htk hm =>
    cases (show u = Value.ref a from rx)
    obtain ⟨mA, O, _⟩ := ins_get I.hok ea
    obtain ⟨od, J, _⟩ := O.look
    exact PySem.W.kia_one (PySem.W.kitx_own (cl.get _) cl.hd ha hn htk hm) I.kIn J e (fun z => nomatch z) h
end
end L2
namespace L2
open PySem PySem.Spec PyProof.Rows
structure Room (k : Nat) (A : Around) : Prop where
  hd : A.handled = none
  dp : A.depth + 3 * k + 5 < recursionLimit
  un : A.units + 16 * k + 200 < cLine
  gd : A.guards = some []
theorem Room.mono {j k : Nat} {A : Around} (r : Room k A) (h : j ≤ k) : Room j A := ⟨r.hd, by have := r.dp; omega, by have := r.un; omega, r.gd⟩
theorem Room.deeper {k : Nat} {A : Around} (r : Room (k + 1) A) (env : Env) : Room k (A.deeper env) :=
  ⟨r.hd, by have := r.dp; show A.depth + 1 + 3 * k + 5 < _; omega, by have := r.un; show A.units + 3 + 16 * k + 200 < _; omega, r.gd⟩
theorem Room.in1 {k : Nat} {A : Around} (r : Room (k + 1) A) : Room k A.in1 :=
  ⟨r.hd, by have := r.dp; show A.depth + 3 * k + 5 < _; omega, by have := r.un; show A.units + 1 + 16 * k + 200 < _; omega, r.gd⟩
theorem make_depth {A : Around} {C : Addr} {us : List Value} {kw : List (Str × Value)} : (A.under (.builtin "type.__call__" ⟨.ref C :: us, kw⟩)).depth = A.depth + 1 := by
  first | rfl | simp [Around.under, Code.weight, Code.isCreation, Code.isGuard, Code.isCaller, Code.frames, Code.isFrame, guardIds]
theorem make_units {A : Around} {C : Addr} {us : List Value} {kw : List (Str × Value)} : (A.under (.builtin "type.__call__" ⟨.ref C :: us, kw⟩)).units = A.units + 1 := by
  first | rfl | simp [Around.under, Code.cUnits, Code.frames, Code.isFrame]
theorem Room.make {k : Nat} {A : Around} (r : Room (k + 1) A) (C : Addr) (us : List Value) (kw : List (Str × Value)) : Room k (A.under (.builtin "type.__call__" ⟨.ref C :: us, kw⟩)) :=
  ⟨r.hd, by have := r.dp; rw [make_depth]; omega, by have := r.un; rw [make_units]; omega, by have := r.gd; first | exact this | simpa [Around.under, Code.guards, Code.isGuard, pushGuards, guardIds] using this⟩
theorem Room.depth {k : Nat} {A : Around} (r : Room k A) : A.depth < recursionLimit := by have := r.dp; omega
theorem Room.units {k : Nat} {A : Around} (r : Room k A) : A.units + 64 < cLine := by have := r.un; omega
theorem Room.units0 {k : Nat} {A : Around} (r : Room k A) : A.units < cLine := by have := r.un; omega
def tNil : TA := fun _ H Q => Q [] H
def tCons (ta : TE) (tr : TA) : TA := fun σ H Q => ta σ H fun x H1 => tr σ H1 fun xs H2 => Q (x :: xs) H2
section
variable {X : Cx} {e : Expr} {es : List Expr} {te : TE} {t : TA} {pos : Pos}
theorem pa_nil : PA X [] tNil := fun _ _ _ _ H Q I h => Calls.spliced_nil ⟨[], H, I, .nil, h⟩
theorem pa_cons (ha : PE X e te) (hr : PA X es t) (hs : starEach (e :: es) X.env = (false, eval e X.env) :: starEach es X.env := by rfl) : PA X (e :: es) (tCons te t) := by
  intro pos pins s σ H Q I h
  rw [hs]
  show wpAny _ _ (spliced ((false, eval e X.env) :: backTo pos (starEach es X.env))) _ _ s
  refine Calls.spliced_cons (thn (ha pins s σ H _ I h) fun u s1 ⟨x, H1, I1, r1, q1⟩ => ?_)
  exact thn (hr pos pins s1 σ H1 _ I1 q1) fun us s2 ⟨xs, H2, I2, r2, q2⟩ => ⟨x :: xs, H2, I2, .cons r1 r2, q2⟩
def tTup (t : TA) : TE := fun σ H Q => t σ H fun xs H1 => xs.length ≤ sizeLine ∧ ∀ p, H1 p = none → Q (.ref p) (upd H1 p (.tup xs))
def tLst (t : TA) : TE := fun σ H Q => t σ H fun xs H1 => xs.length ≤ sizeLine ∧ ∀ p, H1 p = none → Q (.ref p) (upd H1 p (.lst xs))
end
abbrev Sp := List V → Hp → VK → XK → Prop
abbrev CXT := List Env → Hp → Shared → XK → Value → Shared → Prop
structure Env0 (P : Program) (w : World) (K : PySem.W.Frag) (mg : Str → Option Value) (base : Heap) (A : Around) (outer : List Env) (s : Shared) (H : Hp) : Prop where
  frames : A.frames = some outer
  mod : Mod K mg base
  bs : ∀ b o, base.get? b = some o → s.heap.get? b = some o ∧ H b = none
  bsz : base.objs.size ≤ s.heap.objs.size
  funs : s.heap.FunFrames base outer
  frf : ∀ b ∈ frs outer, H b = none
  hok : HOk P w H s.heap
  bare : AllBare s.gens
def CE (outer : List Env) (P : Program) (w : World) (H : Hp) (s : Shared) (Q : VK) (u : Value) (s' : Shared) : Prop :=
  ∃ v H', s'.os = s.os ∧ AllBare s'.gens ∧ Un (frs outer) [] H H' s.heap s'.heap ∧ HOk P w H' s'.heap ∧ RelV v u ∧ Q v H'
def CR (CX : CXT) (outer : List Env) (P : Program) (w : World) (H : Hp) (s : Shared) (Q : VK) (E : XK) (r : Result) (s' : Shared) : Prop :=
  match r with
  | .ok (.ret u) => CE outer P w H s Q u s'
  | .ok _ => False
  | .error e => CX outer H s E e s'
structure FnOk (P : Program) (w : World) (K : PySem.W.Frag) (mg : Str → Option Value) (base : Heap) (CX : CXT) (k : Nat) (f : Addr) (fd : FuncData) (ps : List Str) (sp : Sp) : Prop where
  len : ∀ vs H Q E, sp vs H Q E → vs.length = ps.length
  run : ∀ (A : Around) (outer : List Env) (s : Shared) (H : Hp) (args : Args) (us : List Value) (vs : List V) (Q : VK) (E : XK), Room k A → Env0 P w K mg base A outer s H → BindsTo s fd args (ps.zip us) → Vals vs us → sp vs H Q E →
    codeAny (model P w) A (.call (.ref f) args) (CR CX outer P w H s Q E) s
theorem FnOk.mono {P : Program} {w : World} {K : PySem.W.Frag} {mg : Str → Option Value} {base : Heap} {CX : CXT} {j k : Nat} {f : Addr} {fd : FuncData} {ps : List Str} {sp : Sp} (F : FnOk P w K mg base CX j f fd ps sp) (h : j ≤ k) :
    FnOk P w K mg base CX k f fd ps sp := ⟨F.len, fun A outer s H args us vs Q E hr => F.run A outer s H args us vs Q E (hr.mono h)⟩
theorem FnOk.imp {P : Program} {w : World} {K : PySem.W.Frag} {mg : Str → Option Value} {base : Heap} {CX : CXT} {k : Nat} {f : Addr} {fd : FuncData} {ps : List Str} {sp sp' : Sp} (F : FnOk P w K mg base CX k f fd ps sp)
    (h : ∀ vs H Q E, sp' vs H Q E → sp vs H Q E) : FnOk P w K mg base CX k f fd ps sp' :=
  ⟨fun vs H Q E q => F.len vs H Q E (h _ _ _ _ q), fun A outer s H args us vs Q E hr he hb hv hs => F.run A outer s H args us vs Q E hr he hb hv (h _ _ _ _ hs)⟩
theorem Env0.make {P : Program} {w : World} {K : PySem.W.Frag} {mg : Str → Option Value} {base : Heap} {A : Around} {outer : List Env} {s : Shared} {H : Hp} (e : Env0 P w K mg base A outer s H) (C : Addr) (us : List Value) (kw : List (Str × Value)) :
    Env0 P w K mg base (A.under (.builtin "type.__call__" ⟨.ref C :: us, kw⟩)) outer s H := ⟨by first | exact e.frames | (simpa [Around.under, Code.envs, Code.isFrame, pushEnvs] using e.frames), e.mod, e.bs, e.bsz, e.funs, e.frf, e.hok, e.bare⟩
theorem Env0.in1 {P : Program} {w : World} {K : PySem.W.Frag} {mg : Str → Option Value} {base : Heap} {A : Around} {outer : List Env} {s : Shared} {H : Hp} (e : Env0 P w K mg base A outer s H) :
    Env0 P w K mg base A.in1 outer s H := ⟨e.frames, e.mod, e.bs, e.bsz, e.funs, e.frf, e.hok, e.bare⟩
section
variable {X : Cx} {pins : List (Addr × Obj)} {σ : St} {H : Hp} {s s' : Shared}
theorem Inv.env0 (I : Inv X pins σ H s) : Env0 X.prog X.w X.K X.mg X.base X.A X.stack s H :=
  ⟨I.ok.frames, I.ok.mod, I.bs, Nat.le_trans I.ok.bsz I.sz, I.stack, I.stkFree, I.hok, I.bare⟩
theorem Inv.after {Q : VK} {u : Value} (I : Inv X pins σ H s) (h : CE X.stack X.prog X.w H s Q u s') : EP X pins σ Q u s' := by
  obtain ⟨v, H', os, bare, un, hok, r, q⟩ := h
  obtain ⟨hh, g, d, t, os'⟩ := s'
  obtain rfl : os' = s.os := os
  exact ⟨v, H', I.call (h' := hh) (g' := g) (d' := d) (t' := t) (ch := []) un hok bare (fun b z => absurd z (by simp)), r, q⟩
end
def tCall (sp : Sp) (dvs : List V) (E : XK) (t : TA) : TE := fun σ H Q => t σ H fun vs H1 => sp (vs ++ dvs) H1 Q E
def tMeth (C : Addr) (m : Str) (sp : Sp) (dvs : List V) (E : XK) (ta : TE) (t : TA) : TE := fun σ H Q => ta σ H fun x H1 => ∃ a dx fs, x = .ref a ∧ H1 a = some (.ins C dx fs) ∧ fs.lookup m = none ∧
  t σ H1 fun vs H2 => sp (x :: (vs ++ dvs)) H2 Q E
def Binds (K : PySem.W.Frag) (fd : FuncData) (ps : List Str) (ds : List Value) : Prop :=
  ∀ (s : Shared) (us : List Value), K.In s.heap → (us ++ ds).length = ps.length → BindsTo s fd ⟨us, []⟩ (ps.zip (us ++ ds))
theorem Binds.all {K : PySem.W.Frag} {fd : FuncData} {ps : List Str} (h : ∀ us : List Value, us.length = ps.length → bindArgs fd ⟨us, []⟩ = pure (ps.zip us)) : Binds K fd ps [] := fun s us _ hl => by
  rw [List.append_nil] at hl ⊢
  exact .of_eq (h us hl)
def Passes (CX : CXT) (X : Cx) (E : XK) : Prop := ∀ (pins : List (Addr × Obj)) (σ : St) (H : Hp) (s : Shared) (e : Value) (s' : Shared), Inv X pins σ H s → CX X.stack H s E e s' → X.xe e s'
section
variable {X : Cx} {CX : CXT} {k : Nat} {f C : Addr} {fd : FuncData} {ps : List Str} {sp : Sp} {dvs : List V} {ds : List Value} {E : XK} {x m : Str} {p pos apos : Pos} {e o : Expr} {es : List Expr} {ta : TE} {t : TA}
theorem run_fn {pins : List (Addr × Obj)} {σ : St} {H : Hp} {s : Shared} {Q : VK} {us : List Value} {vs : List V} (F : FnOk X.prog X.w X.K X.mg X.base CX k f fd ps sp) (hr : Room k X.A) (hb : Binds X.K fd ps ds) (hd : Vals dvs ds) (hx : Passes CX X E)
    (I : Inv X pins σ H s) (r : Vals vs us) (h : sp (vs ++ dvs) H Q E) : wpAny (model X.prog X.w) X.A (call (.ref f) us) (EP X pins σ Q) X.xe s := by
  have r2 : Vals (vs ++ dvs) (us ++ ds) := r.append hd
  have hl : (us ++ ds).length = ps.length := by rw [← r2.length]; exact F.len _ _ _ _ h
  refine wpAny_call (codeAny_mono (F.run X.A X.stack s H ⟨us, []⟩ (us ++ ds) (vs ++ dvs) Q E hr I.env0 (hb s us I.kIn hl) r2 h) fun r s' hq => ?_)
  cases r with
  | error e => exact hx pins σ H s e s' I hq
  | ok fl =>
    cases fl with
    | ret u => exact I.after hq
    | next => exact False.elim hq
    | brk => exact False.elim hq
    | cont => exact False.elim hq
theorem pe_call (F : FnOk X.prog X.w X.K X.mg X.base CX k f fd ps sp) (hr : Room k X.A) (hg : Gl X x) (hm : X.mg x = some (.ref f)) (hk : PySem.W.keepIn X.K (.ref f) = true) (hb : Binds X.K fd ps ds) (hd : Vals dvs ds) (hx : Passes CX X E)
    (ha : PA X (e :: es) t) (hdb : (x == ("__debug__" : Str)) = false := by decide) (he : starEach (e :: es) X.env = (false, eval e X.env) :: starEach es X.env := by rfl) (hpl : (backTo pos (starEach es X.env)).any (·.1) = false := by rfl) :
    PE X (.Call (.Name x p) (e :: es) [] pos) (tCall sp dvs E t) := by
  intro pins s σ H Q I h
  refine wpAny_Call_Name_kw (ld_glob I hg hm ?_ hdb)
  refine PySem.W.callWith_K (h₀ := X.base) I.ok.mod.kin hk (thn (ha pos pins s σ H _ I h) fun us s1 ⟨vs, H1, I1, r, q⟩ => ⟨I1.kIn, ?_⟩) he hpl
  exact run_fn F hr hb hd hx I1 r q
theorem pe_meth {pl : Sem Bool} (he : PE X o ta) (c : Cls X.K C) (hm : Meth X.K C m f) (F : FnOk X.prog X.w X.K X.mg X.base CX k f fd ps sp) (hr : Room k X.A) (hb : Binds X.K fd ps ds) (hd : Vals dvs ds) (hx : Passes CX X E) (ha : PA X (e :: es) t)
    (hst : starEach (e :: es) X.env = (false, eval e X.env) :: starEach es X.env := by rfl) (hpl : (backTo pos (starEach es X.env)).any (·.1) = false := by rfl)
    (ht : eval (.Call (.Attribute o m apos) (e :: es) [] pos) X.env = (do
      let ov ← eval o X.env
      standAt apos.atName
      let (f, first) ← holding [ov] (getMethod ov m pl)
      callWith pos f first (backTo pos (starEach (e :: es) X.env)) (backToKw pos (keywordEach [] X.env))) := by rfl) :
    PE X (.Call (.Attribute o m apos) (e :: es) [] pos) (tMeth C m sp dvs E ta t) := by
  intro pins s σ H Q I h
  refine PySem.W.methodCall_KW (pl := pl) (thn (he pins s σ H _ I h) fun u s1 ⟨x, H1, I1, rx, a, dx, fs, ex, ea, l, q⟩ => ?_) ht
  subst ex
  obtain rfl : u = Value.ref a := rx
  refine getmeth_ok I1 ea c hm l ?_
  refine PySem.W.callWith_K (first := [.ref a]) (h₀ := X.base) I.ok.mod.kin hm.kp (thn (ha pos pins s1 σ H1 _ I1 q) fun us s2 ⟨vs, H2, I2, r, q2⟩ => ⟨I2.kIn, ?_⟩) hst hpl
  exact run_fn (us := .ref a :: us) (vs := .ref a :: vs) F hr hb hd hx I2 (.cons rfl r) q2
theorem pe_meth0 {pl : Sem Bool} (he : PE X o ta) (c : Cls X.K C) (hm : Meth X.K C m f) (F : FnOk X.prog X.w X.K X.mg X.base CX k f fd ps sp) (hr : Room k X.A) (hb : Binds X.K fd ps ds) (hd : Vals dvs ds) (hx : Passes CX X E)
    (ht : eval (.Call (.Attribute o m apos) [] [] pos) X.env = (do
      let ov ← eval o X.env
      standAt apos.atName
      let (f, first) ← holding [ov] (getMethod ov m pl)
      callWith pos f first (backTo pos (starEach [] X.env)) (backToKw pos (keywordEach [] X.env))) := by rfl) :
    PE X (.Call (.Attribute o m apos) [] [] pos) (tMeth C m sp dvs E ta tNil) := by
  intro pins s σ H Q I h
  refine PySem.W.methodCall_KW (pl := pl) (thn (he pins s σ H _ I h) fun u s1 ⟨x, H1, I1, rx, a, dx, fs, ex, ea, l, q⟩ => ?_) ht
  subst ex
  obtain rfl : u = Value.ref a := rx
  refine getmeth_ok I1 ea c hm l ?_
  exact PySem.W.callWith_K0 (first := [.ref a]) I1.kIn hm.kp (run_fn (us := [.ref a]) (vs := [.ref a]) F hr hb hd hx I1 (.cons rfl .nil) q)
structure Mk (K : PySem.W.Frag) (C f : Addr) : Prop where
  makes : PySem.W.makesIn K C = true
  init : PySem.W.findIn K (.ref C) "__init__" = some (some (.ref f))
  fn : PySem.W.isFn K (.ref f) = true
  kp : PySem.W.keepIn K (.ref C) = true
end
def PK (X : Cx) (kws : List Keyword) (t : TA) : Prop :=
  ∀ (pos : Pos) (pins : List (Addr × Obj)) (s : Shared) (σ : St) (H : Hp) (Q : List V → Hp → Prop), Inv X pins σ H s → t σ H Q → wpAny (model X.prog X.w) X.A (evalAll ((backToKw pos (keywordEach kws X.env)).map (·.2))) (AP X pins σ Q) X.xe s
section
variable {X : Cx} {CX : CXT} {k : Nat} {f C : Addr} {fd : FuncData} {ps ks : List Str} {sp : Sp} {E : XK} {x m : Str} {p pos apos kpos : Pos} {e o : Expr} {es : List Expr} {kws : List Keyword} {te ta : TE} {t tk : TA} {nm : Option Str}
structure KBinds (K : PySem.W.Frag) (fd : FuncData) (ps ks : List Str) (g : List Value → List Value → List Value) (gV : List V → List V → List V) : Prop where
  to : ∀ (s : Shared) (us ws : List Value), K.In s.heap → (g us ws).length = ps.length → BindsTo s fd ⟨us, ks.zip ws⟩ (ps.zip (g us ws))
  rel : ∀ {vs : List V} {us : List Value} {zs : List V} {ws : List Value}, Vals vs us → Vals zs ws → Vals (gV vs zs) (g us ws)
variable {g : List Value → List Value → List Value} {gV : List V → List V → List V}
end
structure FnScope (N P : List Str) (sc : Scope) : Prop where
  kind : sc.kind = .function
  co : sc.isCoroutine = false
  gen : sc.isGenerator = false
  nd : N.Nodup
  pre : N.take P.length = P
  par : ∀ x ∈ P, sc.names.lookup x = some .local ∨ sc.names.lookup x = some .cell
  nofree : ∀ y ∈ sc.names, y.2 ≠ .free
theorem bindL_out {kindOf : Str → Option NameKind} {x : Str} : ∀ {binds : List (Str × Value)} {m : Str → Option Value}, (∀ v, (x, v) ∉ binds) → bindL kindOf binds m x = m x
  | [], _, _ => rfl
  | (n, v) :: r, m, h => by
    unfold bindL
    rw [bindL_out fun w hw => h w (List.mem_cons_of_mem _ hw)]
    split
    · have : x ≠ n := by rintro rfl; exact h v List.mem_cons_self
      simp [this]
    · rfl
theorem bindC_out {kindOf : Str → Option NameKind} {x : Str} : ∀ {binds : List (Str × Value)} {m : Str → Option Value}, (∀ v, (x, v) ∉ binds) → bindC kindOf binds m x = m x
  | [], _, _ => rfl
  | (n, v) :: r, m, h => by
    unfold bindC
    rw [bindC_out fun w hw => h w (List.mem_cons_of_mem _ hw)]
    split
    · rfl
    · have : x ≠ n := by rintro rfl; exact h v List.mem_cons_self
      simp [this]
theorem bindL_get {kindOf : Str → Option NameKind} {x : Str} {v : Value} : ∀ {P : List Str} {vs : List Value} {i : Nat} {m : Str → Option Value}, P.Nodup → P[i]? = some x → vs[i]? = some v → kindOf x = some .local →
    bindL kindOf (P.zip vs) m x = some v
  | [], _, _, _, _, h, _, _ => by simp at h
  | _ :: _, [], _, _, _, _, h, _ => by simp at h
  | p :: P, w :: vs, 0, m, nd, h1, h2, hk => by
    simp at h1 h2; subst h1; subst h2
    show bindL kindOf ((p, w) :: P.zip vs) m p = _
    unfold bindL
    rw [bindL_out fun v hv => (List.nodup_cons.mp nd).1 (List.of_mem_zip hv).1, if_pos hk]
    simp
  | p :: P, w :: vs, i + 1, m, nd, h1, h2, hk => by
    show bindL kindOf ((p, w) :: P.zip vs) m x = _
    unfold bindL
    exact bindL_get (i := i) (List.nodup_cons.mp nd).2 (by simpa using h1) (by simpa using h2) hk
theorem bindC_get {kindOf : Str → Option NameKind} {x : Str} {v : Value} : ∀ {P : List Str} {vs : List Value} {i : Nat} {m : Str → Option Value}, P.Nodup → P[i]? = some x → vs[i]? = some v → kindOf x ≠ some .local →
    bindC kindOf (P.zip vs) m x = some v
  | [], _, _, _, _, h, _, _ => by simp at h
  | _ :: _, [], _, _, _, _, h, _ => by simp at h
  | p :: P, w :: vs, 0, m, nd, h1, h2, hk => by
    simp at h1 h2; subst h1; subst h2
    show bindC kindOf ((p, w) :: P.zip vs) m p = _
    unfold bindC
    rw [bindC_out fun v hv => (List.nodup_cons.mp nd).1 (List.of_mem_zip hv).1, if_neg hk]
    simp
  | p :: P, w :: vs, i + 1, m, nd, h1, h2, hk => by
    show bindC kindOf ((p, w) :: P.zip vs) m x = _
    unfold bindC
    exact bindC_get (i := i) (List.nodup_cons.mp nd).2 (by simpa using h1) (by simpa using h2) hk
def start (N : List Str) (vs : List V) : St := vs.map some ++ List.replicate (N.length - vs.length) none
def cxOf (CX : CXT) (P : Program) (w : World) (K : PySem.W.Frag) (mg : Str → Option Value) (base : Heap) (N : List Str) (qual : Str) (scope : Scope) (f : Addr) (cd : Value) (A : Around) (outer : List Env) (s : Shared) (H : Hp) (E : XK) : Cx where
  prog := P
  w := w
  K := K
  mg := mg
  base := base
  A := A.deeper (envOfC qual scope s.heap.objs.size f cd)
  N := N
  s₀ := s
  H₀ := H
  env := envOfC qual scope s.heap.objs.size f cd
  outer := outer
  stack := envOfC qual scope s.heap.objs.size f cd :: outer
  ex := []
  calm := true
  fn := fun _ => true
  pn := []
  xe := fun e s' => wpAny (model P w) (A.deeper (envOfC qual scope s.heap.objs.size f cd)) (leaving (envOfC qual scope s.heap.objs.size f cd) e) (fun _ s'' => CX outer H s E e s'') (fun e' s'' => CX outer H s E e' s'') s'
theorem cell_has {sc : Scope} {n : Nat} {x : Str} (h : sc.names.lookup x = some .cell) : ∃ c, (cellsFrom n sc.names []).lookup x = some c := by
  have q := PySem.W.cellsFrom_some sc.names n [] (.inl h)
  exact Option.isSome_iff_exists.mp q
theorem inv_start {CX : CXT} {P : Program} {w : World} {K : PySem.W.Frag} {mg : Str → Option Value} {base : Heap} {N ps : List Str} {qual : Str} {scope : Scope} {f : Addr} {cd : Value} {A : Around} {outer : List Env} {s s1 : Shared} {H : Hp} {E : XK} {us : List Value} {vs : List V}
    (S : FnScope N ps scope) (hd : A.handled = none) (e0 : Env0 P w K mg base A outer s H) (hl : vs.length = ps.length) (r : Vals vs us)
    (x : InCallC s s.heap.objs.size (bindL (envOfC qual scope s.heap.objs.size f cd).kindOf (ps.zip us) fun _ => none) (cellsFrom (s.heap.objs.size + 1) scope.names []) (bindC (envOfC qual scope s.heap.objs.size f cd).kindOf (ps.zip us) fun _ => none) s1) :
    Inv (cxOf CX P w K mg base N qual scope f cd A outer s H E) [] (start N vs) H s1 := by
  have hpl : ps.length ≤ N.length := by have := congrArg List.length S.pre; rw [List.length_take] at this; omega
  obtain ⟨h1, tk, rfl, hk⟩ := x.done
  have noA : ∀ b : Addr, b ∉ (cxOf CX P w K mg base N qual scope f cd A outer s H E).ex := fun b z => absurd (show b ∈ ([] : List Addr) from z) (by simp)
  refine ⟨⟨e0.mod, S.kind, rfl, rfl, Nat.le_refl _, fun y z c h1 h2 => ?_, fun y hy => ?_, fun y c _ h => ?_, fun _ => hd, Around.frames_deeper e0.frames, .inr ⟨rfl, rfl⟩, fun b z => absurd z (noA b), e0.bs, e0.bsz, fun b _ _ => noA b, fun b z => absurd z (noA b), e0.funs, e0.frf⟩,
    rfl, e0.bare, Un.kept hk, ⟨_, x.toInCall.ns, fun i y v h1 h2 h3 => ?_⟩, fun y c h => ⟨_, x.cell y c h⟩, e0.hok.fresh (Nat.le_refl _), fun y c h => ?_, fun p hp => absurd (show p ∈ ([] : List (Addr × Obj)) from hp) (by simp), e0.hok.kept hk, ?_⟩
  · exact name_of_addr x.apart (PySem.mem_of_lookup h1) (PySem.mem_of_lookup h2)
  · have hy : scope.names.lookup y = some .cell ∨ scope.names.lookup y = some .free := hy
    rcases hy with hy | hy
    · exact cell_has hy
    · exact absurd rfl (S.nofree _ (PySem.mem_of_lookup hy))
  · exact Nat.le_of_lt (x.above y c (PySem.mem_of_lookup h))
  · have hi : i < vs.length := by
      unfold start at h2
      by_cases hi : i < vs.length
      · exact hi
      · rw [List.getElem?_append_right (by simpa using hi)] at h2
        rw [List.getElem?_replicate] at h2
        split at h2 <;> cases h2
    have ha : vs[i]? = some v := by
      unfold start at h2
      rw [List.getElem?_append_left (by simpa using hi), List.getElem?_map] at h2
      cases e : vs[i]? with
      | none => rw [e] at h2; cases h2
      | some a => rw [e] at h2; cases h2; rfl
    obtain ⟨u, hu, rv⟩ := r.get ha
    have hp : ps[i]? = some y := by
      rw [← S.pre, List.getElem?_take_of_lt (by omega)]; exact h1
    have ndP : ps.Nodup := by rw [← S.pre]; exact S.nd.sublist (List.take_sublist _ _)
    refine ⟨u, rv, ?_⟩
    rcases S.par y (List.mem_of_getElem? hp) with k | k
    · exact .inl ⟨k, bindL_get ndP hp hu k⟩
    · obtain ⟨c, e⟩ := cell_has (n := s.heap.objs.size + 1) k
      refine .inr ⟨.inl k, c, e, ?_⟩
      have q := x.cell y c e
      rw [bindC_get ndP hp hu (by show scope.names.lookup y ≠ _; rw [k]; decide)] at q
      exact q
  · exact e0.hok.fresh (Nat.le_of_lt (x.above y c (PySem.mem_of_lookup h)))
  · unfold start
    show _ = N.length
    rw [List.length_append, List.length_map, List.length_replicate]
    omega
theorem fn_of {CX : CXT} {P : Program} {w : World} {K : PySem.W.Frag} {mg : Str → Option Value} {base : Heap} {k : Nat} {f : Addr} {name qual : Str} {params : Arguments} {body : List Stmt} {scope : Scope} {dV kV doc pm cdv ct oc : Value} {an od : Option Addr}
    {osl : Array (Option Value)} {N ps : List Str} {sp : Sp} (lk : K.lookup f = some ⟨oc, od, .func (PySem.W.fnOf name qual params body scope dV kV doc pm an cdv ct), osl⟩) (hcd : PySem.W.codeIn K cdv qual = true) (S : FnScope N ps scope)
    (len : ∀ vs H Q E, sp vs H Q E → vs.length = ps.length)
    (hbody : ∀ (A : Around) (outer : List Env) (s : Shared) (H : Hp) (vs : List V) (Q : VK) (E : XK), Room k (A.deeper (envOfC qual scope s.heap.objs.size f cdv)) → sp vs H Q E →
      ∃ t, PSs (cxOf CX P w K mg base N qual scope f cdv A outer s H E) body t ∧ t { nx := fun _ H' => Q .non H', rt := Q } (start N vs) H) :
    FnOk P w K mg base CX (k + 1) f (PySem.W.fnOf name qual params body scope dV kV doc pm an cdv ct) ps sp := by
  refine ⟨len, fun A outer s H args us vs Q E hr e0 hb r hsp => ?_⟩
  have hl := len _ _ _ _ hsp
  have KX : K.In s.heap := e0.mod.kin.keeps fun b o e => (e0.bs b o e).1
  have lim : s.heap.NoLimit := e0.mod.nolimit.keeps fun b o e => (e0.bs b o e).1
  have hkind : ∀ y ∈ ps.zip us, scope.names.lookup y.1 = some .local ∨ (scope.names.lookup y.1 = some .cell ∧ ((cellsFrom (s.heap.objs.size + 1) scope.names []).lookup y.1).isSome = true) := fun ⟨n, v⟩ hy => by
    rcases S.par n (List.of_mem_zip hy).1 with q | q
    · exact .inl q
    · exact .inr ⟨q, PySem.W.cellsFrom_some _ _ _ (.inl q)⟩
  refine codeAny_call_function hr.depth (KX _ _ lk) rfl S.co S.gen rfl (PySem.W.codeRec_of KX hcd) (hb _ _ _ _ ?_)
  refine wpAny_newFunctionEnv_cells S.kind hkind fun env he s1 x => ?_
  subst he
  refine ⟨lim.keeps x.toInCall.keep, codeAny_func ?_⟩
  obtain ⟨t, ht, hq⟩ := hbody A outer s H vs Q E (hr.deeper _) hsp
  have I : Inv (cxOf CX P w K mg base N qual scope f cdv A outer s H E) [] (start N vs) H s1 := inv_start S hr.hd e0 hl r x
  refine wpAny_mono (ht [] s1 (start N vs) H _ I hq) (fun fl s' hs => ?_) fun e s' hs => hs
  have fin : ∀ {σ' : St} {H' : Hp} {v : V} {u : Value}, Inv (cxOf CX P w K mg base N qual scope f cdv A outer s H E) [] σ' H' s' → RelV v u → Q v H' → CE outer P w H s Q u s' :=
    fun {σ' H' v u} J rv q => ⟨v, H', J.os, J.bare, J.base, J.hok, rv, q⟩
  cases fl with
  | ret u =>
    obtain ⟨v, σ', H', J, rv, q⟩ := hs
    exact fin J rv q
  | next =>
    obtain ⟨σ', H', J, q⟩ := hs
    exact fin (v := V.non) (u := Value.none) J rfl q
  | brk =>
    obtain ⟨_, _, _, q⟩ := hs
    exact False.elim q
  | cont =>
    obtain ⟨_, _, _, q⟩ := hs
    exact False.elim q
end L2
namespace L2
open PySem PySem.Spec PyProof.Rows
section
variable {X : Cx} {x : Str} {p pos : Pos} {e : Expr} {es : List Expr} {t : TA} {id T : String} {r : List V → Hp → VK → Prop}
def tCB (r : List V → Hp → VK → Prop) (t : TA) : TE := fun σ H Q => t σ H fun vs H1 => r vs H1 Q
theorem pe_callB (hc : CallR X (.builtin id) r) (hg : Gl X x) (hm : X.mg x = none) (hv : bootBuiltins x = some (.builtin id)) (ha : PA X (e :: es) t) (hn : x ≠ "__name__" := by decide) (hdb : (x == ("__debug__" : Str)) = false := by decide)
    (he : starEach (e :: es) X.env = (false, eval e X.env) :: starEach es X.env := by rfl) (hpl : (backTo pos (starEach es X.env)).any (·.1) = false := by rfl) : PE X (.Call (.Name x p) (e :: es) [] pos) (tCB r t) := by
  intro pins s σ H Q I h
  refine wpAny_Call_Name_kw (ld_blt I hg hm hv ?_ hn hdb)
  exact PyProof.Rows.callWith_builtin1 (thn (ha pos pins s σ H _ I h) fun us s1 ⟨vs, H1, I1, r1, q1⟩ => hc pins s1 σ H1 vs us Q I1 r1 q1) he hpl
theorem pe_callTy (hc : CallR X (.type T) r) (hg : Gl X x) (hm : X.mg x = none) (hv : bootBuiltins x = some (.type T)) (ha : PA X (e :: es) t) (hn : x ≠ "__name__" := by decide) (hdb : (x == ("__debug__" : Str)) = false := by decide)
    (he : starEach (e :: es) X.env = (false, eval e X.env) :: starEach es X.env := by rfl) (hpl : (backTo pos (starEach es X.env)).any (·.1) = false := by rfl) : PE X (.Call (.Name x p) (e :: es) [] pos) (tCB r t) := by
  intro pins s σ H Q I h
  refine wpAny_Call_Name_kw (ld_blt I hg hm hv ?_ hn hdb)
  exact PyProof.Rows.callWith_type1 (thn (ha pos pins s σ H _ I h) fun us s1 ⟨vs, H1, I1, r1, q1⟩ => hc pins s1 σ H1 vs us Q I1 r1 q1) he hpl
end
end L2
namespace HT
open PySem PyProof.Rows
section
open PySem.SeqAt
open PySem.AutoSeq1 (wpAny_loadPart')
open PySem.MeetsSeq PySem.MeetsSeq2 PySem.MeetsSeq3
end
section
variable {prog : Program} {w : World} {A : Around} {E : Value → Shared → Prop} {s : Shared}
theorem cat_tup {t b : Addr} {vs ws : List Value} {Q : Value → Shared → Prop} (ht : IsTup s.heap t vs.toArray) (hb : IsTup s.heap b ws.toArray) (hv : vs ≠ [])
    (h1 : ws = [] → Q (.ref t) s) (h2 : ws ≠ [] → Q (.ref s.heap.objs.size) { s with heap := s.heap.push { cls := .type "tuple", data := .seq (vs ++ ws).toArray } })
    (hsz : vs.length + ws.length ≤ sizeLine) : wpAny (model prog w) A (binaryOp .Add (.ref t) (.ref b)) Q E s := by
  obtain ⟨⟨cls, dd, data, sl⟩, ho, hc, n, hd⟩ := id ht
  obtain ⟨⟨cls2, dd2, data2, sl2⟩, ho2, hc2, n2, hd2⟩ := id hb
  simp only at hc hd hc2 hd2
  subst hc hd hc2 hd2
  have e : vs.toArray ++ ws.toArray = (vs ++ ws).toArray := by simp
  by_cases hw : ws = []
  · exact concat_meets ⟨_, ho, rfl⟩ ⟨_, ho2, rfl⟩ noFill_tuple_add seq_tuple_add PySem.F.slot_tuple_add PySem.F.entry_tuple_add (PySem.F.args_tuple_add_2 _ _)
      (tuple_addW1 t b vs.toArray ws.toArray n n2 dd dd2 sl sl2 (by simpa using hv) (by simp [hw])) ⟨ho, ho2, h1 hw⟩
  · refine concat_meets ⟨_, ho, rfl⟩ ⟨_, ho2, rfl⟩ noFill_tuple_add seq_tuple_add PySem.F.slot_tuple_add PySem.F.entry_tuple_add (PySem.F.args_tuple_add_2 _ _)
      (tuple_addW2 t b vs.toArray ws.toArray n n2 dd dd2 sl sl2 (by simpa using hv) (by simpa using hw) (by rw [List.size_toArray, List.size_toArray]; exact hsz)) ⟨ho, ho2, ?_⟩
    rw [e]
    exact h2 hw
def sIx (n d : Nat) : Option Int → Nat
  | none => d
  | some v => if v < 0 then (v + (n : Int)).toNat else min v.toNat n
theorem sIx_none (n d : Nat) : sIx n d none = d := rfl
theorem sIx_nat (n d k : Nat) : sIx n d (some (k : Int)) = min k n := by
  show (if (k : Int) < 0 then ((k : Int) + (n : Int)).toNat else min (k : Int).toNat n) = min k n
  rw [if_neg (by omega), Int.toNat_natCast]
theorem sIx_le (n d : Nat) (hd : d ≤ n) (o : Option Int) : sIx n d o ≤ n := by
  cases o with
  | none => exact hd
  | some v =>
    show (if v < 0 then (v + (n : Int)).toNat else min v.toNat n) ≤ n
    by_cases hv : v < 0
    · rw [if_pos hv]; omega
    · rw [if_neg hv]; exact Nat.min_le_right _ _
theorem clip_eq (v : Int) (n d : Nat) : (if v < 0 then max (v + (n : Int)) 0 else min v (n : Int)) = ((sIx n d (some v) : Nat) : Int) := by
  show (if v < 0 then max (v + (n : Int)) 0 else min v (n : Int)) = (((if v < 0 then (v + (n : Int)).toNat else min v.toNat n) : Nat) : Int)
  by_cases hv : v < 0
  · simp only [if_pos hv]; omega
  · simp only [if_neg hv]; omega
theorem adjust_gen (lo hi : Option Int) (n : Nat) : Builtin.Slice.sliceAdjust lo hi 1 (n : Int) = (((sIx n 0 lo : Nat) : Int), ((sIx n n hi : Nat) : Int)) := by
  have h1 : ¬ ((1 : Int) < 0) := by omega
  unfold Builtin.Slice.sliceAdjust
  simp only [h1, if_false]
  refine Prod.ext ?_ ?_
  · cases lo with
    | none => rfl
    | some v => exact clip_eq v n 0
  · cases hi with
    | none => rfl
    | some v => exact clip_eq v n n
theorem places_gen (i j : Nat) : Builtin.Slice.slicePlaces (i : Int) (j : Int) 1 = j - i := by
  unfold Builtin.Slice.slicePlaces
  have h1 : (1 : Int) > 0 := by omega
  simp only [h1, if_true, Int.ediv_one]
  split <;> omega
theorem slicePart_ {v : Value} {o : Option Int} {Q : Option Int → Shared → Prop} (p : IsPart v o) (h : Q o s) : wpAny (model prog w) A (Builtin.Slice.slicePartIndex v) Q E s := by
  cases p with
  | none => exact slicePart_none h
  | int i t => exact slicePart_int h
theorem sliceApplied_gen {sl : Addr} {vl vu : Value} {lo hi : Option Int} {n : Nat} {Q : Int × Int × Nat → Shared → Prop} (hs : s.heap.IsSliceOf sl vl vu .none) (pl : IsPart vl lo) (pu : IsPart vu hi)
    (h : Q (((sIx n 0 lo : Nat) : Int), 1, sIx n n hi - sIx n 0 lo) s) : wpAny (model prog w) A (Builtin.Slice.sliceApplied (.ref sl) (pure (n : Int))) Q E s := by
  obtain ⟨os, hos, hcs, hds⟩ := id hs
  unfold Builtin.Slice.sliceApplied Builtin.Slice.sliceFields
  refine wpAny_bind (wpAny_bind (wpAny_field hos hds (x := vl) rfl (wpAny_bind (wpAny_field hos hds (x := vu) rfl (wpAny_bind (wpAny_field hos hds (x := .none) rfl (wpAny_pure ?_)))))))
  refine wpAny_bind (slicePart_none ?_)
  show wpAny _ _ (if ((1 : Int) == 0) = true then _ else _) _ _ s
  rw [if_neg (by decide)]
  refine wpAny_bind (slicePart_ pl (wpAny_bind (slicePart_ pu (wpAny_bind (wpAny_pure ?_)))))
  show wpAny _ _ (match Builtin.Slice.sliceAdjust lo hi 1 (n : Int) with | (lo, hi) => pure (lo, (1 : Int), Builtin.Slice.slicePlaces lo hi 1)) _ _ s
  rw [adjust_gen lo hi n]
  show wpAny _ _ (pure (((sIx n 0 lo : Nat) : Int), (1 : Int), Builtin.Slice.slicePlaces ((sIx n 0 lo : Nat) : Int) ((sIx n n hi : Nat) : Int) 1)) _ _ s
  rw [places_gen]
  exact wpAny_pure h
theorem pick_gen (xs : Array Value) (i k : Nat) : ((List.range k).filterMap fun (m : Nat) => xs[((i : Int) + (m : Int) * 1).toNat]?).toArray = ((xs.toList.drop i).take k).toArray := by
  have e : (fun (m : Nat) => xs[((i : Int) + (m : Int) * 1).toNat]?) = fun m => xs[i + m]? := by
    funext m
    have : ((i : Int) + (m : Int) * 1).toNat = i + m := by omega
    rw [this]
  rw [e]
  have := pick_run xs i k
  rw [List.filterMap_map] at this
  have e2 : ((fun x => xs[x]?) ∘ fun x => i + x) = fun m => xs[i + m]? := rfl
  rw [e2] at this
  rw [this]
theorem getItem_tuple_cut {t sl : Addr} {items : Array Value} {vl vu : Value} {lo hi : Option Int} {Q : Value → Shared → Prop} (ht : IsTup s.heap t items) (hs : s.heap.IsSliceOf sl vl vu .none) (pl : IsPart vl lo) (pu : IsPart vu hi)
    (hw : ¬ (sIx items.size 0 lo = 0 ∧ sIx items.size items.size hi = items.size))
    (h : Q (.ref s.heap.objs.size) { s with heap := s.heap.push { cls := .type "tuple", data := .seq ((items.toList.drop (sIx items.size 0 lo)).take (sIx items.size items.size hi - sIx items.size 0 lo)).toArray } })
    (hsz : items.size ≤ sizeLine) : wpAny (model prog w) A (getItem (.ref t) (.ref sl)) Q E s := by
  have htake : sizeOk (.seq ((items.toList.drop (sIx items.size 0 lo)).take (sIx items.size items.size hi - sIx items.size 0 lo)).toArray) := by
    show ((items.toList.drop (sIx items.size 0 lo)).take (sIx items.size items.size hi - sIx items.size 0 lo)).toArray.size ≤ sizeLine
    rw [List.size_toArray, List.length_take, List.length_drop, Array.length_toList]
    omega
  have hj : sIx items.size items.size hi ≤ items.size := sIx_le _ _ (Nat.le_refl _) hi
  obtain ⟨os, hos, hcs, hds⟩ := id hs
  have hTs : s.TypeIs (.ref sl) "slice" := ⟨os, hos, hcs⟩
  unfold getItem
  try with_reducible refine wpAny_holding ?_
  first | refine wpAny_bind (wpAny_pure ?_) | skip
  refine wpAny_bind (wpAny_sequenceKey ht.typeIs (by decide) ?_)
  refine wpAny_bind (wpAny_callSpecial?_slot (name := Str.ofString "__getitem__") ht.typeIs PyProof.Rows.slot_tuple_getitem
    (wpAny_call_entry PyProof.Rows.slot_tuple_getitem ht.typeIs entry_tuple_getitem ?_ (args_tuple_getitem _ _)))
  show wpAny _ _ (Builtin.Tuple.tupleItemsOf (.ref t) >>= _) _ _ s
  refine wpAny_bind (tupleItemsOf_ ht ?_)
  refine wpAny_bind (wpAny_typeOf hTs ?_)
  rw [if_pos (by decide)]
  refine wpAny_bind (sliceApplied_gen hs pl pu ?_)
  have hno : ¬ ((((sIx items.size 0 lo : Nat) : Int) == 0 && (1 : Int) == 1 && (sIx items.size items.size hi - sIx items.size 0 lo) == items.size) = true) := by
    intro q
    rw [Bool.and_eq_true, Bool.and_eq_true] at q
    have q1 : ((sIx items.size 0 lo : Nat) : Int) = 0 := eq_of_beq q.1.1
    have q2 : sIx items.size items.size hi - sIx items.size 0 lo = items.size := eq_of_beq q.2
    exact hw ⟨by omega, by omega⟩
  show wpAny _ _ (if (((sIx items.size 0 lo : Nat) : Int) == 0 && (1 : Int) == 1 && (sIx items.size items.size hi - sIx items.size 0 lo) == items.size) = true then _ else _) _ _ s
  rw [if_neg hno, pick_gen]
  first
    | exact wpAny_bind (m := Builtin.Tuple.tupleExact _) (wpAny_newObj_type (wpAny_pure ⟨_, rfl, wpAny_pure h⟩) htake)
    | exact wpAny_bind (m := Builtin.Tuple.tupleExact _) (wpAny_newObj_type (wpAny_bind (wpAny_pure (wpAny_pure ⟨_, rfl, wpAny_pure h⟩))) htake)
    | exact wpAny_bind (wpAny_bind (m := Builtin.Tuple.tupleExact _) (wpAny_newObj_type (wpAny_pure (wpAny_pure ⟨_, rfl, wpAny_pure h⟩)) htake))
    | exact wpAny_bind (wpAny_bind (m := Builtin.Tuple.tupleExact _) (wpAny_newObj_type (wpAny_pure ⟨_, rfl, wpAny_pure h⟩) htake))
end
end HT
namespace L2
open PySem PySem.Spec PyProof.Rows
abbrev TO := St → Hp → (Option Int → Hp → Prop) → Prop
def PO (X : Cx) (e : Option Expr) (t : TO) : Prop :=
  ∀ (pins : List (Addr × Obj)) (s : Shared) (σ : St) (H : Hp) (Q : Option Int → Hp → Prop), Inv X pins σ H s → t σ H Q →
    wpAny (model X.prog X.w) X.A (evalPart e X.env) (fun u s' => ∃ o H', Inv X pins σ H' s' ∧ IsPart u o ∧ Q o H') X.xe s
def tNoPart : TO := fun _ H Q => Q none H
def tPart (t : TE) : TO := fun σ H Q => t σ H fun x H1 => ∃ i, x = .int i ∧ Q (some i) H1
section
variable {X : Cx} {e : Expr} {te : TE} {lo hi : Option Expr} {tl th : TO} {pos p2 : Pos}
theorem po_none : PO X none tNoPart := by
  intro pins s σ H Q I h
  rw [evalPart_none]
  exact wpAny_pure ⟨none, H, I, .none, h⟩
theorem po_some (h : PE X e te) : PO X (some e) (tPart te) := by
  intro pins s σ H Q I hw
  rw [evalPart_some]
  refine thn (h pins s σ H _ I hw) fun u s1 ⟨x, H1, I1, r1, q1⟩ => ?_
  obtain ⟨i, rfl, q⟩ := q1
  obtain ⟨t, rfl⟩ := r1
  exact ⟨some i, H1, I1, .int i t, q⟩
def SlR (X : Cx) (r : V → Option Int → Option Int → Hp → VK → Prop) : Prop :=
  ∀ (pins : List (Addr × Obj)) (s : Shared) (σ : St) (H : Hp) (x : V) (v vl vu : Value) (lo hi : Option Int) (sl : Addr) (Q : VK), Inv X pins σ H s → RelV x v → s.heap.IsSliceOf sl vl vu .none → IsPart vl lo → IsPart vu hi → r x lo hi H Q →
    ∃ T id, typeLookup (.type T) "__getitem__" = pure (some (.builtin id)) ∧ s.TypeIs v T ∧ wpAny (model X.prog X.w) X.A (getItem v (.ref sl)) (EP X pins σ Q) X.xe s
theorem SlR.or {r r' : V → Option Int → Option Int → Hp → VK → Prop} (h : SlR X r) (h' : SlR X r') : SlR X (fun x lo hi H Q => r x lo hi H Q ∨ r' x lo hi H Q) := by
  intro pins s σ H x v vl vu lo hi sl Q I rx hs pl pu q
  rcases q with q | q
  · exact h pins s σ H x v vl vu lo hi sl Q I rx hs pl pu q
  · exact h' pins s σ H x v vl vu lo hi sl Q I rx hs pl pu q
def tSl (r : V → Option Int → Option Int → Hp → VK → Prop) (te : TE) (tl th : TO) : TE := fun σ H Q => te σ H fun x H1 => tl σ H1 fun l H2 => th σ H2 fun u H3 => r x l u H3 Q
theorem pe_slice {r : V → Option Int → Option Int → Hp → VK → Prop} (hr : SlR X r) (he : PE X e te) (hl : PO X lo tl) (hu : PO X hi th) : PE X (.Subscript e (.Slice lo hi none p2) pos) (tSl r te tl th) := by
  intro pins s σ H Q I h
  refine Subscript_ (thn (he pins s σ H _ I h) fun v s1 ⟨x, H1, I1, r1, q1⟩ => ?_)
  refine wpAny_Slice (thn (hl pins s1 σ H1 _ I1 q1) fun vl s2 ⟨l, H2, I2, pl, q2⟩ => thn (hu pins s2 σ H2 _ I2 q2) fun vu s3 ⟨u, H3, I3, pu, q3⟩ => ?_)
  rw [evalPart_none]
  refine wpAny_pure ?_
  have I4 : Inv X pins σ H3 { s3 with heap := s3.heap.push { cls := .type "slice", data := .fields #[vl, vu, .none] } } := I3.kept (t' := s3.toks) fun b ob q => Heap.get?_push_of_some _ q
  obtain ⟨T, id, hT, ht, hg⟩ := hr pins { s3 with heap := s3.heap.push { cls := .type "slice", data := .fields #[vl, vu, .none] } } σ H3 x v vl vu l u s3.heap.objs.size Q I4 r1 (Heap.IsSliceOf.new ..) pl pu q3
  show wpAny (model X.prog X.w) X.A (subscriptTail e (.Slice lo hi none p2) v (.ref s3.heap.objs.size)) (EP X pins σ Q) X.xe { s3 with heap := s3.heap.push { cls := .type "slice", data := .fields #[vl, vu, .none] } }
  exact tail_any (ops := [.ref s3.heap.objs.size, v]) ht hT hg (by with_unfolding_all rfl)
def cutV (xs : List V) (lo hi : Option Int) : List V := (xs.drop (HT.sIx xs.length 0 lo)).take (HT.sIx xs.length xs.length hi - HT.sIx xs.length 0 lo)
theorem cutV_length (xs : List V) (lo hi : Option Int) : (cutV xs lo hi).length ≤ xs.length := by
  unfold cutV
  rw [List.length_take, List.length_drop]
  omega
def rSlT (K : PySem.W.Frag) : V → Option Int → Option Int → Hp → VK → Prop := fun x lo hi H Q => ∃ a xs, x = .ref a ∧ SqT K H a xs ∧
  ¬ (HT.sIx xs.length 0 lo = 0 ∧ HT.sIx xs.length xs.length hi = xs.length) ∧ ∀ p, H p = none → Q (.ref p) (upd H p (.tup (cutV xs lo hi)))
theorem sl_tup : SlR X (rSlT X.K) := by
  intro pins s σ H x v vl vu lo hi sl Q I rx hs pl pu h
  obtain ⟨a, xs, rfl, hx, hw, q⟩ := h
  cases rx
  obtain ⟨its, r, ht, hz⟩ := I.tuple hx
  have hlen : its.toArray.size = xs.length := by rw [List.size_toArray]; exact r.length.symm
  refine ⟨"tuple", _, PyProof.Rows.slot_tuple_getitem.lookup, ht.typeIs, ?_⟩
  refine HT.getItem_tuple_cut ht hs pl pu (by rw [hlen]; exact hw) ?_ (by rw [hlen]; exact hz)
  rw [hlen]
  refine ⟨.ref s.heap.objs.size, _, I.laid (t' := s.toks) (o := .tup (cutV xs lo hi)) (fun b ob q => Heap.get?_push_of_some _ q) (Nat.le_refl _) ?_, rfl, q _ (I.hok.fresh (Nat.le_refl _))⟩
  exact ⟨Nat.le_trans (cutV_length xs lo hi) hz, _, (r.drop (HT.sIx xs.length 0 lo)).take (HT.sIx xs.length xs.length hi - HT.sIx xs.length 0 lo), IsTup.new _ _⟩
def rCatT (K : PySem.W.Frag) : R2 := fun x y H Q => ∃ a b xs ys, x = .ref a ∧ y = .ref b ∧ SqT K H a xs ∧ SqT K H b ys ∧ xs ≠ [] ∧ xs.length + ys.length ≤ sizeLine ∧
  (ys = [] → Q (.ref a) H) ∧ (ys ≠ [] → ∀ p, H p = none → Q (.ref p) (upd H p (.tup (xs ++ ys))))
theorem Vals.nil_iff {xs : List V} {us : List Value} (r : Vals xs us) : us = [] ↔ xs = [] := by
  cases r with
  | nil => simp
  | cons _ _ => simp
theorem op_catT : OpR X (binaryOp .Add) (rCatT X.K) := by
  intro pins s σ H x y v u Q I rx ry h
  obtain ⟨a, b, xs, ys, rfl, rfl, ha, hb, hx, hz, q1, q2⟩ := h
  cases rx
  cases ry
  obtain ⟨its, r1, p1, _⟩ := I.tuple ha
  obtain ⟨its2, r2, p2, _⟩ := I.tuple hb
  refine HT.cat_tup p1 p2 (fun z => hx (r1.nil_iff.mp z)) (fun z => ⟨.ref a, H, I, rfl, q1 (r2.nil_iff.mp z)⟩) (fun z => ?_) (by rw [← r1.length, ← r2.length]; exact hz)
  refine ⟨.ref s.heap.objs.size, _, I.laid (t' := s.toks) (o := .tup (xs ++ ys)) (fun b ob q => Heap.get?_push_of_some _ q) (Nat.le_refl _) ?_, rfl, q2 (fun w => z (r2.nil_iff.mpr w)) _ (I.hok.fresh (Nat.le_refl _))⟩
  exact ⟨by rw [List.length_append]; exact hz, _, r1.append r2, IsTup.new _ _⟩
end
end L2
namespace L2
open PySem PySem.Spec PyProof.Rows
def ixN (n : Nat) (i : Int) : Option Nat := if 0 ≤ i then (if i < n then some i.toNat else none) else if -(n : Int) ≤ i then some (i + n).toNat else none
def atI {α : Type} (xs : List α) (i : Int) : Option α := (ixN xs.length i).bind fun j => xs[j]?
theorem ixN_seq {n : Nat} {i : Int} {j : Nat} (h : ixN n i = some j) : seqIndex? i n = some j ∧ j < n ∧ -(n : Int) ≤ i ∧ i < n := by
  unfold ixN at h
  by_cases h0 : 0 ≤ i
  · rw [if_pos h0] at h
    by_cases h1 : i < n
    · rw [if_pos h1] at h
      have e : i.toNat = j := Option.some.inj h
      exact ⟨by rw [seqIndex_of h0 h1, e], by omega, by omega, h1⟩
    · rw [if_neg h1] at h; cases h
  · rw [if_neg h0] at h
    by_cases h1 : -(n : Int) ≤ i
    · rw [if_pos h1] at h
      have e : (i + n).toNat = j := Option.some.inj h
      exact ⟨by rw [seqIndex_neg (by omega) h1, e], by omega, h1, by omega⟩
    · rw [if_neg h1] at h; cases h
theorem atI_get {α : Type} {xs : List α} {i : Int} {v : α} (h : atI xs i = some v) : ∃ j, seqIndex? i xs.length = some j ∧ xs[j]? = some v ∧ j < xs.length ∧ -(xs.length : Int) ≤ i ∧ i < xs.length := by
  unfold atI at h
  cases e : ixN xs.length i with
  | none => rw [e] at h; cases h
  | some j =>
    rw [e] at h
    obtain ⟨h1, h2, h3, h4⟩ := ixN_seq e
    exact ⟨j, h1, h, h2, h3, h4⟩
theorem atI_nat {α : Type} {xs : List α} {j : Nat} {v : α} (h : xs[j]? = some v) : atI xs (j : Int) = some v := by
  have hj : j < xs.length := (List.getElem?_eq_some_iff.mp h).1
  have e : ixN xs.length (j : Int) = some j := by
    unfold ixN
    rw [if_pos (by omega), if_pos (by omega)]; simp
  unfold atI; rw [e]; exact h
def PlainIx (b : Expr) : Prop := ∀ o i, subscripted b false o i = operate [o, i] (getItem o i)
def IxR (X : Cx) (r : R2) : Prop :=
  ∀ (value slice : Expr) (pins : List (Addr × Obj)) (s : Shared) (σ : St) (H : Hp) (x y : V) (v u : Value) (Q : VK), Inv X pins σ H s → RelV x v → RelV y u → r x y H Q →
    subscripted slice false v u = operate [v, u] (getItem v u) → wpAny (model X.prog X.w) X.A (subscriptTail value slice v u) (EP X pins σ Q) X.xe s
def MtR (X : Cx) (id : String) (r : V → List V → Hp → VK → Prop) : Prop :=
  ∀ (pins : List (Addr × Obj)) (s : Shared) (σ : St) (H : Hp) (x : V) (xs : List V) (v : Value) (us : List Value) (Q : VK), Inv X pins σ H s → RelV x v → Vals xs us → r x xs H Q →
    wpAny (model X.prog X.w) X.A (call (.builtin id) (v :: us)) (EP X pins σ Q) X.xe s
section
variable {X : Cx} {a b : Expr} {ta tb : TE} {pos : Pos}
theorem IxR.or {r r' : R2} (h : IxR X r) (h' : IxR X r') : IxR X (fun x y H Q => r x y H Q ∨ r' x y H Q) := by
  intro value slice pins s σ H x y v u Q I rx ry q hs
  rcases q with q | q
  · exact h value slice pins s σ H x y v u Q I rx ry q hs
  · exact h' value slice pins s σ H x y v u Q I rx ry q hs
theorem MtR.or {id : String} {r r' : V → List V → Hp → VK → Prop} (h : MtR X id r) (h' : MtR X id r') : MtR X id (fun x xs H Q => r x xs H Q ∨ r' x xs H Q) := by
  intro pins s σ H x xs v us Q I rx rs q
  rcases q with q | q
  · exact h pins s σ H x xs v us Q I rx rs q
  · exact h' pins s σ H x xs v us Q I rx rs q
theorem pe_ix {r : R2} (hr : IxR X r) (ha : PE X a ta) (hb : PE X b tb) (hs : PlainIx b) : PE X (.Subscript a b pos) (tOp r ta tb) := by
  intro pins s σ H Q I h
  exact Subscript_ (binT ha hb I h fun v u s2 x y H2 I2 rx ry q => hr a b pins s2 σ H2 x y v u Q I2 rx ry q (hs _ _))
def rIxL (K : PySem.W.Frag) : R2 := fun x y H Q => ∃ p xs i v, x = .ref p ∧ y = .int i ∧ SqL K H p xs ∧ atI xs i = some v ∧ Q v H
def rIxT (K : PySem.W.Frag) : R2 := fun x y H Q => ∃ p xs i v, x = .ref p ∧ y = .int i ∧ SqT K H p xs ∧ atI xs i = some v ∧ Q v H
def rIxS : R2 := fun x y H Q => ∃ z i c, x = .str z ∧ y = .int i ∧ z.length ≤ sizeLine ∧ atI z.cps.toList i = some c ∧ Q (.str ⟨#[c]⟩) H
theorem ix_list : IxR X (rIxL X.K) := by
  intro value slice pins s σ H x y v u Q I rx ry h hs
  obtain ⟨p, xs, i, z, rfl, rfl, hq, he, q⟩ := h
  cases rx
  obtain ⟨t, rfl⟩ := ry
  obtain ⟨its, r, pl, hz⟩ := I.list hq
  obtain ⟨j, h1, h2, h3, h4, h5⟩ := atI_get he
  obtain ⟨w, ew, rw'⟩ := r.get h2
  have hl := r.length
  have hn := line63
  have fin : EP X pins σ Q w s := ⟨z, H, I, rw', q⟩
  by_cases h0 : 0 ≤ i
  · have hj : i.toNat = j := by
      rw [seqIndex_of h0 h5] at h1
      exact Option.some.inj h1
    exact item_listR pl.isList h0 (by omega) (by rw [hj]; simpa using ew) fin hs
  · have hj : (i + (its.toArray.size : Int)).toNat = j := by
      rw [seqIndex_neg (by omega) h4] at h1
      rw [List.size_toArray, ← hl]
      exact Option.some.inj h1
    exact subscriptTail_builtinR (x := w) pl.isList.typeIs slot_list_getitem.lookup
      (wpAny_getItem_list_neg (Q := fun r s' => r = w ∧ EP X pins σ Q r s') pl.isList (by omega) (by rw [List.size_toArray] <;> omega) (by omega) (by rw [hj]; simpa using ew) ⟨rfl, fin⟩) hs
theorem ix_tup : IxR X (rIxT X.K) := by
  intro value slice pins s σ H x y v u Q I rx ry h hs
  obtain ⟨p, xs, i, z, rfl, rfl, hq, he, q⟩ := h
  cases rx
  obtain ⟨t, rfl⟩ := ry
  obtain ⟨its, r, pl, hz⟩ := I.tuple hq
  obtain ⟨j, h1, h2, h3, h4, h5⟩ := atI_get he
  obtain ⟨w, ew, rw'⟩ := r.get h2
  have hl := r.length
  have hn := line63
  have fin : EP X pins σ Q w s := ⟨z, H, I, rw', q⟩
  exact subscriptTail_builtinR (x := w) pl.typeIs slot_tuple_getitem.lookup
    (getItem_tuple (j := j) (Q := fun r s' => r = w ∧ EP X pins σ Q r s') pl (by omega) (by omega) (by rw [List.size_toArray, ← hl]; exact h1) (by simpa using ew) ⟨rfl, fin⟩) hs
theorem ix_str : IxR X rIxS := by
  intro value slice pins s σ H x y v u Q I rx ry h hs
  obtain ⟨z, i, c, rfl, rfl, hz, he, q⟩ := h
  obtain ⟨t, rfl⟩ := rx
  obtain ⟨t', rfl⟩ := ry
  obtain ⟨j, h1, h2, h3, h4, h5⟩ := atI_get he
  have hl : z.cps.toList.length = z.length := by simp [Str.length]
  rw [hl] at h1 h4 h5
  have hn := line63
  exact tail_any (typeIs_str s z t) slot_str_getitem.lookup (getItem_str (c := c) (by
    have e1 : decide (i < -(2 ^ 63 : Int)) = false := decide_eq_false (by omega)
    have e2 : decide (i ≥ 2 ^ 63) = false := decide_eq_false (by omega)
    rw [e1, e2, Bool.or_false]) (by rw [h1]; simpa using h2) ⟨.str ⟨#[c]⟩, H, I.tok _, ⟨_, rfl⟩, q⟩) hs
theorem mapSeq_set (its : List Value) (n j : Nat) (u : Value) : Obj.mapSeq (·.setIfInBounds j u) { cls := .type "list", data := .seq its.toArray n } = { cls := .type "list", data := .seq (its.set j u).toArray n } := by
  simp [Obj.mapSeq]
theorem Inv.lst {pins : List (Addr × Obj)} {σ : St} {H : Hp} {s : Shared} {p : Addr} {xs : List V} (I : Inv X pins σ H s) (h : H p = some (.lst xs)) :
    ∃ (its : List Value) (n : Nat), Vals xs its ∧ s.heap.get? p = some { cls := .type "list", data := .seq its.toArray n } ∧ xs.length ≤ sizeLine := by
  obtain ⟨z, its, n, r, e⟩ := I.hok p _ h
  exact ⟨its, n, r, e, z⟩
theorem Inv.lstUpd {pins : List (Addr × Obj)} {σ : St} {H : Hp} {s : Shared} {p : Addr} {xs ys : List V} {its its' : List Value} {n n' : Nat} {f : Obj → Obj} (I : Inv X pins σ H s) (h : H p = some (.lst xs))
    (ho : s.heap.get? p = some { cls := .type "list", data := .seq its.toArray n }) (hf : f { cls := .type "list", data := .seq its.toArray n } = { cls := .type "list", data := .seq its'.toArray n' }) (r : Vals ys its') (hz : ys.length ≤ sizeLine) (t : Nat) :
    Inv X pins σ (upd H p (.lst ys)) { s with heap := s.heap.update p f, toks := t } := by
  have e : (s.heap.update p f).get? p = some { cls := .type "list", data := .seq its'.toArray n' } := by
    rw [Heap.get?_update_self f ho (by rw [hf] <;> rfl), hf]
  refine I.write (x := p) (e := p) (by rw [h]; trivial) (.inl rfl) (fun b u hb q => (Heap.get?_update_other _ _ (Ne.symm hb)).trans q) ⟨_, e⟩ ?_
  exact ⟨hz, its', n', r, e⟩
def rSetL : V → V → V → Hp → (Hp → Prop) → Prop := fun o i v H Q => ∃ p xs k j, o = .ref p ∧ i = .int k ∧ H p = some (.lst xs) ∧ ixN xs.length k = some j ∧ Q (upd H p (.lst (xs.set j v)))
theorem set_list : PSet X rSetL := by
  intro pins s σ H o i v ov iv u Q I ro ri rv h
  obtain ⟨p, xs, k, j, rfl, rfl, hp, hj, q⟩ := h
  cases ro
  obtain ⟨t, rfl⟩ := ri
  obtain ⟨its, n, r, ho, hz⟩ := I.lst hp
  obtain ⟨h1, h2, h3, h4⟩ := ixN_seq hj
  have hl := r.length
  have hn := line63
  have I' : Inv X pins σ (upd H p (.lst (xs.set j v))) { s with heap := s.heap.update p (Obj.mapSeq (·.setIfInBounds j u)) } :=
    I.lstUpd hp ho (mapSeq_set its n j u) (r.set rv j) (by rw [List.length_set]; exact hz) s.toks
  by_cases h0 : 0 ≤ k
  · have hk : k.toNat = j := by
      rw [seqIndex_of h0 h4] at h1
      exact Option.some.inj h1
    exact PySem.W.ki_setAt ho h0 (by omega) (by rw [List.size_toArray, ← hl]; exact h4) (by rw [hk]; exact ⟨_, I', q⟩)
  · have hk : (k + (its.toArray.size : Int)).toNat = j := by
      rw [seqIndex_neg (by omega) h3] at h1
      rw [List.size_toArray, ← hl]
      exact Option.some.inj h1
    exact PySem.W.ki_setBack ho (by omega) (by rw [List.size_toArray, ← hl]; exact h3) (by omega) (by rw [hk]; exact ⟨_, I', q⟩)
theorem slice_bounds (lo hi : Option Int) (n : Nat) : (sliceBounds lo hi none n).1 = ((HT.sIx n 0 lo : Nat) : Int) ∧ (sliceBounds lo hi none n).2.1 = ((HT.sIx n n hi : Nat) : Int) ∧ (sliceBounds lo hi none n).2.2 = 1 := by
  refine ⟨?_, ?_, rfl⟩
  · cases lo with
    | none => simp [sliceBounds, HT.sIx]
    | some i =>
      simp only [sliceBounds, HT.sIx, Option.getD_none, show (1 : Int) > 0 by decide, if_true]
      by_cases h : i < 0
      · simp only [h, if_true] <;> omega
      · simp only [h, if_false] <;> omega
  · cases hi with
    | none => simp [sliceBounds, HT.sIx]
    | some i =>
      simp only [sliceBounds, HT.sIx, Option.getD_none, show (1 : Int) > 0 by decide, if_true]
      by_cases h : i < 0
      · simp only [h, if_true] <;> omega
      · simp only [h, if_false] <;> omega
theorem slicePick_cut (its : List Value) (lo hi : Option Int) : slicePick its.toArray lo hi none = ((its.drop (HT.sIx its.length 0 lo)).take (HT.sIx its.length its.length hi - HT.sIx its.length 0 lo)).toArray := by
  obtain ⟨h1, h2, h3⟩ := slice_bounds lo hi its.toArray.size
  unfold slicePick
  rw [h1, h2, h3]
  simp only [sliceRange_one, pick_run, List.size_toArray] <;> rfl
def flatV : V → Bool
  | .non => true
  | .bl _ => true
  | .int _ => true
  | .str _ => true
  | _ => false
def eqV : V → V → Bool
  | .non, .non => true
  | .bl a, .bl b => a == b
  | .bl a, .int b => (if a then 1 else 0) == b
  | .int a, .bl b => a == (if b then 1 else 0)
  | .int a, .int b => a == b
  | .str a, .str b => a == b
  | _, _ => false
theorem eqAt_V {A : Around} {s : Shared} {y x : V} {u v : Value} (ry : RelV y u) (rx : RelV x v) (fy : flatV y = true) (fx : flatV x = true) : SeqAt.EqAt A s u v (eqV y x) := by
  cases y with
  | non =>
    cases ry
    cases x with
    | non => cases rx; exact SeqAt.EqAt.same _
    | bl b => cases rx; exact SeqAt.EqAt.none_bool b
    | int b => obtain ⟨t, rfl⟩ := rx; exact SeqAt.EqAt.none_int b t
    | str b => obtain ⟨t, rfl⟩ := rx; exact SeqAt.EqAt.none_str b t
    | _ => exact absurd (show false = true from fx) Bool.false_ne_true
  | bl a =>
    cases ry
    cases x with
    | non => cases rx; exact SeqAt.EqAt.bool_none a
    | bl b => cases rx; exact SeqAt.EqAt.bool_bool a b
    | int b => obtain ⟨t, rfl⟩ := rx; exact SeqAt.EqAt.bool_int a b t
    | str b => obtain ⟨t, rfl⟩ := rx; exact SeqAt.EqAt.bool_str a b t
    | _ => exact absurd (show false = true from fx) Bool.false_ne_true
  | int a =>
    obtain ⟨t', rfl⟩ := ry
    cases x with
    | non => cases rx; exact SeqAt.EqAt.int_none a t'
    | bl b => cases rx; exact SeqAt.EqAt.int_bool a t' b
    | int b => obtain ⟨t, rfl⟩ := rx; exact SeqAt.EqAt.int_int a t' b t
    | str b => obtain ⟨t, rfl⟩ := rx; exact SeqAt.EqAt.int_str a t' b t
    | _ => exact absurd (show false = true from fx) Bool.false_ne_true
  | str a =>
    obtain ⟨t', rfl⟩ := ry
    cases x with
    | non => cases rx; exact SeqAt.EqAt.str_none a t'
    | bl b => cases rx; exact SeqAt.EqAt.str_bool a t' b
    | int b => obtain ⟨t, rfl⟩ := rx; exact SeqAt.EqAt.str_int a t' b t
    | str b => obtain ⟨t, rfl⟩ := rx; exact SeqAt.EqAt.str_str a t' b t
    | _ => exact absurd (show false = true from fx) Bool.false_ne_true
  | _ => exact absurd (show false = true from fy) Bool.false_ne_true
def eqU (x : V) (u : Value) : Bool := match u with
  | .none => eqV .non x
  | .bool b => eqV (.bl b) x
  | .int i _ => eqV (.int i) x
  | .str z _ => eqV (.str z) x
  | _ => false
theorem eqU_of {x y : V} {u : Value} (r : RelV y u) (f : flatV y = true) : eqU x u = eqV y x := by
  cases y with
  | non => cases r; rfl
  | bl b => cases r; rfl
  | int i => obtain ⟨t, rfl⟩ := r; rfl
  | str z => obtain ⟨t, rfl⟩ := r; rfl
  | _ => exact absurd (show false = true from f) Bool.false_ne_true
theorem any_eqU {x : V} : ∀ {xs : List V} {us : List Value}, Vals xs us → xs.all flatV = true → us.any (eqU x) = xs.any fun y => eqV y x
  | _, _, .nil, _ => rfl
  | y :: xs, u :: us, .cons r t, f => by
    rw [List.all_cons, Bool.and_eq_true] at f
    rw [List.any_cons, List.any_cons, eqU_of r f.1, any_eqU t f.2]
theorem mem_eqAt {A : Around} {s : Shared} {x : V} {v : Value} (rx : RelV x v) (fx : flatV x = true) : ∀ {xs : List V} {us : List Value}, Vals xs us → xs.all flatV = true → ∀ u ∈ us, SeqAt.EqAt A s u v (eqU x u)
  | _, _, .nil, _ => fun u hu => by cases hu
  | y :: xs, u :: us, .cons r t, f => fun u' hu => by
    rw [List.all_cons, Bool.and_eq_true] at f
    rcases List.mem_cons.mp hu with rfl | hu
    · rw [eqU_of r f.1]; exact eqAt_V r rx f.1 fx
    · exact mem_eqAt rx fx t f.2 u' hu
def inV (x : V) (xs : List V) : Bool := xs.any fun y => eqV y x
def rIn (K : PySem.W.Frag) (neg : Bool) : R2 := fun x y H Q => ∃ p xs, y = .ref p ∧ (SqL K H p xs ∨ SqT K H p xs) ∧ flatV x = true ∧ xs.all flatV = true ∧ Q (.bl (if neg then !inV x xs else inV x xs)) H
theorem op_in_seq : OpR X (compareOp .In) (rIn X.K false) := by
  intro pins s σ H x y v u Q I rx ry h
  obtain ⟨p, xs, rfl, hq, fx, fs, q⟩ := h
  cases ry
  rcases hq with hq | hq
  · obtain ⟨its, r, pl, hz⟩ := I.list hq
    refine SeqAt.in_listAt (eqU x) pl.isList (fun w hw => mem_eqAt rx fx r fs w (by simpa using hw)) ⟨.bl _, H, I, rfl, ?_⟩
    rw [show its.toArray.any (eqU x) = its.any (eqU x) by simp, any_eqU r fs]
    exact q
  · obtain ⟨its, r, pl, hz⟩ := I.tuple hq
    refine SeqAt.in_tupleAt (eqU x) pl (fun w hw => mem_eqAt rx fx r fs w (by simpa using hw)) ⟨.bl _, H, I, rfl, ?_⟩
    rw [show its.toArray.any (eqU x) = its.any (eqU x) by simp, any_eqU r fs]
    exact q
theorem call_len_seq : CallR X (.builtin "len") (fun xs H Q => ∃ p ys, xs = [.ref p] ∧ (SqL X.K H p ys ∨ SqT X.K H p ys) ∧ Q (.int ys.length) H) := by
  intro pins s σ H xs us Q I r h
  obtain ⟨p, ys, rfl, hq, q⟩ := h
  obtain ⟨u, rfl, rx⟩ := vals1 r
  cases rx
  have hn := line63
  rcases hq with hq | hq
  · obtain ⟨its, r', pl, hz⟩ := I.list hq
    have hlen := r'.length
    exact Calls.call_len_list pl.isList (by simp only [List.size_toArray] <;> omega) ⟨.int ys.length, H, I.tok _, ⟨s.toks + 1, by rw [List.size_toArray, hlen]⟩, q⟩
  · obtain ⟨its, r', pl, hz⟩ := I.tuple hq
    have hlen := r'.length
    exact len_tuple pl (by simp only [List.size_toArray] <;> omega) ⟨.int ys.length, H, I.tok _, ⟨s.toks + 1, by rw [List.size_toArray, hlen]⟩, q⟩
theorem call_len_str : CallR X (.builtin "len") (fun xs H Q => ∃ z, xs = [.str z] ∧ z.length ≤ sizeLine ∧ Q (.int z.length) H) := by
  intro pins s σ H xs us Q I r h
  obtain ⟨z, rfl, hz, q⟩ := h
  obtain ⟨u, rfl, t, rfl⟩ := vals1 r
  have hn := line63
  exact len_str (by omega) ⟨.int z.length, H, I.tok _, ⟨_, rfl⟩, q⟩
theorem CallR.or {f : Value} {r r' : List V → Hp → VK → Prop} (h : CallR X f r) (h' : CallR X f r') : CallR X f (fun xs H Q => r xs H Q ∨ r' xs H Q) := by
  intro pins s σ H xs us Q I rs q
  rcases q with q | q
  · exact h pins s σ H xs us Q I rs q
  · exact h' pins s σ H xs us Q I rs q
theorem call_tuple_of : CallR X (.type "tuple") (fun xs H Q => ∃ p ys, xs = [.ref p] ∧ ((SqL X.K H p ys ∧ ∀ l, H l = none → Q (.ref l) (upd H l (.tup ys))) ∨ (SqT X.K H p ys ∧ Q (.ref p) H))) := by
  intro pins s σ H xs us Q I r h
  obtain ⟨p, ys, rfl, h⟩ := h
  obtain ⟨u, rfl, rx⟩ := vals1 r
  cases rx
  rcases h with ⟨hq, q⟩ | ⟨hq, q⟩
  · obtain ⟨its, r', pl, hz⟩ := I.list hq
    have hlen := r'.length
    refine call_tuple_list pl.isList (fun h' kp => ?_) (by simp only [List.size_toArray] <;> omega)
    have I1 : Inv X pins σ H { s with heap := h' } := I.kept (t' := s.toks) kp
    have I2 : Inv X pins σ (upd H h'.objs.size (.tup ys)) { s with heap := h'.push { cls := .type "tuple", data := .seq its.toArray } } :=
      I1.laid (t' := s.toks) (fun b o e => Heap.get?_push_of_some _ e) (Nat.le_refl _) (show ObjOk X.prog X.w _ _ _ (.tup ys) from ⟨hz, its, r', IsTup.new _ _⟩)
    exact ⟨.ref h'.objs.size, _, I2, rfl, q _ (I1.hok.fresh (Nat.le_refl _))⟩
  · obtain ⟨its, r', pl, hz⟩ := I.tuple hq
    exact call_tuple_same pl ⟨.ref p, H, I, rfl, q⟩
def tyV (K : PySem.W.Frag) (T : String) (x : V) (H : Hp) : Prop := match x with
  | .str _ => T = "str"
  | .int _ => T = "int"
  | .ref p => (T = "list" ∧ ∃ xs, SqL K H p xs) ∨ (T = "tuple" ∧ ∃ o, K.lookup p = some o ∧ o.cls = .type "tuple" ∧ o.dict = none) ∨
      (T = "dict" ∧ ((∃ kvs, H p = some (.dK kvs)) ∨ ∃ kvs, H p = some (.dT kvs))) ∨ (T = "set" ∧ ∃ S n, H p = some (.set S n))
  | _ => False
theorem tyV_is {pins : List (Addr × Obj)} {σ : St} {H : Hp} {s : Shared} {T : String} {x : V} {v : Value} (I : Inv X pins σ H s) (r : RelV x v) (ty : tyV X.K T x H) :
    s.TypeIs v T ∧ ∀ a, v = .ref a → ∃ ob, s.heap.get? a = some ob ∧ ob.dict = none := by
  cases x with
  | str z =>
    obtain ⟨t, rfl⟩ := r
    cases (show T = "str" from ty)
    exact ⟨typeIs_str s z t, fun _ e => nomatch e⟩
  | int i =>
    obtain ⟨t, rfl⟩ := r
    cases (show T = "int" from ty)
    exact ⟨typeIs_int s i t, fun _ e => nomatch e⟩
  | ref p =>
    cases r
    rcases ty with ⟨rfl, xs, hq⟩ | ⟨rfl, o, hk, hc, hd⟩ | ⟨rfl, hk⟩ | ⟨rfl, S, n, hk⟩
    · obtain ⟨its, _, pl, _⟩ := I.list hq
      refine ⟨pl.isList.typeIs, fun a e => ?_⟩
      cases e
      obtain ⟨o, n, e, c, hd, _⟩ := pl
      exact ⟨o, e, hd⟩
    · refine ⟨⟨o, I.kIn p o hk, hc⟩, fun a e => ?_⟩
      cases e
      exact ⟨o, I.kIn _ o hk, hd⟩
    · have z : ∃ o, s.heap.get? p = some o ∧ o.ExactDict := by
        rcases hk with ⟨kvs, hk⟩ | ⟨kvs, hk⟩
        · obtain ⟨_, _, _, _, o, _, _, e, ex, _⟩ := I.hok p _ hk
          exact ⟨o, e, ex⟩
        · obtain ⟨_, _, _, _, o, _, _, e, ex, _⟩ := I.hok p _ hk
          exact ⟨o, e, ex⟩
      obtain ⟨o, e, ex⟩ := z
      refine ⟨⟨o, e, ex.1⟩, fun a e2 => ?_⟩
      cases e2
      exact ⟨o, e, ex.2.1⟩
    · obtain ⟨o, _, _, _, e, ex, _⟩ := I.hok p _ hk
      refine ⟨⟨o, e, ex.1⟩, fun a e2 => ?_⟩
      cases e2
      exact ⟨o, e, ex.2.1⟩
  | _ => exact False.elim ty
def tBM0 (K : PySem.W.Frag) (T : String) (r : V → List V → Hp → VK → Prop) (to : TE) : TE := fun σ H Q => to σ H fun x H1 => tyV K T x H1 ∧ r x [] H1 Q
def tBM (K : PySem.W.Frag) (T : String) (r : V → List V → Hp → VK → Prop) (to : TE) (t : TA) : TE := fun σ H Q => to σ H fun x H1 => tyV K T x H1 ∧ t σ H1 fun xs H2 => r x xs H2 Q
variable {o e : Expr} {es : List Expr} {to : TE} {t : TA} {name : Str} {apos cpos : Pos} {T id : String} {r : V → List V → Hp → VK → Prop}
theorem pe_bm0 (pa : PlainAttrs T) (slot : Slot T name id) (hty : typeOf (.builtin id) = pure (.type "method_descriptor")) (hm : MtR X id r) (ho : PE X o to)
    (hbase : attributeBase o name X.env (eval o X.env) = eval o X.env := by rfl) (hline : (apos.endLine == cpos.line) = true := by rfl) : PE X (.Call (.Attribute o name apos) [] [] cpos) (tBM0 X.K T r to) := by
  intro pins s σ H Q I h
  refine wpAny_Call_method0_late hbase hline (thn (ho pins s σ H _ I h) fun v s1 ⟨x, H1, I1, r1, ty, q1⟩ => ?_)
  obtain ⟨h1, h2⟩ := tyV_is I1 r1 ty
  exact ⟨T, id, pa, slot, hty, h1, h2, Calls.callWith_builtin rfl (PySem.evalArgs_none (hm pins s1 σ H1 x [] v [] Q I1 r1 .nil q1))⟩
theorem pe_bm (pa : PlainAttrs T) (slot : Slot T name id) (hty : typeOf (.builtin id) = pure (.type "method_descriptor")) (hm : MtR X id r) (ho : PE X o to) (ha : PA X (e :: es) t)
    (hbase : attributeBase o name X.env (eval o X.env) = eval o X.env := by rfl)
    (hfew : ((backTo cpos (starEach (e :: es) X.env)).all (fun x => !x.1) && (backToKw cpos (keywordEach [] X.env)).all (fun x => x.1.isSome)
      && decide ((e :: es).length + ([] : List Keyword).length + (if ([] : List Keyword).isEmpty then 0 else 1) < 30)) = true := by rfl)
    (hline : (apos.endLine == cpos.line) = true := by rfl) (hs : starEach (e :: es) X.env = (false, eval e X.env) :: starEach es X.env := by rfl) (hplain : (backTo cpos (starEach es X.env)).any (·.1) = false := by rfl) :
    PE X (.Call (.Attribute o name apos) (e :: es) [] cpos) (tBM X.K T r to t) := by
  intro pins s σ H Q I h
  refine wpAny_Call_method_late hbase hfew hline rfl (thn (ho pins s σ H _ I h) fun v s1 ⟨x, H1, I1, r1, ty, q1⟩ => ?_)
  obtain ⟨h1, h2⟩ := tyV_is I1 r1 ty
  refine ⟨T, id, pa, slot, hty, h1, h2, ?_⟩
  have hA := ha cpos pins s1 σ H1 _ I1 q1
  rw [hs] at hA ⊢
  refine Calls.callWith_builtin (by show (false || (backTo cpos (starEach es X.env)).any (·.1)) = false; rw [hplain] <;> rfl) (Calls.evalArgs_plain ?_)
  exact thn hA fun us s2 ⟨vs, H2, I2, r2, q2⟩ => hm pins s2 σ H2 x vs v us Q I2 r1 r2 q2
end
end L2
namespace L2
open PySem PySem.Spec PyProof.Rows
def MtM (X : Cx) (id : String) (r : V → List V → Hp → VK → Prop) : Prop :=
  ∀ (pins : List (Addr × Obj)) (s : Shared) (σ : St) (H : Hp) (x : V) (xs : List V) (v : Value) (us : List Value) (Q : VK), Inv X pins σ H s → RelV x v → Vals xs us → r x xs H Q →
    wpAny (model X.prog X.w) X.A (call (.builtin id) (v :: us)) (EP X pins σ Q) X.xe s
theorem Vals.one : ∀ {x : V} {us : List Value}, Vals [x] us → ∃ u, us = [u] ∧ RelV x u
  | _, _, .cons r .nil => ⟨_, rfl, r⟩
theorem Vals.zero : ∀ {us : List Value}, Vals [] us → us = []
  | _, .nil => rfl
section
variable {X : Cx} {pins : List (Addr × Obj)} {σ : St} {H : Hp} {s : Shared} {l b : Addr} {xs ys zs : List V}
theorem Inv.lset {its its' : List Value} {n : Nat} {f : Array Value → Array Value} {t' : Nat} (I : Inv X pins σ H s) (hH : H l = some (.lst xs))
    (e : s.heap.get? l = some { cls := .type "list", data := .seq its.toArray n }) (hf : f its.toArray = its'.toArray) (hv : Vals ys its') (hz : ys.length ≤ sizeLine) :
    Inv X pins σ (upd H l (.lst ys)) { s with heap := s.heap.update l (Obj.mapSeq f), toks := t' } := by
  have q := PySem.IsL.update e f
  rw [hf] at q
  refine I.write (x := l) (e := l) (by rw [hH]; exact trivial) (.inl rfl) (fun b' u hb hu => (Heap.get?_update_other s.heap (Obj.mapSeq f) (Ne.symm hb)).trans hu) ⟨_, q⟩ ?_
  exact ⟨hz, its', _, hv, q⟩
theorem Inv.lnew {its : List Value} {t' : Nat} (I : Inv X pins σ H s) (hv : Vals ys its) (hz : ys.length ≤ sizeLine) :
    Inv X pins σ (upd H s.heap.objs.size (.lst ys)) { s with heap := s.heap.push { cls := .type "list", data := .seq its.toArray }, toks := t' } :=
  I.laid (fun _ _ q => Heap.get?_push_of_some _ q) (Nat.le_refl _) ⟨hz, its, 0, hv, Heap.get?_push_size _ rfl⟩
theorem Inv.fresh (I : Inv X pins σ H s) : H s.heap.objs.size = none := I.hok.fresh (Nat.le_refl _)
theorem Inv.lstM (I : Inv X pins σ H s) (hH : H l = some (.lst xs)) : xs.length ≤ sizeLine ∧ ∃ (its : List Value) (n : Nat), Vals xs its ∧ xs.length = its.length ∧ s.heap.get? l = some { cls := .type "list", data := .seq its.toArray n } := by
  obtain ⟨z, its, n, r, e⟩ := I.hok l _ hH
  exact ⟨z, its, n, r, r.length, e⟩
end
section
variable {X : Cx}
def rAppend : V → List V → Hp → VK → Prop := fun x vs H Q => ∃ l xs y, x = .ref l ∧ vs = [y] ∧ H l = some (.lst xs) ∧ xs.length < sizeLine ∧ Q .non (upd H l (.lst (xs ++ [y])))
theorem mt_append : MtM X "list.append" rAppend := by
  intro pins s σ H x vs v us Q I rx rv h
  obtain ⟨l, xs, y, rfl, rfl, hH, hz, q⟩ := h
  cases rx
  obtain ⟨u, rfl, ru⟩ := rv.one
  obtain ⟨z, its, n, r, hl, e⟩ := I.lstM hH
  refine call_meets F.slot_list_append ⟨_, e, rfl⟩ F.entry_list_append (F.args_list_append_2 _ _) (PySem.list_append l its.toArray n u (by rw [List.size_toArray]; omega)) ⟨e, ?_⟩
  refine ⟨.non, _, I.lset (its' := its ++ [u]) hH e (by simp) (r.append (.cons ru .nil)) ?_, rfl, q⟩
  rw [List.length_append, List.length_singleton]
  omega
end
section
variable {prog : Program} {w : World} {A : Around} {E : Value → Shared → Prop} {s : Shared}
end
section
variable {X : Cx}
end
end L2
namespace L2
open PySem PySem.Spec PyProof.Rows
section
variable {κ : Type} [DecidableEq κ]
def valV (kvs : List (κ × V)) (k : κ) : Option V := (kvs.find? fun kv => decide (kv.1 = k)).map (·.2)
def putK (kvs : List (κ × V)) (k : κ) (v : V) : List (κ × V) :=
  if (kvs.any fun kv => decide (kv.1 = k)) = true then kvs.map (fun kv => if kv.1 = k then (kv.1, v) else kv) else kvs ++ [(k, v)]
def dropK (kvs : List (κ × V)) (k : κ) : List (κ × V) := kvs.filter fun kv => decide (kv.1 ≠ k)
theorem valV_pos {p : κ × V} {r : List (κ × V)} {k : κ} (e : p.1 = k) : valV (p :: r) k = some p.2 := by simp [valV, List.find?_cons, e]
theorem valV_neg {p : κ × V} {r : List (κ × V)} {k : κ} (e : ¬ p.1 = k) : valV (p :: r) k = valV r k := by simp [valV, List.find?_cons, e]
theorem valV_any (k : κ) : ∀ kvs : List (κ × V), (kvs.any fun kv => decide (kv.1 = k)) = (valV kvs k).isSome
  | [] => rfl
  | p :: r => by
    rw [List.any_cons]
    by_cases e : p.1 = k
    · simp only [valV_pos e, decide_eq_true e, Bool.true_or, Option.isSome_some]
    · rw [valV_neg e, decide_eq_false e, Bool.false_or]; exact valV_any k r
theorem RelO.isSome_eq {o : Option V} {u : Option Value} (r : RelO o u) : o.isSome = u.isSome := by
  cases o with
  | none => cases u with
    | none => rfl
    | some _ => exact (show False from r).elim
  | some _ => cases u with
    | none => exact (show False from r).elim
    | some _ => rfl
theorem RelO.getD {o : Option V} {u : Option Value} {d : V} {d' : Value} (r : RelO o u) (rd : RelV d d') : RelV (o.getD d) (u.getD d') := by
  cases o with
  | none => cases u with
    | none => exact rd
    | some _ => exact (show False from r).elim
  | some _ => cases u with
    | none => exact (show False from r).elim
    | some _ => exact r
theorem KV.val {kvs : List (κ × V)} {vs : List (κ × Value)} (r : KV kvs vs) (k : κ) : RelO (valV kvs k) (valueAt vs k) := by
  unfold KV at r
  induction r with
  | nil => exact True.intro
  | @cons p q ps qs h t ih =>
    obtain ⟨h1, h2⟩ := h
    by_cases e : p.1 = k
    · have e' : q.1 = k := h1.symm.trans e
      have b : valueAt (q :: qs) k = some q.2 := by simp [valueAt, List.find?_cons, e']
      rw [valV_pos e, b]; exact h2
    · have e' : ¬ q.1 = k := fun z => e (h1.trans z)
      have b : valueAt (q :: qs) k = valueAt qs k := by simp [valueAt, List.find?_cons, e']
      rw [valV_neg e, b]; exact ih
theorem KV.any {kvs : List (κ × V)} {vs : List (κ × Value)} (r : KV kvs vs) (k : κ) : (kvs.any fun kv => decide (kv.1 = k)) = vs.any fun kv => decide (kv.1 = k) := by
  unfold KV at r
  induction r with
  | nil => rfl
  | cons h t ih => rw [List.any_cons, List.any_cons, ih, h.1]
theorem KV.repl {kvs : List (κ × V)} {vs : List (κ × Value)} (r : KV kvs vs) (k : κ) {y : V} {u : Value} (ry : RelV y u) :
    KV (kvs.map fun kv => if kv.1 = k then (kv.1, y) else kv) (vs.map fun kv => if kv.1 = k then (kv.1, u) else kv) := by
  unfold KV at r ⊢
  induction r with
  | nil => exact .nil
  | @cons p q ps qs h t ih =>
    rw [List.map_cons, List.map_cons]
    refine .cons ?_ ih
    obtain ⟨h1, h2⟩ := h
    by_cases e : p.1 = k
    · rw [if_pos e, if_pos (h1.symm.trans e)]; exact ⟨h1, ry⟩
    · rw [if_neg e, if_neg (fun z => e (h1.trans z))]; exact ⟨h1, h2⟩
theorem KV.put {kvs : List (κ × V)} {vs : List (κ × Value)} (r : KV kvs vs) (k : κ) {y : V} {u : Value} (ry : RelV y u) : KV (putK kvs k y) (stored vs k u) := by
  unfold putK stored
  rw [r.any k]
  by_cases e : (vs.any fun kv => decide (kv.1 = k)) = true
  · rw [if_pos e, if_pos e]; exact r.repl k ry
  · rw [if_neg e, if_neg e]; exact Paired.snoc r ⟨rfl, ry⟩
theorem KV.drop {kvs : List (κ × V)} {vs : List (κ × Value)} (r : KV kvs vs) (k : κ) : KV (dropK kvs k) (without vs k) := by
  unfold KV at r ⊢
  unfold dropK without
  induction r with
  | nil => exact .nil
  | @cons p q ps qs h t ih =>
    obtain ⟨h1, h2⟩ := h
    rw [List.filter_cons, List.filter_cons]
    by_cases e : p.1 = k
    · have a : ¬ decide (p.1 ≠ k) = true := by simp [e]
      have b : ¬ decide (q.1 ≠ k) = true := by simp [h1.symm.trans e]
      rw [if_neg a, if_neg b]; exact ih
    · have e' : ¬ q.1 = k := fun z => e (h1.trans z)
      have a : decide (p.1 ≠ k) = true := by simp [e]
      have b : decide (q.1 ≠ k) = true := by simp [e']
      rw [if_pos a, if_pos b]; exact .cons ⟨h1, h2⟩ ih
theorem KV.length {kvs : List (κ × V)} {vs : List (κ × Value)} (r : KV kvs vs) : kvs.length = vs.length := Paired.length r
end
theorem kV_is {P : Program} {w : World} {k : Key} {u : Value} (r : RelV (kV k) u) : (mixKind P w).is k u = true := by
  cases k with
  | inl i => obtain ⟨t, e⟩ := (show ∃ t, u = Value.int i t from r); subst e; exact mixKind_int P w i t
  | inr x => obtain ⟨t, e⟩ := (show ∃ t, u = Value.str x t from r); subst e; exact mixKind_str P w x t
abbrev KT (H : Hp) : List (List Key × V) → List (List Key × Addr × Value) → Prop := Paired fun p q => p.1 = q.1 ∧ H q.2.1 = some (.tup (p.1.map kV)) ∧ RelV p.2 q.2.2
theorem KT.val {H : Hp} {kvs : List (List Key × V)} {xs : List (List Key × Addr × Value)} (r : KT H kvs xs) (k : List Key) : RelO (valV kvs k) ((atKey xs k).map (·.2)) := by
  induction r with
  | nil => exact True.intro
  | @cons p q ps qs h t ih =>
    obtain ⟨h1, _, h2⟩ := h
    by_cases e : p.1 = k
    · have e' : q.1 = k := h1.symm.trans e
      have b : atKey (q :: qs) k = some q.2 := by simp [atKey, List.find?_cons, e']
      rw [valV_pos e, b]; exact h2
    · have e' : ¬ q.1 = k := fun z => e (h1.trans z)
      have b : atKey (q :: qs) k = atKey qs k := by simp [atKey, List.find?_cons, e']
      rw [valV_neg e, b]; exact ih
theorem KT.repl {H : Hp} {kvs : List (List Key × V)} {xs : List (List Key × Addr × Value)} (r : KT H kvs xs) (k : List Key) {y : V} {u : Value} (ry : RelV y u) :
    KT H (kvs.map fun kv => if kv.1 = k then (kv.1, y) else kv) (xs.map (putAt k u)) := by
  induction r with
  | nil => exact .nil
  | @cons p q ps qs h t ih =>
    rw [List.map_cons, List.map_cons]
    refine .cons ?_ ih
    obtain ⟨h1, h2, h3⟩ := h
    unfold putAt
    by_cases e : p.1 = k
    · rw [if_pos e, if_pos (h1.symm.trans e)]; exact ⟨h1, h2, ry⟩
    · rw [if_neg e, if_neg (fun z => e (h1.trans z))]; exact ⟨h1, h2, h3⟩
theorem KT.put {H : Hp} {kvs : List (List Key × V)} {xs : List (List Key × Addr × Value)} (r : KT H kvs xs) (k : List Key) {b : Addr} {y : V} {u : Value} (hb : H b = some (.tup (k.map kV))) (ry : RelV y u) :
    KT H (putK kvs k y) (storedH xs k b u) := by
  have e : (kvs.any fun kv => decide (kv.1 = k)) = (atKey xs k).isSome := by
    rw [valV_any, (r.val k).isSome_eq, Option.isSome_map]
  unfold putK storedH
  rw [e]
  by_cases q : (atKey xs k).isSome = true
  · rw [if_pos q, if_pos q]; exact r.repl k ry
  · rw [if_neg q, if_neg q]; exact Paired.snoc r ⟨rfl, hb, ry⟩
theorem KT.keeps {H H' : Hp} {kvs : List (List Key × V)} {xs : List (List Key × Addr × Value)} (r : KT H kvs xs) (ht : ∀ b ys, H b = some (.tup ys) → H' b = some (.tup ys)) : KT H' kvs xs :=
  Paired.mapP r fun _ _ z => ⟨z.1, ht _ _ z.2.1, z.2.2⟩
section
variable {P : Program} {w : World} {H : Hp} {h : Heap} {a : Addr}
end
def DGet (H : Hp) (a : Addr) (y : V) (r : Option V) : Prop :=
  (∃ kvs k, Rd H a (.dK kvs) ∧ y = kV k ∧ r = valV kvs k) ∨ ∃ kvs k b, Rd H a (.dT kvs) ∧ y = .ref b ∧ H b = some (.tup (k.map kV)) ∧ r = valV kvs k
def DPut (H : Hp) (a : Addr) (y v : V) (H' : Hp) : Prop :=
  (∃ kvs k, H a = some (.dK kvs) ∧ y = kV k ∧ kvs.length < sizeLine ∧ H' = upd H a (.dK (putK kvs k v))) ∨
  ∃ kvs k b, H a = some (.dT kvs) ∧ y = .ref b ∧ H b = some (.tup (k.map kV)) ∧ kvs.length < sizeLine ∧ H' = upd H a (.dT (putK kvs k v))
theorem DGet.k {H : Hp} {a : Addr} {kvs : List (Key × V)} {k : Key} (e : H a = some (.dK kvs)) : DGet H a (kV k) (valV kvs k) := .inl ⟨kvs, k, .inl e, rfl, rfl⟩
theorem DGet.t {H : Hp} {a b : Addr} {kvs : List (List Key × V)} {k : List Key} (e : H a = some (.dT kvs)) (eb : H b = some (.tup (k.map kV))) : DGet H a (.ref b) (valV kvs k) := .inr ⟨kvs, k, b, .inl e, rfl, eb, rfl⟩
theorem DPut.k {H : Hp} {a : Addr} {kvs : List (Key × V)} {k : Key} {v : V} (e : H a = some (.dK kvs)) (hl : kvs.length < sizeLine) : DPut H a (kV k) v (upd H a (.dK (putK kvs k v))) := .inl ⟨kvs, k, e, rfl, hl, rfl⟩
theorem DPut.t {H : Hp} {a b : Addr} {kvs : List (List Key × V)} {k : List Key} {v : V} (e : H a = some (.dT kvs)) (eb : H b = some (.tup (k.map kV))) (hl : kvs.length < sizeLine) :
    DPut H a (.ref b) v (upd H a (.dT (putK kvs k v))) := .inr ⟨kvs, k, b, e, rfl, eb, hl, rfl⟩
section
variable {X : Cx} {pins : List (Addr × Obj)} {σ : St} {H : Hp} {s : Shared} {a : Addr} {y v : V} {u r : Value} {o : Option V} {A : Around} {E : Value → Shared → Prop}
end
section
variable {X : Cx} {pins : List (Addr × Obj)} {σ : St} {H : Hp} {s : Shared} {a : Addr} {kvs : List (Key × V)} {k : Key} {u : Value} {A : Around} {E : Value → Shared → Prop}
end
def NoSl (i : Expr) : Prop := ∀ ov iv, subscripted i false ov iv = operate [ov, iv] (getItem ov iv)
theorem subD_of {prog : Program} {w : World} {A : Around} {E : Value → Shared → Prop} {s : Shared} {env : Env} {value slice : Expr} {pos : Pos} {T id : String} {Q : Value → Shared → Prop}
    (hl : typeLookup (.type T) "__getitem__" = pure (some (.builtin id))) (hs : NoSl slice)
    (h : wpAny (model prog w) A (eval value env) (fun o s₁ => wpAny (model prog w) A (eval slice env) (fun i s₂ => s₂.TypeIs o T ∧ wpAny (model prog w) A (getItem o i) Q E s₂) E s₁) E s) :
    wpAny (model prog w) A (eval (.Subscript value slice pos) env) Q E s := by
  refine Subscript_ (wpAny_mono h (fun o s₁ h₁ => wpAny_mono h₁ (fun i s₂ h₂ => ?_) fun _ _ x => x) fun _ _ x => x)
  obtain ⟨hT, h₂⟩ := h₂
  unfold subscriptTail
  refine wpAny_bind ?_
  rw [getitemInPython_of_ne hT.not_modules]
  refine wpAny_bind (wpAny_specialOf hT hl ?_)
  have fin : wpAny (model prog w) A (subscripted slice false o i) (fun r s₃ => wpAny (model prog w) A (letTemporaryGo value o r >>= fun _ => pure r) Q E s₃) E s₂ := by
    rw [hs o i]
    exact wpAny_operating (wpAny_mono h₂ (fun r s₃ h₃ => wpAny_bind (wpAny_letTemporaryGo (wpAny_pure h₃))) fun _ _ x => x)
  first
    | exact wpAny_pure (wpAny_bind fin)
    | exact wpAny_bind (wpAny_pure (wpAny_bind fin))
    | exact wpAny_bind fin
section
variable {X : Cx} {o i e value : Expr} {pos pos' tpos : Pos} {td ty tv : TE}
end
section
variable {X : Cx} {pos : Pos}
end
structure M1 (X : Cx) (o : Expr) (m : Str) (apos : Pos) (e : Expr) (cpos : Pos) : Prop where
  base : attributeBase o m X.env (eval o X.env) = eval o X.env
  few : ((backTo cpos (starEach [e] X.env)).all (fun x => !x.1) && (backToKw cpos (keywordEach [] X.env)).all (fun x => x.1.isSome)
    && decide (([e] : List Expr).length + ([] : List Keyword).length + (if ([] : List Keyword).isEmpty then 0 else 1) < 30)) = true
  line : (apos.endLine == cpos.line) = true
  trees : backTo cpos (starEach [e] X.env) = [(false, eval e X.env)]
structure M2 (X : Cx) (o : Expr) (m : Str) (apos : Pos) (e f : Expr) (cpos : Pos) : Prop where
  base : attributeBase o m X.env (eval o X.env) = eval o X.env
  few : ((backTo cpos (starEach [e, f] X.env)).all (fun x => !x.1) && (backToKw cpos (keywordEach [] X.env)).all (fun x => x.1.isSome)
    && decide (([e, f] : List Expr).length + ([] : List Keyword).length + (if ([] : List Keyword).isEmpty then 0 else 1) < 30)) = true
  line : (apos.endLine == cpos.line) = true
  trees : backTo cpos (starEach [e, f] X.env) = [(false, eval e X.env), (false, eval f X.env)]
section
variable {X : Cx} {pins : List (Addr × Obj)} {σ : St} {H : Hp} {s : Shared} {a : Addr} {y d : V} {u r : Value} {o : Option V} {A : Around} {E : Value → Shared → Prop}
end
section
variable {X : Cx} {o e f : Expr} {apos cpos : Pos} {td ty tx : TE}
end
section
variable {X : Cx} {pins : List (Addr × Obj)} {σ : St} {H : Hp} {s : Shared} {a : Addr} {kvs : List (Key × V)} {A : Around} {E : Value → Shared → Prop}
end
section
variable {X : Cx} {pins : List (Addr × Obj)} {σ : St} {H : Hp} {s : Shared} {a : Addr} {y : V} {u : Value} {A : Around} {E : Value → Shared → Prop}
end
end L2
namespace Att
open PySem PySem.W PySem.Calls PyProof.Rows
theorem ints_of_wellAll {P : Params} {h : Heap} : ∀ (ns : List Int) (vs : List Value), WellAll P h vs (ns.map WData.int) → IntsAre vs ns := by
  intro ns
  induction ns with
  | nil =>
    intro vs w
    rw [List.map_nil] at w
    cases w
    exact .nil
  | cons n ns ih =>
    intro vs w
    rw [List.map_cons] at w
    cases w with
    | cons a b =>
      cases a
      exact .cons _ _ (ih _ b)
theorem script_of {l : OpenLaw} {n : Nat} (hn : l.most = some n) {P : Params} {h : Heap} {args : List WData} {vals : List Value}
    (hpre : l.row.toRowW.claim.pre args = true) (hwl : WellAll P h vals args) :
    ∃ a vs ns, vals = [Value.ref a] ∧ args = [WData.list (ns.map WData.int)] ∧ h.get? a = some { cls := .type "list", data := .seq vs.toArray } ∧ IntsAre vs ns ∧ ns.length ≤ n := by
  have hsh : WShape.hasAll [] args [.list .int] = true := (pre_splitW hpre).1
  have hc : l.pre.holds [] { args := args } = true := (pre_splitW hpre).2
  obtain ⟨d, r, rfl, h1, h2⟩ := hasAllW_cons hsh
  obtain rfl := hasAllW_nil h2
  obtain ⟨xs, rfl, h3⟩ := hasW_list h1
  obtain ⟨ns, rfl⟩ := items_int h3
  have hlen : ns.length ≤ n := by
    unfold OpenLaw.pre at hc
    have h4 : (WTm.not (.lt (.lit (.int (n : Int))) (.len (.arg 0)))).holds [] { args := [.list (ns.map .int)] } = true := by
      have h4 := (holds_andW hc).1
      rw [hn] at h4
      exact h4
    have h5 := condW_of h4 (w_not (w_lt w_lit (w_len_list (w_arg rfl))))
    rw [List.length_map] at h5
    refine Nat.le_of_not_lt fun q => ?_
    have q' : (n : Int) < ((ns.length : Nat) : Int) := by omega
    first
      | (rw [decide_eq_true q'] at h5; exact absurd h5 (by decide))
      | (simp at h5; omega)
  cases hwl with
  | cons w1 w2 =>
    cases w2
    cases w1 with
    | list ho hall => exact ⟨_, _, ns, rfl, rfl, ho, ints_of_wellAll ns _ hall, hlen⟩
theorem post_true (l : OpenLaw) (args : List WData) : l.row.toRowW.claim.post args (.bool true) args = true :=
  postW_of (r := l.row.toRowW) (X := (true == true))
    (show WShape.has [] (.bool true) .bool = true by first | rfl | decide | simp [WShape.has, WShape.arms, WShape.armsAll])
    (show (WTm.eq .res (.lit (.bool true))).value [] { args := args, res := some (.bool true), after := args } = some (.bool (true == true)) from w_eq_bool (w_res rfl) w_lit) rfl
theorem attach_call {l : OpenLaw} {n : Nat} {q : Program} {loose : List Str} {XP : (Str → Option Value) → Heap → Prop} {YP : World → Heap → Prop} {d : DefRec}
    (hn : l.most = some n) (hdf : d.params.defaults = [])
    (call : ∀ (w : World) (s₀ s₁ : Shared) (mg mb : Str → Option Value) (fa : Addr) (o : Obj) (pm cd doc : Value) (a : Addr) (vs : List Value) (ns : List Int),
      Ground q loose [] XP w s₀ mg mb s₁.heap → YP w s₁.heap →
      s₁.heap.get? fa = some o → o.data = .func (docDef d.name d.params d.body d.scope pm cd doc) → s₁.heap.CodeRec cd d.name → mg d.name = some (.ref fa) →
      s₁.heap.get? a = some { cls := .type "list", data := .seq vs.toArray } → IntsAre vs ns → ns.length ≤ n → s₁.gens = #[] →
      codeAny (model l.prog w) callerA (.call (.ref fa) ⟨[.ref a], []⟩) (fun r s' => r = .ok (.ret (.bool true)) ∧ OldK s₁.heap s'.heap ∧ s'.os = s₁.os ∧ AllBare s'.gens) s₁) :
    WalkO q loose XP YP l.row.toRowW d [] (fun f vs => PySem.call f vs) := by
  intro w s₀ s₁ mg mb G Y fa o pm cd doc dV kV ho hd hcd hD hmg hg args vals as hpre hlay hrd hwl hlo
  obtain rfl : dV = .none := Dflts.none hD hdf
  obtain rfl : kV = .none := Dflts.noKw hD
  obtain ⟨a, vs, ns, rfl, rfl, hobj, hints, hlen⟩ := script_of hn hpre hwl
  refine enter_call (codeAny_mono (call w s₀ s₁ mg mb fa o pm cd doc a vs ns G Y ho (fd_plain hd) hcd hmg hobj hints hlen hg) fun r s' hq => ?_)
  obtain ⟨rfl, h2, h3, h4⟩ := hq
  exact ⟨.inl ⟨.bool true, .bool true, [], rfl, fun _ => rfl, .bool true, post_true l _, fun _ => ⟨List.Pairwise.nil, fun _ hm => (nomatch hm)⟩⟩, h2, h3, h4⟩
section
variable {prog : Program} {w : World} {A : Around} {E : Value → Shared → Prop} {s : Shared} {K : Frag}
end
end Att
namespace L2
open PySem PySem.Spec PyProof.Rows
theorem vals_ints : ∀ {vs : List Value} {ns : List Int}, IntsAre vs ns → Vals (ns.map V.int) vs
  | _, _, .nil => .nil
  | _, _, .cons n t h => .cons ⟨t, rfl⟩ (vals_ints h)
def Only (H : Hp) : Prop := ∀ b, H b = none ∨ ∃ o xs, H b = some (.frz o (.lst xs))
theorem law_call {P : Program} {w : World} {K : PySem.W.Frag} {mg mb : Str → Option Value} {CX : CXT} {k : Nat} {fa a : Addr} {fd : FuncData} {x : Str} {sp : Sp} {s₁ : Shared} {vs : List Value} {ns : List Int}
    (KX : K.In s₁.heap) (hns : s₁.heap.Ns mainGlobals mg) (hb : s₁.heap.Ns builtinsNs mb) (hbb : ∀ x : Str, x ≠ "__name__" → mb x = bootBuiltins x) (hlim : s₁.heap.NoLimit) (hg : s₁.gens = #[])
    (ha : s₁.heap.get? a = some { cls := .type "list", data := .seq vs.toArray }) (hi : IntsAre vs ns) (hl : ns.length ≤ sizeLine) (hr : Room k callerA)
    (F : ∀ base : Heap, K.In base → base.Ns mainGlobals mg → FnOk P w K mg base CX k fa fd [x] sp) (hbind : ∀ (s : Shared) (u : Value), BindsTo s fd ⟨[u], []⟩ [(x, u)])
    (hsp : ∀ H : Hp, Only H → SqL K H a (ns.map V.int) → sp [.ref a] H (fun v _ => v = .bl true) fun _ _ _ => False)
    (hCX : ∀ H e s', CX [] H s₁ (fun _ _ _ => False) e s' → False) :
    codeAny (model P w) callerA (.call (.ref fa) ⟨[.ref a], []⟩) (fun r s' => r = .ok (.ret (.bool true)) ∧ OldK s₁.heap s'.heap ∧ s'.os = s₁.os ∧ AllBare s'.gens) s₁ := by
  have rv := vals_ints hi
  have lenV := hi.length
  have core : ∀ H : Hp, Only H → SqL K H a (ns.map V.int) → HOk P w H s₁.heap → (∀ b, H b ≠ none → b = a) → (H a ≠ none → K.lookup a = none) →
      codeAny (model P w) callerA (.call (.ref fa) ⟨[.ref a], []⟩) (fun r s' => r = .ok (.ret (.bool true)) ∧ OldK s₁.heap s'.heap ∧ s'.os = s₁.os ∧ AllBare s'.gens) s₁ := by
    intro H hO hS hok hA hK
    have base_of : ∀ {b : Addr} {o : Obj}, s₁.heap.get? b = some o → H b = none → (hidT s₁.heap H).get? b = some o := fun e n => hidT_get e n
    have noA : ∀ {b : Addr} {o : Obj} {es : Array DictEntry} {ep : Nat}, s₁.heap.get? b = some o → o.data = .dict es ep → H b = none := fun {b o es ep} e d => by
      cases q : H b with
      | none => rfl
      | some u =>
        have e' : b = a := hA b (by rw [q]; simp)
        subst e'
        rw [ha] at e; cases e
        have d' : Data.seq vs.toArray _ = Data.dict es ep := d
        cases d'
    have nsK : ∀ {b : Addr} {m : Str → Option Value}, s₁.heap.Ns b m → (hidT s₁.heap H).Ns b m := fun {b m} ⟨o, es, ep, e, d, r⟩ => ⟨o, es, ep, base_of e (noA e d), d, r⟩
    have hKb : K.In (hidT s₁.heap H) := fun b o e => base_of (KX b o e) (by
      cases q : H b with
      | none => rfl
      | some u =>
        have e' : b = a := hA b (by rw [q]; simp)
        subst e'
        rw [hK (by rw [q]; simp)] at e; cases e)
    have hM : Mod K mg (hidT s₁.heap H) := ⟨hKb, nsK hns, ⟨mb, nsK hb, hbb⟩, let ⟨mc, h1, h2⟩ := hlim; ⟨mc, nsK h1, h2⟩⟩
    have e0 : Env0 P w K mg (hidT s₁.heap H) callerA [] s₁ H := ⟨rfl, hM, fun b o e => of_hidT e, Nat.le_of_eq (hidT_size _ _), trivial, fun b hb => absurd (show b ∈ ([] : List Addr) from hb) (by simp), hok, .of_eq hg⟩
    refine codeAny_mono ((F _ hKb (nsK hns)).run callerA [] s₁ H ⟨[.ref a], []⟩ [.ref a] [.ref a] _ _ hr e0 (hbind s₁ (.ref a)) (.cons rfl .nil) (hsp H hO hS)) fun r s' h => ?_
    cases r with
    | error e => exact (hCX H e s' h).elim
    | ok fl =>
      cases fl with
      | next => exact False.elim h
      | brk => exact False.elim h
      | cont => exact False.elim h
      | ret u =>
        obtain ⟨v, H', os, bare, un, hok', r', q⟩ := h
        have q' : v = .bl true := q
        subst q'
        obtain rfl : u = Value.bool true := r'
        refine ⟨rfl, OldK.of_keep fun b o e => ?_, os, bare⟩
        cases q : H b with
        | none => exact un.keep b o e q (by intro z; exact absurd (show b ∈ ([] : List Addr) from z) (by simp)) (by simp)
        | some u =>
          rcases hO b with z | ⟨ob, xs, z⟩
          · rw [q] at z; cases z
          · have z2 := un.frzs b ob _ z
            obtain ⟨e1, _⟩ := hok b _ z
            obtain ⟨e2, _⟩ := hok' b _ z2
            rw [e] at e1; cases e1
            exact e2
  cases hk : K.lookup a with
  | some o =>
    have e := KX a o hk
    rw [ha] at e
    cases e
    refine core (fun _ => none) (fun _ => .inl rfl) (.inr ⟨_, vs.toArray, _, hk, rfl, rfl, rfl, by rw [List.size_toArray, lenV]; exact hl, by simpa using rv⟩) (fun b u z => by have z' : (none : Option HO) = some u := z; cases z') (fun b z => absurd rfl z) fun z => absurd rfl z
  | none =>
    refine core (fun b => if b = a then some (.frz { cls := .type "list", data := .seq vs.toArray } (.lst (ns.map V.int))) else none) (fun b => ?_) (.inl (.inr ⟨{ cls := .type "list", data := .seq vs.toArray }, if_pos rfl⟩)) (fun b u z => ?_) (fun b z => ?_) fun _ => hk
    · by_cases hb : b = a
      · exact .inr ⟨_, _, if_pos hb⟩
      · exact .inl (if_neg hb)
    · by_cases hb : b = a
      · have z' := (if_pos hb).symm.trans z
        cases z'
        subst hb
        exact ⟨ha, by rw [List.length_map]; exact hl, vs, _, rv, ha⟩
      · have z' := (if_neg hb).symm.trans z
        cases z'
    · by_cases hb : b = a
      · exact hb
      · exact absurd (if_neg hb) z
end L2
namespace L2
open PySem PySem.Spec PyProof.Rows
theorem walk_of {l : PySem.W.OpenLaw} {n k : Nat} {q : Program} {loose : List Str} {XP : (Str → Option Value) → Heap → Prop} {YP : World → Heap → Prop} {d : DefRec} {K : Params → PySem.W.Frag} {CX : World → CXT} {sp : World → Sp} {x : Str}
    (hn : l.most = some n) (hn2 : n ≤ sizeLine) (hdf : d.params.defaults = []) (hr : Room k callerA)
    (hY : ∀ (w : World) (h : Heap), YP w h → (K w.params).In h)
    (F : ∀ (w : World) (mg : Str → Option Value) (fa : Addr) (h : Heap), (K w.params).In h → h.Ns mainGlobals mg → mg d.name = some (.ref fa) →
      ∃ fd : FuncData, (∀ (s : Shared) (u : Value), BindsTo s fd ⟨[u], []⟩ [(x, u)]) ∧
        ∀ base : Heap, (K w.params).In base → base.Ns mainGlobals mg → FnOk l.prog w (K w.params) mg base (CX w) k fa fd [x] (sp w))
    (hsp : ∀ (w : World) (H : Hp) (a : Addr) (ns : List Int), ns.length ≤ n → Only H → SqL (K w.params) H a (ns.map V.int) → sp w [.ref a] H (fun v _ => v = .bl true) fun _ _ _ => False)
    (hCX : ∀ (w : World) (H : Hp) (s : Shared) (e : Value) (s' : Shared), CX w [] H s (fun _ _ _ => False) e s' → False) :
    PySem.W.WalkO q loose XP YP l.row.toRowW d [] (fun f vs => PySem.call f vs) := by
  refine Att.attach_call hn hdf fun w s₀ s₁ mg mb fa o pm cd doc a vs ns G Y ho hd hcd hmg hobj hints hlen hg => ?_
  have KX := hY w _ Y
  obtain ⟨fd, hb, hF⟩ := F w mg fa _ KX G.T.g hmg
  exact law_call KX G.T.g G.T.b G.T.builtins G.T.nolimit hg hobj hints (Nat.le_trans hlen hn2) hr hF hb (fun H hO hS => hsp w H a ns hlen hO hS) fun H e s' => hCX w H s₁ e s'
end L2
namespace L2
open PySem PySem.Spec PyProof.Rows
def inClass (s : Stmt) (j : Nat) : Stmt := match s with
  | .ClassDef _ _ _ body _ _ _ _ _ _ _ => body.getD j (.Pass ⟨0, 0, 0, 0⟩)
  | _ => .Pass ⟨0, 0, 0, 0⟩
def defArgs (s : Stmt) : Arguments := match s with
  | .FunctionDef _ a _ _ _ _ _ _ _ _ => a
  | _ => { posonlyargs := [], args := [], vararg := none, kwonlyargs := [], kw_defaults := [], kwarg := none, defaults := [] }
def defBody (s : Stmt) : List Stmt := match s with
  | .FunctionDef _ _ b _ _ _ _ _ _ _ => b
  | _ => []
def defScope (s : Stmt) : Scope := match s with
  | .FunctionDef _ _ _ _ _ _ sc _ _ _ => sc
  | _ => { kind := .function, names := [], isGenerator := false, isCoroutine := false }
abbrev CX0 : CXT := fun _ _ _ _ _ _ => False
abbrev E0 : XK := fun _ _ _ => False
theorem pass0 {X : Cx} : Passes CX0 X E0 := fun _ _ _ _ _ _ _ h => h.elim
structure Fun (K : PySem.W.Frag) (x qual : Str) (st : Stmt) (f : Addr) (fd : FuncData) : Prop where
  ex : ∃ (oc : Value) (od : Option Addr) (kV doc pm : Value) (an : Option Addr) (cdv ct : Value) (osl : Array (Option Value)),
    fd = PySem.W.fnOf x qual (defArgs st) (defBody st) (defScope st) .none kV doc pm an cdv ct ∧ K.lookup f = some ⟨oc, od, .func fd, osl⟩ ∧ PySem.W.codeIn K cdv qual = true
  kp : PySem.W.keepIn K (.ref f) = true
section
variable {P : Program} {w : World} {K : PySem.W.Frag} {mg : Str → Option Value} {base : Heap}
theorem Fun.ok {x qual : Str} {st : Stmt} {f : Addr} {fd : FuncData} {N ps : List Str} {k : Nat} {sp : Sp} (F : Fun K x qual st f fd) (S : FnScope N ps (defScope st)) (len : ∀ vs H Q E, sp vs H Q E → vs.length = ps.length)
    (hbody : ∀ (cdv : Value) (A : Around) (outer : List Env) (s : Shared) (H : Hp) (vs : List V) (Q : VK) (E : XK), Room k (A.deeper (envOfC qual (defScope st) s.heap.objs.size f cdv)) → sp vs H Q E →
      ∃ t, PSs (cxOf CX0 P w K mg base N qual (defScope st) f cdv A outer s H E).nox (defBody st) t ∧ t { nx := fun _ H' => Q .non H', rt := Q } (start N vs) H) : FnOk P w K mg base CX0 (k + 1) f fd ps sp := by
  obtain ⟨oc, od, kV, doc, pm, an, cdv, ct, osl, rfl, lk, hcd⟩ := F.ex
  refine fn_of lk hcd S len fun A outer s H vs Q E hr hsp => ?_
  obtain ⟨t, h, q⟩ := hbody cdv A outer s H vs Q E hr hsp
  exact ⟨t, h.nox, q⟩
theorem Fun.binds {x qual : Str} {st : Stmt} {f : Addr} {fd : FuncData} {ps : List Str} (F : Fun K x qual st f fd)
    (h : ∀ (kV doc pm : Value) (an : Option Addr) (cdv ct : Value) (us : List Value), us.length = ps.length → bindArgs (PySem.W.fnOf x qual (defArgs st) (defBody st) (defScope st) .none kV doc pm an cdv ct) ⟨us, []⟩ = pure (ps.zip us)) : Binds K fd ps [] := by
  obtain ⟨oc, od, kV, doc, pm, an, cdv, ct, osl, rfl, lk, hcd⟩ := F.ex
  exact .all (h kV doc pm an cdv ct)
theorem fun_mk {x qual : Str} {st : Stmt} {f : Addr} {oc : Value} {od an : Option Addr} {osl : Array (Option Value)} {kV doc pm cdv ct : Value} (l : K.lookup f = some ⟨oc, od, .func (PySem.W.fnOf x qual (defArgs st) (defBody st) (defScope st) .none kV doc pm an cdv ct), osl⟩)
    (c : PySem.W.codeIn K cdv qual = true) (k : PySem.W.keepIn K (.ref f) = true) : Fun K x qual st f (PySem.W.fnOf x qual (defArgs st) (defBody st) (defScope st) .none kV doc pm an cdv ct) := ⟨⟨oc, od, kV, doc, pm, an, cdv, ct, osl, rfl, l, c⟩, k⟩
end
theorem small1000 {n : Nat} (h : n ≤ 1000) : n < sizeLine := Nat.lt_of_le_of_lt h (by decide)
section
variable {X : Cx}
end
theorem iteT {A B : Prop} (h : A) : if true = true then A else B := by
  rw [if_pos rfl]
  exact h
theorem ite2 {c A B : Prop} [Decidable c] (h1 : c → A) (h2 : ¬ c → B) : if c then A else B := by
  by_cases h : c
  · rw [if_pos h]
    exact h1 h
  · rw [if_neg h]
    exact h2 h
def Same (H H' : Hp) : Prop := ∀ b o, H b = some o → H' b = some o
theorem Same.refl (H : Hp) : Same H H := fun _ _ h => h
theorem Same.trans {H H1 H2 : Hp} (a : Same H H1) (b : Same H1 H2) : Same H H2 := fun c o h => b c o (a c o h)
theorem Same.free {H H' : Hp} (e : Same H H') {l : Addr} (h : H' l = Option.none) : H l = Option.none := by
  cases q : H l with
  | none => rfl
  | some o =>
    rw [e l o q] at h
    cases h
theorem Same.seq {K : PySem.W.Frag} {H H' : Hp} {a : Addr} {xs : List V} (e : Same H H') (h : SqL K H a xs) : SqL K H' a xs := by
  rcases h with (h | ⟨o, h⟩) | h
  · exact .inl (.inl (e _ _ h))
  · exact .inl (.inr ⟨o, e _ _ h⟩)
  · exact .inr h
section
variable {X : Cx}
end
section
variable {κ : Type} [DecidableEq κ]
end
end L2
set_option Elab.async false
set_option linter.all false
set_option maxRecDepth 100000
namespace L2
open PySem PySem.Spec PyProof.Rows
section
variable {X : Cx}
def CDv (_ j : Int) : Prop := 0 < j ∧ j < 10 ^ 100
theorem op_fdivP : OpR X (binaryOp .FloorDiv) (rI CDv fun i j => .int (i / j)) := opI fun i j _ _ _ _ _ hc q => by
  have h0 : 0 < j := hc.1
  have h1 : j < 10 ^ 100 := hc.2
  refine floordiv_int (by omega) ?_ (.inl (PyProof.noPylong_of_log2 ?_))
  · rw [Int.fdiv_eq_ediv_of_nonneg _ (by omega)]
    exact q
  · have h2 : j.natAbs < 10 ^ 100 := by omega
    have h3 : (10 : Nat) ^ 100 ≤ 2 ^ 9000 := by decide +kernel
    exact (Nat.log2_lt (by omega)).mpr (Nat.lt_of_lt_of_le h2 h3)
end
structure Callee (P : Program) (w : World) (K : PySem.W.Frag) (mg : Str → Option Value) (base : Heap) (x : Str) (k : Nat) (ps : List Str) (sp : Sp) : Prop where
  ex : ∃ (f : Addr) (fd : FuncData), FnOk P w K mg base CX0 k f fd ps sp ∧ Binds K fd ps [] ∧ PySem.W.keepIn K (.ref f) = true ∧ mg x = some (.ref f)
section
variable {X : Cx} {x : Str} {k : Nat} {ps : List Str} {sp : Sp} {e : Expr} {es : List Expr} {t : TA} {p pos : Pos}
theorem pe_callF (C : Callee X.prog X.w X.K X.mg X.base x k ps sp) (hr : Room k X.A) (hg : Gl X x) (ha : PA X (e :: es) t)
    (hdb : (x == ("__debug__" : Str)) = false := by decide) (he : starEach (e :: es) X.env = (false, eval e X.env) :: starEach es X.env := by rfl) (hpl : (backTo pos (starEach es X.env)).any (·.1) = false := by rfl) :
    PE X (.Call (.Name x p) (e :: es) [] pos) (tCall sp [] E0 t) := by
  intro pins s σ H Q I h
  obtain ⟨f, fd, F, b, kp, m⟩ := C.ex
  have G : FnOk X.prog X.w X.K X.mg X.base (fun _ _ _ _ _ _ => False) k f fd ps sp := F
  exact pe_call F hr hg m kp b .nil pass0 ha hdb he hpl pins s σ H Q I h
end
end L2
namespace L2
open PySem PySem.Spec PyProof.Rows
def tCut (t u : TS) : TS := fun D σ H => ∃ J : St → Hp → Prop, t { D with nx := J } σ H ∧ ∀ σ1 H1, J σ1 H1 → u D σ1 H1
section
variable {X : Cx} {st : Stmt} {rest : List Stmt} {t u : TS}
theorem pss_cut (h1 : PS X st t) (h2 : PSs X rest u) : PSs X (st :: rest) (tCut t u) := by
  intro pins s σ H D I h
  obtain ⟨J, h, hJ⟩ := h
  refine wpAny_execs_cons (thn (h1 pins s σ H { D with nx := J } I h) fun f s1 q => ?_)
  cases f with
  | next =>
    obtain ⟨σ', H', I', q⟩ := q
    exact h2 pins s1 σ' H' D I' (hJ _ _ q)
  | ret v => exact q
  | brk => exact q
  | cont => exact q
end
section
variable {α : Type} {a b c d : α} {r : List α}
theorem atI_0 : atI (a :: r) 0 = some a := atI_nat (j := 0) rfl
theorem atI_1 : atI (a :: b :: r) 1 = some b := atI_nat (j := 1) rfl
theorem atI_2 : atI (a :: b :: c :: r) 2 = some c := atI_nat (j := 2) rfl
theorem atI_3 : atI (a :: b :: c :: d :: r) 3 = some d := atI_nat (j := 3) rfl
end
def seqAt (H : Hp) (p : Addr) : Option (List V) := match H p with
  | some (.lst xs) => some xs
  | some (.tup xs) => some xs
  | some (.frz _ (.lst xs)) => some xs
  | _ => none
theorem seqAt_lst {H : Hp} {p : Addr} {xs : List V} (h : H p = some (.lst xs)) : seqAt H p = some xs := by unfold seqAt; rw [h]
theorem seqAt_tup {H : Hp} {p : Addr} {xs : List V} (h : H p = some (.tup xs)) : seqAt H p = some xs := by unfold seqAt; rw [h]
section
variable {X : Cx}
def rIxF : R2 := fun x y H Q => ∃ p i xs v, x = .ref p ∧ y = .int i ∧ seqAt H p = some xs ∧ atI xs i = some v ∧ Q v H
theorem call_intB : CallR X (.type "int") (fun xs H Q => ∃ k, xs = [.bl k] ∧ Q (.int (if k = true then 1 else 0)) H) := by
  intro pins s σ H xs us Q I r h
  obtain ⟨k, rfl, q⟩ := h
  exact call_int1 pins s σ H _ us Q I r (.inr ⟨k, rfl, q⟩)
end
end L2
namespace L2
open PySem PySem.Spec PyProof.Rows
theorem bt_len : bootBuiltins "len" = some (.builtin "len") := by decide +kernel
theorem bt_isinstance : bootBuiltins "isinstance" = some (.builtin "isinstance") := by decide +kernel
theorem bt_min : bootBuiltins "min" = some (.builtin "min") := by decide +kernel
theorem bt_int : bootBuiltins "int" = some (.type "int") := by decide +kernel
theorem bt_bool : bootBuiltins "bool" = some (.type "bool") := by decide +kernel
theorem bt_str : bootBuiltins "str" = some (.type "str") := by decide +kernel
theorem bt_tuple : bootBuiltins "tuple" = some (.type "tuple") := by decide +kernel
end L2
namespace L2
open PySem PySem.Spec PyProof.Rows
theorem cxK {CX : CXT} {P : Program} {w : World} {K : PySem.W.Frag} {mg : Str → Option Value} {base : Heap} {N : List Str} {qual : Str} {scope : Scope} {f : Addr} {cd : Value} {A : Around} {outer : List Env} {s : Shared} {H : Hp} {E : XK} :
    (cxOf CX P w K mg base N qual scope f cd A outer s H E).K = K := rfl
end L2
namespace L2
open PySem PySem.Spec PyProof.Rows
theorem ixN_10 : ixN 1 0 = some 0 := rfl
theorem ixN_20 : ixN 2 0 = some 0 := rfl
theorem ixN_21 : ixN 2 1 = some 1 := rfl
theorem ixN_30 : ixN 3 0 = some 0 := rfl
theorem ixN_31 : ixN 3 1 = some 1 := rfl
theorem ixN_32 : ixN 3 2 = some 2 := rfl
theorem seqAt_updL {H : Hp} {p : Addr} {xs : List V} : seqAt (upd H p (.lst xs)) p = some xs := seqAt_lst upd_same
theorem seqAt_updT {H : Hp} {p : Addr} {xs : List V} : seqAt (upd H p (.tup xs)) p = some xs := seqAt_tup upd_same
theorem atI_in {α : Type} {xs : List α} {k : Int} (h0 : 0 ≤ k) (h1 : k < (xs.length : Int)) : ∃ v, atI xs k = some v ∧ v ∈ xs := by
  have hk : k.toNat < xs.length := by omega
  have e : k = ((k.toNat : Nat) : Int) := by omega
  have q : atI xs ((k.toNat : Nat) : Int) = some xs[k.toNat] := atI_nat (List.getElem?_eq_getElem hk)
  rw [← e] at q
  exact ⟨_, q, List.getElem_mem hk⟩
theorem small_le {n : Nat} (h : n ≤ 1000) : n ≤ sizeLine := Nat.le_of_lt (small1000 h)
end L2
namespace L2
open PySem PySem.Spec PyProof.Rows
structure Shut (Q : VK) : Type where
  n : Nat
def Cal (sp : Sp) (vs : List V) (H : Hp) (Q : VK) (_ : Shut Q) (E : XK) : Prop := sp vs H Q E
theorem tCallC {sp : Sp} {dvs : List V} {E : XK} {t : TA} {σ : St} {H : Hp} {Q : VK} : tCall sp dvs E t σ H Q = t σ H (fun vs H1 => Cal sp (vs ++ dvs) H1 Q ⟨0⟩ E) := rfl
section
variable {X : Cx} {pos p1 p2 : Pos} {j1 j2 : Nat}
theorem pe_powc {a b : Int} (v : Int) (h : decide (0 ≤ b ∧ b ≤ 1000000 ∧ a.natAbs < 2 ^ 64 ∧ a ^ b.toNat = v) = true := by decide +kernel) : PE X (.BinOp (.Constant (.int a) j1 p1) .Pow (.Constant (.int b) j2 p2) pos) (tC (.int v)) := by
  intro pins s σ H Q I q
  obtain ⟨h1, h2, h3, h4⟩ := of_decide_eq_true h
  refine pe_op op_pow pe_int pe_int pins s σ H Q I ⟨a, b, rfl, rfl, ⟨h1, h2, h3⟩, ?_⟩
  show Q (V.int (a ^ b.toNat)) H
  rw [h4]
  exact q
end
end L2
namespace L2
open PySem PySem.Spec PyProof.Rows
theorem upd_none {H : Hp} {a b : Addr} {o : HO} : upd H a o b = none ↔ b ≠ a ∧ H b = none := by
  unfold upd
  by_cases h : b = a
  · simp [h]
  · simp [h]
end L2
namespace L2
open PySem PySem.Spec PyProof.Rows
def Loop (J : It) (g : TG) (tb : TS) (D : Ends) (σ : St) (H : Hp) : Prop := ∃ W : Nat → Nat → St → Hp → Prop, (∃ m, W 0 m σ H) ∧ ∀ i m σ H, W i m σ H →
  (J.stop i H ∧ D.nx σ H) ∨ (J.go i H ∧ ∃ N : St → Hp → Prop, (∀ σ' H', N σ' H' → ∃ m', m' < m ∧ W (i + 1) m' σ' H') ∧ ∀ x H', J.yld i H x H' → g x σ H' fun σ2 H2 => tb { D with nx := N, ct := N, bk := D.nx } σ2 H2)
section
variable {K : PySem.W.Frag} {ta : TA} {tl : TE} {g : TG} {tb : TS} {D : Ends} {σ : St} {H : Hp} {a : Addr} {xs : List V} {lo : Int} {n : Nat}
theorem tFor_rng1 : tFor (iRng1 ta) g tb D σ H = ta σ H (fun vs H1 => ∃ j : Int, vs = [.int j] ∧ -(2 ^ 62) ≤ j ∧ j < 2 ^ 62 ∧ Loop (Itr 0 j.toNat) g tb D σ H1) := rfl
theorem tFor_rng2 : tFor (iRng2 ta) g tb D σ H = ta σ H (fun vs H1 => ∃ i j : Int, vs = [.int i, .int j] ∧ (-(2 ^ 62) ≤ i ∧ i < 2 ^ 62 ∧ -(2 ^ 62) ≤ j ∧ j < 2 ^ 62) ∧ Loop (Itr i (j - i).toNat) g tb D σ H1) := rfl
theorem tFor_list : tFor (iList K tl) g tb D σ H = tl σ H (fun x H1 => ∃ a, x = .ref a ∧ (∃ xs, SqL K H1 a xs) ∧ Loop (Itl K a) g tb D σ H1) := rfl
theorem tFor_tup : tFor (iTup K tl) g tb D σ H = tl σ H (fun x H1 => ∃ a, x = .ref a ∧ (∃ xs, SqT K H1 a xs) ∧ Loop (Itt K a) g tb D σ H1) := rfl
theorem loop_list (Pv : Nat → St → Hp → Prop) (h0 : Pv 0 σ H) (hl : ∀ i σ H, i ≤ xs.length → Pv i σ H → SqL K H a xs)
    (hs : ∀ i x σ H, xs[i]? = some x → Pv i σ H → g x σ H fun σ2 H2 => tb { D with nx := Pv (i + 1), ct := Pv (i + 1), bk := D.nx } σ2 H2) (hd : ∀ σ H, Pv xs.length σ H → D.nx σ H) : Loop (Itl K a) g tb D σ H := for_list Pv h0 hl hs hd
end
end L2
set_option Elab.async false
set_option linter.all false
set_option maxRecDepth 100000
namespace L2
open PySem PySem.Spec PyProof.Rows
structure JE (X : Cx) (e : Expr) (t : TE) : Prop where h : PE X e t
structure JT (X : Cx) (e : Expr) (t : TT) : Prop where h : PT X e t
structure JW (X : Cx) (e : Expr) (t : TT) : Prop where h : PW X e t
structure JA (X : Cx) (es : List Expr) (t : TA) : Prop where h : PA X es t
structure JS (X : Cx) (st : Stmt) (t : TS) : Prop where h : PS X st t
structure JB (X : Cx) (st : List Stmt) (t : TS) : Prop where h : PSs X st t
structure JG (X : Cx) (e : Expr) (t : TG) : Prop where h : PG X e t
structure JGs (X : Cx) (es : List Expr) (t : TGs) : Prop where h : PGs X es t
structure JI (X : Cx) (tg e : Expr) (t : TI) : Prop where h : PI X tg e t
structure JO (X : Cx) (e : Option Expr) (t : TO) : Prop where h : PO X e t
section
variable {X : Cx} {a b c e o : Expr} {es rest : List Expr} {ta tb tc te to : TE} {t tl : TA} {tA tB' : TT} {pos p p' : Pos} {st : Stmt} {sts sts' : List Stmt} {u v : TS}
theorem ev (i : Nat) {x : Str} (hN : X.N[i]? = some x := by rfl) (hv : Vis X.env.scope x := by first | exact Or.inl rfl | exact Or.inr (Or.inl rfl) | exact Or.inr (Or.inr rfl)) (hd : (x == ("__debug__" : Str)) = false := by decide)
    (hcd : (x == ("__classdict__" : Str)) = false := by decide) : JE X (.Name x pos) (tVar i) := ⟨pe_var hN hv hd hcd⟩
theorem ei {i j} : JE X (.Constant (.int i) j pos) (tC (.int i)) := ⟨pe_int⟩
theorem ebl {b j} : JE X (.Constant (.bool b) j pos) (tC (.bl b)) := ⟨pe_bl⟩
theorem enon {j} : JE X (.Constant .none j pos) (tC .non) := ⟨pe_non⟩
theorem estr {x j} : JE X (.Constant (.str x) j pos) (tC (.str x)) := ⟨pe_str⟩
theorem eglob {x : Str} {v : V} {u : Value} (hg : Gl X x) (hm : X.mg x = some u) (r : RelV v u) (hd : (x == ("__debug__" : Str)) = false := by decide) : JE X (.Name x pos) (tC v) := ⟨pe_glob hg hm r hd⟩
theorem etyp {x : Str} {n : String} (hg : Gl X x) (hm : X.mg x = none) (hv : bootBuiltins x = some (.type n)) (hn : x ≠ "__name__" := by decide) (hd : (x == ("__debug__" : Str)) = false := by decide) : JE X (.Name x pos) (tC (.ty n)) := ⟨pe_bltn hg hm hv rfl hn hd⟩
theorem eop {op : Operator} {r : R2} (ho : OpR X (binaryOp op) r) (ha : JE X a ta) (hb : JE X b tb) : JE X (.BinOp a op b pos) (tOp r ta tb) := ⟨pe_op ho ha.h hb.h⟩
theorem epowc {a b : Int} {j1 j2 : Nat} {p1 p2 : Pos} (v : Int) (h : decide (0 ≤ b ∧ b ≤ 1000000 ∧ a.natAbs < 2 ^ 64 ∧ a ^ b.toNat = v) = true := by decide +kernel) : JE X (.BinOp (.Constant (.int a) j1 p1) .Pow (.Constant (.int b) j2 p2) pos) (tC (.int v)) := ⟨pe_powc v h⟩
theorem eun {op : UnaryOp} {r : V → Hp → VK → Prop} (ho : UnR X (unaryOp op) r) (ha : JE X a ta) : JE X (.UnaryOp op a pos) (tUn r ta) := ⟨pe_un ho ha.h⟩
theorem enot (ha : JE X a ta) : JE X (.UnaryOp .Not a pos) (tNotV ta) := ⟨pe_not ha.h⟩
theorem eone {op} (h : JE X a ta) : JE X (.BoolOp op [a] pos) ta := ⟨pe_one h.h⟩
theorem eand (ha : JE X a ta) (hb : JE X (.BoolOp .And (b :: rest) pos) tb) : JE X (.BoolOp .And (a :: b :: rest) pos) (tAndV ta tb) := ⟨pe_and ha.h hb.h⟩
theorem eif (hc : JT X c tA) (ha : JE X a ta) (hb : JE X b tb) : JE X (.IfExp c a b pos) (tIf tA ta tb) := ⟨pe_ifExp hc.h ha.h hb.h⟩
theorem ecmp {op : CmpOp} {r : R2} (ho : OpR X (compareOp op) r) (ha : JE X a ta) (hb : JE X b tb) (hm : behindInMarks op b = false) : JE X (.Compare a [op] [b] pos) (tOp r ta tb) := ⟨pe_cmpR ho ha.h hb.h hm⟩
theorem echain {op op' : CmpOp} {r r' : R2} (ho : OpR X (compareOp op) r) (ho' : OpR X (compareOp op') r') (ha : JE X a ta) (hb : JE X b tb) (hc : JE X c tc)
    (hm : lastMarks [op, op'] [b, c] = false := by with_unfolding_all rfl) : JE X (.Compare a [op, op'] [b, c] pos) (tChain r r' ta tb tc) := ⟨pe_chain ho ho' ha.h hb.h hc.h hm⟩
theorem eix {r : R2} (hr : IxR X r) (ha : JE X a ta) (hb : JE X b tb) (hs : PlainIx b) : JE X (.Subscript a b pos) (tOp r ta tb) := ⟨pe_ix hr ha.h hb.h hs⟩
theorem eslice {r : V → Option Int → Option Int → Hp → VK → Prop} {lo hi : Option Expr} {tl th : TO} (hr : SlR X r) (he : JE X e te) (hl : JO X lo tl) (hu : JO X hi th) : JE X (.Subscript e (.Slice lo hi none p) pos) (tSl r te tl th) := ⟨pe_slice hr he.h hl.h hu.h⟩
theorem ecall {x : Str} {k : Nat} {ps : List Str} {sp : Sp} (C : Callee X.prog X.w X.K X.mg X.base x k ps sp) (hr : Room k X.A) (hg : Gl X x) (ha : JA X (e :: es) t)
    (hdb : (x == ("__debug__" : Str)) = false := by decide) (he : starEach (e :: es) X.env = (false, eval e X.env) :: starEach es X.env := by rfl) (hpl : (backTo pos (starEach es X.env)).any (·.1) = false := by rfl) :
    JE X (.Call (.Name x p) (e :: es) [] pos) (tCall sp [] E0 t) := ⟨pe_callF C hr hg ha.h hdb he hpl⟩
theorem ecallB {x : Str} {id : String} {r : List V → Hp → VK → Prop} (hc : CallR X (.builtin id) r) (hg : Gl X x) (hm : X.mg x = none) (hv : bootBuiltins x = some (.builtin id)) (ha : JA X (e :: es) t) (hn : x ≠ "__name__" := by decide) (hdb : (x == ("__debug__" : Str)) = false := by decide)
    (he : starEach (e :: es) X.env = (false, eval e X.env) :: starEach es X.env := by rfl) (hpl : (backTo pos (starEach es X.env)).any (·.1) = false := by rfl) : JE X (.Call (.Name x p) (e :: es) [] pos) (tCB r t) := ⟨pe_callB hc hg hm hv ha.h hn hdb he hpl⟩
theorem ecallTy {x : Str} {T : String} {r : List V → Hp → VK → Prop} (hc : CallR X (.type T) r) (hg : Gl X x) (hm : X.mg x = none) (hv : bootBuiltins x = some (.type T)) (ha : JA X (e :: es) t) (hn : x ≠ "__name__" := by decide) (hdb : (x == ("__debug__" : Str)) = false := by decide)
    (he : starEach (e :: es) X.env = (false, eval e X.env) :: starEach es X.env := by rfl) (hpl : (backTo pos (starEach es X.env)).any (·.1) = false := by rfl) : JE X (.Call (.Name x p) (e :: es) [] pos) (tCB r t) := ⟨pe_callTy hc hg hm hv ha.h hn hdb he hpl⟩
theorem ebm0 {T id : String} {name : Str} {r : V → List V → Hp → VK → Prop} {apos cpos : Pos} (pa : PlainAttrs T) (slot : Slot T name id) (hty : typeOf (.builtin id) = pure (.type "method_descriptor")) (hm : MtR X id r) (ho : JE X o to)
    (hbase : attributeBase o name X.env (eval o X.env) = eval o X.env := by rfl) (hline : (apos.endLine == cpos.line) = true := by rfl) : JE X (.Call (.Attribute o name apos) [] [] cpos) (tBM0 X.K T r to) := ⟨pe_bm0 pa slot hty hm ho.h hbase hline⟩
theorem ebm {T id : String} {name : Str} {r : V → List V → Hp → VK → Prop} {apos cpos : Pos} (pa : PlainAttrs T) (slot : Slot T name id) (hty : typeOf (.builtin id) = pure (.type "method_descriptor")) (hm : MtR X id r) (ho : JE X o to) (ha : JA X (e :: es) t)
    (hbase : attributeBase o name X.env (eval o X.env) = eval o X.env := by rfl)
    (hfew : ((backTo cpos (starEach (e :: es) X.env)).all (fun x => !x.1) && (backToKw cpos (keywordEach [] X.env)).all (fun x => x.1.isSome)
      && decide ((e :: es).length + ([] : List Keyword).length + (if ([] : List Keyword).isEmpty then 0 else 1) < 30)) = true := by rfl)
    (hline : (apos.endLine == cpos.line) = true := by rfl) (hs : starEach (e :: es) X.env = (false, eval e X.env) :: starEach es X.env := by rfl) (hplain : (backTo cpos (starEach es X.env)).any (·.1) = false := by rfl) :
    JE X (.Call (.Attribute o name apos) (e :: es) [] cpos) (tBM X.K T r to t) := ⟨pe_bm pa slot hty hm ho.h ha.h hbase hfew hline hs hplain⟩
theorem anil : JA X [] tNil := ⟨pa_nil⟩
theorem acons (ha : JE X e te) (hr : JA X es t) (hs : starEach (e :: es) X.env = (false, eval e X.env) :: starEach es X.env := by rfl) : JA X (e :: es) (tCons te t) := ⟨pa_cons ha.h hr.h hs⟩
theorem tcmp {op : CmpOp} {r : R2} (ho : OpR X (compareOp op) r) (ha : JE X a ta) (hb : JE X b tb) (hm : behindInMarks op b = false) : JT X (.Compare a [op] [b] pos) (tTest (tOp r ta tb)) := ⟨pt_cmpR ho ha.h hb.h hm⟩
theorem tval (h : JE X e te) (he : ∀ whole, isTrue e X.env whole = (do let v ← whole; standAt e.pos; holding [v] (truthy v)) := by intro _; rfl) : JT X e (tB te) := ⟨pt_val h.h he⟩
theorem ttruth (ha : JE X a ta) (he : ∀ whole, isTrue a X.env whole = (do let v ← whole; standAt a.pos; holding [v] (truthy v))) :
    JT X a (fun σ H Q => ta σ H fun x H' => ∃ k, TruV X.K x H' k ∧ Q k H') := ⟨pt_truth ha.h he⟩
theorem tnot (ha : JT X a tA) : JT X (.UnaryOp .Not a pos) (tNot tA) := ⟨pt_not ha.h⟩
theorem tw (h : JW X e tA) : JT X e tA := ⟨PW.pt h.h⟩
theorem wand1 (ha : JT X a tA) : JW X (.BoolOp .And [a] pos) tA := ⟨pw_and1 ha.h⟩
theorem wor1 (ha : JT X a tA) : JW X (.BoolOp .Or [a] pos) tA := ⟨pw_or1 ha.h⟩
theorem wand (ha : JT X a tA) (hb : JW X (.BoolOp .And (b :: rest) pos) tB') : JW X (.BoolOp .And (a :: b :: rest) pos) (tAnd tA tB') := ⟨pw_and ha.h hb.h⟩
theorem wor (ha : JT X a tA) (hb : JW X (.BoolOp .Or (b :: rest) pos) tB') : JW X (.BoolOp .Or (a :: b :: rest) pos) (tOr tA tB') := ⟨pw_or ha.h hb.h⟩
theorem bnil : JB X [] tNext := ⟨pss_nil⟩
theorem bcons (h1 : JS X st u) (h2 : JB X sts v) : JB X (st :: sts) (tSeq u v) := ⟨pss_cons h1.h h2.h⟩
theorem bone (h1 : JS X st u) : JB X [st] u := ⟨pss_one h1.h⟩
theorem bcut (h1 : JS X st u) (h2 : JB X sts v) : JB X (st :: sts) (tCut u v) := ⟨pss_cut h1.h h2.h⟩
theorem sexpr (he : JE X e te) (hs : swapsWith e none pos.line X.env = pure false := by rfl) : JS X (.Expr e pos) (tDrop te) := ⟨ps_expr he.h hs⟩
theorem sret (he : JE X e te) : JS X (.Return (some e) pos) (tRet te) := ⟨ps_ret he.h⟩
theorem sif (hc : JT X c tA) (ha : JB X sts u) (hb : JB X sts' v) : JS X (.If c sts sts' pos) (tIfS tA u v) := ⟨ps_if hc.h ha.h hb.h⟩
theorem sset {i : Nat} {x : Str} (hN : X.N.Nodup) (hi : X.N[i]? = some x) (hx : Loc X.env.scope x) (he : JE X e te) (hs : swapsWith e (some (.Name x p)) pos.line X.env = pure false := by rfl) (hf : X.fn x = true ∨ X.env.scope.names.lookup x = some .local := by first | exact .inl rfl | exact .inr rfl | assumption) :
    JS X (.Assign [.Name x p] e pos) (tAsg te (gName i)) := ⟨ps_set hN hi hx he.h hs hf⟩
theorem sasg {tg : Expr} {g : TG} (he : JE X e te) (hg : JG X tg g) (hs : swapsWithSole [tg] e pos.line X.env = pure false := by rfl) (hw : swappedStores [tg] e X.env = pure none := by rfl)
    (h1 : (assignEach [tg] X.env).map (·.2) = [assign tg X.env] := by rfl) : JS X (.Assign [tg] e pos) (tAsg te g) := ⟨ps_asg he.h hg.h hs hw h1⟩
theorem sfor {tg iter : Expr} {wi : TI} {g : TG} (hp : PassesOwn (model X.prog X.w) X.A X.env X.xe) (hc : X.calm = true) (hi : JI X tg iter wi) (hg : JG X tg g) (hb : JB X sts u)
    (hs : ∀ x, foldedSetIterable iter X.env x = pure x := by intro _; rfl) : JS X (.For tg iter sts [] pos) (tFor wi g u) := ⟨ps_for hp hc hi.h hg.h hb.h hs⟩
theorem gname {i : Nat} {x : Str} (hN : X.N.Nodup) (hi : X.N[i]? = some x) (hx : Loc X.env.scope x) (hf : X.fn x = true ∨ X.env.scope.names.lookup x = some .local := by first | exact .inl rfl | exact .inr rfl | assumption) : JG X (.Name x pos) (gName i) := ⟨pg_name hN hi hx hf⟩
theorem gsub {i : Expr} {ti : TE} {t : TSet} (ho : JE X o to) (hi : JE X i ti) (hs : PSet X t)
    (ha : ∀ v, assign (.Subscript o i pos) X.env v = (do
      let ov ← holding [v] (eval o X.env)
      let iv ← holding [v, ov] (eval i X.env)
      standAt pos
      holding [v, ov, iv] (setItem ov iv v)
      release [v, ov, iv] []) := by intro _; rfl) : JG X (.Subscript o i pos) (gSub to ti t) := ⟨pg_sub ho.h hi.h hs ha⟩
theorem gnil : JGs X [] gNil := ⟨pgs_nil⟩
theorem gcons {t : TG} {u : TGs} (h1 : JG X e t) (h2 : JGs X es u) (hs : (assignEach (e :: es) X.env).map (·.2) = assign e X.env :: (assignEach es X.env).map (·.2) := by rfl) : JGs X (e :: es) (gCons t u) := ⟨pgs_cons h1.h h2.h hs⟩
theorem ilist {tg l : Expr} (hl : JE X l te) : JI X tg l (iList X.K te) := ⟨pi_list hl.h⟩
theorem itup {tg l : Expr} (hl : JE X l te) : JI X tg l (iTup X.K te) := ⟨pi_tup hl.h⟩
theorem onone : JO X none tNoPart := ⟨po_none⟩
theorem osome (h : JE X e te) : JO X (some e) (tPart te) := ⟨po_some h.h⟩
end
section
variable {P : Program} {w : World} {K : PySem.W.Frag} {mg : Str → Option Value} {base : Heap}
theorem Fun.okJ {x qual : Str} {st : Stmt} {f : Addr} {fd : FuncData} {N ps : List Str} {k : Nat} {sp : Sp} (F : Fun K x qual st f fd) (S : FnScope N ps (defScope st)) (len : ∀ vs H Q E, sp vs H Q E → vs.length = ps.length)
    (hbody : ∀ (cdv : Value) (A : Around) (outer : List Env) (s : Shared) (H : Hp) (vs : List V) (Q : VK) (E : XK), Room k (A.deeper (envOfC qual (defScope st) s.heap.objs.size f cdv)) → sp vs H Q E →
      ∃ t, JB (cxOf CX0 P w K mg base N qual (defScope st) f cdv A outer s H E).nox (defBody st) t ∧ t { nx := fun _ H' => Q .non H', rt := Q } (start N vs) H) : FnOk P w K mg base CX0 (k + 1) f fd ps sp :=
  F.ok S len fun cdv A outer s H vs Q E hr h => let ⟨t, a, b⟩ := hbody cdv A outer s H vs Q E hr h; ⟨t, a.h, b⟩
end
end L2
set_option Elab.async false
set_option linter.all false
set_option maxRecDepth 100000
namespace L2
open PySem PySem.Spec PyProof.Rows
mutual
def Is (K : PySem.W.Frag) (H : Hp) : PyData → V → Prop
  | .none, v => v = .non
  | .bool b, v => v = .bl b
  | .int i, v => v = .int i
  | .str x, v => v = .str x
  | .list ds, v => ∃ a vs, v = .ref a ∧ SqL K H a vs ∧ IsAll K H ds vs
  | .tuple ds, v => ∃ a vs, v = .ref a ∧ SqT K H a vs ∧ IsAll K H ds vs
  | .dict _, _ => False
def IsAll (K : PySem.W.Frag) (H : Hp) : List PyData → List V → Prop
  | [], vs => vs = []
  | d :: ds, vs => ∃ v r, vs = v :: r ∧ Is K H d v ∧ IsAll K H ds r
end
section
variable {X : Cx} {pins : List (Addr × Obj)} {σ : St} {H : Hp} {s : Shared}
mutual
theorem Is.reads (I : Inv X pins σ H s) : ∀ {d : PyData} {v : V} {u : Value}, Is X.K H d v → RelV v u → ∃ as, Reads s.heap u d as
  | .none, v, u, h, r => by unfold Is at h; subst h; cases r; exact ⟨_, .none⟩
  | .bool b, v, u, h, r => by unfold Is at h; subst h; cases r; exact ⟨_, .bool b⟩
  | .int i, v, u, h, r => by unfold Is at h; subst h; obtain ⟨t, rfl⟩ := r; exact ⟨_, .int i t⟩
  | .str x, v, u, h, r => by unfold Is at h; subst h; obtain ⟨t, rfl⟩ := r; exact ⟨_, .str x t⟩
  | .list ds, v, u, h, r => by
    unfold Is at h
    obtain ⟨a, vs, rfl, hs, ha⟩ := h
    cases r
    obtain ⟨its, rv, ⟨o, n, e, hc, _, hd⟩, _⟩ := I.list hs
    obtain ⟨as, q⟩ := IsAll.reads I ha rv
    exact ⟨_, .list e hc hd (by simpa using q)⟩
  | .tuple ds, v, u, h, r => by
    unfold Is at h
    obtain ⟨a, vs, rfl, hs, ha⟩ := h
    cases r
    obtain ⟨its, rv, ⟨o, e, hc, n, hd⟩, _⟩ := I.tuple hs
    obtain ⟨as, q⟩ := IsAll.reads I ha rv
    exact ⟨_, .tuple e hc hd (by simpa using q)⟩
  | .dict _, v, u, h, r => by unfold Is at h; exact h.elim
theorem IsAll.reads (I : Inv X pins σ H s) : ∀ {ds : List PyData} {vs : List V} {us : List Value}, IsAll X.K H ds vs → Vals vs us → ∃ as, ReadsAll s.heap us ds as
  | [], vs, us, h, r => by unfold IsAll at h; subst h; cases r; exact ⟨_, .nil⟩
  | d :: ds, vs, us, h, r => by
    unfold IsAll at h
    obtain ⟨v, rs, rfl, h1, h2⟩ := h
    cases r with
    | cons r1 r2 =>
      obtain ⟨as, q1⟩ := Is.reads I h1 r1
      obtain ⟨bs, q2⟩ := IsAll.reads I h2 r2
      exact ⟨_, .cons q1 q2⟩
end
end
section
variable {X : Cx}
def rEqD (K : PySem.W.Frag) (neg : Bool) : R2 := fun x y H Q => ∃ d e, Is K H d x ∧ Is K H e y ∧ SeqAt.shaped d = true ∧ SeqAt.shaped e = true ∧ Q (.bl (if neg = true then !PyData.eqv d e else PyData.eqv d e)) H
theorem op_eqD (hu : X.A.units + 64 < cLine) : OpR X (compareOp .Eq) (rEqD X.K false) := by
  intro pins s σ H x y v u Q I rx ry h
  obtain ⟨d, e, hd, he, sd, se, q⟩ := h
  obtain ⟨as, ra⟩ := hd.reads I rx
  obtain ⟨bs, rb⟩ := he.reads I ry
  exact SeqAt.compareEq_shaped ra rb sd se hu ⟨.bl _, H, I, rfl, q⟩
theorem op_neD (hu : X.A.units + 64 < cLine) : OpR X (compareOp .NotEq) (rEqD X.K true) := by
  intro pins s σ H x y v u Q I rx ry h
  obtain ⟨d, e, hd, he, sd, se, q⟩ := h
  obtain ⟨as, ra⟩ := hd.reads I rx
  obtain ⟨bs, rb⟩ := he.reads I ry
  exact SeqAt.compareNe_shaped ra rb sd se hu ⟨.bl _, H, I, rfl, q⟩
end
mutual
def nob : PyData → Bool
  | .none => true
  | .bool _ => false
  | .int _ => true
  | .str _ => true
  | .list ds => nobAll ds
  | .tuple ds => nobAll ds
  | .dict _ => false
def nobAll : List PyData → Bool
  | [] => true
  | d :: ds => nob d && nobAll ds
end
mutual
theorem eqv_iff : ∀ {d e : PyData}, nob d = true → nob e = true → (PyData.eqv d e = true ↔ d = e)
  | .none, e, hd, he => by cases e <;> simp [PyData.eqv]
  | .bool _, e, hd, he => by simp [nob] at hd
  | .int i, e, hd, he => by cases e <;> simp [PyData.eqv, nob] at *
  | .str x, e, hd, he => by cases e <;> simp [PyData.eqv, nob] at *
  | .list ds, e, hd, he => by
    cases e with
    | list es =>
      simp only [nob] at hd he
      simp only [PyData.eqv, PyData.list.injEq]
      exact eqvAll_iff hd he
    | _ => simp [PyData.eqv]
  | .tuple ds, e, hd, he => by
    cases e with
    | tuple es =>
      simp only [nob] at hd he
      simp only [PyData.eqv, PyData.tuple.injEq]
      exact eqvAll_iff hd he
    | _ => simp [PyData.eqv]
  | .dict _, e, hd, he => by simp [nob] at hd
theorem eqvAll_iff : ∀ {ds es : List PyData}, nobAll ds = true → nobAll es = true → (PyData.eqvAll ds es = true ↔ ds = es)
  | [], es, _, _ => by cases es <;> simp [PyData.eqvAll]
  | d :: ds, es, hd, he => by
    cases es with
    | nil => simp [PyData.eqvAll]
    | cons e es =>
      simp only [nobAll, Bool.and_eq_true] at hd he
      simp only [PyData.eqvAll, Bool.and_eq_true, List.cons.injEq]
      rw [eqv_iff hd.1 he.1, eqvAll_iff hd.2 he.2]
end
mutual
theorem Is.same {K : PySem.W.Frag} {H H' : Hp} (h : Same H H') : ∀ {d : PyData} {v : V}, Is K H d v → Is K H' d v
  | .none, v, q => by unfold Is at q ⊢; exact q
  | .bool b, v, q => by unfold Is at q ⊢; exact q
  | .int i, v, q => by unfold Is at q ⊢; exact q
  | .str x, v, q => by unfold Is at q ⊢; exact q
  | .list ds, v, q => by
    unfold Is at q ⊢
    obtain ⟨a, vs, e, hs, ha⟩ := q
    exact ⟨a, vs, e, h.seq hs, IsAll.same h ha⟩
  | .tuple ds, v, q => by
    unfold Is at q ⊢
    obtain ⟨a, vs, e, hs, ha⟩ := q
    refine ⟨a, vs, e, ?_, IsAll.same h ha⟩
    rcases hs with (hs | ⟨o, hs⟩) | hs
    · exact .inl (.inl (h _ _ hs))
    · exact .inl (.inr ⟨o, h _ _ hs⟩)
    · exact .inr hs
  | .dict _, v, q => by unfold Is at q; exact q.elim
theorem IsAll.same {K : PySem.W.Frag} {H H' : Hp} (h : Same H H') : ∀ {ds : List PyData} {vs : List V}, IsAll K H ds vs → IsAll K H' ds vs
  | [], vs, q => by unfold IsAll at q ⊢; exact q
  | d :: ds, vs, q => by
    unfold IsAll at q ⊢
    obtain ⟨v, r, e, h1, h2⟩ := q
    exact ⟨v, r, e, Is.same h h1, IsAll.same h h2⟩
end
end L2
set_option Elab.async false
set_option linter.all false
set_option maxRecDepth 100000
namespace L2
open PySem PySem.Spec PyProof.Rows
theorem absV_rel : ∀ {u : Value} {x : V}, absV u = some x → RelV x u := by
  intro u x h
  cases u <;> simp only [absV, Option.some.injEq] at h <;> first | (subst h; first | rfl | exact ⟨_, rfl⟩) | cases h
theorem absV_all : ∀ {us : List Value} {xs : List V}, us.mapM absV = some xs → Vals xs us := by
  intro us
  induction us with
  | nil => intro xs h; simp at h; subst h; exact .nil
  | cons u us ih =>
    intro xs h
    rw [List.mapM_cons] at h
    cases e1 : absV u with
    | none => rw [e1] at h; simp at h
    | some x =>
      cases e2 : us.mapM absV with
      | none => rw [e1, e2] at h; simp at h
      | some ys =>
        rw [e1, e2] at h
        simp at h
        subst h
        exact .cons (absV_rel e1) (ih e2)
def kTup (K : PySem.W.Frag) (a : Addr) : Option (List V) := match K.lookup a with
  | some ⟨.type n, _, .seq its _, _⟩ => if n = "tuple" then (if its.size ≤ sizeLine then its.toList.mapM absV else none) else none
  | _ => none
theorem kTup_sq {K : PySem.W.Frag} {H : Hp} {a : Addr} {xs : List V} (h : kTup K a = some xs) : SqT K H a xs := by
  unfold kTup at h
  split at h
  · next n dd its k sl e =>
    by_cases h1 : n = "tuple"
    · rw [if_pos h1] at h
      by_cases h2 : its.size ≤ sizeLine
      · rw [if_pos h2] at h
        subst h1
        exact .inr ⟨_, its, k, e, rfl, rfl, h2, absV_all h⟩
      · rw [if_neg h2] at h; cases h
    · rw [if_neg h1] at h; cases h
  · cases h
def tupQ (K : PySem.W.Frag) (H : Hp) (a : Addr) : Option (List V) := match H a with
  | some (.tup xs) => some xs
  | some _ => none
  | none => kTup K a
def seqQ (K : PySem.W.Frag) (H : Hp) (a : Addr) : Option (List V) := match H a with
  | some (.lst xs) => some xs
  | some (.tup xs) => some xs
  | some (.frz _ (.lst xs)) => some xs
  | some _ => none
  | none => kTup K a
section
variable {K : PySem.W.Frag} {H H' : Hp} {a b : Addr} {xs : List V} {o : HO}
theorem tupQ_sq (h : tupQ K H a = some xs) : SqT K H a xs := by
  unfold tupQ at h
  split at h
  · next e => cases h; exact .inl (.inl e)
  · cases h
  · exact kTup_sq h
theorem seqQ_sq (h : seqQ K H a = some xs) : SqL K H a xs ∨ SqT K H a xs := by
  unfold seqQ at h
  split at h
  · next e => cases h; exact .inl (.inl (.inl e))
  · next e => cases h; exact .inr (.inl (.inl e))
  · next e => cases h; exact .inl (.inl (.inr ⟨_, e⟩))
  · cases h
  · exact .inr (kTup_sq h)
theorem seqQ_T (h : tupQ K H a = some xs) : seqQ K H a = some xs := by
  unfold tupQ at h
  unfold seqQ
  split at h
  · next e => rw [e]; exact h
  · cases h
  · next e => rw [e]; exact h
theorem seqQ_lst (h : H a = some (.lst xs)) : seqQ K H a = some xs := by unfold seqQ; rw [h]
theorem seqQ_tup (h : H a = some (.tup xs)) : seqQ K H a = some xs := by unfold seqQ; rw [h]
theorem tupQ_tup (h : H a = some (.tup xs)) : tupQ K H a = some xs := by unfold tupQ; rw [h]
theorem seqQ_updL : seqQ K (upd H a (.lst xs)) a = some xs := seqQ_lst upd_same
theorem seqQ_updT : seqQ K (upd H a (.tup xs)) a = some xs := seqQ_tup upd_same
theorem tupQ_updT : tupQ K (upd H a (.tup xs)) a = some xs := tupQ_tup upd_same
structure Ext (K : PySem.W.Frag) (H H' : Hp) : Prop where
  same : Same H H'
  mod : ∀ a xs, H a = none → kTup K a = some xs → H' a = none
theorem Ext.refl : Ext K H H := ⟨Same.refl H, fun _ _ h _ => h⟩
theorem Ext.trans {H1 H2 : Hp} (x : Ext K H H1) (y : Ext K H1 H2) : Ext K H H2 := ⟨x.same.trans y.same, fun a xs h k => y.mod a xs (x.mod a xs h k) k⟩
theorem Ext.tup (x : Ext K H H') (h : tupQ K H a = some xs) : tupQ K H' a = some xs := by
  unfold tupQ at h ⊢
  split at h
  · next e => rw [x.same _ _ e]; exact h
  · cases h
  · next e => rw [x.mod a xs e h]; exact h
end
section
variable {X : Cx}
def rIxQ (K : PySem.W.Frag) : R2 := fun x y H Q => ∃ p i xs v, x = .ref p ∧ y = .int i ∧ seqQ K H p = some xs ∧ atI xs i = some v ∧ Q v H
theorem ix_Q : IxR X (rIxQ X.K) := by
  intro value slice pins s σ H x y v u Q I rx ry h hs
  obtain ⟨p, i, xs, z, rfl, rfl, hq, he, q⟩ := h
  rcases seqQ_sq (K := X.K) hq with h1 | h1
  · exact ix_list value slice pins s σ H _ _ v u Q I rx ry ⟨p, xs, i, z, rfl, rfl, h1, he, q⟩ hs
  · exact ix_tup value slice pins s σ H _ _ v u Q I rx ry ⟨p, xs, i, z, rfl, rfl, h1, he, q⟩ hs
theorem call_lenQ : CallR X (.builtin "len") (fun xs H Q => ∃ p ys, xs = [.ref p] ∧ seqQ X.K H p = some ys ∧ Q (.int ys.length) H) := by
  intro pins s σ H xs us Q I r h
  obtain ⟨p, ys, rfl, hq, q⟩ := h
  exact call_len_seq pins s σ H _ us Q I r ⟨p, ys, rfl, seqQ_sq hq, q⟩
end
end L2
namespace L2
open PySem PySem.Spec PyProof.Rows
def new (K : PySem.W.Frag) (H : Hp) (p : Addr) : Prop := H p = none ∧ kTup K p = none
theorem new_upd {K : PySem.W.Frag} {H : Hp} {a p : Addr} {o : HO} : new K (upd H a o) p ↔ p ≠ a ∧ new K H p := by
  unfold new
  rw [upd_none, and_assoc]
theorem kTup_none {K : PySem.W.Frag} {a : Addr} (h : K.lookup a = none) : kTup K a = none := by unfold kTup; rw [h]
section
variable {X : Cx} {es : List Expr} {t : TA} {pos : Pos} {pins : List (Addr × Obj)} {σ : St} {H : Hp} {s : Shared}
theorem Inv.new (I : Inv X pins σ H s) : L2.new X.K H s.heap.objs.size := by
  refine ⟨I.hok.fresh (Nat.le_refl _), kTup_none ?_⟩
  cases e : X.K.lookup s.heap.objs.size with
  | none => rfl
  | some o => exact absurd (Heap.lt_size (I.kIn _ o e)) (Nat.lt_irrefl _)
def tTupQ (K : PySem.W.Frag) (t : TA) : TE := fun σ H Q => t σ H fun xs H1 => xs.length ≤ sizeLine ∧ ∀ p, L2.new K H1 p → Q (.ref p) (upd H1 p (.tup xs))
def tLstQ (K : PySem.W.Frag) (t : TA) : TE := fun σ H Q => t σ H fun xs H1 => xs.length ≤ sizeLine ∧ ∀ p, L2.new K H1 p → Q (.ref p) (upd H1 p (.lst xs))
theorem etupQ {k} (h : JA X es t) : JE X (.Tuple es k pos) (tTupQ X.K t) := ⟨by
  intro pins s σ H Q I hq
  refine wpAny_Tuple_spliced (thn (h.h pos pins s σ H _ I hq) fun us s1 ⟨xs, H1, I1, r, z, q⟩ => ⟨by rw [← r.length]; exact z, ?_⟩)
  refine ⟨.ref s1.heap.objs.size, upd H1 s1.heap.objs.size (.tup xs), I1.laid (t' := s1.toks) (fun b u e => Heap.get?_push_of_some _ e) (Nat.le_refl _) ?_, rfl, q _ I1.new⟩
  exact ⟨z, us, r, ⟨_, Heap.get?_push_size _ rfl, rfl, _, rfl⟩⟩⟩
theorem elstQ (h : JA X es t) : JE X (.List es pos) (tLstQ X.K t) := ⟨by
  intro pins s σ H Q I hq
  refine wpAny_List_spliced (thn (h.h pos pins s σ H _ I hq) fun us s1 ⟨xs, H1, I1, r, z, q⟩ => ⟨by rw [← r.length]; exact z, ?_⟩)
  refine ⟨.ref s1.heap.objs.size, upd H1 s1.heap.objs.size (.lst xs), I1.laid (t' := s1.toks) (fun b u e => Heap.get?_push_of_some _ e) (Nat.le_refl _) ?_, rfl, q _ I1.new⟩
  exact ⟨z, us, 0, r, Heap.get?_push_size _ rfl⟩⟩
theorem snever {st : Stmt} : JS X st tNever := ⟨ps_never⟩
def rCatQ (K : PySem.W.Frag) : R2 := fun x y H Q => ∃ l b xs zs, x = .ref l ∧ y = .ref b ∧ H l = some (.lst xs) ∧ H b = some (.lst zs) ∧ xs.length + zs.length ≤ sizeLine ∧ ∀ p, L2.new K H p → Q (.ref p) (upd H p (.lst (xs ++ zs)))
theorem op_catQ : OpR X (binaryOp .Add) (rCatQ X.K) := by
  intro pins s σ H x y v u Q I rx ry h
  obtain ⟨l, b, xs, zs, rfl, rfl, hH, hB, hz, q⟩ := h
  cases rx
  cases ry
  obtain ⟨z, its, n, r, hl, e⟩ := I.lstM hH
  obtain ⟨z2, its2, n2, r2, hl2, e2⟩ := I.lstM hB
  refine PySem.P.add_list e e2 ?_ (by rw [List.size_toArray, List.size_toArray]; omega)
  have ea : its.toArray ++ its2.toArray = (its ++ its2).toArray := by simp
  rw [ea]
  exact ⟨.ref _, _, I.lnew (t' := s.toks) (r.append r2) (by rw [List.length_append]; omega), rfl, q _ I.new⟩
end
structure Kp (K : PySem.W.Frag) (p : Addr) (H H' : Hp) : Prop where
  keep : ∀ q o, H q = some o → q ≠ p → H' q = some o
  mod : ∀ a xs, H a = none → kTup K a = some xs → H' a = none
section
variable {K : PySem.W.Frag} {p a : Addr} {H H' H1 H2 : Hp} {xs ys : List V} {o : HO}
theorem Kp.refl : Kp K p H H := ⟨fun _ _ h _ => h, fun _ _ h _ => h⟩
theorem Kp.trans (x : Kp K p H H1) (y : Kp K p H1 H2) : Kp K p H H2 := ⟨fun q o h n => y.keep q o (x.keep q o h n) n, fun a xs h k => y.mod a xs (x.mod a xs h k) k⟩
theorem Kp.upd (h : H p = some (.lst xs)) : Kp K p H (upd H p o) := ⟨fun q u e n => by rw [upd_ne n]; exact e, fun b ys e _ => by rw [upd_ne (fun z => by rw [z, h] at e; cases e)]; exact e⟩
theorem Kp.new {q : Addr} (h : L2.new K H q) : Kp K p H (L2.upd H q o) := ⟨fun r u e _ => by rw [upd_ne (ne_of_none e h.1)]; exact e, fun b ys e k => by rw [upd_ne (fun z => by rw [z, h.2] at k; cases k)]; exact e⟩
theorem Kp.tup (x : Kp K p H H') (hp : H p = some (.lst ys)) (h : tupQ K H a = some xs) : tupQ K H' a = some xs := by
  unfold tupQ at h ⊢
  split at h
  · next e => rw [x.keep _ _ e (ne_of e hp (by intro z; cases z))]; exact h
  · cases h
  · next e => rw [x.mod a xs e h]; exact h
theorem Ext.new {q : Addr} (h : L2.new K H q) : Ext K H (L2.upd H q o) := ⟨fun b u e => by rw [upd_ne (ne_of_none e h.1)]; exact e, fun b ys e k => by rw [upd_ne (fun z => by rw [z, h.2] at k; cases k)]; exact e⟩
theorem Kp.ext (x : Kp K p (L2.upd H p o) H') (h : L2.new K H p) : Ext K H H' := by
  refine ⟨fun b u e => ?_, fun b ys e k => ?_⟩
  · have n : b ≠ p := ne_of_none e h.1
    exact x.keep b u (by rw [upd_ne n]; exact e) n
  · exact x.mod b ys (by rw [upd_ne (fun z => by rw [z, h.2] at k; cases k)]; exact e) k
theorem Ext.kp (x : Ext K H H') : Kp K p H H' := ⟨fun q o e _ => x.same q o e, x.mod⟩
end
end L2
namespace L2
open PySem PySem.Spec PyProof.Rows
section
variable {K : PySem.W.Frag} {p a : Addr} {H H' : Hp} {xs : List V}
end
end L2
namespace L2
open PySem PySem.Spec PyProof.Rows
def TyQ (K : PySem.W.Frag) (H : Hp) (x : V) (t : Value) : Prop := TyOf K H x t ∨ ∃ a xs, x = .ref a ∧ tupQ K H a = some xs ∧ t = .type "tuple"
theorem TyQ.tup {K : PySem.W.Frag} {H : Hp} {a : Addr} {xs : List V} (h : tupQ K H a = some xs) : TyQ K H (.ref a) (.type "tuple") := .inr ⟨a, xs, rfl, h, rfl⟩
section
variable {X : Cx}
theorem call_isinstQ : CallR X (.builtin "isinstance") (fun xs H Q => ∃ x n t b, xs = [x, .ty n] ∧ TyQ X.K H x t ∧ PySem.W.kitOne X.K t (.type n) = some b ∧ Q (.bl b) H) := by
  intro pins s σ H xs us Q I r h
  obtain ⟨x, n, t, b, rfl, ty, e, q⟩ := h
  obtain ⟨u, w', rfl, ru, rw'⟩ := vals2 r
  cases rw'
  rcases ty with ty | ⟨a, ys, rfl, hq, rfl⟩
  · exact isinst_ok I ru ty e fun tk => ⟨.bl b, H, I.tok tk, rfl, q⟩
  · cases (show u = Value.ref a from ru)
    obtain ⟨its, _, ⟨o, h1, h2, _⟩, _⟩ := I.tuple (tupQ_sq hq)
    exact PySem.W.kia_one PySem.W.kitx_tuple I.kIn ⟨o, h1, h2⟩ e (fun z => nomatch z) fun tk => ⟨.bl b, H, I.tok tk, rfl, q⟩
end
end L2
namespace L2
open PySem PySem.Spec PyProof.Rows
section
variable {X : Cx}
def rInQ (K : PySem.W.Frag) (neg : Bool) : R2 := fun x y H Q => ∃ p xs, y = .ref p ∧ seqQ K H p = some xs ∧ flatV x = true ∧ xs.all flatV = true ∧ Q (.bl (if neg = true then !inV x xs else inV x xs)) H
theorem op_inQ : OpR X (compareOp .In) (rInQ X.K false) := by
  intro pins s σ H x y v u Q I rx ry h
  obtain ⟨p, xs, rfl, hq, fx, fs, q⟩ := h
  exact op_in_seq pins s σ H x _ v u Q I rx ry ⟨p, xs, rfl, seqQ_sq hq, fx, fs, q⟩
end
end L2
namespace L2
open PySem PySem.Spec PyProof.Rows
def ModFree (K : PySem.W.Frag) (H : Hp) : Prop := ∀ b xs, kTup K b = some xs → H b = none
theorem kTup_look {K : PySem.W.Frag} {a : Addr} {xs : List V} (h : kTup K a = some xs) : ∃ o, K.lookup a = some o := by
  cases e : K.lookup a with
  | none => rw [kTup_none e] at h; cases h
  | some o => exact ⟨o, rfl⟩
theorem FnOk.mod {P : Program} {w : World} {K : PySem.W.Frag} {mg : Str → Option Value} {base : Heap} {CX : CXT} {k : Nat} {f : Addr} {fd : FuncData} {ps : List Str} {sp : Sp} (len : ∀ vs H Q E, sp vs H Q E → vs.length = ps.length)
    (F : FnOk P w K mg base CX k f fd ps (fun vs H Q E => sp vs H Q E ∧ ModFree K H)) : FnOk P w K mg base CX k f fd ps sp :=
  ⟨len, fun A outer s H args us vs Q E hr e0 hb r h => F.run A outer s H args us vs Q E hr e0 hb r ⟨h, fun b xs hk => by
    obtain ⟨o, e⟩ := kTup_look hk
    exact (e0.bs b o (e0.mod.kin b o e)).2⟩⟩
section
variable {P : Program} {w : World} {K : PySem.W.Frag} {mg : Str → Option Value} {base : Heap}
end
theorem ModFree.tup {K : PySem.W.Frag} {H : Hp} {a : Addr} {xs : List V} (m : ModFree K H) (h : kTup K a = some xs) : tupQ K H a = some xs := by
  unfold tupQ
  rw [m a xs h]
  exact h
theorem ModFree.ext {K : PySem.W.Frag} {H H' : Hp} (m : ModFree K H) (x : Ext K H H') : ModFree K H' := fun b xs h => x.mod b xs (m b xs h) h
end L2
namespace L2
open PySem PySem.Spec PyProof.Rows
section
variable {X : Cx} {tg : Expr}
end
section
variable {K : PySem.W.Frag} {ta : TA} {g : TG} {tb : TS} {D : Ends} {σ : St} {H : Hp} {lo stp : Int} {n : Nat}
end
end L2
namespace L2
open PySem PySem.Spec PyProof.Rows
section
variable {X : Cx}
def rSlQ (K : PySem.W.Frag) : V → Option Int → Option Int → Hp → VK → Prop := fun x lo hi H Q => ∃ a xs, x = .ref a ∧ SqL K H a xs ∧ ∀ p, L2.new K H p → Q (.ref p) (upd H p (.lst (cutV xs lo hi)))
theorem sl_listQ : SlR X (rSlQ X.K) := by
  intro pins s σ H x v vl vu lo hi sl Q I rx hs pl pu h
  obtain ⟨a, xs, rfl, hx, q⟩ := h
  cases rx
  obtain ⟨its, r, ht, hz⟩ := I.list hx
  have hlen := r.length
  refine ⟨"list", _, slot_list_getitem.lookup, ht.isList.typeIs, ?_⟩
  refine wpAny_getItem_list_slice ht.isList hs pl pu .none (by simp) ?_ (by rw [List.size_toArray] <;> omega)
  rw [slicePick_cut, ← hlen]
  refine ⟨.ref s.heap.objs.size, _, I.laid (t' := s.toks) (o := .lst (cutV xs lo hi)) (fun b ob q => Heap.get?_push_of_some _ q) (Nat.le_refl _) ?_, rfl, q _ I.new⟩
  exact ⟨Nat.le_trans (cutV_length xs lo hi) hz, _, 0, (r.drop (HT.sIx xs.length 0 lo)).take (HT.sIx xs.length xs.length hi - HT.sIx xs.length 0 lo), Heap.get?_push_size _ rfl⟩
end
end L2
set_option Elab.async false
set_option linter.all false
set_option maxRecDepth 100000
namespace L2
open PySem PySem.Spec PyProof.Rows
section
variable {X : Cx} {es : List Expr} {pos : Pos}
def gTupQ (K : PySem.W.Frag) (n : Nat) (t : TGs) : TG := fun v σ H Q => ∃ a xs, v = .ref a ∧ tupQ K H a = some xs ∧ xs.length = n ∧ t xs σ H Q
theorem gtupQ {k : Nat} {t : TGs} {n : Nat} (hc : X.calm = true) (h : JGs X es t) (hn : (assignEach es X.env).length = n := by rfl) (hst : (assignEach es X.env).findIdx? (·.1) = none := by rfl) : JG X (.Tuple es k pos) (gTupQ X.K n t) :=
  ⟨fun pins s σ H v u Q I r ⟨a, xs, e, h1, h2, h3⟩ => pg_tup hc h.h hn hst pins s σ H v u Q I r ⟨a, xs, e, tupQ_sq h1, h2, h3⟩⟩
end
theorem iteT' {c : Prop} [Decidable c] {a b : Prop} (h : c) (x : a) : if c then a else b := by rw [if_pos h]; exact x
theorem iteF' {c : Prop} [Decidable c] {a b : Prop} (h : ¬ c) (x : b) : if c then a else b := by rw [if_neg h]; exact x
theorem kTup_of {K : PySem.W.Frag} {a : Addr} {d : Option Addr} {its : Array Value} {k : Nat} {sl : Array (Option Value)} {xs : List V} (h : K.lookup a = some ⟨.type "tuple", d, .seq its k, sl⟩) (hz : its.size ≤ 1000) (e : its.toList.mapM absV = some xs) : kTup K a = some xs := by
  unfold kTup
  rw [h]
  simp only [if_true]
  rw [if_pos (small_le hz)]
  exact e
end L2
namespace L2
open PySem PySem.Spec PyProof.Rows
theorem cutV_to (xs : List V) (k : Nat) : cutV xs none (some (k : Int)) = xs.take k := by
  unfold cutV
  rw [HT.sIx_none, HT.sIx_nat, List.drop_zero, Nat.sub_zero]
  by_cases h : k ≤ xs.length
  · rw [Nat.min_eq_left h]
  · rw [Nat.min_eq_right (by omega), List.take_of_length_le (Nat.le_refl _), List.take_of_length_le (by omega)]
end L2
namespace L2
open PySem PySem.Spec PyProof.Rows
theorem Ext.at {K : PySem.W.Frag} {H H' : Hp} {a : Addr} {o : HO} (x : Ext K H H') (h : H a = some o) : H' a = some o := x.same _ _ h
theorem Ext.seqQ {K : PySem.W.Frag} {H H' : Hp} {a : Addr} {xs : List V} (x : Ext K H H') (h : seqQ K H a = some xs) : seqQ K H' a = some xs := by
  unfold L2.seqQ at h ⊢
  split at h
  · next e => rw [x.same _ _ e]; exact h
  · next e => rw [x.same _ _ e]; exact h
  · next e => rw [x.same _ _ e]; exact h
  · cases h
  · next e => rw [x.mod a xs e h]; exact h
end L2
namespace L2
open PySem PySem.Spec PyProof.Rows
structure Kp2 (K : PySem.W.Frag) (p q : Addr) (H H' : Hp) : Prop where
  keep : ∀ r o, H r = some o → r ≠ p → r ≠ q → H' r = some o
  mod : ∀ a xs, H a = none → kTup K a = some xs → H' a = none
section
variable {K : PySem.W.Frag} {p q : Addr} {H H' H1 H2 : Hp} {o o' : HO}
theorem Kp.l (x : Kp K p H H') : Kp2 K p q H H' := ⟨fun r o h n _ => x.keep r o h n, x.mod⟩
theorem Kp.r (x : Kp K q H H') : Kp2 K p q H H' := ⟨fun r o h _ n => x.keep r o h n, x.mod⟩
theorem Kp2.trans (x : Kp2 K p q H H1) (y : Kp2 K p q H1 H2) : Kp2 K p q H H2 := ⟨fun r o h n m => y.keep r o (x.keep r o h n m) n m, fun a xs h k => y.mod a xs (x.mod a xs h k) k⟩
theorem Kp2.ext (x : Kp2 K p q (L2.upd (L2.upd H p o) q o') H') (hp : L2.new K H p) (hq : L2.new K (L2.upd H p o) q) : Ext K H H' := by
  have y : Ext K H (L2.upd (L2.upd H p o) q o') := (Ext.new hp).trans (Ext.new hq)
  refine ⟨fun b u e => ?_, fun b ys e k => x.mod b ys (y.mod b ys e k) k⟩
  have n : b ≠ p := ne_of_none e hp.1
  have m : b ≠ q := ne_of_none ((Ext.new hp).at e) hq.1
  exact x.keep b u (y.at e) n m
end
end L2
set_option Elab.async false
set_option linter.all false
set_option maxRecDepth 100000
namespace L2
open PySem PySem.Spec PyProof.Rows
def closL (env : Env) : List (Str × NameKind) → List (Str × Addr) → List (Str × Addr)
  | [], cs => cs
  | (n, k) :: r, cs => closL env r (if (k == NameKind.free) = true then (match env.cells.lookup n with | some a => (n, a) :: cs | none => cs) else cs)
theorem closureFor_eq {scope : Scope} {env : Env} (h : ∀ x ∈ scope.names, x.2 = .free → ∃ c, env.cells.lookup x.1 = some c) : closureFor scope env = pure (closL env scope.names []) := by
  unfold closureFor
  generalize scope.names = names at h ⊢
  generalize ([] : List (Str × Addr)) = cs
  induction names generalizing cs with
  | nil => rfl
  | cons x r ih =>
    obtain ⟨n, k⟩ := x
    have ih' := fun cs => ih (cs := cs) fun x hx => h x (List.mem_cons_of_mem _ hx)
    simp only [List.forIn_cons]
    cases hk : (k == NameKind.free) with
    | false =>
      simp only [closL, hk]
      exact ih' cs
    | true =>
      obtain ⟨c, hc⟩ := h (n, k) (List.mem_cons_self) (by simpa using hk)
      simp only [closL, hk, hc, cellOf]
      exact ih' _
theorem closL_mem {env : Env} : ∀ {names : List (Str × NameKind)} {cs : List (Str × Addr)} {n : Str} {c : Addr}, (n, c) ∈ closL env names cs → (n, c) ∈ cs ∨ env.cells.lookup n = some c
  | [], cs, n, c, h => .inl h
  | (m, k) :: r, cs, n, c, h => by
    rw [closL] at h
    rcases closL_mem h with h | h
    · split at h
      · split at h
        · next a e =>
          rcases List.mem_cons.mp h with z | z
          · cases z; exact .inr e
          · exact .inl z
        · exact .inl h
      · exact .inl h
    · exact .inr h
theorem closL_sub {env : Env} : ∀ {names : List (Str × NameKind)} {cs : List (Str × Addr)} {p : Str × Addr}, p ∈ cs → p ∈ closL env names cs
  | [], cs, p, h => h
  | (m, k) :: r, cs, p, h => by
    rw [closL]
    refine closL_sub ?_
    split
    · split
      · exact List.mem_cons_of_mem _ h
      · exact h
    · exact h
theorem closL_has {env : Env} : ∀ {names : List (Str × NameKind)} {cs : List (Str × Addr)} {n : Str} {c : Addr}, (n, NameKind.free) ∈ names → env.cells.lookup n = some c → (n, c) ∈ closL env names cs
  | (m, k) :: r, cs, n, c, h, e => by
    rw [closL]
    rcases List.mem_cons.mp h with z | z
    · cases z
      rw [if_pos (by decide), e]
      exact closL_sub List.mem_cons_self
    · exact closL_has z e
theorem lookup_mem {α : Type} : ∀ {l : List (Str × α)} {n : Str} {c : α}, l.lookup n = some c → (n, c) ∈ l
  | (m, d) :: r, n, c, h => by
    rw [List.lookup_cons] at h
    cases e : n == m with
    | true =>
      rw [e] at h
      cases h
      rw [eq_of_beq e]
      exact List.mem_cons_self
    | false =>
      rw [e] at h
      exact List.mem_cons_of_mem _ (lookup_mem h)
theorem mem_lookup {α : Type} : ∀ {l : List (Str × α)} {n : Str} {c : α}, (n, c) ∈ l → ∃ d, l.lookup n = some d
  | (m, d) :: r, n, c, h => by
    rw [List.lookup_cons]
    cases e : n == m with
    | true => exact ⟨d, rfl⟩
    | false =>
      rcases List.mem_cons.mp h with z | z
      · cases z
        rw [beq_self_eq_true] at e; cases e
      · exact mem_lookup z
theorem clos_look {env : Env} {names : List (Str × NameKind)} {n : Str} {c : Addr} (h : (closL env names []).lookup n = some c) : env.cells.lookup n = some c := by
  rcases closL_mem (lookup_mem h) with z | z
  · cases z
  · exact z
theorem clos_has {env : Env} {names : List (Str × NameKind)} {n : Str} {c : Addr} (h : (n, NameKind.free) ∈ names) (e : env.cells.lookup n = some c) : (closL env names []).lookup n = some c := by
  obtain ⟨d, hd⟩ := mem_lookup (closL_has (cs := []) h e)
  rw [hd]
  exact (clos_look hd).symm.trans e ▸ rfl
theorem relabel_free {env : Env} : ∀ {names : List (Str × NameKind)} {x : Str}, names.lookup x = some .free →
    (names.map fun (n, k) => if (k == NameKind.free && env.scope.kind == .function && env.kindOf n == some .cell) then (n, NameKind.cell) else (n, k)).lookup x = some .cell ∨
    (names.map fun (n, k) => if (k == NameKind.free && env.scope.kind == .function && env.kindOf n == some .cell) then (n, NameKind.cell) else (n, k)).lookup x = some .free
  | [], _, h => by simp at h
  | (n, k) :: r, x, h => by
    have ih := @relabel_free env r x
    show List.lookup x ((if (k == NameKind.free && env.scope.kind == .function && env.kindOf n == some .cell) = true then (n, NameKind.cell) else (n, k)) :: _) = _ ∨ List.lookup x ((if (k == NameKind.free && env.scope.kind == .function && env.kindOf n == some .cell) = true then (n, NameKind.cell) else (n, k)) :: _) = _
    cases hx : x == n with
    | true =>
      simp only [List.lookup_cons, hx] at h
      cases h
      split
      · simp [List.lookup_cons, hx]
      · simp [List.lookup_cons, hx]
    | false =>
      simp only [List.lookup_cons, hx] at h
      split
      · simp only [List.lookup_cons, hx]; exact ih h
      · simp only [List.lookup_cons, hx]; exact ih h
theorem relabel_mem {env : Env} : ∀ {names : List (Str × NameKind)} {x : Str} {kk : NameKind}, (∀ y ∈ names, y.2 ≠ .cell) →
    (names.map fun (n, k) => if (k == NameKind.free && env.scope.kind == .function && env.kindOf n == some .cell) then (n, NameKind.cell) else (n, k)).lookup x = some kk → kk = .cell ∨ kk = .free → (x, NameKind.free) ∈ names
  | [], _, _, _, h, _ => by simp at h
  | (n, k) :: r, x, kk, hc, h, hk => by
    have ih := @relabel_mem env r x kk fun y hy => hc y (List.mem_cons_of_mem _ hy)
    change List.lookup x ((if (k == NameKind.free && env.scope.kind == .function && env.kindOf n == some .cell) = true then (n, NameKind.cell) else (n, k)) :: _) = _ at h
    cases hx : x == n with
    | true =>
      have e := eq_of_beq hx
      subst e
      split at h
      · next q =>
        simp only [Bool.and_eq_true, beq_iff_eq] at q
        rw [q.1.1]
        exact List.mem_cons_self
      · simp only [List.lookup_cons, hx] at h
        cases h
        rcases hk with z | z
        · exact absurd z (hc _ List.mem_cons_self)
        · rw [z]; exact List.mem_cons_self
    | false =>
      refine List.mem_cons_of_mem _ (ih ?_ hk)
      split at h
      · simp only [List.lookup_cons, hx] at h; exact h
      · simp only [List.lookup_cons, hx] at h; exact h
def Cx.comp (X : Cx) (N : List Str) (scope : Scope) (C : Addr) (s : Shared) (H : Hp) (fp : List Addr) : Cx :=
  { X with N := N, s₀ := s, H₀ := H, env := compEnvC scope (closL X.env scope.names []) C X.env, outer := X.stack, ex := fp, fn := fun _ => false, pn := [], xe := fun _ _ => False }
def pick (σ : St) (src : List (Option Nat)) : St := src.map fun o => match o with | none => none | some j => (σ[j]?).join
def capOk (NX : List Str) (scX sc : Scope) (N : List Str) (src : List (Option Nat)) : Bool :=
  sc.names.all (fun x => x.2 != .cell) && sc.names.all (fun x => x.2 != .local || sc.names.lookup x.1 == some .local) &&
  sc.names.all (fun x => x.2 != .free || (scX.names.lookup x.1 == some .cell || scX.names.lookup x.1 == some .free)) && N.length == src.length &&
  (N.zip src).all (fun p => match p.2 with | none => true | some j => NX[j]? == some p.1 && (scX.names.lookup p.1 == some .cell || scX.names.lookup p.1 == some .free) && sc.names.lookup p.1 == some .free)
structure Cap (X : Cx) (sc : Scope) (N : List Str) (src : List (Option Nat)) : Prop where
  kind : sc.kind = .function
  ok : capOk X.N X.env.scope sc N src = true
section
variable {X : Cx} {sc : Scope} {N : List Str} {src : List (Option Nat)}
theorem Cap.cell (c : Cap X sc N src) : ∀ y ∈ sc.names, y.2 ≠ .cell := fun y hy => by
  have h := c.ok
  simp only [capOk, Bool.and_eq_true, List.all_eq_true] at h
  simpa using h.1.1.1.1 y hy
theorem Cap.names (c : Cap X sc N src) : ∀ y ∈ sc.names, y.2 = .local → sc.names.lookup y.1 = some .local := fun y hy e => by
  have h := c.ok
  simp only [capOk, Bool.and_eq_true, List.all_eq_true] at h
  have q := h.1.1.1.2 y hy
  rw [e] at q
  simpa using q
theorem Cap.free (c : Cap X sc N src) {x : Str} (hx : (x, NameKind.free) ∈ sc.names) : X.env.kindOf x = some .cell ∨ X.env.kindOf x = some .free := by
  have h := c.ok
  simp only [capOk, Bool.and_eq_true, List.all_eq_true] at h
  have q := h.1.1.2 _ hx
  simpa [Env.kindOf] using q
theorem Cap.len (c : Cap X sc N src) : N.length = src.length := by
  have h := c.ok
  simp only [capOk, Bool.and_eq_true, List.all_eq_true] at h
  simpa using h.1.2
theorem Cap.at_ (c : Cap X sc N src) {i j : Nat} {x : Str} (h1 : N[i]? = some x) (h2 : src[i]? = some (some j)) : X.N[j]? = some x ∧ (X.env.kindOf x = some .cell ∨ X.env.kindOf x = some .free) ∧ sc.names.lookup x = some .free := by
  have h := c.ok
  simp only [capOk, Bool.and_eq_true, List.all_eq_true] at h
  have m : (x, some j) ∈ N.zip src := by
    refine List.mem_of_getElem? (i := i) ?_
    rw [List.getElem?_zip_eq_some]
    exact ⟨h1, h2⟩
  have q := h.2 _ m
  simp only [Bool.and_eq_true, Bool.or_eq_true, beq_iff_eq] at q
  exact ⟨q.1.1, q.1.2, q.2⟩
theorem pick_some {σ : St} {i : Nat} {v : V} (h : (pick σ src)[i]? = some (some v)) : ∃ j, src[i]? = some (some j) ∧ σ[j]? = some (some v) := by
  unfold pick at h
  rw [List.getElem?_map] at h
  cases e : src[i]? with
  | none => rw [e] at h; cases h
  | some o =>
    rw [e] at h
    cases o with
    | none => simp at h
    | some j =>
      refine ⟨j, rfl, ?_⟩
      simp only [Option.map_some, Option.some.injEq] at h
      cases e2 : σ[j]? with
      | none => rw [e2] at h; cases h
      | some w =>
        rw [e2] at h
        simp only [Option.join] at h
        exact congrArg some h
theorem Cx.Ok.comp {pins : List (Addr × Obj)} {σ : St} {H : Hp} {s : Shared} {fp : List Addr} {C : Addr} (I : Inv X pins σ H s) (c : Cap X sc N src) (hf : ∀ b ∈ fp, FpOk X pins H b) (ho : ∀ b ∈ fp, ∃ o, s.heap.get? b = some o) (hC : s.heap.objs.size ≤ C) : (X.comp N sc C s H fp).Ok where
  mod := I.ok.mod
  kind := c.kind
  glob := I.ok.glob
  blt := I.ok.blt
  above := hC
  inj := fun x y a h h' => I.ok.inj x y a (clos_look h) (clos_look h')
  has := fun x h => by
    have m : (x, NameKind.free) ∈ sc.names := by
      rcases h with h | h
      · exact relabel_mem c.cell h (.inl rfl)
      · exact relabel_mem c.cell h (.inr rfl)
    obtain ⟨a, ha⟩ := I.ok.has x (c.free m)
    exact ⟨a, clos_has m ha⟩
  cab := fun _ _ h => nomatch h
  hd := I.ok.hd
  frames := I.ok.frames
  stk := .inl rfl
  exf := fun b hb => by
    obtain ⟨o, e⟩ := ho b hb
    exact ⟨Nat.ne_of_lt (Nat.lt_of_lt_of_le (Heap.lt_size e) hC), fun x a h => (hf b hb).2.2.2.2.1 x a (clos_look h)⟩
  bs := I.bs
  bsz := Nat.le_trans I.ok.bsz I.sz
  noex := fun b o e hb => by
    rcases (hf b hb).2.2.2.1 with z | z
    · exact I.ok.noex b o e z
    · exact absurd (Nat.lt_of_lt_of_le (Heap.lt_size e) (Nat.le_trans I.ok.bsz z)) (Nat.lt_irrefl _)
  exfs := fun b hb z => by
    rcases List.mem_cons.mp (I.stkSub b z) with q | q
    · exact (hf b hb).2.1 q
    · exact (hf b hb).2.2.1 q
  funs := I.stack
  frf := I.stkFree
theorem Inv.block {pins : List (Addr × Obj)} {σ : St} {H : Hp} {s : Shared} {fp : List Addr} {C D : Addr} {h1 : Heap} {t' : Nat} (I : Inv X pins σ H s) (c : Cap X sc N src) (hf : ∀ b ∈ fp, FpOk X pins H b) (ho : ∀ b ∈ fp, ∃ o, s.heap.get? b = some o)
    (hD : s.heap.objs.size ≤ D) (hC : s.heap.objs.size ≤ C) (hDC : D ≠ C) (k : ∀ b u, s.heap.get? b = some u → h1.get? b = some u) (hn : h1.Ns C fun _ => none) (new : ObjOk X.prog X.w (upd H D (.lst [])) h1 D (.lst [])) :
    Inv (X.comp N sc C s H fp) [] (pick σ src) (upd H D (.lst [])) { s with heap := h1, toks := t' } where
  ok := Cx.Ok.comp I c hf ho hC
  os := rfl
  bare := I.bare
  base := Un.laid k hD (I.hok.fresh hD)
  loc := by
    refine ⟨_, hn, fun i x v e1 e2 e3 => ?_⟩
    obtain ⟨j, ej, es⟩ := pick_some e2
    obtain ⟨n1, n2, n3⟩ := c.at_ e1 ej
    obtain ⟨m, _, hl⟩ := I.loc
    have vis : Vis X.env.scope x := n2.elim (fun z => .inr (.inl z)) fun z => .inr (.inr z)
    obtain ⟨u, r, q⟩ := hl j x v n1 es vis
    refine ⟨u, r, .inr ⟨relabel_free n3, ?_⟩⟩
    rcases q with ⟨z, _⟩ | ⟨_, a, ha, z⟩
    · rcases n2 with n2 | n2 <;> rw [n2] at z <;> cases z
    · obtain ⟨o, e, d⟩ := z
      exact ⟨a, clos_has (lookup_mem n3) ha, o, k _ _ e, d⟩
  cell := fun x a e => by
    obtain ⟨v, o, e, d⟩ := I.cell x a (clos_look e)
    exact ⟨v, o, k _ _ e, d⟩
  free := by
    show upd H D (.lst []) C = none
    rw [upd_ne hDC.symm]
    exact I.hok.fresh hC
  freeC := fun x a e => by
    obtain ⟨v, o, e', d⟩ := I.cell x a (clos_look e)
    rw [upd_ne (Nat.ne_of_lt (Nat.lt_of_lt_of_le (Heap.lt_size e') hD))]
    exact I.freeC x a (clos_look e)
  pin := fun p hp => nomatch hp
  hok := I.hok.laid k hD new
  len := by
    show (pick σ src).length = N.length
    rw [c.len, pick, List.length_map]
theorem Inv.unblock {pins : List (Addr × Obj)} {σ σ' : St} {H H' : Hp} {s s' : Shared} {fp : List Addr} {C : Addr} {h' : Heap} (I : Inv X pins σ H s) (hf : ∀ b ∈ fp, FpOk X pins H b) (hC : s.heap.objs.size ≤ C)
    (J : Inv (X.comp N sc C s H fp) [] σ' H' s') (hs : ∀ b, b ≠ C → h'.get? b = s'.heap.get? b) : Inv X pins σ H' { s' with heap := h' } := by
  have ne : ∀ b o, s.heap.get? b = some o → b ≠ C := fun b o e => Nat.ne_of_lt (Nat.lt_of_lt_of_le (Heap.lt_size e) hC)
  have u : Un (frs X.stack) fp H H' s.heap s'.heap := J.base
  have u' : Un (frs X.stack) fp H H' s.heap h' := ⟨fun b o e n a x => (hs b (ne b o e)).trans (u.keep b o e n a x), fun b o e n a x => by
      obtain ⟨sl, q⟩ := u.slot b o e n a x
      exact ⟨sl, (hs b (ne b o e)).trans q⟩, u.free, fun b o e x => by
      obtain ⟨o', q⟩ := u.there b o e x
      exact ⟨o', (hs b (ne b o e)).trans q⟩, u.tups, u.frzs, u.tbls⟩
  refine I.call' (s' := { s' with heap := h' }) J.os u' (fun b ob e => ?_) J.bare fun b hb => ⟨(hf b hb).2.2.2.1, (hf b hb).2.1, (hf b hb).2.2.2.2.1, (hf b hb).2.2.2.2.2⟩
  have fr : H' C = none := J.free
  refine (J.hok b ob e).stay (fun a w' ha q => (hs a ?_).trans q) (fun _ q => q) fun _ _ q => q
  rintro rfl
  rcases ha with rfl | ha
  · rw [fr] at e; cases e
  · rw [fr] at ha; cases ha
end
abbrev F0 : Value → Shared → Prop := fun _ _ => False
section
variable {prog : Program} {w : World} {A : Around} {R : Result → Shared → Prop} {s : Shared}
theorem compLoop_any {elt target iter : Expr} {ifs : List Expr} {scope : Scope} {pos : Pos} {it acc : Value} {env : Env} (I : Nat → Shared → Prop)
    (turn : ∀ n s, I n s → wpAny (model prog w) A (pyNext it) (fun r s₁ => match r with
      | none => R (.ok .next) s₁
      | some v => wpAny (model prog w) A (letOwnedTupleGo target it v) (fun _ s₁' => wpAny (model prog w) A (assign target env v) (fun _ s₂ =>
          wpAny (model prog w) A (forIn ifs true fun c r => if r = true then do let ok ← isTrue c env (eval c env); pure (ForInStep.yield ok) else pure (ForInStep.yield r)) (fun ok s₃ =>
            if ok = true then wpAny (model prog w) A (eval elt env) (fun x s₄ =>
              wpAny (model prog w) A (call (.builtin "list.append") [acc, x]) (fun _ s₅ => ∃ m, m < n ∧ I m s₅) F0 s₄) F0 s₃
            else ∃ m, m < n ∧ I m s₃) F0 s₂) F0 s₁') F0 s₁) F0 s)
    (n : Nat) (h : I n s) :
    codeAny (model prog w) A (.compLoop (.ListComp elt [⟨target, iter, ifs, 0⟩] scope pos) 0 it acc env) R s := by
  refine codeAny_loop rfl I (fun n s hI => ?_) n h
  show wpAny _ A ((compTurn (.ListComp elt [⟨target, iter, ifs, 0⟩] scope pos) 0 it acc env).onRaise (fun x => do noteFrame x env; theTreesLotGoes x)) _ _ s
  refine wpAny_noted ?_
  rw [compTurn_list]
  refine wpAny_bind (wpAny_standAt (wpAny_bind (wpAny_mono (turn n s hI) (fun r s₁ h₁ => ?_) fun _ _ h' => h'.elim)))
  cases r with
  | none => exact wpAny_pure h₁
  | some v =>
    refine wpAny_bind (wpAny_mono h₁ (fun _ s₁' h₁' => ?_) fun _ _ h' => h'.elim)
    refine wpAny_bind (wpAny_mono h₁' (fun _ s₂ h₂ => wpAny_bind (wpAny_mono h₂ (fun ok s₃ h₃ => ?_) fun _ _ h' => h'.elim)) fun _ _ h' => h'.elim)
    cases ok with
    | false => exact wpAny_pure ⟨rfl, h₃⟩
    | true =>
      exact wpAny_bind (wpAny_bind (wpAny_mono h₃ (fun x s₄ h₄ => wpAny_bind (wpAny_mono h₄ (fun _ s₅ h₅ => wpAny_pure (wpAny_pure ⟨rfl, h₅⟩)) fun _ _ h' => h'.elim)) fun _ _ h' => h'.elim))
end
def PF (X : Cx) (ifs : List Expr) (t : TT) : Prop :=
  ∀ (pins : List (Addr × Obj)) (s : Shared) (σ : St) (H : Hp) (Q : Bool → Hp → Prop), Inv X pins σ H s → t σ H Q →
    wpAny (model X.prog X.w) X.A (forIn ifs true fun c r => if r = true then do let ok ← isTrue c X.env (eval c X.env); pure (ForInStep.yield ok) else pure (ForInStep.yield r)) (TP X pins σ Q) X.xe s
structure JF (X : Cx) (ifs : List Expr) (t : TT) : Prop where h : PF X ifs t
def tYes : TT := fun _ H Q => Q true H
theorem fnone {X : Cx} : JF X [] tYes := ⟨fun _ _ _ H _ I h => wpAny_tests_nil ⟨H, I, h⟩⟩
def LcLoop (J : It) (g : TG) (tt : TT) (te : TE) (D : Addr) (Q : Hp → Prop) (σ : St) (H : Hp) : Prop := ∃ W : Nat → Nat → List V → St → Hp → Prop, (∃ m, W 0 m [] σ H) ∧ ∀ i m acc σ H, W i m acc σ H →
  (J.stop i H ∧ Q H) ∨ (J.go i H ∧ ∃ N : List V → St → Hp → Prop, (∀ acc' σ' H', N acc' σ' H' → ∃ m', m' < m ∧ W (i + 1) m' acc' σ' H') ∧ ∀ x H', J.yld i H x H' → g x σ H' fun σ2 H2 => tt σ2 H2 fun b H3 =>
    if b = true then te σ2 H3 fun v H4 => H4 D = some (.lst acc) ∧ acc.length < sizeLine ∧ N (acc ++ [v]) σ2 (upd H4 D (.lst (acc ++ [v])))
    else N acc σ2 H3)
def tLc (K : PySem.W.Frag) (wi : TI) (src : List (Option Nat)) (g : TG) (tt : TT) (te : TE) : TE := fun σ H Q => wi σ H fun J H1 => ∀ D, L2.new K H1 D → LcLoop J g tt te D (fun H' => Q (.ref D) H') (pick σ src) (upd H1 D (.lst []))
section
variable {X : Cx} {sc : Scope} {N : List Str} {src : List (Option Nat)} {tg iter elt : Expr} {ifs : List Expr} {wi : TI} {g : TG} {tt : TT} {te : TE} {pos : Pos}
theorem comp_run {R : Value → Addr → Result → Shared → Prop} {E : Value → Shared → Prop} (c : Cap X sc N src) (hc : X.calm = true)
    (hg : ∀ C s H fp, JG (X.comp N sc C s H fp) tg g) (ht : ∀ C s H fp, JF (X.comp N sc C s H fp) ifs tt) (he : ∀ C s H fp, JE (X.comp N sc C s H fp) elt te)
    {pins : List (Addr × Obj)} {σ : St} {H : Hp} {s : Shared} {it : Addr} {fp : List Addr} {tn : Nat → Heap → Prop} {J : It} {Q : V → Hp → Prop} (I : Inv X pins σ H s) (T : Turn X.prog X.w X.K tg J fp it tn) (st : tn 0 s.heap) (hf : ∀ b ∈ fp, FpOk X pins H b)
    (h : ∀ D, L2.new X.K H D → LcLoop J g tt te D (fun H' => Q (.ref D) H') (pick σ src) (upd H D (.lst [])))
    (hR : ∀ D C s' σ' H', s.heap.objs.size ≤ C → Inv (X.comp N sc C s H fp) [] σ' H' s' → Q (.ref D) H' → R (.ref D) C (.ok .next) s') :
    wpAny (model X.prog X.w) X.A (newList []) (fun acc s₃ => wpAny (model X.prog X.w) X.A (newFunctionEnv sc X.env.globals (closL X.env sc.names []) [] X.env.qual none .none (some X.env)) (fun cenv s₄ =>
      codeAny (model X.prog X.w) X.A (.compStart (.ListComp elt [⟨tg, iter, ifs, 0⟩] sc pos) 0 (.ref it) acc { cenv with scope := relabel sc X.env }) (R acc cenv.locals) s₄) E s₃) E s := by
  refine wpAny_newObj_type (wpAny_newFunctionEnv c.cell (by intro y hy; simp at hy) (fun h₁ hns₁ hsb₁ => ?_) c.kind)
  dsimp only at hns₁ hsb₁ ⊢
  generalize hH2 : s.heap.push { cls := .type "list", dict := none, data := .seq ([] : List Value).toArray } = H2 at hns₁ hsb₁ ⊢
  have hC : H2.objs.size = s.heap.objs.size + 1 := by rw [← hH2, Heap.size_push]
  have hDC : s.heap.objs.size ≠ H2.objs.size := by rw [hC]; exact Nat.ne_of_lt (Nat.lt_succ_self _)
  have hCle : s.heap.objs.size ≤ H2.objs.size := by rw [hC]; exact Nat.le_succ _
  have below : ∀ b, b < s.heap.objs.size → b ≠ H2.objs.size := fun b hb => by rw [hC]; exact Nat.ne_of_lt (Nat.lt_succ_of_lt hb)
  have old : ∀ b o, s.heap.get? b = some o → h₁.get? b = some o := fun b o e => hsb₁.extBut b o (below b (Heap.lt_size e)) (Heap.get?_push_of_some _ (hH2 ▸ Heap.get?_push_of_some _ e))
  have hacc : h₁.get? s.heap.objs.size = some { cls := .type "list", dict := none, data := .seq ([] : List Value).toArray } := hsb₁.extBut _ _ hDC (Heap.get?_push_of_some _ (hH2 ▸ Heap.get?_push_size _ rfl))
  have ho : ∀ b ∈ fp, ∃ o, s.heap.get? b = some o := fun b hb => let ⟨o, e, _⟩ := T.obj _ _ st b hb; ⟨o, e⟩
  have I0 := I.block (t' := s.toks + ([] : List (Str × Value)).length) c hf ho (Nat.le_refl _) hCle hDC old hns₁ ⟨Nat.zero_le _, [], 0, .nil, hacc⟩
  have st0 : tn 0 h₁ := T.keep _ _ _ st fun b hb o e => old b o e
  obtain ⟨W, ⟨m0, w0⟩, turn⟩ := h _ I.new
  have stat : ∀ {H' : Hp}, (∀ b ∈ fp, H' b = none) → ∀ b ∈ fp, FpOk (X.comp N sc H2.objs.size s H fp) [] H' b := fun hn b hb => by
    obtain ⟨f0, f1, f2, f3, f4, f5⟩ := hf b hb
    obtain ⟨o, e⟩ := ho b hb
    refine ⟨hn b hb, below b (Heap.lt_size e), fun z => ?_, .inl hb, fun x a q => f4 x a (clos_look q), fun p hp => nomatch hp⟩
    rcases List.mem_cons.mp (I.stkSub b z) with q | q
    · exact f1 q
    · exact f2 q
  have fr0 : ∀ b ∈ fp, (upd H s.heap.objs.size (.lst [])) b = none := fun b hb => by
    obtain ⟨o, e⟩ := ho b hb
    rw [upd_ne (Nat.ne_of_lt (Heap.lt_size e))]
    exact (hf b hb).1
  have loop : ∀ s₃ : Shared, s₃ = { s with heap := h₁, toks := s.toks + ([] : List (Str × Value)).length } →
      codeAny (model X.prog X.w) X.A (.compLoop (.ListComp elt [⟨tg, iter, ifs, 0⟩] sc pos) 0 (.ref it) (.ref s.heap.objs.size) (compEnvC sc (closL X.env sc.names []) H2.objs.size X.env)) (R (.ref s.heap.objs.size) H2.objs.size) s₃ := by
    rintro s₃ rfl
    refine compLoop_any (fun n s' => ∃ i acc σ' H', Inv (X.comp N sc H2.objs.size s H fp) [] σ' H' s' ∧ tn i s'.heap ∧ (∀ b ∈ fp, H' b = none) ∧ W i n acc σ' H') ?_ m0 ⟨0, _, _, _, I0, st0, fr0, w0⟩
    rintro n s3 ⟨i, acc, σ3, H3, I3, st3, fr3, w3⟩
    rcases turn i n acc σ3 H3 w3 with ⟨stop, qn⟩ | ⟨go, NN, hNN, step⟩
    · refine thn (T.done (X.comp N sc H2.objs.size s H fp) rfl rfl rfl hc i [] s3 σ3 H3 F0 I3 (stat fr3) st3 stop) fun r s4 ⟨hr, I4⟩ => ?_
      subst hr
      exact hR _ _ _ _ _ hCle I4 qn
    · refine thn (T.item (X.comp N sc H2.objs.size s H fp) rfl rfl rfl hc i [] s3 σ3 H3 F0 I3 (stat fr3) st3 go) fun r s4 ⟨u, hr, h4⟩ => ?_
      subst hr
      refine thn h4 fun _ s5 ⟨x, H5, I5, r5, y5, st5, fr5⟩ => ?_
      have I5' := I5.pinned (stat fr5) (T.obj _ _ st5)
      refine thn ((hg _ _ _ _).h _ s5 σ3 H5 x u _ I5' r5 (step x H5 y5)) fun _ s6 ⟨σ6, H6, I6, q6⟩ => ?_
      refine thn ((ht _ _ _ _).h _ s6 σ6 H6 _ I6 q6) fun b s7 ⟨H7, I7, q7⟩ => ?_
      have again : ∀ {acc8 : List V} {s8 : Shared} {H8 : Hp}, Inv (X.comp N sc H2.objs.size s H fp) ([] ++ pinsAt fp s5.heap) σ6 H8 s8 → NN acc8 σ6 H8 → ∃ m, m < n ∧ ∃ i acc σ' H', Inv (X.comp N sc H2.objs.size s H fp) [] σ' H' s8 ∧ tn i s8.heap ∧ (∀ b ∈ fp, H' b = none) ∧ W i m acc σ' H' := fun {acc8 s8 H8} I8 w => by
        obtain ⟨m', hm, w8⟩ := hNN _ _ _ w
        refine ⟨m', hm, i + 1, acc8, σ6, H8, I8.unpinned, T.keep _ _ _ st5 fun b hb o e => (I8.pin (b, o) (List.mem_append_right _ (List.mem_append_right _ (mem_pinsAt hb e)))).1, fun b hb => ?_, w8⟩
        obtain ⟨o, e, d⟩ := T.obj _ _ st5 b hb
        exact (I8.pin (b, o) (List.mem_append_right _ (List.mem_append_right _ (mem_pinsAt hb e)))).2.1
      cases b with
      | false => exact again I7 q7
      | true =>
        refine thn ((he _ _ _ _).h _ s7 σ6 H7 _ I7 q7) fun y s8 ⟨v, H8, I8, r8, q8⟩ => ?_
        obtain ⟨hx, hz, w8⟩ := q8
        refine thn (mt_append (X := X.comp N sc H2.objs.size s H fp) _ s8 σ6 H8 (.ref s.heap.objs.size) [v] (.ref s.heap.objs.size) [y] (fun _ H9 => H9 = upd H8 s.heap.objs.size (.lst (acc ++ [v]))) I8 rfl (.cons r8 .nil) ⟨_, acc, v, rfl, rfl, hx, hz, rfl⟩) fun _ s9 ⟨_, H9, I9, _, q9⟩ => ?_
        subst q9
        exact again I9 w8
  exact codeAny_compStart_list (loop _ rfl) (T.self _ 0 _ _ _ st0 (loop _ rfl))
theorem elc (c : Cap X sc N src) (hc : X.calm = true) (hi : JI X tg iter wi)
    (hg : ∀ C s H fp, JG (X.comp N sc C s H fp) tg g) (ht : ∀ C s H fp, JF (X.comp N sc C s H fp) ifs tt) (he : ∀ C s H fp, JE (X.comp N sc C s H fp) elt te)
    (hs : ∀ x, foldedSetIterable iter X.env x = pure x := by intro _; rfl) : JE X (.ListComp elt [⟨tg, iter, ifs, 0⟩] sc pos) (tLc X.K wi src g tt te) := ⟨by
  intro pins s σ H Q I h
  rw [eval_ListComp]
  refine wpAny_comprehension_free (use := none) rfl hs (closureFor_eq fun x hx hk => ?_) c.kind c.names ?_
  · obtain ⟨n, k⟩ := x
    cases hk
    exact I.ok.has _ (c.free hx)
  refine thn (hi.h pins s σ H _ I h) fun v s1 h1 => thn h1 fun itv s2 h2 => ?_
  obtain ⟨it, fp, tn, J, H2, e, I2, T, st2, f2, h2⟩ := h2
  subst e
  refine comp_run (R := fun acc C => compPost (model X.prog X.w) X.A X.xe none (EP X pins σ Q) acc C) (Q := Q) c hc hg ht he I2 T st2 f2 h2 fun D C s' σ' H' hC I' q => ?_
  obtain ⟨m, hn, _⟩ := id I'.loc
  refine ⟨m, hn, fun h' sb => ?_⟩
  exact ⟨.ref D, H', I2.unblock f2 hC I' fun b hb => sb.2 b hb, rfl, q⟩⟩
theorem slc {i : Nat} {y : Str} {py spos : Pos} (hN : X.N.Nodup) (hy : X.N[i]? = some y) (hx : Loc X.env.scope y) (c : Cap X sc N src) (hc : X.calm = true) (hi : JI X tg iter wi)
    (hg : ∀ C s H fp, JG (X.comp N sc C s H fp) tg g) (ht : ∀ C s H fp, JF (X.comp N sc C s H fp) ifs tt) (he : ∀ C s H fp, JE (X.comp N sc C s H fp) elt te)
    (hsw : swapsWith (.ListComp elt [⟨tg, iter, ifs, 0⟩] sc pos) (some (.Name y py)) spos.line X.env = pure true := by rfl)
    (hf : X.fn y = true ∨ X.env.scope.names.lookup y = some .local := by first | exact .inl rfl | exact .inr rfl | assumption)
    (hs : ∀ x, foldedSetIterable iter X.env x = pure x := by intro _; rfl) : JS X (.Assign [.Name y py] (.ListComp elt [⟨tg, iter, ifs, 0⟩] sc pos) spos) (tAsg (tLc X.K wi src g tt te) (gName i)) := ⟨by
  intro pins s σ H D I h
  rw [exec_Assign_Name_used _ _ _ _ hsw]
  refine wpAny_bind (wpAny_standAt (wpAny_bind ?_))
  show wpAny _ X.A (do let _ ← comprehension (.ListComp elt [⟨tg, iter, ifs, 0⟩] sc pos) sc X.env _ (newList []) false (eval iter X.env) (some (assign (.Name y py) X.env))) _ _ s
  refine wpAny_bind (wpAny_mono (wpAny_comprehension_free (use := some (assign (.Name y py) X.env)) (Q := fun _ s' => SP X pins D .next s') rfl hs (closureFor_eq fun x hx hk => ?_) c.kind c.names ?_) (fun _ s' hq => wpAny_pure (wpAny_pure hq)) fun _ _ e => e)
  · obtain ⟨n, k⟩ := x
    cases hk
    exact I.ok.has _ (c.free hx)
  refine thn (hi.h pins s σ H _ I h) fun v s1 h1 => thn h1 fun itv s2 h2 => ?_
  obtain ⟨it, fp, tn, J, H2, e, I2, T, st2, f2, h2⟩ := h2
  subst e
  refine comp_run (R := fun acc C => compPost (model X.prog X.w) X.A X.xe (some (assign (.Name y py) X.env)) (fun _ s' => SP X pins D .next s') acc C) (Q := fun v H' => D.nx (σ.set i (some v)) H') c hc hg ht he I2 T st2 f2 h2 fun L C s' σ' H' hC I' q => ?_
  obtain ⟨m, hn, _⟩ := id I'.loc
  obtain ⟨o, es, ep, ho, r⟩ := id hn
  have I3 : Inv X pins σ H' s' := I2.unblock (h' := s'.heap) f2 hC I' fun _ _ => rfl
  have cL : C ≠ X.env.locals := Nat.ne_of_gt (Nat.lt_of_lt_of_le I2.lt hC)
  have cC : ∀ x a, X.env.cells.lookup x = some a → a ≠ C := fun x a e => by
    obtain ⟨v, o, e', _⟩ := I2.cell x a e
    exact Nat.ne_of_lt (Nat.lt_of_lt_of_le (Heap.lt_size e') hC)
  have cP : ∀ p ∈ X.pn ++ pins, p.1 ≠ C := fun p hp => Nat.ne_of_lt (Nat.lt_of_lt_of_le (Heap.lt_size (I2.pin p hp).1) hC)
  have fr : H' C = none := I'.free
  have I4 : Inv X (pins ++ [(C, o)]) σ H' s' := I3.pins_of fun p hp => (List.mem_append.mp hp).elim (fun z => I3.pin p (List.mem_append_right _ z)) fun z => by
    have e : p = (C, o) := by simpa using z
    subst e
    exact ⟨ho, fr, cL, I2.nofs hC, fun v z => by
      have r1 := r
      simp_all⟩
  show wpAny (model X.prog X.w) X.A (assign (.Name y py) X.env (.ref L)) _ _ s'
  refine thn (pg_name (pos := py) hN hy hx hf _ s' σ H' (.ref L) (.ref L) (fun σ1 H1 => D.nx σ1 H1 ∧ H1 = H') I4 rfl ⟨q, rfl⟩) fun _ s5 ⟨σ5, H5, I5, q5, e5⟩ => ?_
  subst e5
  have pC := (I5.pin (C, o) (List.mem_append_right _ (List.mem_append_right _ (by simp)))).1
  refine ⟨m, ⟨o, es, ep, pC, r⟩, fun h' sb => ?_⟩
  exact ⟨σ5, H5, I5.unpinned.turned (t' := s5.toks) (fun b u hb e => (sb.2 b hb).trans e) fr cL (.inr (Nat.le_trans I2.sz hC)) cC cP, q5⟩⟩
end
end L2
namespace L2
open PySem PySem.Spec PyProof.Rows
theorem pick_nil {σ : St} : pick σ [] = [] := rfl
theorem pick_own {σ : St} {r : List (Option Nat)} : pick σ (none :: r) = none :: pick σ r := rfl
theorem pick_cap {σ : St} {j : Nat} {r : List (Option Nat)} : pick σ (some j :: r) = (σ[j]?).join :: pick σ r := rfl
theorem join_some {α : Type} {o : Option α} : (some o).join = o := rfl
section
variable {K : PySem.W.Frag} {g : TG} {tt : TT} {te : TE} {D a : Addr} {Q : Hp → Prop} {σ : St} {H : Hp} {xs : List V} {lo : Int} {n : Nat}
theorem lc_run {J : It} (Pv : Nat → List V → St → Hp → Prop) (h0 : Pv 0 [] σ H) (hgo : ∀ i acc σ H, i < n → Pv i acc σ H → J.go i H) (hst : ∀ acc σ H, Pv n acc σ H → J.stop n H)
    (hs : ∀ i acc σ H x H', i < n → Pv i acc σ H → J.yld i H x H' → g x σ H' fun σ2 H2 => tt σ2 H2 fun b H3 => if b = true then te σ2 H3 fun v H4 => H4 D = some (.lst acc) ∧ acc.length < sizeLine ∧ Pv (i + 1) (acc ++ [v]) σ2 (upd H4 D (.lst (acc ++ [v]))) else Pv (i + 1) acc σ2 H3)
    (hd : ∀ acc σ H, Pv n acc σ H → Q H) : LcLoop J g tt te D Q σ H := by
  refine ⟨fun i m acc σ H => Pv i acc σ H ∧ i ≤ n ∧ m = n - i, ⟨n, h0, Nat.zero_le _, by omega⟩, fun i m acc σ H ⟨h, hi, hm⟩ => ?_⟩
  by_cases c : i < n
  · right
    exact ⟨hgo i acc σ H c h, Pv (i + 1), fun acc' σ' H' q => ⟨n - (i + 1), by omega, q, by omega, rfl⟩, fun x H' hy => hs i acc σ H x H' c h hy⟩
  · left
    have e : i = n := by omega
    subst e
    exact ⟨hst acc σ H h, hd acc σ H h⟩
theorem lc_list (Pv : Nat → List V → St → Hp → Prop) (h0 : Pv 0 [] σ H) (hl : ∀ i acc σ H, i ≤ xs.length → Pv i acc σ H → SqL K H a xs)
    (hs : ∀ i x acc σ H, xs[i]? = some x → Pv i acc σ H → g x σ H fun σ2 H2 => tt σ2 H2 fun b H3 => if b = true then te σ2 H3 fun v H4 => H4 D = some (.lst acc) ∧ acc.length < sizeLine ∧ Pv (i + 1) (acc ++ [v]) σ2 (upd H4 D (.lst (acc ++ [v]))) else Pv (i + 1) acc σ2 H3)
    (hd : ∀ acc σ H, Pv xs.length acc σ H → Q H) : LcLoop (Itl K a) g tt te D Q σ H := by
  refine lc_run (n := xs.length) Pv h0 (fun i acc σ H hi h => ⟨xs, _, hl i acc σ H (Nat.le_of_lt hi) h, List.getElem?_eq_getElem hi⟩) (fun acc σ H h => ⟨xs, hl _ acc σ H (Nat.le_refl _) h, Nat.le_refl _⟩) (fun i acc σ H x H' hi h hy => ?_) hd
  obtain ⟨rfl, hy⟩ := hy
  exact hs i x acc σ _ (hy xs (hl i acc σ _ (Nat.le_of_lt hi) h)) h
theorem lc_tup (Pv : Nat → List V → St → Hp → Prop) (h0 : Pv 0 [] σ H) (hl : ∀ i acc σ H, i ≤ xs.length → Pv i acc σ H → SqT K H a xs)
    (hs : ∀ i x acc σ H, xs[i]? = some x → Pv i acc σ H → g x σ H fun σ2 H2 => tt σ2 H2 fun b H3 => if b = true then te σ2 H3 fun v H4 => H4 D = some (.lst acc) ∧ acc.length < sizeLine ∧ Pv (i + 1) (acc ++ [v]) σ2 (upd H4 D (.lst (acc ++ [v]))) else Pv (i + 1) acc σ2 H3)
    (hd : ∀ acc σ H, Pv xs.length acc σ H → Q H) : LcLoop (Itt K a) g tt te D Q σ H := by
  refine lc_run (n := xs.length) Pv h0 (fun i acc σ H hi h => ⟨xs, _, hl i acc σ H (Nat.le_of_lt hi) h, List.getElem?_eq_getElem hi⟩) (fun acc σ H h => ⟨xs, hl _ acc σ H (Nat.le_refl _) h, Nat.le_refl _⟩) (fun i acc σ H x H' hi h hy => ?_) hd
  obtain ⟨rfl, hy⟩ := hy
  exact hs i x acc σ _ (hy xs (hl i acc σ _ (Nat.le_of_lt hi) h)) h
theorem tLc_list {tl : TE} {src : List (Option Nat)} {Q : VK} : tLc K (iList K tl) src g tt te σ H Q = tl σ H (fun x H1 => ∃ a, x = .ref a ∧ (∃ xs, SqL K H1 a xs) ∧ ∀ D, L2.new K H1 D → LcLoop (Itl K a) g tt te D (fun H' => Q (.ref D) H') (pick σ src) (upd H1 D (.lst []))) := rfl
theorem tLc_tup {tl : TE} {src : List (Option Nat)} {Q : VK} : tLc K (iTup K tl) src g tt te σ H Q = tl σ H (fun x H1 => ∃ a, x = .ref a ∧ (∃ xs, SqT K H1 a xs) ∧ ∀ D, L2.new K H1 D → LcLoop (Itt K a) g tt te D (fun H' => Q (.ref D) H') (pick σ src) (upd H1 D (.lst []))) := rfl
end
end L2
namespace L2
open PySem PySem.Spec PyProof.Rows
section
variable {X : Cx} {es : List Expr} {t : TA} {pos : Pos} (K : PySem.W.Frag)
theorem ix_QK (hk : X.K = K := by rfl) : IxR X (rIxQ K) := by subst hk; exact ix_Q
end
end L2
namespace L2
open PySem PySem.Spec PyProof.Rows
section
variable {X : Cx} {pins : List (Addr × Obj)} {σ : St} {H : Hp} {s : Shared}
theorem Inv.notMod (I : Inv X pins σ H s) {a : Addr} {o : HO} (h : H a = some o) : kTup X.K a = none := by
  cases e : kTup X.K a with
  | none => rfl
  | some xs =>
    obtain ⟨ob, q⟩ := kTup_look e
    rw [(I.bs a ob (I.ok.mod.kin a ob q)).2] at h
    cases h
end
theorem Kp2.kp {K : PySem.W.Frag} {p D : Addr} {H H' : Hp} {o : HO} (k : Kp2 K p D (upd H D o) H') (n : L2.new K H D) : Kp K p H H' := by
  refine ⟨fun q u e m => ?_, fun b ys e m => k.mod b ys ((Ext.new n).mod b ys e m) m⟩
  have d : q ≠ D := ne_of_none e n.1
  exact k.keep q u (by rw [upd_ne d]; exact e) m d
theorem Kp2.refl {K : PySem.W.Frag} {p D : Addr} {H : Hp} : Kp2 K p D H H := ⟨fun _ _ h _ _ => h, fun _ _ h _ => h⟩
end L2
set_option Elab.async false
set_option linter.all false
set_option maxRecDepth 100000
namespace L2
open PySem PySem.Spec PyProof.Rows
def gk {α : Type} (n m : Nat) (us ws : List α) : List α := if us.length = n ∧ ws.length = m then us ++ ws else []
structure JK (X : Cx) (kws : List Keyword) (t : TA) : Prop where h : PK X kws t
structure CalleeK (P : Program) (w : World) (K : PySem.W.Frag) (mg : Str → Option Value) (base : Heap) (x : Str) (k : Nat) (ps : List Str) (ks : List Str) (n m : Nat) (sp : Sp) : Prop where
  ex : ∃ (f : Addr) (fd : FuncData), FnOk P w K mg base CX0 k f fd ps sp ∧ KBinds K fd ps ks (gk n m) (gk n m) ∧ PySem.W.keepIn K (.ref f) = true ∧ mg x = some (.ref f)
structure CalleeD (P : Program) (w : World) (K : PySem.W.Frag) (mg : Str → Option Value) (base : Heap) (x : Str) (k : Nat) (ps : List Str) (dvs : List V) (sp : Sp) : Prop where
  ex : ∃ (f : Addr) (fd : FuncData) (ds : List Value), FnOk P w K mg base CX0 k f fd ps sp ∧ Binds K fd ps ds ∧ Vals dvs ds ∧ PySem.W.keepIn K (.ref f) = true ∧ mg x = some (.ref f)
section
variable {X : Cx} {x : Str} {k n m : Nat} {ps ks : List Str} {dvs : List V} {sp : Sp} {e : Expr} {es : List Expr} {kws : List Keyword} {t tk : TA} {te : TE} {p pos kpos : Pos} {nm : Option Str}
end
end L2
namespace L2
open PySem PySem.Spec PyProof.Rows
end L2
namespace L2
open PySem PySem.Spec PyProof.Rows
section
variable {K : PySem.W.Frag} {s : Shared} {fd : FuncData} {args : Args} {binds : List (Str × Value)} {d : Addr} {name : Str} {v cls : Value} {es : Array DictEntry} {ep : Nat} {od : Option Addr} {sl : Array (Option Value)} {α β : Type}
end
end L2
set_option Elab.async false
set_option linter.all false
set_option maxRecDepth 100000
namespace L2
open PySem PySem.Spec PyProof.Rows
section
variable {X : Cx} {o lo hi e : Expr} {to tl th te : TE} {p pos : Pos}
end
end L2
namespace L2
open PySem PySem.Spec PyProof.Rows
section
variable {X : Cx}
def rSlTQ (K : PySem.W.Frag) : V → Option Int → Option Int → Hp → VK → Prop := fun x lo hi H Q => ∃ a xs, x = .ref a ∧ tupQ K H a = some xs ∧
  ¬ (HT.sIx xs.length 0 lo = 0 ∧ HT.sIx xs.length xs.length hi = xs.length) ∧ ∀ p, L2.new K H p → Q (.ref p) (upd H p (.tup (cutV xs lo hi)))
theorem sl_tupQ : SlR X (rSlTQ X.K) := by
  intro pins s σ H x v vl vu lo hi sl Q I rx hs pl pu h
  obtain ⟨a, xs, rfl, hx, hw, q⟩ := h
  obtain ⟨T, id, h1, h2, h3⟩ := sl_tup pins s σ H (.ref a) v vl vu lo hi sl (fun v' H' => ∃ l, H l = none ∧ v' = .ref l ∧ H' = upd H l (.tup (cutV xs lo hi))) I rx hs pl pu ⟨a, xs, rfl, tupQ_sq hx, hw, fun l hl => ⟨l, hl, rfl, rfl⟩⟩
  refine ⟨T, id, h1, h2, thn h3 fun u s' ⟨v', H', I', rv, l, hl, e1, e2⟩ => ?_⟩
  subst e1 e2
  exact ⟨_, _, I', rv, q l ⟨hl, I'.notMod upd_same⟩⟩
end
end L2
set_option Elab.async false
set_option linter.all false
set_option maxRecDepth 100000
namespace L2
open PySem PySem.Spec PyProof.Rows
abbrev TBd := List V → St → Hp → (List V → St → Hp → Prop) → Prop
section
variable {elt tg iter tg1 iter1 : Expr} {ifs ifs1 : List Expr} {scope : Scope} {pos : Pos} {it acc : Value} {env : Env}
variable {prog : Program} {w : World} {A : Around} {R : Result → Shared → Prop} {s : Shared}
end
section
variable {Y : Cx} {elt tg iter tg1 iter1 : Expr} {ifs ifs1 : List Expr} {scope : Scope} {pos : Pos} {g : TG} {tt : TT} {te : TE}
end
section
variable {X : Cx} {sc : Scope} {N : List Str} {src : List (Option Nat)} {tg iter tg1 iter1 elt : Expr} {ifs ifs1 : List Expr} {wi wi1 : TI} {g g1 : TG} {tt tt1 : TT} {te : TE} {pos : Pos}
end
section
variable {K : PySem.W.Frag} {g : TG} {tt : TT} {body : TBd} {a : Addr} {acc0 : List V} {F : List V → St → Hp → Prop} {σ : St} {H : Hp} {xs : List V} {n : Nat}
end
end L2
set_option Elab.async false
set_option linter.all false
set_option maxRecDepth 100000
namespace L2
open PySem PySem.Spec PyProof.Rows
section
variable {X : Cx}
end
section
variable {P : Program} {w : World} {A : Around} {E : Value → Shared → Prop} {s : Shared} {b0 : Array Keyed}
end
section
variable {X : Cx}
end
end L2
set_option Elab.async false
set_option linter.all false
set_option maxRecDepth 100000
namespace L2
open PySem PySem.Spec PyProof.Rows
def Rise (xs : Array Nat) : Prop := xs.toList.Pairwise (· < ·)
structure TabOk (t : SetTable) : Prop where
  bare : t.dummies = #[]
  rise : Rise t.place
section
variable {xs : Array Nat} {j : Nat}
theorem Rise.lt (h : Rise xs) {i k : Nat} (ik : i < k) (hk : k < xs.size) : xs.getD i j < xs.getD k j := by
  have hi : i < xs.size := Nat.lt_trans ik hk
  rw [Array.getD_eq_getD_getElem?, Array.getD_eq_getD_getElem?, Array.getElem?_eq_getElem hi, Array.getElem?_eq_getElem hk]
  have q := List.pairwise_iff_getElem.mp h i k (by simpa using hi) (by simpa using hk) ik
  simpa using q
theorem low_lt (h : Rise xs) {m : Nat} (hm : xs.getD m j < j) {i : Nat} (hi : i ≤ m) : xs.getD i j < j := by
  by_cases c : m < xs.size
  · by_cases e : i = m
    · rw [e]; exact hm
    · have := h.lt (j := j) (show i < m by omega) c
      omega
  · rw [Array.getD_eq_getD_getElem?, Array.getElem?_eq_none (by omega)] at hm
    exact absurd hm (Nat.lt_irrefl _)
theorem high_ge (h : Rise xs) {m : Nat} (hm : ¬ xs.getD m j < j) {i : Nat} (hi : m ≤ i) : ¬ xs.getD i j < j := fun c => hm (low_lt h c hi)
theorem below_go (h : Rise xs) : ∀ fuel lo hi, lo ≤ hi → hi ≤ xs.size → hi - lo ≤ fuel → (∀ i, i < lo → xs.getD i j < j) → (∀ i, hi ≤ i → ¬ xs.getD i j < j) →
    SetTable.below.go xs j fuel lo hi ≤ xs.size ∧ (∀ i, i < SetTable.below.go xs j fuel lo hi → xs.getD i j < j) ∧ ∀ i, SetTable.below.go xs j fuel lo hi ≤ i → ¬ xs.getD i j < j
  | 0, lo, hi, h1, h2, h3, h4, h5 => by
    have e : lo = hi := by omega
    unfold SetTable.below.go
    exact ⟨by omega, h4, fun i hi' => h5 i (by omega)⟩
  | fuel + 1, lo, hi, h1, h2, h3, h4, h5 => by
    unfold SetTable.below.go
    by_cases c : lo < hi
    · rw [if_pos c]
      dsimp only
      by_cases d : xs.getD ((lo + hi) / 2) j < j
      · rw [if_pos d]
        exact below_go h fuel _ _ (by omega) h2 (by omega) (fun i hi' => low_lt h d (by omega)) h5
      · rw [if_neg d]
        exact below_go h fuel _ _ (by omega) (by omega) (by omega) h4 (fun i hi' => high_ge h d hi')
    · rw [if_neg c]
      exact ⟨by omega, h4, fun i hi' => h5 i (by omega)⟩
theorem below_spec (h : Rise xs) (j : Nat) : SetTable.below xs j ≤ xs.size ∧ (∀ i, i < SetTable.below xs j → xs.getD i j < j) ∧ ∀ i, SetTable.below xs j ≤ i → ¬ xs.getD i j < j := by
  unfold SetTable.below
  refine below_go h _ _ _ (Nat.zero_le _) (Nat.le_refl _) (by omega) (fun i hi => absurd hi (Nat.not_lt_zero _)) (fun i hi => ?_)
  rw [Array.getD_eq_getD_getElem?, Array.getElem?_eq_none hi]
  exact Nat.lt_irrefl _
theorem Rise.insert (h : Rise xs) {j : Nat} (free : xs[SetTable.below xs j]? ≠ some j) : Rise (SetTable.insertAt xs (SetTable.below xs j) j) := by
  obtain ⟨b1, b2, b3⟩ := below_spec h j
  generalize SetTable.below xs j = p at *
  have at_ : ∀ i (hi : i < xs.size), xs.getD i j = xs.toList[i]'(by simpa using hi) := fun i hi => by
    rw [Array.getD_eq_getD_getElem?, Array.getElem?_eq_getElem hi]; simp
  unfold Rise SetTable.insertAt
  rw [Array.toList_append, Array.toList_push, Array.toList_extract, Array.toList_extract]
  simp only [List.extract_eq_drop_take, Nat.sub_zero, List.drop_zero]
  have e1 : List.take (xs.size - p) (List.drop p xs.toList) = xs.toList.drop p := List.take_of_length_le (by rw [List.length_drop]; simp)
  rw [e1, List.append_assoc]
  refine List.pairwise_append.mpr ⟨h.sublist (List.take_sublist _ _), ?_, ?_⟩
  · refine List.pairwise_append.mpr ⟨List.pairwise_singleton _ _, h.sublist (List.drop_sublist _ _), fun a ha c hc => ?_⟩
    have ea : a = j := by simpa using ha
    subst ea
    obtain ⟨i, hi, rfl⟩ := List.mem_iff_getElem.mp hc
    rw [List.length_drop] at hi
    rw [List.getElem_drop]
    have hlt : p + i < xs.size := by simp at hi; omega
    have q := b3 (p + i) (by omega)
    rw [at_ _ hlt] at q
    by_cases z : i = 0
    · subst z
      have ne : xs.toList[p + 0]'(by simpa using hlt) ≠ a := fun e => free (by
        rw [Array.getElem?_eq_getElem (by simpa using hlt)]
        simpa using e)
      omega
    · have hp : p < xs.size := by omega
      have q0 := b3 p (Nat.le_refl _)
      have q1 := h.lt (j := a) (show p < p + i by omega) hlt
      rw [at_ _ hlt] at q1
      omega
  · intro a ha c hc
    obtain ⟨i, hi, rfl⟩ := List.mem_iff_getElem.mp ha
    rw [List.length_take] at hi
    rw [List.getElem_take]
    have hlt : i < xs.size := by simp at hi; omega
    have qa := b2 i (by omega)
    rw [at_ _ hlt] at qa
    rcases List.mem_append.mp hc with z | z
    · have e : c = j := by simpa using z
      rw [e]; exact qa
    · obtain ⟨k, hk, rfl⟩ := List.mem_iff_getElem.mp z
      rw [List.length_drop] at hk
      rw [List.getElem_drop]
      exact List.pairwise_iff_getElem.mp h i (p + k) _ _ (by omega)
end
theorem has_none (j : Nat) : SetTable.has #[] j = false := by simp [SetTable.has]
theorem TabOk.slot {t : SetTable} (h : TabOk t) {j : Nat} (e : t.slot j = .empty) : t.place[SetTable.below t.place j]? ≠ some j := by
  intro c
  unfold SetTable.slot at e
  simp only [c, beq_self_eq_true, if_true] at e
  cases e
theorem probe_free {t : SetTable} (h : TabOk t) {f : Nat → Int} {x : Int} : ∀ (fuel : Nat) (p : SetTable.Probe) {j : Nat} {d : Option Nat}, p.dummy = none → SetTable.probe.go t f x fuel p = some (.empty j d) → d = none ∧ t.slot j = .empty
  | 0, p, j, d, hp, e => by unfold SetTable.probe.go at e; cases e
  | fuel + 1, p, j, d, hp, e => by
    unfold SetTable.probe.go at e
    have adv : (t.advance p).dummy = none := by unfold SetTable.advance; split <;> exact hp
    cases c : t.slot p.j with
    | empty =>
      rw [c] at e
      dsimp only at e
      cases e
      exact ⟨hp, c⟩
    | dummy =>
      exfalso
      unfold SetTable.slot at c
      dsimp only at c
      split at c
      · cases c
      · rw [h.bare, has_none] at c
        simp at c
    | live i =>
      rw [c] at e
      dsimp only at e
      split at e
      · cases e
      · exact probe_free h fuel _ adv e
theorem TabOk.standIn {t : SetTable} (n : Nat) : TabOk (t.standIn n) := ⟨rfl, by
  show (Array.range n).toList.Pairwise (· < ·)
  rw [Array.toList_range]
  exact List.pairwise_lt_range⟩
theorem TabOk.orStandIn {t : SetTable} (h : TabOk t) (n : Nat) : TabOk (t.orStandIn n) := by
  unfold SetTable.orStandIn
  split
  · exact h
  · exact .standIn n
theorem TabOk.put {t : SetTable} (h : TabOk t) {j : Nat} (e : t.slot j = .empty) : TabOk (t.put j).1 := ⟨by
  show (if SetTable.has t.dummies j then _ else t.dummies) = #[]
  rw [h.bare, has_none]
  rfl, h.rise.insert (h.slot e)⟩
theorem layNew_tab {t : SetTable} (h : TabOk t) (es : Array (Int × Value)) (hv : Int) (x : Value) : TabOk (layNew t es hv x).2.1 ∧ (layNew t es hv x).2.1.led = t.led := by
  unfold layNew
  cases c : t.freeSlot hv with
  | none => exact ⟨.standIn _, rfl⟩
  | some q =>
    obtain ⟨sl, wd⟩ := q
    have free : t.slot sl = .empty := by
      unfold SetTable.freeSlot at c
      split at c
      · next j d e =>
        unfold SetTable.probe at e
        obtain ⟨rfl, z⟩ := probe_free h _ _ rfl e
        simp only [Option.getD_none, Option.isSome_none, Option.some.injEq, Prod.mk.injEq] at c
        rw [← c.1]; exact z
      · cases c
    dsimp only
    refine ⟨(h.put free).orStandIn _, ?_⟩
    unfold SetTable.orStandIn
    split
    · rfl
    · rfl
theorem laid_rise (f : Nat → Option Nat) : ∀ l : List Nat, l.Pairwise (· < ·) → ((l.filterMap fun j => (f j).map (j, ·)).map (·.1)).Pairwise (· < ·) ∧ ∀ a ∈ (l.filterMap fun j => (f j).map (j, ·)).map (·.1), a ∈ l
  | [], _ => ⟨List.Pairwise.nil, fun a h => nomatch h⟩
  | j :: l, h => by
    obtain ⟨i1, i2⟩ := laid_rise f l (List.pairwise_cons.mp h).2
    cases c : f j with
    | none =>
      rw [List.filterMap_cons_none (by rw [c]; rfl)]
      exact ⟨i1, fun a ha => List.mem_cons_of_mem _ (i2 a ha)⟩
    | some k =>
      rw [List.filterMap_cons_some (b := (j, k)) (by rw [c]; rfl)]
      refine ⟨List.pairwise_cons.mpr ⟨fun a ha => (List.pairwise_cons.mp h).1 a (i2 a ha), i1⟩, fun a ha => ?_⟩
      rcases List.mem_cons.mp ha with z | z
      · exact z ▸ List.mem_cons_self
      · exact List.mem_cons_of_mem _ (i2 a z)
theorem relayAll_tab {t : SetTable} (es : Array (Int × Value)) (n : Nat) : TabOk (relayAll t es n).2.1 ∧ (relayAll t es n).2.1.led = t.led := by
  unfold relayAll
  cases c : t.relaid (es.map (·.1)) n with
  | none => exact ⟨.standIn _, rfl⟩
  | some q =>
    obtain ⟨t', order⟩ := q
    dsimp only
    split
    · unfold SetTable.relaid SetTable.laid at c
      cases d : SetTable.layClean (SetTable.sizeAbove n - 1) (es.map (·.1)) with
      | none => rw [d] at c; cases c
      | some owner =>
        rw [d] at c
        simp only [Option.bind_eq_bind, Option.bind_some, Option.pure_def, Option.some.injEq, Prod.mk.injEq] at c
        rw [← c.1]
        refine ⟨⟨rfl, ?_⟩, rfl⟩
        exact (laid_rise (fun j => owner.getD j none) _ List.pairwise_lt_range).1
    · exact ⟨.standIn _, rfl⟩
def ksOf (es : Array (Int × Value)) : List Int := es.toList.map fun e => numOf e.2
structure SetAt (P : Program) (w : World) (h : Heap) (a : Addr) (L : Bool) (M : Int → Prop) (n : Nat) (es : Array (Int × Value)) (ep : Nat) (t : SetTable) : Prop where
  at_ : ∃ o, h.get? a = some o ∧ o.ExactSet ∧ o.data = .set es ep t
  elems : ElemsOf (intKind P w) es.toList
  nd : (ksOf es).Nodup
  mem : ∀ k, k ∈ ksOf es ↔ M k
  len : es.size ≤ n
  fits : t.fits es.size = true
  tab : TabOk t
  led : t.led = L
def SetI (P : Program) (w : World) (h : Heap) (a : Addr) (L : Bool) (M : Int → Prop) (n : Nat) : Prop := ∃ es ep t, SetAt P w h a L M n es ep t
section
variable {P : Program} {w : World} {A : Around} {E : Value → Shared → Prop} {s : Shared}
theorem SetI.keep {h h' : Heap} {a : Addr} {L : Bool} {M : Int → Prop} {n : Nat} (q : SetI P w h a L M n) (k : ∀ o, h.get? a = some o → h'.get? a = some o) : SetI P w h' a L M n := by
  obtain ⟨es, ep, t, x⟩ := q
  obtain ⟨o, h1, h2⟩ := x.at_
  exact ⟨es, ep, t, ⟨⟨o, k o h1, h2⟩, x.elems, x.nd, x.mem, x.len, x.fits, x.tab, x.led⟩⟩
theorem is_num {k : Int} {v : Value} (h : (intKind P w).is k v = true) : numOf v = k ∧ ∃ t, v = .int k t := by
  obtain ⟨t, rfl⟩ := Value.isInt_shape h
  exact ⟨rfl, t, rfl⟩
theorem set_stored {h : Heap} {a : Addr} {o : Obj} {es0 es : Array (Int × Value)} {ep : Nat} {t0 t : SetTable} (ho : h.get? a = some o) (hx : o.ExactSet) (hd : o.data = .set es0 ep t0) :
    ∃ o', (h.update a (Obj.putSet es t)).get? a = some o' ∧ o'.ExactSet ∧ o'.data = .set es (ep + 1) t := by
  refine ⟨{ o with data := .set es (ep + 1) t }, ?_, hx, rfl⟩
  have g := Heap.get?_update_self (Obj.putSet es t) ho (by rw [putSet_of es t hd]; rfl)
  rwa [putSet_of es t hd] at g
theorem add_end {g : Bool → Sem Unit} (hg : ∀ (b : Bool) (s1 : Shared) (R : Unit → Shared → Prop), R () s1 → wpAny (model P w) A (g b) R E s1) {a : Addr} {o : Obj} {es0 es : Array (Int × Value)} {ep : Nat} {t0 t : SetTable} {L : Bool} {M : Int → Prop} {n : Nat} {wd : Bool} {R : Option Bool → Shared → Prop}
    (ho : s.heap.get? a = some o) (hx : o.ExactSet) (hd : o.data = .set es0 ep t0) (h1 : ElemsOf (intKind P w) es.toList) (h2 : (ksOf es).Nodup) (h3 : ∀ k, k ∈ ksOf es ↔ M k) (h4 : es.size ≤ n) (h5 : t.fits es.size = true) (h6 : TabOk t) (h7 : t.led = L) (hn : n < scanBound)
    (q : ∀ h', Heap.SameBut a s.heap h' → SetI P w h' a L M n → R (some true) { s with heap := h' }) :
    wpAny (model P w) A (do
      storeSet a es t
      if (!wd && t.tooFull) = true then do
        g (relayAll t es (SetTable.grown es.size)).2.2
        storeSet a (relayAll t es (SetTable.grown es.size)).1 (relayAll t es (SetTable.grown es.size)).2.1
        pure (some true)
      else pure (some true)) R E s := by
  refine wpAny_bind (wpAny_storeSet_of ho hd ?_ (fits_of_scanBound (Nat.lt_of_le_of_lt h4 hn)))
  obtain ⟨o1, g1, x1, d1⟩ := set_stored (es := es) (t := t) ho hx hd
  have sb := Heap.SameBut.update s.heap a (Obj.putSet es t)
  split
  · have pm := relayAll_perm t es (SetTable.grown es.size)
    have ft := relayAll_fits t es (SetTable.grown es.size)
    obtain ⟨tb, ld⟩ := relayAll_tab (t := t) es (SetTable.grown es.size)
    generalize relayAll t es (SetTable.grown es.size) = W at pm ft tb ld ⊢
    have kp : (ksOf W.1).Perm (ksOf es) := pm.map _
    have sz : W.1.size = es.size := by rw [← Array.length_toList, pm.length_eq, Array.length_toList]
    refine wpAny_bind (hg _ _ _ ?_)
    refine wpAny_bind (wpAny_storeSet_of g1 d1 ?_ (fits_of_scanBound (by omega)))
    obtain ⟨o2, g2, x2, d2⟩ := set_stored (es := W.1) (t := W.2.1) g1 x1 d1
    exact wpAny_pure (q _ (sb.trans (Heap.SameBut.update _ a _)) ⟨W.1, _, W.2.1, ⟨⟨o2, g2, x2, d2⟩, h1.perm pm, kp.nodup_iff.mpr h2, fun k => kp.mem_iff.trans (h3 k), by omega, ft, tb, ld.trans h7⟩⟩)
  · exact wpAny_pure (q _ sb ⟨es, _, t, ⟨⟨o1, g1, x1, d1⟩, h1, h2, h3, h4, h5, h6, h7⟩⟩)
theorem add_int {a : Addr} {L : Bool} {M : Int → Prop} {n : Nat} {k : Int} {tk : Tok} {R : Bool → Shared → Prop} (h : SetI P w s.heap a L M n) (hn : n + 1 < scanBound)
    (q : ∀ h' b, Heap.SameBut a s.heap h' → SetI P w h' a L (fun j => M j ∨ j = k) (n + 1) → R b { s with heap := h' }) : wpAny (model P w) A (setAddHashed a (.int k tk) (hashInt k)) R E s := by
  obtain ⟨es, ep, t, x⟩ := h
  obtain ⟨o, ho, hx, hd⟩ := x.at_
  have lt : es.size < scanBound := Nat.lt_of_le_of_lt x.len (by omega)
  unfold setAddHashed setAddHashedIn
  refine wpAny_holding (wpAny_bind (wpAny_setState_of ho hd x.fits ?_))
  dsimp only
  rw [byScan_of (knd := intKind P w) (x := .int k tk) rfl lt x.elems]
  simp only [↓reduceIte]
  unfold setAddByScan
  refine wpAny_bind (wpAny_bind (wpAny_rule (wpAny_bind (wpAny_setScan_of (intKind_is P w k tk) ho hd x.fits x.elems ?_))))
  cases c : es.toList.findIdx? (fun e => (intKind P w).is k e.2) with
  | some i =>
    obtain ⟨hi, p, _⟩ := List.findIdx?_eq_some_iff_getElem.mp c
    have there : M k := (x.mem k).mp (List.mem_map.mpr ⟨_, List.getElem_mem hi, (is_num p).1⟩)
    exact wpAny_pure (wpAny_pure (q s.heap false (Heap.SameBut.refl a s.heap) ⟨es, ep, t, ⟨⟨o, ho, hx, hd⟩, x.elems, x.nd, fun j => (x.mem j).trans ⟨.inl, fun z => z.elim id fun e => e ▸ there⟩, Nat.le_succ_of_le x.len, x.fits, x.tab, x.led⟩⟩))
  | none =>
    have fresh : k ∉ ksOf es := fun m => by
      obtain ⟨e, he, ek⟩ := List.mem_map.mp m
      have no := List.findIdx?_eq_none_iff.mp c e he
      obtain ⟨⟨k', hk', _⟩, _⟩ := x.elems e he
      rw [(is_num hk').1] at ek
      subst ek
      rw [hk'] at no
      cases no
    have giving : ∀ (b : Bool) {s1 : Shared} {R' : Unit → Shared → Prop}, R' () s1 → wpAny (model P w) A (match b with | true => rule "set.scan.the-table-gave-way" | false => pure ()) R' E s1 := fun b {s1 R'} z => by
      cases b with
      | true => exact wpAny_rule z
      | false => exact wpAny_pure z
    have pm := layNew_perm t es (hashInt k) (.int k tk)
    have ft := layNew_fits t es (hashInt k) (.int k tk)
    obtain ⟨tb, ld⟩ := layNew_tab x.tab es (hashInt k) (.int k tk)
    dsimp only
    generalize layNew t es (hashInt k) (.int k tk) = W at pm ft tb ld ⊢
    obtain ⟨es1, t1, wd, gv⟩ := W
    dsimp only at pm ft tb ld ⊢
    rw [Array.toList_push] at pm
    have e1 : ElemsOf (intKind P w) es1.toList := (x.elems.push (intKind_is P w k tk) rfl).perm pm
    have kp : (ksOf es1).Perm (ksOf es ++ [k]) := by
      have z := pm.map fun e => numOf e.2
      rwa [List.map_append] at z
    have n1 : (ksOf es1).Nodup := kp.nodup_iff.mpr (List.nodup_append.mpr ⟨x.nd, by simp, fun a ha b hb => by
      have e : b = k := by simpa using hb
      subst e
      exact fun z => fresh (z ▸ ha)⟩)
    have m1 : ∀ j, j ∈ ksOf es1 ↔ (M j ∨ j = k) := fun j => by
      rw [kp.mem_iff, List.mem_append, x.mem j]
      simp
    have s1 : es1.size ≤ n + 1 := by
      rw [← Array.length_toList, pm.length_eq, List.length_append, Array.length_toList]
      exact Nat.succ_le_succ x.len
    refine wpAny_bind (giving _ ?_)
    have led1 : t1.led = L := ld.trans x.led
    split
    · refine wpAny_bind ?_
      rw [hashByValue_scannable 8 (x := .int k tk) rfl]
      refine wpAny_pure ?_
      refine add_end ?_ ho hx hd e1 n1 m1 s1 ft tb led1 hn fun h' z1 z2 => ?_
      · intro b s2 R' z
        exact giving b z
      · exact wpAny_pure (q h' true z1 z2)
    · refine wpAny_bind (wpAny_pure ?_)
      refine add_end ?_ ho hx hd e1 n1 m1 s1 ft tb led1 hn fun h' z1 z2 => ?_
      · intro b s2 R' z
        exact giving b z
      · exact wpAny_pure (q h' true z1 z2)
end
theorem SetI.to {P : Program} {w : World} {h : Heap} {a : Addr} {L : Bool} {M M' : Int → Prop} {n n' : Nat} (q : SetI P w h a L M n) (e : ∀ k, M k ↔ M' k) (le : n ≤ n') : SetI P w h a L M' n' := by
  obtain ⟨es, ep, t, x⟩ := q
  exact ⟨es, ep, t, ⟨x.at_, x.elems, x.nd, fun k => (x.mem k).trans (e k), Nat.le_trans x.len le, x.fits, x.tab, x.led⟩⟩
section
variable {P : Program} {w : World} {A : Around} {R : Result → Shared → Prop} {I S : Addr} {fp wr : List Addr} {G : Array GenState → Array GenState → Prop} {n : Nat} {Pv : Nat → Value → Prop} {St : Nat → Shared → Prop} {L : Bool}
end
section
variable {P : Program} {w : World} {A : Around} {E : Value → Shared → Prop} {s : Shared}
end
end L2
set_option Elab.async false
set_option linter.all false
set_option maxRecDepth 100000
namespace L2
open PySem PySem.Spec PyProof.Rows
def SObj (h : Heap) (S : Addr) (es : Array (Int × Value)) (ep : Nat) (t : SetTable) : Prop := ∃ o, h.get? S = some o ∧ o.data = .set es ep t
section
variable {P : Program} {w : World} {A : Around} {E : Value → Shared → Prop} {s : Shared} {it S : Addr} {es : Array (Int × Value)} {ep i n : Nat} {t : SetTable} {R : Option Value → Shared → Prop}
end
section
variable {P : Program} {w : World} {A : Around} {it S T : Addr} {es : Array (Int × Value)} {ep : Nat} {t : SetTable}
theorem SObj.keep {h h' : Heap} (x : SObj h S es ep t) (k : ∀ o, h.get? S = some o → h'.get? S = some o) : SObj h' S es ep t := by
  obtain ⟨o, g, d⟩ := x
  exact ⟨o, k o g, d⟩
end
structure SetWalk (P : Program) (w : World) (A : Around) (s s' : Shared) (S it : Addr) (fp : List Addr) (vals : Array Value) (St : Nat → Heap → Prop) : Prop where
  walk : Walks P w A it fp [it] vals.size (fun i v => vals[i]? = some v) St
  st : St 0 s'.heap
  below : ∀ b ∈ fp, b < s'.heap.objs.size
  new : ∀ b ∈ fp, b = S ∨ s.heap.objs.size ≤ b
  old : s.heap.objs.size ≤ it
  gens : s'.gens = s.gens
  os : s'.os = s.os
  keep : ∀ b o, s.heap.get? b = some o → s'.heap.get? b = some o
section
variable {P : Program} {w : World} {A : Around} {E : Value → Shared → Prop} {s : Shared} {S : Addr} {L : Bool} {M : Int → Prop} {n : Nat} {es : Array (Int × Value)} {ep : Nat} {t : SetTable}
end
end L2
set_option Elab.async false
set_option linter.all false
set_option maxRecDepth 100000
namespace L2
open PySem PySem.Spec PyProof.Rows
section
variable {P : Program} {w : World} {A : Around} {E : Value → Shared → Prop} {s : Shared} {S : Addr} {M : Int → Prop} {n : Nat}
end
section
variable {X : Cx} {pins : List (Addr × Obj)} {σ : St} {H : Hp} {s : Shared}
end
end L2
set_option Elab.async false
set_option linter.all false
set_option maxRecDepth 100000
namespace L2
open PySem PySem.Spec PyProof.Rows
section
variable {X : Cx}
theorem call_tuple_ofQ : CallR X (.type "tuple") (fun xs H Q => ∃ (p : Addr) (ys : List V), xs = [.ref p] ∧ H p = some (.lst ys) ∧ ∀ l, L2.new X.K H l → Q (.ref l) (upd H l (.tup ys))) := by
  intro pins s σ H xs us Q I r h
  obtain ⟨p, ys, e, hq, q⟩ := h
  refine thn (call_tuple_of pins s σ H xs us (fun v H' => ∃ l, H l = none ∧ v = .ref l ∧ H' = upd H l (.tup ys)) I r ⟨p, ys, e, .inl ⟨SqL.of hq, fun l hl => ⟨l, hl, rfl, rfl⟩⟩⟩) fun u s' ⟨v, H', I', rv, l, hl, e1, e2⟩ => ?_
  subst e1 e2
  exact ⟨_, _, I', rv, q l ⟨hl, I'.notMod upd_same⟩⟩
end
section
variable {K : PySem.W.Frag} {g : TG} {tt : TT} {te : TE} {D a : Addr} {Q : Hp → Prop} {σ : St} {H : Hp} {xs : List V}
end
section
variable {X : Cx}
end
end L2
set_option Elab.async false
set_option linter.all false
set_option maxRecDepth 100000
namespace L2
open PySem PySem.Spec PyProof.Rows
section
variable {X : Cx}
end
section
variable {K : PySem.W.Frag} {ta : TA} {g : TG} {tb : TS} {D : Ends} {σ : St} {H : Hp} {a b : Addr} {xs ys : List V}
end
section
variable {X : Cx}
end
mutual
def wt : PyData → Nat
  | .none => 1
  | .bool _ => 1
  | .int _ => 1
  | .str _ => 1
  | .list ds => wtAll ds + 1
  | .tuple ds => wtAll ds + 1
  | .dict _ => 1
def wtAll : List PyData → Nat
  | [] => 0
  | d :: ds => wt d + wtAll ds
end
mutual
def bare : PyData → Bool
  | .none => true
  | .int i => decide (i.natAbs.log2 < 1920)
  | .list ds => bareAll ds
  | .tuple ds => bareAll ds
  | _ => false
def bareAll : List PyData → Bool
  | [] => true
  | d :: ds => bare d && bareAll ds
end
theorem listText_le (ts : List Str) : (listText ts).length ≤ piled ts + 2 := by
  cases ts with
  | nil => exact Nat.le_of_eq rfl
  | cons t r =>
    have h := textFrom_length_pos r 1 (("[" : Str) ++ (if (0 : Nat) > 0 then ", " else "" : String) ++ t) (Nat.succ_pos 0)
    have e : ((("[" : Str) ++ (if (0 : Nat) > 0 then ", " else "" : String) ++ t)).length = 1 + t.length := by
      rw [strLen_append, strLen_append]; rfl
    have hX : (listText (t :: r)).length = (textFrom 0 "[" (t :: r)).length + 1 := by
      show (textFrom 0 "[" (t :: r) ++ "]").length = _
      rw [strLen_append]; rfl
    have hY : (textFrom 0 "[" (t :: r)).length = (textFrom 1 (("[" : Str) ++ (if (0 : Nat) > 0 then ", " else "" : String) ++ t) r).length := rfl
    rw [hX, hY, h, e, piled_cons]; omega
theorem tupleText_le (ts : List Str) : (tupleText ts).length ≤ piled ts + 3 := by
  unfold tupleText
  rw [strLen_append, strLen_append]
  have e1 : ((("(" : String) : Str)).length = 1 := rfl
  have e3 : (((if ts.length == 1 then ",)" else ")" : String) : Str)).length ≤ 2 := by split <;> decide
  rw [e1]
  by_cases h : ts = []
  · subst h
    have : (Str.join ", " []).length = 0 := rfl
    omega
  · have := join_length_add ts h
    omega
mutual
theorem shown_le : ∀ {d : PyData}, bare d = true → d.shown.length + 4 ≤ 1930 * wt d
  | .none, _ => by simp only [PyData.shown, wt]; decide
  | .int i, h => by
    simp only [bare, decide_eq_true_eq] at h
    have := int_text_len_1921 h
    simp only [PyData.shown, wt]
    omega
  | .list ds, h => by
    simp only [bare] at h
    have := shownAll_le h
    have l := listText_le (PyData.shownAll ds)
    simp only [PyData.shown, wt]
    omega
  | .tuple ds, h => by
    simp only [bare] at h
    have := shownAll_le h
    have l := tupleText_le (PyData.shownAll ds)
    simp only [PyData.shown, wt]
    omega
  | .bool _, h => by simp [bare] at h
  | .str _, h => by simp [bare] at h
  | .dict _, h => by simp [bare] at h
theorem shownAll_le : ∀ {ds : List PyData}, bareAll ds = true → piled (PyData.shownAll ds) ≤ 1930 * wtAll ds
  | [], _ => by simp [PyData.shownAll, piled, wtAll]
  | d :: ds, h => by
    simp only [bareAll, Bool.and_eq_true] at h
    have h1 := shown_le h.1
    have h2 := shownAll_le h.2
    simp only [PyData.shownAll, piled_cons, wtAll]
    omega
end
mutual
theorem bare_show : ∀ {d : PyData}, bare d = true → d.showable = true ∧ d.hasDict = false
  | .none, _ => by simp only [PyData.showable, PyData.hasDict]; exact ⟨trivial, trivial⟩
  | .int i, h => by
    simp only [bare] at h
    simp only [PyData.showable, PyData.hasDict]
    exact ⟨h, trivial⟩
  | .list ds, h => by
    simp only [bare] at h
    simp only [PyData.showable, PyData.hasDict]
    exact bareAll_show h
  | .tuple ds, h => by
    simp only [bare] at h
    simp only [PyData.showable, PyData.hasDict]
    exact bareAll_show h
  | .bool _, h => by simp [bare] at h
  | .str _, h => by simp [bare] at h
  | .dict _, h => by simp [bare] at h
theorem bareAll_show : ∀ {ds : List PyData}, bareAll ds = true → PyData.showableAll ds = true ∧ PyData.hasDictAll ds = false
  | [], _ => by simp [PyData.showableAll, PyData.hasDictAll]
  | d :: ds, h => by
    simp only [bareAll, Bool.and_eq_true] at h
    have h1 := bare_show h.1
    have h2 := bareAll_show h.2
    simp only [PyData.showableAll, PyData.hasDictAll, h1.1, h1.2, h2.1, h2.2, Bool.and_self, Bool.or_self]
    exact ⟨trivial, trivial⟩
end
section
variable {X : Cx}
end
end L2
set_option Elab.async false
set_option linter.all false
set_option maxRecDepth 100000
namespace PySem
open Sem (wp)
end PySem
namespace PySem
namespace F
end F
section
variable {prog : Program} {w : World} {A : Around} {E : Value → Shared → Prop} {s : Shared}
end
section
variable {prog : Program} {w : World} {A : Around} {R : Result → Shared → Prop} {I : Addr} {fp wr : List Addr} {G : Array GenState → Array GenState → Prop} {n : Nat} {P : Nat → Value → Prop} {St : Nat → Shared → Prop} {K : Type} [DecidableEq K] {knd : KeyKind prog w K}
end
end PySem
namespace PySem
section
variable {prog : Program} {w : World} {K : Type} [DecidableEq K] {knd : KeyKind prog w K} {A : Around} {E : Value → Shared → Prop} {s : Shared}
end
end PySem
namespace L2
open PySem PySem.Spec PyProof.Rows
section
variable {X : Cx}
end
end L2
set_option Elab.async false
set_option linter.all false
set_option maxRecDepth 100000
namespace L2
open PySem PySem.Spec PyProof.Rows
section
variable {X : Cx} {pins : List (Addr × Obj)} {σ : St} {H : Hp} {s : Shared}
end
section
variable {X : Cx} {sc : Scope} {N : List Str} {src : List (Option Nat)} {tg iter elt : Expr} {ifs : List Expr} {td : TE} {g : TG} {tt : TT} {te : TE} {pos : Pos}
end
section
variable {prog : Program} {w : World} {A : Around} {R : Result → Shared → Prop} {s : Shared}
end
section
variable {X : Cx} {sc : Scope} {N : List Str} {src : List (Option Nat)} {tg iter kx vx : Expr} {ifs : List Expr} {wi : TI} {g : TG} {tt : TT} {tk tv : TE} {pos : Pos}
end
end L2
set_option Elab.async false
set_option linter.all false
set_option maxRecDepth 100000
set_option maxHeartbeats 4000000
namespace L2
open PySem PySem.Spec PyProof.Rows
section
variable {P : Program} {w : World} {A : Around} {E : Value → Shared → Prop} {s : Shared} {S : Addr} {vs : List (Key × Value)} {ep : Nat}
end
section
variable {X : Cx}
end
end L2
set_option Elab.async false
set_option linter.all false
set_option maxRecDepth 100000
set_option maxHeartbeats 4000000
namespace L2
open PySem PySem.Spec PyProof.Rows
section
variable {X : Cx}
theorem strs_of : ∀ {ts : List Str} {its : List Value}, Vals (ts.map V.str) its → ∃ l : List (Str × Tok), its = strValues l ∧ l.map (·.1) = ts
  | [], _, r => by rw [List.map_nil] at r; cases r; exact ⟨[], rfl, rfl⟩
  | t :: ts, _, r => by
    rw [List.map_cons] at r
    cases r with
    | cons h hr =>
      obtain ⟨u, rfl⟩ := h
      obtain ⟨l, rfl, e⟩ := strs_of hr
      exact ⟨(t, u) :: l, rfl, by rw [List.map_cons, e]⟩
def lenAll (sep : Str) (ts : List Str) : Nat := ts.foldl (fun n x => n + x.length + sep.length) 0
def rJoin (K : PySem.W.Frag) : V → List V → Hp → VK → Prop := fun x vs H Q => ∃ (sep : Str) (p : Addr) (ts : List Str), x = .str sep ∧ vs = [.ref p] ∧ SqL K H p (ts.map V.str) ∧ lenAll sep ts ≤ sizeLine ∧ (Str.join sep ts).length ≤ sizeLine ∧ Q (.str (Str.join sep ts)) H
theorem mt_join : MtR X "str.join" (rJoin X.K) := by
  intro pins s σ H x vs v us Q I rx rv h
  obtain ⟨sep, p, ts, rfl, rfl, hx, hl, hj, q⟩ := h
  obtain ⟨t, rfl⟩ := rx
  obtain ⟨u, rfl, ru⟩ := vals1 rv
  cases ru
  obtain ⟨its, r, pl, hz⟩ := I.list hx
  obtain ⟨l, rfl, el⟩ := strs_of r
  refine call_meets PySem.F.slot_str_join (typeIs_str _ _ _) PySem.F.entry_str_join (PySem.F.args_str_join_2 _ _) (meets_str_join_list sep t p l ?_) ⟨pl.isList, ?_⟩
  · rw [el]
    unfold Builtin.Str.tooLong
    rw [List.foldl_toArray]
    simpa [lenAll] using hl
  · have fin : ∀ t' k, EP X pins σ Q (.str (Str.join sep ts) t') { s with toks := k } := fun t' k => ⟨.str _, H, I.tok k, ⟨t', rfl⟩, q⟩
    have eg : ∀ l' : List (Str × Tok), Builtin.Str.glued sep (l'.map (·.1)) = Str.join sep (l'.map (·.1)) := fun l' => StrLaws.glued_eq_join sep _
    match l, el with
    | [], el =>
      have e := eg []
      rw [el] at e
      show _ ∧ _
      rw [el, e]
      exact ⟨hj, fin _ _⟩
    | [pp], el =>
      have e : pp.1 = Str.join sep ts := by rw [← el]; rfl
      show wants (EP X pins σ Q) X.xe (Except.ok (Flow.ret (Value.str pp.1 pp.2))) s
      rw [e]
      exact fin _ _
    | a :: b :: r, el =>
      show _ ∧ _
      rw [show Builtin.Str.glued sep ((a :: b :: r).map (·.1)) = Str.join sep ts from by rw [← el]; exact eg _]
      exact ⟨hj, fin _ _⟩
end
end L2
set_option Elab.async false
set_option linter.all false
set_option maxRecDepth 100000
set_option maxHeartbeats 4000000
namespace L2
open PySem PySem.Spec PyProof.Rows
theorem str_ext {a b : Str} (h : a.cps.toList = b.cps.toList) : a = b := Str.ext' (Array.toList_inj.1 h)
theorem app_cps (a b : Str) : (a ++ b).cps.toList = a.cps.toList ++ b.cps.toList := by rw [Str.cps_append, Array.toList_append]
section
variable {X : Cx}
end
end L2
set_option Elab.async false
set_option linter.all false
set_option maxRecDepth 100000
set_option maxHeartbeats 4000000
namespace L2
open PySem PySem.Spec PyProof.Rows
section
variable {X : Cx}
theorem call_strO : CallR X (.type "str") (fun xs H Q => (∃ i, xs = [.int i] ∧ i.natAbs.log2 < 1920 ∧ Q (.str (toString i)) H) ∨ (xs = [.non] ∧ Q (.str "None") H)) := by
  intro pins s σ H xs us Q I r h
  rcases h with h | ⟨rfl, q⟩
  · exact call_str_int pins s σ H xs us Q I r h
  · obtain ⟨u, rfl, r1⟩ := vals1 r
    cases r1
    exact PySem.P.str_of_none ⟨.str _, H, I.tok _, ⟨_, rfl⟩, q⟩
end
end L2
set_option Elab.async false
set_option linter.all false
set_option maxRecDepth 100000
set_option maxHeartbeats 4000000
namespace L2
open PySem PySem.Spec PyProof.Rows
end L2
namespace L2
open PySem PySem.Spec PyProof.Rows
section
variable {prog : Program} {w : World} {A : Around} {E : Value → Shared → Prop} {s : Shared}
structure ZT (g : Heap) (z ti to p1 p2 t1 t2 : Addr) (out : Value) (k1 k2 : Nat) : Prop where
  zip : IsZip g z ti to out
  its : IsPair g ti (.ref p1) (.ref p2)
  fst : IsTupIter g p1 t1 k1
  snd : IsTupIter g p2 t2 k2
end
section
variable {X : Cx}
end
section
variable {K : PySem.W.Frag} {g : TG} {tt : TT} {te : TE} {D : Addr} {σ : St} {H : Hp} {Q : Hp → Prop} {a b : Addr} {xs ys : List V}
end
section
variable {X : Cx}
end
end L2
set_option Elab.async false
set_option linter.all false
set_option maxRecDepth 100000
set_option maxHeartbeats 4000000
namespace L2
open PySem PySem.Spec PyProof.Rows
def CXO (P : Program) (w : World) : CXT := fun outer H s E e s' => ∃ (a : Addr) (cls a0 : Value) (B : Heap) (H' : Hp), e = .ref a ∧ s'.os = s.os ∧ AllBare s'.gens ∧ Heap.FlyingW B outer a cls a0 s'.heap ∧ Un (frs outer) [] H H' s.heap s'.heap ∧
  (∀ b o, s.heap.get? b = some o → H b = none → b ∉ frs outer → B.get? b = some o) ∧ (∀ b o, s.heap.get? b = some o → b ∉ frs outer → ∃ o', B.get? b = some o') ∧ HOk P w H' B ∧ s.heap.get? a = none ∧ E cls none H'
section
variable {X : Cx} {E : XK}
end
section
variable {P : Program} {w : World} {K : PySem.W.Frag} {mg : Str → Option Value} {base : Heap} {N : List Str} {qual : Str} {scope : Scope} {f : Addr} {cd : Value} {A : Around} {outer : List Env} {s0 : Shared} {H0 : Hp} {E : XK} {CX : CXT}
structure Exc (K : PySem.W.Frag) (C : Addr) : Prop where
  is : PySem.W.excIn K C [.type "ValueError", .type "Exception", .type "BaseException", .type "object"] "ValueError.__new__" = true
theorem Exc.obj {h : Heap} {C : Addr} (X : K.In h) (e : Exc K C) : ∃ bm Nn nm q bs hdct sn sub ab col dd k0 k1 k2 k3 k5 mN, h.get? C = some (excClassObj nm q C Nn bs bm hdct sn sub ab col dd k0 k1 k2 k3 k5 "ValueError.__new__") ∧ h.Ns Nn mN ∧ mN "__init__" = none ∧ OwnTail h [.type "ValueError", .type "Exception", .type "BaseException", .type "object"] bm := by
  have q := e.is
  unfold PySem.W.excIn at q
  split at q
  · rename_i dd cd sl ho
    split at q
    · rename_i C' bm k0 k1 k2 k3 n k5 hm hs
      simp only [Bool.and_eq_true, beq_iff_eq, Bool.not_eq_true'] at q
      obtain ⟨⟨⟨⟨⟨rfl, rfl⟩, hdel⟩, ht⟩, hok⟩, hni⟩ := q
      obtain ⟨nm, bs, mro, ns, qn, hd, sn, sub, ab, col, del⟩ := cd
      have e1 : mro = .ref C' :: bm := hm
      have e2 : del = false := hdel
      subst e1 e2
      obtain ⟨l⟩ := sl
      have e3 : l = [k0, k1, k2, k3, some (.builtin "ValueError.__new__"), k5] := hs
      subst e3
      exact ⟨bm, ns, nm, qn, bs, hd, sn, sub, ab, col, dd, k0, k1, k2, k3, k5, _, X _ _ ho, .of_isNs (PySem.W.isNs_of_in X hok), PySem.W.nsMap_none_of_in X hok hni, PySem.W.tail_of_in X ht⟩
    · cases q
  · cases q
end
end L2
namespace L2
open PySem PySem.Spec PyProof.Rows PySem.W PySem.Calls PySem.Builtin PySem.Builtin.ObjectAttr PySem.Builtin.Getset_descriptor
structure ExcI (K : PySem.W.Frag) (C : Addr) : Prop where
  ga : findIn K (.ref C) "__getattribute__" = some (some (.builtin "BaseException.__getattribute__"))
  gh : findIn K (.ref C) "__getattr__" = some none
  cl : findIn K (.ref C) "__class__" = some (some (.builtin "object.__class__"))
  mo : mroIn K C (.type "object") = some true
  mb : mroIn K C (.type "BaseException") = some true
  gt : specialIn K (.builtin "object.__class__") "__get__" = some (some (.builtin "getset_descriptor.__get__"))
  tk : takesIn K (.builtin "object.__class__") = some true
  is : (clsIn K C).isSome = true
def XAt (a C : Addr) (h : Heap) : Prop := ∃ o, h.get? a = some o ∧ o.cls = .ref C
section
variable {K : PySem.W.Frag} {prog : Program} {w : World} {A : Around} {E : Value → Shared → Prop} {s : Shared} {a C : Addr}
theorem XAt.ty {M : Model} {h : Heap} (x : XAt a C h) : Looks M h (typeOf (.ref a)) (.ref C) := by
  obtain ⟨o, e, c⟩ := x
  exact c ▸ (Looks.ld e).andThen .now
end
end L2
set_option Elab.async false
set_option linter.all false
set_option maxRecDepth 100000
set_option maxHeartbeats 4000000
namespace L2
open PySem PySem.Spec PyProof.Rows
def Cx.tried (X : Cx) (xe : Value → Shared → Prop) (pn : List (Addr × Obj)) : Cx := { X with xe := xe, pn := pn }
def Cx.caught (X : Cx) (a : Addr) (xe : Value → Shared → Prop) (pn : List (Addr × Obj)) : Cx := { X with A := X.A.mark (some (.ref a)), calm := false, xe := xe, pn := pn }
section
variable {X : Cx} {pins pins1 : List (Addr × Obj)} {σ : St} {H H' : Hp} {s : Shared} {xe : Value → Shared → Prop}
theorem Inv.tried (I : Inv X pins σ H s) : Inv (X.tried xe (X.pn ++ pins)) [] σ H s :=
  ⟨⟨I.ok.mod, I.ok.kind, I.ok.glob, I.ok.blt, I.ok.above, I.ok.inj, I.ok.has, I.ok.cab, I.ok.hd, I.ok.frames, I.ok.stk, I.ok.exf, I.ok.bs, I.ok.bsz, I.ok.noex, I.ok.exfs, I.ok.funs, I.ok.frf⟩, I.os, I.bare, I.base, I.loc, I.cell, I.free, I.freeC, fun p hp => I.pin p (by rw [List.append_nil] at hp; exact hp), I.hok, I.len⟩
theorem Inv.caught {a : Addr} (I : Inv X pins σ H s) : Inv (X.caught a xe (X.pn ++ pins)) [] σ H s :=
  ⟨⟨I.ok.mod, I.ok.kind, I.ok.glob, I.ok.blt, I.ok.above, I.ok.inj, I.ok.has, I.ok.cab, (fun z => nomatch z), I.ok.frames, I.ok.stk, I.ok.exf, I.ok.bs, I.ok.bsz, I.ok.noex, I.ok.exfs, I.ok.funs, I.ok.frf⟩, I.os, I.bare, I.base, I.loc, I.cell, I.free, I.freeC, fun p hp => I.pin p (by rw [List.append_nil] at hp; exact hp), I.hok, I.len⟩
end
def Ends.gone (D : Ends) (i : Nat) : Ends := { nx := fun σ H => D.nx (σ.set i none) H, rt := D.rt, bk := fun σ H => D.bk (σ.set i none) H, ct := fun σ H => D.ct (σ.set i none) H }
section
variable {X : Cx}
end
end L2
set_option Elab.async false
set_option linter.all false
set_option maxRecDepth 100000
set_option maxHeartbeats 4000000
namespace L2
open PySem PySem.Spec PyProof.Rows
def lamCx (P : Program) (w : World) (K : PySem.W.Frag) (mg : Str → Option Value) (base : Heap) (N : List Str) (qual : Str) (scope : Scope) (f : Addr) (cd : Value) (A : Around) (outer : List Env) (s : Shared) (H : Hp) (E : XK) (cl : List (Str × Addr)) : Cx where
  prog := P
  w := w
  K := K
  mg := mg
  base := base
  A := A.deeper (PySem.W.envX qual scope s.heap.objs.size f cd cl)
  N := N
  s₀ := s
  H₀ := H
  env := PySem.W.envX qual scope s.heap.objs.size f cd cl
  outer := outer
  stack := PySem.W.envX qual scope s.heap.objs.size f cd cl :: outer
  ex := []
  calm := true
  fn := fun _ => false
  pn := []
  xe := fun e s' => wpAny (model P w) (A.deeper (PySem.W.envX qual scope s.heap.objs.size f cd cl)) (leaving (PySem.W.envX qual scope s.heap.objs.size f cd cl) e) (fun _ s'' => CXO P w outer H s E e s'') (fun e' s'' => CXO P w outer H s E e' s'') s'
structure Lam (K : PySem.W.Frag) (H : Hp) (h : Heap) (f : Addr) (name qual : Str) (params : Arguments) (body : Expr) (scope : Scope) (cl : List (Str × Addr)) (pm ctv : Value) (c' : Addr) (N : List Str) (σ : St) : Prop where
  obj : h.get? f = some (PySem.W.kla_obj name qual params body scope cl pm c' ctv)
  code : h.CodeRec (.ref c') qual
  free : ∀ x c, cl.lookup x = some c → H c = none ∧ ∃ v, h.IsCell c v
  inj : ∀ x y c, cl.lookup x = some c → cl.lookup y = some c → x = y
  has : ∀ x, (scope.names.lookup x = some .cell ∨ scope.names.lookup x = some .free) → ∃ c, cl.lookup x = some c
  vals : ∀ (i : Nat) (x : Str) (v : V), N[i]? = some x → σ[i]? = some (some v) → ∃ u c, RelV v u ∧ cl.lookup x = some c ∧ h.IsCell c (some u) ∧ scope.names.lookup x = some .free
  len : σ.length = N.length
section
variable {P : Program} {w : World} {K : PySem.W.Frag} {mg : Str → Option Value} {base : Heap} {N : List Str} {name qual : Str} {scope : Scope} {f c' : Addr} {A : Around} {outer : List Env} {s : Shared} {H : Hp} {E : XK} {cl : List (Str × Addr)} {params : Arguments} {body : Expr} {pm ctv : Value} {σ : St} {Q : VK} {k : Nat} {te : TE}
end
section
variable {X : Cx} {N : List Str} {name qual : Str} {scope : Scope} {f c' : Addr} {E : XK} {cl : List (Str × Addr)} {params : Arguments} {body : Expr} {pm ctv : Value} {σl : St} {k i : Nat} {te : TE} {x : Str} {p pos : Pos}
end
end L2
set_option Elab.async false
set_option linter.all false
set_option maxRecDepth 100000
set_option maxHeartbeats 4000000
namespace L2
open PySem PySem.Spec PyProof.Rows
def CTab (H : Hp) (ps : Array Value) (qual : Str) : Prop := TriplesOk ps.toList ∧ ∀ q v, codeAmong q ps.toList = some v → ∃ c', v = .ref c' ∧ H c' = some (.ext fun h => h.CodeRec (.ref c') qual)
structure LawTab (X : Cx) (c P : Addr) : Prop where
  code : X.env.code = .ref c
  hd : PySem.W.CodeHd X.base c P
  bt : ∃ bm ob, X.mg "__builtins__" = some (.ref bm) ∧ bm ≠ builtinsNs ∧ X.base.get? bm = some ob ∧ ob.cls = .type "module" ∧ ob.dict = some builtinsNs ∧ ob.data = .plain
section
variable {X : Cx} {pins : List (Addr × Obj)} {σ : St} {H : Hp} {s : Shared} {c P : Addr} {ps : Array Value} {params : Arguments} {body : Expr} {scope : Scope} {pos : Pos} {A : Around} {E : Value → Shared → Prop} {Q : Value → Shared → Prop}
structure Made (X : Cx) (pins : List (Addr × Obj)) (σ : St) (H : Hp) (P : Addr) (qual : Str) (params : Arguments) (body : Expr) (scope : Scope) (H' : Hp) (s' : Shared) (f c' : Addr) (pm ctv : Value) : Prop where
  inv : Inv X pins σ H' s'
  tab : ∃ ps', H' P = some (.tbl ps') ∧ CTab H' ps' qual
  code : H' c' = some (.ext fun h => h.CodeRec (.ref c') qual)
  keep : ∀ b o, H b = some o → b ≠ P → H' b = some o
  mod : ∀ b xs, H b = none → kTup X.K b = some xs → H' b = none
  obj : s'.heap.get? f = some (PySem.W.kla_obj "<lambda>" qual params body scope (closL X.env scope.names []) pm c' ctv)
  free : H' f = none
  above : X.s₀.heap.objs.size ≤ f
end
section
variable {X : Cx} {pins : List (Addr × Obj)} {σ : St} {H H' : Hp} {s' : Shared} {P f c' : Addr} {qual : Str} {params : Arguments} {body : Expr} {scope : Scope} {pm ctv : Value} {N : List Str} {src : List (Option Nat)}
theorem Made.lam (M : Made X pins σ H P qual params body scope H' s' f c' pm ctv) (c : Cap X scope N src) : Lam X.K H' s'.heap f "<lambda>" qual params body scope (closL X.env scope.names []) pm ctv c' N (pick σ src) := by
  have I := M.inv
  refine ⟨M.obj, (I.hok c' _ M.code).1, fun x d e => ⟨I.freeC x d (clos_look e), I.cell x d (clos_look e)⟩, fun x y d e1 e2 => I.ok.inj x y d (clos_look e1) (clos_look e2), fun x h => ?_, fun i x v e1 e2 => ?_, by unfold pick; rw [List.length_map]; exact c.len.symm⟩
  · have m : (x, NameKind.free) ∈ scope.names := by
      rcases h with h | h
      · exact absurd rfl (c.cell _ (lookup_mem h))
      · exact lookup_mem h
    obtain ⟨d, hd⟩ := I.ok.has x (c.free m)
    exact ⟨d, clos_has m hd⟩
  · obtain ⟨j, e3, e4⟩ := pick_some e2
    obtain ⟨a1, a2, a3⟩ := c.at_ e1 e3
    obtain ⟨m, _, hl⟩ := I.loc
    have vis : Vis X.env.scope x := by
      rcases a2 with z | z
      · exact .inr (.inl z)
      · exact .inr (.inr z)
    obtain ⟨u, r, q⟩ := hl j x v a1 e4 vis
    rcases q with ⟨z, _⟩ | ⟨_, d, e, z⟩
    · rw [z] at a2
      rcases a2 with z | z <;> cases z
    · exact ⟨u, d, r, clos_has (lookup_mem a3) e, z, a3⟩
theorem Made.apart (M : Made X pins σ H P qual params body scope H' s' f c' pm ctv) (hfn : ∀ x, X.fn x = true) : f ∉ frs X.stack ∧ ∀ x d, (closL X.env scope.names []).lookup x = some d → d ∉ frs X.stack := by
  have I := M.inv
  have old : ∀ b, X.s₀.heap.objs.size ≤ b → b ∉ X.fs := fun b hb z => by
    obtain ⟨_, o, e, _⟩ := I.ok.funs.mem z
    exact absurd (Nat.lt_of_lt_of_le (Heap.lt_size e) hb) (Nat.lt_irrefl _)
  refine ⟨fun z => ?_, fun x d e z => ?_⟩
  · rcases List.mem_cons.mp (I.stkSub f z) with q | q
    · obtain ⟨m, ⟨o, es, ep, e, k, _⟩, _⟩ := I.loc
      rw [← q, M.obj] at e
      cases e
      cases k
    · exact old f M.above q
  · rcases List.mem_cons.mp (I.stkSub d z) with q | q
    · exact I.cne x d (clos_look e) q
    · exact old d (I.ok.cab x d (hfn x) (clos_look e)) q
end
section
variable {P : Program} {w : World} {K : PySem.W.Frag} {mg : Str → Option Value} {base : Heap} {x qual : Str} {st : Stmt} {f : Addr} {fd : FuncData} {N ps : List Str} {k : Nat}
theorem Fun.okX {sp : Sp} (F : Fun K x qual st f fd) (S : FnScope N ps (defScope st)) (len : ∀ vs H Q E, sp vs H Q E → vs.length = ps.length)
    (hbody : ∀ (cdv : Value) (A : Around) (outer : List Env) (s : Shared) (H : Hp) (vs : List V) (Q : VK) (E : XK), Room k (A.deeper (envOfC qual (defScope st) s.heap.objs.size f cdv)) → sp vs H Q E →
      ∃ t, JB (cxOf (CXO P w) P w K mg base N qual (defScope st) f cdv A outer s H E) (defBody st) t ∧ t { nx := fun _ H' => Q .non H', rt := Q } (start N vs) H) : FnOk P w K mg base (CXO P w) (k + 1) f fd ps sp := by
  obtain ⟨oc, od, kV, doc, pm, an, cdv, ct, osl, rfl, lk, hcd⟩ := F.ex
  refine fn_of lk hcd S len fun A outer s H vs Q E hr hsp => ?_
  obtain ⟨t, h, q⟩ := hbody cdv A outer s H vs Q E hr hsp
  exact ⟨t, h.h, q⟩
structure CalleeX (P : Program) (w : World) (K : PySem.W.Frag) (mg : Str → Option Value) (base : Heap) (x : Str) (k : Nat) (ps : List Str) (sp : Sp) : Prop where
  ex : ∃ (f : Addr) (fd : FuncData), FnOk P w K mg base (CXO P w) k f fd ps sp ∧ Binds K fd ps [] ∧ PySem.W.keepIn K (.ref f) = true ∧ mg x = some (.ref f)
end
end L2
set_option Elab.async false
set_option linter.all false
set_option maxRecDepth 100000
set_option maxHeartbeats 4000000
namespace L2
open PySem PySem.Spec PyProof.Rows
section
variable {X : Cx}
end
end L2
set_option Elab.async false
set_option linter.all false
set_option maxRecDepth 100000
set_option maxHeartbeats 4000000
namespace L2
open PySem PySem.Spec PyProof.Rows
structure LamSc (params : Arguments) (body : Expr) (scope : Scope) : Prop where
  kind : scope.kind = .function
  co : scope.isCoroutine = false
  gen : scope.isGenerator = false
  cell : ∀ x ∈ scope.names, x.2 ≠ .cell
  bind : ∀ (name qual : Str) (cl : List (Str × Addr)) (pm ctv : Value) (c' : Addr), bindArgs (PySem.W.kla_fn name qual params body scope cl pm (.ref c') ctv) ⟨[], []⟩ = pure []
structure LamAt (K : PySem.W.Frag) (outer : List Env) (s : Shared) (H : Hp) (f c' : Addr) (name qual : Str) (params : Arguments) (body : Expr) (scope : Scope) (cl : List (Str × Addr)) (pm ctv : Value) (N : List Str) (σl : St) : Prop where
  lam : Lam K H s.heap f name qual params body scope cl pm ctv c' N σl
  free : H f = none ∧ f ∉ frs outer
  code : H c' = some (.ext fun h => h.CodeRec (.ref c') qual)
  cls : ∀ x d, cl.lookup x = some d → d ∉ frs outer
  sc : LamSc params body scope
structure Asker (P : Program) (w : World) (K : PySem.W.Frag) (mg : Str → Option Value) (base : Heap) (y : Str) (k : Nat) (tw : (XK → TE) → St → Hp → VK → Prop) : Prop where
  up : ∀ te te' : XK → TE, (∀ E σ H Q, te E σ H Q → te' E σ H Q) → ∀ σ H Q, tw te σ H Q → tw te' σ H Q
  ex : ∃ fW, PySem.W.keepIn K (.ref fW) = true ∧ mg y = some (.ref fW) ∧ ∀ (A : Around) (outer : List Env) (s : Shared) (H : Hp) (f c' : Addr) (name qual : Str) (params : Arguments) (body : Expr) (scope : Scope) (cl : List (Str × Addr)) (pm ctv : Value) (N : List Str) (σl : St) (te : XK → TE) (Q : VK),
    (∀ E E' σ H Q Q', te E σ H Q → (∀ c x H', E c x H' → E' c x H') → (∀ v H', Q v H' → Q' v H') → te E' σ H Q') → Room (k + 2) A → Env0 P w K mg base A outer s H → LamAt K outer s H f c' name qual params body scope cl pm ctv N σl →
    (∀ (E : XK) (A' : Around) (outer' : List Env) (s1 : Shared), Room k (A'.deeper (PySem.W.envX qual scope s1.heap.objs.size f (.ref c') cl)) → JE (lamCx P w K mg base N qual scope f (.ref c') A' outer' s1 H E cl) body (te E)) → tw te σl H Q →
    codeAny (model P w) A (.call (.ref fW) ⟨[.ref f], []⟩) (CR CX0 outer P w H s Q fun _ _ _ => False) s
structure Tabd (K : PySem.W.Frag) (T : Addr) (qual : Str) (H H' : Hp) : Prop where
  tab : ∃ ps, H' T = some (.tbl ps) ∧ CTab H' ps qual
  keep : ∀ b o, H b = some o → b ≠ T → H' b = some o
  mod : ∀ b xs, H b = none → kTup K b = some xs → H' b = none
end L2
set_option Elab.async false
set_option linter.all false
set_option maxRecDepth 100000
set_option maxHeartbeats 4000000
namespace L2
open PySem PySem.Spec PyProof.Rows HT
section
variable {prog : Program} {w : World} {A : Around} {E : Value → Shared → Prop} {s : Shared}
theorem getItem_tuple_all {t sl : Addr} {items : Array Value} {vl vu : Value} {lo hi : Option Int} {Q : Value → Shared → Prop} (ht : IsTup s.heap t items) (hs : s.heap.IsSliceOf sl vl vu .none) (pl : IsPart vl lo) (pu : IsPart vu hi)
    (hw : sIx items.size 0 lo = 0 ∧ sIx items.size items.size hi = items.size) (h : Q (.ref t) s) : wpAny (model prog w) A (getItem (.ref t) (.ref sl)) Q E s := by
  obtain ⟨os, hos, hcs, hds⟩ := id hs
  have hTs : s.TypeIs (.ref sl) "slice" := ⟨os, hos, hcs⟩
  unfold getItem
  refine wpAny_holding ?_
  first | refine wpAny_bind (wpAny_pure ?_) | skip
  refine wpAny_bind (wpAny_sequenceKey ht.typeIs (by decide) ?_)
  refine wpAny_bind (wpAny_callSpecial?_slot (name := Str.ofString "__getitem__") ht.typeIs PyProof.Rows.slot_tuple_getitem
    (wpAny_call_entry PyProof.Rows.slot_tuple_getitem ht.typeIs entry_tuple_getitem ?_ (args_tuple_getitem _ _)))
  show wpAny _ _ (Builtin.Tuple.tupleItemsOf (.ref t) >>= _) _ _ s
  refine wpAny_bind (tupleItemsOf_ ht ?_)
  refine wpAny_bind (wpAny_typeOf hTs ?_)
  rw [if_pos (by decide)]
  refine wpAny_bind (sliceApplied_gen hs pl pu ?_)
  have hyes : ((((sIx items.size 0 lo : Nat) : Int) == 0 && (1 : Int) == 1 && (sIx items.size items.size hi - sIx items.size 0 lo) == items.size) = true) := by
    rw [hw.1, hw.2]
    simp
  show wpAny _ _ (if (((sIx items.size 0 lo : Nat) : Int) == 0 && (1 : Int) == 1 && (sIx items.size items.size hi - sIx items.size 0 lo) == items.size) = true then _ else _) _ _ s
  rw [if_pos hyes]
  unfold Builtin.Tuple.tupleIsExact
  refine wpAny_bind (wpAny_bind (wpAny_typeOf ht.typeIs (wpAny_pure ?_)))
  rw [if_pos (by decide)]
  exact wpAny_bind (wpAny_rule (wpAny_pure ⟨_, rfl, wpAny_pure h⟩))
end
theorem cxN {CX : CXT} {P : Program} {w : World} {K : PySem.W.Frag} {mg : Str → Option Value} {base : Heap} {N : List Str} {qual : Str} {scope : Scope} {f : Addr} {cd : Value} {A : Around} {outer : List Env} {s : Shared} {H : Hp} {E : XK} : (cxOf CX P w K mg base N qual scope f cd A outer s H E).N = N := rfl
section
variable {X : Cx}
def rSlTW (K : PySem.W.Frag) : V → Option Int → Option Int → Hp → VK → Prop := fun x lo hi H Q => ∃ a xs, x = .ref a ∧ tupQ K H a = some xs ∧
  (if HT.sIx xs.length 0 lo = 0 ∧ HT.sIx xs.length xs.length hi = xs.length then Q (.ref a) H else ∀ p, L2.new K H p → Q (.ref p) (upd H p (.tup (cutV xs lo hi))))
theorem sl_tupW : SlR X (rSlTW X.K) := by
  intro pins s σ H x v vl vu lo hi sl Q I rx hs pl pu h
  obtain ⟨a, xs, rfl, hx, h⟩ := h
  split at h
  · rename_i hw
    cases rx
    obtain ⟨its, r, ht, hz⟩ := I.tuple (tupQ_sq hx)
    have hlen : its.toArray.size = xs.length := by rw [List.size_toArray]; exact r.length.symm
    refine ⟨"tuple", _, PyProof.Rows.slot_tuple_getitem.lookup, ht.typeIs, ?_⟩
    exact getItem_tuple_all ht hs pl pu (by rw [hlen]; exact hw) ⟨.ref a, H, I, rfl, h⟩
  · rename_i hw
    exact sl_tupQ pins s σ H (.ref a) v vl vu lo hi sl Q I rx hs pl pu ⟨a, xs, rfl, hx, hw, h⟩
def rCatTQ (K : PySem.W.Frag) : R2 := fun x y H Q => ∃ a b xs ys, x = .ref a ∧ y = .ref b ∧ tupQ K H a = some xs ∧ tupQ K H b = some ys ∧ xs ≠ [] ∧ xs.length + ys.length ≤ sizeLine ∧
  (if ys = [] then Q (.ref a) H else ∀ p, L2.new K H p → Q (.ref p) (upd H p (.tup (xs ++ ys))))
theorem op_catTQ : OpR X (binaryOp .Add) (rCatTQ X.K) := by
  intro pins s σ H x y v u Q I rx ry h
  obtain ⟨a, b, xs, ys, rfl, rfl, ha, hb, hx, hz, h⟩ := h
  refine thn (op_catT pins s σ H _ _ v u (fun v' H' => (ys = [] ∧ v' = .ref a ∧ H' = H) ∨ (ys ≠ [] ∧ ∃ l, H l = none ∧ v' = .ref l ∧ H' = upd H l (.tup (xs ++ ys)))) I rx ry ⟨a, b, xs, ys, rfl, rfl, tupQ_sq ha, tupQ_sq hb, hx, hz, fun e => .inl ⟨e, rfl, rfl⟩, fun e l hl => .inr ⟨e, l, hl, rfl, rfl⟩⟩) fun u' s' ⟨v', H', I', rv, q⟩ => ?_
  rcases q with ⟨e, rfl, rfl⟩ | ⟨e, l, hl, rfl, rfl⟩
  · rw [if_pos e] at h
    exact ⟨_, _, I', rv, h⟩
  · rw [if_neg e] at h
    exact ⟨_, _, I', rv, h l ⟨hl, I'.notMod upd_same⟩⟩
def rSlTX (K : PySem.W.Frag) : V → Option Int → Option Int → Hp → VK → Prop := fun x lo hi H Q => ∃ a xs, x = .ref a ∧ tupQ K H a = some xs ∧ ∀ q H', tupQ K H' q = some (cutV xs lo hi) → Ext K H H' → Q (.ref q) H'
theorem sl_tupX : SlR X (rSlTX X.K) := by
  intro pins s σ H x v vl vu lo hi sl Q I rx hs pl pu h
  obtain ⟨a, xs, rfl, hx, h⟩ := h
  refine sl_tupW pins s σ H (.ref a) v vl vu lo hi sl Q I rx hs pl pu ⟨a, xs, rfl, hx, ?_⟩
  split
  · rename_i hw
    refine h a H ?_ Ext.refl
    have : cutV xs lo hi = xs := by
      unfold cutV
      rw [hw.1, hw.2]
      simp
    rw [this]
    exact hx
  · exact fun p np => h p _ tupQ_updT (Ext.new np)
def rCatTX (K : PySem.W.Frag) : R2 := fun x y H Q => ∃ a b xs ys, x = .ref a ∧ y = .ref b ∧ tupQ K H a = some xs ∧ tupQ K H b = some ys ∧ xs ≠ [] ∧ xs.length + ys.length ≤ sizeLine ∧ ∀ q H', tupQ K H' q = some (xs ++ ys) → Ext K H H' → Q (.ref q) H'
theorem op_catTX : OpR X (binaryOp .Add) (rCatTX X.K) := by
  intro pins s σ H x y v u Q I rx ry h
  obtain ⟨a, b, xs, ys, rfl, rfl, ha, hb, hx, hz, h⟩ := h
  refine op_catTQ pins s σ H _ _ v u Q I rx ry ⟨a, b, xs, ys, rfl, rfl, ha, hb, hx, hz, ?_⟩
  split
  · rename_i e
    refine h a H ?_ Ext.refl
    rw [e, List.append_nil]
    exact ha
  · exact fun p np => h p _ tupQ_updT (Ext.new np)
end
structure XT (K : PySem.W.Frag) (T : Addr) (q : Str) (H H' : Hp) : Prop where
  was : ∃ ps, H T = some (.tbl ps)
  tab : ∃ ps, H' T = some (.tbl ps) ∧ CTab H' ps q
  keep : ∀ b o, H b = some o → b ≠ T → H' b = some o
  mod : ∀ b xs, H b = none → kTup K b = some xs → H' b = none
section
variable {K : PySem.W.Frag} {T : Addr} {q : Str} {H H1 H2 : Hp}
theorem CTab.ext {ps : Array Value} (h : CTab H ps q) (x : ∀ b o, H b = some o → (∀ ps, o ≠ .tbl ps) → H1 b = some o) : CTab H1 ps q := ⟨h.1, fun p v e => by
  obtain ⟨c, rfl, hc⟩ := h.2 p v e
  exact ⟨c, rfl, x _ _ hc nofun⟩⟩
theorem XT.refl (h : ∃ ps, H T = some (.tbl ps) ∧ CTab H ps q) : XT K T q H H := ⟨let ⟨ps, e, _⟩ := h; ⟨ps, e⟩, h, fun _ _ e _ => e, fun _ _ e _ => e⟩
theorem XT.trans (x : XT K T q H H1) (y : XT K T q H1 H2) : XT K T q H H2 := ⟨x.was, y.tab, fun b o e n => y.keep b o (x.keep b o e n) n, fun b xs e k => y.mod b xs (x.mod b xs e k) k⟩
theorem XT.ext (x : XT K T q H H1) (y : Ext K H1 H2) : XT K T q H H2 := by
  obtain ⟨ps, e, c⟩ := x.tab
  exact ⟨x.was, ⟨ps, y.same _ _ e, c.ext fun b o h _ => y.same b o h⟩, fun b o e n => y.same _ _ (x.keep b o e n), fun b xs e k => y.mod b xs (x.mod b xs e k) k⟩
theorem XT.at (x : XT K T q H H1) {b : Addr} {o : HO} (h : H b = some o) (n : ∀ ps, o ≠ .tbl ps) : H1 b = some o := x.keep b o h fun z => by
  obtain ⟨ps, e⟩ := x.was
  rw [z, e] at h
  cases h
  exact n _ rfl
theorem XT.tup (x : XT K T q H H1) {a : Addr} {vs : List V} (h : tupQ K H a = some vs) : tupQ K H1 a = some vs := by
  unfold tupQ at h ⊢
  split at h
  · next e => rw [x.at e nofun]; exact h
  · cases h
  · next e => rw [x.mod a vs e h]; exact h
end
end L2
set_option Elab.async false
set_option linter.all false
set_option maxRecDepth 100000
set_option maxHeartbeats 4000000
namespace L2
open PySem PySem.Spec PyProof.Rows
section
variable {X : Cx}
end
section
variable {X : Cx}
def rCatTX0 (K : PySem.W.Frag) : R2 := fun x y H Q => ∃ a b xs ys, x = .ref a ∧ y = .ref b ∧ tupQ K H a = some xs ∧ tupQ K H b = some ys ∧ xs.length + ys.length ≤ sizeLine ∧ ∀ q H', tupQ K H' q = some (xs ++ ys) → Ext K H H' → Q (.ref q) H'
end
mutual
theorem eqv_refl : ∀ (d : PyData), d.canLay0 = true → PyData.eqv d d = true
  | .none, _ => by simp [PyData.eqv]
  | .bool b, _ => by simp [PyData.eqv]
  | .int i, _ => by simp [PyData.eqv]
  | .str x, _ => by simp [PyData.eqv]
  | .list ds, h => by
    simp only [PyData.canLay0] at h
    simp only [PyData.eqv]
    exact eqvAll_refl ds h
  | .tuple ds, h => by
    simp only [PyData.canLay0] at h
    simp only [PyData.eqv]
    exact eqvAll_refl ds h
  | .dict _, h => by simp [PyData.canLay0] at h
theorem eqvAll_refl : ∀ (ds : List PyData), PyData.canLayAll0 ds = true → PyData.eqvAll ds ds = true
  | [], _ => by simp [PyData.eqvAll]
  | d :: ds, h => by
    simp only [PyData.canLayAll0, Bool.and_eq_true] at h
    simp only [PyData.eqvAll, Bool.and_eq_true]
    exact ⟨eqv_refl d h.1, eqvAll_refl ds h.2⟩
end
end L2
set_option Elab.async false
set_option linter.all false
set_option maxRecDepth 100000
set_option maxHeartbeats 4000000
namespace L2
open PySem PySem.Spec PyProof.Rows
section
variable {X : Cx} {o e value : Expr} {f : Str} {pos pos' tpos p : Pos} {ta tv te : TE}
theorem efld (he : JE X e ta) (hb : attributeBase e f X.env (eval e X.env) = eval e X.env := by rfl) : JE X (.Attribute e f pos) (tFld X.K ta f) := ⟨pe_fld he.h hb⟩
theorem sfld (ha : JE X o ta) (hv : JE X value tv) (hs : swapsWith value (some (.Attribute o f pos')) pos.line X.env = pure false := by rfl) : JS X (.Assign [.Attribute o f pos'] value pos) (sFld X.K ta tv f) := ⟨ps_fld ha.h hv.h hs⟩
end
structure FunD (K : PySem.W.Frag) (x qual : Str) (st : Stmt) (f : Addr) (fd : FuncData) : Prop where
  ex : ∃ (oc : Value) (od : Option Addr) (dV kV doc pm : Value) (an : Option Addr) (cdv ct : Value) (osl : Array (Option Value)),
    fd = PySem.W.fnOf x qual (defArgs st) (defBody st) (defScope st) dV kV doc pm an cdv ct ∧ K.lookup f = some ⟨oc, od, .func fd, osl⟩ ∧ PySem.W.codeIn K cdv qual = true
section
variable {P : Program} {w : World} {K : PySem.W.Frag} {mg : Str → Option Value} {base : Heap} {x qual : Str} {st : Stmt} {f : Addr} {fd : FuncData} {N ps : List Str} {k : Nat} {sp : Sp}
theorem fund_mk {oc : Value} {od an : Option Addr} {osl : Array (Option Value)} {dV kV doc pm cdv ct : Value} (l : K.lookup f = some ⟨oc, od, .func (PySem.W.fnOf x qual (defArgs st) (defBody st) (defScope st) dV kV doc pm an cdv ct), osl⟩)
    (c : PySem.W.codeIn K cdv qual = true) : FunD K x qual st f (PySem.W.fnOf x qual (defArgs st) (defBody st) (defScope st) dV kV doc pm an cdv ct) := ⟨oc, od, dV, kV, doc, pm, an, cdv, ct, osl, rfl, l, c⟩
theorem FunD.okX (F : FunD K x qual st f fd) (S : FnScope N ps (defScope st)) (len : ∀ vs H Q E, sp vs H Q E → vs.length = ps.length)
    (hbody : ∀ (cdv : Value) (A : Around) (outer : List Env) (s : Shared) (H : Hp) (vs : List V) (Q : VK) (E : XK), Room k (A.deeper (envOfC qual (defScope st) s.heap.objs.size f cdv)) → sp vs H Q E →
      ∃ t, JB (cxOf (CXO P w) P w K mg base N qual (defScope st) f cdv A outer s H E) (defBody st) t ∧ t { nx := fun _ H' => Q .non H', rt := Q } (start N vs) H) : FnOk P w K mg base (CXO P w) (k + 1) f fd ps sp := by
  obtain ⟨oc, od, dV, kV, doc, pm, an, cdv, ct, osl, rfl, lk, hcd⟩ := F.ex
  refine fn_of lk hcd S len fun A outer s H vs Q E hr hsp => ?_
  obtain ⟨t, h, q⟩ := hbody cdv A outer s H vs Q E hr hsp
  exact ⟨t, h.h, q⟩
end
def tMakeQ (K : PySem.W.Frag) (C : Addr) (sp : Sp) (dvs : List V) (E : XK) (t : TA) : TE := fun σ H Q => t σ H fun vs H1 => ∀ x dx, new K H1 x → new K H1 dx → dx ≠ x →
  sp (.ref x :: (vs ++ dvs)) (upd (upd H1 dx (.own x)) x (.ins C dx [])) (fun v H2 => v = .non ∧ Q (.ref x) H2) E
structure MakerX (P : Program) (w : World) (K : PySem.W.Frag) (mg : Str → Option Value) (base : Heap) (x : Str) (k : Nat) (ps : List Str) (dvs : List V) (C : Addr) (sp : Sp) : Prop where
  ex : ∃ (f : Addr) (fd : FuncData) (ds : List Value), Mk K C f ∧ FnOk P w K mg base (CXO P w) k f fd ps sp ∧ Binds K fd ps ds ∧ Vals dvs ds ∧ mg x = some (.ref C)
section
variable {X : Cx} {CX : CXT} {k : Nat} {f C : Addr} {fd : FuncData} {ps : List Str} {sp : Sp} {dvs : List V} {ds : List Value} {E : XK} {y : Str} {p pos : Pos} {e : Expr} {es : List Expr} {t : TA}
theorem run_makeQ {pins : List (Addr × Obj)} {σ : St} {H : Hp} {s : Shared} {Q : VK} {us : List Value} {vs : List V} (M : Mk X.K C f) (F : FnOk X.prog X.w X.K X.mg X.base CX k f fd ps sp) (hr : Room (k + 1) X.A) (hb : Binds X.K fd ps ds) (hd : Vals dvs ds)
    (hx : Passes CX X E) (I : Inv X pins σ H s) (r : Vals vs us)
    (h : ∀ x dx, new X.K H x → new X.K H dx → dx ≠ x → sp (.ref x :: (vs ++ dvs)) (upd (upd H dx (.own x)) x (.ins C dx [])) (fun v H2 => v = .non ∧ Q (.ref x) H2) E) :
    wpAny (model X.prog X.w) X.A (call (.ref C) us) (EP X pins σ Q) X.xe s := by
  have I2 := Inv.made (C := C) I
  have hq := h (s.heap.objs.size + 1) s.heap.objs.size ⟨I.hok.fresh (Nat.le_succ _), I2.notMod upd_same⟩ I.new (Nat.ne_of_lt (Nat.lt_succ_self _))
  have r2 : Vals (V.ref (s.heap.objs.size + 1) :: (vs ++ dvs)) (Value.ref (s.heap.objs.size + 1) :: (us ++ ds)) := .cons rfl (r.append hd)
  have hl : (Value.ref (s.heap.objs.size + 1) :: us ++ ds).length = ps.length := by
    have e := r2.length
    rw [F.len _ _ _ _ hq] at e
    exact e.symm
  refine wpAny_call (make_map (f := f) I.kIn M.makes M.init (beq_iff_eq.mp M.fn) (codeAny_mono (F.run _ X.stack _ _ ⟨Value.ref (s.heap.objs.size + 1) :: us, []⟩ (Value.ref (s.heap.objs.size + 1) :: (us ++ ds)) _ _ E (hr.make C us [])
    (I2.env0.make C us []) (hb _ (Value.ref (s.heap.objs.size + 1) :: us) I2.kIn hl) r2 hq) fun r s' hq' => ?_))
  cases r with
  | error e => exact hx pins σ _ _ e s' I2 hq'
  | ok fl =>
    cases fl with
    | ret u =>
      obtain ⟨v, H', I3, rv, ev, q3⟩ := I2.after hq'
      subst ev
      exact ⟨rv, ⟨V.ref (s.heap.objs.size + 1), H', I3, rfl, q3⟩⟩
    | next => exact False.elim hq'
    | brk => exact False.elim hq'
    | cont => exact False.elim hq'
end
theorem Ext.made {K : PySem.W.Frag} {H : Hp} {x dx : Addr} {o o' : HO} (n : L2.new K H x) (m : L2.new K H dx) (ne : dx ≠ x) : Ext K H (upd (upd H dx o') x o) :=
  (Ext.new m).trans (Ext.new (new_upd.mpr ⟨ne.symm, n⟩))
structure KDict (P : Program) (w : World) (K : PySem.W.Frag) (a : Addr) (vs : List (Key × Value)) : Prop where
  of : ∀ h : Heap, K.In h → h.DictOf (mixKind P w) a vs
  ne : (a == sysModules) = false
section
variable {X : Cx} {a : Addr} {vs : List (Key × Value)} {o i : Expr} {to ti : TE} {pos : Pos}
theorem op_inKD (d : KDict X.prog X.w X.K a vs) : OpR X (compareOp .In) (fun x y H Q => ∃ k, x = kV k ∧ y = .ref a ∧ Q (.bl (valueAt vs k).isSome) H) := by
  intro pins s σ H x y v u Q I rx ry h
  obtain ⟨k, rfl, rfl, q⟩ := h
  cases (show u = Value.ref a from ry)
  exact wpAny_in_of (kV_is rx) d.ne (d.of _ I.kIn).mapOf ⟨.bl _, H, I.tok _, rfl, q⟩
theorem ekdget (d : KDict X.prog X.w X.K a vs) (ho : JE X o to) (hi : JE X i ti) (hs : NoSl i) : JE X (.Subscript o i pos) (fun σ H Q => to σ H fun x H1 => ti σ H1 fun y H2 => ∃ k v u, x = .ref a ∧ y = kV k ∧ valueAt vs k = some u ∧ RelV v u ∧ Q v H2) := ⟨by
  intro pins s σ H Q I h
  refine subD_of PySem.F.slot_dict_getitem.lookup hs (thn (ho.h pins s σ H _ I h) fun u s1 ⟨x, H1, I1, rx, q1⟩ => thn (hi.h pins s1 σ H1 _ I1 q1) fun iv s2 ⟨y, H2, I2, ry, k, v, u', ex, ey, l, rv, q2⟩ => ?_)
  subst ex ey
  obtain rfl : u = Value.ref a := rx
  have dd := d.of _ I2.kIn
  refine ⟨?_, wpAny_getItem_of (kV_is ry) dd.mapOf l ⟨v, H2, I2.tok _, rv, q2⟩⟩
  exact dd.typeIs⟩
end
theorem kdict_strs {P : Program} {w : World} {K : PySem.W.Frag} {a : Addr} {es : List (Str × Tok × Value)} {n : Nat} (l : K.lookup a = some ⟨.type "dict", none, .dict (es.map fun e => (⟨PyData.keyHash w.params e.1, .str e.1 e.2.1, e.2.2⟩ : DictEntry)).toArray n, #[]⟩)
    (nd : (es.map fun e => ((.inr e.1 : Key))).Nodup) (ne : (a == sysModules) = false) : KDict P w K a (es.map fun e => ((.inr e.1 : Key), e.2.2)) := by
  refine ⟨fun h X => ⟨_, _, _, X a _ l, ⟨rfl, rfl, rfl⟩, rfl, ?_, ?_, ?_⟩, ne⟩
  · intro e he
    have he := Array.mem_toList_iff.mpr he
    rw [List.toList_toArray] at he
    obtain ⟨z, _, rfl⟩ := List.mem_map.mp he
    exact ⟨.inr z.1, by show (z.1 == z.1) = true; simp, rfl⟩
  · rw [List.toList_toArray]
    clear l nd
    induction es with
    | nil => exact .nil
    | cons z r ih => exact .cons (by show (z.1 == z.1) = true; simp) rfl ih
  · rw [List.map_map]
    exact nd
section
variable {X : Cx}
end
section
variable {X : Cx}
end
end L2
set_option Elab.async false
set_option linter.all false
set_option maxRecDepth 100000
set_option maxHeartbeats 4000000
namespace HT
open PySem PySem.Spec PyProof.Rows
section
variable {prog : Program} {w : World} {A : Around} {E : Value → Shared → Prop} {s : Shared}
end
end HT
namespace L2
open PySem PySem.Spec PyProof.Rows
section
variable {X : Cx} {e : Expr} {te : TE} {pos : Pos}
end
end L2
set_option Elab.async false
set_option linter.all false
set_option maxRecDepth 100000
set_option maxHeartbeats 4000000
namespace L2
open PySem PySem.Spec PyProof.Rows
structure MethC (P : Program) (w : World) (K : PySem.W.Frag) (mg : Str → Option Value) (base : Heap) (C : Addr) (m : Str) (k : Nat) (ps : List Str) (dvs : List V) (sp : Sp) : Prop where
  ex : ∃ (f : Addr) (fd : FuncData) (ds : List Value), Meth K C m f ∧ FnOk P w K mg base CX0 k f fd ps sp ∧ Binds K fd ps ds ∧ Vals dvs ds
structure MethX (P : Program) (w : World) (K : PySem.W.Frag) (mg : Str → Option Value) (base : Heap) (C : Addr) (m : Str) (k : Nat) (ps : List Str) (dvs : List V) (sp : Sp) : Prop where
  ex : ∃ (f : Addr) (fd : FuncData) (ds : List Value), Meth K C m f ∧ FnOk P w K mg base (CXO P w) k f fd ps sp ∧ Binds K fd ps ds ∧ Vals dvs ds
structure Maker (P : Program) (w : World) (K : PySem.W.Frag) (mg : Str → Option Value) (base : Heap) (x : Str) (k : Nat) (ps : List Str) (dvs : List V) (C : Addr) (sp : Sp) : Prop where
  ex : ∃ (f : Addr) (fd : FuncData) (ds : List Value), Mk K C f ∧ FnOk P w K mg base CX0 k f fd ps sp ∧ Binds K fd ps ds ∧ Vals dvs ds ∧ mg x = some (.ref C)
section
variable {X : Cx} {k : Nat} {C : Addr} {ps : List Str} {sp : Sp} {dvs : List V} {E : XK} {m y : Str} {apos pos p : Pos} {o e value : Expr} {es : List Expr} {t : TA} {ta tv : TE} {pl : Sem Bool}
theorem emeth (M : MethC X.prog X.w X.K X.mg X.base C m k ps dvs sp) (c : Cls X.K C) (hr : Room k X.A) (ho : JE X o ta) (ha : JA X (e :: es) t)
    (hst : starEach (e :: es) X.env = (false, eval e X.env) :: starEach es X.env := by rfl) (hpl : (backTo pos (starEach es X.env)).any (·.1) = false := by rfl)
    (ht : eval (.Call (.Attribute o m apos) (e :: es) [] pos) X.env = (do
      let ov ← eval o X.env
      standAt apos.atName
      let (f, first) ← holding [ov] (getMethod ov m pl)
      callWith pos f first (backTo pos (starEach (e :: es) X.env)) (backToKw pos (keywordEach [] X.env))) := by rfl) :
    JE X (.Call (.Attribute o m apos) (e :: es) [] pos) (tMeth C m sp dvs E0 ta t) := ⟨by
  obtain ⟨f, fd, ds, hm, F, b, vd⟩ := M.ex
  exact pe_meth ho.h c hm F hr b vd pass0 ha.h hst hpl ht⟩
theorem emeth0 (M : MethC X.prog X.w X.K X.mg X.base C m k ps dvs sp) (c : Cls X.K C) (hr : Room k X.A) (ho : JE X o ta)
    (ht : eval (.Call (.Attribute o m apos) [] [] pos) X.env = (do
      let ov ← eval o X.env
      standAt apos.atName
      let (f, first) ← holding [ov] (getMethod ov m pl)
      callWith pos f first (backTo pos (starEach [] X.env)) (backToKw pos (keywordEach [] X.env))) := by rfl) :
    JE X (.Call (.Attribute o m apos) [] [] pos) (tMeth C m sp dvs E0 ta tNil) := ⟨by
  obtain ⟨f, fd, ds, hm, F, b, vd⟩ := M.ex
  exact pe_meth0 ho.h c hm F hr b vd pass0 ht⟩
theorem emake (M : Maker X.prog X.w X.K X.mg X.base y k ps dvs C sp) (hr : Room (k + 1) X.A) (hg : Gl X y) (ha : JA X (e :: es) t)
    (hdb : (y == ("__debug__" : Str)) = false := by decide) (he : starEach (e :: es) X.env = (false, eval e X.env) :: starEach es X.env := by rfl) (hpl : (backTo pos (starEach es X.env)).any (·.1) = false := by rfl) :
    JE X (.Call (.Name y p) (e :: es) [] pos) (tMakeQ X.K C sp dvs E0 t) := ⟨by
  intro pins s σ H Q I h
  obtain ⟨f, fd, ds, M, F, b, vd, mm⟩ := M.ex
  refine wpAny_Call_Name_kw (ld_glob I hg mm ?_ hdb)
  refine PySem.W.callWith_K (h₀ := X.base) I.ok.mod.kin M.kp (thn (ha.h pos pins s σ H _ I h) fun us s1 ⟨vs, H1, I1, r, q⟩ => ⟨I1.kIn, ?_⟩) he hpl
  exact run_makeQ M F hr b vd pass0 I1 r q⟩
theorem emake0 (M : Maker X.prog X.w X.K X.mg X.base y k ps dvs C sp) (hr : Room (k + 1) X.A) (hg : Gl X y)
    (hdb : (y == ("__debug__" : Str)) = false := by decide) : JE X (.Call (.Name y p) [] [] pos) (tMakeQ X.K C sp dvs E0 tNil) := ⟨by
  intro pins s σ H Q I h
  obtain ⟨f, fd, ds, M, F, b, vd, mm⟩ := M.ex
  refine wpAny_Call_Name_kw (ld_glob I hg mm ?_ hdb)
  exact PySem.W.callWith_K0 I.kIn M.kp (run_makeQ (us := []) M F hr b vd pass0 I .nil h)⟩
end
section
variable {P : Program} {w : World} {K : PySem.W.Frag} {mg : Str → Option Value} {base : Heap} {x qual : Str} {st : Stmt} {f : Addr} {fd : FuncData} {N ps : List Str} {k : Nat} {sp : Sp}
theorem FunD.okJ (F : FunD K x qual st f fd) (S : FnScope N ps (defScope st)) (len : ∀ vs H Q E, sp vs H Q E → vs.length = ps.length)
    (hbody : ∀ (cdv : Value) (A : Around) (outer : List Env) (s : Shared) (H : Hp) (vs : List V) (Q : VK) (E : XK), Room k (A.deeper (envOfC qual (defScope st) s.heap.objs.size f cdv)) → sp vs H Q E →
      ∃ t, JB (cxOf CX0 P w K mg base N qual (defScope st) f cdv A outer s H E).nox (defBody st) t ∧ t { nx := fun _ H' => Q .non H', rt := Q } (start N vs) H) : FnOk P w K mg base CX0 (k + 1) f fd ps sp := by
  obtain ⟨oc, od, dV, kV, doc, pm, an, cdv, ct, osl, rfl, lk, hcd⟩ := F.ex
  refine fn_of lk hcd S len fun A outer s H vs Q E hr hsp => ?_
  obtain ⟨t, h, q⟩ := hbody cdv A outer s H vs Q E hr hsp
  exact ⟨t, h.h.nox, q⟩
end
section
variable {X : Cx}
theorem call_isinstC : CallR X (.builtin "isinstance") (fun xs H Q => ∃ x C t b, xs = [x, .ref C] ∧ TyOf X.K H x t ∧ PySem.W.kitOne X.K t (.ref C) = some b ∧ Q (.bl b) H) := by
  intro pins s σ H xs us Q I r h
  obtain ⟨x, C, t, b, rfl, ty, e, q⟩ := h
  obtain ⟨u, w', rfl, ru, rw'⟩ := vals2 r
  cases rw'
  exact isinst_ok I ru ty e fun tk => ⟨.bl b, H, I.tok tk, rfl, q⟩
end
end L2
set_option Elab.async false
set_option linter.all false
set_option maxRecDepth 100000
set_option maxHeartbeats 4000000
namespace L2
open PySem PySem.Spec PyProof.Rows
section
variable {X : Cx}
end
section
variable {P : Program} {w : World} {A : Around} {E : Value → Shared → Prop} {s : Shared} {S : Addr} {vs : List (Key × Value)} {ep : Nat}
end
section
variable {X : Cx}
end
end L2
set_option Elab.async false
set_option linter.all false
set_option maxRecDepth 100000
set_option maxHeartbeats 4000000
namespace L2
open PySem PySem.Spec PyProof.Rows
section
variable {X : Cx}
end
end L2
set_option Elab.async false
set_option linter.all false
set_option maxRecDepth 100000
set_option maxHeartbeats 4000000
namespace L2
open PySem PySem.Spec PyProof.Rows
section
variable {X : Cx}
def rIsascii : V → List V → Hp → VK → Prop := fun x vs H Q => ∃ a, x = .str a ∧ vs = [] ∧ Q (.bl (Txt.isascii a)) H
theorem mt_isascii : MtR X "str.isascii" rIsascii := by
  intro pins s σ H x vs v us Q I rx rv h
  obtain ⟨a, rfl, rfl, q⟩ := h
  obtain ⟨t, rfl⟩ := rx
  cases rv
  exact call_meets PySem.F.slot_str_isascii (typeIs_str _ _ _) PySem.F.entry_str_isascii (PySem.F.args_str_isascii_1 _) (gives_str_isascii a t).meets (show (Made.val _).post _ s from ⟨.bl _, H, I, rfl, q⟩)
def rIsdigit : V → List V → Hp → VK → Prop := fun x vs H Q => ∃ a, x = .str a ∧ vs = [] ∧ Q (.bl (Txt.isdigit a)) H
theorem mt_isdigit : MtR X "str.isdigit" rIsdigit := by
  intro pins s σ H x vs v us Q I rx rv h
  obtain ⟨a, rfl, rfl, q⟩ := h
  obtain ⟨t, rfl⟩ := rx
  cases rv
  exact call_meets PySem.F.slot_str_isdigit (typeIs_str _ _ _) PySem.F.entry_str_isdigit (PySem.F.args_str_isdigit_1 _) (gives_str_isdigit a t).meets (show (Made.val _).post _ s from ⟨.bl _, H, I, rfl, q⟩)
def rRemPre : V → List V → Hp → VK → Prop := fun x vs H Q => ∃ a b, x = .str a ∧ vs = [.str b] ∧ a.length ≤ sizeLine ∧ Q (.str (Txt.removeprefix a b)) H
theorem mt_removeprefix : MtR X "str.removeprefix" rRemPre := by
  intro pins s σ H x vs v us Q I rx rv h
  obtain ⟨a, b, rfl, rfl, ha, q⟩ := h
  obtain ⟨t, rfl⟩ := rx
  obtain ⟨u, rfl, ru⟩ := vals1 rv
  obtain ⟨t2, rfl⟩ := ru
  exact call_meets PySem.F.slot_str_removeprefix (typeIs_str _ _ _) PySem.F.entry_str_removeprefix (PySem.F.args_str_removeprefix_2 _ _) (gives_str_removeprefix a b t t2).meets (post_affix ha _ fun t' k => ⟨.str _, H, I.tok k, ⟨t', rfl⟩, q⟩)
theorem vals_strs : ∀ (ts : List Str) (k : Nat), Vals (ts.map V.str) (strsFrom k ts)
  | [], _ => .nil
  | t :: ts, k => .cons ⟨_, rfl⟩ (vals_strs ts (k + 1))
def rSplit (K : PySem.W.Frag) : V → List V → Hp → VK → Prop := fun x vs H Q => ∃ a b, x = .str a ∧ vs = [.str b] ∧ (b.length == 0) = false ∧ a.length ≤ sizeLine ∧ (Txt.split a b).length ≤ sizeLine ∧ ∀ D, L2.new K H D → Q (.ref D) (upd H D (.lst ((Txt.split a b).map V.str)))
theorem mt_split : MtR X "str.split" (rSplit X.K) := by
  intro pins s σ H x vs v us Q I rx rv h
  obtain ⟨a, b, rfl, rfl, hb, ha, hn, q⟩ := h
  obtain ⟨t, rfl⟩ := rx
  obtain ⟨u, rfl, ru⟩ := vals1 rv
  obtain ⟨t2, rfl⟩ := ru
  have fin : ∀ {its : List Value} {k : Nat}, Vals ((Txt.split a b).map V.str) its → EP X pins σ Q (.ref s.heap.objs.size) { s with toks := k, heap := s.heap.push { cls := .type "list", data := .seq its.toArray } } := fun {its k} vv => by
    have I2 : Inv X pins σ (upd H s.heap.objs.size (.lst ((Txt.split a b).map V.str))) { s with toks := k, heap := s.heap.push { cls := .type "list", data := .seq its.toArray } } :=
      I.laid (t' := k) (fun b ob q => Heap.get?_push_of_some _ q) (Nat.le_refl _) ⟨by rw [List.length_map]; exact hn, its, 0, vv, Heap.get?_push_size _ rfl⟩
    exact ⟨.ref s.heap.objs.size, _, I2, rfl, q _ ⟨I.hok.fresh (Nat.le_refl _), I2.notMod upd_same⟩⟩
  have e1 : ∀ {ts : List Str}, Txt.split a b = ts → ∀ {its : List Value} {k : Nat}, Vals (ts.map V.str) its → EP X pins σ Q (.ref s.heap.objs.size) { s with toks := k, heap := s.heap.push { cls := .type "list", data := .seq its.toArray } } := fun {ts} e {its k} vv => fin (by rw [e]; exact vv)
  have one : Vals ([a].map V.str) [.str a t] := .cons ⟨t, rfl⟩ .nil
  cases h1 : (decide (a.length < b.length) || decide (Builtin.Str.strKind a < Builtin.Str.strKind b)) with
  | true => exact call_meets PySem.F.slot_str_split (typeIs_str _ _ _) PySem.F.entry_str_split (PySem.F.args_str_split_2 _ _) (meets_str_split_cannot_occur a b t t2 h1) (e1 (by unfold Txt.split; rw [if_pos h1]) (its := [.str a t]) (k := s.toks) one)
  | false =>
    cases h2 : (Builtin.Str.occurrences a b 0 a.length (a.length + 1)).isEmpty with
    | true => exact call_meets PySem.F.slot_str_split (typeIs_str _ _ _) PySem.F.entry_str_split (PySem.F.args_str_split_2 _ _) (meets_str_split_not_found a b t t2 h1 hb h2) (e1 (by unfold Txt.split; rw [h1, h2, if_neg (by decide), if_pos rfl]) (its := [.str a t]) (k := s.toks) one)
    | false =>
      have e2 : Txt.split a b = Builtin.Str.partsBetween a (Builtin.Str.occurrences a b 0 a.length (a.length + 1)) b.length := by unfold Txt.split; rw [h1, h2, if_neg (by decide), if_neg (by decide)]
      exact call_meets PySem.F.slot_str_split (typeIs_str _ _ _) PySem.F.entry_str_split (PySem.F.args_str_split_2 _ _) (meets_str_split_sep a b t t2 h1 hb h2 ha (e2 ▸ hn)) (e1 e2 (vals_strs _ _))
theorem call_intT : CallR X (.type "int") (fun xs H Q => ∃ a n, xs = [.str a] ∧ PySem.intText? a = some n ∧ a.length ≤ 640 ∧ Q (.int n) H) := by
  intro pins s σ H xs us Q I r h
  obtain ⟨a, n, rfl, hn, hl, q⟩ := h
  obtain ⟨u, rfl, ru⟩ := vals1 r
  obtain ⟨t, rfl⟩ := ru
  exact PySem.W.KIN.call_text hn hl ⟨.int n, H, I.tok _, ⟨_, rfl⟩, q⟩
end
end L2
set_option Elab.async false
set_option linter.all false
set_option maxRecDepth 100000
set_option maxHeartbeats 4000000
namespace L2
open PySem PySem.Spec PyProof.Rows PySem.W
section
variable {prog : Program} {w : World} {A : Around} {E : Value → Shared → Prop} {s : Shared}
theorem star_list {l : Addr} {items : Array Value} {n i : Nat} {Q : List Value → Shared → Prop} (hl : s.heap.IsList l items) (hh : A.handled = none) (hi : i < n) (hn : n ≤ items.size + 1) (hz : items.size ≤ sizeLine)
    (h : ∀ h₂ tk, Heap.ExtBut s.heap.objs.size s.heap h₂ → Q (items.toList.take i ++ [.ref h₂.objs.size] ++ (items.toList.drop i).drop (items.size + 1 - n))
      { s with heap := h₂.push { cls := .type "list", data := .seq ((items.toList.drop i).take (items.size + 1 - n)).toArray }, toks := tk }) : wpAny (model prog w) A (unpackItems (.ref l) n (some i)) Q E s := by
  have hlt : l ≠ s.heap.objs.size := by obtain ⟨o, ho, _⟩ := hl; exact Nat.ne_of_lt (Heap.lt_size ho)
  have hll : l < s.heap.objs.size := by obtain ⟨o, ho, _⟩ := hl; exact Heap.lt_size ho
  unfold unpackItems
  refine wpAny_bind ?_
  unfold notIterableAtAll
  refine wpAny_bind (wpAny_specialOf hl.typeIs slot_list_iter.lookup ?_)
  refine wpAny_pure ?_
  simp only [Bool.false_eq_true, if_false]
  refine wpAny_bind (wpAny_holding (wpAny_pyIter_list hl ?_))
  refine wpAny_bind (wpAny_holding (kun_draw hlt i 0 _ _ ⟨_, Heap.get?_push_size _ rfl, rfl, rfl⟩ (hl.push _) (by omega) fun h₁ hit₁ hs₁ => ?_))
  have hl₁ : h₁.IsList l items := (hl.push _).extBut hs₁.extBut hlt
  rw [Nat.zero_add] at hit₁
  have hit₁' := hit₁
  obtain ⟨oi, hoi, _⟩ := hit₁'
  have hl₁' := hl₁
  obtain ⟨ol, hol, _⟩ := hl₁'
  rw [List.drop_zero]
  have hfl : (items.toList.take i).length = i := by rw [List.length_take, Array.length_toList]; omega
  rw [if_neg (show ¬ ((items.toList.take i).length < i) by rw [hfl]; omega)]
  refine wpAny_bind (wpAny_holding (kun_collect (s := { s with heap := h₁ }) (T := "list_iterator") (.inr (.inr (.inl rfl))) (Walks.list (A := A.in1) hh s.heap.objs.size l hlt items) (fun j u st => st.1.typeIs) (k := i) (by omega) ⟨hit₁, hl₁⟩ (Heap.lt_size hoi) (Heap.lt_size hol) (fun h₂ tk hk => ?_) hz))
  have hrl : (items.toList.drop i).length = items.size - i := by rw [List.length_drop, Array.length_toList]
  have hmid : (items.toList.drop i).length - (n - 1 - i) = items.size + 1 - n := by rw [hrl]; omega
  show wpAny _ _ (if (items.toList.drop i).length < n - 1 - i then _ else _) _ _ _
  rw [if_neg (by rw [hrl]; omega)]
  show wpAny _ _ (newList ((items.toList.drop i).take ((items.toList.drop i).length - (n - 1 - i))) >>= fun d => pure (items.toList.take i ++ [d] ++ (items.toList.drop i).drop ((items.toList.drop i).length - (n - 1 - i)))) _ _ _
  rw [hmid]
  have he : Heap.ExtBut s.heap.objs.size s.heap h₂ := fun b o hb e => hk b o hb (hs₁.extBut b o hb (Heap.get?_push_of_some _ e))
  exact wpAny_bind (wpAny_newList (s := { s with heap := h₂, toks := tk }) (wpAny_pure (h h₂ tk he)) (by rw [List.length_take, hrl]; omega))
end
section
variable {X : Cx} {es : List Expr} {pos : Pos} {e : Expr}
theorem vals_take {vs : List V} {us : List Value} (h : Vals vs us) : ∀ n : Nat, Vals (vs.take n) (us.take n) := by
  induction h with
  | nil => intro n; simp; exact .nil
  | cons a b ih => intro n; cases n with
    | zero => exact .nil
    | succ n => exact .cons a (ih n)
theorem vals_drop {vs : List V} {us : List Value} (h : Vals vs us) : ∀ n : Nat, Vals (vs.drop n) (us.drop n) := by
  induction h with
  | nil => intro n; simp; exact .nil
  | cons a b ih => intro n; cases n with
    | zero => exact .cons a b
    | succ n => exact ih n
theorem vals_app {vs ws : List V} {us xs : List Value} (h : Vals vs us) (h2 : Vals ws xs) : Vals (vs ++ ws) (us ++ xs) := by
  induction h with
  | nil => exact h2
  | cons a b ih => exact .cons a ih
def gStarL (K : PySem.W.Frag) (n i : Nat) (t : TGs) : TG := fun v σ H Q => ∃ a xs, v = .ref a ∧ SqL K H a xs ∧ n ≤ xs.length + 1 ∧
  ∀ D, L2.new K H D → t (xs.take i ++ .ref D :: (xs.drop i).drop (xs.length + 1 - n)) σ (upd H D (.lst ((xs.drop i).take (xs.length + 1 - n)))) Q
theorem gstarL {k : Nat} {t : TGs} {n i : Nat} (hc : X.calm = true) (h : JGs X es t) (hi : i < n := by decide) (hn : (assignEach es X.env).length = n := by rfl) (hst : (assignEach es X.env).findIdx? (·.1) = some i := by rfl) : JG X (.Tuple es k pos) (gStarL X.K n i t) := ⟨by
  intro pins s σ H v u Q I r hw
  obtain ⟨a, xs, e1, hq, hl, hw⟩ := hw
  subst e1
  cases r
  obtain ⟨its, rv, ht, hz⟩ := I.list hq
  have ln : xs.length = its.length := rv.length
  rw [assign_Tuple]
  refine wpAny_bind (wpAny_standAt ?_)
  unfold unpack
  rw [hn, hst]
  refine wpAny_bind (wpAny_holding (star_list ht.isList (I.ok.hd hc) hi (by simpa [← ln] using hl) (by simpa [← ln] using hz) fun h₂ tk hx => ?_))
  have I0 : Inv X pins σ H { s with heap := h₂, toks := tk } := I.kept (t' := tk) fun b o e => hx b o (Nat.ne_of_lt (Heap.lt_size e)) e
  have I1 : Inv X pins σ (upd H h₂.objs.size (.lst ((xs.drop i).take (xs.length + 1 - n)))) { s with heap := h₂.push { cls := .type "list", data := .seq ((its.drop i).take (xs.length + 1 - n)).toArray }, toks := tk } :=
    I0.laid (t' := tk) (fun b ob q => Heap.get?_push_of_some _ q) (Nat.le_refl _) ⟨by rw [List.length_take, List.length_drop]; omega, _, 0, vals_take (vals_drop rv i) _, Heap.get?_push_size _ rfl⟩
  have := h.h pins _ σ _ _ (its.take i ++ [.ref h₂.objs.size] ++ (its.drop i).drop (xs.length + 1 - n)) Q I1 (by
    rw [List.append_assoc]
    exact vals_app (vals_take rv i) (.cons rfl (vals_drop (vals_drop rv i) _))) (hw _ ⟨I0.hok.fresh (Nat.le_refl _), I1.notMod upd_same⟩)
  simpa [← ln] using this⟩
theorem gconsS {t : TG} {u : TGs} (h1 : JG X e t) (h2 : JGs X es u) {p : Pos} (hs : (assignEach (.Starred e p :: es) X.env).map (·.2) = assign e X.env :: (assignEach es X.env).map (·.2) := by rfl) : JGs X (.Starred e p :: es) (gCons t u) := ⟨by
  intro pins s σ H vs us Q I r h
  obtain ⟨v, vr, e1, h⟩ := h
  subst e1
  cases r with
  | cons r rr =>
    rw [hs]
    refine assignInOrder_cons (thn (h1.h pins s σ H _ _ _ I r h) fun _ s1 ⟨σ1, H1, I1, q1⟩ => ?_)
    exact h2.h pins s1 σ1 H1 _ _ Q I1 rr q1⟩
theorem call_strI {C : Addr} {k : Nat} {ps : List Str} {sp : Sp} (M : MethC X.prog X.w X.K X.mg X.base C "__str__" k ps [] sp) (hr : Room (k + 2) X.A) :
    CallR X (.type "str") (fun xs H Q => ∃ a dx fs, xs = [.ref a] ∧ H a = some (.ins C dx fs) ∧ sp [.ref a] H (fun v H' => ∃ t, v = .str t ∧ Q (.str t) H') E0) := by
  intro pins s σ H xs us Q I r h
  obtain ⟨a, dx, fs, rfl, ea, hsp⟩ := h
  obtain ⟨u, rfl, ru⟩ := r.one
  cases (show u = Value.ref a from ru)
  obtain ⟨f, fd, ds, hm, F, b, vd⟩ := M.ex
  cases vd
  obtain ⟨mA, O, _⟩ := ins_get I.hok ea
  obtain ⟨od, J, _⟩ := O.look
  have hl := F.len _ _ _ _ hsp
  refine kso_call hr.in1.in1.units0 I.kIn J hm.at_ hm.fn ?_
  refine wpAny_call (codeAny_mono (F.run X.A.in1.in1 X.stack s H ⟨[.ref a], []⟩ [.ref a] [.ref a] _ E0 hr.in1.in1 I.env0.in1.in1 (by have := b s [.ref a] I.kIn (by rw [List.append_nil]; exact hl); rwa [List.append_nil] at this) (.cons rfl .nil) hsp) fun r s' hq => ?_)
  cases r with
  | error e => exact pass0 pins σ H s e s' I hq
  | ok fl =>
    cases fl with
    | ret u =>
      obtain ⟨v, H', I', rv, t, rfl, q⟩ := I.after hq
      obtain ⟨t', rfl⟩ := rv
      exact ⟨.str t, H', I', ⟨_, rfl⟩, q⟩
    | next => exact False.elim hq
    | brk => exact False.elim hq
    | cont => exact False.elim hq
theorem run_own {k : Nat} {ps : List Str} {sp : Sp} {f : Addr} {fd : FuncData} {pins : List (Addr × Obj)} {σ : St} {H : Hp} {s : Shared} {A : Around} {vs : List V} {us : List Value} {Q : VK} {R : Value → Shared → Prop}
    (F : FnOk X.prog X.w X.K X.mg X.base CX0 k f fd ps sp) (b : Binds X.K fd ps []) (hr : Room k A) (he : Env0 X.prog X.w X.K X.mg X.base A X.stack s H) (I : Inv X pins σ H s) (rv : Vals vs us) (hsp : sp vs H Q E0)
    (h : ∀ v u H' s', Inv X pins σ H' s' → RelV v u → Q v H' → R u s') : wpAny (model X.prog X.w) A (call (.ref f) us) R X.xe s := by
  have hl := F.len _ _ _ _ hsp
  refine wpAny_call (codeAny_mono (F.run A X.stack s H ⟨us, []⟩ us vs _ E0 hr he (by have := b s us I.kIn (by rw [List.append_nil, ← rv.length]; exact hl); rwa [List.append_nil] at this) rv hsp) fun r s' hq => ?_)
  cases r with
  | error e => exact pass0 pins σ H s e s' I hq
  | ok fl =>
    cases fl with
    | ret u =>
      obtain ⟨v, H', I', rv, q⟩ := I.after hq
      exact h v u H' s' I' rv q
    | next => exact False.elim hq
    | brk => exact False.elim hq
    | cont => exact False.elim hq
structure EqCls (K : PySem.W.Frag) (C D : Addr) : Prop where
  nf : notFirst K C (.ref D) = true
  ne : findIn K (.ref C) "__ne__" = some (some (.builtin "object.__ne__"))
  ob : subIn K (.ref C) (.type "object") = some true
theorem rc_own {op : CmpOp} {A : Around} {E : Value → Shared → Prop} {s : Shared} {K : PySem.W.Frag} {x y C D : Addr} {ox oy : Obj} {od od' : Option Obj} {P : Program} {w : World} {Q : Value → Shared → Prop} (hu : A.units < cLine) (Z : K.In s.heap) (J : InstAt s.heap x ox C od) (J' : InstAt s.heap y oy D od') (hn : notFirst K C (.ref D) = true)
    (one : wpAny (model P w) A (tryCompare (.ref x) (cmpInfo op).2.1 (.ref y)) (fun r s' => ∃ v, r = some v ∧ Q v s') E s) : wpAny (model P w) A (richCompare op (.ref x) (.ref y)) Q E s := by
  unfold richCompare
  simp only [oneThing_ref]
  refine wpAny_holding (wpAny_bind (wpAny_cRoomFor hu ?_))
  refine wpAny_bind (J.type.here (wpAny_bind (J'.type.here ?_)))
  split
  · rename_i q
    have e : subIn K (.ref D) (.ref C) = some false := by
      rcases Bool.or_eq_true_iff.mp hn with e | e
      · rw [beq_iff_eq.mp e] at q; simp at q
      · exact beq_iff_eq.mp e
    refine wpAny_bind ((looks_subIn Z e).here ?_)
    simp only [Bool.false_eq_true, if_false]
    refine wpAny_bind (wpAny_mono one (fun r s' z => ?_) fun _ _ e => e)
    obtain ⟨v, rfl, hq⟩ := z
    exact wpAny_pure hq
  · refine wpAny_bind (wpAny_pure ?_)
    simp only [Bool.false_eq_true, if_false]
    refine wpAny_bind (wpAny_mono one (fun r s' z => ?_) fun _ _ e => e)
    obtain ⟨v, rfl, hq⟩ := z
    exact wpAny_pure hq
def rEqO (K : PySem.W.Frag) (C : Addr) (sp : Sp) : R2 := fun x y H Q => ∃ a dx fs c D dy gs, x = .ref a ∧ y = .ref c ∧ H a = some (.ins C dx fs) ∧ H c = some (.ins D dy gs) ∧ EqCls K C D ∧ sp [.ref a, .ref c] H (fun v H' => ∃ b, v = .bl b ∧ Q (.bl b) H') E0
theorem op_eqO {C : Addr} {k : Nat} {ps : List Str} {sp : Sp} (M : MethC X.prog X.w X.K X.mg X.base C "__eq__" k ps [] sp) (hr : Room k X.A) : OpR X (compareOp .Eq) (rEqO X.K C sp) := by
  intro pins s σ H x y v u Q I rx ry h
  obtain ⟨a, dx, fs, c, D, dy, gs, rfl, rfl, ea, ec, q, hsp⟩ := h
  cases (show v = Value.ref a from rx)
  cases (show u = Value.ref c from ry)
  obtain ⟨f, fd, ds, hm, F, b, vd⟩ := M.ex
  cases vd
  obtain ⟨mA, O, _⟩ := ins_get I.hok ea
  obtain ⟨od, J, _⟩ := O.look
  obtain ⟨mA', O', _⟩ := ins_get I.hok ec
  obtain ⟨od', J', _⟩ := O'.look
  show wpAny _ _ (richCompare .Eq _ _) _ _ _
  refine rc_own hr.units0 I.kIn J J' q.nf ?_
  unfold tryCompare
  refine wpAny_bind (ifBound_K I.kIn J hm.at_ hm.fn (run_own F b hr I.env0 I (.cons (show RelV (.ref a) (.ref a) from rfl) (.cons (show RelV (.ref c) (.ref c) from rfl) .nil)) hsp fun v u H' s' I' rv hq => ?_))
  obtain ⟨b, rfl, hq⟩ := hq
  cases (show u = Value.bool b from rv)
  exact wpAny_pure ⟨_, rfl, .bl b, H', I', rfl, hq⟩
theorem bind_ne {K : PySem.W.Frag} {M : Model} {h : Heap} (self : Value) : Looks M h (bindSpecial (.builtin "object.__ne__") self) (.builtin "object.__ne__", [self]) := Looks.of_pure (by kernel_rfl)
def rNeO (K : PySem.W.Frag) (C : Addr) (sp : Sp) : R2 := fun x y H Q => ∃ a dx fs c D dy gs, x = .ref a ∧ y = .ref c ∧ H a = some (.ins C dx fs) ∧ H c = some (.ins D dy gs) ∧ EqCls K C D ∧ sp [.ref a, .ref c] H (fun v H' => ∃ b, v = .bl b ∧ Q (.bl !b) H') E0
theorem op_neO {C : Addr} {k : Nat} {ps : List Str} {sp : Sp} (M : MethC X.prog X.w X.K X.mg X.base C "__eq__" k ps [] sp) (hr : Room (k + 1) X.A) : OpR X (compareOp .NotEq) (rNeO X.K C sp) := by
  intro pins s σ H x y v u Q I rx ry h
  obtain ⟨a, dx, fs, c, D, dy, gs, rfl, rfl, ea, ec, q, hsp⟩ := h
  cases (show v = Value.ref a from rx)
  cases (show u = Value.ref c from ry)
  obtain ⟨f, fd, ds, hm, F, b, vd⟩ := M.ex
  cases vd
  obtain ⟨mA, O, _⟩ := ins_get I.hok ea
  obtain ⟨od, J, _⟩ := O.look
  obtain ⟨mA', O', _⟩ := ins_get I.hok ec
  obtain ⟨od', J', _⟩ := O'.look
  show wpAny _ _ (richCompare .NotEq _ _) _ _ _
  refine rc_own hr.units0 I.kIn J J' q.nf ?_
  show wpAny _ _ (tryCompare _ "__ne__" _) _ _ _
  unfold tryCompare
  simp only [callSpecialIfBound?, bindSpecialIfBound?]
  have core : wpAny (model X.prog X.w) X.A (call (.builtin "object.__ne__") [.ref a, .ref c]) (fun r s' => ∃ b, r = .bool b ∧ EP X pins σ Q (.bool b) s') X.xe s := by
    refine wpAny_call (codeAny_call_builtin (by decide +kernel) PySem.F.cmpEntry_ne (check_slot PySem.F.cmpKind_ne PySem.F.cmpSplit_ne (J.type.andThen (looks_subIn I.kIn q.ob)) (PySem.F.cmpArgs_ne _ _) ?_))
    unfold Builtin.«object.__ne__»
    repeat (first
      | with_reducible refine wpAny_cRoomFor hr.in1.units0 ?_
      | (refine wpAny_bind (m := callSpecialIfBound? (.ref a) (Str.ofString "__eq__") [.ref c])
          (ifBound_K I.kIn J hm.at_ hm.fn (run_own F b hr.in1 I.env0.in1 I (.cons (show RelV (.ref a) (.ref a) from rfl) (.cons (show RelV (.ref c) (.ref c) from rfl) .nil)) hsp fun v u H' s' I' rv hq => ?_)))
      | wp_step)
    obtain ⟨b, rfl, hq⟩ := hq
    cases (show u = Value.bool b from rv)
    have fin : ∃ b', Value.bool (!b) = .bool b' ∧ EP X pins σ Q (.bool b') s' := ⟨_, rfl, .bl (!b), H', I', rfl, hq⟩
    repeat (first | exact fin | exact wpAny_pure fin | exact wpAny_truthy_bool fin | (refine wpAny_bind (m := truthy (.bool _)) (wpAny_truthy_bool ?_)) | wp_step)
  refine wpAny_bind (wpAny_holding (wpAny_bind (wpAny_bind (wpAny_bind (J.type.here ((looks_findIn I.kIn q.ne).here ?_))))))
  have fin : wpAny (model X.prog X.w) X.A (call (.builtin "object.__ne__") ([.ref a] ++ [.ref c]) >>= fun v => pure (some v)) (fun r s' => ∃ b, r = some (.bool b) ∧ EP X pins σ Q (.bool b) s') X.xe s := wpAny_bind (wpAny_mono core (fun v s' ⟨b, e, h'⟩ => wpAny_pure ⟨b, by rw [e], h'⟩) fun _ _ h' => h')
  refine wpAny_bind (wpAny_askSetting (wpAny_ite ?_))
  split
  · refine wpAny_bind ((bind_ne (K := X.K) _).here (wpAny_pure ?_))
    refine wpAny_mono fin (fun r s' ⟨b, e, h'⟩ => ?_) fun _ _ z => z
    subst e
    exact wpAny_pure ⟨_, rfl, h'⟩
  · refine wpAny_tryCatch (wpAny_bind ((bind_ne (K := X.K) _).here (wpAny_pure ?_)))
    refine wpAny_mono fin (fun r s' ⟨b, e, h'⟩ => ?_) fun _ _ z => z
    subst e
    exact wpAny_pure ⟨_, rfl, h'⟩
theorem call_isinstCQ : CallR X (.builtin "isinstance") (fun xs H Q => ∃ x C t b, xs = [x, .ref C] ∧ TyQ X.K H x t ∧ PySem.W.kitOne X.K t (.ref C) = some b ∧ Q (.bl b) H) := by
  intro pins s σ H xs us Q I r h
  obtain ⟨x, C, t, b, rfl, ty, e, q⟩ := h
  rcases ty with ty | ⟨a, ys, rfl, ht, rfl⟩
  · exact call_isinstC pins s σ H _ us Q I r ⟨x, C, t, b, rfl, ty, e, q⟩
  · obtain ⟨u, w', rfl, ru, rw'⟩ := vals2 r
    cases rw'
    cases (show u = Value.ref a from ru)
    obtain ⟨its, _, ob, hz⟩ := I.tuple (tupQ_sq ht)
    obtain ⟨o, h1, h2, _⟩ := ob
    exact PySem.W.kia_one PySem.W.kitx_tuple I.kIn ⟨o, h1, h2⟩ e (fun z => nomatch z) fun tk => ⟨.bl b, H, I.tok tk, rfl, q⟩
end
end L2
set_option Elab.async false
set_option linter.all false
set_option maxRecDepth 100000
set_option maxHeartbeats 4000000
namespace L2
open PySem PySem.Spec PyProof.Rows
def bareL : List Nat → List Nat
  | 45 :: cs => cs
  | l => l
def isFig (c : Nat) : Bool := decide (48 ≤ c) && decide (c ≤ 57)
def figL (l : List Nat) : Bool := !(bareL l).isEmpty && (bareL l).all isFig && decide ((bareL l).length ≤ 60) && !(decide ((bareL l).head? = some 48) && decide (l ≠ [48]))
def figV (l : List Nat) : Int := match l with
  | 45 :: cs => -((NumText.digitsVal cs : Nat) : Int)
  | l => ((NumText.digitsVal l : Nat) : Int)
theorem bareL_ne {l : List Nat} (h : l.head? ≠ some 45) : bareL l = l := by
  unfold bareL
  split
  · exact absurd rfl h
  · rfl
theorem figV_ne {l : List Nat} (h : l.head? ≠ some 45) : figV l = ((NumText.digitsVal l : Nat) : Int) := by
  unfold figV
  split
  · exact absurd rfl h
  · rfl
theorem minus_cps : (Str.ofString "-").cps.toList = [45] := by decide +kernel
theorem bare_cps (t : Str) : (Txt.removeprefix t "-").cps.toList = bareL t.cps.toList := by
  rw [StrLaws.removeprefix_eq t "-", StrLaws.subAt_eq, minus_cps, show (Str.ofString "-").length = 1 from by decide +kernel]
  have hl : t.length = t.cps.toList.length := by simp [Str.length]
  rw [hl]
  cases e : t.cps.toList with
  | nil => simp [bareL, e]
  | cons c r =>
    by_cases z : c = 45
    · subst z
      simp [bareL]
    · rw [bareL_ne (by simp [z])]
      simp [z, e]
theorem digit_ascii : ∀ c, c < 128 → Unicode.isDigit c = isFig c := by decide +kernel
theorem figs_of (b : Str) : (Txt.isascii b && Txt.isdigit b) = (!(b.cps.toList).isEmpty && b.cps.toList.all isFig) := by
  unfold Txt.isascii Txt.isdigit
  have hl : b.length = b.cps.toList.length := by simp [Str.length]
  rw [hl, ← Array.all_toList, ← Array.all_toList]
  generalize b.cps.toList = l
  rw [Bool.eq_iff_iff]
  simp only [Bool.and_eq_true, List.all_eq_true, decide_eq_true_eq, Bool.not_eq_true', List.isEmpty_eq_false_iff, ne_eq]
  constructor
  · rintro ⟨h1, h2, h3⟩
    refine ⟨fun e => by subst e; simp at h2, fun c hc => ?_⟩
    rw [← digit_ascii c (h1 c hc)]
    exact h3 c hc
  · rintro ⟨h1, h2⟩
    have lt : ∀ c ∈ l, c < 128 := fun c hc => by
      have := h2 c hc
      simp only [isFig, Bool.and_eq_true, decide_eq_true_eq] at this
      omega
    refine ⟨lt, List.length_pos_iff.mpr h1, fun c hc => ?_⟩
    rw [digit_ascii c (lt c hc)]
    exact h2 c hc
theorem allDigits {cs : List Nat} (h : cs.all isFig = true) : NumText.AllDigits cs := by
  intro c hc
  have := List.all_eq_true.mp h c hc
  unfold isFig at this
  simpa using this
theorem figL_of {l : List Nat} (h : figL l = true) : bareL l ≠ [] ∧ NumText.AllDigits (bareL l) ∧ (bareL l).length ≤ 60 ∧ ((bareL l).head? = some 48 → l = [48]) := by
  simp only [figL, Bool.and_eq_true, Bool.not_eq_true', List.isEmpty_eq_false_iff, decide_eq_true_eq, Bool.and_eq_false_imp, decide_eq_false_iff_not, ne_eq, Classical.not_not] at h
  exact ⟨h.1.1.1, allDigits h.1.1.2, h.1.2, h.2⟩
theorem fig_len {t : Str} (h : figL t.cps.toList = true) : t.length ≤ 61 := by
  obtain ⟨h1, h2, h3, h4⟩ := figL_of h
  have hl : t.length = t.cps.toList.length := by simp [Str.length]
  rw [hl]
  cases e : t.cps.toList with
  | nil => simp
  | cons c r =>
    by_cases z : c = 45
    · subst z
      rw [e] at h3
      simp only [bareL] at h3
      rw [List.length_cons]; omega
    · rw [e, bareL_ne (by simp [z])] at h3
      omega
theorem fig_int {t : Str} (h : figL t.cps.toList = true) : PySem.intText? t = some (figV t.cps.toList) := by
  have hlen := fig_len h
  obtain ⟨h1, h2, h3, h4⟩ := figL_of h
  cases e : t.cps.toList with
  | nil => rw [e] at h1; exact absurd rfl h1
  | cons c r =>
    by_cases z : c = 45
    · subst z
      rw [e] at h1 h2
      exact PySem.intText_neg e h2 h1 (by omega)
    · have n45 : (c :: r).head? ≠ some 45 := by simp [z]
      rw [figV_ne n45, ← e]
      rw [e, bareL_ne n45, ← e] at h2
      exact PySem.intText_digits h2 (by rw [e]; simp) (by omega)
end L2
set_option Elab.async false
set_option linter.all false
set_option maxRecDepth 100000
set_option maxHeartbeats 4000000
namespace L2
open PySem PySem.Spec PyProof.Rows
theorem call_strA {X : Cx} : CallR X (.type "str") (fun xs H Q => (∃ i, xs = [.int i] ∧ i.natAbs.log2 < 1920 ∧ Q (.str (toString i)) H) ∨ (∃ t, xs = [.str t] ∧ Q (.str t) H)) := by
  intro pins s σ H xs us Q I r h
  rcases h with ⟨i, rfl, h1, q⟩ | ⟨t, rfl, q⟩
  · exact call_strO pins s σ H _ us Q I r (.inl ⟨i, rfl, h1, q⟩)
  · obtain ⟨u, rfl, ru⟩ := vals1 r
    obtain ⟨tk, rfl⟩ := ru
    exact PySem.P.str_of_str ⟨.str t, H, I, ⟨tk, rfl⟩, q⟩
end L2
set_option Elab.async false
set_option linter.all false
set_option maxRecDepth 100000
set_option maxHeartbeats 4000000
namespace L2
open PySem PySem.Spec PyProof.Rows PySem.W PySem.AutoSeq1 PySem.MeetsSeq
theorem int_declines (b : Int) (u : Tok) (l : Addr) (c : Value) (dd : Option Addr) (sl : Array (Option Value)) :
    Meets (Builtin.«int.__eq__» ⟨[.int b u, .ref l], []⟩) (fun _ R s => s.heap.get? l = some { cls := c, dict := dd, data := .plain, slots := sl } ∧ R (.ok (.ret .notImplemented)) s) :=
  .of_wp fun prog w A R s h => by obtain ⟨hp, g, d, tk, os⟩ := s; obtain ⟨hl, h⟩ := h; wp_walk using wpAny_loadPart' hl, wpAny_load hl; exact ⟨_, rfl, h⟩
theorem str_declines (b : Str) (u : Tok) (l : Addr) (c : Value) (dd : Option Addr) (sl : Array (Option Value)) :
    Meets (Builtin.«str.__eq__» ⟨[.str b u, .ref l], []⟩) (fun _ R s => s.heap.get? l = some { cls := c, dict := dd, data := .plain, slots := sl } ∧ R (.ok (.ret .notImplemented)) s) :=
  .of_wp fun prog w A R s h => by obtain ⟨hp, g, d, tk, os⟩ := s; obtain ⟨hl, h⟩ := h; wp_walk using wpAny_loadPart' hl, wpAny_load hl; exact ⟨_, rfl, h⟩
section
variable {P : Program} {w : World} {A : Around} {E : Value → Shared → Prop} {s : Shared} {K : PySem.W.Frag} {x C : Addr} {ox : Obj} {od : Option Obj}
theorem tuple_declines {l : Addr} {R : Result → Shared → Prop} (Z : K.In s.heap) (J : InstAt s.heap x ox C od) (hs : subIn K (.ref C) (.type "tuple") = some false) (h : R (.ok (.ret .notImplemented)) s) :
    wpAny (model P w) A.in1 (Builtin.«tuple.__eq__» ⟨[.ref l, .ref x], []⟩) (fun fin s' => match fin with | .done f => R (.ok f) s' | .again c' => c'.quiet = true ∧ codeAny (model P w) A c' R s') (fun e s' => R (.error e) s') s := by
  unfold Builtin.«tuple.__eq__»
  have hi : Looks (model P w) s.heap (isInstance (.ref x) (.type "tuple")) false := J.type.andThen (looks_subIn Z hs)
  wp_walk using hi.here
  exact h
theorem list_declines {l : Addr} {R : Result → Shared → Prop} (Z : K.In s.heap) (J : InstAt s.heap x ox C od) (hs : subIn K (.ref C) (.type "list") = some false) (h : R (.ok (.ret .notImplemented)) s) :
    wpAny (model P w) A.in1 (Builtin.«list.__eq__» ⟨[.ref l, .ref x], []⟩) (fun fin s' => match fin with | .done f => R (.ok f) s' | .again c' => c'.quiet = true ∧ codeAny (model P w) A c' R s') (fun e s' => R (.error e) s') s := by
  unfold Builtin.«list.__eq__»
  have hi : Looks (model P w) s.heap (isInstance (.ref x) (.type "list")) false := J.type.andThen (looks_subIn Z hs)
  wp_walk using hi.here
  exact h
end
inductive Odd (K : PySem.W.Frag) (H : Hp) : V → Prop where
  | non : Odd K H .non
  | int (i : Int) : Odd K H (.int i)
  | str (t : Str) : Odd K H (.str t)
  | tup {a : Addr} {xs : List V} (h : SqT K H a xs) : Odd K H (.ref a)
  | lst {a : Addr} {xs : List V} (h : SqL K H a xs) : Odd K H (.ref a)
structure OddCls (K : PySem.W.Frag) (C : Addr) : Prop where
  t : subIn K (.ref C) (.type "tuple") = some false
  l : subIn K (.ref C) (.type "list") = some false
  i : subIn K (.ref C) (.type "int") = some false
  s : subIn K (.ref C) (.type "str") = some false
  n : subIn K (.ref C) (.type "NoneType") = some false
section
variable {X : Cx} {pins : List (Addr × Obj)} {σ : St} {H : Hp} {s : Shared} {A : Around} {E : Value → Shared → Prop} {x C dx : Addr} {fs : List (Str × V)}
theorem odd_call {y : V} {u : Value} (I : Inv X pins σ H s) (o : Odd X.K H y) (r : RelV y u) (hx : H x = some (.ins C dx fs)) (c : OddCls X.K C) :
    ∃ T id, s.TypeIs u T ∧ Slot T (cmpInfo .Eq).2.1 id ∧ subIn X.K (.ref C) (.type T) = some false ∧ (u == .ref x) = false ∧ (∀ a b, ¬ (u = .float a b)) ∧ ∀ Q' : Value → Shared → Prop, Q' .notImplemented s → wpAny (model X.prog X.w) A (call (.builtin id) [u, .ref x]) Q' E s := by
  obtain ⟨mA, O, _⟩ := ins_get I.hok hx
  obtain ⟨od, J, _⟩ := O.look
  have Z := I.kIn
  have pl : s.heap.get? x = some (PySem.W.instObj C dx) := J.at_
  cases o with
  | non =>
    cases (show u = Value.none from r)
    exact ⟨"NoneType", _, typeIs_none _, PySem.F.slot_NoneType_eq, c.n, rfl, (fun _ _ z => nomatch z), fun Q' q => call_meets PySem.F.slot_NoneType_eq (typeIs_none _) PySem.F.entry_NoneType_eq (PySem.F.args_NoneType_eq_2 _ _) (SeqAt.NoneType___eq___none_ref_0 x).meets (show (Made.val _).post _ s from q)⟩
  | int i =>
    obtain ⟨t, rfl⟩ := r
    exact ⟨"int", _, typeIs_int _ _ _, PySem.F.slot_int_eq, c.i, rfl, (fun _ _ z => nomatch z), fun Q' q => call_meets PySem.F.slot_int_eq (typeIs_int _ _ _) PySem.F.entry_int_eq (PySem.F.args_int_eq_2 _ _) (int_declines i t x _ _ _) ⟨pl, q⟩⟩
  | str i =>
    obtain ⟨t, rfl⟩ := r
    exact ⟨"str", _, typeIs_str _ _ _, PySem.F.slot_str_eq, c.s, rfl, (fun _ _ z => nomatch z), fun Q' q => call_meets PySem.F.slot_str_eq (typeIs_str _ _ _) PySem.F.entry_str_eq (PySem.F.args_str_eq_2 _ _) (str_declines i t x _ _ _) ⟨pl, q⟩⟩
  | @tup a xs h =>
    cases (show u = Value.ref a from r)
    obtain ⟨its, _, ob, hz⟩ := I.tuple h
    have ne : a ≠ x := by
      rintro rfl
      obtain ⟨o, e1, e2, _⟩ := ob
      rw [pl] at e1
      cases e1
      cases e2
    exact ⟨"tuple", _, ob.typeIs, PySem.F.slot_tuple_eq, c.t, by simpa using ne, (fun _ _ z => nomatch z), fun Q' q => wpAny_call (codeAny_call_builtin PySem.F.slot_tuple_eq.plain PySem.F.entry_tuple_eq (PySem.F.slot_tuple_eq.check _ _ _ _ _ _ _ _ ob.typeIs (PySem.F.args_tuple_eq_2 _ _) (tuple_declines (R := wants Q' E) Z J c.t q)))⟩
  | @lst a xs h =>
    cases (show u = Value.ref a from r)
    obtain ⟨its, _, ob, hz⟩ := I.list h
    have ne : a ≠ x := by
      rintro rfl
      obtain ⟨o, n, e1, e2, _⟩ := ob
      rw [pl] at e1
      cases e1
      cases e2
    exact ⟨"list", _, ob.isList.typeIs, PySem.F.slot_list_eq, c.l, by simpa using ne, (fun _ _ z => nomatch z), fun Q' q => wpAny_call (codeAny_call_builtin PySem.F.slot_list_eq.plain PySem.F.entry_list_eq (PySem.F.slot_list_eq.check _ _ _ _ _ _ _ _ ob.isList.typeIs (PySem.F.args_list_eq_2 _ _) (list_declines (R := wants Q' E) Z J c.l q)))⟩
theorem rc_odd {y : V} {u : Value} {k : Nat} {ps : List Str} {sp : Sp} {Q : Hp → Prop} (I : Inv X pins σ H s) (o : Odd X.K H y) (r : RelV y u) (hx : H x = some (.ins C dx fs)) (c : OddCls X.K C)
    (M : MethC X.prog X.w X.K X.mg X.base C "__eq__" k ps [] sp) (hr : Room k A) (he : Env0 X.prog X.w X.K X.mg X.base A X.stack s H) (hsp : sp [.ref x, y] H (fun v H' => v = .bl false ∧ Q H') E0) :
    wpAny (model X.prog X.w) A (richCompare .Eq u (.ref x)) (fun v s' => v = .bool false ∧ ∃ H', Inv X pins σ H' s' ∧ Q H') X.xe s := by
  obtain ⟨T, id, hT, sl, hs, hne, hfl, hc⟩ := odd_call (A := A) (E := X.xe) I o r hx c
  obtain ⟨mA, O, _⟩ := ins_get I.hok hx
  obtain ⟨od, J, _⟩ := O.look
  obtain ⟨f, fd, ds, hm, F, b, vd⟩ := M.ex
  cases vd
  unfold richCompare
  simp only [hT.oneThing_none]
  refine wpAny_holding ?_
  refine wpAny_bind (wpAny_cRoomFor hr.units0 ?_)
  refine wpAny_bind (wpAny_typeOf hT ?_)
  refine wpAny_bind (J.type.here ?_)
  rw [show (Value.type T != Value.ref C) = true from rfl]
  simp only [if_true]
  refine wpAny_bind ((looks_subIn I.kIn hs).here ?_)
  simp only [Bool.false_eq_true, if_false, Bool.not_false, if_true]
  refine wpAny_bind (m := tryCompare u _ _) (wpAny_tryCompare_declines hT sl (hc _ ⟨rfl, ?_⟩))
  refine wpAny_bind (m := tryCompare (.ref x) _ u) ?_
  show wpAny _ _ (tryCompare (.ref x) "__eq__" u) _ _ _
  unfold tryCompare
  refine wpAny_bind (ifBound_K I.kIn J hm.at_ hm.fn (run_own F b hr he I (.cons (show RelV (.ref x) (.ref x) from rfl) (.cons r .nil)) hsp fun v w' H' s' I' rv hq => ?_))
  obtain ⟨rfl, q⟩ := hq
  cases (show w' = Value.bool false from rv)
  exact wpAny_pure (wpAny_pure ⟨rfl, H', I', q⟩)
theorem eq_odd {y : V} {u : Value} {k : Nat} {ps : List Str} {sp : Sp} {Q : Hp → Prop} (I : Inv X pins σ H s) (o : Odd X.K H y) (r : RelV y u) (hx : H x = some (.ins C dx fs)) (c : OddCls X.K C)
    (M : MethC X.prog X.w X.K X.mg X.base C "__eq__" k ps [] sp) (hr : Room k A) (he : Env0 X.prog X.w X.K X.mg X.base A X.stack s H) (hsp : sp [.ref x, y] H (fun v H' => v = .bl false ∧ Q H') E0) :
    wpAny (model X.prog X.w) A (eqBool u (.ref x)) (fun v s' => v = false ∧ ∃ H', Inv X pins σ H' s' ∧ Q H') X.xe s := by
  obtain ⟨T, id, hT, sl, hs, hne, hfl, hc⟩ := odd_call (A := A) (E := X.xe) I o r hx c
  have main := rc_odd I o r hx c M hr he hsp
  unfold eqBool
  refine wpAny_holding ?_
  rw [hne]
  simp only [Bool.false_eq_true, if_false]
  have fin : wpAny (model X.prog X.w) A (richCompare .Eq u (.ref x) >>= fun v => truthOfDropped v) (fun v s' => v = false ∧ ∃ H', Inv X pins σ H' s' ∧ Q H') X.xe s := wpAny_bind (wpAny_mono main (fun v s' ⟨e, h⟩ => by subst e; exact wpAny_truthy_bool ⟨rfl, h⟩) fun _ _ z => z)
  cases u <;> exact fin
theorem vals_ix {vs : List V} {us : List Value} (h : Vals vs us) : ∀ i, i < vs.length → ∃ y u, vs[i]? = some y ∧ us[i]? = some u ∧ RelV y u := by
  induction h with
  | nil => intro i hi; simp at hi
  | cons a b ih =>
    intro i hi
    cases i with
    | zero => exact ⟨_, _, rfl, rfl, a⟩
    | succ i =>
      obtain ⟨y, u, h1, h2, h3⟩ := ih i (by simpa using hi)
      exact ⟨y, u, by simpa using h1, by simpa using h2, h3⟩
theorem contains_odd {l : Addr} {vs : List V} {k : Nat} {ps : List Str} {sp : Sp} {R : Result → Shared → Prop} (c : OddCls X.K C) (M : MethC X.prog X.w X.K X.mg X.base C "__eq__" k ps [] sp) (hr : Room k A.in1) (he : ∀ s H, Inv X pins σ H s → Env0 X.prog X.w X.K X.mg X.base A.in1 X.stack s H)
    (hH : H l = some (.lst vs)) (hx : H x = some (.ins C dx fs)) (ho : ∀ y ∈ vs, Odd X.K H y) (hsp : ∀ y ∈ vs, ∀ Q : VK, Q (.bl false) H → sp [.ref x, y] H Q E0)
    (hE : ∀ e s', X.xe e s' → R (.error e) s') (hR : ∀ s', Inv X pins σ H s' → R (.ok (.ret (.bool false))) s') (n : Nat) :
    ∀ (i : Nat) (s : Shared), vs.length - i = n → Inv X pins σ H s →
    wpAny (model X.prog X.w) A.in1 (Builtin.«list.__contains__.loop» ⟨[.ref l, .ref x, rawInt i], []⟩) (fun fin s' => match fin with | .done f => R (.ok f) s' | .again c' => c'.quiet = true ∧ codeAny (model X.prog X.w) A c' R s') (fun e s' => R (.error e) s') s := by
  induction n with
  | zero =>
    intro i s hk I
    obtain ⟨z, its, m, r, hl, e⟩ := I.lstM hH
    have hln := r.length
    obtain ⟨hp, g, d, tk, os⟩ := s
    wp_walk using wpAny_loadPart' e
    have hi : its.toArray[((i : Nat) : Int).toNat]? = none := by simp; omega
    rw [hi]
    wp_walk
    exact hR _ I
  | succ n ih =>
    intro i s hk I
    obtain ⟨z, its, m, r, hl, e⟩ := I.lstM hH
    have hln := r.length
    obtain ⟨y, u, hy, hu, ry⟩ := vals_ix r i (by omega)
    obtain ⟨hp, g, d, tk, os⟩ := s
    wp_walk using wpAny_loadPart' e
    have hi : its.toArray[((i : Nat) : Int).toNat]? = some u := by simpa using hu
    rw [hi]
    have my : y ∈ vs := List.mem_of_getElem? hy
    refine wpAny_bind (wpAny_mono (eq_odd (Q := fun H' => H' = H) I (ho y my) ry hx c M hr (he _ _ I) (hsp y my _ ⟨rfl, rfl⟩)) (fun b s' ⟨e, H', I', q⟩ => ?_) hE)
    subst e q
    have hc : ((i : Int) + 1) = ((i + 1 : Nat) : Int) := by push_cast; rfl
    wp_walk
    rw [hc]
    exact ⟨plainId_quiet plain_contains_loop _, codeAny_builtin entry_contains_loop (by
      rw [Around.under_plainId plain_contains_loop _]
      exact ih (i + 1) s' (by omega) I')⟩
end
section
variable {X : Cx}
def rInO (K : PySem.W.Frag) (C : Addr) (sp : Sp) : R2 := fun x y H Q => ∃ a dx fs l vs, x = .ref a ∧ y = .ref l ∧ H a = some (.ins C dx fs) ∧ H l = some (.lst vs) ∧ (∀ y ∈ vs, Odd K H y) ∧ (∀ y ∈ vs, ∀ Q : VK, Q (.bl false) H → sp [.ref a, y] H Q E0) ∧ Q (.bl false) H
theorem op_inO {C : Addr} {k : Nat} {ps : List Str} {sp : Sp} (c : OddCls X.K C) (M : MethC X.prog X.w X.K X.mg X.base C "__eq__" k ps [] sp) (hr : Room (k + 1) X.A) : OpR X (compareOp .In) (rInO X.K C sp) := by
  intro pins s σ H x y v u Q I rx ry h
  obtain ⟨a, dx, fs, l, vs, rfl, rfl, ea, el, ho, hsp, q⟩ := h
  cases (show v = Value.ref a from rx)
  cases (show u = Value.ref l from ry)
  obtain ⟨z, its, m, r, hl, e⟩ := I.lstM el
  have hT : s.TypeIs (.ref l) "list" := ⟨_, e, rfl⟩
  show wpAny (model X.prog X.w) X.A (do return Value.bool (← contains (.ref l) (.ref a))) (EP X pins σ Q) X.xe s
  refine wpAny_bind (wpAny_contains_slot hT PySem.F.slot_list_contains (wpAny_mono (Q := fun v s' => ∃ b, v = .bool b ∧ EP X pins σ Q (.bool b) s') (E := X.xe) ?_ (fun v s' hv => ?_) fun _ _ e => e))
  · refine wpAny_call (codeAny_call_builtin PySem.F.slot_list_contains.plain PySem.F.entry_list_contains (PySem.F.slot_list_contains.check _ _ _ _ _ _ _ _ hT (PySem.F.args_list_contains_2 _ _) ?_))
    obtain ⟨hp, g, d, tk, os⟩ := s
    wp_walk using wpAny_loadPart' e
    exact ⟨plainId_quiet plain_contains_loop _, codeAny_builtin entry_contains_loop (by
      rw [Around.under_plainId plain_contains_loop _]
      exact contains_odd (R := wants (fun v s' => ∃ b, v = Value.bool b ∧ EP X pins σ Q (.bool b) s') X.xe) c M hr.in1 (fun s H I => I.env0.in1) el ea ho hsp (fun e s' z => z) (fun s' I' => ⟨false, rfl, .bl false, H, I', rfl, q⟩) _ 0 _ rfl I)⟩
  · obtain ⟨b, rfl, hq⟩ := hv
    exact wpAny_truthy_bool (wpAny_pure hq)
end
end L2
set_option Elab.async false
set_option linter.all false
set_option maxRecDepth 100000
set_option maxHeartbeats 4000000
namespace K11
open PySem L2
local macro_rules | `(tactic| walk_at "rd") => `(tactic| simp only [tSeq, tNext, tIfS, tAsg, gName, gSub, tRet, tRetN, tDrop, tVar, tC, tOp, tUn, rI0, rI, rU, tTest, tB, tAndV, tOrV, tNotV, tAnd, tOr, tNot, tIf, tChain, tCB, tCons, tNil, tLst, tTup, tCallC, List.getElem?_cons_zero, List.getElem?_cons_succ, List.set_cons_zero, List.set_cons_succ, Option.some.injEq, V.int.injEq, V.bl.injEq, V.ref.injEq, V.ty.injEq, V.str.injEq, List.cons.injEq, exists_eq_left', exists_eq_left, exists_and_left, and_true, true_and, and_assoc, cxK, rIxF, rSetL, rEq, rNe, scal, HO.lst.injEq, HO.tup.injEq, upd_none, ixN_10, ixN_20, ixN_21, ixN_30, ixN_31, ixN_32, upd_same, seqAt_updL, seqAt_updT, atI_0, atI_1, atI_2, atI_3, decide_eq_true_eq, L2.start, List.map_cons, List.map_nil, List.length_cons, List.length_nil, Nat.reduceAdd, Nat.reduceSub, List.replicate_succ, List.replicate_zero, List.cons_append, List.nil_append, List.append_nil, tFor_rng1, tFor_rng2, tFor_list, tFor_tup, CDv, CMul, CPow, sizeLine_eq, Int.reduceLE, Int.reduceLT, Int.reducePow, Int.reduceToNat, Int.reduceAdd, Int.reduceSub, Int.reduceMul, Int.reduceNeg, Nat.reduceLeDiff, Nat.reducePow, Nat.reduceLT, Int.reduceEq, true_or, or_true, ite_true, ite_false, if_true, if_false, Bool.not_true, Bool.not_false, Bool.false_eq_true, decide_true, decide_false, rIxQ, seqQ_updL, seqQ_updT, tupQ_updT, tSl, tNoPart, tPart, rSlQ, rSlTX, rCatQ, rCatTX, rCatTX0, tTupQ, tLstQ, new_upd, tNever, rEqD, rInQ, gTupQ, gCons, gNil, tBM, rAppend, tMakeQ, sFld, tFld, tMeth, tBM0, cxN, tCall, pick_nil, pick_own, pick_cap, join_some, tLc_list, tYes, tyV, tFor_list, rEqO, rNeO, rInO, tLc_tup, gStarL, rIxS, rIsascii, rIsdigit, rRemPre, rSplit])
local macro_rules | `(tactic| walk_at "rn") => `(tactic| simp only [tSeq, tNext, tIfS, tAsg, gName, gSub, tRet, tRetN, tDrop, tVar, tC, tOp, tUn, rI0, rI, rU, tTest, tB, tAndV, tOrV, tNotV, tAnd, tOr, tNot, tIf, tChain, tCB, tCons, tNil, tLst, tTup, tCallC, List.getElem?_cons_zero, List.getElem?_cons_succ, List.set_cons_zero, List.set_cons_succ, Option.some.injEq, V.int.injEq, V.bl.injEq, V.ref.injEq, V.ty.injEq, V.str.injEq, List.cons.injEq, exists_eq_left', exists_eq_left, exists_and_left, and_true, true_and, and_assoc, cxK, rIxF, rSetL, rEq, rNe, scal, HO.lst.injEq, HO.tup.injEq, upd_none, ixN_10, ixN_20, ixN_21, ixN_30, ixN_31, ixN_32, upd_same, seqAt_updL, seqAt_updT, atI_0, atI_1, atI_2, atI_3, decide_eq_true_eq, L2.start, List.map_cons, List.map_nil, List.length_cons, List.length_nil, Nat.reduceAdd, Nat.reduceSub, List.replicate_succ, List.replicate_zero, List.cons_append, List.nil_append, List.append_nil, tFor_rng1, tFor_rng2, tFor_list, tFor_tup, CDv, CMul, CPow, sizeLine_eq, Int.reduceLE, Int.reduceLT, Int.reducePow, Int.reduceToNat, Int.reduceAdd, Int.reduceSub, Int.reduceMul, Int.reduceNeg, Nat.reduceLeDiff, Nat.reducePow, Nat.reduceLT, Int.reduceEq, true_or, or_true, ite_true, ite_false, if_true, if_false, Bool.not_true, Bool.not_false, Bool.false_eq_true, decide_true, decide_false, rIxQ, seqQ_updL, seqQ_updT, tupQ_updT, tSl, tNoPart, tPart, rSlQ, rSlTX, rCatQ, rCatTX, rCatTX0, tTupQ, tLstQ, tNever, rEqD, rInQ, gTupQ, gCons, gNil, tBM, rAppend, tMakeQ, sFld, tFld, tMeth, tBM0, cxN, tCall, pick_nil, pick_own, pick_cap, join_some, tLc_list, tYes, tyV, tFor_list, rEqO, rNeO, rInO, tLc_tup, gStarL, rIxS, rIsascii, rIsdigit, rRemPre, rSplit])
def top (i : Nat) : Stmt := PySem.Challenge.pw_notefall_k11_deeds_made.main.body.getD i (.Pass ⟨0, 0, 0, 0⟩)
abbrev s_is_number : Stmt := top 5
abbrev s_is_whole : Stmt := top 6
abbrev s_is_whole_from : Stmt := top 7
abbrev s_is_key : Stmt := top 8
abbrev s_is_stretch : Stmt := top 9
abbrev s_figures_of : Stmt := top 14
abbrev s_are_figures : Stmt := top 15
abbrev s_read_figures : Stmt := top 16
abbrev s_is_amount : Stmt := top 21
abbrev s_check_things : Stmt := top 22
abbrev s_word_of : Stmt := top 23
abbrev s_Deed_action : Stmt := inClass (top 24) 1
abbrev s_Deed_span : Stmt := inClass (top 24) 2
abbrev s_Deed_note : Stmt := inClass (top 24) 3
abbrev s_Deed___str__ : Stmt := inClass (top 24) 4
abbrev s_Deed___eq__ : Stmt := inClass (top 24) 5
abbrev s_Put___init__ : Stmt := inClass (top 25) 0
abbrev s_Put_told : Stmt := inClass (top 25) 1
abbrev s_Put_action : Stmt := inClass (top 25) 2
abbrev s_Put_span : Stmt := inClass (top 25) 3
abbrev s_Drop___init__ : Stmt := inClass (top 26) 0
abbrev s_Drop_told : Stmt := inClass (top 26) 1
abbrev s_Drop_action : Stmt := inClass (top 26) 2
abbrev s_Drop_span : Stmt := inClass (top 26) 3
abbrev s_Add___init__ : Stmt := inClass (top 27) 0
abbrev s_Add_told : Stmt := inClass (top 27) 1
abbrev s_Add_action : Stmt := inClass (top 27) 2
abbrev s_Add_span : Stmt := inClass (top 27) 3
abbrev s_Wipe___init__ : Stmt := inClass (top 28) 0
abbrev s_Wipe_told : Stmt := inClass (top 28) 1
abbrev s_Wipe_action : Stmt := inClass (top 28) 2
abbrev s_Wipe_span : Stmt := inClass (top 28) 3
abbrev s_Raise___init__ : Stmt := inClass (top 29) 0
abbrev s_Raise_told : Stmt := inClass (top 29) 1
abbrev s_Raise_action : Stmt := inClass (top 29) 2
abbrev s_Raise_span : Stmt := inClass (top 29) 3
abbrev s_Level___init__ : Stmt := inClass (top 30) 0
abbrev s_Level_told : Stmt := inClass (top 30) 1
abbrev s_Level_action : Stmt := inClass (top 30) 2
abbrev s_Level_span : Stmt := inClass (top 30) 3
abbrev s_Mark___init__ : Stmt := inClass (top 31) 0
abbrev s_Mark_told : Stmt := inClass (top 31) 1
abbrev s_Forget___init__ : Stmt := inClass (top 32) 0
abbrev s_Forget_told : Stmt := inClass (top 32) 1
abbrev s_has_form : Stmt := top 33
abbrev s_deed_of : Stmt := top 34
abbrev s_read_words : Stmt := top 35
abbrev s__law_well : Stmt := top 37
abbrev s__law_draw : Stmt := top 38
abbrev s__law_key : Stmt := top 39
abbrev s__law_amount : Stmt := top 40
abbrev s__law_stretch : Stmt := top 41
abbrev s__law_deed : Stmt := top 42
abbrev s__law_by_place : Stmt := top 43
abbrev s__law_action : Stmt := top 44
abbrev s__law_note : Stmt := top 45
abbrev s__law_kinds : Stmt := top 46
abbrev s__law_right : Stmt := top 47
abbrev s_law : Stmt := top 48
def things : List (Str × Int) := [("put", 3), ("drop", 2), ("add", 3), ("wipe", 3), ("raise", 4), ("level", 4), ("mark", 1), ("forget", 2)]
def thv (u1 u2 u3 u4 u5 u6 u7 u8 : Tok) : List (Key × Value) := [(.inr "put", .int 3 u1), (.inr "drop", .int 2 u2), (.inr "add", .int 3 u3), (.inr "wipe", .int 3 u4), (.inr "raise", .int 4 u5), (.inr "level", .int 4 u6), (.inr "mark", .int 1 u7), (.inr "forget", .int 2 u8)]
structure B (P : Program) (w : World) (K : PySem.W.Frag) (mg : Str → Option Value) (aTh aG aC : Addr) (tE tM tN tF u1 u2 u3 u4 u5 u6 u7 u8 : Tok) : Prop where
  len : mg "len" = none
  isinstance : mg "isinstance" = none
  int : mg "int" = none
  bool : mg "bool" = none
  tuple : mg "tuple" = none
  str : mg "str" = none
  min : mg "min" = none
  END : mg "END" = some (.int 1000000000000 tE)
  MOST_VALUE : mg "MOST_VALUE" = some (.int 1000000000000000000000000000000 tM)
  MOST_FIGURES : mg "MOST_FIGURES" = some (.int 60 tF)
  NO_MORE : mg "NO_MORE" = some (.str "no more" tN)
  THINGS : mg "THINGS" = some (.ref aTh)
  GONE : mg "GONE" = some (.ref aG)
  CLEARING : mg "CLEARING" = some (.ref aC)
  kG : kTup K aG = some [.str "gone"]
  kC : ∃ g1 g2, kTup K aC = some [.ref g1, .ref g2] ∧ kTup K g1 = some [.str "gone"] ∧ kTup K g2 = some [.str "gone"]
  things : KDict P w K aTh (thv u1 u2 u3 u4 u5 u6 u7 u8)
section
variable {P : Program} {w : World} {K : PySem.W.Frag} {mg : Str → Option Value} {aTh aG aC : Addr} {tE tM tN tF u1 u2 u3 u4 u5 u6 u7 u8 : Tok}
theorem B.END_is (_ : B P w K mg aTh aG aC tE tM tN tF u1 u2 u3 u4 u5 u6 u7 u8) : RelV (.int 1000000000000) (.int 1000000000000 tE) := ⟨tE, rfl⟩
theorem B.MOST_VALUE_is (_ : B P w K mg aTh aG aC tE tM tN tF u1 u2 u3 u4 u5 u6 u7 u8) : RelV (.int 1000000000000000000000000000000) (.int 1000000000000000000000000000000 tM) := ⟨tM, rfl⟩
theorem B.MOST_FIGURES_is (_ : B P w K mg aTh aG aC tE tM tN tF u1 u2 u3 u4 u5 u6 u7 u8) : RelV (.int 60) (.int 60 tF) := ⟨tF, rfl⟩
theorem B.NO_MORE_is (_ : B P w K mg aTh aG aC tE tM tN tF u1 u2 u3 u4 u5 u6 u7 u8) : RelV (.str "no more") (.str "no more" tN) := ⟨tN, rfl⟩
theorem B.THINGS_is (_ : B P w K mg aTh aG aC tE tM tN tF u1 u2 u3 u4 u5 u6 u7 u8) : RelV (.ref aTh) (.ref aTh) := rfl
theorem B.GONE_is (_ : B P w K mg aTh aG aC tE tM tN tF u1 u2 u3 u4 u5 u6 u7 u8) : RelV (.ref aG) (.ref aG) := rfl
theorem B.CLEARING_is (_ : B P w K mg aTh aG aC tE tM tN tF u1 u2 u3 u4 u5 u6 u7 u8) : RelV (.ref aC) (.ref aC) := rfl
end
inductive Kd where
  | put | drop | add | wipe | raise | level | mark | forget
  deriving DecidableEq
def Kd.word : Kd → Str
  | .put => "put"
  | .drop => "drop"
  | .add => "add"
  | .wipe => "wipe"
  | .raise => "raise"
  | .level => "level"
  | .mark => "mark"
  | .forget => "forget"
def Kd.names : Kd → List Str
  | .put => ["key", "value"]
  | .drop => ["key"]
  | .add => ["key", "by"]
  | .wipe => ["low", "high"]
  | .raise => ["low", "high", "by"]
  | .level => ["low", "high", "value"]
  | .mark => []
  | .forget => ["mark"]
structure Cs where
  cPut : Addr
  cDrop : Addr
  cAdd : Addr
  cWipe : Addr
  cRaise : Addr
  cLevel : Addr
  cMark : Addr
  cForget : Addr
def Cs.at (s : Cs) : Kd → Addr
  | .put => s.cPut
  | .drop => s.cDrop
  | .add => s.cAdd
  | .wipe => s.cWipe
  | .raise => s.cRaise
  | .level => s.cLevel
  | .mark => s.cMark
  | .forget => s.cForget
def okKey (i : Int) : Prop := 0 ≤ i ∧ i ≤ 999999999999
def okAm (i : Int) : Prop := -1000000000000000000000000000000 ≤ i ∧ i ≤ 1000000000000000000000000000000
def okSt (i j : Int) : Prop := 0 ≤ i ∧ i < j ∧ j ≤ 1000000000000
def Kd.ok : Kd → List Int → Prop
  | .put, us => ∃ k v, us = [k, v] ∧ okKey k ∧ okAm v
  | .drop, us => ∃ k, us = [k] ∧ okKey k
  | .add, us => ∃ k v, us = [k, v] ∧ okKey k ∧ okAm v
  | .wipe, us => ∃ l h, us = [l, h] ∧ okSt l h
  | .raise, us => ∃ l h v, us = [l, h, v] ∧ okSt l h ∧ okAm v
  | .level, us => ∃ l h v, us = [l, h, v] ∧ okSt l h ∧ okAm v
  | .mark, us => us = []
  | .forget, us => ∃ m, us = [m] ∧ 1 ≤ m ∧ m ≤ 1000000000000000000000000000000
def Kd.told (k : Kd) (us : List Int) : List V := .str k.word :: us.map V.int
def Kd.flds (k : Kd) (us : List Int) : List (Str × V) := k.names.zip (us.map V.int)
def DeedAt (C : Addr) (H : Hp) (a : Addr) (k : Kd) (us : List Int) : Prop := ∃ dx, H a = some (.ins C dx (k.flds us))
section
variable {P : Program} {w : World} {K : PySem.W.Frag} {mg : Str → Option Value} {base : Heap}
def spNumI : Sp := fun vs H Q _ => ∃ i, vs = [.int i] ∧ Q (.bl true) H
def spWholeI : Sp := fun vs H Q _ => ∃ i lo hi, vs = [.int i, .int lo, .int hi] ∧ Q (.bl (decide (lo ≤ i ∧ i ≤ hi))) H
def spFromI : Sp := fun vs H Q _ => ∃ i lo, vs = [.int i, .int lo] ∧ Q (.bl (decide (lo ≤ i))) H
def spKeyI : Sp := fun vs H Q _ => ∃ i, vs = [.int i] ∧ okKey i ∧ Q (.bl true) H
def spAmI : Sp := fun vs H Q _ => ∃ i, vs = [.int i] ∧ okAm i ∧ Q (.bl true) H
def spStI : Sp := fun vs H Q _ => ∃ i j, vs = [.int i, .int j] ∧ okSt i j ∧ Q (.bl true) H
def spChk : Sp := fun vs H Q _ => vs = [.bl true, .str "no more"] ∧ Q .non H
def spInit (k : Kd) (C : Addr) : Sp := fun vs H Q _ => ∃ x dx us, vs = .ref x :: (us.map V.int ++ [.str "no more"]) ∧ k.ok us ∧ H x = some (.ins C dx []) ∧ Q .non (upd H x (.ins C dx (k.flds us)))
def spTold (K : PySem.W.Frag) (k : Kd) (C : Addr) : Sp := fun vs H Q _ => ∃ a us, vs = [.ref a] ∧ k.ok us ∧ DeedAt C H a k us ∧ ∀ T, new K H T → Q (.ref T) (upd H T (.tup (k.told us)))
theorem sc_is_number : FnScope ["thing"] ["thing"] (defScope s_is_number) := ⟨rfl, rfl, rfl, by decide +kernel, rfl, by decide +kernel, by decide +kernel⟩
theorem ok_is_number {f : Addr} {fd : FuncData} (F : Fun K "is_number" "is_number" s_is_number f fd) {aTh aG aC : Addr} {tE tM tN tF u1 u2 u3 u4 u5 u6 u7 u8 : Tok} (B : B P w K mg aTh aG aC tE tM tN tF u1 u2 u3 u4 u5 u6 u7 u8)  : FnOk P w K mg base CX0 1 f fd ["thing"] spNumI := by
  refine F.okJ sc_is_number (fun vs H Q E h => ?_) (fun cdv A outer s H vs Q E hr h => ?_)
  · obtain ⟨i, rfl, _⟩ := h
    rfl
  obtain ⟨i, rfl, q⟩ := h
  refine ⟨_, (bone (sret (eand (ecallB call_isinstQ rfl B.isinstance bt_isinstance (acons (ev 0) (acons (etyp rfl B.int bt_int) anil))) (eone (enot (ecallB call_isinstQ rfl B.isinstance bt_isinstance (acons (ev 0) (acons (etyp rfl B.bool bt_bool) anil)))))))), ?_⟩
  try walk_at "rn"
  exact ⟨_, .inl (.int i), true, rfl, _, .inl (.int i), false, rfl, q⟩
theorem sc_is_whole : FnScope ["thing", "low", "high"] ["thing", "low", "high"] (defScope s_is_whole) := ⟨rfl, rfl, rfl, by decide +kernel, rfl, by decide +kernel, by decide +kernel⟩
theorem ok_is_whole {f : Addr} {fd : FuncData} (F : Fun K "is_whole" "is_whole" s_is_whole f fd) {aTh aG aC : Addr} {tE tM tN tF u1 u2 u3 u4 u5 u6 u7 u8 : Tok} (B : B P w K mg aTh aG aC tE tM tN tF u1 u2 u3 u4 u5 u6 u7 u8) (C_is_number : Callee P w K mg base "is_number" 1 ["thing"] spNumI) : FnOk P w K mg base CX0 2 f fd ["thing", "low", "high"] spWholeI := by
  refine F.okJ sc_is_whole (fun vs H Q E h => ?_) (fun cdv A outer s H vs Q E hr h => ?_)
  · obtain ⟨i, lo, hi, rfl, _⟩ := h
    rfl
  obtain ⟨i, lo, hi, rfl, q⟩ := h
  refine ⟨_, (bone (sret (eand (ecall C_is_number (hr.mono (by decide)) rfl (acons (ev 0) anil)) (eone (echain op_le op_le (ev 1) (ev 0) (ev 2)))))), ?_⟩
  try walk_at "rn"
  refine ⟨i, rfl, true, rfl, ?_⟩
  rw [if_pos rfl]
  split
  · rename_i c
    simp only [c, true_and] at q
    exact q
  · rename_i c
    simp only [c, false_and, decide_false] at q
    exact q
theorem sc_is_whole_from : FnScope ["thing", "low"] ["thing", "low"] (defScope s_is_whole_from) := ⟨rfl, rfl, rfl, by decide +kernel, rfl, by decide +kernel, by decide +kernel⟩
theorem ok_is_whole_from {f : Addr} {fd : FuncData} (F : Fun K "is_whole_from" "is_whole_from" s_is_whole_from f fd) {aTh aG aC : Addr} {tE tM tN tF u1 u2 u3 u4 u5 u6 u7 u8 : Tok} (B : B P w K mg aTh aG aC tE tM tN tF u1 u2 u3 u4 u5 u6 u7 u8) (C_is_number : Callee P w K mg base "is_number" 1 ["thing"] spNumI) : FnOk P w K mg base CX0 2 f fd ["thing", "low"] spFromI := by
  refine F.okJ sc_is_whole_from (fun vs H Q E h => ?_) (fun cdv A outer s H vs Q E hr h => ?_)
  · obtain ⟨i, lo, rfl, _⟩ := h
    rfl
  obtain ⟨i, lo, rfl, q⟩ := h
  refine ⟨_, (bone (sret (eand (ecall C_is_number (hr.mono (by decide)) rfl (acons (ev 0) anil)) (eone (ecmp op_le (ev 1) (ev 0) (nomark _)))))), ?_⟩
  try walk_at "rn"
  refine ⟨i, rfl, true, rfl, ?_⟩
  rw [if_pos rfl]
  exact q
theorem sc_is_key : FnScope ["thing"] ["thing"] (defScope s_is_key) := ⟨rfl, rfl, rfl, by decide +kernel, rfl, by decide +kernel, by decide +kernel⟩
theorem ok_is_key {f : Addr} {fd : FuncData} (F : Fun K "is_key" "is_key" s_is_key f fd) {aTh aG aC : Addr} {tE tM tN tF u1 u2 u3 u4 u5 u6 u7 u8 : Tok} (B : B P w K mg aTh aG aC tE tM tN tF u1 u2 u3 u4 u5 u6 u7 u8) (C_is_whole : Callee P w K mg base "is_whole" 2 ["thing", "low", "high"] spWholeI) : FnOk P w K mg base CX0 3 f fd ["thing"] spKeyI := by
  refine F.okJ sc_is_key (fun vs H Q E h => ?_) (fun cdv A outer s H vs Q E hr h => ?_)
  · obtain ⟨i, rfl, _⟩ := h
    rfl
  obtain ⟨i, rfl, ok, q⟩ := h
  refine ⟨_, (bone (sret (ecall C_is_whole (hr.mono (by decide)) rfl (acons (ev 0) (acons ei (acons (eop op_sub (eglob rfl B.END B.END_is) ei) anil)))))), ?_⟩
  try walk_at "rn"
  refine ⟨i, 0, 999999999999, rfl, ?_⟩
  rw [decide_eq_true (show 0 ≤ i ∧ i ≤ 999999999999 from ok)]
  exact q
theorem sc_is_stretch : FnScope ["low", "high"] ["low", "high"] (defScope s_is_stretch) := ⟨rfl, rfl, rfl, by decide +kernel, rfl, by decide +kernel, by decide +kernel⟩
theorem ok_is_stretch {f : Addr} {fd : FuncData} (F : Fun K "is_stretch" "is_stretch" s_is_stretch f fd) {aTh aG aC : Addr} {tE tM tN tF u1 u2 u3 u4 u5 u6 u7 u8 : Tok} (B : B P w K mg aTh aG aC tE tM tN tF u1 u2 u3 u4 u5 u6 u7 u8) (C_is_whole : Callee P w K mg base "is_whole" 2 ["thing", "low", "high"] spWholeI) : FnOk P w K mg base CX0 3 f fd ["low", "high"] spStI := by
  refine F.okJ sc_is_stretch (fun vs H Q E h => ?_) (fun cdv A outer s H vs Q E hr h => ?_)
  · obtain ⟨i, j, rfl, _⟩ := h
    rfl
  obtain ⟨i, j, rfl, ok, q⟩ := h
  refine ⟨_, (bone (sret (eand (ecall C_is_whole (hr.mono (by decide)) rfl (acons (ev 0) (acons ei (acons (eglob rfl B.END B.END_is) anil)))) (eand (ecall C_is_whole (hr.mono (by decide)) rfl (acons (ev 1) (acons ei (acons (eglob rfl B.END B.END_is) anil)))) (eone (ecmp op_lt (ev 0) (ev 1) (nomark _))))))), ?_⟩
  try walk_at "rn"
  obtain ⟨o1, o2, o3⟩ := ok
  refine ⟨i, 0, 1000000000000, rfl, _, rfl, ?_⟩
  rw [if_pos (decide_eq_true ⟨o1, by omega⟩)]
  refine ⟨j, 0, 1000000000000, rfl, _, rfl, ?_⟩
  rw [if_pos (decide_eq_true ⟨by omega, o3⟩), decide_eq_true o2]
  exact q
theorem sc_is_amount : FnScope ["thing"] ["thing"] (defScope s_is_amount) := ⟨rfl, rfl, rfl, by decide +kernel, rfl, by decide +kernel, by decide +kernel⟩
theorem ok_is_amount {f : Addr} {fd : FuncData} (F : Fun K "is_amount" "is_amount" s_is_amount f fd) {aTh aG aC : Addr} {tE tM tN tF u1 u2 u3 u4 u5 u6 u7 u8 : Tok} (B : B P w K mg aTh aG aC tE tM tN tF u1 u2 u3 u4 u5 u6 u7 u8) (C_is_whole : Callee P w K mg base "is_whole" 2 ["thing", "low", "high"] spWholeI) : FnOk P w K mg base CX0 3 f fd ["thing"] spAmI := by
  refine F.okJ sc_is_amount (fun vs H Q E h => ?_) (fun cdv A outer s H vs Q E hr h => ?_)
  · obtain ⟨i, rfl, _⟩ := h
    rfl
  obtain ⟨i, rfl, ok, q⟩ := h
  refine ⟨_, (bone (sret (ecall C_is_whole (hr.mono (by decide)) rfl (acons (ev 0) (acons (eun un_neg (eglob rfl B.MOST_VALUE B.MOST_VALUE_is)) (acons (eglob rfl B.MOST_VALUE B.MOST_VALUE_is) anil)))))), ?_⟩
  try walk_at "rn"
  refine ⟨i, _, _, rfl, ?_⟩
  rw [decide_eq_true (show -1000000000000000000000000000000 ≤ i ∧ i ≤ 1000000000000000000000000000000 from ok)]
  exact q
theorem sc_check_things : FnScope ["fit", "more"] ["fit", "more"] (defScope s_check_things) := ⟨rfl, rfl, rfl, by decide +kernel, rfl, by decide +kernel, by decide +kernel⟩
theorem ok_check_things {f : Addr} {fd : FuncData} (F : Fun K "check_things" "check_things" s_check_things f fd) {aTh aG aC : Addr} {tE tM tN tF u1 u2 u3 u4 u5 u6 u7 u8 : Tok} (B : B P w K mg aTh aG aC tE tM tN tF u1 u2 u3 u4 u5 u6 u7 u8)  : FnOk P w K mg base CX0 1 f fd ["fit", "more"] spChk := by
  refine F.okJ sc_check_things (fun vs H Q E h => ?_) (fun cdv A outer s H vs Q E hr h => ?_)
  · obtain ⟨rfl, _⟩ := h
    rfl
  obtain ⟨rfl, q⟩ := h
  refine ⟨_, (bone (sif (tw (wor (tnot (ttruth (ev 0) (fun _ => rfl))) (wor (tnot (tval (ecallB call_isinstQ rfl B.isinstance bt_isinstance (acons (ev 1) (acons (etyp rfl B.str bt_str) anil))))) (wor1 (tcmp op_ne (ev 1) (eglob rfl B.NO_MORE B.NO_MORE_is) (nomark _)))))) (bone snever) bnil)), ?_⟩
  try walk_at "rn"
  exact ⟨true, rfl, _, .inl (.str _), true, rfl, q⟩
theorem upd_self {H : Hp} {a : Addr} {o : HO} (h : H a = some o) : upd H a o = H := by
  funext b
  by_cases z : b = a
  · subst z; rw [upd_same, h]
  · rw [upd_ne z]
theorem put_lt {f : Str} {y : V} {fs : List (Str × V)} {n : Nat} (h : fs.length ≤ n) (hn : n < 999) : (putF f y fs).length ≤ n + 1 := by
  have := length_putF f y fs
  omega
theorem sc_Put___init__ : FnScope ["self", "key", "value", "more"] ["self", "key", "value", "more"] (defScope s_Put___init__) := ⟨rfl, rfl, rfl, by decide +kernel, rfl, by decide +kernel, by decide +kernel⟩
theorem ok_Put___init__ {f cPut : Addr} {fd : FuncData} (F : FunD K "__init__" "Put.__init__" s_Put___init__ f fd) {aTh aG aC : Addr} {tE tM tN tF u1 u2 u3 u4 u5 u6 u7 u8 : Tok} (B : B P w K mg aTh aG aC tE tM tN tF u1 u2 u3 u4 u5 u6 u7 u8) (c_Put : Cls K cPut) (n_key : NoAttr K cPut "key") (n_value : NoAttr K cPut "value") (C_check_things : Callee P w K mg base "check_things" 1 ["fit", "more"] spChk) (C_is_key : Callee P w K mg base "is_key" 3 ["thing"] spKeyI) (C_is_amount : Callee P w K mg base "is_amount" 3 ["thing"] spAmI) : FnOk P w K mg base CX0 4 f fd ["self", "key", "value", "more"] (spInit .put cPut) := by
  refine F.okJ sc_Put___init__ (fun vs H Q E h => ?_) (fun cdv A outer s H vs Q E hr h => ?_)
  · obtain ⟨x, dx, us, rfl, ok, _⟩ := h
    obtain ⟨u0, u1, rfl, o1, o2⟩ := ok
    rfl
  obtain ⟨x, dx, us, rfl, ok, hx, q⟩ := h
  obtain ⟨u0, u1, rfl, o1, o2⟩ := ok
  refine ⟨_, (bcons (sexpr (ecall C_check_things (hr.mono (by decide)) rfl (acons (eand (ecall C_is_key (hr.mono (by decide)) rfl (acons (ev 1) anil)) (eone (ecall C_is_amount (hr.mono (by decide)) rfl (acons (ev 2) anil)))) (acons (ev 3) anil))))
      (bcons (sfld (ev 0) (ev 1))
      (bone (sfld (ev 0) (ev 2))))), ?_⟩
  try walk_at "rn"
  exact ⟨u0, rfl, o1, _, rfl, u1, rfl, o2, rfl, _, _, _, hx, c_Put, n_key, by decide, _, _, _, rfl, c_Put, n_value, Nat.lt_of_le_of_lt (put_lt (Nat.zero_le 0 : ([] : List (Str × V)).length ≤ 0) (by decide)) (by decide), by first | exact q | (simp only [upd_upd]; exact q)⟩
theorem sc_Drop___init__ : FnScope ["self", "key", "more"] ["self", "key", "more"] (defScope s_Drop___init__) := ⟨rfl, rfl, rfl, by decide +kernel, rfl, by decide +kernel, by decide +kernel⟩
theorem ok_Drop___init__ {f cDrop : Addr} {fd : FuncData} (F : FunD K "__init__" "Drop.__init__" s_Drop___init__ f fd) {aTh aG aC : Addr} {tE tM tN tF u1 u2 u3 u4 u5 u6 u7 u8 : Tok} (B : B P w K mg aTh aG aC tE tM tN tF u1 u2 u3 u4 u5 u6 u7 u8) (c_Drop : Cls K cDrop) (n_key : NoAttr K cDrop "key") (C_check_things : Callee P w K mg base "check_things" 1 ["fit", "more"] spChk) (C_is_key : Callee P w K mg base "is_key" 3 ["thing"] spKeyI) : FnOk P w K mg base CX0 4 f fd ["self", "key", "more"] (spInit .drop cDrop) := by
  refine F.okJ sc_Drop___init__ (fun vs H Q E h => ?_) (fun cdv A outer s H vs Q E hr h => ?_)
  · obtain ⟨x, dx, us, rfl, ok, _⟩ := h
    obtain ⟨u0, rfl, o1⟩ := ok
    rfl
  obtain ⟨x, dx, us, rfl, ok, hx, q⟩ := h
  obtain ⟨u0, rfl, o1⟩ := ok
  refine ⟨_, (bcons (sexpr (ecall C_check_things (hr.mono (by decide)) rfl (acons (ecall C_is_key (hr.mono (by decide)) rfl (acons (ev 1) anil)) (acons (ev 2) anil))))
      (bone (sfld (ev 0) (ev 1)))), ?_⟩
  try walk_at "rn"
  exact ⟨u0, rfl, o1, rfl, _, _, _, hx, c_Drop, n_key, by decide, by first | exact q | (simp only [upd_upd]; exact q)⟩
theorem sc_Add___init__ : FnScope ["self", "key", "by", "more"] ["self", "key", "by", "more"] (defScope s_Add___init__) := ⟨rfl, rfl, rfl, by decide +kernel, rfl, by decide +kernel, by decide +kernel⟩
theorem ok_Add___init__ {f cAdd : Addr} {fd : FuncData} (F : FunD K "__init__" "Add.__init__" s_Add___init__ f fd) {aTh aG aC : Addr} {tE tM tN tF u1 u2 u3 u4 u5 u6 u7 u8 : Tok} (B : B P w K mg aTh aG aC tE tM tN tF u1 u2 u3 u4 u5 u6 u7 u8) (c_Add : Cls K cAdd) (n_key : NoAttr K cAdd "key") (n_by : NoAttr K cAdd "by") (C_check_things : Callee P w K mg base "check_things" 1 ["fit", "more"] spChk) (C_is_key : Callee P w K mg base "is_key" 3 ["thing"] spKeyI) (C_is_amount : Callee P w K mg base "is_amount" 3 ["thing"] spAmI) : FnOk P w K mg base CX0 4 f fd ["self", "key", "by", "more"] (spInit .add cAdd) := by
  refine F.okJ sc_Add___init__ (fun vs H Q E h => ?_) (fun cdv A outer s H vs Q E hr h => ?_)
  · obtain ⟨x, dx, us, rfl, ok, _⟩ := h
    obtain ⟨u0, u1, rfl, o1, o2⟩ := ok
    rfl
  obtain ⟨x, dx, us, rfl, ok, hx, q⟩ := h
  obtain ⟨u0, u1, rfl, o1, o2⟩ := ok
  refine ⟨_, (bcons (sexpr (ecall C_check_things (hr.mono (by decide)) rfl (acons (eand (ecall C_is_key (hr.mono (by decide)) rfl (acons (ev 1) anil)) (eone (ecall C_is_amount (hr.mono (by decide)) rfl (acons (ev 2) anil)))) (acons (ev 3) anil))))
      (bcons (sfld (ev 0) (ev 1))
      (bone (sfld (ev 0) (ev 2))))), ?_⟩
  try walk_at "rn"
  exact ⟨u0, rfl, o1, _, rfl, u1, rfl, o2, rfl, _, _, _, hx, c_Add, n_key, by decide, _, _, _, rfl, c_Add, n_by, Nat.lt_of_le_of_lt (put_lt (Nat.zero_le 0 : ([] : List (Str × V)).length ≤ 0) (by decide)) (by decide), by first | exact q | (simp only [upd_upd]; exact q)⟩
theorem sc_Wipe___init__ : FnScope ["self", "low", "high", "more"] ["self", "low", "high", "more"] (defScope s_Wipe___init__) := ⟨rfl, rfl, rfl, by decide +kernel, rfl, by decide +kernel, by decide +kernel⟩
theorem ok_Wipe___init__ {f cWipe : Addr} {fd : FuncData} (F : FunD K "__init__" "Wipe.__init__" s_Wipe___init__ f fd) {aTh aG aC : Addr} {tE tM tN tF u1 u2 u3 u4 u5 u6 u7 u8 : Tok} (B : B P w K mg aTh aG aC tE tM tN tF u1 u2 u3 u4 u5 u6 u7 u8) (c_Wipe : Cls K cWipe) (n_low : NoAttr K cWipe "low") (n_high : NoAttr K cWipe "high") (C_check_things : Callee P w K mg base "check_things" 1 ["fit", "more"] spChk) (C_is_stretch : Callee P w K mg base "is_stretch" 3 ["low", "high"] spStI) : FnOk P w K mg base CX0 4 f fd ["self", "low", "high", "more"] (spInit .wipe cWipe) := by
  refine F.okJ sc_Wipe___init__ (fun vs H Q E h => ?_) (fun cdv A outer s H vs Q E hr h => ?_)
  · obtain ⟨x, dx, us, rfl, ok, _⟩ := h
    obtain ⟨u0, u1, rfl, o1⟩ := ok
    rfl
  obtain ⟨x, dx, us, rfl, ok, hx, q⟩ := h
  obtain ⟨u0, u1, rfl, o1⟩ := ok
  refine ⟨_, (bcons (sexpr (ecall C_check_things (hr.mono (by decide)) rfl (acons (ecall C_is_stretch (hr.mono (by decide)) rfl (acons (ev 1) (acons (ev 2) anil))) (acons (ev 3) anil))))
      (bcons (sfld (ev 0) (ev 1))
      (bone (sfld (ev 0) (ev 2))))), ?_⟩
  try walk_at "rn"
  exact ⟨u0, u1, rfl, o1, rfl, _, _, _, hx, c_Wipe, n_low, by decide, _, _, _, rfl, c_Wipe, n_high, Nat.lt_of_le_of_lt (put_lt (Nat.zero_le 0 : ([] : List (Str × V)).length ≤ 0) (by decide)) (by decide), by first | exact q | (simp only [upd_upd]; exact q)⟩
theorem sc_Raise___init__ : FnScope ["self", "low", "high", "by", "more"] ["self", "low", "high", "by", "more"] (defScope s_Raise___init__) := ⟨rfl, rfl, rfl, by decide +kernel, rfl, by decide +kernel, by decide +kernel⟩
theorem ok_Raise___init__ {f cRaise : Addr} {fd : FuncData} (F : FunD K "__init__" "Raise.__init__" s_Raise___init__ f fd) {aTh aG aC : Addr} {tE tM tN tF u1 u2 u3 u4 u5 u6 u7 u8 : Tok} (B : B P w K mg aTh aG aC tE tM tN tF u1 u2 u3 u4 u5 u6 u7 u8) (c_Raise : Cls K cRaise) (n_low : NoAttr K cRaise "low") (n_high : NoAttr K cRaise "high") (n_by : NoAttr K cRaise "by") (C_check_things : Callee P w K mg base "check_things" 1 ["fit", "more"] spChk) (C_is_stretch : Callee P w K mg base "is_stretch" 3 ["low", "high"] spStI) (C_is_amount : Callee P w K mg base "is_amount" 3 ["thing"] spAmI) : FnOk P w K mg base CX0 4 f fd ["self", "low", "high", "by", "more"] (spInit .raise cRaise) := by
  refine F.okJ sc_Raise___init__ (fun vs H Q E h => ?_) (fun cdv A outer s H vs Q E hr h => ?_)
  · obtain ⟨x, dx, us, rfl, ok, _⟩ := h
    obtain ⟨u0, u1, u2, rfl, o1, o2⟩ := ok
    rfl
  obtain ⟨x, dx, us, rfl, ok, hx, q⟩ := h
  obtain ⟨u0, u1, u2, rfl, o1, o2⟩ := ok
  refine ⟨_, (bcons (sexpr (ecall C_check_things (hr.mono (by decide)) rfl (acons (eand (ecall C_is_stretch (hr.mono (by decide)) rfl (acons (ev 1) (acons (ev 2) anil))) (eone (ecall C_is_amount (hr.mono (by decide)) rfl (acons (ev 3) anil)))) (acons (ev 4) anil))))
      (bcons (sfld (ev 0) (ev 1))
      (bcons (sfld (ev 0) (ev 2))
      (bone (sfld (ev 0) (ev 3)))))), ?_⟩
  try walk_at "rn"
  exact ⟨u0, u1, rfl, o1, _, rfl, u2, rfl, o2, rfl, _, _, _, hx, c_Raise, n_low, by decide, _, _, _, rfl, c_Raise, n_high, Nat.lt_of_le_of_lt (put_lt (Nat.zero_le 0 : ([] : List (Str × V)).length ≤ 0) (by decide)) (by decide), _, _, _, rfl, c_Raise, n_by, Nat.lt_of_le_of_lt (put_lt (put_lt (Nat.zero_le 0 : ([] : List (Str × V)).length ≤ 0) (by decide)) (by decide)) (by decide), by first | exact q | (simp only [upd_upd]; exact q)⟩
theorem sc_Level___init__ : FnScope ["self", "low", "high", "value", "more"] ["self", "low", "high", "value", "more"] (defScope s_Level___init__) := ⟨rfl, rfl, rfl, by decide +kernel, rfl, by decide +kernel, by decide +kernel⟩
theorem ok_Level___init__ {f cLevel : Addr} {fd : FuncData} (F : FunD K "__init__" "Level.__init__" s_Level___init__ f fd) {aTh aG aC : Addr} {tE tM tN tF u1 u2 u3 u4 u5 u6 u7 u8 : Tok} (B : B P w K mg aTh aG aC tE tM tN tF u1 u2 u3 u4 u5 u6 u7 u8) (c_Level : Cls K cLevel) (n_low : NoAttr K cLevel "low") (n_high : NoAttr K cLevel "high") (n_value : NoAttr K cLevel "value") (C_check_things : Callee P w K mg base "check_things" 1 ["fit", "more"] spChk) (C_is_stretch : Callee P w K mg base "is_stretch" 3 ["low", "high"] spStI) (C_is_amount : Callee P w K mg base "is_amount" 3 ["thing"] spAmI) : FnOk P w K mg base CX0 4 f fd ["self", "low", "high", "value", "more"] (spInit .level cLevel) := by
  refine F.okJ sc_Level___init__ (fun vs H Q E h => ?_) (fun cdv A outer s H vs Q E hr h => ?_)
  · obtain ⟨x, dx, us, rfl, ok, _⟩ := h
    obtain ⟨u0, u1, u2, rfl, o1, o2⟩ := ok
    rfl
  obtain ⟨x, dx, us, rfl, ok, hx, q⟩ := h
  obtain ⟨u0, u1, u2, rfl, o1, o2⟩ := ok
  refine ⟨_, (bcons (sexpr (ecall C_check_things (hr.mono (by decide)) rfl (acons (eand (ecall C_is_stretch (hr.mono (by decide)) rfl (acons (ev 1) (acons (ev 2) anil))) (eone (ecall C_is_amount (hr.mono (by decide)) rfl (acons (ev 3) anil)))) (acons (ev 4) anil))))
      (bcons (sfld (ev 0) (ev 1))
      (bcons (sfld (ev 0) (ev 2))
      (bone (sfld (ev 0) (ev 3)))))), ?_⟩
  try walk_at "rn"
  exact ⟨u0, u1, rfl, o1, _, rfl, u2, rfl, o2, rfl, _, _, _, hx, c_Level, n_low, by decide, _, _, _, rfl, c_Level, n_high, Nat.lt_of_le_of_lt (put_lt (Nat.zero_le 0 : ([] : List (Str × V)).length ≤ 0) (by decide)) (by decide), _, _, _, rfl, c_Level, n_value, Nat.lt_of_le_of_lt (put_lt (put_lt (Nat.zero_le 0 : ([] : List (Str × V)).length ≤ 0) (by decide)) (by decide)) (by decide), by first | exact q | (simp only [upd_upd]; exact q)⟩
theorem sc_Mark___init__ : FnScope ["self", "more"] ["self", "more"] (defScope s_Mark___init__) := ⟨rfl, rfl, rfl, by decide +kernel, rfl, by decide +kernel, by decide +kernel⟩
theorem ok_Mark___init__ {f cMark : Addr} {fd : FuncData} (F : FunD K "__init__" "Mark.__init__" s_Mark___init__ f fd) {aTh aG aC : Addr} {tE tM tN tF u1 u2 u3 u4 u5 u6 u7 u8 : Tok} (B : B P w K mg aTh aG aC tE tM tN tF u1 u2 u3 u4 u5 u6 u7 u8) (c_Mark : Cls K cMark)  (C_check_things : Callee P w K mg base "check_things" 1 ["fit", "more"] spChk) : FnOk P w K mg base CX0 2 f fd ["self", "more"] (spInit .mark cMark) := by
  refine F.okJ sc_Mark___init__ (fun vs H Q E h => ?_) (fun cdv A outer s H vs Q E hr h => ?_)
  · obtain ⟨x, dx, us, rfl, ok, _⟩ := h
    obtain rfl := ok
    rfl
  obtain ⟨x, dx, us, rfl, ok, hx, q⟩ := h
  obtain rfl := ok
  refine ⟨_, (bone (sexpr (ecall C_check_things (hr.mono (by decide)) rfl (acons ebl (acons (ev 1) anil))))), ?_⟩
  try walk_at "rn"
  exact ⟨rfl, by rw [show upd H x (.ins cMark dx (Kd.flds .mark [])) = H from upd_self hx] at q; exact q⟩
theorem sc_Forget___init__ : FnScope ["self", "mark", "more"] ["self", "mark", "more"] (defScope s_Forget___init__) := ⟨rfl, rfl, rfl, by decide +kernel, rfl, by decide +kernel, by decide +kernel⟩
theorem ok_Forget___init__ {f cForget : Addr} {fd : FuncData} (F : FunD K "__init__" "Forget.__init__" s_Forget___init__ f fd) {aTh aG aC : Addr} {tE tM tN tF u1 u2 u3 u4 u5 u6 u7 u8 : Tok} (B : B P w K mg aTh aG aC tE tM tN tF u1 u2 u3 u4 u5 u6 u7 u8) (c_Forget : Cls K cForget) (n_mark : NoAttr K cForget "mark") (C_check_things : Callee P w K mg base "check_things" 1 ["fit", "more"] spChk) (C_is_whole_from : Callee P w K mg base "is_whole_from" 2 ["thing", "low"] spFromI) : FnOk P w K mg base CX0 3 f fd ["self", "mark", "more"] (spInit .forget cForget) := by
  refine F.okJ sc_Forget___init__ (fun vs H Q E h => ?_) (fun cdv A outer s H vs Q E hr h => ?_)
  · obtain ⟨x, dx, us, rfl, ok, _⟩ := h
    obtain ⟨u0, rfl, o1, o2⟩ := ok
    rfl
  obtain ⟨x, dx, us, rfl, ok, hx, q⟩ := h
  obtain ⟨u0, rfl, o1, o2⟩ := ok
  refine ⟨_, (bcons (sexpr (ecall C_check_things (hr.mono (by decide)) rfl (acons (ecall C_is_whole_from (hr.mono (by decide)) rfl (acons (ev 1) (acons ei anil))) (acons (ev 2) anil))))
      (bone (sfld (ev 0) (ev 1)))), ?_⟩
  try walk_at "rn"
  exact ⟨u0, 1, rfl, by rw [decide_eq_true o1], _, _, _, hx, c_Forget, n_mark, by decide, by first | exact q | (simp only [upd_upd]; exact q)⟩
end
def gone : PyData := .tuple [.str "gone"]
def isD (v : Int) : PyData := .tuple [.str "is", .int v]
def plusD (v : Int) : PyData := .tuple [.str "plus", .int v]
def Kd.act : Kd → List Int → PyData
  | .put, [_, v] => .tuple [isD v, isD v]
  | .drop, _ => .tuple [gone, gone]
  | .add, [_, v] => .tuple [plusD v, isD v]
  | .wipe, _ => .tuple [gone, gone]
  | .raise, [_, _, v] => .tuple [plusD v, gone]
  | .level, [_, _, v] => .tuple [isD v, gone]
  | _, _ => .none
def Kd.span : Kd → List Int → Option (Int × Int)
  | .put, [k, _] => some (k, k + 1)
  | .drop, [k] => some (k, k + 1)
  | .add, [k, _] => some (k, k + 1)
  | .wipe, [l, h] => some (l, h)
  | .raise, [l, h, _] => some (l, h)
  | .level, [l, h, _] => some (l, h)
  | _, _ => none
section
variable {P : Program} {w : World} {K : PySem.W.Frag} {mg : Str → Option Value} {base : Heap}
def spAct (K : PySem.W.Frag) (k : Kd) (C : Addr) : Sp := fun vs H Q _ => ∃ a us, vs = [.ref a] ∧ k.ok us ∧ DeedAt C H a k us ∧ ∀ v H', Ext K H H' → Is K H' (k.act us) v → Q v H'
def spSpan (K : PySem.W.Frag) (k : Kd) (C : Addr) : Sp := fun vs H Q _ => ∃ a us, vs = [.ref a] ∧ k.ok us ∧ DeedAt C H a k us ∧ match k.span us with
  | some (l, h) => ∀ T, new K H T → Q (.ref T) (upd H T (.tup [.int l, .int h]))
  | none => Q .non H
theorem isPair {H : Hp} {T : Addr} {a b : V} {d e : PyData} (h : SqT K H T [a, b]) (ha : Is K H d a) (hb : Is K H e b) : Is K H (.tuple [d, e]) (.ref T) := by
  unfold Is IsAll IsAll IsAll
  exact ⟨T, _, rfl, h, _, _, rfl, ha, _, _, rfl, hb, rfl⟩
theorem isWd {H : Hp} {T : Addr} {x : Str} {v : Int} (h : SqT K H T [.str x, .int v]) : Is K H (.tuple [.str x, .int v]) (.ref T) := isPair h (by unfold Is; rfl) (by unfold Is; rfl)
theorem isGone {H : Hp} {T : Addr} (h : SqT K H T [.str "gone"]) : Is K H gone (.ref T) := by
  unfold gone Is IsAll IsAll
  exact ⟨T, _, rfl, h, _, _, rfl, by unfold Is; rfl, rfl⟩
def spNon : Sp := fun vs H Q _ => ∃ a, vs = [.ref a] ∧ Q .non H
theorem sc_Put_told : FnScope ["self"] ["self"] (defScope s_Put_told) := ⟨rfl, rfl, rfl, by decide +kernel, rfl, by decide +kernel, by decide +kernel⟩
theorem ok_Put_told {f cPut : Addr} {fd : FuncData} (F : Fun K "told" "Put.told" s_Put_told f fd) {aTh aG aC : Addr} {tE tM tN tF u1 u2 u3 u4 u5 u6 u7 u8 : Tok} (B : B P w K mg aTh aG aC tE tM tN tF u1 u2 u3 u4 u5 u6 u7 u8) (c_Put : Cls K cPut) (n_key : NoAttr K cPut "key") (n_value : NoAttr K cPut "value") : FnOk P w K mg base CX0 1 f fd ["self"] (spTold K .put cPut) := by
  refine F.okJ sc_Put_told (fun vs H Q E h => ?_) (fun cdv A outer s H vs Q E hr h => ?_)
  · obtain ⟨a, us, rfl, _⟩ := h
    rfl
  obtain ⟨a, us, rfl, ok, ⟨dx, ha⟩, q⟩ := h
  obtain ⟨u0, u1, rfl, o1, o2⟩ := ok
  refine ⟨_, (bone (sret (etupQ (acons estr (acons (efld (ev 0)) (acons (efld (ev 0)) anil)))))), ?_⟩
  try walk_at "rn"
  exact ⟨_, _, _, ha, c_Put, n_key, _, rfl, _, _, _, ha, c_Put, n_value, _, rfl, q⟩
theorem sc_Drop_told : FnScope ["self"] ["self"] (defScope s_Drop_told) := ⟨rfl, rfl, rfl, by decide +kernel, rfl, by decide +kernel, by decide +kernel⟩
theorem ok_Drop_told {f cDrop : Addr} {fd : FuncData} (F : Fun K "told" "Drop.told" s_Drop_told f fd) {aTh aG aC : Addr} {tE tM tN tF u1 u2 u3 u4 u5 u6 u7 u8 : Tok} (B : B P w K mg aTh aG aC tE tM tN tF u1 u2 u3 u4 u5 u6 u7 u8) (c_Drop : Cls K cDrop) (n_key : NoAttr K cDrop "key") : FnOk P w K mg base CX0 1 f fd ["self"] (spTold K .drop cDrop) := by
  refine F.okJ sc_Drop_told (fun vs H Q E h => ?_) (fun cdv A outer s H vs Q E hr h => ?_)
  · obtain ⟨a, us, rfl, _⟩ := h
    rfl
  obtain ⟨a, us, rfl, ok, ⟨dx, ha⟩, q⟩ := h
  obtain ⟨u0, rfl, o1⟩ := ok
  refine ⟨_, (bone (sret (etupQ (acons estr (acons (efld (ev 0)) anil))))), ?_⟩
  try walk_at "rn"
  exact ⟨_, _, _, ha, c_Drop, n_key, _, rfl, q⟩
theorem sc_Add_told : FnScope ["self"] ["self"] (defScope s_Add_told) := ⟨rfl, rfl, rfl, by decide +kernel, rfl, by decide +kernel, by decide +kernel⟩
theorem ok_Add_told {f cAdd : Addr} {fd : FuncData} (F : Fun K "told" "Add.told" s_Add_told f fd) {aTh aG aC : Addr} {tE tM tN tF u1 u2 u3 u4 u5 u6 u7 u8 : Tok} (B : B P w K mg aTh aG aC tE tM tN tF u1 u2 u3 u4 u5 u6 u7 u8) (c_Add : Cls K cAdd) (n_key : NoAttr K cAdd "key") (n_by : NoAttr K cAdd "by") : FnOk P w K mg base CX0 1 f fd ["self"] (spTold K .add cAdd) := by
  refine F.okJ sc_Add_told (fun vs H Q E h => ?_) (fun cdv A outer s H vs Q E hr h => ?_)
  · obtain ⟨a, us, rfl, _⟩ := h
    rfl
  obtain ⟨a, us, rfl, ok, ⟨dx, ha⟩, q⟩ := h
  obtain ⟨u0, u1, rfl, o1, o2⟩ := ok
  refine ⟨_, (bone (sret (etupQ (acons estr (acons (efld (ev 0)) (acons (efld (ev 0)) anil)))))), ?_⟩
  try walk_at "rn"
  exact ⟨_, _, _, ha, c_Add, n_key, _, rfl, _, _, _, ha, c_Add, n_by, _, rfl, q⟩
theorem sc_Wipe_told : FnScope ["self"] ["self"] (defScope s_Wipe_told) := ⟨rfl, rfl, rfl, by decide +kernel, rfl, by decide +kernel, by decide +kernel⟩
theorem ok_Wipe_told {f cWipe : Addr} {fd : FuncData} (F : Fun K "told" "Wipe.told" s_Wipe_told f fd) {aTh aG aC : Addr} {tE tM tN tF u1 u2 u3 u4 u5 u6 u7 u8 : Tok} (B : B P w K mg aTh aG aC tE tM tN tF u1 u2 u3 u4 u5 u6 u7 u8) (c_Wipe : Cls K cWipe) (n_low : NoAttr K cWipe "low") (n_high : NoAttr K cWipe "high") : FnOk P w K mg base CX0 1 f fd ["self"] (spTold K .wipe cWipe) := by
  refine F.okJ sc_Wipe_told (fun vs H Q E h => ?_) (fun cdv A outer s H vs Q E hr h => ?_)
  · obtain ⟨a, us, rfl, _⟩ := h
    rfl
  obtain ⟨a, us, rfl, ok, ⟨dx, ha⟩, q⟩ := h
  obtain ⟨u0, u1, rfl, o1⟩ := ok
  refine ⟨_, (bone (sret (etupQ (acons estr (acons (efld (ev 0)) (acons (efld (ev 0)) anil)))))), ?_⟩
  try walk_at "rn"
  exact ⟨_, _, _, ha, c_Wipe, n_low, _, rfl, _, _, _, ha, c_Wipe, n_high, _, rfl, q⟩
theorem sc_Raise_told : FnScope ["self"] ["self"] (defScope s_Raise_told) := ⟨rfl, rfl, rfl, by decide +kernel, rfl, by decide +kernel, by decide +kernel⟩
theorem ok_Raise_told {f cRaise : Addr} {fd : FuncData} (F : Fun K "told" "Raise.told" s_Raise_told f fd) {aTh aG aC : Addr} {tE tM tN tF u1 u2 u3 u4 u5 u6 u7 u8 : Tok} (B : B P w K mg aTh aG aC tE tM tN tF u1 u2 u3 u4 u5 u6 u7 u8) (c_Raise : Cls K cRaise) (n_low : NoAttr K cRaise "low") (n_high : NoAttr K cRaise "high") (n_by : NoAttr K cRaise "by") : FnOk P w K mg base CX0 1 f fd ["self"] (spTold K .raise cRaise) := by
  refine F.okJ sc_Raise_told (fun vs H Q E h => ?_) (fun cdv A outer s H vs Q E hr h => ?_)
  · obtain ⟨a, us, rfl, _⟩ := h
    rfl
  obtain ⟨a, us, rfl, ok, ⟨dx, ha⟩, q⟩ := h
  obtain ⟨u0, u1, u2, rfl, o1, o2⟩ := ok
  refine ⟨_, (bone (sret (etupQ (acons estr (acons (efld (ev 0)) (acons (efld (ev 0)) (acons (efld (ev 0)) anil))))))), ?_⟩
  try walk_at "rn"
  exact ⟨_, _, _, ha, c_Raise, n_low, _, rfl, _, _, _, ha, c_Raise, n_high, _, rfl, _, _, _, ha, c_Raise, n_by, _, rfl, q⟩
theorem sc_Level_told : FnScope ["self"] ["self"] (defScope s_Level_told) := ⟨rfl, rfl, rfl, by decide +kernel, rfl, by decide +kernel, by decide +kernel⟩
theorem ok_Level_told {f cLevel : Addr} {fd : FuncData} (F : Fun K "told" "Level.told" s_Level_told f fd) {aTh aG aC : Addr} {tE tM tN tF u1 u2 u3 u4 u5 u6 u7 u8 : Tok} (B : B P w K mg aTh aG aC tE tM tN tF u1 u2 u3 u4 u5 u6 u7 u8) (c_Level : Cls K cLevel) (n_low : NoAttr K cLevel "low") (n_high : NoAttr K cLevel "high") (n_value : NoAttr K cLevel "value") : FnOk P w K mg base CX0 1 f fd ["self"] (spTold K .level cLevel) := by
  refine F.okJ sc_Level_told (fun vs H Q E h => ?_) (fun cdv A outer s H vs Q E hr h => ?_)
  · obtain ⟨a, us, rfl, _⟩ := h
    rfl
  obtain ⟨a, us, rfl, ok, ⟨dx, ha⟩, q⟩ := h
  obtain ⟨u0, u1, u2, rfl, o1, o2⟩ := ok
  refine ⟨_, (bone (sret (etupQ (acons estr (acons (efld (ev 0)) (acons (efld (ev 0)) (acons (efld (ev 0)) anil))))))), ?_⟩
  try walk_at "rn"
  exact ⟨_, _, _, ha, c_Level, n_low, _, rfl, _, _, _, ha, c_Level, n_high, _, rfl, _, _, _, ha, c_Level, n_value, _, rfl, q⟩
theorem sc_Mark_told : FnScope ["self"] ["self"] (defScope s_Mark_told) := ⟨rfl, rfl, rfl, by decide +kernel, rfl, by decide +kernel, by decide +kernel⟩
theorem ok_Mark_told {f cMark : Addr} {fd : FuncData} (F : Fun K "told" "Mark.told" s_Mark_told f fd) {aTh aG aC : Addr} {tE tM tN tF u1 u2 u3 u4 u5 u6 u7 u8 : Tok} (B : B P w K mg aTh aG aC tE tM tN tF u1 u2 u3 u4 u5 u6 u7 u8) (c_Mark : Cls K cMark)  : FnOk P w K mg base CX0 1 f fd ["self"] (spTold K .mark cMark) := by
  refine F.okJ sc_Mark_told (fun vs H Q E h => ?_) (fun cdv A outer s H vs Q E hr h => ?_)
  · obtain ⟨a, us, rfl, _⟩ := h
    rfl
  obtain ⟨a, us, rfl, ok, ⟨dx, ha⟩, q⟩ := h
  obtain rfl := ok
  refine ⟨_, (bone (sret (etupQ (acons estr anil)))), ?_⟩
  try walk_at "rn"
  exact q
theorem sc_Forget_told : FnScope ["self"] ["self"] (defScope s_Forget_told) := ⟨rfl, rfl, rfl, by decide +kernel, rfl, by decide +kernel, by decide +kernel⟩
theorem ok_Forget_told {f cForget : Addr} {fd : FuncData} (F : Fun K "told" "Forget.told" s_Forget_told f fd) {aTh aG aC : Addr} {tE tM tN tF u1 u2 u3 u4 u5 u6 u7 u8 : Tok} (B : B P w K mg aTh aG aC tE tM tN tF u1 u2 u3 u4 u5 u6 u7 u8) (c_Forget : Cls K cForget) (n_mark : NoAttr K cForget "mark") : FnOk P w K mg base CX0 1 f fd ["self"] (spTold K .forget cForget) := by
  refine F.okJ sc_Forget_told (fun vs H Q E h => ?_) (fun cdv A outer s H vs Q E hr h => ?_)
  · obtain ⟨a, us, rfl, _⟩ := h
    rfl
  obtain ⟨a, us, rfl, ok, ⟨dx, ha⟩, q⟩ := h
  obtain ⟨u0, rfl, o1, o2⟩ := ok
  refine ⟨_, (bone (sret (etupQ (acons estr (acons (efld (ev 0)) anil))))), ?_⟩
  try walk_at "rn"
  exact ⟨_, _, _, ha, c_Forget, n_mark, _, rfl, q⟩
theorem sc_Put_action : FnScope ["self"] ["self"] (defScope s_Put_action) := ⟨rfl, rfl, rfl, by decide +kernel, rfl, by decide +kernel, by decide +kernel⟩
theorem ok_Put_action {f cPut : Addr} {fd : FuncData} (F : Fun K "action" "Put.action" s_Put_action f fd) {aTh aG aC : Addr} {tE tM tN tF u1 u2 u3 u4 u5 u6 u7 u8 : Tok} (B : B P w K mg aTh aG aC tE tM tN tF u1 u2 u3 u4 u5 u6 u7 u8) (c_Put : Cls K cPut) (n_key : NoAttr K cPut "key") (n_value : NoAttr K cPut "value") : FnOk P w K mg base CX0 1 f fd ["self"] (spAct K .put cPut) := by
  refine F.okJ sc_Put_action (fun vs H Q E h => ?_) (fun cdv A outer s H vs Q E hr h => ?_)
  · obtain ⟨a, us, rfl, _⟩ := h
    rfl
  obtain ⟨a, us, rfl, ok, ⟨dx, ha⟩, q⟩ := h
  obtain ⟨u0, u1, rfl, o1, o2⟩ := ok
  refine ⟨_, (bone (sret (etupQ (acons (etupQ (acons estr (acons (efld (ev 0)) anil))) (acons (etupQ (acons estr (acons (efld (ev 0)) anil))) anil))))), ?_⟩
  try walk_at "rn"
  exact ⟨_, _, _, ha, c_Put, n_value, _, rfl, fun p n0 => ⟨_, _, _, (Ext.new n0).at ha, c_Put, n_value, _, rfl, fun p1 n1 p2 n2 => q _ _ ((Ext.new n0).trans ((Ext.new n1).trans (Ext.new n2))) (isPair (tupQ_sq tupQ_updT) (isWd (tupQ_sq (((Ext.new n1).trans (Ext.new n2)).tup tupQ_updT))) (isWd (tupQ_sq ((Ext.new n2).tup tupQ_updT))))⟩⟩
theorem sc_Put_span : FnScope ["self"] ["self"] (defScope s_Put_span) := ⟨rfl, rfl, rfl, by decide +kernel, rfl, by decide +kernel, by decide +kernel⟩
theorem ok_Put_span {f cPut : Addr} {fd : FuncData} (F : Fun K "span" "Put.span" s_Put_span f fd) {aTh aG aC : Addr} {tE tM tN tF u1 u2 u3 u4 u5 u6 u7 u8 : Tok} (B : B P w K mg aTh aG aC tE tM tN tF u1 u2 u3 u4 u5 u6 u7 u8) (c_Put : Cls K cPut) (n_key : NoAttr K cPut "key") (n_value : NoAttr K cPut "value") : FnOk P w K mg base CX0 1 f fd ["self"] (spSpan K .put cPut) := by
  refine F.okJ sc_Put_span (fun vs H Q E h => ?_) (fun cdv A outer s H vs Q E hr h => ?_)
  · obtain ⟨a, us, rfl, _⟩ := h
    rfl
  obtain ⟨a, us, rfl, ok, ⟨dx, ha⟩, q⟩ := h
  obtain ⟨u0, u1, rfl, o1, o2⟩ := ok
  refine ⟨_, (bone (sret (etupQ (acons (efld (ev 0)) (acons (eop op_add (efld (ev 0)) ei) anil))))), ?_⟩
  try walk_at "rn"
  exact ⟨_, _, _, ha, c_Put, n_key, _, rfl, _, _, _, ha, c_Put, n_key, _, rfl, _, rfl, q⟩
theorem sc_Drop_action : FnScope ["self"] ["self"] (defScope s_Drop_action) := ⟨rfl, rfl, rfl, by decide +kernel, rfl, by decide +kernel, by decide +kernel⟩
theorem ok_Drop_action {f cDrop : Addr} {fd : FuncData} (F : Fun K "action" "Drop.action" s_Drop_action f fd) {aTh aG aC : Addr} {tE tM tN tF u1 u2 u3 u4 u5 u6 u7 u8 : Tok} (B : B P w K mg aTh aG aC tE tM tN tF u1 u2 u3 u4 u5 u6 u7 u8) (c_Drop : Cls K cDrop) (n_key : NoAttr K cDrop "key") : FnOk P w K mg base CX0 1 f fd ["self"] (spAct K .drop cDrop) := by
  refine F.okJ sc_Drop_action (fun vs H Q E h => ?_) (fun cdv A outer s H vs Q E hr h => ?_)
  · obtain ⟨a, us, rfl, _⟩ := h
    rfl
  obtain ⟨a, us, rfl, ok, ⟨dx, ha⟩, q⟩ := h
  obtain ⟨u0, rfl, o1⟩ := ok
  refine ⟨_, (bone (sret (eglob rfl B.CLEARING B.CLEARING_is))), ?_⟩
  try walk_at "rn"
  obtain ⟨g1, g2, e0, e1, e2⟩ := B.kC
  exact q _ _ Ext.refl (isPair (kTup_sq e0) (isGone (kTup_sq e1)) (isGone (kTup_sq e2)))
theorem sc_Drop_span : FnScope ["self"] ["self"] (defScope s_Drop_span) := ⟨rfl, rfl, rfl, by decide +kernel, rfl, by decide +kernel, by decide +kernel⟩
theorem ok_Drop_span {f cDrop : Addr} {fd : FuncData} (F : Fun K "span" "Drop.span" s_Drop_span f fd) {aTh aG aC : Addr} {tE tM tN tF u1 u2 u3 u4 u5 u6 u7 u8 : Tok} (B : B P w K mg aTh aG aC tE tM tN tF u1 u2 u3 u4 u5 u6 u7 u8) (c_Drop : Cls K cDrop) (n_key : NoAttr K cDrop "key") : FnOk P w K mg base CX0 1 f fd ["self"] (spSpan K .drop cDrop) := by
  refine F.okJ sc_Drop_span (fun vs H Q E h => ?_) (fun cdv A outer s H vs Q E hr h => ?_)
  · obtain ⟨a, us, rfl, _⟩ := h
    rfl
  obtain ⟨a, us, rfl, ok, ⟨dx, ha⟩, q⟩ := h
  obtain ⟨u0, rfl, o1⟩ := ok
  refine ⟨_, (bone (sret (etupQ (acons (efld (ev 0)) (acons (eop op_add (efld (ev 0)) ei) anil))))), ?_⟩
  try walk_at "rn"
  exact ⟨_, _, _, ha, c_Drop, n_key, _, rfl, _, _, _, ha, c_Drop, n_key, _, rfl, _, rfl, q⟩
theorem sc_Add_action : FnScope ["self"] ["self"] (defScope s_Add_action) := ⟨rfl, rfl, rfl, by decide +kernel, rfl, by decide +kernel, by decide +kernel⟩
theorem ok_Add_action {f cAdd : Addr} {fd : FuncData} (F : Fun K "action" "Add.action" s_Add_action f fd) {aTh aG aC : Addr} {tE tM tN tF u1 u2 u3 u4 u5 u6 u7 u8 : Tok} (B : B P w K mg aTh aG aC tE tM tN tF u1 u2 u3 u4 u5 u6 u7 u8) (c_Add : Cls K cAdd) (n_key : NoAttr K cAdd "key") (n_by : NoAttr K cAdd "by") : FnOk P w K mg base CX0 1 f fd ["self"] (spAct K .add cAdd) := by
  refine F.okJ sc_Add_action (fun vs H Q E h => ?_) (fun cdv A outer s H vs Q E hr h => ?_)
  · obtain ⟨a, us, rfl, _⟩ := h
    rfl
  obtain ⟨a, us, rfl, ok, ⟨dx, ha⟩, q⟩ := h
  obtain ⟨u0, u1, rfl, o1, o2⟩ := ok
  refine ⟨_, (bone (sret (etupQ (acons (etupQ (acons estr (acons (efld (ev 0)) anil))) (acons (etupQ (acons estr (acons (efld (ev 0)) anil))) anil))))), ?_⟩
  try walk_at "rn"
  exact ⟨_, _, _, ha, c_Add, n_by, _, rfl, fun p n0 => ⟨_, _, _, (Ext.new n0).at ha, c_Add, n_by, _, rfl, fun p1 n1 p2 n2 => q _ _ ((Ext.new n0).trans ((Ext.new n1).trans (Ext.new n2))) (isPair (tupQ_sq tupQ_updT) (isWd (tupQ_sq (((Ext.new n1).trans (Ext.new n2)).tup tupQ_updT))) (isWd (tupQ_sq ((Ext.new n2).tup tupQ_updT))))⟩⟩
theorem sc_Add_span : FnScope ["self"] ["self"] (defScope s_Add_span) := ⟨rfl, rfl, rfl, by decide +kernel, rfl, by decide +kernel, by decide +kernel⟩
theorem ok_Add_span {f cAdd : Addr} {fd : FuncData} (F : Fun K "span" "Add.span" s_Add_span f fd) {aTh aG aC : Addr} {tE tM tN tF u1 u2 u3 u4 u5 u6 u7 u8 : Tok} (B : B P w K mg aTh aG aC tE tM tN tF u1 u2 u3 u4 u5 u6 u7 u8) (c_Add : Cls K cAdd) (n_key : NoAttr K cAdd "key") (n_by : NoAttr K cAdd "by") : FnOk P w K mg base CX0 1 f fd ["self"] (spSpan K .add cAdd) := by
  refine F.okJ sc_Add_span (fun vs H Q E h => ?_) (fun cdv A outer s H vs Q E hr h => ?_)
  · obtain ⟨a, us, rfl, _⟩ := h
    rfl
  obtain ⟨a, us, rfl, ok, ⟨dx, ha⟩, q⟩ := h
  obtain ⟨u0, u1, rfl, o1, o2⟩ := ok
  refine ⟨_, (bone (sret (etupQ (acons (efld (ev 0)) (acons (eop op_add (efld (ev 0)) ei) anil))))), ?_⟩
  try walk_at "rn"
  exact ⟨_, _, _, ha, c_Add, n_key, _, rfl, _, _, _, ha, c_Add, n_key, _, rfl, _, rfl, q⟩
theorem sc_Wipe_action : FnScope ["self"] ["self"] (defScope s_Wipe_action) := ⟨rfl, rfl, rfl, by decide +kernel, rfl, by decide +kernel, by decide +kernel⟩
theorem ok_Wipe_action {f cWipe : Addr} {fd : FuncData} (F : Fun K "action" "Wipe.action" s_Wipe_action f fd) {aTh aG aC : Addr} {tE tM tN tF u1 u2 u3 u4 u5 u6 u7 u8 : Tok} (B : B P w K mg aTh aG aC tE tM tN tF u1 u2 u3 u4 u5 u6 u7 u8) (c_Wipe : Cls K cWipe) (n_low : NoAttr K cWipe "low") (n_high : NoAttr K cWipe "high") : FnOk P w K mg base CX0 1 f fd ["self"] (spAct K .wipe cWipe) := by
  refine F.okJ sc_Wipe_action (fun vs H Q E h => ?_) (fun cdv A outer s H vs Q E hr h => ?_)
  · obtain ⟨a, us, rfl, _⟩ := h
    rfl
  obtain ⟨a, us, rfl, ok, ⟨dx, ha⟩, q⟩ := h
  obtain ⟨u0, u1, rfl, o1⟩ := ok
  refine ⟨_, (bone (sret (eglob rfl B.CLEARING B.CLEARING_is))), ?_⟩
  try walk_at "rn"
  obtain ⟨g1, g2, e0, e1, e2⟩ := B.kC
  exact q _ _ Ext.refl (isPair (kTup_sq e0) (isGone (kTup_sq e1)) (isGone (kTup_sq e2)))
theorem sc_Wipe_span : FnScope ["self"] ["self"] (defScope s_Wipe_span) := ⟨rfl, rfl, rfl, by decide +kernel, rfl, by decide +kernel, by decide +kernel⟩
theorem ok_Wipe_span {f cWipe : Addr} {fd : FuncData} (F : Fun K "span" "Wipe.span" s_Wipe_span f fd) {aTh aG aC : Addr} {tE tM tN tF u1 u2 u3 u4 u5 u6 u7 u8 : Tok} (B : B P w K mg aTh aG aC tE tM tN tF u1 u2 u3 u4 u5 u6 u7 u8) (c_Wipe : Cls K cWipe) (n_low : NoAttr K cWipe "low") (n_high : NoAttr K cWipe "high") : FnOk P w K mg base CX0 1 f fd ["self"] (spSpan K .wipe cWipe) := by
  refine F.okJ sc_Wipe_span (fun vs H Q E h => ?_) (fun cdv A outer s H vs Q E hr h => ?_)
  · obtain ⟨a, us, rfl, _⟩ := h
    rfl
  obtain ⟨a, us, rfl, ok, ⟨dx, ha⟩, q⟩ := h
  obtain ⟨u0, u1, rfl, o1⟩ := ok
  refine ⟨_, (bone (sret (etupQ (acons (efld (ev 0)) (acons (efld (ev 0)) anil))))), ?_⟩
  try walk_at "rn"
  exact ⟨_, _, _, ha, c_Wipe, n_low, _, rfl, _, _, _, ha, c_Wipe, n_high, _, rfl, q⟩
theorem sc_Raise_action : FnScope ["self"] ["self"] (defScope s_Raise_action) := ⟨rfl, rfl, rfl, by decide +kernel, rfl, by decide +kernel, by decide +kernel⟩
theorem ok_Raise_action {f cRaise : Addr} {fd : FuncData} (F : Fun K "action" "Raise.action" s_Raise_action f fd) {aTh aG aC : Addr} {tE tM tN tF u1 u2 u3 u4 u5 u6 u7 u8 : Tok} (B : B P w K mg aTh aG aC tE tM tN tF u1 u2 u3 u4 u5 u6 u7 u8) (c_Raise : Cls K cRaise) (n_low : NoAttr K cRaise "low") (n_high : NoAttr K cRaise "high") (n_by : NoAttr K cRaise "by") : FnOk P w K mg base CX0 1 f fd ["self"] (spAct K .raise cRaise) := by
  refine F.okJ sc_Raise_action (fun vs H Q E h => ?_) (fun cdv A outer s H vs Q E hr h => ?_)
  · obtain ⟨a, us, rfl, _⟩ := h
    rfl
  obtain ⟨a, us, rfl, ok, ⟨dx, ha⟩, q⟩ := h
  obtain ⟨u0, u1, u2, rfl, o1, o2⟩ := ok
  refine ⟨_, (bone (sret (etupQ (acons (etupQ (acons estr (acons (efld (ev 0)) anil))) (acons (eglob rfl B.GONE B.GONE_is) anil))))), ?_⟩
  try walk_at "rn"
  exact ⟨_, _, _, ha, c_Raise, n_by, _, rfl, fun p n0 p1 n1 => q _ _ ((Ext.new n0).trans (Ext.new n1)) (isPair (tupQ_sq tupQ_updT) (isWd (tupQ_sq ((Ext.new n1).tup tupQ_updT))) (isGone (kTup_sq B.kG)))⟩
theorem sc_Raise_span : FnScope ["self"] ["self"] (defScope s_Raise_span) := ⟨rfl, rfl, rfl, by decide +kernel, rfl, by decide +kernel, by decide +kernel⟩
theorem ok_Raise_span {f cRaise : Addr} {fd : FuncData} (F : Fun K "span" "Raise.span" s_Raise_span f fd) {aTh aG aC : Addr} {tE tM tN tF u1 u2 u3 u4 u5 u6 u7 u8 : Tok} (B : B P w K mg aTh aG aC tE tM tN tF u1 u2 u3 u4 u5 u6 u7 u8) (c_Raise : Cls K cRaise) (n_low : NoAttr K cRaise "low") (n_high : NoAttr K cRaise "high") (n_by : NoAttr K cRaise "by") : FnOk P w K mg base CX0 1 f fd ["self"] (spSpan K .raise cRaise) := by
  refine F.okJ sc_Raise_span (fun vs H Q E h => ?_) (fun cdv A outer s H vs Q E hr h => ?_)
  · obtain ⟨a, us, rfl, _⟩ := h
    rfl
  obtain ⟨a, us, rfl, ok, ⟨dx, ha⟩, q⟩ := h
  obtain ⟨u0, u1, u2, rfl, o1, o2⟩ := ok
  refine ⟨_, (bone (sret (etupQ (acons (efld (ev 0)) (acons (efld (ev 0)) anil))))), ?_⟩
  try walk_at "rn"
  exact ⟨_, _, _, ha, c_Raise, n_low, _, rfl, _, _, _, ha, c_Raise, n_high, _, rfl, q⟩
theorem sc_Level_action : FnScope ["self"] ["self"] (defScope s_Level_action) := ⟨rfl, rfl, rfl, by decide +kernel, rfl, by decide +kernel, by decide +kernel⟩
theorem ok_Level_action {f cLevel : Addr} {fd : FuncData} (F : Fun K "action" "Level.action" s_Level_action f fd) {aTh aG aC : Addr} {tE tM tN tF u1 u2 u3 u4 u5 u6 u7 u8 : Tok} (B : B P w K mg aTh aG aC tE tM tN tF u1 u2 u3 u4 u5 u6 u7 u8) (c_Level : Cls K cLevel) (n_low : NoAttr K cLevel "low") (n_high : NoAttr K cLevel "high") (n_value : NoAttr K cLevel "value") : FnOk P w K mg base CX0 1 f fd ["self"] (spAct K .level cLevel) := by
  refine F.okJ sc_Level_action (fun vs H Q E h => ?_) (fun cdv A outer s H vs Q E hr h => ?_)
  · obtain ⟨a, us, rfl, _⟩ := h
    rfl
  obtain ⟨a, us, rfl, ok, ⟨dx, ha⟩, q⟩ := h
  obtain ⟨u0, u1, u2, rfl, o1, o2⟩ := ok
  refine ⟨_, (bone (sret (etupQ (acons (etupQ (acons estr (acons (efld (ev 0)) anil))) (acons (eglob rfl B.GONE B.GONE_is) anil))))), ?_⟩
  try walk_at "rn"
  exact ⟨_, _, _, ha, c_Level, n_value, _, rfl, fun p n0 p1 n1 => q _ _ ((Ext.new n0).trans (Ext.new n1)) (isPair (tupQ_sq tupQ_updT) (isWd (tupQ_sq ((Ext.new n1).tup tupQ_updT))) (isGone (kTup_sq B.kG)))⟩
theorem sc_Level_span : FnScope ["self"] ["self"] (defScope s_Level_span) := ⟨rfl, rfl, rfl, by decide +kernel, rfl, by decide +kernel, by decide +kernel⟩
theorem ok_Level_span {f cLevel : Addr} {fd : FuncData} (F : Fun K "span" "Level.span" s_Level_span f fd) {aTh aG aC : Addr} {tE tM tN tF u1 u2 u3 u4 u5 u6 u7 u8 : Tok} (B : B P w K mg aTh aG aC tE tM tN tF u1 u2 u3 u4 u5 u6 u7 u8) (c_Level : Cls K cLevel) (n_low : NoAttr K cLevel "low") (n_high : NoAttr K cLevel "high") (n_value : NoAttr K cLevel "value") : FnOk P w K mg base CX0 1 f fd ["self"] (spSpan K .level cLevel) := by
  refine F.okJ sc_Level_span (fun vs H Q E h => ?_) (fun cdv A outer s H vs Q E hr h => ?_)
  · obtain ⟨a, us, rfl, _⟩ := h
    rfl
  obtain ⟨a, us, rfl, ok, ⟨dx, ha⟩, q⟩ := h
  obtain ⟨u0, u1, u2, rfl, o1, o2⟩ := ok
  refine ⟨_, (bone (sret (etupQ (acons (efld (ev 0)) (acons (efld (ev 0)) anil))))), ?_⟩
  try walk_at "rn"
  exact ⟨_, _, _, ha, c_Level, n_low, _, rfl, _, _, _, ha, c_Level, n_high, _, rfl, q⟩
theorem sc_Deed_action : FnScope ["self"] ["self"] (defScope s_Deed_action) := ⟨rfl, rfl, rfl, by decide +kernel, rfl, by decide +kernel, by decide +kernel⟩
theorem ok_Deed_action {f : Addr} {fd : FuncData} (F : Fun K "action" "Deed.action" s_Deed_action f fd) {aTh aG aC : Addr} {tE tM tN tF u1 u2 u3 u4 u5 u6 u7 u8 : Tok} (B : B P w K mg aTh aG aC tE tM tN tF u1 u2 u3 u4 u5 u6 u7 u8) : FnOk P w K mg base CX0 1 f fd ["self"] spNon := by
  refine F.okJ sc_Deed_action (fun vs H Q E h => ?_) (fun cdv A outer s H vs Q E hr h => ?_)
  · obtain ⟨a, rfl, _⟩ := h
    rfl
  obtain ⟨a, rfl, q⟩ := h
  refine ⟨_, (bone (sret enon)), ?_⟩
  try walk_at "rn"
  exact q
theorem sc_Deed_span : FnScope ["self"] ["self"] (defScope s_Deed_span) := ⟨rfl, rfl, rfl, by decide +kernel, rfl, by decide +kernel, by decide +kernel⟩
theorem ok_Deed_span {f : Addr} {fd : FuncData} (F : Fun K "span" "Deed.span" s_Deed_span f fd) {aTh aG aC : Addr} {tE tM tN tF u1 u2 u3 u4 u5 u6 u7 u8 : Tok} (B : B P w K mg aTh aG aC tE tM tN tF u1 u2 u3 u4 u5 u6 u7 u8) : FnOk P w K mg base CX0 1 f fd ["self"] spNon := by
  refine F.okJ sc_Deed_span (fun vs H Q E h => ?_) (fun cdv A outer s H vs Q E hr h => ?_)
  · obtain ⟨a, rfl, _⟩ := h
    rfl
  obtain ⟨a, rfl, q⟩ := h
  refine ⟨_, (bone (sret enon)), ?_⟩
  try walk_at "rn"
  exact q
end
theorem lc_mapXT {α : Type} {K : PySem.W.Frag} {c D : Addr} {L : List α} {f g : α → V} {te : TE} {v0 : Option V} {rest : St} {H : Hp} {Q : Hp → Prop} (hk : tupQ K H c = some (L.map f)) (nD : new K H D) (hz : L.length ≤ 1000)
    (elt : ∀ q ∈ L, ∀ H' (Q : VK), Ext K H H' → (∀ H'', Ext K H' H'' → Q (g q) H'') → te (some (f q) :: rest) H' Q)
    (fin : ∀ H', H' D = some (.lst (L.map g)) → Ext K H H' → Q H') : LcLoop (Itt K c) (gName 0) tYes te D Q (v0 :: rest) (upd H D (.lst [])) := by
  refine lc_tup (xs := L.map f) (fun i acc σ' H' => ∃ (v0 : Option V), σ' = v0 :: rest ∧ H' D = some (.lst acc) ∧ acc = (L.take i).map g ∧ Kp K D (upd H D (.lst [])) H') ?_ ?_ ?_ ?_
  · exact ⟨_, rfl, upd_same, rfl, Kp.refl⟩
  · rintro i acc σ' H' _ ⟨v0, rfl, hD, rfl, k⟩
    exact tupQ_sq ((k.ext nD).tup hk)
  · rintro i x acc σ' H' hx ⟨v0, rfl, hD, rfl, k⟩
    rw [List.getElem?_map] at hx
    obtain ⟨q, ek, rfl⟩ := Option.map_eq_some_iff.mp hx
    have hlen : ((L.take i).map g).length ≤ 1000 := by rw [List.length_map, List.length_take]; omega
    unfold gName tYes
    refine iteT ?_
    refine elt q (List.mem_of_getElem? ek) H' _ (k.ext nD) fun H'' x'' => ⟨x''.at hD, Nat.lt_of_le_of_lt hlen (by decide), _, rfl, upd_same, ?_, k.trans (x''.kp.trans (Kp.upd (x''.at hD)))⟩
    rw [List.take_add_one, ek, Option.toList_some, List.map_append]
    rfl
  · rintro acc σ' H' ⟨v0, rfl, hD, rfl, k⟩
    rw [List.length_map, List.take_length] at hD
    exact fin H' hD (k.ext nD)
abbrev Itm := Str ⊕ Int
def itV : Itm → V
  | .inl t => .str t
  | .inr i => .int i
def numT (i : Int) : Str := Str.ofString (toString i)
def itT : Itm → Str
  | .inl t => t
  | .inr i => numT i
def Kd.items (k : Kd) (us : List Int) : List Itm := .inl k.word :: us.map .inr
def Kd.text (k : Kd) (us : List Int) : Str := Str.join (Str.ofString " ") ((k.items us).map itT)
theorem Kd.told_items (k : Kd) (us : List Int) : k.told us = (k.items us).map itV := by
  unfold Kd.told Kd.items
  rw [List.map_cons, List.map_map]
  rfl
def itS : Itm → Prop
  | .inl t => t.length ≤ 101
  | .inr i => i.natAbs < 10 ^ 100
theorem numT_len {i : Int} (h : i.natAbs < 10 ^ 100) : (numT i).length ≤ 101 := by
  unfold numT
  rw [PySem.ofString_length]
  exact int_text_length_le10 (by decide) h
theorem num_log {i : Int} (h : i.natAbs < 10 ^ 100) : i.natAbs.log2 < 1920 := by
  by_cases e : i.natAbs = 0
  · rw [e]; decide
  · exact Nat.lt_trans ((Nat.log2_lt (k := 400) e).2 (Nat.lt_trans h (by decide))) (by decide)
theorem itS_len {q : Itm} (h : itS q) : (itT q).length ≤ 101 := by
  cases q with
  | inl t => exact h
  | inr i => exact numT_len h
theorem Kd.small {k : Kd} {us : List Int} (h : k.ok us) : us.length ≤ 3 ∧ ∀ i ∈ us, i.natAbs < 10 ^ 100 := by
  cases k <;> simp only [Kd.ok, okKey, okAm, okSt] at h
  · obtain ⟨a, b, rfl, h1, h2⟩ := h; exact ⟨by simp, by simp only [List.mem_cons, List.not_mem_nil, or_false]; rintro i (rfl | rfl) <;> omega⟩
  · obtain ⟨a, rfl, h1⟩ := h; exact ⟨by simp, by simp only [List.mem_cons, List.not_mem_nil, or_false]; rintro i rfl; omega⟩
  · obtain ⟨a, b, rfl, h1, h2⟩ := h; exact ⟨by simp, by simp only [List.mem_cons, List.not_mem_nil, or_false]; rintro i (rfl | rfl) <;> omega⟩
  · obtain ⟨a, b, rfl, h1⟩ := h; exact ⟨by simp, by simp only [List.mem_cons, List.not_mem_nil, or_false]; rintro i (rfl | rfl) <;> omega⟩
  · obtain ⟨a, b, c, rfl, h1, h2⟩ := h; exact ⟨by simp, by simp only [List.mem_cons, List.not_mem_nil, or_false]; rintro i (rfl | rfl | rfl) <;> omega⟩
  · obtain ⟨a, b, c, rfl, h1, h2⟩ := h; exact ⟨by simp, by simp only [List.mem_cons, List.not_mem_nil, or_false]; rintro i (rfl | rfl | rfl) <;> omega⟩
  · subst h; exact ⟨by simp, by simp⟩
  · obtain ⟨a, rfl, h1⟩ := h; exact ⟨by simp, by simp only [List.mem_cons, List.not_mem_nil, or_false]; rintro i rfl; omega⟩
theorem Kd.itsS {k : Kd} {us : List Int} (h : k.ok us) : (k.items us).length ≤ 4 ∧ ∀ q ∈ k.items us, itS q := by
  obtain ⟨h1, h2⟩ := Kd.small h
  refine ⟨by simp only [Kd.items, List.length_cons, List.length_map]; omega, fun q hq => ?_⟩
  rcases List.mem_cons.mp hq with rfl | hq
  · show k.word.length ≤ 101
    cases k <;> decide +kernel
  · obtain ⟨i, hi, rfl⟩ := List.mem_map.mp hq
    exact h2 i hi
theorem lenAll_le {sep : Str} {m : Nat} (ts : List Str) (h : ∀ t ∈ ts, t.length ≤ m) : lenAll sep ts ≤ ts.length * (m + sep.length) := by
  have e : ∀ (ts : List Str) (k : Nat), (∀ t ∈ ts, t.length ≤ m) → ts.foldl (fun n x => n + x.length + sep.length) k ≤ k + ts.length * (m + sep.length) := by
    intro ts
    induction ts with
    | nil => intro k _; simp
    | cons x r ih =>
      intro k h
      rw [List.foldl_cons, List.length_cons, Nat.add_mul]
      have h1 := ih (k + x.length + sep.length) fun t m => h t (List.mem_cons_of_mem _ m)
      have h2 := h x List.mem_cons_self
      omega
  have := e ts 0 h
  unfold lenAll
  omega
theorem join_le {sep : Str} {m : Nat} : ∀ (ts : List Str), (∀ t ∈ ts, t.length ≤ m) → (Str.join sep ts).length ≤ ts.length * (m + sep.length)
  | [], _ => by simp [Str.join, Str.empty, Str.length]
  | [x], h => by
    have := h x List.mem_cons_self
    show x.length ≤ 1 * (m + sep.length)
    omega
  | x :: y :: r, h => by
    have e := join_le (sep := sep) (y :: r) fun t m => h t (List.mem_cons_of_mem _ m)
    have h2 := h x List.mem_cons_self
    show (x ++ sep ++ Str.join sep (y :: r)).length ≤ _
    rw [Str.length_append, Str.length_append, List.length_cons (a := x), Nat.add_mul]
    omega
def Kd.toldD (k : Kd) (us : List Int) : PyData := .tuple (.str k.word :: us.map .int)
def Kd.note (k : Kd) (us : List Int) (n : Int) : PyData := match k.span us with
  | some (l, h) => .tuple [.int n, .int l, .int h, k.act us]
  | none => .none
section
variable {P : Program} {w : World} {K : PySem.W.Frag} {mg : Str → Option Value} {base : Heap}
structure DC (K : PySem.W.Frag) (C cDeed : Addr) : Prop where
  cl : Cls K C
  ca : PySem.W.findIn K (.ref C) "__class__" = some (some (.builtin "object.__class__"))
  gt : PySem.W.specialIn K (.builtin "object.__class__") "__get__" = some (some (.builtin "getset_descriptor.__get__"))
  tk : PySem.W.takesIn K (.builtin "object.__class__") = some true
  mo : PySem.W.mroIn K C (.type "object") = some true
  isD : PySem.W.kitOne K (.ref C) (.ref cDeed) = some true
theorem zip_no {f : Str} : ∀ {ns : List Str} {vs : List V}, f ∉ ns → (ns.zip vs).lookup f = none
  | [], _, _ => rfl
  | n :: ns, [], _ => rfl
  | n :: ns, v :: vs, h => by
    rw [List.zip_cons_cons, List.lookup_cons]
    have : (f == n) = false := by simpa using fun e : f = n => h (by rw [e]; exact List.mem_cons_self)
    rw [this]
    exact zip_no fun m => h (List.mem_cons_of_mem _ m)
theorem no_told (k : Kd) (us : List Int) : (k.flds us).lookup ("told" : Str) = none := zip_no (show ("told" : Str) ∉ k.names by cases k <;> decide +kernel)
theorem no_span (k : Kd) (us : List Int) : (k.flds us).lookup ("span" : Str) = none := zip_no (show ("span" : Str) ∉ k.names by cases k <;> decide +kernel)
theorem no_action (k : Kd) (us : List Int) : (k.flds us).lookup ("action" : Str) = none := zip_no (show ("action" : Str) ∉ k.names by cases k <;> decide +kernel)
theorem shaped_told {k : Kd} {us : List Int} (ok : k.ok us) : SeqAt.shaped (k.toldD us) = true := by
  cases k
  · obtain ⟨a, b, rfl, _⟩ := ok; simp only [SeqAt.shaped, Kd.toldD, List.map, PyData.canLay0, PyData.canLayAll0, PyData.depth, PyData.depthAll]; decide +kernel
  · obtain ⟨a, rfl, _⟩ := ok; simp only [SeqAt.shaped, Kd.toldD, List.map, PyData.canLay0, PyData.canLayAll0, PyData.depth, PyData.depthAll]; decide +kernel
  · obtain ⟨a, b, rfl, _⟩ := ok; simp only [SeqAt.shaped, Kd.toldD, List.map, PyData.canLay0, PyData.canLayAll0, PyData.depth, PyData.depthAll]; decide +kernel
  · obtain ⟨a, b, rfl, _⟩ := ok; simp only [SeqAt.shaped, Kd.toldD, List.map, PyData.canLay0, PyData.canLayAll0, PyData.depth, PyData.depthAll]; decide +kernel
  · obtain ⟨a, b, c, rfl, _⟩ := ok; simp only [SeqAt.shaped, Kd.toldD, List.map, PyData.canLay0, PyData.canLayAll0, PyData.depth, PyData.depthAll]; decide +kernel
  · obtain ⟨a, b, c, rfl, _⟩ := ok; simp only [SeqAt.shaped, Kd.toldD, List.map, PyData.canLay0, PyData.canLayAll0, PyData.depth, PyData.depthAll]; decide +kernel
  · obtain rfl := ok; simp only [SeqAt.shaped, Kd.toldD, List.map, PyData.canLay0, PyData.canLayAll0, PyData.depth, PyData.depthAll]; decide +kernel
  · obtain ⟨a, rfl, _⟩ := ok; simp only [SeqAt.shaped, Kd.toldD, List.map, PyData.canLay0, PyData.canLayAll0, PyData.depth, PyData.depthAll]; decide +kernel
def spFig : Sp := fun vs H Q _ => ∃ i : Int, vs = [.int i] ∧ i.natAbs < 10 ^ 100 ∧ Q (.str (numT i)) H
def spWordOf : Sp := fun vs H Q _ => ∃ q : Itm, vs = [itV q] ∧ itS q ∧ Q (.str (itT q)) H
def spNote (K : PySem.W.Frag) (cs : Cs) : Sp := fun vs H Q _ => ∃ a n k us, vs = [.ref a, .int n] ∧ Kd.ok k us ∧ DeedAt (cs.at k) H a k us ∧ ∀ v H', Ext K H H' → Is K H' (k.note us n) v → Q v H'
def spStr (K : PySem.W.Frag) (cs : Cs) : Sp := fun vs H Q _ => ∃ a k us, vs = [.ref a] ∧ Kd.ok k us ∧ DeedAt (cs.at k) H a k us ∧ ∀ H', Ext K H H' → Q (.str (k.text us)) H'
def spEq (K : PySem.W.Frag) (cs : Cs) (cDeed : Addr) : Sp := fun vs H Q _ => ∃ a v k us, vs = [.ref a, v] ∧ Kd.ok k us ∧ DeedAt (cs.at k) H a k us ∧
  ((∃ b k' us', v = .ref b ∧ Kd.ok k' us' ∧ DeedAt (cs.at k') H b k' us' ∧ ∀ H', Ext K H H' → Q (.bl (PyData.eqv (k.toldD us) (k'.toldD us'))) H') ∨ (∃ t, TyQ K H v t ∧ PySem.W.kitOne K t (.ref cDeed) = some false ∧ Q (.bl false) H))
def spForm (K : PySem.W.Frag) : Sp := fun vs H Q _ => ∃ r k us, vs = [.ref r] ∧ tupQ K H r = some (Kd.told k us) ∧ Kd.ok k us ∧ Q (.bl true) H
def spDeed (K : PySem.W.Frag) (cs : Cs) : Sp := fun vs H Q _ => ∃ r k us, vs = [.ref r] ∧ tupQ K H r = some (Kd.told k us) ∧ Kd.ok k us ∧ ∀ a H', Ext K H H' → DeedAt (cs.at k) H' a k us → Q (.ref a) H'
theorem DeedAt.ext {C : Addr} {H H' : Hp} {a : Addr} {k : Kd} {us : List Int} (h : DeedAt C H a k us) (x : Ext K H H') : DeedAt C H' a k us := let ⟨dx, e⟩ := h; ⟨dx, x.at e⟩
theorem DeedAt.ty {C cDeed : Addr} {H : Hp} {a : Addr} {k : Kd} {us : List Int} (h : DeedAt C H a k us) (d : DC K C cDeed) : TyOf K H (.ref a) (.ref C) := let ⟨_, e⟩ := h; .ins e d.cl d.ca d.gt d.tk d.mo
theorem isAll_ints {H : Hp} : ∀ us : List Int, IsAll K H (us.map PyData.int) (us.map V.int)
  | [] => by unfold IsAll; rfl
  | i :: us => by
    rw [List.map_cons, List.map_cons]
    unfold IsAll
    exact ⟨_, _, rfl, by unfold Is; rfl, isAll_ints us⟩
theorem isTold {H : Hp} {T : Addr} {k : Kd} {us : List Int} (h : tupQ K H T = some (k.told us)) : Is K H (k.toldD us) (.ref T) := by
  unfold Kd.toldD Is
  refine ⟨T, _, rfl, tupQ_sq h, ?_⟩
  unfold IsAll
  exact ⟨_, _, rfl, by unfold Is; rfl, isAll_ints us⟩
theorem sc_figures_of : FnScope ["number"] ["number"] (defScope s_figures_of) := ⟨rfl, rfl, rfl, by decide +kernel, rfl, by decide +kernel, by decide +kernel⟩
theorem ok_figures_of {f : Addr} {fd : FuncData} (F : Fun K "figures_of" "figures_of" s_figures_of f fd) {aTh aG aC : Addr} {tE tM tN tF u1 u2 u3 u4 u5 u6 u7 u8 : Tok} (B : B P w K mg aTh aG aC tE tM tN tF u1 u2 u3 u4 u5 u6 u7 u8)  : FnOk P w K mg base CX0 1 f fd ["number"] spFig := by
  refine F.okJ sc_figures_of (fun vs H Q E h => ?_) (fun cdv A outer s H vs Q E hr h => ?_)
  · obtain ⟨i, rfl, _⟩ := h
    rfl
  obtain ⟨i, rfl, h, q⟩ := h
  refine ⟨_, (bone (sret (ecallTy call_str_int rfl B.str bt_str (acons (ev 0) anil)))), ?_⟩
  try walk_at "rn"
  exact ⟨num_log h, q⟩
theorem sc_word_of : FnScope ["thing"] ["thing"] (defScope s_word_of) := ⟨rfl, rfl, rfl, by decide +kernel, rfl, by decide +kernel, by decide +kernel⟩
theorem ok_word_of {f : Addr} {fd : FuncData} (F : Fun K "word_of" "word_of" s_word_of f fd) {aTh aG aC : Addr} {tE tM tN tF u1 u2 u3 u4 u5 u6 u7 u8 : Tok} (B : B P w K mg aTh aG aC tE tM tN tF u1 u2 u3 u4 u5 u6 u7 u8) (C_figures_of : Callee P w K mg base "figures_of" 1 ["number"] spFig) : FnOk P w K mg base CX0 2 f fd ["thing"] spWordOf := by
  refine F.okJ sc_word_of (fun vs H Q E h => ?_) (fun cdv A outer s H vs Q E hr h => ?_)
  · obtain ⟨z, rfl, _⟩ := h
    rfl
  obtain ⟨z, rfl, sz, q⟩ := h
  refine ⟨_, (bone (sret (eif (tval (ecallB call_isinstQ rfl B.isinstance bt_isinstance (acons (ev 0) (acons (etyp rfl B.str bt_str) anil)))) (ev 0) (ecall C_figures_of (hr.mono (by decide)) rfl (acons (ev 0) anil))))), ?_⟩
  try walk_at "rn"
  cases z with
  | inl t => exact ⟨_, .inl (.str _), true, rfl, q⟩
  | inr i => exact ⟨_, .inl (.int _), false, rfl, i, rfl, sz, q⟩
theorem sc_Deed_note : FnScope ["self", "number", "span", "low", "high"] ["self", "number"] (defScope s_Deed_note) := ⟨rfl, rfl, rfl, by decide +kernel, rfl, by decide +kernel, by decide +kernel⟩
theorem ok_Deed_note {f : Addr} {fd : FuncData} (F : Fun K "note" "Deed.note" s_Deed_note f fd) {aTh aG aC : Addr} {tE tM tN tF u1 u2 u3 u4 u5 u6 u7 u8 : Tok} (B : B P w K mg aTh aG aC tE tM tN tF u1 u2 u3 u4 u5 u6 u7 u8) {cs : Cs} (MS : ∀ k : Kd, MethC P w K mg base (cs.at k) "span" 1 ["self"] [] (spSpan K k (cs.at k))) (MA : ∀ k : Kd, MethC P w K mg base (cs.at k) "action" 1 ["self"] [] (spAct K k (cs.at k))) {cDeed : Addr} (dc : ∀ k : Kd, DC K (cs.at k) cDeed) : FnOk P w K mg base CX0 2 f fd ["self", "number"] (spNote K cs) := by
  refine F.okJ sc_Deed_note (fun vs H Q E h => ?_) (fun cdv A outer s H vs Q E hr h => ?_)
  · obtain ⟨a, n, k, us, rfl, _⟩ := h
    rfl
  obtain ⟨a, n, k, us, rfl, ok, ha, q⟩ := h
  refine ⟨_, (bcons (sset (i := 2) sc_Deed_note.nd rfl (Or.inl rfl) (emeth0 (MS k) (dc k).cl (hr.mono (by decide)) (ev 0)))
      (bcons (sif (tcmp op_isN (ev 2) enon (nomark _)) (bone (sret enon)) bnil)
      (bcons (sasg (ev 2) (gtupQ (n := 2) rfl (gcons (gname (i := 3) sc_Deed_note.nd rfl (Or.inl rfl)) (gcons (gname (i := 4) sc_Deed_note.nd rfl (Or.inl rfl)) gnil))))
      (bone (sret (etupQ (acons (ev 1) (acons (ev 3) (acons (ev 4) (acons (emeth0 (MA k) (dc k).cl (hr.mono (by decide)) (ev 0)) anil)))))))))), ?_⟩
  try walk_at "rn"
  obtain ⟨dx, e⟩ := ha
  refine ⟨dx, _, e, no_span k us, a, us, rfl, ok, ⟨dx, e⟩, ?_⟩
  unfold Kd.note at q
  cases hsp : k.span us with
  | none =>
    rw [hsp] at q
    exact iteT' rfl (q _ _ Ext.refl (by unfold Is; rfl))
  | some lh =>
    obtain ⟨l, h⟩ := lh
    rw [hsp] at q
    intro T nT
    refine iteF' (by simp) ⟨T, rfl, _, tupQ_updT, rfl, _, _, rfl, _, _, rfl, rfl, dx, _, (Ext.new nT).at e, no_action k us, a, us, rfl, ok, ⟨dx, (Ext.new nT).at e⟩, fun v H' x' hv => ?_⟩
    intro T2 n2
    refine q _ _ ((Ext.new nT).trans (x'.trans (Ext.new n2))) ?_
    unfold Is
    refine ⟨T2, _, rfl, tupQ_sq tupQ_updT, ?_⟩
    simp only [IsAll]
    exact ⟨_, _, rfl, by unfold Is; rfl, _, _, rfl, by unfold Is; rfl, _, _, rfl, by unfold Is; rfl, _, _, rfl, Is.same (Ext.new n2).same hv, rfl⟩
theorem sc_Deed___str__ : FnScope ["self"] ["self"] (defScope s_Deed___str__) := ⟨rfl, rfl, rfl, by decide +kernel, rfl, by decide +kernel, by decide +kernel⟩
theorem ok_Deed___str__ {f : Addr} {fd : FuncData} (F : Fun K "__str__" "Deed.__str__" s_Deed___str__ f fd) {aTh aG aC : Addr} {tE tM tN tF u1 u2 u3 u4 u5 u6 u7 u8 : Tok} (B : B P w K mg aTh aG aC tE tM tN tF u1 u2 u3 u4 u5 u6 u7 u8) {cs : Cs} (MT : ∀ k : Kd, MethC P w K mg base (cs.at k) "told" 1 ["self"] [] (spTold K k (cs.at k))) {cDeed : Addr} (dc : ∀ k : Kd, DC K (cs.at k) cDeed) (C_word_of : Callee P w K mg base "word_of" 2 ["thing"] spWordOf) : FnOk P w K mg base CX0 3 f fd ["self"] (spStr K cs) := by
  refine F.okJ sc_Deed___str__ (fun vs H Q E h => ?_) (fun cdv A outer s H vs Q E hr h => ?_)
  · obtain ⟨a, k, us, rfl, _⟩ := h
    rfl
  obtain ⟨a, k, us, rfl, ok, ha, q⟩ := h
  refine ⟨_, (bone (sret (ebm PySem.F.plainAttrs_str PySem.F.slot_str_join PySem.F.type_str_join mt_join estr (acons (elc (Cap.mk (N := ["thing"]) (src := [none]) rfl rfl) rfl (itup (emeth0 (MT k) (dc k).cl (hr.mono (by decide)) (ev 0))) (fun _ _ _ _ => (gname (i := 0) (show (["thing"] : List Str).Nodup from by decide +kernel) rfl (Or.inl rfl))) (fun _ _ _ _ => fnone) (fun _ _ _ _ => (ecall C_word_of (hr.mono (by decide)) rfl (acons (ev 0) anil)))) anil)))), ?_⟩
  try walk_at "rn"
  obtain ⟨dx, e⟩ := ha
  obtain ⟨z1, z2⟩ := Kd.itsS ok
  refine ⟨dx, _, e, no_told k us, a, us, rfl, ok, ⟨dx, e⟩, fun T nT => ⟨T, rfl, ⟨_, tupQ_sq tupQ_updT⟩, fun D nD => ?_⟩⟩
  have hk : tupQ K (upd H T (.tup (k.told us))) T = some ((k.items us).map itV) := by rw [← Kd.told_items]; exact tupQ_updT
  refine lc_mapXT (f := itV) (g := fun q => V.str (itT q)) hk nD (by omega) (fun z hz H' Q' xx qq => ?_) (fun H1 hD x1 => ?_)
  · try walk_at "rn"
    exact ⟨z, rfl, z2 z hz, qq _ Ext.refl⟩
  have z3 : ∀ t ∈ (k.items us).map itT, t.length ≤ 101 := fun t ht => by
    obtain ⟨z, hz, rfl⟩ := List.mem_map.mp ht
    exact itS_len (z2 z hz)
  have l1 := lenAll_le (sep := Str.ofString " ") _ z3
  have l2 := join_le (sep := Str.ofString " ") _ z3
  rw [List.length_map, show (Str.ofString " ").length = 1 from by decide +kernel] at l1 l2
  have sz := sizeLine_eq
  refine ⟨_, D, (k.items us).map itT, rfl, rfl, by rw [List.map_map]; exact SqL.of hD, by omega, by omega, q _ ((Ext.new nT).trans x1)⟩
theorem sc_Deed___eq__ : FnScope ["self", "other"] ["self", "other"] (defScope s_Deed___eq__) := ⟨rfl, rfl, rfl, by decide +kernel, rfl, by decide +kernel, by decide +kernel⟩
theorem ok_Deed___eq__ {f : Addr} {fd : FuncData} (F : Fun K "__eq__" "Deed.__eq__" s_Deed___eq__ f fd) {aTh aG aC : Addr} {tE tM tN tF u1 u2 u3 u4 u5 u6 u7 u8 : Tok} (B : B P w K mg aTh aG aC tE tM tN tF u1 u2 u3 u4 u5 u6 u7 u8) {cs : Cs} (MT : ∀ k : Kd, MethC P w K mg base (cs.at k) "told" 1 ["self"] [] (spTold K k (cs.at k))) {cDeed : Addr} (dc : ∀ k : Kd, DC K (cs.at k) cDeed) (Dd : mg "Deed" = some (.ref cDeed)) : FnOk P w K mg base CX0 2 f fd ["self", "other"] (spEq K cs cDeed) := by
  refine F.okJ sc_Deed___eq__ (fun vs H Q E h => ?_) (fun cdv A outer s H vs Q E hr h => ?_)
  · obtain ⟨a, v, k, us, rfl, _⟩ := h
    rfl
  obtain ⟨a, v, k, us, rfl, ok, ⟨dx, ea⟩, ⟨b, k', us', rfl, ok', hb, q⟩ | ⟨t, ty, kt, q⟩⟩ := h
  · refine ⟨_, (bone (sret (eand (ecallB call_isinstCQ rfl B.isinstance bt_isinstance (acons (ev 1) (acons (eglob rfl Dd (show RelV (.ref cDeed) (.ref cDeed) from rfl)) anil))) (eone (ecmp (op_eqD hr.units) (emeth0 (MT k) (dc k).cl (hr.mono (by decide)) (ev 0)) (emeth0 (MT k') (dc k').cl (hr.mono (by decide)) (ev 1)) (nomark _)))))), ?_⟩
    try walk_at "rn"
    refine ⟨_, .inl (hb.ty (dc k')), true, (dc k').isD, iteT' rfl ?_⟩
    obtain ⟨dy, eb⟩ := hb
    exact ⟨dx, _, ea, no_told k us, a, us, rfl, ok, ⟨dx, ea⟩, fun T nT => ⟨dy, _, (Ext.new nT).at eb, no_told k' us', b, us', rfl, ok', ⟨dy, (Ext.new nT).at eb⟩, fun T2 n2 => ⟨_, isTold ((Ext.new n2).tup tupQ_updT), _, isTold tupQ_updT, shaped_told ok, shaped_told ok', q _ ((Ext.new nT).trans (Ext.new n2))⟩⟩⟩
  · obtain ⟨k', _⟩ : ∃ k' : Kd, k' = k := ⟨k, rfl⟩
    refine ⟨_, (bone (sret (eand (ecallB call_isinstCQ rfl B.isinstance bt_isinstance (acons (ev 1) (acons (eglob rfl Dd (show RelV (.ref cDeed) (.ref cDeed) from rfl)) anil))) (eone (ecmp (op_eqD hr.units) (emeth0 (MT k) (dc k).cl (hr.mono (by decide)) (ev 0)) (emeth0 (MT k') (dc k').cl (hr.mono (by decide)) (ev 1)) (nomark _)))))), ?_⟩
    try walk_at "rn"
    exact ⟨t, ty, false, kt, iteF' (by decide) q⟩
theorem sc_has_form : FnScope ["told"] ["told"] (defScope s_has_form) := ⟨rfl, rfl, rfl, by decide +kernel, rfl, by decide +kernel, by decide +kernel⟩
theorem ok_has_form {f : Addr} {fd : FuncData} (F : Fun K "has_form" "has_form" s_has_form f fd) {aTh aG aC : Addr} {tE tM tN tF u1 u2 u3 u4 u5 u6 u7 u8 : Tok} (B : B P w K mg aTh aG aC tE tM tN tF u1 u2 u3 u4 u5 u6 u7 u8)  : FnOk P w K mg base CX0 1 f fd ["told"] (spForm K) := by
  refine F.okJ sc_has_form (fun vs H Q E h => ?_) (fun cdv A outer s H vs Q E hr h => ?_)
  · obtain ⟨r, k, us, rfl, _⟩ := h
    rfl
  obtain ⟨r, k, us, rfl, hr1, ok, q⟩ := h
  refine ⟨_, (bcons (sif (tw (wor (tnot (tval (ecallB call_isinstQ rfl B.isinstance bt_isinstance (acons (ev 0) (acons (etyp rfl B.tuple bt_tuple) anil))))) (wor (tcmp op_eq (ecallB call_lenQ rfl B.len bt_len (acons (ev 0) anil)) ei (nomark _)) (wor1 (tnot (tval (ecallB call_isinstQ rfl B.isinstance bt_isinstance (acons (eix ix_Q (ev 0) ei (fun _ _ => rfl)) (acons (etyp rfl B.str bt_str) anil))))))))) (bone (sret ebl)) bnil)
      (bone (sret (eand (ecmp (op_inKD B.things) (eix ix_Q (ev 0) ei (fun _ _ => rfl)) (eglob rfl B.THINGS B.THINGS_is) (by with_unfolding_all rfl)) (eone (ecmp op_eq (ecallB call_lenQ rfl B.len bt_len (acons (ev 0) anil)) (ekdget B.things (eglob rfl B.THINGS B.THINGS_is) (eix ix_Q (ev 0) ei (fun _ _ => rfl)) (fun _ _ => rfl)) (nomark _))))))), ?_⟩
  try walk_at "rn"
  refine ⟨_, .inr ⟨_, _, rfl, hr1, rfl⟩, true, rfl, ?_⟩
  simp only [tSeq, tNext, tIfS, tAsg, gName, gSub, tRet, tRetN, tDrop, tVar, tC, tOp, tUn, rI0, rI, rU, tTest, tB, tAndV, tOrV, tNotV, tAnd, tOr, tNot, tIf, tChain, tCB, tCons, tNil, tLst, tTup, tCallC, List.getElem?_cons_zero, List.getElem?_cons_succ, List.set_cons_zero, List.set_cons_succ, Option.some.injEq, V.int.injEq, V.bl.injEq, V.ref.injEq, V.ty.injEq, V.str.injEq, List.cons.injEq, exists_eq_left', exists_eq_left, exists_and_left, and_true, true_and, and_assoc, cxK, rIxF, rSetL, rEq, rNe, scal, HO.lst.injEq, HO.tup.injEq, upd_none, ixN_10, ixN_20, ixN_21, ixN_30, ixN_31, ixN_32, upd_same, seqAt_updL, seqAt_updT, atI_0, atI_1, atI_2, atI_3, decide_eq_true_eq, L2.start, List.map_cons, List.map_nil, List.length_cons, List.length_nil, Nat.reduceAdd, Nat.reduceSub, List.replicate_succ, List.replicate_zero, List.cons_append, List.nil_append, List.append_nil, tFor_rng1, tFor_rng2, tFor_list, tFor_tup, CDv, CMul, CPow, sizeLine_eq, Int.reduceLE, Int.reduceLT, Int.reducePow, Int.reduceToNat, Int.reduceAdd, Int.reduceSub, Int.reduceMul, Int.reduceNeg, Nat.reduceLeDiff, Nat.reducePow, Nat.reduceLT, Int.reduceEq, true_or, or_true, ite_true, ite_false, if_true, if_false, Bool.not_true, Bool.not_false, Bool.false_eq_true, decide_true, decide_false, rIxQ, seqQ_updL, seqQ_updT, tupQ_updT, tSl, tNoPart, tPart, rSlQ, rSlTX, rCatQ, rCatTX, rCatTX0, tTupQ, tLstQ, tNever, rEqD, rInQ, gTupQ, gCons, gNil, tBM, rAppend, tMakeQ, sFld, tFld, tMeth, tBM0, cxN, tCall, pick_nil, pick_own, pick_cap, join_some, tLc_list, tYes, tyV, tFor_list, rEqO, rNeO, rInO, tLc_tup, gStarL, rIxS, rIsascii, rIsdigit, rRemPre, rSplit, seqQ_T hr1]
  cases k
  · obtain ⟨a, b, rfl, _⟩ := ok
    exact iteF' (by simp [Kd.told]) ⟨_, atI_0, _, .inl (.str _), true, rfl, iteF' (by decide) ⟨_, atI_0, .inr "put", rfl, iteT' rfl ⟨_, atI_0, .inr "put", rfl, .int 3, .int 3 u1, rfl, ⟨_, rfl⟩, rfl, q⟩⟩⟩
  · obtain ⟨a, rfl, _⟩ := ok
    exact iteF' (by simp [Kd.told]) ⟨_, atI_0, _, .inl (.str _), true, rfl, iteF' (by decide) ⟨_, atI_0, .inr "drop", rfl, iteT' rfl ⟨_, atI_0, .inr "drop", rfl, .int 2, .int 2 u2, rfl, ⟨_, rfl⟩, rfl, q⟩⟩⟩
  · obtain ⟨a, b, rfl, _⟩ := ok
    exact iteF' (by simp [Kd.told]) ⟨_, atI_0, _, .inl (.str _), true, rfl, iteF' (by decide) ⟨_, atI_0, .inr "add", rfl, iteT' rfl ⟨_, atI_0, .inr "add", rfl, .int 3, .int 3 u3, rfl, ⟨_, rfl⟩, rfl, q⟩⟩⟩
  · obtain ⟨a, b, rfl, _⟩ := ok
    exact iteF' (by simp [Kd.told]) ⟨_, atI_0, _, .inl (.str _), true, rfl, iteF' (by decide) ⟨_, atI_0, .inr "wipe", rfl, iteT' rfl ⟨_, atI_0, .inr "wipe", rfl, .int 3, .int 3 u4, rfl, ⟨_, rfl⟩, rfl, q⟩⟩⟩
  · obtain ⟨a, b, c, rfl, _⟩ := ok
    exact iteF' (by simp [Kd.told]) ⟨_, atI_0, _, .inl (.str _), true, rfl, iteF' (by decide) ⟨_, atI_0, .inr "raise", rfl, iteT' rfl ⟨_, atI_0, .inr "raise", rfl, .int 4, .int 4 u5, rfl, ⟨_, rfl⟩, rfl, q⟩⟩⟩
  · obtain ⟨a, b, c, rfl, _⟩ := ok
    exact iteF' (by simp [Kd.told]) ⟨_, atI_0, _, .inl (.str _), true, rfl, iteF' (by decide) ⟨_, atI_0, .inr "level", rfl, iteT' rfl ⟨_, atI_0, .inr "level", rfl, .int 4, .int 4 u6, rfl, ⟨_, rfl⟩, rfl, q⟩⟩⟩
  · obtain rfl := ok
    exact iteF' (by simp [Kd.told]) ⟨_, atI_0, _, .inl (.str _), true, rfl, iteF' (by decide) ⟨_, atI_0, .inr "mark", rfl, iteT' rfl ⟨_, atI_0, .inr "mark", rfl, .int 1, .int 1 u7, rfl, ⟨_, rfl⟩, rfl, q⟩⟩⟩
  · obtain ⟨a, rfl, _⟩ := ok
    exact iteF' (by simp [Kd.told]) ⟨_, atI_0, _, .inl (.str _), true, rfl, iteF' (by decide) ⟨_, atI_0, .inr "forget", rfl, iteT' rfl ⟨_, atI_0, .inr "forget", rfl, .int 2, .int 2 u8, rfl, ⟨_, rfl⟩, rfl, q⟩⟩⟩
end
section
variable {P : Program} {w : World} {K : PySem.W.Frag} {mg : Str → Option Value} {base : Heap}
theorem made_ok {C : Addr} {k : Kd} {us : List Int} {H : Hp} {Q : VK} (ok : k.ok us) (q : ∀ a H', Ext K H H' → DeedAt C H' a k us → Q (.ref a) H') :
    ∀ x dx, new K H x → new K H dx → dx ≠ x → spInit k C (.ref x :: (us.map V.int ++ [.str "no more"])) (upd (upd H dx (.own x)) x (.ins C dx [])) (fun v H2 => v = .non ∧ Q (.ref x) H2) E0 := by
  intro x dx n1 n2 ne
  refine ⟨x, dx, us, rfl, ok, upd_same, rfl, q _ _ ?_ ⟨dx, upd_same⟩⟩
  rw [upd_upd]
  exact Ext.made n1 n2 ne
theorem sc_deed_of : FnScope ["told", "word"] ["told"] (defScope s_deed_of) := ⟨rfl, rfl, rfl, by decide +kernel, rfl, by decide +kernel, by decide +kernel⟩
theorem ok_deed_of {f : Addr} {fd : FuncData} (F : Fun K "deed_of" "deed_of" s_deed_of f fd) {aTh aG aC : Addr} {tE tM tN tF u1 u2 u3 u4 u5 u6 u7 u8 : Tok} (B : B P w K mg aTh aG aC tE tM tN tF u1 u2 u3 u4 u5 u6 u7 u8) {cs : Cs} (C_has_form : Callee P w K mg base "has_form" 1 ["told"] (spForm K)) (M_Put : Maker P w K mg base "Put" 4 ["self", "key", "value", "more"] [.str "no more"] cs.cPut (spInit .put cs.cPut)) (M_Drop : Maker P w K mg base "Drop" 4 ["self", "key", "more"] [.str "no more"] cs.cDrop (spInit .drop cs.cDrop)) (M_Add : Maker P w K mg base "Add" 4 ["self", "key", "by", "more"] [.str "no more"] cs.cAdd (spInit .add cs.cAdd)) (M_Wipe : Maker P w K mg base "Wipe" 4 ["self", "low", "high", "more"] [.str "no more"] cs.cWipe (spInit .wipe cs.cWipe)) (M_Raise : Maker P w K mg base "Raise" 4 ["self", "low", "high", "by", "more"] [.str "no more"] cs.cRaise (spInit .raise cs.cRaise)) (M_Level : Maker P w K mg base "Level" 4 ["self", "low", "high", "value", "more"] [.str "no more"] cs.cLevel (spInit .level cs.cLevel)) (M_Mark : Maker P w K mg base "Mark" 2 ["self", "more"] [.str "no more"] cs.cMark (spInit .mark cs.cMark)) (M_Forget : Maker P w K mg base "Forget" 3 ["self", "mark", "more"] [.str "no more"] cs.cForget (spInit .forget cs.cForget)) : FnOk P w K mg base CX0 6 f fd ["told"] (spDeed K cs) := by
  refine F.okJ sc_deed_of (fun vs H Q E h => ?_) (fun cdv A outer s H vs Q E hr h => ?_)
  · obtain ⟨r, k, us, rfl, _⟩ := h
    rfl
  obtain ⟨r, k, us, rfl, hr1, ok, q⟩ := h
  refine ⟨_, (bcons (sif (tnot (tval (ecall C_has_form (hr.mono (by decide)) rfl (acons (ev 0) anil)))) (bone snever) bnil)
      (bcons (sset (i := 1) sc_deed_of.nd rfl (Or.inl rfl) (eix ix_Q (ev 0) ei (fun _ _ => rfl)))
      (bcons (sif (tcmp op_eq (ev 1) estr (nomark _)) (bone (sret (emake M_Put (hr.mono (by decide)) rfl (acons (eix ix_Q (ev 0) ei (fun _ _ => rfl)) (acons (eix ix_Q (ev 0) ei (fun _ _ => rfl)) anil))))) bnil)
      (bcons (sif (tcmp op_eq (ev 1) estr (nomark _)) (bone (sret (emake M_Drop (hr.mono (by decide)) rfl (acons (eix ix_Q (ev 0) ei (fun _ _ => rfl)) anil)))) bnil)
      (bcons (sif (tcmp op_eq (ev 1) estr (nomark _)) (bone (sret (emake M_Add (hr.mono (by decide)) rfl (acons (eix ix_Q (ev 0) ei (fun _ _ => rfl)) (acons (eix ix_Q (ev 0) ei (fun _ _ => rfl)) anil))))) bnil)
      (bcons (sif (tcmp op_eq (ev 1) estr (nomark _)) (bone (sret (emake M_Wipe (hr.mono (by decide)) rfl (acons (eix ix_Q (ev 0) ei (fun _ _ => rfl)) (acons (eix ix_Q (ev 0) ei (fun _ _ => rfl)) anil))))) bnil)
      (bcons (sif (tcmp op_eq (ev 1) estr (nomark _)) (bone (sret (emake M_Raise (hr.mono (by decide)) rfl (acons (eix ix_Q (ev 0) ei (fun _ _ => rfl)) (acons (eix ix_Q (ev 0) ei (fun _ _ => rfl)) (acons (eix ix_Q (ev 0) ei (fun _ _ => rfl)) anil)))))) bnil)
      (bcons (sif (tcmp op_eq (ev 1) estr (nomark _)) (bone (sret (emake M_Level (hr.mono (by decide)) rfl (acons (eix ix_Q (ev 0) ei (fun _ _ => rfl)) (acons (eix ix_Q (ev 0) ei (fun _ _ => rfl)) (acons (eix ix_Q (ev 0) ei (fun _ _ => rfl)) anil)))))) bnil)
      (bcons (sif (tcmp op_eq (ev 1) estr (nomark _)) (bone (sret (emake0 M_Mark (hr.mono (by decide)) rfl))) bnil)
      (bone (sret (emake M_Forget (hr.mono (by decide)) rfl (acons (eix ix_Q (ev 0) ei (fun _ _ => rfl)) anil))))))))))))), ?_⟩
  try walk_at "rn"
  refine ⟨r, k, us, rfl, hr1, ok, true, rfl, ?_⟩
  simp only [tSeq, tNext, tIfS, tAsg, gName, gSub, tRet, tRetN, tDrop, tVar, tC, tOp, tUn, rI0, rI, rU, tTest, tB, tAndV, tOrV, tNotV, tAnd, tOr, tNot, tIf, tChain, tCB, tCons, tNil, tLst, tTup, tCallC, List.getElem?_cons_zero, List.getElem?_cons_succ, List.set_cons_zero, List.set_cons_succ, Option.some.injEq, V.int.injEq, V.bl.injEq, V.ref.injEq, V.ty.injEq, V.str.injEq, List.cons.injEq, exists_eq_left', exists_eq_left, exists_and_left, and_true, true_and, and_assoc, cxK, rIxF, rSetL, rEq, rNe, scal, HO.lst.injEq, HO.tup.injEq, upd_none, ixN_10, ixN_20, ixN_21, ixN_30, ixN_31, ixN_32, upd_same, seqAt_updL, seqAt_updT, atI_0, atI_1, atI_2, atI_3, decide_eq_true_eq, L2.start, List.map_cons, List.map_nil, List.length_cons, List.length_nil, Nat.reduceAdd, Nat.reduceSub, List.replicate_succ, List.replicate_zero, List.cons_append, List.nil_append, List.append_nil, tFor_rng1, tFor_rng2, tFor_list, tFor_tup, CDv, CMul, CPow, sizeLine_eq, Int.reduceLE, Int.reduceLT, Int.reducePow, Int.reduceToNat, Int.reduceAdd, Int.reduceSub, Int.reduceMul, Int.reduceNeg, Nat.reduceLeDiff, Nat.reducePow, Nat.reduceLT, Int.reduceEq, true_or, or_true, ite_true, ite_false, if_true, if_false, Bool.not_true, Bool.not_false, Bool.false_eq_true, decide_true, decide_false, rIxQ, seqQ_updL, seqQ_updT, tupQ_updT, tSl, tNoPart, tPart, rSlQ, rSlTX, rCatQ, rCatTX, rCatTX0, tTupQ, tLstQ, tNever, rEqD, rInQ, gTupQ, gCons, gNil, tBM, rAppend, tMakeQ, sFld, tFld, tMeth, tBM0, cxN, tCall, pick_nil, pick_own, pick_cap, join_some, tLc_list, tYes, tyV, tFor_list, rEqO, rNeO, rInO, tLc_tup, gStarL, rIxS, rIsascii, rIsdigit, rRemPre, rSplit, seqQ_T hr1]
  refine ⟨_, atI_0, ?_⟩
  cases k
  · have ok0 := ok
    obtain ⟨u, v, rfl, o1, o2⟩ := ok
    exact ⟨rfl, iteT' rfl (⟨_, rfl, ⟨_, rfl, made_ok (C := cs.cPut) ok0 q⟩⟩)⟩
  · have ok0 := ok
    obtain ⟨u, rfl, o1⟩ := ok
    exact ⟨rfl, iteF' (show ¬ (V.str "drop" = V.str "put") by decide +kernel) ( ⟨rfl, iteT' rfl (⟨_, rfl, made_ok (C := cs.cDrop) ok0 q⟩)⟩)⟩
  · have ok0 := ok
    obtain ⟨u, v, rfl, o1, o2⟩ := ok
    exact ⟨rfl, iteF' (show ¬ (V.str "add" = V.str "put") by decide +kernel) ( ⟨rfl, iteF' (show ¬ (V.str "add" = V.str "drop") by decide +kernel) ( ⟨rfl, iteT' rfl (⟨_, rfl, ⟨_, rfl, made_ok (C := cs.cAdd) ok0 q⟩⟩)⟩)⟩)⟩
  · have ok0 := ok
    obtain ⟨u, v, rfl, o1⟩ := ok
    exact ⟨rfl, iteF' (show ¬ (V.str "wipe" = V.str "put") by decide +kernel) ( ⟨rfl, iteF' (show ¬ (V.str "wipe" = V.str "drop") by decide +kernel) ( ⟨rfl, iteF' (show ¬ (V.str "wipe" = V.str "add") by decide +kernel) ( ⟨rfl, iteT' rfl (⟨_, rfl, ⟨_, rfl, made_ok (C := cs.cWipe) ok0 q⟩⟩)⟩)⟩)⟩)⟩
  · have ok0 := ok
    obtain ⟨u, v, x, rfl, o1, o2⟩ := ok
    exact ⟨rfl, iteF' (show ¬ (V.str "raise" = V.str "put") by decide +kernel) ( ⟨rfl, iteF' (show ¬ (V.str "raise" = V.str "drop") by decide +kernel) ( ⟨rfl, iteF' (show ¬ (V.str "raise" = V.str "add") by decide +kernel) ( ⟨rfl, iteF' (show ¬ (V.str "raise" = V.str "wipe") by decide +kernel) ( ⟨rfl, iteT' rfl (⟨_, rfl, ⟨_, rfl, ⟨_, rfl, made_ok (C := cs.cRaise) ok0 q⟩⟩⟩)⟩)⟩)⟩)⟩)⟩
  · have ok0 := ok
    obtain ⟨u, v, x, rfl, o1, o2⟩ := ok
    exact ⟨rfl, iteF' (show ¬ (V.str "level" = V.str "put") by decide +kernel) ( ⟨rfl, iteF' (show ¬ (V.str "level" = V.str "drop") by decide +kernel) ( ⟨rfl, iteF' (show ¬ (V.str "level" = V.str "add") by decide +kernel) ( ⟨rfl, iteF' (show ¬ (V.str "level" = V.str "wipe") by decide +kernel) ( ⟨rfl, iteF' (show ¬ (V.str "level" = V.str "raise") by decide +kernel) ( ⟨rfl, iteT' rfl (⟨_, rfl, ⟨_, rfl, ⟨_, rfl, made_ok (C := cs.cLevel) ok0 q⟩⟩⟩)⟩)⟩)⟩)⟩)⟩)⟩
  · have ok0 := ok
    obtain rfl := ok
    exact ⟨rfl, iteF' (show ¬ (V.str "mark" = V.str "put") by decide +kernel) ( ⟨rfl, iteF' (show ¬ (V.str "mark" = V.str "drop") by decide +kernel) ( ⟨rfl, iteF' (show ¬ (V.str "mark" = V.str "add") by decide +kernel) ( ⟨rfl, iteF' (show ¬ (V.str "mark" = V.str "wipe") by decide +kernel) ( ⟨rfl, iteF' (show ¬ (V.str "mark" = V.str "raise") by decide +kernel) ( ⟨rfl, iteF' (show ¬ (V.str "mark" = V.str "level") by decide +kernel) ( ⟨rfl, iteT' rfl (made_ok (C := cs.cMark) ok0 q)⟩)⟩)⟩)⟩)⟩)⟩)⟩
  · have ok0 := ok
    obtain ⟨u, rfl, o1, o2⟩ := ok
    exact ⟨rfl, iteF' (show ¬ (V.str "forget" = V.str "put") by decide +kernel) ( ⟨rfl, iteF' (show ¬ (V.str "forget" = V.str "drop") by decide +kernel) ( ⟨rfl, iteF' (show ¬ (V.str "forget" = V.str "add") by decide +kernel) ( ⟨rfl, iteF' (show ¬ (V.str "forget" = V.str "wipe") by decide +kernel) ( ⟨rfl, iteF' (show ¬ (V.str "forget" = V.str "raise") by decide +kernel) ( ⟨rfl, iteF' (show ¬ (V.str "forget" = V.str "level") by decide +kernel) ( ⟨rfl, iteF' (show ¬ (V.str "forget" = V.str "mark") by decide +kernel) ( ((⟨_, rfl, made_ok (C := cs.cForget) ok0 q⟩)))⟩)⟩)⟩)⟩)⟩)⟩)⟩
theorem sc__law_by_place : FnScope ["_law_told", "_law_word"] ["_law_told"] (defScope s__law_by_place) := ⟨rfl, rfl, rfl, by decide +kernel, rfl, by decide +kernel, by decide +kernel⟩
theorem ok__law_by_place {f : Addr} {fd : FuncData} (F : Fun K "_law_by_place" "_law_by_place" s__law_by_place f fd) {aTh aG aC : Addr} {tE tM tN tF u1 u2 u3 u4 u5 u6 u7 u8 : Tok} (B : B P w K mg aTh aG aC tE tM tN tF u1 u2 u3 u4 u5 u6 u7 u8) {cs : Cs}  (M_Put : Maker P w K mg base "Put" 4 ["self", "key", "value", "more"] [.str "no more"] cs.cPut (spInit .put cs.cPut)) (M_Drop : Maker P w K mg base "Drop" 4 ["self", "key", "more"] [.str "no more"] cs.cDrop (spInit .drop cs.cDrop)) (M_Add : Maker P w K mg base "Add" 4 ["self", "key", "by", "more"] [.str "no more"] cs.cAdd (spInit .add cs.cAdd)) (M_Wipe : Maker P w K mg base "Wipe" 4 ["self", "low", "high", "more"] [.str "no more"] cs.cWipe (spInit .wipe cs.cWipe)) (M_Raise : Maker P w K mg base "Raise" 4 ["self", "low", "high", "by", "more"] [.str "no more"] cs.cRaise (spInit .raise cs.cRaise)) (M_Level : Maker P w K mg base "Level" 4 ["self", "low", "high", "value", "more"] [.str "no more"] cs.cLevel (spInit .level cs.cLevel)) (M_Mark : Maker P w K mg base "Mark" 2 ["self", "more"] [.str "no more"] cs.cMark (spInit .mark cs.cMark)) (M_Forget : Maker P w K mg base "Forget" 3 ["self", "mark", "more"] [.str "no more"] cs.cForget (spInit .forget cs.cForget)) : FnOk P w K mg base CX0 6 f fd ["_law_told"] (spDeed K cs) := by
  refine F.okJ sc__law_by_place (fun vs H Q E h => ?_) (fun cdv A outer s H vs Q E hr h => ?_)
  · obtain ⟨r, k, us, rfl, _⟩ := h
    rfl
  obtain ⟨r, k, us, rfl, hr1, ok, q⟩ := h
  refine ⟨_, (bcons (sset (i := 1) sc__law_by_place.nd rfl (Or.inl rfl) (eix ix_Q (ev 0) ei (fun _ _ => rfl)))
      (bcons (sif (tcmp op_eq (ev 1) estr (nomark _)) (bone (sret (emake M_Put (hr.mono (by decide)) rfl (acons (eix ix_Q (ev 0) ei (fun _ _ => rfl)) (acons (eix ix_Q (ev 0) ei (fun _ _ => rfl)) anil))))) bnil)
      (bcons (sif (tcmp op_eq (ev 1) estr (nomark _)) (bone (sret (emake M_Drop (hr.mono (by decide)) rfl (acons (eix ix_Q (ev 0) ei (fun _ _ => rfl)) anil)))) bnil)
      (bcons (sif (tcmp op_eq (ev 1) estr (nomark _)) (bone (sret (emake M_Add (hr.mono (by decide)) rfl (acons (eix ix_Q (ev 0) ei (fun _ _ => rfl)) (acons (eix ix_Q (ev 0) ei (fun _ _ => rfl)) anil))))) bnil)
      (bcons (sif (tcmp op_eq (ev 1) estr (nomark _)) (bone (sret (emake M_Wipe (hr.mono (by decide)) rfl (acons (eix ix_Q (ev 0) ei (fun _ _ => rfl)) (acons (eix ix_Q (ev 0) ei (fun _ _ => rfl)) anil))))) bnil)
      (bcons (sif (tcmp op_eq (ev 1) estr (nomark _)) (bone (sret (emake M_Raise (hr.mono (by decide)) rfl (acons (eix ix_Q (ev 0) ei (fun _ _ => rfl)) (acons (eix ix_Q (ev 0) ei (fun _ _ => rfl)) (acons (eix ix_Q (ev 0) ei (fun _ _ => rfl)) anil)))))) bnil)
      (bcons (sif (tcmp op_eq (ev 1) estr (nomark _)) (bone (sret (emake M_Level (hr.mono (by decide)) rfl (acons (eix ix_Q (ev 0) ei (fun _ _ => rfl)) (acons (eix ix_Q (ev 0) ei (fun _ _ => rfl)) (acons (eix ix_Q (ev 0) ei (fun _ _ => rfl)) anil)))))) bnil)
      (bcons (sif (tcmp op_eq (ev 1) estr (nomark _)) (bone (sret (emake0 M_Mark (hr.mono (by decide)) rfl))) bnil)
      (bone (sret (emake M_Forget (hr.mono (by decide)) rfl (acons (eix ix_Q (ev 0) ei (fun _ _ => rfl)) anil)))))))))))), ?_⟩
  try walk_at "rn"
  simp only [tSeq, tNext, tIfS, tAsg, gName, gSub, tRet, tRetN, tDrop, tVar, tC, tOp, tUn, rI0, rI, rU, tTest, tB, tAndV, tOrV, tNotV, tAnd, tOr, tNot, tIf, tChain, tCB, tCons, tNil, tLst, tTup, tCallC, List.getElem?_cons_zero, List.getElem?_cons_succ, List.set_cons_zero, List.set_cons_succ, Option.some.injEq, V.int.injEq, V.bl.injEq, V.ref.injEq, V.ty.injEq, V.str.injEq, List.cons.injEq, exists_eq_left', exists_eq_left, exists_and_left, and_true, true_and, and_assoc, cxK, rIxF, rSetL, rEq, rNe, scal, HO.lst.injEq, HO.tup.injEq, upd_none, ixN_10, ixN_20, ixN_21, ixN_30, ixN_31, ixN_32, upd_same, seqAt_updL, seqAt_updT, atI_0, atI_1, atI_2, atI_3, decide_eq_true_eq, L2.start, List.map_cons, List.map_nil, List.length_cons, List.length_nil, Nat.reduceAdd, Nat.reduceSub, List.replicate_succ, List.replicate_zero, List.cons_append, List.nil_append, List.append_nil, tFor_rng1, tFor_rng2, tFor_list, tFor_tup, CDv, CMul, CPow, sizeLine_eq, Int.reduceLE, Int.reduceLT, Int.reducePow, Int.reduceToNat, Int.reduceAdd, Int.reduceSub, Int.reduceMul, Int.reduceNeg, Nat.reduceLeDiff, Nat.reducePow, Nat.reduceLT, Int.reduceEq, true_or, or_true, ite_true, ite_false, if_true, if_false, Bool.not_true, Bool.not_false, Bool.false_eq_true, decide_true, decide_false, rIxQ, seqQ_updL, seqQ_updT, tupQ_updT, tSl, tNoPart, tPart, rSlQ, rSlTX, rCatQ, rCatTX, rCatTX0, tTupQ, tLstQ, tNever, rEqD, rInQ, gTupQ, gCons, gNil, tBM, rAppend, tMakeQ, sFld, tFld, tMeth, tBM0, cxN, tCall, pick_nil, pick_own, pick_cap, join_some, tLc_list, tYes, tyV, tFor_list, rEqO, rNeO, rInO, tLc_tup, gStarL, rIxS, rIsascii, rIsdigit, rRemPre, rSplit, seqQ_T hr1]
  refine ⟨_, atI_0, ?_⟩
  cases k
  · have ok0 := ok
    obtain ⟨u, v, rfl, o1, o2⟩ := ok
    exact ⟨rfl, iteT' rfl (⟨_, rfl, ⟨_, rfl, made_ok (C := cs.cPut) ok0 q⟩⟩)⟩
  · have ok0 := ok
    obtain ⟨u, rfl, o1⟩ := ok
    exact ⟨rfl, iteF' (show ¬ (V.str "drop" = V.str "put") by decide +kernel) ( ⟨rfl, iteT' rfl (⟨_, rfl, made_ok (C := cs.cDrop) ok0 q⟩)⟩)⟩
  · have ok0 := ok
    obtain ⟨u, v, rfl, o1, o2⟩ := ok
    exact ⟨rfl, iteF' (show ¬ (V.str "add" = V.str "put") by decide +kernel) ( ⟨rfl, iteF' (show ¬ (V.str "add" = V.str "drop") by decide +kernel) ( ⟨rfl, iteT' rfl (⟨_, rfl, ⟨_, rfl, made_ok (C := cs.cAdd) ok0 q⟩⟩)⟩)⟩)⟩
  · have ok0 := ok
    obtain ⟨u, v, rfl, o1⟩ := ok
    exact ⟨rfl, iteF' (show ¬ (V.str "wipe" = V.str "put") by decide +kernel) ( ⟨rfl, iteF' (show ¬ (V.str "wipe" = V.str "drop") by decide +kernel) ( ⟨rfl, iteF' (show ¬ (V.str "wipe" = V.str "add") by decide +kernel) ( ⟨rfl, iteT' rfl (⟨_, rfl, ⟨_, rfl, made_ok (C := cs.cWipe) ok0 q⟩⟩)⟩)⟩)⟩)⟩
  · have ok0 := ok
    obtain ⟨u, v, x, rfl, o1, o2⟩ := ok
    exact ⟨rfl, iteF' (show ¬ (V.str "raise" = V.str "put") by decide +kernel) ( ⟨rfl, iteF' (show ¬ (V.str "raise" = V.str "drop") by decide +kernel) ( ⟨rfl, iteF' (show ¬ (V.str "raise" = V.str "add") by decide +kernel) ( ⟨rfl, iteF' (show ¬ (V.str "raise" = V.str "wipe") by decide +kernel) ( ⟨rfl, iteT' rfl (⟨_, rfl, ⟨_, rfl, ⟨_, rfl, made_ok (C := cs.cRaise) ok0 q⟩⟩⟩)⟩)⟩)⟩)⟩)⟩
  · have ok0 := ok
    obtain ⟨u, v, x, rfl, o1, o2⟩ := ok
    exact ⟨rfl, iteF' (show ¬ (V.str "level" = V.str "put") by decide +kernel) ( ⟨rfl, iteF' (show ¬ (V.str "level" = V.str "drop") by decide +kernel) ( ⟨rfl, iteF' (show ¬ (V.str "level" = V.str "add") by decide +kernel) ( ⟨rfl, iteF' (show ¬ (V.str "level" = V.str "wipe") by decide +kernel) ( ⟨rfl, iteF' (show ¬ (V.str "level" = V.str "raise") by decide +kernel) ( ⟨rfl, iteT' rfl (⟨_, rfl, ⟨_, rfl, ⟨_, rfl, made_ok (C := cs.cLevel) ok0 q⟩⟩⟩)⟩)⟩)⟩)⟩)⟩)⟩
  · have ok0 := ok
    obtain rfl := ok
    exact ⟨rfl, iteF' (show ¬ (V.str "mark" = V.str "put") by decide +kernel) ( ⟨rfl, iteF' (show ¬ (V.str "mark" = V.str "drop") by decide +kernel) ( ⟨rfl, iteF' (show ¬ (V.str "mark" = V.str "add") by decide +kernel) ( ⟨rfl, iteF' (show ¬ (V.str "mark" = V.str "wipe") by decide +kernel) ( ⟨rfl, iteF' (show ¬ (V.str "mark" = V.str "raise") by decide +kernel) ( ⟨rfl, iteF' (show ¬ (V.str "mark" = V.str "level") by decide +kernel) ( ⟨rfl, iteT' rfl (made_ok (C := cs.cMark) ok0 q)⟩)⟩)⟩)⟩)⟩)⟩)⟩
  · have ok0 := ok
    obtain ⟨u, rfl, o1, o2⟩ := ok
    exact ⟨rfl, iteF' (show ¬ (V.str "forget" = V.str "put") by decide +kernel) ( ⟨rfl, iteF' (show ¬ (V.str "forget" = V.str "drop") by decide +kernel) ( ⟨rfl, iteF' (show ¬ (V.str "forget" = V.str "add") by decide +kernel) ( ⟨rfl, iteF' (show ¬ (V.str "forget" = V.str "wipe") by decide +kernel) ( ⟨rfl, iteF' (show ¬ (V.str "forget" = V.str "raise") by decide +kernel) ( ⟨rfl, iteF' (show ¬ (V.str "forget" = V.str "level") by decide +kernel) ( ⟨rfl, iteF' (show ¬ (V.str "forget" = V.str "mark") by decide +kernel) ( ((⟨_, rfl, made_ok (C := cs.cForget) ok0 q⟩)))⟩)⟩)⟩)⟩)⟩)⟩)⟩
end
theorem cut_same {c : Nat} : ∀ {p q A B : List Nat}, c ∉ p → c ∉ q → p ++ c :: A = q ++ c :: B → p = q ∧ A = B
  | [], [], A, B, _, _, h => by simpa using h
  | [], y :: q, A, B, _, hq, h => by
    have := (List.cons.inj h).1
    exact absurd (by rw [this]; exact List.mem_cons_self) hq
  | x :: p, [], A, B, hp, _, h => by
    have := (List.cons.inj h).1
    exact absurd (by rw [← this]; exact List.mem_cons_self) hp
  | x :: p, y :: q, A, B, hp, hq, h => by
    obtain ⟨h1, h2⟩ := List.cons.inj h
    obtain ⟨e1, e2⟩ := cut_same (fun m => hp (List.mem_cons_of_mem _ m)) (fun m => hq (List.mem_cons_of_mem _ m)) h2
    exact ⟨by rw [h1, e1], e2⟩
theorem str_ext {x y : Str} (h : x.cps.toList = y.cps.toList) : x = y := by
  cases x; cases y
  simp only at h
  rw [Array.toList_inj.mp h]
theorem join_cps (c : Nat) (x y : Str) (r : List Str) : (Str.join ⟨#[c]⟩ (x :: y :: r)).cps.toList = x.cps.toList ++ c :: (Str.join ⟨#[c]⟩ (y :: r)).cps.toList := by
  show (x ++ ⟨#[c]⟩ ++ Str.join ⟨#[c]⟩ (y :: r)).cps.toList = _
  rw [app_cps, app_cps]
  simp
theorem join_inj {c : Nat} : ∀ {ps qs : List Str}, ps ≠ [] → qs ≠ [] → (∀ p ∈ ps, c ∉ p.cps.toList) → (∀ p ∈ qs, c ∉ p.cps.toList) → Str.join ⟨#[c]⟩ ps = Str.join ⟨#[c]⟩ qs → ps = qs
  | [], _, h, _, _, _, _ => absurd rfl h
  | _ :: _, [], _, h, _, _, _ => absurd rfl h
  | [x], [y], _, _, _, _, h => by
    have : x = y := h
    rw [this]
  | [x], y :: z :: r, _, _, hp, _, h => by
    have h := congrArg (fun s => s.cps.toList) h
    rw [join_cps] at h
    have : c ∈ x.cps.toList := by
      show c ∈ (Str.join ⟨#[c]⟩ [x]).cps.toList
      rw [h]; simp
    exact absurd this (hp x List.mem_cons_self)
  | x :: z :: r, [y], _, _, _, hq, h => by
    have h := congrArg (fun s => s.cps.toList) h
    rw [join_cps] at h
    have : c ∈ y.cps.toList := by
      show c ∈ (Str.join ⟨#[c]⟩ [y]).cps.toList
      rw [← h]; simp
    exact absurd this (hq y List.mem_cons_self)
  | x :: x2 :: r, y :: y2 :: s, _, _, hp, hq, h => by
    have h := congrArg (fun s => s.cps.toList) h
    rw [join_cps, join_cps] at h
    obtain ⟨e1, e2⟩ := cut_same (hp x List.mem_cons_self) (hq y List.mem_cons_self) h
    rw [str_ext e1, join_inj (by simp) (by simp) (fun p m => hp p (List.mem_cons_of_mem _ m)) (fun p m => hq p (List.mem_cons_of_mem _ m)) (str_ext e2)]
theorem split_ne (x : Str) (c : Nat) : Txt.split x ⟨#[c]⟩ ≠ [] := by
  unfold Txt.split
  split
  · simp
  · split
    · simp
    · rw [StrLaws.partsBetween_eq]
      cases Builtin.Str.occurrences x ⟨#[c]⟩ 0 x.length (x.length + 1) <;> simp [StrLaws.partsFrom]
theorem split_join {c : Nat} {ps : List Str} (h0 : ps ≠ []) (h : ∀ p ∈ ps, c ∉ p.cps.toList) : Txt.split (Str.join ⟨#[c]⟩ ps) ⟨#[c]⟩ = ps :=
  join_inj (split_ne _ _) h0 (StrLaws.split_free _ _) h (StrLaws.join_split _ _)
theorem blank_is : Str.ofString " " = ⟨#[32]⟩ := by decide +kernel
theorem toDigits_head : ∀ m : Nat, 0 < m → (Nat.toDigits 10 m).head? ≠ some '0' := by
  intro m
  induction m using Nat.strongRecOn with
  | _ m ih =>
    intro hm
    by_cases h : m < 10
    · rw [Nat.toDigits_of_lt_base h]
      have : ∀ d, d < 10 → 0 < d → ([Nat.digitChar d] : List Char).head? ≠ some '0' := by decide
      exact this m h hm
    · have e := Nat.toDigits_append_toDigits (b := 10) (n := m / 10) (d := m % 10) (by decide) (by omega) (by omega)
      rw [show 10 * (m / 10) + m % 10 = m by omega] at e
      rw [← e]
      have := ih (m / 10) (by omega) (by omega)
      cases q : Nat.toDigits 10 (m / 10) with
      | nil => have := PySem.toDigits_len_ge 10 (m / 10); rw [q] at this; simp at this
      | cons a r => rw [q] at this; simpa using this
theorem nat_signs (m : Nat) (h : m < 10 ^ 60) : let l := (Nat.toDigits 10 m).map Char.toNat; l ≠ [] ∧ l.all isFig = true ∧ l.length ≤ 60 ∧ (l.head? = some 48 → l = [48]) ∧ NumText.digitsVal l = m := by
  refine ⟨?_, ?_, ?_, ?_, PySem.W.KIN.val_back m⟩
  · intro e
    have := PySem.toDigits_len_ge 10 m
    rw [List.map_eq_nil_iff.mp e] at this
    simp at this
  · rw [List.all_eq_true]
    intro c hc
    obtain ⟨ch, hch, e⟩ := List.mem_map.mp hc
    have r := PyProof.Rows.digit_range (Nat.isDigit_of_mem_toDigits (by decide) (by decide) hch)
    rw [← e]
    simp only [isFig, Bool.and_eq_true, decide_eq_true_eq]
    exact r
  · rw [List.length_map]
    have := PySem.digitsCore_len_pow 10 (by decide) 60 (m + 1) m [] (by decide) h
    simpa [Nat.toDigits] using this
  · intro e
    by_cases z : m = 0
    · subst z; decide
    · exfalso
      have := toDigits_head m (by omega)
      cases q : Nat.toDigits 10 m with
      | nil => rw [q] at e; simp at e
      | cons a r =>
        rw [q] at e this
        simp only [List.map_cons, List.head?_cons, Option.some.injEq] at e this
        exact this (congrArg some (Char.toNat_inj.mp (e.trans (by decide))))
theorem num_cps (i : Int) : (numT i).cps.toList = if i < 0 then 45 :: (Nat.toDigits 10 i.natAbs).map Char.toNat else (Nat.toDigits 10 i.natAbs).map Char.toNat := by
  unfold numT
  cases i with
  | ofNat m =>
    rw [if_neg (by simp)]
    exact PySem.W.KIN.signs_num m
  | negSucc m =>
    rw [if_pos (by omega), PyProof.Rows.signs_ofString]
    show ("-" ++ Nat.repr (m + 1)).toList.map Char.toNat = _
    rw [String.toList_append, List.map_append, Nat.toList_repr]
    rfl
theorem num_fig {i : Int} (h : i.natAbs < 10 ^ 60) : figL (numT i).cps.toList = true ∧ figV (numT i).cps.toList = i := by
  obtain ⟨h1, h2, h3, h4, h5⟩ := nat_signs i.natAbs h
  rw [num_cps]
  split
  · rename_i neg
    refine ⟨?_, ?_⟩
    · simp only [figL, bareL, Bool.and_eq_true, Bool.not_eq_true', List.isEmpty_eq_false_iff, decide_eq_true_eq, Bool.and_eq_false_imp, decide_eq_false_iff_not, ne_eq, Classical.not_not]
      refine ⟨⟨⟨h1, h2⟩, h3⟩, fun e => ?_⟩
      have := h4 e
      rw [this] at h5
      have : i.natAbs = 0 := by rw [← h5]; decide
      omega
    · simp only [figV]
      rw [h5]
      omega
  · rename_i neg
    have n45 : ((Nat.toDigits 10 i.natAbs).map Char.toNat).head? ≠ some 45 := fun e => by
      have := List.all_eq_true.mp h2 45 (List.mem_of_head? e)
      exact absurd this (by decide)
    rw [figV_ne n45]
    refine ⟨?_, by rw [h5]; omega⟩
    simp only [figL, bareL_ne n45, Bool.and_eq_true, Bool.not_eq_true', List.isEmpty_eq_false_iff, decide_eq_true_eq, Bool.and_eq_false_imp, decide_eq_false_iff_not, ne_eq, Classical.not_not]
    exact ⟨⟨⟨h1, h2⟩, h3⟩, h4⟩
theorem lc_mapX {α : Type} {K : PySem.W.Frag} {c D : Addr} {L : List α} {f g : α → V} {te : TE} {v0 : Option V} {rest : St} {H : Hp} {Q : Hp → Prop} (hk : H c = some (.lst (L.map f))) (nD : new K H D) (hz : L.length ≤ 1000)
    (elt : ∀ q ∈ L, ∀ H' (Q : VK), Ext K H H' → (∀ H'', Ext K H' H'' → Q (g q) H'') → te (some (f q) :: rest) H' Q)
    (fin : ∀ H', H' D = some (.lst (L.map g)) → Ext K H H' → Q H') : LcLoop (Itl K c) (gName 0) tYes te D Q (v0 :: rest) (upd H D (.lst [])) := by
  refine lc_list (xs := L.map f) (fun i acc σ' H' => ∃ (v0 : Option V), σ' = v0 :: rest ∧ H' D = some (.lst acc) ∧ acc = (L.take i).map g ∧ Kp K D (upd H D (.lst [])) H') ?_ ?_ ?_ ?_
  · exact ⟨_, rfl, upd_same, rfl, Kp.refl⟩
  · rintro i acc σ' H' _ ⟨v0, rfl, hD, rfl, k⟩
    exact SqL.of ((k.ext nD).at hk)
  · rintro i x acc σ' H' hx ⟨v0, rfl, hD, rfl, k⟩
    rw [List.getElem?_map] at hx
    obtain ⟨q, ek, rfl⟩ := Option.map_eq_some_iff.mp hx
    have hlen : ((L.take i).map g).length ≤ 1000 := by rw [List.length_map, List.length_take]; omega
    unfold gName tYes
    refine iteT ?_
    refine elt q (List.mem_of_getElem? ek) H' _ (k.ext nD) fun H'' x'' => ⟨x''.at hD, Nat.lt_of_le_of_lt hlen (by decide), _, rfl, upd_same, ?_, k.trans (x''.kp.trans (Kp.upd (x''.at hD)))⟩
    rw [List.take_add_one, ek, Option.toList_some, List.map_append]
    rfl
  · rintro acc σ' H' ⟨v0, rfl, hD, rfl, k⟩
    rw [List.length_map, List.take_length] at hD
    exact fin H' hD (k.ext nD)
section
variable {P : Program} {w : World} {K : PySem.W.Frag} {mg : Str → Option Value} {base : Heap}
def spAre : Sp := fun vs H Q _ => ∃ t : Str, vs = [.str t] ∧ t.length ≤ 16777216 ∧ Q (.bl (Txt.isascii t && Txt.isdigit t && decide (t.length ≤ 60))) H
def spRF : Sp := fun vs H Q _ => ∃ i : Int, vs = [.str (numT i)] ∧ i.natAbs < 10 ^ 60 ∧ Q (.int i) H
def spRW (K : PySem.W.Frag) (cs : Cs) : Sp := fun vs H Q _ => ∃ k us, vs = [.str (Kd.text k us)] ∧ Kd.ok k us ∧ ∀ a H', Ext K H H' → DeedAt (cs.at k) H' a k us → Q (.ref a) H'
theorem sc_are_figures : FnScope ["text"] ["text"] (defScope s_are_figures) := ⟨rfl, rfl, rfl, by decide +kernel, rfl, by decide +kernel, by decide +kernel⟩
theorem ok_are_figures {f : Addr} {fd : FuncData} (F : Fun K "are_figures" "are_figures" s_are_figures f fd) {aTh aG aC : Addr} {tE tM tN tF u1 u2 u3 u4 u5 u6 u7 u8 : Tok} (B : B P w K mg aTh aG aC tE tM tN tF u1 u2 u3 u4 u5 u6 u7 u8) : FnOk P w K mg base CX0 1 f fd ["text"] spAre := by
  refine F.okJ sc_are_figures (fun vs H Q E h => ?_) (fun cdv A outer s H vs Q E hr h => ?_)
  · obtain ⟨t, rfl, _⟩ := h
    rfl
  obtain ⟨t, rfl, hl, q⟩ := h
  refine ⟨_, (bone (sret (eand (ebm0 PySem.F.plainAttrs_str PySem.F.slot_str_isascii PySem.F.type_str_isascii mt_isascii (ev 0)) (eand (ebm0 PySem.F.plainAttrs_str PySem.F.slot_str_isdigit PySem.F.type_str_isdigit mt_isdigit (ev 0)) (eone (ecmp op_le (ecallB call_len_str rfl B.len bt_len (acons (ev 0) anil)) (eglob rfl B.MOST_FIGURES B.MOST_FIGURES_is) (nomark _))))))), ?_⟩
  try walk_at "rn"
  cases h1 : Txt.isascii t
  · rw [h1] at q
    exact iteF' (by decide) q
  cases h2 : Txt.isdigit t
  · rw [h1, h2] at q
    exact iteT' rfl (iteF' (by decide) q)
  · rw [h1, h2] at q
    refine iteT' rfl (iteT' rfl ⟨hl, ?_⟩)
    rw [show decide ((t.length : Int) ≤ 60) = (true && true && decide (t.length ≤ 60)) from by simp only [Bool.true_and]; exact decide_eq_decide.mpr (by omega)]
    exact q
theorem sc_read_figures : FnScope ["text", "bare"] ["text"] (defScope s_read_figures) := ⟨rfl, rfl, rfl, by decide +kernel, rfl, by decide +kernel, by decide +kernel⟩
theorem ok_read_figures {f : Addr} {fd : FuncData} (F : Fun K "read_figures" "read_figures" s_read_figures f fd) {aTh aG aC : Addr} {tE tM tN tF u1 u2 u3 u4 u5 u6 u7 u8 : Tok} (B : B P w K mg aTh aG aC tE tM tN tF u1 u2 u3 u4 u5 u6 u7 u8) (C_are_figures : Callee P w K mg base "are_figures" 1 ["text"] spAre) : FnOk P w K mg base CX0 2 f fd ["text"] spRF := by
  refine F.okJ sc_read_figures (fun vs H Q E h => ?_) (fun cdv A outer s H vs Q E hr h => ?_)
  · obtain ⟨i, rfl, _⟩ := h
    rfl
  obtain ⟨i, rfl, hi, q⟩ := h
  obtain ⟨hf, hv⟩ := num_fig hi
  have hlen := fig_len hf
  obtain ⟨b1, b2, b3, b4⟩ := figL_of hf
  have hbl : (Txt.removeprefix (numT i) (Str.ofString "-")).length = (bareL (numT i).cps.toList).length := by rw [← bare_cps]; simp [Str.length]
  have are : (Txt.isascii (Txt.removeprefix (numT i) (Str.ofString "-")) && Txt.isdigit (Txt.removeprefix (numT i) (Str.ofString "-")) && decide ((Txt.removeprefix (numT i) (Str.ofString "-")).length ≤ 60)) = true := by
    rw [figs_of, bare_cps, hbl, decide_eq_true b3, Bool.and_true, Bool.and_eq_true]
    refine ⟨by simpa using b1, List.all_eq_true.mpr fun c hc => ?_⟩
    have := b2 c hc
    simp only [isFig, Bool.and_eq_true, decide_eq_true_eq]
    exact this
  refine ⟨_, (bcons (sif (tnot (tval (ecallB call_isinstQ rfl B.isinstance bt_isinstance (acons (ev 0) (acons (etyp rfl B.str bt_str) anil))))) (bone (sret enon)) bnil)
      (bcons (sset (i := 1) sc_read_figures.nd rfl (Or.inl rfl) (ebm PySem.F.plainAttrs_str PySem.F.slot_str_removeprefix PySem.F.type_str_removeprefix mt_removeprefix (ev 0) (acons estr anil)))
      (bcons (sif (tnot (tval (ecall C_are_figures (hr.mono (by decide)) rfl (acons (ev 1) anil)))) (bone (sret enon)) bnil)
      (bcons (sif (tw (wand (tcmp op_eq (eix ix_str (ev 1) ei (fun _ _ => rfl)) estr (nomark _)) (wand1 (tcmp op_ne (ev 0) estr (nomark _))))) (bone (sret enon)) bnil)
      (bone (sret (ecallTy call_intT rfl B.int bt_int (acons (ev 0) anil)))))))), ?_⟩
  try walk_at "rn"
  refine ⟨_, .inl (.str _), true, rfl, iteF' (by decide) ⟨by omega, _, rfl, by omega, _, rfl, ?_⟩⟩
  rw [are]
  refine iteF' (by decide) ?_
  have fin : ∃ x, intText? (numT i) = some x ∧ (numT i).length ≤ 640 ∧ Q (V.int x) H := ⟨_, fig_int hf, by omega, by rw [hv]; exact q⟩
  refine ⟨by omega, ?_⟩
  rw [bare_cps]
  cases e : bareL (numT i).cps.toList with
  | nil => exact absurd e b1
  | cons c r =>
    refine ⟨c, atI_0, ?_⟩
    split
    · rename_i hc
      have hc : c = 48 := by
        have := congrArg (fun s : Str => s.cps.toList) hc
        have h0 : (Str.ofString "0").cps.toList = [48] := by decide +kernel
        simp only [h0] at this
        simpa using this
      have h48 := b4 (by rw [e, hc]; rfl)
      have : numT i = Str.ofString "0" := str_ext (by rw [h48]; decide +kernel)
      rw [decide_eq_true this]
      exact iteF' (by decide) fin
    · exact fin
theorem Kd.small60 {k : Kd} {us : List Int} (h : k.ok us) : us.length ≤ 3 ∧ ∀ i ∈ us, i.natAbs < 10 ^ 60 := by
  cases k <;> simp only [Kd.ok, okKey, okAm, okSt] at h
  · obtain ⟨a, b, rfl, h1, h2⟩ := h; exact ⟨by simp, by simp only [List.mem_cons, List.not_mem_nil, or_false]; rintro i (rfl | rfl) <;> omega⟩
  · obtain ⟨a, rfl, h1⟩ := h; exact ⟨by simp, by simp only [List.mem_cons, List.not_mem_nil, or_false]; rintro i rfl; omega⟩
  · obtain ⟨a, b, rfl, h1, h2⟩ := h; exact ⟨by simp, by simp only [List.mem_cons, List.not_mem_nil, or_false]; rintro i (rfl | rfl) <;> omega⟩
  · obtain ⟨a, b, rfl, h1⟩ := h; exact ⟨by simp, by simp only [List.mem_cons, List.not_mem_nil, or_false]; rintro i (rfl | rfl) <;> omega⟩
  · obtain ⟨a, b, c, rfl, h1, h2⟩ := h; exact ⟨by simp, by simp only [List.mem_cons, List.not_mem_nil, or_false]; rintro i (rfl | rfl | rfl) <;> omega⟩
  · obtain ⟨a, b, c, rfl, h1, h2⟩ := h; exact ⟨by simp, by simp only [List.mem_cons, List.not_mem_nil, or_false]; rintro i (rfl | rfl | rfl) <;> omega⟩
  · subst h; exact ⟨by simp, by simp⟩
  · obtain ⟨a, rfl, h1⟩ := h; exact ⟨by simp, by simp only [List.mem_cons, List.not_mem_nil, or_false]; rintro i rfl; omega⟩
theorem split_text {k : Kd} {us : List Int} (h : k.ok us) : Txt.split (k.text us) (Str.ofString " ") = (k.items us).map itT := by
  unfold Kd.text
  rw [blank_is]
  refine split_join (by simp [Kd.items]) fun p hp => ?_
  obtain ⟨q, hq, rfl⟩ := List.mem_map.mp hp
  rcases List.mem_cons.mp hq with rfl | hq
  · show 32 ∉ k.word.cps.toList
    cases k <;> decide +kernel
  · obtain ⟨i, hi, rfl⟩ := List.mem_map.mp hq
    exact PyProof.Rows.int_text_free' 32 ⟨by decide, by decide⟩ i
theorem sc_read_words : FnScope ["text", "word", "numbers"] ["text"] (defScope s_read_words) := ⟨rfl, rfl, rfl, by decide +kernel, rfl, by decide +kernel, by decide +kernel⟩
theorem ok_read_words {f : Addr} {fd : FuncData} (F : Fun K "read_words" "read_words" s_read_words f fd) {aTh aG aC : Addr} {tE tM tN tF u1 u2 u3 u4 u5 u6 u7 u8 : Tok} (B : B P w K mg aTh aG aC tE tM tN tF u1 u2 u3 u4 u5 u6 u7 u8) {cs : Cs} (C_deed_of : Callee P w K mg base "deed_of" 6 ["told"] (spDeed K cs)) (C_read_figures : Callee P w K mg base "read_figures" 2 ["text"] spRF) : FnOk P w K mg base CX0 7 f fd ["text"] (spRW K cs) := by
  refine F.okJ sc_read_words (fun vs H Q E h => ?_) (fun cdv A outer s H vs Q E hr h => ?_)
  · obtain ⟨k, us, rfl, _⟩ := h
    rfl
  obtain ⟨k, us, rfl, ok, q⟩ := h
  obtain ⟨z1, z2⟩ := Kd.itsS ok
  obtain ⟨s1, s2⟩ := Kd.small60 ok
  have es := split_text ok
  have z3 : ∀ t ∈ (k.items us).map itT, t.length ≤ 101 := fun t ht => by
    obtain ⟨z, hz, rfl⟩ := List.mem_map.mp ht
    exact itS_len (z2 z hz)
  have l2 := join_le (sep := Str.ofString " ") _ z3
  rw [List.length_map, show (Str.ofString " ").length = 1 from by decide +kernel] at l2
  have l3 : (k.text us).length ≤ 16777216 := by unfold Kd.text; omega
  refine ⟨_, (bcons (sif (tnot (tval (ecallB call_isinstQ rfl B.isinstance bt_isinstance (acons (ev 0) (acons (etyp rfl B.str bt_str) anil))))) (bone snever) bnil)
      (bcons (sasg (ebm PySem.F.plainAttrs_str PySem.F.slot_str_split PySem.F.type_str_split mt_split (ev 0) (acons estr anil)) (gstarL (n := 2) (i := 1) rfl (gcons (gname (i := 1) sc_read_words.nd rfl (Or.inl rfl)) (gconsS (gname (i := 2) sc_read_words.nd rfl (Or.inl rfl)) gnil))))
      (bone (sret (ecall C_deed_of (hr.mono (by decide)) rfl (acons (eop op_catTX (etupQ (acons (ev 1) anil)) (ecallTy call_tuple_ofQ rfl B.tuple bt_tuple (acons (elc (Cap.mk (N := ["number"]) (src := [none]) rfl rfl) rfl (ilist (ev 2)) (fun _ _ _ _ => (gname (i := 0) (show (["number"] : List Str).Nodup from by decide +kernel) rfl (Or.inl rfl))) (fun _ _ _ _ => fnone) (fun _ _ _ _ => (ecall C_read_figures (hr.mono (by decide)) rfl (acons (ev 0) anil)))) anil))) anil)))))), ?_⟩
  try walk_at "rn"
  refine ⟨_, .inl (.str _), true, rfl, iteF' (by decide) ⟨by decide +kernel, l3, ?_⟩⟩
  rw [es]
  refine ⟨by rw [List.length_map]; omega, fun D nD => ?_⟩
  have ev : ((k.items us).map itT).map V.str = V.str k.word :: us.map fun i => V.str (numT i) := by simp [Kd.items, itT]
  rw [ev]
  refine ⟨_, SqL.of upd_same, by simp, fun D1 n1 => ?_⟩
  rw [show List.take ((V.str k.word :: us.map fun i => V.str (numT i)).length + 1 - 2) (List.drop 1 (V.str k.word :: us.map fun i => V.str (numT i))) = us.map (fun i => V.str (numT i)) from by simp; exact List.take_of_length_le (by simp)]
  refine ⟨V.str k.word, [V.ref D1], by simp, V.ref D1, [], rfl, rfl, fun p np => ⟨D1, rfl, ⟨_, SqL.of ((Ext.new np).at upd_same)⟩, fun D2 n2 => ?_⟩⟩
  refine lc_mapX (f := fun i => V.str (numT i)) (g := V.int) ((Ext.new np).at upd_same) n2 (by omega) (fun i hi H' Q' xx qq => ?_) (fun H1 hD x1 => ?_)
  · try walk_at "rn"
    exact ⟨i, rfl, s2 i hi, qq _ Ext.refl⟩
  refine ⟨_, hD, fun l nl => ⟨_, ((x1.trans (Ext.new nl)).tup tupQ_updT), by simp, by simp only [List.length_cons, List.length_nil, List.length_map]; omega, fun q' H' ht x' => ?_⟩⟩
  exact ⟨q', k, us, rfl, ht, ok, fun a H'' xx hd => q a H'' ((Ext.new nD).trans ((Ext.new n1).trans ((Ext.new np).trans (x1.trans ((Ext.new nl).trans (x'.trans xx)))))) hd⟩
end
section
variable {P : Program} {w : World} {K : PySem.W.Frag} {mg : Str → Option Value} {base : Heap}
def L3 (x y z : Int) : HO := .lst [.int x, .int y, .int z]
def spWell (K : PySem.W.Frag) : Sp := fun vs H Q _ => ∃ c, vs = [.int c] ∧ ∀ (p : Addr) (x y z : Int), new K H p → Q (.ref p) (upd H p (L3 x y z))
def spDraw (K : PySem.W.Frag) : Sp := fun vs H Q _ => ∃ p x y z m, vs = [.ref p, .int m] ∧ H p = some (L3 x y z) ∧ 0 < m ∧ m < 10 ^ 100 ∧
  ∀ (r x y z : Int) (H' : Hp), 0 ≤ r → r < m → H' p = some (L3 x y z) → Kp K p H H' → Q (.int r) H'
theorem sc__law_well : FnScope ["_law_cell"] ["_law_cell"] (defScope s__law_well) := ⟨rfl, rfl, rfl, by decide +kernel, rfl, by decide +kernel, by decide +kernel⟩
theorem ok__law_well {f : Addr} {fd : FuncData} (F : Fun K "_law_well" "_law_well" s__law_well f fd) {aTh aG aC : Addr} {tE tM tN tF u1 u2 u3 u4 u5 u6 u7 u8 : Tok} (B : B P w K mg aTh aG aC tE tM tN tF u1 u2 u3 u4 u5 u6 u7 u8) : FnOk P w K mg base CX0 1 f fd ["_law_cell"] (spWell K) := by
  refine F.okJ sc__law_well (fun vs H Q E h => ?_) (fun cdv A outer s H vs Q E hr h => ?_)
  · obtain ⟨c, rfl, _⟩ := h
    rfl
  obtain ⟨c, rfl, q⟩ := h
  refine ⟨_, (bone (sret (elstQ (acons (eop op_mul (ev 0) (ecallTy call_intB rfl B.int bt_int (acons (ecmp op_ge (ev 0) (epowc 1000000000000000000) (nomark _)) anil))) (acons (ev 0) (acons ei anil)))))), ?_⟩
  try walk_at "rd"
  refine ⟨?_, fun p hp => q p _ _ _ hp⟩
  right
  split <;> decide
theorem sc__law_draw : FnScope ["_law_well_here", "_law_many", "_law_found", "_law_low"] ["_law_well_here", "_law_many"] (defScope s__law_draw) := ⟨rfl, rfl, rfl, by decide +kernel, rfl, by decide +kernel, by decide +kernel⟩
theorem ok__law_draw {f : Addr} {fd : FuncData} (F : Fun K "_law_draw" "_law_draw" s__law_draw f fd) {aTh aG aC : Addr} {tE tM tN tF u1 u2 u3 u4 u5 u6 u7 u8 : Tok} (B : B P w K mg aTh aG aC tE tM tN tF u1 u2 u3 u4 u5 u6 u7 u8) : FnOk P w K mg base CX0 1 f fd ["_law_well_here", "_law_many"] (spDraw K) := by
  refine F.okJ sc__law_draw (fun vs H Q E h => ?_) (fun cdv A outer s H vs Q E hr h => ?_)
  · obtain ⟨p, x, y, z, m, rfl, _⟩ := h
    rfl
  obtain ⟨p, x, y, z, m, rfl, hp, h0, h1, q⟩ := h
  unfold L3 at hp
  refine ⟨_, (bcons (sif (tcmp op_gt (eix ix_Q (ev 0) ei (fun _ _ => rfl)) ei (nomark _)) (bcons (sset (i := 2) sc__law_draw.nd rfl (Or.inl rfl) (eop op_mod (eix ix_Q (ev 0) ei (fun _ _ => rfl)) (ev 1)))
      (bcons (sasg (eop op_fdivP (eix ix_Q (ev 0) ei (fun _ _ => rfl)) (ev 1)) (gsub (ev 0) ei set_list))
      (bone (sret (ev 2))))) bnil)
      (bcons (sasg (eop op_add (eix ix_Q (ev 0) ei (fun _ _ => rfl)) ei) (gsub (ev 0) ei set_list))
      (bcons (sset (i := 3) sc__law_draw.nd rfl (Or.inl rfl) (eop op_add (eop op_mod (eix ix_Q (ev 0) ei (fun _ _ => rfl)) ei) (eop op_mul (eop op_fdivP (eix ix_Q (ev 0) ei (fun _ _ => rfl)) ei) ei)))
      (bcons (sset (i := 3) sc__law_draw.nd rfl (Or.inl rfl) (eop op_mod (eop op_mul (eop op_add (eop op_add (ev 3) (eop op_mul ei (eix ix_Q (ev 0) ei (fun _ _ => rfl)))) ei) ei) ei))
      (bcons (sset (i := 3) sc__law_draw.nd rfl (Or.inl rfl) (eop op_mod (eop op_mul (ev 3) (eop op_add (eop op_add (eop op_fdivP (ev 3) ei) ei) (eix ix_Q (ev 0) ei (fun _ _ => rfl)))) ei))
      (bone (sret (eop op_mod (eop op_mod (eop op_mul (ev 3) (eop op_add (eop op_fdivP (ev 3) ei) ei)) ei) (ev 1))))))))), ?_⟩
  simp only [tSeq, tNext, tIfS, tAsg, gName, gSub, tRet, tRetN, tDrop, tVar, tC, tOp, tUn, rI0, rI, rU, tTest, tB, tAndV, tOrV, tNotV, tAnd, tOr, tNot, tIf, tChain, tCB, tCons, tNil, tLst, tTup, tCallC, List.getElem?_cons_zero, List.getElem?_cons_succ, List.set_cons_zero, List.set_cons_succ, Option.some.injEq, V.int.injEq, V.bl.injEq, V.ref.injEq, V.ty.injEq, V.str.injEq, List.cons.injEq, exists_eq_left', exists_eq_left, exists_and_left, and_true, true_and, and_assoc, cxK, rIxF, rSetL, rEq, rNe, scal, HO.lst.injEq, HO.tup.injEq, upd_none, ixN_10, ixN_20, ixN_21, ixN_30, ixN_31, ixN_32, upd_same, seqAt_updL, seqAt_updT, atI_0, atI_1, atI_2, atI_3, decide_eq_true_eq, L2.start, List.map_cons, List.map_nil, List.length_cons, List.length_nil, Nat.reduceAdd, Nat.reduceSub, List.replicate_succ, List.replicate_zero, List.cons_append, List.nil_append, List.append_nil, tFor_rng1, tFor_rng2, tFor_list, tFor_tup, CDv, CMul, CPow, sizeLine_eq, Int.reduceLE, Int.reduceLT, Int.reducePow, Int.reduceToNat, Int.reduceAdd, Int.reduceSub, Int.reduceMul, Int.reduceNeg, Nat.reduceLeDiff, Nat.reducePow, Nat.reduceLT, Int.reduceEq, true_or, or_true, ite_true, ite_false, if_true, if_false, Bool.not_true, Bool.not_false, Bool.false_eq_true, decide_true, decide_false, rIxQ, seqQ_updL, seqQ_updT, tupQ_updT, tSl, tNoPart, tPart, rSlQ, rSlTX, rCatQ, rCatTX, rCatTX0, tTupQ, tLstQ, new_upd, tNever, rEqD, rInQ, gTupQ, gCons, gNil, tBM, rAppend, tMakeQ, sFld, tFld, tMeth, tBM0, cxN, tCall, pick_nil, pick_own, pick_cap, join_some, tLc_list, tYes, tyV, tFor_list, rEqO, rNeO, rInO, tLc_tup, gStarL, rIxS, rIsascii, rIsdigit, rRemPre, rSplit, hp,  seqQ_lst hp]
  have g : ∀ (u v z : Int), Kp K p H (upd H p (L3 u v z)) := fun u v z => Kp.upd hp
  refine ite2 (fun c => ⟨h0, h0, by omega, ?_⟩) (fun c => ?_)
  · exact q _ _ _ _ _ (Int.emod_nonneg _ (by omega)) (Int.emod_lt_of_pos _ h0) upd_same (g _ _ _)
  · refine ⟨?_, ?_, h0, q _ _ _ _ _ (Int.emod_nonneg _ (by omega)) (Int.emod_lt_of_pos _ h0) upd_same (g _ _ _)⟩
    all_goals omega
def spInt (K : PySem.W.Frag) (ok : Int → Prop) : Sp := fun vs H Q _ => ∃ p x y z, vs = [.ref p] ∧ H p = some (L3 x y z) ∧ ∀ (n x y z : Int) (H' : Hp), ok n → H' p = some (L3 x y z) → Kp K p H H' → Q (.int n) H'
def spPair (K : PySem.W.Frag) : Sp := fun vs H Q _ => ∃ p x y z, vs = [.ref p] ∧ H p = some (L3 x y z) ∧ ∀ (b : Addr) (m n x y z : Int) (H' : Hp), okSt m n → tupQ K H' b = some [.int m, .int n] → H' p = some (L3 x y z) → Kp K p H H' → Q (.ref b) H'
theorem sc__law_key : FnScope ["_law_well_here", "_law_way", "_law_base"] ["_law_well_here"] (defScope s__law_key) := ⟨rfl, rfl, rfl, by decide +kernel, rfl, by decide +kernel, by decide +kernel⟩
theorem ok__law_key {f : Addr} {fd : FuncData} (F : Fun K "_law_key" "_law_key" s__law_key f fd) {aTh aG aC : Addr} {tE tM tN tF u1 u2 u3 u4 u5 u6 u7 u8 : Tok} (B : B P w K mg aTh aG aC tE tM tN tF u1 u2 u3 u4 u5 u6 u7 u8) (C__law_draw : Callee P w K mg base "_law_draw" 1 ["_law_well_here", "_law_many"] (spDraw K)) : FnOk P w K mg base CX0 2 f fd ["_law_well_here"] (spInt K okKey) := by
  refine F.okJ sc__law_key (fun vs H Q E h => ?_) (fun cdv A outer s H vs Q E hr h => ?_)
  · obtain ⟨p, x, y, z, rfl, _⟩ := h
    rfl
  obtain ⟨p, x, y, z, rfl, hp, q⟩ := h
  refine ⟨_, (bcons (sset (i := 1) sc__law_key.nd rfl (Or.inl rfl) (ecall C__law_draw (hr.mono (by decide)) rfl (acons (ev 0) (acons ei anil))))
      (bcons (sset (i := 2) sc__law_key.nd rfl (Or.inl rfl) (eix ix_Q (elstQ (acons ei (acons (eop op_sub (epowc 1000000000000) ei) (acons ei (acons (epowc 1000000) (acons ei anil)))))) (ecall C__law_draw (hr.mono (by decide)) rfl (acons (ev 0) (acons ei anil))) (fun _ _ => rfl)))
      (bcons (sif (tcmp op_eq (ev 1) ei (nomark _)) (bone (sret (eop op_add (eop op_mul (ecall C__law_draw (hr.mono (by decide)) rfl (acons (ev 0) (acons (epowc 1000000) anil))) (epowc 1000000)) (ecall C__law_draw (hr.mono (by decide)) rfl (acons (ev 0) (acons (epowc 1000000) anil)))))) bnil)
      (bone (sret (eop op_add (ev 2) (ecall C__law_draw (hr.mono (by decide)) rfl (acons (ev 0) (acons ei anil))))))))), ?_⟩
  try walk_at "rn"
  refine ⟨p, _, _, _, 6, rfl, hp, by decide, by omega, fun way x y z H1 w0 w1 g1 k1 => ?_⟩
  try walk_at "rn"
  intro b1 n1
  have x1 := Ext.new (K := K) (o := .lst [V.int 0, V.int 999999999976, V.int 1000, V.int 1000000, V.int 1000]) n1
  refine ⟨p, _, _, _, 5, rfl, x1.at g1, by decide, by omega, fun r x y z H2 r0 r1 g2 k2 => ?_⟩
  simp only [tSeq, tNext, tIfS, tAsg, gName, gSub, tRet, tRetN, tDrop, tVar, tC, tOp, tUn, rI0, rI, rU, tTest, tB, tAndV, tOrV, tNotV, tAnd, tOr, tNot, tIf, tChain, tCB, tCons, tNil, tLst, tTup, tCallC, List.getElem?_cons_zero, List.getElem?_cons_succ, List.set_cons_zero, List.set_cons_succ, Option.some.injEq, V.int.injEq, V.bl.injEq, V.ref.injEq, V.ty.injEq, V.str.injEq, List.cons.injEq, exists_eq_left', exists_eq_left, exists_and_left, and_true, true_and, and_assoc, cxK, rIxF, rSetL, rEq, rNe, scal, HO.lst.injEq, HO.tup.injEq, upd_none, ixN_10, ixN_20, ixN_21, ixN_30, ixN_31, ixN_32, upd_same, seqAt_updL, seqAt_updT, atI_0, atI_1, atI_2, atI_3, decide_eq_true_eq, L2.start, List.map_cons, List.map_nil, List.length_cons, List.length_nil, Nat.reduceAdd, Nat.reduceSub, List.replicate_succ, List.replicate_zero, List.cons_append, List.nil_append, List.append_nil, tFor_rng1, tFor_rng2, tFor_list, tFor_tup, CDv, CMul, CPow, sizeLine_eq, Int.reduceLE, Int.reduceLT, Int.reducePow, Int.reduceToNat, Int.reduceAdd, Int.reduceSub, Int.reduceMul, Int.reduceNeg, Nat.reduceLeDiff, Nat.reducePow, Nat.reduceLT, Int.reduceEq, true_or, or_true, ite_true, ite_false, if_true, if_false, Bool.not_true, Bool.not_false, Bool.false_eq_true, decide_true, decide_false, rIxQ, seqQ_updL, seqQ_updT, tupQ_updT, tSl, tNoPart, tPart, rSlQ, rSlTX, rCatQ, rCatTX, rCatTX0, tTupQ, tLstQ, tNever, rEqD, rInQ, gTupQ, gCons, gNil, tBM, rAppend, tMakeQ, sFld, tFld, tMeth, tBM0, cxN, tCall, pick_nil, pick_own, pick_cap, join_some, tLc_list, tYes, tyV, tFor_list, rEqO, rNeO, rInO, tLc_tup, gStarL, rIxS, rIsascii, rIsdigit, rRemPre, rSplit, seqQ_lst (k2.keep b1 _ upd_same (ne_of_none g1 n1.1).symm)]
  obtain ⟨v, ev, mv⟩ := atI_in (xs := [V.int 0, V.int 999999999976, V.int 1000, V.int 1000000, V.int 1000]) r0 r1
  obtain ⟨b, rfl, hb0, hb1⟩ : ∃ n : Int, v = .int n ∧ 0 ≤ n ∧ n ≤ 999999999976 := by
    simp only [List.mem_cons, List.not_mem_nil, or_false] at mv
    rcases mv with rfl | rfl | rfl | rfl | rfl <;> exact ⟨_, rfl, by decide, by decide⟩
  have kk := k1.trans (x1.kp.trans k2)
  refine ⟨_, ev, ?_⟩
  try walk_at "rn"
  refine ite2 (fun c => ?_) (fun c => ?_)
  · refine ⟨p, _, _, _, _, rfl, g2, by decide, by omega, fun r x y z H3 r0 r1 g3 k3 => ?_⟩
    try walk_at "rn"
    refine ⟨p, _, _, _, _, rfl, g3, by decide, by omega, fun r' x y z H4 r0' r1' g4 k4 => ?_⟩
    try walk_at "rn"
    exact q _ _ _ _ _ (by unfold okKey; omega) g4 (kk.trans (k3.trans k4))
  · refine ⟨p, _, _, _, 24, rfl, g2, by decide, by omega, fun r x y z H3 r0 r1 g3 k3 => ?_⟩
    try walk_at "rn"
    exact q _ _ _ _ _ (by unfold okKey; omega) g3 (kk.trans k3)
theorem sc__law_amount : FnScope ["_law_well_here", "_law_way", "_law_sign", "_law_near"] ["_law_well_here"] (defScope s__law_amount) := ⟨rfl, rfl, rfl, by decide +kernel, rfl, by decide +kernel, by decide +kernel⟩
theorem ok__law_amount {f : Addr} {fd : FuncData} (F : Fun K "_law_amount" "_law_amount" s__law_amount f fd) {aTh aG aC : Addr} {tE tM tN tF u1 u2 u3 u4 u5 u6 u7 u8 : Tok} (B : B P w K mg aTh aG aC tE tM tN tF u1 u2 u3 u4 u5 u6 u7 u8) (C__law_draw : Callee P w K mg base "_law_draw" 1 ["_law_well_here", "_law_many"] (spDraw K)) : FnOk P w K mg base CX0 2 f fd ["_law_well_here"] (spInt K okAm) := by
  refine F.okJ sc__law_amount (fun vs H Q E h => ?_) (fun cdv A outer s H vs Q E hr h => ?_)
  · obtain ⟨p, x, y, z, rfl, _⟩ := h
    rfl
  obtain ⟨p, x, y, z, rfl, hp, q⟩ := h
  refine ⟨_, (bcons (sset (i := 1) sc__law_amount.nd rfl (Or.inl rfl) (ecall C__law_draw (hr.mono (by decide)) rfl (acons (ev 0) (acons ei anil))))
      (bcons (sset (i := 2) sc__law_amount.nd rfl (Or.inl rfl) (eix ix_Q (elstQ (acons ei (acons ei (acons (eun un_neg ei) anil)))) (ecall C__law_draw (hr.mono (by decide)) rfl (acons (ev 0) (acons ei anil))) (fun _ _ => rfl)))
      (bcons (sset (i := 3) sc__law_amount.nd rfl (Or.inl rfl) (ecall C__law_draw (hr.mono (by decide)) rfl (acons (ev 0) (acons (eix ix_Q (elstQ (acons ei (acons ei (acons (epowc 1000000000) (acons (epowc 1000000000) (acons (epowc 1000000000) anil)))))) (ev 1) (fun _ _ => rfl)) anil))))
      (bcut (sif (tcmp op_eq (ev 1) ei (nomark _)) (bone (sset (i := 3) sc__law_amount.nd rfl (Or.inl rfl) (eop op_add (eop op_mul (ev 3) (epowc 1000000000)) (ecall C__law_draw (hr.mono (by decide)) rfl (acons (ev 0) (acons (epowc 1000000000) anil)))))) bnil)
      (bcut (sif (tcmp op_eq (ev 1) ei (nomark _)) (bone (sset (i := 3) sc__law_amount.nd rfl (Or.inl rfl) (eop op_sub (epowc 1000000000000000000000000000000) (ev 3)))) bnil)
      (bone (sret (eop op_mul (ev 2) (ev 3))))))))), ?_⟩
  try walk_at "rn"
  refine ⟨p, _, _, _, 5, rfl, hp, by decide, by omega, fun way x y z H1 w0 w1 g1 k1 => ?_⟩
  try walk_at "rn"
  intro b1 n1
  have x1 := Ext.new (K := K) (o := .lst [.int 1, .int 1, .int (-1)]) n1
  refine ⟨p, _, _, _, 3, rfl, x1.at g1, by decide, by omega, fun r x y z H2 r0 r1 g2 k2 => ?_⟩
  simp only [tSeq, tNext, tIfS, tAsg, gName, gSub, tRet, tRetN, tDrop, tVar, tC, tOp, tUn, rI0, rI, rU, tTest, tB, tAndV, tOrV, tNotV, tAnd, tOr, tNot, tIf, tChain, tCB, tCons, tNil, tLst, tTup, tCallC, List.getElem?_cons_zero, List.getElem?_cons_succ, List.set_cons_zero, List.set_cons_succ, Option.some.injEq, V.int.injEq, V.bl.injEq, V.ref.injEq, V.ty.injEq, V.str.injEq, List.cons.injEq, exists_eq_left', exists_eq_left, exists_and_left, and_true, true_and, and_assoc, cxK, rIxF, rSetL, rEq, rNe, scal, HO.lst.injEq, HO.tup.injEq, upd_none, ixN_10, ixN_20, ixN_21, ixN_30, ixN_31, ixN_32, upd_same, seqAt_updL, seqAt_updT, atI_0, atI_1, atI_2, atI_3, decide_eq_true_eq, L2.start, List.map_cons, List.map_nil, List.length_cons, List.length_nil, Nat.reduceAdd, Nat.reduceSub, List.replicate_succ, List.replicate_zero, List.cons_append, List.nil_append, List.append_nil, tFor_rng1, tFor_rng2, tFor_list, tFor_tup, CDv, CMul, CPow, sizeLine_eq, Int.reduceLE, Int.reduceLT, Int.reducePow, Int.reduceToNat, Int.reduceAdd, Int.reduceSub, Int.reduceMul, Int.reduceNeg, Nat.reduceLeDiff, Nat.reducePow, Nat.reduceLT, Int.reduceEq, true_or, or_true, ite_true, ite_false, if_true, if_false, Bool.not_true, Bool.not_false, Bool.false_eq_true, decide_true, decide_false, rIxQ, seqQ_updL, seqQ_updT, tupQ_updT, tSl, tNoPart, tPart, rSlQ, rSlTX, rCatQ, rCatTX, rCatTX0, tTupQ, tLstQ, tNever, rEqD, rInQ, gTupQ, gCons, gNil, tBM, rAppend, tMakeQ, sFld, tFld, tMeth, tBM0, cxN, tCall, pick_nil, pick_own, pick_cap, join_some, tLc_list, tYes, tyV, tFor_list, rEqO, rNeO, rInO, tLc_tup, gStarL, rIxS, rIsascii, rIsdigit, rRemPre, rSplit, seqQ_lst (k2.keep b1 _ upd_same (ne_of_none g1 n1.1).symm)]
  obtain ⟨v, ev, mv⟩ := atI_in (xs := [V.int 1, V.int 1, V.int (-1)]) r0 r1
  obtain ⟨sg, rfl, hsg⟩ : ∃ n, v = V.int n ∧ (n = 1 ∨ n = -1) := by
    simp only [List.mem_cons, List.not_mem_nil, or_false] at mv
    rcases mv with rfl | rfl | rfl
    · exact ⟨_, rfl, .inl rfl⟩
    · exact ⟨_, rfl, .inl rfl⟩
    · exact ⟨_, rfl, .inr rfl⟩
  refine ⟨_, ev, fun b2 n2 => ?_⟩
  have x2 := Ext.new (K := K) (o := .lst [V.int 4, V.int 30, V.int 1000000000, V.int 1000000000, V.int 1000000000]) n2
  obtain ⟨u, eu, mu⟩ := atI_in (xs := [V.int 4, V.int 30, V.int 1000000000, V.int 1000000000, V.int 1000000000]) w0 w1
  obtain ⟨m, rfl, hm0, hm1⟩ : ∃ n, u = V.int n ∧ 0 < n ∧ n ≤ 1000000000 := by
    simp only [List.mem_cons, List.not_mem_nil, or_false] at mu
    rcases mu with rfl | rfl | rfl | rfl | rfl <;> exact ⟨_, rfl, by decide, by decide⟩
  refine ⟨_, eu, p, _, _, _, m, rfl, x2.at g2, hm0, by omega, fun near x y z H3 e0 e1 g3 k3 => ?_⟩
  try walk_at "rn"
  have kk := k1.trans (x1.kp.trans (k2.trans (x2.kp.trans k3)))
  refine ⟨fun σ H4 => ∃ (n x y z : Int), σ = [some (V.ref p), some (V.int way), some (V.int sg), some (V.int n)] ∧ (0 ≤ n ∧ n ≤ 1000000000000000000) ∧ H4 p = some (L3 x y z) ∧ Kp K p H H4, ?_, ?_⟩
  · try walk_at "rn"
    refine ite2 (fun c => ?_) (fun c => ?_)
    · refine ⟨p, _, _, _, 1000000000, rfl, g3, by decide, by omega, fun d x y z H4 d0 d1 g4 k4 => ?_⟩
      try walk_at "rn"
      exact ⟨by omega, by omega, _, _, _, g4, kk.trans k4⟩
    · exact ⟨by omega, by omega, _, _, _, g3, kk⟩
  rintro σ H4 ⟨n, x, y, z, rfl, hn, g4, k4⟩
  refine ⟨fun σ H5 => ∃ (n x y z : Int), σ = [some (V.ref p), some (V.int way), some (V.int sg), some (V.int n)] ∧ (0 ≤ n ∧ n ≤ 1000000000000000000000000000000) ∧ H5 p = some (L3 x y z) ∧ Kp K p H H5, ?_, ?_⟩
  · try walk_at "rn"
    refine ite2 (fun c => ?_) (fun c => ?_)
    · exact ⟨by omega, by omega, _, _, _, g4, k4⟩
    · exact ⟨by omega, by omega, _, _, _, g4, k4⟩
  rintro σ H5 ⟨n, x, y, z, rfl, hn, g5, k5⟩
  try walk_at "rn"
  exact ⟨.inl ⟨by omega, by omega⟩, q _ _ _ _ _ (by unfold okAm; rcases hsg with rfl | rfl <;> omega) g5 k5⟩
theorem sc__law_stretch : FnScope ["_law_well_here", "_law_way", "_law_low", "_law_far"] ["_law_well_here"] (defScope s__law_stretch) := ⟨rfl, rfl, rfl, by decide +kernel, rfl, by decide +kernel, by decide +kernel⟩
theorem ok__law_stretch {f : Addr} {fd : FuncData} (F : Fun K "_law_stretch" "_law_stretch" s__law_stretch f fd) {aTh aG aC : Addr} {tE tM tN tF u1 u2 u3 u4 u5 u6 u7 u8 : Tok} (B : B P w K mg aTh aG aC tE tM tN tF u1 u2 u3 u4 u5 u6 u7 u8) (C__law_draw : Callee P w K mg base "_law_draw" 1 ["_law_well_here", "_law_many"] (spDraw K)) (C__law_key : Callee P w K mg base "_law_key" 2 ["_law_well_here"] (spInt K okKey)) : FnOk P w K mg base CX0 3 f fd ["_law_well_here"] (spPair K) := by
  refine F.okJ sc__law_stretch (fun vs H Q E h => ?_) (fun cdv A outer s H vs Q E hr h => ?_)
  · obtain ⟨p, x, y, z, rfl, _⟩ := h
    rfl
  obtain ⟨p, x, y, z, rfl, hp, q⟩ := h
  refine ⟨_, (bcons (sset (i := 1) sc__law_stretch.nd rfl (Or.inl rfl) (ecall C__law_draw (hr.mono (by decide)) rfl (acons (ev 0) (acons ei anil))))
      (bcons (sset (i := 2) sc__law_stretch.nd rfl (Or.inl rfl) (ecall C__law_key (hr.mono (by decide)) rfl (acons (ev 0) anil)))
      (bcons (sif (tcmp op_eq (ev 1) ei (nomark _)) (bone (sret (etupQ (acons ei (acons (epowc 1000000000000) anil))))) bnil)
      (bcons (sif (tcmp op_eq (ev 1) ei (nomark _)) (bone (sret (etupQ (acons (ev 2) (acons (epowc 1000000000000) anil))))) bnil)
      (bcons (sset (i := 3) sc__law_stretch.nd rfl (Or.inl rfl) (eix ix_Q (elstQ (acons ei (acons (eop op_add ei (ecall C__law_draw (hr.mono (by decide)) rfl (acons (ev 0) (acons ei anil)))) (acons (eop op_add ei (ecall C__law_draw (hr.mono (by decide)) rfl (acons (ev 0) (acons (epowc 1000000000) anil)))) anil)))) (eop op_mod (ev 1) ei) (fun _ _ => rfl)))
      (bone (sret (etupQ (acons (ev 2) (acons (ecallB (call_min2 rfl) rfl B.min bt_min (acons (epowc 1000000000000) (acons (eop op_add (ev 2) (ev 3)) anil))) anil)))))))))), ?_⟩
  try walk_at "rn"
  refine ⟨p, _, _, _, 8, rfl, hp, by decide, by omega, fun way x y z H1 w0 w1 g1 k1 => ?_⟩
  try walk_at "rn"
  refine ⟨p, _, _, _, rfl, g1, fun k x y z H2 hk g2 k2 => ?_⟩
  unfold okKey at hk
  have k12 := k1.trans k2
  try walk_at "rn"
  refine ite2 (fun c => fun b3 n3 => ?_) (fun c => ?_)
  · exact q b3 0 1000000000000 _ _ _ _ (by unfold okSt; omega) tupQ_updT ((Ext.new n3).at g2) (k12.trans (Ext.new n3).kp)
  refine ite2 (fun c => fun b3 n3 => ?_) (fun c => ?_)
  · exact q b3 k 1000000000000 _ _ _ _ (by unfold okSt; omega) tupQ_updT ((Ext.new n3).at g2) (k12.trans (Ext.new n3).kp)
  refine ⟨p, _, _, _, 20, rfl, g2, by decide, by omega, fun d x y z H3 d0 _ g3 k3 => ?_⟩
  try walk_at "rn"
  refine ⟨p, _, _, _, _, rfl, g3, by decide, by omega, fun d' x y z H4 d0' _ g4 k4 => ?_⟩
  try walk_at "rn"
  intro b5 n5
  obtain ⟨v, ev, mv⟩ := atI_in (xs := [V.int 1, V.int (1 + d), V.int (1 + d')]) (k := way % 3) (by omega) (by show way % 3 < 3; omega)
  obtain ⟨fa, rfl, hfa⟩ : ∃ n : Int, v = .int n ∧ 1 ≤ n := by
    simp only [List.mem_cons, List.not_mem_nil, or_false] at mv
    rcases mv with rfl | rfl | rfl
    · exact ⟨_, rfl, by decide⟩
    · exact ⟨_, rfl, by omega⟩
    · exact ⟨_, rfl, by omega⟩
  refine ⟨_, ev, ?_⟩
  try walk_at "rn"
  intro b6 n6
  have x6 := (Ext.new (K := K) (o := .lst [.int 1, .int (1 + d), .int (1 + d')]) n5)
  exact q b6 k _ _ _ _ _ (by unfold okSt; omega) tupQ_updT ((x6.trans (Ext.new n6)).at g4) (k12.trans (k3.trans (k4.trans (x6.trans (Ext.new n6)).kp)))
def words8 : List Str := ["put", "drop", "add", "wipe", "raise", "level", "mark", "forget"]
def spDeedL (K : PySem.W.Frag) : Sp := fun vs H Q _ => ∃ p x y z, vs = [.ref p] ∧ H p = some (L3 x y z) ∧ ∀ (b : Addr) (k : Kd) (us : List Int) (x y z : Int) (H' : Hp), k.ok us → tupQ K H' b = some (k.told us) → H' p = some (L3 x y z) → Kp K p H H' → Q (.ref b) H'
theorem told_cut {x : Str} {ns : List Int} {i : Int} (h : 1 ≤ i) : cutV (.str x :: ns.map V.int) none (some i) = .str x :: (ns.take (i.toNat - 1)).map V.int := by
  obtain ⟨k, rfl⟩ : ∃ k : Nat, i = (k : Int) := ⟨i.toNat, by omega⟩
  rw [cutV_to]
  obtain ⟨j, rfl⟩ : ∃ j : Nat, k = j + 1 := ⟨k - 1, by omega⟩
  rw [List.take_succ_cons, List.map_take]
  rfl
theorem sc__law_deed : FnScope ["_law_well_here", "_law_way", "_law_word", "_law_low", "_law_high"] ["_law_well_here"] (defScope s__law_deed) := ⟨rfl, rfl, rfl, by decide +kernel, rfl, by decide +kernel, by decide +kernel⟩
theorem ok__law_deed {f : Addr} {fd : FuncData} (F : Fun K "_law_deed" "_law_deed" s__law_deed f fd) {aTh aG aC : Addr} {tE tM tN tF u1 u2 u3 u4 u5 u6 u7 u8 : Tok} (B : B P w K mg aTh aG aC tE tM tN tF u1 u2 u3 u4 u5 u6 u7 u8) (C__law_draw : Callee P w K mg base "_law_draw" 1 ["_law_well_here", "_law_many"] (spDraw K)) (C__law_key : Callee P w K mg base "_law_key" 2 ["_law_well_here"] (spInt K okKey)) (C__law_amount : Callee P w K mg base "_law_amount" 2 ["_law_well_here"] (spInt K okAm)) (C__law_stretch : Callee P w K mg base "_law_stretch" 3 ["_law_well_here"] (spPair K)) : FnOk P w K mg base CX0 4 f fd ["_law_well_here"] (spDeedL K) := by
  refine F.okJ sc__law_deed (fun vs H Q E h => ?_) (fun cdv A outer s H vs Q E hr h => ?_)
  · obtain ⟨p, x, y, z, rfl, _⟩ := h
    rfl
  obtain ⟨p, x, y, z, rfl, hp, q⟩ := h
  refine ⟨_, (bcons (sset (i := 1) sc__law_deed.nd rfl (Or.inl rfl) (ecall C__law_draw (hr.mono (by decide)) rfl (acons (ev 0) (acons ei anil))))
      (bcons (sset (i := 2) sc__law_deed.nd rfl (Or.inl rfl) (eix ix_Q (elstQ (acons estr (acons estr (acons estr (acons estr (acons estr (acons estr (acons estr (acons estr anil))))))))) (ev 1) (fun _ _ => rfl)))
      (bcons (sif (tcmp op_lt (ev 1) ei (nomark _)) (bone (sret (eslice sl_tupX (etupQ (acons (ev 2) (acons (ecall C__law_key (hr.mono (by decide)) rfl (acons (ev 0) anil)) (acons (ecall C__law_amount (hr.mono (by decide)) rfl (acons (ev 0) anil)) anil)))) onone (osome (eix ix_Q (elstQ (acons ei (acons ei (acons ei anil)))) (ev 1) (fun _ _ => rfl)))))) bnil)
      (bcons (sif (tcmp op_lt (ev 1) ei (nomark _)) (bcons (sasg (ecall C__law_stretch (hr.mono (by decide)) rfl (acons (ev 0) anil)) (gtupQ (n := 2) rfl (gcons (gname (i := 3) sc__law_deed.nd rfl (Or.inl rfl)) (gcons (gname (i := 4) sc__law_deed.nd rfl (Or.inl rfl)) gnil))))
      (bone (sret (eslice sl_tupX (etupQ (acons (ev 2) (acons (ev 3) (acons (ev 4) (acons (ecall C__law_amount (hr.mono (by decide)) rfl (acons (ev 0) anil)) anil))))) onone (osome (eix ix_Q (elstQ (acons ei (acons ei (acons ei anil)))) (eop op_sub (ev 1) ei) (fun _ _ => rfl))))))) bnil)
      (bone (sret (eslice sl_tupX (etupQ (acons (ev 2) (acons (eop op_add ei (ecall C__law_draw (hr.mono (by decide)) rfl (acons (ev 0) (acons (eix ix_Q (elstQ (acons ei (acons ei (acons (epowc 1000000000) anil)))) (ecall C__law_draw (hr.mono (by decide)) rfl (acons (ev 0) (acons ei anil))) (fun _ _ => rfl)) anil)))) anil))) onone (osome (eop op_sub (ev 1) ei))))))))), ?_⟩
  try walk_at "rn"
  refine ⟨p, _, _, _, 8, rfl, hp, by decide, by omega, fun way x y z H1 w0 w1 g1 k1 => ?_⟩
  try walk_at "rn"
  intro b1 n1
  have x1 := Ext.new (K := K) (o := .lst (words8.map V.str)) n1
  obtain ⟨v, ev, mv⟩ := atI_in (xs := words8.map V.str) w0 w1
  obtain ⟨wd, mw, rfl⟩ := List.mem_map.mp mv
  refine ⟨_, ev, ?_⟩
  try walk_at "rn"
  refine ite2 (fun c => ?_) (fun c => ?_)
  · refine ⟨p, _, _, _, rfl, x1.at g1, fun k x y z H2 hk g2 k2 => ?_⟩
    refine ⟨p, _, _, _, rfl, g2, fun a x y z H3 ha g3 k3 => ?_⟩
    intro b4 n4 b5 n5
    have x4 := Ext.new (K := K) (o := .tup [V.str wd, V.int k, V.int a]) n4
    have x5 := Ext.new (K := K) (o := .lst [V.int 3, V.int 2, V.int 3]) n5
    rcases (by omega : way = 0 ∨ way = 1 ∨ way = 2) with rfl | rfl | rfl
    · cases (show V.str wd = V.str "put" from Option.some.inj (ev.symm.trans rfl))
      refine ⟨_, rfl, 3, rfl, _, x5.tup tupQ_updT, fun b6 H6 t6 x6 => ?_⟩
      rw [show [V.str "put", V.int k, V.int a] = .str "put" :: [k, a].map V.int from rfl, told_cut (by decide)] at t6
      exact q b6 .put [k, a] _ _ _ _ ⟨k, a, rfl, hk, ha⟩ t6 ((x4.trans (x5.trans x6)).at g3) (k1.trans (x1.kp.trans (k2.trans (k3.trans (x4.trans (x5.trans x6)).kp))))
    · cases (show V.str wd = V.str "drop" from Option.some.inj (ev.symm.trans rfl))
      refine ⟨_, rfl, 2, rfl, _, x5.tup tupQ_updT, fun b6 H6 t6 x6 => ?_⟩
      rw [show [V.str "drop", V.int k, V.int a] = .str "drop" :: [k, a].map V.int from rfl, told_cut (by decide)] at t6
      exact q b6 .drop [k] _ _ _ _ ⟨k, rfl, hk⟩ t6 ((x4.trans (x5.trans x6)).at g3) (k1.trans (x1.kp.trans (k2.trans (k3.trans (x4.trans (x5.trans x6)).kp))))
    · cases (show V.str wd = V.str "add" from Option.some.inj (ev.symm.trans rfl))
      refine ⟨_, rfl, 3, rfl, _, x5.tup tupQ_updT, fun b6 H6 t6 x6 => ?_⟩
      rw [show [V.str "add", V.int k, V.int a] = .str "add" :: [k, a].map V.int from rfl, told_cut (by decide)] at t6
      exact q b6 .add [k, a] _ _ _ _ ⟨k, a, rfl, hk, ha⟩ t6 ((x4.trans (x5.trans x6)).at g3) (k1.trans (x1.kp.trans (k2.trans (k3.trans (x4.trans (x5.trans x6)).kp))))
  refine ite2 (fun c => ?_) (fun c => ?_)
  · refine ⟨p, _, _, _, rfl, x1.at g1, fun b m n x y z H2 hs t2 g2 k2 => ⟨b, rfl, _, t2, rfl, _, _, rfl, _, _, rfl, rfl, ?_⟩⟩
    refine ⟨p, _, _, _, rfl, g2, fun a x y z H3 ha g3 k3 => ?_⟩
    intro b4 n4 b5 n5
    have x4 := Ext.new (K := K) (o := .tup [V.str wd, V.int m, V.int n, V.int a]) n4
    have x5 := Ext.new (K := K) (o := .lst [V.int 3, V.int 4, V.int 4]) n5
    rcases (by omega : way = 3 ∨ way = 4 ∨ way = 5) with rfl | rfl | rfl
    · cases (show V.str wd = V.str "wipe" from Option.some.inj (ev.symm.trans rfl))
      refine ⟨_, rfl, 3, rfl, _, x5.tup tupQ_updT, fun b6 H6 t6 x6 => ?_⟩
      rw [show [V.str "wipe", V.int m, V.int n, V.int a] = .str "wipe" :: [m, n, a].map V.int from rfl, told_cut (by decide)] at t6
      exact q b6 .wipe [m, n] _ _ _ _ ⟨m, n, rfl, hs⟩ t6 ((x4.trans (x5.trans x6)).at g3) (k1.trans (x1.kp.trans (k2.trans (k3.trans (x4.trans (x5.trans x6)).kp))))
    · cases (show V.str wd = V.str "raise" from Option.some.inj (ev.symm.trans rfl))
      refine ⟨_, rfl, 4, rfl, _, x5.tup tupQ_updT, fun b6 H6 t6 x6 => ?_⟩
      rw [show [V.str "raise", V.int m, V.int n, V.int a] = .str "raise" :: [m, n, a].map V.int from rfl, told_cut (by decide)] at t6
      exact q b6 .raise [m, n, a] _ _ _ _ ⟨m, n, a, rfl, hs, ha⟩ t6 ((x4.trans (x5.trans x6)).at g3) (k1.trans (x1.kp.trans (k2.trans (k3.trans (x4.trans (x5.trans x6)).kp))))
    · cases (show V.str wd = V.str "level" from Option.some.inj (ev.symm.trans rfl))
      refine ⟨_, rfl, 4, rfl, _, x5.tup tupQ_updT, fun b6 H6 t6 x6 => ?_⟩
      rw [show [V.str "level", V.int m, V.int n, V.int a] = .str "level" :: [m, n, a].map V.int from rfl, told_cut (by decide)] at t6
      exact q b6 .level [m, n, a] _ _ _ _ ⟨m, n, a, rfl, hs, ha⟩ t6 ((x4.trans (x5.trans x6)).at g3) (k1.trans (x1.kp.trans (k2.trans (k3.trans (x4.trans (x5.trans x6)).kp))))
  · have ev0 := ev
    intro b2 n2
    have x2 := Ext.new (K := K) (o := .lst [V.int 4, V.int 300, V.int 1000000000]) n2
    have m2 : b2 ≠ p := (ne_of_none (x1.at g1) n2.1).symm
    refine ⟨p, _, _, _, 3, rfl, (x1.trans x2).at g1, by decide, by omega, fun r x y z H3 r0 r1 g3 k3 => ⟨_, rfl, _, seqQ_lst (k3.keep b2 _ upd_same m2), ?_⟩⟩
    obtain ⟨v, ev, mv⟩ := atI_in (xs := [V.int 4, V.int 300, V.int 1000000000]) r0 r1
    obtain ⟨m, rfl, hm0, hm1⟩ : ∃ n, v = V.int n ∧ 0 < n ∧ n ≤ 1000000000 := by
      simp only [List.mem_cons, List.not_mem_nil, or_false] at mv
      rcases mv with rfl | rfl | rfl <;> exact ⟨_, rfl, by decide, by decide⟩
    refine ⟨_, ev, p, _, _, _, m, rfl, g3, hm0, by omega, fun t x y z H4 t0 t1 g4 k4 => ⟨_, rfl, fun b5 n5 b6 H6 t6 x6 => ?_⟩⟩
    have x5 := Ext.new (K := K) (o := .tup [V.str wd, V.int (1 + t)]) n5
    rw [show [V.str wd, V.int (1 + t)] = .str wd :: [1 + t].map V.int from rfl, told_cut (by omega)] at t6
    rcases (by omega : way = 6 ∨ way = 7) with rfl | rfl
    · cases (show V.str wd = V.str "mark" from Option.some.inj (ev0.symm.trans rfl))
      exact q b6 .mark [] _ _ _ _ rfl t6 ((x5.trans x6).at g4) (k1.trans (x1.kp.trans (x2.kp.trans (k3.trans (k4.trans (x5.trans x6).kp)))))
    · cases (show V.str wd = V.str "forget" from Option.some.inj (ev0.symm.trans rfl))
      exact q b6 .forget [1 + t] _ _ _ _ ⟨_, rfl, by omega, by omega⟩ t6 ((x5.trans x6).at g4) (k1.trans (x1.kp.trans (x2.kp.trans (k3.trans (k4.trans (x5.trans x6).kp)))))
end
section
variable {P : Program} {w : World} {K : PySem.W.Frag} {mg : Str → Option Value} {base : Heap}
theorem isNote {H : Hp} {T : Addr} {n l h : Int} {v : V} {d : PyData} (e : tupQ K H T = some [.int n, .int l, .int h, v]) (hv : Is K H d v) : Is K H (.tuple [.int n, .int l, .int h, d]) (.ref T) := by
  unfold Is
  refine ⟨T, _, rfl, tupQ_sq e, ?_⟩
  simp only [IsAll]
  exact ⟨_, _, rfl, by unfold Is; rfl, _, _, rfl, by unfold Is; rfl, _, _, rfl, by unfold Is; rfl, _, _, rfl, hv, rfl⟩
def spActL (K : PySem.W.Frag) : Sp := fun vs H Q _ => ∃ r k us, vs = [.ref r] ∧ tupQ K H r = some (Kd.told k us) ∧ Kd.ok k us ∧ ∀ v H', Ext K H H' → Is K H' (k.act us) v → Q v H'
def spNoteL (K : PySem.W.Frag) : Sp := fun vs H Q _ => ∃ r n k us, vs = [.ref r, .int n] ∧ tupQ K H r = some (Kd.told k us) ∧ Kd.ok k us ∧ ∀ v H', Ext K H H' → Is K H' (k.note us n) v → Q v H'
theorem sc__law_action : FnScope ["_law_told", "_law_word"] ["_law_told"] (defScope s__law_action) := ⟨rfl, rfl, rfl, by decide +kernel, rfl, by decide +kernel, by decide +kernel⟩
theorem ok__law_action {f : Addr} {fd : FuncData} (F : Fun K "_law_action" "_law_action" s__law_action f fd) {aTh aG aC : Addr} {tE tM tN tF u1 u2 u3 u4 u5 u6 u7 u8 : Tok} (B : B P w K mg aTh aG aC tE tM tN tF u1 u2 u3 u4 u5 u6 u7 u8) : FnOk P w K mg base CX0 1 f fd ["_law_told"] (spActL K) := by
  refine F.okJ sc__law_action (fun vs H Q E h => ?_) (fun cdv A outer s H vs Q E hr h => ?_)
  · obtain ⟨r, k, us, rfl, _⟩ := h
    rfl
  obtain ⟨r, k, us, rfl, hr1, ok, q⟩ := h
  refine ⟨_, (bcons (sset (i := 1) sc__law_action.nd rfl (Or.inl rfl) (eix ix_Q (ev 0) ei (fun _ _ => rfl)))
      (bcons (sif (tcmp op_inQ (ev 1) (elstQ (acons estr (acons estr anil))) (by with_unfolding_all rfl)) (bone (sret (etupQ (acons (eix ix_Q (elstQ (acons (etupQ (acons estr (acons (eix ix_Q (ev 0) ei (fun _ _ => rfl)) anil))) (acons (etupQ (acons estr (acons (eix ix_Q (ev 0) ei (fun _ _ => rfl)) anil))) anil))) (ecallTy call_intB rfl B.int bt_int (acons (ecmp op_eq (ev 1) estr (nomark _)) anil)) (fun _ _ => rfl)) (acons (etupQ (acons estr (acons (eix ix_Q (ev 0) ei (fun _ _ => rfl)) anil))) anil))))) bnil)
      (bcons (sif (tcmp op_inQ (ev 1) (elstQ (acons estr (acons estr anil))) (by with_unfolding_all rfl)) (bone (sret (etupQ (acons (etupQ (acons estr anil)) (acons (etupQ (acons estr anil)) anil))))) bnil)
      (bcons (sif (tcmp op_inQ (ev 1) (elstQ (acons estr (acons estr anil))) (by with_unfolding_all rfl)) (bone (sret (etupQ (acons (eix ix_Q (elstQ (acons (etupQ (acons estr (acons (eix ix_Q (ev 0) ei (fun _ _ => rfl)) anil))) (acons (etupQ (acons estr (acons (eix ix_Q (ev 0) ei (fun _ _ => rfl)) anil))) anil))) (ecallTy call_intB rfl B.int bt_int (acons (ecmp op_eq (ev 1) estr (nomark _)) anil)) (fun _ _ => rfl)) (acons (etupQ (acons estr anil)) anil))))) bnil)
      (bone (sret enon)))))), ?_⟩
  simp only [tSeq, tNext, tIfS, tAsg, gName, gSub, tRet, tRetN, tDrop, tVar, tC, tOp, tUn, rI0, rI, rU, tTest, tB, tAndV, tOrV, tNotV, tAnd, tOr, tNot, tIf, tChain, tCB, tCons, tNil, tLst, tTup, tCallC, List.getElem?_cons_zero, List.getElem?_cons_succ, List.set_cons_zero, List.set_cons_succ, Option.some.injEq, V.int.injEq, V.bl.injEq, V.ref.injEq, V.ty.injEq, V.str.injEq, List.cons.injEq, exists_eq_left', exists_eq_left, exists_and_left, and_true, true_and, and_assoc, cxK, rIxF, rSetL, rEq, rNe, scal, HO.lst.injEq, HO.tup.injEq, upd_none, ixN_10, ixN_20, ixN_21, ixN_30, ixN_31, ixN_32, upd_same, seqAt_updL, seqAt_updT, atI_0, atI_1, atI_2, atI_3, decide_eq_true_eq, L2.start, List.map_cons, List.map_nil, List.length_cons, List.length_nil, Nat.reduceAdd, Nat.reduceSub, List.replicate_succ, List.replicate_zero, List.cons_append, List.nil_append, List.append_nil, tFor_rng1, tFor_rng2, tFor_list, tFor_tup, CDv, CMul, CPow, sizeLine_eq, Int.reduceLE, Int.reduceLT, Int.reducePow, Int.reduceToNat, Int.reduceAdd, Int.reduceSub, Int.reduceMul, Int.reduceNeg, Nat.reduceLeDiff, Nat.reducePow, Nat.reduceLT, Int.reduceEq, true_or, or_true, ite_true, ite_false, if_true, if_false, Bool.not_true, Bool.not_false, Bool.false_eq_true, decide_true, decide_false, rIxQ, seqQ_updL, seqQ_updT, tupQ_updT, tSl, tNoPart, tPart, rSlQ, rSlTX, rCatQ, rCatTX, rCatTX0, tTupQ, tLstQ, tNever, rEqD, rInQ, gTupQ, gCons, gNil, tBM, rAppend, tMakeQ, sFld, tFld, tMeth, tBM0, cxN, tCall, pick_nil, pick_own, pick_cap, join_some, tLc_list, tYes, tyV, tFor_list, rEqO, rNeO, rInO, tLc_tup, gStarL, rIxS, rIsascii, rIsdigit, rRemPre, rSplit, seqQ_T hr1]
  refine ⟨_, atI_0, ?_⟩
  cases k
  · obtain ⟨u, v, rfl, o1, o2⟩ := ok
    exact fun p0 n0 => ⟨rfl, rfl, iteT' (by decide +kernel) ⟨_, seqQ_T ((Ext.new n0).tup hr1), _, rfl, fun p1 n1 => ⟨_, seqQ_T (((Ext.new n0).trans (Ext.new n1)).tup hr1), _, rfl, fun p2 n2 p3 n3 => ⟨rfl, V.ref p1, by rw [if_neg (show ¬ (V.str (Kd.word .put) = V.str "add") by decide +kernel)]; rfl, _, seqQ_T (((Ext.new n0).trans ((Ext.new n1).trans ((Ext.new n2).trans (Ext.new n3)))).tup hr1), _, rfl, fun p4 n4 p5 n5 => q _ _ ((Ext.new n0).trans ((Ext.new n1).trans ((Ext.new n2).trans ((Ext.new n3).trans ((Ext.new n4).trans (Ext.new n5)))))) (isPair (tupQ_sq tupQ_updT) (isWd (tupQ_sq (((Ext.new n2).trans ((Ext.new n3).trans ((Ext.new n4).trans (Ext.new n5)))).tup tupQ_updT))) (isWd (tupQ_sq ((Ext.new n5).tup tupQ_updT))))⟩⟩⟩⟩
  · obtain ⟨u, rfl, o1⟩ := ok
    exact fun p0 n0 => ⟨rfl, rfl, iteF' (by decide +kernel) (fun p1 n1 => ⟨rfl, rfl, iteT' (by decide +kernel) (fun p2 n2 p3 n3 p4 n4 => q _ _ ((Ext.new n0).trans ((Ext.new n1).trans ((Ext.new n2).trans ((Ext.new n3).trans (Ext.new n4))))) (isPair (tupQ_sq tupQ_updT) (isGone (tupQ_sq (((Ext.new n3).trans (Ext.new n4)).tup tupQ_updT))) (isGone (tupQ_sq ((Ext.new n4).tup tupQ_updT)))))⟩)⟩
  · obtain ⟨u, v, rfl, o1, o2⟩ := ok
    exact fun p0 n0 => ⟨rfl, rfl, iteT' (by decide +kernel) ⟨_, seqQ_T ((Ext.new n0).tup hr1), _, rfl, fun p1 n1 => ⟨_, seqQ_T (((Ext.new n0).trans (Ext.new n1)).tup hr1), _, rfl, fun p2 n2 p3 n3 => ⟨rfl, V.ref p2, by rw [if_pos (show V.str (Kd.word .add) = V.str "add" from rfl)]; rfl, _, seqQ_T (((Ext.new n0).trans ((Ext.new n1).trans ((Ext.new n2).trans (Ext.new n3)))).tup hr1), _, rfl, fun p4 n4 p5 n5 => q _ _ ((Ext.new n0).trans ((Ext.new n1).trans ((Ext.new n2).trans ((Ext.new n3).trans ((Ext.new n4).trans (Ext.new n5)))))) (isPair (tupQ_sq tupQ_updT) (isWd (tupQ_sq (((Ext.new n3).trans ((Ext.new n4).trans (Ext.new n5))).tup tupQ_updT))) (isWd (tupQ_sq ((Ext.new n5).tup tupQ_updT))))⟩⟩⟩⟩
  · obtain ⟨u, v, rfl, o1⟩ := ok
    exact fun p0 n0 => ⟨rfl, rfl, iteF' (by decide +kernel) (fun p1 n1 => ⟨rfl, rfl, iteT' (by decide +kernel) (fun p2 n2 p3 n3 p4 n4 => q _ _ ((Ext.new n0).trans ((Ext.new n1).trans ((Ext.new n2).trans ((Ext.new n3).trans (Ext.new n4))))) (isPair (tupQ_sq tupQ_updT) (isGone (tupQ_sq (((Ext.new n3).trans (Ext.new n4)).tup tupQ_updT))) (isGone (tupQ_sq ((Ext.new n4).tup tupQ_updT)))))⟩)⟩
  · obtain ⟨u, v, x, rfl, o1, o2⟩ := ok
    exact fun p0 n0 => ⟨rfl, rfl, iteF' (by decide +kernel) (fun p1 n1 => ⟨rfl, rfl, iteF' (by decide +kernel) (fun p2 n2 => ⟨rfl, rfl, iteT' (by decide +kernel) ⟨_, seqQ_T (((Ext.new n0).trans ((Ext.new n1).trans (Ext.new n2))).tup hr1), _, rfl, fun p3 n3 => ⟨_, seqQ_T (((Ext.new n0).trans ((Ext.new n1).trans ((Ext.new n2).trans (Ext.new n3)))).tup hr1), _, rfl, fun p4 n4 p5 n5 => ⟨rfl, V.ref p4, by rw [if_pos (show V.str (Kd.word .raise) = V.str "raise" from rfl)]; rfl, fun p6 n6 p7 n7 => q _ _ ((Ext.new n0).trans ((Ext.new n1).trans ((Ext.new n2).trans ((Ext.new n3).trans ((Ext.new n4).trans ((Ext.new n5).trans ((Ext.new n6).trans (Ext.new n7)))))))) (isPair (tupQ_sq tupQ_updT) (isWd (tupQ_sq (((Ext.new n5).trans ((Ext.new n6).trans (Ext.new n7))).tup tupQ_updT))) (isGone (tupQ_sq ((Ext.new n7).tup tupQ_updT))))⟩⟩⟩⟩)⟩)⟩
  · obtain ⟨u, v, x, rfl, o1, o2⟩ := ok
    exact fun p0 n0 => ⟨rfl, rfl, iteF' (by decide +kernel) (fun p1 n1 => ⟨rfl, rfl, iteF' (by decide +kernel) (fun p2 n2 => ⟨rfl, rfl, iteT' (by decide +kernel) ⟨_, seqQ_T (((Ext.new n0).trans ((Ext.new n1).trans (Ext.new n2))).tup hr1), _, rfl, fun p3 n3 => ⟨_, seqQ_T (((Ext.new n0).trans ((Ext.new n1).trans ((Ext.new n2).trans (Ext.new n3)))).tup hr1), _, rfl, fun p4 n4 p5 n5 => ⟨rfl, V.ref p3, by rw [if_neg (show ¬ (V.str (Kd.word .level) = V.str "raise") by decide +kernel)]; rfl, fun p6 n6 p7 n7 => q _ _ ((Ext.new n0).trans ((Ext.new n1).trans ((Ext.new n2).trans ((Ext.new n3).trans ((Ext.new n4).trans ((Ext.new n5).trans ((Ext.new n6).trans (Ext.new n7)))))))) (isPair (tupQ_sq tupQ_updT) (isWd (tupQ_sq (((Ext.new n4).trans ((Ext.new n5).trans ((Ext.new n6).trans (Ext.new n7)))).tup tupQ_updT))) (isGone (tupQ_sq ((Ext.new n7).tup tupQ_updT))))⟩⟩⟩⟩)⟩)⟩
  · obtain rfl := ok
    exact fun p0 n0 => ⟨rfl, rfl, iteF' (by decide +kernel) (fun p1 n1 => ⟨rfl, rfl, iteF' (by decide +kernel) (fun p2 n2 => ⟨rfl, rfl, iteF' (by decide +kernel) (q _ _ ((Ext.new n0).trans ((Ext.new n1).trans (Ext.new n2))) (by unfold Is; rfl))⟩)⟩)⟩
  · obtain ⟨u, rfl, o1, o2⟩ := ok
    exact fun p0 n0 => ⟨rfl, rfl, iteF' (by decide +kernel) (fun p1 n1 => ⟨rfl, rfl, iteF' (by decide +kernel) (fun p2 n2 => ⟨rfl, rfl, iteF' (by decide +kernel) (q _ _ ((Ext.new n0).trans ((Ext.new n1).trans (Ext.new n2))) (by unfold Is; rfl))⟩)⟩)⟩
theorem sc__law_note : FnScope ["_law_told", "_law_number"] ["_law_told", "_law_number"] (defScope s__law_note) := ⟨rfl, rfl, rfl, by decide +kernel, rfl, by decide +kernel, by decide +kernel⟩
theorem ok__law_note {f : Addr} {fd : FuncData} (F : Fun K "_law_note" "_law_note" s__law_note f fd) {aTh aG aC : Addr} {tE tM tN tF u1 u2 u3 u4 u5 u6 u7 u8 : Tok} (B : B P w K mg aTh aG aC tE tM tN tF u1 u2 u3 u4 u5 u6 u7 u8) (C__law_action : Callee P w K mg base "_law_action" 1 ["_law_told"] (spActL K)) : FnOk P w K mg base CX0 2 f fd ["_law_told", "_law_number"] (spNoteL K) := by
  refine F.okJ sc__law_note (fun vs H Q E h => ?_) (fun cdv A outer s H vs Q E hr h => ?_)
  · obtain ⟨r, n, k, us, rfl, _⟩ := h
    rfl
  obtain ⟨r, n, k, us, rfl, hr1, ok, q⟩ := h
  refine ⟨_, (bcons (sif (tcmp op_inQ (eix ix_Q (ev 0) ei (fun _ _ => rfl)) (elstQ (acons estr (acons estr anil))) (by with_unfolding_all rfl)) (bone (sret enon)) bnil)
      (bcons (sif (tcmp op_inQ (eix ix_Q (ev 0) ei (fun _ _ => rfl)) (elstQ (acons estr (acons estr (acons estr anil)))) (by with_unfolding_all rfl)) (bone (sret (etupQ (acons (ev 1) (acons (eix ix_Q (ev 0) ei (fun _ _ => rfl)) (acons (eop op_add (eix ix_Q (ev 0) ei (fun _ _ => rfl)) ei) (acons (ecall C__law_action (hr.mono (by decide)) rfl (acons (ev 0) anil)) anil))))))) bnil)
      (bone (sret (etupQ (acons (ev 1) (acons (eix ix_Q (ev 0) ei (fun _ _ => rfl)) (acons (eix ix_Q (ev 0) ei (fun _ _ => rfl)) (acons (ecall C__law_action (hr.mono (by decide)) rfl (acons (ev 0) anil)) anil))))))))), ?_⟩
  simp only [tSeq, tNext, tIfS, tAsg, gName, gSub, tRet, tRetN, tDrop, tVar, tC, tOp, tUn, rI0, rI, rU, tTest, tB, tAndV, tOrV, tNotV, tAnd, tOr, tNot, tIf, tChain, tCB, tCons, tNil, tLst, tTup, tCallC, List.getElem?_cons_zero, List.getElem?_cons_succ, List.set_cons_zero, List.set_cons_succ, Option.some.injEq, V.int.injEq, V.bl.injEq, V.ref.injEq, V.ty.injEq, V.str.injEq, List.cons.injEq, exists_eq_left', exists_eq_left, exists_and_left, and_true, true_and, and_assoc, cxK, rIxF, rSetL, rEq, rNe, scal, HO.lst.injEq, HO.tup.injEq, upd_none, ixN_10, ixN_20, ixN_21, ixN_30, ixN_31, ixN_32, upd_same, seqAt_updL, seqAt_updT, atI_0, atI_1, atI_2, atI_3, decide_eq_true_eq, L2.start, List.map_cons, List.map_nil, List.length_cons, List.length_nil, Nat.reduceAdd, Nat.reduceSub, List.replicate_succ, List.replicate_zero, List.cons_append, List.nil_append, List.append_nil, tFor_rng1, tFor_rng2, tFor_list, tFor_tup, CDv, CMul, CPow, sizeLine_eq, Int.reduceLE, Int.reduceLT, Int.reducePow, Int.reduceToNat, Int.reduceAdd, Int.reduceSub, Int.reduceMul, Int.reduceNeg, Nat.reduceLeDiff, Nat.reducePow, Nat.reduceLT, Int.reduceEq, true_or, or_true, ite_true, ite_false, if_true, if_false, Bool.not_true, Bool.not_false, Bool.false_eq_true, decide_true, decide_false, rIxQ, seqQ_updL, seqQ_updT, tupQ_updT, tSl, tNoPart, tPart, rSlQ, rSlTX, rCatQ, rCatTX, rCatTX0, tTupQ, tLstQ, tNever, rEqD, rInQ, gTupQ, gCons, gNil, tBM, rAppend, tMakeQ, sFld, tFld, tMeth, tBM0, cxN, tCall, pick_nil, pick_own, pick_cap, join_some, tLc_list, tYes, tyV, tFor_list, rEqO, rNeO, rInO, tLc_tup, gStarL, rIxS, rIsascii, rIsdigit, rRemPre, rSplit, seqQ_T hr1]
  refine ⟨_, atI_0, ?_⟩
  cases k
  · have ok0 := ok
    obtain ⟨u, v, rfl, o1, o2⟩ := ok
    exact fun p0 n0 => ⟨rfl, rfl, iteF' (by decide +kernel) ⟨_, seqQ_T ((Ext.new n0).tup hr1), _, atI_0, fun p1 n1 => ⟨rfl, rfl, iteT' (by decide +kernel) ⟨_, seqQ_T (((Ext.new n0).trans (Ext.new n1)).tup hr1), _, rfl, _, seqQ_T (((Ext.new n0).trans (Ext.new n1)).tup hr1), _, rfl, u, rfl, r, .put, _, rfl, ((Ext.new n0).trans (Ext.new n1)).tup hr1, ok0, fun v H' x' hv p2 n2 => q _ _ (((Ext.new n0).trans (Ext.new n1)).trans (x'.trans (Ext.new n2))) (isNote (tupQ_updT) (Is.same (Ext.new n2).same hv))⟩⟩⟩⟩
  · have ok0 := ok
    obtain ⟨u, rfl, o1⟩ := ok
    exact fun p0 n0 => ⟨rfl, rfl, iteF' (by decide +kernel) ⟨_, seqQ_T ((Ext.new n0).tup hr1), _, atI_0, fun p1 n1 => ⟨rfl, rfl, iteT' (by decide +kernel) ⟨_, seqQ_T (((Ext.new n0).trans (Ext.new n1)).tup hr1), _, rfl, _, seqQ_T (((Ext.new n0).trans (Ext.new n1)).tup hr1), _, rfl, u, rfl, r, .drop, _, rfl, ((Ext.new n0).trans (Ext.new n1)).tup hr1, ok0, fun v H' x' hv p2 n2 => q _ _ (((Ext.new n0).trans (Ext.new n1)).trans (x'.trans (Ext.new n2))) (isNote (tupQ_updT) (Is.same (Ext.new n2).same hv))⟩⟩⟩⟩
  · have ok0 := ok
    obtain ⟨u, v, rfl, o1, o2⟩ := ok
    exact fun p0 n0 => ⟨rfl, rfl, iteF' (by decide +kernel) ⟨_, seqQ_T ((Ext.new n0).tup hr1), _, atI_0, fun p1 n1 => ⟨rfl, rfl, iteT' (by decide +kernel) ⟨_, seqQ_T (((Ext.new n0).trans (Ext.new n1)).tup hr1), _, rfl, _, seqQ_T (((Ext.new n0).trans (Ext.new n1)).tup hr1), _, rfl, u, rfl, r, .add, _, rfl, ((Ext.new n0).trans (Ext.new n1)).tup hr1, ok0, fun v H' x' hv p2 n2 => q _ _ (((Ext.new n0).trans (Ext.new n1)).trans (x'.trans (Ext.new n2))) (isNote (tupQ_updT) (Is.same (Ext.new n2).same hv))⟩⟩⟩⟩
  · have ok0 := ok
    obtain ⟨u, v, rfl, o1⟩ := ok
    exact fun p0 n0 => ⟨rfl, rfl, iteF' (by decide +kernel) ⟨_, seqQ_T ((Ext.new n0).tup hr1), _, atI_0, fun p1 n1 => ⟨rfl, rfl, iteF' (by decide +kernel) ⟨_, seqQ_T (((Ext.new n0).trans (Ext.new n1)).tup hr1), _, rfl, _, seqQ_T (((Ext.new n0).trans (Ext.new n1)).tup hr1), _, rfl, r, .wipe, _, rfl, ((Ext.new n0).trans (Ext.new n1)).tup hr1, ok0, fun v H' x' hv p2 n2 => q _ _ (((Ext.new n0).trans (Ext.new n1)).trans (x'.trans (Ext.new n2))) (isNote (tupQ_updT) (Is.same (Ext.new n2).same hv))⟩⟩⟩⟩
  · have ok0 := ok
    obtain ⟨u, v, x, rfl, o1, o2⟩ := ok
    exact fun p0 n0 => ⟨rfl, rfl, iteF' (by decide +kernel) ⟨_, seqQ_T ((Ext.new n0).tup hr1), _, atI_0, fun p1 n1 => ⟨rfl, rfl, iteF' (by decide +kernel) ⟨_, seqQ_T (((Ext.new n0).trans (Ext.new n1)).tup hr1), _, rfl, _, seqQ_T (((Ext.new n0).trans (Ext.new n1)).tup hr1), _, rfl, r, .raise, _, rfl, ((Ext.new n0).trans (Ext.new n1)).tup hr1, ok0, fun v H' x' hv p2 n2 => q _ _ (((Ext.new n0).trans (Ext.new n1)).trans (x'.trans (Ext.new n2))) (isNote (tupQ_updT) (Is.same (Ext.new n2).same hv))⟩⟩⟩⟩
  · have ok0 := ok
    obtain ⟨u, v, x, rfl, o1, o2⟩ := ok
    exact fun p0 n0 => ⟨rfl, rfl, iteF' (by decide +kernel) ⟨_, seqQ_T ((Ext.new n0).tup hr1), _, atI_0, fun p1 n1 => ⟨rfl, rfl, iteF' (by decide +kernel) ⟨_, seqQ_T (((Ext.new n0).trans (Ext.new n1)).tup hr1), _, rfl, _, seqQ_T (((Ext.new n0).trans (Ext.new n1)).tup hr1), _, rfl, r, .level, _, rfl, ((Ext.new n0).trans (Ext.new n1)).tup hr1, ok0, fun v H' x' hv p2 n2 => q _ _ (((Ext.new n0).trans (Ext.new n1)).trans (x'.trans (Ext.new n2))) (isNote (tupQ_updT) (Is.same (Ext.new n2).same hv))⟩⟩⟩⟩
  · have ok0 := ok
    obtain rfl := ok
    exact fun p0 n0 => ⟨rfl, rfl, iteT' (by decide +kernel) (q _ _ (Ext.new n0) (show Is K _ PyData.none V.non by unfold Is; rfl))⟩
  · have ok0 := ok
    obtain ⟨u, rfl, o1, o2⟩ := ok
    exact fun p0 n0 => ⟨rfl, rfl, iteT' (by decide +kernel) (q _ _ (Ext.new n0) (show Is K _ PyData.none V.non by unfold Is; rfl))⟩
end
section
variable {P : Program} {w : World} {K : PySem.W.Frag} {mg : Str → Option Value} {base : Heap}
def kds : List Kd := [.put, .drop, .add, .wipe, .raise, .level, .mark, .forget]
def Kd.kinds (k : Kd) : List Bool := kds.map fun j => decide (k = j)
def spKinds (K : PySem.W.Frag) (cs : Cs) : Sp := fun vs H Q _ => ∃ a k us, vs = [.ref a] ∧ Kd.ok k us ∧ DeedAt (cs.at k) H a k us ∧ ∀ D H', Ext K H H' → H' D = some (.lst (k.kinds.map V.bl)) → Q (.ref D) H'
def spRight (K : PySem.W.Frag) (cs : Cs) : Sp := fun vs H Q _ => ∃ a r n k us, vs = [.ref a, .ref r, .int n] ∧ Kd.ok k us ∧ DeedAt (cs.at k) H a k us ∧ tupQ K H r = some (k.told us) ∧ ∀ H', Ext K H H' → Q (.bl true) H'
theorem word_inj (k j : Kd) : decide (V.str k.word = V.str j.word) = decide (k = j) := by cases k <;> cases j <;> decide +kernel
def Kd.kindsD (k : Kd) : PyData := .list (k.kinds.map PyData.bool)
theorem isAll_bools {H : Hp} : ∀ bs : List Bool, IsAll K H (bs.map PyData.bool) (bs.map V.bl)
  | [] => by unfold IsAll; rfl
  | i :: us => by
    rw [List.map_cons, List.map_cons]
    unfold IsAll
    exact ⟨_, _, rfl, by unfold Is; rfl, isAll_bools us⟩
theorem isKinds {H : Hp} {D : Addr} {k : Kd} (h : H D = some (.lst (k.kinds.map V.bl))) : Is K H k.kindsD (.ref D) := by
  unfold Kd.kindsD Is
  exact ⟨D, _, rfl, SqL.of h, isAll_bools _⟩
theorem shaped_kinds (k : Kd) : SeqAt.shaped k.kindsD = true := by
  simp only [SeqAt.shaped, Kd.kindsD, Kd.kinds, kds, List.map, PyData.canLay0, PyData.canLayAll0, PyData.depth, PyData.depthAll]; cases k <;> decide +kernel
theorem shaped_actD {k : Kd} {us : List Int} (ok : k.ok us) : SeqAt.shaped (k.act us) = true := by
  cases k
  · obtain ⟨a, b, rfl, _⟩ := ok; simp only [SeqAt.shaped, Kd.act, Kd.note, Kd.span, isD, plusD, gone, PyData.canLay0, PyData.canLayAll0, PyData.depth, PyData.depthAll]; decide +kernel
  · obtain ⟨a, rfl, _⟩ := ok; simp only [SeqAt.shaped, Kd.act, Kd.note, Kd.span, isD, plusD, gone, PyData.canLay0, PyData.canLayAll0, PyData.depth, PyData.depthAll]; decide +kernel
  · obtain ⟨a, b, rfl, _⟩ := ok; simp only [SeqAt.shaped, Kd.act, Kd.note, Kd.span, isD, plusD, gone, PyData.canLay0, PyData.canLayAll0, PyData.depth, PyData.depthAll]; decide +kernel
  · obtain ⟨a, b, rfl, _⟩ := ok; simp only [SeqAt.shaped, Kd.act, Kd.note, Kd.span, isD, plusD, gone, PyData.canLay0, PyData.canLayAll0, PyData.depth, PyData.depthAll]; decide +kernel
  · obtain ⟨a, b, c, rfl, _⟩ := ok; simp only [SeqAt.shaped, Kd.act, Kd.note, Kd.span, isD, plusD, gone, PyData.canLay0, PyData.canLayAll0, PyData.depth, PyData.depthAll]; decide +kernel
  · obtain ⟨a, b, c, rfl, _⟩ := ok; simp only [SeqAt.shaped, Kd.act, Kd.note, Kd.span, isD, plusD, gone, PyData.canLay0, PyData.canLayAll0, PyData.depth, PyData.depthAll]; decide +kernel
  · obtain rfl := ok; simp only [SeqAt.shaped, Kd.act, Kd.note, Kd.span, isD, plusD, gone, PyData.canLay0, PyData.canLayAll0, PyData.depth, PyData.depthAll]; decide +kernel
  · obtain ⟨a, rfl, _⟩ := ok; simp only [SeqAt.shaped, Kd.act, Kd.note, Kd.span, isD, plusD, gone, PyData.canLay0, PyData.canLayAll0, PyData.depth, PyData.depthAll]; decide +kernel
theorem shaped_noteD {k : Kd} {us : List Int} (ok : k.ok us) (n : Int) : SeqAt.shaped (k.note us n) = true := by
  cases k
  · obtain ⟨a, b, rfl, _⟩ := ok; simp only [SeqAt.shaped, Kd.act, Kd.note, Kd.span, isD, plusD, gone, PyData.canLay0, PyData.canLayAll0, PyData.depth, PyData.depthAll]; decide +kernel
  · obtain ⟨a, rfl, _⟩ := ok; simp only [SeqAt.shaped, Kd.act, Kd.note, Kd.span, isD, plusD, gone, PyData.canLay0, PyData.canLayAll0, PyData.depth, PyData.depthAll]; decide +kernel
  · obtain ⟨a, b, rfl, _⟩ := ok; simp only [SeqAt.shaped, Kd.act, Kd.note, Kd.span, isD, plusD, gone, PyData.canLay0, PyData.canLayAll0, PyData.depth, PyData.depthAll]; decide +kernel
  · obtain ⟨a, b, rfl, _⟩ := ok; simp only [SeqAt.shaped, Kd.act, Kd.note, Kd.span, isD, plusD, gone, PyData.canLay0, PyData.canLayAll0, PyData.depth, PyData.depthAll]; decide +kernel
  · obtain ⟨a, b, c, rfl, _⟩ := ok; simp only [SeqAt.shaped, Kd.act, Kd.note, Kd.span, isD, plusD, gone, PyData.canLay0, PyData.canLayAll0, PyData.depth, PyData.depthAll]; decide +kernel
  · obtain ⟨a, b, c, rfl, _⟩ := ok; simp only [SeqAt.shaped, Kd.act, Kd.note, Kd.span, isD, plusD, gone, PyData.canLay0, PyData.canLayAll0, PyData.depth, PyData.depthAll]; decide +kernel
  · obtain rfl := ok; simp only [SeqAt.shaped, Kd.act, Kd.note, Kd.span, isD, plusD, gone, PyData.canLay0, PyData.canLayAll0, PyData.depth, PyData.depthAll]; decide +kernel
  · obtain ⟨a, rfl, _⟩ := ok; simp only [SeqAt.shaped, Kd.act, Kd.note, Kd.span, isD, plusD, gone, PyData.canLay0, PyData.canLayAll0, PyData.depth, PyData.depthAll]; decide +kernel
theorem no_note (k : Kd) (us : List Int) : (k.flds us).lookup ("note" : Str) = none := zip_no (show ("note" : Str) ∉ k.names by cases k <;> decide +kernel)
theorem sc__law_kinds : FnScope ["_law_deed_here", "_law_kinds_here"] ["_law_deed_here"] (defScope s__law_kinds) := ⟨rfl, rfl, rfl, by decide +kernel, rfl, by decide +kernel, by decide +kernel⟩
theorem ok__law_kinds {f : Addr} {fd : FuncData} (F : Fun K "_law_kinds" "_law_kinds" s__law_kinds f fd) {aTh aG aC : Addr} {tE tM tN tF u1 u2 u3 u4 u5 u6 u7 u8 : Tok} (B : B P w K mg aTh aG aC tE tM tN tF u1 u2 u3 u4 u5 u6 u7 u8) {cs : Cs} {cDeed : Addr} (dc : ∀ k : Kd, DC K (cs.at k) cDeed) (kk : ∀ k j : Kd, PySem.W.kitOne K (.ref (cs.at k)) (.ref (cs.at j)) = some (decide (k = j))) (G_Put : mg "Put" = some (.ref cs.cPut)) (G_Drop : mg "Drop" = some (.ref cs.cDrop)) (G_Add : mg "Add" = some (.ref cs.cAdd)) (G_Wipe : mg "Wipe" = some (.ref cs.cWipe)) (G_Raise : mg "Raise" = some (.ref cs.cRaise)) (G_Level : mg "Level" = some (.ref cs.cLevel)) (G_Mark : mg "Mark" = some (.ref cs.cMark)) (G_Forget : mg "Forget" = some (.ref cs.cForget)) : FnOk P w K mg base CX0 1 f fd ["_law_deed_here"] (spKinds K cs) := by
  refine F.okJ sc__law_kinds (fun vs H Q E h => ?_) (fun cdv A outer s H vs Q E hr h => ?_)
  · obtain ⟨a, k, us, rfl, _⟩ := h
    rfl
  obtain ⟨a, k, us, rfl, ok, ha, q⟩ := h
  refine ⟨_, (bcons (sset (i := 1) sc__law_kinds.nd rfl (Or.inl rfl) (elstQ (acons (ecallB call_isinstC rfl B.isinstance bt_isinstance (acons (ev 0) (acons (eglob rfl G_Put (show RelV (.ref cs.cPut) (.ref cs.cPut) from rfl)) anil))) (acons (ecallB call_isinstC rfl B.isinstance bt_isinstance (acons (ev 0) (acons (eglob rfl G_Drop (show RelV (.ref cs.cDrop) (.ref cs.cDrop) from rfl)) anil))) (acons (ecallB call_isinstC rfl B.isinstance bt_isinstance (acons (ev 0) (acons (eglob rfl G_Add (show RelV (.ref cs.cAdd) (.ref cs.cAdd) from rfl)) anil))) (acons (ecallB call_isinstC rfl B.isinstance bt_isinstance (acons (ev 0) (acons (eglob rfl G_Wipe (show RelV (.ref cs.cWipe) (.ref cs.cWipe) from rfl)) anil))) anil))))))
      (bcons (sset (i := 1) sc__law_kinds.nd rfl (Or.inl rfl) (eop op_catQ (ev 1) (elstQ (acons (ecallB call_isinstC rfl B.isinstance bt_isinstance (acons (ev 0) (acons (eglob rfl G_Raise (show RelV (.ref cs.cRaise) (.ref cs.cRaise) from rfl)) anil))) (acons (ecallB call_isinstC rfl B.isinstance bt_isinstance (acons (ev 0) (acons (eglob rfl G_Level (show RelV (.ref cs.cLevel) (.ref cs.cLevel) from rfl)) anil))) (acons (ecallB call_isinstC rfl B.isinstance bt_isinstance (acons (ev 0) (acons (eglob rfl G_Mark (show RelV (.ref cs.cMark) (.ref cs.cMark) from rfl)) anil))) anil))))))
      (bone (sret (eop op_catQ (ev 1) (elstQ (acons (ecallB call_isinstC rfl B.isinstance bt_isinstance (acons (ev 0) (acons (eglob rfl G_Forget (show RelV (.ref cs.cForget) (.ref cs.cForget) from rfl)) anil))) anil))))))), ?_⟩
  try walk_at "rn"
  refine ⟨_, ha.ty (dc k), _, kk k .put, _, ha.ty (dc k), _, kk k .drop, _, ha.ty (dc k), _, kk k .add, _, ha.ty (dc k), _, kk k .wipe, fun p n0 => ?_⟩
  have h1 := ha.ext (Ext.new (K := K) (o := .lst [V.bl (decide (k = .put)), V.bl (decide (k = .drop)), V.bl (decide (k = .add)), V.bl (decide (k = .wipe))]) n0)
  refine ⟨_, h1.ty (dc k), _, kk k .raise, _, h1.ty (dc k), _, kk k .level, _, h1.ty (dc k), _, kk k .mark, fun p1 n1 => ⟨_, (Ext.new n1).at upd_same, by simp, fun p2 n2 => ?_⟩⟩
  exact ⟨_, ((h1.ext (Ext.new n1)).ext (Ext.new n2)).ty (dc k), _, kk k .forget, fun p3 n3 => ⟨_, (Ext.new n3).at upd_same, by simp, fun p4 n4 => q p4 _ ((Ext.new n0).trans ((Ext.new n1).trans ((Ext.new n2).trans ((Ext.new n3).trans (Ext.new n4))))) upd_same⟩⟩
theorem sc__law_right : FnScope ["_law_deed_here", "_law_told", "_law_number", "_law_words", "_law_kinds_here"] ["_law_deed_here", "_law_told", "_law_number"] (defScope s__law_right) := ⟨rfl, rfl, rfl, by decide +kernel, rfl, by decide +kernel, by decide +kernel⟩
theorem ok__law_right {f : Addr} {fd : FuncData} (F : Fun K "_law_right" "_law_right" s__law_right f fd) {aTh aG aC : Addr} {tE tM tN tF u1 u2 u3 u4 u5 u6 u7 u8 : Tok} (B : B P w K mg aTh aG aC tE tM tN tF u1 u2 u3 u4 u5 u6 u7 u8) {cs : Cs} (MT : ∀ k : Kd, MethC P w K mg base (cs.at k) "told" 1 ["self"] [] (spTold K k (cs.at k))) (MA : ∀ k : Kd, MethC P w K mg base (cs.at k) "action" 1 ["self"] [] (spAct K k (cs.at k))) (MN : ∀ k : Kd, MethC P w K mg base (cs.at k) "note" 2 ["self", "number"] [] (spNote K cs)) (MR : ∀ k : Kd, MethC P w K mg base (cs.at k) "__str__" 3 ["self"] [] (spStr K cs)) {cDeed : Addr} (dc : ∀ k : Kd, DC K (cs.at k) cDeed) (Dd : mg "Deed" = some (.ref cDeed)) (C__law_kinds : Callee P w K mg base "_law_kinds" 1 ["_law_deed_here"] (spKinds K cs)) (C__law_action : Callee P w K mg base "_law_action" 1 ["_law_told"] (spActL K)) (C__law_note : Callee P w K mg base "_law_note" 2 ["_law_told", "_law_number"] (spNoteL K)) : FnOk P w K mg base CX0 6 f fd ["_law_deed_here", "_law_told", "_law_number"] (spRight K cs) := by
  refine F.okJ sc__law_right (fun vs H Q E h => ?_) (fun cdv A outer s H vs Q E hr h => ?_)
  · obtain ⟨a, r, n, k, us, rfl, _⟩ := h
    rfl
  obtain ⟨a, r, n, k, us, rfl, ok, ha, hr1, q⟩ := h
  obtain ⟨z1, z2⟩ := Kd.itsS ok
  have z3 : ∀ t ∈ (k.items us).map itT, t.length ≤ 101 := fun t ht => by
    obtain ⟨z, hz, rfl⟩ := List.mem_map.mp ht
    exact itS_len (z2 z hz)
  have l1 := lenAll_le (sep := Str.ofString " ") _ z3
  have l2 := join_le (sep := Str.ofString " ") _ z3
  rw [List.length_map, show (Str.ofString " ").length = 1 from by decide +kernel] at l1 l2
  have sz := sizeLine_eq
  have rfx : ∀ d : PyData, SeqAt.shaped d = true → ¬ ((!PyData.eqv d d) = true) := fun d hd => by rw [eqv_refl d (SeqAt.canLay_of_shaped hd)]; decide
  refine ⟨_, (bcons (sset (i := 3) sc__law_right.nd rfl (Or.inl rfl) (ebm PySem.F.plainAttrs_str PySem.F.slot_str_join PySem.F.type_str_join mt_join estr (acons (elc (Cap.mk (N := ["_law_one"]) (src := [none]) rfl rfl) rfl (itup (ev 1)) (fun _ _ _ _ => (gname (i := 0) (show (["_law_one"] : List Str).Nodup from by decide +kernel) rfl (Or.inl rfl))) (fun _ _ _ _ => fnone) (fun _ _ _ _ => (ecallTy call_strA rfl B.str bt_str (acons (ev 0) anil)))) anil)))
      (bcons (slc (i := 4) sc__law_right.nd rfl (Or.inl rfl) (Cap.mk (N := ["_law_word", "_law_told"]) (src := [none, some 1]) rfl rfl) rfl (ilist (elstQ (acons estr (acons estr (acons estr (acons estr (acons estr (acons estr (acons estr (acons estr anil)))))))))) (fun _ _ _ _ => (gname (i := 0) (show (["_law_word", "_law_told"] : List Str).Nodup from by decide +kernel) rfl (Or.inl rfl))) (fun _ _ _ _ => fnone) (fun _ _ _ _ => (ecmp op_eq (eix (ix_QK K) (ev 1) ei (fun _ _ => rfl)) (ev 0) (nomark _))))
      (bcons (sif (tw (wor (tnot (tval (ecallB call_isinstC rfl B.isinstance bt_isinstance (acons (ev 0) (acons (eglob rfl Dd (show RelV (.ref cDeed) (.ref cDeed) from rfl)) anil))))) (wor (tcmp (op_neD hr.units) (ecall C__law_kinds (hr.mono (by decide)) rfl (acons (ev 0) anil)) (ev 4) (nomark _)) (wor (tcmp (op_neD hr.units) (emeth0 (MT k) (dc k).cl (hr.mono (by decide)) (ev 0)) (ev 1) (nomark _)) (wor1 (tcmp op_ne (ecallTy (call_strI (MR k) (hr.mono (by decide))) rfl B.str bt_str (acons (ev 0) anil)) (ev 3) (nomark _))))))) (bone (sret ebl)) bnil)
      (bcons (sif (tw (wor (tnot (tval (ecallB call_isinstQ rfl B.isinstance bt_isinstance (acons (emeth0 (MT k) (dc k).cl (hr.mono (by decide)) (ev 0)) (acons (etyp rfl B.tuple bt_tuple) anil))))) (wor1 (tcmp (op_neD hr.units) (emeth0 (MA k) (dc k).cl (hr.mono (by decide)) (ev 0)) (ecall C__law_action (hr.mono (by decide)) rfl (acons (ev 1) anil)) (nomark _))))) (bone (sret ebl)) bnil)
      (bone (sret (eand (ecmp (op_eqD hr.units) (emeth (MN k) (dc k).cl (hr.mono (by decide)) (ev 0) (acons (ev 2) anil)) (ecall C__law_note (hr.mono (by decide)) rfl (acons (ev 1) (acons (ev 2) anil))) (nomark _)) (eone (ecmp (op_eqD hr.units) (emeth0 (MT k) (dc k).cl (hr.mono (by decide)) (ev 0)) (ev 1) (nomark _)))))))))), ?_⟩
  try walk_at "rn"
  refine ⟨⟨_, tupQ_sq hr1⟩, fun D nD => lc_mapXT (f := itV) (g := fun q => V.str (itT q)) (L := k.items us) (by rw [← Kd.told_items]; exact hr1) nD (by omega) (fun z hz H' Q' xx qq => ?_) (fun H1 hD x1 => ?_)⟩
  · try walk_at "rn"
    cases z with
    | inl t => exact .inr ⟨t, rfl, qq _ Ext.refl⟩
    | inr i => exact .inl ⟨i, rfl, num_log (z2 _ hz), qq _ Ext.refl⟩
  refine ⟨_, D, (k.items us).map itT, rfl, rfl, by rw [List.map_map]; exact SqL.of hD, by omega, by omega, fun p np => ⟨⟨_, SqL.of upd_same⟩, fun D2 n2 => ?_⟩⟩
  have xp := x1.trans (Ext.new (K := K) (o := .lst (kds.map fun j : Kd => V.str j.word)) np)
  refine lc_mapX (f := fun j : Kd => V.str j.word) (g := fun j => V.bl (decide (k = j))) (L := kds) upd_same n2 (by decide) (fun j hj H' Q' xx qq => ?_) (fun H2 hD2 x2 => ?_)
  · simp only [tSeq, tNext, tIfS, tAsg, gName, gSub, tRet, tRetN, tDrop, tVar, tC, tOp, tUn, rI0, rI, rU, tTest, tB, tAndV, tOrV, tNotV, tAnd, tOr, tNot, tIf, tChain, tCB, tCons, tNil, tLst, tTup, tCallC, List.getElem?_cons_zero, List.getElem?_cons_succ, List.set_cons_zero, List.set_cons_succ, Option.some.injEq, V.int.injEq, V.bl.injEq, V.ref.injEq, V.ty.injEq, V.str.injEq, List.cons.injEq, exists_eq_left', exists_eq_left, exists_and_left, and_true, true_and, and_assoc, cxK, rIxF, rSetL, rEq, rNe, scal, HO.lst.injEq, HO.tup.injEq, upd_none, ixN_10, ixN_20, ixN_21, ixN_30, ixN_31, ixN_32, upd_same, seqAt_updL, seqAt_updT, atI_0, atI_1, atI_2, atI_3, decide_eq_true_eq, L2.start, List.map_cons, List.map_nil, List.length_cons, List.length_nil, Nat.reduceAdd, Nat.reduceSub, List.replicate_succ, List.replicate_zero, List.cons_append, List.nil_append, List.append_nil, tFor_rng1, tFor_rng2, tFor_list, tFor_tup, CDv, CMul, CPow, sizeLine_eq, Int.reduceLE, Int.reduceLT, Int.reducePow, Int.reduceToNat, Int.reduceAdd, Int.reduceSub, Int.reduceMul, Int.reduceNeg, Nat.reduceLeDiff, Nat.reducePow, Nat.reduceLT, Int.reduceEq, true_or, or_true, ite_true, ite_false, if_true, if_false, Bool.not_true, Bool.not_false, Bool.false_eq_true, decide_true, decide_false, rIxQ, seqQ_updL, seqQ_updT, tupQ_updT, tSl, tNoPart, tPart, rSlQ, rSlTX, rCatQ, rCatTX, rCatTX0, tTupQ, tLstQ, tNever, rEqD, rInQ, gTupQ, gCons, gNil, tBM, rAppend, tMakeQ, sFld, tFld, tMeth, tBM0, cxN, tCall, pick_nil, pick_own, pick_cap, join_some, tLc_list, tYes, tyV, tFor_list, rEqO, rNeO, rInO, tLc_tup, gStarL, rIxS, rIsascii, rIsdigit, rRemPre, rSplit, seqQ_T ((xp.trans xx).tup hr1)]
    refine ⟨_, atI_0, rfl, ?_⟩
    have := qq _ Ext.refl
    rw [← word_inj] at this
    exact this
  have xx := xp.trans x2
  have hk : H2 D2 = some (.lst (k.kinds.map V.bl)) := by rw [hD2]; simp only [Kd.kinds, List.map_map]; rfl
  obtain ⟨dx, e⟩ := ha
  refine ⟨_, (DeedAt.ext ⟨dx, e⟩ xx).ty (dc k), true, (dc k).isD, iteF' (by decide) ⟨a, k, us, rfl, ok, DeedAt.ext ⟨dx, e⟩ xx, fun D3 H3 x3 hD3 => ⟨_, isKinds hD3, _, isKinds (x3.at hk), shaped_kinds k, shaped_kinds k, iteF' (rfx _ (shaped_kinds k)) ?_⟩⟩⟩
  have x03 := xx.trans x3
  refine ⟨dx, _, x03.at e, no_told k us, a, us, rfl, ok, ⟨dx, x03.at e⟩, fun T nT => ⟨_, isTold tupQ_updT, _, isTold ((x03.trans (Ext.new nT)).tup hr1), shaped_told ok, shaped_told ok, iteF' (rfx _ (shaped_told ok)) ?_⟩⟩
  have x04 := x03.trans (Ext.new (K := K) (o := .tup (k.told us)) nT)
  refine ⟨dx, _, x04.at e, a, k, us, rfl, ok, ⟨dx, x04.at e⟩, fun H5 x5 => ⟨_, rfl, rfl, iteF' (show ¬ ((!decide (V.str (k.text us) = V.str (k.text us))) = true) by simp) ?_⟩⟩
  have x05 := x04.trans x5
  refine ⟨dx, _, x05.at e, no_told k us, a, us, rfl, ok, ⟨dx, x05.at e⟩, fun T2 nT2 => ⟨_, TyQ.tup tupQ_updT, true, rfl, iteF' (by decide) ?_⟩⟩
  have x06 := x05.trans (Ext.new (K := K) (o := .tup (k.told us)) nT2)
  refine ⟨dx, _, x06.at e, no_action k us, a, us, rfl, ok, ⟨dx, x06.at e⟩, fun v6 H6 x7 hv6 => ?_⟩
  have x07 := x06.trans x7
  refine ⟨r, k, us, rfl, x07.tup hr1, ok, fun v8 H8 x8 hv8 => ⟨_, Is.same x8.same hv6, _, hv8, shaped_actD ok, shaped_actD ok, iteF' (rfx _ (shaped_actD ok)) ?_⟩⟩
  have x08 := x07.trans x8
  refine ⟨dx, _, x08.at e, no_note k us, a, n, k, us, rfl, ok, ⟨dx, x08.at e⟩, fun v9 H9 x9 hv9 => ?_⟩
  have x09 := x08.trans x9
  refine ⟨r, n, k, us, rfl, x09.tup hr1, ok, fun v10 H10 x10 hv10 => ⟨_, Is.same x10.same hv9, _, hv10, shaped_noteD ok n, shaped_noteD ok n, iteT' (eqv_refl _ (SeqAt.canLay_of_shaped (shaped_noteD ok n))) ?_⟩⟩
  have x010 := x09.trans x10
  refine ⟨dx, _, x010.at e, no_told k us, a, us, rfl, ok, ⟨dx, x010.at e⟩, fun T3 n3 => ⟨_, isTold tupQ_updT, _, isTold ((x010.trans (Ext.new n3)).tup hr1), shaped_told ok, shaped_told ok, ?_⟩⟩
  rw [eqv_refl _ (SeqAt.canLay_of_shaped (shaped_told ok))]
  exact q _ (x010.trans (Ext.new n3))
end
section
variable {X : Cx} {cs : Cs}
theorem op_eqOs {k : Nat} {ps : List Str} {sp : Sp} (M : ∀ j : Kd, MethC X.prog X.w X.K X.mg X.base (cs.at j) "__eq__" k ps [] sp) (hr : Room k X.A) : OpR X (compareOp .Eq) (fun x y H Q => ∃ j : Kd, rEqO X.K (cs.at j) sp x y H Q) :=
  fun pins s σ H x y v u Q I rx ry ⟨j, h⟩ => op_eqO (M j) hr pins s σ H x y v u Q I rx ry h
theorem op_neOs {k : Nat} {ps : List Str} {sp : Sp} (M : ∀ j : Kd, MethC X.prog X.w X.K X.mg X.base (cs.at j) "__eq__" k ps [] sp) (hr : Room (k + 1) X.A) : OpR X (compareOp .NotEq) (fun x y H Q => ∃ j : Kd, rNeO X.K (cs.at j) sp x y H Q) :=
  fun pins s σ H x y v u Q I rx ry ⟨j, h⟩ => op_neO (M j) hr pins s σ H x y v u Q I rx ry h
theorem op_inOs {k : Nat} {ps : List Str} {sp : Sp} (c : ∀ j : Kd, OddCls X.K (cs.at j)) (M : ∀ j : Kd, MethC X.prog X.w X.K X.mg X.base (cs.at j) "__eq__" k ps [] sp) (hr : Room (k + 1) X.A) : OpR X (compareOp .In) (fun x y H Q => ∃ j : Kd, rInO X.K (cs.at j) sp x y H Q) :=
  fun pins s σ H x y v u Q I rx ry ⟨j, h⟩ => op_inO (c j) (M j) hr pins s σ H x y v u Q I rx ry h
theorem call_strIs {k : Nat} {ps : List Str} {sp : Sp} (M : ∀ j : Kd, MethC X.prog X.w X.K X.mg X.base (cs.at j) "__str__" k ps [] sp) (hr : Room (k + 2) X.A) :
    CallR X (.type "str") (fun xs H Q => ∃ (j : Kd) (a dx : Addr) (fs : List (Str × V)), xs = [.ref a] ∧ H a = some (.ins (cs.at j) dx fs) ∧ sp [.ref a] H (fun v H' => ∃ t, v = .str t ∧ Q (.str t) H') E0) :=
  fun pins s σ H xs us Q I r ⟨j, h⟩ => call_strI (M j) hr pins s σ H xs us Q I r h
end
section
variable {P : Program} {w : World} {K : PySem.W.Frag} {mg : Str → Option Value} {base : Heap}
def spLaw (K : PySem.W.Frag) : Sp := fun vs H Q _ => ∃ (a : Addr) (ns : List Int), vs = [.ref a] ∧ SqL K H a (ns.map V.int) ∧ ns.length ≤ 63 ∧ Only H ∧ ∀ H', Q (.bl true) H'
theorem sc_law : FnScope ["_law_script", "_law_ahead", "_law_cell", "_law_well_here", "_law_number", "_law_told", "_law_deeds", "_law_deed_here"] ["_law_script"] (defScope s_law) := ⟨rfl, rfl, rfl, by decide +kernel, rfl, by decide +kernel, by decide +kernel⟩
theorem ok_law {f : Addr} {fd : FuncData} (F : Fun K "law" "law" s_law f fd) {aTh aG aC : Addr} {tE tM tN tF u1 u2 u3 u4 u5 u6 u7 u8 : Tok} (B : B P w K mg aTh aG aC tE tM tN tF u1 u2 u3 u4 u5 u6 u7 u8) {cs : Cs} {cDeed : Addr} (dc : ∀ k : Kd, DC K (cs.at k) cDeed) (ME : ∀ k : Kd, MethC P w K mg base (cs.at k) "__eq__" 2 ["self", "other"] [] (spEq K cs cDeed)) (MR : ∀ k : Kd, MethC P w K mg base (cs.at k) "__str__" 3 ["self"] [] (spStr K cs))
    (oc : ∀ k : Kd, OddCls K (cs.at k)) (ec : ∀ k j : Kd, EqCls K (cs.at k) (cs.at j)) (kd : ∀ T ∈ ["NoneType", "int", "str", "tuple", "list"], PySem.W.kitOne K (.type T) (.ref cDeed) = some false)
    (C__law_well : Callee P w K mg base "_law_well" 1 ["_law_cell"] (spWell K)) (C__law_draw : Callee P w K mg base "_law_draw" 1 ["_law_well_here", "_law_many"] (spDraw K)) (C__law_deed : Callee P w K mg base "_law_deed" 4 ["_law_well_here"] (spDeedL K))
    (C_deed_of : Callee P w K mg base "deed_of" 6 ["told"] (spDeed K cs)) (C__law_by_place : Callee P w K mg base "_law_by_place" 6 ["_law_told"] (spDeed K cs)) (C_read_words : Callee P w K mg base "read_words" 7 ["text"] (spRW K cs)) (C__law_right : Callee P w K mg base "_law_right" 6 ["_law_deed_here", "_law_told", "_law_number"] (spRight K cs)) :
    FnOk P w K mg base CX0 8 f fd ["_law_script"] (spLaw K) := by
  refine F.okJ sc_law (fun vs H Q E h => ?_) (fun cdv A outer s H vs Q E hr h => ?_)
  · obtain ⟨a, ns, rfl, _⟩ := h
    rfl
  obtain ⟨a, ns, rfl, hS, h63, ho, q⟩ := h
  refine ⟨_, (bcons (sset (i := 1) sc_law.nd rfl (Or.inl rfl) (etupQ (acons estr (acons ei (acons ei anil)))))
      (bcons (sfor PassesOwn.never rfl (ilist (eop op_catQ (elstQ (acons ei (acons ei anil))) (eslice sl_listQ (ev 0) onone (osome ei)))) (gname (i := 2) sc_law.nd rfl (Or.inl rfl))
        (bcons (sset (i := 3) sc_law.nd rfl (Or.inl rfl) (ecall C__law_well (hr.mono (by decide)) rfl (acons (ev 2) anil)))
      (bcons (sset (i := 4) sc_law.nd rfl (Or.inl rfl) (eop op_add ei (ecall C__law_draw (hr.mono (by decide)) rfl (acons (ev 3) (acons (eix ix_Q (elstQ (acons ei (acons (epowc 1000000000) anil))) (ecall C__law_draw (hr.mono (by decide)) rfl (acons (ev 3) (acons ei anil))) (fun _ _ => rfl)) anil)))))
      (bcons (sset (i := 5) sc_law.nd rfl (Or.inl rfl) (ecall C__law_deed (hr.mono (by decide)) rfl (acons (ev 3) anil)))
      (bcons (sset (i := 6) sc_law.nd rfl (Or.inl rfl) (elstQ (acons (ecall C_deed_of (hr.mono (by decide)) rfl (acons (ev 5) anil)) (acons (ecall C__law_by_place (hr.mono (by decide)) rfl (acons (ev 5) anil)) (acons (ecall C_read_words (hr.mono (by decide)) rfl (acons (ebm PySem.F.plainAttrs_str PySem.F.slot_str_join PySem.F.type_str_join mt_join estr (acons (elc (Cap.mk (N := ["_law_one"]) (src := [none]) rfl rfl) rfl (itup (ev 5)) (fun _ _ _ _ => (gname (i := 0) (show (["_law_one"] : List Str).Nodup from by decide +kernel) rfl (Or.inl rfl))) (fun _ _ _ _ => fnone) (fun _ _ _ _ => (ecallTy call_strA rfl B.str bt_str (acons (ev 0) anil)))) anil)) anil)) anil)))))
      (bcons (sfor PassesOwn.never rfl (ilist (ev 6)) (gname (i := 7) sc_law.nd rfl (Or.inl rfl))
        (bcons (sif (tw (wor (tnot (tval (ecall C__law_right (hr.mono (by decide)) rfl (acons (ev 7) (acons (ev 5) (acons (ev 4) anil)))))) (wor1 (tnot (tcmp (op_eqOs ME (hr.mono (by decide))) (ev 7) (eix ix_Q (ev 6) ei (fun _ _ => rfl)) (nomark _)))))) (bone (sret ebl)) bnil)
      (bone (sif (tw (wor (tcmp op_ne (ecmp (op_eqOs ME (hr.mono (by decide))) (ev 7) (ecall C_deed_of (hr.mono (by decide)) rfl (acons (ev 1) anil)) (nomark _)) (ecmp (op_eqD hr.units) (ev 5) (ev 1) (nomark _)) (nomark _)) (wor1 (tcmp op_ne (ecmp (op_neOs ME (hr.mono (by decide))) (ev 7) (ecall C_deed_of (hr.mono (by decide)) rfl (acons (ev 1) anil)) (nomark _)) (ecmp (op_neD hr.units) (ev 5) (ev 1) (nomark _)) (nomark _))))) (bone (sret ebl)) bnil))))
      (bcons (sif (tw (wor (tcmp (op_neOs ME (hr.mono (by decide))) (ecall C_read_words (hr.mono (by decide)) rfl (acons (ecallTy (call_strIs MR (hr.mono (by decide))) rfl B.str bt_str (acons (eix ix_Q (ev 6) ei (fun _ _ => rfl)) anil)) anil)) (eix ix_Q (ev 6) ei (fun _ _ => rfl)) (nomark _)) (wor1 (tcmp (op_inOs oc ME (hr.mono (by decide))) (eix ix_Q (ev 6) ei (fun _ _ => rfl)) (elstQ (acons (ev 5) (acons (ecallTy (call_strIs MR (hr.mono (by decide))) rfl B.str bt_str (acons (eix ix_Q (ev 6) ei (fun _ _ => rfl)) anil)) (acons enon (acons (ev 4) (acons (elstQ (acons (ev 5) anil)) anil)))))) (by with_unfolding_all rfl))))) (bone (sret ebl)) bnil)
      (bone (sset (i := 1) sc_law.nd rfl (Or.inl rfl) (ev 5))))))))))
      (bone (sret ebl)))), ?_⟩
  try walk_at "rn"
  intro pa na b0 n0
  refine ⟨_, ((Ext.new na).trans (Ext.new n0)).same.seq hS, fun b1 n1 => ⟨_, (Ext.new n1).at upd_same, ?_, fun b2 n2 => ⟨⟨_, SqL.of upd_same⟩, ?_⟩⟩⟩
  · have z1 := cutV_length (ns.map V.int) none (some 16)
    rw [List.length_map] at z1
    simp only [List.length_cons, List.length_nil]
    omega
  have allI : ∀ x ∈ ([V.int 0, V.int 3] ++ cutV (ns.map V.int) none (some 16) : List V), ∃ c : Int, x = .int c := by
    intro x hx
    rcases List.mem_append.mp hx with hx | h
    · simp only [List.mem_cons, List.not_mem_nil, or_false] at hx
      rcases hx with rfl | rfl
      · exact ⟨_, rfl⟩
      · exact ⟨_, rfl⟩
    · obtain ⟨c, _, rfl⟩ := List.mem_map.mp (List.mem_of_mem_drop (List.mem_of_mem_take h))
      exact ⟨c, rfl⟩
  obtain ⟨G, eqG⟩ : ∃ G, G = (upd (upd (upd (upd H pa (.tup [V.str "put", V.int 0, V.int 0])) b0 (.lst [.int 0, .int 3])) b1 (.lst (cutV (ns.map V.int) none (some 16)))) b2 (.lst ([V.int 0, V.int 3] ++ cutV (ns.map V.int) none (some 16)))) := ⟨_, rfl⟩
  have eG : G b2 = some (.lst ([V.int 0, V.int 3] ++ cutV (ns.map V.int) none (some 16))) := by rw [eqG]; exact upd_same
  have tG : tupQ K G pa = some (Kd.told .put [0, 0]) := by rw [eqG]; exact ((Ext.new n0).trans ((Ext.new n1).trans (Ext.new n2))).tup tupQ_updT
  rw [← eqG]
  clear eqG
  refine loop_list (xs := [V.int 0, V.int 3] ++ cutV (ns.map V.int) none (some 16)) (fun i σ H2 => ∃ (ah : Addr) (k0 : Kd) (us0 : List Int) (v2 v3 v4 v5 v6 v7 : Option V), σ = [some (.ref a), some (.ref ah), v2, v3, v4, v5, v6, v7] ∧ Ext K G H2 ∧ tupQ K H2 ah = some (k0.told us0) ∧ k0.ok us0) ⟨pa, .put, [0, 0], _, _, _, _, _, _, rfl, Ext.refl, tG, ⟨0, 0, rfl, by unfold okKey; decide, by unfold okAm; decide⟩⟩ ?_ ?_ ?_
  · rintro i σ H2 _ ⟨_, _, _, _, _, _, _, _, _, _, x, _⟩
    exact SqL.of (x.at eG)
  · rintro i x σ H0 hi ⟨ah, k0, us0, v2, v3, v4, v5, v6, v7, rfl, x0, ta, ok0⟩
    obtain ⟨c, rfl⟩ := allI x (List.mem_of_getElem? hi)
    try walk_at "rn"
    refine ⟨c, rfl, fun p x y z np b3 n3 => ?_⟩
    have e3 : (upd (upd H0 p (L3 x y z)) b3 (.lst [V.int 6, V.int 1000000000])) p = some (L3 x y z) := (Ext.new n3).at upd_same
    have m3 : b3 ≠ p := (ne_of_none (upd_same (H := H0) (a := p) (o := L3 x y z)) n3.1).symm
    refine ⟨p, _, _, _, 2, rfl, e3, by decide, by omega, fun r x y z H1 r0 r1 g1 k1 => ⟨_, rfl, _, seqQ_lst (k1.keep b3 _ upd_same m3), ?_⟩⟩
    obtain ⟨v, ev, mv⟩ := atI_in (xs := [V.int 6, V.int 1000000000]) r0 r1
    obtain ⟨m, rfl, hm0, hm1⟩ : ∃ n, v = V.int n ∧ 0 < n ∧ n ≤ 1000000000 := by
      simp only [List.mem_cons, List.not_mem_nil, or_false] at mv
      rcases mv with rfl | rfl <;> exact ⟨_, rfl, by decide, by decide⟩
    refine ⟨_, ev, p, _, _, _, m, rfl, g1, hm0, by omega, fun nu x y z H2 u0 u1 g2 k2 => ⟨_, rfl, p, _, _, _, rfl, g2, fun b k us x y z H3 ok t3 g3 k3 => ?_⟩⟩
    have xE : Ext K H0 H3 := Kp.ext (((Ext.new n3).kp).trans (k1.trans (k2.trans k3))) np
    obtain ⟨z1, z2⟩ := Kd.itsS ok
    have z3 : ∀ t ∈ (k.items us).map itT, t.length ≤ 101 := fun t ht => by
      obtain ⟨z, hz, rfl⟩ := List.mem_map.mp ht
      exact itS_len (z2 z hz)
    have l1 := lenAll_le (sep := Str.ofString " ") _ z3
    have l2 := join_le (sep := Str.ofString " ") _ z3
    rw [List.length_map, show (Str.ofString " ").length = 1 from by decide +kernel] at l1 l2
    have sz := sizeLine_eq
    refine ⟨b, k, us, rfl, t3, ok, fun a1 H4 x4 d1 => ⟨b, k, us, rfl, x4.tup t3, ok, fun a2 H5 x5 d2 => ⟨b, rfl, ⟨_, tupQ_sq ((x4.trans x5).tup t3)⟩, fun D nD => lc_mapXT (f := itV) (g := fun q => V.str (itT q)) (L := k.items us) (by rw [← Kd.told_items]; exact (x4.trans x5).tup t3) nD (by omega) (fun z hz H' Q' xx qq => ?_) (fun H6 hD x6 => ?_)⟩⟩⟩
    · try walk_at "rn"
      cases z with
      | inl t => exact .inr ⟨t, rfl, qq _ Ext.refl⟩
      | inr i => exact .inl ⟨i, rfl, num_log (z2 _ hz), qq _ Ext.refl⟩
    refine ⟨_, D, (k.items us).map itT, rfl, rfl, by rw [List.map_map]; exact SqL.of hD, by omega, by omega, k, us, rfl, ok, fun a3 H7 x7 d3 pl npl => ⟨⟨_, SqL.of upd_same⟩, ?_⟩⟩
    obtain ⟨G2, eqG2⟩ : ∃ G2, G2 = upd H7 pl (.lst [V.ref a1, V.ref a2, V.ref a3]) := ⟨_, rfl⟩
    have xn : Ext K H7 G2 := by rw [eqG2]; exact Ext.new npl
    have eL : G2 pl = some (.lst [V.ref a1, V.ref a2, V.ref a3]) := by rw [eqG2]; exact upd_same
    have tG2 := (x4.trans (x5.trans (x6.trans (x7.trans xn)))).tup t3
    have aG2 := (xE.trans (x4.trans (x5.trans (x6.trans (x7.trans xn))))).tup ta
    have D1 := d1.ext (x5.trans (x6.trans (x7.trans xn)))
    have D2 := d2.ext (x6.trans (x7.trans xn))
    have D3 := d3.ext xn
    have xAll := x0.trans (xE.trans (x4.trans (x5.trans (x6.trans (x7.trans xn)))))
    rw [← eqG2]
    clear eqG2 xn d1 d2 d3 hD nD x4 x5 x6 x7 npl
    have allD : ∀ x ∈ [V.ref a1, V.ref a2, V.ref a3], ∃ e, x = .ref e ∧ DeedAt (cs.at k) G2 e k us := by
      intro x hx
      simp only [List.mem_cons, List.not_mem_nil, or_false] at hx
      rcases hx with rfl | rfl | rfl
      · exact ⟨_, rfl, D1⟩
      · exact ⟨_, rfl, D2⟩
      · exact ⟨_, rfl, D3⟩
    refine loop_list (xs := [V.ref a1, V.ref a2, V.ref a3]) (fun i σ H2 => ∃ (v7 : Option V), σ = [some (.ref a), some (.ref ah), some (.int c), some (.ref p), some (.int (1 + nu)), some (.ref b), some (.ref pl), v7] ∧ Ext K G2 H2) ⟨_, rfl, Ext.refl⟩ ?_ ?_ ?_
    · rintro i σ H2 _ ⟨_, _, x⟩
      exact SqL.of (x.at eL)
    · rintro i x σ H8 hi ⟨v7, rfl, x8⟩
      obtain ⟨e, rfl, ye, ee⟩ := allD x (List.mem_of_getElem? hi)
      try walk_at "rn"
      refine ⟨e, b, 1 + nu, k, us, rfl, ok, ⟨ye, x8.at ee⟩, x8.tup tG2, fun H9 x9 => ⟨true, rfl, iteF' (by decide) ⟨_, seqQ_lst ((x8.trans x9).at eL), _, atI_0, ?_⟩⟩⟩
      have X9 := x8.trans x9
      obtain ⟨y1, e1⟩ := D1
      refine ⟨k, _, _, a1, rfl, X9.at ee, cs.at k, _, _, X9.at e1, ec k k, e, .ref a1, k, us, rfl, ok, ⟨_, X9.at ee⟩, .inl ⟨a1, k, us, rfl, ok, ⟨_, X9.at e1⟩, fun H10 x10 => ⟨_, rfl, iteF' (by rw [eqv_refl _ (SeqAt.canLay_of_shaped (shaped_told ok))]; decide) ?_⟩⟩⟩
      have X10 := X9.trans x10
      refine ⟨ah, k0, us0, rfl, X10.tup aG2, ok0, fun a4 H11 x11 d4 => ?_⟩
      have X11 := X10.trans x11
      obtain ⟨y4, e4⟩ := d4
      refine ⟨k, _, _, a4, rfl, X11.at ee, cs.at k0, _, _, e4, ec k k0, e, .ref a4, k, us, rfl, ok, ⟨_, X11.at ee⟩, .inl ⟨a4, k0, us0, rfl, ok0, ⟨_, e4⟩, fun H12 x12 => ⟨_, rfl, _, isTold ((X11.trans x12).tup tG2), _, isTold ((X11.trans x12).tup aG2), shaped_told ok, shaped_told ok0, iteF' (by simp) ?_⟩⟩⟩
      have X12 := X11.trans x12
      refine ⟨ah, k0, us0, rfl, X12.tup aG2, ok0, fun a5 H13 x13 d5 => ?_⟩
      have X13 := X12.trans x13
      obtain ⟨y5, e5⟩ := d5
      exact ⟨k, _, _, a5, rfl, X13.at ee, cs.at k0, _, _, e5, ec k k0, e, .ref a5, k, us, rfl, ok, ⟨_, X13.at ee⟩, .inl ⟨a5, k0, us0, rfl, ok0, ⟨_, e5⟩, fun H14 x14 => ⟨_, rfl, _, isTold ((X13.trans x14).tup tG2), _, isTold ((X13.trans x14).tup aG2), shaped_told ok, shaped_told ok0, iteF' (by simp) (X13.trans x14)⟩⟩⟩
    · rintro σ H8 ⟨v7, rfl, x8⟩
      try walk_at "rn"
      obtain ⟨y1, e1⟩ := D1
      obtain ⟨y2, e2⟩ := D2
      refine ⟨_, seqQ_lst (x8.at eL), _, atI_0, k, a1, rfl, _, _, x8.at e1, a1, k, us, rfl, ok, ⟨_, x8.at e1⟩, fun H9 x9 => ⟨_, rfl, k, us, rfl, ok, fun a4 H10 x10 d4 => ?_⟩⟩
      have X10 := x8.trans (x9.trans x10)
      obtain ⟨y4, e4⟩ := d4
      refine ⟨_, seqQ_lst (X10.at eL), _, rfl, k, a4, rfl, _, _, a2, rfl, e4, cs.at k, _, _, X10.at e2, ec k k, a4, .ref a2, k, us, rfl, ok, ⟨_, e4⟩, .inl ⟨a2, k, us, rfl, ok, ⟨_, X10.at e2⟩, fun H11 x11 => ⟨_, rfl, iteF' (by rw [eqv_refl _ (SeqAt.canLay_of_shaped (shaped_told ok))]; decide) ?_⟩⟩⟩
      have X11 := X10.trans x11
      refine ⟨_, seqQ_lst (X11.at eL), _, atI_0, _, seqQ_lst (X11.at eL), _, atI_0, k, a1, rfl, _, _, X11.at e1, a1, k, us, rfl, ok, ⟨_, X11.at e1⟩, fun H12 x12 => ⟨_, rfl, fun q1 m1 q2 m2 => ?_⟩⟩
      have X12 := X11.trans x12
      refine ⟨k, a1, rfl, _, _, (X12.trans ((Ext.new m1).trans (Ext.new m2))).at e1, ?_, ?_, ?_⟩
      · intro y hy
        simp only [List.mem_cons, List.not_mem_nil, or_false] at hy
        rcases hy with rfl | rfl | rfl | rfl | rfl
        · exact .tup (tupQ_sq ((X12.trans ((Ext.new m1).trans (Ext.new m2))).tup tG2))
        · exact .str _
        · exact .non
        · exact .int _
        · exact .lst (SqL.of ((Ext.new m2).at upd_same))
      · intro y hy Q' hq
        refine ⟨a1, y, k, us, rfl, ok, ⟨_, (X12.trans ((Ext.new m1).trans (Ext.new m2))).at e1⟩, .inr ?_⟩
        simp only [List.mem_cons, List.not_mem_nil, or_false] at hy
        rcases hy with rfl | rfl | rfl | rfl | rfl
        · exact ⟨_, TyQ.tup ((X12.trans ((Ext.new m1).trans (Ext.new m2))).tup tG2), kd "tuple" (by simp), hq⟩
        · exact ⟨_, .inl (.str _), kd "str" (by simp), hq⟩
        · exact ⟨_, .inl .non, kd "NoneType" (by simp), hq⟩
        · exact ⟨_, .inl (.int _), kd "int" (by simp), hq⟩
        · exact ⟨_, .inl (.lst ((Ext.new m2).at upd_same)), kd "list" (by simp), hq⟩
      · exact ⟨xAll.trans (X12.trans ((Ext.new m1).trans (Ext.new m2))), k, us, (X12.trans ((Ext.new m1).trans (Ext.new m2))).tup tG2, ok⟩
  · rintro σ H2 ⟨ah, k0, us0, v2, v3, v4, v5, v6, v7, rfl, x0, ta, ok0⟩
    try walk_at "rn"
    exact q _
end
theorem all_mk {l : PySem.W.OpenLaw} {w : World} {K : PySem.W.Frag} {h : Heap} {mg : Str → Option Value} {fa f1 f2 f3 f4 f5 f6 f7 f8 f9 f10 f11 f12 f13 f14 f15 f16 f17 f18 f19 f20 f21 f22 f23 f24 f25 f26 f27 f28 f29 f30 f31 f32 f33 f34 f35 f36 f37 f38 f39 f40 f41 f42 f43 f44 f45 f46 f47 f48 f49 f50 f51 f52 f53 f54 f55 f56 f57 f58 f59 : Addr} {od1 an1 od2 an2 od3 an3 od4 an4 od5 an5 od6 an6 od7 an7 od8 an8 od9 an9 od10 an10 od11 an11 od12 an12 od13 an13 od14 an14 od15 an15 od16 an16 od17 an17 od18 an18 od19 an19 od20 an20 od21 an21 od22 an22 od23 an23 od24 an24 od25 an25 od26 an26 od27 an27 od28 an28 od29 an29 od30 an30 od31 an31 od32 an32 od33 an33 od34 an34 od35 an35 od36 an36 od37 an37 od38 an38 od39 an39 od40 an40 od41 an41 od42 an42 od43 an43 od44 an44 od45 an45 od46 an46 od47 an47 od48 an48 od49 an49 od50 an50 od51 an51 od52 an52 od53 an53 od54 an54 od55 an55 od56 an56 od57 an57 od58 an58 od59 an59 : Option Addr} {sl1 sl2 sl3 sl4 sl5 sl6 sl7 sl8 sl9 sl10 sl11 sl12 sl13 sl14 sl15 sl16 sl17 sl18 sl19 sl20 sl21 sl22 sl23 sl24 sl25 sl26 sl27 sl28 sl29 sl30 sl31 sl32 sl33 sl34 sl35 sl36 sl37 sl38 sl39 sl40 sl41 sl42 sl43 sl44 sl45 sl46 sl47 sl48 sl49 sl50 sl51 sl52 sl53 sl54 sl55 sl56 sl57 sl58 sl59 : Array (Option Value)} {oc1 kV1 dc1 pm1 cd1 ct1 oc2 kV2 dc2 pm2 cd2 ct2 oc3 kV3 dc3 pm3 cd3 ct3 oc4 kV4 dc4 pm4 cd4 ct4 oc5 kV5 dc5 pm5 cd5 ct5 oc6 kV6 dc6 pm6 cd6 ct6 oc7 kV7 dc7 pm7 cd7 ct7 oc8 kV8 dc8 pm8 cd8 ct8 oc9 kV9 dc9 pm9 cd9 ct9 oc10 kV10 dc10 pm10 cd10 ct10 oc11 kV11 dc11 pm11 cd11 ct11 oc12 kV12 dc12 pm12 cd12 ct12 oc13 kV13 dc13 pm13 cd13 ct13 oc14 kV14 dc14 pm14 cd14 ct14 oc15 kV15 dc15 pm15 cd15 ct15 oc16 kV16 dc16 pm16 cd16 ct16 oc17 kV17 dc17 pm17 cd17 ct17 oc18 kV18 dc18 pm18 cd18 ct18 oc19 kV19 dc19 pm19 cd19 ct19 oc20 kV20 dc20 pm20 cd20 ct20 oc21 kV21 dc21 pm21 cd21 ct21 oc22 kV22 dc22 pm22 cd22 ct22 oc23 kV23 dc23 pm23 cd23 ct23 oc24 kV24 dc24 pm24 cd24 ct24 oc25 kV25 dc25 pm25 cd25 ct25 oc26 kV26 dc26 pm26 cd26 ct26 oc27 kV27 dc27 pm27 cd27 ct27 oc28 kV28 dc28 pm28 cd28 ct28 oc29 kV29 dc29 pm29 cd29 ct29 oc30 kV30 dc30 pm30 cd30 ct30 oc31 kV31 dc31 pm31 cd31 ct31 oc32 kV32 dc32 pm32 cd32 ct32 oc33 kV33 dc33 pm33 cd33 ct33 oc34 kV34 dc34 pm34 cd34 ct34 oc35 kV35 dc35 pm35 cd35 ct35 oc36 kV36 dc36 pm36 cd36 ct36 oc37 kV37 dc37 pm37 cd37 ct37 oc38 kV38 dc38 pm38 cd38 ct38 oc39 kV39 dc39 pm39 cd39 ct39 oc40 kV40 dc40 pm40 cd40 ct40 oc41 kV41 dc41 pm41 cd41 ct41 oc42 kV42 dc42 pm42 cd42 ct42 oc43 kV43 dc43 pm43 cd43 ct43 oc44 kV44 dc44 pm44 cd44 ct44 oc45 kV45 dc45 pm45 cd45 ct45 oc46 kV46 dc46 pm46 cd46 ct46 oc47 kV47 dc47 pm47 cd47 ct47 oc48 kV48 dc48 pm48 cd48 ct48 oc49 kV49 dc49 pm49 cd49 ct49 oc50 kV50 dc50 pm50 cd50 ct50 oc51 kV51 dc51 pm51 cd51 ct51 oc52 kV52 dc52 pm52 cd52 ct52 oc53 kV53 dc53 pm53 cd53 ct53 oc54 kV54 dc54 pm54 cd54 ct54 oc55 kV55 dc55 pm55 cd55 ct55 oc56 kV56 dc56 pm56 cd56 ct56 oc57 kV57 dc57 pm57 cd57 ct57 oc58 kV58 dc58 pm58 cd58 ct58 oc59 kV59 dc59 pm59 cd59 ct59 : Value} {tE : Tok} {tM : Tok} {tF : Tok} {tN : Tok} {aTh : Addr} {aG : Addr} {aC : Addr} {cDeed : Addr} {cPut : Addr} {cDrop : Addr} {cAdd : Addr} {cWipe : Addr} {cRaise : Addr} {cLevel : Addr} {cMark : Addr} {cForget : Addr} {s1 s2 s3 s4 s5 s6 s7 s8 u1 u2 u3 u4 u5 u6 u7 u8 : Tok} {nT : Nat} {dG : Option Addr} {v1 : Tok} {nG : Nat} {slG : Array (Option Value)} {dC : Option Addr} {g1 g2 : Addr} {nC : Nat} {slC : Array (Option Value)} {dC1 : Option Addr} {v2 : Tok} {nC1 : Nat} {slC1 : Array (Option Value)} {dC2 : Option Addr} {v3 : Tok} {nC2 : Nat} {slC2 : Array (Option Value)} {d14 : Addr} {do14 : Option Addr} {dn14 : Nat} {ds14 : Array (Option Value)} {dx14 : Value} {t14 : Tok} {d18 : Addr} {do18 : Option Addr} {dn18 : Nat} {ds18 : Array (Option Value)} {dx18 : Value} {t18 : Tok} {d22 : Addr} {do22 : Option Addr} {dn22 : Nat} {ds22 : Array (Option Value)} {dx22 : Value} {t22 : Tok} {d26 : Addr} {do26 : Option Addr} {dn26 : Nat} {ds26 : Array (Option Value)} {dx26 : Value} {t26 : Tok} {d30 : Addr} {do30 : Option Addr} {dn30 : Nat} {ds30 : Array (Option Value)} {dx30 : Value} {t30 : Tok} {d34 : Addr} {do34 : Option Addr} {dn34 : Nat} {ds34 : Array (Option Value)} {dx34 : Value} {t34 : Tok} {d38 : Addr} {do38 : Option Addr} {dn38 : Nat} {ds38 : Array (Option Value)} {dx38 : Value} {t38 : Tok} {d40 : Addr} {do40 : Option Addr} {dn40 : Nat} {ds40 : Array (Option Value)} {dx40 : Value} {t40 : Tok} (X : K.In h) (G : h.Ns mainGlobals mg) (hfa : mg "law" = some (.ref fa))
    (qa_Deed : PySem.W.plainGet K cDeed Str.empty = true) (qb_Deed : PySem.W.hasDictIn K cDeed = true) (qc_Deed : PySem.W.plainOver K cDeed = true) (qd_Deed : PySem.W.findIn K (.ref cDeed) "__setattr__" = some (some (.builtin "object.__setattr__")))
    (na_Put_key : PySem.W.findIn K (.ref cPut) "key" = some none)
    (na_Put_value : PySem.W.findIn K (.ref cPut) "value" = some none)
    (qa_Put : PySem.W.plainGet K cPut Str.empty = true) (qb_Put : PySem.W.hasDictIn K cPut = true) (qc_Put : PySem.W.plainOver K cPut = true) (qd_Put : PySem.W.findIn K (.ref cPut) "__setattr__" = some (some (.builtin "object.__setattr__")))
    (na_Drop_key : PySem.W.findIn K (.ref cDrop) "key" = some none)
    (qa_Drop : PySem.W.plainGet K cDrop Str.empty = true) (qb_Drop : PySem.W.hasDictIn K cDrop = true) (qc_Drop : PySem.W.plainOver K cDrop = true) (qd_Drop : PySem.W.findIn K (.ref cDrop) "__setattr__" = some (some (.builtin "object.__setattr__")))
    (na_Add_by : PySem.W.findIn K (.ref cAdd) "by" = some none)
    (na_Add_key : PySem.W.findIn K (.ref cAdd) "key" = some none)
    (qa_Add : PySem.W.plainGet K cAdd Str.empty = true) (qb_Add : PySem.W.hasDictIn K cAdd = true) (qc_Add : PySem.W.plainOver K cAdd = true) (qd_Add : PySem.W.findIn K (.ref cAdd) "__setattr__" = some (some (.builtin "object.__setattr__")))
    (na_Wipe_high : PySem.W.findIn K (.ref cWipe) "high" = some none)
    (na_Wipe_low : PySem.W.findIn K (.ref cWipe) "low" = some none)
    (qa_Wipe : PySem.W.plainGet K cWipe Str.empty = true) (qb_Wipe : PySem.W.hasDictIn K cWipe = true) (qc_Wipe : PySem.W.plainOver K cWipe = true) (qd_Wipe : PySem.W.findIn K (.ref cWipe) "__setattr__" = some (some (.builtin "object.__setattr__")))
    (na_Raise_by : PySem.W.findIn K (.ref cRaise) "by" = some none)
    (na_Raise_high : PySem.W.findIn K (.ref cRaise) "high" = some none)
    (na_Raise_low : PySem.W.findIn K (.ref cRaise) "low" = some none)
    (qa_Raise : PySem.W.plainGet K cRaise Str.empty = true) (qb_Raise : PySem.W.hasDictIn K cRaise = true) (qc_Raise : PySem.W.plainOver K cRaise = true) (qd_Raise : PySem.W.findIn K (.ref cRaise) "__setattr__" = some (some (.builtin "object.__setattr__")))
    (na_Level_high : PySem.W.findIn K (.ref cLevel) "high" = some none)
    (na_Level_low : PySem.W.findIn K (.ref cLevel) "low" = some none)
    (na_Level_value : PySem.W.findIn K (.ref cLevel) "value" = some none)
    (qa_Level : PySem.W.plainGet K cLevel Str.empty = true) (qb_Level : PySem.W.hasDictIn K cLevel = true) (qc_Level : PySem.W.plainOver K cLevel = true) (qd_Level : PySem.W.findIn K (.ref cLevel) "__setattr__" = some (some (.builtin "object.__setattr__")))
    (qa_Mark : PySem.W.plainGet K cMark Str.empty = true) (qb_Mark : PySem.W.hasDictIn K cMark = true) (qc_Mark : PySem.W.plainOver K cMark = true) (qd_Mark : PySem.W.findIn K (.ref cMark) "__setattr__" = some (some (.builtin "object.__setattr__")))
    (na_Forget_mark : PySem.W.findIn K (.ref cForget) "mark" = some none)
    (qa_Forget : PySem.W.plainGet K cForget Str.empty = true) (qb_Forget : PySem.W.hasDictIn K cForget = true) (qc_Forget : PySem.W.plainOver K cForget = true) (qd_Forget : PySem.W.findIn K (.ref cForget) "__setattr__" = some (some (.builtin "object.__setattr__")))
    (a1 : PySem.W.nsIn K mainGlobals "is_number" = some (some (.ref f1))) (l1 : K.lookup f1 = some ⟨oc1, od1, .func (PySem.W.fnOf "is_number" "is_number" (defArgs s_is_number) (defBody s_is_number) (defScope s_is_number) .none kV1 dc1 pm1 an1 cd1 ct1), sl1⟩) (c1 : PySem.W.codeIn K cd1 "is_number" = true) (k1 : PySem.W.keepIn K (.ref f1) = true)
    (a2 : PySem.W.nsIn K mainGlobals "is_whole" = some (some (.ref f2))) (l2 : K.lookup f2 = some ⟨oc2, od2, .func (PySem.W.fnOf "is_whole" "is_whole" (defArgs s_is_whole) (defBody s_is_whole) (defScope s_is_whole) .none kV2 dc2 pm2 an2 cd2 ct2), sl2⟩) (c2 : PySem.W.codeIn K cd2 "is_whole" = true) (k2 : PySem.W.keepIn K (.ref f2) = true)
    (a3 : PySem.W.nsIn K mainGlobals "is_whole_from" = some (some (.ref f3))) (l3 : K.lookup f3 = some ⟨oc3, od3, .func (PySem.W.fnOf "is_whole_from" "is_whole_from" (defArgs s_is_whole_from) (defBody s_is_whole_from) (defScope s_is_whole_from) .none kV3 dc3 pm3 an3 cd3 ct3), sl3⟩) (c3 : PySem.W.codeIn K cd3 "is_whole_from" = true) (k3 : PySem.W.keepIn K (.ref f3) = true)
    (a4 : PySem.W.nsIn K mainGlobals "is_key" = some (some (.ref f4))) (l4 : K.lookup f4 = some ⟨oc4, od4, .func (PySem.W.fnOf "is_key" "is_key" (defArgs s_is_key) (defBody s_is_key) (defScope s_is_key) .none kV4 dc4 pm4 an4 cd4 ct4), sl4⟩) (c4 : PySem.W.codeIn K cd4 "is_key" = true) (k4 : PySem.W.keepIn K (.ref f4) = true)
    (a5 : PySem.W.nsIn K mainGlobals "is_stretch" = some (some (.ref f5))) (l5 : K.lookup f5 = some ⟨oc5, od5, .func (PySem.W.fnOf "is_stretch" "is_stretch" (defArgs s_is_stretch) (defBody s_is_stretch) (defScope s_is_stretch) .none kV5 dc5 pm5 an5 cd5 ct5), sl5⟩) (c5 : PySem.W.codeIn K cd5 "is_stretch" = true) (k5 : PySem.W.keepIn K (.ref f5) = true)
    (a6 : PySem.W.nsIn K mainGlobals "figures_of" = some (some (.ref f6))) (l6 : K.lookup f6 = some ⟨oc6, od6, .func (PySem.W.fnOf "figures_of" "figures_of" (defArgs s_figures_of) (defBody s_figures_of) (defScope s_figures_of) .none kV6 dc6 pm6 an6 cd6 ct6), sl6⟩) (c6 : PySem.W.codeIn K cd6 "figures_of" = true) (k6 : PySem.W.keepIn K (.ref f6) = true)
    (a7 : PySem.W.nsIn K mainGlobals "are_figures" = some (some (.ref f7))) (l7 : K.lookup f7 = some ⟨oc7, od7, .func (PySem.W.fnOf "are_figures" "are_figures" (defArgs s_are_figures) (defBody s_are_figures) (defScope s_are_figures) .none kV7 dc7 pm7 an7 cd7 ct7), sl7⟩) (c7 : PySem.W.codeIn K cd7 "are_figures" = true) (k7 : PySem.W.keepIn K (.ref f7) = true)
    (a8 : PySem.W.nsIn K mainGlobals "read_figures" = some (some (.ref f8))) (l8 : K.lookup f8 = some ⟨oc8, od8, .func (PySem.W.fnOf "read_figures" "read_figures" (defArgs s_read_figures) (defBody s_read_figures) (defScope s_read_figures) .none kV8 dc8 pm8 an8 cd8 ct8), sl8⟩) (c8 : PySem.W.codeIn K cd8 "read_figures" = true) (k8 : PySem.W.keepIn K (.ref f8) = true)
    (a9 : PySem.W.nsIn K mainGlobals "is_amount" = some (some (.ref f9))) (l9 : K.lookup f9 = some ⟨oc9, od9, .func (PySem.W.fnOf "is_amount" "is_amount" (defArgs s_is_amount) (defBody s_is_amount) (defScope s_is_amount) .none kV9 dc9 pm9 an9 cd9 ct9), sl9⟩) (c9 : PySem.W.codeIn K cd9 "is_amount" = true) (k9 : PySem.W.keepIn K (.ref f9) = true)
    (a10 : PySem.W.nsIn K mainGlobals "check_things" = some (some (.ref f10))) (l10 : K.lookup f10 = some ⟨oc10, od10, .func (PySem.W.fnOf "check_things" "check_things" (defArgs s_check_things) (defBody s_check_things) (defScope s_check_things) .none kV10 dc10 pm10 an10 cd10 ct10), sl10⟩) (c10 : PySem.W.codeIn K cd10 "check_things" = true) (k10 : PySem.W.keepIn K (.ref f10) = true)
    (a11 : PySem.W.nsIn K mainGlobals "word_of" = some (some (.ref f11))) (l11 : K.lookup f11 = some ⟨oc11, od11, .func (PySem.W.fnOf "word_of" "word_of" (defArgs s_word_of) (defBody s_word_of) (defScope s_word_of) .none kV11 dc11 pm11 an11 cd11 ct11), sl11⟩) (c11 : PySem.W.codeIn K cd11 "word_of" = true) (k11 : PySem.W.keepIn K (.ref f11) = true)
    (i12 : PySem.W.findIn K (.ref cDeed) "action" = some (some (.ref f12))) (l12 : K.lookup f12 = some ⟨oc12, od12, .func (PySem.W.fnOf "action" "Deed.action" (defArgs s_Deed_action) (defBody s_Deed_action) (defScope s_Deed_action) .none kV12 dc12 pm12 an12 cd12 ct12), sl12⟩) (c12 : PySem.W.codeIn K cd12 "Deed.action" = true) (k12 : PySem.W.keepIn K (.ref f12) = true) (n12 : PySem.W.isFn K (.ref f12) = true)
    (i13 : PySem.W.findIn K (.ref cDeed) "span" = some (some (.ref f13))) (l13 : K.lookup f13 = some ⟨oc13, od13, .func (PySem.W.fnOf "span" "Deed.span" (defArgs s_Deed_span) (defBody s_Deed_span) (defScope s_Deed_span) .none kV13 dc13 pm13 an13 cd13 ct13), sl13⟩) (c13 : PySem.W.codeIn K cd13 "Deed.span" = true) (k13 : PySem.W.keepIn K (.ref f13) = true) (n13 : PySem.W.isFn K (.ref f13) = true)
    (l14 : K.lookup f14 = some ⟨oc14, od14, .func (PySem.W.fnOf "__init__" "Put.__init__" (defArgs s_Put___init__) (defBody s_Put___init__) (defScope s_Put___init__) (.ref d14) kV14 dc14 pm14 an14 cd14 ct14), sl14⟩) (c14 : PySem.W.codeIn K cd14 "Put.__init__" = true) (ld14 : K.lookup d14 = some ⟨dx14, do14, .seq #[.none, .none, .str "no more" t14] dn14, ds14⟩)
    (k14 : PySem.W.makesIn K cPut = true) (i14 : PySem.W.findIn K (.ref cPut) "__init__" = some (some (.ref f14))) (n14 : PySem.W.isFn K (.ref f14) = true) (p14 : PySem.W.keepIn K (.ref cPut) = true)
    (bd14 : ∀ S (u0 u1 u2 : Value), PySem.W.peek K S (bindArgs (PySem.W.fnOf "__init__" "Put.__init__" (defArgs s_Put___init__) (defBody s_Put___init__) (defScope s_Put___init__) (.ref d14) kV14 dc14 pm14 an14 cd14 ct14) ⟨[u0, u1, u2], []⟩) = some [(("self" : Str), u0), (("key" : Str), u1), (("value" : Str), u2), (("more" : Str), .str "no more" t14)])
    (q14a : PySem.W.plainGet K cPut Str.empty = true) (q14b : PySem.W.hasDictIn K cPut = true) (q14c : PySem.W.plainOver K cPut = true) (q14d : PySem.W.findIn K (.ref cPut) "__setattr__" = some (some (.builtin "object.__setattr__")))
    (na14key : PySem.W.findIn K (.ref cPut) "key" = some none)
    (na14value : PySem.W.findIn K (.ref cPut) "value" = some none)
    (i15 : PySem.W.findIn K (.ref cPut) "told" = some (some (.ref f15))) (l15 : K.lookup f15 = some ⟨oc15, od15, .func (PySem.W.fnOf "told" "Put.told" (defArgs s_Put_told) (defBody s_Put_told) (defScope s_Put_told) .none kV15 dc15 pm15 an15 cd15 ct15), sl15⟩) (c15 : PySem.W.codeIn K cd15 "Put.told" = true) (k15 : PySem.W.keepIn K (.ref f15) = true) (n15 : PySem.W.isFn K (.ref f15) = true)
    (i16 : PySem.W.findIn K (.ref cPut) "action" = some (some (.ref f16))) (l16 : K.lookup f16 = some ⟨oc16, od16, .func (PySem.W.fnOf "action" "Put.action" (defArgs s_Put_action) (defBody s_Put_action) (defScope s_Put_action) .none kV16 dc16 pm16 an16 cd16 ct16), sl16⟩) (c16 : PySem.W.codeIn K cd16 "Put.action" = true) (k16 : PySem.W.keepIn K (.ref f16) = true) (n16 : PySem.W.isFn K (.ref f16) = true)
    (i17 : PySem.W.findIn K (.ref cPut) "span" = some (some (.ref f17))) (l17 : K.lookup f17 = some ⟨oc17, od17, .func (PySem.W.fnOf "span" "Put.span" (defArgs s_Put_span) (defBody s_Put_span) (defScope s_Put_span) .none kV17 dc17 pm17 an17 cd17 ct17), sl17⟩) (c17 : PySem.W.codeIn K cd17 "Put.span" = true) (k17 : PySem.W.keepIn K (.ref f17) = true) (n17 : PySem.W.isFn K (.ref f17) = true)
    (l18 : K.lookup f18 = some ⟨oc18, od18, .func (PySem.W.fnOf "__init__" "Drop.__init__" (defArgs s_Drop___init__) (defBody s_Drop___init__) (defScope s_Drop___init__) (.ref d18) kV18 dc18 pm18 an18 cd18 ct18), sl18⟩) (c18 : PySem.W.codeIn K cd18 "Drop.__init__" = true) (ld18 : K.lookup d18 = some ⟨dx18, do18, .seq #[.none, .str "no more" t18] dn18, ds18⟩)
    (k18 : PySem.W.makesIn K cDrop = true) (i18 : PySem.W.findIn K (.ref cDrop) "__init__" = some (some (.ref f18))) (n18 : PySem.W.isFn K (.ref f18) = true) (p18 : PySem.W.keepIn K (.ref cDrop) = true)
    (bd18 : ∀ S (u0 u1 : Value), PySem.W.peek K S (bindArgs (PySem.W.fnOf "__init__" "Drop.__init__" (defArgs s_Drop___init__) (defBody s_Drop___init__) (defScope s_Drop___init__) (.ref d18) kV18 dc18 pm18 an18 cd18 ct18) ⟨[u0, u1], []⟩) = some [(("self" : Str), u0), (("key" : Str), u1), (("more" : Str), .str "no more" t18)])
    (q18a : PySem.W.plainGet K cDrop Str.empty = true) (q18b : PySem.W.hasDictIn K cDrop = true) (q18c : PySem.W.plainOver K cDrop = true) (q18d : PySem.W.findIn K (.ref cDrop) "__setattr__" = some (some (.builtin "object.__setattr__")))
    (na18key : PySem.W.findIn K (.ref cDrop) "key" = some none)
    (i19 : PySem.W.findIn K (.ref cDrop) "told" = some (some (.ref f19))) (l19 : K.lookup f19 = some ⟨oc19, od19, .func (PySem.W.fnOf "told" "Drop.told" (defArgs s_Drop_told) (defBody s_Drop_told) (defScope s_Drop_told) .none kV19 dc19 pm19 an19 cd19 ct19), sl19⟩) (c19 : PySem.W.codeIn K cd19 "Drop.told" = true) (k19 : PySem.W.keepIn K (.ref f19) = true) (n19 : PySem.W.isFn K (.ref f19) = true)
    (i20 : PySem.W.findIn K (.ref cDrop) "action" = some (some (.ref f20))) (l20 : K.lookup f20 = some ⟨oc20, od20, .func (PySem.W.fnOf "action" "Drop.action" (defArgs s_Drop_action) (defBody s_Drop_action) (defScope s_Drop_action) .none kV20 dc20 pm20 an20 cd20 ct20), sl20⟩) (c20 : PySem.W.codeIn K cd20 "Drop.action" = true) (k20 : PySem.W.keepIn K (.ref f20) = true) (n20 : PySem.W.isFn K (.ref f20) = true)
    (i21 : PySem.W.findIn K (.ref cDrop) "span" = some (some (.ref f21))) (l21 : K.lookup f21 = some ⟨oc21, od21, .func (PySem.W.fnOf "span" "Drop.span" (defArgs s_Drop_span) (defBody s_Drop_span) (defScope s_Drop_span) .none kV21 dc21 pm21 an21 cd21 ct21), sl21⟩) (c21 : PySem.W.codeIn K cd21 "Drop.span" = true) (k21 : PySem.W.keepIn K (.ref f21) = true) (n21 : PySem.W.isFn K (.ref f21) = true)
    (l22 : K.lookup f22 = some ⟨oc22, od22, .func (PySem.W.fnOf "__init__" "Add.__init__" (defArgs s_Add___init__) (defBody s_Add___init__) (defScope s_Add___init__) (.ref d22) kV22 dc22 pm22 an22 cd22 ct22), sl22⟩) (c22 : PySem.W.codeIn K cd22 "Add.__init__" = true) (ld22 : K.lookup d22 = some ⟨dx22, do22, .seq #[.none, .none, .str "no more" t22] dn22, ds22⟩)
    (k22 : PySem.W.makesIn K cAdd = true) (i22 : PySem.W.findIn K (.ref cAdd) "__init__" = some (some (.ref f22))) (n22 : PySem.W.isFn K (.ref f22) = true) (p22 : PySem.W.keepIn K (.ref cAdd) = true)
    (bd22 : ∀ S (u0 u1 u2 : Value), PySem.W.peek K S (bindArgs (PySem.W.fnOf "__init__" "Add.__init__" (defArgs s_Add___init__) (defBody s_Add___init__) (defScope s_Add___init__) (.ref d22) kV22 dc22 pm22 an22 cd22 ct22) ⟨[u0, u1, u2], []⟩) = some [(("self" : Str), u0), (("key" : Str), u1), (("by" : Str), u2), (("more" : Str), .str "no more" t22)])
    (q22a : PySem.W.plainGet K cAdd Str.empty = true) (q22b : PySem.W.hasDictIn K cAdd = true) (q22c : PySem.W.plainOver K cAdd = true) (q22d : PySem.W.findIn K (.ref cAdd) "__setattr__" = some (some (.builtin "object.__setattr__")))
    (na22key : PySem.W.findIn K (.ref cAdd) "key" = some none)
    (na22by : PySem.W.findIn K (.ref cAdd) "by" = some none)
    (i23 : PySem.W.findIn K (.ref cAdd) "told" = some (some (.ref f23))) (l23 : K.lookup f23 = some ⟨oc23, od23, .func (PySem.W.fnOf "told" "Add.told" (defArgs s_Add_told) (defBody s_Add_told) (defScope s_Add_told) .none kV23 dc23 pm23 an23 cd23 ct23), sl23⟩) (c23 : PySem.W.codeIn K cd23 "Add.told" = true) (k23 : PySem.W.keepIn K (.ref f23) = true) (n23 : PySem.W.isFn K (.ref f23) = true)
    (i24 : PySem.W.findIn K (.ref cAdd) "action" = some (some (.ref f24))) (l24 : K.lookup f24 = some ⟨oc24, od24, .func (PySem.W.fnOf "action" "Add.action" (defArgs s_Add_action) (defBody s_Add_action) (defScope s_Add_action) .none kV24 dc24 pm24 an24 cd24 ct24), sl24⟩) (c24 : PySem.W.codeIn K cd24 "Add.action" = true) (k24 : PySem.W.keepIn K (.ref f24) = true) (n24 : PySem.W.isFn K (.ref f24) = true)
    (i25 : PySem.W.findIn K (.ref cAdd) "span" = some (some (.ref f25))) (l25 : K.lookup f25 = some ⟨oc25, od25, .func (PySem.W.fnOf "span" "Add.span" (defArgs s_Add_span) (defBody s_Add_span) (defScope s_Add_span) .none kV25 dc25 pm25 an25 cd25 ct25), sl25⟩) (c25 : PySem.W.codeIn K cd25 "Add.span" = true) (k25 : PySem.W.keepIn K (.ref f25) = true) (n25 : PySem.W.isFn K (.ref f25) = true)
    (l26 : K.lookup f26 = some ⟨oc26, od26, .func (PySem.W.fnOf "__init__" "Wipe.__init__" (defArgs s_Wipe___init__) (defBody s_Wipe___init__) (defScope s_Wipe___init__) (.ref d26) kV26 dc26 pm26 an26 cd26 ct26), sl26⟩) (c26 : PySem.W.codeIn K cd26 "Wipe.__init__" = true) (ld26 : K.lookup d26 = some ⟨dx26, do26, .seq #[.none, .none, .str "no more" t26] dn26, ds26⟩)
    (k26 : PySem.W.makesIn K cWipe = true) (i26 : PySem.W.findIn K (.ref cWipe) "__init__" = some (some (.ref f26))) (n26 : PySem.W.isFn K (.ref f26) = true) (p26 : PySem.W.keepIn K (.ref cWipe) = true)
    (bd26 : ∀ S (u0 u1 u2 : Value), PySem.W.peek K S (bindArgs (PySem.W.fnOf "__init__" "Wipe.__init__" (defArgs s_Wipe___init__) (defBody s_Wipe___init__) (defScope s_Wipe___init__) (.ref d26) kV26 dc26 pm26 an26 cd26 ct26) ⟨[u0, u1, u2], []⟩) = some [(("self" : Str), u0), (("low" : Str), u1), (("high" : Str), u2), (("more" : Str), .str "no more" t26)])
    (q26a : PySem.W.plainGet K cWipe Str.empty = true) (q26b : PySem.W.hasDictIn K cWipe = true) (q26c : PySem.W.plainOver K cWipe = true) (q26d : PySem.W.findIn K (.ref cWipe) "__setattr__" = some (some (.builtin "object.__setattr__")))
    (na26low : PySem.W.findIn K (.ref cWipe) "low" = some none)
    (na26high : PySem.W.findIn K (.ref cWipe) "high" = some none)
    (i27 : PySem.W.findIn K (.ref cWipe) "told" = some (some (.ref f27))) (l27 : K.lookup f27 = some ⟨oc27, od27, .func (PySem.W.fnOf "told" "Wipe.told" (defArgs s_Wipe_told) (defBody s_Wipe_told) (defScope s_Wipe_told) .none kV27 dc27 pm27 an27 cd27 ct27), sl27⟩) (c27 : PySem.W.codeIn K cd27 "Wipe.told" = true) (k27 : PySem.W.keepIn K (.ref f27) = true) (n27 : PySem.W.isFn K (.ref f27) = true)
    (i28 : PySem.W.findIn K (.ref cWipe) "action" = some (some (.ref f28))) (l28 : K.lookup f28 = some ⟨oc28, od28, .func (PySem.W.fnOf "action" "Wipe.action" (defArgs s_Wipe_action) (defBody s_Wipe_action) (defScope s_Wipe_action) .none kV28 dc28 pm28 an28 cd28 ct28), sl28⟩) (c28 : PySem.W.codeIn K cd28 "Wipe.action" = true) (k28 : PySem.W.keepIn K (.ref f28) = true) (n28 : PySem.W.isFn K (.ref f28) = true)
    (i29 : PySem.W.findIn K (.ref cWipe) "span" = some (some (.ref f29))) (l29 : K.lookup f29 = some ⟨oc29, od29, .func (PySem.W.fnOf "span" "Wipe.span" (defArgs s_Wipe_span) (defBody s_Wipe_span) (defScope s_Wipe_span) .none kV29 dc29 pm29 an29 cd29 ct29), sl29⟩) (c29 : PySem.W.codeIn K cd29 "Wipe.span" = true) (k29 : PySem.W.keepIn K (.ref f29) = true) (n29 : PySem.W.isFn K (.ref f29) = true)
    (l30 : K.lookup f30 = some ⟨oc30, od30, .func (PySem.W.fnOf "__init__" "Raise.__init__" (defArgs s_Raise___init__) (defBody s_Raise___init__) (defScope s_Raise___init__) (.ref d30) kV30 dc30 pm30 an30 cd30 ct30), sl30⟩) (c30 : PySem.W.codeIn K cd30 "Raise.__init__" = true) (ld30 : K.lookup d30 = some ⟨dx30, do30, .seq #[.none, .none, .none, .str "no more" t30] dn30, ds30⟩)
    (k30 : PySem.W.makesIn K cRaise = true) (i30 : PySem.W.findIn K (.ref cRaise) "__init__" = some (some (.ref f30))) (n30 : PySem.W.isFn K (.ref f30) = true) (p30 : PySem.W.keepIn K (.ref cRaise) = true)
    (bd30 : ∀ S (u0 u1 u2 u3 : Value), PySem.W.peek K S (bindArgs (PySem.W.fnOf "__init__" "Raise.__init__" (defArgs s_Raise___init__) (defBody s_Raise___init__) (defScope s_Raise___init__) (.ref d30) kV30 dc30 pm30 an30 cd30 ct30) ⟨[u0, u1, u2, u3], []⟩) = some [(("self" : Str), u0), (("low" : Str), u1), (("high" : Str), u2), (("by" : Str), u3), (("more" : Str), .str "no more" t30)])
    (q30a : PySem.W.plainGet K cRaise Str.empty = true) (q30b : PySem.W.hasDictIn K cRaise = true) (q30c : PySem.W.plainOver K cRaise = true) (q30d : PySem.W.findIn K (.ref cRaise) "__setattr__" = some (some (.builtin "object.__setattr__")))
    (na30low : PySem.W.findIn K (.ref cRaise) "low" = some none)
    (na30high : PySem.W.findIn K (.ref cRaise) "high" = some none)
    (na30by : PySem.W.findIn K (.ref cRaise) "by" = some none)
    (i31 : PySem.W.findIn K (.ref cRaise) "told" = some (some (.ref f31))) (l31 : K.lookup f31 = some ⟨oc31, od31, .func (PySem.W.fnOf "told" "Raise.told" (defArgs s_Raise_told) (defBody s_Raise_told) (defScope s_Raise_told) .none kV31 dc31 pm31 an31 cd31 ct31), sl31⟩) (c31 : PySem.W.codeIn K cd31 "Raise.told" = true) (k31 : PySem.W.keepIn K (.ref f31) = true) (n31 : PySem.W.isFn K (.ref f31) = true)
    (i32 : PySem.W.findIn K (.ref cRaise) "action" = some (some (.ref f32))) (l32 : K.lookup f32 = some ⟨oc32, od32, .func (PySem.W.fnOf "action" "Raise.action" (defArgs s_Raise_action) (defBody s_Raise_action) (defScope s_Raise_action) .none kV32 dc32 pm32 an32 cd32 ct32), sl32⟩) (c32 : PySem.W.codeIn K cd32 "Raise.action" = true) (k32 : PySem.W.keepIn K (.ref f32) = true) (n32 : PySem.W.isFn K (.ref f32) = true)
    (i33 : PySem.W.findIn K (.ref cRaise) "span" = some (some (.ref f33))) (l33 : K.lookup f33 = some ⟨oc33, od33, .func (PySem.W.fnOf "span" "Raise.span" (defArgs s_Raise_span) (defBody s_Raise_span) (defScope s_Raise_span) .none kV33 dc33 pm33 an33 cd33 ct33), sl33⟩) (c33 : PySem.W.codeIn K cd33 "Raise.span" = true) (k33 : PySem.W.keepIn K (.ref f33) = true) (n33 : PySem.W.isFn K (.ref f33) = true)
    (l34 : K.lookup f34 = some ⟨oc34, od34, .func (PySem.W.fnOf "__init__" "Level.__init__" (defArgs s_Level___init__) (defBody s_Level___init__) (defScope s_Level___init__) (.ref d34) kV34 dc34 pm34 an34 cd34 ct34), sl34⟩) (c34 : PySem.W.codeIn K cd34 "Level.__init__" = true) (ld34 : K.lookup d34 = some ⟨dx34, do34, .seq #[.none, .none, .none, .str "no more" t34] dn34, ds34⟩)
    (k34 : PySem.W.makesIn K cLevel = true) (i34 : PySem.W.findIn K (.ref cLevel) "__init__" = some (some (.ref f34))) (n34 : PySem.W.isFn K (.ref f34) = true) (p34 : PySem.W.keepIn K (.ref cLevel) = true)
    (bd34 : ∀ S (u0 u1 u2 u3 : Value), PySem.W.peek K S (bindArgs (PySem.W.fnOf "__init__" "Level.__init__" (defArgs s_Level___init__) (defBody s_Level___init__) (defScope s_Level___init__) (.ref d34) kV34 dc34 pm34 an34 cd34 ct34) ⟨[u0, u1, u2, u3], []⟩) = some [(("self" : Str), u0), (("low" : Str), u1), (("high" : Str), u2), (("value" : Str), u3), (("more" : Str), .str "no more" t34)])
    (q34a : PySem.W.plainGet K cLevel Str.empty = true) (q34b : PySem.W.hasDictIn K cLevel = true) (q34c : PySem.W.plainOver K cLevel = true) (q34d : PySem.W.findIn K (.ref cLevel) "__setattr__" = some (some (.builtin "object.__setattr__")))
    (na34low : PySem.W.findIn K (.ref cLevel) "low" = some none)
    (na34high : PySem.W.findIn K (.ref cLevel) "high" = some none)
    (na34value : PySem.W.findIn K (.ref cLevel) "value" = some none)
    (i35 : PySem.W.findIn K (.ref cLevel) "told" = some (some (.ref f35))) (l35 : K.lookup f35 = some ⟨oc35, od35, .func (PySem.W.fnOf "told" "Level.told" (defArgs s_Level_told) (defBody s_Level_told) (defScope s_Level_told) .none kV35 dc35 pm35 an35 cd35 ct35), sl35⟩) (c35 : PySem.W.codeIn K cd35 "Level.told" = true) (k35 : PySem.W.keepIn K (.ref f35) = true) (n35 : PySem.W.isFn K (.ref f35) = true)
    (i36 : PySem.W.findIn K (.ref cLevel) "action" = some (some (.ref f36))) (l36 : K.lookup f36 = some ⟨oc36, od36, .func (PySem.W.fnOf "action" "Level.action" (defArgs s_Level_action) (defBody s_Level_action) (defScope s_Level_action) .none kV36 dc36 pm36 an36 cd36 ct36), sl36⟩) (c36 : PySem.W.codeIn K cd36 "Level.action" = true) (k36 : PySem.W.keepIn K (.ref f36) = true) (n36 : PySem.W.isFn K (.ref f36) = true)
    (i37 : PySem.W.findIn K (.ref cLevel) "span" = some (some (.ref f37))) (l37 : K.lookup f37 = some ⟨oc37, od37, .func (PySem.W.fnOf "span" "Level.span" (defArgs s_Level_span) (defBody s_Level_span) (defScope s_Level_span) .none kV37 dc37 pm37 an37 cd37 ct37), sl37⟩) (c37 : PySem.W.codeIn K cd37 "Level.span" = true) (k37 : PySem.W.keepIn K (.ref f37) = true) (n37 : PySem.W.isFn K (.ref f37) = true)
    (l38 : K.lookup f38 = some ⟨oc38, od38, .func (PySem.W.fnOf "__init__" "Mark.__init__" (defArgs s_Mark___init__) (defBody s_Mark___init__) (defScope s_Mark___init__) (.ref d38) kV38 dc38 pm38 an38 cd38 ct38), sl38⟩) (c38 : PySem.W.codeIn K cd38 "Mark.__init__" = true) (ld38 : K.lookup d38 = some ⟨dx38, do38, .seq #[.str "no more" t38] dn38, ds38⟩)
    (k38 : PySem.W.makesIn K cMark = true) (i38 : PySem.W.findIn K (.ref cMark) "__init__" = some (some (.ref f38))) (n38 : PySem.W.isFn K (.ref f38) = true) (p38 : PySem.W.keepIn K (.ref cMark) = true)
    (bd38 : ∀ S (u0 : Value), PySem.W.peek K S (bindArgs (PySem.W.fnOf "__init__" "Mark.__init__" (defArgs s_Mark___init__) (defBody s_Mark___init__) (defScope s_Mark___init__) (.ref d38) kV38 dc38 pm38 an38 cd38 ct38) ⟨[u0], []⟩) = some [(("self" : Str), u0), (("more" : Str), .str "no more" t38)])
    (q38a : PySem.W.plainGet K cMark Str.empty = true) (q38b : PySem.W.hasDictIn K cMark = true) (q38c : PySem.W.plainOver K cMark = true) (q38d : PySem.W.findIn K (.ref cMark) "__setattr__" = some (some (.builtin "object.__setattr__")))
    (i39 : PySem.W.findIn K (.ref cMark) "told" = some (some (.ref f39))) (l39 : K.lookup f39 = some ⟨oc39, od39, .func (PySem.W.fnOf "told" "Mark.told" (defArgs s_Mark_told) (defBody s_Mark_told) (defScope s_Mark_told) .none kV39 dc39 pm39 an39 cd39 ct39), sl39⟩) (c39 : PySem.W.codeIn K cd39 "Mark.told" = true) (k39 : PySem.W.keepIn K (.ref f39) = true) (n39 : PySem.W.isFn K (.ref f39) = true)
    (l40 : K.lookup f40 = some ⟨oc40, od40, .func (PySem.W.fnOf "__init__" "Forget.__init__" (defArgs s_Forget___init__) (defBody s_Forget___init__) (defScope s_Forget___init__) (.ref d40) kV40 dc40 pm40 an40 cd40 ct40), sl40⟩) (c40 : PySem.W.codeIn K cd40 "Forget.__init__" = true) (ld40 : K.lookup d40 = some ⟨dx40, do40, .seq #[.none, .str "no more" t40] dn40, ds40⟩)
    (k40 : PySem.W.makesIn K cForget = true) (i40 : PySem.W.findIn K (.ref cForget) "__init__" = some (some (.ref f40))) (n40 : PySem.W.isFn K (.ref f40) = true) (p40 : PySem.W.keepIn K (.ref cForget) = true)
    (bd40 : ∀ S (u0 u1 : Value), PySem.W.peek K S (bindArgs (PySem.W.fnOf "__init__" "Forget.__init__" (defArgs s_Forget___init__) (defBody s_Forget___init__) (defScope s_Forget___init__) (.ref d40) kV40 dc40 pm40 an40 cd40 ct40) ⟨[u0, u1], []⟩) = some [(("self" : Str), u0), (("mark" : Str), u1), (("more" : Str), .str "no more" t40)])
    (q40a : PySem.W.plainGet K cForget Str.empty = true) (q40b : PySem.W.hasDictIn K cForget = true) (q40c : PySem.W.plainOver K cForget = true) (q40d : PySem.W.findIn K (.ref cForget) "__setattr__" = some (some (.builtin "object.__setattr__")))
    (na40mark : PySem.W.findIn K (.ref cForget) "mark" = some none)
    (i41 : PySem.W.findIn K (.ref cForget) "told" = some (some (.ref f41))) (l41 : K.lookup f41 = some ⟨oc41, od41, .func (PySem.W.fnOf "told" "Forget.told" (defArgs s_Forget_told) (defBody s_Forget_told) (defScope s_Forget_told) .none kV41 dc41 pm41 an41 cd41 ct41), sl41⟩) (c41 : PySem.W.codeIn K cd41 "Forget.told" = true) (k41 : PySem.W.keepIn K (.ref f41) = true) (n41 : PySem.W.isFn K (.ref f41) = true)
    (i42 : PySem.W.findIn K (.ref cDeed) "note" = some (some (.ref f42))) (l42 : K.lookup f42 = some ⟨oc42, od42, .func (PySem.W.fnOf "note" "Deed.note" (defArgs s_Deed_note) (defBody s_Deed_note) (defScope s_Deed_note) .none kV42 dc42 pm42 an42 cd42 ct42), sl42⟩) (c42 : PySem.W.codeIn K cd42 "Deed.note" = true) (k42 : PySem.W.keepIn K (.ref f42) = true) (n42 : PySem.W.isFn K (.ref f42) = true)
    (i43 : PySem.W.findIn K (.ref cDeed) "__str__" = some (some (.ref f43))) (l43 : K.lookup f43 = some ⟨oc43, od43, .func (PySem.W.fnOf "__str__" "Deed.__str__" (defArgs s_Deed___str__) (defBody s_Deed___str__) (defScope s_Deed___str__) .none kV43 dc43 pm43 an43 cd43 ct43), sl43⟩) (c43 : PySem.W.codeIn K cd43 "Deed.__str__" = true) (k43 : PySem.W.keepIn K (.ref f43) = true) (n43 : PySem.W.isFn K (.ref f43) = true)
    (i44 : PySem.W.findIn K (.ref cDeed) "__eq__" = some (some (.ref f44))) (l44 : K.lookup f44 = some ⟨oc44, od44, .func (PySem.W.fnOf "__eq__" "Deed.__eq__" (defArgs s_Deed___eq__) (defBody s_Deed___eq__) (defScope s_Deed___eq__) .none kV44 dc44 pm44 an44 cd44 ct44), sl44⟩) (c44 : PySem.W.codeIn K cd44 "Deed.__eq__" = true) (k44 : PySem.W.keepIn K (.ref f44) = true) (n44 : PySem.W.isFn K (.ref f44) = true)
    (a45 : PySem.W.nsIn K mainGlobals "has_form" = some (some (.ref f45))) (l45 : K.lookup f45 = some ⟨oc45, od45, .func (PySem.W.fnOf "has_form" "has_form" (defArgs s_has_form) (defBody s_has_form) (defScope s_has_form) .none kV45 dc45 pm45 an45 cd45 ct45), sl45⟩) (c45 : PySem.W.codeIn K cd45 "has_form" = true) (k45 : PySem.W.keepIn K (.ref f45) = true)
    (a46 : PySem.W.nsIn K mainGlobals "deed_of" = some (some (.ref f46))) (l46 : K.lookup f46 = some ⟨oc46, od46, .func (PySem.W.fnOf "deed_of" "deed_of" (defArgs s_deed_of) (defBody s_deed_of) (defScope s_deed_of) .none kV46 dc46 pm46 an46 cd46 ct46), sl46⟩) (c46 : PySem.W.codeIn K cd46 "deed_of" = true) (k46 : PySem.W.keepIn K (.ref f46) = true)
    (a47 : PySem.W.nsIn K mainGlobals "read_words" = some (some (.ref f47))) (l47 : K.lookup f47 = some ⟨oc47, od47, .func (PySem.W.fnOf "read_words" "read_words" (defArgs s_read_words) (defBody s_read_words) (defScope s_read_words) .none kV47 dc47 pm47 an47 cd47 ct47), sl47⟩) (c47 : PySem.W.codeIn K cd47 "read_words" = true) (k47 : PySem.W.keepIn K (.ref f47) = true)
    (a48 : PySem.W.nsIn K mainGlobals "_law_well" = some (some (.ref f48))) (l48 : K.lookup f48 = some ⟨oc48, od48, .func (PySem.W.fnOf "_law_well" "_law_well" (defArgs s__law_well) (defBody s__law_well) (defScope s__law_well) .none kV48 dc48 pm48 an48 cd48 ct48), sl48⟩) (c48 : PySem.W.codeIn K cd48 "_law_well" = true) (k48 : PySem.W.keepIn K (.ref f48) = true)
    (a49 : PySem.W.nsIn K mainGlobals "_law_draw" = some (some (.ref f49))) (l49 : K.lookup f49 = some ⟨oc49, od49, .func (PySem.W.fnOf "_law_draw" "_law_draw" (defArgs s__law_draw) (defBody s__law_draw) (defScope s__law_draw) .none kV49 dc49 pm49 an49 cd49 ct49), sl49⟩) (c49 : PySem.W.codeIn K cd49 "_law_draw" = true) (k49 : PySem.W.keepIn K (.ref f49) = true)
    (a50 : PySem.W.nsIn K mainGlobals "_law_key" = some (some (.ref f50))) (l50 : K.lookup f50 = some ⟨oc50, od50, .func (PySem.W.fnOf "_law_key" "_law_key" (defArgs s__law_key) (defBody s__law_key) (defScope s__law_key) .none kV50 dc50 pm50 an50 cd50 ct50), sl50⟩) (c50 : PySem.W.codeIn K cd50 "_law_key" = true) (k50 : PySem.W.keepIn K (.ref f50) = true)
    (a51 : PySem.W.nsIn K mainGlobals "_law_amount" = some (some (.ref f51))) (l51 : K.lookup f51 = some ⟨oc51, od51, .func (PySem.W.fnOf "_law_amount" "_law_amount" (defArgs s__law_amount) (defBody s__law_amount) (defScope s__law_amount) .none kV51 dc51 pm51 an51 cd51 ct51), sl51⟩) (c51 : PySem.W.codeIn K cd51 "_law_amount" = true) (k51 : PySem.W.keepIn K (.ref f51) = true)
    (a52 : PySem.W.nsIn K mainGlobals "_law_stretch" = some (some (.ref f52))) (l52 : K.lookup f52 = some ⟨oc52, od52, .func (PySem.W.fnOf "_law_stretch" "_law_stretch" (defArgs s__law_stretch) (defBody s__law_stretch) (defScope s__law_stretch) .none kV52 dc52 pm52 an52 cd52 ct52), sl52⟩) (c52 : PySem.W.codeIn K cd52 "_law_stretch" = true) (k52 : PySem.W.keepIn K (.ref f52) = true)
    (a53 : PySem.W.nsIn K mainGlobals "_law_deed" = some (some (.ref f53))) (l53 : K.lookup f53 = some ⟨oc53, od53, .func (PySem.W.fnOf "_law_deed" "_law_deed" (defArgs s__law_deed) (defBody s__law_deed) (defScope s__law_deed) .none kV53 dc53 pm53 an53 cd53 ct53), sl53⟩) (c53 : PySem.W.codeIn K cd53 "_law_deed" = true) (k53 : PySem.W.keepIn K (.ref f53) = true)
    (a54 : PySem.W.nsIn K mainGlobals "_law_by_place" = some (some (.ref f54))) (l54 : K.lookup f54 = some ⟨oc54, od54, .func (PySem.W.fnOf "_law_by_place" "_law_by_place" (defArgs s__law_by_place) (defBody s__law_by_place) (defScope s__law_by_place) .none kV54 dc54 pm54 an54 cd54 ct54), sl54⟩) (c54 : PySem.W.codeIn K cd54 "_law_by_place" = true) (k54 : PySem.W.keepIn K (.ref f54) = true)
    (a55 : PySem.W.nsIn K mainGlobals "_law_action" = some (some (.ref f55))) (l55 : K.lookup f55 = some ⟨oc55, od55, .func (PySem.W.fnOf "_law_action" "_law_action" (defArgs s__law_action) (defBody s__law_action) (defScope s__law_action) .none kV55 dc55 pm55 an55 cd55 ct55), sl55⟩) (c55 : PySem.W.codeIn K cd55 "_law_action" = true) (k55 : PySem.W.keepIn K (.ref f55) = true)
    (a56 : PySem.W.nsIn K mainGlobals "_law_note" = some (some (.ref f56))) (l56 : K.lookup f56 = some ⟨oc56, od56, .func (PySem.W.fnOf "_law_note" "_law_note" (defArgs s__law_note) (defBody s__law_note) (defScope s__law_note) .none kV56 dc56 pm56 an56 cd56 ct56), sl56⟩) (c56 : PySem.W.codeIn K cd56 "_law_note" = true) (k56 : PySem.W.keepIn K (.ref f56) = true)
    (a57 : PySem.W.nsIn K mainGlobals "_law_kinds" = some (some (.ref f57))) (l57 : K.lookup f57 = some ⟨oc57, od57, .func (PySem.W.fnOf "_law_kinds" "_law_kinds" (defArgs s__law_kinds) (defBody s__law_kinds) (defScope s__law_kinds) .none kV57 dc57 pm57 an57 cd57 ct57), sl57⟩) (c57 : PySem.W.codeIn K cd57 "_law_kinds" = true) (k57 : PySem.W.keepIn K (.ref f57) = true)
    (a58 : PySem.W.nsIn K mainGlobals "_law_right" = some (some (.ref f58))) (l58 : K.lookup f58 = some ⟨oc58, od58, .func (PySem.W.fnOf "_law_right" "_law_right" (defArgs s__law_right) (defBody s__law_right) (defScope s__law_right) .none kV58 dc58 pm58 an58 cd58 ct58), sl58⟩) (c58 : PySem.W.codeIn K cd58 "_law_right" = true) (k58 : PySem.W.keepIn K (.ref f58) = true)
    (a59 : PySem.W.nsIn K mainGlobals "law" = some (some (.ref f59))) (l59 : K.lookup f59 = some ⟨oc59, od59, .func (PySem.W.fnOf "law" "law" (defArgs s_law) (defBody s_law) (defScope s_law) .none kV59 dc59 pm59 an59 cd59 ct59), sl59⟩) (c59 : PySem.W.codeIn K cd59 "law" = true) (k59 : PySem.W.keepIn K (.ref f59) = true)
    (z_len : PySem.W.nsIn K mainGlobals "len" = some none)
    (z_isinstance : PySem.W.nsIn K mainGlobals "isinstance" = some none)
    (z_int : PySem.W.nsIn K mainGlobals "int" = some none)
    (z_bool : PySem.W.nsIn K mainGlobals "bool" = some none)
    (z_tuple : PySem.W.nsIn K mainGlobals "tuple" = some none)
    (z_str : PySem.W.nsIn K mainGlobals "str" = some none)
    (z_min : PySem.W.nsIn K mainGlobals "min" = some none)
    (z_END : PySem.W.nsIn K mainGlobals "END" = some (some (.int 1000000000000 tE)))
    (z_MOST_VALUE : PySem.W.nsIn K mainGlobals "MOST_VALUE" = some (some (.int 1000000000000000000000000000000 tM)))
    (z_MOST_FIGURES : PySem.W.nsIn K mainGlobals "MOST_FIGURES" = some (some (.int 60 tF)))
    (z_NO_MORE : PySem.W.nsIn K mainGlobals "NO_MORE" = some (some (.str "no more" tN)))
    (z_THINGS : PySem.W.nsIn K mainGlobals "THINGS" = some (some (.ref aTh)))
    (z_GONE : PySem.W.nsIn K mainGlobals "GONE" = some (some (.ref aG)))
    (z_CLEARING : PySem.W.nsIn K mainGlobals "CLEARING" = some (some (.ref aC)))
    (z_Deed : PySem.W.nsIn K mainGlobals "Deed" = some (some (.ref cDeed)))
    (z_Put : PySem.W.nsIn K mainGlobals "Put" = some (some (.ref cPut)))
    (z_Drop : PySem.W.nsIn K mainGlobals "Drop" = some (some (.ref cDrop)))
    (z_Add : PySem.W.nsIn K mainGlobals "Add" = some (some (.ref cAdd)))
    (z_Wipe : PySem.W.nsIn K mainGlobals "Wipe" = some (some (.ref cWipe)))
    (z_Raise : PySem.W.nsIn K mainGlobals "Raise" = some (some (.ref cRaise)))
    (z_Level : PySem.W.nsIn K mainGlobals "Level" = some (some (.ref cLevel)))
    (z_Mark : PySem.W.nsIn K mainGlobals "Mark" = some (some (.ref cMark)))
    (z_Forget : PySem.W.nsIn K mainGlobals "Forget" = some (some (.ref cForget)))
    (z_kT : K.lookup aTh = some ⟨.type "dict", none, .dict (List.toArray (⟨PyData.keyHash w.params "put", .str "put" s1, .int 3 u1⟩ :: ⟨PyData.keyHash w.params "drop", .str "drop" s2, .int 2 u2⟩ :: ⟨PyData.keyHash w.params "add", .str "add" s3, .int 3 u3⟩ :: ⟨PyData.keyHash w.params "wipe", .str "wipe" s4, .int 3 u4⟩ :: ⟨PyData.keyHash w.params "raise", .str "raise" s5, .int 4 u5⟩ :: ⟨PyData.keyHash w.params "level", .str "level" s6, .int 4 u6⟩ :: ⟨PyData.keyHash w.params "mark", .str "mark" s7, .int 1 u7⟩ :: ⟨PyData.keyHash w.params "forget", .str "forget" s8, .int 2 u8⟩ :: [])) nT, #[]⟩)
    (z_tne : (aTh == sysModules) = false)
    (z_kG : K.lookup aG = some ⟨.type "tuple", dG, .seq #[.str "gone" v1] nG, slG⟩)
    (z_kC : K.lookup aC = some ⟨.type "tuple", dC, .seq #[.ref g1, .ref g2] nC, slC⟩)
    (z_kC1 : K.lookup g1 = some ⟨.type "tuple", dC1, .seq #[.str "gone" v2] nC1, slC1⟩)
    (z_kC2 : K.lookup g2 = some ⟨.type "tuple", dC2, .seq #[.str "gone" v3] nC2, slC2⟩)
    (z_gt : PySem.W.specialIn K (.builtin "object.__class__") "__get__" = some (some (.builtin "getset_descriptor.__get__")))
    (z_tk : PySem.W.takesIn K (.builtin "object.__class__") = some true)
    (z_caPut : PySem.W.findIn K (.ref cPut) "__class__" = some (some (.builtin "object.__class__")))
    (z_moPut : PySem.W.mroIn K cPut (.type "object") = some true)
    (z_kDPut : PySem.W.kitOne K (.ref cPut) (.ref cDeed) = some true)
    (z_nePut : PySem.W.findIn K (.ref cPut) "__ne__" = some (some (.builtin "object.__ne__")))
    (z_odPuttuple : PySem.W.subIn K (.ref cPut) (.type "tuple") = some false)
    (z_odPutlist : PySem.W.subIn K (.ref cPut) (.type "list") = some false)
    (z_odPutint : PySem.W.subIn K (.ref cPut) (.type "int") = some false)
    (z_odPutstr : PySem.W.subIn K (.ref cPut) (.type "str") = some false)
    (z_odPutNoneType : PySem.W.subIn K (.ref cPut) (.type "NoneType") = some false)
    (z_kkPutPut : PySem.W.kitOne K (.ref cPut) (.ref cPut) = some true)
    (z_kkPutDrop : PySem.W.kitOne K (.ref cPut) (.ref cDrop) = some false)
    (z_nfPutDrop : PySem.W.subIn K (.ref cDrop) (.ref cPut) = some false)
    (z_kkPutAdd : PySem.W.kitOne K (.ref cPut) (.ref cAdd) = some false)
    (z_nfPutAdd : PySem.W.subIn K (.ref cAdd) (.ref cPut) = some false)
    (z_kkPutWipe : PySem.W.kitOne K (.ref cPut) (.ref cWipe) = some false)
    (z_nfPutWipe : PySem.W.subIn K (.ref cWipe) (.ref cPut) = some false)
    (z_kkPutRaise : PySem.W.kitOne K (.ref cPut) (.ref cRaise) = some false)
    (z_nfPutRaise : PySem.W.subIn K (.ref cRaise) (.ref cPut) = some false)
    (z_kkPutLevel : PySem.W.kitOne K (.ref cPut) (.ref cLevel) = some false)
    (z_nfPutLevel : PySem.W.subIn K (.ref cLevel) (.ref cPut) = some false)
    (z_kkPutMark : PySem.W.kitOne K (.ref cPut) (.ref cMark) = some false)
    (z_nfPutMark : PySem.W.subIn K (.ref cMark) (.ref cPut) = some false)
    (z_kkPutForget : PySem.W.kitOne K (.ref cPut) (.ref cForget) = some false)
    (z_nfPutForget : PySem.W.subIn K (.ref cForget) (.ref cPut) = some false)
    (z_mtPutnote : PySem.W.findIn K (.ref cPut) "note" = some (some (.ref f42)))
    (z_mtPutstr : PySem.W.findIn K (.ref cPut) "__str__" = some (some (.ref f43)))
    (z_mtPuteq : PySem.W.findIn K (.ref cPut) "__eq__" = some (some (.ref f44)))
    (z_caDrop : PySem.W.findIn K (.ref cDrop) "__class__" = some (some (.builtin "object.__class__")))
    (z_moDrop : PySem.W.mroIn K cDrop (.type "object") = some true)
    (z_kDDrop : PySem.W.kitOne K (.ref cDrop) (.ref cDeed) = some true)
    (z_neDrop : PySem.W.findIn K (.ref cDrop) "__ne__" = some (some (.builtin "object.__ne__")))
    (z_odDroptuple : PySem.W.subIn K (.ref cDrop) (.type "tuple") = some false)
    (z_odDroplist : PySem.W.subIn K (.ref cDrop) (.type "list") = some false)
    (z_odDropint : PySem.W.subIn K (.ref cDrop) (.type "int") = some false)
    (z_odDropstr : PySem.W.subIn K (.ref cDrop) (.type "str") = some false)
    (z_odDropNoneType : PySem.W.subIn K (.ref cDrop) (.type "NoneType") = some false)
    (z_kkDropPut : PySem.W.kitOne K (.ref cDrop) (.ref cPut) = some false)
    (z_nfDropPut : PySem.W.subIn K (.ref cPut) (.ref cDrop) = some false)
    (z_kkDropDrop : PySem.W.kitOne K (.ref cDrop) (.ref cDrop) = some true)
    (z_kkDropAdd : PySem.W.kitOne K (.ref cDrop) (.ref cAdd) = some false)
    (z_nfDropAdd : PySem.W.subIn K (.ref cAdd) (.ref cDrop) = some false)
    (z_kkDropWipe : PySem.W.kitOne K (.ref cDrop) (.ref cWipe) = some false)
    (z_nfDropWipe : PySem.W.subIn K (.ref cWipe) (.ref cDrop) = some false)
    (z_kkDropRaise : PySem.W.kitOne K (.ref cDrop) (.ref cRaise) = some false)
    (z_nfDropRaise : PySem.W.subIn K (.ref cRaise) (.ref cDrop) = some false)
    (z_kkDropLevel : PySem.W.kitOne K (.ref cDrop) (.ref cLevel) = some false)
    (z_nfDropLevel : PySem.W.subIn K (.ref cLevel) (.ref cDrop) = some false)
    (z_kkDropMark : PySem.W.kitOne K (.ref cDrop) (.ref cMark) = some false)
    (z_nfDropMark : PySem.W.subIn K (.ref cMark) (.ref cDrop) = some false)
    (z_kkDropForget : PySem.W.kitOne K (.ref cDrop) (.ref cForget) = some false)
    (z_nfDropForget : PySem.W.subIn K (.ref cForget) (.ref cDrop) = some false)
    (z_mtDropnote : PySem.W.findIn K (.ref cDrop) "note" = some (some (.ref f42)))
    (z_mtDropstr : PySem.W.findIn K (.ref cDrop) "__str__" = some (some (.ref f43)))
    (z_mtDropeq : PySem.W.findIn K (.ref cDrop) "__eq__" = some (some (.ref f44)))
    (z_caAdd : PySem.W.findIn K (.ref cAdd) "__class__" = some (some (.builtin "object.__class__")))
    (z_moAdd : PySem.W.mroIn K cAdd (.type "object") = some true)
    (z_kDAdd : PySem.W.kitOne K (.ref cAdd) (.ref cDeed) = some true)
    (z_neAdd : PySem.W.findIn K (.ref cAdd) "__ne__" = some (some (.builtin "object.__ne__")))
    (z_odAddtuple : PySem.W.subIn K (.ref cAdd) (.type "tuple") = some false)
    (z_odAddlist : PySem.W.subIn K (.ref cAdd) (.type "list") = some false)
    (z_odAddint : PySem.W.subIn K (.ref cAdd) (.type "int") = some false)
    (z_odAddstr : PySem.W.subIn K (.ref cAdd) (.type "str") = some false)
    (z_odAddNoneType : PySem.W.subIn K (.ref cAdd) (.type "NoneType") = some false)
    (z_kkAddPut : PySem.W.kitOne K (.ref cAdd) (.ref cPut) = some false)
    (z_nfAddPut : PySem.W.subIn K (.ref cPut) (.ref cAdd) = some false)
    (z_kkAddDrop : PySem.W.kitOne K (.ref cAdd) (.ref cDrop) = some false)
    (z_nfAddDrop : PySem.W.subIn K (.ref cDrop) (.ref cAdd) = some false)
    (z_kkAddAdd : PySem.W.kitOne K (.ref cAdd) (.ref cAdd) = some true)
    (z_kkAddWipe : PySem.W.kitOne K (.ref cAdd) (.ref cWipe) = some false)
    (z_nfAddWipe : PySem.W.subIn K (.ref cWipe) (.ref cAdd) = some false)
    (z_kkAddRaise : PySem.W.kitOne K (.ref cAdd) (.ref cRaise) = some false)
    (z_nfAddRaise : PySem.W.subIn K (.ref cRaise) (.ref cAdd) = some false)
    (z_kkAddLevel : PySem.W.kitOne K (.ref cAdd) (.ref cLevel) = some false)
    (z_nfAddLevel : PySem.W.subIn K (.ref cLevel) (.ref cAdd) = some false)
    (z_kkAddMark : PySem.W.kitOne K (.ref cAdd) (.ref cMark) = some false)
    (z_nfAddMark : PySem.W.subIn K (.ref cMark) (.ref cAdd) = some false)
    (z_kkAddForget : PySem.W.kitOne K (.ref cAdd) (.ref cForget) = some false)
    (z_nfAddForget : PySem.W.subIn K (.ref cForget) (.ref cAdd) = some false)
    (z_mtAddnote : PySem.W.findIn K (.ref cAdd) "note" = some (some (.ref f42)))
    (z_mtAddstr : PySem.W.findIn K (.ref cAdd) "__str__" = some (some (.ref f43)))
    (z_mtAddeq : PySem.W.findIn K (.ref cAdd) "__eq__" = some (some (.ref f44)))
    (z_caWipe : PySem.W.findIn K (.ref cWipe) "__class__" = some (some (.builtin "object.__class__")))
    (z_moWipe : PySem.W.mroIn K cWipe (.type "object") = some true)
    (z_kDWipe : PySem.W.kitOne K (.ref cWipe) (.ref cDeed) = some true)
    (z_neWipe : PySem.W.findIn K (.ref cWipe) "__ne__" = some (some (.builtin "object.__ne__")))
    (z_odWipetuple : PySem.W.subIn K (.ref cWipe) (.type "tuple") = some false)
    (z_odWipelist : PySem.W.subIn K (.ref cWipe) (.type "list") = some false)
    (z_odWipeint : PySem.W.subIn K (.ref cWipe) (.type "int") = some false)
    (z_odWipestr : PySem.W.subIn K (.ref cWipe) (.type "str") = some false)
    (z_odWipeNoneType : PySem.W.subIn K (.ref cWipe) (.type "NoneType") = some false)
    (z_kkWipePut : PySem.W.kitOne K (.ref cWipe) (.ref cPut) = some false)
    (z_nfWipePut : PySem.W.subIn K (.ref cPut) (.ref cWipe) = some false)
    (z_kkWipeDrop : PySem.W.kitOne K (.ref cWipe) (.ref cDrop) = some false)
    (z_nfWipeDrop : PySem.W.subIn K (.ref cDrop) (.ref cWipe) = some false)
    (z_kkWipeAdd : PySem.W.kitOne K (.ref cWipe) (.ref cAdd) = some false)
    (z_nfWipeAdd : PySem.W.subIn K (.ref cAdd) (.ref cWipe) = some false)
    (z_kkWipeWipe : PySem.W.kitOne K (.ref cWipe) (.ref cWipe) = some true)
    (z_kkWipeRaise : PySem.W.kitOne K (.ref cWipe) (.ref cRaise) = some false)
    (z_nfWipeRaise : PySem.W.subIn K (.ref cRaise) (.ref cWipe) = some false)
    (z_kkWipeLevel : PySem.W.kitOne K (.ref cWipe) (.ref cLevel) = some false)
    (z_nfWipeLevel : PySem.W.subIn K (.ref cLevel) (.ref cWipe) = some false)
    (z_kkWipeMark : PySem.W.kitOne K (.ref cWipe) (.ref cMark) = some false)
    (z_nfWipeMark : PySem.W.subIn K (.ref cMark) (.ref cWipe) = some false)
    (z_kkWipeForget : PySem.W.kitOne K (.ref cWipe) (.ref cForget) = some false)
    (z_nfWipeForget : PySem.W.subIn K (.ref cForget) (.ref cWipe) = some false)
    (z_mtWipenote : PySem.W.findIn K (.ref cWipe) "note" = some (some (.ref f42)))
    (z_mtWipestr : PySem.W.findIn K (.ref cWipe) "__str__" = some (some (.ref f43)))
    (z_mtWipeeq : PySem.W.findIn K (.ref cWipe) "__eq__" = some (some (.ref f44)))
    (z_caRaise : PySem.W.findIn K (.ref cRaise) "__class__" = some (some (.builtin "object.__class__")))
    (z_moRaise : PySem.W.mroIn K cRaise (.type "object") = some true)
    (z_kDRaise : PySem.W.kitOne K (.ref cRaise) (.ref cDeed) = some true)
    (z_neRaise : PySem.W.findIn K (.ref cRaise) "__ne__" = some (some (.builtin "object.__ne__")))
    (z_odRaisetuple : PySem.W.subIn K (.ref cRaise) (.type "tuple") = some false)
    (z_odRaiselist : PySem.W.subIn K (.ref cRaise) (.type "list") = some false)
    (z_odRaiseint : PySem.W.subIn K (.ref cRaise) (.type "int") = some false)
    (z_odRaisestr : PySem.W.subIn K (.ref cRaise) (.type "str") = some false)
    (z_odRaiseNoneType : PySem.W.subIn K (.ref cRaise) (.type "NoneType") = some false)
    (z_kkRaisePut : PySem.W.kitOne K (.ref cRaise) (.ref cPut) = some false)
    (z_nfRaisePut : PySem.W.subIn K (.ref cPut) (.ref cRaise) = some false)
    (z_kkRaiseDrop : PySem.W.kitOne K (.ref cRaise) (.ref cDrop) = some false)
    (z_nfRaiseDrop : PySem.W.subIn K (.ref cDrop) (.ref cRaise) = some false)
    (z_kkRaiseAdd : PySem.W.kitOne K (.ref cRaise) (.ref cAdd) = some false)
    (z_nfRaiseAdd : PySem.W.subIn K (.ref cAdd) (.ref cRaise) = some false)
    (z_kkRaiseWipe : PySem.W.kitOne K (.ref cRaise) (.ref cWipe) = some false)
    (z_nfRaiseWipe : PySem.W.subIn K (.ref cWipe) (.ref cRaise) = some false)
    (z_kkRaiseRaise : PySem.W.kitOne K (.ref cRaise) (.ref cRaise) = some true)
    (z_kkRaiseLevel : PySem.W.kitOne K (.ref cRaise) (.ref cLevel) = some false)
    (z_nfRaiseLevel : PySem.W.subIn K (.ref cLevel) (.ref cRaise) = some false)
    (z_kkRaiseMark : PySem.W.kitOne K (.ref cRaise) (.ref cMark) = some false)
    (z_nfRaiseMark : PySem.W.subIn K (.ref cMark) (.ref cRaise) = some false)
    (z_kkRaiseForget : PySem.W.kitOne K (.ref cRaise) (.ref cForget) = some false)
    (z_nfRaiseForget : PySem.W.subIn K (.ref cForget) (.ref cRaise) = some false)
    (z_mtRaisenote : PySem.W.findIn K (.ref cRaise) "note" = some (some (.ref f42)))
    (z_mtRaisestr : PySem.W.findIn K (.ref cRaise) "__str__" = some (some (.ref f43)))
    (z_mtRaiseeq : PySem.W.findIn K (.ref cRaise) "__eq__" = some (some (.ref f44)))
    (z_caLevel : PySem.W.findIn K (.ref cLevel) "__class__" = some (some (.builtin "object.__class__")))
    (z_moLevel : PySem.W.mroIn K cLevel (.type "object") = some true)
    (z_kDLevel : PySem.W.kitOne K (.ref cLevel) (.ref cDeed) = some true)
    (z_neLevel : PySem.W.findIn K (.ref cLevel) "__ne__" = some (some (.builtin "object.__ne__")))
    (z_odLeveltuple : PySem.W.subIn K (.ref cLevel) (.type "tuple") = some false)
    (z_odLevellist : PySem.W.subIn K (.ref cLevel) (.type "list") = some false)
    (z_odLevelint : PySem.W.subIn K (.ref cLevel) (.type "int") = some false)
    (z_odLevelstr : PySem.W.subIn K (.ref cLevel) (.type "str") = some false)
    (z_odLevelNoneType : PySem.W.subIn K (.ref cLevel) (.type "NoneType") = some false)
    (z_kkLevelPut : PySem.W.kitOne K (.ref cLevel) (.ref cPut) = some false)
    (z_nfLevelPut : PySem.W.subIn K (.ref cPut) (.ref cLevel) = some false)
    (z_kkLevelDrop : PySem.W.kitOne K (.ref cLevel) (.ref cDrop) = some false)
    (z_nfLevelDrop : PySem.W.subIn K (.ref cDrop) (.ref cLevel) = some false)
    (z_kkLevelAdd : PySem.W.kitOne K (.ref cLevel) (.ref cAdd) = some false)
    (z_nfLevelAdd : PySem.W.subIn K (.ref cAdd) (.ref cLevel) = some false)
    (z_kkLevelWipe : PySem.W.kitOne K (.ref cLevel) (.ref cWipe) = some false)
    (z_nfLevelWipe : PySem.W.subIn K (.ref cWipe) (.ref cLevel) = some false)
    (z_kkLevelRaise : PySem.W.kitOne K (.ref cLevel) (.ref cRaise) = some false)
    (z_nfLevelRaise : PySem.W.subIn K (.ref cRaise) (.ref cLevel) = some false)
    (z_kkLevelLevel : PySem.W.kitOne K (.ref cLevel) (.ref cLevel) = some true)
    (z_kkLevelMark : PySem.W.kitOne K (.ref cLevel) (.ref cMark) = some false)
    (z_nfLevelMark : PySem.W.subIn K (.ref cMark) (.ref cLevel) = some false)
    (z_kkLevelForget : PySem.W.kitOne K (.ref cLevel) (.ref cForget) = some false)
    (z_nfLevelForget : PySem.W.subIn K (.ref cForget) (.ref cLevel) = some false)
    (z_mtLevelnote : PySem.W.findIn K (.ref cLevel) "note" = some (some (.ref f42)))
    (z_mtLevelstr : PySem.W.findIn K (.ref cLevel) "__str__" = some (some (.ref f43)))
    (z_mtLeveleq : PySem.W.findIn K (.ref cLevel) "__eq__" = some (some (.ref f44)))
    (z_caMark : PySem.W.findIn K (.ref cMark) "__class__" = some (some (.builtin "object.__class__")))
    (z_moMark : PySem.W.mroIn K cMark (.type "object") = some true)
    (z_kDMark : PySem.W.kitOne K (.ref cMark) (.ref cDeed) = some true)
    (z_neMark : PySem.W.findIn K (.ref cMark) "__ne__" = some (some (.builtin "object.__ne__")))
    (z_odMarktuple : PySem.W.subIn K (.ref cMark) (.type "tuple") = some false)
    (z_odMarklist : PySem.W.subIn K (.ref cMark) (.type "list") = some false)
    (z_odMarkint : PySem.W.subIn K (.ref cMark) (.type "int") = some false)
    (z_odMarkstr : PySem.W.subIn K (.ref cMark) (.type "str") = some false)
    (z_odMarkNoneType : PySem.W.subIn K (.ref cMark) (.type "NoneType") = some false)
    (z_kkMarkPut : PySem.W.kitOne K (.ref cMark) (.ref cPut) = some false)
    (z_nfMarkPut : PySem.W.subIn K (.ref cPut) (.ref cMark) = some false)
    (z_kkMarkDrop : PySem.W.kitOne K (.ref cMark) (.ref cDrop) = some false)
    (z_nfMarkDrop : PySem.W.subIn K (.ref cDrop) (.ref cMark) = some false)
    (z_kkMarkAdd : PySem.W.kitOne K (.ref cMark) (.ref cAdd) = some false)
    (z_nfMarkAdd : PySem.W.subIn K (.ref cAdd) (.ref cMark) = some false)
    (z_kkMarkWipe : PySem.W.kitOne K (.ref cMark) (.ref cWipe) = some false)
    (z_nfMarkWipe : PySem.W.subIn K (.ref cWipe) (.ref cMark) = some false)
    (z_kkMarkRaise : PySem.W.kitOne K (.ref cMark) (.ref cRaise) = some false)
    (z_nfMarkRaise : PySem.W.subIn K (.ref cRaise) (.ref cMark) = some false)
    (z_kkMarkLevel : PySem.W.kitOne K (.ref cMark) (.ref cLevel) = some false)
    (z_nfMarkLevel : PySem.W.subIn K (.ref cLevel) (.ref cMark) = some false)
    (z_kkMarkMark : PySem.W.kitOne K (.ref cMark) (.ref cMark) = some true)
    (z_kkMarkForget : PySem.W.kitOne K (.ref cMark) (.ref cForget) = some false)
    (z_nfMarkForget : PySem.W.subIn K (.ref cForget) (.ref cMark) = some false)
    (z_mtMarknote : PySem.W.findIn K (.ref cMark) "note" = some (some (.ref f42)))
    (z_mtMarkstr : PySem.W.findIn K (.ref cMark) "__str__" = some (some (.ref f43)))
    (z_mtMarkeq : PySem.W.findIn K (.ref cMark) "__eq__" = some (some (.ref f44)))
    (z_mtMarkaction : PySem.W.findIn K (.ref cMark) "action" = some (some (.ref f12)))
    (z_mtMarkspan : PySem.W.findIn K (.ref cMark) "span" = some (some (.ref f13)))
    (z_caForget : PySem.W.findIn K (.ref cForget) "__class__" = some (some (.builtin "object.__class__")))
    (z_moForget : PySem.W.mroIn K cForget (.type "object") = some true)
    (z_kDForget : PySem.W.kitOne K (.ref cForget) (.ref cDeed) = some true)
    (z_neForget : PySem.W.findIn K (.ref cForget) "__ne__" = some (some (.builtin "object.__ne__")))
    (z_odForgettuple : PySem.W.subIn K (.ref cForget) (.type "tuple") = some false)
    (z_odForgetlist : PySem.W.subIn K (.ref cForget) (.type "list") = some false)
    (z_odForgetint : PySem.W.subIn K (.ref cForget) (.type "int") = some false)
    (z_odForgetstr : PySem.W.subIn K (.ref cForget) (.type "str") = some false)
    (z_odForgetNoneType : PySem.W.subIn K (.ref cForget) (.type "NoneType") = some false)
    (z_kkForgetPut : PySem.W.kitOne K (.ref cForget) (.ref cPut) = some false)
    (z_nfForgetPut : PySem.W.subIn K (.ref cPut) (.ref cForget) = some false)
    (z_kkForgetDrop : PySem.W.kitOne K (.ref cForget) (.ref cDrop) = some false)
    (z_nfForgetDrop : PySem.W.subIn K (.ref cDrop) (.ref cForget) = some false)
    (z_kkForgetAdd : PySem.W.kitOne K (.ref cForget) (.ref cAdd) = some false)
    (z_nfForgetAdd : PySem.W.subIn K (.ref cAdd) (.ref cForget) = some false)
    (z_kkForgetWipe : PySem.W.kitOne K (.ref cForget) (.ref cWipe) = some false)
    (z_nfForgetWipe : PySem.W.subIn K (.ref cWipe) (.ref cForget) = some false)
    (z_kkForgetRaise : PySem.W.kitOne K (.ref cForget) (.ref cRaise) = some false)
    (z_nfForgetRaise : PySem.W.subIn K (.ref cRaise) (.ref cForget) = some false)
    (z_kkForgetLevel : PySem.W.kitOne K (.ref cForget) (.ref cLevel) = some false)
    (z_nfForgetLevel : PySem.W.subIn K (.ref cLevel) (.ref cForget) = some false)
    (z_kkForgetMark : PySem.W.kitOne K (.ref cForget) (.ref cMark) = some false)
    (z_nfForgetMark : PySem.W.subIn K (.ref cMark) (.ref cForget) = some false)
    (z_kkForgetForget : PySem.W.kitOne K (.ref cForget) (.ref cForget) = some true)
    (z_mtForgetnote : PySem.W.findIn K (.ref cForget) "note" = some (some (.ref f42)))
    (z_mtForgetstr : PySem.W.findIn K (.ref cForget) "__str__" = some (some (.ref f43)))
    (z_mtForgeteq : PySem.W.findIn K (.ref cForget) "__eq__" = some (some (.ref f44)))
    (z_mtForgetaction : PySem.W.findIn K (.ref cForget) "action" = some (some (.ref f12)))
    (z_mtForgetspan : PySem.W.findIn K (.ref cForget) "span" = some (some (.ref f13)))
    (z_kdtuple : PySem.W.kitOne K (.type "tuple") (.ref cDeed) = some false)
    (z_kdlist : PySem.W.kitOne K (.type "list") (.ref cDeed) = some false)
    (z_kdint : PySem.W.kitOne K (.type "int") (.ref cDeed) = some false)
    (z_kdstr : PySem.W.kitOne K (.type "str") (.ref cDeed) = some false)
    (z_kdNoneType : PySem.W.kitOne K (.type "NoneType") (.ref cDeed) = some false) :
    ∃ fd : FuncData, (∀ (s : Shared) (v : Value), BindsTo s fd ⟨[v], []⟩ [("_law_script", v)]) ∧ ∀ base : Heap, K.In base → base.Ns mainGlobals mg → FnOk l.prog w K mg base CX0 8 fa fd ["_law_script"] (spLaw K) := by
  have e := hfa.symm.trans (PySem.W.mg_of X G a59)
  cases e
  have B := (B.mk (PySem.W.mg_none_of X G z_len) (PySem.W.mg_none_of X G z_isinstance) (PySem.W.mg_none_of X G z_int) (PySem.W.mg_none_of X G z_bool) (PySem.W.mg_none_of X G z_tuple) (PySem.W.mg_none_of X G z_str) (PySem.W.mg_none_of X G z_min) (PySem.W.mg_of X G z_END) (PySem.W.mg_of X G z_MOST_VALUE) (PySem.W.mg_of X G z_MOST_FIGURES) (PySem.W.mg_of X G z_NO_MORE) (PySem.W.mg_of X G z_THINGS) (PySem.W.mg_of X G z_GONE) (PySem.W.mg_of X G z_CLEARING) (kTup_of z_kG (by simp) rfl) ⟨g1, g2, kTup_of z_kC (by simp) rfl, kTup_of z_kC1 (by simp) rfl, kTup_of z_kC2 (by simp) rfl⟩ (kdict_strs (es := [("put", s1, .int 3 u1), ("drop", s2, .int 2 u2), ("add", s3, .int 3 u3), ("wipe", s4, .int 3 u4), ("raise", s5, .int 4 u5), ("level", s6, .int 4 u6), ("mark", s7, .int 1 u7), ("forget", s8, .int 2 u8)]) z_kT (show ([.inr "put", .inr "drop", .inr "add", .inr "wipe", .inr "raise", .inr "level", .inr "mark", .inr "forget"] : List Key).Nodup from by decide +kernel) z_tne) : B l.prog w K mg aTh aG aC tE tM tN tF u1 u2 u3 u4 u5 u6 u7 u8)
  have F1 := fun_mk (st := s_is_number) l1 c1 k1
  have b1 := F1.binds (ps := ["thing"]) fun _ _ _ _ _ _ us hl => match us, hl with | [_], _ => rfl
  have F2 := fun_mk (st := s_is_whole) l2 c2 k2
  have b2 := F2.binds (ps := ["thing", "low", "high"]) fun _ _ _ _ _ _ us hl => match us, hl with | [_, _, _], _ => rfl
  have F3 := fun_mk (st := s_is_whole_from) l3 c3 k3
  have b3 := F3.binds (ps := ["thing", "low"]) fun _ _ _ _ _ _ us hl => match us, hl with | [_, _], _ => rfl
  have F4 := fun_mk (st := s_is_key) l4 c4 k4
  have b4 := F4.binds (ps := ["thing"]) fun _ _ _ _ _ _ us hl => match us, hl with | [_], _ => rfl
  have F5 := fun_mk (st := s_is_stretch) l5 c5 k5
  have b5 := F5.binds (ps := ["low", "high"]) fun _ _ _ _ _ _ us hl => match us, hl with | [_, _], _ => rfl
  have F6 := fun_mk (st := s_figures_of) l6 c6 k6
  have b6 := F6.binds (ps := ["number"]) fun _ _ _ _ _ _ us hl => match us, hl with | [_], _ => rfl
  have F7 := fun_mk (st := s_are_figures) l7 c7 k7
  have b7 := F7.binds (ps := ["text"]) fun _ _ _ _ _ _ us hl => match us, hl with | [_], _ => rfl
  have F8 := fun_mk (st := s_read_figures) l8 c8 k8
  have b8 := F8.binds (ps := ["text"]) fun _ _ _ _ _ _ us hl => match us, hl with | [_], _ => rfl
  have F9 := fun_mk (st := s_is_amount) l9 c9 k9
  have b9 := F9.binds (ps := ["thing"]) fun _ _ _ _ _ _ us hl => match us, hl with | [_], _ => rfl
  have F10 := fun_mk (st := s_check_things) l10 c10 k10
  have b10 := F10.binds (ps := ["fit", "more"]) fun _ _ _ _ _ _ us hl => match us, hl with | [_, _], _ => rfl
  have F11 := fun_mk (st := s_word_of) l11 c11 k11
  have b11 := F11.binds (ps := ["thing"]) fun _ _ _ _ _ _ us hl => match us, hl with | [_], _ => rfl
  have F12 := fun_mk (st := s_Deed_action) l12 c12 k12
  have b12 := F12.binds (ps := ["self"]) fun _ _ _ _ _ _ us hl => match us, hl with | [_], _ => rfl
  have F13 := fun_mk (st := s_Deed_span) l13 c13 k13
  have b13 := F13.binds (ps := ["self"]) fun _ _ _ _ _ _ us hl => match us, hl with | [_], _ => rfl
  have F15 := fun_mk (st := s_Put_told) l15 c15 k15
  have b15 := F15.binds (ps := ["self"]) fun _ _ _ _ _ _ us hl => match us, hl with | [_], _ => rfl
  have F16 := fun_mk (st := s_Put_action) l16 c16 k16
  have b16 := F16.binds (ps := ["self"]) fun _ _ _ _ _ _ us hl => match us, hl with | [_], _ => rfl
  have F17 := fun_mk (st := s_Put_span) l17 c17 k17
  have b17 := F17.binds (ps := ["self"]) fun _ _ _ _ _ _ us hl => match us, hl with | [_], _ => rfl
  have F19 := fun_mk (st := s_Drop_told) l19 c19 k19
  have b19 := F19.binds (ps := ["self"]) fun _ _ _ _ _ _ us hl => match us, hl with | [_], _ => rfl
  have F20 := fun_mk (st := s_Drop_action) l20 c20 k20
  have b20 := F20.binds (ps := ["self"]) fun _ _ _ _ _ _ us hl => match us, hl with | [_], _ => rfl
  have F21 := fun_mk (st := s_Drop_span) l21 c21 k21
  have b21 := F21.binds (ps := ["self"]) fun _ _ _ _ _ _ us hl => match us, hl with | [_], _ => rfl
  have F23 := fun_mk (st := s_Add_told) l23 c23 k23
  have b23 := F23.binds (ps := ["self"]) fun _ _ _ _ _ _ us hl => match us, hl with | [_], _ => rfl
  have F24 := fun_mk (st := s_Add_action) l24 c24 k24
  have b24 := F24.binds (ps := ["self"]) fun _ _ _ _ _ _ us hl => match us, hl with | [_], _ => rfl
  have F25 := fun_mk (st := s_Add_span) l25 c25 k25
  have b25 := F25.binds (ps := ["self"]) fun _ _ _ _ _ _ us hl => match us, hl with | [_], _ => rfl
  have F27 := fun_mk (st := s_Wipe_told) l27 c27 k27
  have b27 := F27.binds (ps := ["self"]) fun _ _ _ _ _ _ us hl => match us, hl with | [_], _ => rfl
  have F28 := fun_mk (st := s_Wipe_action) l28 c28 k28
  have b28 := F28.binds (ps := ["self"]) fun _ _ _ _ _ _ us hl => match us, hl with | [_], _ => rfl
  have F29 := fun_mk (st := s_Wipe_span) l29 c29 k29
  have b29 := F29.binds (ps := ["self"]) fun _ _ _ _ _ _ us hl => match us, hl with | [_], _ => rfl
  have F31 := fun_mk (st := s_Raise_told) l31 c31 k31
  have b31 := F31.binds (ps := ["self"]) fun _ _ _ _ _ _ us hl => match us, hl with | [_], _ => rfl
  have F32 := fun_mk (st := s_Raise_action) l32 c32 k32
  have b32 := F32.binds (ps := ["self"]) fun _ _ _ _ _ _ us hl => match us, hl with | [_], _ => rfl
  have F33 := fun_mk (st := s_Raise_span) l33 c33 k33
  have b33 := F33.binds (ps := ["self"]) fun _ _ _ _ _ _ us hl => match us, hl with | [_], _ => rfl
  have F35 := fun_mk (st := s_Level_told) l35 c35 k35
  have b35 := F35.binds (ps := ["self"]) fun _ _ _ _ _ _ us hl => match us, hl with | [_], _ => rfl
  have F36 := fun_mk (st := s_Level_action) l36 c36 k36
  have b36 := F36.binds (ps := ["self"]) fun _ _ _ _ _ _ us hl => match us, hl with | [_], _ => rfl
  have F37 := fun_mk (st := s_Level_span) l37 c37 k37
  have b37 := F37.binds (ps := ["self"]) fun _ _ _ _ _ _ us hl => match us, hl with | [_], _ => rfl
  have F39 := fun_mk (st := s_Mark_told) l39 c39 k39
  have b39 := F39.binds (ps := ["self"]) fun _ _ _ _ _ _ us hl => match us, hl with | [_], _ => rfl
  have F41 := fun_mk (st := s_Forget_told) l41 c41 k41
  have b41 := F41.binds (ps := ["self"]) fun _ _ _ _ _ _ us hl => match us, hl with | [_], _ => rfl
  have F42 := fun_mk (st := s_Deed_note) l42 c42 k42
  have b42 := F42.binds (ps := ["self", "number"]) fun _ _ _ _ _ _ us hl => match us, hl with | [_, _], _ => rfl
  have F43 := fun_mk (st := s_Deed___str__) l43 c43 k43
  have b43 := F43.binds (ps := ["self"]) fun _ _ _ _ _ _ us hl => match us, hl with | [_], _ => rfl
  have F44 := fun_mk (st := s_Deed___eq__) l44 c44 k44
  have b44 := F44.binds (ps := ["self", "other"]) fun _ _ _ _ _ _ us hl => match us, hl with | [_, _], _ => rfl
  have F45 := fun_mk (st := s_has_form) l45 c45 k45
  have b45 := F45.binds (ps := ["told"]) fun _ _ _ _ _ _ us hl => match us, hl with | [_], _ => rfl
  have F46 := fun_mk (st := s_deed_of) l46 c46 k46
  have b46 := F46.binds (ps := ["told"]) fun _ _ _ _ _ _ us hl => match us, hl with | [_], _ => rfl
  have F47 := fun_mk (st := s_read_words) l47 c47 k47
  have b47 := F47.binds (ps := ["text"]) fun _ _ _ _ _ _ us hl => match us, hl with | [_], _ => rfl
  have F48 := fun_mk (st := s__law_well) l48 c48 k48
  have b48 := F48.binds (ps := ["_law_cell"]) fun _ _ _ _ _ _ us hl => match us, hl with | [_], _ => rfl
  have F49 := fun_mk (st := s__law_draw) l49 c49 k49
  have b49 := F49.binds (ps := ["_law_well_here", "_law_many"]) fun _ _ _ _ _ _ us hl => match us, hl with | [_, _], _ => rfl
  have F50 := fun_mk (st := s__law_key) l50 c50 k50
  have b50 := F50.binds (ps := ["_law_well_here"]) fun _ _ _ _ _ _ us hl => match us, hl with | [_], _ => rfl
  have F51 := fun_mk (st := s__law_amount) l51 c51 k51
  have b51 := F51.binds (ps := ["_law_well_here"]) fun _ _ _ _ _ _ us hl => match us, hl with | [_], _ => rfl
  have F52 := fun_mk (st := s__law_stretch) l52 c52 k52
  have b52 := F52.binds (ps := ["_law_well_here"]) fun _ _ _ _ _ _ us hl => match us, hl with | [_], _ => rfl
  have F53 := fun_mk (st := s__law_deed) l53 c53 k53
  have b53 := F53.binds (ps := ["_law_well_here"]) fun _ _ _ _ _ _ us hl => match us, hl with | [_], _ => rfl
  have F54 := fun_mk (st := s__law_by_place) l54 c54 k54
  have b54 := F54.binds (ps := ["_law_told"]) fun _ _ _ _ _ _ us hl => match us, hl with | [_], _ => rfl
  have F55 := fun_mk (st := s__law_action) l55 c55 k55
  have b55 := F55.binds (ps := ["_law_told"]) fun _ _ _ _ _ _ us hl => match us, hl with | [_], _ => rfl
  have F56 := fun_mk (st := s__law_note) l56 c56 k56
  have b56 := F56.binds (ps := ["_law_told", "_law_number"]) fun _ _ _ _ _ _ us hl => match us, hl with | [_, _], _ => rfl
  have F57 := fun_mk (st := s__law_kinds) l57 c57 k57
  have b57 := F57.binds (ps := ["_law_deed_here"]) fun _ _ _ _ _ _ us hl => match us, hl with | [_], _ => rfl
  have F58 := fun_mk (st := s__law_right) l58 c58 k58
  have b58 := F58.binds (ps := ["_law_deed_here", "_law_told", "_law_number"]) fun _ _ _ _ _ _ us hl => match us, hl with | [_, _, _], _ => rfl
  have F59 := fun_mk (st := s_law) l59 c59 k59
  refine ⟨PySem.W.fnOf "law" "law" (defArgs s_law) (defBody s_law) (defScope s_law) .none kV59 dc59 pm59 an59 cd59 ct59, fun s v => .of_eq rfl, fun base _ _ => ?_⟩
  have c_Deed : Cls K cDeed := ⟨qa_Deed, qb_Deed, qc_Deed, qd_Deed⟩
  have c_Put : Cls K cPut := ⟨qa_Put, qb_Put, qc_Put, qd_Put⟩
  have c_Drop : Cls K cDrop := ⟨qa_Drop, qb_Drop, qc_Drop, qd_Drop⟩
  have c_Add : Cls K cAdd := ⟨qa_Add, qb_Add, qc_Add, qd_Add⟩
  have c_Wipe : Cls K cWipe := ⟨qa_Wipe, qb_Wipe, qc_Wipe, qd_Wipe⟩
  have c_Raise : Cls K cRaise := ⟨qa_Raise, qb_Raise, qc_Raise, qd_Raise⟩
  have c_Level : Cls K cLevel := ⟨qa_Level, qb_Level, qc_Level, qd_Level⟩
  have c_Mark : Cls K cMark := ⟨qa_Mark, qb_Mark, qc_Mark, qd_Mark⟩
  have c_Forget : Cls K cForget := ⟨qa_Forget, qb_Forget, qc_Forget, qd_Forget⟩
  have C_is_number : Callee l.prog w K mg base "is_number" 1 ["thing"] spNumI := ⟨f1, _, ok_is_number F1 B    , b1, k1, PySem.W.mg_of X G a1⟩
  have C_is_whole : Callee l.prog w K mg base "is_whole" 2 ["thing", "low", "high"] spWholeI := ⟨f2, _, ok_is_whole F2 B (C_is_number := C_is_number)   , b2, k2, PySem.W.mg_of X G a2⟩
  have C_is_whole_from : Callee l.prog w K mg base "is_whole_from" 2 ["thing", "low"] spFromI := ⟨f3, _, ok_is_whole_from F3 B (C_is_number := C_is_number)   , b3, k3, PySem.W.mg_of X G a3⟩
  have C_is_key : Callee l.prog w K mg base "is_key" 3 ["thing"] spKeyI := ⟨f4, _, ok_is_key F4 B (C_is_whole := C_is_whole)   , b4, k4, PySem.W.mg_of X G a4⟩
  have C_is_stretch : Callee l.prog w K mg base "is_stretch" 3 ["low", "high"] spStI := ⟨f5, _, ok_is_stretch F5 B (C_is_whole := C_is_whole)   , b5, k5, PySem.W.mg_of X G a5⟩
  have C_figures_of : Callee l.prog w K mg base "figures_of" 1 ["number"] spFig := ⟨f6, _, ok_figures_of F6 B    , b6, k6, PySem.W.mg_of X G a6⟩
  have C_are_figures : Callee l.prog w K mg base "are_figures" 1 ["text"] spAre := ⟨f7, _, ok_are_figures F7 B    , b7, k7, PySem.W.mg_of X G a7⟩
  have C_read_figures : Callee l.prog w K mg base "read_figures" 2 ["text"] spRF := ⟨f8, _, ok_read_figures F8 B (C_are_figures := C_are_figures)   , b8, k8, PySem.W.mg_of X G a8⟩
  have C_is_amount : Callee l.prog w K mg base "is_amount" 3 ["thing"] spAmI := ⟨f9, _, ok_is_amount F9 B (C_is_whole := C_is_whole)   , b9, k9, PySem.W.mg_of X G a9⟩
  have C_check_things : Callee l.prog w K mg base "check_things" 1 ["fit", "more"] spChk := ⟨f10, _, ok_check_things F10 B    , b10, k10, PySem.W.mg_of X G a10⟩
  have C_word_of : Callee l.prog w K mg base "word_of" 2 ["thing"] spWordOf := ⟨f11, _, ok_word_of F11 B (C_figures_of := C_figures_of)   , b11, k11, PySem.W.mg_of X G a11⟩
  have MC_Deed_action : MethC l.prog w K mg base cDeed "action" 1 ["self"] [] spNon := ⟨f12, _, [], ⟨i12, n12, k12⟩, ok_Deed_action F12 B     , b12, .nil⟩
  have MC_Deed_span : MethC l.prog w K mg base cDeed "span" 1 ["self"] [] spNon := ⟨f13, _, [], ⟨i13, n13, k13⟩, ok_Deed_span F13 B     , b13, .nil⟩
  have M_Put : Maker l.prog w K mg base "Put" 4 ["self", "key", "value", "more"] [.str "no more"] cPut (spInit .put cPut) := ⟨f14, _, [.str "no more" t14], ⟨k14, i14, n14, p14⟩, ok_Put___init__ (fund_mk (st := s_Put___init__) l14 c14) B ⟨q14a, q14b, q14c, q14d⟩ na14key na14value (C_check_things := C_check_things) (C_is_key := C_is_key) (C_is_amount := C_is_amount) , fun s us hK hl => match us, (show us.length = 3 by simpa using hl) with | [_, _, _], _ => PySem.W.kp_binds hK fun S => bd14 S _ _ _, .cons ⟨t14, rfl⟩ .nil, PySem.W.mg_of X G z_Put⟩
  have MC_Put_told : MethC l.prog w K mg base cPut "told" 1 ["self"] [] (spTold K .put cPut) := ⟨f15, _, [], ⟨i15, n15, k15⟩, ok_Put_told F15 B  (c_Put := c_Put) (n_key := na_Put_key) (n_value := na_Put_value)  , b15, .nil⟩
  have MC_Put_action : MethC l.prog w K mg base cPut "action" 1 ["self"] [] (spAct K .put cPut) := ⟨f16, _, [], ⟨i16, n16, k16⟩, ok_Put_action F16 B  (c_Put := c_Put) (n_key := na_Put_key) (n_value := na_Put_value)  , b16, .nil⟩
  have MC_Put_span : MethC l.prog w K mg base cPut "span" 1 ["self"] [] (spSpan K .put cPut) := ⟨f17, _, [], ⟨i17, n17, k17⟩, ok_Put_span F17 B  (c_Put := c_Put) (n_key := na_Put_key) (n_value := na_Put_value)  , b17, .nil⟩
  have M_Drop : Maker l.prog w K mg base "Drop" 4 ["self", "key", "more"] [.str "no more"] cDrop (spInit .drop cDrop) := ⟨f18, _, [.str "no more" t18], ⟨k18, i18, n18, p18⟩, ok_Drop___init__ (fund_mk (st := s_Drop___init__) l18 c18) B ⟨q18a, q18b, q18c, q18d⟩ na18key (C_check_things := C_check_things) (C_is_key := C_is_key) , fun s us hK hl => match us, (show us.length = 2 by simpa using hl) with | [_, _], _ => PySem.W.kp_binds hK fun S => bd18 S _ _, .cons ⟨t18, rfl⟩ .nil, PySem.W.mg_of X G z_Drop⟩
  have MC_Drop_told : MethC l.prog w K mg base cDrop "told" 1 ["self"] [] (spTold K .drop cDrop) := ⟨f19, _, [], ⟨i19, n19, k19⟩, ok_Drop_told F19 B  (c_Drop := c_Drop) (n_key := na_Drop_key)  , b19, .nil⟩
  have MC_Drop_action : MethC l.prog w K mg base cDrop "action" 1 ["self"] [] (spAct K .drop cDrop) := ⟨f20, _, [], ⟨i20, n20, k20⟩, ok_Drop_action F20 B  (c_Drop := c_Drop) (n_key := na_Drop_key)  , b20, .nil⟩
  have MC_Drop_span : MethC l.prog w K mg base cDrop "span" 1 ["self"] [] (spSpan K .drop cDrop) := ⟨f21, _, [], ⟨i21, n21, k21⟩, ok_Drop_span F21 B  (c_Drop := c_Drop) (n_key := na_Drop_key)  , b21, .nil⟩
  have M_Add : Maker l.prog w K mg base "Add" 4 ["self", "key", "by", "more"] [.str "no more"] cAdd (spInit .add cAdd) := ⟨f22, _, [.str "no more" t22], ⟨k22, i22, n22, p22⟩, ok_Add___init__ (fund_mk (st := s_Add___init__) l22 c22) B ⟨q22a, q22b, q22c, q22d⟩ na22key na22by (C_check_things := C_check_things) (C_is_key := C_is_key) (C_is_amount := C_is_amount) , fun s us hK hl => match us, (show us.length = 3 by simpa using hl) with | [_, _, _], _ => PySem.W.kp_binds hK fun S => bd22 S _ _ _, .cons ⟨t22, rfl⟩ .nil, PySem.W.mg_of X G z_Add⟩
  have MC_Add_told : MethC l.prog w K mg base cAdd "told" 1 ["self"] [] (spTold K .add cAdd) := ⟨f23, _, [], ⟨i23, n23, k23⟩, ok_Add_told F23 B  (c_Add := c_Add) (n_key := na_Add_key) (n_by := na_Add_by)  , b23, .nil⟩
  have MC_Add_action : MethC l.prog w K mg base cAdd "action" 1 ["self"] [] (spAct K .add cAdd) := ⟨f24, _, [], ⟨i24, n24, k24⟩, ok_Add_action F24 B  (c_Add := c_Add) (n_key := na_Add_key) (n_by := na_Add_by)  , b24, .nil⟩
  have MC_Add_span : MethC l.prog w K mg base cAdd "span" 1 ["self"] [] (spSpan K .add cAdd) := ⟨f25, _, [], ⟨i25, n25, k25⟩, ok_Add_span F25 B  (c_Add := c_Add) (n_key := na_Add_key) (n_by := na_Add_by)  , b25, .nil⟩
  have M_Wipe : Maker l.prog w K mg base "Wipe" 4 ["self", "low", "high", "more"] [.str "no more"] cWipe (spInit .wipe cWipe) := ⟨f26, _, [.str "no more" t26], ⟨k26, i26, n26, p26⟩, ok_Wipe___init__ (fund_mk (st := s_Wipe___init__) l26 c26) B ⟨q26a, q26b, q26c, q26d⟩ na26low na26high (C_check_things := C_check_things) (C_is_stretch := C_is_stretch) , fun s us hK hl => match us, (show us.length = 3 by simpa using hl) with | [_, _, _], _ => PySem.W.kp_binds hK fun S => bd26 S _ _ _, .cons ⟨t26, rfl⟩ .nil, PySem.W.mg_of X G z_Wipe⟩
  have MC_Wipe_told : MethC l.prog w K mg base cWipe "told" 1 ["self"] [] (spTold K .wipe cWipe) := ⟨f27, _, [], ⟨i27, n27, k27⟩, ok_Wipe_told F27 B  (c_Wipe := c_Wipe) (n_low := na_Wipe_low) (n_high := na_Wipe_high)  , b27, .nil⟩
  have MC_Wipe_action : MethC l.prog w K mg base cWipe "action" 1 ["self"] [] (spAct K .wipe cWipe) := ⟨f28, _, [], ⟨i28, n28, k28⟩, ok_Wipe_action F28 B  (c_Wipe := c_Wipe) (n_low := na_Wipe_low) (n_high := na_Wipe_high)  , b28, .nil⟩
  have MC_Wipe_span : MethC l.prog w K mg base cWipe "span" 1 ["self"] [] (spSpan K .wipe cWipe) := ⟨f29, _, [], ⟨i29, n29, k29⟩, ok_Wipe_span F29 B  (c_Wipe := c_Wipe) (n_low := na_Wipe_low) (n_high := na_Wipe_high)  , b29, .nil⟩
  have M_Raise : Maker l.prog w K mg base "Raise" 4 ["self", "low", "high", "by", "more"] [.str "no more"] cRaise (spInit .raise cRaise) := ⟨f30, _, [.str "no more" t30], ⟨k30, i30, n30, p30⟩, ok_Raise___init__ (fund_mk (st := s_Raise___init__) l30 c30) B ⟨q30a, q30b, q30c, q30d⟩ na30low na30high na30by (C_check_things := C_check_things) (C_is_stretch := C_is_stretch) (C_is_amount := C_is_amount) , fun s us hK hl => match us, (show us.length = 4 by simpa using hl) with | [_, _, _, _], _ => PySem.W.kp_binds hK fun S => bd30 S _ _ _ _, .cons ⟨t30, rfl⟩ .nil, PySem.W.mg_of X G z_Raise⟩
  have MC_Raise_told : MethC l.prog w K mg base cRaise "told" 1 ["self"] [] (spTold K .raise cRaise) := ⟨f31, _, [], ⟨i31, n31, k31⟩, ok_Raise_told F31 B  (c_Raise := c_Raise) (n_low := na_Raise_low) (n_high := na_Raise_high) (n_by := na_Raise_by)  , b31, .nil⟩
  have MC_Raise_action : MethC l.prog w K mg base cRaise "action" 1 ["self"] [] (spAct K .raise cRaise) := ⟨f32, _, [], ⟨i32, n32, k32⟩, ok_Raise_action F32 B  (c_Raise := c_Raise) (n_low := na_Raise_low) (n_high := na_Raise_high) (n_by := na_Raise_by)  , b32, .nil⟩
  have MC_Raise_span : MethC l.prog w K mg base cRaise "span" 1 ["self"] [] (spSpan K .raise cRaise) := ⟨f33, _, [], ⟨i33, n33, k33⟩, ok_Raise_span F33 B  (c_Raise := c_Raise) (n_low := na_Raise_low) (n_high := na_Raise_high) (n_by := na_Raise_by)  , b33, .nil⟩
  have M_Level : Maker l.prog w K mg base "Level" 4 ["self", "low", "high", "value", "more"] [.str "no more"] cLevel (spInit .level cLevel) := ⟨f34, _, [.str "no more" t34], ⟨k34, i34, n34, p34⟩, ok_Level___init__ (fund_mk (st := s_Level___init__) l34 c34) B ⟨q34a, q34b, q34c, q34d⟩ na34low na34high na34value (C_check_things := C_check_things) (C_is_stretch := C_is_stretch) (C_is_amount := C_is_amount) , fun s us hK hl => match us, (show us.length = 4 by simpa using hl) with | [_, _, _, _], _ => PySem.W.kp_binds hK fun S => bd34 S _ _ _ _, .cons ⟨t34, rfl⟩ .nil, PySem.W.mg_of X G z_Level⟩
  have MC_Level_told : MethC l.prog w K mg base cLevel "told" 1 ["self"] [] (spTold K .level cLevel) := ⟨f35, _, [], ⟨i35, n35, k35⟩, ok_Level_told F35 B  (c_Level := c_Level) (n_low := na_Level_low) (n_high := na_Level_high) (n_value := na_Level_value)  , b35, .nil⟩
  have MC_Level_action : MethC l.prog w K mg base cLevel "action" 1 ["self"] [] (spAct K .level cLevel) := ⟨f36, _, [], ⟨i36, n36, k36⟩, ok_Level_action F36 B  (c_Level := c_Level) (n_low := na_Level_low) (n_high := na_Level_high) (n_value := na_Level_value)  , b36, .nil⟩
  have MC_Level_span : MethC l.prog w K mg base cLevel "span" 1 ["self"] [] (spSpan K .level cLevel) := ⟨f37, _, [], ⟨i37, n37, k37⟩, ok_Level_span F37 B  (c_Level := c_Level) (n_low := na_Level_low) (n_high := na_Level_high) (n_value := na_Level_value)  , b37, .nil⟩
  have M_Mark : Maker l.prog w K mg base "Mark" 2 ["self", "more"] [.str "no more"] cMark (spInit .mark cMark) := ⟨f38, _, [.str "no more" t38], ⟨k38, i38, n38, p38⟩, ok_Mark___init__ (fund_mk (st := s_Mark___init__) l38 c38) B ⟨q38a, q38b, q38c, q38d⟩  (C_check_things := C_check_things) , fun s us hK hl => match us, (show us.length = 1 by simpa using hl) with | [_], _ => PySem.W.kp_binds hK fun S => bd38 S _, .cons ⟨t38, rfl⟩ .nil, PySem.W.mg_of X G z_Mark⟩
  have MC_Mark_told : MethC l.prog w K mg base cMark "told" 1 ["self"] [] (spTold K .mark cMark) := ⟨f39, _, [], ⟨i39, n39, k39⟩, ok_Mark_told F39 B  (c_Mark := c_Mark)   , b39, .nil⟩
  have M_Forget : Maker l.prog w K mg base "Forget" 3 ["self", "mark", "more"] [.str "no more"] cForget (spInit .forget cForget) := ⟨f40, _, [.str "no more" t40], ⟨k40, i40, n40, p40⟩, ok_Forget___init__ (fund_mk (st := s_Forget___init__) l40 c40) B ⟨q40a, q40b, q40c, q40d⟩ na40mark (C_check_things := C_check_things) (C_is_whole_from := C_is_whole_from) , fun s us hK hl => match us, (show us.length = 2 by simpa using hl) with | [_, _], _ => PySem.W.kp_binds hK fun S => bd40 S _ _, .cons ⟨t40, rfl⟩ .nil, PySem.W.mg_of X G z_Forget⟩
  have MC_Forget_told : MethC l.prog w K mg base cForget "told" 1 ["self"] [] (spTold K .forget cForget) := ⟨f41, _, [], ⟨i41, n41, k41⟩, ok_Forget_told F41 B  (c_Forget := c_Forget) (n_mark := na_Forget_mark)  , b41, .nil⟩
  have dc : ∀ k : Kd, DC K (Cs.at (Cs.mk cPut cDrop cAdd cWipe cRaise cLevel cMark cForget) k) cDeed := fun k => match k with | .put => ⟨c_Put, z_caPut, z_gt, z_tk, z_moPut, z_kDPut⟩ | .drop => ⟨c_Drop, z_caDrop, z_gt, z_tk, z_moDrop, z_kDDrop⟩ | .add => ⟨c_Add, z_caAdd, z_gt, z_tk, z_moAdd, z_kDAdd⟩ | .wipe => ⟨c_Wipe, z_caWipe, z_gt, z_tk, z_moWipe, z_kDWipe⟩ | .raise => ⟨c_Raise, z_caRaise, z_gt, z_tk, z_moRaise, z_kDRaise⟩ | .level => ⟨c_Level, z_caLevel, z_gt, z_tk, z_moLevel, z_kDLevel⟩ | .mark => ⟨c_Mark, z_caMark, z_gt, z_tk, z_moMark, z_kDMark⟩ | .forget => ⟨c_Forget, z_caForget, z_gt, z_tk, z_moForget, z_kDForget⟩
  have MT : ∀ k : Kd, MethC l.prog w K mg base (Cs.at (Cs.mk cPut cDrop cAdd cWipe cRaise cLevel cMark cForget) k) "told" 1 ["self"] [] (spTold K k (Cs.at (Cs.mk cPut cDrop cAdd cWipe cRaise cLevel cMark cForget) k)) := fun k => match k with | .put => MC_Put_told | .drop => MC_Drop_told | .add => MC_Add_told | .wipe => MC_Wipe_told | .raise => MC_Raise_told | .level => MC_Level_told | .mark => MC_Mark_told | .forget => MC_Forget_told
  have MA : ∀ k : Kd, MethC l.prog w K mg base (Cs.at (Cs.mk cPut cDrop cAdd cWipe cRaise cLevel cMark cForget) k) "action" 1 ["self"] [] (spAct K k (Cs.at (Cs.mk cPut cDrop cAdd cWipe cRaise cLevel cMark cForget) k)) := fun k => match k with | .put => MC_Put_action | .drop => MC_Drop_action | .add => MC_Add_action | .wipe => MC_Wipe_action | .raise => MC_Raise_action | .level => MC_Level_action | .mark => ⟨f12, _, [], ⟨z_mtMarkaction, n12, k12⟩, (ok_Deed_action F12 B).imp (fun vs H Q E ⟨a, us, e, _, _, h⟩ => ⟨a, e, h _ _ Ext.refl (by cases us <;> (simp only [Kd.act]; unfold Is; rfl))⟩), b12, .nil⟩ | .forget => ⟨f12, _, [], ⟨z_mtForgetaction, n12, k12⟩, (ok_Deed_action F12 B).imp (fun vs H Q E ⟨a, us, e, _, _, h⟩ => ⟨a, e, h _ _ Ext.refl (by cases us <;> (simp only [Kd.act]; unfold Is; rfl))⟩), b12, .nil⟩
  have MS : ∀ k : Kd, MethC l.prog w K mg base (Cs.at (Cs.mk cPut cDrop cAdd cWipe cRaise cLevel cMark cForget) k) "span" 1 ["self"] [] (spSpan K k (Cs.at (Cs.mk cPut cDrop cAdd cWipe cRaise cLevel cMark cForget) k)) := fun k => match k with | .put => MC_Put_span | .drop => MC_Drop_span | .add => MC_Add_span | .wipe => MC_Wipe_span | .raise => MC_Raise_span | .level => MC_Level_span | .mark => ⟨f13, _, [], ⟨z_mtMarkspan, n13, k13⟩, (ok_Deed_span F13 B).imp (fun vs H Q E ⟨a, us, e, _, _, h⟩ => ⟨a, e, by cases us <;> exact h⟩), b13, .nil⟩ | .forget => ⟨f13, _, [], ⟨z_mtForgetspan, n13, k13⟩, (ok_Deed_span F13 B).imp (fun vs H Q E ⟨a, us, e, _, _, h⟩ => ⟨a, e, by cases us <;> exact h⟩), b13, .nil⟩
  have MC_Deed_note : MethC l.prog w K mg base cDeed "note" 2 ["self", "number"] [] (spNote K (Cs.mk cPut cDrop cAdd cWipe cRaise cLevel cMark cForget)) := ⟨f42, _, [], ⟨i42, n42, k42⟩, ok_Deed_note F42 B    (MS := MS) (MA := MA) (dc := dc) , b42, .nil⟩
  have MC_Deed___str__ : MethC l.prog w K mg base cDeed "__str__" 3 ["self"] [] (spStr K (Cs.mk cPut cDrop cAdd cWipe cRaise cLevel cMark cForget)) := ⟨f43, _, [], ⟨i43, n43, k43⟩, ok_Deed___str__ F43 B (C_word_of := C_word_of)   (MT := MT) (dc := dc) , b43, .nil⟩
  have MC_Deed___eq__ : MethC l.prog w K mg base cDeed "__eq__" 2 ["self", "other"] [] (spEq K (Cs.mk cPut cDrop cAdd cWipe cRaise cLevel cMark cForget) cDeed) := ⟨f44, _, [], ⟨i44, n44, k44⟩, ok_Deed___eq__ F44 B    (MT := MT) (dc := dc) (Dd := PySem.W.mg_of X G z_Deed) , b44, .nil⟩
  have oN := ok_Deed_note F42 B (MS := MS) (MA := MA) (dc := dc)
  have oR := ok_Deed___str__ F43 B (MT := MT) (dc := dc) (C_word_of := C_word_of)
  have oE := ok_Deed___eq__ F44 B (MT := MT) (dc := dc) (Dd := PySem.W.mg_of X G z_Deed)
  have MN : ∀ k : Kd, MethC l.prog w K mg base (Cs.at (Cs.mk cPut cDrop cAdd cWipe cRaise cLevel cMark cForget) k) "note" 2 ["self", "number"] [] (spNote K (Cs.mk cPut cDrop cAdd cWipe cRaise cLevel cMark cForget)) := fun k => match k with | .put => ⟨f42, _, [], ⟨z_mtPutnote, n42, k42⟩, oN, b42, .nil⟩ | .drop => ⟨f42, _, [], ⟨z_mtDropnote, n42, k42⟩, oN, b42, .nil⟩ | .add => ⟨f42, _, [], ⟨z_mtAddnote, n42, k42⟩, oN, b42, .nil⟩ | .wipe => ⟨f42, _, [], ⟨z_mtWipenote, n42, k42⟩, oN, b42, .nil⟩ | .raise => ⟨f42, _, [], ⟨z_mtRaisenote, n42, k42⟩, oN, b42, .nil⟩ | .level => ⟨f42, _, [], ⟨z_mtLevelnote, n42, k42⟩, oN, b42, .nil⟩ | .mark => ⟨f42, _, [], ⟨z_mtMarknote, n42, k42⟩, oN, b42, .nil⟩ | .forget => ⟨f42, _, [], ⟨z_mtForgetnote, n42, k42⟩, oN, b42, .nil⟩
  have MR : ∀ k : Kd, MethC l.prog w K mg base (Cs.at (Cs.mk cPut cDrop cAdd cWipe cRaise cLevel cMark cForget) k) "__str__" 3 ["self"] [] (spStr K (Cs.mk cPut cDrop cAdd cWipe cRaise cLevel cMark cForget)) := fun k => match k with | .put => ⟨f43, _, [], ⟨z_mtPutstr, n43, k43⟩, oR, b43, .nil⟩ | .drop => ⟨f43, _, [], ⟨z_mtDropstr, n43, k43⟩, oR, b43, .nil⟩ | .add => ⟨f43, _, [], ⟨z_mtAddstr, n43, k43⟩, oR, b43, .nil⟩ | .wipe => ⟨f43, _, [], ⟨z_mtWipestr, n43, k43⟩, oR, b43, .nil⟩ | .raise => ⟨f43, _, [], ⟨z_mtRaisestr, n43, k43⟩, oR, b43, .nil⟩ | .level => ⟨f43, _, [], ⟨z_mtLevelstr, n43, k43⟩, oR, b43, .nil⟩ | .mark => ⟨f43, _, [], ⟨z_mtMarkstr, n43, k43⟩, oR, b43, .nil⟩ | .forget => ⟨f43, _, [], ⟨z_mtForgetstr, n43, k43⟩, oR, b43, .nil⟩
  have ME : ∀ k : Kd, MethC l.prog w K mg base (Cs.at (Cs.mk cPut cDrop cAdd cWipe cRaise cLevel cMark cForget) k) "__eq__" 2 ["self", "other"] [] (spEq K (Cs.mk cPut cDrop cAdd cWipe cRaise cLevel cMark cForget) cDeed) := fun k => match k with | .put => ⟨f44, _, [], ⟨z_mtPuteq, n44, k44⟩, oE, b44, .nil⟩ | .drop => ⟨f44, _, [], ⟨z_mtDropeq, n44, k44⟩, oE, b44, .nil⟩ | .add => ⟨f44, _, [], ⟨z_mtAddeq, n44, k44⟩, oE, b44, .nil⟩ | .wipe => ⟨f44, _, [], ⟨z_mtWipeeq, n44, k44⟩, oE, b44, .nil⟩ | .raise => ⟨f44, _, [], ⟨z_mtRaiseeq, n44, k44⟩, oE, b44, .nil⟩ | .level => ⟨f44, _, [], ⟨z_mtLeveleq, n44, k44⟩, oE, b44, .nil⟩ | .mark => ⟨f44, _, [], ⟨z_mtMarkeq, n44, k44⟩, oE, b44, .nil⟩ | .forget => ⟨f44, _, [], ⟨z_mtForgeteq, n44, k44⟩, oE, b44, .nil⟩
  have C_has_form : Callee l.prog w K mg base "has_form" 1 ["told"] (spForm K) := ⟨f45, _, ok_has_form F45 B    , b45, k45, PySem.W.mg_of X G a45⟩
  have C_deed_of : Callee l.prog w K mg base "deed_of" 6 ["told"] (spDeed K (Cs.mk cPut cDrop cAdd cWipe cRaise cLevel cMark cForget)) := ⟨f46, _, ok_deed_of F46 B (C_has_form := C_has_form) (M_Forget := M_Forget) (M_Put := M_Put) (M_Drop := M_Drop) (M_Add := M_Add) (M_Wipe := M_Wipe) (M_Raise := M_Raise) (M_Level := M_Level) (M_Mark := M_Mark)   , b46, k46, PySem.W.mg_of X G a46⟩
  have C_read_words : Callee l.prog w K mg base "read_words" 7 ["text"] (spRW K (Cs.mk cPut cDrop cAdd cWipe cRaise cLevel cMark cForget)) := ⟨f47, _, ok_read_words F47 B (C_deed_of := C_deed_of) (C_read_figures := C_read_figures)   , b47, k47, PySem.W.mg_of X G a47⟩
  have C__law_well : Callee l.prog w K mg base "_law_well" 1 ["_law_cell"] (spWell K) := ⟨f48, _, ok__law_well F48 B    , b48, k48, PySem.W.mg_of X G a48⟩
  have C__law_draw : Callee l.prog w K mg base "_law_draw" 1 ["_law_well_here", "_law_many"] (spDraw K) := ⟨f49, _, ok__law_draw F49 B    , b49, k49, PySem.W.mg_of X G a49⟩
  have C__law_key : Callee l.prog w K mg base "_law_key" 2 ["_law_well_here"] (spInt K okKey) := ⟨f50, _, ok__law_key F50 B (C__law_draw := C__law_draw)   , b50, k50, PySem.W.mg_of X G a50⟩
  have C__law_amount : Callee l.prog w K mg base "_law_amount" 2 ["_law_well_here"] (spInt K okAm) := ⟨f51, _, ok__law_amount F51 B (C__law_draw := C__law_draw)   , b51, k51, PySem.W.mg_of X G a51⟩
  have C__law_stretch : Callee l.prog w K mg base "_law_stretch" 3 ["_law_well_here"] (spPair K) := ⟨f52, _, ok__law_stretch F52 B (C__law_draw := C__law_draw) (C__law_key := C__law_key)   , b52, k52, PySem.W.mg_of X G a52⟩
  have C__law_deed : Callee l.prog w K mg base "_law_deed" 4 ["_law_well_here"] (spDeedL K) := ⟨f53, _, ok__law_deed F53 B (C__law_draw := C__law_draw) (C__law_stretch := C__law_stretch) (C__law_key := C__law_key) (C__law_amount := C__law_amount)   , b53, k53, PySem.W.mg_of X G a53⟩
  have C__law_by_place : Callee l.prog w K mg base "_law_by_place" 6 ["_law_told"] (spDeed K (Cs.mk cPut cDrop cAdd cWipe cRaise cLevel cMark cForget)) := ⟨f54, _, ok__law_by_place F54 B (M_Forget := M_Forget) (M_Put := M_Put) (M_Drop := M_Drop) (M_Add := M_Add) (M_Wipe := M_Wipe) (M_Raise := M_Raise) (M_Level := M_Level) (M_Mark := M_Mark)   , b54, k54, PySem.W.mg_of X G a54⟩
  have C__law_action : Callee l.prog w K mg base "_law_action" 1 ["_law_told"] (spActL K) := ⟨f55, _, ok__law_action F55 B    , b55, k55, PySem.W.mg_of X G a55⟩
  have C__law_note : Callee l.prog w K mg base "_law_note" 2 ["_law_told", "_law_number"] (spNoteL K) := ⟨f56, _, ok__law_note F56 B (C__law_action := C__law_action)   , b56, k56, PySem.W.mg_of X G a56⟩
  have kk : ∀ k j : Kd, PySem.W.kitOne K (.ref (Cs.at (Cs.mk cPut cDrop cAdd cWipe cRaise cLevel cMark cForget) k)) (.ref (Cs.at (Cs.mk cPut cDrop cAdd cWipe cRaise cLevel cMark cForget) j)) = some (decide (k = j)) := fun k j => match k, j with | .put, .put => z_kkPutPut | .put, .drop => z_kkPutDrop | .put, .add => z_kkPutAdd | .put, .wipe => z_kkPutWipe | .put, .raise => z_kkPutRaise | .put, .level => z_kkPutLevel | .put, .mark => z_kkPutMark | .put, .forget => z_kkPutForget | .drop, .put => z_kkDropPut | .drop, .drop => z_kkDropDrop | .drop, .add => z_kkDropAdd | .drop, .wipe => z_kkDropWipe | .drop, .raise => z_kkDropRaise | .drop, .level => z_kkDropLevel | .drop, .mark => z_kkDropMark | .drop, .forget => z_kkDropForget | .add, .put => z_kkAddPut | .add, .drop => z_kkAddDrop | .add, .add => z_kkAddAdd | .add, .wipe => z_kkAddWipe | .add, .raise => z_kkAddRaise | .add, .level => z_kkAddLevel | .add, .mark => z_kkAddMark | .add, .forget => z_kkAddForget | .wipe, .put => z_kkWipePut | .wipe, .drop => z_kkWipeDrop | .wipe, .add => z_kkWipeAdd | .wipe, .wipe => z_kkWipeWipe | .wipe, .raise => z_kkWipeRaise | .wipe, .level => z_kkWipeLevel | .wipe, .mark => z_kkWipeMark | .wipe, .forget => z_kkWipeForget | .raise, .put => z_kkRaisePut | .raise, .drop => z_kkRaiseDrop | .raise, .add => z_kkRaiseAdd | .raise, .wipe => z_kkRaiseWipe | .raise, .raise => z_kkRaiseRaise | .raise, .level => z_kkRaiseLevel | .raise, .mark => z_kkRaiseMark | .raise, .forget => z_kkRaiseForget | .level, .put => z_kkLevelPut | .level, .drop => z_kkLevelDrop | .level, .add => z_kkLevelAdd | .level, .wipe => z_kkLevelWipe | .level, .raise => z_kkLevelRaise | .level, .level => z_kkLevelLevel | .level, .mark => z_kkLevelMark | .level, .forget => z_kkLevelForget | .mark, .put => z_kkMarkPut | .mark, .drop => z_kkMarkDrop | .mark, .add => z_kkMarkAdd | .mark, .wipe => z_kkMarkWipe | .mark, .raise => z_kkMarkRaise | .mark, .level => z_kkMarkLevel | .mark, .mark => z_kkMarkMark | .mark, .forget => z_kkMarkForget | .forget, .put => z_kkForgetPut | .forget, .drop => z_kkForgetDrop | .forget, .add => z_kkForgetAdd | .forget, .wipe => z_kkForgetWipe | .forget, .raise => z_kkForgetRaise | .forget, .level => z_kkForgetLevel | .forget, .mark => z_kkForgetMark | .forget, .forget => z_kkForgetForget
  have C__law_kinds : Callee l.prog w K mg base "_law_kinds" 1 ["_law_deed_here"] (spKinds K (Cs.mk cPut cDrop cAdd cWipe cRaise cLevel cMark cForget)) := ⟨f57, _, ok__law_kinds F57 B    (dc := dc) (kk := kk) (G_Put := PySem.W.mg_of X G z_Put) (G_Drop := PySem.W.mg_of X G z_Drop) (G_Add := PySem.W.mg_of X G z_Add) (G_Wipe := PySem.W.mg_of X G z_Wipe) (G_Raise := PySem.W.mg_of X G z_Raise) (G_Level := PySem.W.mg_of X G z_Level) (G_Mark := PySem.W.mg_of X G z_Mark) (G_Forget := PySem.W.mg_of X G z_Forget), b57, k57, PySem.W.mg_of X G a57⟩
  have C__law_right : Callee l.prog w K mg base "_law_right" 6 ["_law_deed_here", "_law_told", "_law_number"] (spRight K (Cs.mk cPut cDrop cAdd cWipe cRaise cLevel cMark cForget)) := ⟨f58, _, ok__law_right F58 B (C__law_kinds := C__law_kinds) (C__law_action := C__law_action) (C__law_note := C__law_note)   (MT := MT) (MA := MA) (MN := MN) (MR := MR) (dc := dc) (Dd := PySem.W.mg_of X G z_Deed), b58, k58, PySem.W.mg_of X G a58⟩
  have ec : ∀ k j : Kd, EqCls K (Cs.at (Cs.mk cPut cDrop cAdd cWipe cRaise cLevel cMark cForget) k) (Cs.at (Cs.mk cPut cDrop cAdd cWipe cRaise cLevel cMark cForget) j) := fun k j => match k, j with | .put, .put => ⟨by unfold PySem.W.notFirst; simp [Cs.at], z_nePut, z_moPut⟩ | .put, .drop => ⟨by unfold PySem.W.notFirst; simp [Cs.at, z_nfPutDrop], z_nePut, z_moPut⟩ | .put, .add => ⟨by unfold PySem.W.notFirst; simp [Cs.at, z_nfPutAdd], z_nePut, z_moPut⟩ | .put, .wipe => ⟨by unfold PySem.W.notFirst; simp [Cs.at, z_nfPutWipe], z_nePut, z_moPut⟩ | .put, .raise => ⟨by unfold PySem.W.notFirst; simp [Cs.at, z_nfPutRaise], z_nePut, z_moPut⟩ | .put, .level => ⟨by unfold PySem.W.notFirst; simp [Cs.at, z_nfPutLevel], z_nePut, z_moPut⟩ | .put, .mark => ⟨by unfold PySem.W.notFirst; simp [Cs.at, z_nfPutMark], z_nePut, z_moPut⟩ | .put, .forget => ⟨by unfold PySem.W.notFirst; simp [Cs.at, z_nfPutForget], z_nePut, z_moPut⟩ | .drop, .put => ⟨by unfold PySem.W.notFirst; simp [Cs.at, z_nfDropPut], z_neDrop, z_moDrop⟩ | .drop, .drop => ⟨by unfold PySem.W.notFirst; simp [Cs.at], z_neDrop, z_moDrop⟩ | .drop, .add => ⟨by unfold PySem.W.notFirst; simp [Cs.at, z_nfDropAdd], z_neDrop, z_moDrop⟩ | .drop, .wipe => ⟨by unfold PySem.W.notFirst; simp [Cs.at, z_nfDropWipe], z_neDrop, z_moDrop⟩ | .drop, .raise => ⟨by unfold PySem.W.notFirst; simp [Cs.at, z_nfDropRaise], z_neDrop, z_moDrop⟩ | .drop, .level => ⟨by unfold PySem.W.notFirst; simp [Cs.at, z_nfDropLevel], z_neDrop, z_moDrop⟩ | .drop, .mark => ⟨by unfold PySem.W.notFirst; simp [Cs.at, z_nfDropMark], z_neDrop, z_moDrop⟩ | .drop, .forget => ⟨by unfold PySem.W.notFirst; simp [Cs.at, z_nfDropForget], z_neDrop, z_moDrop⟩ | .add, .put => ⟨by unfold PySem.W.notFirst; simp [Cs.at, z_nfAddPut], z_neAdd, z_moAdd⟩ | .add, .drop => ⟨by unfold PySem.W.notFirst; simp [Cs.at, z_nfAddDrop], z_neAdd, z_moAdd⟩ | .add, .add => ⟨by unfold PySem.W.notFirst; simp [Cs.at], z_neAdd, z_moAdd⟩ | .add, .wipe => ⟨by unfold PySem.W.notFirst; simp [Cs.at, z_nfAddWipe], z_neAdd, z_moAdd⟩ | .add, .raise => ⟨by unfold PySem.W.notFirst; simp [Cs.at, z_nfAddRaise], z_neAdd, z_moAdd⟩ | .add, .level => ⟨by unfold PySem.W.notFirst; simp [Cs.at, z_nfAddLevel], z_neAdd, z_moAdd⟩ | .add, .mark => ⟨by unfold PySem.W.notFirst; simp [Cs.at, z_nfAddMark], z_neAdd, z_moAdd⟩ | .add, .forget => ⟨by unfold PySem.W.notFirst; simp [Cs.at, z_nfAddForget], z_neAdd, z_moAdd⟩ | .wipe, .put => ⟨by unfold PySem.W.notFirst; simp [Cs.at, z_nfWipePut], z_neWipe, z_moWipe⟩ | .wipe, .drop => ⟨by unfold PySem.W.notFirst; simp [Cs.at, z_nfWipeDrop], z_neWipe, z_moWipe⟩ | .wipe, .add => ⟨by unfold PySem.W.notFirst; simp [Cs.at, z_nfWipeAdd], z_neWipe, z_moWipe⟩ | .wipe, .wipe => ⟨by unfold PySem.W.notFirst; simp [Cs.at], z_neWipe, z_moWipe⟩ | .wipe, .raise => ⟨by unfold PySem.W.notFirst; simp [Cs.at, z_nfWipeRaise], z_neWipe, z_moWipe⟩ | .wipe, .level => ⟨by unfold PySem.W.notFirst; simp [Cs.at, z_nfWipeLevel], z_neWipe, z_moWipe⟩ | .wipe, .mark => ⟨by unfold PySem.W.notFirst; simp [Cs.at, z_nfWipeMark], z_neWipe, z_moWipe⟩ | .wipe, .forget => ⟨by unfold PySem.W.notFirst; simp [Cs.at, z_nfWipeForget], z_neWipe, z_moWipe⟩ | .raise, .put => ⟨by unfold PySem.W.notFirst; simp [Cs.at, z_nfRaisePut], z_neRaise, z_moRaise⟩ | .raise, .drop => ⟨by unfold PySem.W.notFirst; simp [Cs.at, z_nfRaiseDrop], z_neRaise, z_moRaise⟩ | .raise, .add => ⟨by unfold PySem.W.notFirst; simp [Cs.at, z_nfRaiseAdd], z_neRaise, z_moRaise⟩ | .raise, .wipe => ⟨by unfold PySem.W.notFirst; simp [Cs.at, z_nfRaiseWipe], z_neRaise, z_moRaise⟩ | .raise, .raise => ⟨by unfold PySem.W.notFirst; simp [Cs.at], z_neRaise, z_moRaise⟩ | .raise, .level => ⟨by unfold PySem.W.notFirst; simp [Cs.at, z_nfRaiseLevel], z_neRaise, z_moRaise⟩ | .raise, .mark => ⟨by unfold PySem.W.notFirst; simp [Cs.at, z_nfRaiseMark], z_neRaise, z_moRaise⟩ | .raise, .forget => ⟨by unfold PySem.W.notFirst; simp [Cs.at, z_nfRaiseForget], z_neRaise, z_moRaise⟩ | .level, .put => ⟨by unfold PySem.W.notFirst; simp [Cs.at, z_nfLevelPut], z_neLevel, z_moLevel⟩ | .level, .drop => ⟨by unfold PySem.W.notFirst; simp [Cs.at, z_nfLevelDrop], z_neLevel, z_moLevel⟩ | .level, .add => ⟨by unfold PySem.W.notFirst; simp [Cs.at, z_nfLevelAdd], z_neLevel, z_moLevel⟩ | .level, .wipe => ⟨by unfold PySem.W.notFirst; simp [Cs.at, z_nfLevelWipe], z_neLevel, z_moLevel⟩ | .level, .raise => ⟨by unfold PySem.W.notFirst; simp [Cs.at, z_nfLevelRaise], z_neLevel, z_moLevel⟩ | .level, .level => ⟨by unfold PySem.W.notFirst; simp [Cs.at], z_neLevel, z_moLevel⟩ | .level, .mark => ⟨by unfold PySem.W.notFirst; simp [Cs.at, z_nfLevelMark], z_neLevel, z_moLevel⟩ | .level, .forget => ⟨by unfold PySem.W.notFirst; simp [Cs.at, z_nfLevelForget], z_neLevel, z_moLevel⟩ | .mark, .put => ⟨by unfold PySem.W.notFirst; simp [Cs.at, z_nfMarkPut], z_neMark, z_moMark⟩ | .mark, .drop => ⟨by unfold PySem.W.notFirst; simp [Cs.at, z_nfMarkDrop], z_neMark, z_moMark⟩ | .mark, .add => ⟨by unfold PySem.W.notFirst; simp [Cs.at, z_nfMarkAdd], z_neMark, z_moMark⟩ | .mark, .wipe => ⟨by unfold PySem.W.notFirst; simp [Cs.at, z_nfMarkWipe], z_neMark, z_moMark⟩ | .mark, .raise => ⟨by unfold PySem.W.notFirst; simp [Cs.at, z_nfMarkRaise], z_neMark, z_moMark⟩ | .mark, .level => ⟨by unfold PySem.W.notFirst; simp [Cs.at, z_nfMarkLevel], z_neMark, z_moMark⟩ | .mark, .mark => ⟨by unfold PySem.W.notFirst; simp [Cs.at], z_neMark, z_moMark⟩ | .mark, .forget => ⟨by unfold PySem.W.notFirst; simp [Cs.at, z_nfMarkForget], z_neMark, z_moMark⟩ | .forget, .put => ⟨by unfold PySem.W.notFirst; simp [Cs.at, z_nfForgetPut], z_neForget, z_moForget⟩ | .forget, .drop => ⟨by unfold PySem.W.notFirst; simp [Cs.at, z_nfForgetDrop], z_neForget, z_moForget⟩ | .forget, .add => ⟨by unfold PySem.W.notFirst; simp [Cs.at, z_nfForgetAdd], z_neForget, z_moForget⟩ | .forget, .wipe => ⟨by unfold PySem.W.notFirst; simp [Cs.at, z_nfForgetWipe], z_neForget, z_moForget⟩ | .forget, .raise => ⟨by unfold PySem.W.notFirst; simp [Cs.at, z_nfForgetRaise], z_neForget, z_moForget⟩ | .forget, .level => ⟨by unfold PySem.W.notFirst; simp [Cs.at, z_nfForgetLevel], z_neForget, z_moForget⟩ | .forget, .mark => ⟨by unfold PySem.W.notFirst; simp [Cs.at, z_nfForgetMark], z_neForget, z_moForget⟩ | .forget, .forget => ⟨by unfold PySem.W.notFirst; simp [Cs.at], z_neForget, z_moForget⟩
  have oc : ∀ k : Kd, OddCls K (Cs.at (Cs.mk cPut cDrop cAdd cWipe cRaise cLevel cMark cForget) k) := fun k => match k with | .put => ⟨z_odPuttuple, z_odPutlist, z_odPutint, z_odPutstr, z_odPutNoneType⟩ | .drop => ⟨z_odDroptuple, z_odDroplist, z_odDropint, z_odDropstr, z_odDropNoneType⟩ | .add => ⟨z_odAddtuple, z_odAddlist, z_odAddint, z_odAddstr, z_odAddNoneType⟩ | .wipe => ⟨z_odWipetuple, z_odWipelist, z_odWipeint, z_odWipestr, z_odWipeNoneType⟩ | .raise => ⟨z_odRaisetuple, z_odRaiselist, z_odRaiseint, z_odRaisestr, z_odRaiseNoneType⟩ | .level => ⟨z_odLeveltuple, z_odLevellist, z_odLevelint, z_odLevelstr, z_odLevelNoneType⟩ | .mark => ⟨z_odMarktuple, z_odMarklist, z_odMarkint, z_odMarkstr, z_odMarkNoneType⟩ | .forget => ⟨z_odForgettuple, z_odForgetlist, z_odForgetint, z_odForgetstr, z_odForgetNoneType⟩
  have kd : ∀ T ∈ ["NoneType", "int", "str", "tuple", "list"], PySem.W.kitOne K (.type T) (.ref cDeed) = some false := fun T h => by simp only [List.mem_cons, List.not_mem_nil, or_false] at h; rcases h with rfl | rfl | rfl | rfl | rfl; exact z_kdNoneType; exact z_kdint; exact z_kdstr; exact z_kdtuple; exact z_kdlist
  exact ok_law F59 B (C__law_well := C__law_well) (C__law_deed := C__law_deed) (C__law_draw := C__law_draw) (C_deed_of := C_deed_of) (C__law_by_place := C__law_by_place) (C_read_words := C_read_words) (C__law_right := C__law_right) (dc := dc) (ME := ME) (MR := MR) (oc := oc) (ec := ec) (kd := kd)
theorem walk {l : PySem.W.OpenLaw} {q : Program} {loose : List Str} {XP : (Str → Option Value) → Heap → Prop} {YP : World → Heap → Prop} {d : DefRec} {K : Params → PySem.W.Frag} (hn : l.most = some 63) (hdf : d.params.defaults = [])
    (hY : ∀ (w : World) (h : Heap), YP w h → (K w.params).In h)
    (F : ∀ (w : World) (mg : Str → Option Value) (fa : Addr) (h : Heap), (K w.params).In h → h.Ns mainGlobals mg → mg d.name = some (.ref fa) →
      ∃ fd : FuncData, (∀ (s : Shared) (u : Value), BindsTo s fd ⟨[u], []⟩ [("_law_script", u)]) ∧ ∀ base : Heap, (K w.params).In base → base.Ns mainGlobals mg → FnOk l.prog w (K w.params) mg base CX0 8 fa fd ["_law_script"] (spLaw (K w.params))) :
    PySem.W.WalkO q loose XP YP l.row.toRowW d [] (fun f vs => PySem.call f vs) :=
  L2.walk_of (n := 63) (k := 8) (x := "_law_script") (CX := fun _ => CX0) (sp := fun w => spLaw (K w.params)) hn (by decide) hdf ⟨rfl, by decide, by decide, rfl⟩ hY F (fun _ _ a ns hl ho hS => ⟨a, ns, rfl, hS, hl, ho, fun _ => rfl⟩) fun _ _ _ _ _ z => z
abbrev kh (P : Params) (x : Str) : Int := PyData.keyHash P x
def hK (P : Params) : PySem.W.Frag :=
 (nat_lit 2, ⟨.none, none, (.dict (List.toArray ( [])) 0), #[]⟩) ::
 (nat_lit 3, ⟨(.type "dict"), none, (.dict (List.toArray (⟨kh P "__name__", (.str "__name__" 165), (.str "law_notefall_k11_deeds_made" 802)⟩ :: ⟨kh P "__doc__", (.str "__doc__" 166), .none⟩ :: ⟨kh P "__package__", (.str "__package__" 167), .none⟩ :: ⟨kh P "__loader__", (.str "__loader__" 168), (.builtin "__main__.__loader__#opaque")⟩ :: ⟨kh P "__spec__", (.str "__spec__" 169), .none⟩ :: ⟨kh P "__annotations__", (.str "__annotations__" 170), (.ref 6)⟩ :: ⟨kh P "__builtins__", (.str "__builtins__" 171), (.ref 4)⟩ :: ⟨kh P "__file__", (.str "__file__" 173), (.str "/claim/cut.py" 172)⟩ :: ⟨kh P "__cached__", (.str "__cached__" 174), .none⟩ :: ⟨kh P "FallError", (.str "FallError" 206), (.ref 24)⟩ :: ⟨kh P "NoDeed", (.str "NoDeed" 222), (.ref 37)⟩ :: ⟨kh P "END", (.str "END" 228), (.int 1000000000000 227)⟩ :: ⟨kh P "is_number", (.str "is_number" 235), (.ref 46)⟩ :: ⟨kh P "is_whole", (.str "is_whole" 244), (.ref 53)⟩ :: ⟨kh P "is_whole_from", (.str "is_whole_from" 252), (.ref 60)⟩ :: ⟨kh P "is_key", (.str "is_key" 259), (.ref 67)⟩ :: ⟨kh P "is_stretch", (.str "is_stretch" 267), (.ref 74)⟩ :: ⟨kh P "GONE", (.str "GONE" 269), (.ref 75)⟩ :: ⟨kh P "CLEARING", (.str "CLEARING" 272), (.ref 78)⟩ :: ⟨kh P "MOST_FIGURES", (.str "MOST_FIGURES" 276), (.int 60 275)⟩ :: ⟨kh P "figures_of", (.str "figures_of" 283), (.ref 85)⟩ :: ⟨kh P "are_figures", (.str "are_figures" 290), (.ref 92)⟩ :: ⟨kh P "read_figures", (.str "read_figures" 298), (.ref 99)⟩ :: ⟨kh P "MOST_VALUE", (.str "MOST_VALUE" 304), (.int 1000000000000000000000000000000 303)⟩ :: ⟨kh P "THINGS", (.str "THINGS" 329), (.ref 100)⟩ :: ⟨kh P "NO_MORE", (.str "NO_MORE" 331), (.str "no more" 330)⟩ :: ⟨kh P "is_amount", (.str "is_amount" 338), (.ref 107)⟩ :: ⟨kh P "check_things", (.str "check_things" 346), (.ref 114)⟩ :: ⟨kh P "word_of", (.str "word_of" 353), (.ref 121)⟩ :: ⟨kh P "Deed", (.str "Deed" 420), (.ref 171)⟩ :: ⟨kh P "Put", (.str "Put" 469), (.ref 214)⟩ :: ⟨kh P "Drop", (.str "Drop" 516), (.ref 255)⟩ :: ⟨kh P "Add", (.str "Add" 565), (.ref 296)⟩ :: ⟨kh P "Wipe", (.str "Wipe" 614), (.ref 337)⟩ :: ⟨kh P "Raise", (.str "Raise" 665), (.ref 378)⟩ :: ⟨kh P "Level", (.str "Level" 716), (.ref 419)⟩ :: ⟨kh P "Mark", (.str "Mark" 747), (.ref 446)⟩ :: ⟨kh P "Forget", (.str "Forget" 780), (.ref 473)⟩ :: ⟨kh P "has_form", (.str "has_form" 787), (.ref 482)⟩ :: ⟨kh P "deed_of", (.str "deed_of" 795), (.ref 489)⟩ :: ⟨kh P "read_words", (.str "read_words" 801), (.ref 494)⟩ :: ⟨kh P "_law_well", (.str "_law_well" 810), (.ref 501)⟩ :: ⟨kh P "_law_draw", (.str "_law_draw" 820), (.ref 508)⟩ :: ⟨kh P "_law_key", (.str "_law_key" 829), (.ref 515)⟩ :: ⟨kh P "_law_amount", (.str "_law_amount" 839), (.ref 522)⟩ :: ⟨kh P "_law_stretch", (.str "_law_stretch" 849), (.ref 529)⟩ :: ⟨kh P "_law_deed", (.str "_law_deed" 860), (.ref 536)⟩ :: ⟨kh P "_law_by_place", (.str "_law_by_place" 868), (.ref 543)⟩ :: ⟨kh P "_law_action", (.str "_law_action" 876), (.ref 550)⟩ :: ⟨kh P "_law_note", (.str "_law_note" 884), (.ref 557)⟩ :: ⟨kh P "_law_kinds", (.str "_law_kinds" 892), (.ref 564)⟩ :: ⟨kh P "_law_right", (.str "_law_right" 898), (.ref 569)⟩ :: ⟨kh P "law", (.str "law" 904), (.ref 574)⟩ :: [])) 53), #[]⟩) ::
 (nat_lit 15, ⟨(.type "tuple"), none, (.seq #[(.type "ValueError")] 0), #[]⟩) ::
 (nat_lit 22, ⟨(.type "tuple"), none, (.seq #[] 0), #[]⟩) ::
 (nat_lit 23, ⟨(.type "dict"), none, (.dict (List.toArray (⟨kh P "__module__", (.str "__module__" 196), (.str "notefall.errors" 187)⟩ :: ⟨kh P "__firstlineno__", (.str "__firstlineno__" 200), (.int 2 199)⟩ :: ⟨kh P "__static_attributes__", (.str "__static_attributes__" 201), (.ref 22)⟩ :: ⟨kh P "__weakref__", (.str "__weakref__" 203), (.ref 25)⟩ :: ⟨kh P "__doc__", (.str "__doc__" 204), .none⟩ :: [])) 3), #[]⟩) ::
 (nat_lit 24, ⟨(.type "type"), none, (.cls ⟨"FallError", [(.type "ValueError")], [(.ref 24), (.type "ValueError"), (.type "Exception"), (.type "BaseException"), (.type "object")], 23, "FallError", true, [], [(.ref 37)], false, none, false⟩), #[(some (.ref 15)), none, (some (.str "FallError" 189)), (some (.str "FallError" 197)), (some (.builtin "ValueError.__new__")), (some (.bool true))]⟩) ::
 (nat_lit 25, ⟨(.type "getset_descriptor"), none, (.fields #[(.str "__weakref__" 202), (.ref 24), (.builtin "ExceptionGroup.__weakref__"), .none]), #[]⟩) ::
 (nat_lit 28, ⟨(.type "tuple"), none, (.seq #[(.ref 24)] 0), #[]⟩) ::
 (nat_lit 35, ⟨(.type "tuple"), none, (.seq #[] 0), #[]⟩) ::
 (nat_lit 36, ⟨(.type "dict"), none, (.dict (List.toArray (⟨kh P "__module__", (.str "__module__" 214), (.str "notefall.errors" 187)⟩ :: ⟨kh P "__firstlineno__", (.str "__firstlineno__" 218), (.int 4 217)⟩ :: ⟨kh P "__static_attributes__", (.str "__static_attributes__" 219), (.ref 35)⟩ :: ⟨kh P "__doc__", (.str "__doc__" 220), .none⟩ :: [])) 2), #[]⟩) ::
 (nat_lit 37, ⟨(.type "type"), none, (.cls ⟨"NoDeed", [(.ref 24)], [(.ref 37), (.ref 24), (.type "ValueError"), (.type "Exception"), (.type "BaseException"), (.type "object")], 36, "NoDeed", true, [], [], false, none, false⟩), #[(some (.ref 28)), none, (some (.str "NoDeed" 207)), (some (.str "NoDeed" 215)), (some (.builtin "ValueError.__new__")), (some (.bool true))]⟩) ::
 (nat_lit 40, ⟨(.type "tuple"), none, (.seq #[] 0), #[]⟩) ::
 (nat_lit 42, ⟨(.type "tuple"), none, (.seq #[(.str "thing" 232)] 0), #[]⟩) ::
 (nat_lit 43, ⟨(.type "tuple"), none, (.seq #[] 0), #[]⟩) ::
 (nat_lit 45, ⟨(.type "code"), none, (.fields #[(.str "is_number" 229), (.str "is_number" 230), (.str "/claim/cut.py" 231), (.int 8 0), (.int 1 0), (.int 0 0), (.int 0 0), (.int 3 0), (.ref 40), (.bool true), (.int 181 0), (.ref 41), .none, (.ref 42), (.ref 43), (.ref 44), (.int 233 0), (.int 8 0), (.str "/claim/cut.py" 234)]), #[]⟩) ::
 (nat_lit 46, ⟨(.type "function"), none, (.func ⟨"is_number", "is_number", defArgs (top 5), .stmts (defBody (top 5)), defScope (top 5), 3, [], .none, .none, .none, (.str "notefall.wholes" 223), none, (.ref 45), .none, 0⟩), #[]⟩) ::
 (nat_lit 47, ⟨(.type "tuple"), none, (.seq #[] 0), #[]⟩) ::
 (nat_lit 49, ⟨(.type "tuple"), none, (.seq #[(.str "thing" 239), (.str "low" 240), (.str "high" 241)] 0), #[]⟩) ::
 (nat_lit 50, ⟨(.type "tuple"), none, (.seq #[] 0), #[]⟩) ::
 (nat_lit 52, ⟨(.type "code"), none, (.fields #[(.str "is_whole" 236), (.str "is_whole" 237), (.str "/claim/cut.py" 238), (.int 10 0), (.int 3 0), (.int 0 0), (.int 0 0), (.int 3 0), (.ref 47), (.bool true), (.int 181 0), (.ref 48), .none, (.ref 49), (.ref 50), (.ref 51), (.int 242 0), (.int 10 0), (.str "/claim/cut.py" 243)]), #[]⟩) ::
 (nat_lit 53, ⟨(.type "function"), none, (.func ⟨"is_whole", "is_whole", defArgs (top 6), .stmts (defBody (top 6)), defScope (top 6), 3, [], .none, .none, .none, (.str "notefall.wholes" 223), none, (.ref 52), .none, 0⟩), #[]⟩) ::
 (nat_lit 54, ⟨(.type "tuple"), none, (.seq #[] 0), #[]⟩) ::
 (nat_lit 56, ⟨(.type "tuple"), none, (.seq #[(.str "thing" 248), (.str "low" 249)] 0), #[]⟩) ::
 (nat_lit 57, ⟨(.type "tuple"), none, (.seq #[] 0), #[]⟩) ::
 (nat_lit 59, ⟨(.type "code"), none, (.fields #[(.str "is_whole_from" 245), (.str "is_whole_from" 246), (.str "/claim/cut.py" 247), (.int 12 0), (.int 2 0), (.int 0 0), (.int 0 0), (.int 3 0), (.ref 54), (.bool true), (.int 181 0), (.ref 55), .none, (.ref 56), (.ref 57), (.ref 58), (.int 250 0), (.int 12 0), (.str "/claim/cut.py" 251)]), #[]⟩) ::
 (nat_lit 60, ⟨(.type "function"), none, (.func ⟨"is_whole_from", "is_whole_from", defArgs (top 7), .stmts (defBody (top 7)), defScope (top 7), 3, [], .none, .none, .none, (.str "notefall.wholes" 223), none, (.ref 59), .none, 0⟩), #[]⟩) ::
 (nat_lit 61, ⟨(.type "tuple"), none, (.seq #[] 0), #[]⟩) ::
 (nat_lit 63, ⟨(.type "tuple"), none, (.seq #[(.str "thing" 256)] 0), #[]⟩) ::
 (nat_lit 64, ⟨(.type "tuple"), none, (.seq #[] 0), #[]⟩) ::
 (nat_lit 66, ⟨(.type "code"), none, (.fields #[(.str "is_key" 253), (.str "is_key" 254), (.str "/claim/cut.py" 255), (.int 14 0), (.int 1 0), (.int 0 0), (.int 0 0), (.int 3 0), (.ref 61), (.bool true), (.int 181 0), (.ref 62), .none, (.ref 63), (.ref 64), (.ref 65), (.int 257 0), (.int 14 0), (.str "/claim/cut.py" 258)]), #[]⟩) ::
 (nat_lit 67, ⟨(.type "function"), none, (.func ⟨"is_key", "is_key", defArgs (top 8), .stmts (defBody (top 8)), defScope (top 8), 3, [], .none, .none, .none, (.str "notefall.wholes" 223), none, (.ref 66), .none, 0⟩), #[]⟩) ::
 (nat_lit 68, ⟨(.type "tuple"), none, (.seq #[] 0), #[]⟩) ::
 (nat_lit 70, ⟨(.type "tuple"), none, (.seq #[(.str "low" 263), (.str "high" 264)] 0), #[]⟩) ::
 (nat_lit 71, ⟨(.type "tuple"), none, (.seq #[] 0), #[]⟩) ::
 (nat_lit 73, ⟨(.type "code"), none, (.fields #[(.str "is_stretch" 260), (.str "is_stretch" 261), (.str "/claim/cut.py" 262), (.int 16 0), (.int 2 0), (.int 0 0), (.int 0 0), (.int 3 0), (.ref 68), (.bool true), (.int 181 0), (.ref 69), .none, (.ref 70), (.ref 71), (.ref 72), (.int 265 0), (.int 16 0), (.str "/claim/cut.py" 266)]), #[]⟩) ::
 (nat_lit 74, ⟨(.type "function"), none, (.func ⟨"is_stretch", "is_stretch", defArgs (top 9), .stmts (defBody (top 9)), defScope (top 9), 3, [], .none, .none, .none, (.str "notefall.wholes" 223), none, (.ref 73), .none, 0⟩), #[]⟩) ::
 (nat_lit 75, ⟨(.type "tuple"), none, (.seq #[(.str "gone" 268)] 0), #[]⟩) ::
 (nat_lit 76, ⟨(.type "tuple"), none, (.seq #[(.str "gone" 270)] 0), #[]⟩) ::
 (nat_lit 77, ⟨(.type "tuple"), none, (.seq #[(.str "gone" 271)] 0), #[]⟩) ::
 (nat_lit 78, ⟨(.type "tuple"), none, (.seq #[(.ref 76), (.ref 77)] 0), #[]⟩) ::
 (nat_lit 79, ⟨(.type "tuple"), none, (.seq #[] 0), #[]⟩) ::
 (nat_lit 81, ⟨(.type "tuple"), none, (.seq #[(.str "number" 280)] 0), #[]⟩) ::
 (nat_lit 82, ⟨(.type "tuple"), none, (.seq #[] 0), #[]⟩) ::
 (nat_lit 84, ⟨(.type "code"), none, (.fields #[(.str "figures_of" 277), (.str "figures_of" 278), (.str "/claim/cut.py" 279), (.int 22 0), (.int 1 0), (.int 0 0), (.int 0 0), (.int 3 0), (.ref 79), (.bool true), (.int 181 0), (.ref 80), .none, (.ref 81), (.ref 82), (.ref 83), (.int 281 0), (.int 22 0), (.str "/claim/cut.py" 282)]), #[]⟩) ::
 (nat_lit 85, ⟨(.type "function"), none, (.func ⟨"figures_of", "figures_of", defArgs (top 14), .stmts (defBody (top 14)), defScope (top 14), 3, [], .none, .none, .none, (.str "notefall.figures" 273), none, (.ref 84), .none, 0⟩), #[]⟩) ::
 (nat_lit 86, ⟨(.type "tuple"), none, (.seq #[] 0), #[]⟩) ::
 (nat_lit 88, ⟨(.type "tuple"), none, (.seq #[(.str "text" 287)] 0), #[]⟩) ::
 (nat_lit 89, ⟨(.type "tuple"), none, (.seq #[] 0), #[]⟩) ::
 (nat_lit 91, ⟨(.type "code"), none, (.fields #[(.str "are_figures" 284), (.str "are_figures" 285), (.str "/claim/cut.py" 286), (.int 24 0), (.int 1 0), (.int 0 0), (.int 0 0), (.int 3 0), (.ref 86), (.bool true), (.int 181 0), (.ref 87), .none, (.ref 88), (.ref 89), (.ref 90), (.int 288 0), (.int 24 0), (.str "/claim/cut.py" 289)]), #[]⟩) ::
 (nat_lit 92, ⟨(.type "function"), none, (.func ⟨"are_figures", "are_figures", defArgs (top 15), .stmts (defBody (top 15)), defScope (top 15), 3, [], .none, .none, .none, (.str "notefall.figures" 273), none, (.ref 91), .none, 0⟩), #[]⟩) ::
 (nat_lit 93, ⟨(.type "tuple"), none, (.seq #[] 0), #[]⟩) ::
 (nat_lit 95, ⟨(.type "tuple"), none, (.seq #[(.str "text" 294), (.str "bare" 295)] 0), #[]⟩) ::
 (nat_lit 96, ⟨(.type "tuple"), none, (.seq #[] 0), #[]⟩) ::
 (nat_lit 98, ⟨(.type "code"), none, (.fields #[(.str "read_figures" 291), (.str "read_figures" 292), (.str "/claim/cut.py" 293), (.int 26 0), (.int 1 0), (.int 0 0), (.int 0 0), (.int 3 0), (.ref 93), (.bool true), (.int 181 0), (.ref 94), .none, (.ref 95), (.ref 96), (.ref 97), (.int 296 0), (.int 26 0), (.str "/claim/cut.py" 297)]), #[]⟩) ::
 (nat_lit 99, ⟨(.type "function"), none, (.func ⟨"read_figures", "read_figures", defArgs (top 16), .stmts (defBody (top 16)), defScope (top 16), 3, [], .none, .none, .none, (.str "notefall.figures" 273), none, (.ref 98), .none, 0⟩), #[]⟩) ::
 (nat_lit 100, ⟨(.type "dict"), none, (.dict (List.toArray (⟨kh P "put", (.str "put" 305), (.int 3 306)⟩ :: ⟨kh P "drop", (.str "drop" 307), (.int 2 308)⟩ :: ⟨kh P "add", (.str "add" 309), (.int 3 310)⟩ :: ⟨kh P "wipe", (.str "wipe" 311), (.int 3 312)⟩ :: ⟨kh P "raise", (.str "raise" 313), (.int 4 314)⟩ :: ⟨kh P "level", (.str "level" 315), (.int 4 316)⟩ :: ⟨kh P "mark", (.str "mark" 317), (.int 1 318)⟩ :: ⟨kh P "forget", (.str "forget" 319), (.int 2 320)⟩ :: [])) 8), #[]⟩) ::
 (nat_lit 101, ⟨(.type "tuple"), none, (.seq #[] 0), #[]⟩) ::
 (nat_lit 103, ⟨(.type "tuple"), none, (.seq #[(.str "thing" 335)] 0), #[]⟩) ::
 (nat_lit 104, ⟨(.type "tuple"), none, (.seq #[] 0), #[]⟩) ::
 (nat_lit 106, ⟨(.type "code"), none, (.fields #[(.str "is_amount" 332), (.str "is_amount" 333), (.str "/claim/cut.py" 334), (.int 39 0), (.int 1 0), (.int 0 0), (.int 0 0), (.int 3 0), (.ref 101), (.bool true), (.int 181 0), (.ref 102), .none, (.ref 103), (.ref 104), (.ref 105), (.int 336 0), (.int 39 0), (.str "/claim/cut.py" 337)]), #[]⟩) ::
 (nat_lit 107, ⟨(.type "function"), none, (.func ⟨"is_amount", "is_amount", defArgs (top 21), .stmts (defBody (top 21)), defScope (top 21), 3, [], .none, .none, .none, (.str "notefall.deeds" 299), none, (.ref 106), .none, 0⟩), #[]⟩) ::
 (nat_lit 108, ⟨(.type "tuple"), none, (.seq #[] 0), #[]⟩) ::
 (nat_lit 110, ⟨(.type "tuple"), none, (.seq #[(.str "fit" 342), (.str "more" 343)] 0), #[]⟩) ::
 (nat_lit 111, ⟨(.type "tuple"), none, (.seq #[] 0), #[]⟩) ::
 (nat_lit 113, ⟨(.type "code"), none, (.fields #[(.str "check_things" 339), (.str "check_things" 340), (.str "/claim/cut.py" 341), (.int 41 0), (.int 2 0), (.int 0 0), (.int 0 0), (.int 3 0), (.ref 108), (.bool true), (.int 181 0), (.ref 109), .none, (.ref 110), (.ref 111), (.ref 112), (.int 344 0), (.int 41 0), (.str "/claim/cut.py" 345)]), #[]⟩) ::
 (nat_lit 114, ⟨(.type "function"), none, (.func ⟨"check_things", "check_things", defArgs (top 22), .stmts (defBody (top 22)), defScope (top 22), 3, [], .none, .none, .none, (.str "notefall.deeds" 299), none, (.ref 113), .none, 0⟩), #[]⟩) ::
 (nat_lit 115, ⟨(.type "tuple"), none, (.seq #[] 0), #[]⟩) ::
 (nat_lit 117, ⟨(.type "tuple"), none, (.seq #[(.str "thing" 350)] 0), #[]⟩) ::
 (nat_lit 118, ⟨(.type "tuple"), none, (.seq #[] 0), #[]⟩) ::
 (nat_lit 120, ⟨(.type "code"), none, (.fields #[(.str "word_of" 347), (.str "word_of" 348), (.str "/claim/cut.py" 349), (.int 44 0), (.int 1 0), (.int 0 0), (.int 0 0), (.int 3 0), (.ref 115), (.bool true), (.int 181 0), (.ref 116), .none, (.ref 117), (.ref 118), (.ref 119), (.int 351 0), (.int 44 0), (.str "/claim/cut.py" 352)]), #[]⟩) ::
 (nat_lit 121, ⟨(.type "function"), none, (.func ⟨"word_of", "word_of", defArgs (top 23), .stmts (defBody (top 23)), defScope (top 23), 3, [], .none, .none, .none, (.str "notefall.deeds" 299), none, (.ref 120), .none, 0⟩), #[]⟩) ::
 (nat_lit 129, ⟨(.type "tuple"), none, (.seq #[] 0), #[]⟩) ::
 (nat_lit 131, ⟨(.type "tuple"), none, (.seq #[(.str "self" 369)] 0), #[]⟩) ::
 (nat_lit 132, ⟨(.type "tuple"), none, (.seq #[] 0), #[]⟩) ::
 (nat_lit 134, ⟨(.type "code"), none, (.fields #[(.str "told" 366), (.str "Deed.told" 367), (.str "/claim/cut.py" 368), (.int 48 0), (.int 1 0), (.int 0 0), (.int 0 0), (.int 3 0), (.ref 129), (.bool true), (.int 181 0), (.ref 130), .none, (.ref 131), (.ref 132), (.ref 133), (.int 370 0), (.int 48 0), (.str "/claim/cut.py" 371)]), #[]⟩) ::
 (nat_lit 135, ⟨(.type "function"), none, (.func ⟨"told", "Deed.told", defArgs (inClass (top 24) 0), .stmts (defBody (inClass (top 24) 0)), defScope (inClass (top 24) 0), 3, [], .none, .none, .none, (.str "notefall.deeds" 299), none, (.ref 134), .none, 0⟩), #[]⟩) ::
 (nat_lit 136, ⟨(.type "tuple"), none, (.seq #[] 0), #[]⟩) ::
 (nat_lit 138, ⟨(.type "tuple"), none, (.seq #[(.str "self" 376)] 0), #[]⟩) ::
 (nat_lit 139, ⟨(.type "tuple"), none, (.seq #[] 0), #[]⟩) ::
 (nat_lit 141, ⟨(.type "code"), none, (.fields #[(.str "action" 373), (.str "Deed.action" 374), (.str "/claim/cut.py" 375), (.int 51 0), (.int 1 0), (.int 0 0), (.int 0 0), (.int 3 0), (.ref 136), (.bool true), (.int 181 0), (.ref 137), .none, (.ref 138), (.ref 139), (.ref 140), (.int 377 0), (.int 51 0), (.str "/claim/cut.py" 378)]), #[]⟩) ::
 (nat_lit 142, ⟨(.type "function"), none, (.func ⟨"action", "Deed.action", defArgs (inClass (top 24) 1), .stmts (defBody (inClass (top 24) 1)), defScope (inClass (top 24) 1), 3, [], .none, .none, .none, (.str "notefall.deeds" 299), none, (.ref 141), .none, 0⟩), #[]⟩) ::
 (nat_lit 143, ⟨(.type "tuple"), none, (.seq #[] 0), #[]⟩) ::
 (nat_lit 145, ⟨(.type "tuple"), none, (.seq #[(.str "self" 383)] 0), #[]⟩) ::
 (nat_lit 146, ⟨(.type "tuple"), none, (.seq #[] 0), #[]⟩) ::
 (nat_lit 148, ⟨(.type "code"), none, (.fields #[(.str "span" 380), (.str "Deed.span" 381), (.str "/claim/cut.py" 382), (.int 54 0), (.int 1 0), (.int 0 0), (.int 0 0), (.int 3 0), (.ref 143), (.bool true), (.int 181 0), (.ref 144), .none, (.ref 145), (.ref 146), (.ref 147), (.int 384 0), (.int 54 0), (.str "/claim/cut.py" 385)]), #[]⟩) ::
 (nat_lit 149, ⟨(.type "function"), none, (.func ⟨"span", "Deed.span", defArgs (inClass (top 24) 2), .stmts (defBody (inClass (top 24) 2)), defScope (inClass (top 24) 2), 3, [], .none, .none, .none, (.str "notefall.deeds" 299), none, (.ref 148), .none, 0⟩), #[]⟩) ::
 (nat_lit 150, ⟨(.type "tuple"), none, (.seq #[] 0), #[]⟩) ::
 (nat_lit 152, ⟨(.type "tuple"), none, (.seq #[(.str "self" 390), (.str "number" 391), (.str "span" 392), (.str "low" 393), (.str "high" 394)] 0), #[]⟩) ::
 (nat_lit 153, ⟨(.type "tuple"), none, (.seq #[] 0), #[]⟩) ::
 (nat_lit 155, ⟨(.type "code"), none, (.fields #[(.str "note" 387), (.str "Deed.note" 388), (.str "/claim/cut.py" 389), (.int 57 0), (.int 2 0), (.int 0 0), (.int 0 0), (.int 3 0), (.ref 150), (.bool true), (.int 181 0), (.ref 151), .none, (.ref 152), (.ref 153), (.ref 154), (.int 395 0), (.int 57 0), (.str "/claim/cut.py" 396)]), #[]⟩) ::
 (nat_lit 156, ⟨(.type "function"), none, (.func ⟨"note", "Deed.note", defArgs (inClass (top 24) 3), .stmts (defBody (inClass (top 24) 3)), defScope (inClass (top 24) 3), 3, [], .none, .none, .none, (.str "notefall.deeds" 299), none, (.ref 155), .none, 0⟩), #[]⟩) ::
 (nat_lit 157, ⟨(.type "tuple"), none, (.seq #[] 0), #[]⟩) ::
 (nat_lit 160, ⟨(.type "code"), none, (.fields #[(.str "__str__" 398), (.str "Deed.__str__" 399), (.str "/claim/cut.py" 400), (.int 64 0), (.int 1 0), (.int 0 0), (.int 0 0), (.int 3 0), (.ref 157), (.bool true), (.int 181 0), (.ref 158), .none, .none, .none, (.ref 159), (.int 401 0), (.int 64 0), (.str "/claim/cut.py" 402)]), #[]⟩) ::
 (nat_lit 161, ⟨(.type "function"), none, (.func ⟨"__str__", "Deed.__str__", defArgs (inClass (top 24) 4), .stmts (defBody (inClass (top 24) 4)), defScope (inClass (top 24) 4), 3, [], .none, .none, .none, (.str "notefall.deeds" 299), none, (.ref 160), .none, 0⟩), #[]⟩) ::
 (nat_lit 162, ⟨(.type "tuple"), none, (.seq #[] 0), #[]⟩) ::
 (nat_lit 164, ⟨(.type "tuple"), none, (.seq #[(.str "self" 407), (.str "other" 408)] 0), #[]⟩) ::
 (nat_lit 165, ⟨(.type "tuple"), none, (.seq #[] 0), #[]⟩) ::
 (nat_lit 167, ⟨(.type "code"), none, (.fields #[(.str "__eq__" 404), (.str "Deed.__eq__" 405), (.str "/claim/cut.py" 406), (.int 67 0), (.int 2 0), (.int 0 0), (.int 0 0), (.int 3 0), (.ref 162), (.bool true), (.int 181 0), (.ref 163), .none, (.ref 164), (.ref 165), (.ref 166), (.int 409 0), (.int 67 0), (.str "/claim/cut.py" 410)]), #[]⟩) ::
 (nat_lit 168, ⟨(.type "function"), none, (.func ⟨"__eq__", "Deed.__eq__", defArgs (inClass (top 24) 5), .stmts (defBody (inClass (top 24) 5)), defScope (inClass (top 24) 5), 3, [], .none, .none, .none, (.str "notefall.deeds" 299), none, (.ref 167), .none, 0⟩), #[]⟩) ::
 (nat_lit 169, ⟨(.type "tuple"), none, (.seq #[] 0), #[]⟩) ::
 (nat_lit 170, ⟨(.type "dict"), none, (.dict (List.toArray (⟨kh P "__module__", (.str "__module__" 361), (.str "notefall.deeds" 299)⟩ :: ⟨kh P "__firstlineno__", (.str "__firstlineno__" 365), (.int 46 364)⟩ :: ⟨kh P "told", (.str "told" 372), (.ref 135)⟩ :: ⟨kh P "action", (.str "action" 379), (.ref 142)⟩ :: ⟨kh P "span", (.str "span" 386), (.ref 149)⟩ :: ⟨kh P "note", (.str "note" 397), (.ref 156)⟩ :: ⟨kh P "__str__", (.str "__str__" 403), (.ref 161)⟩ :: ⟨kh P "__eq__", (.str "__eq__" 411), (.ref 168)⟩ :: ⟨kh P "__static_attributes__", (.str "__static_attributes__" 412), (.ref 169)⟩ :: ⟨kh P "__dict__", (.str "__dict__" 414), (.ref 172)⟩ :: ⟨kh P "__weakref__", (.str "__weakref__" 416), (.ref 173)⟩ :: ⟨kh P "__doc__", (.str "__doc__" 417), .none⟩ :: ⟨kh P "__hash__", (.str "__hash__" 418), .none⟩ :: [])) 5), #[]⟩) ::
 (nat_lit 171, ⟨(.type "type"), none, (.cls ⟨"Deed", [(.type "object")], [(.ref 171), (.type "object")], 170, "Deed", true, [], [(.ref 214), (.ref 255), (.ref 296), (.ref 337), (.ref 378), (.ref 419), (.ref 446), (.ref 473)], false, none, false⟩), #[none, none, (some (.str "Deed" 354)), (some (.str "Deed" 362)), (some (.builtin "object.__new__")), (some (.bool true))]⟩) ::
 (nat_lit 172, ⟨(.type "getset_descriptor"), none, (.fields #[(.str "__dict__" 413), (.ref 171), (.builtin "function.__dict__"), (.builtin "function.__dict__#set")]), #[]⟩) ::
 (nat_lit 173, ⟨(.type "getset_descriptor"), none, (.fields #[(.str "__weakref__" 415), (.ref 171), (.builtin "ExceptionGroup.__weakref__"), .none]), #[]⟩) ::
 (nat_lit 176, ⟨(.type "tuple"), none, (.seq #[(.ref 171)] 0), #[]⟩) ::
 (nat_lit 183, ⟨(.type "tuple"), none, (.seq #[.none, .none, (.str "no more" 330)] 0), #[]⟩) ::
 (nat_lit 184, ⟨(.type "tuple"), none, (.seq #[] 0), #[]⟩) ::
 (nat_lit 186, ⟨(.type "tuple"), none, (.seq #[(.str "self" 436), (.str "key" 437), (.str "value" 438), (.str "more" 439)] 0), #[]⟩) ::
 (nat_lit 187, ⟨(.type "tuple"), none, (.seq #[] 0), #[]⟩) ::
 (nat_lit 189, ⟨(.type "code"), none, (.fields #[(.str "__init__" 433), (.str "Put.__init__" 434), (.str "/claim/cut.py" 435), (.int 71 0), (.int 4 0), (.int 0 0), (.int 0 0), (.int 3 0), (.ref 184), (.bool true), (.int 181 0), (.ref 185), .none, (.ref 186), (.ref 187), (.ref 188), (.int 440 0), (.int 71 0), (.str "/claim/cut.py" 441)]), #[]⟩) ::
 (nat_lit 190, ⟨(.type "function"), none, (.func ⟨"__init__", "Put.__init__", defArgs (inClass (top 25) 0), .stmts (defBody (inClass (top 25) 0)), defScope (inClass (top 25) 0), 3, [], (.ref 183), .none, .none, (.str "notefall.deeds" 299), none, (.ref 189), .none, 0⟩), #[]⟩) ::
 (nat_lit 191, ⟨(.type "tuple"), none, (.seq #[] 0), #[]⟩) ::
 (nat_lit 193, ⟨(.type "tuple"), none, (.seq #[(.str "self" 446)] 0), #[]⟩) ::
 (nat_lit 194, ⟨(.type "tuple"), none, (.seq #[] 0), #[]⟩) ::
 (nat_lit 196, ⟨(.type "code"), none, (.fields #[(.str "told" 443), (.str "Put.told" 444), (.str "/claim/cut.py" 445), (.int 76 0), (.int 1 0), (.int 0 0), (.int 0 0), (.int 3 0), (.ref 191), (.bool true), (.int 181 0), (.ref 192), .none, (.ref 193), (.ref 194), (.ref 195), (.int 447 0), (.int 76 0), (.str "/claim/cut.py" 448)]), #[]⟩) ::
 (nat_lit 197, ⟨(.type "function"), none, (.func ⟨"told", "Put.told", defArgs (inClass (top 25) 1), .stmts (defBody (inClass (top 25) 1)), defScope (inClass (top 25) 1), 3, [], .none, .none, .none, (.str "notefall.deeds" 299), none, (.ref 196), .none, 0⟩), #[]⟩) ::
 (nat_lit 198, ⟨(.type "tuple"), none, (.seq #[] 0), #[]⟩) ::
 (nat_lit 200, ⟨(.type "tuple"), none, (.seq #[(.str "self" 453)] 0), #[]⟩) ::
 (nat_lit 201, ⟨(.type "tuple"), none, (.seq #[] 0), #[]⟩) ::
 (nat_lit 203, ⟨(.type "code"), none, (.fields #[(.str "action" 450), (.str "Put.action" 451), (.str "/claim/cut.py" 452), (.int 79 0), (.int 1 0), (.int 0 0), (.int 0 0), (.int 3 0), (.ref 198), (.bool true), (.int 181 0), (.ref 199), .none, (.ref 200), (.ref 201), (.ref 202), (.int 454 0), (.int 79 0), (.str "/claim/cut.py" 455)]), #[]⟩) ::
 (nat_lit 204, ⟨(.type "function"), none, (.func ⟨"action", "Put.action", defArgs (inClass (top 25) 2), .stmts (defBody (inClass (top 25) 2)), defScope (inClass (top 25) 2), 3, [], .none, .none, .none, (.str "notefall.deeds" 299), none, (.ref 203), .none, 0⟩), #[]⟩) ::
 (nat_lit 205, ⟨(.type "tuple"), none, (.seq #[] 0), #[]⟩) ::
 (nat_lit 207, ⟨(.type "tuple"), none, (.seq #[(.str "self" 460)] 0), #[]⟩) ::
 (nat_lit 208, ⟨(.type "tuple"), none, (.seq #[] 0), #[]⟩) ::
 (nat_lit 210, ⟨(.type "code"), none, (.fields #[(.str "span" 457), (.str "Put.span" 458), (.str "/claim/cut.py" 459), (.int 82 0), (.int 1 0), (.int 0 0), (.int 0 0), (.int 3 0), (.ref 205), (.bool true), (.int 181 0), (.ref 206), .none, (.ref 207), (.ref 208), (.ref 209), (.int 461 0), (.int 82 0), (.str "/claim/cut.py" 462)]), #[]⟩) ::
 (nat_lit 211, ⟨(.type "function"), none, (.func ⟨"span", "Put.span", defArgs (inClass (top 25) 3), .stmts (defBody (inClass (top 25) 3)), defScope (inClass (top 25) 3), 3, [], .none, .none, .none, (.str "notefall.deeds" 299), none, (.ref 210), .none, 0⟩), #[]⟩) ::
 (nat_lit 212, ⟨(.type "tuple"), none, (.seq #[(.str "key" 464), (.str "value" 465)] 0), #[]⟩) ::
 (nat_lit 213, ⟨(.type "dict"), none, (.dict (List.toArray (⟨kh P "__module__", (.str "__module__" 428), (.str "notefall.deeds" 299)⟩ :: ⟨kh P "__firstlineno__", (.str "__firstlineno__" 432), (.int 69 431)⟩ :: ⟨kh P "__init__", (.str "__init__" 442), (.ref 190)⟩ :: ⟨kh P "told", (.str "told" 449), (.ref 197)⟩ :: ⟨kh P "action", (.str "action" 456), (.ref 204)⟩ :: ⟨kh P "span", (.str "span" 463), (.ref 211)⟩ :: ⟨kh P "__static_attributes__", (.str "__static_attributes__" 466), (.ref 212)⟩ :: ⟨kh P "__doc__", (.str "__doc__" 467), .none⟩ :: [])) 2), #[]⟩) ::
 (nat_lit 214, ⟨(.type "type"), none, (.cls ⟨"Put", [(.ref 171)], [(.ref 214), (.ref 171), (.type "object")], 213, "Put", true, [], [], false, none, false⟩), #[(some (.ref 176)), none, (some (.str "Put" 421)), (some (.str "Put" 429)), (some (.builtin "object.__new__")), (some (.bool true))]⟩) ::
 (nat_lit 217, ⟨(.type "tuple"), none, (.seq #[(.ref 171)] 0), #[]⟩) ::
 (nat_lit 224, ⟨(.type "tuple"), none, (.seq #[.none, (.str "no more" 330)] 0), #[]⟩) ::
 (nat_lit 225, ⟨(.type "tuple"), none, (.seq #[] 0), #[]⟩) ::
 (nat_lit 227, ⟨(.type "tuple"), none, (.seq #[(.str "self" 485), (.str "key" 486), (.str "more" 487)] 0), #[]⟩) ::
 (nat_lit 228, ⟨(.type "tuple"), none, (.seq #[] 0), #[]⟩) ::
 (nat_lit 230, ⟨(.type "code"), none, (.fields #[(.str "__init__" 482), (.str "Drop.__init__" 483), (.str "/claim/cut.py" 484), (.int 86 0), (.int 3 0), (.int 0 0), (.int 0 0), (.int 3 0), (.ref 225), (.bool true), (.int 181 0), (.ref 226), .none, (.ref 227), (.ref 228), (.ref 229), (.int 488 0), (.int 86 0), (.str "/claim/cut.py" 489)]), #[]⟩) ::
 (nat_lit 231, ⟨(.type "function"), none, (.func ⟨"__init__", "Drop.__init__", defArgs (inClass (top 26) 0), .stmts (defBody (inClass (top 26) 0)), defScope (inClass (top 26) 0), 3, [], (.ref 224), .none, .none, (.str "notefall.deeds" 299), none, (.ref 230), .none, 0⟩), #[]⟩) ::
 (nat_lit 232, ⟨(.type "tuple"), none, (.seq #[] 0), #[]⟩) ::
 (nat_lit 234, ⟨(.type "tuple"), none, (.seq #[(.str "self" 494)] 0), #[]⟩) ::
 (nat_lit 235, ⟨(.type "tuple"), none, (.seq #[] 0), #[]⟩) ::
 (nat_lit 237, ⟨(.type "code"), none, (.fields #[(.str "told" 491), (.str "Drop.told" 492), (.str "/claim/cut.py" 493), (.int 90 0), (.int 1 0), (.int 0 0), (.int 0 0), (.int 3 0), (.ref 232), (.bool true), (.int 181 0), (.ref 233), .none, (.ref 234), (.ref 235), (.ref 236), (.int 495 0), (.int 90 0), (.str "/claim/cut.py" 496)]), #[]⟩) ::
 (nat_lit 238, ⟨(.type "function"), none, (.func ⟨"told", "Drop.told", defArgs (inClass (top 26) 1), .stmts (defBody (inClass (top 26) 1)), defScope (inClass (top 26) 1), 3, [], .none, .none, .none, (.str "notefall.deeds" 299), none, (.ref 237), .none, 0⟩), #[]⟩) ::
 (nat_lit 239, ⟨(.type "tuple"), none, (.seq #[] 0), #[]⟩) ::
 (nat_lit 241, ⟨(.type "tuple"), none, (.seq #[(.str "self" 501)] 0), #[]⟩) ::
 (nat_lit 242, ⟨(.type "tuple"), none, (.seq #[] 0), #[]⟩) ::
 (nat_lit 244, ⟨(.type "code"), none, (.fields #[(.str "action" 498), (.str "Drop.action" 499), (.str "/claim/cut.py" 500), (.int 93 0), (.int 1 0), (.int 0 0), (.int 0 0), (.int 3 0), (.ref 239), (.bool true), (.int 181 0), (.ref 240), .none, (.ref 241), (.ref 242), (.ref 243), (.int 502 0), (.int 93 0), (.str "/claim/cut.py" 503)]), #[]⟩) ::
 (nat_lit 245, ⟨(.type "function"), none, (.func ⟨"action", "Drop.action", defArgs (inClass (top 26) 2), .stmts (defBody (inClass (top 26) 2)), defScope (inClass (top 26) 2), 3, [], .none, .none, .none, (.str "notefall.deeds" 299), none, (.ref 244), .none, 0⟩), #[]⟩) ::
 (nat_lit 246, ⟨(.type "tuple"), none, (.seq #[] 0), #[]⟩) ::
 (nat_lit 248, ⟨(.type "tuple"), none, (.seq #[(.str "self" 508)] 0), #[]⟩) ::
 (nat_lit 249, ⟨(.type "tuple"), none, (.seq #[] 0), #[]⟩) ::
 (nat_lit 251, ⟨(.type "code"), none, (.fields #[(.str "span" 505), (.str "Drop.span" 506), (.str "/claim/cut.py" 507), (.int 96 0), (.int 1 0), (.int 0 0), (.int 0 0), (.int 3 0), (.ref 246), (.bool true), (.int 181 0), (.ref 247), .none, (.ref 248), (.ref 249), (.ref 250), (.int 509 0), (.int 96 0), (.str "/claim/cut.py" 510)]), #[]⟩) ::
 (nat_lit 252, ⟨(.type "function"), none, (.func ⟨"span", "Drop.span", defArgs (inClass (top 26) 3), .stmts (defBody (inClass (top 26) 3)), defScope (inClass (top 26) 3), 3, [], .none, .none, .none, (.str "notefall.deeds" 299), none, (.ref 251), .none, 0⟩), #[]⟩) ::
 (nat_lit 253, ⟨(.type "tuple"), none, (.seq #[(.str "key" 512)] 0), #[]⟩) ::
 (nat_lit 254, ⟨(.type "dict"), none, (.dict (List.toArray (⟨kh P "__module__", (.str "__module__" 477), (.str "notefall.deeds" 299)⟩ :: ⟨kh P "__firstlineno__", (.str "__firstlineno__" 481), (.int 84 480)⟩ :: ⟨kh P "__init__", (.str "__init__" 490), (.ref 231)⟩ :: ⟨kh P "told", (.str "told" 497), (.ref 238)⟩ :: ⟨kh P "action", (.str "action" 504), (.ref 245)⟩ :: ⟨kh P "span", (.str "span" 511), (.ref 252)⟩ :: ⟨kh P "__static_attributes__", (.str "__static_attributes__" 513), (.ref 253)⟩ :: ⟨kh P "__doc__", (.str "__doc__" 514), .none⟩ :: [])) 2), #[]⟩) ::
 (nat_lit 255, ⟨(.type "type"), none, (.cls ⟨"Drop", [(.ref 171)], [(.ref 255), (.ref 171), (.type "object")], 254, "Drop", true, [], [], false, none, false⟩), #[(some (.ref 217)), none, (some (.str "Drop" 470)), (some (.str "Drop" 478)), (some (.builtin "object.__new__")), (some (.bool true))]⟩) ::
 (nat_lit 258, ⟨(.type "tuple"), none, (.seq #[(.ref 171)] 0), #[]⟩) ::
 (nat_lit 265, ⟨(.type "tuple"), none, (.seq #[.none, .none, (.str "no more" 330)] 0), #[]⟩) ::
 (nat_lit 266, ⟨(.type "tuple"), none, (.seq #[] 0), #[]⟩) ::
 (nat_lit 268, ⟨(.type "tuple"), none, (.seq #[(.str "self" 532), (.str "key" 533), (.str "by" 534), (.str "more" 535)] 0), #[]⟩) ::
 (nat_lit 269, ⟨(.type "tuple"), none, (.seq #[] 0), #[]⟩) ::
 (nat_lit 271, ⟨(.type "code"), none, (.fields #[(.str "__init__" 529), (.str "Add.__init__" 530), (.str "/claim/cut.py" 531), (.int 100 0), (.int 4 0), (.int 0 0), (.int 0 0), (.int 3 0), (.ref 266), (.bool true), (.int 181 0), (.ref 267), .none, (.ref 268), (.ref 269), (.ref 270), (.int 536 0), (.int 100 0), (.str "/claim/cut.py" 537)]), #[]⟩) ::
 (nat_lit 272, ⟨(.type "function"), none, (.func ⟨"__init__", "Add.__init__", defArgs (inClass (top 27) 0), .stmts (defBody (inClass (top 27) 0)), defScope (inClass (top 27) 0), 3, [], (.ref 265), .none, .none, (.str "notefall.deeds" 299), none, (.ref 271), .none, 0⟩), #[]⟩) ::
 (nat_lit 273, ⟨(.type "tuple"), none, (.seq #[] 0), #[]⟩) ::
 (nat_lit 275, ⟨(.type "tuple"), none, (.seq #[(.str "self" 542)] 0), #[]⟩) ::
 (nat_lit 276, ⟨(.type "tuple"), none, (.seq #[] 0), #[]⟩) ::
 (nat_lit 278, ⟨(.type "code"), none, (.fields #[(.str "told" 539), (.str "Add.told" 540), (.str "/claim/cut.py" 541), (.int 105 0), (.int 1 0), (.int 0 0), (.int 0 0), (.int 3 0), (.ref 273), (.bool true), (.int 181 0), (.ref 274), .none, (.ref 275), (.ref 276), (.ref 277), (.int 543 0), (.int 105 0), (.str "/claim/cut.py" 544)]), #[]⟩) ::
 (nat_lit 279, ⟨(.type "function"), none, (.func ⟨"told", "Add.told", defArgs (inClass (top 27) 1), .stmts (defBody (inClass (top 27) 1)), defScope (inClass (top 27) 1), 3, [], .none, .none, .none, (.str "notefall.deeds" 299), none, (.ref 278), .none, 0⟩), #[]⟩) ::
 (nat_lit 280, ⟨(.type "tuple"), none, (.seq #[] 0), #[]⟩) ::
 (nat_lit 282, ⟨(.type "tuple"), none, (.seq #[(.str "self" 549)] 0), #[]⟩) ::
 (nat_lit 283, ⟨(.type "tuple"), none, (.seq #[] 0), #[]⟩) ::
 (nat_lit 285, ⟨(.type "code"), none, (.fields #[(.str "action" 546), (.str "Add.action" 547), (.str "/claim/cut.py" 548), (.int 108 0), (.int 1 0), (.int 0 0), (.int 0 0), (.int 3 0), (.ref 280), (.bool true), (.int 181 0), (.ref 281), .none, (.ref 282), (.ref 283), (.ref 284), (.int 550 0), (.int 108 0), (.str "/claim/cut.py" 551)]), #[]⟩) ::
 (nat_lit 286, ⟨(.type "function"), none, (.func ⟨"action", "Add.action", defArgs (inClass (top 27) 2), .stmts (defBody (inClass (top 27) 2)), defScope (inClass (top 27) 2), 3, [], .none, .none, .none, (.str "notefall.deeds" 299), none, (.ref 285), .none, 0⟩), #[]⟩) ::
 (nat_lit 287, ⟨(.type "tuple"), none, (.seq #[] 0), #[]⟩) ::
 (nat_lit 289, ⟨(.type "tuple"), none, (.seq #[(.str "self" 556)] 0), #[]⟩) ::
 (nat_lit 290, ⟨(.type "tuple"), none, (.seq #[] 0), #[]⟩) ::
 (nat_lit 292, ⟨(.type "code"), none, (.fields #[(.str "span" 553), (.str "Add.span" 554), (.str "/claim/cut.py" 555), (.int 111 0), (.int 1 0), (.int 0 0), (.int 0 0), (.int 3 0), (.ref 287), (.bool true), (.int 181 0), (.ref 288), .none, (.ref 289), (.ref 290), (.ref 291), (.int 557 0), (.int 111 0), (.str "/claim/cut.py" 558)]), #[]⟩) ::
 (nat_lit 293, ⟨(.type "function"), none, (.func ⟨"span", "Add.span", defArgs (inClass (top 27) 3), .stmts (defBody (inClass (top 27) 3)), defScope (inClass (top 27) 3), 3, [], .none, .none, .none, (.str "notefall.deeds" 299), none, (.ref 292), .none, 0⟩), #[]⟩) ::
 (nat_lit 294, ⟨(.type "tuple"), none, (.seq #[(.str "by" 560), (.str "key" 561)] 0), #[]⟩) ::
 (nat_lit 295, ⟨(.type "dict"), none, (.dict (List.toArray (⟨kh P "__module__", (.str "__module__" 524), (.str "notefall.deeds" 299)⟩ :: ⟨kh P "__firstlineno__", (.str "__firstlineno__" 528), (.int 98 527)⟩ :: ⟨kh P "__init__", (.str "__init__" 538), (.ref 272)⟩ :: ⟨kh P "told", (.str "told" 545), (.ref 279)⟩ :: ⟨kh P "action", (.str "action" 552), (.ref 286)⟩ :: ⟨kh P "span", (.str "span" 559), (.ref 293)⟩ :: ⟨kh P "__static_attributes__", (.str "__static_attributes__" 562), (.ref 294)⟩ :: ⟨kh P "__doc__", (.str "__doc__" 563), .none⟩ :: [])) 2), #[]⟩) ::
 (nat_lit 296, ⟨(.type "type"), none, (.cls ⟨"Add", [(.ref 171)], [(.ref 296), (.ref 171), (.type "object")], 295, "Add", true, [], [], false, none, false⟩), #[(some (.ref 258)), none, (some (.str "Add" 517)), (some (.str "Add" 525)), (some (.builtin "object.__new__")), (some (.bool true))]⟩) ::
 (nat_lit 299, ⟨(.type "tuple"), none, (.seq #[(.ref 171)] 0), #[]⟩) ::
 (nat_lit 306, ⟨(.type "tuple"), none, (.seq #[.none, .none, (.str "no more" 330)] 0), #[]⟩) ::
 (nat_lit 307, ⟨(.type "tuple"), none, (.seq #[] 0), #[]⟩) ::
 (nat_lit 309, ⟨(.type "tuple"), none, (.seq #[(.str "self" 581), (.str "low" 582), (.str "high" 583), (.str "more" 584)] 0), #[]⟩) ::
 (nat_lit 310, ⟨(.type "tuple"), none, (.seq #[] 0), #[]⟩) ::
 (nat_lit 312, ⟨(.type "code"), none, (.fields #[(.str "__init__" 578), (.str "Wipe.__init__" 579), (.str "/claim/cut.py" 580), (.int 115 0), (.int 4 0), (.int 0 0), (.int 0 0), (.int 3 0), (.ref 307), (.bool true), (.int 181 0), (.ref 308), .none, (.ref 309), (.ref 310), (.ref 311), (.int 585 0), (.int 115 0), (.str "/claim/cut.py" 586)]), #[]⟩) ::
 (nat_lit 313, ⟨(.type "function"), none, (.func ⟨"__init__", "Wipe.__init__", defArgs (inClass (top 28) 0), .stmts (defBody (inClass (top 28) 0)), defScope (inClass (top 28) 0), 3, [], (.ref 306), .none, .none, (.str "notefall.deeds" 299), none, (.ref 312), .none, 0⟩), #[]⟩) ::
 (nat_lit 314, ⟨(.type "tuple"), none, (.seq #[] 0), #[]⟩) ::
 (nat_lit 316, ⟨(.type "tuple"), none, (.seq #[(.str "self" 591)] 0), #[]⟩) ::
 (nat_lit 317, ⟨(.type "tuple"), none, (.seq #[] 0), #[]⟩) ::
 (nat_lit 319, ⟨(.type "code"), none, (.fields #[(.str "told" 588), (.str "Wipe.told" 589), (.str "/claim/cut.py" 590), (.int 120 0), (.int 1 0), (.int 0 0), (.int 0 0), (.int 3 0), (.ref 314), (.bool true), (.int 181 0), (.ref 315), .none, (.ref 316), (.ref 317), (.ref 318), (.int 592 0), (.int 120 0), (.str "/claim/cut.py" 593)]), #[]⟩) ::
 (nat_lit 320, ⟨(.type "function"), none, (.func ⟨"told", "Wipe.told", defArgs (inClass (top 28) 1), .stmts (defBody (inClass (top 28) 1)), defScope (inClass (top 28) 1), 3, [], .none, .none, .none, (.str "notefall.deeds" 299), none, (.ref 319), .none, 0⟩), #[]⟩) ::
 (nat_lit 321, ⟨(.type "tuple"), none, (.seq #[] 0), #[]⟩) ::
 (nat_lit 323, ⟨(.type "tuple"), none, (.seq #[(.str "self" 598)] 0), #[]⟩) ::
 (nat_lit 324, ⟨(.type "tuple"), none, (.seq #[] 0), #[]⟩) ::
 (nat_lit 326, ⟨(.type "code"), none, (.fields #[(.str "action" 595), (.str "Wipe.action" 596), (.str "/claim/cut.py" 597), (.int 123 0), (.int 1 0), (.int 0 0), (.int 0 0), (.int 3 0), (.ref 321), (.bool true), (.int 181 0), (.ref 322), .none, (.ref 323), (.ref 324), (.ref 325), (.int 599 0), (.int 123 0), (.str "/claim/cut.py" 600)]), #[]⟩) ::
 (nat_lit 327, ⟨(.type "function"), none, (.func ⟨"action", "Wipe.action", defArgs (inClass (top 28) 2), .stmts (defBody (inClass (top 28) 2)), defScope (inClass (top 28) 2), 3, [], .none, .none, .none, (.str "notefall.deeds" 299), none, (.ref 326), .none, 0⟩), #[]⟩) ::
 (nat_lit 328, ⟨(.type "tuple"), none, (.seq #[] 0), #[]⟩) ::
 (nat_lit 330, ⟨(.type "tuple"), none, (.seq #[(.str "self" 605)] 0), #[]⟩) ::
 (nat_lit 331, ⟨(.type "tuple"), none, (.seq #[] 0), #[]⟩) ::
 (nat_lit 333, ⟨(.type "code"), none, (.fields #[(.str "span" 602), (.str "Wipe.span" 603), (.str "/claim/cut.py" 604), (.int 126 0), (.int 1 0), (.int 0 0), (.int 0 0), (.int 3 0), (.ref 328), (.bool true), (.int 181 0), (.ref 329), .none, (.ref 330), (.ref 331), (.ref 332), (.int 606 0), (.int 126 0), (.str "/claim/cut.py" 607)]), #[]⟩) ::
 (nat_lit 334, ⟨(.type "function"), none, (.func ⟨"span", "Wipe.span", defArgs (inClass (top 28) 3), .stmts (defBody (inClass (top 28) 3)), defScope (inClass (top 28) 3), 3, [], .none, .none, .none, (.str "notefall.deeds" 299), none, (.ref 333), .none, 0⟩), #[]⟩) ::
 (nat_lit 335, ⟨(.type "tuple"), none, (.seq #[(.str "high" 609), (.str "low" 610)] 0), #[]⟩) ::
 (nat_lit 336, ⟨(.type "dict"), none, (.dict (List.toArray (⟨kh P "__module__", (.str "__module__" 573), (.str "notefall.deeds" 299)⟩ :: ⟨kh P "__firstlineno__", (.str "__firstlineno__" 577), (.int 113 576)⟩ :: ⟨kh P "__init__", (.str "__init__" 587), (.ref 313)⟩ :: ⟨kh P "told", (.str "told" 594), (.ref 320)⟩ :: ⟨kh P "action", (.str "action" 601), (.ref 327)⟩ :: ⟨kh P "span", (.str "span" 608), (.ref 334)⟩ :: ⟨kh P "__static_attributes__", (.str "__static_attributes__" 611), (.ref 335)⟩ :: ⟨kh P "__doc__", (.str "__doc__" 612), .none⟩ :: [])) 2), #[]⟩) ::
 (nat_lit 337, ⟨(.type "type"), none, (.cls ⟨"Wipe", [(.ref 171)], [(.ref 337), (.ref 171), (.type "object")], 336, "Wipe", true, [], [], false, none, false⟩), #[(some (.ref 299)), none, (some (.str "Wipe" 566)), (some (.str "Wipe" 574)), (some (.builtin "object.__new__")), (some (.bool true))]⟩) ::
 (nat_lit 340, ⟨(.type "tuple"), none, (.seq #[(.ref 171)] 0), #[]⟩) ::
 (nat_lit 347, ⟨(.type "tuple"), none, (.seq #[.none, .none, .none, (.str "no more" 330)] 0), #[]⟩) ::
 (nat_lit 348, ⟨(.type "tuple"), none, (.seq #[] 0), #[]⟩) ::
 (nat_lit 350, ⟨(.type "tuple"), none, (.seq #[(.str "self" 630), (.str "low" 631), (.str "high" 632), (.str "by" 633), (.str "more" 634)] 0), #[]⟩) ::
 (nat_lit 351, ⟨(.type "tuple"), none, (.seq #[] 0), #[]⟩) ::
 (nat_lit 353, ⟨(.type "code"), none, (.fields #[(.str "__init__" 627), (.str "Raise.__init__" 628), (.str "/claim/cut.py" 629), (.int 130 0), (.int 5 0), (.int 0 0), (.int 0 0), (.int 3 0), (.ref 348), (.bool true), (.int 181 0), (.ref 349), .none, (.ref 350), (.ref 351), (.ref 352), (.int 635 0), (.int 130 0), (.str "/claim/cut.py" 636)]), #[]⟩) ::
 (nat_lit 354, ⟨(.type "function"), none, (.func ⟨"__init__", "Raise.__init__", defArgs (inClass (top 29) 0), .stmts (defBody (inClass (top 29) 0)), defScope (inClass (top 29) 0), 3, [], (.ref 347), .none, .none, (.str "notefall.deeds" 299), none, (.ref 353), .none, 0⟩), #[]⟩) ::
 (nat_lit 355, ⟨(.type "tuple"), none, (.seq #[] 0), #[]⟩) ::
 (nat_lit 357, ⟨(.type "tuple"), none, (.seq #[(.str "self" 641)] 0), #[]⟩) ::
 (nat_lit 358, ⟨(.type "tuple"), none, (.seq #[] 0), #[]⟩) ::
 (nat_lit 360, ⟨(.type "code"), none, (.fields #[(.str "told" 638), (.str "Raise.told" 639), (.str "/claim/cut.py" 640), (.int 136 0), (.int 1 0), (.int 0 0), (.int 0 0), (.int 3 0), (.ref 355), (.bool true), (.int 181 0), (.ref 356), .none, (.ref 357), (.ref 358), (.ref 359), (.int 642 0), (.int 136 0), (.str "/claim/cut.py" 643)]), #[]⟩) ::
 (nat_lit 361, ⟨(.type "function"), none, (.func ⟨"told", "Raise.told", defArgs (inClass (top 29) 1), .stmts (defBody (inClass (top 29) 1)), defScope (inClass (top 29) 1), 3, [], .none, .none, .none, (.str "notefall.deeds" 299), none, (.ref 360), .none, 0⟩), #[]⟩) ::
 (nat_lit 362, ⟨(.type "tuple"), none, (.seq #[] 0), #[]⟩) ::
 (nat_lit 364, ⟨(.type "tuple"), none, (.seq #[(.str "self" 648)] 0), #[]⟩) ::
 (nat_lit 365, ⟨(.type "tuple"), none, (.seq #[] 0), #[]⟩) ::
 (nat_lit 367, ⟨(.type "code"), none, (.fields #[(.str "action" 645), (.str "Raise.action" 646), (.str "/claim/cut.py" 647), (.int 139 0), (.int 1 0), (.int 0 0), (.int 0 0), (.int 3 0), (.ref 362), (.bool true), (.int 181 0), (.ref 363), .none, (.ref 364), (.ref 365), (.ref 366), (.int 649 0), (.int 139 0), (.str "/claim/cut.py" 650)]), #[]⟩) ::
 (nat_lit 368, ⟨(.type "function"), none, (.func ⟨"action", "Raise.action", defArgs (inClass (top 29) 2), .stmts (defBody (inClass (top 29) 2)), defScope (inClass (top 29) 2), 3, [], .none, .none, .none, (.str "notefall.deeds" 299), none, (.ref 367), .none, 0⟩), #[]⟩) ::
 (nat_lit 369, ⟨(.type "tuple"), none, (.seq #[] 0), #[]⟩) ::
 (nat_lit 371, ⟨(.type "tuple"), none, (.seq #[(.str "self" 655)] 0), #[]⟩) ::
 (nat_lit 372, ⟨(.type "tuple"), none, (.seq #[] 0), #[]⟩) ::
 (nat_lit 374, ⟨(.type "code"), none, (.fields #[(.str "span" 652), (.str "Raise.span" 653), (.str "/claim/cut.py" 654), (.int 142 0), (.int 1 0), (.int 0 0), (.int 0 0), (.int 3 0), (.ref 369), (.bool true), (.int 181 0), (.ref 370), .none, (.ref 371), (.ref 372), (.ref 373), (.int 656 0), (.int 142 0), (.str "/claim/cut.py" 657)]), #[]⟩) ::
 (nat_lit 375, ⟨(.type "function"), none, (.func ⟨"span", "Raise.span", defArgs (inClass (top 29) 3), .stmts (defBody (inClass (top 29) 3)), defScope (inClass (top 29) 3), 3, [], .none, .none, .none, (.str "notefall.deeds" 299), none, (.ref 374), .none, 0⟩), #[]⟩) ::
 (nat_lit 376, ⟨(.type "tuple"), none, (.seq #[(.str "by" 659), (.str "high" 660), (.str "low" 661)] 0), #[]⟩) ::
 (nat_lit 377, ⟨(.type "dict"), none, (.dict (List.toArray (⟨kh P "__module__", (.str "__module__" 622), (.str "notefall.deeds" 299)⟩ :: ⟨kh P "__firstlineno__", (.str "__firstlineno__" 626), (.int 128 625)⟩ :: ⟨kh P "__init__", (.str "__init__" 637), (.ref 354)⟩ :: ⟨kh P "told", (.str "told" 644), (.ref 361)⟩ :: ⟨kh P "action", (.str "action" 651), (.ref 368)⟩ :: ⟨kh P "span", (.str "span" 658), (.ref 375)⟩ :: ⟨kh P "__static_attributes__", (.str "__static_attributes__" 662), (.ref 376)⟩ :: ⟨kh P "__doc__", (.str "__doc__" 663), .none⟩ :: [])) 2), #[]⟩) ::
 (nat_lit 378, ⟨(.type "type"), none, (.cls ⟨"Raise", [(.ref 171)], [(.ref 378), (.ref 171), (.type "object")], 377, "Raise", true, [], [], false, none, false⟩), #[(some (.ref 340)), none, (some (.str "Raise" 615)), (some (.str "Raise" 623)), (some (.builtin "object.__new__")), (some (.bool true))]⟩) ::
 (nat_lit 381, ⟨(.type "tuple"), none, (.seq #[(.ref 171)] 0), #[]⟩) ::
 (nat_lit 388, ⟨(.type "tuple"), none, (.seq #[.none, .none, .none, (.str "no more" 330)] 0), #[]⟩) ::
 (nat_lit 389, ⟨(.type "tuple"), none, (.seq #[] 0), #[]⟩) ::
 (nat_lit 391, ⟨(.type "tuple"), none, (.seq #[(.str "self" 681), (.str "low" 682), (.str "high" 683), (.str "value" 684), (.str "more" 685)] 0), #[]⟩) ::
 (nat_lit 392, ⟨(.type "tuple"), none, (.seq #[] 0), #[]⟩) ::
 (nat_lit 394, ⟨(.type "code"), none, (.fields #[(.str "__init__" 678), (.str "Level.__init__" 679), (.str "/claim/cut.py" 680), (.int 146 0), (.int 5 0), (.int 0 0), (.int 0 0), (.int 3 0), (.ref 389), (.bool true), (.int 181 0), (.ref 390), .none, (.ref 391), (.ref 392), (.ref 393), (.int 686 0), (.int 146 0), (.str "/claim/cut.py" 687)]), #[]⟩) ::
 (nat_lit 395, ⟨(.type "function"), none, (.func ⟨"__init__", "Level.__init__", defArgs (inClass (top 30) 0), .stmts (defBody (inClass (top 30) 0)), defScope (inClass (top 30) 0), 3, [], (.ref 388), .none, .none, (.str "notefall.deeds" 299), none, (.ref 394), .none, 0⟩), #[]⟩) ::
 (nat_lit 396, ⟨(.type "tuple"), none, (.seq #[] 0), #[]⟩) ::
 (nat_lit 398, ⟨(.type "tuple"), none, (.seq #[(.str "self" 692)] 0), #[]⟩) ::
 (nat_lit 399, ⟨(.type "tuple"), none, (.seq #[] 0), #[]⟩) ::
 (nat_lit 401, ⟨(.type "code"), none, (.fields #[(.str "told" 689), (.str "Level.told" 690), (.str "/claim/cut.py" 691), (.int 152 0), (.int 1 0), (.int 0 0), (.int 0 0), (.int 3 0), (.ref 396), (.bool true), (.int 181 0), (.ref 397), .none, (.ref 398), (.ref 399), (.ref 400), (.int 693 0), (.int 152 0), (.str "/claim/cut.py" 694)]), #[]⟩) ::
 (nat_lit 402, ⟨(.type "function"), none, (.func ⟨"told", "Level.told", defArgs (inClass (top 30) 1), .stmts (defBody (inClass (top 30) 1)), defScope (inClass (top 30) 1), 3, [], .none, .none, .none, (.str "notefall.deeds" 299), none, (.ref 401), .none, 0⟩), #[]⟩) ::
 (nat_lit 403, ⟨(.type "tuple"), none, (.seq #[] 0), #[]⟩) ::
 (nat_lit 405, ⟨(.type "tuple"), none, (.seq #[(.str "self" 699)] 0), #[]⟩) ::
 (nat_lit 406, ⟨(.type "tuple"), none, (.seq #[] 0), #[]⟩) ::
 (nat_lit 408, ⟨(.type "code"), none, (.fields #[(.str "action" 696), (.str "Level.action" 697), (.str "/claim/cut.py" 698), (.int 155 0), (.int 1 0), (.int 0 0), (.int 0 0), (.int 3 0), (.ref 403), (.bool true), (.int 181 0), (.ref 404), .none, (.ref 405), (.ref 406), (.ref 407), (.int 700 0), (.int 155 0), (.str "/claim/cut.py" 701)]), #[]⟩) ::
 (nat_lit 409, ⟨(.type "function"), none, (.func ⟨"action", "Level.action", defArgs (inClass (top 30) 2), .stmts (defBody (inClass (top 30) 2)), defScope (inClass (top 30) 2), 3, [], .none, .none, .none, (.str "notefall.deeds" 299), none, (.ref 408), .none, 0⟩), #[]⟩) ::
 (nat_lit 410, ⟨(.type "tuple"), none, (.seq #[] 0), #[]⟩) ::
 (nat_lit 412, ⟨(.type "tuple"), none, (.seq #[(.str "self" 706)] 0), #[]⟩) ::
 (nat_lit 413, ⟨(.type "tuple"), none, (.seq #[] 0), #[]⟩) ::
 (nat_lit 415, ⟨(.type "code"), none, (.fields #[(.str "span" 703), (.str "Level.span" 704), (.str "/claim/cut.py" 705), (.int 158 0), (.int 1 0), (.int 0 0), (.int 0 0), (.int 3 0), (.ref 410), (.bool true), (.int 181 0), (.ref 411), .none, (.ref 412), (.ref 413), (.ref 414), (.int 707 0), (.int 158 0), (.str "/claim/cut.py" 708)]), #[]⟩) ::
 (nat_lit 416, ⟨(.type "function"), none, (.func ⟨"span", "Level.span", defArgs (inClass (top 30) 3), .stmts (defBody (inClass (top 30) 3)), defScope (inClass (top 30) 3), 3, [], .none, .none, .none, (.str "notefall.deeds" 299), none, (.ref 415), .none, 0⟩), #[]⟩) ::
 (nat_lit 417, ⟨(.type "tuple"), none, (.seq #[(.str "high" 710), (.str "low" 711), (.str "value" 712)] 0), #[]⟩) ::
 (nat_lit 418, ⟨(.type "dict"), none, (.dict (List.toArray (⟨kh P "__module__", (.str "__module__" 673), (.str "notefall.deeds" 299)⟩ :: ⟨kh P "__firstlineno__", (.str "__firstlineno__" 677), (.int 144 676)⟩ :: ⟨kh P "__init__", (.str "__init__" 688), (.ref 395)⟩ :: ⟨kh P "told", (.str "told" 695), (.ref 402)⟩ :: ⟨kh P "action", (.str "action" 702), (.ref 409)⟩ :: ⟨kh P "span", (.str "span" 709), (.ref 416)⟩ :: ⟨kh P "__static_attributes__", (.str "__static_attributes__" 713), (.ref 417)⟩ :: ⟨kh P "__doc__", (.str "__doc__" 714), .none⟩ :: [])) 2), #[]⟩) ::
 (nat_lit 419, ⟨(.type "type"), none, (.cls ⟨"Level", [(.ref 171)], [(.ref 419), (.ref 171), (.type "object")], 418, "Level", true, [], [], false, none, false⟩), #[(some (.ref 381)), none, (some (.str "Level" 666)), (some (.str "Level" 674)), (some (.builtin "object.__new__")), (some (.bool true))]⟩) ::
 (nat_lit 422, ⟨(.type "tuple"), none, (.seq #[(.ref 171)] 0), #[]⟩) ::
 (nat_lit 429, ⟨(.type "tuple"), none, (.seq #[(.str "no more" 330)] 0), #[]⟩) ::
 (nat_lit 430, ⟨(.type "tuple"), none, (.seq #[] 0), #[]⟩) ::
 (nat_lit 432, ⟨(.type "tuple"), none, (.seq #[(.str "self" 732), (.str "more" 733)] 0), #[]⟩) ::
 (nat_lit 433, ⟨(.type "tuple"), none, (.seq #[] 0), #[]⟩) ::
 (nat_lit 435, ⟨(.type "code"), none, (.fields #[(.str "__init__" 729), (.str "Mark.__init__" 730), (.str "/claim/cut.py" 731), (.int 162 0), (.int 2 0), (.int 0 0), (.int 0 0), (.int 3 0), (.ref 430), (.bool true), (.int 181 0), (.ref 431), .none, (.ref 432), (.ref 433), (.ref 434), (.int 734 0), (.int 162 0), (.str "/claim/cut.py" 735)]), #[]⟩) ::
 (nat_lit 436, ⟨(.type "function"), none, (.func ⟨"__init__", "Mark.__init__", defArgs (inClass (top 31) 0), .stmts (defBody (inClass (top 31) 0)), defScope (inClass (top 31) 0), 3, [], (.ref 429), .none, .none, (.str "notefall.deeds" 299), none, (.ref 435), .none, 0⟩), #[]⟩) ::
 (nat_lit 437, ⟨(.type "tuple"), none, (.seq #[] 0), #[]⟩) ::
 (nat_lit 439, ⟨(.type "tuple"), none, (.seq #[(.str "self" 740)] 0), #[]⟩) ::
 (nat_lit 440, ⟨(.type "tuple"), none, (.seq #[] 0), #[]⟩) ::
 (nat_lit 442, ⟨(.type "code"), none, (.fields #[(.str "told" 737), (.str "Mark.told" 738), (.str "/claim/cut.py" 739), (.int 165 0), (.int 1 0), (.int 0 0), (.int 0 0), (.int 3 0), (.ref 437), (.bool true), (.int 181 0), (.ref 438), .none, (.ref 439), (.ref 440), (.ref 441), (.int 741 0), (.int 165 0), (.str "/claim/cut.py" 742)]), #[]⟩) ::
 (nat_lit 443, ⟨(.type "function"), none, (.func ⟨"told", "Mark.told", defArgs (inClass (top 31) 1), .stmts (defBody (inClass (top 31) 1)), defScope (inClass (top 31) 1), 3, [], .none, .none, .none, (.str "notefall.deeds" 299), none, (.ref 442), .none, 0⟩), #[]⟩) ::
 (nat_lit 444, ⟨(.type "tuple"), none, (.seq #[] 0), #[]⟩) ::
 (nat_lit 445, ⟨(.type "dict"), none, (.dict (List.toArray (⟨kh P "__module__", (.str "__module__" 724), (.str "notefall.deeds" 299)⟩ :: ⟨kh P "__firstlineno__", (.str "__firstlineno__" 728), (.int 160 727)⟩ :: ⟨kh P "__init__", (.str "__init__" 736), (.ref 436)⟩ :: ⟨kh P "told", (.str "told" 743), (.ref 443)⟩ :: ⟨kh P "__static_attributes__", (.str "__static_attributes__" 744), (.ref 444)⟩ :: ⟨kh P "__doc__", (.str "__doc__" 745), .none⟩ :: [])) 2), #[]⟩) ::
 (nat_lit 446, ⟨(.type "type"), none, (.cls ⟨"Mark", [(.ref 171)], [(.ref 446), (.ref 171), (.type "object")], 445, "Mark", true, [], [], false, none, false⟩), #[(some (.ref 422)), none, (some (.str "Mark" 717)), (some (.str "Mark" 725)), (some (.builtin "object.__new__")), (some (.bool true))]⟩) ::
 (nat_lit 449, ⟨(.type "tuple"), none, (.seq #[(.ref 171)] 0), #[]⟩) ::
 (nat_lit 456, ⟨(.type "tuple"), none, (.seq #[.none, (.str "no more" 330)] 0), #[]⟩) ::
 (nat_lit 457, ⟨(.type "tuple"), none, (.seq #[] 0), #[]⟩) ::
 (nat_lit 459, ⟨(.type "tuple"), none, (.seq #[(.str "self" 763), (.str "mark" 764), (.str "more" 765)] 0), #[]⟩) ::
 (nat_lit 460, ⟨(.type "tuple"), none, (.seq #[] 0), #[]⟩) ::
 (nat_lit 462, ⟨(.type "code"), none, (.fields #[(.str "__init__" 760), (.str "Forget.__init__" 761), (.str "/claim/cut.py" 762), (.int 169 0), (.int 3 0), (.int 0 0), (.int 0 0), (.int 3 0), (.ref 457), (.bool true), (.int 181 0), (.ref 458), .none, (.ref 459), (.ref 460), (.ref 461), (.int 766 0), (.int 169 0), (.str "/claim/cut.py" 767)]), #[]⟩) ::
 (nat_lit 463, ⟨(.type "function"), none, (.func ⟨"__init__", "Forget.__init__", defArgs (inClass (top 32) 0), .stmts (defBody (inClass (top 32) 0)), defScope (inClass (top 32) 0), 3, [], (.ref 456), .none, .none, (.str "notefall.deeds" 299), none, (.ref 462), .none, 0⟩), #[]⟩) ::
 (nat_lit 464, ⟨(.type "tuple"), none, (.seq #[] 0), #[]⟩) ::
 (nat_lit 466, ⟨(.type "tuple"), none, (.seq #[(.str "self" 772)] 0), #[]⟩) ::
 (nat_lit 467, ⟨(.type "tuple"), none, (.seq #[] 0), #[]⟩) ::
 (nat_lit 469, ⟨(.type "code"), none, (.fields #[(.str "told" 769), (.str "Forget.told" 770), (.str "/claim/cut.py" 771), (.int 173 0), (.int 1 0), (.int 0 0), (.int 0 0), (.int 3 0), (.ref 464), (.bool true), (.int 181 0), (.ref 465), .none, (.ref 466), (.ref 467), (.ref 468), (.int 773 0), (.int 173 0), (.str "/claim/cut.py" 774)]), #[]⟩) ::
 (nat_lit 470, ⟨(.type "function"), none, (.func ⟨"told", "Forget.told", defArgs (inClass (top 32) 1), .stmts (defBody (inClass (top 32) 1)), defScope (inClass (top 32) 1), 3, [], .none, .none, .none, (.str "notefall.deeds" 299), none, (.ref 469), .none, 0⟩), #[]⟩) ::
 (nat_lit 471, ⟨(.type "tuple"), none, (.seq #[(.str "mark" 776)] 0), #[]⟩) ::
 (nat_lit 472, ⟨(.type "dict"), none, (.dict (List.toArray (⟨kh P "__module__", (.str "__module__" 755), (.str "notefall.deeds" 299)⟩ :: ⟨kh P "__firstlineno__", (.str "__firstlineno__" 759), (.int 167 758)⟩ :: ⟨kh P "__init__", (.str "__init__" 768), (.ref 463)⟩ :: ⟨kh P "told", (.str "told" 775), (.ref 470)⟩ :: ⟨kh P "__static_attributes__", (.str "__static_attributes__" 777), (.ref 471)⟩ :: ⟨kh P "__doc__", (.str "__doc__" 778), .none⟩ :: [])) 2), #[]⟩) ::
 (nat_lit 473, ⟨(.type "type"), none, (.cls ⟨"Forget", [(.ref 171)], [(.ref 473), (.ref 171), (.type "object")], 472, "Forget", true, [], [], false, none, false⟩), #[(some (.ref 449)), none, (some (.str "Forget" 748)), (some (.str "Forget" 756)), (some (.builtin "object.__new__")), (some (.bool true))]⟩) ::
 (nat_lit 476, ⟨(.type "tuple"), none, (.seq #[] 0), #[]⟩) ::
 (nat_lit 478, ⟨(.type "tuple"), none, (.seq #[(.str "told" 784)] 0), #[]⟩) ::
 (nat_lit 479, ⟨(.type "tuple"), none, (.seq #[] 0), #[]⟩) ::
 (nat_lit 481, ⟨(.type "code"), none, (.fields #[(.str "has_form" 781), (.str "has_form" 782), (.str "/claim/cut.py" 783), (.int 175 0), (.int 1 0), (.int 0 0), (.int 0 0), (.int 3 0), (.ref 476), (.bool true), (.int 181 0), (.ref 477), .none, (.ref 478), (.ref 479), (.ref 480), (.int 785 0), (.int 175 0), (.str "/claim/cut.py" 786)]), #[]⟩) ::
 (nat_lit 482, ⟨(.type "function"), none, (.func ⟨"has_form", "has_form", defArgs (top 33), .stmts (defBody (top 33)), defScope (top 33), 3, [], .none, .none, .none, (.str "notefall.deeds" 299), none, (.ref 481), .none, 0⟩), #[]⟩) ::
 (nat_lit 483, ⟨(.type "tuple"), none, (.seq #[] 0), #[]⟩) ::
 (nat_lit 485, ⟨(.type "tuple"), none, (.seq #[(.str "told" 791), (.str "word" 792)] 0), #[]⟩) ::
 (nat_lit 486, ⟨(.type "tuple"), none, (.seq #[] 0), #[]⟩) ::
 (nat_lit 488, ⟨(.type "code"), none, (.fields #[(.str "deed_of" 788), (.str "deed_of" 789), (.str "/claim/cut.py" 790), (.int 179 0), (.int 1 0), (.int 0 0), (.int 0 0), (.int 3 0), (.ref 483), (.bool true), (.int 181 0), (.ref 484), .none, (.ref 485), (.ref 486), (.ref 487), (.int 793 0), (.int 179 0), (.str "/claim/cut.py" 794)]), #[]⟩) ::
 (nat_lit 489, ⟨(.type "function"), none, (.func ⟨"deed_of", "deed_of", defArgs (top 34), .stmts (defBody (top 34)), defScope (top 34), 3, [], .none, .none, .none, (.str "notefall.deeds" 299), none, (.ref 488), .none, 0⟩), #[]⟩) ::
 (nat_lit 490, ⟨(.type "tuple"), none, (.seq #[] 0), #[]⟩) ::
 (nat_lit 493, ⟨(.type "code"), none, (.fields #[(.str "read_words" 796), (.str "read_words" 797), (.str "/claim/cut.py" 798), (.int 198 0), (.int 1 0), (.int 0 0), (.int 0 0), (.int 3 0), (.ref 490), (.bool true), (.int 181 0), (.ref 491), .none, .none, .none, (.ref 492), (.int 799 0), (.int 198 0), (.str "/claim/cut.py" 800)]), #[]⟩) ::
 (nat_lit 494, ⟨(.type "function"), none, (.func ⟨"read_words", "read_words", defArgs (top 35), .stmts (defBody (top 35)), defScope (top 35), 3, [], .none, .none, .none, (.str "notefall.deeds" 299), none, (.ref 493), .none, 0⟩), #[]⟩) ::
 (nat_lit 495, ⟨(.type "tuple"), none, (.seq #[] 0), #[]⟩) ::
 (nat_lit 497, ⟨(.type "tuple"), none, (.seq #[(.str "_law_cell" 807)] 0), #[]⟩) ::
 (nat_lit 498, ⟨(.type "tuple"), none, (.seq #[] 0), #[]⟩) ::
 (nat_lit 500, ⟨(.type "code"), none, (.fields #[(.str "_law_well" 804), (.str "_law_well" 805), (.str "/claim/cut.py" 806), (.int 204 0), (.int 1 0), (.int 0 0), (.int 0 0), (.int 3 0), (.ref 495), (.bool true), (.int 181 0), (.ref 496), .none, (.ref 497), (.ref 498), (.ref 499), (.int 808 0), (.int 204 0), (.str "/claim/cut.py" 809)]), #[]⟩) ::
 (nat_lit 501, ⟨(.type "function"), none, (.func ⟨"_law_well", "_law_well", defArgs (top 37), .stmts (defBody (top 37)), defScope (top 37), 3, [], .none, .none, .none, (.str "law_notefall_k11_deeds_made" 802), none, (.ref 500), .none, 0⟩), #[]⟩) ::
 (nat_lit 502, ⟨(.type "tuple"), none, (.seq #[] 0), #[]⟩) ::
 (nat_lit 504, ⟨(.type "tuple"), none, (.seq #[(.str "_law_well_here" 814), (.str "_law_many" 815), (.str "_law_found" 816), (.str "_law_low" 817)] 0), #[]⟩) ::
 (nat_lit 505, ⟨(.type "tuple"), none, (.seq #[] 0), #[]⟩) ::
 (nat_lit 507, ⟨(.type "code"), none, (.fields #[(.str "_law_draw" 811), (.str "_law_draw" 812), (.str "/claim/cut.py" 813), (.int 206 0), (.int 2 0), (.int 0 0), (.int 0 0), (.int 3 0), (.ref 502), (.bool true), (.int 181 0), (.ref 503), .none, (.ref 504), (.ref 505), (.ref 506), (.int 818 0), (.int 206 0), (.str "/claim/cut.py" 819)]), #[]⟩) ::
 (nat_lit 508, ⟨(.type "function"), none, (.func ⟨"_law_draw", "_law_draw", defArgs (top 38), .stmts (defBody (top 38)), defScope (top 38), 3, [], .none, .none, .none, (.str "law_notefall_k11_deeds_made" 802), none, (.ref 507), .none, 0⟩), #[]⟩) ::
 (nat_lit 509, ⟨(.type "tuple"), none, (.seq #[] 0), #[]⟩) ::
 (nat_lit 511, ⟨(.type "tuple"), none, (.seq #[(.str "_law_well_here" 824), (.str "_law_way" 825), (.str "_law_base" 826)] 0), #[]⟩) ::
 (nat_lit 512, ⟨(.type "tuple"), none, (.seq #[] 0), #[]⟩) ::
 (nat_lit 514, ⟨(.type "code"), none, (.fields #[(.str "_law_key" 821), (.str "_law_key" 822), (.str "/claim/cut.py" 823), (.int 216 0), (.int 1 0), (.int 0 0), (.int 0 0), (.int 3 0), (.ref 509), (.bool true), (.int 181 0), (.ref 510), .none, (.ref 511), (.ref 512), (.ref 513), (.int 827 0), (.int 216 0), (.str "/claim/cut.py" 828)]), #[]⟩) ::
 (nat_lit 515, ⟨(.type "function"), none, (.func ⟨"_law_key", "_law_key", defArgs (top 39), .stmts (defBody (top 39)), defScope (top 39), 3, [], .none, .none, .none, (.str "law_notefall_k11_deeds_made" 802), none, (.ref 514), .none, 0⟩), #[]⟩) ::
 (nat_lit 516, ⟨(.type "tuple"), none, (.seq #[] 0), #[]⟩) ::
 (nat_lit 518, ⟨(.type "tuple"), none, (.seq #[(.str "_law_well_here" 833), (.str "_law_way" 834), (.str "_law_sign" 835), (.str "_law_near" 836)] 0), #[]⟩) ::
 (nat_lit 519, ⟨(.type "tuple"), none, (.seq #[] 0), #[]⟩) ::
 (nat_lit 521, ⟨(.type "code"), none, (.fields #[(.str "_law_amount" 830), (.str "_law_amount" 831), (.str "/claim/cut.py" 832), (.int 222 0), (.int 1 0), (.int 0 0), (.int 0 0), (.int 3 0), (.ref 516), (.bool true), (.int 181 0), (.ref 517), .none, (.ref 518), (.ref 519), (.ref 520), (.int 837 0), (.int 222 0), (.str "/claim/cut.py" 838)]), #[]⟩) ::
 (nat_lit 522, ⟨(.type "function"), none, (.func ⟨"_law_amount", "_law_amount", defArgs (top 40), .stmts (defBody (top 40)), defScope (top 40), 3, [], .none, .none, .none, (.str "law_notefall_k11_deeds_made" 802), none, (.ref 521), .none, 0⟩), #[]⟩) ::
 (nat_lit 523, ⟨(.type "tuple"), none, (.seq #[] 0), #[]⟩) ::
 (nat_lit 525, ⟨(.type "tuple"), none, (.seq #[(.str "_law_well_here" 843), (.str "_law_way" 844), (.str "_law_low" 845), (.str "_law_far" 846)] 0), #[]⟩) ::
 (nat_lit 526, ⟨(.type "tuple"), none, (.seq #[] 0), #[]⟩) ::
 (nat_lit 528, ⟨(.type "code"), none, (.fields #[(.str "_law_stretch" 840), (.str "_law_stretch" 841), (.str "/claim/cut.py" 842), (.int 231 0), (.int 1 0), (.int 0 0), (.int 0 0), (.int 3 0), (.ref 523), (.bool true), (.int 181 0), (.ref 524), .none, (.ref 525), (.ref 526), (.ref 527), (.int 847 0), (.int 231 0), (.str "/claim/cut.py" 848)]), #[]⟩) ::
 (nat_lit 529, ⟨(.type "function"), none, (.func ⟨"_law_stretch", "_law_stretch", defArgs (top 41), .stmts (defBody (top 41)), defScope (top 41), 3, [], .none, .none, .none, (.str "law_notefall_k11_deeds_made" 802), none, (.ref 528), .none, 0⟩), #[]⟩) ::
 (nat_lit 530, ⟨(.type "tuple"), none, (.seq #[] 0), #[]⟩) ::
 (nat_lit 532, ⟨(.type "tuple"), none, (.seq #[(.str "_law_well_here" 853), (.str "_law_way" 854), (.str "_law_word" 855), (.str "_law_low" 856), (.str "_law_high" 857)] 0), #[]⟩) ::
 (nat_lit 533, ⟨(.type "tuple"), none, (.seq #[] 0), #[]⟩) ::
 (nat_lit 535, ⟨(.type "code"), none, (.fields #[(.str "_law_deed" 850), (.str "_law_deed" 851), (.str "/claim/cut.py" 852), (.int 240 0), (.int 1 0), (.int 0 0), (.int 0 0), (.int 3 0), (.ref 530), (.bool true), (.int 181 0), (.ref 531), .none, (.ref 532), (.ref 533), (.ref 534), (.int 858 0), (.int 240 0), (.str "/claim/cut.py" 859)]), #[]⟩) ::
 (nat_lit 536, ⟨(.type "function"), none, (.func ⟨"_law_deed", "_law_deed", defArgs (top 42), .stmts (defBody (top 42)), defScope (top 42), 3, [], .none, .none, .none, (.str "law_notefall_k11_deeds_made" 802), none, (.ref 535), .none, 0⟩), #[]⟩) ::
 (nat_lit 537, ⟨(.type "tuple"), none, (.seq #[] 0), #[]⟩) ::
 (nat_lit 539, ⟨(.type "tuple"), none, (.seq #[(.str "_law_told" 864), (.str "_law_word" 865)] 0), #[]⟩) ::
 (nat_lit 540, ⟨(.type "tuple"), none, (.seq #[] 0), #[]⟩) ::
 (nat_lit 542, ⟨(.type "code"), none, (.fields #[(.str "_law_by_place" 861), (.str "_law_by_place" 862), (.str "/claim/cut.py" 863), (.int 249 0), (.int 1 0), (.int 0 0), (.int 0 0), (.int 3 0), (.ref 537), (.bool true), (.int 181 0), (.ref 538), .none, (.ref 539), (.ref 540), (.ref 541), (.int 866 0), (.int 249 0), (.str "/claim/cut.py" 867)]), #[]⟩) ::
 (nat_lit 543, ⟨(.type "function"), none, (.func ⟨"_law_by_place", "_law_by_place", defArgs (top 43), .stmts (defBody (top 43)), defScope (top 43), 3, [], .none, .none, .none, (.str "law_notefall_k11_deeds_made" 802), none, (.ref 542), .none, 0⟩), #[]⟩) ::
 (nat_lit 544, ⟨(.type "tuple"), none, (.seq #[] 0), #[]⟩) ::
 (nat_lit 546, ⟨(.type "tuple"), none, (.seq #[(.str "_law_told" 872), (.str "_law_word" 873)] 0), #[]⟩) ::
 (nat_lit 547, ⟨(.type "tuple"), none, (.seq #[] 0), #[]⟩) ::
 (nat_lit 549, ⟨(.type "code"), none, (.fields #[(.str "_law_action" 869), (.str "_law_action" 870), (.str "/claim/cut.py" 871), (.int 266 0), (.int 1 0), (.int 0 0), (.int 0 0), (.int 3 0), (.ref 544), (.bool true), (.int 181 0), (.ref 545), .none, (.ref 546), (.ref 547), (.ref 548), (.int 874 0), (.int 266 0), (.str "/claim/cut.py" 875)]), #[]⟩) ::
 (nat_lit 550, ⟨(.type "function"), none, (.func ⟨"_law_action", "_law_action", defArgs (top 44), .stmts (defBody (top 44)), defScope (top 44), 3, [], .none, .none, .none, (.str "law_notefall_k11_deeds_made" 802), none, (.ref 549), .none, 0⟩), #[]⟩) ::
 (nat_lit 551, ⟨(.type "tuple"), none, (.seq #[] 0), #[]⟩) ::
 (nat_lit 553, ⟨(.type "tuple"), none, (.seq #[(.str "_law_told" 880), (.str "_law_number" 881)] 0), #[]⟩) ::
 (nat_lit 554, ⟨(.type "tuple"), none, (.seq #[] 0), #[]⟩) ::
 (nat_lit 556, ⟨(.type "code"), none, (.fields #[(.str "_law_note" 877), (.str "_law_note" 878), (.str "/claim/cut.py" 879), (.int 275 0), (.int 2 0), (.int 0 0), (.int 0 0), (.int 3 0), (.ref 551), (.bool true), (.int 181 0), (.ref 552), .none, (.ref 553), (.ref 554), (.ref 555), (.int 882 0), (.int 275 0), (.str "/claim/cut.py" 883)]), #[]⟩) ::
 (nat_lit 557, ⟨(.type "function"), none, (.func ⟨"_law_note", "_law_note", defArgs (top 45), .stmts (defBody (top 45)), defScope (top 45), 3, [], .none, .none, .none, (.str "law_notefall_k11_deeds_made" 802), none, (.ref 556), .none, 0⟩), #[]⟩) ::
 (nat_lit 558, ⟨(.type "tuple"), none, (.seq #[] 0), #[]⟩) ::
 (nat_lit 560, ⟨(.type "tuple"), none, (.seq #[(.str "_law_deed_here" 888), (.str "_law_kinds_here" 889)] 0), #[]⟩) ::
 (nat_lit 561, ⟨(.type "tuple"), none, (.seq #[] 0), #[]⟩) ::
 (nat_lit 563, ⟨(.type "code"), none, (.fields #[(.str "_law_kinds" 885), (.str "_law_kinds" 886), (.str "/claim/cut.py" 887), (.int 281 0), (.int 1 0), (.int 0 0), (.int 0 0), (.int 3 0), (.ref 558), (.bool true), (.int 181 0), (.ref 559), .none, (.ref 560), (.ref 561), (.ref 562), (.int 890 0), (.int 281 0), (.str "/claim/cut.py" 891)]), #[]⟩) ::
 (nat_lit 564, ⟨(.type "function"), none, (.func ⟨"_law_kinds", "_law_kinds", defArgs (top 46), .stmts (defBody (top 46)), defScope (top 46), 3, [], .none, .none, .none, (.str "law_notefall_k11_deeds_made" 802), none, (.ref 563), .none, 0⟩), #[]⟩) ::
 (nat_lit 565, ⟨(.type "tuple"), none, (.seq #[] 0), #[]⟩) ::
 (nat_lit 568, ⟨(.type "code"), none, (.fields #[(.str "_law_right" 893), (.str "_law_right" 894), (.str "/claim/cut.py" 895), (.int 285 0), (.int 3 0), (.int 0 0), (.int 0 0), (.int 3 0), (.ref 565), (.bool true), (.int 181 0), (.ref 566), .none, .none, .none, (.ref 567), (.int 896 0), (.int 285 0), (.str "/claim/cut.py" 897)]), #[]⟩) ::
 (nat_lit 569, ⟨(.type "function"), none, (.func ⟨"_law_right", "_law_right", defArgs (top 47), .stmts (defBody (top 47)), defScope (top 47), 3, [], .none, .none, .none, (.str "law_notefall_k11_deeds_made" 802), none, (.ref 568), .none, 0⟩), #[]⟩) ::
 (nat_lit 570, ⟨(.type "tuple"), none, (.seq #[] 0), #[]⟩) ::
 (nat_lit 573, ⟨(.type "code"), none, (.fields #[(.str "law" 899), (.str "law" 900), (.str "/claim/cut.py" 901), (.int 293 0), (.int 1 0), (.int 0 0), (.int 0 0), (.int 3 0), (.ref 570), (.bool true), (.int 181 0), (.ref 571), .none, .none, .none, (.ref 572), (.int 902 0), (.int 293 0), (.str "/claim/cut.py" 903)]), #[]⟩) ::
 (nat_lit 574, ⟨(.type "function"), none, (.func ⟨"law", "law", defArgs (top 48), .stmts (defBody (top 48)), defScope (top 48), 3, [], .none, .none, .none, (.str "law_notefall_k11_deeds_made" 802), none, (.ref 573), .none, 0⟩), #[]⟩) :: []
def hAs : List Addr := nat_lit 2 :: nat_lit 3 :: nat_lit 15 :: nat_lit 22 :: nat_lit 23 :: nat_lit 24 :: nat_lit 25 :: nat_lit 28 :: nat_lit 35 :: nat_lit 36 :: nat_lit 37 :: nat_lit 40 :: nat_lit 42 :: nat_lit 43 :: nat_lit 45 :: nat_lit 46 :: nat_lit 47 :: nat_lit 49 :: nat_lit 50 :: nat_lit 52 :: nat_lit 53 :: nat_lit 54 :: nat_lit 56 :: nat_lit 57 :: nat_lit 59 :: nat_lit 60 :: nat_lit 61 :: nat_lit 63 :: nat_lit 64 :: nat_lit 66 :: nat_lit 67 :: nat_lit 68 :: nat_lit 70 :: nat_lit 71 :: nat_lit 73 :: nat_lit 74 :: nat_lit 75 :: nat_lit 76 :: nat_lit 77 :: nat_lit 78 :: nat_lit 79 :: nat_lit 81 :: nat_lit 82 :: nat_lit 84 :: nat_lit 85 :: nat_lit 86 :: nat_lit 88 :: nat_lit 89 :: nat_lit 91 :: nat_lit 92 :: nat_lit 93 :: nat_lit 95 :: nat_lit 96 :: nat_lit 98 :: nat_lit 99 :: nat_lit 100 :: nat_lit 101 :: nat_lit 103 :: nat_lit 104 :: nat_lit 106 :: nat_lit 107 :: nat_lit 108 :: nat_lit 110 :: nat_lit 111 :: nat_lit 113 :: nat_lit 114 :: nat_lit 115 :: nat_lit 117 :: nat_lit 118 :: nat_lit 120 :: nat_lit 121 :: nat_lit 129 :: nat_lit 131 :: nat_lit 132 :: nat_lit 134 :: nat_lit 135 :: nat_lit 136 :: nat_lit 138 :: nat_lit 139 :: nat_lit 141 :: nat_lit 142 :: nat_lit 143 :: nat_lit 145 :: nat_lit 146 :: nat_lit 148 :: nat_lit 149 :: nat_lit 150 :: nat_lit 152 :: nat_lit 153 :: nat_lit 155 :: nat_lit 156 :: nat_lit 157 :: nat_lit 160 :: nat_lit 161 :: nat_lit 162 :: nat_lit 164 :: nat_lit 165 :: nat_lit 167 :: nat_lit 168 :: nat_lit 169 :: nat_lit 170 :: nat_lit 171 :: nat_lit 172 :: nat_lit 173 :: nat_lit 176 :: nat_lit 183 :: nat_lit 184 :: nat_lit 186 :: nat_lit 187 :: nat_lit 189 :: nat_lit 190 :: nat_lit 191 :: nat_lit 193 :: nat_lit 194 :: nat_lit 196 :: nat_lit 197 :: nat_lit 198 :: nat_lit 200 :: nat_lit 201 :: nat_lit 203 :: nat_lit 204 :: nat_lit 205 :: nat_lit 207 :: nat_lit 208 :: nat_lit 210 :: nat_lit 211 :: nat_lit 212 :: nat_lit 213 :: nat_lit 214 :: nat_lit 217 :: nat_lit 224 :: nat_lit 225 :: nat_lit 227 :: nat_lit 228 :: nat_lit 230 :: nat_lit 231 :: nat_lit 232 :: nat_lit 234 :: nat_lit 235 :: nat_lit 237 :: nat_lit 238 :: nat_lit 239 :: nat_lit 241 :: nat_lit 242 :: nat_lit 244 :: nat_lit 245 :: nat_lit 246 :: nat_lit 248 :: nat_lit 249 :: nat_lit 251 :: nat_lit 252 :: nat_lit 253 :: nat_lit 254 :: nat_lit 255 :: nat_lit 258 :: nat_lit 265 :: nat_lit 266 :: nat_lit 268 :: nat_lit 269 :: nat_lit 271 :: nat_lit 272 :: nat_lit 273 :: nat_lit 275 :: nat_lit 276 :: nat_lit 278 :: nat_lit 279 :: nat_lit 280 :: nat_lit 282 :: nat_lit 283 :: nat_lit 285 :: nat_lit 286 :: nat_lit 287 :: nat_lit 289 :: nat_lit 290 :: nat_lit 292 :: nat_lit 293 :: nat_lit 294 :: nat_lit 295 :: nat_lit 296 :: nat_lit 299 :: nat_lit 306 :: nat_lit 307 :: nat_lit 309 :: nat_lit 310 :: nat_lit 312 :: nat_lit 313 :: nat_lit 314 :: nat_lit 316 :: nat_lit 317 :: nat_lit 319 :: nat_lit 320 :: nat_lit 321 :: nat_lit 323 :: nat_lit 324 :: nat_lit 326 :: nat_lit 327 :: nat_lit 328 :: nat_lit 330 :: nat_lit 331 :: nat_lit 333 :: nat_lit 334 :: nat_lit 335 :: nat_lit 336 :: nat_lit 337 :: nat_lit 340 :: nat_lit 347 :: nat_lit 348 :: nat_lit 350 :: nat_lit 351 :: nat_lit 353 :: nat_lit 354 :: nat_lit 355 :: nat_lit 357 :: nat_lit 358 :: nat_lit 360 :: nat_lit 361 :: nat_lit 362 :: nat_lit 364 :: nat_lit 365 :: nat_lit 367 :: nat_lit 368 :: nat_lit 369 :: nat_lit 371 :: nat_lit 372 :: nat_lit 374 :: nat_lit 375 :: nat_lit 376 :: nat_lit 377 :: nat_lit 378 :: nat_lit 381 :: nat_lit 388 :: nat_lit 389 :: nat_lit 391 :: nat_lit 392 :: nat_lit 394 :: nat_lit 395 :: nat_lit 396 :: nat_lit 398 :: nat_lit 399 :: nat_lit 401 :: nat_lit 402 :: nat_lit 403 :: nat_lit 405 :: nat_lit 406 :: nat_lit 408 :: nat_lit 409 :: nat_lit 410 :: nat_lit 412 :: nat_lit 413 :: nat_lit 415 :: nat_lit 416 :: nat_lit 417 :: nat_lit 418 :: nat_lit 419 :: nat_lit 422 :: nat_lit 429 :: nat_lit 430 :: nat_lit 432 :: nat_lit 433 :: nat_lit 435 :: nat_lit 436 :: nat_lit 437 :: nat_lit 439 :: nat_lit 440 :: nat_lit 442 :: nat_lit 443 :: nat_lit 444 :: nat_lit 445 :: nat_lit 446 :: nat_lit 449 :: nat_lit 456 :: nat_lit 457 :: nat_lit 459 :: nat_lit 460 :: nat_lit 462 :: nat_lit 463 :: nat_lit 464 :: nat_lit 466 :: nat_lit 467 :: nat_lit 469 :: nat_lit 470 :: nat_lit 471 :: nat_lit 472 :: nat_lit 473 :: nat_lit 476 :: nat_lit 478 :: nat_lit 479 :: nat_lit 481 :: nat_lit 482 :: nat_lit 483 :: nat_lit 485 :: nat_lit 486 :: nat_lit 488 :: nat_lit 489 :: nat_lit 490 :: nat_lit 493 :: nat_lit 494 :: nat_lit 495 :: nat_lit 497 :: nat_lit 498 :: nat_lit 500 :: nat_lit 501 :: nat_lit 502 :: nat_lit 504 :: nat_lit 505 :: nat_lit 507 :: nat_lit 508 :: nat_lit 509 :: nat_lit 511 :: nat_lit 512 :: nat_lit 514 :: nat_lit 515 :: nat_lit 516 :: nat_lit 518 :: nat_lit 519 :: nat_lit 521 :: nat_lit 522 :: nat_lit 523 :: nat_lit 525 :: nat_lit 526 :: nat_lit 528 :: nat_lit 529 :: nat_lit 530 :: nat_lit 532 :: nat_lit 533 :: nat_lit 535 :: nat_lit 536 :: nat_lit 537 :: nat_lit 539 :: nat_lit 540 :: nat_lit 542 :: nat_lit 543 :: nat_lit 544 :: nat_lit 546 :: nat_lit 547 :: nat_lit 549 :: nat_lit 550 :: nat_lit 551 :: nat_lit 553 :: nat_lit 554 :: nat_lit 556 :: nat_lit 557 :: nat_lit 558 :: nat_lit 560 :: nat_lit 561 :: nat_lit 563 :: nat_lit 564 :: nat_lit 565 :: nat_lit 568 :: nat_lit 569 :: nat_lit 570 :: nat_lit 573 :: nat_lit 574 :: []
def hQ : Program := { PySem.Challenge.pw_notefall_k11_deeds_made with main := { PySem.Challenge.pw_notefall_k11_deeds_made.main with body := top 1 :: top 2 :: top 4 :: top 5 :: top 6 :: top 7 :: top 8 :: top 9 :: top 10 :: top 11 :: top 13 :: top 14 :: top 15 :: top 16 :: top 18 :: top 19 :: top 20 :: top 21 :: top 22 :: top 23 :: top 24 :: top 25 :: top 26 :: top 27 :: top 28 :: top 29 :: top 30 :: top 31 :: top 32 :: top 33 :: top 34 :: top 35 :: top 37 :: top 38 :: top 39 :: top 40 :: top 41 :: top 42 :: top 43 :: top 44 :: top 45 :: top 46 :: top 47 :: top 48 :: [] } }
def hLv : List (Str × PySem.W.WData) := [((Str.ofString "END"), PySem.W.WData.int 1000000000000), ((Str.ofString "MOST_VALUE"), PySem.W.WData.int 1000000000000000000000000000000)]
def hLo : List Str := [(Str.ofString "END"), (Str.ofString "MOST_VALUE"), (Str.ofString "THINGS"), (Str.ofString "Put"), (Str.ofString "Drop"), (Str.ofString "Add"), (Str.ofString "Wipe"), (Str.ofString "Raise"), (Str.ofString "Level"), (Str.ofString "Mark"), (Str.ofString "Forget")]
theorem z_hK : K11.hK = K11.hK := rfl
name_quick K11_hK for K11.hK by K11.z_hK
theorem z_hQ : K11.hQ = K11.hQ := rfl
name_quick K11_hQ for K11.hQ by K11.z_hQ
theorem z_pw : PySem.Challenge.pw_notefall_k11_deeds_made = PySem.Challenge.pw_notefall_k11_deeds_made := rfl
name_quick K11_pw for PySem.Challenge.pw_notefall_k11_deeds_made by K11.z_pw
theorem z_hLv : K11.hLv = K11.hLv := rfl
name_quick K11_hLv for K11.hLv by K11.z_hLv
theorem z_hLo : K11.hLo = K11.hLo := rfl
name_quick K11_hLo for K11.hLo by K11.z_hLo
def hYf (s : Shared) : List (Option Obj) := hAs.map s.heap.get?
def hYa (K : Params → PySem.W.Frag) (w : World) : List (Option Obj) := (K w.params).map fun p => some p.2
theorem hE (P : Params) : hAs = (hK P).map (·.1) := by kernel_rfl
abbrev hXt (q : Program) (lv : List (Str × PySem.W.WData)) (s : Shared) : Bool := PySem.W.xlAt q lv s && PySem.W.recOk (PySem.W.RowW.records (PySem.W.OpenRow.toRowW PySem.Challenge.rw_notefall_k11_deeds_made.row)) s
abbrev hF {t : Type} (tb : String → Option Builtin) (p q : Program) (lo : List Str) (lv : List (Str × PySem.W.WData)) (K : Params → PySem.W.Frag) (sn : Program → List Str → List Str → (Shared → Bool) → Bool → Shared → t) (gd : Program → List Str → t) (im : List Stmt → List Str) (w : World) : Prop :=
  (PySem.W.openEnds tb p w 9012).map (fun s => (sn q lo (im p.main.body) (hXt q lv) true s, hYf s)) = some (gd q lo, hYa K w)
noncomputable def hOth (P : Params) : PySem.W.Frag :=
 (nat_lit 0, PySem.W.boot_o_0 P) ::
 (nat_lit 1, PySem.W.boot_o_1 P) ::
 (nat_lit 4, PySem.W.boot_o_4 P) ::
 (nat_lit 5, PySem.W.boot_o_5 P) ::
 (nat_lit 6, PySem.W.boot_o_6 P) ::
 (nat_lit 7, PySem.W.boot_o_7 P) ::
 (nat_lit 8, PySem.W.boot_o_8 P) ::
 (nat_lit 9, PySem.W.boot_o_9 P) ::
 (nat_lit 10, PySem.W.boot_o_10 P) ::
 (nat_lit 11, ⟨(.type "tuple"), none, (.seq #[] 0), #[]⟩) ::
 (nat_lit 12, ⟨.none, none, (.fields #[(.int 2 0), (.int 0 0), (.ref 20), (.int 4 0), (.int 0 0), (.ref 33), (.int 8 0), (.int 0 0), (.ref 45), (.int 10 0), (.int 0 0), (.ref 52), (.int 12 0), (.int 0 0), (.ref 59), (.int 14 0), (.int 0 0), (.ref 66), (.int 16 0), (.int 0 0), (.ref 73), (.int 22 0), (.int 0 0), (.ref 84), (.int 24 0), (.int 0 0), (.ref 91), (.int 26 0), (.int 0 0), (.ref 98), (.int 39 0), (.int 0 0), (.ref 106), (.int 41 0), (.int 0 0), (.ref 113), (.int 44 0), (.int 0 0), (.ref 120), (.int 46 0), (.int 0 0), (.ref 127), (.int 69 0), (.int 0 0), (.ref 181), (.int 84 0), (.int 0 0), (.ref 222), (.int 98 0), (.int 0 0), (.ref 263), (.int 113 0), (.int 0 0), (.ref 304), (.int 128 0), (.int 0 0), (.ref 345), (.int 144 0), (.int 0 0), (.ref 386), (.int 160 0), (.int 0 0), (.ref 427), (.int 167 0), (.int 0 0), (.ref 454), (.int 175 0), (.int 0 0), (.ref 481), (.int 179 0), (.int 0 0), (.ref 488), (.int 198 0), (.int 0 0), (.ref 493), (.int 204 0), (.int 0 0), (.ref 500), (.int 206 0), (.int 0 0), (.ref 507), (.int 216 0), (.int 0 0), (.ref 514), (.int 222 0), (.int 0 0), (.ref 521), (.int 231 0), (.int 0 0), (.ref 528), (.int 240 0), (.int 0 0), (.ref 535), (.int 249 0), (.int 0 0), (.ref 542), (.int 266 0), (.int 0 0), (.ref 549), (.int 275 0), (.int 0 0), (.ref 556), (.int 281 0), (.int 0 0), (.ref 563), (.int 285 0), (.int 0 0), (.ref 568), (.int 293 0), (.int 0 0), (.ref 573)]), #[]⟩) ::
 (nat_lit 13, ⟨(.type "code"), none, (.fields #[(.str "<module>" 182), (.str "<module>" 183), (.str "/claim/cut.py" 184), (.int 1 0), (.int 0 0), (.int 0 0), (.int 0 0), (.int 0 0), (.ref 11), (.bool false), (.int 181 0), (.ref 12), .none, .none, .none, .none, (.int 185 0), (.int 1 0), (.str "/claim/cut.py" 186)]), #[]⟩) ::
 (nat_lit 14, ⟨(.type "frame"), none, .plain, #[(some (.ref 13)), (some (.ref 3)), (some (.ref 3)), none, (some (.str "__main__" 164)), none, (some (.ref 0))]⟩) ::
 (nat_lit 16, ⟨(.type "builtin_function_or_method"), none, (.fields #[(.builtin "type.__prepare__"), (.type "type")]), #[]⟩) ::
 (nat_lit 17, ⟨(.type "dict"), none, (.dict (List.toArray (⟨kh P "__module__", (.str "__module__" 196), (.str "notefall.errors" 187)⟩ :: ⟨kh P "__qualname__", (.str "__qualname__" 198), (.str "FallError" 197)⟩ :: ⟨kh P "__firstlineno__", (.str "__firstlineno__" 200), (.int 2 199)⟩ :: ⟨kh P "__static_attributes__", (.str "__static_attributes__" 201), (.ref 22)⟩ :: [])) 4), #[]⟩) ::
 (nat_lit 18, ⟨(.type "tuple"), none, (.seq #[] 0), #[]⟩) ::
 (nat_lit 19, ⟨.none, none, (.fields #[]), #[]⟩) ::
 (nat_lit 20, ⟨(.type "code"), none, (.fields #[(.str "FallError" 191), (.str "FallError" 192), (.str "/claim/cut.py" 193), (.int 2 0), (.int 0 0), (.int 0 0), (.int 0 0), (.int 0 0), (.ref 18), (.bool false), (.int 181 0), (.ref 19), .none, .none, .none, .none, (.int 194 0), (.int 2 0), (.str "/claim/cut.py" 195)]), #[]⟩) ::
 (nat_lit 21, ⟨(.type "frame"), none, .plain, #[(some (.ref 20)), (some (.ref 3)), (some (.ref 17)), none, (some (.str "notefall.errors" 187)), none, (some (.ref 0))]⟩) ::
 (nat_lit 26, ⟨(.type "super"), none, (.fields #[(.ref 24), (.ref 24), (.ref 24)]), #[]⟩) ::
 (nat_lit 27, ⟨(.type "builtin_function_or_method"), none, (.fields #[(.builtin "object.__init_subclass__"), (.ref 24)]), #[]⟩) ::
 (nat_lit 29, ⟨(.type "builtin_function_or_method"), none, (.fields #[(.builtin "type.__prepare__"), (.type "type")]), #[]⟩) ::
 (nat_lit 30, ⟨(.type "dict"), none, (.dict (List.toArray (⟨kh P "__module__", (.str "__module__" 214), (.str "notefall.errors" 187)⟩ :: ⟨kh P "__qualname__", (.str "__qualname__" 216), (.str "NoDeed" 215)⟩ :: ⟨kh P "__firstlineno__", (.str "__firstlineno__" 218), (.int 4 217)⟩ :: ⟨kh P "__static_attributes__", (.str "__static_attributes__" 219), (.ref 35)⟩ :: [])) 4), #[]⟩) ::
 (nat_lit 31, ⟨(.type "tuple"), none, (.seq #[] 0), #[]⟩) ::
 (nat_lit 32, ⟨.none, none, (.fields #[]), #[]⟩) ::
 (nat_lit 33, ⟨(.type "code"), none, (.fields #[(.str "NoDeed" 209), (.str "NoDeed" 210), (.str "/claim/cut.py" 211), (.int 4 0), (.int 0 0), (.int 0 0), (.int 0 0), (.int 0 0), (.ref 31), (.bool false), (.int 181 0), (.ref 32), .none, .none, .none, .none, (.int 212 0), (.int 4 0), (.str "/claim/cut.py" 213)]), #[]⟩) ::
 (nat_lit 34, ⟨(.type "frame"), none, .plain, #[(some (.ref 33)), (some (.ref 3)), (some (.ref 30)), none, (some (.str "notefall.errors" 187)), none, (some (.ref 0))]⟩) ::
 (nat_lit 38, ⟨(.type "super"), none, (.fields #[(.ref 37), (.ref 37), (.ref 37)]), #[]⟩) ::
 (nat_lit 39, ⟨(.type "builtin_function_or_method"), none, (.fields #[(.builtin "object.__init_subclass__"), (.ref 37)]), #[]⟩) ::
 (nat_lit 41, ⟨.none, none, (.fields #[]), #[]⟩) ::
 (nat_lit 44, ⟨.none, none, (.func ⟨"is_number", "is_number", defArgs (top 5), .stmts (defBody (top 5)), defScope (top 5), 0, [], .none, .none, .none, .none, none, .none, .none, 0⟩), #[]⟩) ::
 (nat_lit 48, ⟨.none, none, (.fields #[]), #[]⟩) ::
 (nat_lit 51, ⟨.none, none, (.func ⟨"is_whole", "is_whole", defArgs (top 6), .stmts (defBody (top 6)), defScope (top 6), 0, [], .none, .none, .none, .none, none, .none, .none, 0⟩), #[]⟩) ::
 (nat_lit 55, ⟨.none, none, (.fields #[]), #[]⟩) ::
 (nat_lit 58, ⟨.none, none, (.func ⟨"is_whole_from", "is_whole_from", defArgs (top 7), .stmts (defBody (top 7)), defScope (top 7), 0, [], .none, .none, .none, .none, none, .none, .none, 0⟩), #[]⟩) ::
 (nat_lit 62, ⟨.none, none, (.fields #[]), #[]⟩) ::
 (nat_lit 65, ⟨.none, none, (.func ⟨"is_key", "is_key", defArgs (top 8), .stmts (defBody (top 8)), defScope (top 8), 0, [], .none, .none, .none, .none, none, .none, .none, 0⟩), #[]⟩) ::
 (nat_lit 69, ⟨.none, none, (.fields #[]), #[]⟩) ::
 (nat_lit 72, ⟨.none, none, (.func ⟨"is_stretch", "is_stretch", defArgs (top 9), .stmts (defBody (top 9)), defScope (top 9), 0, [], .none, .none, .none, .none, none, .none, .none, 0⟩), #[]⟩) ::
 (nat_lit 80, ⟨.none, none, (.fields #[]), #[]⟩) ::
 (nat_lit 83, ⟨.none, none, (.func ⟨"figures_of", "figures_of", defArgs (top 14), .stmts (defBody (top 14)), defScope (top 14), 0, [], .none, .none, .none, .none, none, .none, .none, 0⟩), #[]⟩) ::
 (nat_lit 87, ⟨.none, none, (.fields #[]), #[]⟩) ::
 (nat_lit 90, ⟨.none, none, (.func ⟨"are_figures", "are_figures", defArgs (top 15), .stmts (defBody (top 15)), defScope (top 15), 0, [], .none, .none, .none, .none, none, .none, .none, 0⟩), #[]⟩) ::
 (nat_lit 94, ⟨.none, none, (.fields #[]), #[]⟩) ::
 (nat_lit 97, ⟨.none, none, (.func ⟨"read_figures", "read_figures", defArgs (top 16), .stmts (defBody (top 16)), defScope (top 16), 0, [], .none, .none, .none, .none, none, .none, .none, 0⟩), #[]⟩) ::
 (nat_lit 102, ⟨.none, none, (.fields #[]), #[]⟩) ::
 (nat_lit 105, ⟨.none, none, (.func ⟨"is_amount", "is_amount", defArgs (top 21), .stmts (defBody (top 21)), defScope (top 21), 0, [], .none, .none, .none, .none, none, .none, .none, 0⟩), #[]⟩) ::
 (nat_lit 109, ⟨.none, none, (.fields #[]), #[]⟩) ::
 (nat_lit 112, ⟨.none, none, (.func ⟨"check_things", "check_things", defArgs (top 22), .stmts (defBody (top 22)), defScope (top 22), 0, [], .none, .none, .none, .none, none, .none, .none, 0⟩), #[]⟩) ::
 (nat_lit 116, ⟨.none, none, (.fields #[]), #[]⟩) ::
 (nat_lit 119, ⟨.none, none, (.func ⟨"word_of", "word_of", defArgs (top 23), .stmts (defBody (top 23)), defScope (top 23), 0, [], .none, .none, .none, .none, none, .none, .none, 0⟩), #[]⟩) ::
 (nat_lit 122, ⟨(.type "tuple"), none, (.seq #[] 0), #[]⟩) ::
 (nat_lit 123, ⟨(.type "builtin_function_or_method"), none, (.fields #[(.builtin "type.__prepare__"), (.type "type")]), #[]⟩) ::
 (nat_lit 124, ⟨(.type "dict"), none, (.dict (List.toArray (⟨kh P "__module__", (.str "__module__" 361), (.str "notefall.deeds" 299)⟩ :: ⟨kh P "__qualname__", (.str "__qualname__" 363), (.str "Deed" 362)⟩ :: ⟨kh P "__firstlineno__", (.str "__firstlineno__" 365), (.int 46 364)⟩ :: ⟨kh P "told", (.str "told" 372), (.ref 135)⟩ :: ⟨kh P "action", (.str "action" 379), (.ref 142)⟩ :: ⟨kh P "span", (.str "span" 386), (.ref 149)⟩ :: ⟨kh P "note", (.str "note" 397), (.ref 156)⟩ :: ⟨kh P "__str__", (.str "__str__" 403), (.ref 161)⟩ :: ⟨kh P "__eq__", (.str "__eq__" 411), (.ref 168)⟩ :: ⟨kh P "__static_attributes__", (.str "__static_attributes__" 412), (.ref 169)⟩ :: [])) 10), #[]⟩) ::
 (nat_lit 125, ⟨(.type "tuple"), none, (.seq #[] 0), #[]⟩) ::
 (nat_lit 126, ⟨.none, none, (.fields #[(.int 48 0), (.int 4 0), (.ref 134), (.int 51 0), (.int 4 0), (.ref 141), (.int 54 0), (.int 4 0), (.ref 148), (.int 57 0), (.int 4 0), (.ref 155), (.int 64 0), (.int 4 0), (.ref 160), (.int 67 0), (.int 4 0), (.ref 167)]), #[]⟩) ::
 (nat_lit 127, ⟨(.type "code"), none, (.fields #[(.str "Deed" 356), (.str "Deed" 357), (.str "/claim/cut.py" 358), (.int 46 0), (.int 0 0), (.int 0 0), (.int 0 0), (.int 0 0), (.ref 125), (.bool false), (.int 181 0), (.ref 126), .none, .none, .none, .none, (.int 359 0), (.int 46 0), (.str "/claim/cut.py" 360)]), #[]⟩) ::
 (nat_lit 128, ⟨(.type "frame"), none, .plain, #[(some (.ref 127)), (some (.ref 3)), (some (.ref 124)), none, (some (.str "notefall.deeds" 299)), none, (some (.ref 0))]⟩) ::
 (nat_lit 130, ⟨.none, none, (.fields #[]), #[]⟩) ::
 (nat_lit 133, ⟨.none, none, (.func ⟨"told", "Deed.told", defArgs (inClass (top 24) 0), .stmts (defBody (inClass (top 24) 0)), defScope (inClass (top 24) 0), 0, [], .none, .none, .none, .none, none, .none, .none, 0⟩), #[]⟩) ::
 (nat_lit 137, ⟨.none, none, (.fields #[]), #[]⟩) ::
 (nat_lit 140, ⟨.none, none, (.func ⟨"action", "Deed.action", defArgs (inClass (top 24) 1), .stmts (defBody (inClass (top 24) 1)), defScope (inClass (top 24) 1), 0, [], .none, .none, .none, .none, none, .none, .none, 0⟩), #[]⟩) ::
 (nat_lit 144, ⟨.none, none, (.fields #[]), #[]⟩) ::
 (nat_lit 147, ⟨.none, none, (.func ⟨"span", "Deed.span", defArgs (inClass (top 24) 2), .stmts (defBody (inClass (top 24) 2)), defScope (inClass (top 24) 2), 0, [], .none, .none, .none, .none, none, .none, .none, 0⟩), #[]⟩) ::
 (nat_lit 151, ⟨.none, none, (.fields #[]), #[]⟩) ::
 (nat_lit 154, ⟨.none, none, (.func ⟨"note", "Deed.note", defArgs (inClass (top 24) 3), .stmts (defBody (inClass (top 24) 3)), defScope (inClass (top 24) 3), 0, [], .none, .none, .none, .none, none, .none, .none, 0⟩), #[]⟩) ::
 (nat_lit 158, ⟨.none, none, (.fields #[]), #[]⟩) ::
 (nat_lit 159, ⟨.none, none, (.func ⟨"__str__", "Deed.__str__", defArgs (inClass (top 24) 4), .stmts (defBody (inClass (top 24) 4)), defScope (inClass (top 24) 4), 0, [], .none, .none, .none, .none, none, .none, .none, 0⟩), #[]⟩) ::
 (nat_lit 163, ⟨.none, none, (.fields #[]), #[]⟩) ::
 (nat_lit 166, ⟨.none, none, (.func ⟨"__eq__", "Deed.__eq__", defArgs (inClass (top 24) 5), .stmts (defBody (inClass (top 24) 5)), defScope (inClass (top 24) 5), 0, [], .none, .none, .none, .none, none, .none, .none, 0⟩), #[]⟩) ::
 (nat_lit 174, ⟨(.type "super"), none, (.fields #[(.ref 171), (.ref 171), (.ref 171)]), #[]⟩) ::
 (nat_lit 175, ⟨(.type "builtin_function_or_method"), none, (.fields #[(.builtin "object.__init_subclass__"), (.ref 171)]), #[]⟩) ::
 (nat_lit 177, ⟨(.type "builtin_function_or_method"), none, (.fields #[(.builtin "type.__prepare__"), (.type "type")]), #[]⟩) ::
 (nat_lit 178, ⟨(.type "dict"), none, (.dict (List.toArray (⟨kh P "__module__", (.str "__module__" 428), (.str "notefall.deeds" 299)⟩ :: ⟨kh P "__qualname__", (.str "__qualname__" 430), (.str "Put" 429)⟩ :: ⟨kh P "__firstlineno__", (.str "__firstlineno__" 432), (.int 69 431)⟩ :: ⟨kh P "__init__", (.str "__init__" 442), (.ref 190)⟩ :: ⟨kh P "told", (.str "told" 449), (.ref 197)⟩ :: ⟨kh P "action", (.str "action" 456), (.ref 204)⟩ :: ⟨kh P "span", (.str "span" 463), (.ref 211)⟩ :: ⟨kh P "__static_attributes__", (.str "__static_attributes__" 466), (.ref 212)⟩ :: [])) 8), #[]⟩) ::
 (nat_lit 179, ⟨(.type "tuple"), none, (.seq #[] 0), #[]⟩) ::
 (nat_lit 180, ⟨.none, none, (.fields #[(.int 71 0), (.int 4 0), (.ref 189), (.int 76 0), (.int 4 0), (.ref 196), (.int 79 0), (.int 4 0), (.ref 203), (.int 82 0), (.int 4 0), (.ref 210)]), #[]⟩) ::
 (nat_lit 181, ⟨(.type "code"), none, (.fields #[(.str "Put" 423), (.str "Put" 424), (.str "/claim/cut.py" 425), (.int 69 0), (.int 0 0), (.int 0 0), (.int 0 0), (.int 0 0), (.ref 179), (.bool false), (.int 181 0), (.ref 180), .none, .none, .none, .none, (.int 426 0), (.int 69 0), (.str "/claim/cut.py" 427)]), #[]⟩) ::
 (nat_lit 182, ⟨(.type "frame"), none, .plain, #[(some (.ref 181)), (some (.ref 3)), (some (.ref 178)), none, (some (.str "notefall.deeds" 299)), none, (some (.ref 0))]⟩) ::
 (nat_lit 185, ⟨.none, none, (.fields #[]), #[]⟩) ::
 (nat_lit 188, ⟨.none, none, (.func ⟨"__init__", "Put.__init__", defArgs (inClass (top 25) 0), .stmts (defBody (inClass (top 25) 0)), defScope (inClass (top 25) 0), 0, [], .none, .none, .none, .none, none, .none, .none, 0⟩), #[]⟩) ::
 (nat_lit 192, ⟨.none, none, (.fields #[]), #[]⟩) ::
 (nat_lit 195, ⟨.none, none, (.func ⟨"told", "Put.told", defArgs (inClass (top 25) 1), .stmts (defBody (inClass (top 25) 1)), defScope (inClass (top 25) 1), 0, [], .none, .none, .none, .none, none, .none, .none, 0⟩), #[]⟩) ::
 (nat_lit 199, ⟨.none, none, (.fields #[]), #[]⟩) ::
 (nat_lit 202, ⟨.none, none, (.func ⟨"action", "Put.action", defArgs (inClass (top 25) 2), .stmts (defBody (inClass (top 25) 2)), defScope (inClass (top 25) 2), 0, [], .none, .none, .none, .none, none, .none, .none, 0⟩), #[]⟩) ::
 (nat_lit 206, ⟨.none, none, (.fields #[]), #[]⟩) ::
 (nat_lit 209, ⟨.none, none, (.func ⟨"span", "Put.span", defArgs (inClass (top 25) 3), .stmts (defBody (inClass (top 25) 3)), defScope (inClass (top 25) 3), 0, [], .none, .none, .none, .none, none, .none, .none, 0⟩), #[]⟩) ::
 (nat_lit 215, ⟨(.type "super"), none, (.fields #[(.ref 214), (.ref 214), (.ref 214)]), #[]⟩) ::
 (nat_lit 216, ⟨(.type "builtin_function_or_method"), none, (.fields #[(.builtin "object.__init_subclass__"), (.ref 214)]), #[]⟩) ::
 (nat_lit 218, ⟨(.type "builtin_function_or_method"), none, (.fields #[(.builtin "type.__prepare__"), (.type "type")]), #[]⟩) ::
 (nat_lit 219, ⟨(.type "dict"), none, (.dict (List.toArray (⟨kh P "__module__", (.str "__module__" 477), (.str "notefall.deeds" 299)⟩ :: ⟨kh P "__qualname__", (.str "__qualname__" 479), (.str "Drop" 478)⟩ :: ⟨kh P "__firstlineno__", (.str "__firstlineno__" 481), (.int 84 480)⟩ :: ⟨kh P "__init__", (.str "__init__" 490), (.ref 231)⟩ :: ⟨kh P "told", (.str "told" 497), (.ref 238)⟩ :: ⟨kh P "action", (.str "action" 504), (.ref 245)⟩ :: ⟨kh P "span", (.str "span" 511), (.ref 252)⟩ :: ⟨kh P "__static_attributes__", (.str "__static_attributes__" 513), (.ref 253)⟩ :: [])) 8), #[]⟩) ::
 (nat_lit 220, ⟨(.type "tuple"), none, (.seq #[] 0), #[]⟩) ::
 (nat_lit 221, ⟨.none, none, (.fields #[(.int 86 0), (.int 4 0), (.ref 230), (.int 90 0), (.int 4 0), (.ref 237), (.int 93 0), (.int 4 0), (.ref 244), (.int 96 0), (.int 4 0), (.ref 251)]), #[]⟩) ::
 (nat_lit 222, ⟨(.type "code"), none, (.fields #[(.str "Drop" 472), (.str "Drop" 473), (.str "/claim/cut.py" 474), (.int 84 0), (.int 0 0), (.int 0 0), (.int 0 0), (.int 0 0), (.ref 220), (.bool false), (.int 181 0), (.ref 221), .none, .none, .none, .none, (.int 475 0), (.int 84 0), (.str "/claim/cut.py" 476)]), #[]⟩) ::
 (nat_lit 223, ⟨(.type "frame"), none, .plain, #[(some (.ref 222)), (some (.ref 3)), (some (.ref 219)), none, (some (.str "notefall.deeds" 299)), none, (some (.ref 0))]⟩) ::
 (nat_lit 226, ⟨.none, none, (.fields #[]), #[]⟩) ::
 (nat_lit 229, ⟨.none, none, (.func ⟨"__init__", "Drop.__init__", defArgs (inClass (top 26) 0), .stmts (defBody (inClass (top 26) 0)), defScope (inClass (top 26) 0), 0, [], .none, .none, .none, .none, none, .none, .none, 0⟩), #[]⟩) ::
 (nat_lit 233, ⟨.none, none, (.fields #[]), #[]⟩) ::
 (nat_lit 236, ⟨.none, none, (.func ⟨"told", "Drop.told", defArgs (inClass (top 26) 1), .stmts (defBody (inClass (top 26) 1)), defScope (inClass (top 26) 1), 0, [], .none, .none, .none, .none, none, .none, .none, 0⟩), #[]⟩) ::
 (nat_lit 240, ⟨.none, none, (.fields #[]), #[]⟩) ::
 (nat_lit 243, ⟨.none, none, (.func ⟨"action", "Drop.action", defArgs (inClass (top 26) 2), .stmts (defBody (inClass (top 26) 2)), defScope (inClass (top 26) 2), 0, [], .none, .none, .none, .none, none, .none, .none, 0⟩), #[]⟩) ::
 (nat_lit 247, ⟨.none, none, (.fields #[]), #[]⟩) ::
 (nat_lit 250, ⟨.none, none, (.func ⟨"span", "Drop.span", defArgs (inClass (top 26) 3), .stmts (defBody (inClass (top 26) 3)), defScope (inClass (top 26) 3), 0, [], .none, .none, .none, .none, none, .none, .none, 0⟩), #[]⟩) ::
 (nat_lit 256, ⟨(.type "super"), none, (.fields #[(.ref 255), (.ref 255), (.ref 255)]), #[]⟩) ::
 (nat_lit 257, ⟨(.type "builtin_function_or_method"), none, (.fields #[(.builtin "object.__init_subclass__"), (.ref 255)]), #[]⟩) ::
 (nat_lit 259, ⟨(.type "builtin_function_or_method"), none, (.fields #[(.builtin "type.__prepare__"), (.type "type")]), #[]⟩) ::
 (nat_lit 260, ⟨(.type "dict"), none, (.dict (List.toArray (⟨kh P "__module__", (.str "__module__" 524), (.str "notefall.deeds" 299)⟩ :: ⟨kh P "__qualname__", (.str "__qualname__" 526), (.str "Add" 525)⟩ :: ⟨kh P "__firstlineno__", (.str "__firstlineno__" 528), (.int 98 527)⟩ :: ⟨kh P "__init__", (.str "__init__" 538), (.ref 272)⟩ :: ⟨kh P "told", (.str "told" 545), (.ref 279)⟩ :: ⟨kh P "action", (.str "action" 552), (.ref 286)⟩ :: ⟨kh P "span", (.str "span" 559), (.ref 293)⟩ :: ⟨kh P "__static_attributes__", (.str "__static_attributes__" 562), (.ref 294)⟩ :: [])) 8), #[]⟩) ::
 (nat_lit 261, ⟨(.type "tuple"), none, (.seq #[] 0), #[]⟩) ::
 (nat_lit 262, ⟨.none, none, (.fields #[(.int 100 0), (.int 4 0), (.ref 271), (.int 105 0), (.int 4 0), (.ref 278), (.int 108 0), (.int 4 0), (.ref 285), (.int 111 0), (.int 4 0), (.ref 292)]), #[]⟩) ::
 (nat_lit 263, ⟨(.type "code"), none, (.fields #[(.str "Add" 519), (.str "Add" 520), (.str "/claim/cut.py" 521), (.int 98 0), (.int 0 0), (.int 0 0), (.int 0 0), (.int 0 0), (.ref 261), (.bool false), (.int 181 0), (.ref 262), .none, .none, .none, .none, (.int 522 0), (.int 98 0), (.str "/claim/cut.py" 523)]), #[]⟩) ::
 (nat_lit 264, ⟨(.type "frame"), none, .plain, #[(some (.ref 263)), (some (.ref 3)), (some (.ref 260)), none, (some (.str "notefall.deeds" 299)), none, (some (.ref 0))]⟩) ::
 (nat_lit 267, ⟨.none, none, (.fields #[]), #[]⟩) ::
 (nat_lit 270, ⟨.none, none, (.func ⟨"__init__", "Add.__init__", defArgs (inClass (top 27) 0), .stmts (defBody (inClass (top 27) 0)), defScope (inClass (top 27) 0), 0, [], .none, .none, .none, .none, none, .none, .none, 0⟩), #[]⟩) ::
 (nat_lit 274, ⟨.none, none, (.fields #[]), #[]⟩) ::
 (nat_lit 277, ⟨.none, none, (.func ⟨"told", "Add.told", defArgs (inClass (top 27) 1), .stmts (defBody (inClass (top 27) 1)), defScope (inClass (top 27) 1), 0, [], .none, .none, .none, .none, none, .none, .none, 0⟩), #[]⟩) ::
 (nat_lit 281, ⟨.none, none, (.fields #[]), #[]⟩) ::
 (nat_lit 284, ⟨.none, none, (.func ⟨"action", "Add.action", defArgs (inClass (top 27) 2), .stmts (defBody (inClass (top 27) 2)), defScope (inClass (top 27) 2), 0, [], .none, .none, .none, .none, none, .none, .none, 0⟩), #[]⟩) ::
 (nat_lit 288, ⟨.none, none, (.fields #[]), #[]⟩) ::
 (nat_lit 291, ⟨.none, none, (.func ⟨"span", "Add.span", defArgs (inClass (top 27) 3), .stmts (defBody (inClass (top 27) 3)), defScope (inClass (top 27) 3), 0, [], .none, .none, .none, .none, none, .none, .none, 0⟩), #[]⟩) ::
 (nat_lit 297, ⟨(.type "super"), none, (.fields #[(.ref 296), (.ref 296), (.ref 296)]), #[]⟩) ::
 (nat_lit 298, ⟨(.type "builtin_function_or_method"), none, (.fields #[(.builtin "object.__init_subclass__"), (.ref 296)]), #[]⟩) ::
 (nat_lit 300, ⟨(.type "builtin_function_or_method"), none, (.fields #[(.builtin "type.__prepare__"), (.type "type")]), #[]⟩) ::
 (nat_lit 301, ⟨(.type "dict"), none, (.dict (List.toArray (⟨kh P "__module__", (.str "__module__" 573), (.str "notefall.deeds" 299)⟩ :: ⟨kh P "__qualname__", (.str "__qualname__" 575), (.str "Wipe" 574)⟩ :: ⟨kh P "__firstlineno__", (.str "__firstlineno__" 577), (.int 113 576)⟩ :: ⟨kh P "__init__", (.str "__init__" 587), (.ref 313)⟩ :: ⟨kh P "told", (.str "told" 594), (.ref 320)⟩ :: ⟨kh P "action", (.str "action" 601), (.ref 327)⟩ :: ⟨kh P "span", (.str "span" 608), (.ref 334)⟩ :: ⟨kh P "__static_attributes__", (.str "__static_attributes__" 611), (.ref 335)⟩ :: [])) 8), #[]⟩) ::
 (nat_lit 302, ⟨(.type "tuple"), none, (.seq #[] 0), #[]⟩) ::
 (nat_lit 303, ⟨.none, none, (.fields #[(.int 115 0), (.int 4 0), (.ref 312), (.int 120 0), (.int 4 0), (.ref 319), (.int 123 0), (.int 4 0), (.ref 326), (.int 126 0), (.int 4 0), (.ref 333)]), #[]⟩) ::
 (nat_lit 304, ⟨(.type "code"), none, (.fields #[(.str "Wipe" 568), (.str "Wipe" 569), (.str "/claim/cut.py" 570), (.int 113 0), (.int 0 0), (.int 0 0), (.int 0 0), (.int 0 0), (.ref 302), (.bool false), (.int 181 0), (.ref 303), .none, .none, .none, .none, (.int 571 0), (.int 113 0), (.str "/claim/cut.py" 572)]), #[]⟩) ::
 (nat_lit 305, ⟨(.type "frame"), none, .plain, #[(some (.ref 304)), (some (.ref 3)), (some (.ref 301)), none, (some (.str "notefall.deeds" 299)), none, (some (.ref 0))]⟩) ::
 (nat_lit 308, ⟨.none, none, (.fields #[]), #[]⟩) ::
 (nat_lit 311, ⟨.none, none, (.func ⟨"__init__", "Wipe.__init__", defArgs (inClass (top 28) 0), .stmts (defBody (inClass (top 28) 0)), defScope (inClass (top 28) 0), 0, [], .none, .none, .none, .none, none, .none, .none, 0⟩), #[]⟩) ::
 (nat_lit 315, ⟨.none, none, (.fields #[]), #[]⟩) ::
 (nat_lit 318, ⟨.none, none, (.func ⟨"told", "Wipe.told", defArgs (inClass (top 28) 1), .stmts (defBody (inClass (top 28) 1)), defScope (inClass (top 28) 1), 0, [], .none, .none, .none, .none, none, .none, .none, 0⟩), #[]⟩) ::
 (nat_lit 322, ⟨.none, none, (.fields #[]), #[]⟩) ::
 (nat_lit 325, ⟨.none, none, (.func ⟨"action", "Wipe.action", defArgs (inClass (top 28) 2), .stmts (defBody (inClass (top 28) 2)), defScope (inClass (top 28) 2), 0, [], .none, .none, .none, .none, none, .none, .none, 0⟩), #[]⟩) ::
 (nat_lit 329, ⟨.none, none, (.fields #[]), #[]⟩) ::
 (nat_lit 332, ⟨.none, none, (.func ⟨"span", "Wipe.span", defArgs (inClass (top 28) 3), .stmts (defBody (inClass (top 28) 3)), defScope (inClass (top 28) 3), 0, [], .none, .none, .none, .none, none, .none, .none, 0⟩), #[]⟩) ::
 (nat_lit 338, ⟨(.type "super"), none, (.fields #[(.ref 337), (.ref 337), (.ref 337)]), #[]⟩) ::
 (nat_lit 339, ⟨(.type "builtin_function_or_method"), none, (.fields #[(.builtin "object.__init_subclass__"), (.ref 337)]), #[]⟩) ::
 (nat_lit 341, ⟨(.type "builtin_function_or_method"), none, (.fields #[(.builtin "type.__prepare__"), (.type "type")]), #[]⟩) ::
 (nat_lit 342, ⟨(.type "dict"), none, (.dict (List.toArray (⟨kh P "__module__", (.str "__module__" 622), (.str "notefall.deeds" 299)⟩ :: ⟨kh P "__qualname__", (.str "__qualname__" 624), (.str "Raise" 623)⟩ :: ⟨kh P "__firstlineno__", (.str "__firstlineno__" 626), (.int 128 625)⟩ :: ⟨kh P "__init__", (.str "__init__" 637), (.ref 354)⟩ :: ⟨kh P "told", (.str "told" 644), (.ref 361)⟩ :: ⟨kh P "action", (.str "action" 651), (.ref 368)⟩ :: ⟨kh P "span", (.str "span" 658), (.ref 375)⟩ :: ⟨kh P "__static_attributes__", (.str "__static_attributes__" 662), (.ref 376)⟩ :: [])) 8), #[]⟩) ::
 (nat_lit 343, ⟨(.type "tuple"), none, (.seq #[] 0), #[]⟩) ::
 (nat_lit 344, ⟨.none, none, (.fields #[(.int 130 0), (.int 4 0), (.ref 353), (.int 136 0), (.int 4 0), (.ref 360), (.int 139 0), (.int 4 0), (.ref 367), (.int 142 0), (.int 4 0), (.ref 374)]), #[]⟩) ::
 (nat_lit 345, ⟨(.type "code"), none, (.fields #[(.str "Raise" 617), (.str "Raise" 618), (.str "/claim/cut.py" 619), (.int 128 0), (.int 0 0), (.int 0 0), (.int 0 0), (.int 0 0), (.ref 343), (.bool false), (.int 181 0), (.ref 344), .none, .none, .none, .none, (.int 620 0), (.int 128 0), (.str "/claim/cut.py" 621)]), #[]⟩) ::
 (nat_lit 346, ⟨(.type "frame"), none, .plain, #[(some (.ref 345)), (some (.ref 3)), (some (.ref 342)), none, (some (.str "notefall.deeds" 299)), none, (some (.ref 0))]⟩) ::
 (nat_lit 349, ⟨.none, none, (.fields #[]), #[]⟩) ::
 (nat_lit 352, ⟨.none, none, (.func ⟨"__init__", "Raise.__init__", defArgs (inClass (top 29) 0), .stmts (defBody (inClass (top 29) 0)), defScope (inClass (top 29) 0), 0, [], .none, .none, .none, .none, none, .none, .none, 0⟩), #[]⟩) ::
 (nat_lit 356, ⟨.none, none, (.fields #[]), #[]⟩) ::
 (nat_lit 359, ⟨.none, none, (.func ⟨"told", "Raise.told", defArgs (inClass (top 29) 1), .stmts (defBody (inClass (top 29) 1)), defScope (inClass (top 29) 1), 0, [], .none, .none, .none, .none, none, .none, .none, 0⟩), #[]⟩) ::
 (nat_lit 363, ⟨.none, none, (.fields #[]), #[]⟩) ::
 (nat_lit 366, ⟨.none, none, (.func ⟨"action", "Raise.action", defArgs (inClass (top 29) 2), .stmts (defBody (inClass (top 29) 2)), defScope (inClass (top 29) 2), 0, [], .none, .none, .none, .none, none, .none, .none, 0⟩), #[]⟩) ::
 (nat_lit 370, ⟨.none, none, (.fields #[]), #[]⟩) ::
 (nat_lit 373, ⟨.none, none, (.func ⟨"span", "Raise.span", defArgs (inClass (top 29) 3), .stmts (defBody (inClass (top 29) 3)), defScope (inClass (top 29) 3), 0, [], .none, .none, .none, .none, none, .none, .none, 0⟩), #[]⟩) ::
 (nat_lit 379, ⟨(.type "super"), none, (.fields #[(.ref 378), (.ref 378), (.ref 378)]), #[]⟩) ::
 (nat_lit 380, ⟨(.type "builtin_function_or_method"), none, (.fields #[(.builtin "object.__init_subclass__"), (.ref 378)]), #[]⟩) ::
 (nat_lit 382, ⟨(.type "builtin_function_or_method"), none, (.fields #[(.builtin "type.__prepare__"), (.type "type")]), #[]⟩) ::
 (nat_lit 383, ⟨(.type "dict"), none, (.dict (List.toArray (⟨kh P "__module__", (.str "__module__" 673), (.str "notefall.deeds" 299)⟩ :: ⟨kh P "__qualname__", (.str "__qualname__" 675), (.str "Level" 674)⟩ :: ⟨kh P "__firstlineno__", (.str "__firstlineno__" 677), (.int 144 676)⟩ :: ⟨kh P "__init__", (.str "__init__" 688), (.ref 395)⟩ :: ⟨kh P "told", (.str "told" 695), (.ref 402)⟩ :: ⟨kh P "action", (.str "action" 702), (.ref 409)⟩ :: ⟨kh P "span", (.str "span" 709), (.ref 416)⟩ :: ⟨kh P "__static_attributes__", (.str "__static_attributes__" 713), (.ref 417)⟩ :: [])) 8), #[]⟩) ::
 (nat_lit 384, ⟨(.type "tuple"), none, (.seq #[] 0), #[]⟩) ::
 (nat_lit 385, ⟨.none, none, (.fields #[(.int 146 0), (.int 4 0), (.ref 394), (.int 152 0), (.int 4 0), (.ref 401), (.int 155 0), (.int 4 0), (.ref 408), (.int 158 0), (.int 4 0), (.ref 415)]), #[]⟩) ::
 (nat_lit 386, ⟨(.type "code"), none, (.fields #[(.str "Level" 668), (.str "Level" 669), (.str "/claim/cut.py" 670), (.int 144 0), (.int 0 0), (.int 0 0), (.int 0 0), (.int 0 0), (.ref 384), (.bool false), (.int 181 0), (.ref 385), .none, .none, .none, .none, (.int 671 0), (.int 144 0), (.str "/claim/cut.py" 672)]), #[]⟩) ::
 (nat_lit 387, ⟨(.type "frame"), none, .plain, #[(some (.ref 386)), (some (.ref 3)), (some (.ref 383)), none, (some (.str "notefall.deeds" 299)), none, (some (.ref 0))]⟩) ::
 (nat_lit 390, ⟨.none, none, (.fields #[]), #[]⟩) ::
 (nat_lit 393, ⟨.none, none, (.func ⟨"__init__", "Level.__init__", defArgs (inClass (top 30) 0), .stmts (defBody (inClass (top 30) 0)), defScope (inClass (top 30) 0), 0, [], .none, .none, .none, .none, none, .none, .none, 0⟩), #[]⟩) ::
 (nat_lit 397, ⟨.none, none, (.fields #[]), #[]⟩) ::
 (nat_lit 400, ⟨.none, none, (.func ⟨"told", "Level.told", defArgs (inClass (top 30) 1), .stmts (defBody (inClass (top 30) 1)), defScope (inClass (top 30) 1), 0, [], .none, .none, .none, .none, none, .none, .none, 0⟩), #[]⟩) ::
 (nat_lit 404, ⟨.none, none, (.fields #[]), #[]⟩) ::
 (nat_lit 407, ⟨.none, none, (.func ⟨"action", "Level.action", defArgs (inClass (top 30) 2), .stmts (defBody (inClass (top 30) 2)), defScope (inClass (top 30) 2), 0, [], .none, .none, .none, .none, none, .none, .none, 0⟩), #[]⟩) ::
 (nat_lit 411, ⟨.none, none, (.fields #[]), #[]⟩) ::
 (nat_lit 414, ⟨.none, none, (.func ⟨"span", "Level.span", defArgs (inClass (top 30) 3), .stmts (defBody (inClass (top 30) 3)), defScope (inClass (top 30) 3), 0, [], .none, .none, .none, .none, none, .none, .none, 0⟩), #[]⟩) ::
 (nat_lit 420, ⟨(.type "super"), none, (.fields #[(.ref 419), (.ref 419), (.ref 419)]), #[]⟩) ::
 (nat_lit 421, ⟨(.type "builtin_function_or_method"), none, (.fields #[(.builtin "object.__init_subclass__"), (.ref 419)]), #[]⟩) ::
 (nat_lit 423, ⟨(.type "builtin_function_or_method"), none, (.fields #[(.builtin "type.__prepare__"), (.type "type")]), #[]⟩) ::
 (nat_lit 424, ⟨(.type "dict"), none, (.dict (List.toArray (⟨kh P "__module__", (.str "__module__" 724), (.str "notefall.deeds" 299)⟩ :: ⟨kh P "__qualname__", (.str "__qualname__" 726), (.str "Mark" 725)⟩ :: ⟨kh P "__firstlineno__", (.str "__firstlineno__" 728), (.int 160 727)⟩ :: ⟨kh P "__init__", (.str "__init__" 736), (.ref 436)⟩ :: ⟨kh P "told", (.str "told" 743), (.ref 443)⟩ :: ⟨kh P "__static_attributes__", (.str "__static_attributes__" 744), (.ref 444)⟩ :: [])) 6), #[]⟩) ::
 (nat_lit 425, ⟨(.type "tuple"), none, (.seq #[] 0), #[]⟩) ::
 (nat_lit 426, ⟨.none, none, (.fields #[(.int 162 0), (.int 4 0), (.ref 435), (.int 165 0), (.int 4 0), (.ref 442)]), #[]⟩) ::
 (nat_lit 427, ⟨(.type "code"), none, (.fields #[(.str "Mark" 719), (.str "Mark" 720), (.str "/claim/cut.py" 721), (.int 160 0), (.int 0 0), (.int 0 0), (.int 0 0), (.int 0 0), (.ref 425), (.bool false), (.int 181 0), (.ref 426), .none, .none, .none, .none, (.int 722 0), (.int 160 0), (.str "/claim/cut.py" 723)]), #[]⟩) ::
 (nat_lit 428, ⟨(.type "frame"), none, .plain, #[(some (.ref 427)), (some (.ref 3)), (some (.ref 424)), none, (some (.str "notefall.deeds" 299)), none, (some (.ref 0))]⟩) ::
 (nat_lit 431, ⟨.none, none, (.fields #[]), #[]⟩) ::
 (nat_lit 434, ⟨.none, none, (.func ⟨"__init__", "Mark.__init__", defArgs (inClass (top 31) 0), .stmts (defBody (inClass (top 31) 0)), defScope (inClass (top 31) 0), 0, [], .none, .none, .none, .none, none, .none, .none, 0⟩), #[]⟩) ::
 (nat_lit 438, ⟨.none, none, (.fields #[]), #[]⟩) ::
 (nat_lit 441, ⟨.none, none, (.func ⟨"told", "Mark.told", defArgs (inClass (top 31) 1), .stmts (defBody (inClass (top 31) 1)), defScope (inClass (top 31) 1), 0, [], .none, .none, .none, .none, none, .none, .none, 0⟩), #[]⟩) ::
 (nat_lit 447, ⟨(.type "super"), none, (.fields #[(.ref 446), (.ref 446), (.ref 446)]), #[]⟩) ::
 (nat_lit 448, ⟨(.type "builtin_function_or_method"), none, (.fields #[(.builtin "object.__init_subclass__"), (.ref 446)]), #[]⟩) ::
 (nat_lit 450, ⟨(.type "builtin_function_or_method"), none, (.fields #[(.builtin "type.__prepare__"), (.type "type")]), #[]⟩) ::
 (nat_lit 451, ⟨(.type "dict"), none, (.dict (List.toArray (⟨kh P "__module__", (.str "__module__" 755), (.str "notefall.deeds" 299)⟩ :: ⟨kh P "__qualname__", (.str "__qualname__" 757), (.str "Forget" 756)⟩ :: ⟨kh P "__firstlineno__", (.str "__firstlineno__" 759), (.int 167 758)⟩ :: ⟨kh P "__init__", (.str "__init__" 768), (.ref 463)⟩ :: ⟨kh P "told", (.str "told" 775), (.ref 470)⟩ :: ⟨kh P "__static_attributes__", (.str "__static_attributes__" 777), (.ref 471)⟩ :: [])) 6), #[]⟩) ::
 (nat_lit 452, ⟨(.type "tuple"), none, (.seq #[] 0), #[]⟩) ::
 (nat_lit 453, ⟨.none, none, (.fields #[(.int 169 0), (.int 4 0), (.ref 462), (.int 173 0), (.int 4 0), (.ref 469)]), #[]⟩) ::
 (nat_lit 454, ⟨(.type "code"), none, (.fields #[(.str "Forget" 750), (.str "Forget" 751), (.str "/claim/cut.py" 752), (.int 167 0), (.int 0 0), (.int 0 0), (.int 0 0), (.int 0 0), (.ref 452), (.bool false), (.int 181 0), (.ref 453), .none, .none, .none, .none, (.int 753 0), (.int 167 0), (.str "/claim/cut.py" 754)]), #[]⟩) ::
 (nat_lit 455, ⟨(.type "frame"), none, .plain, #[(some (.ref 454)), (some (.ref 3)), (some (.ref 451)), none, (some (.str "notefall.deeds" 299)), none, (some (.ref 0))]⟩) ::
 (nat_lit 458, ⟨.none, none, (.fields #[]), #[]⟩) ::
 (nat_lit 461, ⟨.none, none, (.func ⟨"__init__", "Forget.__init__", defArgs (inClass (top 32) 0), .stmts (defBody (inClass (top 32) 0)), defScope (inClass (top 32) 0), 0, [], .none, .none, .none, .none, none, .none, .none, 0⟩), #[]⟩) ::
 (nat_lit 465, ⟨.none, none, (.fields #[]), #[]⟩) ::
 (nat_lit 468, ⟨.none, none, (.func ⟨"told", "Forget.told", defArgs (inClass (top 32) 1), .stmts (defBody (inClass (top 32) 1)), defScope (inClass (top 32) 1), 0, [], .none, .none, .none, .none, none, .none, .none, 0⟩), #[]⟩) ::
 (nat_lit 474, ⟨(.type "super"), none, (.fields #[(.ref 473), (.ref 473), (.ref 473)]), #[]⟩) ::
 (nat_lit 475, ⟨(.type "builtin_function_or_method"), none, (.fields #[(.builtin "object.__init_subclass__"), (.ref 473)]), #[]⟩) ::
 (nat_lit 477, ⟨.none, none, (.fields #[]), #[]⟩) ::
 (nat_lit 480, ⟨.none, none, (.func ⟨"has_form", "has_form", defArgs (top 33), .stmts (defBody (top 33)), defScope (top 33), 0, [], .none, .none, .none, .none, none, .none, .none, 0⟩), #[]⟩) ::
 (nat_lit 484, ⟨.none, none, (.fields #[]), #[]⟩) ::
 (nat_lit 487, ⟨.none, none, (.func ⟨"deed_of", "deed_of", defArgs (top 34), .stmts (defBody (top 34)), defScope (top 34), 0, [], .none, .none, .none, .none, none, .none, .none, 0⟩), #[]⟩) ::
 (nat_lit 491, ⟨.none, none, (.fields #[]), #[]⟩) ::
 (nat_lit 492, ⟨.none, none, (.func ⟨"read_words", "read_words", defArgs (top 35), .stmts (defBody (top 35)), defScope (top 35), 0, [], .none, .none, .none, .none, none, .none, .none, 0⟩), #[]⟩) ::
 (nat_lit 496, ⟨.none, none, (.fields #[]), #[]⟩) ::
 (nat_lit 499, ⟨.none, none, (.func ⟨"_law_well", "_law_well", defArgs (top 37), .stmts (defBody (top 37)), defScope (top 37), 0, [], .none, .none, .none, .none, none, .none, .none, 0⟩), #[]⟩) ::
 (nat_lit 503, ⟨.none, none, (.fields #[]), #[]⟩) ::
 (nat_lit 506, ⟨.none, none, (.func ⟨"_law_draw", "_law_draw", defArgs (top 38), .stmts (defBody (top 38)), defScope (top 38), 0, [], .none, .none, .none, .none, none, .none, .none, 0⟩), #[]⟩) ::
 (nat_lit 510, ⟨.none, none, (.fields #[]), #[]⟩) ::
 (nat_lit 513, ⟨.none, none, (.func ⟨"_law_key", "_law_key", defArgs (top 39), .stmts (defBody (top 39)), defScope (top 39), 0, [], .none, .none, .none, .none, none, .none, .none, 0⟩), #[]⟩) ::
 (nat_lit 517, ⟨.none, none, (.fields #[]), #[]⟩) ::
 (nat_lit 520, ⟨.none, none, (.func ⟨"_law_amount", "_law_amount", defArgs (top 40), .stmts (defBody (top 40)), defScope (top 40), 0, [], .none, .none, .none, .none, none, .none, .none, 0⟩), #[]⟩) ::
 (nat_lit 524, ⟨.none, none, (.fields #[]), #[]⟩) ::
 (nat_lit 527, ⟨.none, none, (.func ⟨"_law_stretch", "_law_stretch", defArgs (top 41), .stmts (defBody (top 41)), defScope (top 41), 0, [], .none, .none, .none, .none, none, .none, .none, 0⟩), #[]⟩) ::
 (nat_lit 531, ⟨.none, none, (.fields #[]), #[]⟩) ::
 (nat_lit 534, ⟨.none, none, (.func ⟨"_law_deed", "_law_deed", defArgs (top 42), .stmts (defBody (top 42)), defScope (top 42), 0, [], .none, .none, .none, .none, none, .none, .none, 0⟩), #[]⟩) ::
 (nat_lit 538, ⟨.none, none, (.fields #[]), #[]⟩) ::
 (nat_lit 541, ⟨.none, none, (.func ⟨"_law_by_place", "_law_by_place", defArgs (top 43), .stmts (defBody (top 43)), defScope (top 43), 0, [], .none, .none, .none, .none, none, .none, .none, 0⟩), #[]⟩) ::
 (nat_lit 545, ⟨.none, none, (.fields #[]), #[]⟩) ::
 (nat_lit 548, ⟨.none, none, (.func ⟨"_law_action", "_law_action", defArgs (top 44), .stmts (defBody (top 44)), defScope (top 44), 0, [], .none, .none, .none, .none, none, .none, .none, 0⟩), #[]⟩) ::
 (nat_lit 552, ⟨.none, none, (.fields #[]), #[]⟩) ::
 (nat_lit 555, ⟨.none, none, (.func ⟨"_law_note", "_law_note", defArgs (top 45), .stmts (defBody (top 45)), defScope (top 45), 0, [], .none, .none, .none, .none, none, .none, .none, 0⟩), #[]⟩) ::
 (nat_lit 559, ⟨.none, none, (.fields #[]), #[]⟩) ::
 (nat_lit 562, ⟨.none, none, (.func ⟨"_law_kinds", "_law_kinds", defArgs (top 46), .stmts (defBody (top 46)), defScope (top 46), 0, [], .none, .none, .none, .none, none, .none, .none, 0⟩), #[]⟩) ::
 (nat_lit 566, ⟨.none, none, (.fields #[]), #[]⟩) ::
 (nat_lit 567, ⟨.none, none, (.func ⟨"_law_right", "_law_right", defArgs (top 47), .stmts (defBody (top 47)), defScope (top 47), 0, [], .none, .none, .none, .none, none, .none, .none, 0⟩), #[]⟩) ::
 (nat_lit 571, ⟨.none, none, (.fields #[]), #[]⟩) ::
 (nat_lit 572, ⟨.none, none, (.func ⟨"law", "law", defArgs (top 48), .stmts (defBody (top 48)), defScope (top 48), 0, [], .none, .none, .none, .none, none, .none, .none, 0⟩), #[]⟩) :: []
noncomputable def hAo (P : Params) : List Obj :=
 (PySem.W.boot_o_0 P) ::
 (PySem.W.boot_o_1 P) ::
 (PySem.W.boot_o_2 P) ::
 (PySem.W.boot_o_3 P) ::
 (PySem.W.boot_o_4 P) ::
 (PySem.W.boot_o_5 P) ::
 (PySem.W.boot_o_6 P) ::
 (PySem.W.boot_o_7 P) ::
 (PySem.W.boot_o_8 P) ::
 (PySem.W.boot_o_9 P) ::
 (PySem.W.boot_o_10 P) ::
 (⟨(.type "tuple"), none, (.seq #[] 0), #[]⟩) ::
 (⟨.none, none, (.fields #[]), #[]⟩) ::
 (⟨(.type "code"), none, (.fields #[(.str "<module>" 182), (.str "<module>" 183), (.str "/claim/cut.py" 184), (.int 1 0), (.int 0 0), (.int 0 0), (.int 0 0), (.int 0 0), (.ref 11), (.bool false), (.int 181 0), (.ref 12), .none, .none, .none, .none, (.int 185 0), (.int 1 0), (.str "/claim/cut.py" 186)]), #[]⟩) ::
 (⟨(.type "frame"), none, .plain, #[(some (.ref 13)), (some (.ref 3)), (some (.ref 3)), none, (some (.str "__main__" 164)), none, (some (.ref 0))]⟩) :: []
theorem z_hOth : K11.hOth = K11.hOth := rfl
name_quick K11_hOth for K11.hOth by K11.z_hOth
theorem z_hAo : K11.hAo = K11.hAo := rfl
name_quick K11_hAo for K11.hAo by K11.z_hAo
def hMrg : Nat → PySem.W.Frag → PySem.W.Frag → List Obj
  | 0, _, _ => []
  | n + 1, (a, o) :: r, (b, p) :: s => match Nat.blt a b with
    | true => o :: hMrg n r ((b, p) :: s)
    | false => p :: hMrg n ((a, o) :: r) s
  | n + 1, (_, o) :: r, [] => o :: hMrg n r []
  | n + 1, [], (_, p) :: s => p :: hMrg n [] s
  | _ + 1, [], [] => []
def hIns : List Obj → Nat → PySem.W.BT → PySem.W.BT
  | [], _, t => t
  | o :: r, n, t => hIns r (n + 1) (t.ins n o)
noncomputable def hTr (P : Params) : PySem.W.BT := hIns (hMrg 575 (PySem.W.Fast.K11_hK P) (PySem.W.Fast.K11_hOth P)) 0 .nil
noncomputable def hEnv : Env := { scope := PySem.W.Fast.K11_pw.main.scope, locals := mainNs, globals := mainNs, cells := [], code := (.ref 13), frame := some 14 }
noncomputable abbrev hCd : Code := Code.body (PySem.W.behindTheImports PySem.W.Fast.K11_pw) hEnv
noncomputable abbrev hSa (P : Params) (os : OsState) : PySem.W.SharedT := ⟨hIns (PySem.W.Fast.K11_hAo P) 0 .nil, 15, {}, Array.mk [], ⟨0, 0, 0, 0⟩, 187, os⟩
noncomputable abbrev hSm (P : Params) (os : OsState) : PySem.W.SharedT := ⟨hTr P, 575, {}, Array.mk [], ⟨0, 0, 0, 0⟩, 905, os⟩
set_option maxRecDepth 100000 in
set_option maxHeartbeats 0 in
theorem hPre (w : World) (os : OsState) : PySem.W.topGo PySem.W.Fast.tw14364793385576792824 PySem.W.Fast.K11_pw w 11 (some (.ref 6)) 12 ⟨PySem.W.boot_heap w.params, Array.mk [], PySem.W.boot_drawn, PySem.W.boot_toks, os⟩ (PySem.W.topStub PySem.W.Fast.K11_pw) = some ((hSa w.params os).abs, ⟨denote PySem.W.Fast.tw14364793385576792824 hCd, hCd, ⟨0, 0, 0, 0⟩, [PySem.W.topFrame ⟨0, 0, 0, 0⟩]⟩) := by kernel_rfl
set_option maxRecDepth 100000 in
set_option maxHeartbeats 0 in
theorem hBlk (w : World) (os : OsState) : PySem.W.segRun PySem.W.Fast.tw14364793385576792824 PySem.W.Fast.K11_pw w 11 (some (.ref 6)) 1 1 (hSa w.params os).abs (PySem.W.blockOf (PySem.W.behindTheImports PySem.W.Fast.K11_pw) hEnv hCd ⟨0, 0, 0, 0⟩ [PySem.W.topFrame ⟨0, 0, 0, 0⟩]) = some (.next, (hSa w.params os).abs, hCd, ⟨0, 0, 0, 0⟩) := by kernel_rfl
noncomputable abbrev hH1 (P : Params) : Heap := PySem.W.absHeap (hTr P) 575 {}
abbrev hAP (w : World) : Prop := ∀ os : OsState, PySem.W.Fast.tw10110043849684766642 PySem.W.Fast.tw14364793385576792824 PySem.W.Fast.K11_pw w 11 (some (.ref 6)) 1 4453 (hSa w.params os) ⟨(PySem.W.Fast.tw12563942051412417395 (PySem.W.behindTheImports PySem.W.Fast.K11_pw) hEnv).wrap PySem.W.doneF PySem.W.deadEnd id id, hCd, ⟨0, 0, 0, 0⟩, [PySem.W.topFrame ⟨0, 0, 0, 0⟩]⟩ = some (.next, hSm w.params os, hCd, ⟨293, 0, 308, 15⟩)
set_option maxRecDepth 100000 in
set_option maxHeartbeats 0 in
theorem hA_false (w : World) (os : OsState) : PySem.W.Fast.tw10110043849684766642 PySem.W.Fast.tw14364793385576792824 PySem.W.Fast.K11_pw (w.withFollow "special-get-raises" false) 11 (some (.ref 6)) 1 4453 (hSa (w.withFollow "special-get-raises" false).params os) ⟨(PySem.W.Fast.tw12563942051412417395 (PySem.W.behindTheImports PySem.W.Fast.K11_pw) hEnv).wrap PySem.W.doneF PySem.W.deadEnd id id, hCd, ⟨0, 0, 0, 0⟩, [PySem.W.topFrame ⟨0, 0, 0, 0⟩]⟩ = some (.next, hSm (w.withFollow "special-get-raises" false).params os, hCd, ⟨293, 0, 308, 15⟩) := by kernel_rfl
set_option maxRecDepth 100000 in
set_option maxHeartbeats 0 in
theorem hA_true (w : World) (os : OsState) : PySem.W.Fast.tw10110043849684766642 PySem.W.Fast.tw14364793385576792824 PySem.W.Fast.K11_pw (w.withFollow "special-get-raises" true) 11 (some (.ref 6)) 1 4453 (hSa (w.withFollow "special-get-raises" true).params os) ⟨(PySem.W.Fast.tw12563942051412417395 (PySem.W.behindTheImports PySem.W.Fast.K11_pw) hEnv).wrap PySem.W.doneF PySem.W.deadEnd id id, hCd, ⟨0, 0, 0, 0⟩, [PySem.W.topFrame ⟨0, 0, 0, 0⟩]⟩ = some (.next, hSm (w.withFollow "special-get-raises" true).params os, hCd, ⟨293, 0, 308, 15⟩) := by kernel_rfl
theorem hAllq (w : World) : hAP w := PySem.W.byRow2 "special-get-raises" (P := hAP) (fun w os => hA_false w os) (fun w os => hA_true w os) w
set_option maxRecDepth 100000 in
set_option maxHeartbeats 0 in
theorem hFin (w : World) (os : OsState) : PySem.W.topRun PySem.W.Fast.tw14364793385576792824 PySem.W.Fast.K11_pw w 11 (some (.ref 6)) 2 (hSm w.params os).abs (PySem.W.restOf [] hEnv hCd ⟨293, 0, 308, 15⟩ [PySem.W.topFrame ⟨0, 0, 0, 0⟩]) = some ⟨hH1 w.params, Array.mk [], ⟨0, 0, 0, 0⟩, 905, os⟩ := by kernel_rfl
theorem all_of {F F' : (String → Option Builtin) → Program → World → Nat → Option Value → Nat → Nat → PySem.W.SharedT → Thread → Option (Flow × PySem.W.SharedT × Code × Pos)} {G G' : List Stmt → Env → Sem Flow} {tb : String → Option Builtin} {p : Program} {w : World} {m n : Nat} {ann : Option Value} {S : PySem.W.SharedT} {l : List Stmt} {env : Env} {c : Code} {pos : Pos} {B : List Frame} {r : Option (Flow × PySem.W.SharedT × Code × Pos)}
    (h : F' tb p w m ann 1 n S ⟨(G' l env).wrap PySem.W.doneF PySem.W.deadEnd id id, c, pos, B⟩ = r) (eF : F = F') (eG : G = G') : F tb p w m ann 1 n S ⟨(G l env).wrap PySem.W.doneF PySem.W.deadEnd id id, c, pos, B⟩ = r := by
  subst eF eG; exact h
theorem run_chain {tb : String → Option Builtin} {p : Program} {w : World} {m n0 n1 n2 n3 : Nat} {ann : Option Value} {env : Env} {q : Pos} {b : List Stmt} {S0 Sa R : Shared} {SA SM : PySem.W.SharedT} {stub : Thread} {pos0 pos1 pos2 : Pos} (ea : SA.abs = Sa)
    (h1 : PySem.W.topGo tb p w m ann n0 S0 stub = some (Sa, ⟨denote tb (Code.body b env), Code.body b env, pos0, [PySem.W.topFrame q]⟩))
    (h2 : PySem.W.segRun tb p w m ann 1 n1 Sa (PySem.W.blockOf b env (Code.body b env) pos0 [PySem.W.topFrame q]) = some (.next, Sa, Code.body b env, pos1))
    (h3 : PySem.W.segRunT tb p w m ann 1 n2 SA (PySem.W.piecesOf b env (Code.body b env) pos1 [PySem.W.topFrame q]) = some (.next, SM, Code.body b env, pos2))
    (h4 : PySem.W.topRun tb p w m ann n3 SM.abs (PySem.W.restOf [] env (Code.body b env) pos2 [PySem.W.topFrame q]) = some R) : PySem.W.topRun tb p w m ann (n0 + (n1 + (n2 + n3))) S0 stub = some R := by
  subst ea
  refine PySem.W.go_top h1 (PySem.W.piece_block h2 ?_)
  have h := PySem.W.piece_app (rest := []) (PySem.W.segRun_of h3) h4
  rw [List.append_nil] at h
  exact h
set_option maxRecDepth 100000 in
set_option maxHeartbeats 0 in
theorem hRun (w : World) (os : OsState) : PySem.W.topRun PySem.W.Fast.tw14364793385576792824 PySem.W.Fast.K11_pw w 11 (some (.ref 6)) (12 + (1 + (4453 + 2))) ⟨PySem.W.boot_heap w.params, Array.mk [], PySem.W.boot_drawn, PySem.W.boot_toks, os⟩ (PySem.W.topStub PySem.W.Fast.K11_pw) = some ⟨hH1 w.params, Array.mk [], ⟨0, 0, 0, 0⟩, 905, os⟩ :=
  run_chain rfl (hPre w os) (hBlk w os) (all_of (hAllq w os) PySem.W.Fast.te10110043849684766642 PySem.W.Fast.te12563942051412417395) (hFin w os)
abbrev hG {t : Type} (p q : Program) (lo : List Str) (lv : List (Str × PySem.W.WData)) (K : Params → PySem.W.Frag) (sn : Program → List Str → List Str → (Shared → Bool) → Bool → Shared → t) (gd : Program → List Str → t) (im : List Stmt → List Str) (w : World) : Prop :=
  (fun os : OsState => ((PySem.W.staticsOk (im p.main.body) (PySem.W.boot_heap w.params) (hH1 w.params) && PySem.W.namesBound p (hH1 w.params) && PySem.W.gensDone ⟨hH1 w.params, Array.mk [], ⟨0, 0, 0, 0⟩, 905, os⟩ && PySem.W.laidKept (PySem.W.boot_heap w.params) (hH1 w.params)), sn q lo (im p.main.body) (hXt q lv) true ⟨hH1 w.params, Array.mk [], ⟨0, 0, 0, 0⟩, 905, os⟩, hYf ⟨hH1 w.params, Array.mk [], ⟨0, 0, 0, 0⟩, 905, os⟩)) = fun _ => (true, gd q lo, hYa K w)
theorem hG_of {t : Type} {p p' q q' : Program} {lo lo' : List Str} {lv lv' : List (Str × PySem.W.WData)} {K K' : Params → PySem.W.Frag} {sn sn' : Program → List Str → List Str → (Shared → Bool) → Bool → Shared → t} {gd : Program → List Str → t} {im im' : List Stmt → List Str} {w : World}
    (h : hG p' q' lo' lv' K' sn' gd im' w) (e2 : p = p') (e3 : q = q') (e4 : lo = lo') (e5 : lv = lv') (e6 : K = K') (e7 : sn = sn') (e8 : im = im') : hG p q lo lv K sn gd im w := by
  subst e2 e3 e4 e5 e6 e7 e8; exact h
set_option maxRecDepth 100000 in
set_option maxHeartbeats 0 in
theorem hLk (w : World) : hG PySem.W.Fast.K11_pw PySem.W.Fast.K11_hQ PySem.W.Fast.K11_hLo PySem.W.Fast.K11_hLv PySem.W.Fast.K11_hK PySem.W.Fast.tw4187177175401517315 PySem.W.openGood PySem.W.Fast.tw5923862056798008813 w := by kernel_rfl
theorem hR_of {tb tb' : String → Option Builtin} {p p' : Program} {M : Nat} {S R : World → OsState → Shared} (h : ∀ w os, PySem.W.topRun tb' p' w 11 (some (.ref 6)) M (S w os) (PySem.W.topStub p') = some (R w os)) (e1 : tb = tb') (e2 : p = p') : ∀ w os, PySem.W.topRun tb p w 11 (some (.ref 6)) M (S w os) (PySem.W.topStub p) = some (R w os) := by
  subst e1 e2; exact h
set_option maxRecDepth 100000 in
set_option maxHeartbeats 0 in
theorem hSz (w : World) : ((PySem.W.boot_heap w.params).isNs mainGlobals && (Array.mk [] : Array GenState).size == 0, (PySem.W.boot_heap w.params).objs.size, (PySem.W.boot_heap w.params).nsMap mainGlobals "__annotations__") = (true, 11, (some (.ref 6))) := by kernel_rfl
set_option maxRecDepth 100000 in
set_option maxHeartbeats 0 in
theorem hl : PySem.W.LeftO PySem.Challenge.pw_notefall_k11_deeds_made hQ hLo (hXt hQ hLv) hYf (hYa hK) 9012 :=
  PySem.W.LeftO.of_pieces (H₁ := hH1) (gs₁ := Array.mk []) (d₁ := ⟨0, 0, 0, 0⟩) (k₁ := 905) (PySem.W.boot_open (by kernel_rfl) (by decide +kernel) (fun s => by kernel_rfl)) hSz (hR_of (M := (12 + (1 + (4453 + 2)))) hRun PySem.W.Fast.te14364793385576792824 PySem.W.Fast.K11_pw_eq) (by decide +kernel)
    (fun w => hG_of (hLk w) PySem.W.Fast.K11_pw_eq PySem.W.Fast.K11_hQ_eq PySem.W.Fast.K11_hLo_eq PySem.W.Fast.K11_hLv_eq PySem.W.Fast.K11_hK_eq PySem.W.Fast.te4187177175401517315 PySem.W.Fast.te5923862056798008813)
end K11
open PySem PySem.W PyProof.Rows
set_option maxRecDepth 100000 in
set_option maxHeartbeats 0 in
theorem PySem.Challenge.cw_notefall_k11_deeds_made_holds : PySem.Challenge.rw_notefall_k11_deeds_made.Holds := by
  w_on; o_law
  refine holds_open (q := K11.hQ) (loose := K11.hLo) (Xt := K11.hXt K11.hQ K11.hLv) (XP := XL K11.hQ K11.hLv) (Yf := K11.hYf) (Ya := K11.hYa K11.hK) (YP := Hook.says (PySem.W.kHook K11.hK K11.hAs K11.hE)) (N := 9012) K11.hl (Hook.of (PySem.W.kHook K11.hK K11.hAs K11.hE)) (Hook.keeps (PySem.W.kHook K11.hK K11.hAs K11.hE)) (fun s e => xl_of s (Bool.and_eq_true_iff.mp e).1) XL.keeps (by rfl) (by rfl) (by rfl) (fun s e => recFacts_of (Bool.and_eq_true_iff.mp e).2) (by rfl) (by first | assumption | decide +kernel) (by decide +kernel) ⟨rfl, rfl, rfl, rfl, rfl, by decide +kernel⟩ ?hw ?hc
  case hw => w_witness2
  k_fill
  refine K11.walk (l := PySem.Challenge.rw_notefall_k11_deeds_made) rfl rfl (fun w h Y => PySem.W.kIn_of Y) ?F
  case F =>
    intro w mg fa h KX G hmg
    refine' K11.all_mk KX G hmg ?qa_Deed ?qb_Deed ?qc_Deed ?qd_Deed ?na_Put_key ?na_Put_value ?qa_Put ?qb_Put ?qc_Put ?qd_Put ?na_Drop_key ?qa_Drop ?qb_Drop ?qc_Drop ?qd_Drop ?na_Add_by ?na_Add_key ?qa_Add ?qb_Add ?qc_Add ?qd_Add ?na_Wipe_high ?na_Wipe_low ?qa_Wipe ?qb_Wipe ?qc_Wipe ?qd_Wipe ?na_Raise_by ?na_Raise_high ?na_Raise_low ?qa_Raise ?qb_Raise ?qc_Raise ?qd_Raise ?na_Level_high ?na_Level_low ?na_Level_value ?qa_Level ?qb_Level ?qc_Level ?qd_Level ?qa_Mark ?qb_Mark ?qc_Mark ?qd_Mark ?na_Forget_mark ?qa_Forget ?qb_Forget ?qc_Forget ?qd_Forget ?a1 ?l1 ?c1 ?k1 ?a2 ?l2 ?c2 ?k2 ?a3 ?l3 ?c3 ?k3 ?a4 ?l4 ?c4 ?k4 ?a5 ?l5 ?c5 ?k5 ?a6 ?l6 ?c6 ?k6 ?a7 ?l7 ?c7 ?k7 ?a8 ?l8 ?c8 ?k8 ?a9 ?l9 ?c9 ?k9 ?a10 ?l10 ?c10 ?k10 ?a11 ?l11 ?c11 ?k11 ?i12 ?l12 ?c12 ?k12 ?n12 ?i13 ?l13 ?c13 ?k13 ?n13 ?l14 ?c14 ?ld14 ?k14 ?i14 ?n14 ?p14 ?bd14 ?q14a ?q14b ?q14c ?q14d ?na14key ?na14value ?i15 ?l15 ?c15 ?k15 ?n15 ?i16 ?l16 ?c16 ?k16 ?n16 ?i17 ?l17 ?c17 ?k17 ?n17 ?l18 ?c18 ?ld18 ?k18 ?i18 ?n18 ?p18 ?bd18 ?q18a ?q18b ?q18c ?q18d ?na18key ?i19 ?l19 ?c19 ?k19 ?n19 ?i20 ?l20 ?c20 ?k20 ?n20 ?i21 ?l21 ?c21 ?k21 ?n21 ?l22 ?c22 ?ld22 ?k22 ?i22 ?n22 ?p22 ?bd22 ?q22a ?q22b ?q22c ?q22d ?na22key ?na22by ?i23 ?l23 ?c23 ?k23 ?n23 ?i24 ?l24 ?c24 ?k24 ?n24 ?i25 ?l25 ?c25 ?k25 ?n25 ?l26 ?c26 ?ld26 ?k26 ?i26 ?n26 ?p26 ?bd26 ?q26a ?q26b ?q26c ?q26d ?na26low ?na26high ?i27 ?l27 ?c27 ?k27 ?n27 ?i28 ?l28 ?c28 ?k28 ?n28 ?i29 ?l29 ?c29 ?k29 ?n29 ?l30 ?c30 ?ld30 ?k30 ?i30 ?n30 ?p30 ?bd30 ?q30a ?q30b ?q30c ?q30d ?na30low ?na30high ?na30by ?i31 ?l31 ?c31 ?k31 ?n31 ?i32 ?l32 ?c32 ?k32 ?n32 ?i33 ?l33 ?c33 ?k33 ?n33 ?l34 ?c34 ?ld34 ?k34 ?i34 ?n34 ?p34 ?bd34 ?q34a ?q34b ?q34c ?q34d ?na34low ?na34high ?na34value ?i35 ?l35 ?c35 ?k35 ?n35 ?i36 ?l36 ?c36 ?k36 ?n36 ?i37 ?l37 ?c37 ?k37 ?n37 ?l38 ?c38 ?ld38 ?k38 ?i38 ?n38 ?p38 ?bd38 ?q38a ?q38b ?q38c ?q38d ?i39 ?l39 ?c39 ?k39 ?n39 ?l40 ?c40 ?ld40 ?k40 ?i40 ?n40 ?p40 ?bd40 ?q40a ?q40b ?q40c ?q40d ?na40mark ?i41 ?l41 ?c41 ?k41 ?n41 ?i42 ?l42 ?c42 ?k42 ?n42 ?i43 ?l43 ?c43 ?k43 ?n43 ?i44 ?l44 ?c44 ?k44 ?n44 ?a45 ?l45 ?c45 ?k45 ?a46 ?l46 ?c46 ?k46 ?a47 ?l47 ?c47 ?k47 ?a48 ?l48 ?c48 ?k48 ?a49 ?l49 ?c49 ?k49 ?a50 ?l50 ?c50 ?k50 ?a51 ?l51 ?c51 ?k51 ?a52 ?l52 ?c52 ?k52 ?a53 ?l53 ?c53 ?k53 ?a54 ?l54 ?c54 ?k54 ?a55 ?l55 ?c55 ?k55 ?a56 ?l56 ?c56 ?k56 ?a57 ?l57 ?c57 ?k57 ?a58 ?l58 ?c58 ?k58 ?a59 ?l59 ?c59 ?k59 ?z_len ?z_isinstance ?z_int ?z_bool ?z_tuple ?z_str ?z_min ?z_END ?z_MOST_VALUE ?z_MOST_FIGURES ?z_NO_MORE ?z_THINGS ?z_GONE ?z_CLEARING ?z_Deed ?z_Put ?z_Drop ?z_Add ?z_Wipe ?z_Raise ?z_Level ?z_Mark ?z_Forget ?z_kT ?z_tne ?z_kG ?z_kC ?z_kC1 ?z_kC2 ?z_gt ?z_tk ?z_caPut ?z_moPut ?z_kDPut ?z_nePut ?z_odPuttuple ?z_odPutlist ?z_odPutint ?z_odPutstr ?z_odPutNoneType ?z_kkPutPut ?z_kkPutDrop ?z_nfPutDrop ?z_kkPutAdd ?z_nfPutAdd ?z_kkPutWipe ?z_nfPutWipe ?z_kkPutRaise ?z_nfPutRaise ?z_kkPutLevel ?z_nfPutLevel ?z_kkPutMark ?z_nfPutMark ?z_kkPutForget ?z_nfPutForget ?z_mtPutnote ?z_mtPutstr ?z_mtPuteq ?z_caDrop ?z_moDrop ?z_kDDrop ?z_neDrop ?z_odDroptuple ?z_odDroplist ?z_odDropint ?z_odDropstr ?z_odDropNoneType ?z_kkDropPut ?z_nfDropPut ?z_kkDropDrop ?z_kkDropAdd ?z_nfDropAdd ?z_kkDropWipe ?z_nfDropWipe ?z_kkDropRaise ?z_nfDropRaise ?z_kkDropLevel ?z_nfDropLevel ?z_kkDropMark ?z_nfDropMark ?z_kkDropForget ?z_nfDropForget ?z_mtDropnote ?z_mtDropstr ?z_mtDropeq ?z_caAdd ?z_moAdd ?z_kDAdd ?z_neAdd ?z_odAddtuple ?z_odAddlist ?z_odAddint ?z_odAddstr ?z_odAddNoneType ?z_kkAddPut ?z_nfAddPut ?z_kkAddDrop ?z_nfAddDrop ?z_kkAddAdd ?z_kkAddWipe ?z_nfAddWipe ?z_kkAddRaise ?z_nfAddRaise ?z_kkAddLevel ?z_nfAddLevel ?z_kkAddMark ?z_nfAddMark ?z_kkAddForget ?z_nfAddForget ?z_mtAddnote ?z_mtAddstr ?z_mtAddeq ?z_caWipe ?z_moWipe ?z_kDWipe ?z_neWipe ?z_odWipetuple ?z_odWipelist ?z_odWipeint ?z_odWipestr ?z_odWipeNoneType ?z_kkWipePut ?z_nfWipePut ?z_kkWipeDrop ?z_nfWipeDrop ?z_kkWipeAdd ?z_nfWipeAdd ?z_kkWipeWipe ?z_kkWipeRaise ?z_nfWipeRaise ?z_kkWipeLevel ?z_nfWipeLevel ?z_kkWipeMark ?z_nfWipeMark ?z_kkWipeForget ?z_nfWipeForget ?z_mtWipenote ?z_mtWipestr ?z_mtWipeeq ?z_caRaise ?z_moRaise ?z_kDRaise ?z_neRaise ?z_odRaisetuple ?z_odRaiselist ?z_odRaiseint ?z_odRaisestr ?z_odRaiseNoneType ?z_kkRaisePut ?z_nfRaisePut ?z_kkRaiseDrop ?z_nfRaiseDrop ?z_kkRaiseAdd ?z_nfRaiseAdd ?z_kkRaiseWipe ?z_nfRaiseWipe ?z_kkRaiseRaise ?z_kkRaiseLevel ?z_nfRaiseLevel ?z_kkRaiseMark ?z_nfRaiseMark ?z_kkRaiseForget ?z_nfRaiseForget ?z_mtRaisenote ?z_mtRaisestr ?z_mtRaiseeq ?z_caLevel ?z_moLevel ?z_kDLevel ?z_neLevel ?z_odLeveltuple ?z_odLevellist ?z_odLevelint ?z_odLevelstr ?z_odLevelNoneType ?z_kkLevelPut ?z_nfLevelPut ?z_kkLevelDrop ?z_nfLevelDrop ?z_kkLevelAdd ?z_nfLevelAdd ?z_kkLevelWipe ?z_nfLevelWipe ?z_kkLevelRaise ?z_nfLevelRaise ?z_kkLevelLevel ?z_kkLevelMark ?z_nfLevelMark ?z_kkLevelForget ?z_nfLevelForget ?z_mtLevelnote ?z_mtLevelstr ?z_mtLeveleq ?z_caMark ?z_moMark ?z_kDMark ?z_neMark ?z_odMarktuple ?z_odMarklist ?z_odMarkint ?z_odMarkstr ?z_odMarkNoneType ?z_kkMarkPut ?z_nfMarkPut ?z_kkMarkDrop ?z_nfMarkDrop ?z_kkMarkAdd ?z_nfMarkAdd ?z_kkMarkWipe ?z_nfMarkWipe ?z_kkMarkRaise ?z_nfMarkRaise ?z_kkMarkLevel ?z_nfMarkLevel ?z_kkMarkMark ?z_kkMarkForget ?z_nfMarkForget ?z_mtMarknote ?z_mtMarkstr ?z_mtMarkeq ?z_mtMarkaction ?z_mtMarkspan ?z_caForget ?z_moForget ?z_kDForget ?z_neForget ?z_odForgettuple ?z_odForgetlist ?z_odForgetint ?z_odForgetstr ?z_odForgetNoneType ?z_kkForgetPut ?z_nfForgetPut ?z_kkForgetDrop ?z_nfForgetDrop ?z_kkForgetAdd ?z_nfForgetAdd ?z_kkForgetWipe ?z_nfForgetWipe ?z_kkForgetRaise ?z_nfForgetRaise ?z_kkForgetLevel ?z_nfForgetLevel ?z_kkForgetMark ?z_nfForgetMark ?z_kkForgetForget ?z_mtForgetnote ?z_mtForgetstr ?z_mtForgeteq ?z_mtForgetaction ?z_mtForgetspan ?z_kdtuple ?z_kdlist ?z_kdint ?z_kdstr ?z_kdNoneType
    (case z_END => k_is)
    (case z_MOST_VALUE => k_is)
    (case z_MOST_FIGURES => k_is)
    (case z_NO_MORE => k_is)
    (case z_THINGS => k_is)
    (case z_GONE => k_is)
    (case z_CLEARING => k_is)
    (case z_Deed => k_is)
    (case z_Put => k_is)
    (case z_Drop => k_is)
    (case z_Add => k_is)
    (case z_Wipe => k_is)
    (case z_Raise => k_is)
    (case z_Level => k_is)
    (case z_Mark => k_is)
    (case z_Forget => k_is)
    (case qa_Deed => k_is)
    (case qb_Deed => k_is)
    (case qc_Deed => k_is)
    (case qd_Deed => k_is)
    (case na_Put_key => k_is)
    (case na_Put_value => k_is)
    (case qa_Put => k_is)
    (case qb_Put => k_is)
    (case qc_Put => k_is)
    (case qd_Put => k_is)
    (case na_Drop_key => k_is)
    (case qa_Drop => k_is)
    (case qb_Drop => k_is)
    (case qc_Drop => k_is)
    (case qd_Drop => k_is)
    (case na_Add_by => k_is)
    (case na_Add_key => k_is)
    (case qa_Add => k_is)
    (case qb_Add => k_is)
    (case qc_Add => k_is)
    (case qd_Add => k_is)
    (case na_Wipe_high => k_is)
    (case na_Wipe_low => k_is)
    (case qa_Wipe => k_is)
    (case qb_Wipe => k_is)
    (case qc_Wipe => k_is)
    (case qd_Wipe => k_is)
    (case na_Raise_by => k_is)
    (case na_Raise_high => k_is)
    (case na_Raise_low => k_is)
    (case qa_Raise => k_is)
    (case qb_Raise => k_is)
    (case qc_Raise => k_is)
    (case qd_Raise => k_is)
    (case na_Level_high => k_is)
    (case na_Level_low => k_is)
    (case na_Level_value => k_is)
    (case qa_Level => k_is)
    (case qb_Level => k_is)
    (case qc_Level => k_is)
    (case qd_Level => k_is)
    (case qa_Mark => k_is)
    (case qb_Mark => k_is)
    (case qc_Mark => k_is)
    (case qd_Mark => k_is)
    (case na_Forget_mark => k_is)
    (case qa_Forget => k_is)
    (case qb_Forget => k_is)
    (case qc_Forget => k_is)
    (case qd_Forget => k_is)
    (case a1 => k_is)
    (case l1 => k_is)
    (case c1 => k_is)
    (case k1 => k_is)
    (case a2 => k_is)
    (case l2 => k_is)
    (case c2 => k_is)
    (case k2 => k_is)
    (case a3 => k_is)
    (case l3 => k_is)
    (case c3 => k_is)
    (case k3 => k_is)
    (case a4 => k_is)
    (case l4 => k_is)
    (case c4 => k_is)
    (case k4 => k_is)
    (case a5 => k_is)
    (case l5 => k_is)
    (case c5 => k_is)
    (case k5 => k_is)
    (case a6 => k_is)
    (case l6 => k_is)
    (case c6 => k_is)
    (case k6 => k_is)
    (case a7 => k_is)
    (case l7 => k_is)
    (case c7 => k_is)
    (case k7 => k_is)
    (case a8 => k_is)
    (case l8 => k_is)
    (case c8 => k_is)
    (case k8 => k_is)
    (case a9 => k_is)
    (case l9 => k_is)
    (case c9 => k_is)
    (case k9 => k_is)
    (case a10 => k_is)
    (case l10 => k_is)
    (case c10 => k_is)
    (case k10 => k_is)
    (case a11 => k_is)
    (case l11 => k_is)
    (case c11 => k_is)
    (case k11 => k_is)
    (case i12 => k_is)
    (case l12 => k_is)
    (case c12 => k_is)
    (case k12 => k_is)
    (case n12 => k_is)
    (case i13 => k_is)
    (case l13 => k_is)
    (case c13 => k_is)
    (case k13 => k_is)
    (case n13 => k_is)
    (case i14 => k_is)
    (case l14 => k_is)
    (case c14 => k_is)
    (case ld14 => k_is)
    (case k14 => k_is)
    (case n14 => k_is)
    (case p14 => k_is)
    (case bd14 => intros; kernel_rfl)
    (case q14a => k_is)
    (case q14b => k_is)
    (case q14c => k_is)
    (case q14d => k_is)
    (case na14key => k_is)
    (case na14value => k_is)
    (case i15 => k_is)
    (case l15 => k_is)
    (case c15 => k_is)
    (case k15 => k_is)
    (case n15 => k_is)
    (case i16 => k_is)
    (case l16 => k_is)
    (case c16 => k_is)
    (case k16 => k_is)
    (case n16 => k_is)
    (case i17 => k_is)
    (case l17 => k_is)
    (case c17 => k_is)
    (case k17 => k_is)
    (case n17 => k_is)
    (case i18 => k_is)
    (case l18 => k_is)
    (case c18 => k_is)
    (case ld18 => k_is)
    (case k18 => k_is)
    (case n18 => k_is)
    (case p18 => k_is)
    (case bd18 => intros; kernel_rfl)
    (case q18a => k_is)
    (case q18b => k_is)
    (case q18c => k_is)
    (case q18d => k_is)
    (case na18key => k_is)
    (case i19 => k_is)
    (case l19 => k_is)
    (case c19 => k_is)
    (case k19 => k_is)
    (case n19 => k_is)
    (case i20 => k_is)
    (case l20 => k_is)
    (case c20 => k_is)
    (case k20 => k_is)
    (case n20 => k_is)
    (case i21 => k_is)
    (case l21 => k_is)
    (case c21 => k_is)
    (case k21 => k_is)
    (case n21 => k_is)
    (case i22 => k_is)
    (case l22 => k_is)
    (case c22 => k_is)
    (case ld22 => k_is)
    (case k22 => k_is)
    (case n22 => k_is)
    (case p22 => k_is)
    (case bd22 => intros; kernel_rfl)
    (case q22a => k_is)
    (case q22b => k_is)
    (case q22c => k_is)
    (case q22d => k_is)
    (case na22key => k_is)
    (case na22by => k_is)
    (case i23 => k_is)
    (case l23 => k_is)
    (case c23 => k_is)
    (case k23 => k_is)
    (case n23 => k_is)
    (case i24 => k_is)
    (case l24 => k_is)
    (case c24 => k_is)
    (case k24 => k_is)
    (case n24 => k_is)
    (case i25 => k_is)
    (case l25 => k_is)
    (case c25 => k_is)
    (case k25 => k_is)
    (case n25 => k_is)
    (case i26 => k_is)
    (case l26 => k_is)
    (case c26 => k_is)
    (case ld26 => k_is)
    (case k26 => k_is)
    (case n26 => k_is)
    (case p26 => k_is)
    (case bd26 => intros; kernel_rfl)
    (case q26a => k_is)
    (case q26b => k_is)
    (case q26c => k_is)
    (case q26d => k_is)
    (case na26low => k_is)
    (case na26high => k_is)
    (case i27 => k_is)
    (case l27 => k_is)
    (case c27 => k_is)
    (case k27 => k_is)
    (case n27 => k_is)
    (case i28 => k_is)
    (case l28 => k_is)
    (case c28 => k_is)
    (case k28 => k_is)
    (case n28 => k_is)
    (case i29 => k_is)
    (case l29 => k_is)
    (case c29 => k_is)
    (case k29 => k_is)
    (case n29 => k_is)
    (case i30 => k_is)
    (case l30 => k_is)
    (case c30 => k_is)
    (case ld30 => k_is)
    (case k30 => k_is)
    (case n30 => k_is)
    (case p30 => k_is)
    (case bd30 => intros; kernel_rfl)
    (case q30a => k_is)
    (case q30b => k_is)
    (case q30c => k_is)
    (case q30d => k_is)
    (case na30low => k_is)
    (case na30high => k_is)
    (case na30by => k_is)
    (case i31 => k_is)
    (case l31 => k_is)
    (case c31 => k_is)
    (case k31 => k_is)
    (case n31 => k_is)
    (case i32 => k_is)
    (case l32 => k_is)
    (case c32 => k_is)
    (case k32 => k_is)
    (case n32 => k_is)
    (case i33 => k_is)
    (case l33 => k_is)
    (case c33 => k_is)
    (case k33 => k_is)
    (case n33 => k_is)
    (case i34 => k_is)
    (case l34 => k_is)
    (case c34 => k_is)
    (case ld34 => k_is)
    (case k34 => k_is)
    (case n34 => k_is)
    (case p34 => k_is)
    (case bd34 => intros; kernel_rfl)
    (case q34a => k_is)
    (case q34b => k_is)
    (case q34c => k_is)
    (case q34d => k_is)
    (case na34low => k_is)
    (case na34high => k_is)
    (case na34value => k_is)
    (case i35 => k_is)
    (case l35 => k_is)
    (case c35 => k_is)
    (case k35 => k_is)
    (case n35 => k_is)
    (case i36 => k_is)
    (case l36 => k_is)
    (case c36 => k_is)
    (case k36 => k_is)
    (case n36 => k_is)
    (case i37 => k_is)
    (case l37 => k_is)
    (case c37 => k_is)
    (case k37 => k_is)
    (case n37 => k_is)
    (case i38 => k_is)
    (case l38 => k_is)
    (case c38 => k_is)
    (case ld38 => k_is)
    (case k38 => k_is)
    (case n38 => k_is)
    (case p38 => k_is)
    (case bd38 => intros; kernel_rfl)
    (case q38a => k_is)
    (case q38b => k_is)
    (case q38c => k_is)
    (case q38d => k_is)
    (case i39 => k_is)
    (case l39 => k_is)
    (case c39 => k_is)
    (case k39 => k_is)
    (case n39 => k_is)
    (case i40 => k_is)
    (case l40 => k_is)
    (case c40 => k_is)
    (case ld40 => k_is)
    (case k40 => k_is)
    (case n40 => k_is)
    (case p40 => k_is)
    (case bd40 => intros; kernel_rfl)
    (case q40a => k_is)
    (case q40b => k_is)
    (case q40c => k_is)
    (case q40d => k_is)
    (case na40mark => k_is)
    (case i41 => k_is)
    (case l41 => k_is)
    (case c41 => k_is)
    (case k41 => k_is)
    (case n41 => k_is)
    (case i42 => k_is)
    (case l42 => k_is)
    (case c42 => k_is)
    (case k42 => k_is)
    (case n42 => k_is)
    (case i43 => k_is)
    (case l43 => k_is)
    (case c43 => k_is)
    (case k43 => k_is)
    (case n43 => k_is)
    (case i44 => k_is)
    (case l44 => k_is)
    (case c44 => k_is)
    (case k44 => k_is)
    (case n44 => k_is)
    (case a45 => k_is)
    (case l45 => k_is)
    (case c45 => k_is)
    (case k45 => k_is)
    (case a46 => k_is)
    (case l46 => k_is)
    (case c46 => k_is)
    (case k46 => k_is)
    (case a47 => k_is)
    (case l47 => k_is)
    (case c47 => k_is)
    (case k47 => k_is)
    (case a48 => k_is)
    (case l48 => k_is)
    (case c48 => k_is)
    (case k48 => k_is)
    (case a49 => k_is)
    (case l49 => k_is)
    (case c49 => k_is)
    (case k49 => k_is)
    (case a50 => k_is)
    (case l50 => k_is)
    (case c50 => k_is)
    (case k50 => k_is)
    (case a51 => k_is)
    (case l51 => k_is)
    (case c51 => k_is)
    (case k51 => k_is)
    (case a52 => k_is)
    (case l52 => k_is)
    (case c52 => k_is)
    (case k52 => k_is)
    (case a53 => k_is)
    (case l53 => k_is)
    (case c53 => k_is)
    (case k53 => k_is)
    (case a54 => k_is)
    (case l54 => k_is)
    (case c54 => k_is)
    (case k54 => k_is)
    (case a55 => k_is)
    (case l55 => k_is)
    (case c55 => k_is)
    (case k55 => k_is)
    (case a56 => k_is)
    (case l56 => k_is)
    (case c56 => k_is)
    (case k56 => k_is)
    (case a57 => k_is)
    (case l57 => k_is)
    (case c57 => k_is)
    (case k57 => k_is)
    (case a58 => k_is)
    (case l58 => k_is)
    (case c58 => k_is)
    (case k58 => k_is)
    (case a59 => k_is)
    (case l59 => k_is)
    (case c59 => k_is)
    (case k59 => k_is)
    (case z_len => k_is)
    (case z_isinstance => k_is)
    (case z_int => k_is)
    (case z_bool => k_is)
    (case z_tuple => k_is)
    (case z_str => k_is)
    (case z_min => k_is)
    (case z_kT => k_is)
    (case z_tne => decide)
    (case z_kG => k_is)
    (case z_kC => k_is)
    (case z_kC1 => k_is)
    (case z_kC2 => k_is)
    (case z_gt => k_is)
    (case z_tk => k_is)
    (case z_caPut => k_is)
    (case z_moPut => k_is)
    (case z_kDPut => kit_is)
    (case z_nePut => k_is)
    (case z_odPuttuple => k_is)
    (case z_odPutlist => k_is)
    (case z_odPutint => k_is)
    (case z_odPutstr => k_is)
    (case z_odPutNoneType => k_is)
    (case z_kkPutPut => kit_is)
    (case z_kkPutDrop => kit_is)
    (case z_nfPutDrop => k_is)
    (case z_kkPutAdd => kit_is)
    (case z_nfPutAdd => k_is)
    (case z_kkPutWipe => kit_is)
    (case z_nfPutWipe => k_is)
    (case z_kkPutRaise => kit_is)
    (case z_nfPutRaise => k_is)
    (case z_kkPutLevel => kit_is)
    (case z_nfPutLevel => k_is)
    (case z_kkPutMark => kit_is)
    (case z_nfPutMark => k_is)
    (case z_kkPutForget => kit_is)
    (case z_nfPutForget => k_is)
    (case z_mtPutnote => k_is)
    (case z_mtPutstr => k_is)
    (case z_mtPuteq => k_is)
    (case z_caDrop => k_is)
    (case z_moDrop => k_is)
    (case z_kDDrop => kit_is)
    (case z_neDrop => k_is)
    (case z_odDroptuple => k_is)
    (case z_odDroplist => k_is)
    (case z_odDropint => k_is)
    (case z_odDropstr => k_is)
    (case z_odDropNoneType => k_is)
    (case z_kkDropPut => kit_is)
    (case z_nfDropPut => k_is)
    (case z_kkDropDrop => kit_is)
    (case z_kkDropAdd => kit_is)
    (case z_nfDropAdd => k_is)
    (case z_kkDropWipe => kit_is)
    (case z_nfDropWipe => k_is)
    (case z_kkDropRaise => kit_is)
    (case z_nfDropRaise => k_is)
    (case z_kkDropLevel => kit_is)
    (case z_nfDropLevel => k_is)
    (case z_kkDropMark => kit_is)
    (case z_nfDropMark => k_is)
    (case z_kkDropForget => kit_is)
    (case z_nfDropForget => k_is)
    (case z_mtDropnote => k_is)
    (case z_mtDropstr => k_is)
    (case z_mtDropeq => k_is)
    (case z_caAdd => k_is)
    (case z_moAdd => k_is)
    (case z_kDAdd => kit_is)
    (case z_neAdd => k_is)
    (case z_odAddtuple => k_is)
    (case z_odAddlist => k_is)
    (case z_odAddint => k_is)
    (case z_odAddstr => k_is)
    (case z_odAddNoneType => k_is)
    (case z_kkAddPut => kit_is)
    (case z_nfAddPut => k_is)
    (case z_kkAddDrop => kit_is)
    (case z_nfAddDrop => k_is)
    (case z_kkAddAdd => kit_is)
    (case z_kkAddWipe => kit_is)
    (case z_nfAddWipe => k_is)
    (case z_kkAddRaise => kit_is)
    (case z_nfAddRaise => k_is)
    (case z_kkAddLevel => kit_is)
    (case z_nfAddLevel => k_is)
    (case z_kkAddMark => kit_is)
    (case z_nfAddMark => k_is)
    (case z_kkAddForget => kit_is)
    (case z_nfAddForget => k_is)
    (case z_mtAddnote => k_is)
    (case z_mtAddstr => k_is)
    (case z_mtAddeq => k_is)
    (case z_caWipe => k_is)
    (case z_moWipe => k_is)
    (case z_kDWipe => kit_is)
    (case z_neWipe => k_is)
    (case z_odWipetuple => k_is)
    (case z_odWipelist => k_is)
    (case z_odWipeint => k_is)
    (case z_odWipestr => k_is)
    (case z_odWipeNoneType => k_is)
    (case z_kkWipePut => kit_is)
    (case z_nfWipePut => k_is)
    (case z_kkWipeDrop => kit_is)
    (case z_nfWipeDrop => k_is)
    (case z_kkWipeAdd => kit_is)
    (case z_nfWipeAdd => k_is)
    (case z_kkWipeWipe => kit_is)
    (case z_kkWipeRaise => kit_is)
    (case z_nfWipeRaise => k_is)
    (case z_kkWipeLevel => kit_is)
    (case z_nfWipeLevel => k_is)
    (case z_kkWipeMark => kit_is)
    (case z_nfWipeMark => k_is)
    (case z_kkWipeForget => kit_is)
    (case z_nfWipeForget => k_is)
    (case z_mtWipenote => k_is)
    (case z_mtWipestr => k_is)
    (case z_mtWipeeq => k_is)
    (case z_caRaise => k_is)
    (case z_moRaise => k_is)
    (case z_kDRaise => kit_is)
    (case z_neRaise => k_is)
    (case z_odRaisetuple => k_is)
    (case z_odRaiselist => k_is)
    (case z_odRaiseint => k_is)
    (case z_odRaisestr => k_is)
    (case z_odRaiseNoneType => k_is)
    (case z_kkRaisePut => kit_is)
    (case z_nfRaisePut => k_is)
    (case z_kkRaiseDrop => kit_is)
    (case z_nfRaiseDrop => k_is)
    (case z_kkRaiseAdd => kit_is)
    (case z_nfRaiseAdd => k_is)
    (case z_kkRaiseWipe => kit_is)
    (case z_nfRaiseWipe => k_is)
    (case z_kkRaiseRaise => kit_is)
    (case z_kkRaiseLevel => kit_is)
    (case z_nfRaiseLevel => k_is)
    (case z_kkRaiseMark => kit_is)
    (case z_nfRaiseMark => k_is)
    (case z_kkRaiseForget => kit_is)
    (case z_nfRaiseForget => k_is)
    (case z_mtRaisenote => k_is)
    (case z_mtRaisestr => k_is)
    (case z_mtRaiseeq => k_is)
    (case z_caLevel => k_is)
    (case z_moLevel => k_is)
    (case z_kDLevel => kit_is)
    (case z_neLevel => k_is)
    (case z_odLeveltuple => k_is)
    (case z_odLevellist => k_is)
    (case z_odLevelint => k_is)
    (case z_odLevelstr => k_is)
    (case z_odLevelNoneType => k_is)
    (case z_kkLevelPut => kit_is)
    (case z_nfLevelPut => k_is)
    (case z_kkLevelDrop => kit_is)
    (case z_nfLevelDrop => k_is)
    (case z_kkLevelAdd => kit_is)
    (case z_nfLevelAdd => k_is)
    (case z_kkLevelWipe => kit_is)
    (case z_nfLevelWipe => k_is)
    (case z_kkLevelRaise => kit_is)
    (case z_nfLevelRaise => k_is)
    (case z_kkLevelLevel => kit_is)
    (case z_kkLevelMark => kit_is)
    (case z_nfLevelMark => k_is)
    (case z_kkLevelForget => kit_is)
    (case z_nfLevelForget => k_is)
    (case z_mtLevelnote => k_is)
    (case z_mtLevelstr => k_is)
    (case z_mtLeveleq => k_is)
    (case z_caMark => k_is)
    (case z_moMark => k_is)
    (case z_kDMark => kit_is)
    (case z_neMark => k_is)
    (case z_odMarktuple => k_is)
    (case z_odMarklist => k_is)
    (case z_odMarkint => k_is)
    (case z_odMarkstr => k_is)
    (case z_odMarkNoneType => k_is)
    (case z_kkMarkPut => kit_is)
    (case z_nfMarkPut => k_is)
    (case z_kkMarkDrop => kit_is)
    (case z_nfMarkDrop => k_is)
    (case z_kkMarkAdd => kit_is)
    (case z_nfMarkAdd => k_is)
    (case z_kkMarkWipe => kit_is)
    (case z_nfMarkWipe => k_is)
    (case z_kkMarkRaise => kit_is)
    (case z_nfMarkRaise => k_is)
    (case z_kkMarkLevel => kit_is)
    (case z_nfMarkLevel => k_is)
    (case z_kkMarkMark => kit_is)
    (case z_kkMarkForget => kit_is)
    (case z_nfMarkForget => k_is)
    (case z_mtMarknote => k_is)
    (case z_mtMarkstr => k_is)
    (case z_mtMarkeq => k_is)
    (case z_mtMarkaction => k_is)
    (case z_mtMarkspan => k_is)
    (case z_caForget => k_is)
    (case z_moForget => k_is)
    (case z_kDForget => kit_is)
    (case z_neForget => k_is)
    (case z_odForgettuple => k_is)
    (case z_odForgetlist => k_is)
    (case z_odForgetint => k_is)
    (case z_odForgetstr => k_is)
    (case z_odForgetNoneType => k_is)
    (case z_kkForgetPut => kit_is)
    (case z_nfForgetPut => k_is)
    (case z_kkForgetDrop => kit_is)
    (case z_nfForgetDrop => k_is)
    (case z_kkForgetAdd => kit_is)
    (case z_nfForgetAdd => k_is)
    (case z_kkForgetWipe => kit_is)
    (case z_nfForgetWipe => k_is)
    (case z_kkForgetRaise => kit_is)
    (case z_nfForgetRaise => k_is)
    (case z_kkForgetLevel => kit_is)
    (case z_nfForgetLevel => k_is)
    (case z_kkForgetMark => kit_is)
    (case z_nfForgetMark => k_is)
    (case z_kkForgetForget => kit_is)
    (case z_mtForgetnote => k_is)
    (case z_mtForgetstr => k_is)
    (case z_mtForgeteq => k_is)
    (case z_mtForgetaction => k_is)
    (case z_mtForgetspan => k_is)
    (case z_kdtuple => kit_is)
    (case z_kdlist => kit_is)
    (case z_kdint => kit_is)
    (case z_kdstr => kit_is)
    (case z_kdNoneType => kit_is)
