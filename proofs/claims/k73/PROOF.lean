import PyProof.Rows.All
import Wide.All
import OpenK.AllK
import Wide.FinOn
import Lean
import PyProof.EqAt
import PyProof.EqKinds
import PyProof.TupleCall
import PySem.Challenge.RW_notefall_k73_heads_written_and_read
set_option Elab.async false
set_option linter.all false
set_option maxRecDepth 100000
namespace L2
open PySem PySem.Spec PyProof.Rows
abbrev Key := Sum Int Str
def keyIs : Key → Value → Bool
  | .inl k, v => Value.isInt k v
  | .inr x, v => Value.isStrOf x v
def keyH (w : World) : Key → Int
  | .inl k => hashInt k
  | .inr x => hashStr w x
theorem keyIs_shape : ∀ {k : Key} {v : Value}, keyIs k v = true → (∃ i t, k = Sum.inl i ∧ v = Value.int i t) ∨ (∃ x t, k = Sum.inr x ∧ v = Value.str x t)
  | .inl i, v, h => by
    obtain ⟨t, e⟩ := Value.isInt_shape (k := i) (v := v) h
    exact .inl ⟨i, t, rfl, e⟩
  | .inr x, v, h => by
    obtain ⟨t, e⟩ := Value.isStrOf_shape (x := x) (v := v) h
    exact .inr ⟨x, t, rfl, e⟩
theorem keyIs_int (i : Int) (t : Tok) : keyIs (.inl i) (.int i t) = true := by simp [keyIs, Value.isInt]
theorem keyIs_str (x : Str) (t : Tok) : keyIs (.inr x) (.str x t) = true := by simp [keyIs, Value.isStrOf]
theorem key_ll (a b : Int) : decide ((Sum.inl a : Key) = Sum.inl b) = (a == b) := by
  by_cases e : a = b
  · subst e; simp
  · have h : ¬ (Sum.inl a : Key) = Sum.inl b := fun q => e (Sum.inl.inj q)
    rw [decide_eq_false h]
    exact (beq_eq_false_iff_ne.mpr e).symm
theorem key_rr (a b : Str) : decide ((Sum.inr a : Key) = Sum.inr b) = decide (a = b) := by
  by_cases e : a = b
  · subst e; simp
  · have h : ¬ (Sum.inr a : Key) = Sum.inr b := fun q => e (Sum.inr.inj q)
    rw [decide_eq_false h, decide_eq_false e]
theorem key_lr (a : Int) (b : Str) : decide ((Sum.inl a : Key) = Sum.inr b) = false := decide_eq_false (fun q => nomatch q)
theorem key_rl (a : Str) (b : Int) : decide ((Sum.inr a : Key) = Sum.inl b) = false := decide_eq_false (fun q => nomatch q)
def mixKind (prog : Program) (w : World) : PySem.KeyKind prog w Key where
  is := keyIs
  hash := keyH w
  inj := fun v a b ha hb => by
    rcases keyIs_shape ha with ⟨i, t, rfl, rfl⟩ | ⟨x, t, rfl, rfl⟩
    · rcases keyIs_shape hb with ⟨j, u, rfl, e⟩ | ⟨y, u, rfl, e⟩
      · injection e with e1 _; rw [e1]
      · exact nomatch e
    · rcases keyIs_shape hb with ⟨j, u, rfl, e⟩ | ⟨y, u, rfl, e⟩
      · exact nomatch e
      · injection e with e1 _; rw [e1]
  byValue := fun k v h => by
    rcases keyIs_shape h with ⟨i, t, rfl, rfl⟩ | ⟨x, t, rfl, rfl⟩ <;> rfl
  pyHash := fun hv h => by
    rcases keyIs_shape hv with ⟨i, t, rfl, rfl⟩ | ⟨x, t, rfl, rfl⟩
    · exact wpAny_pyHash_int h
    · exact wpAny_pyHash_str h
  eqBool := fun hu hv h => by
    rcases keyIs_shape hu with ⟨i, t, rfl, rfl⟩ | ⟨x, t, rfl, rfl⟩
    · rcases keyIs_shape hv with ⟨j, u, rfl, rfl⟩ | ⟨y, u, rfl, rfl⟩
      · rw [key_ll] at h; exact wpAny_eqBool_int h
      · rw [key_lr] at h; exact SeqAt.EqAt.int_str i t y u _ _ _ _ h
    · rcases keyIs_shape hv with ⟨j, u, rfl, rfl⟩ | ⟨y, u, rfl, rfl⟩
      · rw [key_rl] at h; exact SeqAt.EqAt.str_int x t j u _ _ _ _ h
      · rw [key_rr] at h; exact wpAny_eqBool_str h
  «strs» := fun k x t v h => by
    rcases keyIs_shape h with ⟨i, u, rfl, e⟩ | ⟨y, u, rfl, e⟩
    · exact nomatch e
    · injection e with e1 _
      subst e1
      cases v <;> rfl
theorem mixKind_int (prog : Program) (w : World) (i : Int) (t : Tok) : (mixKind prog w).is (.inl i) (.int i t) = true := keyIs_int i t
theorem mixKind_str (prog : Program) (w : World) (x : Str) (t : Tok) : (mixKind prog w).is (.inr x) (.str x t) = true := keyIs_str x t
end L2
namespace L2
open PySem PySem.Spec PyProof.Rows
inductive V where
  | non | bl (b : Bool) | int (i : Int) | str (x : Str) | byt (b : Array UInt8) | flt (b : UInt64) | ref (a : Addr) | ty (n : String)
  deriving DecidableEq
def RelV : V → Value → Prop
  | .non, u => u = Value.none
  | .bl b, u => u = Value.bool b
  | .int i, u => ∃ t, u = Value.int i t
  | .str x, u => ∃ t, u = Value.str x t
  | .byt b, u => ∃ t, u = Value.bytes b t
  | .flt b, u => ∃ t, u = Value.float b t
  | .ref a, u => u = Value.ref a
  | .ty n, u => u = Value.type n
abbrev Vals : List V → List Value → Prop := Paired RelV
theorem Vals.length {xs : List V} {us : List Value} (r : Vals xs us) : xs.length = us.length := Paired.length r
theorem Vals.get : ∀ {xs : List V} {us : List Value} {i : Nat} {x : V}, Vals xs us → xs[i]? = some x → ∃ u, us[i]? = some u ∧ RelV x u
  | _, _, _, _, .nil, e => by simp at e
  | _, _, 0, _, .cons r _, e => by simp at e; subst e; exact ⟨_, rfl, r⟩
  | _, _, i + 1, x, .cons _ t, e => by
    obtain ⟨u, h1, h2⟩ := Vals.get (i := i) (x := x) t (by simpa using e)
    exact ⟨u, by simpa using h1, h2⟩
theorem Vals.set {x : V} {u : Value} (r : RelV x u) : ∀ {xs : List V} {us : List Value} (i : Nat), Vals xs us → Vals (xs.set i x) (us.set i u)
  | _, _, _, .nil => .nil
  | _, _, 0, .cons _ t => .cons r t
  | _, _, i + 1, .cons q t => .cons q (Vals.set r i t)
theorem Vals.append : ∀ {xs ys : List V} {us ws : List Value}, Vals xs us → Vals ys ws → Vals (xs ++ ys) (us ++ ws)
  | _, _, _, _, .nil, s => s
  | _, _, _, _, .cons r t, s => .cons r (Vals.append t s)
theorem Vals.take : ∀ {xs : List V} {us : List Value} (n : Nat), Vals xs us → Vals (xs.take n) (us.take n)
  | _, _, 0, _ => .nil
  | _, _, _ + 1, .nil => .nil
  | _, _, n + 1, .cons r t => .cons r (Vals.take n t)
theorem Vals.drop : ∀ {xs : List V} {us : List Value} (n : Nat), Vals xs us → Vals (xs.drop n) (us.drop n)
  | _, _, 0, r => r
  | _, _, _ + 1, .nil => .nil
  | _, _, n + 1, .cons _ t => Vals.drop n t
theorem Vals.none_of : ∀ {xs : List V} {us : List Value} {i : Nat}, Vals xs us → xs[i]? = none → us[i]? = none := fun {xs us i} r e => by
  have h1 := r.length
  have h2 : xs.length ≤ i := List.getElem?_eq_none_iff.mp e
  exact List.getElem?_eq_none_iff.mpr (by omega)
def RelO : Option V → Option Value → Prop
  | some v, some u => RelV v u
  | none, none => True
  | _, _ => False
def KV {κ : Type} : List (κ × V) → List (κ × Value) → Prop := Paired fun (p : κ × V) (q : κ × Value) => p.1 = q.1 ∧ RelV p.2 q.2
def kV : Key → V
  | .inl i => .int i
  | .inr x => .str x
inductive HO where
  | lst (xs : List V)
  | tup (xs : List V)
  | dK (kvs : List (Key × V)) | dT (kvs : List (List Key × V))
  | set (S : Int → Bool) (n : Nat)
  | ins (C dx : Addr) (fs : List (Str × V))
  | own (x : Addr)
  | xd (fs : List (Str × V))
  | met (f x : Addr)
  | rng (lo hi : Int)
  | frz (o : Obj) (u : HO)
  | tbl (ps : Array Value)
  | ext (φ : Heap → Prop)
abbrev Hp := Addr → Option HO
def upd (H : Hp) (a : Addr) (o : HO) : Hp := fun b => if b = a then some o else H b
theorem upd_same {H : Hp} {a : Addr} {o : HO} : upd H a o a = some o := by unfold upd; rw [if_pos rfl]
theorem upd_ne {H : Hp} {a b : Addr} {o : HO} (h : b ≠ a) : upd H a o b = H b := by unfold upd; rw [if_neg h]
theorem ne_of {H : Hp} {a b : Addr} {o u : HO} (h : H a = some o) (h' : H b = some u) (d : o ≠ u) : a ≠ b := by
  intro e; subst e; rw [h] at h'; exact d (Option.some.inj h')
theorem ne_of_none {H : Hp} {a b : Addr} {o : HO} (h : H a = some o) (h' : H b = none) : a ≠ b := by
  intro e; subst e; rw [h] at h'; cases h'
section
variable (P : Program) (w : World)
def ObjOk (H : Hp) (h : Heap) (a : Addr) : HO → Prop
  | .lst xs => xs.length ≤ sizeLine ∧ ∃ (its : List Value) (n : Nat), Vals xs its ∧ h.get? a = some { cls := .type "list", data := .seq its.toArray n }
  | .tup xs => xs.length ≤ sizeLine ∧ ∃ its : List Value, Vals xs its ∧ IsTup h a its.toArray
  | .dK kvs => kvs.length ≤ sizeLine ∧ (a == sysModules) = false ∧ ∃ vs, KV kvs vs ∧ h.DictOf (mixKind P w) a vs
  | .dT kvs => kvs.length ≤ sizeLine ∧ (a == sysModules) = false ∧ ∃ xs : List (List Key × Addr × Value),
      Paired (fun (p : List Key × V) (q : List Key × Addr × Value) => p.1 = q.1 ∧ H q.2.1 = some (.tup (p.1.map kV)) ∧ RelV p.2 q.2.2) kvs xs ∧
      ∃ o es ep, h.get? a = some o ∧ o.ExactDict ∧ o.data = .dict es ep ∧ es.toList = xs.map (entryOfKey (tupleKind (mixKind P w))) ∧ (xs.map (·.1)).Nodup
  | .set S n => h.SetOf (intKind P w) a S n
  | .ins C dx fs => H dx = some (.own a) ∧ fs.length ≤ 1000 ∧ dx ≠ a ∧ h.get? a = some (PySem.W.instObj C dx) ∧
      ∃ mA, h.Ns1 dx mA ∧ (∀ f, RelO (fs.lookup f) (mA f)) ∧ PySem.Within mA (fs.map (·.1))
  | .own _ => ∃ o, h.get? a = some o
  | .xd fs => ∃ mA, h.Ns1 a mA ∧ ∀ f, RelO (fs.lookup f) (mA f)
  | .rng lo hi => ∃ t u v, h.get? a = some { cls := .type "range", data := .fields #[.int lo t, .int hi u, .int 1 v] }
  | .frz o u => h.get? a = some o ∧ ObjOk H h a u
  | .tbl ps => h.get? a = some { cls := .none, data := .fields ps }
  | .met f x => h.get? a = some (PySem.W.methodObj (.ref f) (.ref x))
  | .ext φ => φ h ∧ (∃ o, h.get? a = some o) ∧ ∀ h1 h2 : Heap, φ h1 → (∀ o, h1.get? a = some o → h2.get? a = some o) → φ h2
def HOk (H : Hp) (h : Heap) : Prop := ∀ a o, H a = some o → ObjOk P w H h a o
end
section
variable {P : Program} {w : World} {H H' : Hp} {h h' : Heap} {a : Addr} {o : HO}
theorem ObjOk.lt (x : ObjOk P w H h a o) : a < h.objs.size := by
  cases o with
  | lst xs => obtain ⟨_, _, _, _, e⟩ := x; exact Heap.lt_size e
  | tup xs => obtain ⟨_, _, _, p⟩ := x; exact p.lt
  | dK kvs => obtain ⟨_, _, _, _, o, _, _, e, _⟩ := x; exact Heap.lt_size e
  | dT kvs => obtain ⟨_, _, _, _, o, _, _, e, _⟩ := x; exact Heap.lt_size e
  | set S n => obtain ⟨o, _, _, _, e, _⟩ := x; exact Heap.lt_size e
  | ins C dx fs => obtain ⟨_, _, _, e, _⟩ := x; exact Heap.lt_size e
  | own y => obtain ⟨_, e⟩ := x; exact Heap.lt_size e
  | xd fs => obtain ⟨_, ⟨_, _, _, e, _⟩, _⟩ := x; exact Heap.lt_size e
  | rng lo hi => obtain ⟨_, _, _, e⟩ := x; exact Heap.lt_size e
  | frz ob u => obtain ⟨e, _⟩ := x; exact Heap.lt_size e
  | tbl ps => exact Heap.lt_size (show h.get? a = some _ from x)
  | met f y => exact Heap.lt_size (show h.get? a = some _ from x)
  | ext φ => obtain ⟨_, ⟨_, e⟩, _⟩ := x; exact Heap.lt_size e
theorem Paired.mapP {α β : Type} {F G : α → β → Prop} : ∀ {l₁ : List α} {l₂ : List β}, Paired F l₁ l₂ → (∀ a b, F a b → G a b) → Paired G l₁ l₂
  | _, _, .nil, _ => .nil
  | _, _, .cons r t, f => .cons (f _ _ r) (Paired.mapP t f)
theorem ObjOk.stay (x : ObjOk P w H h a o) (k : ∀ b u, (b = a ∨ H b = some (.own a)) → h.get? b = some u → h'.get? b = some u)
    (ho : ∀ b, H b = some (.own a) → H' b = some (.own a)) (ht : ∀ b xs, H b = some (.tup xs) → H' b = some (.tup xs)) : ObjOk P w H' h' a o := by
  induction o with
  | lst xs => obtain ⟨z, its, n, r, e⟩ := x; exact ⟨z, its, n, r, k _ _ (.inl rfl) e⟩
  | tup xs => obtain ⟨z, its, r, ob, e, c⟩ := x; exact ⟨z, its, r, ob, k _ _ (.inl rfl) e, c⟩
  | dK kvs => obtain ⟨z, y, vs, r, ob, es, ep, e, c⟩ := x; exact ⟨z, y, vs, r, ob, es, ep, k _ _ (.inl rfl) e, c⟩
  | dT kvs =>
    obtain ⟨z, y, xs, r, ob, es, ep, e, c⟩ := x
    exact ⟨z, y, xs, Paired.mapP r fun p q z => ⟨z.1, ht _ _ z.2.1, z.2.2⟩, ob, es, ep, k _ _ (.inl rfl) e, c⟩
  | set S n => obtain ⟨ob, es, ep, t, e, c⟩ := x; exact ⟨ob, es, ep, t, k _ _ (.inl rfl) e, c⟩
  | ins C dx fs =>
    obtain ⟨d, z, ne, e, mA, ⟨od, es, ep, e2, c⟩, r⟩ := x
    exact ⟨ho _ d, z, ne, k _ _ (.inl rfl) e, mA, ⟨od, es, ep, k _ _ (.inr d) e2, c⟩, r⟩
  | own y => obtain ⟨ob, e⟩ := x; exact ⟨ob, k _ _ (.inl rfl) e⟩
  | xd fs => obtain ⟨mA, ⟨od, es, ep, e, c⟩, r⟩ := x; exact ⟨mA, ⟨od, es, ep, k _ _ (.inl rfl) e, c⟩, r⟩
  | rng lo hi => obtain ⟨t, u, v, e⟩ := x; exact ⟨t, u, v, k _ _ (.inl rfl) e⟩
  | frz ob u ih => obtain ⟨e, q⟩ := x; exact ⟨k _ _ (.inl rfl) e, ih q⟩
  | tbl ps =>
    have e : h.get? a = some { cls := .none, data := .fields ps } := x
    show h'.get? a = some { cls := .none, data := .fields ps }
    exact k a _ (.inl rfl) e
  | met f y =>
    have e : h.get? a = some (PySem.W.methodObj (.ref f) (.ref y)) := x
    show h'.get? a = some (PySem.W.methodObj (.ref f) (.ref y))
    exact k a _ (.inl rfl) e
  | ext φ => obtain ⟨p, ⟨o, e⟩, st⟩ := x; exact ⟨st _ _ p fun o q => k _ _ (.inl rfl) q, ⟨o, k _ _ (.inl rfl) e⟩, st⟩
theorem HOk.lt (x : HOk P w H h) (e : H a = some o) : a < h.objs.size := (x a o e).lt
theorem HOk.fresh (x : HOk P w H h) (e : h.objs.size ≤ a) : H a = none := by
  cases q : H a with
  | none => rfl
  | some u => exact absurd (Nat.lt_of_lt_of_le (x.lt q) e) (Nat.lt_irrefl _)
theorem HOk.kept (x : HOk P w H h) (k : ∀ b u, h.get? b = some u → h'.get? b = some u) : HOk P w H h' := fun a o e =>
  (x a o e).stay (fun b u _ q => k b u q) (fun _ q => q) fun _ _ q => q
theorem HOk.laid (x : HOk P w H h) (k : ∀ b u, h.get? b = some u → h'.get? b = some u) (hp : h.objs.size ≤ a) (new : ObjOk P w (upd H a o) h' a o) : HOk P w (upd H a o) h' := fun b u e => by
  have hn := x.fresh hp
  by_cases hb : b = a
  · subst hb; rw [upd_same] at e; cases e; exact new
  · rw [upd_ne hb] at e
    exact (x b u e).stay (fun c v _ q => k c v q) (fun c q => by rw [upd_ne (ne_of_none q hn)]; exact q) fun c xs q => by rw [upd_ne (ne_of_none q hn)]; exact q
end
def Rd (H : Hp) (a : Addr) (u : HO) : Prop := H a = some u ∨ ∃ o, H a = some (.frz o u)
theorem Rd.of {H : Hp} {a : Addr} {u : HO} (h : H a = some u) : Rd H a u := .inl h
theorem Rd.ok {P : Program} {w : World} {H : Hp} {h : Heap} {a : Addr} {u : HO} (r : Rd H a u) (x : HOk P w H h) : ObjOk P w H h a u := by
  rcases r with r | ⟨o, r⟩
  · exact x a u r
  · obtain ⟨_, q⟩ := x a _ r
    exact q
def Mut : Option HO → Prop
  | some (.lst _) => True
  | some (.dK _) => True
  | some (.dT _) => True
  | some (.set _ _) => True
  | some (.ins _ _ _) => True
  | some (.ext _) => True
  | _ => False
section
variable {P : Program} {w : World} {H : Hp} {h h' : Heap} {x e : Addr} {o' : HO}
theorem HOk.write (ok : HOk P w H h) (mu : Mut (H x)) (he : e = x ∨ H e = some (.own x)) (k : ∀ b u, b ≠ e → h.get? b = some u → h'.get? b = some u) (heo : ∃ u, h'.get? e = some u)
    (new : ObjOk P w (upd H x o') h' x o') : HOk P w (upd H x o') h' := fun b u q => by
  have nown : ∀ c y, H c = some (.own y) → c ≠ x := fun c y r z => by subst z; rw [r] at mu; exact mu
  have ntup : ∀ c xs, H c = some (.tup xs) → c ≠ x := fun c xs r z => by subst z; rw [r] at mu; exact mu
  by_cases hb : b = x
  · subst hb; rw [upd_same] at q; cases q; exact new
  · rw [upd_ne hb] at q
    by_cases hbe : b = e
    · have q' : H b = some (.own x) := by
        rcases he with z | z
        · exact absurd (hbe.trans z) hb
        · rw [hbe]; exact z
      rw [q] at q'; cases q'
      obtain ⟨v, hv⟩ := heo
      exact ⟨v, by rw [hbe]; exact hv⟩
    · refine (ok b u q).stay (fun c v hc r => k c v ?_ r) (fun c r => by rw [upd_ne (nown c b r)]; exact r) fun c xs r => by rw [upd_ne (ntup c xs r)]; exact r
      rcases hc with rfl | hc
      · exact hbe
      · rintro rfl
        rcases he with z | z
        · exact nown c b hc z
        · rw [hc] at z; cases z; exact hb rfl
end
structure Un (fs ex : List Addr) (H H' : Hp) (h h' : Heap) : Prop where
  keep : ∀ b o, h.get? b = some o → H b = none → b ∉ fs → b ∉ ex → h'.get? b = some o
  slot : ∀ b o, h.get? b = some o → H b = none → b ∈ fs → b ∉ ex → ∃ sl, h'.get? b = some { o with slots := sl }
  free : ∀ b o, h.get? b = some o → H b = none → b ∉ ex → H' b = none
  there : ∀ b o, h.get? b = some o → b ∉ ex → ∃ o', h'.get? b = some o'
  tups : ∀ b xs, H b = some (.tup xs) → H' b = some (.tup xs)
  frzs : ∀ b o u, H b = some (.frz o u) → H' b = some (.frz o u)
  tbls : ∀ b ps, H b = some (.tbl ps) → ∃ more, H' b = some (.tbl (ps ++ more))
section
variable {fs fs' ex ex' : List Addr} {H H1 H2 : Hp} {h h1 h2 h' : Heap} {a x e : Addr} {o : HO}
theorem Un.any (u : Un fs ex H H1 h h1) {b : Addr} {ob : Obj} (q : h.get? b = some ob) (n : H b = none) (hx : b ∉ ex) : ∃ sl, h1.get? b = some { ob with slots := sl } := by
  by_cases hb : b ∈ fs
  · exact u.slot b ob q n hb hx
  · exact ⟨ob.slots, u.keep b ob q n hb hx⟩
theorem Un.trans (a : Un fs ex H H1 h h1) (b : Un fs ex H1 H2 h1 h2) : Un fs ex H H2 h h2 where
  keep := fun c ob q n hc hx => b.keep c ob (a.keep c ob q n hc hx) (a.free c ob q n hx) hc hx
  slot := fun c ob q n hc hx => by
    obtain ⟨sl, e1⟩ := a.slot c ob q n hc hx
    obtain ⟨sl', e2⟩ := b.slot c _ e1 (a.free c ob q n hx) hc hx
    exact ⟨sl', e2⟩
  free := fun c ob q n hx => by
    obtain ⟨o', e1⟩ := a.there c ob q hx
    exact b.free c o' e1 (a.free c ob q n hx) hx
  there := fun c ob q hx => by
    obtain ⟨o', e1⟩ := a.there c ob q hx
    exact b.there c o' e1 hx
  tups := fun c xs q => b.tups c xs (a.tups c xs q)
  frzs := fun c ob xs q => b.frzs c ob xs (a.frzs c ob xs q)
  tbls := fun c ps q => by
    obtain ⟨m1, e1⟩ := a.tbls c ps q
    obtain ⟨m2, e2⟩ := b.tbls c _ e1
    exact ⟨m1 ++ m2, by rw [e2, Array.append_assoc]⟩
theorem Un.kept (k : ∀ b u, h.get? b = some u → h'.get? b = some u) : Un fs ex H H h h' :=
  ⟨fun b ob q _ _ _ => k b ob q, fun b ob q _ _ _ => ⟨ob.slots, k b ob q⟩, fun _ _ _ n _ => n, fun b ob q _ => ⟨ob, k b ob q⟩, fun _ _ q => q, fun _ _ _ q => q, fun _ ps q => ⟨#[], by rw [q]; simp⟩⟩
theorem Un.refl : Un fs ex H H h h := Un.kept fun _ _ q => q
theorem Un.laid (k : ∀ b u, h.get? b = some u → h'.get? b = some u) (hp : h.objs.size ≤ a) (hn : H a = none) : Un fs ex H (upd H a o) h h' where
  keep := fun b u q _ _ _ => k b u q
  slot := fun b u q _ _ _ => ⟨u.slots, k b u q⟩
  free := fun b u q n _ => by rw [upd_ne (Nat.ne_of_lt (Nat.lt_of_lt_of_le (Heap.lt_size q) hp))]; exact n
  there := fun b u q _ => ⟨u, k b u q⟩
  tups := fun b xs q => by rw [upd_ne (ne_of_none q hn)]; exact q
  frzs := fun b u xs q => by rw [upd_ne (ne_of_none q hn)]; exact q
  tbls := fun b ps q => ⟨#[], by rw [upd_ne (ne_of_none q hn), q]; simp⟩
theorem Un.write (mu : Mut (H x)) (he : e = x ∨ H e = some (.own x)) (k : ∀ b u, b ≠ e → h.get? b = some u → h'.get? b = some u) (heo : ∃ u, h'.get? e = some u) : Un fs ex H (upd H x o) h h' := by
  have hx : ∀ b, H b = none → b ≠ x := fun b n z => by subst z; rw [n] at mu; exact mu
  have hb : ∀ b, H b = none → b ≠ e := fun b n z => by
    subst z
    rcases he with r | r
    · exact hx b n r
    · rw [n] at r; cases r
  have hm : ∀ b u, H b = some u → ¬ Mut (some u) → b ≠ x := fun b u q nm z => by subst z; rw [q] at mu; exact nm mu
  refine ⟨fun b u q n _ _ => k b u (hb b n) q, fun b u q n _ _ => ⟨u.slots, k b u (hb b n) q⟩, fun b u q n _ => by rw [upd_ne (hx b n)]; exact n, fun b u q _ => ?_,
    fun b xs q => by rw [upd_ne (hm b _ q fun z => z)]; exact q, fun b u xs q => by rw [upd_ne (hm b _ q fun z => z)]; exact q, fun b ps q => ⟨#[], by rw [upd_ne (hm b _ q fun z => z), q]; simp⟩⟩
  by_cases hbe : b = e
  · subst hbe; exact heo
  · exact ⟨u, k b u hbe q⟩
theorem Un.mono (u : Un fs ex H H1 h h1) (hs : ∀ b ∈ fs, b ∈ fs') (hx : ∀ b ∈ ex, b ∈ ex') : Un fs' ex' H H1 h h1 :=
  ⟨fun b ob q n hb he => u.keep b ob q n (fun z => hb (hs b z)) fun z => he (hx b z), fun _ _ q n _ he => u.any q n fun z => he (hx _ z), fun b ob q n he => u.free b ob q n fun z => he (hx b z), fun b ob q he => u.there b ob q fun z => he (hx b z), u.tups, u.frzs, u.tbls⟩
end
def trk (h : Heap) (H : Hp) : List Addr := (List.range h.objs.size).filter fun a => (H a).isSome
def hidT (h : Heap) (H : Hp) : Heap := PySem.W.hideAll h (trk h H)
theorem hidT_size (h : Heap) (H : Hp) : (hidT h H).objs.size = h.objs.size := PySem.W.hideAll_size _ _
theorem hidT_get {h : Heap} {H : Hp} {b : Addr} {o : Obj} (e : h.get? b = some o) (n : H b = none) : (hidT h H).get? b = some o :=
  PySem.W.hideAll_get _ e fun hm => by
    have q : (H b).isSome = true := (List.mem_filter.mp hm).2
    rw [n] at q; simp at q
theorem of_hidT {h : Heap} {H : Hp} {b : Addr} {o : Obj} (e : (hidT h H).get? b = some o) : h.get? b = some o ∧ H b = none := by
  have e' : h.get? b = some o := PySem.W.of_hideAll (trk h H) e
  refine ⟨e', ?_⟩
  cases q : H b with
  | none => rfl
  | some x =>
    have hm : b ∈ trk h H := List.mem_filter.mpr ⟨List.mem_range.mpr (Heap.lt_size e'), by simp [q]⟩
    have z : (hidT h H).get? b = none := PySem.W.hideAll_none (trk h H) hm
    rw [z] at e; cases e
def allNews (g h : Heap) (L : Addr) : List (Addr × Obj) := (List.range h.objs.size).filterMap fun a => if a = L ∨ (g.get? a).isSome = true then none else (h.get? a).map fun o => (a, o)
def rest (g h : Heap) (L d : Addr) : List (Addr × Obj) := (allNews g h L).filter fun p => decide (p.1 ≠ d)
end L2
namespace L2
open PySem PySem.Spec PyProof.Rows
structure Mod (K : PySem.W.Frag) (mg : Str → Option Value) (base : Heap) : Prop where
  kin : K.In base
  glob : base.Ns mainGlobals mg
  blt : ∃ mb, base.Ns builtinsNs mb ∧ ∀ x : Str, x ≠ "__name__" → mb x = bootBuiltins x
  nolimit : base.NoLimit
structure Cx where
  prog : Program
  w : World
  K : PySem.W.Frag
  mg : Str → Option Value
  base : Heap
  A : Around
  N : List Str
  s₀ : Shared
  H₀ : Hp
  env : Env
  outer : List Env
  stack : List Env
  ex : List Addr
  fn : Str → Bool
  calm : Bool
  pn : List (Addr × Obj)
  xe : Value → Shared → Prop
def frs (l : List Env) : List Addr := l.filterMap (·.frame)
abbrev Cx.fs (X : Cx) : List Addr := frs X.outer
def Vis (sc : Scope) (x : Str) : Prop := sc.names.lookup x = some .local ∨ sc.names.lookup x = some .cell ∨ sc.names.lookup x = some .free
def Loc (sc : Scope) (x : Str) : Prop := sc.names.lookup x = some .local ∨ sc.names.lookup x = some .cell
def Look (env : Env) (h : Heap) (m : Str → Option Value) (x : Str) (u : Value) : Prop :=
  (env.kindOf x = some .local ∧ m x = some u) ∨ ((env.kindOf x = some .cell ∨ env.kindOf x = some .free) ∧ ∃ c, env.cells.lookup x = some c ∧ h.IsCell c (some u))
structure Cx.Ok (X : Cx) : Prop where
  mod : Mod X.K X.mg X.base
  kind : X.env.scope.kind = .function
  glob : X.env.globals = mainGlobals
  blt : X.env.builtins = builtinsNs
  above : X.s₀.heap.objs.size ≤ X.env.locals
  inj : ∀ x y c, X.env.cells.lookup x = some c → X.env.cells.lookup y = some c → x = y
  has : ∀ x, (X.env.kindOf x = some .cell ∨ X.env.kindOf x = some .free) → ∃ c, X.env.cells.lookup x = some c
  cab : ∀ x c, X.fn x = true → X.env.cells.lookup x = some c → X.s₀.heap.objs.size ≤ c
  hd : X.calm = true → X.A.handled = none
  frames : X.A.frames = some X.stack
  stk : X.stack = X.outer ∨ (X.stack = X.env :: X.outer ∧ X.env.frame = some X.env.locals)
  exf : ∀ b ∈ X.ex, b ≠ X.env.locals ∧ ∀ x c, X.env.cells.lookup x = some c → c ≠ b
  bs : ∀ b o, X.base.get? b = some o → X.s₀.heap.get? b = some o ∧ X.H₀ b = none
  bsz : X.base.objs.size ≤ X.s₀.heap.objs.size
  noex : ∀ b o, X.base.get? b = some o → b ∉ X.ex
  exfs : ∀ b ∈ X.ex, b ∉ X.fs
  funs : X.s₀.heap.FunFrames X.base X.outer
  frf : ∀ b ∈ X.fs, X.H₀ b = none
structure Inv (X : Cx) (pins : List (Addr × Obj)) (σ : List (Option V)) (H : Hp) (s : Shared) : Prop where
  ok : X.Ok
  os : s.os = X.s₀.os
  bare : AllBare s.gens
  base : Un X.fs X.ex X.H₀ H X.s₀.heap s.heap
  loc : ∃ m, s.heap.Ns X.env.locals m ∧ ∀ (i : Nat) (x : Str) (v : V), X.N[i]? = some x → σ[i]? = some (some v) → Vis X.env.scope x → ∃ u, RelV v u ∧ Look X.env s.heap m x u
  cell : ∀ x c, X.env.cells.lookup x = some c → ∃ v, s.heap.IsCell c v
  free : H X.env.locals = none
  freeC : ∀ x c, X.env.cells.lookup x = some c → H c = none
  pin : ∀ p ∈ X.pn ++ pins, s.heap.get? p.1 = some p.2 ∧ H p.1 = none ∧ p.1 ≠ X.env.locals ∧ p.1 ∉ X.fs ∧ ∀ v, p.2.data ≠ .cell v
  hok : HOk X.prog X.w H s.heap
  len : σ.length = X.N.length
section
variable {X : Cx} {pins : List (Addr × Obj)} {σ : List (Option V)} {H H' : Hp} {s : Shared} {h' : Heap}
theorem Cx.Ok.nofr (ok : X.Ok) {b : Addr} {o : Obj} (e : X.base.get? b = some o) : b ∉ X.fs := fun hb => by
  have := (ok.funs.mem hb).1
  rw [e] at this; cases this
theorem Inv.bs (I : Inv X pins σ H s) : ∀ b o, X.base.get? b = some o → s.heap.get? b = some o ∧ H b = none := fun b o e =>
  ⟨I.base.keep b o (I.ok.bs b o e).1 (I.ok.bs b o e).2 (I.ok.nofr e) (I.ok.noex b o e), I.base.free b o (I.ok.bs b o e).1 (I.ok.bs b o e).2 (I.ok.noex b o e)⟩
theorem Inv.bk (I : Inv X pins σ H s) : ∀ b o, X.base.get? b = some o → s.heap.get? b = some o := fun b o e => (I.bs b o e).1
theorem Inv.mod (I : Inv X pins σ H s) : Mod X.K X.mg X.base := I.ok.mod
theorem Inv.kIn (I : Inv X pins σ H s) : X.K.In s.heap := I.ok.mod.kin.keeps I.bk
theorem Inv.nolimit (I : Inv X pins σ H s) : s.heap.NoLimit := I.ok.mod.nolimit.keeps I.bk
theorem Inv.fr (I : Inv X pins σ H s) : ∃ m, Fr X.base X.env.locals s.heap m :=
  let ⟨m, hn, _⟩ := I.loc
  ⟨m, hn, I.bk, Nat.le_trans I.ok.bsz I.ok.above⟩
theorem Inv.lt (I : Inv X pins σ H s) : X.env.locals < s.heap.objs.size := let ⟨_, hn, _⟩ := I.loc; hn.lt
theorem Inv.sz (I : Inv X pins σ H s) : X.s₀.heap.objs.size ≤ s.heap.objs.size := Nat.le_trans I.ok.above (Nat.le_of_lt I.lt)
theorem Inv.nofs (I : Inv X pins σ H s) {a : Addr} (h : s.heap.objs.size ≤ a) : a ∉ X.fs := fun hb => by
  obtain ⟨_, o, ho, _⟩ := I.ok.funs.mem hb
  exact absurd (Nat.lt_of_lt_of_le (Heap.lt_size ho) (Nat.le_trans I.sz h)) (Nat.lt_irrefl _)
theorem Inv.cne (I : Inv X pins σ H s) : ∀ x c, X.env.cells.lookup x = some c → c ≠ X.env.locals := fun x c e z => by
  obtain ⟨v, o, ho, hd⟩ := I.cell x c e
  obtain ⟨m, ⟨o', es, ep, ho', hd', _⟩, _⟩ := I.loc
  rw [z, ho'] at ho; cases ho; rw [hd'] at hd; cases hd
theorem Inv.funs (I : Inv X pins σ H s) : s.heap.FunFrames X.base X.outer := by
  have all : ∀ (l : List Env), (∀ b ∈ frs l, b ∈ X.fs) → X.s₀.heap.FunFrames X.base l → s.heap.FunFrames X.base l := by
    intro l
    induction l with
    | nil => intro _ _; trivial
    | cons env r ih =>
      intro hs hl
      obtain ⟨hk, ⟨L, o, hf, hn, ho, hd⟩, hr⟩ := hl
      have hL : L ∈ X.fs := hs L (by unfold frs; rw [List.filterMap_cons, hf]; exact List.mem_cons_self)
      obtain ⟨sl, e⟩ := I.base.slot L o ho (I.ok.frf L hL) hL fun z => I.ok.exfs L z hL
      exact ⟨hk, ⟨L, _, hf, hn, e, hd⟩, ih (fun b hb => hs b (by unfold frs; rw [List.filterMap_cons, hf]; exact List.mem_cons_of_mem _ hb)) hr⟩
  exact all X.outer (fun _ hb => hb) I.ok.funs
theorem Inv.stack (I : Inv X pins σ H s) : s.heap.FunFrames X.base X.stack := by
  rcases I.ok.stk with e | ⟨e, hf⟩
  · rw [e]; exact I.funs
  · rw [e]
    obtain ⟨m, hn, _⟩ := I.loc
    refine .cons (by rw [I.ok.kind]; decide) hf hn ?_ I.funs
    exact Heap.get?_none_of_le (Nat.le_trans I.ok.bsz I.ok.above)
theorem Inv.stkSub (I : Inv X pins σ H s) : ∀ b ∈ frs X.stack, b ∈ X.env.locals :: X.fs := fun b hb => by
  rcases I.ok.stk with e | ⟨e, hf⟩
  · rw [e] at hb; exact List.mem_cons_of_mem _ hb
  · rw [e] at hb
    unfold frs at hb
    rw [List.filterMap_cons, hf] at hb
    exact hb
theorem Inv.stkFree (I : Inv X pins σ H s) : ∀ b ∈ frs X.stack, H b = none := fun b hb => by
  rcases List.mem_cons.mp (I.stkSub b hb) with e | hb
  · rw [e]; exact I.free
  · obtain ⟨_, o, ho, _⟩ := I.ok.funs.mem hb
    exact I.base.free b o ho (I.ok.frf b hb) fun z => I.ok.exfs b z hb
theorem Inv.step {g' : Array GenState} {t' : Nat} {d' : Drawn} {ch : List Addr} (I : Inv X pins σ H s)
    (hch : ∀ b ∈ ch, (b ∈ X.ex ∨ X.s₀.heap.objs.size ≤ b) ∧ b ≠ X.env.locals ∧ (∀ x c, X.env.cells.lookup x = some c → c ≠ b) ∧ ∀ p ∈ X.pn ++ pins, p.1 ≠ b)
    (keep : ∀ b o, b ≠ X.env.locals → b ∉ X.fs → b ∉ ch → s.heap.get? b = some o → H b = none → h'.get? b = some o)
    (slot : ∀ b o, b ≠ X.env.locals → b ∈ X.fs → b ∉ ch → s.heap.get? b = some o → H b = none → ∃ sl, h'.get? b = some { o with slots := sl }) (free : ∀ b o, b ∉ ch → s.heap.get? b = some o → H b = none → H' b = none)
    (there : ∀ b o, b ∉ ch → s.heap.get? b = some o → ∃ o', h'.get? b = some o')
    (tups : ∀ b xs, H b = some (.tup xs) → H' b = some (.tup xs)) (frzs : ∀ b o u, H b = some (.frz o u) → H' b = some (.frz o u)) (tbls : ∀ b ps, H b = some (.tbl ps) → ∃ more, H' b = some (.tbl (ps ++ more)))
    (ns : ∀ m, s.heap.Ns X.env.locals m → h'.Ns X.env.locals m) (hok : HOk X.prog X.w H' h') (hg : AllBare g') :
    Inv X pins σ H' { s with heap := h', gens := g', drawn := d', toks := t' } := by
  have neL : ∀ b o, X.s₀.heap.get? b = some o → b ≠ X.env.locals := fun b o e => Nat.ne_of_lt (Nat.lt_of_lt_of_le (Heap.lt_size e) I.ok.above)
  have neC : ∀ b o, X.s₀.heap.get? b = some o → b ∉ X.ex → b ∉ ch := fun b o e hx hb => by
    rcases (hch b hb).1 with z | z
    · exact hx z
    · exact absurd (Nat.lt_of_lt_of_le (Heap.lt_size e) z) (Nat.lt_irrefl _)
  have cellK : ∀ x c, X.env.cells.lookup x = some c → ∀ v, s.heap.IsCell c v → h'.IsCell c v := fun x c e v ⟨o, ho, hd⟩ => by
    have nch : c ∉ ch := fun z => (hch c z).2.2.1 x c e rfl
    by_cases hc : c ∈ X.fs
    · obtain ⟨sl, q⟩ := slot c o (I.cne x c e) hc nch ho (I.freeC x c e)
      exact ⟨_, q, hd⟩
    · exact ⟨o, keep c o (I.cne x c e) hc nch ho (I.freeC x c e), hd⟩
  refine ⟨I.ok, I.os, hg, ⟨fun b o e n hb hx => ?_, fun b o e n hb hx => ?_, fun b o e n hx => ?_, fun b o e hx => ?_, fun b xs e => tups b xs (I.base.tups b xs e), fun b o xs e => frzs b o xs (I.base.frzs b o xs e), fun b ps e => ?_⟩, ?_, fun x c e => ?_, ?_, fun x c e => ?_, fun p hp => ?_, hok, I.len⟩
  · exact keep b o (neL b o e) hb (neC b o e hx) (I.base.keep b o e n hb hx) (I.base.free b o e n hx)
  · obtain ⟨sl, e1⟩ := I.base.slot b o e n hb hx
    obtain ⟨sl', e2⟩ := slot b _ (neL b o e) hb (neC b o e hx) e1 (I.base.free b o e n hx)
    exact ⟨sl', e2⟩
  · obtain ⟨o', e1⟩ := I.base.there b o e hx
    exact free b o' (neC b o e hx) e1 (I.base.free b o e n hx)
  · obtain ⟨o', e1⟩ := I.base.there b o e hx
    exact there b o' (neC b o e hx) e1
  · obtain ⟨m1, e1⟩ := I.base.tbls b ps e
    obtain ⟨m2, e2⟩ := tbls b _ e1
    exact ⟨m1 ++ m2, by rw [e2, Array.append_assoc]⟩
  · obtain ⟨m, hn, hl⟩ := I.loc
    refine ⟨m, ns m hn, fun i x v e1 e2 e3 => ?_⟩
    obtain ⟨u, r, l⟩ := hl i x v e1 e2 e3
    refine ⟨u, r, ?_⟩
    rcases l with l | ⟨k, c, e, z⟩
    · exact .inl l
    · exact .inr ⟨k, c, e, cellK x c e _ z⟩
  · obtain ⟨v, z⟩ := I.cell x c e
    exact ⟨v, cellK x c e v z⟩
  · obtain ⟨m, ⟨o, _, _, ho, _⟩, _⟩ := I.loc
    exact free _ o (fun z => (hch _ z).2.1 rfl) ho I.free
  · obtain ⟨v, o, ho, hd⟩ := I.cell x c e
    exact free c o (fun z => (hch c z).2.2.1 x c e rfl) ho (I.freeC x c e)
  · obtain ⟨e, n, ne, nf, d⟩ := I.pin p hp
    have nch : p.1 ∉ ch := fun z => (hch p.1 z).2.2.2 p hp rfl
    exact ⟨keep p.1 p.2 ne nf nch e n, free p.1 p.2 nch e n, ne, nf, d⟩
theorem Inv.un {t' : Nat} (I : Inv X pins σ H s) (u : Un X.fs [] H H' s.heap h') (hok : HOk X.prog X.w H' h') : Inv X pins σ H' { s with heap := h', toks := t' } := by
  obtain ⟨m, ⟨o, es, ep, ho, r⟩, _⟩ := id I.loc
  obtain ⟨sl, hL⟩ := u.any ho I.free (by simp)
  exact I.step (g' := s.gens) (d' := s.drawn) (ch := []) (fun _ z => nomatch z) (fun b o _ hb _ e n => u.keep b o e n hb (by simp)) (fun b o _ hb _ e n => u.slot b o e n hb (by simp)) (fun b o _ e n => u.free b o e n (by simp)) (fun b o _ e => u.there b o e (by simp)) u.tups u.frzs u.tbls (fun m' hm => by
    obtain ⟨o', es', ep', ho', r'⟩ := hm
    rw [ho] at ho'; cases ho'
    exact ⟨_, es', ep', hL, r'⟩) hok I.bare
theorem Inv.call {g' : Array GenState} {t' : Nat} {d' : Drawn} {ch : List Addr} (I : Inv X pins σ H s) (u : Un (frs X.stack) ch H H' s.heap h') (hok : HOk X.prog X.w H' h') (hg : AllBare g')
    (hch : ∀ b ∈ ch, (b ∈ X.ex ∨ X.s₀.heap.objs.size ≤ b) ∧ b ≠ X.env.locals ∧ (∀ x c, X.env.cells.lookup x = some c → c ≠ b) ∧ ∀ p ∈ X.pn ++ pins, p.1 ≠ b) :
    Inv X pins σ H' { s with heap := h', gens := g', drawn := d', toks := t' } := by
  obtain ⟨m, ⟨o, es, ep, ho, r⟩, _⟩ := id I.loc
  obtain ⟨sl, hL⟩ := u.any ho I.free fun z => (hch _ z).2.1 rfl
  exact I.step (ch := ch) hch (fun b o hL hb hc e n => u.keep b o e n (fun z => (List.mem_cons.mp (I.stkSub b z)).elim hL hb) hc) (fun b o _ _ hc e n => u.any e n hc) (fun b o hc e n => u.free b o e n hc) (fun b o hc e => u.there b o e hc) u.tups u.frzs u.tbls (fun m' hm => by
    obtain ⟨o', es', ep', ho', r'⟩ := hm
    rw [ho] at ho'; cases ho'
    exact ⟨_, es', ep', hL, r'⟩) hok hg
theorem Inv.turned {t' : Nat} {it : Addr} (I : Inv X pins σ H s) (k : ∀ b o, b ≠ it → s.heap.get? b = some o → h'.get? b = some o) (hn : H it = none) (hL : it ≠ X.env.locals)
    (h1 : it ∈ X.ex ∨ X.s₀.heap.objs.size ≤ it) (h2 : ∀ x c, X.env.cells.lookup x = some c → c ≠ it) (h3 : ∀ p ∈ X.pn ++ pins, p.1 ≠ it) : Inv X pins σ H { s with heap := h', toks := t' } := by
  have nit : ∀ b u, H b = some u → b ≠ it := fun b u e z => by rw [z, hn] at e; cases e
  refine I.step (g' := s.gens) (d' := s.drawn) (ch := [it]) (fun b hb => ?_) (fun b o _ _ hc e _ => k b o (fun z => hc (by simp [z])) e) (fun b o _ _ hc e _ => ⟨o.slots, k b o (fun z => hc (by simp [z])) e⟩) (fun _ _ _ _ n => n)
    (fun b o hc e => ⟨o, k b o (fun z => hc (by simp [z])) e⟩) (fun _ _ e => e) (fun _ _ _ e => e) (fun b ps e => ⟨#[], by rw [e]; simp⟩) (fun m hm => ?_) (fun b u e => ?_) I.bare
  · have e : b = it := by simpa using hb
    subst e
    exact ⟨h1, hL, h2, h3⟩
  · obtain ⟨o, es, ep, ho, r⟩ := hm
    exact ⟨o, es, ep, k _ o (Ne.symm hL) ho, r⟩
  · refine (I.hok b u e).stay (fun c v hc q => k c v ?_ q) (fun _ q => q) fun _ _ q => q
    rcases hc with z | z
    · rw [z]; exact nit b u e
    · exact nit c _ z
theorem Inv.tok (I : Inv X pins σ H s) (t : Nat) : Inv X pins σ H { s with toks := t } := I.un (h' := s.heap) (t' := t) Un.refl I.hok
theorem Inv.kept {t' : Nat} (I : Inv X pins σ H s) (k : ∀ b u, s.heap.get? b = some u → h'.get? b = some u) : Inv X pins σ H { s with heap := h', toks := t' } := I.un (Un.kept k) (I.hok.kept k)
theorem Inv.laid {a : Addr} {o : HO} {t' : Nat} (I : Inv X pins σ H s) (k : ∀ b u, s.heap.get? b = some u → h'.get? b = some u) (hp : s.heap.objs.size ≤ a) (new : ObjOk X.prog X.w (upd H a o) h' a o) :
    Inv X pins σ (upd H a o) { s with heap := h', toks := t' } := I.un (Un.laid k hp (I.hok.fresh hp)) (I.hok.laid k hp new)
theorem Inv.write {x e : Addr} {o : HO} {t' : Nat} (I : Inv X pins σ H s) (mu : Mut (H x)) (he : e = x ∨ H e = some (.own x)) (k : ∀ b u, b ≠ e → s.heap.get? b = some u → h'.get? b = some u) (heo : ∃ u, h'.get? e = some u)
    (new : ObjOk X.prog X.w (upd H x o) h' x o) : Inv X pins σ (upd H x o) { s with heap := h', toks := t' } := I.un (Un.write mu he k heo) (I.hok.write mu he k heo new)
theorem Inv.weak {σ' : List (Option V)} (I : Inv X pins σ H s) (hl : σ'.length = σ.length) (w : ∀ (i : Nat) v, σ'[i]? = some (some v) → σ[i]? = some (some v)) : Inv X pins σ' H s :=
  ⟨I.ok, I.os, I.bare, I.base, let ⟨m, hn, hl'⟩ := I.loc; ⟨m, hn, fun i x v e1 e2 e3 => hl' i x v e1 (w i v e2) e3⟩, I.cell, I.free, I.freeC, I.pin, I.hok, hl.trans I.len⟩
theorem Inv.pins_of {pins' : List (Addr × Obj)} (I : Inv X pins σ H s) (h : ∀ p ∈ pins', s.heap.get? p.1 = some p.2 ∧ H p.1 = none ∧ p.1 ≠ X.env.locals ∧ p.1 ∉ X.fs ∧ ∀ v, p.2.data ≠ .cell v) : Inv X pins' σ H s :=
  ⟨I.ok, I.os, I.bare, I.base, I.loc, I.cell, I.free, I.freeC, fun p hp => (List.mem_append.mp hp).elim (fun z => I.pin p (List.mem_append_left _ z)) (h p), I.hok, I.len⟩
theorem nodup_ix {N : List Str} (hN : N.Nodup) {i j : Nat} {x : Str} (a : N[i]? = some x) (b : N[j]? = some x) : i = j := by
  obtain ⟨h1, e1⟩ := List.getElem?_eq_some_iff.mp a
  obtain ⟨h2, e2⟩ := List.getElem?_eq_some_iff.mp b
  exact (List.getElem_inj hN).mp (e1.trans e2.symm)
theorem store_ok2 {M : Model} {A : Around} {E : Value → Shared → Prop} {i : Nat} {x : Str} {v : V} {u : Value} {Q : Unit → Shared → Prop} (I : Inv X pins σ H s) (hN : X.N.Nodup) (hi : X.N[i]? = some x) (hx : Loc X.env.scope x) (r : RelV v u)
    (h : ∀ s', Inv X pins (σ.set i (some v)) H s' → (∃ a, Heap.SameBut a s.heap s'.heap ∧ (a = X.env.locals ∨ X.env.cells.lookup x = some a)) → Q () s') (hf : X.fn x = true ∨ X.env.scope.names.lookup x = some .local := by first | exact .inl rfl | exact .inr rfl | assumption) : wpAny M A (storeName X.env x u) Q E s := by
  obtain ⟨m, hn, hl⟩ := id I.loc
  have hcls : (X.env.scope.kind == .class || (X.env.scope.kind == .module && X.env.locals != X.env.globals)) = false := by rw [I.ok.kind]; rfl
  have hiσ : i < σ.length := by rw [I.len]; exact (List.getElem?_eq_some_iff.mp hi).1
  have cne := I.cne
  have tracked : ∀ {a : Addr} {h' : Heap}, (∃ o, s.heap.get? a = some o ∧ H a = none) → Heap.SameBut a s.heap h' → HOk X.prog X.w H h' := fun {a h'} ha hs b ob e => by
    obtain ⟨_, _, hfree⟩ := ha
    refine (I.hok b ob e).stay (fun c w' hc q => (hs.2 c ?_).trans q) (fun _ q => q) fun _ _ q => q
    rintro rfl
    rcases hc with rfl | hc
    · rw [hfree] at e; cases e
    · rw [hfree] at hc; cases hc
  rcases hx with hk | hk
  · refine wpAny_storeName_local hk hn (fun h' hn' hs => ?_) hcls
    obtain ⟨oL, _, _, hoL, _⟩ := id hn
    refine h _ ⟨I.ok, I.os, I.bare, ⟨fun b o e n hb hx => ?_, fun b o e n hb hx => ?_, I.base.free, fun b o e hx => ?_, I.base.tups, I.base.frzs, I.base.tbls⟩, ⟨_, hn', fun j y v' e1 e2 e3 => ?_⟩, fun y c e => ?_, I.free, I.freeC, fun p hp => ?_, tracked ⟨oL, hoL, I.free⟩ hs, by simpa using I.len⟩ ⟨_, hs, .inl rfl⟩
    · exact (hs.2 b (Nat.ne_of_lt (Nat.lt_of_lt_of_le (Heap.lt_size e) I.ok.above))).trans (I.base.keep b o e n hb hx)
    · obtain ⟨sl, e1⟩ := I.base.slot b o e n hb hx
      exact ⟨sl, (hs.2 b (Nat.ne_of_lt (Nat.lt_of_lt_of_le (Heap.lt_size e) I.ok.above))).trans e1⟩
    · obtain ⟨o', e1⟩ := I.base.there b o e hx
      exact ⟨o', (hs.2 b (Nat.ne_of_lt (Nat.lt_of_lt_of_le (Heap.lt_size e) I.ok.above))).trans e1⟩
    · by_cases hj : j = i
      · subst hj
        rw [hi] at e1; cases e1
        rw [List.getElem?_set_self hiσ] at e2
        cases e2
        exact ⟨u, r, .inl ⟨hk, by simp⟩⟩
      · rw [List.getElem?_set_ne (Ne.symm hj)] at e2
        obtain ⟨u', r', q⟩ := hl j y v' e1 e2 e3
        refine ⟨u', r', ?_⟩
        rcases q with ⟨k, e⟩ | ⟨k, c, e, z⟩
        · refine .inl ⟨k, ?_⟩
          have : y ≠ x := fun e => hj (nodup_ix hN e1 (e ▸ hi))
          simp [this, e]
        · exact .inr ⟨k, c, e, z.sameBut hs (cne y c e)⟩
    · obtain ⟨w', z⟩ := I.cell y c e
      exact ⟨w', z.sameBut hs (cne y c e)⟩
    · obtain ⟨e, n, ne, nf, d⟩ := I.pin p hp
      exact ⟨(hs.2 p.1 ne).trans e, n, ne, nf, d⟩
  · have hfn : X.fn x = true := by
      rcases hf with z | z
      · exact z
      · rw [z] at hk; cases hk
    obtain ⟨c, hc⟩ := I.ok.has x (.inl hk)
    obtain ⟨w', z⟩ := I.cell x c hc
    refine wpAny_storeName_cell I.ok.kind hk hc z (fun h' hc' hs => ?_)
    obtain ⟨oc, hoc, hocd⟩ := id z
    refine h { s with heap := h' } ⟨I.ok, I.os, I.bare, ⟨fun b o e n hb hx => ?_, fun b o e n hb hx => ?_, I.base.free, fun b o e hx => ?_, I.base.tups, I.base.frzs, I.base.tbls⟩, ⟨m, hn.sameBut hs (Ne.symm (cne x c hc)), fun j y v' e1 e2 e3 => ?_⟩, fun y c' e => ?_, I.free, I.freeC, fun p hp => ?_, tracked ⟨oc, hoc, I.freeC x c hc⟩ hs, by simpa using I.len⟩ ⟨c, hs, .inr hc⟩
    · exact (hs.2 b (Nat.ne_of_lt (Nat.lt_of_lt_of_le (Heap.lt_size e) (I.ok.cab x c hfn hc)))).trans (I.base.keep b o e n hb hx)
    · obtain ⟨sl, e1⟩ := I.base.slot b o e n hb hx
      exact ⟨sl, (hs.2 b (Nat.ne_of_lt (Nat.lt_of_lt_of_le (Heap.lt_size e) (I.ok.cab x c hfn hc)))).trans e1⟩
    · obtain ⟨o', e1⟩ := I.base.there b o e hx
      exact ⟨o', (hs.2 b (Nat.ne_of_lt (Nat.lt_of_lt_of_le (Heap.lt_size e) (I.ok.cab x c hfn hc)))).trans e1⟩
    · by_cases hj : j = i
      · subst hj
        rw [hi] at e1; cases e1
        rw [List.getElem?_set_self hiσ] at e2
        cases e2
        exact ⟨u, r, .inr ⟨.inl hk, c, hc, hc'⟩⟩
      · rw [List.getElem?_set_ne (Ne.symm hj)] at e2
        obtain ⟨u', r', q⟩ := hl j y v' e1 e2 e3
        refine ⟨u', r', ?_⟩
        rcases q with q | ⟨k, c', e, z'⟩
        · exact .inl q
        · refine .inr ⟨k, c', e, z'.sameBut hs ?_⟩
          rintro rfl
          exact hj (nodup_ix hN e1 (I.ok.inj _ _ _ e hc ▸ hi))
    · by_cases hcc : c' = c
      · subst hcc; exact ⟨_, hc'⟩
      · obtain ⟨w2, z2⟩ := I.cell y c' e
        exact ⟨w2, z2.sameBut hs hcc⟩
    · obtain ⟨e, n, ne, nf, d⟩ := I.pin p hp
      refine ⟨(hs.2 p.1 ?_).trans e, n, ne, nf, d⟩
      intro q
      rw [q, hoc] at e
      have q' : oc = p.2 := Option.some.inj e
      exact d w' (by rw [← q']; exact hocd)
theorem store_ok {M : Model} {A : Around} {E : Value → Shared → Prop} {i : Nat} {x : Str} {v : V} {u : Value} {Q : Unit → Shared → Prop} (I : Inv X pins σ H s) (hN : X.N.Nodup) (hi : X.N[i]? = some x) (hx : Loc X.env.scope x) (r : RelV v u)
    (h : ∀ s', Inv X pins (σ.set i (some v)) H s' → Q () s') (hf : X.fn x = true ∨ X.env.scope.names.lookup x = some .local := by first | exact .inl rfl | exact .inr rfl | assumption) : wpAny M A (storeName X.env x u) Q E s :=
  store_ok2 I hN hi hx r (fun s' I' _ => h s' I') hf
theorem Inv.call' {s' : Shared} {ch : List Addr} (I : Inv X pins σ H s) (ho : s'.os = s.os) (u : Un (frs X.stack) ch H H' s.heap s'.heap) (hok : HOk X.prog X.w H' s'.heap) (hg : AllBare s'.gens)
    (hch : ∀ b ∈ ch, (b ∈ X.ex ∨ X.s₀.heap.objs.size ≤ b) ∧ b ≠ X.env.locals ∧ (∀ x c, X.env.cells.lookup x = some c → c ≠ b) ∧ ∀ p ∈ X.pn ++ pins, p.1 ≠ b) : Inv X pins σ H' s' := by
  obtain ⟨h', g', d', t', o'⟩ := s'
  have e : o' = s.os := ho
  subst e
  exact I.call (g' := g') (t' := t') (d' := d') u hok hg hch
end
abbrev XK := Value → Option Addr → Hp → Prop
abbrev St := List (Option V)
abbrev VK := V → Hp → Prop
abbrev TE := St → Hp → VK → Prop
abbrev TT := St → Hp → (Bool → Hp → Prop) → Prop
abbrev TA := St → Hp → (List V → Hp → Prop) → Prop
structure Ends where
  nx : St → Hp → Prop
  rt : VK
  bk : St → Hp → Prop := fun _ _ => False
  ct : St → Hp → Prop := fun _ _ => False
abbrev TS := Ends → St → Hp → Prop
def EP (X : Cx) (pins : List (Addr × Obj)) (σ : St) (Q : VK) (u : Value) (s' : Shared) : Prop := ∃ v H', Inv X pins σ H' s' ∧ RelV v u ∧ Q v H'
def TP (X : Cx) (pins : List (Addr × Obj)) (σ : St) (Q : Bool → Hp → Prop) (b : Bool) (s' : Shared) : Prop := ∃ H', Inv X pins σ H' s' ∧ Q b H'
def AP (X : Cx) (pins : List (Addr × Obj)) (σ : St) (Q : List V → Hp → Prop) (us : List Value) (s' : Shared) : Prop := ∃ vs H', Inv X pins σ H' s' ∧ Vals vs us ∧ Q vs H'
def SP (X : Cx) (pins : List (Addr × Obj)) (D : Ends) (f : Flow) (s' : Shared) : Prop :=
  match f with
  | .next => ∃ σ' H', Inv X pins σ' H' s' ∧ D.nx σ' H'
  | .brk => ∃ σ' H', Inv X pins σ' H' s' ∧ D.bk σ' H'
  | .cont => ∃ σ' H', Inv X pins σ' H' s' ∧ D.ct σ' H'
  | .ret u => ∃ v σ' H', Inv X pins σ' H' s' ∧ RelV v u ∧ D.rt v H'
def PE (X : Cx) (e : Expr) (t : TE) : Prop :=
  ∀ (pins : List (Addr × Obj)) (s : Shared) (σ : St) (H : Hp) (Q : VK), Inv X pins σ H s → t σ H Q → wpAny (model X.prog X.w) X.A (eval e X.env) (EP X pins σ Q) X.xe s
def PT (X : Cx) (e : Expr) (t : TT) : Prop :=
  ∀ (pins : List (Addr × Obj)) (s : Shared) (σ : St) (H : Hp) (Q : Bool → Hp → Prop), Inv X pins σ H s → t σ H Q → wpAny (model X.prog X.w) X.A (isTrue e X.env (eval e X.env)) (TP X pins σ Q) X.xe s
def PW (X : Cx) (e : Expr) (t : TT) : Prop :=
  ∀ (whole : Sem Value) (pins : List (Addr × Obj)) (s : Shared) (σ : St) (H : Hp) (Q : Bool → Hp → Prop), Inv X pins σ H s → t σ H Q → wpAny (model X.prog X.w) X.A (isTrue e X.env whole) (TP X pins σ Q) X.xe s
theorem PW.pt {X : Cx} {e : Expr} {t : TT} (h : PW X e t) : PT X e t := h _
def PA (X : Cx) (es : List Expr) (t : TA) : Prop :=
  ∀ (pos : Pos) (pins : List (Addr × Obj)) (s : Shared) (σ : St) (H : Hp) (Q : List V → Hp → Prop), Inv X pins σ H s → t σ H Q → wpAny (model X.prog X.w) X.A (spliced (backTo pos (starEach es X.env))) (AP X pins σ Q) X.xe s
def PS (X : Cx) (st : Stmt) (t : TS) : Prop :=
  ∀ (pins : List (Addr × Obj)) (s : Shared) (σ : St) (H : Hp) (D : Ends), Inv X pins σ H s → t D σ H → wpAny (model X.prog X.w) X.A (exec st X.env) (SP X pins D) X.xe s
def PSs (X : Cx) (st : List Stmt) (t : TS) : Prop :=
  ∀ (pins : List (Addr × Obj)) (s : Shared) (σ : St) (H : Hp) (D : Ends), Inv X pins σ H s → t D σ H → wpAny (model X.prog X.w) X.A (execs st X.env) (SP X pins D) X.xe s
theorem thn {α : Type} {t : Sem α} {Q Q' : α → Shared → Prop} {M : Model} {A : Around} {E : Value → Shared → Prop} {s : Shared} (h : wpAny M A t Q E s) (hQ : ∀ a s, Q a s → Q' a s) : wpAny M A t Q' E s := wpAny_mono h hQ fun _ _ x => x
end L2
namespace L2
open PySem PySem.Spec PyProof.Rows
section
variable {X : Cx}
def tVar (i : Nat) : TE := fun σ H Q => ∃ v, σ[i]? = some (some v) ∧ Q v H
def tC (v : V) : TE := fun _ H Q => Q v H
theorem pe_var {i : Nat} {x : Str} {pos : Pos} (hN : X.N[i]? = some x) (hv : Vis X.env.scope x) (hd : (x == ("__debug__" : Str)) = false := by decide) (hcd : (x == ("__classdict__" : Str)) = false := by decide) : PE X (.Name x pos) (tVar i) := by
  intro pins s σ H Q I h
  obtain ⟨v, e, h⟩ := h
  obtain ⟨m, hn, hl⟩ := I.loc
  obtain ⟨u, r, l⟩ := hl i x v hN e hv
  have fin : EP X pins σ Q u s := ⟨v, H, I, r, h⟩
  rcases l with ⟨hk, hm⟩ | ⟨hk, c, hc, hcell⟩
  · exact wpAny_Name (wpAny_loadName_local I.ok.kind hk hn hm fin) hd
  · rcases hk with hk | hk
    · exact wpAny_Name (wpAny_loadName_cell I.ok.kind hk hc hcell fin) hd
    · exact wpAny_Name (wpAny_loadName_free I.ok.kind hk hc hcell fin hcd) hd
theorem pe_int {i j pos} : PE X (.Constant (.int i) j pos) (tC (.int i)) := fun _ _ _ H _ I h => wpAny_Constant_int ⟨.int i, H, I.tok _, ⟨_, rfl⟩, h⟩
theorem pe_bl {b j pos} : PE X (.Constant (.bool b) j pos) (tC (.bl b)) := fun _ _ _ H _ I h => Constant_bool ⟨.bl b, H, I, rfl, h⟩
theorem pe_non {j pos} : PE X (.Constant .none j pos) (tC .non) := fun _ _ _ H _ I h => Constant_none ⟨.non, H, I, rfl, h⟩
theorem pe_str {x j pos} : PE X (.Constant (.str x) j pos) (tC (.str x)) := fun _ _ _ H _ I h => Calls.Constant_str ⟨.str x, H, I.tok _, ⟨_, rfl⟩, h⟩
def Gl (X : Cx) (x : Str) : Prop := X.env.kindOf x = some .globalImplicit
theorem ld_glob {E : Value → Shared → Prop} {pins : List (Addr × Obj)} {s : Shared} {σ : St} {H : Hp} {x : Str} {u : Value} {pos : Pos} {Q : Value → Shared → Prop} (I : Inv X pins σ H s) (hg : Gl X x) (hm : X.mg x = some u) (h : Q u s)
    (hd : (x == ("__debug__" : Str)) = false := by decide) : wpAny (model X.prog X.w) X.A (eval (.Name x pos) X.env) Q E s :=
  Calls.Name_function_global I.ok.kind hg (Calls.loadGlobal_global (by rw [I.ok.glob]; exact I.mod.glob.keeps I.bk) hm h) hd
theorem ld_blt {E : Value → Shared → Prop} {pins : List (Addr × Obj)} {s : Shared} {σ : St} {H : Hp} {x : Str} {u : Value} {pos : Pos} {Q : Value → Shared → Prop} (I : Inv X pins σ H s) (hg : Gl X x) (hm : X.mg x = none) (hv : bootBuiltins x = some u) (h : Q u s)
    (hn : x ≠ "__name__" := by decide) (hd : (x == ("__debug__" : Str)) = false := by decide) : wpAny (model X.prog X.w) X.A (eval (.Name x pos) X.env) Q E s := by
  obtain ⟨mb, h1, h2⟩ := I.mod.blt
  exact Calls.Name_function_global I.ok.kind hg (Calls.loadGlobal_builtin (by rw [I.ok.glob]; exact I.mod.glob.keeps I.bk) hm (by rw [I.ok.blt]; exact h1.keeps I.bk) ((h2 x hn).trans hv) h) hd
theorem pe_glob {x : Str} {v : V} {u : Value} {pos : Pos} (hg : Gl X x) (hm : X.mg x = some u) (r : RelV v u) (hd : (x == ("__debug__" : Str)) = false := by decide) : PE X (.Name x pos) (tC v) :=
  fun _ _ _ H _ I h => ld_glob I hg hm ⟨v, H, I, r, h⟩ hd
theorem pe_bltn {x : Str} {v : V} {u : Value} {pos : Pos} (hg : Gl X x) (hm : X.mg x = none) (hv : bootBuiltins x = some u) (r : RelV v u) (hn : x ≠ "__name__" := by decide) (hd : (x == ("__debug__" : Str)) = false := by decide) : PE X (.Name x pos) (tC v) :=
  fun _ _ _ H _ I h => ld_blt I hg hm hv ⟨v, H, I, r, h⟩ hn hd
variable {a b : Expr} {ta tb : TE} {pos : Pos}
def tB (t : TE) : TT := fun σ H Q => t σ H fun x H1 => ∃ c, x = .bl c ∧ Q c H1
theorem pt_val {e : Expr} {t : TE} (h : PE X e t) (he : ∀ whole, isTrue e X.env whole = (do let v ← whole; standAt e.pos; holding [v] (truthy v)) := by intro _; rfl) : PT X e (tB t) := by
  intro pins s σ H Q I hw
  refine isTrue_plain (thn (h pins s σ H _ I hw) fun v s1 ⟨x, H1, I1, r1, q1⟩ => ?_) (he _)
  obtain ⟨d, rfl, q⟩ := q1
  cases r1
  exact wpAny_truthy_bool ⟨H1, I1, q⟩
variable {tA tB' : TT} {rest : List Expr}
def tAnd (t u : TT) : TT := fun σ H Q => t σ H fun c H1 => if c = true then u σ H1 Q else Q false H1
def tOr (t u : TT) : TT := fun σ H Q => t σ H fun c H1 => if c = true then Q true H1 else u σ H1 Q
def tNot (t : TT) : TT := fun σ H Q => t σ H fun c H1 => Q (!c) H1
theorem pw_and1 (ha : PT X a tA) : PW X (.BoolOp .And [a] pos) tA := by
  intro wh pins s σ H Q I h
  refine isTrue_and (thn (ha pins s σ H Q I h) fun c s1 e => ?_)
  cases c with
  | true => exact isTrue_and_nil e
  | false => exact e
theorem pw_or1 (ha : PT X a tA) : PW X (.BoolOp .Or [a] pos) tA := by
  intro wh pins s σ H Q I h
  refine isTrue_or (thn (ha pins s σ H Q I h) fun c s1 e => ?_)
  cases c with
  | false => exact isTrue_or_nil e
  | true => exact e
theorem pw_and (ha : PT X a tA) (hb : PW X (.BoolOp .And (b :: rest) pos) tB') : PW X (.BoolOp .And (a :: b :: rest) pos) (tAnd tA tB') := by
  intro wh pins s σ H Q I h
  refine isTrue_and (thn (ha pins s σ H _ I h) fun c s1 ⟨H1, I1, q1⟩ => ?_)
  cases c with
  | true => exact hb wh pins s1 σ H1 Q I1 q1
  | false => exact ⟨H1, I1, q1⟩
theorem pw_or (ha : PT X a tA) (hb : PW X (.BoolOp .Or (b :: rest) pos) tB') : PW X (.BoolOp .Or (a :: b :: rest) pos) (tOr tA tB') := by
  intro wh pins s σ H Q I h
  refine isTrue_or (thn (ha pins s σ H _ I h) fun c s1 ⟨H1, I1, q1⟩ => ?_)
  cases c with
  | true => exact ⟨H1, I1, q1⟩
  | false => exact hb wh pins s1 σ H1 Q I1 q1
theorem pt_not (ha : PT X a tA) : PT X (.UnaryOp .Not a pos) (tNot tA) := by
  intro pins s σ H Q I h
  exact isTrue_not (ha pins s σ H (fun c H1 => Q (!c) H1) I h)
def tAndV (ta tb : TE) : TE := fun σ H Q => ta σ H fun x H1 => ∃ c, x = .bl c ∧ if c = true then tb σ H1 Q else Q (.bl false) H1
def tOrV (ta tb : TE) : TE := fun σ H Q => ta σ H fun x H1 => ∃ c, x = .bl c ∧ if c = true then Q (.bl true) H1 else tb σ H1 Q
def tNotV (ta : TE) : TE := fun σ H Q => ta σ H fun x H1 => ∃ c, x = .bl c ∧ Q (.bl (!c)) H1
theorem pe_one {op} {t : TE} (h : PE X a t) : PE X (.BoolOp op [a] pos) t := fun pins s σ H Q I hw => BoolOp_one (h pins s σ H Q I hw)
theorem pe_and (ha : PE X a ta) (hb : PE X (.BoolOp .And (b :: rest) pos) tb) : PE X (.BoolOp .And (a :: b :: rest) pos) (tAndV ta tb) := by
  intro pins s σ H Q I h
  refine BoolOp_and (thn (ha pins s σ H _ I h) fun v s1 ⟨x, H1, I1, r1, q1⟩ => ?_)
  obtain ⟨c, rfl, q1⟩ := q1
  cases r1
  refine wpAny_truthy_bool ?_
  cases c with
  | true => exact hb pins s1 σ H1 Q I1 q1
  | false => exact ⟨.bl false, H1, I1, rfl, q1⟩
theorem pe_not (ha : PE X a ta) : PE X (.UnaryOp .Not a pos) (tNotV ta) := by
  intro pins s σ H Q I h
  refine UnaryOp_ (thn (ha pins s σ H _ I h) fun v s1 ⟨x, H1, I1, r1, q1⟩ => ?_)
  obtain ⟨c, rfl, q1⟩ := q1
  cases r1
  exact not_of (wpAny_truthy_bool ⟨.bl (!c), H1, I1, rfl, q1⟩)
def tIf (t : TT) (ta tb : TE) : TE := fun σ H Q => t σ H fun c H1 => if c = true then ta σ H1 Q else tb σ H1 Q
theorem pe_ifExp {c : Expr} (hc : PT X c tA) (ha : PE X a ta) (hb : PE X b tb) : PE X (.IfExp c a b pos) (tIf tA ta tb) := by
  intro pins s σ H Q I h
  refine wpAny_IfExp (thn (hc pins s σ H _ I h) fun d s1 ⟨H1, I1, q1⟩ => ?_)
  cases d with
  | true => exact ha pins s1 σ H1 Q I1 q1
  | false => exact hb pins s1 σ H1 Q I1 q1
end
end L2
namespace L2
open PySem PySem.Spec PyProof.Rows
def SqL (K : PySem.W.Frag) (H : Hp) (a : Addr) (xs : List V) : Prop :=
  Rd H a (.lst xs) ∨
    ∃ (o : Obj) (its : Array Value) (n : Nat), K.lookup a = some o ∧ o.cls = .type "list" ∧ o.dict = none ∧ o.data = .seq its n ∧ its.size ≤ sizeLine ∧ Vals xs its.toList
def SqT (K : PySem.W.Frag) (H : Hp) (a : Addr) (xs : List V) : Prop :=
  Rd H a (.tup xs) ∨
    ∃ (o : Obj) (its : Array Value) (n : Nat), K.lookup a = some o ∧ o.cls = .type "tuple" ∧ o.data = .seq its n ∧ its.size ≤ sizeLine ∧ Vals xs its.toList
def absV : Value → Option V
  | .none => some .non
  | .bool b => some (.bl b)
  | .int i _ => some (.int i)
  | .str x _ => some (.str x)
  | .bytes b _ => some (.byt b)
  | .float b _ => some (.flt b)
  | .ref a => some (.ref a)
  | .type n => some (.ty n)
  | _ => none
theorem RelV.abs {x : V} {u : Value} (r : RelV x u) : absV u = some x := by
  cases x with
  | non => cases r; rfl
  | bl _ => cases r; rfl
  | int _ => obtain ⟨t, rfl⟩ := r; rfl
  | str _ => obtain ⟨t, rfl⟩ := r; rfl
  | byt _ => obtain ⟨t, rfl⟩ := r; rfl
  | flt _ => obtain ⟨t, rfl⟩ := r; rfl
  | ref _ => cases r; rfl
  | ty _ => cases r; rfl
theorem RelV.inj {x y : V} {u : Value} (r : RelV x u) (q : RelV y u) : x = y := Option.some.inj (r.abs.symm.trans q.abs)
theorem Vals.inj : ∀ {xs ys : List V} {us : List Value}, Vals xs us → Vals ys us → xs = ys
  | _, _, _, .nil, .nil => rfl
  | _, _, _, .cons r t, .cons r' t' => by rw [r.inj r', Vals.inj t t']
section
variable {X : Cx} {pins : List (Addr × Obj)} {σ : St} {H : Hp} {s : Shared} {a : Addr} {xs ys : List V}
theorem SqL.of {K : PySem.W.Frag} (h : H a = some (.lst xs)) : SqL K H a xs := .inl (.inl h)
theorem SqT.of {K : PySem.W.Frag} (h : H a = some (.tup xs)) : SqT K H a xs := .inl (.inl h)
theorem Inv.list (I : Inv X pins σ H s) (h : SqL X.K H a xs) : ∃ its : List Value, Vals xs its ∧ PlainL s.heap a its.toArray ∧ xs.length ≤ sizeLine := by
  rcases h with h | ⟨o, its, n, hk, hc, hd, hs, hz, r⟩
  · obtain ⟨z, its, n, r, e⟩ := h.ok I.hok
    exact ⟨its, r, ⟨_, n, e, rfl, rfl, rfl⟩, z⟩
  · refine ⟨its.toList, r, ⟨o, n, I.kIn a o hk, hc, hd, by simpa using hs⟩, ?_⟩
    have e := r.length
    simp only [Array.length_toList] at e
    omega
theorem Inv.tuple (I : Inv X pins σ H s) (h : SqT X.K H a xs) : ∃ its : List Value, Vals xs its ∧ IsTup s.heap a its.toArray ∧ xs.length ≤ sizeLine := by
  rcases h with h | ⟨o, its, n, hk, hc, hs, hz, r⟩
  · obtain ⟨z, its, r, p⟩ := h.ok I.hok
    exact ⟨its, r, p, z⟩
  · refine ⟨its.toList, r, ⟨o, I.kIn a o hk, hc, n, by simpa using hs⟩, ?_⟩
    have e := r.length
    simp only [Array.length_toList] at e
    omega
theorem Inv.list_inj (I : Inv X pins σ H s) (h : SqL X.K H a xs) (h' : SqL X.K H a ys) : xs = ys := by
  obtain ⟨its, r, ⟨o, n, e, _, _, d⟩, _⟩ := I.list h
  obtain ⟨its', r', ⟨o', n', e', _, _, d'⟩, _⟩ := I.list h'
  rw [e] at e'; cases e'
  rw [d] at d'
  injection d' with d1 _
  have : its = its' := by simpa using congrArg Array.toList d1
  subst this
  exact r.inj r'
theorem Inv.tuple_inj (I : Inv X pins σ H s) (h : SqT X.K H a xs) (h' : SqT X.K H a ys) : xs = ys := by
  obtain ⟨its, r, ⟨o, e, _, n, d⟩, _⟩ := I.tuple h
  obtain ⟨its', r', ⟨o', e', _, n', d'⟩, _⟩ := I.tuple h'
  rw [e] at e'; cases e'
  rw [d] at d'
  injection d' with d1 _
  have : its = its' := by simpa using congrArg Array.toList d1
  subst this
  exact r.inj r'
end
abbrev Cx.wish (X : Cx) (E : Value → Shared → Prop) : Cx := { X with xe := E }
abbrev Cx.nox (X : Cx) : Cx := X.wish fun _ _ => False
theorem Cx.Ok.wish {X : Cx} (ok : X.Ok) (E : Value → Shared → Prop) : (X.wish E).Ok :=
  ⟨ok.mod, ok.kind, ok.glob, ok.blt, ok.above, ok.inj, ok.has, ok.cab, ok.hd, ok.frames, ok.stk, ok.exf, ok.bs, ok.bsz, ok.noex, ok.exfs, ok.funs, ok.frf⟩
theorem Cx.Ok.unwish {X : Cx} {E : Value → Shared → Prop} (ok : (X.wish E).Ok) : X.Ok :=
  ⟨ok.mod, ok.kind, ok.glob, ok.blt, ok.above, ok.inj, ok.has, ok.cab, ok.hd, ok.frames, ok.stk, ok.exf, ok.bs, ok.bsz, ok.noex, ok.exfs, ok.funs, ok.frf⟩
section
variable {X : Cx} {pins : List (Addr × Obj)} {σ : St} {H : Hp} {s : Shared} {E : Value → Shared → Prop}
theorem Inv.wish (I : Inv X pins σ H s) (E : Value → Shared → Prop) : Inv (X.wish E) pins σ H s := ⟨I.ok.wish E, I.os, I.bare, I.base, I.loc, I.cell, I.free, I.freeC, I.pin, I.hok, I.len⟩
theorem Inv.unwish (I : Inv (X.wish E) pins σ H s) : Inv X pins σ H s := ⟨I.ok.unwish, I.os, I.bare, I.base, I.loc, I.cell, I.free, I.freeC, I.pin, I.hok, I.len⟩
theorem SP.unwish {D : Ends} {f : Flow} {s' : Shared} (h : SP (X.wish E) pins D f s') : SP X pins D f s' := by
  cases f with
  | next => obtain ⟨σ', H', I, q⟩ := h; exact ⟨σ', H', I.unwish, q⟩
  | brk => obtain ⟨σ', H', I, q⟩ := h; exact ⟨σ', H', I.unwish, q⟩
  | cont => obtain ⟨σ', H', I, q⟩ := h; exact ⟨σ', H', I.unwish, q⟩
  | ret u => obtain ⟨v, σ', H', I, r, q⟩ := h; exact ⟨v, σ', H', I.unwish, r, q⟩
theorem PE.nox {e : Expr} {t : TE} (h : PE X.nox e t) : PE X e t := fun pins s σ H Q I hw =>
  wpAny_mono (h pins s σ H Q (I.wish _) hw) (fun _ _ ⟨v, H', I', r, q⟩ => ⟨v, H', I'.unwish, r, q⟩) fun _ _ z => False.elim z
theorem PT.nox {e : Expr} {t : TT} (h : PT X.nox e t) : PT X e t := fun pins s σ H Q I hw =>
  wpAny_mono (h pins s σ H Q (I.wish _) hw) (fun _ _ ⟨H', I', q⟩ => ⟨H', I'.unwish, q⟩) fun _ _ z => False.elim z
theorem PSs.nox {st : List Stmt} {t : TS} (h : PSs X.nox st t) : PSs X st t := fun pins s σ H D I hw =>
  wpAny_mono (h pins s σ H D (I.wish _) hw) (fun _ _ q => q.unwish) fun _ _ z => False.elim z
end
section
variable {X : Cx} {st : Stmt} {rest : List Stmt} {t u : TS} {e : Expr} {te : TE} {pos : Pos}
def tNext : TS := fun D σ H => D.nx σ H
def tSeq (t u : TS) : TS := fun D σ H => t { D with nx := u D } σ H
theorem pss_nil : PSs X [] tNext := fun _ _ σ H _ I h => wpAny_execs_nil ⟨σ, H, I, h⟩
theorem pss_cons (h1 : PS X st t) (h2 : PSs X rest u) : PSs X (st :: rest) (tSeq t u) := by
  intro pins s σ H D I h
  refine wpAny_execs_cons (thn (h1 pins s σ H { D with nx := u D } I h) fun f s1 q => ?_)
  cases f with
  | next =>
    obtain ⟨σ', H', I', q⟩ := q
    exact h2 pins s1 σ' H' D I' q
  | ret v => exact q
  | brk => exact q
  | cont => exact q
theorem pss_one (h1 : PS X st t) : PSs X [st] t := by
  intro pins s σ H D I h
  refine wpAny_execs_cons (thn (h1 pins s σ H D I h) fun f s1 q => ?_)
  cases f with
  | next => exact wpAny_execs_nil q
  | ret v => exact q
  | brk => exact q
  | cont => exact q
theorem Inv.quiet {pins : List (Addr × Obj)} {σ : St} {H : Hp} {s : Shared} (I : Inv X pins σ H s) : interactive X.env = false := by simp [interactive, I.ok.kind]
def tDrop (te : TE) : TS := fun D σ H => te σ H fun _ H1 => D.nx σ H1
theorem ps_expr (he : PE X e te) (hs : swapsWith e none pos.line X.env = pure false := by rfl) : PS X (.Expr e pos) (tDrop te) := by
  intro pins s σ H D I h
  exact wpAny_Expr_any (thn (he pins s σ H _ I h) fun v s1 ⟨x, H1, I1, r1, q1⟩ => ⟨σ, H1, I1, q1⟩) I.quiet hs
def tRet (te : TE) : TS := fun D σ H => te σ H D.rt
theorem ps_ret (he : PE X e te) : PS X (.Return (some e) pos) (tRet te) := by
  intro pins s σ H D I h
  exact wpAny_Return_some (thn (he pins s σ H _ I h) fun v s1 ⟨x, H1, I1, r1, q1⟩ => ⟨x, σ, H1, I1, r1, q1⟩)
def tRetN : TS := fun D _ H => D.rt .non H
def tIfS (c : TT) (t u : TS) : TS := fun D σ H => c σ H fun b H1 => if b = true then t D σ H1 else u D σ H1
theorem ps_if {c : Expr} {a b : List Stmt} {tc : TT} (hc : PT X c tc) (ha : PSs X a t) (hb : PSs X b u) : PS X (.If c a b pos) (tIfS tc t u) := by
  intro pins s σ H D I h
  refine wpAny_If (thn (hc pins s σ H _ I h) fun d s1 ⟨H1, I1, q1⟩ => ?_)
  cases d with
  | true => exact ha pins s1 σ H1 D I1 q1
  | false => exact hb pins s1 σ H1 D I1 q1
def tNever : TS := fun _ _ _ => False
theorem ps_never : PS X st tNever := fun _ _ _ _ _ _ h => h.elim
end
abbrev TG := V → St → Hp → (St → Hp → Prop) → Prop
abbrev TGs := List V → St → Hp → (St → Hp → Prop) → Prop
def PG (X : Cx) (target : Expr) (t : TG) : Prop :=
  ∀ (pins : List (Addr × Obj)) (s : Shared) (σ : St) (H : Hp) (v : V) (u : Value) (Q : St → Hp → Prop), Inv X pins σ H s → RelV v u → t v σ H Q →
    wpAny (model X.prog X.w) X.A (assign target X.env u) (fun _ s' => ∃ σ' H', Inv X pins σ' H' s' ∧ Q σ' H') X.xe s
def PGs (X : Cx) (ts : List Expr) (t : TGs) : Prop :=
  ∀ (pins : List (Addr × Obj)) (s : Shared) (σ : St) (H : Hp) (vs : List V) (us : List Value) (Q : St → Hp → Prop), Inv X pins σ H s → Vals vs us → t vs σ H Q →
    wpAny (model X.prog X.w) X.A (assignInOrder ((assignEach ts X.env).map (·.2)) us) (fun _ s' => ∃ σ' H', Inv X pins σ' H' s' ∧ Q σ' H') X.xe s
abbrev TSet := V → V → V → Hp → (Hp → Prop) → Prop
def PSet (X : Cx) (t : TSet) : Prop :=
  ∀ (pins : List (Addr × Obj)) (s : Shared) (σ : St) (H : Hp) (o i v : V) (ov iv u : Value) (Q : Hp → Prop), Inv X pins σ H s → RelV o ov → RelV i iv → RelV v u → t o i v H Q →
    wpAny (model X.prog X.w) X.A (setItem ov iv u) (fun _ s' => ∃ H', Inv X pins σ H' s' ∧ Q H') X.xe s
section
variable {X : Cx} {pos : Pos}
def gName (i : Nat) : TG := fun v σ H Q => Q (σ.set i (some v)) H
theorem pg_name {i : Nat} {x : Str} (hN : X.N.Nodup) (hi : X.N[i]? = some x) (hx : Loc X.env.scope x) (hf : X.fn x = true ∨ X.env.scope.names.lookup x = some .local := by first | exact .inl rfl | exact .inr rfl | assumption) : PG X (.Name x pos) (gName i) := by
  intro pins s σ H v u Q I r h
  exact wpAny_assign_Name (store_ok I hN hi hx r (fun s' I' => ⟨_, H, I', h⟩) hf)
def gNil : TGs := fun vs σ H Q => vs = [] ∧ Q σ H
def gCons (t : TG) (u : TGs) : TGs := fun vs σ H Q => ∃ v r, vs = v :: r ∧ t v σ H fun σ' H' => u r σ' H' Q
theorem pgs_nil : PGs X [] gNil := by
  intro pins s σ H vs us Q I r h
  obtain ⟨e, h⟩ := h
  subst e
  cases r
  exact assignInOrder_nil ⟨σ, H, I, h⟩
theorem pgs_cons {e : Expr} {es : List Expr} {t : TG} {u : TGs} (h1 : PG X e t) (h2 : PGs X es u)
    (hs : (assignEach (e :: es) X.env).map (·.2) = assign e X.env :: (assignEach es X.env).map (·.2) := by rfl) : PGs X (e :: es) (gCons t u) := by
  intro pins s σ H vs us Q I r h
  obtain ⟨v, vr, e1, h⟩ := h
  subst e1
  cases r with
  | cons r rr =>
    rw [hs]
    refine assignInOrder_cons (thn (h1 pins s σ H _ _ _ I r h) fun _ s1 ⟨σ1, H1, I1, q1⟩ => ?_)
    exact h2 pins s1 σ1 H1 _ _ Q I1 rr q1
def gTup (K : PySem.W.Frag) (n : Nat) (t : TGs) : TG := fun v σ H Q => ∃ a xs, v = .ref a ∧ SqT K H a xs ∧ xs.length = n ∧ t xs σ H Q
theorem pg_tup {es : List Expr} {k : Nat} {t : TGs} {n : Nat} (hc : X.calm = true) (h : PGs X es t)
    (hn : (assignEach es X.env).length = n := by rfl) (hst : (assignEach es X.env).findIdx? (·.1) = none := by rfl) : PG X (.Tuple es k pos) (gTup X.K n t) := by
  intro pins s σ H v u Q I r hw
  obtain ⟨a, xs, e1, hq, hl, hw⟩ := hw
  subst e1
  cases r
  obtain ⟨its, rv, ht, hz⟩ := I.tuple hq
  refine assign_Tuple_tuple (I.ok.hd hc) ht (by simp [hn, ← hl, rv.length]) hst fun h' hx => ?_
  have I1 : Inv X pins σ H { s with heap := h' } := I.kept (t' := s.toks) fun b o e => hx b o (Nat.ne_of_lt (Heap.lt_size e)) e
  exact h pins _ σ H xs _ Q I1 (by simpa using rv) hw
def gSub (to ti : TE) (t : TSet) : TG := fun v σ H Q => to σ H fun o H1 => ti σ H1 fun i H2 => t o i v H2 fun H3 => Q σ H3
theorem pg_sub {o i : Expr} {to ti : TE} {t : TSet} (ho : PE X o to) (hi : PE X i ti) (hs : PSet X t)
    (ha : ∀ v, assign (.Subscript o i pos) X.env v = (do
      let ov ← holding [v] (eval o X.env)
      let iv ← holding [v, ov] (eval i X.env)
      standAt pos
      holding [v, ov, iv] (setItem ov iv v)
      release [v, ov, iv] []) := by intro _; rfl) : PG X (.Subscript o i pos) (gSub to ti t) := by
  intro pins s σ H v u Q I r h
  rw [ha]
  refine wpAny_bind (wpAny_holding (thn (ho pins s σ H _ I h) fun ov s1 ⟨x, H1, I1, r1, q1⟩ => ?_))
  refine wpAny_bind (wpAny_holding (thn (hi pins s1 σ H1 _ I1 q1) fun iv s2 ⟨y, H2, I2, r2, q2⟩ => ?_))
  refine wpAny_bind (wpAny_standAt (wpAny_bind (wpAny_holding (thn (hs pins s2 σ H2 x y v ov iv u _ I2 r1 r2 r q2) fun _ s3 ⟨H3, I3, q3⟩ => ?_))))
  exact wpAny_release ⟨σ, H3, I3, q3⟩
def tAsg (te : TE) (g : TG) : TS := fun D σ H => te σ H fun x H1 => g x σ H1 D.nx
theorem ps_asg {tg e : Expr} {te : TE} {g : TG} (he : PE X e te) (hg : PG X tg g) (hs : swapsWithSole [tg] e pos.line X.env = pure false := by rfl) (hw : swappedStores [tg] e X.env = pure none := by rfl)
    (h1 : (assignEach [tg] X.env).map (·.2) = [assign tg X.env] := by rfl) : PS X (.Assign [tg] e pos) (tAsg te g) := by
  intro pins s σ H D I h
  refine wpAny_Assign_stores (thn (he pins s σ H _ I h) fun v s1 ⟨x, H1, I1, r1, q1⟩ => ?_) hs hw
  rw [h1]
  exact thn (hg pins s1 σ H1 x v _ I1 r1 q1) fun _ s2 q => q
theorem ps_set {i : Nat} {x : Str} {e : Expr} {te : TE} {pos' : Pos} (hN : X.N.Nodup) (hi : X.N[i]? = some x) (hx : Loc X.env.scope x) (he : PE X e te) (hs : swapsWith e (some (.Name x pos')) pos.line X.env = pure false := by rfl) (hf : X.fn x = true ∨ X.env.scope.names.lookup x = some .local := by first | exact .inl rfl | exact .inr rfl | assumption) :
    PS X (.Assign [.Name x pos'] e pos) (tAsg te (gName i)) := by
  intro pins s σ H D I h
  refine wpAny_Assign_Name (thn (he pins s σ H _ I h) fun v s1 ⟨y, H1, I1, r1, q1⟩ => ?_) hs
  exact store_ok I1 hN hi hx r1 (fun s2 I2 => ⟨_, H1, I2, q1⟩) hf
end
section
variable {X : Cx} {pos : Pos}
end
structure It where
  go : Nat → Hp → Prop
  yld : Nat → Hp → V → Hp → Prop
  stop : Nat → Hp → Prop
def FpOk (X : Cx) (pins : List (Addr × Obj)) (H : Hp) (b : Addr) : Prop :=
  H b = none ∧ b ≠ X.env.locals ∧ b ∉ X.fs ∧ (b ∈ X.ex ∨ X.s₀.heap.objs.size ≤ b) ∧ (∀ x c, X.env.cells.lookup x = some c → c ≠ b) ∧ ∀ p ∈ X.pn ++ pins, p.1 ≠ b
theorem Inv.fpOk {X : Cx} {pins : List (Addr × Obj)} {σ : St} {H H' : Hp} {s : Shared} {b : Addr} (I : Inv X pins σ H s) (hb : s.heap.objs.size ≤ b) (hn : H' b = none) : FpOk X pins H' b := by
  refine ⟨hn, Nat.ne_of_gt (Nat.lt_of_lt_of_le I.lt hb), I.nofs hb, .inr (Nat.le_trans I.sz hb), fun x c e z => ?_, fun p hp z => ?_⟩
  · obtain ⟨v, q⟩ := I.cell x c e
    exact absurd (Nat.lt_of_lt_of_le q.lt (by rw [z]; exact hb)) (Nat.lt_irrefl _)
  · exact absurd (Nat.lt_of_lt_of_le (Heap.lt_size (I.pin p hp).1) (by rw [z]; exact hb)) (Nat.lt_irrefl _)
structure Turn (P : Program) (w : World) (K : PySem.W.Frag) (tg : Expr) (J : It) (fp : List Addr) (it : Addr) (tn : Nat → Heap → Prop) : Prop where
  mem : it ∈ fp
  obj : ∀ i h, tn i h → ∀ b ∈ fp, ∃ o, h.get? b = some o ∧ ∀ v, o.data ≠ .cell v
  keep : ∀ i h h', tn i h → (∀ b ∈ fp, ∀ o, h.get? b = some o → h'.get? b = some o) → tn i h'
  item : ∀ (X : Cx), X.prog = P → X.w = w → X.K = K → X.calm = true → ∀ (i : Nat) (pins : List (Addr × Obj)) (s : Shared) (σ : St) (H : Hp) (E : Value → Shared → Prop), Inv X pins σ H s → (∀ b ∈ fp, FpOk X pins H b) → tn i s.heap → J.go i H →
    wpAny (model P w) X.A (pyNext (.ref it)) (fun r s1 => ∃ u, r = some u ∧
      wpAny (model P w) X.A (letOwnedTupleGo tg (.ref it) u) (fun _ s2 => ∃ x H', Inv X pins σ H' s2 ∧ RelV x u ∧ J.yld i H x H' ∧ tn (i + 1) s2.heap ∧ ∀ b ∈ fp, H' b = none) E s1) E s
  done : ∀ (X : Cx), X.prog = P → X.w = w → X.K = K → X.calm = true → ∀ (i : Nat) (pins : List (Addr × Obj)) (s : Shared) (σ : St) (H : Hp) (E : Value → Shared → Prop), Inv X pins σ H s → (∀ b ∈ fp, FpOk X pins H b) → tn i s.heap → J.stop i H →
    wpAny (model P w) X.A (pyNext (.ref it)) (fun r s1 => r = none ∧ Inv X pins σ H s1) E s
  self : ∀ (A : Around) (i : Nat) (s : Shared) (Q : Value → Shared → Prop) (E : Value → Shared → Prop), tn i s.heap → Q (.ref it) s → wpAny (model P w) A (pyIter (.ref it)) Q E s
abbrev TI := St → Hp → (It → Hp → Prop) → Prop
def PIE (X : Cx) (pins : List (Addr × Obj)) (σ : St) (tg : Expr) (R : It → Hp → Prop) (itv : Value) (s2 : Shared) : Prop :=
  ∃ (it : Addr) (fp : List Addr) (tn : Nat → Heap → Prop) (J : It) (H' : Hp), itv = .ref it ∧ Inv X pins σ H' s2 ∧ Turn X.prog X.w X.K tg J fp it tn ∧ tn 0 s2.heap ∧ (∀ b ∈ fp, FpOk X pins H' b) ∧ R J H'
def PI (X : Cx) (tg iter : Expr) (wi : TI) : Prop :=
  ∀ (pins : List (Addr × Obj)) (s : Shared) (σ : St) (H : Hp) (R : It → Hp → Prop), Inv X pins σ H s → wi σ H R →
    wpAny (model X.prog X.w) X.A (eval iter X.env) (fun v s1 => wpAny (model X.prog X.w) X.A (pyIter v) (PIE X pins σ tg R) X.xe s1) X.xe s
theorem go_of {M : Model} {A : Around} {E : Value → Shared → Prop} {s : Shared} {tg : Expr} {it : Addr} {u : Value} {o : Obj} {n : String} {vs : Array Value} {Q : Unit → Shared → Prop} (ho : s.heap.get? it = some o) (hc : o.cls = .type n) (hd : o.data = .fields vs)
    (hn : ["enumerate", "zip", "dict_itemiterator", "dict_reverseitemiterator", "odict_iterator", "itertools.zip_longest", "itertools.pairwise"].contains n = false) (hQ : Q () s) : wpAny M A (letOwnedTupleGo tg (.ref it) u) Q E s := by
  unfold letOwnedTupleGo
  cases tg <;> first
    | exact wpAny_pure hQ
    | (cases u <;> first
        | exact wpAny_pure hQ
        | (refine wpAny_bind (wpAny_load ho ?_)
           rw [hc, hd]
           show wpAny M A (if (["enumerate", "zip", "dict_itemiterator", "dict_reverseitemiterator", "odict_iterator", "itertools.zip_longest", "itertools.pairwise"].contains n && vs[0]? == some (rawInt _)) = true then _ else _) Q E s
           rw [if_neg (by intro h; rw [hn, Bool.false_and] at h; cases h)]
           exact wpAny_pure hQ))
def Itl (K : PySem.W.Frag) (a : Addr) : It :=
  ⟨fun i H => ∃ xs x, SqL K H a xs ∧ xs[i]? = some x, fun i H x H' => H' = H ∧ ∀ xs, SqL K H a xs → xs[i]? = some x, fun i H => ∃ xs, SqL K H a xs ∧ xs.length ≤ i⟩
def Itt (K : PySem.W.Frag) (a : Addr) : It :=
  ⟨fun i H => ∃ xs x, SqT K H a xs ∧ xs[i]? = some x, fun i H x H' => H' = H ∧ ∀ xs, SqT K H a xs → xs[i]? = some x, fun i H => ∃ xs, SqT K H a xs ∧ xs.length ≤ i⟩
def Itr (lo : Int) (n : Nat) : It := ⟨fun i _ => i < n, fun i H x H' => H' = H ∧ x = .int (lo + i), fun i _ => n ≤ i⟩
theorem turn_list {P : Program} {w : World} {K : PySem.W.Frag} {tg : Expr} (a it : Addr) : Turn P w K tg (Itl K a) [it] it (fun i h => h.IsListIter it a i) where
  mem := by simp
  obj := fun i h st b hb => by
    have e : b = it := by simpa using hb
    subst e
    obtain ⟨o, e, c, d⟩ := st
    exact ⟨o, e, fun v z => by rw [d] at z; cases z⟩
  keep := fun i h h' st k => st.at fun o e => k it (by simp) o e
  item := by
    intro X hP hw hK hc i pins s σ H E I hf st hg
    subst hP hw hK
    obtain ⟨xs, x, hq, hx⟩ := hg
    obtain ⟨its, rv, p, hz⟩ := I.list hq
    obtain ⟨u, hu, ru⟩ := rv.get hx
    obtain ⟨f0, f1, f2, f3, f4, f5⟩ := hf it (by simp)
    refine wpAny_pyNext_list_item st p.isList (x := u) (by simpa using hu) fun h' st' sb => ?_
    have I1 : Inv X pins σ H { s with heap := h' } := I.turned (t' := s.toks) (fun b o hb e => (sb.2 b hb).trans e) f0 f1 f3 f4 f5
    obtain ⟨o, e, c, d⟩ := id st'
    exact ⟨u, rfl, go_of (s := { s with heap := h' }) e c d (by decide) ⟨x, H, I1, ru, ⟨rfl, fun ys hy => by rw [I.list_inj hy hq]; exact hx⟩, st', fun b hb => (hf b hb).1⟩⟩
  done := by
    intro X hP hw hK hc i pins s σ H E I hf st hg
    subst hP hw hK
    obtain ⟨xs, hq, hx⟩ := hg
    obtain ⟨its, rv, p, hz⟩ := I.list hq
    obtain ⟨f0, f1, f2, f3, f4, f5⟩ := hf it (by simp)
    have hl := rv.length
    exact wpAny_pyNext_list_end (I.ok.hd hc) st p.isList (by simp; omega) fun h' eb => ⟨rfl, I.turned (t' := s.toks) (fun b o hb e => eb b o hb e) f0 f1 f3 f4 f5⟩
  self := fun _ _ _ _ _ st h => wpAny_pyIter_listiter st h
theorem turn_tuple {P : Program} {w : World} {K : PySem.W.Frag} {tg : Expr} (a it : Addr) : Turn P w K tg (Itt K a) [it] it (fun i h => h.IsTupleIter it a i) where
  mem := by simp
  obj := fun i h st b hb => by
    have e : b = it := by simpa using hb
    subst e
    obtain ⟨o, e, c, d⟩ := st
    exact ⟨o, e, fun v z => by rw [d] at z; cases z⟩
  keep := fun i h h' st k => st.at fun o e => k it (by simp) o e
  item := by
    intro X hP hw hK hc i pins s σ H E I hf st hg
    subst hP hw hK
    obtain ⟨xs, x, hq, hx⟩ := hg
    obtain ⟨its, rv, p, hz⟩ := I.tuple hq
    obtain ⟨u, hu, ru⟩ := rv.get hx
    obtain ⟨f0, f1, f2, f3, f4, f5⟩ := hf it (by simp)
    refine wpAny_pyNext_tuple_item st (show s.heap.IsTuple a its.toArray from p) (x := u) (by simpa using hu) fun h' st' sb => ?_
    have I1 : Inv X pins σ H { s with heap := h' } := I.turned (t' := s.toks) (fun b o hb e => (sb.2 b hb).trans e) f0 f1 f3 f4 f5
    obtain ⟨o, e, c, d⟩ := id st'
    exact ⟨u, rfl, go_of (s := { s with heap := h' }) e c d (by decide) ⟨x, H, I1, ru, ⟨rfl, fun ys hy => by rw [I.tuple_inj hy hq]; exact hx⟩, st', fun b hb => (hf b hb).1⟩⟩
  done := by
    intro X hP hw hK hc i pins s σ H E I hf st hg
    subst hP hw hK
    obtain ⟨xs, hq, hx⟩ := hg
    obtain ⟨its, rv, p, hz⟩ := I.tuple hq
    obtain ⟨f0, f1, f2, f3, f4, f5⟩ := hf it (by simp)
    have hl := rv.length
    exact wpAny_pyNext_tuple_end (I.ok.hd hc) st (show s.heap.IsTuple a its.toArray from p) (by simp; omega) fun h' eb => ⟨rfl, I.turned (t' := s.toks) (fun b o hb e => eb b o hb e) f0 f1 f3 f4 f5⟩
  self := fun _ _ _ _ _ st h => wpAny_pyIter_tupleiter st h
theorem turn_range {P : Program} {w : World} {K : PySem.W.Frag} {tg : Expr} (it : Addr) (lo : Int) (n : Nat) : Turn P w K tg (Itr lo n) [it] it (fun i h => IsRangeIter h it (lo + (i : Nat) * 1) ((n : Int) - (i : Nat)) 1) where
  mem := by simp
  obj := fun i h st b hb => by
    have e : b = it := by simpa using hb
    subst e
    exact ⟨_, st, fun v z => by
      have z' : Data.fields _ = Data.cell v := z
      cases z'⟩
  keep := fun i h h' st k => k it (by simp) _ st
  item := by
    intro X hP hw hK hc i pins s σ H E I hf st hg
    subst hP hw hK
    obtain ⟨f0, f1, f2, f3, f4, f5⟩ := hf it (by simp)
    have W := Walks.range (prog := X.prog) (w := X.w) (I.ok.hd hc) it lo 1 n
    refine W.item i s _ _ hg st fun v h' tk hv st' kk => ?_
    obtain ⟨t, rfl⟩ := hv
    have I1 : Inv X pins σ H { s with heap := h', toks := tk } := I.turned (fun b o hb e => kk b o (by simpa using hb) e) f0 f1 f3 f4 f5
    refine ⟨_, rfl, go_of (s := { s with heap := h', toks := tk }) (n := "range_iterator") st' rfl rfl (by decide) ⟨.int (lo + i), H, I1, ⟨t, ?_⟩, ⟨rfl, rfl⟩, st', fun b hb => (hf b hb).1⟩⟩
    rw [Int.mul_one]
  done := by
    intro X hP hw hK hc i pins s σ H E I hf st hg
    subst hP hw hK
    obtain ⟨f0, f1, f2, f3, f4, f5⟩ := hf it (by simp)
    exact wpAny_pyNext_range_end (I.ok.hd hc) st (by have : n ≤ i := hg; omega) fun h' eb => ⟨rfl, I.turned (t' := s.toks) (fun b o hb e => eb b o hb e) f0 f1 f3 f4 f5⟩
  self := fun _ _ _ _ _ st h => wpAny_pyIter_rangeiter st h
end L2
namespace L2
open PySem PySem.Spec PyProof.Rows
section
variable {X : Cx} {tg : Expr}
def iList (K : PySem.W.Frag) (tl : TE) : TI := fun σ H R => tl σ H fun x H1 => ∃ a, x = .ref a ∧ (∃ xs, SqL K H1 a xs) ∧ R (Itl K a) H1
def iTup (K : PySem.W.Frag) (tl : TE) : TI := fun σ H R => tl σ H fun x H1 => ∃ a, x = .ref a ∧ (∃ xs, SqT K H1 a xs) ∧ R (Itt K a) H1
theorem pi_list {l : Expr} {tl : TE} (hl : PE X l tl) : PI X tg l (iList X.K tl) := by
  intro pins s σ H R I h
  refine thn (hl pins s σ H _ I h) fun v s1 ⟨x, H1, I1, r1, q1⟩ => ?_
  obtain ⟨a, e, ⟨xs, hq⟩, q⟩ := q1
  subst e
  cases r1
  obtain ⟨its, rv, p, hz⟩ := I1.list hq
  refine wpAny_pyIter_list p.isList ?_
  refine ⟨s1.heap.objs.size, [s1.heap.objs.size], _, _, H1, rfl, I1.kept (t' := s1.toks) fun b o e => Heap.get?_push_of_some _ e, turn_list a _, ⟨_, Heap.get?_push_size _ rfl, rfl, rfl⟩, fun b hb => ?_, q⟩
  have e : b = s1.heap.objs.size := by simpa using hb
  subst e
  exact I1.fpOk (Nat.le_refl _) (I1.hok.fresh (Nat.le_refl _))
theorem pi_tup {l : Expr} {tl : TE} (hl : PE X l tl) : PI X tg l (iTup X.K tl) := by
  intro pins s σ H R I h
  refine thn (hl pins s σ H _ I h) fun v s1 ⟨x, H1, I1, r1, q1⟩ => ?_
  obtain ⟨a, e, ⟨xs, hq⟩, q⟩ := q1
  subst e
  cases r1
  obtain ⟨its, rv, p, hz⟩ := I1.tuple hq
  refine wpAny_pyIter_tuple (show s1.heap.IsTuple a its.toArray from p) ?_
  refine ⟨s1.heap.objs.size, [s1.heap.objs.size], _, _, H1, rfl, I1.kept (t' := s1.toks) fun b o e => Heap.get?_push_of_some _ e, turn_tuple a _, ⟨_, Heap.get?_push_size _ rfl, rfl, rfl⟩, fun b hb => ?_, q⟩
  have e : b = s1.heap.objs.size := by simpa using hb
  subst e
  exact I1.fpOk (Nat.le_refl _) (I1.hok.fresh (Nat.le_refl _))
theorem range_it {pins : List (Addr × Obj)} {σ : St} {H : Hp} {s : Shared} {R : It → Hp → Prop} {E : Value → Shared → Prop} {lo hi : Int} {t u v : Tok} {tk : Nat} (I : Inv X pins σ H s) (h1 : -(2 ^ 62) ≤ lo) (h2 : lo < 2 ^ 62) (h3 : -(2 ^ 62) ≤ hi) (h4 : hi < 2 ^ 62)
    (q : R (Itr lo (hi - lo).toNat) H) : wpAny (model X.prog X.w) X.A (pyIter (.ref s.heap.objs.size)) (PIE X pins σ tg R) E { s with heap := s.heap.push { cls := .type "range", data := .fields #[.int lo t, .int hi u, .int 1 v] }, toks := tk } := by
  refine wpAny_pyIter_range (IsRange.new ..) (small_one h1 h2 h3 h4) ?_
  have I1 : Inv X pins σ H { s with heap := s.heap.push { cls := .type "range", data := .fields #[.int lo t, .int hi u, .int 1 v] }, toks := tk } := I.kept fun b o e => Heap.get?_push_of_some _ e
  refine ⟨(s.heap.push { cls := .type "range", data := .fields #[.int lo t, .int hi u, .int 1 v] }).objs.size, [(s.heap.push { cls := .type "range", data := .fields #[.int lo t, .int hi u, .int 1 v] }).objs.size], _, _, H, rfl,
    I1.kept (t' := tk) fun b o e => Heap.get?_push_of_some _ e, turn_range _ lo (hi - lo).toNat, ?_, fun b hb => ?_, q⟩
  · have e1 : lo + ((0 : Nat) : Int) * 1 = lo := by simp
    have e2 : (((hi - lo).toNat : Nat) : Int) - ((0 : Nat) : Int) = Builtin.Range.rangeSize lo hi 1 := by rw [rangeSize_one]; split <;> omega
    show IsRangeIter _ _ (lo + ((0 : Nat) : Int) * 1) ((((hi - lo).toNat : Nat) : Int) - ((0 : Nat) : Int)) 1
    rw [e1, e2]
    exact Heap.get?_push_size _ rfl
  · have e : b = (s.heap.push { cls := .type "range", data := .fields #[.int lo t, .int hi u, .int 1 v] }).objs.size := by simpa using hb
    subst e
    exact I1.fpOk (Nat.le_refl _) (I1.hok.fresh (Nat.le_refl _))
def iRng1 (ta : TA) : TI := fun σ H R => ta σ H fun vs H1 => ∃ j : Int, vs = [.int j] ∧ -(2 ^ 62) ≤ j ∧ j < 2 ^ 62 ∧ R (Itr 0 j.toNat) H1
def iRng2 (ta : TA) : TI := fun σ H R => ta σ H fun vs H1 => ∃ i j : Int, vs = [.int i, .int j] ∧ (-(2 ^ 62) ≤ i ∧ i < 2 ^ 62 ∧ -(2 ^ 62) ≤ j ∧ j < 2 ^ 62) ∧ R (Itr i (j - i).toNat) H1
theorem pi_range1 {a : Expr} {ta : TA} {p pos : Pos} (hg : Gl X "range") (hm : X.mg "range" = none) (ha : PA X [a] ta) (hs : starEach [a] X.env = [(false, eval a X.env)] := by rfl) : PI X tg (.Call (.Name "range" p) [a] [] pos) (iRng1 ta) := by
  intro pins s σ H R I h
  refine Call_ (ld_blt I hg hm boot_range (PyProof.Rows.callWith_type1 (thn (ha pos pins s σ H _ I h) fun us s1 ⟨vs, H1, I1, r1, q1⟩ => ?_) hs rfl))
  obtain ⟨j, e, q1, q2, q⟩ := q1
  subst e
  cases r1 with
  | cons r rr =>
    cases rr
    obtain ⟨t, rfl⟩ := r
    exact call_range_1 (range_it I1 (by omega) (by omega) q1 q2 (by simpa using q))
def tFor (wi : TI) (g : TG) (tb : TS) : TS := fun D σ H => wi σ H fun J H1 => ∃ W : Nat → Nat → St → Hp → Prop, (∃ m, W 0 m σ H1) ∧ ∀ i m σ H, W i m σ H →
  (J.stop i H ∧ D.nx σ H) ∨ (J.go i H ∧ ∃ N : St → Hp → Prop, (∀ σ' H', N σ' H' → ∃ m', m' < m ∧ W (i + 1) m' σ' H') ∧ ∀ x H', J.yld i H x H' → g x σ H' fun σ2 H2 => tb { D with nx := N, ct := N, bk := D.nx } σ2 H2)
def pinsAt (fp : List Addr) (h : Heap) : List (Addr × Obj) := fp.filterMap fun b => (h.get? b).map fun o => (b, o)
theorem mem_pinsAt {fp : List Addr} {h : Heap} {b : Addr} {o : Obj} (hb : b ∈ fp) (e : h.get? b = some o) : (b, o) ∈ pinsAt fp h := List.mem_filterMap.mpr ⟨b, hb, by rw [e]; rfl⟩
theorem of_pinsAt {fp : List Addr} {h : Heap} {p : Addr × Obj} (hp : p ∈ pinsAt fp h) : p.1 ∈ fp ∧ h.get? p.1 = some p.2 := by
  obtain ⟨b, hb, e⟩ := List.mem_filterMap.mp hp
  cases q : h.get? b with
  | none => rw [q] at e; cases e
  | some o =>
    rw [q] at e
    have e' : (b, o) = p := Option.some.inj e
    subst e'
    exact ⟨hb, q⟩
theorem Inv.pinned {pins : List (Addr × Obj)} {σ : St} {H : Hp} {s : Shared} {fp : List Addr} (I : Inv X pins σ H s) (hf : ∀ b ∈ fp, FpOk X pins H b) (ho : ∀ b ∈ fp, ∃ o, s.heap.get? b = some o ∧ ∀ v, o.data ≠ .cell v) : Inv X (pins ++ pinsAt fp s.heap) σ H s :=
  I.pins_of fun p hp => (List.mem_append.mp hp).elim (fun z => I.pin p (List.mem_append_right _ z)) fun z => by
    obtain ⟨hb, e⟩ := of_pinsAt z
    obtain ⟨f0, f1, f2, _⟩ := hf p.1 hb
    obtain ⟨o, e', d⟩ := ho p.1 hb
    rw [e] at e'; cases e'
    exact ⟨e, f0, f1, f2, d⟩
theorem Inv.unpinned {pins pl : List (Addr × Obj)} {σ : St} {H : Hp} {s : Shared} (I : Inv X (pins ++ pl) σ H s) : Inv X pins σ H s := I.pins_of fun p hp => I.pin p (List.mem_append_right _ (List.mem_append_left _ hp))
theorem ps_for {iter : Expr} {body : List Stmt} {wi : TI} {g : TG} {tb : TS} {pos : Pos} (hp : PassesOwn (model X.prog X.w) X.A X.env X.xe) (hc : X.calm = true) (hi : PI X tg iter wi) (hg : PG X tg g) (hb : PSs X body tb)
    (hs : ∀ x, foldedSetIterable iter X.env x = pure x := by intro _; rfl) : PS X (.For tg iter body [] pos) (tFor wi g tb) := by
  intro pins s σ H D I h
  refine wpAny_For (thn (hi pins s σ H _ I h) fun v s1 h1 => thn h1 fun itv s2 h2 => ?_) hs
  obtain ⟨it, fp, tn, J, H2, e, I2, T, st2, f2, W, ⟨m0, w0⟩, turn⟩ := h2
  subst e
  have stat : ∀ {H' : Hp}, (∀ b ∈ fp, H' b = none) → ∀ b ∈ fp, FpOk X pins H' b := fun hn b hb => ⟨hn b hb, (f2 b hb).2⟩
  refine codeAny_forLoop_any (fun n s' => ∃ i σ' H', Inv X pins σ' H' s' ∧ tn i s'.heap ∧ (∀ b ∈ fp, H' b = none) ∧ W i n σ' H') ?_ m0 ⟨0, σ, H2, I2, st2, fun b hb => (f2 b hb).1, w0⟩
  rintro n s3 ⟨i, σ3, H3, I3, st3, fr3, w3⟩
  rcases turn i n σ3 H3 w3 with ⟨stop, qn⟩ | ⟨go, N, hN, step⟩
  · refine wpAny_passesOwn hp (thn (T.done X rfl rfl rfl hc i pins s3 σ3 H3 X.xe I3 (stat fr3) st3 stop) fun r s4 ⟨hr, I4⟩ => ?_)
    subst hr
    exact wpAny_execs_nil ⟨σ3, H3, I4, qn⟩
  · refine wpAny_passesOwn hp (thn (T.item X rfl rfl rfl hc i pins s3 σ3 H3 X.xe I3 (stat fr3) st3 go) fun r s4 ⟨u, hr, h4⟩ => ?_)
    subst hr
    refine wpAny_passesOwn hp (thn h4 fun _ s5 ⟨x, H5, I5, r5, y5, st5, fr5⟩ => ?_)
    have I5' := I5.pinned (stat fr5) (T.obj _ _ st5)
    refine wpAny_passesOwn hp (thn (hg _ s5 σ3 H5 x u _ I5' r5 (step x H5 y5)) fun _ s6 ⟨σ6, H6, I6, q6⟩ => ?_)
    refine wpAny_passesOwn hp (thn (hb _ s6 σ6 H6 _ I6 q6) fun f s7 q7 => ?_)
    have again : ∀ {σ7 : St} {H7 : Hp}, Inv X (pins ++ pinsAt fp s5.heap) σ7 H7 s7 → N σ7 H7 → ∃ m, m < n ∧ ∃ i σ' H', Inv X pins σ' H' s7 ∧ tn i s7.heap ∧ (∀ b ∈ fp, H' b = none) ∧ W i m σ' H' := fun {σ7 H7} I7 n7 => by
      obtain ⟨m', hm, w7⟩ := hN σ7 H7 n7
      refine ⟨m', hm, i + 1, σ7, H7, I7.unpinned, T.keep _ _ _ st5 fun b hb o e => (I7.pin (b, o) (List.mem_append_right _ (List.mem_append_right _ (mem_pinsAt hb e)))).1, fun b hb => ?_, w7⟩
      obtain ⟨o, e, d⟩ := T.obj _ _ st5 b hb
      exact (I7.pin (b, o) (List.mem_append_right _ (List.mem_append_right _ (mem_pinsAt hb e)))).2.1
    cases f with
    | next => obtain ⟨σ7, H7, I7, n7⟩ := q7; exact again I7 n7
    | cont => obtain ⟨σ7, H7, I7, n7⟩ := q7; exact again I7 n7
    | brk => obtain ⟨σ7, H7, I7, q7⟩ := q7; exact ⟨σ7, H7, I7.unpinned, q7⟩
    | ret v => obtain ⟨x7, σ7, H7, I7, r7, q7⟩ := q7; exact ⟨x7, σ7, H7, I7.unpinned, r7, q7⟩
end
theorem for_range {lo : Int} {n : Nat} {g : TG} {tb : TS} {D : Ends} {σ : St} {H : Hp} (Pv : Nat → St → Hp → Prop) (h0 : Pv 0 σ H)
    (hs : ∀ i σ H, i < n → Pv i σ H → g (.int (lo + i)) σ H fun σ2 H2 => tb { D with nx := Pv (i + 1), ct := Pv (i + 1), bk := D.nx } σ2 H2) (hd : ∀ σ H, Pv n σ H → D.nx σ H) :
    ∃ W : Nat → Nat → St → Hp → Prop, (∃ m, W 0 m σ H) ∧ ∀ i m σ H, W i m σ H →
      ((Itr lo n).stop i H ∧ D.nx σ H) ∨ ((Itr lo n).go i H ∧ ∃ N : St → Hp → Prop, (∀ σ' H', N σ' H' → ∃ m', m' < m ∧ W (i + 1) m' σ' H') ∧ ∀ x H', (Itr lo n).yld i H x H' → g x σ H' fun σ2 H2 => tb { D with nx := N, ct := N, bk := D.nx } σ2 H2) := by
  refine ⟨fun i m σ H => m = n - i ∧ i ≤ n ∧ Pv i σ H, ⟨n, by simp, Nat.zero_le _, h0⟩, ?_⟩
  rintro i m σ H ⟨rfl, hi, p⟩
  by_cases hlt : i < n
  · refine .inr ⟨hlt, Pv (i + 1), fun σ' H' p' => ⟨n - (i + 1), by omega, rfl, hlt, p'⟩, fun x H' y => ?_⟩
    obtain ⟨e, y⟩ := y
    subst e y
    exact hs i σ _ hlt p
  · have e : i = n := by omega
    subst e
    exact .inl ⟨Nat.le_refl _, hd σ H p⟩
end L2
namespace L2
open PySem PySem.Spec PyProof.Rows
abbrev R2 := V → V → Hp → VK → Prop
def OpR (X : Cx) (f : Value → Value → Sem Value) (r : R2) : Prop :=
  ∀ (pins : List (Addr × Obj)) (s : Shared) (σ : St) (H : Hp) (x y : V) (v u : Value) (Q : VK), Inv X pins σ H s → RelV x v → RelV y u → r x y H Q →
    wpAny (model X.prog X.w) X.A (f v u) (EP X pins σ Q) X.xe s
def CallR (X : Cx) (f : Value) (r : List V → Hp → VK → Prop) : Prop :=
  ∀ (pins : List (Addr × Obj)) (s : Shared) (σ : St) (H : Hp) (xs : List V) (us : List Value) (Q : VK), Inv X pins σ H s → Vals xs us → r xs H Q →
    wpAny (model X.prog X.w) X.A (call f us) (EP X pins σ Q) X.xe s
def TruR (X : Cx) (r : V → Hp → (Bool → Hp → Prop) → Prop) : Prop :=
  ∀ (pins : List (Addr × Obj)) (s : Shared) (σ : St) (H : Hp) (x : V) (v : Value) (Q : Bool → Hp → Prop), Inv X pins σ H s → RelV x v → r x H Q →
    wpAny (model X.prog X.w) X.A (truthy v) (TP X pins σ Q) X.xe s
def tOp (r : R2) (ta tb : TE) : TE := fun σ H Q => ta σ H fun x H1 => tb σ H1 fun y H2 => r x y H2 Q
def tUn (r : V → Hp → VK → Prop) (ta : TE) : TE := fun σ H Q => ta σ H fun x H1 => r x H1 Q
def rI (C : Int → Int → Prop) (g : Int → Int → V) : R2 := fun x y H Q => ∃ i j, x = .int i ∧ y = .int j ∧ C i j ∧ Q (g i j) H
def rI0 (g : Int → Int → V) : R2 := fun x y H Q => ∃ i j, x = .int i ∧ y = .int j ∧ Q (g i j) H
def rU (g : Int → V) : V → Hp → VK → Prop := fun x H Q => ∃ i, x = .int i ∧ Q (g i) H
section
variable {X : Cx} {a b c : Expr} {ta tb tc : TE} {pos : Pos}
theorem binT (ha : PE X a ta) (hb : PE X b tb) {pins : List (Addr × Obj)} {s : Shared} {σ : St} {H : Hp} {R : V → V → Hp → Prop} (I : Inv X pins σ H s)
    (h : ta σ H fun x H1 => tb σ H1 fun y H2 => R x y H2) {Q : Value → Shared → Prop} {f : Value → Value → Sem Value}
    (hf : ∀ v u s2 x y H2, Inv X pins σ H2 s2 → RelV x v → RelV y u → R x y H2 → wpAny (model X.prog X.w) X.A (f v u) Q X.xe s2) :
    wpAny (model X.prog X.w) X.A (eval a X.env) (fun v s₁ => wpAny (model X.prog X.w) X.A (eval b X.env) (fun u s₂ => wpAny (model X.prog X.w) X.A (f v u) Q X.xe s₂) X.xe s₁) X.xe s := by
  refine thn (ha pins s σ H _ I h) fun v s1 ⟨x, H1, I1, r1, q1⟩ => ?_
  refine thn (hb pins s1 σ H1 _ I1 q1) fun u s2 ⟨y, H2, I2, r2, q2⟩ => ?_
  exact hf v u s2 x y H2 I2 r1 r2 q2
theorem pe_op {op : Operator} {r : R2} (ho : OpR X (binaryOp op) r) (ha : PE X a ta) (hb : PE X b tb) : PE X (.BinOp a op b pos) (tOp r ta tb) := by
  intro pins s σ H Q I h
  exact wpAny_BinOp (binT ha hb I h fun v u s2 x y H2 I2 rx ry q => ho pins s2 σ H2 x y v u Q I2 rx ry q)
theorem opI {f : Value → Value → Sem Value} {C : Int → Int → Prop} {g : Int → Int → Int}
    (rule : ∀ (i j : Int) (t u : Tok) (s : Shared) (Q : Value → Shared → Prop) (E : Value → Shared → Prop), C i j → Q (.int (g i j) s.toks) { s with toks := s.toks + 1 } → wpAny (model X.prog X.w) X.A (f (.int i t) (.int j u)) Q E s) :
    OpR X f (rI C fun i j => .int (g i j)) := by
  intro pins s σ H x y v u Q I rx ry h
  obtain ⟨i, j, rfl, rfl, hc, q⟩ := h
  obtain ⟨t, rfl⟩ := rx
  obtain ⟨t', rfl⟩ := ry
  exact rule i j t t' s _ _ hc ⟨.int (g i j), H, I.tok _, ⟨_, rfl⟩, q⟩
theorem opI0 {f : Value → Value → Sem Value} {g : Int → Int → Int}
    (rule : ∀ (i j : Int) (t u : Tok) (s : Shared) (Q : Value → Shared → Prop) (E : Value → Shared → Prop), Q (.int (g i j) s.toks) { s with toks := s.toks + 1 } → wpAny (model X.prog X.w) X.A (f (.int i t) (.int j u)) Q E s) :
    OpR X f (rI0 fun i j => .int (g i j)) := by
  intro pins s σ H x y v u Q I rx ry h
  obtain ⟨i, j, rfl, rfl, q⟩ := h
  obtain ⟨t, rfl⟩ := rx
  obtain ⟨t', rfl⟩ := ry
  exact rule i j t t' s _ _ ⟨.int (g i j), H, I.tok _, ⟨_, rfl⟩, q⟩
theorem opB0 {f : Value → Value → Sem Value} {g : Int → Int → Bool}
    (rule : ∀ (i j : Int) (t u : Tok) (s : Shared) (Q : Value → Shared → Prop) (E : Value → Shared → Prop), Q (.bool (g i j)) s → wpAny (model X.prog X.w) X.A (f (.int i t) (.int j u)) Q E s) :
    OpR X f (rI0 fun i j => .bl (g i j)) := by
  intro pins s σ H x y v u Q I rx ry h
  obtain ⟨i, j, rfl, rfl, q⟩ := h
  obtain ⟨t, rfl⟩ := rx
  obtain ⟨t', rfl⟩ := ry
  exact rule i j t t' s _ _ ⟨.bl (g i j), H, I, rfl, q⟩
def CPow (i j : Int) : Prop := 0 ≤ j ∧ j ≤ 1000000 ∧ i.natAbs < 2 ^ 64
def CMul (i j : Int) : Prop := (-(2 ^ 64) < i ∧ i < 2 ^ 64) ∨ (-(2 ^ 64) < j ∧ j < 2 ^ 64)
theorem CMul.ok {i j : Int} (h : CMul i j) : IntMulOk i j := by
  rcases h with ⟨h1, h2⟩ | ⟨h1, h2⟩
  · exact .of_left (intBits_le_64 h1 h2)
  · exact .of_right (intBits_le_64 h1 h2)
theorem op_add : OpR X (binaryOp .Add) (rI0 fun i j => .int (i + j)) := opI0 fun _ _ _ _ _ _ _ q => add_int q
theorem op_sub : OpR X (binaryOp .Sub) (rI0 fun i j => .int (i - j)) := opI0 fun _ _ _ _ _ _ _ q => sub_int q
theorem op_mul : OpR X (binaryOp .Mult) (rI CMul fun i j => .int (i * j)) := opI fun _ _ _ _ _ _ _ hc q => mul_int q hc.ok
theorem op_mod : OpR X (binaryOp .Mod) (rI (fun _ j => 0 < j) fun i j => .int (i % j)) := opI fun i j _ _ _ _ _ hc q => by
  have h1 : (0 : Int) < j := hc
  exact mod_int' (by omega) (by rw [Int.fmod_eq_emod_of_nonneg i (by omega)]; exact q)
theorem op_pow : OpR X (binaryOp .Pow) (rI CPow fun i j => .int (i ^ j.toNat)) := opI fun _ _ _ _ _ _ _ hc q => pow_int_small hc.1 hc.2.1 hc.2.2 q
end
def scal : V → V → Bool
  | .non, .non => true | .non, .int _ => true | .int _, .non => true | .non, .bl _ => true | .bl _, .non => true | .non, .str _ => true | .str _, .non => true
  | .int _, .int _ => true | .bl _, .bl _ => true | .str _, .str _ => true | .byt _, .byt _ => true
  | .int _, .str _ => true | .str _, .int _ => true | .bl _, .str _ => true | .str _, .bl _ => true
  | _, _ => false
def rEq : R2 := fun x y H Q => scal x y = true ∧ Q (.bl (decide (x = y))) H
def rNe : R2 := fun x y H Q => scal x y = true ∧ Q (.bl (!decide (x = y))) H
theorem dec_int {i j : Int} : decide (V.int i = V.int j) = (i == j) := by
  rw [Bool.eq_iff_iff]
  simp
theorem dec_bl {i j : Bool} : decide (V.bl i = V.bl j) = (i == j) := by
  rw [Bool.eq_iff_iff]
  simp
theorem dec_str {i j : Str} : decide (V.str i = V.str j) = (i == j) := by
  rw [Bool.eq_iff_iff]
  simp
theorem dec_byt {i j : Array UInt8} : decide (V.byt i = V.byt j) = (i.toList == j.toList) := by
  rw [Bool.eq_iff_iff]
  cases i
  cases j
  simp
section
variable {X : Cx} {a b c : Expr} {ta tb tc : TE} {pos : Pos}
theorem fin_bl {pins : List (Addr × Obj)} {σ : St} {H : Hp} {s : Shared} {Q : VK} {k k' : Bool} (I : Inv X pins σ H s) (q : Q (.bl k) H) (e : k = k') : EP X pins σ Q (.bool k') s := by
  subst e
  exact ⟨.bl k, H, I, rfl, q⟩
theorem op_eq : OpR X (compareOp .Eq) rEq := by
  intro pins s σ H x y v u Q I rx ry h
  obtain ⟨hs, q⟩ := h
  cases x with
  | non =>
    cases rx
    cases y with
    | non => cases ry; exact PySem.EqNone.eq_none_none (fin_bl I q (by simp))
    | bl j => cases ry; exact PySem.EqNone.eq_none_bool (fin_bl I q (by simp))
    | int j => obtain ⟨t', rfl⟩ := ry; exact PySem.EqNone.eq_none_int (fin_bl I q (by simp))
    | str j => obtain ⟨t', rfl⟩ := ry; exact PySem.EqNone.eq_none_str (fin_bl I q (by simp))
    | _ => exact absurd (show false = true from hs) Bool.false_ne_true
  | bl i =>
    cases rx
    cases y with
    | non => cases ry; exact PySem.EqNone.eq_bool_none (fin_bl I q (by simp))
    | bl j => cases ry; exact eq_bool (fin_bl I q dec_bl)
    | str j => obtain ⟨t', rfl⟩ := ry; exact PySem.EqMixed.eq_bool_str (fin_bl I q (by simp))
    | _ => exact absurd (show false = true from hs) Bool.false_ne_true
  | int i =>
    obtain ⟨t, rfl⟩ := rx
    cases y with
    | non => cases ry; exact PySem.EqNone.eq_int_none (fin_bl I q (by simp))
    | int j => obtain ⟨t', rfl⟩ := ry; exact eq_int (fin_bl I q dec_int)
    | str j => obtain ⟨t', rfl⟩ := ry; exact PySem.EqMixed.eq_int_str (fin_bl I q (by simp))
    | _ => exact absurd (show false = true from hs) Bool.false_ne_true
  | str i =>
    obtain ⟨t, rfl⟩ := rx
    cases y with
    | non => cases ry; exact PySem.EqNone.eq_str_none (fin_bl I q (by simp))
    | bl j => cases ry; exact PySem.EqMixed.eq_str_bool (fin_bl I q (by simp))
    | int j => obtain ⟨t', rfl⟩ := ry; exact PySem.EqMixed.eq_str_int (fin_bl I q (by simp))
    | str j => obtain ⟨t', rfl⟩ := ry; exact eq_str (fin_bl I q dec_str)
    | _ => exact absurd (show false = true from hs) Bool.false_ne_true
  | byt i =>
    obtain ⟨t, rfl⟩ := rx
    cases y with
    | byt j => obtain ⟨t', rfl⟩ := ry; exact PySem.W.eq_bytes (fin_bl I q dec_byt)
    | _ => exact absurd (show false = true from hs) Bool.false_ne_true
  | _ => cases y <;> exact absurd (show false = true from hs) Bool.false_ne_true
theorem op_ne : OpR X (compareOp .NotEq) rNe := by
  intro pins s σ H x y v u Q I rx ry h
  obtain ⟨hs, q⟩ := h
  cases x with
  | non =>
    cases rx
    cases y with
    | non => cases ry; exact PySem.EqNone.ne_none_none (fin_bl I q (by simp))
    | bl j => cases ry; exact PySem.EqNone.ne_none_bool (fin_bl I q (by simp))
    | int j => obtain ⟨t', rfl⟩ := ry; exact PySem.EqNone.ne_none_int (fin_bl I q (by simp))
    | str j => obtain ⟨t', rfl⟩ := ry; exact PySem.EqNone.ne_none_str (fin_bl I q (by simp))
    | _ => exact absurd (show false = true from hs) Bool.false_ne_true
  | bl i =>
    cases rx
    cases y with
    | non => cases ry; exact PySem.EqNone.ne_bool_none (fin_bl I q (by simp))
    | bl j => cases ry; exact ne_bool (fin_bl I q (congrArg not dec_bl))
    | str j => obtain ⟨t', rfl⟩ := ry; exact PySem.EqMixed.ne_bool_str (fin_bl I q (by simp))
    | _ => exact absurd (show false = true from hs) Bool.false_ne_true
  | int i =>
    obtain ⟨t, rfl⟩ := rx
    cases y with
    | non => cases ry; exact PySem.EqNone.ne_int_none (fin_bl I q (by simp))
    | int j => obtain ⟨t', rfl⟩ := ry; exact ne_int (fin_bl I q (congrArg not dec_int))
    | str j => obtain ⟨t', rfl⟩ := ry; exact PySem.EqMixed.ne_int_str (fin_bl I q (by simp))
    | _ => exact absurd (show false = true from hs) Bool.false_ne_true
  | str i =>
    obtain ⟨t, rfl⟩ := rx
    cases y with
    | non => cases ry; exact PySem.EqNone.ne_str_none (fin_bl I q (by simp))
    | bl j => cases ry; exact PySem.EqMixed.ne_str_bool (fin_bl I q (by simp))
    | int j => obtain ⟨t', rfl⟩ := ry; exact PySem.EqMixed.ne_str_int (fin_bl I q (by simp))
    | str j => obtain ⟨t', rfl⟩ := ry; exact ne_str (fin_bl I q (congrArg not dec_str))
    | _ => exact absurd (show false = true from hs) Bool.false_ne_true
  | byt i =>
    obtain ⟨t, rfl⟩ := rx
    cases y with
    | byt j => obtain ⟨t', rfl⟩ := ry; exact PySem.W.ne_bytes (fin_bl I q (congrArg not dec_byt))
    | _ => exact absurd (show false = true from hs) Bool.false_ne_true
  | _ => cases y <;> exact absurd (show false = true from hs) Bool.false_ne_true
theorem op_lt : OpR X (compareOp .Lt) (rI0 fun i j => .bl (decide (i < j))) := opB0 fun _ _ _ _ _ _ _ q => lt_int q
theorem op_le : OpR X (compareOp .LtE) (rI0 fun i j => .bl (decide (i ≤ j))) := opB0 fun _ _ _ _ _ _ _ q => le_int q
theorem op_gt : OpR X (compareOp .Gt) (rI0 fun i j => .bl (decide (j < i))) := opB0 fun _ _ _ _ _ _ _ q => gt_int q
theorem op_ge : OpR X (compareOp .GtE) (rI0 fun i j => .bl (decide (j ≤ i))) := opB0 fun _ _ _ _ _ _ _ q => ge_int q
theorem op_isN : OpR X (compareOp .Is) (fun x y H Q => y = .non ∧ Q (.bl (decide (x = .non))) H) := by
  intro pins s σ H x y v u Q I rx ry h
  obtain ⟨rfl, q⟩ := h
  cases ry
  refine is_none_gen (fin_bl I q ?_)
  cases x <;> first
    | (cases rx; rfl)
    | (obtain ⟨t, rfl⟩ := rx; rfl)
theorem OpR.or {f : Value → Value → Sem Value} {r r' : R2} (h : OpR X f r) (h' : OpR X f r') : OpR X f (fun x y H Q => r x y H Q ∨ r' x y H Q) := by
  intro pins s σ H x y v u Q I rx ry q
  rcases q with q | q
  · exact h pins s σ H x y v u Q I rx ry q
  · exact h' pins s σ H x y v u Q I rx ry q
theorem nomark (b : Expr) {op : CmpOp} (h : op ≠ .In := by decide) (h2 : op ≠ .NotIn := by decide) : behindInMarks op b = false := by
  have e1 : (op == CmpOp.In) = false := by cases op <;> first | rfl | exact absurd rfl h
  have e2 : (op == CmpOp.NotIn) = false := by cases op <;> first | rfl | exact absurd rfl h2
  cases b <;> simp [behindInMarks, e1, e2]
theorem pe_cmpR {op : CmpOp} {r : R2} (ho : OpR X (compareOp op) r) (ha : PE X a ta) (hb : PE X b tb) (hm : behindInMarks op b = false) : PE X (.Compare a [op] [b] pos) (tOp r ta tb) := by
  intro pins s σ H Q I h
  exact wpAny_Compare1 (binT ha hb I h fun v u s2 x y H2 I2 rx ry q => ho pins s2 σ H2 x y v u Q I2 rx ry q) hm
def tTest (t : TE) : TT := fun σ H Q => t σ H fun x H' => ∃ k, x = .bl k ∧ Q k H'
theorem pt_cmpR {op : CmpOp} {r : R2} (ho : OpR X (compareOp op) r) (ha : PE X a ta) (hb : PE X b tb) (hm : behindInMarks op b = false) : PT X (.Compare a [op] [b] pos) (tTest (tOp r ta tb)) := by
  intro pins s σ H Q I h
  refine wpAny_isTrue_Compare1 (thn (ha pins s σ H _ I h) fun v s1 ⟨x, H1, I1, r1, q1⟩ => thn (hb pins s1 σ H1 _ I1 q1) fun u s2 ⟨y, H2, I2, r2, q2⟩ =>
    thn (ho pins s2 σ H2 x y v u _ I2 r1 r2 q2) fun c s3 ⟨z, H3, I3, r3, k, e, q3⟩ => ?_) hm
  subst e
  cases r3
  exact wpAny_truthy_bool ⟨H3, I3, q3⟩
def tChain (r r' : R2) (ta tb tc : TE) : TE := fun σ H Q => ta σ H fun x H1 => tb σ H1 fun y H2 => r x y H2 fun z H3 => ∃ k, z = .bl k ∧
  (if k = true then tc σ H3 fun w' H4 => r' y w' H4 Q else Q (.bl false) H3)
theorem pe_chain {op op' : CmpOp} {r r' : R2} (ho : OpR X (compareOp op) r) (ho' : OpR X (compareOp op') r') (ha : PE X a ta) (hb : PE X b tb) (hc : PE X c tc)
    (hm : lastMarks [op, op'] [b, c] = false := by with_unfolding_all rfl) : PE X (.Compare a [op, op'] [b, c] pos) (tChain r r' ta tb tc) := by
  intro pins s σ H Q I h
  refine Compare_chain (thn (ha pins s σ H _ I h) fun v s1 ⟨x, H1, I1, r1, q1⟩ => chain_link (thn (hb pins s1 σ H1 _ I1 q1) fun u s2 ⟨y, H2, I2, r2, q2⟩ =>
    thn (ho pins s2 σ H2 x y v u _ I2 r1 r2 q2) fun d s3 ⟨z, H3, I3, r3, k, e, q3⟩ => ?_)) hm
  subst e
  cases r3
  refine wpAny_truthy_bool ?_
  cases k with
  | false => exact ite_ff ⟨.bl false, H3, I3, rfl, q3⟩
  | true => exact ite_tt (chain_last (thn (hc pins s3 σ H3 _ I3 q3) fun w' s4 ⟨z', H4, I4, r4, q4⟩ => ho' pins s4 σ H4 y z' u w' Q I4 r2 r4 q4))
def TruV (K : PySem.W.Frag) (x : V) (H : Hp) (k : Bool) : Prop :=
  match x with
  | .non => k = false
  | .bl b => k = b
  | .int i => k = (i != 0)
  | .str y => y.length ≤ sizeLine ∧ k = ((y.length : Int) != 0)
  | .byt y => y.size ≤ sizeLine ∧ k = ((y.size : Int) != 0)
  | .ref p => (∃ xs, SqL K H p xs ∧ k = !xs.isEmpty) ∨ (∃ xs, SqT K H p xs ∧ k = !xs.isEmpty) ∨ ∃ kvs, H p = some (.dK kvs) ∧ k = !kvs.isEmpty
  | _ => False
theorem isEmpty_kv {κ : Type} {kvs : List (κ × V)} {vs : List (κ × Value)} (r : KV kvs vs) : (!vs.isEmpty) = !kvs.isEmpty := by
  cases r <;> rfl
theorem isEmpty_of {xs : List V} {its : List Value} (r : Vals xs its) : (!its.toArray.isEmpty) = !xs.isEmpty := by
  cases r <;> simp
theorem line63 : (sizeLine : Nat) < 2 ^ 63 := by rw [sizeLine_eq]; decide
theorem tru_ok : TruR X (fun x H Q => ∃ k, TruV X.K x H k ∧ Q k H) := by
  intro pins s σ H x v Q I rx h
  obtain ⟨k, e, q⟩ := h
  have hl := line63
  have hs : sizeLine = 16777216 := sizeLine_eq
  cases x with
  | non =>
    cases rx
    have e' : k = false := e
    subst e'
    exact truthy_none ⟨H, I, q⟩
  | bl b =>
    cases rx
    have e' : k = b := e
    subst e'
    exact wpAny_truthy_bool ⟨H, I, q⟩
  | int i =>
    obtain ⟨t, rfl⟩ := rx
    have e' : k = (i != 0) := e
    subst e'
    exact PySem.P.truthy_int ⟨H, I, q⟩
  | str y =>
    obtain ⟨t, rfl⟩ := rx
    obtain ⟨hy, e'⟩ : y.length ≤ sizeLine ∧ k = ((y.length : Int) != 0) := e
    subst e'
    exact PySem.P.truthy_str (by omega) ⟨H, I.tok _, q⟩
  | byt y =>
    obtain ⟨t, rfl⟩ := rx
    obtain ⟨hy, e'⟩ : y.size ≤ sizeLine ∧ k = ((y.size : Int) != 0) := e
    subst e'
    exact PySem.W.truthy_bytes (by omega) ⟨H, I.tok _, q⟩
  | ref p =>
    cases rx
    have e' : (∃ xs, SqL X.K H p xs ∧ k = !xs.isEmpty) ∨ (∃ xs, SqT X.K H p xs ∧ k = !xs.isEmpty) ∨ ∃ kvs, H p = some (.dK kvs) ∧ k = !kvs.isEmpty := e
    rcases e' with ⟨xs, hx, e'⟩ | ⟨xs, hx, e'⟩ | ⟨kvs, hx, e'⟩
    · subst e'
      obtain ⟨its, r, pl, hz⟩ := I.list hx
      have hlen := r.length
      exact wpAny_truthy_list pl.isList (by simp only [List.size_toArray]; omega) ⟨H, I.tok _, by rw [isEmpty_of r]; exact q⟩
    · subst e'
      obtain ⟨its, r, pl, hz⟩ := I.tuple hx
      have hlen := r.length
      exact truthy_tuple pl (by simp only [List.size_toArray]; omega) ⟨H, I.tok _, by rw [isEmpty_of r]; exact q⟩
    · subst e'
      obtain ⟨hz, hS, vs, r, m⟩ : kvs.length ≤ sizeLine ∧ (p == sysModules) = false ∧ ∃ vs, KV kvs vs ∧ s.heap.DictOf (mixKind X.prog X.w) p vs := I.hok p _ hx
      have hlen : kvs.length = vs.length := Paired.length r
      exact wpAny_truthy_dict hS m (by omega) ⟨H, I.tok _, by rw [isEmpty_kv r]; exact q⟩
  | _ => exact (show False from e).elim
theorem pt_truth (ha : PE X a ta) (he : ∀ whole, isTrue a X.env whole = (do let v ← whole; standAt a.pos; holding [v] (truthy v))) :
    PT X a (fun σ H Q => ta σ H fun x H' => ∃ k, TruV X.K x H' k ∧ Q k H') := by
  intro pins s σ H Q I h
  exact isTrue_plain (thn (ha pins s σ H _ I h) fun v s1 ⟨x, H1, I1, r1, q1⟩ => tru_ok pins s1 σ H1 x v Q I1 r1 q1) (he _)
theorem op_add_str : OpR X (binaryOp .Add) (fun x y H Q => ∃ i j, x = .str i ∧ y = .str j ∧ i.length + j.length ≤ sizeLine ∧ Q (.str (i ++ j)) H) := by
  intro pins s σ H x y v u Q I rx ry h
  obtain ⟨i, j, rfl, rfl, hz, q⟩ := h
  obtain ⟨t, rfl⟩ := rx
  obtain ⟨t', rfl⟩ := ry
  exact add_str (fun t' tk => ⟨.str (i ++ j), H, I.tok _, ⟨_, rfl⟩, q⟩) hz
theorem vals1 {x : V} {us : List Value} (r : Vals [x] us) : ∃ u, us = [u] ∧ RelV x u := by
  cases r with
  | cons r1 r2 => cases r2; exact ⟨_, rfl, r1⟩
theorem vals2 {x y : V} {us : List Value} (r : Vals [x, y] us) : ∃ u w', us = [u, w'] ∧ RelV x u ∧ RelV y w' := by
  cases r with
  | cons r1 r2 =>
    cases r2 with
    | cons r3 r4 => cases r4; exact ⟨_, _, rfl, r1, r3⟩
theorem call_max2 (hc : X.calm = true) : CallR X (.builtin "max") (fun xs H Q => ∃ i j, xs = [.int i, .int j] ∧ Q (.int (if j > i then j else i)) H) := by
  intro pins s σ H xs us Q I r h
  obtain ⟨i, j, rfl, q⟩ := h
  obtain ⟨u, w', rfl, ⟨t, rfl⟩, ⟨t', rfl⟩⟩ := vals2 r
  refine max_two_ints (I.ok.hd hc) fun h' tk k => ⟨_, H, I.kept k, ?_, q⟩
  by_cases hj : j > i
  · rw [if_pos hj, if_pos hj]; exact ⟨_, rfl⟩
  · rw [if_neg hj, if_neg hj]; exact ⟨_, rfl⟩
theorem call_min2 (hc : X.calm = true) : CallR X (.builtin "min") (fun xs H Q => ∃ i j, xs = [.int i, .int j] ∧ Q (.int (if j < i then j else i)) H) := by
  intro pins s σ H xs us Q I r h
  obtain ⟨i, j, rfl, q⟩ := h
  obtain ⟨u, w', rfl, ⟨t, rfl⟩, ⟨t', rfl⟩⟩ := vals2 r
  refine min_two_ints (I.ok.hd hc) fun h' tk k => ⟨_, H, I.kept k, ?_, q⟩
  by_cases hj : j < i
  · rw [if_pos hj, if_pos hj]; exact ⟨_, rfl⟩
  · rw [if_neg hj, if_neg hj]; exact ⟨_, rfl⟩
theorem call_int1 : CallR X (.type "int") (fun xs H Q => (∃ i, xs = [.int i] ∧ Q (.int i) H) ∨ ∃ k, xs = [.bl k] ∧ Q (.int (if k then 1 else 0)) H) := by
  intro pins s σ H xs us Q I r h
  rcases h with ⟨i, rfl, q⟩ | ⟨k, rfl, q⟩
  · obtain ⟨u, rfl, t, rfl⟩ := vals1 r
    exact call_int_int ⟨.int i, H, I, ⟨_, rfl⟩, q⟩
  · obtain ⟨u, rfl, r1⟩ := vals1 r
    cases r1
    exact call_int_bool ⟨.int (if k then 1 else 0), H, I.tok _, ⟨_, rfl⟩, q⟩
theorem call_str_int : CallR X (.type "str") (fun xs H Q => ∃ i, xs = [.int i] ∧ i.natAbs.log2 < 1920 ∧ Q (.str (toString i)) H) := by
  intro pins s σ H xs us Q I r h
  obtain ⟨i, rfl, hz, q⟩ := h
  obtain ⟨u, rfl, t, rfl⟩ := vals1 r
  exact PySem.P.str_of_int hz ⟨.str _, H, I.tok _, ⟨_, rfl⟩, q⟩
end
end L2
namespace L2
open PySem PySem.Spec PyProof.Rows
structure ObjM (h : Heap) (x dx C : Addr) (mA : Str → Option Value) : Prop where
  obj : h.get? x = some (PySem.W.instObj C dx)
  ns : h.Ns1 dx mA
  ne : dx ≠ x
theorem lookIn_ns {h : Heap} {dx : Addr} {mA : Str → Option Value} (n : h.Ns1 dx mA) : ∃ od, h.get? dx = some od ∧ ∀ name, PySem.W.lookIn name od = some (mA name) := by
  obtain ⟨o, es, ep, ho, hd, hk, _, hm⟩ := n
  refine ⟨o, ho, fun name => ?_⟩
  have e := hm name
  unfold nsFind findBy at e
  rw [← Array.find?_toList] at e
  unfold PySem.W.lookIn
  rw [hd]
  dsimp only
  split
  · rename_i y q
    rw [q] at e
    exact congrArg some e
  · rename_i q
    rw [q] at e
    have a : es.toList.any (·.refKey) = false := by
      rw [List.any_eq_false]
      intro y hy
      obtain ⟨z, t, hkey⟩ := hk y (Array.mem_toList_iff.mp hy)
      simp [DictEntry.refKey, hkey]
    have a' : ¬ es.toList.any (·.refKey) = true := by rw [a]; exact Bool.false_ne_true
    rw [if_neg a']
    exact congrArg some e
theorem ObjM.look {h : Heap} {x dx C : Addr} {mA : Str → Option Value} (I : ObjM h x dx C mA) : ∃ od, PySem.W.InstAt h x (PySem.W.instObj C dx) C (some od) ∧ ∀ name, PySem.W.lookIn name od = some (mA name) :=
  let ⟨od, ho, hl⟩ := lookIn_ns I.ns
  ⟨od, ⟨I.obj, rfl, rfl, ho⟩, hl⟩
section
variable {prog : Program} {w : World} {A : Around} {E : Value → Shared → Prop} {s : Shared} {K : PySem.W.Frag} {x dx C f : Addr} {mA : Str → Option Value} {name : Str} {v : Value}
end
theorem RelO.some_of {v : V} {o : Option Value} (r : RelO (some v) o) : ∃ u, o = some u ∧ RelV v u := by
  cases o with
  | none => exact (show False from r).elim
  | some u => exact ⟨u, rfl, r⟩
theorem RelO.none_of {o : Option Value} (r : RelO none o) : o = none := by
  cases o with
  | none => rfl
  | some u => exact (show False from r).elim
section
variable {P : Program} {w : World} {H H' : Hp} {h h' : Heap} {a C dx : Addr} {fs fs' : List (Str × V)}
theorem ins_get (hok : HOk P w H h) (e : H a = some (.ins C dx fs)) : ∃ mA, ObjM h a dx C mA ∧ (∀ f, RelO (fs.lookup f) (mA f)) ∧ PySem.Within mA (fs.map (·.1)) ∧ fs.length ≤ 1000 ∧ H dx = some (.own a) := by
  obtain ⟨d, z, ne, ob, mA, n, r, q⟩ := (show ObjOk P w H h a (.ins C dx fs) from hok a _ e)
  exact ⟨mA, ⟨ob, n, ne⟩, r, q, z, d⟩
end
structure Cls (K : PySem.W.Frag) (C : Addr) : Prop where
  pg : PySem.W.plainGet K C Str.empty = true
  hd : PySem.W.hasDictIn K C = true
  po : PySem.W.plainOver K C = true
  sa : PySem.W.findIn K (.ref C) "__setattr__" = some (some (.builtin "object.__setattr__"))
theorem Cls.get {K : PySem.W.Frag} {C : Addr} (c : Cls K C) (f : Str) : PySem.W.plainGet K C f = true := c.pg
structure Con (K : PySem.W.Frag) (C : Addr) (f : Str) (v : V) (u : Value) : Prop where
  at_ : PySem.W.findIn K (.ref C) f = some (some u)
  rel : RelV v u
  get : PySem.W.specialIn K u "__get__" = some none
  cp : PySem.W.copiedNames.contains f = false
structure Meth (K : PySem.W.Frag) (C : Addr) (m : Str) (f : Addr) : Prop where
  at_ : PySem.W.findIn K (.ref C) m = some (some (.ref f))
  fn : PySem.W.isFn K (.ref f) = true
  kp : PySem.W.keepIn K (.ref f) = true
section
variable {X : Cx} {pins : List (Addr × Obj)} {σ : St} {H : Hp} {s : Shared} {a C dx : Addr} {fs : List (Str × V)} {f : Str} {v : V} {A : Around} {E : Value → Shared → Prop}
theorem Inv.made (I : Inv X pins σ H s) : Inv X pins σ (upd (upd H s.heap.objs.size (.own (s.heap.objs.size + 1))) (s.heap.objs.size + 1) (.ins C s.heap.objs.size []))
    { s with heap := (s.heap.push PySem.W.emptyDict).push (PySem.W.instObj C s.heap.objs.size) } := by
  have e1 : (s.heap.push PySem.W.emptyDict).get? s.heap.objs.size = some PySem.W.emptyDict := Heap.get?_push_size s.heap rfl
  have e2 : ((s.heap.push PySem.W.emptyDict).push (PySem.W.instObj C s.heap.objs.size)).get? (s.heap.objs.size + 1) = some (PySem.W.instObj C s.heap.objs.size) := by
    have := Heap.get?_push_size (s.heap.push PySem.W.emptyDict) (o := PySem.W.instObj C s.heap.objs.size) rfl
    rwa [Heap.size_push] at this
  have e3 : (s.heap.push PySem.W.emptyDict).Ns s.heap.objs.size (fun _ => none) := ⟨PySem.W.emptyDict, #[], _, e1, rfl, (fun e he => absurd he (by simp)), fun _ => rfl⟩
  have I1 := I.laid (a := s.heap.objs.size) (o := .own (s.heap.objs.size + 1)) (h' := s.heap.push PySem.W.emptyDict) (t' := s.toks) (fun b u q => Heap.get?_push_of_some _ q) (Nat.le_refl _) ⟨_, e1⟩
  refine I1.laid (a := s.heap.objs.size + 1) (o := .ins C s.heap.objs.size []) (t' := s.toks) (fun b u q => Heap.get?_push_of_some _ q) (Nat.le_of_eq (Heap.size_push _ _)) ?_
  have ne : s.heap.objs.size ≠ s.heap.objs.size + 1 := Nat.ne_of_lt (Nat.lt_succ_self _)
  refine ⟨by rw [upd_ne ne, upd_same], Nat.zero_le _, ne, e2, fun _ => none, (Heap.Ns1.of_empty e3).at fun o q => Heap.get?_push_of_some _ q, fun _ => True.intro, fun y hy => absurd rfl hy⟩
end
section
variable {X : Cx} {o e value : Expr} {f : Str} {pos pos' tpos : Pos} {ta tv : TE}
end
section
variable {X : Cx} {pins : List (Addr × Obj)} {σ : St} {H : Hp} {s : Shared} {A : Around} {E : Value → Shared → Prop} {Q : Value → Shared → Prop} {c : Value} {b : Bool}
inductive TyOf (K : PySem.W.Frag) (H : Hp) : V → Value → Prop where
  | non : TyOf K H .non (.type "NoneType")
  | bl (x : Bool) : TyOf K H (.bl x) (.type "bool")
  | int (i : Int) : TyOf K H (.int i) (.type "int")
  | str (x : Str) : TyOf K H (.str x) (.type "str")
  | flt (x : UInt64) : TyOf K H (.flt x) (.type "float")
  | lst {a : Addr} {xs : List V} (e : H a = some (.lst xs)) : TyOf K H (.ref a) (.type "list")
  | frz {a : Addr} {o : Obj} {xs : List V} (e : H a = some (.frz o (.lst xs))) : TyOf K H (.ref a) (.type "list")
  | tup {a : Addr} {xs : List V} (e : H a = some (.tup xs)) : TyOf K H (.ref a) (.type "tuple")
  | dK {a : Addr} {kvs : List (Key × V)} (e : H a = some (.dK kvs)) : TyOf K H (.ref a) (.type "dict")
  | dT {a : Addr} {kvs : List (List Key × V)} (e : H a = some (.dT kvs)) : TyOf K H (.ref a) (.type "dict")
  | ins {a C dx : Addr} {fs : List (Str × V)} (e : H a = some (.ins C dx fs)) (cl : Cls K C) (ha : PySem.W.findIn K (.ref C) "__class__" = some (some (.builtin "object.__class__")))
      (hn : PySem.W.specialIn K (.builtin "object.__class__") "__get__" = some (some (.builtin "getset_descriptor.__get__"))) (htk : PySem.W.takesIn K (.builtin "object.__class__") = some true)
      (hm : PySem.W.mroIn K C (.type "object") = some true) : TyOf K H (.ref a) (.ref C)
theorem isinst_ok {x : V} {u t : Value} (I : Inv X pins σ H s) (rx : RelV x u) (ty : TyOf X.K H x t) (e : PySem.W.kitOne X.K t c = some b) (h : ∀ tk, Q (.bool b) { s with toks := tk }) :
    wpAny (model X.prog X.w) A (call (.builtin "isinstance") [u, c]) Q E s := by
  cases ty with
  | non => cases (show u = Value.none from rx); exact PySem.W.kia_one PySem.W.kitx_none I.kIn True.intro e (fun z => nomatch z) h
  | bl y => cases (show u = Value.bool y from rx); exact PySem.W.kia_one PySem.W.kitx_bool I.kIn True.intro e (fun z => nomatch z) h
  | int i => obtain ⟨t, q⟩ := (show ∃ t, u = Value.int i t from rx); cases q; exact PySem.W.kia_one PySem.W.kitx_int I.kIn True.intro e (fun z => nomatch z) h
  | str y => obtain ⟨t, q⟩ := (show ∃ t, u = Value.str y t from rx); cases q; exact PySem.W.kia_one PySem.W.kitx_str I.kIn True.intro e (fun z => nomatch z) h
  | flt y => obtain ⟨t, q⟩ := (show ∃ t, u = Value.float y t from rx); cases q; exact PySem.W.kia_one PySem.W.kitx_float I.kIn True.intro e (fun z => nomatch z) h
  | @lst a xs ea =>
    cases (show u = Value.ref a from rx)
    obtain ⟨_, _, n, _, h1⟩ := (show ObjOk X.prog X.w H s.heap a (.lst xs) from I.hok a _ ea)
    exact PySem.W.kia_one PySem.W.kitx_list I.kIn ⟨_, h1, rfl⟩ e (fun z => nomatch z) h
  | @frz a ob xs ea =>
    cases (show u = Value.ref a from rx)
    obtain ⟨_, _, _, n, _, h1⟩ := (show ObjOk X.prog X.w H s.heap a (.frz ob (.lst xs)) from I.hok a _ ea)
    exact PySem.W.kia_one PySem.W.kitx_list I.kIn ⟨_, h1, rfl⟩ e (fun z => nomatch z) h
  | @tup a xs ea =>
    cases (show u = Value.ref a from rx)
    obtain ⟨_, _, _, p⟩ := (show ObjOk X.prog X.w H s.heap a (.tup xs) from I.hok a _ ea)
    obtain ⟨o, h1, h2, _⟩ := p
    exact PySem.W.kia_one PySem.W.kitx_tuple I.kIn ⟨o, h1, h2⟩ e (fun z => nomatch z) h
  | @dK a kvs ea =>
    cases (show u = Value.ref a from rx)
    obtain ⟨_, _, vs, _, p⟩ := (show ObjOk X.prog X.w H s.heap a (.dK kvs) from I.hok a _ ea)
    obtain ⟨o, es, ep, h1, h2, _⟩ := p
    exact PySem.W.kia_one PySem.W.kitx_dict I.kIn ⟨o, h1, h2.1⟩ e (fun z => nomatch z) h
  | @dT a kvs ea =>
    cases (show u = Value.ref a from rx)
    obtain ⟨_, _, xs, _, o, es, ep, h1, h2, _⟩ := (show ObjOk X.prog X.w H s.heap a (.dT kvs) from I.hok a _ ea)
    exact PySem.W.kia_one PySem.W.kitx_dict I.kIn ⟨o, h1, h2.1⟩ e (fun z => nomatch z) h
  | @ins a C dx fs ea cl ha hn htk hm =>
    cases (show u = Value.ref a from rx)
    obtain ⟨mA, O, _⟩ := ins_get I.hok ea
    obtain ⟨od, J, _⟩ := O.look
    exact PySem.W.kia_one (PySem.W.kitx_own (cl.get _) cl.hd ha hn htk hm) I.kIn J e (fun z => nomatch z) h
end
end L2
namespace L2
open PySem PySem.Spec PyProof.Rows
structure Room (k : Nat) (A : Around) : Prop where
  hd : A.handled = none
  dp : A.depth + 3 * k + 5 < recursionLimit
  un : A.units + 16 * k + 200 < cLine
  gd : A.guards = some []
theorem Room.mono {j k : Nat} {A : Around} (r : Room k A) (h : j ≤ k) : Room j A := ⟨r.hd, by have := r.dp; omega, by have := r.un; omega, r.gd⟩
theorem Room.deeper {k : Nat} {A : Around} (r : Room (k + 1) A) (env : Env) : Room k (A.deeper env) :=
  ⟨r.hd, by have := r.dp; show A.depth + 1 + 3 * k + 5 < _; omega, by have := r.un; show A.units + 3 + 16 * k + 200 < _; omega, r.gd⟩
theorem Room.in1 {k : Nat} {A : Around} (r : Room (k + 1) A) : Room k A.in1 :=
  ⟨r.hd, by have := r.dp; show A.depth + 3 * k + 5 < _; omega, by have := r.un; show A.units + 1 + 16 * k + 200 < _; omega, r.gd⟩
theorem make_depth {A : Around} {C : Addr} {us : List Value} {kw : List (Str × Value)} : (A.under (.builtin "type.__call__" ⟨.ref C :: us, kw⟩)).depth = A.depth + 1 := by
  first | rfl | simp [Around.under, Code.weight, Code.isCreation, Code.isGuard, Code.isCaller, Code.frames, Code.isFrame, guardIds]
theorem make_units {A : Around} {C : Addr} {us : List Value} {kw : List (Str × Value)} : (A.under (.builtin "type.__call__" ⟨.ref C :: us, kw⟩)).units = A.units + 1 := by
  first | rfl | simp [Around.under, Code.cUnits, Code.frames, Code.isFrame]
theorem Room.make {k : Nat} {A : Around} (r : Room (k + 1) A) (C : Addr) (us : List Value) (kw : List (Str × Value)) : Room k (A.under (.builtin "type.__call__" ⟨.ref C :: us, kw⟩)) :=
  ⟨r.hd, by have := r.dp; rw [make_depth]; omega, by have := r.un; rw [make_units]; omega, by have := r.gd; first | exact this | simpa [Around.under, Code.guards, Code.isGuard, pushGuards, guardIds] using this⟩
theorem Room.depth {k : Nat} {A : Around} (r : Room k A) : A.depth < recursionLimit := by have := r.dp; omega
theorem Room.units {k : Nat} {A : Around} (r : Room k A) : A.units + 64 < cLine := by have := r.un; omega
def tNil : TA := fun _ H Q => Q [] H
def tCons (ta : TE) (tr : TA) : TA := fun σ H Q => ta σ H fun x H1 => tr σ H1 fun xs H2 => Q (x :: xs) H2
section
variable {X : Cx} {e : Expr} {es : List Expr} {te : TE} {t : TA} {pos : Pos}
theorem pa_nil : PA X [] tNil := fun _ _ _ _ H Q I h => Calls.spliced_nil ⟨[], H, I, .nil, h⟩
theorem pa_cons (ha : PE X e te) (hr : PA X es t) (hs : starEach (e :: es) X.env = (false, eval e X.env) :: starEach es X.env := by rfl) : PA X (e :: es) (tCons te t) := by
  intro pos pins s σ H Q I h
  rw [hs]
  show wpAny _ _ (spliced ((false, eval e X.env) :: backTo pos (starEach es X.env))) _ _ s
  refine Calls.spliced_cons (thn (ha pins s σ H _ I h) fun u s1 ⟨x, H1, I1, r1, q1⟩ => ?_)
  exact thn (hr pos pins s1 σ H1 _ I1 q1) fun us s2 ⟨xs, H2, I2, r2, q2⟩ => ⟨x :: xs, H2, I2, .cons r1 r2, q2⟩
def tTup (t : TA) : TE := fun σ H Q => t σ H fun xs H1 => xs.length ≤ sizeLine ∧ ∀ p, H1 p = none → Q (.ref p) (upd H1 p (.tup xs))
def tLst (t : TA) : TE := fun σ H Q => t σ H fun xs H1 => xs.length ≤ sizeLine ∧ ∀ p, H1 p = none → Q (.ref p) (upd H1 p (.lst xs))
end
abbrev Sp := List V → Hp → VK → XK → Prop
abbrev CXT := List Env → Hp → Shared → XK → Value → Shared → Prop
structure Env0 (P : Program) (w : World) (K : PySem.W.Frag) (mg : Str → Option Value) (base : Heap) (A : Around) (outer : List Env) (s : Shared) (H : Hp) : Prop where
  frames : A.frames = some outer
  mod : Mod K mg base
  bs : ∀ b o, base.get? b = some o → s.heap.get? b = some o ∧ H b = none
  bsz : base.objs.size ≤ s.heap.objs.size
  funs : s.heap.FunFrames base outer
  frf : ∀ b ∈ frs outer, H b = none
  hok : HOk P w H s.heap
  bare : AllBare s.gens
def CE (outer : List Env) (P : Program) (w : World) (H : Hp) (s : Shared) (Q : VK) (u : Value) (s' : Shared) : Prop :=
  ∃ v H', s'.os = s.os ∧ AllBare s'.gens ∧ Un (frs outer) [] H H' s.heap s'.heap ∧ HOk P w H' s'.heap ∧ RelV v u ∧ Q v H'
def CR (CX : CXT) (outer : List Env) (P : Program) (w : World) (H : Hp) (s : Shared) (Q : VK) (E : XK) (r : Result) (s' : Shared) : Prop :=
  match r with
  | .ok (.ret u) => CE outer P w H s Q u s'
  | .ok _ => False
  | .error e => CX outer H s E e s'
structure FnOk (P : Program) (w : World) (K : PySem.W.Frag) (mg : Str → Option Value) (base : Heap) (CX : CXT) (k : Nat) (f : Addr) (fd : FuncData) (ps : List Str) (sp : Sp) : Prop where
  len : ∀ vs H Q E, sp vs H Q E → vs.length = ps.length
  run : ∀ (A : Around) (outer : List Env) (s : Shared) (H : Hp) (args : Args) (us : List Value) (vs : List V) (Q : VK) (E : XK), Room k A → Env0 P w K mg base A outer s H → BindsTo s fd args (ps.zip us) → Vals vs us → sp vs H Q E →
    codeAny (model P w) A (.call (.ref f) args) (CR CX outer P w H s Q E) s
theorem FnOk.mono {P : Program} {w : World} {K : PySem.W.Frag} {mg : Str → Option Value} {base : Heap} {CX : CXT} {j k : Nat} {f : Addr} {fd : FuncData} {ps : List Str} {sp : Sp} (F : FnOk P w K mg base CX j f fd ps sp) (h : j ≤ k) :
    FnOk P w K mg base CX k f fd ps sp := ⟨F.len, fun A outer s H args us vs Q E hr => F.run A outer s H args us vs Q E (hr.mono h)⟩
theorem Env0.make {P : Program} {w : World} {K : PySem.W.Frag} {mg : Str → Option Value} {base : Heap} {A : Around} {outer : List Env} {s : Shared} {H : Hp} (e : Env0 P w K mg base A outer s H) (C : Addr) (us : List Value) (kw : List (Str × Value)) :
    Env0 P w K mg base (A.under (.builtin "type.__call__" ⟨.ref C :: us, kw⟩)) outer s H := ⟨by first | exact e.frames | (simpa [Around.under, Code.envs, Code.isFrame, pushEnvs] using e.frames), e.mod, e.bs, e.bsz, e.funs, e.frf, e.hok, e.bare⟩
theorem Env0.in1 {P : Program} {w : World} {K : PySem.W.Frag} {mg : Str → Option Value} {base : Heap} {A : Around} {outer : List Env} {s : Shared} {H : Hp} (e : Env0 P w K mg base A outer s H) :
    Env0 P w K mg base A.in1 outer s H := ⟨e.frames, e.mod, e.bs, e.bsz, e.funs, e.frf, e.hok, e.bare⟩
section
variable {X : Cx} {pins : List (Addr × Obj)} {σ : St} {H : Hp} {s s' : Shared}
theorem Inv.env0 (I : Inv X pins σ H s) : Env0 X.prog X.w X.K X.mg X.base X.A X.stack s H :=
  ⟨I.ok.frames, I.ok.mod, I.bs, Nat.le_trans I.ok.bsz I.sz, I.stack, I.stkFree, I.hok, I.bare⟩
theorem Inv.after {Q : VK} {u : Value} (I : Inv X pins σ H s) (h : CE X.stack X.prog X.w H s Q u s') : EP X pins σ Q u s' := by
  obtain ⟨v, H', os, bare, un, hok, r, q⟩ := h
  obtain ⟨hh, g, d, t, os'⟩ := s'
  obtain rfl : os' = s.os := os
  exact ⟨v, H', I.call (h' := hh) (g' := g) (d' := d) (t' := t) (ch := []) un hok bare (fun b z => absurd z (by simp)), r, q⟩
end
def tCall (sp : Sp) (dvs : List V) (E : XK) (t : TA) : TE := fun σ H Q => t σ H fun vs H1 => sp (vs ++ dvs) H1 Q E
def Binds (K : PySem.W.Frag) (fd : FuncData) (ps : List Str) (ds : List Value) : Prop :=
  ∀ (s : Shared) (us : List Value), K.In s.heap → (us ++ ds).length = ps.length → BindsTo s fd ⟨us, []⟩ (ps.zip (us ++ ds))
theorem Binds.all {K : PySem.W.Frag} {fd : FuncData} {ps : List Str} (h : ∀ us : List Value, us.length = ps.length → bindArgs fd ⟨us, []⟩ = pure (ps.zip us)) : Binds K fd ps [] := fun s us _ hl => by
  rw [List.append_nil] at hl ⊢
  exact .of_eq (h us hl)
def Passes (CX : CXT) (X : Cx) (E : XK) : Prop := ∀ (pins : List (Addr × Obj)) (σ : St) (H : Hp) (s : Shared) (e : Value) (s' : Shared), Inv X pins σ H s → CX X.stack H s E e s' → X.xe e s'
section
variable {X : Cx} {CX : CXT} {k : Nat} {f C : Addr} {fd : FuncData} {ps : List Str} {sp : Sp} {dvs : List V} {ds : List Value} {E : XK} {x m : Str} {p pos apos : Pos} {e o : Expr} {es : List Expr} {ta : TE} {t : TA}
theorem run_fn {pins : List (Addr × Obj)} {σ : St} {H : Hp} {s : Shared} {Q : VK} {us : List Value} {vs : List V} (F : FnOk X.prog X.w X.K X.mg X.base CX k f fd ps sp) (hr : Room k X.A) (hb : Binds X.K fd ps ds) (hd : Vals dvs ds) (hx : Passes CX X E)
    (I : Inv X pins σ H s) (r : Vals vs us) (h : sp (vs ++ dvs) H Q E) : wpAny (model X.prog X.w) X.A (call (.ref f) us) (EP X pins σ Q) X.xe s := by
  have r2 : Vals (vs ++ dvs) (us ++ ds) := r.append hd
  have hl : (us ++ ds).length = ps.length := by rw [← r2.length]; exact F.len _ _ _ _ h
  refine wpAny_call (codeAny_mono (F.run X.A X.stack s H ⟨us, []⟩ (us ++ ds) (vs ++ dvs) Q E hr I.env0 (hb s us I.kIn hl) r2 h) fun r s' hq => ?_)
  cases r with
  | error e => exact hx pins σ H s e s' I hq
  | ok fl =>
    cases fl with
    | ret u => exact I.after hq
    | next => exact False.elim hq
    | brk => exact False.elim hq
    | cont => exact False.elim hq
theorem pe_call (F : FnOk X.prog X.w X.K X.mg X.base CX k f fd ps sp) (hr : Room k X.A) (hg : Gl X x) (hm : X.mg x = some (.ref f)) (hk : PySem.W.keepIn X.K (.ref f) = true) (hb : Binds X.K fd ps ds) (hd : Vals dvs ds) (hx : Passes CX X E)
    (ha : PA X (e :: es) t) (hdb : (x == ("__debug__" : Str)) = false := by decide) (he : starEach (e :: es) X.env = (false, eval e X.env) :: starEach es X.env := by rfl) (hpl : (backTo pos (starEach es X.env)).any (·.1) = false := by rfl) :
    PE X (.Call (.Name x p) (e :: es) [] pos) (tCall sp dvs E t) := by
  intro pins s σ H Q I h
  refine wpAny_Call_Name_kw (ld_glob I hg hm ?_ hdb)
  refine PySem.W.callWith_K (h₀ := X.base) I.ok.mod.kin hk (thn (ha pos pins s σ H _ I h) fun us s1 ⟨vs, H1, I1, r, q⟩ => ⟨I1.kIn, ?_⟩) he hpl
  exact run_fn F hr hb hd hx I1 r q
structure Mk (K : PySem.W.Frag) (C f : Addr) : Prop where
  makes : PySem.W.makesIn K C = true
  init : PySem.W.findIn K (.ref C) "__init__" = some (some (.ref f))
  fn : PySem.W.isFn K (.ref f) = true
  kp : PySem.W.keepIn K (.ref C) = true
end
def PK (X : Cx) (kws : List Keyword) (t : TA) : Prop :=
  ∀ (pos : Pos) (pins : List (Addr × Obj)) (s : Shared) (σ : St) (H : Hp) (Q : List V → Hp → Prop), Inv X pins σ H s → t σ H Q → wpAny (model X.prog X.w) X.A (evalAll ((backToKw pos (keywordEach kws X.env)).map (·.2))) (AP X pins σ Q) X.xe s
section
variable {X : Cx} {CX : CXT} {k : Nat} {f C : Addr} {fd : FuncData} {ps ks : List Str} {sp : Sp} {E : XK} {x m : Str} {p pos apos kpos : Pos} {e o : Expr} {es : List Expr} {kws : List Keyword} {te ta : TE} {t tk : TA} {nm : Option Str}
structure KBinds (K : PySem.W.Frag) (fd : FuncData) (ps ks : List Str) (g : List Value → List Value → List Value) (gV : List V → List V → List V) : Prop where
  to : ∀ (s : Shared) (us ws : List Value), K.In s.heap → (g us ws).length = ps.length → BindsTo s fd ⟨us, ks.zip ws⟩ (ps.zip (g us ws))
  rel : ∀ {vs : List V} {us : List Value} {zs : List V} {ws : List Value}, Vals vs us → Vals zs ws → Vals (gV vs zs) (g us ws)
variable {g : List Value → List Value → List Value} {gV : List V → List V → List V}
end
structure FnScope (N P : List Str) (sc : Scope) : Prop where
  kind : sc.kind = .function
  co : sc.isCoroutine = false
  gen : sc.isGenerator = false
  nd : N.Nodup
  pre : N.take P.length = P
  par : ∀ x ∈ P, sc.names.lookup x = some .local ∨ sc.names.lookup x = some .cell
  nofree : ∀ y ∈ sc.names, y.2 ≠ .free
theorem bindL_out {kindOf : Str → Option NameKind} {x : Str} : ∀ {binds : List (Str × Value)} {m : Str → Option Value}, (∀ v, (x, v) ∉ binds) → bindL kindOf binds m x = m x
  | [], _, _ => rfl
  | (n, v) :: r, m, h => by
    unfold bindL
    rw [bindL_out fun w hw => h w (List.mem_cons_of_mem _ hw)]
    split
    · have : x ≠ n := by rintro rfl; exact h v List.mem_cons_self
      simp [this]
    · rfl
theorem bindC_out {kindOf : Str → Option NameKind} {x : Str} : ∀ {binds : List (Str × Value)} {m : Str → Option Value}, (∀ v, (x, v) ∉ binds) → bindC kindOf binds m x = m x
  | [], _, _ => rfl
  | (n, v) :: r, m, h => by
    unfold bindC
    rw [bindC_out fun w hw => h w (List.mem_cons_of_mem _ hw)]
    split
    · rfl
    · have : x ≠ n := by rintro rfl; exact h v List.mem_cons_self
      simp [this]
theorem bindL_get {kindOf : Str → Option NameKind} {x : Str} {v : Value} : ∀ {P : List Str} {vs : List Value} {i : Nat} {m : Str → Option Value}, P.Nodup → P[i]? = some x → vs[i]? = some v → kindOf x = some .local →
    bindL kindOf (P.zip vs) m x = some v
  | [], _, _, _, _, h, _, _ => by simp at h
  | _ :: _, [], _, _, _, _, h, _ => by simp at h
  | p :: P, w :: vs, 0, m, nd, h1, h2, hk => by
    simp at h1 h2; subst h1; subst h2
    show bindL kindOf ((p, w) :: P.zip vs) m p = _
    unfold bindL
    rw [bindL_out fun v hv => (List.nodup_cons.mp nd).1 (List.of_mem_zip hv).1, if_pos hk]
    simp
  | p :: P, w :: vs, i + 1, m, nd, h1, h2, hk => by
    show bindL kindOf ((p, w) :: P.zip vs) m x = _
    unfold bindL
    exact bindL_get (i := i) (List.nodup_cons.mp nd).2 (by simpa using h1) (by simpa using h2) hk
theorem bindC_get {kindOf : Str → Option NameKind} {x : Str} {v : Value} : ∀ {P : List Str} {vs : List Value} {i : Nat} {m : Str → Option Value}, P.Nodup → P[i]? = some x → vs[i]? = some v → kindOf x ≠ some .local →
    bindC kindOf (P.zip vs) m x = some v
  | [], _, _, _, _, h, _, _ => by simp at h
  | _ :: _, [], _, _, _, _, h, _ => by simp at h
  | p :: P, w :: vs, 0, m, nd, h1, h2, hk => by
    simp at h1 h2; subst h1; subst h2
    show bindC kindOf ((p, w) :: P.zip vs) m p = _
    unfold bindC
    rw [bindC_out fun v hv => (List.nodup_cons.mp nd).1 (List.of_mem_zip hv).1, if_neg hk]
    simp
  | p :: P, w :: vs, i + 1, m, nd, h1, h2, hk => by
    show bindC kindOf ((p, w) :: P.zip vs) m x = _
    unfold bindC
    exact bindC_get (i := i) (List.nodup_cons.mp nd).2 (by simpa using h1) (by simpa using h2) hk
def start (N : List Str) (vs : List V) : St := vs.map some ++ List.replicate (N.length - vs.length) none
def cxOf (CX : CXT) (P : Program) (w : World) (K : PySem.W.Frag) (mg : Str → Option Value) (base : Heap) (N : List Str) (qual : Str) (scope : Scope) (f : Addr) (cd : Value) (A : Around) (outer : List Env) (s : Shared) (H : Hp) (E : XK) : Cx where
  prog := P
  w := w
  K := K
  mg := mg
  base := base
  A := A.deeper (envOfC qual scope s.heap.objs.size f cd)
  N := N
  s₀ := s
  H₀ := H
  env := envOfC qual scope s.heap.objs.size f cd
  outer := outer
  stack := envOfC qual scope s.heap.objs.size f cd :: outer
  ex := []
  calm := true
  fn := fun _ => true
  pn := []
  xe := fun e s' => wpAny (model P w) (A.deeper (envOfC qual scope s.heap.objs.size f cd)) (leaving (envOfC qual scope s.heap.objs.size f cd) e) (fun _ s'' => CX outer H s E e s'') (fun e' s'' => CX outer H s E e' s'') s'
theorem cell_has {sc : Scope} {n : Nat} {x : Str} (h : sc.names.lookup x = some .cell) : ∃ c, (cellsFrom n sc.names []).lookup x = some c := by
  have q := PySem.W.cellsFrom_some sc.names n [] (.inl h)
  exact Option.isSome_iff_exists.mp q
theorem inv_start {CX : CXT} {P : Program} {w : World} {K : PySem.W.Frag} {mg : Str → Option Value} {base : Heap} {N ps : List Str} {qual : Str} {scope : Scope} {f : Addr} {cd : Value} {A : Around} {outer : List Env} {s s1 : Shared} {H : Hp} {E : XK} {us : List Value} {vs : List V}
    (S : FnScope N ps scope) (hd : A.handled = none) (e0 : Env0 P w K mg base A outer s H) (hl : vs.length = ps.length) (r : Vals vs us)
    (x : InCallC s s.heap.objs.size (bindL (envOfC qual scope s.heap.objs.size f cd).kindOf (ps.zip us) fun _ => none) (cellsFrom (s.heap.objs.size + 1) scope.names []) (bindC (envOfC qual scope s.heap.objs.size f cd).kindOf (ps.zip us) fun _ => none) s1) :
    Inv (cxOf CX P w K mg base N qual scope f cd A outer s H E) [] (start N vs) H s1 := by
  have hpl : ps.length ≤ N.length := by have := congrArg List.length S.pre; rw [List.length_take] at this; omega
  obtain ⟨h1, tk, rfl, hk⟩ := x.done
  have noA : ∀ b : Addr, b ∉ (cxOf CX P w K mg base N qual scope f cd A outer s H E).ex := fun b z => absurd (show b ∈ ([] : List Addr) from z) (by simp)
  refine ⟨⟨e0.mod, S.kind, rfl, rfl, Nat.le_refl _, fun y z c h1 h2 => ?_, fun y hy => ?_, fun y c _ h => ?_, fun _ => hd, Around.frames_deeper e0.frames, .inr ⟨rfl, rfl⟩, fun b z => absurd z (noA b), e0.bs, e0.bsz, fun b _ _ => noA b, fun b z => absurd z (noA b), e0.funs, e0.frf⟩,
    rfl, e0.bare, Un.kept hk, ⟨_, x.toInCall.ns, fun i y v h1 h2 h3 => ?_⟩, fun y c h => ⟨_, x.cell y c h⟩, e0.hok.fresh (Nat.le_refl _), fun y c h => ?_, fun p hp => absurd (show p ∈ ([] : List (Addr × Obj)) from hp) (by simp), e0.hok.kept hk, ?_⟩
  · exact name_of_addr x.apart (PySem.mem_of_lookup h1) (PySem.mem_of_lookup h2)
  · have hy : scope.names.lookup y = some .cell ∨ scope.names.lookup y = some .free := hy
    rcases hy with hy | hy
    · exact cell_has hy
    · exact absurd rfl (S.nofree _ (PySem.mem_of_lookup hy))
  · exact Nat.le_of_lt (x.above y c (PySem.mem_of_lookup h))
  · have hi : i < vs.length := by
      unfold start at h2
      by_cases hi : i < vs.length
      · exact hi
      · rw [List.getElem?_append_right (by simpa using hi)] at h2
        rw [List.getElem?_replicate] at h2
        split at h2 <;> cases h2
    have ha : vs[i]? = some v := by
      unfold start at h2
      rw [List.getElem?_append_left (by simpa using hi), List.getElem?_map] at h2
      cases e : vs[i]? with
      | none => rw [e] at h2; cases h2
      | some a => rw [e] at h2; cases h2; rfl
    obtain ⟨u, hu, rv⟩ := r.get ha
    have hp : ps[i]? = some y := by
      rw [← S.pre, List.getElem?_take_of_lt (by omega)]; exact h1
    have ndP : ps.Nodup := by rw [← S.pre]; exact S.nd.sublist (List.take_sublist _ _)
    refine ⟨u, rv, ?_⟩
    rcases S.par y (List.mem_of_getElem? hp) with k | k
    · exact .inl ⟨k, bindL_get ndP hp hu k⟩
    · obtain ⟨c, e⟩ := cell_has (n := s.heap.objs.size + 1) k
      refine .inr ⟨.inl k, c, e, ?_⟩
      have q := x.cell y c e
      rw [bindC_get ndP hp hu (by show scope.names.lookup y ≠ _; rw [k]; decide)] at q
      exact q
  · exact e0.hok.fresh (Nat.le_of_lt (x.above y c (PySem.mem_of_lookup h)))
  · unfold start
    show _ = N.length
    rw [List.length_append, List.length_map, List.length_replicate]
    omega
theorem fn_of {CX : CXT} {P : Program} {w : World} {K : PySem.W.Frag} {mg : Str → Option Value} {base : Heap} {k : Nat} {f : Addr} {name qual : Str} {params : Arguments} {body : List Stmt} {scope : Scope} {dV kV doc pm cdv ct oc : Value} {an od : Option Addr}
    {osl : Array (Option Value)} {N ps : List Str} {sp : Sp} (lk : K.lookup f = some ⟨oc, od, .func (PySem.W.fnOf name qual params body scope dV kV doc pm an cdv ct), osl⟩) (hcd : PySem.W.codeIn K cdv qual = true) (S : FnScope N ps scope)
    (len : ∀ vs H Q E, sp vs H Q E → vs.length = ps.length)
    (hbody : ∀ (A : Around) (outer : List Env) (s : Shared) (H : Hp) (vs : List V) (Q : VK) (E : XK), Room k (A.deeper (envOfC qual scope s.heap.objs.size f cdv)) → sp vs H Q E →
      ∃ t, PSs (cxOf CX P w K mg base N qual scope f cdv A outer s H E) body t ∧ t { nx := fun _ H' => Q .non H', rt := Q } (start N vs) H) :
    FnOk P w K mg base CX (k + 1) f (PySem.W.fnOf name qual params body scope dV kV doc pm an cdv ct) ps sp := by
  refine ⟨len, fun A outer s H args us vs Q E hr e0 hb r hsp => ?_⟩
  have hl := len _ _ _ _ hsp
  have KX : K.In s.heap := e0.mod.kin.keeps fun b o e => (e0.bs b o e).1
  have lim : s.heap.NoLimit := e0.mod.nolimit.keeps fun b o e => (e0.bs b o e).1
  have hkind : ∀ y ∈ ps.zip us, scope.names.lookup y.1 = some .local ∨ (scope.names.lookup y.1 = some .cell ∧ ((cellsFrom (s.heap.objs.size + 1) scope.names []).lookup y.1).isSome = true) := fun ⟨n, v⟩ hy => by
    rcases S.par n (List.of_mem_zip hy).1 with q | q
    · exact .inl q
    · exact .inr ⟨q, PySem.W.cellsFrom_some _ _ _ (.inl q)⟩
  refine codeAny_call_function hr.depth (KX _ _ lk) rfl S.co S.gen rfl (PySem.W.codeRec_of KX hcd) (hb _ _ _ _ ?_)
  refine wpAny_newFunctionEnv_cells S.kind hkind fun env he s1 x => ?_
  subst he
  refine ⟨lim.keeps x.toInCall.keep, codeAny_func ?_⟩
  obtain ⟨t, ht, hq⟩ := hbody A outer s H vs Q E (hr.deeper _) hsp
  have I : Inv (cxOf CX P w K mg base N qual scope f cdv A outer s H E) [] (start N vs) H s1 := inv_start S hr.hd e0 hl r x
  refine wpAny_mono (ht [] s1 (start N vs) H _ I hq) (fun fl s' hs => ?_) fun e s' hs => hs
  have fin : ∀ {σ' : St} {H' : Hp} {v : V} {u : Value}, Inv (cxOf CX P w K mg base N qual scope f cdv A outer s H E) [] σ' H' s' → RelV v u → Q v H' → CE outer P w H s Q u s' :=
    fun {σ' H' v u} J rv q => ⟨v, H', J.os, J.bare, J.base, J.hok, rv, q⟩
  cases fl with
  | ret u =>
    obtain ⟨v, σ', H', J, rv, q⟩ := hs
    exact fin J rv q
  | next =>
    obtain ⟨σ', H', J, q⟩ := hs
    exact fin (v := V.non) (u := Value.none) J rfl q
  | brk =>
    obtain ⟨_, _, _, q⟩ := hs
    exact False.elim q
  | cont =>
    obtain ⟨_, _, _, q⟩ := hs
    exact False.elim q
end L2
namespace L2
open PySem PySem.Spec PyProof.Rows
section
variable {X : Cx} {x : Str} {p pos : Pos} {e : Expr} {es : List Expr} {t : TA} {id T : String} {r : List V → Hp → VK → Prop}
def tCB (r : List V → Hp → VK → Prop) (t : TA) : TE := fun σ H Q => t σ H fun vs H1 => r vs H1 Q
theorem pe_callB (hc : CallR X (.builtin id) r) (hg : Gl X x) (hm : X.mg x = none) (hv : bootBuiltins x = some (.builtin id)) (ha : PA X (e :: es) t) (hn : x ≠ "__name__" := by decide) (hdb : (x == ("__debug__" : Str)) = false := by decide)
    (he : starEach (e :: es) X.env = (false, eval e X.env) :: starEach es X.env := by rfl) (hpl : (backTo pos (starEach es X.env)).any (·.1) = false := by rfl) : PE X (.Call (.Name x p) (e :: es) [] pos) (tCB r t) := by
  intro pins s σ H Q I h
  refine wpAny_Call_Name_kw (ld_blt I hg hm hv ?_ hn hdb)
  exact PyProof.Rows.callWith_builtin1 (thn (ha pos pins s σ H _ I h) fun us s1 ⟨vs, H1, I1, r1, q1⟩ => hc pins s1 σ H1 vs us Q I1 r1 q1) he hpl
theorem pe_callTy (hc : CallR X (.type T) r) (hg : Gl X x) (hm : X.mg x = none) (hv : bootBuiltins x = some (.type T)) (ha : PA X (e :: es) t) (hn : x ≠ "__name__" := by decide) (hdb : (x == ("__debug__" : Str)) = false := by decide)
    (he : starEach (e :: es) X.env = (false, eval e X.env) :: starEach es X.env := by rfl) (hpl : (backTo pos (starEach es X.env)).any (·.1) = false := by rfl) : PE X (.Call (.Name x p) (e :: es) [] pos) (tCB r t) := by
  intro pins s σ H Q I h
  refine wpAny_Call_Name_kw (ld_blt I hg hm hv ?_ hn hdb)
  exact PyProof.Rows.callWith_type1 (thn (ha pos pins s σ H _ I h) fun us s1 ⟨vs, H1, I1, r1, q1⟩ => hc pins s1 σ H1 vs us Q I1 r1 q1) he hpl
end
end L2
namespace HT
open PySem PyProof.Rows
section
open PySem.SeqAt
open PySem.AutoSeq1 (wpAny_loadPart')
open PySem.MeetsSeq PySem.MeetsSeq2 PySem.MeetsSeq3
end
section
variable {prog : Program} {w : World} {A : Around} {E : Value → Shared → Prop} {s : Shared}
theorem cat_tup {t b : Addr} {vs ws : List Value} {Q : Value → Shared → Prop} (ht : IsTup s.heap t vs.toArray) (hb : IsTup s.heap b ws.toArray) (hv : vs ≠ [])
    (h1 : ws = [] → Q (.ref t) s) (h2 : ws ≠ [] → Q (.ref s.heap.objs.size) { s with heap := s.heap.push { cls := .type "tuple", data := .seq (vs ++ ws).toArray } })
    (hsz : vs.length + ws.length ≤ sizeLine) : wpAny (model prog w) A (binaryOp .Add (.ref t) (.ref b)) Q E s := by
  obtain ⟨⟨cls, dd, data, sl⟩, ho, hc, n, hd⟩ := id ht
  obtain ⟨⟨cls2, dd2, data2, sl2⟩, ho2, hc2, n2, hd2⟩ := id hb
  simp only at hc hd hc2 hd2
  subst hc hd hc2 hd2
  have e : vs.toArray ++ ws.toArray = (vs ++ ws).toArray := by simp
  by_cases hw : ws = []
  · exact concat_meets ⟨_, ho, rfl⟩ ⟨_, ho2, rfl⟩ noFill_tuple_add seq_tuple_add PySem.F.slot_tuple_add PySem.F.entry_tuple_add (PySem.F.args_tuple_add_2 _ _)
      (tuple_addW1 t b vs.toArray ws.toArray n n2 dd dd2 sl sl2 (by simpa using hv) (by simp [hw])) ⟨ho, ho2, h1 hw⟩
  · refine concat_meets ⟨_, ho, rfl⟩ ⟨_, ho2, rfl⟩ noFill_tuple_add seq_tuple_add PySem.F.slot_tuple_add PySem.F.entry_tuple_add (PySem.F.args_tuple_add_2 _ _)
      (tuple_addW2 t b vs.toArray ws.toArray n n2 dd dd2 sl sl2 (by simpa using hv) (by simpa using hw) (by rw [List.size_toArray, List.size_toArray]; exact hsz)) ⟨ho, ho2, ?_⟩
    rw [e]
    exact h2 hw
def sIx (n d : Nat) : Option Int → Nat
  | none => d
  | some v => if v < 0 then (v + (n : Int)).toNat else min v.toNat n
theorem sIx_none (n d : Nat) : sIx n d none = d := rfl
theorem sIx_nat (n d k : Nat) : sIx n d (some (k : Int)) = min k n := by
  show (if (k : Int) < 0 then ((k : Int) + (n : Int)).toNat else min (k : Int).toNat n) = min k n
  rw [if_neg (by omega), Int.toNat_natCast]
theorem sIx_le (n d : Nat) (hd : d ≤ n) (o : Option Int) : sIx n d o ≤ n := by
  cases o with
  | none => exact hd
  | some v =>
    show (if v < 0 then (v + (n : Int)).toNat else min v.toNat n) ≤ n
    by_cases hv : v < 0
    · rw [if_pos hv]; omega
    · rw [if_neg hv]; exact Nat.min_le_right _ _
theorem clip_eq (v : Int) (n d : Nat) : (if v < 0 then max (v + (n : Int)) 0 else min v (n : Int)) = ((sIx n d (some v) : Nat) : Int) := by
  show (if v < 0 then max (v + (n : Int)) 0 else min v (n : Int)) = (((if v < 0 then (v + (n : Int)).toNat else min v.toNat n) : Nat) : Int)
  by_cases hv : v < 0
  · simp only [if_pos hv]; omega
  · simp only [if_neg hv]; omega
theorem adjust_gen (lo hi : Option Int) (n : Nat) : Builtin.Slice.sliceAdjust lo hi 1 (n : Int) = (((sIx n 0 lo : Nat) : Int), ((sIx n n hi : Nat) : Int)) := by
  have h1 : ¬ ((1 : Int) < 0) := by omega
  unfold Builtin.Slice.sliceAdjust
  simp only [h1, if_false]
  refine Prod.ext ?_ ?_
  · cases lo with
    | none => rfl
    | some v => exact clip_eq v n 0
  · cases hi with
    | none => rfl
    | some v => exact clip_eq v n n
theorem places_gen (i j : Nat) : Builtin.Slice.slicePlaces (i : Int) (j : Int) 1 = j - i := by
  unfold Builtin.Slice.slicePlaces
  have h1 : (1 : Int) > 0 := by omega
  simp only [h1, if_true, Int.ediv_one]
  split <;> omega
theorem slicePart_ {v : Value} {o : Option Int} {Q : Option Int → Shared → Prop} (p : IsPart v o) (h : Q o s) : wpAny (model prog w) A (Builtin.Slice.slicePartIndex v) Q E s := by
  cases p with
  | none => exact slicePart_none h
  | int i t => exact slicePart_int h
theorem sliceApplied_gen {sl : Addr} {vl vu : Value} {lo hi : Option Int} {n : Nat} {Q : Int × Int × Nat → Shared → Prop} (hs : s.heap.IsSliceOf sl vl vu .none) (pl : IsPart vl lo) (pu : IsPart vu hi)
    (h : Q (((sIx n 0 lo : Nat) : Int), 1, sIx n n hi - sIx n 0 lo) s) : wpAny (model prog w) A (Builtin.Slice.sliceApplied (.ref sl) (pure (n : Int))) Q E s := by
  obtain ⟨os, hos, hcs, hds⟩ := id hs
  unfold Builtin.Slice.sliceApplied Builtin.Slice.sliceFields
  refine wpAny_bind (wpAny_bind (wpAny_field hos hds (x := vl) rfl (wpAny_bind (wpAny_field hos hds (x := vu) rfl (wpAny_bind (wpAny_field hos hds (x := .none) rfl (wpAny_pure ?_)))))))
  refine wpAny_bind (slicePart_none ?_)
  show wpAny _ _ (if ((1 : Int) == 0) = true then _ else _) _ _ s
  rw [if_neg (by decide)]
  refine wpAny_bind (slicePart_ pl (wpAny_bind (slicePart_ pu (wpAny_bind (wpAny_pure ?_)))))
  show wpAny _ _ (match Builtin.Slice.sliceAdjust lo hi 1 (n : Int) with | (lo, hi) => pure (lo, (1 : Int), Builtin.Slice.slicePlaces lo hi 1)) _ _ s
  rw [adjust_gen lo hi n]
  show wpAny _ _ (pure (((sIx n 0 lo : Nat) : Int), (1 : Int), Builtin.Slice.slicePlaces ((sIx n 0 lo : Nat) : Int) ((sIx n n hi : Nat) : Int) 1)) _ _ s
  rw [places_gen]
  exact wpAny_pure h
theorem pick_gen (xs : Array Value) (i k : Nat) : ((List.range k).filterMap fun (m : Nat) => xs[((i : Int) + (m : Int) * 1).toNat]?).toArray = ((xs.toList.drop i).take k).toArray := by
  have e : (fun (m : Nat) => xs[((i : Int) + (m : Int) * 1).toNat]?) = fun m => xs[i + m]? := by
    funext m
    have : ((i : Int) + (m : Int) * 1).toNat = i + m := by omega
    rw [this]
  rw [e]
  have := pick_run xs i k
  rw [List.filterMap_map] at this
  have e2 : ((fun x => xs[x]?) ∘ fun x => i + x) = fun m => xs[i + m]? := rfl
  rw [e2] at this
  rw [this]
theorem getItem_tuple_cut {t sl : Addr} {items : Array Value} {vl vu : Value} {lo hi : Option Int} {Q : Value → Shared → Prop} (ht : IsTup s.heap t items) (hs : s.heap.IsSliceOf sl vl vu .none) (pl : IsPart vl lo) (pu : IsPart vu hi)
    (hw : ¬ (sIx items.size 0 lo = 0 ∧ sIx items.size items.size hi = items.size))
    (h : Q (.ref s.heap.objs.size) { s with heap := s.heap.push { cls := .type "tuple", data := .seq ((items.toList.drop (sIx items.size 0 lo)).take (sIx items.size items.size hi - sIx items.size 0 lo)).toArray } })
    (hsz : items.size ≤ sizeLine) : wpAny (model prog w) A (getItem (.ref t) (.ref sl)) Q E s := by
  have htake : sizeOk (.seq ((items.toList.drop (sIx items.size 0 lo)).take (sIx items.size items.size hi - sIx items.size 0 lo)).toArray) := by
    show ((items.toList.drop (sIx items.size 0 lo)).take (sIx items.size items.size hi - sIx items.size 0 lo)).toArray.size ≤ sizeLine
    rw [List.size_toArray, List.length_take, List.length_drop, Array.length_toList]
    omega
  have hj : sIx items.size items.size hi ≤ items.size := sIx_le _ _ (Nat.le_refl _) hi
  obtain ⟨os, hos, hcs, hds⟩ := id hs
  have hTs : s.TypeIs (.ref sl) "slice" := ⟨os, hos, hcs⟩
  unfold getItem
  try with_reducible refine wpAny_holding ?_
  first | refine wpAny_bind (wpAny_pure ?_) | skip
  refine wpAny_bind (wpAny_sequenceKey ht.typeIs (by decide) ?_)
  refine wpAny_bind (wpAny_callSpecial?_slot (name := Str.ofString "__getitem__") ht.typeIs PyProof.Rows.slot_tuple_getitem
    (wpAny_call_entry PyProof.Rows.slot_tuple_getitem ht.typeIs entry_tuple_getitem ?_ (args_tuple_getitem _ _)))
  show wpAny _ _ (Builtin.Tuple.tupleItemsOf (.ref t) >>= _) _ _ s
  refine wpAny_bind (tupleItemsOf_ ht ?_)
  refine wpAny_bind (wpAny_typeOf hTs ?_)
  rw [if_pos (by decide)]
  refine wpAny_bind (sliceApplied_gen hs pl pu ?_)
  have hno : ¬ ((((sIx items.size 0 lo : Nat) : Int) == 0 && (1 : Int) == 1 && (sIx items.size items.size hi - sIx items.size 0 lo) == items.size) = true) := by
    intro q
    rw [Bool.and_eq_true, Bool.and_eq_true] at q
    have q1 : ((sIx items.size 0 lo : Nat) : Int) = 0 := eq_of_beq q.1.1
    have q2 : sIx items.size items.size hi - sIx items.size 0 lo = items.size := eq_of_beq q.2
    exact hw ⟨by omega, by omega⟩
  show wpAny _ _ (if (((sIx items.size 0 lo : Nat) : Int) == 0 && (1 : Int) == 1 && (sIx items.size items.size hi - sIx items.size 0 lo) == items.size) = true then _ else _) _ _ s
  rw [if_neg hno, pick_gen]
  first
    | exact wpAny_bind (m := Builtin.Tuple.tupleExact _) (wpAny_newObj_type (wpAny_pure ⟨_, rfl, wpAny_pure h⟩) htake)
    | exact wpAny_bind (m := Builtin.Tuple.tupleExact _) (wpAny_newObj_type (wpAny_bind (wpAny_pure (wpAny_pure ⟨_, rfl, wpAny_pure h⟩))) htake)
    | exact wpAny_bind (wpAny_bind (m := Builtin.Tuple.tupleExact _) (wpAny_newObj_type (wpAny_pure (wpAny_pure ⟨_, rfl, wpAny_pure h⟩)) htake))
    | exact wpAny_bind (wpAny_bind (m := Builtin.Tuple.tupleExact _) (wpAny_newObj_type (wpAny_pure ⟨_, rfl, wpAny_pure h⟩) htake))
end
end HT
namespace L2
open PySem PySem.Spec PyProof.Rows
abbrev TO := St → Hp → (Option Int → Hp → Prop) → Prop
def PO (X : Cx) (e : Option Expr) (t : TO) : Prop :=
  ∀ (pins : List (Addr × Obj)) (s : Shared) (σ : St) (H : Hp) (Q : Option Int → Hp → Prop), Inv X pins σ H s → t σ H Q →
    wpAny (model X.prog X.w) X.A (evalPart e X.env) (fun u s' => ∃ o H', Inv X pins σ H' s' ∧ IsPart u o ∧ Q o H') X.xe s
def tNoPart : TO := fun _ H Q => Q none H
def tPart (t : TE) : TO := fun σ H Q => t σ H fun x H1 => ∃ i, x = .int i ∧ Q (some i) H1
section
variable {X : Cx} {e : Expr} {te : TE} {lo hi : Option Expr} {tl th : TO} {pos p2 : Pos}
theorem po_none : PO X none tNoPart := by
  intro pins s σ H Q I h
  rw [evalPart_none]
  exact wpAny_pure ⟨none, H, I, .none, h⟩
theorem po_some (h : PE X e te) : PO X (some e) (tPart te) := by
  intro pins s σ H Q I hw
  rw [evalPart_some]
  refine thn (h pins s σ H _ I hw) fun u s1 ⟨x, H1, I1, r1, q1⟩ => ?_
  obtain ⟨i, rfl, q⟩ := q1
  obtain ⟨t, rfl⟩ := r1
  exact ⟨some i, H1, I1, .int i t, q⟩
def SlR (X : Cx) (r : V → Option Int → Option Int → Hp → VK → Prop) : Prop :=
  ∀ (pins : List (Addr × Obj)) (s : Shared) (σ : St) (H : Hp) (x : V) (v vl vu : Value) (lo hi : Option Int) (sl : Addr) (Q : VK), Inv X pins σ H s → RelV x v → s.heap.IsSliceOf sl vl vu .none → IsPart vl lo → IsPart vu hi → r x lo hi H Q →
    ∃ T id, typeLookup (.type T) "__getitem__" = pure (some (.builtin id)) ∧ s.TypeIs v T ∧ wpAny (model X.prog X.w) X.A (getItem v (.ref sl)) (EP X pins σ Q) X.xe s
theorem SlR.or {r r' : V → Option Int → Option Int → Hp → VK → Prop} (h : SlR X r) (h' : SlR X r') : SlR X (fun x lo hi H Q => r x lo hi H Q ∨ r' x lo hi H Q) := by
  intro pins s σ H x v vl vu lo hi sl Q I rx hs pl pu q
  rcases q with q | q
  · exact h pins s σ H x v vl vu lo hi sl Q I rx hs pl pu q
  · exact h' pins s σ H x v vl vu lo hi sl Q I rx hs pl pu q
def tSl (r : V → Option Int → Option Int → Hp → VK → Prop) (te : TE) (tl th : TO) : TE := fun σ H Q => te σ H fun x H1 => tl σ H1 fun l H2 => th σ H2 fun u H3 => r x l u H3 Q
theorem pe_slice {r : V → Option Int → Option Int → Hp → VK → Prop} (hr : SlR X r) (he : PE X e te) (hl : PO X lo tl) (hu : PO X hi th) : PE X (.Subscript e (.Slice lo hi none p2) pos) (tSl r te tl th) := by
  intro pins s σ H Q I h
  refine Subscript_ (thn (he pins s σ H _ I h) fun v s1 ⟨x, H1, I1, r1, q1⟩ => ?_)
  refine wpAny_Slice (thn (hl pins s1 σ H1 _ I1 q1) fun vl s2 ⟨l, H2, I2, pl, q2⟩ => thn (hu pins s2 σ H2 _ I2 q2) fun vu s3 ⟨u, H3, I3, pu, q3⟩ => ?_)
  rw [evalPart_none]
  refine wpAny_pure ?_
  have I4 : Inv X pins σ H3 { s3 with heap := s3.heap.push { cls := .type "slice", data := .fields #[vl, vu, .none] } } := I3.kept (t' := s3.toks) fun b ob q => Heap.get?_push_of_some _ q
  obtain ⟨T, id, hT, ht, hg⟩ := hr pins { s3 with heap := s3.heap.push { cls := .type "slice", data := .fields #[vl, vu, .none] } } σ H3 x v vl vu l u s3.heap.objs.size Q I4 r1 (Heap.IsSliceOf.new ..) pl pu q3
  show wpAny (model X.prog X.w) X.A (subscriptTail e (.Slice lo hi none p2) v (.ref s3.heap.objs.size)) (EP X pins σ Q) X.xe { s3 with heap := s3.heap.push { cls := .type "slice", data := .fields #[vl, vu, .none] } }
  exact tail_any (ops := [.ref s3.heap.objs.size, v]) ht hT hg (by with_unfolding_all rfl)
def cutV (xs : List V) (lo hi : Option Int) : List V := (xs.drop (HT.sIx xs.length 0 lo)).take (HT.sIx xs.length xs.length hi - HT.sIx xs.length 0 lo)
theorem cutV_length (xs : List V) (lo hi : Option Int) : (cutV xs lo hi).length ≤ xs.length := by
  unfold cutV
  rw [List.length_take, List.length_drop]
  omega
def rSlT (K : PySem.W.Frag) : V → Option Int → Option Int → Hp → VK → Prop := fun x lo hi H Q => ∃ a xs, x = .ref a ∧ SqT K H a xs ∧
  ¬ (HT.sIx xs.length 0 lo = 0 ∧ HT.sIx xs.length xs.length hi = xs.length) ∧ ∀ p, H p = none → Q (.ref p) (upd H p (.tup (cutV xs lo hi)))
theorem sl_tup : SlR X (rSlT X.K) := by
  intro pins s σ H x v vl vu lo hi sl Q I rx hs pl pu h
  obtain ⟨a, xs, rfl, hx, hw, q⟩ := h
  cases rx
  obtain ⟨its, r, ht, hz⟩ := I.tuple hx
  have hlen : its.toArray.size = xs.length := by rw [List.size_toArray]; exact r.length.symm
  refine ⟨"tuple", _, PyProof.Rows.slot_tuple_getitem.lookup, ht.typeIs, ?_⟩
  refine HT.getItem_tuple_cut ht hs pl pu (by rw [hlen]; exact hw) ?_ (by rw [hlen]; exact hz)
  rw [hlen]
  refine ⟨.ref s.heap.objs.size, _, I.laid (t' := s.toks) (o := .tup (cutV xs lo hi)) (fun b ob q => Heap.get?_push_of_some _ q) (Nat.le_refl _) ?_, rfl, q _ (I.hok.fresh (Nat.le_refl _))⟩
  exact ⟨Nat.le_trans (cutV_length xs lo hi) hz, _, (r.drop (HT.sIx xs.length 0 lo)).take (HT.sIx xs.length xs.length hi - HT.sIx xs.length 0 lo), IsTup.new _ _⟩
def rCatT (K : PySem.W.Frag) : R2 := fun x y H Q => ∃ a b xs ys, x = .ref a ∧ y = .ref b ∧ SqT K H a xs ∧ SqT K H b ys ∧ xs ≠ [] ∧ xs.length + ys.length ≤ sizeLine ∧
  (ys = [] → Q (.ref a) H) ∧ (ys ≠ [] → ∀ p, H p = none → Q (.ref p) (upd H p (.tup (xs ++ ys))))
theorem Vals.nil_iff {xs : List V} {us : List Value} (r : Vals xs us) : us = [] ↔ xs = [] := by
  cases r with
  | nil => simp
  | cons _ _ => simp
theorem op_catT : OpR X (binaryOp .Add) (rCatT X.K) := by
  intro pins s σ H x y v u Q I rx ry h
  obtain ⟨a, b, xs, ys, rfl, rfl, ha, hb, hx, hz, q1, q2⟩ := h
  cases rx
  cases ry
  obtain ⟨its, r1, p1, _⟩ := I.tuple ha
  obtain ⟨its2, r2, p2, _⟩ := I.tuple hb
  refine HT.cat_tup p1 p2 (fun z => hx (r1.nil_iff.mp z)) (fun z => ⟨.ref a, H, I, rfl, q1 (r2.nil_iff.mp z)⟩) (fun z => ?_) (by rw [← r1.length, ← r2.length]; exact hz)
  refine ⟨.ref s.heap.objs.size, _, I.laid (t' := s.toks) (o := .tup (xs ++ ys)) (fun b ob q => Heap.get?_push_of_some _ q) (Nat.le_refl _) ?_, rfl, q2 (fun w => z (r2.nil_iff.mpr w)) _ (I.hok.fresh (Nat.le_refl _))⟩
  exact ⟨by rw [List.length_append]; exact hz, _, r1.append r2, IsTup.new _ _⟩
end
end L2
namespace L2
open PySem PySem.Spec PyProof.Rows
def ixN (n : Nat) (i : Int) : Option Nat := if 0 ≤ i then (if i < n then some i.toNat else none) else if -(n : Int) ≤ i then some (i + n).toNat else none
def atI {α : Type} (xs : List α) (i : Int) : Option α := (ixN xs.length i).bind fun j => xs[j]?
theorem ixN_seq {n : Nat} {i : Int} {j : Nat} (h : ixN n i = some j) : seqIndex? i n = some j ∧ j < n ∧ -(n : Int) ≤ i ∧ i < n := by
  unfold ixN at h
  by_cases h0 : 0 ≤ i
  · rw [if_pos h0] at h
    by_cases h1 : i < n
    · rw [if_pos h1] at h
      have e : i.toNat = j := Option.some.inj h
      exact ⟨by rw [seqIndex_of h0 h1, e], by omega, by omega, h1⟩
    · rw [if_neg h1] at h; cases h
  · rw [if_neg h0] at h
    by_cases h1 : -(n : Int) ≤ i
    · rw [if_pos h1] at h
      have e : (i + n).toNat = j := Option.some.inj h
      exact ⟨by rw [seqIndex_neg (by omega) h1, e], by omega, h1, by omega⟩
    · rw [if_neg h1] at h; cases h
theorem atI_get {α : Type} {xs : List α} {i : Int} {v : α} (h : atI xs i = some v) : ∃ j, seqIndex? i xs.length = some j ∧ xs[j]? = some v ∧ j < xs.length ∧ -(xs.length : Int) ≤ i ∧ i < xs.length := by
  unfold atI at h
  cases e : ixN xs.length i with
  | none => rw [e] at h; cases h
  | some j =>
    rw [e] at h
    obtain ⟨h1, h2, h3, h4⟩ := ixN_seq e
    exact ⟨j, h1, h, h2, h3, h4⟩
theorem atI_nat {α : Type} {xs : List α} {j : Nat} {v : α} (h : xs[j]? = some v) : atI xs (j : Int) = some v := by
  have hj : j < xs.length := (List.getElem?_eq_some_iff.mp h).1
  have e : ixN xs.length (j : Int) = some j := by
    unfold ixN
    rw [if_pos (by omega), if_pos (by omega)]; simp
  unfold atI; rw [e]; exact h
def PlainIx (b : Expr) : Prop := ∀ o i, subscripted b false o i = operate [o, i] (getItem o i)
def IxR (X : Cx) (r : R2) : Prop :=
  ∀ (value slice : Expr) (pins : List (Addr × Obj)) (s : Shared) (σ : St) (H : Hp) (x y : V) (v u : Value) (Q : VK), Inv X pins σ H s → RelV x v → RelV y u → r x y H Q →
    subscripted slice false v u = operate [v, u] (getItem v u) → wpAny (model X.prog X.w) X.A (subscriptTail value slice v u) (EP X pins σ Q) X.xe s
def MtR (X : Cx) (id : String) (r : V → List V → Hp → VK → Prop) : Prop :=
  ∀ (pins : List (Addr × Obj)) (s : Shared) (σ : St) (H : Hp) (x : V) (xs : List V) (v : Value) (us : List Value) (Q : VK), Inv X pins σ H s → RelV x v → Vals xs us → r x xs H Q →
    wpAny (model X.prog X.w) X.A (call (.builtin id) (v :: us)) (EP X pins σ Q) X.xe s
section
variable {X : Cx} {a b : Expr} {ta tb : TE} {pos : Pos}
theorem IxR.or {r r' : R2} (h : IxR X r) (h' : IxR X r') : IxR X (fun x y H Q => r x y H Q ∨ r' x y H Q) := by
  intro value slice pins s σ H x y v u Q I rx ry q hs
  rcases q with q | q
  · exact h value slice pins s σ H x y v u Q I rx ry q hs
  · exact h' value slice pins s σ H x y v u Q I rx ry q hs
theorem MtR.or {id : String} {r r' : V → List V → Hp → VK → Prop} (h : MtR X id r) (h' : MtR X id r') : MtR X id (fun x xs H Q => r x xs H Q ∨ r' x xs H Q) := by
  intro pins s σ H x xs v us Q I rx rs q
  rcases q with q | q
  · exact h pins s σ H x xs v us Q I rx rs q
  · exact h' pins s σ H x xs v us Q I rx rs q
theorem pe_ix {r : R2} (hr : IxR X r) (ha : PE X a ta) (hb : PE X b tb) (hs : PlainIx b) : PE X (.Subscript a b pos) (tOp r ta tb) := by
  intro pins s σ H Q I h
  exact Subscript_ (binT ha hb I h fun v u s2 x y H2 I2 rx ry q => hr a b pins s2 σ H2 x y v u Q I2 rx ry q (hs _ _))
def rIxL (K : PySem.W.Frag) : R2 := fun x y H Q => ∃ p xs i v, x = .ref p ∧ y = .int i ∧ SqL K H p xs ∧ atI xs i = some v ∧ Q v H
def rIxT (K : PySem.W.Frag) : R2 := fun x y H Q => ∃ p xs i v, x = .ref p ∧ y = .int i ∧ SqT K H p xs ∧ atI xs i = some v ∧ Q v H
def rIxS : R2 := fun x y H Q => ∃ z i c, x = .str z ∧ y = .int i ∧ z.length ≤ sizeLine ∧ atI z.cps.toList i = some c ∧ Q (.str ⟨#[c]⟩) H
theorem ix_list : IxR X (rIxL X.K) := by
  intro value slice pins s σ H x y v u Q I rx ry h hs
  obtain ⟨p, xs, i, z, rfl, rfl, hq, he, q⟩ := h
  cases rx
  obtain ⟨t, rfl⟩ := ry
  obtain ⟨its, r, pl, hz⟩ := I.list hq
  obtain ⟨j, h1, h2, h3, h4, h5⟩ := atI_get he
  obtain ⟨w, ew, rw'⟩ := r.get h2
  have hl := r.length
  have hn := line63
  have fin : EP X pins σ Q w s := ⟨z, H, I, rw', q⟩
  by_cases h0 : 0 ≤ i
  · have hj : i.toNat = j := by
      rw [seqIndex_of h0 h5] at h1
      exact Option.some.inj h1
    exact item_listR pl.isList h0 (by omega) (by rw [hj]; simpa using ew) fin hs
  · have hj : (i + (its.toArray.size : Int)).toNat = j := by
      rw [seqIndex_neg (by omega) h4] at h1
      rw [List.size_toArray, ← hl]
      exact Option.some.inj h1
    exact subscriptTail_builtinR (x := w) pl.isList.typeIs slot_list_getitem.lookup
      (wpAny_getItem_list_neg (Q := fun r s' => r = w ∧ EP X pins σ Q r s') pl.isList (by omega) (by rw [List.size_toArray] <;> omega) (by omega) (by rw [hj]; simpa using ew) ⟨rfl, fin⟩) hs
theorem ix_tup : IxR X (rIxT X.K) := by
  intro value slice pins s σ H x y v u Q I rx ry h hs
  obtain ⟨p, xs, i, z, rfl, rfl, hq, he, q⟩ := h
  cases rx
  obtain ⟨t, rfl⟩ := ry
  obtain ⟨its, r, pl, hz⟩ := I.tuple hq
  obtain ⟨j, h1, h2, h3, h4, h5⟩ := atI_get he
  obtain ⟨w, ew, rw'⟩ := r.get h2
  have hl := r.length
  have hn := line63
  have fin : EP X pins σ Q w s := ⟨z, H, I, rw', q⟩
  exact subscriptTail_builtinR (x := w) pl.typeIs slot_tuple_getitem.lookup
    (getItem_tuple (j := j) (Q := fun r s' => r = w ∧ EP X pins σ Q r s') pl (by omega) (by omega) (by rw [List.size_toArray, ← hl]; exact h1) (by simpa using ew) ⟨rfl, fin⟩) hs
theorem ix_str : IxR X rIxS := by
  intro value slice pins s σ H x y v u Q I rx ry h hs
  obtain ⟨z, i, c, rfl, rfl, hz, he, q⟩ := h
  obtain ⟨t, rfl⟩ := rx
  obtain ⟨t', rfl⟩ := ry
  obtain ⟨j, h1, h2, h3, h4, h5⟩ := atI_get he
  have hl : z.cps.toList.length = z.length := by simp [Str.length]
  rw [hl] at h1 h4 h5
  have hn := line63
  exact tail_any (typeIs_str s z t) slot_str_getitem.lookup (getItem_str (c := c) (by
    have e1 : decide (i < -(2 ^ 63 : Int)) = false := decide_eq_false (by omega)
    have e2 : decide (i ≥ 2 ^ 63) = false := decide_eq_false (by omega)
    rw [e1, e2, Bool.or_false]) (by rw [h1]; simpa using h2) ⟨.str ⟨#[c]⟩, H, I.tok _, ⟨_, rfl⟩, q⟩) hs
theorem mapSeq_set (its : List Value) (n j : Nat) (u : Value) : Obj.mapSeq (·.setIfInBounds j u) { cls := .type "list", data := .seq its.toArray n } = { cls := .type "list", data := .seq (its.set j u).toArray n } := by
  simp [Obj.mapSeq]
theorem Inv.lst {pins : List (Addr × Obj)} {σ : St} {H : Hp} {s : Shared} {p : Addr} {xs : List V} (I : Inv X pins σ H s) (h : H p = some (.lst xs)) :
    ∃ (its : List Value) (n : Nat), Vals xs its ∧ s.heap.get? p = some { cls := .type "list", data := .seq its.toArray n } ∧ xs.length ≤ sizeLine := by
  obtain ⟨z, its, n, r, e⟩ := I.hok p _ h
  exact ⟨its, n, r, e, z⟩
theorem Inv.lstUpd {pins : List (Addr × Obj)} {σ : St} {H : Hp} {s : Shared} {p : Addr} {xs ys : List V} {its its' : List Value} {n n' : Nat} {f : Obj → Obj} (I : Inv X pins σ H s) (h : H p = some (.lst xs))
    (ho : s.heap.get? p = some { cls := .type "list", data := .seq its.toArray n }) (hf : f { cls := .type "list", data := .seq its.toArray n } = { cls := .type "list", data := .seq its'.toArray n' }) (r : Vals ys its') (hz : ys.length ≤ sizeLine) (t : Nat) :
    Inv X pins σ (upd H p (.lst ys)) { s with heap := s.heap.update p f, toks := t } := by
  have e : (s.heap.update p f).get? p = some { cls := .type "list", data := .seq its'.toArray n' } := by
    rw [Heap.get?_update_self f ho (by rw [hf] <;> rfl), hf]
  refine I.write (x := p) (e := p) (by rw [h]; trivial) (.inl rfl) (fun b u hb q => (Heap.get?_update_other _ _ (Ne.symm hb)).trans q) ⟨_, e⟩ ?_
  exact ⟨hz, its', n', r, e⟩
def rSetL : V → V → V → Hp → (Hp → Prop) → Prop := fun o i v H Q => ∃ p xs k j, o = .ref p ∧ i = .int k ∧ H p = some (.lst xs) ∧ ixN xs.length k = some j ∧ Q (upd H p (.lst (xs.set j v)))
theorem set_list : PSet X rSetL := by
  intro pins s σ H o i v ov iv u Q I ro ri rv h
  obtain ⟨p, xs, k, j, rfl, rfl, hp, hj, q⟩ := h
  cases ro
  obtain ⟨t, rfl⟩ := ri
  obtain ⟨its, n, r, ho, hz⟩ := I.lst hp
  obtain ⟨h1, h2, h3, h4⟩ := ixN_seq hj
  have hl := r.length
  have hn := line63
  have I' : Inv X pins σ (upd H p (.lst (xs.set j v))) { s with heap := s.heap.update p (Obj.mapSeq (·.setIfInBounds j u)) } :=
    I.lstUpd hp ho (mapSeq_set its n j u) (r.set rv j) (by rw [List.length_set]; exact hz) s.toks
  by_cases h0 : 0 ≤ k
  · have hk : k.toNat = j := by
      rw [seqIndex_of h0 h4] at h1
      exact Option.some.inj h1
    exact PySem.W.ki_setAt ho h0 (by omega) (by rw [List.size_toArray, ← hl]; exact h4) (by rw [hk]; exact ⟨_, I', q⟩)
  · have hk : (k + (its.toArray.size : Int)).toNat = j := by
      rw [seqIndex_neg (by omega) h3] at h1
      rw [List.size_toArray, ← hl]
      exact Option.some.inj h1
    exact PySem.W.ki_setBack ho (by omega) (by rw [List.size_toArray, ← hl]; exact h3) (by omega) (by rw [hk]; exact ⟨_, I', q⟩)
theorem slice_bounds (lo hi : Option Int) (n : Nat) : (sliceBounds lo hi none n).1 = ((HT.sIx n 0 lo : Nat) : Int) ∧ (sliceBounds lo hi none n).2.1 = ((HT.sIx n n hi : Nat) : Int) ∧ (sliceBounds lo hi none n).2.2 = 1 := by
  refine ⟨?_, ?_, rfl⟩
  · cases lo with
    | none => simp [sliceBounds, HT.sIx]
    | some i =>
      simp only [sliceBounds, HT.sIx, Option.getD_none, show (1 : Int) > 0 by decide, if_true]
      by_cases h : i < 0
      · simp only [h, if_true] <;> omega
      · simp only [h, if_false] <;> omega
  · cases hi with
    | none => simp [sliceBounds, HT.sIx]
    | some i =>
      simp only [sliceBounds, HT.sIx, Option.getD_none, show (1 : Int) > 0 by decide, if_true]
      by_cases h : i < 0
      · simp only [h, if_true] <;> omega
      · simp only [h, if_false] <;> omega
theorem slicePick_cut (its : List Value) (lo hi : Option Int) : slicePick its.toArray lo hi none = ((its.drop (HT.sIx its.length 0 lo)).take (HT.sIx its.length its.length hi - HT.sIx its.length 0 lo)).toArray := by
  obtain ⟨h1, h2, h3⟩ := slice_bounds lo hi its.toArray.size
  unfold slicePick
  rw [h1, h2, h3]
  simp only [sliceRange_one, pick_run, List.size_toArray] <;> rfl
def flatV : V → Bool
  | .non => true
  | .bl _ => true
  | .int _ => true
  | .str _ => true
  | _ => false
def eqV : V → V → Bool
  | .non, .non => true
  | .bl a, .bl b => a == b
  | .bl a, .int b => (if a then 1 else 0) == b
  | .int a, .bl b => a == (if b then 1 else 0)
  | .int a, .int b => a == b
  | .str a, .str b => a == b
  | _, _ => false
theorem eqAt_V {A : Around} {s : Shared} {y x : V} {u v : Value} (ry : RelV y u) (rx : RelV x v) (fy : flatV y = true) (fx : flatV x = true) : SeqAt.EqAt A s u v (eqV y x) := by
  cases y with
  | non =>
    cases ry
    cases x with
    | non => cases rx; exact SeqAt.EqAt.same _
    | bl b => cases rx; exact SeqAt.EqAt.none_bool b
    | int b => obtain ⟨t, rfl⟩ := rx; exact SeqAt.EqAt.none_int b t
    | str b => obtain ⟨t, rfl⟩ := rx; exact SeqAt.EqAt.none_str b t
    | _ => exact absurd (show false = true from fx) Bool.false_ne_true
  | bl a =>
    cases ry
    cases x with
    | non => cases rx; exact SeqAt.EqAt.bool_none a
    | bl b => cases rx; exact SeqAt.EqAt.bool_bool a b
    | int b => obtain ⟨t, rfl⟩ := rx; exact SeqAt.EqAt.bool_int a b t
    | str b => obtain ⟨t, rfl⟩ := rx; exact SeqAt.EqAt.bool_str a b t
    | _ => exact absurd (show false = true from fx) Bool.false_ne_true
  | int a =>
    obtain ⟨t', rfl⟩ := ry
    cases x with
    | non => cases rx; exact SeqAt.EqAt.int_none a t'
    | bl b => cases rx; exact SeqAt.EqAt.int_bool a t' b
    | int b => obtain ⟨t, rfl⟩ := rx; exact SeqAt.EqAt.int_int a t' b t
    | str b => obtain ⟨t, rfl⟩ := rx; exact SeqAt.EqAt.int_str a t' b t
    | _ => exact absurd (show false = true from fx) Bool.false_ne_true
  | str a =>
    obtain ⟨t', rfl⟩ := ry
    cases x with
    | non => cases rx; exact SeqAt.EqAt.str_none a t'
    | bl b => cases rx; exact SeqAt.EqAt.str_bool a t' b
    | int b => obtain ⟨t, rfl⟩ := rx; exact SeqAt.EqAt.str_int a t' b t
    | str b => obtain ⟨t, rfl⟩ := rx; exact SeqAt.EqAt.str_str a t' b t
    | _ => exact absurd (show false = true from fx) Bool.false_ne_true
  | _ => exact absurd (show false = true from fy) Bool.false_ne_true
def eqU (x : V) (u : Value) : Bool := match u with
  | .none => eqV .non x
  | .bool b => eqV (.bl b) x
  | .int i _ => eqV (.int i) x
  | .str z _ => eqV (.str z) x
  | _ => false
theorem eqU_of {x y : V} {u : Value} (r : RelV y u) (f : flatV y = true) : eqU x u = eqV y x := by
  cases y with
  | non => cases r; rfl
  | bl b => cases r; rfl
  | int i => obtain ⟨t, rfl⟩ := r; rfl
  | str z => obtain ⟨t, rfl⟩ := r; rfl
  | _ => exact absurd (show false = true from f) Bool.false_ne_true
theorem any_eqU {x : V} : ∀ {xs : List V} {us : List Value}, Vals xs us → xs.all flatV = true → us.any (eqU x) = xs.any fun y => eqV y x
  | _, _, .nil, _ => rfl
  | y :: xs, u :: us, .cons r t, f => by
    rw [List.all_cons, Bool.and_eq_true] at f
    rw [List.any_cons, List.any_cons, eqU_of r f.1, any_eqU t f.2]
theorem mem_eqAt {A : Around} {s : Shared} {x : V} {v : Value} (rx : RelV x v) (fx : flatV x = true) : ∀ {xs : List V} {us : List Value}, Vals xs us → xs.all flatV = true → ∀ u ∈ us, SeqAt.EqAt A s u v (eqU x u)
  | _, _, .nil, _ => fun u hu => by cases hu
  | y :: xs, u :: us, .cons r t, f => fun u' hu => by
    rw [List.all_cons, Bool.and_eq_true] at f
    rcases List.mem_cons.mp hu with rfl | hu
    · rw [eqU_of r f.1]; exact eqAt_V r rx f.1 fx
    · exact mem_eqAt rx fx t f.2 u' hu
def inV (x : V) (xs : List V) : Bool := xs.any fun y => eqV y x
def rIn (K : PySem.W.Frag) (neg : Bool) : R2 := fun x y H Q => ∃ p xs, y = .ref p ∧ (SqL K H p xs ∨ SqT K H p xs) ∧ flatV x = true ∧ xs.all flatV = true ∧ Q (.bl (if neg then !inV x xs else inV x xs)) H
theorem op_in_seq : OpR X (compareOp .In) (rIn X.K false) := by
  intro pins s σ H x y v u Q I rx ry h
  obtain ⟨p, xs, rfl, hq, fx, fs, q⟩ := h
  cases ry
  rcases hq with hq | hq
  · obtain ⟨its, r, pl, hz⟩ := I.list hq
    refine SeqAt.in_listAt (eqU x) pl.isList (fun w hw => mem_eqAt rx fx r fs w (by simpa using hw)) ⟨.bl _, H, I, rfl, ?_⟩
    rw [show its.toArray.any (eqU x) = its.any (eqU x) by simp, any_eqU r fs]
    exact q
  · obtain ⟨its, r, pl, hz⟩ := I.tuple hq
    refine SeqAt.in_tupleAt (eqU x) pl (fun w hw => mem_eqAt rx fx r fs w (by simpa using hw)) ⟨.bl _, H, I, rfl, ?_⟩
    rw [show its.toArray.any (eqU x) = its.any (eqU x) by simp, any_eqU r fs]
    exact q
theorem op_notIn_seq : OpR X (compareOp .NotIn) (rIn X.K true) := by
  intro pins s σ H x y v u Q I rx ry h
  obtain ⟨p, xs, rfl, hq, fx, fs, q⟩ := h
  cases ry
  rcases hq with hq | hq
  · obtain ⟨its, r, pl, hz⟩ := I.list hq
    refine SeqAt.notIn_listAt (eqU x) pl.isList (fun w hw => mem_eqAt rx fx r fs w (by simpa using hw)) ⟨.bl _, H, I, rfl, ?_⟩
    rw [show its.toArray.any (eqU x) = its.any (eqU x) by simp, any_eqU r fs]
    exact q
  · obtain ⟨its, r, pl, hz⟩ := I.tuple hq
    refine SeqAt.notIn_tupleAt (eqU x) pl (fun w hw => mem_eqAt rx fx r fs w (by simpa using hw)) ⟨.bl _, H, I, rfl, ?_⟩
    rw [show its.toArray.any (eqU x) = its.any (eqU x) by simp, any_eqU r fs]
    exact q
theorem call_len_seq : CallR X (.builtin "len") (fun xs H Q => ∃ p ys, xs = [.ref p] ∧ (SqL X.K H p ys ∨ SqT X.K H p ys) ∧ Q (.int ys.length) H) := by
  intro pins s σ H xs us Q I r h
  obtain ⟨p, ys, rfl, hq, q⟩ := h
  obtain ⟨u, rfl, rx⟩ := vals1 r
  cases rx
  have hn := line63
  rcases hq with hq | hq
  · obtain ⟨its, r', pl, hz⟩ := I.list hq
    have hlen := r'.length
    exact Calls.call_len_list pl.isList (by simp only [List.size_toArray] <;> omega) ⟨.int ys.length, H, I.tok _, ⟨s.toks + 1, by rw [List.size_toArray, hlen]⟩, q⟩
  · obtain ⟨its, r', pl, hz⟩ := I.tuple hq
    have hlen := r'.length
    exact len_tuple pl (by simp only [List.size_toArray] <;> omega) ⟨.int ys.length, H, I.tok _, ⟨s.toks + 1, by rw [List.size_toArray, hlen]⟩, q⟩
theorem call_len_str : CallR X (.builtin "len") (fun xs H Q => ∃ z, xs = [.str z] ∧ z.length ≤ sizeLine ∧ Q (.int z.length) H) := by
  intro pins s σ H xs us Q I r h
  obtain ⟨z, rfl, hz, q⟩ := h
  obtain ⟨u, rfl, t, rfl⟩ := vals1 r
  have hn := line63
  exact len_str (by omega) ⟨.int z.length, H, I.tok _, ⟨_, rfl⟩, q⟩
theorem CallR.or {f : Value} {r r' : List V → Hp → VK → Prop} (h : CallR X f r) (h' : CallR X f r') : CallR X f (fun xs H Q => r xs H Q ∨ r' xs H Q) := by
  intro pins s σ H xs us Q I rs q
  rcases q with q | q
  · exact h pins s σ H xs us Q I rs q
  · exact h' pins s σ H xs us Q I rs q
theorem call_list_of : CallR X (.type "list") (fun xs H Q => ∃ p ys, xs = [.ref p] ∧ (SqL X.K H p ys ∨ SqT X.K H p ys) ∧ ∀ l, H l = none → Q (.ref l) (upd H l (.lst ys))) := by
  intro pins s σ H xs us Q I r h
  obtain ⟨p, ys, rfl, hq, q⟩ := h
  obtain ⟨u, rfl, rx⟩ := vals1 r
  cases rx
  have fin : ∀ (its : List Value), Vals ys its → ys.length ≤ sizeLine → ∀ (h' : Heap) (c' : Nat), (∀ b o', s.heap.get? b = some o' → h'.get? b = some o') →
      h'.get? s.heap.objs.size = some { cls := .type "list", dict := none, data := .seq its.toArray c', slots := #[] } → EP X pins σ Q (.ref s.heap.objs.size) { s with heap := h' } := fun its r' hz h' c' kp e =>
    ⟨.ref s.heap.objs.size, _, I.laid (t' := s.toks) kp (Nat.le_refl _) (show ObjOk X.prog X.w _ h' _ (.lst ys) from ⟨hz, its, c', r', e⟩), rfl, q _ (I.hok.fresh (Nat.le_refl _))⟩
  rcases hq with hq | hq
  · obtain ⟨its, r', pl, hz⟩ := I.list hq
    have hlen := r'.length
    obtain ⟨o, ho, hc, n, hd⟩ := pl.isList
    exact call_list_seq p (.inl rfl) ho hc hd (fun h' c' kp e => fin its r' hz h' c' kp e) (by simp only [List.size_toArray] <;> omega)
  · obtain ⟨its, r', pl, hz⟩ := I.tuple hq
    have hlen := r'.length
    obtain ⟨o, ho, hc, n, hd⟩ := pl
    exact call_list_seq p (.inr rfl) ho hc hd (fun h' c' kp e => fin its r' hz h' c' kp e) (by simp only [List.size_toArray] <;> omega)
theorem call_tuple_of : CallR X (.type "tuple") (fun xs H Q => ∃ p ys, xs = [.ref p] ∧ ((SqL X.K H p ys ∧ ∀ l, H l = none → Q (.ref l) (upd H l (.tup ys))) ∨ (SqT X.K H p ys ∧ Q (.ref p) H))) := by
  intro pins s σ H xs us Q I r h
  obtain ⟨p, ys, rfl, h⟩ := h
  obtain ⟨u, rfl, rx⟩ := vals1 r
  cases rx
  rcases h with ⟨hq, q⟩ | ⟨hq, q⟩
  · obtain ⟨its, r', pl, hz⟩ := I.list hq
    have hlen := r'.length
    refine call_tuple_list pl.isList (fun h' kp => ?_) (by simp only [List.size_toArray] <;> omega)
    have I1 : Inv X pins σ H { s with heap := h' } := I.kept (t' := s.toks) kp
    have I2 : Inv X pins σ (upd H h'.objs.size (.tup ys)) { s with heap := h'.push { cls := .type "tuple", data := .seq its.toArray } } :=
      I1.laid (t' := s.toks) (fun b o e => Heap.get?_push_of_some _ e) (Nat.le_refl _) (show ObjOk X.prog X.w _ _ _ (.tup ys) from ⟨hz, its, r', IsTup.new _ _⟩)
    exact ⟨.ref h'.objs.size, _, I2, rfl, q _ (I1.hok.fresh (Nat.le_refl _))⟩
  · obtain ⟨its, r', pl, hz⟩ := I.tuple hq
    exact call_tuple_same pl ⟨.ref p, H, I, rfl, q⟩
def tyV (K : PySem.W.Frag) (T : String) (x : V) (H : Hp) : Prop := match x with
  | .str _ => T = "str"
  | .int _ => T = "int"
  | .ref p => (T = "list" ∧ ∃ xs, SqL K H p xs) ∨ (T = "tuple" ∧ ∃ o, K.lookup p = some o ∧ o.cls = .type "tuple" ∧ o.dict = none) ∨
      (T = "dict" ∧ ((∃ kvs, H p = some (.dK kvs)) ∨ ∃ kvs, H p = some (.dT kvs))) ∨ (T = "set" ∧ ∃ S n, H p = some (.set S n))
  | _ => False
theorem tyV_is {pins : List (Addr × Obj)} {σ : St} {H : Hp} {s : Shared} {T : String} {x : V} {v : Value} (I : Inv X pins σ H s) (r : RelV x v) (ty : tyV X.K T x H) :
    s.TypeIs v T ∧ ∀ a, v = .ref a → ∃ ob, s.heap.get? a = some ob ∧ ob.dict = none := by
  cases x with
  | str z =>
    obtain ⟨t, rfl⟩ := r
    cases (show T = "str" from ty)
    exact ⟨typeIs_str s z t, fun _ e => nomatch e⟩
  | int i =>
    obtain ⟨t, rfl⟩ := r
    cases (show T = "int" from ty)
    exact ⟨typeIs_int s i t, fun _ e => nomatch e⟩
  | ref p =>
    cases r
    rcases ty with ⟨rfl, xs, hq⟩ | ⟨rfl, o, hk, hc, hd⟩ | ⟨rfl, hk⟩ | ⟨rfl, S, n, hk⟩
    · obtain ⟨its, _, pl, _⟩ := I.list hq
      refine ⟨pl.isList.typeIs, fun a e => ?_⟩
      cases e
      obtain ⟨o, n, e, c, hd, _⟩ := pl
      exact ⟨o, e, hd⟩
    · refine ⟨⟨o, I.kIn p o hk, hc⟩, fun a e => ?_⟩
      cases e
      exact ⟨o, I.kIn _ o hk, hd⟩
    · have z : ∃ o, s.heap.get? p = some o ∧ o.ExactDict := by
        rcases hk with ⟨kvs, hk⟩ | ⟨kvs, hk⟩
        · obtain ⟨_, _, _, _, o, _, _, e, ex, _⟩ := I.hok p _ hk
          exact ⟨o, e, ex⟩
        · obtain ⟨_, _, _, _, o, _, _, e, ex, _⟩ := I.hok p _ hk
          exact ⟨o, e, ex⟩
      obtain ⟨o, e, ex⟩ := z
      refine ⟨⟨o, e, ex.1⟩, fun a e2 => ?_⟩
      cases e2
      exact ⟨o, e, ex.2.1⟩
    · obtain ⟨o, _, _, _, e, ex, _⟩ := I.hok p _ hk
      refine ⟨⟨o, e, ex.1⟩, fun a e2 => ?_⟩
      cases e2
      exact ⟨o, e, ex.2.1⟩
  | _ => exact False.elim ty
def tBM0 (K : PySem.W.Frag) (T : String) (r : V → List V → Hp → VK → Prop) (to : TE) : TE := fun σ H Q => to σ H fun x H1 => tyV K T x H1 ∧ r x [] H1 Q
def tBM (K : PySem.W.Frag) (T : String) (r : V → List V → Hp → VK → Prop) (to : TE) (t : TA) : TE := fun σ H Q => to σ H fun x H1 => tyV K T x H1 ∧ t σ H1 fun xs H2 => r x xs H2 Q
variable {o e : Expr} {es : List Expr} {to : TE} {t : TA} {name : Str} {apos cpos : Pos} {T id : String} {r : V → List V → Hp → VK → Prop}
theorem pe_bm0 (pa : PlainAttrs T) (slot : Slot T name id) (hty : typeOf (.builtin id) = pure (.type "method_descriptor")) (hm : MtR X id r) (ho : PE X o to)
    (hbase : attributeBase o name X.env (eval o X.env) = eval o X.env := by rfl) (hline : (apos.endLine == cpos.line) = true := by rfl) : PE X (.Call (.Attribute o name apos) [] [] cpos) (tBM0 X.K T r to) := by
  intro pins s σ H Q I h
  refine wpAny_Call_method0_late hbase hline (thn (ho pins s σ H _ I h) fun v s1 ⟨x, H1, I1, r1, ty, q1⟩ => ?_)
  obtain ⟨h1, h2⟩ := tyV_is I1 r1 ty
  exact ⟨T, id, pa, slot, hty, h1, h2, Calls.callWith_builtin rfl (PySem.evalArgs_none (hm pins s1 σ H1 x [] v [] Q I1 r1 .nil q1))⟩
theorem pe_bm (pa : PlainAttrs T) (slot : Slot T name id) (hty : typeOf (.builtin id) = pure (.type "method_descriptor")) (hm : MtR X id r) (ho : PE X o to) (ha : PA X (e :: es) t)
    (hbase : attributeBase o name X.env (eval o X.env) = eval o X.env := by rfl)
    (hfew : ((backTo cpos (starEach (e :: es) X.env)).all (fun x => !x.1) && (backToKw cpos (keywordEach [] X.env)).all (fun x => x.1.isSome)
      && decide ((e :: es).length + ([] : List Keyword).length + (if ([] : List Keyword).isEmpty then 0 else 1) < 30)) = true := by rfl)
    (hline : (apos.endLine == cpos.line) = true := by rfl) (hs : starEach (e :: es) X.env = (false, eval e X.env) :: starEach es X.env := by rfl) (hplain : (backTo cpos (starEach es X.env)).any (·.1) = false := by rfl) :
    PE X (.Call (.Attribute o name apos) (e :: es) [] cpos) (tBM X.K T r to t) := by
  intro pins s σ H Q I h
  refine wpAny_Call_method_late hbase hfew hline rfl (thn (ho pins s σ H _ I h) fun v s1 ⟨x, H1, I1, r1, ty, q1⟩ => ?_)
  obtain ⟨h1, h2⟩ := tyV_is I1 r1 ty
  refine ⟨T, id, pa, slot, hty, h1, h2, ?_⟩
  have hA := ha cpos pins s1 σ H1 _ I1 q1
  rw [hs] at hA ⊢
  refine Calls.callWith_builtin (by show (false || (backTo cpos (starEach es X.env)).any (·.1)) = false; rw [hplain] <;> rfl) (Calls.evalArgs_plain ?_)
  exact thn hA fun us s2 ⟨vs, H2, I2, r2, q2⟩ => hm pins s2 σ H2 x vs v us Q I2 r1 r2 q2
end
end L2
namespace L2
open PySem PySem.Spec PyProof.Rows
def MtM (X : Cx) (id : String) (r : V → List V → Hp → VK → Prop) : Prop :=
  ∀ (pins : List (Addr × Obj)) (s : Shared) (σ : St) (H : Hp) (x : V) (xs : List V) (v : Value) (us : List Value) (Q : VK), Inv X pins σ H s → RelV x v → Vals xs us → r x xs H Q →
    wpAny (model X.prog X.w) X.A (call (.builtin id) (v :: us)) (EP X pins σ Q) X.xe s
theorem Vals.one : ∀ {x : V} {us : List Value}, Vals [x] us → ∃ u, us = [u] ∧ RelV x u
  | _, _, .cons r .nil => ⟨_, rfl, r⟩
theorem Vals.zero : ∀ {us : List Value}, Vals [] us → us = []
  | _, .nil => rfl
theorem Vals.rep {xs : List V} {us : List Value} (h : Vals xs us) : ∀ k : Nat, Vals (List.replicate k xs).flatten (List.replicate k us).flatten
  | 0 => .nil
  | k + 1 => by
    rw [List.replicate_succ, List.replicate_succ, List.flatten_cons, List.flatten_cons]
    exact Vals.append h (Vals.rep h k)
section
variable {X : Cx} {pins : List (Addr × Obj)} {σ : St} {H : Hp} {s : Shared} {l b : Addr} {xs ys zs : List V}
theorem Inv.lset {its its' : List Value} {n : Nat} {f : Array Value → Array Value} {t' : Nat} (I : Inv X pins σ H s) (hH : H l = some (.lst xs))
    (e : s.heap.get? l = some { cls := .type "list", data := .seq its.toArray n }) (hf : f its.toArray = its'.toArray) (hv : Vals ys its') (hz : ys.length ≤ sizeLine) :
    Inv X pins σ (upd H l (.lst ys)) { s with heap := s.heap.update l (Obj.mapSeq f), toks := t' } := by
  have q := PySem.IsL.update e f
  rw [hf] at q
  refine I.write (x := l) (e := l) (by rw [hH]; exact trivial) (.inl rfl) (fun b' u hb hu => (Heap.get?_update_other s.heap (Obj.mapSeq f) (Ne.symm hb)).trans hu) ⟨_, q⟩ ?_
  exact ⟨hz, its', _, hv, q⟩
theorem Inv.lnew {its : List Value} {t' : Nat} (I : Inv X pins σ H s) (hv : Vals ys its) (hz : ys.length ≤ sizeLine) :
    Inv X pins σ (upd H s.heap.objs.size (.lst ys)) { s with heap := s.heap.push { cls := .type "list", data := .seq its.toArray }, toks := t' } :=
  I.laid (fun _ _ q => Heap.get?_push_of_some _ q) (Nat.le_refl _) ⟨hz, its, 0, hv, Heap.get?_push_size _ rfl⟩
theorem Inv.fresh (I : Inv X pins σ H s) : H s.heap.objs.size = none := I.hok.fresh (Nat.le_refl _)
theorem Inv.lstM (I : Inv X pins σ H s) (hH : H l = some (.lst xs)) : xs.length ≤ sizeLine ∧ ∃ (its : List Value) (n : Nat), Vals xs its ∧ xs.length = its.length ∧ s.heap.get? l = some { cls := .type "list", data := .seq its.toArray n } := by
  obtain ⟨z, its, n, r, e⟩ := I.hok l _ hH
  exact ⟨z, its, n, r, r.length, e⟩
theorem notLongL {n : Nat} (h : n ≤ sizeLine) : Builtin.List.listTooLong n = false := by
  unfold Builtin.List.listTooLong
  exact decide_eq_false (by omega)
end
section
variable {X : Cx}
def rAppend : V → List V → Hp → VK → Prop := fun x vs H Q => ∃ l xs y, x = .ref l ∧ vs = [y] ∧ H l = some (.lst xs) ∧ xs.length < sizeLine ∧ Q .non (upd H l (.lst (xs ++ [y])))
theorem mt_append : MtM X "list.append" rAppend := by
  intro pins s σ H x vs v us Q I rx rv h
  obtain ⟨l, xs, y, rfl, rfl, hH, hz, q⟩ := h
  cases rx
  obtain ⟨u, rfl, ru⟩ := rv.one
  obtain ⟨z, its, n, r, hl, e⟩ := I.lstM hH
  refine call_meets F.slot_list_append ⟨_, e, rfl⟩ F.entry_list_append (F.args_list_append_2 _ _) (PySem.list_append l its.toArray n u (by rw [List.size_toArray]; omega)) ⟨e, ?_⟩
  refine ⟨.non, _, I.lset (its' := its ++ [u]) hH e (by simp) (r.append (.cons ru .nil)) ?_, rfl, q⟩
  rw [List.length_append, List.length_singleton]
  omega
def rExtend : V → List V → Hp → VK → Prop := fun x vs H Q => ∃ l b xs zs, x = .ref l ∧ vs = [.ref b] ∧ H l = some (.lst xs) ∧ H b = some (.lst zs) ∧ xs.length + zs.length ≤ sizeLine ∧ Q .non (upd H l (.lst (xs ++ zs)))
theorem mt_extend : MtM X "list.extend" rExtend := by
  intro pins s σ H x vs v us Q I rx rv h
  obtain ⟨l, b, xs, zs, rfl, rfl, hH, hB, hz, q⟩ := h
  cases rx
  obtain ⟨u, rfl, ru⟩ := rv.one
  cases ru
  obtain ⟨z, its, n, r, hl, e⟩ := I.lstM hH
  obtain ⟨z2, its2, n2, r2, hl2, e2⟩ := I.lstM hB
  have hsz : its.toArray.size + its2.toArray.size ≤ sizeLine := by rw [List.size_toArray, List.size_toArray]; omega
  have hlong : ¬ (!its.toArray.isEmpty && Builtin.List.listTooLong (its.toArray.size + its2.toArray.size)) = true := by
    rw [notLongL hsz, Bool.and_false]
    exact Bool.false_ne_true
  refine call_meets F.slot_list_extend ⟨_, e, rfl⟩ F.entry_list_extend (F.args_list_extend_2 _ _)
    (AutoSeq1.list_extend_list_list_0 l its.toArray n b its2.toArray n2 hlong (by rw [List.size_toArray]; omega) (by omega)) ⟨e, e2, ?_⟩
  refine ⟨.non, _, I.lset (its' := its ++ its2) hH e (by simp) (r.append r2) ?_, rfl, q⟩
  rw [List.length_append]
  omega
end
section
variable {prog : Program} {w : World} {A : Around} {E : Value → Shared → Prop} {s : Shared}
end
section
variable {X : Cx}
end
end L2
namespace L2
open PySem PySem.Spec PyProof.Rows
section
variable {κ : Type} [DecidableEq κ]
def valV (kvs : List (κ × V)) (k : κ) : Option V := (kvs.find? fun kv => decide (kv.1 = k)).map (·.2)
def putK (kvs : List (κ × V)) (k : κ) (v : V) : List (κ × V) :=
  if (kvs.any fun kv => decide (kv.1 = k)) = true then kvs.map (fun kv => if kv.1 = k then (kv.1, v) else kv) else kvs ++ [(k, v)]
def dropK (kvs : List (κ × V)) (k : κ) : List (κ × V) := kvs.filter fun kv => decide (kv.1 ≠ k)
theorem valV_pos {p : κ × V} {r : List (κ × V)} {k : κ} (e : p.1 = k) : valV (p :: r) k = some p.2 := by simp [valV, List.find?_cons, e]
theorem valV_neg {p : κ × V} {r : List (κ × V)} {k : κ} (e : ¬ p.1 = k) : valV (p :: r) k = valV r k := by simp [valV, List.find?_cons, e]
theorem valV_any (k : κ) : ∀ kvs : List (κ × V), (kvs.any fun kv => decide (kv.1 = k)) = (valV kvs k).isSome
  | [] => rfl
  | p :: r => by
    rw [List.any_cons]
    by_cases e : p.1 = k
    · simp only [valV_pos e, decide_eq_true e, Bool.true_or, Option.isSome_some]
    · rw [valV_neg e, decide_eq_false e, Bool.false_or]; exact valV_any k r
theorem RelO.isSome_eq {o : Option V} {u : Option Value} (r : RelO o u) : o.isSome = u.isSome := by
  cases o with
  | none => cases u with
    | none => rfl
    | some _ => exact (show False from r).elim
  | some _ => cases u with
    | none => exact (show False from r).elim
    | some _ => rfl
theorem RelO.getD {o : Option V} {u : Option Value} {d : V} {d' : Value} (r : RelO o u) (rd : RelV d d') : RelV (o.getD d) (u.getD d') := by
  cases o with
  | none => cases u with
    | none => exact rd
    | some _ => exact (show False from r).elim
  | some _ => cases u with
    | none => exact (show False from r).elim
    | some _ => exact r
theorem KV.val {kvs : List (κ × V)} {vs : List (κ × Value)} (r : KV kvs vs) (k : κ) : RelO (valV kvs k) (valueAt vs k) := by
  unfold KV at r
  induction r with
  | nil => exact True.intro
  | @cons p q ps qs h t ih =>
    obtain ⟨h1, h2⟩ := h
    by_cases e : p.1 = k
    · have e' : q.1 = k := h1.symm.trans e
      have b : valueAt (q :: qs) k = some q.2 := by simp [valueAt, List.find?_cons, e']
      rw [valV_pos e, b]; exact h2
    · have e' : ¬ q.1 = k := fun z => e (h1.trans z)
      have b : valueAt (q :: qs) k = valueAt qs k := by simp [valueAt, List.find?_cons, e']
      rw [valV_neg e, b]; exact ih
theorem KV.any {kvs : List (κ × V)} {vs : List (κ × Value)} (r : KV kvs vs) (k : κ) : (kvs.any fun kv => decide (kv.1 = k)) = vs.any fun kv => decide (kv.1 = k) := by
  unfold KV at r
  induction r with
  | nil => rfl
  | cons h t ih => rw [List.any_cons, List.any_cons, ih, h.1]
theorem KV.repl {kvs : List (κ × V)} {vs : List (κ × Value)} (r : KV kvs vs) (k : κ) {y : V} {u : Value} (ry : RelV y u) :
    KV (kvs.map fun kv => if kv.1 = k then (kv.1, y) else kv) (vs.map fun kv => if kv.1 = k then (kv.1, u) else kv) := by
  unfold KV at r ⊢
  induction r with
  | nil => exact .nil
  | @cons p q ps qs h t ih =>
    rw [List.map_cons, List.map_cons]
    refine .cons ?_ ih
    obtain ⟨h1, h2⟩ := h
    by_cases e : p.1 = k
    · rw [if_pos e, if_pos (h1.symm.trans e)]; exact ⟨h1, ry⟩
    · rw [if_neg e, if_neg (fun z => e (h1.trans z))]; exact ⟨h1, h2⟩
theorem KV.put {kvs : List (κ × V)} {vs : List (κ × Value)} (r : KV kvs vs) (k : κ) {y : V} {u : Value} (ry : RelV y u) : KV (putK kvs k y) (stored vs k u) := by
  unfold putK stored
  rw [r.any k]
  by_cases e : (vs.any fun kv => decide (kv.1 = k)) = true
  · rw [if_pos e, if_pos e]; exact r.repl k ry
  · rw [if_neg e, if_neg e]; exact Paired.snoc r ⟨rfl, ry⟩
theorem KV.drop {kvs : List (κ × V)} {vs : List (κ × Value)} (r : KV kvs vs) (k : κ) : KV (dropK kvs k) (without vs k) := by
  unfold KV at r ⊢
  unfold dropK without
  induction r with
  | nil => exact .nil
  | @cons p q ps qs h t ih =>
    obtain ⟨h1, h2⟩ := h
    rw [List.filter_cons, List.filter_cons]
    by_cases e : p.1 = k
    · have a : ¬ decide (p.1 ≠ k) = true := by simp [e]
      have b : ¬ decide (q.1 ≠ k) = true := by simp [h1.symm.trans e]
      rw [if_neg a, if_neg b]; exact ih
    · have e' : ¬ q.1 = k := fun z => e (h1.trans z)
      have a : decide (p.1 ≠ k) = true := by simp [e]
      have b : decide (q.1 ≠ k) = true := by simp [e']
      rw [if_pos a, if_pos b]; exact .cons ⟨h1, h2⟩ ih
theorem KV.length {kvs : List (κ × V)} {vs : List (κ × Value)} (r : KV kvs vs) : kvs.length = vs.length := Paired.length r
end
theorem kV_is {P : Program} {w : World} {k : Key} {u : Value} (r : RelV (kV k) u) : (mixKind P w).is k u = true := by
  cases k with
  | inl i => obtain ⟨t, e⟩ := (show ∃ t, u = Value.int i t from r); subst e; exact mixKind_int P w i t
  | inr x => obtain ⟨t, e⟩ := (show ∃ t, u = Value.str x t from r); subst e; exact mixKind_str P w x t
theorem items_are {P : Program} {w : World} : ∀ {ks : List Key} {us : List Value}, Vals (ks.map kV) us → ItemsAre (mixKind P w) ks us
  | [], _, r => by rw [List.map_nil] at r; cases r; exact .nil
  | k :: ks, _, r => by
    rw [List.map_cons] at r
    cases r with
    | cons h t => exact .cons (kV_is h) (items_are t)
abbrev KT (H : Hp) : List (List Key × V) → List (List Key × Addr × Value) → Prop := Paired fun p q => p.1 = q.1 ∧ H q.2.1 = some (.tup (p.1.map kV)) ∧ RelV p.2 q.2.2
theorem KT.val {H : Hp} {kvs : List (List Key × V)} {xs : List (List Key × Addr × Value)} (r : KT H kvs xs) (k : List Key) : RelO (valV kvs k) ((atKey xs k).map (·.2)) := by
  induction r with
  | nil => exact True.intro
  | @cons p q ps qs h t ih =>
    obtain ⟨h1, _, h2⟩ := h
    by_cases e : p.1 = k
    · have e' : q.1 = k := h1.symm.trans e
      have b : atKey (q :: qs) k = some q.2 := by simp [atKey, List.find?_cons, e']
      rw [valV_pos e, b]; exact h2
    · have e' : ¬ q.1 = k := fun z => e (h1.trans z)
      have b : atKey (q :: qs) k = atKey qs k := by simp [atKey, List.find?_cons, e']
      rw [valV_neg e, b]; exact ih
theorem KT.repl {H : Hp} {kvs : List (List Key × V)} {xs : List (List Key × Addr × Value)} (r : KT H kvs xs) (k : List Key) {y : V} {u : Value} (ry : RelV y u) :
    KT H (kvs.map fun kv => if kv.1 = k then (kv.1, y) else kv) (xs.map (putAt k u)) := by
  induction r with
  | nil => exact .nil
  | @cons p q ps qs h t ih =>
    rw [List.map_cons, List.map_cons]
    refine .cons ?_ ih
    obtain ⟨h1, h2, h3⟩ := h
    unfold putAt
    by_cases e : p.1 = k
    · rw [if_pos e, if_pos (h1.symm.trans e)]; exact ⟨h1, h2, ry⟩
    · rw [if_neg e, if_neg (fun z => e (h1.trans z))]; exact ⟨h1, h2, h3⟩
theorem KT.put {H : Hp} {kvs : List (List Key × V)} {xs : List (List Key × Addr × Value)} (r : KT H kvs xs) (k : List Key) {b : Addr} {y : V} {u : Value} (hb : H b = some (.tup (k.map kV))) (ry : RelV y u) :
    KT H (putK kvs k y) (storedH xs k b u) := by
  have e : (kvs.any fun kv => decide (kv.1 = k)) = (atKey xs k).isSome := by
    rw [valV_any, (r.val k).isSome_eq, Option.isSome_map]
  unfold putK storedH
  rw [e]
  by_cases q : (atKey xs k).isSome = true
  · rw [if_pos q, if_pos q]; exact r.repl k ry
  · rw [if_neg q, if_neg q]; exact Paired.snoc r ⟨rfl, hb, ry⟩
theorem KT.keeps {H H' : Hp} {kvs : List (List Key × V)} {xs : List (List Key × Addr × Value)} (r : KT H kvs xs) (ht : ∀ b ys, H b = some (.tup ys) → H' b = some (.tup ys)) : KT H' kvs xs :=
  Paired.mapP r fun _ _ z => ⟨z.1, ht _ _ z.2.1, z.2.2⟩
section
variable {P : Program} {w : World} {H : Hp} {h : Heap} {a : Addr}
theorem rd_of {u : HO} (ok : HOk P w H h) (e : Rd H a u) : ObjOk P w H h a u := e.ok ok
theorem dk_rd {kvs : List (Key × V)} (ok : HOk P w H h) (e : Rd H a (.dK kvs)) : kvs.length ≤ sizeLine ∧ (a == sysModules) = false ∧ ∃ vs, KV kvs vs ∧ h.DictOf (mixKind P w) a vs :=
  show ObjOk P w H h a (.dK kvs) from rd_of ok e
theorem dk_of {kvs : List (Key × V)} (ok : HOk P w H h) (e : H a = some (.dK kvs)) : kvs.length ≤ sizeLine ∧ (a == sysModules) = false ∧ ∃ vs, KV kvs vs ∧ h.DictOf (mixKind P w) a vs := dk_rd ok (.inl e)
theorem key_of {ks : List Key} (ok : HOk P w H h) (e : H a = some (.tup (ks.map kV))) : (tupleKind (mixKind P w)).is h ks a := by
  obtain ⟨_, its, r, o, h1, h2, n, h3⟩ := (show ObjOk P w H h a (.tup (ks.map kV)) from ok a _ e)
  exact ⟨o, its.toArray, n, h1, h2, h3, by simpa using items_are r⟩
theorem dt_rd {kvs : List (List Key × V)} (ok : HOk P w H h) (e : Rd H a (.dT kvs)) : kvs.length ≤ sizeLine ∧ (a == sysModules) = false ∧
    ∃ xs, KT H kvs xs ∧ h.DictOfH (tupleKind (mixKind P w)) a xs := by
  obtain ⟨z, y, xs, r, o, es, ep, h1, h2, h3, h4, h5⟩ := (show ObjOk P w H h a (.dT kvs) from rd_of ok e)
  refine ⟨z, y, xs, r, o, es, ep, h1, h2, h3, h4, fun x hx => ?_, h5⟩
  have all : ∀ {l : List (List Key × V)} {m : List (List Key × Addr × Value)}, KT H l m → ∀ x ∈ m, (tupleKind (mixKind P w)).is h x.1 x.2.1 := by
    intro l m q
    induction q with
    | nil => intro x hx; exact nomatch hx
    | @cons p q ps qs hq t ih =>
      intro x hx
      rcases List.mem_cons.mp hx with e | hx
      · subst e
        exact key_of ok (by rw [← hq.1]; exact hq.2.1)
      · exact ih x hx
  exact all r x hx
end
def DGet (H : Hp) (a : Addr) (y : V) (r : Option V) : Prop :=
  (∃ kvs k, Rd H a (.dK kvs) ∧ y = kV k ∧ r = valV kvs k) ∨ ∃ kvs k b, Rd H a (.dT kvs) ∧ y = .ref b ∧ H b = some (.tup (k.map kV)) ∧ r = valV kvs k
def DPut (H : Hp) (a : Addr) (y v : V) (H' : Hp) : Prop :=
  (∃ kvs k, H a = some (.dK kvs) ∧ y = kV k ∧ kvs.length < sizeLine ∧ H' = upd H a (.dK (putK kvs k v))) ∨
  ∃ kvs k b, H a = some (.dT kvs) ∧ y = .ref b ∧ H b = some (.tup (k.map kV)) ∧ kvs.length < sizeLine ∧ H' = upd H a (.dT (putK kvs k v))
theorem DGet.k {H : Hp} {a : Addr} {kvs : List (Key × V)} {k : Key} (e : H a = some (.dK kvs)) : DGet H a (kV k) (valV kvs k) := .inl ⟨kvs, k, .inl e, rfl, rfl⟩
theorem DGet.t {H : Hp} {a b : Addr} {kvs : List (List Key × V)} {k : List Key} (e : H a = some (.dT kvs)) (eb : H b = some (.tup (k.map kV))) : DGet H a (.ref b) (valV kvs k) := .inr ⟨kvs, k, b, .inl e, rfl, eb, rfl⟩
theorem DPut.k {H : Hp} {a : Addr} {kvs : List (Key × V)} {k : Key} {v : V} (e : H a = some (.dK kvs)) (hl : kvs.length < sizeLine) : DPut H a (kV k) v (upd H a (.dK (putK kvs k v))) := .inl ⟨kvs, k, e, rfl, hl, rfl⟩
theorem DPut.t {H : Hp} {a b : Addr} {kvs : List (List Key × V)} {k : List Key} {v : V} (e : H a = some (.dT kvs)) (eb : H b = some (.tup (k.map kV))) (hl : kvs.length < sizeLine) :
    DPut H a (.ref b) v (upd H a (.dT (putK kvs k v))) := .inr ⟨kvs, k, b, e, rfl, eb, hl, rfl⟩
section
variable {X : Cx} {pins : List (Addr × Obj)} {σ : St} {H : Hp} {s : Shared} {a : Addr} {y v : V} {u r : Value} {o : Option V} {A : Around} {E : Value → Shared → Prop}
theorem d_getItem {Q : Value → Shared → Prop} (hu : A.units + 1 < cLine) (I : Inv X pins σ H s) (g : DGet H a y (some v)) (ry : RelV y u) (h : ∀ w' s', Inv X pins σ H s' → RelV v w' → Q w' s') :
    wpAny (model X.prog X.w) A (getItem (.ref a) u) Q E s := by
  rcases g with ⟨kvs, k, e, ey, l⟩ | ⟨kvs, k, b, e, ey, eb, l⟩
  · subst ey
    obtain ⟨z, hd, vs, rel, dd⟩ := dk_rd I.hok e
    obtain ⟨w', hw, rw'⟩ := RelO.some_of (v := v) (o := valueAt vs k) (by rw [l]; exact rel.val k)
    exact wpAny_getItem_of (kV_is ry) dd.mapOf hw (h w' _ (I.tok _) rw')
  · subst ey
    cases (show u = Value.ref b from ry)
    obtain ⟨z, hd, xs, rel, dd⟩ := dt_rd I.hok e
    obtain ⟨w', hw, rw'⟩ := RelO.some_of (v := v) (o := (atKey xs k).map (·.2)) (by rw [l]; exact rel.val k)
    obtain ⟨p, hp, hp2⟩ := Option.map_eq_some_iff.mp hw
    refine wpAny_getItem_heap (tupleKind_room_in1 hu) (key_of I.hok eb) dd hp ?_
    rw [hp2]
    exact h w' _ (I.tok _) rw'
theorem d_in {Q : Value → Shared → Prop} (hu : A.units + 1 < cLine) (I : Inv X pins σ H s) (g : DGet H a y o) (ry : RelV y u) (h : ∀ s', Inv X pins σ H s' → Q (.bool o.isSome) s') :
    wpAny (model X.prog X.w) A (compareOp .In u (.ref a)) Q E s := by
  rcases g with ⟨kvs, k, e, ey, l⟩ | ⟨kvs, k, b, e, ey, eb, l⟩
  · subst ey
    obtain ⟨z, hd, vs, rel, dd⟩ := dk_rd I.hok e
    refine wpAny_in_of (kV_is ry) hd dd.mapOf ?_
    rw [← (rel.val k).isSome_eq, ← l]
    exact h _ (I.tok _)
  · subst ey
    cases (show u = Value.ref b from ry)
    obtain ⟨z, hd, xs, rel, dd⟩ := dt_rd I.hok e
    refine wpAny_in_heap (tupleKind_room_in1 hu) (key_of I.hok eb) hd dd ?_
    have q := (rel.val k).isSome_eq
    rw [Option.isSome_map] at q
    rw [← q, ← l]
    exact h _ (I.tok _)
end
section
variable {X : Cx} {pins : List (Addr × Obj)} {σ : St} {H : Hp} {s : Shared} {a : Addr} {kvs : List (Key × V)} {k : Key} {u : Value} {A : Around} {E : Value → Shared → Prop}
theorem d_len {Q : Value → Shared → Prop} (I : Inv X pins σ H s) (e : Rd H a (.dK kvs)) (h : ∀ t s', Inv X pins σ H s' → Q (.int kvs.length t) s') : wpAny (model X.prog X.w) A (call (.builtin "len") [.ref a]) Q E s := by
  obtain ⟨z, hd, vs, rel, dd⟩ := dk_rd I.hok e
  refine call_len_dict hd dd (by rw [← rel.length]; rw [sizeLine_eq] at z; omega) ?_
  rw [← rel.length]
  exact h _ _ (I.tok _)
end
def NoSl (i : Expr) : Prop := ∀ ov iv, subscripted i false ov iv = operate [ov, iv] (getItem ov iv)
theorem subD_of {prog : Program} {w : World} {A : Around} {E : Value → Shared → Prop} {s : Shared} {env : Env} {value slice : Expr} {pos : Pos} {T id : String} {Q : Value → Shared → Prop}
    (hl : typeLookup (.type T) "__getitem__" = pure (some (.builtin id))) (hs : NoSl slice)
    (h : wpAny (model prog w) A (eval value env) (fun o s₁ => wpAny (model prog w) A (eval slice env) (fun i s₂ => s₂.TypeIs o T ∧ wpAny (model prog w) A (getItem o i) Q E s₂) E s₁) E s) :
    wpAny (model prog w) A (eval (.Subscript value slice pos) env) Q E s := by
  refine Subscript_ (wpAny_mono h (fun o s₁ h₁ => wpAny_mono h₁ (fun i s₂ h₂ => ?_) fun _ _ x => x) fun _ _ x => x)
  obtain ⟨hT, h₂⟩ := h₂
  unfold subscriptTail
  refine wpAny_bind ?_
  rw [getitemInPython_of_ne hT.not_modules]
  refine wpAny_bind (wpAny_specialOf hT hl ?_)
  have fin : wpAny (model prog w) A (subscripted slice false o i) (fun r s₃ => wpAny (model prog w) A (letTemporaryGo value o r >>= fun _ => pure r) Q E s₃) E s₂ := by
    rw [hs o i]
    exact wpAny_operating (wpAny_mono h₂ (fun r s₃ h₃ => wpAny_bind (wpAny_letTemporaryGo (wpAny_pure h₃))) fun _ _ x => x)
  first
    | exact wpAny_pure (wpAny_bind fin)
    | exact wpAny_bind (wpAny_pure (wpAny_bind fin))
    | exact wpAny_bind fin
theorem dict_typeIs {X : Cx} {pins : List (Addr × Obj)} {σ : St} {H : Hp} {s : Shared} {a : Addr} {y : V} {o : Option V} (I : Inv X pins σ H s) (g : DGet H a y o) : s.TypeIs (.ref a) "dict" := by
  rcases g with ⟨kvs, k, e, _, _⟩ | ⟨kvs, k, b, e, _, _, _⟩
  · obtain ⟨_, _, vs, _, dd⟩ := dk_rd I.hok e
    exact dd.typeIs
  · obtain ⟨_, _, xs, _, dd⟩ := dt_rd I.hok e
    exact dd.typeIs
def tDGet (td ty : TE) : TE := fun σ H Q => td σ H fun x H1 => ty σ H1 fun y H2 => ∃ a v, x = .ref a ∧ DGet H2 a y (some v) ∧ Q v H2
section
variable {X : Cx} {o i e value : Expr} {pos pos' tpos : Pos} {td ty tv : TE}
theorem pe_dget (hu : X.A.units + 1 < cLine) (ho : PE X o td) (hi : PE X i ty) (hs : NoSl i) : PE X (.Subscript o i pos) (tDGet td ty) := by
  intro pins s σ H Q I h
  refine subD_of PySem.F.slot_dict_getitem.lookup hs (thn (ho pins s σ H _ I h) fun u s1 ⟨x, H1, I1, rx, q1⟩ => thn (hi pins s1 σ H1 _ I1 q1) fun iv s2 ⟨y, H2, I2, ry, a, v, ex, g, q2⟩ => ?_)
  subst ex
  obtain rfl : u = Value.ref a := rx
  exact ⟨dict_typeIs I2 g, d_getItem hu I2 g ry fun w' s3 I3 rw' => ⟨v, H2, I3, rw', q2⟩⟩
end
section
variable {X : Cx} {pos : Pos}
end
structure M1 (X : Cx) (o : Expr) (m : Str) (apos : Pos) (e : Expr) (cpos : Pos) : Prop where
  base : attributeBase o m X.env (eval o X.env) = eval o X.env
  few : ((backTo cpos (starEach [e] X.env)).all (fun x => !x.1) && (backToKw cpos (keywordEach [] X.env)).all (fun x => x.1.isSome)
    && decide (([e] : List Expr).length + ([] : List Keyword).length + (if ([] : List Keyword).isEmpty then 0 else 1) < 30)) = true
  line : (apos.endLine == cpos.line) = true
  trees : backTo cpos (starEach [e] X.env) = [(false, eval e X.env)]
structure M2 (X : Cx) (o : Expr) (m : Str) (apos : Pos) (e f : Expr) (cpos : Pos) : Prop where
  base : attributeBase o m X.env (eval o X.env) = eval o X.env
  few : ((backTo cpos (starEach [e, f] X.env)).all (fun x => !x.1) && (backToKw cpos (keywordEach [] X.env)).all (fun x => x.1.isSome)
    && decide (([e, f] : List Expr).length + ([] : List Keyword).length + (if ([] : List Keyword).isEmpty then 0 else 1) < 30)) = true
  line : (apos.endLine == cpos.line) = true
  trees : backTo cpos (starEach [e, f] X.env) = [(false, eval e X.env), (false, eval f X.env)]
section
variable {X : Cx} {pins : List (Addr × Obj)} {σ : St} {H : Hp} {s : Shared} {a : Addr} {y d : V} {u r : Value} {o : Option V} {A : Around} {E : Value → Shared → Prop}
end
section
variable {X : Cx} {o e f : Expr} {apos cpos : Pos} {td ty tx : TE}
end
section
variable {X : Cx} {pins : List (Addr × Obj)} {σ : St} {H : Hp} {s : Shared} {a : Addr} {kvs : List (Key × V)} {A : Around} {E : Value → Shared → Prop}
end
section
variable {X : Cx} {pins : List (Addr × Obj)} {σ : St} {H : Hp} {s : Shared} {a : Addr} {y : V} {u : Value} {A : Around} {E : Value → Shared → Prop}
end
end L2
namespace Att
open PySem PySem.W PySem.Calls PyProof.Rows
theorem ints_of_wellAll {P : Params} {h : Heap} : ∀ (ns : List Int) (vs : List Value), WellAll P h vs (ns.map WData.int) → IntsAre vs ns := by
  intro ns
  induction ns with
  | nil =>
    intro vs w
    rw [List.map_nil] at w
    cases w
    exact .nil
  | cons n ns ih =>
    intro vs w
    rw [List.map_cons] at w
    cases w with
    | cons a b =>
      cases a
      exact .cons _ _ (ih _ b)
theorem script_of {l : OpenLaw} {n : Nat} (hn : l.most = some n) {P : Params} {h : Heap} {args : List WData} {vals : List Value}
    (hpre : l.row.toRowW.claim.pre args = true) (hwl : WellAll P h vals args) :
    ∃ a vs ns, vals = [Value.ref a] ∧ args = [WData.list (ns.map WData.int)] ∧ h.get? a = some { cls := .type "list", data := .seq vs.toArray } ∧ IntsAre vs ns ∧ ns.length ≤ n := by
  have hsh : WShape.hasAll [] args [.list .int] = true := (pre_splitW hpre).1
  have hc : l.pre.holds [] { args := args } = true := (pre_splitW hpre).2
  obtain ⟨d, r, rfl, h1, h2⟩ := hasAllW_cons hsh
  obtain rfl := hasAllW_nil h2
  obtain ⟨xs, rfl, h3⟩ := hasW_list h1
  obtain ⟨ns, rfl⟩ := items_int h3
  have hlen : ns.length ≤ n := by
    unfold OpenLaw.pre at hc
    have h4 : (WTm.not (.lt (.lit (.int (n : Int))) (.len (.arg 0)))).holds [] { args := [.list (ns.map .int)] } = true := by
      have h4 := (holds_andW hc).1
      rw [hn] at h4
      exact h4
    have h5 := condW_of h4 (w_not (w_lt w_lit (w_len_list (w_arg rfl))))
    rw [List.length_map] at h5
    refine Nat.le_of_not_lt fun q => ?_
    have q' : (n : Int) < ((ns.length : Nat) : Int) := by omega
    first
      | (rw [decide_eq_true q'] at h5; exact absurd h5 (by decide))
      | (simp at h5; omega)
  cases hwl with
  | cons w1 w2 =>
    cases w2
    cases w1 with
    | list ho hall => exact ⟨_, _, ns, rfl, rfl, ho, ints_of_wellAll ns _ hall, hlen⟩
theorem post_true (l : OpenLaw) (args : List WData) : l.row.toRowW.claim.post args (.bool true) args = true :=
  postW_of (r := l.row.toRowW) (X := (true == true))
    (show WShape.has [] (.bool true) .bool = true by first | rfl | decide | simp [WShape.has, WShape.arms, WShape.armsAll])
    (show (WTm.eq .res (.lit (.bool true))).value [] { args := args, res := some (.bool true), after := args } = some (.bool (true == true)) from w_eq_bool (w_res rfl) w_lit) rfl
theorem attach_call {l : OpenLaw} {n : Nat} {q : Program} {loose : List Str} {XP : (Str → Option Value) → Heap → Prop} {YP : World → Heap → Prop} {d : DefRec}
    (hn : l.most = some n) (hdf : d.params.defaults = [])
    (call : ∀ (w : World) (s₀ s₁ : Shared) (mg mb : Str → Option Value) (fa : Addr) (o : Obj) (pm cd doc : Value) (a : Addr) (vs : List Value) (ns : List Int),
      Ground q loose [] XP w s₀ mg mb s₁.heap → YP w s₁.heap →
      s₁.heap.get? fa = some o → o.data = .func (docDef d.name d.params d.body d.scope pm cd doc) → s₁.heap.CodeRec cd d.name → mg d.name = some (.ref fa) →
      s₁.heap.get? a = some { cls := .type "list", data := .seq vs.toArray } → IntsAre vs ns → ns.length ≤ n → s₁.gens = #[] →
      codeAny (model l.prog w) callerA (.call (.ref fa) ⟨[.ref a], []⟩) (fun r s' => r = .ok (.ret (.bool true)) ∧ OldK s₁.heap s'.heap ∧ s'.os = s₁.os ∧ AllBare s'.gens) s₁) :
    WalkO q loose XP YP l.row.toRowW d [] (fun f vs => PySem.call f vs) := by
  intro w s₀ s₁ mg mb G Y fa o pm cd doc dV kV ho hd hcd hD hmg hg args vals as hpre hlay hrd hwl hlo
  obtain rfl : dV = .none := Dflts.none hD hdf
  obtain rfl : kV = .none := Dflts.noKw hD
  obtain ⟨a, vs, ns, rfl, rfl, hobj, hints, hlen⟩ := script_of hn hpre hwl
  refine enter_call (codeAny_mono (call w s₀ s₁ mg mb fa o pm cd doc a vs ns G Y ho (fd_plain hd) hcd hmg hobj hints hlen hg) fun r s' hq => ?_)
  obtain ⟨rfl, h2, h3, h4⟩ := hq
  exact ⟨.inl ⟨.bool true, .bool true, [], rfl, fun _ => rfl, .bool true, post_true l _, fun _ => ⟨List.Pairwise.nil, fun _ hm => (nomatch hm)⟩⟩, h2, h3, h4⟩
section
variable {prog : Program} {w : World} {A : Around} {E : Value → Shared → Prop} {s : Shared} {K : Frag}
end
end Att
namespace L2
open PySem PySem.Spec PyProof.Rows
theorem vals_ints : ∀ {vs : List Value} {ns : List Int}, IntsAre vs ns → Vals (ns.map V.int) vs
  | _, _, .nil => .nil
  | _, _, .cons n t h => .cons ⟨t, rfl⟩ (vals_ints h)
def Only (H : Hp) : Prop := ∀ b, H b = none ∨ ∃ o xs, H b = some (.frz o (.lst xs))
theorem law_call {P : Program} {w : World} {K : PySem.W.Frag} {mg mb : Str → Option Value} {CX : CXT} {k : Nat} {fa a : Addr} {fd : FuncData} {x : Str} {sp : Sp} {s₁ : Shared} {vs : List Value} {ns : List Int}
    (KX : K.In s₁.heap) (hns : s₁.heap.Ns mainGlobals mg) (hb : s₁.heap.Ns builtinsNs mb) (hbb : ∀ x : Str, x ≠ "__name__" → mb x = bootBuiltins x) (hlim : s₁.heap.NoLimit) (hg : s₁.gens = #[])
    (ha : s₁.heap.get? a = some { cls := .type "list", data := .seq vs.toArray }) (hi : IntsAre vs ns) (hl : ns.length ≤ sizeLine) (hr : Room k callerA)
    (F : ∀ base : Heap, K.In base → base.Ns mainGlobals mg → FnOk P w K mg base CX k fa fd [x] sp) (hbind : ∀ (s : Shared) (u : Value), BindsTo s fd ⟨[u], []⟩ [(x, u)])
    (hsp : ∀ H : Hp, Only H → SqL K H a (ns.map V.int) → sp [.ref a] H (fun v _ => v = .bl true) fun _ _ _ => False)
    (hCX : ∀ H e s', CX [] H s₁ (fun _ _ _ => False) e s' → False) :
    codeAny (model P w) callerA (.call (.ref fa) ⟨[.ref a], []⟩) (fun r s' => r = .ok (.ret (.bool true)) ∧ OldK s₁.heap s'.heap ∧ s'.os = s₁.os ∧ AllBare s'.gens) s₁ := by
  have rv := vals_ints hi
  have lenV := hi.length
  have core : ∀ H : Hp, Only H → SqL K H a (ns.map V.int) → HOk P w H s₁.heap → (∀ b, H b ≠ none → b = a) → (H a ≠ none → K.lookup a = none) →
      codeAny (model P w) callerA (.call (.ref fa) ⟨[.ref a], []⟩) (fun r s' => r = .ok (.ret (.bool true)) ∧ OldK s₁.heap s'.heap ∧ s'.os = s₁.os ∧ AllBare s'.gens) s₁ := by
    intro H hO hS hok hA hK
    have base_of : ∀ {b : Addr} {o : Obj}, s₁.heap.get? b = some o → H b = none → (hidT s₁.heap H).get? b = some o := fun e n => hidT_get e n
    have noA : ∀ {b : Addr} {o : Obj} {es : Array DictEntry} {ep : Nat}, s₁.heap.get? b = some o → o.data = .dict es ep → H b = none := fun {b o es ep} e d => by
      cases q : H b with
      | none => rfl
      | some u =>
        have e' : b = a := hA b (by rw [q]; simp)
        subst e'
        rw [ha] at e; cases e
        have d' : Data.seq vs.toArray _ = Data.dict es ep := d
        cases d'
    have nsK : ∀ {b : Addr} {m : Str → Option Value}, s₁.heap.Ns b m → (hidT s₁.heap H).Ns b m := fun {b m} ⟨o, es, ep, e, d, r⟩ => ⟨o, es, ep, base_of e (noA e d), d, r⟩
    have hKb : K.In (hidT s₁.heap H) := fun b o e => base_of (KX b o e) (by
      cases q : H b with
      | none => rfl
      | some u =>
        have e' : b = a := hA b (by rw [q]; simp)
        subst e'
        rw [hK (by rw [q]; simp)] at e; cases e)
    have hM : Mod K mg (hidT s₁.heap H) := ⟨hKb, nsK hns, ⟨mb, nsK hb, hbb⟩, let ⟨mc, h1, h2⟩ := hlim; ⟨mc, nsK h1, h2⟩⟩
    have e0 : Env0 P w K mg (hidT s₁.heap H) callerA [] s₁ H := ⟨rfl, hM, fun b o e => of_hidT e, Nat.le_of_eq (hidT_size _ _), trivial, fun b hb => absurd (show b ∈ ([] : List Addr) from hb) (by simp), hok, .of_eq hg⟩
    refine codeAny_mono ((F _ hKb (nsK hns)).run callerA [] s₁ H ⟨[.ref a], []⟩ [.ref a] [.ref a] _ _ hr e0 (hbind s₁ (.ref a)) (.cons rfl .nil) (hsp H hO hS)) fun r s' h => ?_
    cases r with
    | error e => exact (hCX H e s' h).elim
    | ok fl =>
      cases fl with
      | next => exact False.elim h
      | brk => exact False.elim h
      | cont => exact False.elim h
      | ret u =>
        obtain ⟨v, H', os, bare, un, hok', r', q⟩ := h
        have q' : v = .bl true := q
        subst q'
        obtain rfl : u = Value.bool true := r'
        refine ⟨rfl, OldK.of_keep fun b o e => ?_, os, bare⟩
        cases q : H b with
        | none => exact un.keep b o e q (by intro z; exact absurd (show b ∈ ([] : List Addr) from z) (by simp)) (by simp)
        | some u =>
          rcases hO b with z | ⟨ob, xs, z⟩
          · rw [q] at z; cases z
          · have z2 := un.frzs b ob _ z
            obtain ⟨e1, _⟩ := hok b _ z
            obtain ⟨e2, _⟩ := hok' b _ z2
            rw [e] at e1; cases e1
            exact e2
  cases hk : K.lookup a with
  | some o =>
    have e := KX a o hk
    rw [ha] at e
    cases e
    refine core (fun _ => none) (fun _ => .inl rfl) (.inr ⟨_, vs.toArray, _, hk, rfl, rfl, rfl, by rw [List.size_toArray, lenV]; exact hl, by simpa using rv⟩) (fun b u z => by have z' : (none : Option HO) = some u := z; cases z') (fun b z => absurd rfl z) fun z => absurd rfl z
  | none =>
    refine core (fun b => if b = a then some (.frz { cls := .type "list", data := .seq vs.toArray } (.lst (ns.map V.int))) else none) (fun b => ?_) (.inl (.inr ⟨{ cls := .type "list", data := .seq vs.toArray }, if_pos rfl⟩)) (fun b u z => ?_) (fun b z => ?_) fun _ => hk
    · by_cases hb : b = a
      · exact .inr ⟨_, _, if_pos hb⟩
      · exact .inl (if_neg hb)
    · by_cases hb : b = a
      · have z' := (if_pos hb).symm.trans z
        cases z'
        subst hb
        exact ⟨ha, by rw [List.length_map]; exact hl, vs, _, rv, ha⟩
      · have z' := (if_neg hb).symm.trans z
        cases z'
    · by_cases hb : b = a
      · exact hb
      · exact absurd (if_neg hb) z
end L2
namespace L2
open PySem PySem.Spec PyProof.Rows
theorem walk_of {l : PySem.W.OpenLaw} {n k : Nat} {q : Program} {loose : List Str} {XP : (Str → Option Value) → Heap → Prop} {YP : World → Heap → Prop} {d : DefRec} {K : Params → PySem.W.Frag} {CX : World → CXT} {sp : World → Sp} {x : Str}
    (hn : l.most = some n) (hn2 : n ≤ sizeLine) (hdf : d.params.defaults = []) (hr : Room k callerA)
    (hY : ∀ (w : World) (h : Heap), YP w h → (K w.params).In h)
    (F : ∀ (w : World) (mg : Str → Option Value) (fa : Addr) (h : Heap), (K w.params).In h → h.Ns mainGlobals mg → mg d.name = some (.ref fa) →
      ∃ fd : FuncData, (∀ (s : Shared) (u : Value), BindsTo s fd ⟨[u], []⟩ [(x, u)]) ∧
        ∀ base : Heap, (K w.params).In base → base.Ns mainGlobals mg → FnOk l.prog w (K w.params) mg base (CX w) k fa fd [x] (sp w))
    (hsp : ∀ (w : World) (H : Hp) (a : Addr) (ns : List Int), ns.length ≤ n → Only H → SqL (K w.params) H a (ns.map V.int) → sp w [.ref a] H (fun v _ => v = .bl true) fun _ _ _ => False)
    (hCX : ∀ (w : World) (H : Hp) (s : Shared) (e : Value) (s' : Shared), CX w [] H s (fun _ _ _ => False) e s' → False) :
    PySem.W.WalkO q loose XP YP l.row.toRowW d [] (fun f vs => PySem.call f vs) := by
  refine Att.attach_call hn hdf fun w s₀ s₁ mg mb fa o pm cd doc a vs ns G Y ho hd hcd hmg hobj hints hlen hg => ?_
  have KX := hY w _ Y
  obtain ⟨fd, hb, hF⟩ := F w mg fa _ KX G.T.g hmg
  exact law_call KX G.T.g G.T.b G.T.builtins G.T.nolimit hg hobj hints (Nat.le_trans hlen hn2) hr hF hb (fun H hO hS => hsp w H a ns hlen hO hS) fun H e s' => hCX w H s₁ e s'
end L2
namespace L2
open PySem PySem.Spec PyProof.Rows
def defArgs (s : Stmt) : Arguments := match s with
  | .FunctionDef _ a _ _ _ _ _ _ _ _ => a
  | _ => { posonlyargs := [], args := [], vararg := none, kwonlyargs := [], kw_defaults := [], kwarg := none, defaults := [] }
def defBody (s : Stmt) : List Stmt := match s with
  | .FunctionDef _ _ b _ _ _ _ _ _ _ => b
  | _ => []
def defScope (s : Stmt) : Scope := match s with
  | .FunctionDef _ _ _ _ _ _ sc _ _ _ => sc
  | _ => { kind := .function, names := [], isGenerator := false, isCoroutine := false }
abbrev CX0 : CXT := fun _ _ _ _ _ _ => False
abbrev E0 : XK := fun _ _ _ => False
theorem pass0 {X : Cx} : Passes CX0 X E0 := fun _ _ _ _ _ _ _ h => h.elim
structure Fun (K : PySem.W.Frag) (x qual : Str) (st : Stmt) (f : Addr) (fd : FuncData) : Prop where
  ex : ∃ (oc : Value) (od : Option Addr) (kV doc pm : Value) (an : Option Addr) (cdv ct : Value) (osl : Array (Option Value)),
    fd = PySem.W.fnOf x qual (defArgs st) (defBody st) (defScope st) .none kV doc pm an cdv ct ∧ K.lookup f = some ⟨oc, od, .func fd, osl⟩ ∧ PySem.W.codeIn K cdv qual = true
  kp : PySem.W.keepIn K (.ref f) = true
section
variable {P : Program} {w : World} {K : PySem.W.Frag} {mg : Str → Option Value} {base : Heap}
theorem Fun.ok {x qual : Str} {st : Stmt} {f : Addr} {fd : FuncData} {N ps : List Str} {k : Nat} {sp : Sp} (F : Fun K x qual st f fd) (S : FnScope N ps (defScope st)) (len : ∀ vs H Q E, sp vs H Q E → vs.length = ps.length)
    (hbody : ∀ (cdv : Value) (A : Around) (outer : List Env) (s : Shared) (H : Hp) (vs : List V) (Q : VK) (E : XK), Room k (A.deeper (envOfC qual (defScope st) s.heap.objs.size f cdv)) → sp vs H Q E →
      ∃ t, PSs (cxOf CX0 P w K mg base N qual (defScope st) f cdv A outer s H E).nox (defBody st) t ∧ t { nx := fun _ H' => Q .non H', rt := Q } (start N vs) H) : FnOk P w K mg base CX0 (k + 1) f fd ps sp := by
  obtain ⟨oc, od, kV, doc, pm, an, cdv, ct, osl, rfl, lk, hcd⟩ := F.ex
  refine fn_of lk hcd S len fun A outer s H vs Q E hr hsp => ?_
  obtain ⟨t, h, q⟩ := hbody cdv A outer s H vs Q E hr hsp
  exact ⟨t, h.nox, q⟩
theorem Fun.binds {x qual : Str} {st : Stmt} {f : Addr} {fd : FuncData} {ps : List Str} (F : Fun K x qual st f fd)
    (h : ∀ (kV doc pm : Value) (an : Option Addr) (cdv ct : Value) (us : List Value), us.length = ps.length → bindArgs (PySem.W.fnOf x qual (defArgs st) (defBody st) (defScope st) .none kV doc pm an cdv ct) ⟨us, []⟩ = pure (ps.zip us)) : Binds K fd ps [] := by
  obtain ⟨oc, od, kV, doc, pm, an, cdv, ct, osl, rfl, lk, hcd⟩ := F.ex
  exact .all (h kV doc pm an cdv ct)
theorem fun_mk {x qual : Str} {st : Stmt} {f : Addr} {oc : Value} {od an : Option Addr} {osl : Array (Option Value)} {kV doc pm cdv ct : Value} (l : K.lookup f = some ⟨oc, od, .func (PySem.W.fnOf x qual (defArgs st) (defBody st) (defScope st) .none kV doc pm an cdv ct), osl⟩)
    (c : PySem.W.codeIn K cdv qual = true) (k : PySem.W.keepIn K (.ref f) = true) : Fun K x qual st f (PySem.W.fnOf x qual (defArgs st) (defBody st) (defScope st) .none kV doc pm an cdv ct) := ⟨⟨oc, od, kV, doc, pm, an, cdv, ct, osl, rfl, l, c⟩, k⟩
end
theorem small1000 {n : Nat} (h : n ≤ 1000) : n < sizeLine := Nat.lt_of_le_of_lt h (by decide)
section
variable {X : Cx}
end
theorem iteT {A B : Prop} (h : A) : if true = true then A else B := by
  rw [if_pos rfl]
  exact h
theorem ite2 {c A B : Prop} [Decidable c] (h1 : c → A) (h2 : ¬ c → B) : if c then A else B := by
  by_cases h : c
  · rw [if_pos h]
    exact h1 h
  · rw [if_neg h]
    exact h2 h
def Same (H H' : Hp) : Prop := ∀ b o, H b = some o → H' b = some o
theorem Same.refl (H : Hp) : Same H H := fun _ _ h => h
theorem Same.trans {H H1 H2 : Hp} (a : Same H H1) (b : Same H1 H2) : Same H H2 := fun c o h => b c o (a c o h)
theorem Same.free {H H' : Hp} (e : Same H H') {l : Addr} (h : H' l = Option.none) : H l = Option.none := by
  cases q : H l with
  | none => rfl
  | some o =>
    rw [e l o q] at h
    cases h
theorem Same.seq {K : PySem.W.Frag} {H H' : Hp} {a : Addr} {xs : List V} (e : Same H H') (h : SqL K H a xs) : SqL K H' a xs := by
  rcases h with (h | ⟨o, h⟩) | h
  · exact .inl (.inl (e _ _ h))
  · exact .inl (.inr ⟨o, e _ _ h⟩)
  · exact .inr h
section
variable {X : Cx}
theorem call_lenD : CallR X (.builtin "len") (fun xs H Q => ∃ a kvs, xs = [V.ref a] ∧ H a = some (.dK kvs) ∧ Q (.int kvs.length) H) := by
  intro pins s σ H xs us Q I r h
  obtain ⟨a, kvs, rfl, ha, q⟩ := h
  obtain ⟨u, rfl, ru⟩ := vals1 r
  cases ru
  exact d_len I (.inl ha) fun t s' I' => ⟨.int kvs.length, H, I', ⟨t, rfl⟩, q⟩
end
section
variable {κ : Type} [DecidableEq κ]
end
end L2
set_option Elab.async false
set_option linter.all false
set_option maxRecDepth 100000
namespace L2
open PySem PySem.Spec PyProof.Rows
section
variable {X : Cx}
def CDv (_ j : Int) : Prop := 0 < j ∧ j < 10 ^ 100
theorem op_fdivP : OpR X (binaryOp .FloorDiv) (rI CDv fun i j => .int (i / j)) := opI fun i j _ _ _ _ _ hc q => by
  have h0 : 0 < j := hc.1
  have h1 : j < 10 ^ 100 := hc.2
  refine floordiv_int (by omega) ?_ (.inl (PyProof.noPylong_of_log2 ?_))
  · rw [Int.fdiv_eq_ediv_of_nonneg _ (by omega)]
    exact q
  · have h2 : j.natAbs < 10 ^ 100 := by omega
    have h3 : (10 : Nat) ^ 100 ≤ 2 ^ 9000 := by decide +kernel
    exact (Nat.log2_lt (by omega)).mpr (Nat.lt_of_lt_of_le h2 h3)
end
structure Callee (P : Program) (w : World) (K : PySem.W.Frag) (mg : Str → Option Value) (base : Heap) (x : Str) (k : Nat) (ps : List Str) (sp : Sp) : Prop where
  ex : ∃ (f : Addr) (fd : FuncData), FnOk P w K mg base CX0 k f fd ps sp ∧ Binds K fd ps [] ∧ PySem.W.keepIn K (.ref f) = true ∧ mg x = some (.ref f)
section
variable {X : Cx} {x : Str} {k : Nat} {ps : List Str} {sp : Sp} {e : Expr} {es : List Expr} {t : TA} {p pos : Pos}
theorem pe_callF (C : Callee X.prog X.w X.K X.mg X.base x k ps sp) (hr : Room k X.A) (hg : Gl X x) (ha : PA X (e :: es) t)
    (hdb : (x == ("__debug__" : Str)) = false := by decide) (he : starEach (e :: es) X.env = (false, eval e X.env) :: starEach es X.env := by rfl) (hpl : (backTo pos (starEach es X.env)).any (·.1) = false := by rfl) :
    PE X (.Call (.Name x p) (e :: es) [] pos) (tCall sp [] E0 t) := by
  intro pins s σ H Q I h
  obtain ⟨f, fd, F, b, kp, m⟩ := C.ex
  have G : FnOk X.prog X.w X.K X.mg X.base (fun _ _ _ _ _ _ => False) k f fd ps sp := F
  exact pe_call F hr hg m kp b .nil pass0 ha hdb he hpl pins s σ H Q I h
end
end L2
namespace L2
open PySem PySem.Spec PyProof.Rows
def tCut (t u : TS) : TS := fun D σ H => ∃ J : St → Hp → Prop, t { D with nx := J } σ H ∧ ∀ σ1 H1, J σ1 H1 → u D σ1 H1
section
variable {X : Cx} {st : Stmt} {rest : List Stmt} {t u : TS}
theorem pss_cut (h1 : PS X st t) (h2 : PSs X rest u) : PSs X (st :: rest) (tCut t u) := by
  intro pins s σ H D I h
  obtain ⟨J, h, hJ⟩ := h
  refine wpAny_execs_cons (thn (h1 pins s σ H { D with nx := J } I h) fun f s1 q => ?_)
  cases f with
  | next =>
    obtain ⟨σ', H', I', q⟩ := q
    exact h2 pins s1 σ' H' D I' (hJ _ _ q)
  | ret v => exact q
  | brk => exact q
  | cont => exact q
end
section
variable {α : Type} {a b c d : α} {r : List α}
theorem atI_0 : atI (a :: r) 0 = some a := atI_nat (j := 0) rfl
theorem atI_1 : atI (a :: b :: r) 1 = some b := atI_nat (j := 1) rfl
theorem atI_2 : atI (a :: b :: c :: r) 2 = some c := atI_nat (j := 2) rfl
theorem atI_3 : atI (a :: b :: c :: d :: r) 3 = some d := atI_nat (j := 3) rfl
end
def seqAt (H : Hp) (p : Addr) : Option (List V) := match H p with
  | some (.lst xs) => some xs
  | some (.tup xs) => some xs
  | some (.frz _ (.lst xs)) => some xs
  | _ => none
theorem seqAt_lst {H : Hp} {p : Addr} {xs : List V} (h : H p = some (.lst xs)) : seqAt H p = some xs := by unfold seqAt; rw [h]
theorem seqAt_tup {H : Hp} {p : Addr} {xs : List V} (h : H p = some (.tup xs)) : seqAt H p = some xs := by unfold seqAt; rw [h]
section
variable {X : Cx}
def rIxF : R2 := fun x y H Q => ∃ p i xs v, x = .ref p ∧ y = .int i ∧ seqAt H p = some xs ∧ atI xs i = some v ∧ Q v H
theorem call_intB : CallR X (.type "int") (fun xs H Q => ∃ k, xs = [.bl k] ∧ Q (.int (if k = true then 1 else 0)) H) := by
  intro pins s σ H xs us Q I r h
  obtain ⟨k, rfl, q⟩ := h
  exact call_int1 pins s σ H _ us Q I r (.inr ⟨k, rfl, q⟩)
end
end L2
namespace L2
open PySem PySem.Spec PyProof.Rows
theorem bt_len : bootBuiltins "len" = some (.builtin "len") := by decide +kernel
theorem bt_isinstance : bootBuiltins "isinstance" = some (.builtin "isinstance") := by decide +kernel
theorem bt_max : bootBuiltins "max" = some (.builtin "max") := by decide +kernel
theorem bt_min : bootBuiltins "min" = some (.builtin "min") := by decide +kernel
theorem bt_all : bootBuiltins "all" = some (.builtin "all") := by decide +kernel
theorem bt_int : bootBuiltins "int" = some (.type "int") := by decide +kernel
theorem bt_bool : bootBuiltins "bool" = some (.type "bool") := by decide +kernel
theorem bt_str : bootBuiltins "str" = some (.type "str") := by decide +kernel
theorem bt_list : bootBuiltins "list" = some (.type "list") := by decide +kernel
theorem bt_tuple : bootBuiltins "tuple" = some (.type "tuple") := by decide +kernel
theorem bt_dict : bootBuiltins "dict" = some (.type "dict") := by decide +kernel
theorem bt_enumerate : bootBuiltins "enumerate" = some (.type "enumerate") := by decide +kernel
theorem bt_zip : bootBuiltins "zip" = some (.type "zip") := by decide +kernel
end L2
namespace L2
open PySem PySem.Spec PyProof.Rows
theorem cxK {CX : CXT} {P : Program} {w : World} {K : PySem.W.Frag} {mg : Str → Option Value} {base : Heap} {N : List Str} {qual : Str} {scope : Scope} {f : Addr} {cd : Value} {A : Around} {outer : List Env} {s : Shared} {H : Hp} {E : XK} :
    (cxOf CX P w K mg base N qual scope f cd A outer s H E).K = K := rfl
end L2
namespace L2
open PySem PySem.Spec PyProof.Rows
theorem ixN_10 : ixN 1 0 = some 0 := rfl
theorem ixN_20 : ixN 2 0 = some 0 := rfl
theorem ixN_21 : ixN 2 1 = some 1 := rfl
theorem ixN_30 : ixN 3 0 = some 0 := rfl
theorem ixN_31 : ixN 3 1 = some 1 := rfl
theorem ixN_32 : ixN 3 2 = some 2 := rfl
theorem seqAt_updL {H : Hp} {p : Addr} {xs : List V} : seqAt (upd H p (.lst xs)) p = some xs := seqAt_lst upd_same
theorem seqAt_updT {H : Hp} {p : Addr} {xs : List V} : seqAt (upd H p (.tup xs)) p = some xs := seqAt_tup upd_same
theorem atI_in {α : Type} {xs : List α} {k : Int} (h0 : 0 ≤ k) (h1 : k < (xs.length : Int)) : ∃ v, atI xs k = some v ∧ v ∈ xs := by
  have hk : k.toNat < xs.length := by omega
  have e : k = ((k.toNat : Nat) : Int) := by omega
  have q : atI xs ((k.toNat : Nat) : Int) = some xs[k.toNat] := atI_nat (List.getElem?_eq_getElem hk)
  rw [← e] at q
  exact ⟨_, q, List.getElem_mem hk⟩
theorem small_le {n : Nat} (h : n ≤ 1000) : n ≤ sizeLine := Nat.le_of_lt (small1000 h)
end L2
namespace L2
open PySem PySem.Spec PyProof.Rows
structure Shut (Q : VK) : Type where
  n : Nat
def Cal (sp : Sp) (vs : List V) (H : Hp) (Q : VK) (_ : Shut Q) (E : XK) : Prop := sp vs H Q E
theorem tCallC {sp : Sp} {dvs : List V} {E : XK} {t : TA} {σ : St} {H : Hp} {Q : VK} : tCall sp dvs E t σ H Q = t σ H (fun vs H1 => Cal sp (vs ++ dvs) H1 Q ⟨0⟩ E) := rfl
section
variable {X : Cx} {pos p1 p2 : Pos} {j1 j2 : Nat}
theorem pe_powc {a b : Int} (v : Int) (h : decide (0 ≤ b ∧ b ≤ 1000000 ∧ a.natAbs < 2 ^ 64 ∧ a ^ b.toNat = v) = true := by decide +kernel) : PE X (.BinOp (.Constant (.int a) j1 p1) .Pow (.Constant (.int b) j2 p2) pos) (tC (.int v)) := by
  intro pins s σ H Q I q
  obtain ⟨h1, h2, h3, h4⟩ := of_decide_eq_true h
  refine pe_op op_pow pe_int pe_int pins s σ H Q I ⟨a, b, rfl, rfl, ⟨h1, h2, h3⟩, ?_⟩
  show Q (V.int (a ^ b.toNat)) H
  rw [h4]
  exact q
end
end L2
namespace L2
open PySem PySem.Spec PyProof.Rows
theorem upd_none {H : Hp} {a b : Addr} {o : HO} : upd H a o b = none ↔ b ≠ a ∧ H b = none := by
  unfold upd
  by_cases h : b = a
  · simp [h]
  · simp [h]
end L2
namespace L2
open PySem PySem.Spec PyProof.Rows
def Loop (J : It) (g : TG) (tb : TS) (D : Ends) (σ : St) (H : Hp) : Prop := ∃ W : Nat → Nat → St → Hp → Prop, (∃ m, W 0 m σ H) ∧ ∀ i m σ H, W i m σ H →
  (J.stop i H ∧ D.nx σ H) ∨ (J.go i H ∧ ∃ N : St → Hp → Prop, (∀ σ' H', N σ' H' → ∃ m', m' < m ∧ W (i + 1) m' σ' H') ∧ ∀ x H', J.yld i H x H' → g x σ H' fun σ2 H2 => tb { D with nx := N, ct := N, bk := D.nx } σ2 H2)
section
variable {K : PySem.W.Frag} {ta : TA} {tl : TE} {g : TG} {tb : TS} {D : Ends} {σ : St} {H : Hp} {a : Addr} {xs : List V} {lo : Int} {n : Nat}
theorem tFor_rng1 : tFor (iRng1 ta) g tb D σ H = ta σ H (fun vs H1 => ∃ j : Int, vs = [.int j] ∧ -(2 ^ 62) ≤ j ∧ j < 2 ^ 62 ∧ Loop (Itr 0 j.toNat) g tb D σ H1) := rfl
theorem tFor_rng2 : tFor (iRng2 ta) g tb D σ H = ta σ H (fun vs H1 => ∃ i j : Int, vs = [.int i, .int j] ∧ (-(2 ^ 62) ≤ i ∧ i < 2 ^ 62 ∧ -(2 ^ 62) ≤ j ∧ j < 2 ^ 62) ∧ Loop (Itr i (j - i).toNat) g tb D σ H1) := rfl
theorem tFor_list : tFor (iList K tl) g tb D σ H = tl σ H (fun x H1 => ∃ a, x = .ref a ∧ (∃ xs, SqL K H1 a xs) ∧ Loop (Itl K a) g tb D σ H1) := rfl
theorem tFor_tup : tFor (iTup K tl) g tb D σ H = tl σ H (fun x H1 => ∃ a, x = .ref a ∧ (∃ xs, SqT K H1 a xs) ∧ Loop (Itt K a) g tb D σ H1) := rfl
theorem loop_range (Pv : Nat → St → Hp → Prop) (h0 : Pv 0 σ H)
    (hs : ∀ i σ H, i < n → Pv i σ H → g (.int (lo + i)) σ H fun σ2 H2 => tb { D with nx := Pv (i + 1), ct := Pv (i + 1), bk := D.nx } σ2 H2) (hd : ∀ σ H, Pv n σ H → D.nx σ H) : Loop (Itr lo n) g tb D σ H := for_range Pv h0 hs hd
end
end L2
set_option Elab.async false
set_option linter.all false
set_option maxRecDepth 100000
namespace L2
open PySem PySem.Spec PyProof.Rows
structure JE (X : Cx) (e : Expr) (t : TE) : Prop where h : PE X e t
structure JT (X : Cx) (e : Expr) (t : TT) : Prop where h : PT X e t
structure JW (X : Cx) (e : Expr) (t : TT) : Prop where h : PW X e t
structure JA (X : Cx) (es : List Expr) (t : TA) : Prop where h : PA X es t
structure JS (X : Cx) (st : Stmt) (t : TS) : Prop where h : PS X st t
structure JB (X : Cx) (st : List Stmt) (t : TS) : Prop where h : PSs X st t
structure JG (X : Cx) (e : Expr) (t : TG) : Prop where h : PG X e t
structure JGs (X : Cx) (es : List Expr) (t : TGs) : Prop where h : PGs X es t
structure JI (X : Cx) (tg e : Expr) (t : TI) : Prop where h : PI X tg e t
structure JO (X : Cx) (e : Option Expr) (t : TO) : Prop where h : PO X e t
section
variable {X : Cx} {a b c e o : Expr} {es rest : List Expr} {ta tb tc te to : TE} {t tl : TA} {tA tB' : TT} {pos p p' : Pos} {st : Stmt} {sts sts' : List Stmt} {u v : TS}
theorem ev (i : Nat) {x : Str} (hN : X.N[i]? = some x := by rfl) (hv : Vis X.env.scope x := by first | exact Or.inl rfl | exact Or.inr (Or.inl rfl) | exact Or.inr (Or.inr rfl)) (hd : (x == ("__debug__" : Str)) = false := by decide)
    (hcd : (x == ("__classdict__" : Str)) = false := by decide) : JE X (.Name x pos) (tVar i) := ⟨pe_var hN hv hd hcd⟩
theorem ei {i j} : JE X (.Constant (.int i) j pos) (tC (.int i)) := ⟨pe_int⟩
theorem ebl {b j} : JE X (.Constant (.bool b) j pos) (tC (.bl b)) := ⟨pe_bl⟩
theorem enon {j} : JE X (.Constant .none j pos) (tC .non) := ⟨pe_non⟩
theorem estr {x j} : JE X (.Constant (.str x) j pos) (tC (.str x)) := ⟨pe_str⟩
theorem eglob {x : Str} {v : V} {u : Value} (hg : Gl X x) (hm : X.mg x = some u) (r : RelV v u) (hd : (x == ("__debug__" : Str)) = false := by decide) : JE X (.Name x pos) (tC v) := ⟨pe_glob hg hm r hd⟩
theorem etyp {x : Str} {n : String} (hg : Gl X x) (hm : X.mg x = none) (hv : bootBuiltins x = some (.type n)) (hn : x ≠ "__name__" := by decide) (hd : (x == ("__debug__" : Str)) = false := by decide) : JE X (.Name x pos) (tC (.ty n)) := ⟨pe_bltn hg hm hv rfl hn hd⟩
theorem eop {op : Operator} {r : R2} (ho : OpR X (binaryOp op) r) (ha : JE X a ta) (hb : JE X b tb) : JE X (.BinOp a op b pos) (tOp r ta tb) := ⟨pe_op ho ha.h hb.h⟩
theorem epowc {a b : Int} {j1 j2 : Nat} {p1 p2 : Pos} (v : Int) (h : decide (0 ≤ b ∧ b ≤ 1000000 ∧ a.natAbs < 2 ^ 64 ∧ a ^ b.toNat = v) = true := by decide +kernel) : JE X (.BinOp (.Constant (.int a) j1 p1) .Pow (.Constant (.int b) j2 p2) pos) (tC (.int v)) := ⟨pe_powc v h⟩
theorem enot (ha : JE X a ta) : JE X (.UnaryOp .Not a pos) (tNotV ta) := ⟨pe_not ha.h⟩
theorem eone {op} (h : JE X a ta) : JE X (.BoolOp op [a] pos) ta := ⟨pe_one h.h⟩
theorem eand (ha : JE X a ta) (hb : JE X (.BoolOp .And (b :: rest) pos) tb) : JE X (.BoolOp .And (a :: b :: rest) pos) (tAndV ta tb) := ⟨pe_and ha.h hb.h⟩
theorem eif (hc : JT X c tA) (ha : JE X a ta) (hb : JE X b tb) : JE X (.IfExp c a b pos) (tIf tA ta tb) := ⟨pe_ifExp hc.h ha.h hb.h⟩
theorem ecmp {op : CmpOp} {r : R2} (ho : OpR X (compareOp op) r) (ha : JE X a ta) (hb : JE X b tb) (hm : behindInMarks op b = false) : JE X (.Compare a [op] [b] pos) (tOp r ta tb) := ⟨pe_cmpR ho ha.h hb.h hm⟩
theorem echain {op op' : CmpOp} {r r' : R2} (ho : OpR X (compareOp op) r) (ho' : OpR X (compareOp op') r') (ha : JE X a ta) (hb : JE X b tb) (hc : JE X c tc)
    (hm : lastMarks [op, op'] [b, c] = false := by with_unfolding_all rfl) : JE X (.Compare a [op, op'] [b, c] pos) (tChain r r' ta tb tc) := ⟨pe_chain ho ho' ha.h hb.h hc.h hm⟩
theorem eix {r : R2} (hr : IxR X r) (ha : JE X a ta) (hb : JE X b tb) (hs : PlainIx b) : JE X (.Subscript a b pos) (tOp r ta tb) := ⟨pe_ix hr ha.h hb.h hs⟩
theorem eslice {r : V → Option Int → Option Int → Hp → VK → Prop} {lo hi : Option Expr} {tl th : TO} (hr : SlR X r) (he : JE X e te) (hl : JO X lo tl) (hu : JO X hi th) : JE X (.Subscript e (.Slice lo hi none p) pos) (tSl r te tl th) := ⟨pe_slice hr he.h hl.h hu.h⟩
theorem ecall {x : Str} {k : Nat} {ps : List Str} {sp : Sp} (C : Callee X.prog X.w X.K X.mg X.base x k ps sp) (hr : Room k X.A) (hg : Gl X x) (ha : JA X (e :: es) t)
    (hdb : (x == ("__debug__" : Str)) = false := by decide) (he : starEach (e :: es) X.env = (false, eval e X.env) :: starEach es X.env := by rfl) (hpl : (backTo pos (starEach es X.env)).any (·.1) = false := by rfl) :
    JE X (.Call (.Name x p) (e :: es) [] pos) (tCall sp [] E0 t) := ⟨pe_callF C hr hg ha.h hdb he hpl⟩
theorem ecallB {x : Str} {id : String} {r : List V → Hp → VK → Prop} (hc : CallR X (.builtin id) r) (hg : Gl X x) (hm : X.mg x = none) (hv : bootBuiltins x = some (.builtin id)) (ha : JA X (e :: es) t) (hn : x ≠ "__name__" := by decide) (hdb : (x == ("__debug__" : Str)) = false := by decide)
    (he : starEach (e :: es) X.env = (false, eval e X.env) :: starEach es X.env := by rfl) (hpl : (backTo pos (starEach es X.env)).any (·.1) = false := by rfl) : JE X (.Call (.Name x p) (e :: es) [] pos) (tCB r t) := ⟨pe_callB hc hg hm hv ha.h hn hdb he hpl⟩
theorem ecallTy {x : Str} {T : String} {r : List V → Hp → VK → Prop} (hc : CallR X (.type T) r) (hg : Gl X x) (hm : X.mg x = none) (hv : bootBuiltins x = some (.type T)) (ha : JA X (e :: es) t) (hn : x ≠ "__name__" := by decide) (hdb : (x == ("__debug__" : Str)) = false := by decide)
    (he : starEach (e :: es) X.env = (false, eval e X.env) :: starEach es X.env := by rfl) (hpl : (backTo pos (starEach es X.env)).any (·.1) = false := by rfl) : JE X (.Call (.Name x p) (e :: es) [] pos) (tCB r t) := ⟨pe_callTy hc hg hm hv ha.h hn hdb he hpl⟩
theorem ebm0 {T id : String} {name : Str} {r : V → List V → Hp → VK → Prop} {apos cpos : Pos} (pa : PlainAttrs T) (slot : Slot T name id) (hty : typeOf (.builtin id) = pure (.type "method_descriptor")) (hm : MtR X id r) (ho : JE X o to)
    (hbase : attributeBase o name X.env (eval o X.env) = eval o X.env := by rfl) (hline : (apos.endLine == cpos.line) = true := by rfl) : JE X (.Call (.Attribute o name apos) [] [] cpos) (tBM0 X.K T r to) := ⟨pe_bm0 pa slot hty hm ho.h hbase hline⟩
theorem ebm {T id : String} {name : Str} {r : V → List V → Hp → VK → Prop} {apos cpos : Pos} (pa : PlainAttrs T) (slot : Slot T name id) (hty : typeOf (.builtin id) = pure (.type "method_descriptor")) (hm : MtR X id r) (ho : JE X o to) (ha : JA X (e :: es) t)
    (hbase : attributeBase o name X.env (eval o X.env) = eval o X.env := by rfl)
    (hfew : ((backTo cpos (starEach (e :: es) X.env)).all (fun x => !x.1) && (backToKw cpos (keywordEach [] X.env)).all (fun x => x.1.isSome)
      && decide ((e :: es).length + ([] : List Keyword).length + (if ([] : List Keyword).isEmpty then 0 else 1) < 30)) = true := by rfl)
    (hline : (apos.endLine == cpos.line) = true := by rfl) (hs : starEach (e :: es) X.env = (false, eval e X.env) :: starEach es X.env := by rfl) (hplain : (backTo cpos (starEach es X.env)).any (·.1) = false := by rfl) :
    JE X (.Call (.Attribute o name apos) (e :: es) [] cpos) (tBM X.K T r to t) := ⟨pe_bm pa slot hty hm ho.h ha.h hbase hfew hline hs hplain⟩
theorem anil : JA X [] tNil := ⟨pa_nil⟩
theorem acons (ha : JE X e te) (hr : JA X es t) (hs : starEach (e :: es) X.env = (false, eval e X.env) :: starEach es X.env := by rfl) : JA X (e :: es) (tCons te t) := ⟨pa_cons ha.h hr.h hs⟩
theorem tcmp {op : CmpOp} {r : R2} (ho : OpR X (compareOp op) r) (ha : JE X a ta) (hb : JE X b tb) (hm : behindInMarks op b = false) : JT X (.Compare a [op] [b] pos) (tTest (tOp r ta tb)) := ⟨pt_cmpR ho ha.h hb.h hm⟩
theorem tval (h : JE X e te) (he : ∀ whole, isTrue e X.env whole = (do let v ← whole; standAt e.pos; holding [v] (truthy v)) := by intro _; rfl) : JT X e (tB te) := ⟨pt_val h.h he⟩
theorem ttruth (ha : JE X a ta) (he : ∀ whole, isTrue a X.env whole = (do let v ← whole; standAt a.pos; holding [v] (truthy v))) :
    JT X a (fun σ H Q => ta σ H fun x H' => ∃ k, TruV X.K x H' k ∧ Q k H') := ⟨pt_truth ha.h he⟩
theorem tnot (ha : JT X a tA) : JT X (.UnaryOp .Not a pos) (tNot tA) := ⟨pt_not ha.h⟩
theorem tw (h : JW X e tA) : JT X e tA := ⟨PW.pt h.h⟩
theorem wand1 (ha : JT X a tA) : JW X (.BoolOp .And [a] pos) tA := ⟨pw_and1 ha.h⟩
theorem wor1 (ha : JT X a tA) : JW X (.BoolOp .Or [a] pos) tA := ⟨pw_or1 ha.h⟩
theorem wand (ha : JT X a tA) (hb : JW X (.BoolOp .And (b :: rest) pos) tB') : JW X (.BoolOp .And (a :: b :: rest) pos) (tAnd tA tB') := ⟨pw_and ha.h hb.h⟩
theorem wor (ha : JT X a tA) (hb : JW X (.BoolOp .Or (b :: rest) pos) tB') : JW X (.BoolOp .Or (a :: b :: rest) pos) (tOr tA tB') := ⟨pw_or ha.h hb.h⟩
theorem bnil : JB X [] tNext := ⟨pss_nil⟩
theorem bcons (h1 : JS X st u) (h2 : JB X sts v) : JB X (st :: sts) (tSeq u v) := ⟨pss_cons h1.h h2.h⟩
theorem bone (h1 : JS X st u) : JB X [st] u := ⟨pss_one h1.h⟩
theorem bcut (h1 : JS X st u) (h2 : JB X sts v) : JB X (st :: sts) (tCut u v) := ⟨pss_cut h1.h h2.h⟩
theorem sexpr (he : JE X e te) (hs : swapsWith e none pos.line X.env = pure false := by rfl) : JS X (.Expr e pos) (tDrop te) := ⟨ps_expr he.h hs⟩
theorem sret (he : JE X e te) : JS X (.Return (some e) pos) (tRet te) := ⟨ps_ret he.h⟩
theorem sif (hc : JT X c tA) (ha : JB X sts u) (hb : JB X sts' v) : JS X (.If c sts sts' pos) (tIfS tA u v) := ⟨ps_if hc.h ha.h hb.h⟩
theorem sset {i : Nat} {x : Str} (hN : X.N.Nodup) (hi : X.N[i]? = some x) (hx : Loc X.env.scope x) (he : JE X e te) (hs : swapsWith e (some (.Name x p)) pos.line X.env = pure false := by rfl) (hf : X.fn x = true ∨ X.env.scope.names.lookup x = some .local := by first | exact .inl rfl | exact .inr rfl | assumption) :
    JS X (.Assign [.Name x p] e pos) (tAsg te (gName i)) := ⟨ps_set hN hi hx he.h hs hf⟩
theorem sasg {tg : Expr} {g : TG} (he : JE X e te) (hg : JG X tg g) (hs : swapsWithSole [tg] e pos.line X.env = pure false := by rfl) (hw : swappedStores [tg] e X.env = pure none := by rfl)
    (h1 : (assignEach [tg] X.env).map (·.2) = [assign tg X.env] := by rfl) : JS X (.Assign [tg] e pos) (tAsg te g) := ⟨ps_asg he.h hg.h hs hw h1⟩
theorem sfor {tg iter : Expr} {wi : TI} {g : TG} (hp : PassesOwn (model X.prog X.w) X.A X.env X.xe) (hc : X.calm = true) (hi : JI X tg iter wi) (hg : JG X tg g) (hb : JB X sts u)
    (hs : ∀ x, foldedSetIterable iter X.env x = pure x := by intro _; rfl) : JS X (.For tg iter sts [] pos) (tFor wi g u) := ⟨ps_for hp hc hi.h hg.h hb.h hs⟩
theorem gname {i : Nat} {x : Str} (hN : X.N.Nodup) (hi : X.N[i]? = some x) (hx : Loc X.env.scope x) (hf : X.fn x = true ∨ X.env.scope.names.lookup x = some .local := by first | exact .inl rfl | exact .inr rfl | assumption) : JG X (.Name x pos) (gName i) := ⟨pg_name hN hi hx hf⟩
theorem gsub {i : Expr} {ti : TE} {t : TSet} (ho : JE X o to) (hi : JE X i ti) (hs : PSet X t)
    (ha : ∀ v, assign (.Subscript o i pos) X.env v = (do
      let ov ← holding [v] (eval o X.env)
      let iv ← holding [v, ov] (eval i X.env)
      standAt pos
      holding [v, ov, iv] (setItem ov iv v)
      release [v, ov, iv] []) := by intro _; rfl) : JG X (.Subscript o i pos) (gSub to ti t) := ⟨pg_sub ho.h hi.h hs ha⟩
theorem gnil : JGs X [] gNil := ⟨pgs_nil⟩
theorem gcons {t : TG} {u : TGs} (h1 : JG X e t) (h2 : JGs X es u) (hs : (assignEach (e :: es) X.env).map (·.2) = assign e X.env :: (assignEach es X.env).map (·.2) := by rfl) : JGs X (e :: es) (gCons t u) := ⟨pgs_cons h1.h h2.h hs⟩
theorem irange1 {tg : Expr} (hg : Gl X "range") (hm : X.mg "range" = none) (ha : JA X [a] t) (hs : starEach [a] X.env = [(false, eval a X.env)] := by rfl) : JI X tg (.Call (.Name "range" p) [a] [] pos) (iRng1 t) := ⟨pi_range1 hg hm ha.h hs⟩
theorem ilist {tg l : Expr} (hl : JE X l te) : JI X tg l (iList X.K te) := ⟨pi_list hl.h⟩
theorem itup {tg l : Expr} (hl : JE X l te) : JI X tg l (iTup X.K te) := ⟨pi_tup hl.h⟩
theorem onone : JO X none tNoPart := ⟨po_none⟩
theorem osome (h : JE X e te) : JO X (some e) (tPart te) := ⟨po_some h.h⟩
end
section
variable {P : Program} {w : World} {K : PySem.W.Frag} {mg : Str → Option Value} {base : Heap}
theorem Fun.okJ {x qual : Str} {st : Stmt} {f : Addr} {fd : FuncData} {N ps : List Str} {k : Nat} {sp : Sp} (F : Fun K x qual st f fd) (S : FnScope N ps (defScope st)) (len : ∀ vs H Q E, sp vs H Q E → vs.length = ps.length)
    (hbody : ∀ (cdv : Value) (A : Around) (outer : List Env) (s : Shared) (H : Hp) (vs : List V) (Q : VK) (E : XK), Room k (A.deeper (envOfC qual (defScope st) s.heap.objs.size f cdv)) → sp vs H Q E →
      ∃ t, JB (cxOf CX0 P w K mg base N qual (defScope st) f cdv A outer s H E).nox (defBody st) t ∧ t { nx := fun _ H' => Q .non H', rt := Q } (start N vs) H) : FnOk P w K mg base CX0 (k + 1) f fd ps sp :=
  F.ok S len fun cdv A outer s H vs Q E hr h => let ⟨t, a, b⟩ := hbody cdv A outer s H vs Q E hr h; ⟨t, a.h, b⟩
end
end L2
set_option Elab.async false
set_option linter.all false
set_option maxRecDepth 100000
namespace L2
open PySem PySem.Spec PyProof.Rows
mutual
def Is (K : PySem.W.Frag) (H : Hp) : PyData → V → Prop
  | .none, v => v = .non
  | .bool b, v => v = .bl b
  | .int i, v => v = .int i
  | .str x, v => v = .str x
  | .list ds, v => ∃ a vs, v = .ref a ∧ SqL K H a vs ∧ IsAll K H ds vs
  | .tuple ds, v => ∃ a vs, v = .ref a ∧ SqT K H a vs ∧ IsAll K H ds vs
  | .dict _, _ => False
def IsAll (K : PySem.W.Frag) (H : Hp) : List PyData → List V → Prop
  | [], vs => vs = []
  | d :: ds, vs => ∃ v r, vs = v :: r ∧ Is K H d v ∧ IsAll K H ds r
end
section
variable {X : Cx} {pins : List (Addr × Obj)} {σ : St} {H : Hp} {s : Shared}
mutual
theorem Is.reads (I : Inv X pins σ H s) : ∀ {d : PyData} {v : V} {u : Value}, Is X.K H d v → RelV v u → ∃ as, Reads s.heap u d as
  | .none, v, u, h, r => by unfold Is at h; subst h; cases r; exact ⟨_, .none⟩
  | .bool b, v, u, h, r => by unfold Is at h; subst h; cases r; exact ⟨_, .bool b⟩
  | .int i, v, u, h, r => by unfold Is at h; subst h; obtain ⟨t, rfl⟩ := r; exact ⟨_, .int i t⟩
  | .str x, v, u, h, r => by unfold Is at h; subst h; obtain ⟨t, rfl⟩ := r; exact ⟨_, .str x t⟩
  | .list ds, v, u, h, r => by
    unfold Is at h
    obtain ⟨a, vs, rfl, hs, ha⟩ := h
    cases r
    obtain ⟨its, rv, ⟨o, n, e, hc, _, hd⟩, _⟩ := I.list hs
    obtain ⟨as, q⟩ := IsAll.reads I ha rv
    exact ⟨_, .list e hc hd (by simpa using q)⟩
  | .tuple ds, v, u, h, r => by
    unfold Is at h
    obtain ⟨a, vs, rfl, hs, ha⟩ := h
    cases r
    obtain ⟨its, rv, ⟨o, e, hc, n, hd⟩, _⟩ := I.tuple hs
    obtain ⟨as, q⟩ := IsAll.reads I ha rv
    exact ⟨_, .tuple e hc hd (by simpa using q)⟩
  | .dict _, v, u, h, r => by unfold Is at h; exact h.elim
theorem IsAll.reads (I : Inv X pins σ H s) : ∀ {ds : List PyData} {vs : List V} {us : List Value}, IsAll X.K H ds vs → Vals vs us → ∃ as, ReadsAll s.heap us ds as
  | [], vs, us, h, r => by unfold IsAll at h; subst h; cases r; exact ⟨_, .nil⟩
  | d :: ds, vs, us, h, r => by
    unfold IsAll at h
    obtain ⟨v, rs, rfl, h1, h2⟩ := h
    cases r with
    | cons r1 r2 =>
      obtain ⟨as, q1⟩ := Is.reads I h1 r1
      obtain ⟨bs, q2⟩ := IsAll.reads I h2 r2
      exact ⟨_, .cons q1 q2⟩
end
end
section
variable {X : Cx}
def rEqD (K : PySem.W.Frag) (neg : Bool) : R2 := fun x y H Q => ∃ d e, Is K H d x ∧ Is K H e y ∧ SeqAt.shaped d = true ∧ SeqAt.shaped e = true ∧ Q (.bl (if neg = true then !PyData.eqv d e else PyData.eqv d e)) H
theorem op_eqD (hu : X.A.units + 64 < cLine) : OpR X (compareOp .Eq) (rEqD X.K false) := by
  intro pins s σ H x y v u Q I rx ry h
  obtain ⟨d, e, hd, he, sd, se, q⟩ := h
  obtain ⟨as, ra⟩ := hd.reads I rx
  obtain ⟨bs, rb⟩ := he.reads I ry
  exact SeqAt.compareEq_shaped ra rb sd se hu ⟨.bl _, H, I, rfl, q⟩
theorem op_neD (hu : X.A.units + 64 < cLine) : OpR X (compareOp .NotEq) (rEqD X.K true) := by
  intro pins s σ H x y v u Q I rx ry h
  obtain ⟨d, e, hd, he, sd, se, q⟩ := h
  obtain ⟨as, ra⟩ := hd.reads I rx
  obtain ⟨bs, rb⟩ := he.reads I ry
  exact SeqAt.compareNe_shaped ra rb sd se hu ⟨.bl _, H, I, rfl, q⟩
end
mutual
def nob : PyData → Bool
  | .none => true
  | .bool _ => false
  | .int _ => true
  | .str _ => true
  | .list ds => nobAll ds
  | .tuple ds => nobAll ds
  | .dict _ => false
def nobAll : List PyData → Bool
  | [] => true
  | d :: ds => nob d && nobAll ds
end
mutual
theorem eqv_iff : ∀ {d e : PyData}, nob d = true → nob e = true → (PyData.eqv d e = true ↔ d = e)
  | .none, e, hd, he => by cases e <;> simp [PyData.eqv]
  | .bool _, e, hd, he => by simp [nob] at hd
  | .int i, e, hd, he => by cases e <;> simp [PyData.eqv, nob] at *
  | .str x, e, hd, he => by cases e <;> simp [PyData.eqv, nob] at *
  | .list ds, e, hd, he => by
    cases e with
    | list es =>
      simp only [nob] at hd he
      simp only [PyData.eqv, PyData.list.injEq]
      exact eqvAll_iff hd he
    | _ => simp [PyData.eqv]
  | .tuple ds, e, hd, he => by
    cases e with
    | tuple es =>
      simp only [nob] at hd he
      simp only [PyData.eqv, PyData.tuple.injEq]
      exact eqvAll_iff hd he
    | _ => simp [PyData.eqv]
  | .dict _, e, hd, he => by simp [nob] at hd
theorem eqvAll_iff : ∀ {ds es : List PyData}, nobAll ds = true → nobAll es = true → (PyData.eqvAll ds es = true ↔ ds = es)
  | [], es, _, _ => by cases es <;> simp [PyData.eqvAll]
  | d :: ds, es, hd, he => by
    cases es with
    | nil => simp [PyData.eqvAll]
    | cons e es =>
      simp only [nobAll, Bool.and_eq_true] at hd he
      simp only [PyData.eqvAll, Bool.and_eq_true, List.cons.injEq]
      rw [eqv_iff hd.1 he.1, eqvAll_iff hd.2 he.2]
end
mutual
theorem Is.same {K : PySem.W.Frag} {H H' : Hp} (h : Same H H') : ∀ {d : PyData} {v : V}, Is K H d v → Is K H' d v
  | .none, v, q => by unfold Is at q ⊢; exact q
  | .bool b, v, q => by unfold Is at q ⊢; exact q
  | .int i, v, q => by unfold Is at q ⊢; exact q
  | .str x, v, q => by unfold Is at q ⊢; exact q
  | .list ds, v, q => by
    unfold Is at q ⊢
    obtain ⟨a, vs, e, hs, ha⟩ := q
    exact ⟨a, vs, e, h.seq hs, IsAll.same h ha⟩
  | .tuple ds, v, q => by
    unfold Is at q ⊢
    obtain ⟨a, vs, e, hs, ha⟩ := q
    refine ⟨a, vs, e, ?_, IsAll.same h ha⟩
    rcases hs with (hs | ⟨o, hs⟩) | hs
    · exact .inl (.inl (h _ _ hs))
    · exact .inl (.inr ⟨o, h _ _ hs⟩)
    · exact .inr hs
  | .dict _, v, q => by unfold Is at q; exact q.elim
theorem IsAll.same {K : PySem.W.Frag} {H H' : Hp} (h : Same H H') : ∀ {ds : List PyData} {vs : List V}, IsAll K H ds vs → IsAll K H' ds vs
  | [], vs, q => by unfold IsAll at q ⊢; exact q
  | d :: ds, vs, q => by
    unfold IsAll at q ⊢
    obtain ⟨v, r, e, h1, h2⟩ := q
    exact ⟨v, r, e, Is.same h h1, IsAll.same h h2⟩
end
end L2
set_option Elab.async false
set_option linter.all false
set_option maxRecDepth 100000
namespace L2
open PySem PySem.Spec PyProof.Rows
theorem absV_rel : ∀ {u : Value} {x : V}, absV u = some x → RelV x u := by
  intro u x h
  cases u <;> simp only [absV, Option.some.injEq] at h <;> first | (subst h; first | rfl | exact ⟨_, rfl⟩) | cases h
theorem absV_all : ∀ {us : List Value} {xs : List V}, us.mapM absV = some xs → Vals xs us := by
  intro us
  induction us with
  | nil => intro xs h; simp at h; subst h; exact .nil
  | cons u us ih =>
    intro xs h
    rw [List.mapM_cons] at h
    cases e1 : absV u with
    | none => rw [e1] at h; simp at h
    | some x =>
      cases e2 : us.mapM absV with
      | none => rw [e1, e2] at h; simp at h
      | some ys =>
        rw [e1, e2] at h
        simp at h
        subst h
        exact .cons (absV_rel e1) (ih e2)
def kTup (K : PySem.W.Frag) (a : Addr) : Option (List V) := match K.lookup a with
  | some ⟨.type n, _, .seq its _, _⟩ => if n = "tuple" then (if its.size ≤ sizeLine then its.toList.mapM absV else none) else none
  | _ => none
theorem kTup_sq {K : PySem.W.Frag} {H : Hp} {a : Addr} {xs : List V} (h : kTup K a = some xs) : SqT K H a xs := by
  unfold kTup at h
  split at h
  · next n dd its k sl e =>
    by_cases h1 : n = "tuple"
    · rw [if_pos h1] at h
      by_cases h2 : its.size ≤ sizeLine
      · rw [if_pos h2] at h
        subst h1
        exact .inr ⟨_, its, k, e, rfl, rfl, h2, absV_all h⟩
      · rw [if_neg h2] at h; cases h
    · rw [if_neg h1] at h; cases h
  · cases h
def tupQ (K : PySem.W.Frag) (H : Hp) (a : Addr) : Option (List V) := match H a with
  | some (.tup xs) => some xs
  | some _ => none
  | none => kTup K a
def seqQ (K : PySem.W.Frag) (H : Hp) (a : Addr) : Option (List V) := match H a with
  | some (.lst xs) => some xs
  | some (.tup xs) => some xs
  | some (.frz _ (.lst xs)) => some xs
  | some _ => none
  | none => kTup K a
section
variable {K : PySem.W.Frag} {H H' : Hp} {a b : Addr} {xs : List V} {o : HO}
theorem tupQ_sq (h : tupQ K H a = some xs) : SqT K H a xs := by
  unfold tupQ at h
  split at h
  · next e => cases h; exact .inl (.inl e)
  · cases h
  · exact kTup_sq h
theorem seqQ_sq (h : seqQ K H a = some xs) : SqL K H a xs ∨ SqT K H a xs := by
  unfold seqQ at h
  split at h
  · next e => cases h; exact .inl (.inl (.inl e))
  · next e => cases h; exact .inr (.inl (.inl e))
  · next e => cases h; exact .inl (.inl (.inr ⟨_, e⟩))
  · cases h
  · exact .inr (kTup_sq h)
theorem seqQ_T (h : tupQ K H a = some xs) : seqQ K H a = some xs := by
  unfold tupQ at h
  unfold seqQ
  split at h
  · next e => rw [e]; exact h
  · cases h
  · next e => rw [e]; exact h
theorem seqQ_lst (h : H a = some (.lst xs)) : seqQ K H a = some xs := by unfold seqQ; rw [h]
theorem seqQ_tup (h : H a = some (.tup xs)) : seqQ K H a = some xs := by unfold seqQ; rw [h]
theorem tupQ_tup (h : H a = some (.tup xs)) : tupQ K H a = some xs := by unfold tupQ; rw [h]
theorem seqQ_updL : seqQ K (upd H a (.lst xs)) a = some xs := seqQ_lst upd_same
theorem seqQ_updT : seqQ K (upd H a (.tup xs)) a = some xs := seqQ_tup upd_same
theorem tupQ_updT : tupQ K (upd H a (.tup xs)) a = some xs := tupQ_tup upd_same
structure Ext (K : PySem.W.Frag) (H H' : Hp) : Prop where
  same : Same H H'
  mod : ∀ a xs, H a = none → kTup K a = some xs → H' a = none
theorem Ext.refl : Ext K H H := ⟨Same.refl H, fun _ _ h _ => h⟩
theorem Ext.trans {H1 H2 : Hp} (x : Ext K H H1) (y : Ext K H1 H2) : Ext K H H2 := ⟨x.same.trans y.same, fun a xs h k => y.mod a xs (x.mod a xs h k) k⟩
theorem Ext.tup (x : Ext K H H') (h : tupQ K H a = some xs) : tupQ K H' a = some xs := by
  unfold tupQ at h ⊢
  split at h
  · next e => rw [x.same _ _ e]; exact h
  · cases h
  · next e => rw [x.mod a xs e h]; exact h
end
section
variable {X : Cx}
def rIxQ (K : PySem.W.Frag) : R2 := fun x y H Q => ∃ p i xs v, x = .ref p ∧ y = .int i ∧ seqQ K H p = some xs ∧ atI xs i = some v ∧ Q v H
theorem ix_Q : IxR X (rIxQ X.K) := by
  intro value slice pins s σ H x y v u Q I rx ry h hs
  obtain ⟨p, i, xs, z, rfl, rfl, hq, he, q⟩ := h
  rcases seqQ_sq (K := X.K) hq with h1 | h1
  · exact ix_list value slice pins s σ H _ _ v u Q I rx ry ⟨p, xs, i, z, rfl, rfl, h1, he, q⟩ hs
  · exact ix_tup value slice pins s σ H _ _ v u Q I rx ry ⟨p, xs, i, z, rfl, rfl, h1, he, q⟩ hs
theorem call_lenQ : CallR X (.builtin "len") (fun xs H Q => ∃ p ys, xs = [.ref p] ∧ seqQ X.K H p = some ys ∧ Q (.int ys.length) H) := by
  intro pins s σ H xs us Q I r h
  obtain ⟨p, ys, rfl, hq, q⟩ := h
  exact call_len_seq pins s σ H _ us Q I r ⟨p, ys, rfl, seqQ_sq hq, q⟩
end
end L2
namespace L2
open PySem PySem.Spec PyProof.Rows
def new (K : PySem.W.Frag) (H : Hp) (p : Addr) : Prop := H p = none ∧ kTup K p = none
theorem new_upd {K : PySem.W.Frag} {H : Hp} {a p : Addr} {o : HO} : new K (upd H a o) p ↔ p ≠ a ∧ new K H p := by
  unfold new
  rw [upd_none, and_assoc]
theorem kTup_none {K : PySem.W.Frag} {a : Addr} (h : K.lookup a = none) : kTup K a = none := by unfold kTup; rw [h]
section
variable {X : Cx} {es : List Expr} {t : TA} {pos : Pos} {pins : List (Addr × Obj)} {σ : St} {H : Hp} {s : Shared}
theorem Inv.new (I : Inv X pins σ H s) : L2.new X.K H s.heap.objs.size := by
  refine ⟨I.hok.fresh (Nat.le_refl _), kTup_none ?_⟩
  cases e : X.K.lookup s.heap.objs.size with
  | none => rfl
  | some o => exact absurd (Heap.lt_size (I.kIn _ o e)) (Nat.lt_irrefl _)
def tTupQ (K : PySem.W.Frag) (t : TA) : TE := fun σ H Q => t σ H fun xs H1 => xs.length ≤ sizeLine ∧ ∀ p, L2.new K H1 p → Q (.ref p) (upd H1 p (.tup xs))
def tLstQ (K : PySem.W.Frag) (t : TA) : TE := fun σ H Q => t σ H fun xs H1 => xs.length ≤ sizeLine ∧ ∀ p, L2.new K H1 p → Q (.ref p) (upd H1 p (.lst xs))
theorem etupQ {k} (h : JA X es t) : JE X (.Tuple es k pos) (tTupQ X.K t) := ⟨by
  intro pins s σ H Q I hq
  refine wpAny_Tuple_spliced (thn (h.h pos pins s σ H _ I hq) fun us s1 ⟨xs, H1, I1, r, z, q⟩ => ⟨by rw [← r.length]; exact z, ?_⟩)
  refine ⟨.ref s1.heap.objs.size, upd H1 s1.heap.objs.size (.tup xs), I1.laid (t' := s1.toks) (fun b u e => Heap.get?_push_of_some _ e) (Nat.le_refl _) ?_, rfl, q _ I1.new⟩
  exact ⟨z, us, r, ⟨_, Heap.get?_push_size _ rfl, rfl, _, rfl⟩⟩⟩
theorem elstQ (h : JA X es t) : JE X (.List es pos) (tLstQ X.K t) := ⟨by
  intro pins s σ H Q I hq
  refine wpAny_List_spliced (thn (h.h pos pins s σ H _ I hq) fun us s1 ⟨xs, H1, I1, r, z, q⟩ => ⟨by rw [← r.length]; exact z, ?_⟩)
  refine ⟨.ref s1.heap.objs.size, upd H1 s1.heap.objs.size (.lst xs), I1.laid (t' := s1.toks) (fun b u e => Heap.get?_push_of_some _ e) (Nat.le_refl _) ?_, rfl, q _ I1.new⟩
  exact ⟨z, us, 0, r, Heap.get?_push_size _ rfl⟩⟩
theorem snever {st : Stmt} : JS X st tNever := ⟨ps_never⟩
def rCatQ (K : PySem.W.Frag) : R2 := fun x y H Q => ∃ l b xs zs, x = .ref l ∧ y = .ref b ∧ H l = some (.lst xs) ∧ H b = some (.lst zs) ∧ xs.length + zs.length ≤ sizeLine ∧ ∀ p, L2.new K H p → Q (.ref p) (upd H p (.lst (xs ++ zs)))
theorem op_catQ : OpR X (binaryOp .Add) (rCatQ X.K) := by
  intro pins s σ H x y v u Q I rx ry h
  obtain ⟨l, b, xs, zs, rfl, rfl, hH, hB, hz, q⟩ := h
  cases rx
  cases ry
  obtain ⟨z, its, n, r, hl, e⟩ := I.lstM hH
  obtain ⟨z2, its2, n2, r2, hl2, e2⟩ := I.lstM hB
  refine PySem.P.add_list e e2 ?_ (by rw [List.size_toArray, List.size_toArray]; omega)
  have ea : its.toArray ++ its2.toArray = (its ++ its2).toArray := by simp
  rw [ea]
  exact ⟨.ref _, _, I.lnew (t' := s.toks) (r.append r2) (by rw [List.length_append]; omega), rfl, q _ I.new⟩
end
structure Kp (K : PySem.W.Frag) (p : Addr) (H H' : Hp) : Prop where
  keep : ∀ q o, H q = some o → q ≠ p → H' q = some o
  mod : ∀ a xs, H a = none → kTup K a = some xs → H' a = none
section
variable {K : PySem.W.Frag} {p a : Addr} {H H' H1 H2 : Hp} {xs ys : List V} {o : HO}
theorem Kp.refl : Kp K p H H := ⟨fun _ _ h _ => h, fun _ _ h _ => h⟩
theorem Kp.trans (x : Kp K p H H1) (y : Kp K p H1 H2) : Kp K p H H2 := ⟨fun q o h n => y.keep q o (x.keep q o h n) n, fun a xs h k => y.mod a xs (x.mod a xs h k) k⟩
theorem Kp.upd (h : H p = some (.lst xs)) : Kp K p H (upd H p o) := ⟨fun q u e n => by rw [upd_ne n]; exact e, fun b ys e _ => by rw [upd_ne (fun z => by rw [z, h] at e; cases e)]; exact e⟩
theorem Kp.new {q : Addr} (h : L2.new K H q) : Kp K p H (L2.upd H q o) := ⟨fun r u e _ => by rw [upd_ne (ne_of_none e h.1)]; exact e, fun b ys e k => by rw [upd_ne (fun z => by rw [z, h.2] at k; cases k)]; exact e⟩
theorem Kp.tup (x : Kp K p H H') (hp : H p = some (.lst ys)) (h : tupQ K H a = some xs) : tupQ K H' a = some xs := by
  unfold tupQ at h ⊢
  split at h
  · next e => rw [x.keep _ _ e (ne_of e hp (by intro z; cases z))]; exact h
  · cases h
  · next e => rw [x.mod a xs e h]; exact h
theorem Ext.new {q : Addr} (h : L2.new K H q) : Ext K H (L2.upd H q o) := ⟨fun b u e => by rw [upd_ne (ne_of_none e h.1)]; exact e, fun b ys e k => by rw [upd_ne (fun z => by rw [z, h.2] at k; cases k)]; exact e⟩
theorem Kp.ext (x : Kp K p (L2.upd H p o) H') (h : L2.new K H p) : Ext K H H' := by
  refine ⟨fun b u e => ?_, fun b ys e k => ?_⟩
  · have n : b ≠ p := ne_of_none e h.1
    exact x.keep b u (by rw [upd_ne n]; exact e) n
  · exact x.mod b ys (by rw [upd_ne (fun z => by rw [z, h.2] at k; cases k)]; exact e) k
theorem Ext.kp (x : Ext K H H') : Kp K p H H' := ⟨fun q o e _ => x.same q o e, x.mod⟩
end
end L2
namespace L2
open PySem PySem.Spec PyProof.Rows
section
variable {K : PySem.W.Frag} {p a : Addr} {H H' : Hp} {xs : List V}
end
end L2
namespace L2
open PySem PySem.Spec PyProof.Rows
def TyQ (K : PySem.W.Frag) (H : Hp) (x : V) (t : Value) : Prop := TyOf K H x t ∨ ∃ a xs, x = .ref a ∧ tupQ K H a = some xs ∧ t = .type "tuple"
theorem TyQ.tup {K : PySem.W.Frag} {H : Hp} {a : Addr} {xs : List V} (h : tupQ K H a = some xs) : TyQ K H (.ref a) (.type "tuple") := .inr ⟨a, xs, rfl, h, rfl⟩
section
variable {X : Cx}
theorem call_isinstQ : CallR X (.builtin "isinstance") (fun xs H Q => ∃ x n t b, xs = [x, .ty n] ∧ TyQ X.K H x t ∧ PySem.W.kitOne X.K t (.type n) = some b ∧ Q (.bl b) H) := by
  intro pins s σ H xs us Q I r h
  obtain ⟨x, n, t, b, rfl, ty, e, q⟩ := h
  obtain ⟨u, w', rfl, ru, rw'⟩ := vals2 r
  cases rw'
  rcases ty with ty | ⟨a, ys, rfl, hq, rfl⟩
  · exact isinst_ok I ru ty e fun tk => ⟨.bl b, H, I.tok tk, rfl, q⟩
  · cases (show u = Value.ref a from ru)
    obtain ⟨its, _, ⟨o, h1, h2, _⟩, _⟩ := I.tuple (tupQ_sq hq)
    exact PySem.W.kia_one PySem.W.kitx_tuple I.kIn ⟨o, h1, h2⟩ e (fun z => nomatch z) fun tk => ⟨.bl b, H, I.tok tk, rfl, q⟩
end
end L2
namespace L2
open PySem PySem.Spec PyProof.Rows
section
variable {X : Cx}
def rInQ (K : PySem.W.Frag) (neg : Bool) : R2 := fun x y H Q => ∃ p xs, y = .ref p ∧ seqQ K H p = some xs ∧ flatV x = true ∧ xs.all flatV = true ∧ Q (.bl (if neg = true then !inV x xs else inV x xs)) H
theorem op_inQ : OpR X (compareOp .In) (rInQ X.K false) := by
  intro pins s σ H x y v u Q I rx ry h
  obtain ⟨p, xs, rfl, hq, fx, fs, q⟩ := h
  exact op_in_seq pins s σ H x _ v u Q I rx ry ⟨p, xs, rfl, seqQ_sq hq, fx, fs, q⟩
theorem op_notInQ : OpR X (compareOp .NotIn) (rInQ X.K true) := by
  intro pins s σ H x y v u Q I rx ry h
  obtain ⟨p, xs, rfl, hq, fx, fs, q⟩ := h
  exact op_notIn_seq pins s σ H x _ v u Q I rx ry ⟨p, xs, rfl, seqQ_sq hq, fx, fs, q⟩
end
end L2
namespace L2
open PySem PySem.Spec PyProof.Rows
def ModFree (K : PySem.W.Frag) (H : Hp) : Prop := ∀ b xs, kTup K b = some xs → H b = none
theorem kTup_look {K : PySem.W.Frag} {a : Addr} {xs : List V} (h : kTup K a = some xs) : ∃ o, K.lookup a = some o := by
  cases e : K.lookup a with
  | none => rw [kTup_none e] at h; cases h
  | some o => exact ⟨o, rfl⟩
theorem FnOk.mod {P : Program} {w : World} {K : PySem.W.Frag} {mg : Str → Option Value} {base : Heap} {CX : CXT} {k : Nat} {f : Addr} {fd : FuncData} {ps : List Str} {sp : Sp} (len : ∀ vs H Q E, sp vs H Q E → vs.length = ps.length)
    (F : FnOk P w K mg base CX k f fd ps (fun vs H Q E => sp vs H Q E ∧ ModFree K H)) : FnOk P w K mg base CX k f fd ps sp :=
  ⟨len, fun A outer s H args us vs Q E hr e0 hb r h => F.run A outer s H args us vs Q E hr e0 hb r ⟨h, fun b xs hk => by
    obtain ⟨o, e⟩ := kTup_look hk
    exact (e0.bs b o (e0.mod.kin b o e)).2⟩⟩
section
variable {P : Program} {w : World} {K : PySem.W.Frag} {mg : Str → Option Value} {base : Heap}
theorem Fun.okM {x qual : Str} {st : Stmt} {f : Addr} {fd : FuncData} {N ps : List Str} {k : Nat} {sp : Sp} (F : Fun K x qual st f fd) (S : FnScope N ps (defScope st)) (len : ∀ vs H Q E, sp vs H Q E → vs.length = ps.length)
    (hbody : ∀ (cdv : Value) (A : Around) (outer : List Env) (s : Shared) (H : Hp) (vs : List V) (Q : VK) (E : XK), Room k (A.deeper (envOfC qual (defScope st) s.heap.objs.size f cdv)) → ModFree K H → sp vs H Q E →
      ∃ t, JB (cxOf CX0 P w K mg base N qual (defScope st) f cdv A outer s H E).nox (defBody st) t ∧ t { nx := fun _ H' => Q .non H', rt := Q } (start N vs) H) : FnOk P w K mg base CX0 (k + 1) f fd ps sp :=
  FnOk.mod len (F.okJ S (fun vs H Q E h => len vs H Q E h.1) fun cdv A outer s H vs Q E hr h => hbody cdv A outer s H vs Q E hr h.2 h.1)
end
theorem ModFree.tup {K : PySem.W.Frag} {H : Hp} {a : Addr} {xs : List V} (m : ModFree K H) (h : kTup K a = some xs) : tupQ K H a = some xs := by
  unfold tupQ
  rw [m a xs h]
  exact h
theorem ModFree.ext {K : PySem.W.Frag} {H H' : Hp} (m : ModFree K H) (x : Ext K H H') : ModFree K H' := fun b xs h => x.mod b xs (m b xs h) h
end L2
namespace L2
open PySem PySem.Spec PyProof.Rows
section
variable {X : Cx} {tg : Expr}
end
section
variable {K : PySem.W.Frag} {ta : TA} {g : TG} {tb : TS} {D : Ends} {σ : St} {H : Hp} {lo stp : Int} {n : Nat}
end
end L2
namespace L2
open PySem PySem.Spec PyProof.Rows
section
variable {X : Cx}
def rSlQ (K : PySem.W.Frag) : V → Option Int → Option Int → Hp → VK → Prop := fun x lo hi H Q => ∃ a xs, x = .ref a ∧ SqL K H a xs ∧ ∀ p, L2.new K H p → Q (.ref p) (upd H p (.lst (cutV xs lo hi)))
theorem sl_listQ : SlR X (rSlQ X.K) := by
  intro pins s σ H x v vl vu lo hi sl Q I rx hs pl pu h
  obtain ⟨a, xs, rfl, hx, q⟩ := h
  cases rx
  obtain ⟨its, r, ht, hz⟩ := I.list hx
  have hlen := r.length
  refine ⟨"list", _, slot_list_getitem.lookup, ht.isList.typeIs, ?_⟩
  refine wpAny_getItem_list_slice ht.isList hs pl pu .none (by simp) ?_ (by rw [List.size_toArray] <;> omega)
  rw [slicePick_cut, ← hlen]
  refine ⟨.ref s.heap.objs.size, _, I.laid (t' := s.toks) (o := .lst (cutV xs lo hi)) (fun b ob q => Heap.get?_push_of_some _ q) (Nat.le_refl _) ?_, rfl, q _ I.new⟩
  exact ⟨Nat.le_trans (cutV_length xs lo hi) hz, _, 0, (r.drop (HT.sIx xs.length 0 lo)).take (HT.sIx xs.length xs.length hi - HT.sIx xs.length 0 lo), Heap.get?_push_size _ rfl⟩
end
end L2
set_option Elab.async false
set_option linter.all false
set_option maxRecDepth 100000
namespace L2
open PySem PySem.Spec PyProof.Rows
section
variable {X : Cx} {es : List Expr} {pos : Pos}
def gTupQ (K : PySem.W.Frag) (n : Nat) (t : TGs) : TG := fun v σ H Q => ∃ a xs, v = .ref a ∧ tupQ K H a = some xs ∧ xs.length = n ∧ t xs σ H Q
theorem gtupQ {k : Nat} {t : TGs} {n : Nat} (hc : X.calm = true) (h : JGs X es t) (hn : (assignEach es X.env).length = n := by rfl) (hst : (assignEach es X.env).findIdx? (·.1) = none := by rfl) : JG X (.Tuple es k pos) (gTupQ X.K n t) :=
  ⟨fun pins s σ H v u Q I r ⟨a, xs, e, h1, h2, h3⟩ => pg_tup hc h.h hn hst pins s σ H v u Q I r ⟨a, xs, e, tupQ_sq h1, h2, h3⟩⟩
end
theorem iteT' {c : Prop} [Decidable c] {a b : Prop} (h : c) (x : a) : if c then a else b := by rw [if_pos h]; exact x
theorem iteF' {c : Prop} [Decidable c] {a b : Prop} (h : ¬ c) (x : b) : if c then a else b := by rw [if_neg h]; exact x
theorem kTup_of {K : PySem.W.Frag} {a : Addr} {d : Option Addr} {its : Array Value} {k : Nat} {sl : Array (Option Value)} {xs : List V} (h : K.lookup a = some ⟨.type "tuple", d, .seq its k, sl⟩) (hz : its.size ≤ 1000) (e : its.toList.mapM absV = some xs) : kTup K a = some xs := by
  unfold kTup
  rw [h]
  simp only [if_true]
  rw [if_pos (small_le hz)]
  exact e
end L2
namespace L2
open PySem PySem.Spec PyProof.Rows
theorem cutV_to (xs : List V) (k : Nat) : cutV xs none (some (k : Int)) = xs.take k := by
  unfold cutV
  rw [HT.sIx_none, HT.sIx_nat, List.drop_zero, Nat.sub_zero]
  by_cases h : k ≤ xs.length
  · rw [Nat.min_eq_left h]
  · rw [Nat.min_eq_right (by omega), List.take_of_length_le (Nat.le_refl _), List.take_of_length_le (by omega)]
theorem cutV_from (xs : List V) (k : Nat) : cutV xs (some (k : Int)) none = xs.drop k := by
  unfold cutV
  rw [HT.sIx_none, HT.sIx_nat]
  by_cases h : k ≤ xs.length
  · rw [Nat.min_eq_left h, List.take_of_length_le (by rw [List.length_drop]; exact Nat.le_refl _)]
  · rw [Nat.min_eq_right (by omega), List.drop_of_length_le (Nat.le_refl _), List.drop_of_length_le (by omega)]; simp
theorem cutV_nat (xs : List V) (i j : Nat) (h : j ≤ xs.length) (hij : i ≤ j) : cutV xs (some (i : Int)) (some (j : Int)) = (xs.drop i).take (j - i) := by
  unfold cutV
  rw [HT.sIx_nat, HT.sIx_nat, Nat.min_eq_left h, Nat.min_eq_left (by omega)]
end L2
namespace L2
open PySem PySem.Spec PyProof.Rows
theorem Ext.at {K : PySem.W.Frag} {H H' : Hp} {a : Addr} {o : HO} (x : Ext K H H') (h : H a = some o) : H' a = some o := x.same _ _ h
theorem Ext.seqQ {K : PySem.W.Frag} {H H' : Hp} {a : Addr} {xs : List V} (x : Ext K H H') (h : seqQ K H a = some xs) : seqQ K H' a = some xs := by
  unfold L2.seqQ at h ⊢
  split at h
  · next e => rw [x.same _ _ e]; exact h
  · next e => rw [x.same _ _ e]; exact h
  · next e => rw [x.same _ _ e]; exact h
  · cases h
  · next e => rw [x.mod a xs e h]; exact h
end L2
namespace L2
open PySem PySem.Spec PyProof.Rows
structure Kp2 (K : PySem.W.Frag) (p q : Addr) (H H' : Hp) : Prop where
  keep : ∀ r o, H r = some o → r ≠ p → r ≠ q → H' r = some o
  mod : ∀ a xs, H a = none → kTup K a = some xs → H' a = none
section
variable {K : PySem.W.Frag} {p q : Addr} {H H' H1 H2 : Hp} {o o' : HO}
theorem Kp.l (x : Kp K p H H') : Kp2 K p q H H' := ⟨fun r o h n _ => x.keep r o h n, x.mod⟩
theorem Kp.r (x : Kp K q H H') : Kp2 K p q H H' := ⟨fun r o h _ n => x.keep r o h n, x.mod⟩
theorem Kp2.trans (x : Kp2 K p q H H1) (y : Kp2 K p q H1 H2) : Kp2 K p q H H2 := ⟨fun r o h n m => y.keep r o (x.keep r o h n m) n m, fun a xs h k => y.mod a xs (x.mod a xs h k) k⟩
theorem Kp2.ext (x : Kp2 K p q (L2.upd (L2.upd H p o) q o') H') (hp : L2.new K H p) (hq : L2.new K (L2.upd H p o) q) : Ext K H H' := by
  have y : Ext K H (L2.upd (L2.upd H p o) q o') := (Ext.new hp).trans (Ext.new hq)
  refine ⟨fun b u e => ?_, fun b ys e k => x.mod b ys (y.mod b ys e k) k⟩
  have n : b ≠ p := ne_of_none e hp.1
  have m : b ≠ q := ne_of_none ((Ext.new hp).at e) hq.1
  exact x.keep b u (y.at e) n m
end
end L2
set_option Elab.async false
set_option linter.all false
set_option maxRecDepth 100000
namespace L2
open PySem PySem.Spec PyProof.Rows
def closL (env : Env) : List (Str × NameKind) → List (Str × Addr) → List (Str × Addr)
  | [], cs => cs
  | (n, k) :: r, cs => closL env r (if (k == NameKind.free) = true then (match env.cells.lookup n with | some a => (n, a) :: cs | none => cs) else cs)
theorem closureFor_eq {scope : Scope} {env : Env} (h : ∀ x ∈ scope.names, x.2 = .free → ∃ c, env.cells.lookup x.1 = some c) : closureFor scope env = pure (closL env scope.names []) := by
  unfold closureFor
  generalize scope.names = names at h ⊢
  generalize ([] : List (Str × Addr)) = cs
  induction names generalizing cs with
  | nil => rfl
  | cons x r ih =>
    obtain ⟨n, k⟩ := x
    have ih' := fun cs => ih (cs := cs) fun x hx => h x (List.mem_cons_of_mem _ hx)
    simp only [List.forIn_cons]
    cases hk : (k == NameKind.free) with
    | false =>
      simp only [closL, hk]
      exact ih' cs
    | true =>
      obtain ⟨c, hc⟩ := h (n, k) (List.mem_cons_self) (by simpa using hk)
      simp only [closL, hk, hc, cellOf]
      exact ih' _
theorem closL_mem {env : Env} : ∀ {names : List (Str × NameKind)} {cs : List (Str × Addr)} {n : Str} {c : Addr}, (n, c) ∈ closL env names cs → (n, c) ∈ cs ∨ env.cells.lookup n = some c
  | [], cs, n, c, h => .inl h
  | (m, k) :: r, cs, n, c, h => by
    rw [closL] at h
    rcases closL_mem h with h | h
    · split at h
      · split at h
        · next a e =>
          rcases List.mem_cons.mp h with z | z
          · cases z; exact .inr e
          · exact .inl z
        · exact .inl h
      · exact .inl h
    · exact .inr h
theorem closL_sub {env : Env} : ∀ {names : List (Str × NameKind)} {cs : List (Str × Addr)} {p : Str × Addr}, p ∈ cs → p ∈ closL env names cs
  | [], cs, p, h => h
  | (m, k) :: r, cs, p, h => by
    rw [closL]
    refine closL_sub ?_
    split
    · split
      · exact List.mem_cons_of_mem _ h
      · exact h
    · exact h
theorem closL_has {env : Env} : ∀ {names : List (Str × NameKind)} {cs : List (Str × Addr)} {n : Str} {c : Addr}, (n, NameKind.free) ∈ names → env.cells.lookup n = some c → (n, c) ∈ closL env names cs
  | (m, k) :: r, cs, n, c, h, e => by
    rw [closL]
    rcases List.mem_cons.mp h with z | z
    · cases z
      rw [if_pos (by decide), e]
      exact closL_sub List.mem_cons_self
    · exact closL_has z e
theorem lookup_mem {α : Type} : ∀ {l : List (Str × α)} {n : Str} {c : α}, l.lookup n = some c → (n, c) ∈ l
  | (m, d) :: r, n, c, h => by
    rw [List.lookup_cons] at h
    cases e : n == m with
    | true =>
      rw [e] at h
      cases h
      rw [eq_of_beq e]
      exact List.mem_cons_self
    | false =>
      rw [e] at h
      exact List.mem_cons_of_mem _ (lookup_mem h)
theorem mem_lookup {α : Type} : ∀ {l : List (Str × α)} {n : Str} {c : α}, (n, c) ∈ l → ∃ d, l.lookup n = some d
  | (m, d) :: r, n, c, h => by
    rw [List.lookup_cons]
    cases e : n == m with
    | true => exact ⟨d, rfl⟩
    | false =>
      rcases List.mem_cons.mp h with z | z
      · cases z
        rw [beq_self_eq_true] at e; cases e
      · exact mem_lookup z
theorem clos_look {env : Env} {names : List (Str × NameKind)} {n : Str} {c : Addr} (h : (closL env names []).lookup n = some c) : env.cells.lookup n = some c := by
  rcases closL_mem (lookup_mem h) with z | z
  · cases z
  · exact z
theorem clos_has {env : Env} {names : List (Str × NameKind)} {n : Str} {c : Addr} (h : (n, NameKind.free) ∈ names) (e : env.cells.lookup n = some c) : (closL env names []).lookup n = some c := by
  obtain ⟨d, hd⟩ := mem_lookup (closL_has (cs := []) h e)
  rw [hd]
  exact (clos_look hd).symm.trans e ▸ rfl
theorem relabel_free {env : Env} : ∀ {names : List (Str × NameKind)} {x : Str}, names.lookup x = some .free →
    (names.map fun (n, k) => if (k == NameKind.free && env.scope.kind == .function && env.kindOf n == some .cell) then (n, NameKind.cell) else (n, k)).lookup x = some .cell ∨
    (names.map fun (n, k) => if (k == NameKind.free && env.scope.kind == .function && env.kindOf n == some .cell) then (n, NameKind.cell) else (n, k)).lookup x = some .free
  | [], _, h => by simp at h
  | (n, k) :: r, x, h => by
    have ih := @relabel_free env r x
    show List.lookup x ((if (k == NameKind.free && env.scope.kind == .function && env.kindOf n == some .cell) = true then (n, NameKind.cell) else (n, k)) :: _) = _ ∨ List.lookup x ((if (k == NameKind.free && env.scope.kind == .function && env.kindOf n == some .cell) = true then (n, NameKind.cell) else (n, k)) :: _) = _
    cases hx : x == n with
    | true =>
      simp only [List.lookup_cons, hx] at h
      cases h
      split
      · simp [List.lookup_cons, hx]
      · simp [List.lookup_cons, hx]
    | false =>
      simp only [List.lookup_cons, hx] at h
      split
      · simp only [List.lookup_cons, hx]; exact ih h
      · simp only [List.lookup_cons, hx]; exact ih h
theorem relabel_mem {env : Env} : ∀ {names : List (Str × NameKind)} {x : Str} {kk : NameKind}, (∀ y ∈ names, y.2 ≠ .cell) →
    (names.map fun (n, k) => if (k == NameKind.free && env.scope.kind == .function && env.kindOf n == some .cell) then (n, NameKind.cell) else (n, k)).lookup x = some kk → kk = .cell ∨ kk = .free → (x, NameKind.free) ∈ names
  | [], _, _, _, h, _ => by simp at h
  | (n, k) :: r, x, kk, hc, h, hk => by
    have ih := @relabel_mem env r x kk fun y hy => hc y (List.mem_cons_of_mem _ hy)
    change List.lookup x ((if (k == NameKind.free && env.scope.kind == .function && env.kindOf n == some .cell) = true then (n, NameKind.cell) else (n, k)) :: _) = _ at h
    cases hx : x == n with
    | true =>
      have e := eq_of_beq hx
      subst e
      split at h
      · next q =>
        simp only [Bool.and_eq_true, beq_iff_eq] at q
        rw [q.1.1]
        exact List.mem_cons_self
      · simp only [List.lookup_cons, hx] at h
        cases h
        rcases hk with z | z
        · exact absurd z (hc _ List.mem_cons_self)
        · rw [z]; exact List.mem_cons_self
    | false =>
      refine List.mem_cons_of_mem _ (ih ?_ hk)
      split at h
      · simp only [List.lookup_cons, hx] at h; exact h
      · simp only [List.lookup_cons, hx] at h; exact h
def Cx.comp (X : Cx) (N : List Str) (scope : Scope) (C : Addr) (s : Shared) (H : Hp) (fp : List Addr) : Cx :=
  { X with N := N, s₀ := s, H₀ := H, env := compEnvC scope (closL X.env scope.names []) C X.env, outer := X.stack, ex := fp, fn := fun _ => false, pn := [], xe := fun _ _ => False }
def pick (σ : St) (src : List (Option Nat)) : St := src.map fun o => match o with | none => none | some j => (σ[j]?).join
def capOk (NX : List Str) (scX sc : Scope) (N : List Str) (src : List (Option Nat)) : Bool :=
  sc.names.all (fun x => x.2 != .cell) && sc.names.all (fun x => x.2 != .local || sc.names.lookup x.1 == some .local) &&
  sc.names.all (fun x => x.2 != .free || (scX.names.lookup x.1 == some .cell || scX.names.lookup x.1 == some .free)) && N.length == src.length &&
  (N.zip src).all (fun p => match p.2 with | none => true | some j => NX[j]? == some p.1 && (scX.names.lookup p.1 == some .cell || scX.names.lookup p.1 == some .free) && sc.names.lookup p.1 == some .free)
structure Cap (X : Cx) (sc : Scope) (N : List Str) (src : List (Option Nat)) : Prop where
  kind : sc.kind = .function
  ok : capOk X.N X.env.scope sc N src = true
section
variable {X : Cx} {sc : Scope} {N : List Str} {src : List (Option Nat)}
theorem Cap.cell (c : Cap X sc N src) : ∀ y ∈ sc.names, y.2 ≠ .cell := fun y hy => by
  have h := c.ok
  simp only [capOk, Bool.and_eq_true, List.all_eq_true] at h
  simpa using h.1.1.1.1 y hy
theorem Cap.names (c : Cap X sc N src) : ∀ y ∈ sc.names, y.2 = .local → sc.names.lookup y.1 = some .local := fun y hy e => by
  have h := c.ok
  simp only [capOk, Bool.and_eq_true, List.all_eq_true] at h
  have q := h.1.1.1.2 y hy
  rw [e] at q
  simpa using q
theorem Cap.free (c : Cap X sc N src) {x : Str} (hx : (x, NameKind.free) ∈ sc.names) : X.env.kindOf x = some .cell ∨ X.env.kindOf x = some .free := by
  have h := c.ok
  simp only [capOk, Bool.and_eq_true, List.all_eq_true] at h
  have q := h.1.1.2 _ hx
  simpa [Env.kindOf] using q
theorem Cap.len (c : Cap X sc N src) : N.length = src.length := by
  have h := c.ok
  simp only [capOk, Bool.and_eq_true, List.all_eq_true] at h
  simpa using h.1.2
theorem Cap.at_ (c : Cap X sc N src) {i j : Nat} {x : Str} (h1 : N[i]? = some x) (h2 : src[i]? = some (some j)) : X.N[j]? = some x ∧ (X.env.kindOf x = some .cell ∨ X.env.kindOf x = some .free) ∧ sc.names.lookup x = some .free := by
  have h := c.ok
  simp only [capOk, Bool.and_eq_true, List.all_eq_true] at h
  have m : (x, some j) ∈ N.zip src := by
    refine List.mem_of_getElem? (i := i) ?_
    rw [List.getElem?_zip_eq_some]
    exact ⟨h1, h2⟩
  have q := h.2 _ m
  simp only [Bool.and_eq_true, Bool.or_eq_true, beq_iff_eq] at q
  exact ⟨q.1.1, q.1.2, q.2⟩
theorem pick_some {σ : St} {i : Nat} {v : V} (h : (pick σ src)[i]? = some (some v)) : ∃ j, src[i]? = some (some j) ∧ σ[j]? = some (some v) := by
  unfold pick at h
  rw [List.getElem?_map] at h
  cases e : src[i]? with
  | none => rw [e] at h; cases h
  | some o =>
    rw [e] at h
    cases o with
    | none => simp at h
    | some j =>
      refine ⟨j, rfl, ?_⟩
      simp only [Option.map_some, Option.some.injEq] at h
      cases e2 : σ[j]? with
      | none => rw [e2] at h; cases h
      | some w =>
        rw [e2] at h
        simp only [Option.join] at h
        exact congrArg some h
theorem Cx.Ok.comp {pins : List (Addr × Obj)} {σ : St} {H : Hp} {s : Shared} {fp : List Addr} {C : Addr} (I : Inv X pins σ H s) (c : Cap X sc N src) (hf : ∀ b ∈ fp, FpOk X pins H b) (ho : ∀ b ∈ fp, ∃ o, s.heap.get? b = some o) (hC : s.heap.objs.size ≤ C) : (X.comp N sc C s H fp).Ok where
  mod := I.ok.mod
  kind := c.kind
  glob := I.ok.glob
  blt := I.ok.blt
  above := hC
  inj := fun x y a h h' => I.ok.inj x y a (clos_look h) (clos_look h')
  has := fun x h => by
    have m : (x, NameKind.free) ∈ sc.names := by
      rcases h with h | h
      · exact relabel_mem c.cell h (.inl rfl)
      · exact relabel_mem c.cell h (.inr rfl)
    obtain ⟨a, ha⟩ := I.ok.has x (c.free m)
    exact ⟨a, clos_has m ha⟩
  cab := fun _ _ h => nomatch h
  hd := I.ok.hd
  frames := I.ok.frames
  stk := .inl rfl
  exf := fun b hb => by
    obtain ⟨o, e⟩ := ho b hb
    exact ⟨Nat.ne_of_lt (Nat.lt_of_lt_of_le (Heap.lt_size e) hC), fun x a h => (hf b hb).2.2.2.2.1 x a (clos_look h)⟩
  bs := I.bs
  bsz := Nat.le_trans I.ok.bsz I.sz
  noex := fun b o e hb => by
    rcases (hf b hb).2.2.2.1 with z | z
    · exact I.ok.noex b o e z
    · exact absurd (Nat.lt_of_lt_of_le (Heap.lt_size e) (Nat.le_trans I.ok.bsz z)) (Nat.lt_irrefl _)
  exfs := fun b hb z => by
    rcases List.mem_cons.mp (I.stkSub b z) with q | q
    · exact (hf b hb).2.1 q
    · exact (hf b hb).2.2.1 q
  funs := I.stack
  frf := I.stkFree
theorem Inv.block {pins : List (Addr × Obj)} {σ : St} {H : Hp} {s : Shared} {fp : List Addr} {C D : Addr} {h1 : Heap} {t' : Nat} (I : Inv X pins σ H s) (c : Cap X sc N src) (hf : ∀ b ∈ fp, FpOk X pins H b) (ho : ∀ b ∈ fp, ∃ o, s.heap.get? b = some o)
    (hD : s.heap.objs.size ≤ D) (hC : s.heap.objs.size ≤ C) (hDC : D ≠ C) (k : ∀ b u, s.heap.get? b = some u → h1.get? b = some u) (hn : h1.Ns C fun _ => none) (new : ObjOk X.prog X.w (upd H D (.lst [])) h1 D (.lst [])) :
    Inv (X.comp N sc C s H fp) [] (pick σ src) (upd H D (.lst [])) { s with heap := h1, toks := t' } where
  ok := Cx.Ok.comp I c hf ho hC
  os := rfl
  bare := I.bare
  base := Un.laid k hD (I.hok.fresh hD)
  loc := by
    refine ⟨_, hn, fun i x v e1 e2 e3 => ?_⟩
    obtain ⟨j, ej, es⟩ := pick_some e2
    obtain ⟨n1, n2, n3⟩ := c.at_ e1 ej
    obtain ⟨m, _, hl⟩ := I.loc
    have vis : Vis X.env.scope x := n2.elim (fun z => .inr (.inl z)) fun z => .inr (.inr z)
    obtain ⟨u, r, q⟩ := hl j x v n1 es vis
    refine ⟨u, r, .inr ⟨relabel_free n3, ?_⟩⟩
    rcases q with ⟨z, _⟩ | ⟨_, a, ha, z⟩
    · rcases n2 with n2 | n2 <;> rw [n2] at z <;> cases z
    · obtain ⟨o, e, d⟩ := z
      exact ⟨a, clos_has (lookup_mem n3) ha, o, k _ _ e, d⟩
  cell := fun x a e => by
    obtain ⟨v, o, e, d⟩ := I.cell x a (clos_look e)
    exact ⟨v, o, k _ _ e, d⟩
  free := by
    show upd H D (.lst []) C = none
    rw [upd_ne hDC.symm]
    exact I.hok.fresh hC
  freeC := fun x a e => by
    obtain ⟨v, o, e', d⟩ := I.cell x a (clos_look e)
    rw [upd_ne (Nat.ne_of_lt (Nat.lt_of_lt_of_le (Heap.lt_size e') hD))]
    exact I.freeC x a (clos_look e)
  pin := fun p hp => nomatch hp
  hok := I.hok.laid k hD new
  len := by
    show (pick σ src).length = N.length
    rw [c.len, pick, List.length_map]
theorem Inv.unblock {pins : List (Addr × Obj)} {σ σ' : St} {H H' : Hp} {s s' : Shared} {fp : List Addr} {C : Addr} {h' : Heap} (I : Inv X pins σ H s) (hf : ∀ b ∈ fp, FpOk X pins H b) (hC : s.heap.objs.size ≤ C)
    (J : Inv (X.comp N sc C s H fp) [] σ' H' s') (hs : ∀ b, b ≠ C → h'.get? b = s'.heap.get? b) : Inv X pins σ H' { s' with heap := h' } := by
  have ne : ∀ b o, s.heap.get? b = some o → b ≠ C := fun b o e => Nat.ne_of_lt (Nat.lt_of_lt_of_le (Heap.lt_size e) hC)
  have u : Un (frs X.stack) fp H H' s.heap s'.heap := J.base
  have u' : Un (frs X.stack) fp H H' s.heap h' := ⟨fun b o e n a x => (hs b (ne b o e)).trans (u.keep b o e n a x), fun b o e n a x => by
      obtain ⟨sl, q⟩ := u.slot b o e n a x
      exact ⟨sl, (hs b (ne b o e)).trans q⟩, u.free, fun b o e x => by
      obtain ⟨o', q⟩ := u.there b o e x
      exact ⟨o', (hs b (ne b o e)).trans q⟩, u.tups, u.frzs, u.tbls⟩
  refine I.call' (s' := { s' with heap := h' }) J.os u' (fun b ob e => ?_) J.bare fun b hb => ⟨(hf b hb).2.2.2.1, (hf b hb).2.1, (hf b hb).2.2.2.2.1, (hf b hb).2.2.2.2.2⟩
  have fr : H' C = none := J.free
  refine (J.hok b ob e).stay (fun a w' ha q => (hs a ?_).trans q) (fun _ q => q) fun _ _ q => q
  rintro rfl
  rcases ha with rfl | ha
  · rw [fr] at e; cases e
  · rw [fr] at ha; cases ha
end
abbrev F0 : Value → Shared → Prop := fun _ _ => False
section
variable {prog : Program} {w : World} {A : Around} {R : Result → Shared → Prop} {s : Shared}
theorem compLoop_any {elt target iter : Expr} {ifs : List Expr} {scope : Scope} {pos : Pos} {it acc : Value} {env : Env} (I : Nat → Shared → Prop)
    (turn : ∀ n s, I n s → wpAny (model prog w) A (pyNext it) (fun r s₁ => match r with
      | none => R (.ok .next) s₁
      | some v => wpAny (model prog w) A (letOwnedTupleGo target it v) (fun _ s₁' => wpAny (model prog w) A (assign target env v) (fun _ s₂ =>
          wpAny (model prog w) A (forIn ifs true fun c r => if r = true then do let ok ← isTrue c env (eval c env); pure (ForInStep.yield ok) else pure (ForInStep.yield r)) (fun ok s₃ =>
            if ok = true then wpAny (model prog w) A (eval elt env) (fun x s₄ =>
              wpAny (model prog w) A (call (.builtin "list.append") [acc, x]) (fun _ s₅ => ∃ m, m < n ∧ I m s₅) F0 s₄) F0 s₃
            else ∃ m, m < n ∧ I m s₃) F0 s₂) F0 s₁') F0 s₁) F0 s)
    (n : Nat) (h : I n s) :
    codeAny (model prog w) A (.compLoop (.ListComp elt [⟨target, iter, ifs, 0⟩] scope pos) 0 it acc env) R s := by
  refine codeAny_loop rfl I (fun n s hI => ?_) n h
  show wpAny _ A ((compTurn (.ListComp elt [⟨target, iter, ifs, 0⟩] scope pos) 0 it acc env).onRaise (fun x => do noteFrame x env; theTreesLotGoes x)) _ _ s
  refine wpAny_noted ?_
  rw [compTurn_list]
  refine wpAny_bind (wpAny_standAt (wpAny_bind (wpAny_mono (turn n s hI) (fun r s₁ h₁ => ?_) fun _ _ h' => h'.elim)))
  cases r with
  | none => exact wpAny_pure h₁
  | some v =>
    refine wpAny_bind (wpAny_mono h₁ (fun _ s₁' h₁' => ?_) fun _ _ h' => h'.elim)
    refine wpAny_bind (wpAny_mono h₁' (fun _ s₂ h₂ => wpAny_bind (wpAny_mono h₂ (fun ok s₃ h₃ => ?_) fun _ _ h' => h'.elim)) fun _ _ h' => h'.elim)
    cases ok with
    | false => exact wpAny_pure ⟨rfl, h₃⟩
    | true =>
      exact wpAny_bind (wpAny_bind (wpAny_mono h₃ (fun x s₄ h₄ => wpAny_bind (wpAny_mono h₄ (fun _ s₅ h₅ => wpAny_pure (wpAny_pure ⟨rfl, h₅⟩)) fun _ _ h' => h'.elim)) fun _ _ h' => h'.elim))
end
def PF (X : Cx) (ifs : List Expr) (t : TT) : Prop :=
  ∀ (pins : List (Addr × Obj)) (s : Shared) (σ : St) (H : Hp) (Q : Bool → Hp → Prop), Inv X pins σ H s → t σ H Q →
    wpAny (model X.prog X.w) X.A (forIn ifs true fun c r => if r = true then do let ok ← isTrue c X.env (eval c X.env); pure (ForInStep.yield ok) else pure (ForInStep.yield r)) (TP X pins σ Q) X.xe s
structure JF (X : Cx) (ifs : List Expr) (t : TT) : Prop where h : PF X ifs t
def tYes : TT := fun _ H Q => Q true H
theorem fnone {X : Cx} : JF X [] tYes := ⟨fun _ _ _ H _ I h => wpAny_tests_nil ⟨H, I, h⟩⟩
theorem fone {X : Cx} {c : Expr} {t : TT} (h : JT X c t) : JF X [c] t := ⟨fun pins s σ H Q I q => wpAny_tests_one (h.h pins s σ H Q I q)⟩
def LcLoop (J : It) (g : TG) (tt : TT) (te : TE) (D : Addr) (Q : Hp → Prop) (σ : St) (H : Hp) : Prop := ∃ W : Nat → Nat → List V → St → Hp → Prop, (∃ m, W 0 m [] σ H) ∧ ∀ i m acc σ H, W i m acc σ H →
  (J.stop i H ∧ Q H) ∨ (J.go i H ∧ ∃ N : List V → St → Hp → Prop, (∀ acc' σ' H', N acc' σ' H' → ∃ m', m' < m ∧ W (i + 1) m' acc' σ' H') ∧ ∀ x H', J.yld i H x H' → g x σ H' fun σ2 H2 => tt σ2 H2 fun b H3 =>
    if b = true then te σ2 H3 fun v H4 => H4 D = some (.lst acc) ∧ acc.length < sizeLine ∧ N (acc ++ [v]) σ2 (upd H4 D (.lst (acc ++ [v])))
    else N acc σ2 H3)
def tLc (K : PySem.W.Frag) (wi : TI) (src : List (Option Nat)) (g : TG) (tt : TT) (te : TE) : TE := fun σ H Q => wi σ H fun J H1 => ∀ D, L2.new K H1 D → LcLoop J g tt te D (fun H' => Q (.ref D) H') (pick σ src) (upd H1 D (.lst []))
section
variable {X : Cx} {sc : Scope} {N : List Str} {src : List (Option Nat)} {tg iter elt : Expr} {ifs : List Expr} {wi : TI} {g : TG} {tt : TT} {te : TE} {pos : Pos}
theorem comp_run {R : Value → Addr → Result → Shared → Prop} {E : Value → Shared → Prop} (c : Cap X sc N src) (hc : X.calm = true)
    (hg : ∀ C s H fp, JG (X.comp N sc C s H fp) tg g) (ht : ∀ C s H fp, JF (X.comp N sc C s H fp) ifs tt) (he : ∀ C s H fp, JE (X.comp N sc C s H fp) elt te)
    {pins : List (Addr × Obj)} {σ : St} {H : Hp} {s : Shared} {it : Addr} {fp : List Addr} {tn : Nat → Heap → Prop} {J : It} {Q : V → Hp → Prop} (I : Inv X pins σ H s) (T : Turn X.prog X.w X.K tg J fp it tn) (st : tn 0 s.heap) (hf : ∀ b ∈ fp, FpOk X pins H b)
    (h : ∀ D, L2.new X.K H D → LcLoop J g tt te D (fun H' => Q (.ref D) H') (pick σ src) (upd H D (.lst [])))
    (hR : ∀ D C s' σ' H', s.heap.objs.size ≤ C → Inv (X.comp N sc C s H fp) [] σ' H' s' → Q (.ref D) H' → R (.ref D) C (.ok .next) s') :
    wpAny (model X.prog X.w) X.A (newList []) (fun acc s₃ => wpAny (model X.prog X.w) X.A (newFunctionEnv sc X.env.globals (closL X.env sc.names []) [] X.env.qual none .none (some X.env)) (fun cenv s₄ =>
      codeAny (model X.prog X.w) X.A (.compStart (.ListComp elt [⟨tg, iter, ifs, 0⟩] sc pos) 0 (.ref it) acc { cenv with scope := relabel sc X.env }) (R acc cenv.locals) s₄) E s₃) E s := by
  refine wpAny_newObj_type (wpAny_newFunctionEnv c.cell (by intro y hy; simp at hy) (fun h₁ hns₁ hsb₁ => ?_) c.kind)
  dsimp only at hns₁ hsb₁ ⊢
  generalize hH2 : s.heap.push { cls := .type "list", dict := none, data := .seq ([] : List Value).toArray } = H2 at hns₁ hsb₁ ⊢
  have hC : H2.objs.size = s.heap.objs.size + 1 := by rw [← hH2, Heap.size_push]
  have hDC : s.heap.objs.size ≠ H2.objs.size := by rw [hC]; exact Nat.ne_of_lt (Nat.lt_succ_self _)
  have hCle : s.heap.objs.size ≤ H2.objs.size := by rw [hC]; exact Nat.le_succ _
  have below : ∀ b, b < s.heap.objs.size → b ≠ H2.objs.size := fun b hb => by rw [hC]; exact Nat.ne_of_lt (Nat.lt_succ_of_lt hb)
  have old : ∀ b o, s.heap.get? b = some o → h₁.get? b = some o := fun b o e => hsb₁.extBut b o (below b (Heap.lt_size e)) (Heap.get?_push_of_some _ (hH2 ▸ Heap.get?_push_of_some _ e))
  have hacc : h₁.get? s.heap.objs.size = some { cls := .type "list", dict := none, data := .seq ([] : List Value).toArray } := hsb₁.extBut _ _ hDC (Heap.get?_push_of_some _ (hH2 ▸ Heap.get?_push_size _ rfl))
  have ho : ∀ b ∈ fp, ∃ o, s.heap.get? b = some o := fun b hb => let ⟨o, e, _⟩ := T.obj _ _ st b hb; ⟨o, e⟩
  have I0 := I.block (t' := s.toks + ([] : List (Str × Value)).length) c hf ho (Nat.le_refl _) hCle hDC old hns₁ ⟨Nat.zero_le _, [], 0, .nil, hacc⟩
  have st0 : tn 0 h₁ := T.keep _ _ _ st fun b hb o e => old b o e
  obtain ⟨W, ⟨m0, w0⟩, turn⟩ := h _ I.new
  have stat : ∀ {H' : Hp}, (∀ b ∈ fp, H' b = none) → ∀ b ∈ fp, FpOk (X.comp N sc H2.objs.size s H fp) [] H' b := fun hn b hb => by
    obtain ⟨f0, f1, f2, f3, f4, f5⟩ := hf b hb
    obtain ⟨o, e⟩ := ho b hb
    refine ⟨hn b hb, below b (Heap.lt_size e), fun z => ?_, .inl hb, fun x a q => f4 x a (clos_look q), fun p hp => nomatch hp⟩
    rcases List.mem_cons.mp (I.stkSub b z) with q | q
    · exact f1 q
    · exact f2 q
  have fr0 : ∀ b ∈ fp, (upd H s.heap.objs.size (.lst [])) b = none := fun b hb => by
    obtain ⟨o, e⟩ := ho b hb
    rw [upd_ne (Nat.ne_of_lt (Heap.lt_size e))]
    exact (hf b hb).1
  have loop : ∀ s₃ : Shared, s₃ = { s with heap := h₁, toks := s.toks + ([] : List (Str × Value)).length } →
      codeAny (model X.prog X.w) X.A (.compLoop (.ListComp elt [⟨tg, iter, ifs, 0⟩] sc pos) 0 (.ref it) (.ref s.heap.objs.size) (compEnvC sc (closL X.env sc.names []) H2.objs.size X.env)) (R (.ref s.heap.objs.size) H2.objs.size) s₃ := by
    rintro s₃ rfl
    refine compLoop_any (fun n s' => ∃ i acc σ' H', Inv (X.comp N sc H2.objs.size s H fp) [] σ' H' s' ∧ tn i s'.heap ∧ (∀ b ∈ fp, H' b = none) ∧ W i n acc σ' H') ?_ m0 ⟨0, _, _, _, I0, st0, fr0, w0⟩
    rintro n s3 ⟨i, acc, σ3, H3, I3, st3, fr3, w3⟩
    rcases turn i n acc σ3 H3 w3 with ⟨stop, qn⟩ | ⟨go, NN, hNN, step⟩
    · refine thn (T.done (X.comp N sc H2.objs.size s H fp) rfl rfl rfl hc i [] s3 σ3 H3 F0 I3 (stat fr3) st3 stop) fun r s4 ⟨hr, I4⟩ => ?_
      subst hr
      exact hR _ _ _ _ _ hCle I4 qn
    · refine thn (T.item (X.comp N sc H2.objs.size s H fp) rfl rfl rfl hc i [] s3 σ3 H3 F0 I3 (stat fr3) st3 go) fun r s4 ⟨u, hr, h4⟩ => ?_
      subst hr
      refine thn h4 fun _ s5 ⟨x, H5, I5, r5, y5, st5, fr5⟩ => ?_
      have I5' := I5.pinned (stat fr5) (T.obj _ _ st5)
      refine thn ((hg _ _ _ _).h _ s5 σ3 H5 x u _ I5' r5 (step x H5 y5)) fun _ s6 ⟨σ6, H6, I6, q6⟩ => ?_
      refine thn ((ht _ _ _ _).h _ s6 σ6 H6 _ I6 q6) fun b s7 ⟨H7, I7, q7⟩ => ?_
      have again : ∀ {acc8 : List V} {s8 : Shared} {H8 : Hp}, Inv (X.comp N sc H2.objs.size s H fp) ([] ++ pinsAt fp s5.heap) σ6 H8 s8 → NN acc8 σ6 H8 → ∃ m, m < n ∧ ∃ i acc σ' H', Inv (X.comp N sc H2.objs.size s H fp) [] σ' H' s8 ∧ tn i s8.heap ∧ (∀ b ∈ fp, H' b = none) ∧ W i m acc σ' H' := fun {acc8 s8 H8} I8 w => by
        obtain ⟨m', hm, w8⟩ := hNN _ _ _ w
        refine ⟨m', hm, i + 1, acc8, σ6, H8, I8.unpinned, T.keep _ _ _ st5 fun b hb o e => (I8.pin (b, o) (List.mem_append_right _ (List.mem_append_right _ (mem_pinsAt hb e)))).1, fun b hb => ?_, w8⟩
        obtain ⟨o, e, d⟩ := T.obj _ _ st5 b hb
        exact (I8.pin (b, o) (List.mem_append_right _ (List.mem_append_right _ (mem_pinsAt hb e)))).2.1
      cases b with
      | false => exact again I7 q7
      | true =>
        refine thn ((he _ _ _ _).h _ s7 σ6 H7 _ I7 q7) fun y s8 ⟨v, H8, I8, r8, q8⟩ => ?_
        obtain ⟨hx, hz, w8⟩ := q8
        refine thn (mt_append (X := X.comp N sc H2.objs.size s H fp) _ s8 σ6 H8 (.ref s.heap.objs.size) [v] (.ref s.heap.objs.size) [y] (fun _ H9 => H9 = upd H8 s.heap.objs.size (.lst (acc ++ [v]))) I8 rfl (.cons r8 .nil) ⟨_, acc, v, rfl, rfl, hx, hz, rfl⟩) fun _ s9 ⟨_, H9, I9, _, q9⟩ => ?_
        subst q9
        exact again I9 w8
  exact codeAny_compStart_list (loop _ rfl) (T.self _ 0 _ _ _ st0 (loop _ rfl))
theorem elc (c : Cap X sc N src) (hc : X.calm = true) (hi : JI X tg iter wi)
    (hg : ∀ C s H fp, JG (X.comp N sc C s H fp) tg g) (ht : ∀ C s H fp, JF (X.comp N sc C s H fp) ifs tt) (he : ∀ C s H fp, JE (X.comp N sc C s H fp) elt te)
    (hs : ∀ x, foldedSetIterable iter X.env x = pure x := by intro _; rfl) : JE X (.ListComp elt [⟨tg, iter, ifs, 0⟩] sc pos) (tLc X.K wi src g tt te) := ⟨by
  intro pins s σ H Q I h
  rw [eval_ListComp]
  refine wpAny_comprehension_free (use := none) rfl hs (closureFor_eq fun x hx hk => ?_) c.kind c.names ?_
  · obtain ⟨n, k⟩ := x
    cases hk
    exact I.ok.has _ (c.free hx)
  refine thn (hi.h pins s σ H _ I h) fun v s1 h1 => thn h1 fun itv s2 h2 => ?_
  obtain ⟨it, fp, tn, J, H2, e, I2, T, st2, f2, h2⟩ := h2
  subst e
  refine comp_run (R := fun acc C => compPost (model X.prog X.w) X.A X.xe none (EP X pins σ Q) acc C) (Q := Q) c hc hg ht he I2 T st2 f2 h2 fun D C s' σ' H' hC I' q => ?_
  obtain ⟨m, hn, _⟩ := id I'.loc
  refine ⟨m, hn, fun h' sb => ?_⟩
  exact ⟨.ref D, H', I2.unblock f2 hC I' fun b hb => sb.2 b hb, rfl, q⟩⟩
theorem slc {i : Nat} {y : Str} {py spos : Pos} (hN : X.N.Nodup) (hy : X.N[i]? = some y) (hx : Loc X.env.scope y) (c : Cap X sc N src) (hc : X.calm = true) (hi : JI X tg iter wi)
    (hg : ∀ C s H fp, JG (X.comp N sc C s H fp) tg g) (ht : ∀ C s H fp, JF (X.comp N sc C s H fp) ifs tt) (he : ∀ C s H fp, JE (X.comp N sc C s H fp) elt te)
    (hsw : swapsWith (.ListComp elt [⟨tg, iter, ifs, 0⟩] sc pos) (some (.Name y py)) spos.line X.env = pure true := by rfl)
    (hf : X.fn y = true ∨ X.env.scope.names.lookup y = some .local := by first | exact .inl rfl | exact .inr rfl | assumption)
    (hs : ∀ x, foldedSetIterable iter X.env x = pure x := by intro _; rfl) : JS X (.Assign [.Name y py] (.ListComp elt [⟨tg, iter, ifs, 0⟩] sc pos) spos) (tAsg (tLc X.K wi src g tt te) (gName i)) := ⟨by
  intro pins s σ H D I h
  rw [exec_Assign_Name_used _ _ _ _ hsw]
  refine wpAny_bind (wpAny_standAt (wpAny_bind ?_))
  show wpAny _ X.A (do let _ ← comprehension (.ListComp elt [⟨tg, iter, ifs, 0⟩] sc pos) sc X.env _ (newList []) false (eval iter X.env) (some (assign (.Name y py) X.env))) _ _ s
  refine wpAny_bind (wpAny_mono (wpAny_comprehension_free (use := some (assign (.Name y py) X.env)) (Q := fun _ s' => SP X pins D .next s') rfl hs (closureFor_eq fun x hx hk => ?_) c.kind c.names ?_) (fun _ s' hq => wpAny_pure (wpAny_pure hq)) fun _ _ e => e)
  · obtain ⟨n, k⟩ := x
    cases hk
    exact I.ok.has _ (c.free hx)
  refine thn (hi.h pins s σ H _ I h) fun v s1 h1 => thn h1 fun itv s2 h2 => ?_
  obtain ⟨it, fp, tn, J, H2, e, I2, T, st2, f2, h2⟩ := h2
  subst e
  refine comp_run (R := fun acc C => compPost (model X.prog X.w) X.A X.xe (some (assign (.Name y py) X.env)) (fun _ s' => SP X pins D .next s') acc C) (Q := fun v H' => D.nx (σ.set i (some v)) H') c hc hg ht he I2 T st2 f2 h2 fun L C s' σ' H' hC I' q => ?_
  obtain ⟨m, hn, _⟩ := id I'.loc
  obtain ⟨o, es, ep, ho, r⟩ := id hn
  have I3 : Inv X pins σ H' s' := I2.unblock (h' := s'.heap) f2 hC I' fun _ _ => rfl
  have cL : C ≠ X.env.locals := Nat.ne_of_gt (Nat.lt_of_lt_of_le I2.lt hC)
  have cC : ∀ x a, X.env.cells.lookup x = some a → a ≠ C := fun x a e => by
    obtain ⟨v, o, e', _⟩ := I2.cell x a e
    exact Nat.ne_of_lt (Nat.lt_of_lt_of_le (Heap.lt_size e') hC)
  have cP : ∀ p ∈ X.pn ++ pins, p.1 ≠ C := fun p hp => Nat.ne_of_lt (Nat.lt_of_lt_of_le (Heap.lt_size (I2.pin p hp).1) hC)
  have fr : H' C = none := I'.free
  have I4 : Inv X (pins ++ [(C, o)]) σ H' s' := I3.pins_of fun p hp => (List.mem_append.mp hp).elim (fun z => I3.pin p (List.mem_append_right _ z)) fun z => by
    have e : p = (C, o) := by simpa using z
    subst e
    exact ⟨ho, fr, cL, I2.nofs hC, fun v z => by
      have r1 := r
      simp_all⟩
  show wpAny (model X.prog X.w) X.A (assign (.Name y py) X.env (.ref L)) _ _ s'
  refine thn (pg_name (pos := py) hN hy hx hf _ s' σ H' (.ref L) (.ref L) (fun σ1 H1 => D.nx σ1 H1 ∧ H1 = H') I4 rfl ⟨q, rfl⟩) fun _ s5 ⟨σ5, H5, I5, q5, e5⟩ => ?_
  subst e5
  have pC := (I5.pin (C, o) (List.mem_append_right _ (List.mem_append_right _ (by simp)))).1
  refine ⟨m, ⟨o, es, ep, pC, r⟩, fun h' sb => ?_⟩
  exact ⟨σ5, H5, I5.unpinned.turned (t' := s5.toks) (fun b u hb e => (sb.2 b hb).trans e) fr cL (.inr (Nat.le_trans I2.sz hC)) cC cP, q5⟩⟩
end
end L2
namespace L2
open PySem PySem.Spec PyProof.Rows
theorem pick_nil {σ : St} : pick σ [] = [] := rfl
theorem pick_own {σ : St} {r : List (Option Nat)} : pick σ (none :: r) = none :: pick σ r := rfl
theorem pick_cap {σ : St} {j : Nat} {r : List (Option Nat)} : pick σ (some j :: r) = (σ[j]?).join :: pick σ r := rfl
theorem join_some {α : Type} {o : Option α} : (some o).join = o := rfl
section
variable {K : PySem.W.Frag} {g : TG} {tt : TT} {te : TE} {D a : Addr} {Q : Hp → Prop} {σ : St} {H : Hp} {xs : List V} {lo : Int} {n : Nat}
theorem lc_run {J : It} (Pv : Nat → List V → St → Hp → Prop) (h0 : Pv 0 [] σ H) (hgo : ∀ i acc σ H, i < n → Pv i acc σ H → J.go i H) (hst : ∀ acc σ H, Pv n acc σ H → J.stop n H)
    (hs : ∀ i acc σ H x H', i < n → Pv i acc σ H → J.yld i H x H' → g x σ H' fun σ2 H2 => tt σ2 H2 fun b H3 => if b = true then te σ2 H3 fun v H4 => H4 D = some (.lst acc) ∧ acc.length < sizeLine ∧ Pv (i + 1) (acc ++ [v]) σ2 (upd H4 D (.lst (acc ++ [v]))) else Pv (i + 1) acc σ2 H3)
    (hd : ∀ acc σ H, Pv n acc σ H → Q H) : LcLoop J g tt te D Q σ H := by
  refine ⟨fun i m acc σ H => Pv i acc σ H ∧ i ≤ n ∧ m = n - i, ⟨n, h0, Nat.zero_le _, by omega⟩, fun i m acc σ H ⟨h, hi, hm⟩ => ?_⟩
  by_cases c : i < n
  · right
    exact ⟨hgo i acc σ H c h, Pv (i + 1), fun acc' σ' H' q => ⟨n - (i + 1), by omega, q, by omega, rfl⟩, fun x H' hy => hs i acc σ H x H' c h hy⟩
  · left
    have e : i = n := by omega
    subst e
    exact ⟨hst acc σ H h, hd acc σ H h⟩
theorem lc_range (Pv : Nat → List V → St → Hp → Prop) (h0 : Pv 0 [] σ H)
    (hs : ∀ i acc σ H, i < n → Pv i acc σ H → g (.int (lo + i)) σ H fun σ2 H2 => tt σ2 H2 fun b H3 => if b = true then te σ2 H3 fun v H4 => H4 D = some (.lst acc) ∧ acc.length < sizeLine ∧ Pv (i + 1) (acc ++ [v]) σ2 (upd H4 D (.lst (acc ++ [v]))) else Pv (i + 1) acc σ2 H3)
    (hd : ∀ acc σ H, Pv n acc σ H → Q H) : LcLoop (Itr lo n) g tt te D Q σ H := by
  refine lc_run (n := n) Pv h0 (fun i _ _ _ h _ => h) (fun _ _ _ _ => Nat.le_refl _) (fun i acc σ H x H' hi h hy => ?_) hd
  obtain ⟨rfl, rfl⟩ := hy
  exact hs i acc σ _ hi h
theorem lc_list (Pv : Nat → List V → St → Hp → Prop) (h0 : Pv 0 [] σ H) (hl : ∀ i acc σ H, i ≤ xs.length → Pv i acc σ H → SqL K H a xs)
    (hs : ∀ i x acc σ H, xs[i]? = some x → Pv i acc σ H → g x σ H fun σ2 H2 => tt σ2 H2 fun b H3 => if b = true then te σ2 H3 fun v H4 => H4 D = some (.lst acc) ∧ acc.length < sizeLine ∧ Pv (i + 1) (acc ++ [v]) σ2 (upd H4 D (.lst (acc ++ [v]))) else Pv (i + 1) acc σ2 H3)
    (hd : ∀ acc σ H, Pv xs.length acc σ H → Q H) : LcLoop (Itl K a) g tt te D Q σ H := by
  refine lc_run (n := xs.length) Pv h0 (fun i acc σ H hi h => ⟨xs, _, hl i acc σ H (Nat.le_of_lt hi) h, List.getElem?_eq_getElem hi⟩) (fun acc σ H h => ⟨xs, hl _ acc σ H (Nat.le_refl _) h, Nat.le_refl _⟩) (fun i acc σ H x H' hi h hy => ?_) hd
  obtain ⟨rfl, hy⟩ := hy
  exact hs i x acc σ _ (hy xs (hl i acc σ _ (Nat.le_of_lt hi) h)) h
theorem lc_tup (Pv : Nat → List V → St → Hp → Prop) (h0 : Pv 0 [] σ H) (hl : ∀ i acc σ H, i ≤ xs.length → Pv i acc σ H → SqT K H a xs)
    (hs : ∀ i x acc σ H, xs[i]? = some x → Pv i acc σ H → g x σ H fun σ2 H2 => tt σ2 H2 fun b H3 => if b = true then te σ2 H3 fun v H4 => H4 D = some (.lst acc) ∧ acc.length < sizeLine ∧ Pv (i + 1) (acc ++ [v]) σ2 (upd H4 D (.lst (acc ++ [v]))) else Pv (i + 1) acc σ2 H3)
    (hd : ∀ acc σ H, Pv xs.length acc σ H → Q H) : LcLoop (Itt K a) g tt te D Q σ H := by
  refine lc_run (n := xs.length) Pv h0 (fun i acc σ H hi h => ⟨xs, _, hl i acc σ H (Nat.le_of_lt hi) h, List.getElem?_eq_getElem hi⟩) (fun acc σ H h => ⟨xs, hl _ acc σ H (Nat.le_refl _) h, Nat.le_refl _⟩) (fun i acc σ H x H' hi h hy => ?_) hd
  obtain ⟨rfl, hy⟩ := hy
  exact hs i x acc σ _ (hy xs (hl i acc σ _ (Nat.le_of_lt hi) h)) h
theorem tLc_rng1 {ta : TA} {src : List (Option Nat)} {Q : VK} : tLc K (iRng1 ta) src g tt te σ H Q = ta σ H (fun vs H1 => ∃ j : Int, vs = [.int j] ∧ -(2 ^ 62) ≤ j ∧ j < 2 ^ 62 ∧ ∀ D, L2.new K H1 D → LcLoop (Itr 0 j.toNat) g tt te D (fun H' => Q (.ref D) H') (pick σ src) (upd H1 D (.lst []))) := rfl
theorem tLc_list {tl : TE} {src : List (Option Nat)} {Q : VK} : tLc K (iList K tl) src g tt te σ H Q = tl σ H (fun x H1 => ∃ a, x = .ref a ∧ (∃ xs, SqL K H1 a xs) ∧ ∀ D, L2.new K H1 D → LcLoop (Itl K a) g tt te D (fun H' => Q (.ref D) H') (pick σ src) (upd H1 D (.lst []))) := rfl
theorem tLc_tup {tl : TE} {src : List (Option Nat)} {Q : VK} : tLc K (iTup K tl) src g tt te σ H Q = tl σ H (fun x H1 => ∃ a, x = .ref a ∧ (∃ xs, SqT K H1 a xs) ∧ ∀ D, L2.new K H1 D → LcLoop (Itt K a) g tt te D (fun H' => Q (.ref D) H') (pick σ src) (upd H1 D (.lst []))) := rfl
end
end L2
namespace L2
open PySem PySem.Spec PyProof.Rows
section
variable {X : Cx} {es : List Expr} {t : TA} {pos : Pos} (K : PySem.W.Frag)
theorem gtupQK {k : Nat} {t : TGs} {n : Nat} (hc : X.calm = true) (h : JGs X es t) (hn : (assignEach es X.env).length = n := by rfl) (hst : (assignEach es X.env).findIdx? (·.1) = none := by rfl) (hk : X.K = K := by rfl) : JG X (.Tuple es k pos) (gTupQ K n t) := by subst hk; exact gtupQ hc h hn hst
end
end L2
namespace L2
open PySem PySem.Spec PyProof.Rows
section
variable {X : Cx} {pins : List (Addr × Obj)} {σ : St} {H : Hp} {s : Shared}
theorem Inv.notMod (I : Inv X pins σ H s) {a : Addr} {o : HO} (h : H a = some o) : kTup X.K a = none := by
  cases e : kTup X.K a with
  | none => rfl
  | some xs =>
    obtain ⟨ob, q⟩ := kTup_look e
    rw [(I.bs a ob (I.ok.mod.kin a ob q)).2] at h
    cases h
theorem call_list_ofQ : CallR X (.type "list") (fun xs H Q => ∃ p ys, xs = [.ref p] ∧ seqQ X.K H p = some ys ∧ ∀ l, L2.new X.K H l → Q (.ref l) (upd H l (.lst ys))) := by
  intro pins s σ H xs us Q I r h
  obtain ⟨p, ys, e, hq, q⟩ := h
  refine thn (call_list_of pins s σ H xs us (fun v H' => ∃ l, H l = none ∧ v = .ref l ∧ H' = upd H l (.lst ys)) I r ⟨p, ys, e, seqQ_sq hq, fun l hl => ⟨l, hl, rfl, rfl⟩⟩) fun u s' ⟨v, H', I', rv, l, hl, e1, e2⟩ => ?_
  subst e1 e2
  exact ⟨_, _, I', rv, q l ⟨hl, I'.notMod upd_same⟩⟩
end
theorem Kp2.kp {K : PySem.W.Frag} {p D : Addr} {H H' : Hp} {o : HO} (k : Kp2 K p D (upd H D o) H') (n : L2.new K H D) : Kp K p H H' := by
  refine ⟨fun q u e m => ?_, fun b ys e m => k.mod b ys ((Ext.new n).mod b ys e m) m⟩
  have d : q ≠ D := ne_of_none e n.1
  exact k.keep q u (by rw [upd_ne d]; exact e) m d
theorem Kp2.refl {K : PySem.W.Frag} {p D : Addr} {H : Hp} : Kp2 K p D H H := ⟨fun _ _ h _ _ => h, fun _ _ h _ => h⟩
end L2
set_option Elab.async false
set_option linter.all false
set_option maxRecDepth 100000
namespace L2
open PySem PySem.Spec PyProof.Rows
def gk {α : Type} (n m : Nat) (us ws : List α) : List α := if us.length = n ∧ ws.length = m then us ++ ws else []
structure JK (X : Cx) (kws : List Keyword) (t : TA) : Prop where h : PK X kws t
structure CalleeK (P : Program) (w : World) (K : PySem.W.Frag) (mg : Str → Option Value) (base : Heap) (x : Str) (k : Nat) (ps : List Str) (ks : List Str) (n m : Nat) (sp : Sp) : Prop where
  ex : ∃ (f : Addr) (fd : FuncData), FnOk P w K mg base CX0 k f fd ps sp ∧ KBinds K fd ps ks (gk n m) (gk n m) ∧ PySem.W.keepIn K (.ref f) = true ∧ mg x = some (.ref f)
structure CalleeD (P : Program) (w : World) (K : PySem.W.Frag) (mg : Str → Option Value) (base : Heap) (x : Str) (k : Nat) (ps : List Str) (dvs : List V) (sp : Sp) : Prop where
  ex : ∃ (f : Addr) (fd : FuncData) (ds : List Value), FnOk P w K mg base CX0 k f fd ps sp ∧ Binds K fd ps ds ∧ Vals dvs ds ∧ PySem.W.keepIn K (.ref f) = true ∧ mg x = some (.ref f)
section
variable {X : Cx} {x : Str} {k n m : Nat} {ps ks : List Str} {dvs : List V} {sp : Sp} {e : Expr} {es : List Expr} {kws : List Keyword} {t tk : TA} {te : TE} {p pos kpos : Pos} {nm : Option Str}
end
end L2
namespace L2
open PySem PySem.Spec PyProof.Rows
end L2
namespace L2
open PySem PySem.Spec PyProof.Rows
section
variable {K : PySem.W.Frag} {s : Shared} {fd : FuncData} {args : Args} {binds : List (Str × Value)} {d : Addr} {name : Str} {v cls : Value} {es : Array DictEntry} {ep : Nat} {od : Option Addr} {sl : Array (Option Value)} {α β : Type}
end
end L2
set_option Elab.async false
set_option linter.all false
set_option maxRecDepth 100000
namespace L2
open PySem PySem.Spec PyProof.Rows
section
variable {X : Cx} {o lo hi e : Expr} {to tl th te : TE} {p pos : Pos}
end
end L2
namespace L2
open PySem PySem.Spec PyProof.Rows
section
variable {X : Cx}
def rSlTQ (K : PySem.W.Frag) : V → Option Int → Option Int → Hp → VK → Prop := fun x lo hi H Q => ∃ a xs, x = .ref a ∧ tupQ K H a = some xs ∧
  ¬ (HT.sIx xs.length 0 lo = 0 ∧ HT.sIx xs.length xs.length hi = xs.length) ∧ ∀ p, L2.new K H p → Q (.ref p) (upd H p (.tup (cutV xs lo hi)))
theorem sl_tupQ : SlR X (rSlTQ X.K) := by
  intro pins s σ H x v vl vu lo hi sl Q I rx hs pl pu h
  obtain ⟨a, xs, rfl, hx, hw, q⟩ := h
  obtain ⟨T, id, h1, h2, h3⟩ := sl_tup pins s σ H (.ref a) v vl vu lo hi sl (fun v' H' => ∃ l, H l = none ∧ v' = .ref l ∧ H' = upd H l (.tup (cutV xs lo hi))) I rx hs pl pu ⟨a, xs, rfl, tupQ_sq hx, hw, fun l hl => ⟨l, hl, rfl, rfl⟩⟩
  refine ⟨T, id, h1, h2, thn h3 fun u s' ⟨v', H', I', rv, l, hl, e1, e2⟩ => ?_⟩
  subst e1 e2
  exact ⟨_, _, I', rv, q l ⟨hl, I'.notMod upd_same⟩⟩
end
end L2
set_option Elab.async false
set_option linter.all false
set_option maxRecDepth 100000
namespace L2
open PySem PySem.Spec PyProof.Rows
abbrev TBd := List V → St → Hp → (List V → St → Hp → Prop) → Prop
section
variable {elt tg iter tg1 iter1 : Expr} {ifs ifs1 : List Expr} {scope : Scope} {pos : Pos} {it acc : Value} {env : Env}
variable {prog : Program} {w : World} {A : Around} {R : Result → Shared → Prop} {s : Shared}
end
section
variable {Y : Cx} {elt tg iter tg1 iter1 : Expr} {ifs ifs1 : List Expr} {scope : Scope} {pos : Pos} {g : TG} {tt : TT} {te : TE}
end
section
variable {X : Cx} {sc : Scope} {N : List Str} {src : List (Option Nat)} {tg iter tg1 iter1 elt : Expr} {ifs ifs1 : List Expr} {wi wi1 : TI} {g g1 : TG} {tt tt1 : TT} {te : TE} {pos : Pos}
end
section
variable {K : PySem.W.Frag} {g : TG} {tt : TT} {body : TBd} {a : Addr} {acc0 : List V} {F : List V → St → Hp → Prop} {σ : St} {H : Hp} {xs : List V} {n : Nat}
end
end L2
set_option Elab.async false
set_option linter.all false
set_option maxRecDepth 100000
namespace L2
open PySem PySem.Spec PyProof.Rows
theorem vals_at {xs : List V} {us : List Value} (h : Vals xs us) : ∀ {i : Nat} {u : Value}, us[i]? = some u → ∃ x, xs[i]? = some x ∧ RelV x u := by
  induction h with
  | nil => intro i u e; simp at e
  | cons r rr ih =>
    intro i u e
    cases i with
    | zero => simp only [List.getElem?_cons_zero, Option.some.injEq] at e ⊢; exact ⟨_, rfl, e ▸ r⟩
    | succ i => simp only [List.getElem?_cons_succ] at e ⊢; exact ih e
section
variable {X : Cx}
theorem range_all {bs : List Bool} : (List.range bs.length).all (fun i => bs.getD i true) = bs.all id := by
  induction bs with
  | nil => rfl
  | cons b bs ih =>
    rw [List.length_cons, List.range_succ_eq_map, List.all_cons, List.all_map, List.all_cons]
    have e : ((fun i => (b :: bs).getD i true) ∘ Nat.succ) = fun i => bs.getD i true := by funext i; simp
    rw [e, ih]
    rfl
theorem bools_truth {P : Program} {w : World} {A : Around} {bs : List Bool} {us : List Value} (r : Vals (bs.map V.bl) us) : TruthOf P w A (fun i v => us.toArray[i]? = some v) (fun i => bs.getD i true) := by
  intro i v s Q E hv hQ
  rw [List.getElem?_toArray] at hv
  obtain ⟨x, hx, rx⟩ := vals_at r hv
  rw [List.getElem?_map] at hx
  obtain ⟨b, hb, rfl⟩ := Option.map_eq_some_iff.mp hx
  cases rx
  have e : bs.getD i true = b := by rw [List.getD_eq_getElem?_getD, hb]; rfl
  dsimp only at hQ
  rw [e] at hQ
  exact wpAny_truthy_bool hQ
theorem kept_iter {s : Shared} {l : Addr} {h' : Heap} (hk : ∀ b o, b ∉ [s.heap.objs.size] → (s.heap.push { cls := .type "list_iterator", data := .fields #[.ref l, .int 0 0] }).get? b = some o → h'.get? b = some o) : ∀ b o, s.heap.get? b = some o → h'.get? b = some o := fun b o e => by
  refine hk b o (fun m => ?_) (Heap.get?_push_of_some _ e)
  have q : b = s.heap.objs.size := by simpa using m
  exact Nat.lt_irrefl _ (q ▸ Heap.lt_size e)
theorem call_allL (hc : X.calm = true) : CallR X (.builtin "all") (fun xs H Q => ∃ (p : Addr) (bs : List Bool), xs = [.ref p] ∧ SqL X.K H p (bs.map V.bl) ∧ Q (.bl (bs.all id)) H) := by
  intro pins s σ H xs us Q I r h
  obtain ⟨p, bs, rfl, hx, q⟩ := h
  obtain ⟨u, rfl, ru⟩ := vals1 r
  cases ru
  obtain ⟨its, rv, ht, hz⟩ := I.list hx
  have hl : s.heap.IsList p its.toArray := ht.isList
  have hlt : p < s.heap.objs.size := by obtain ⟨_, e, _⟩ := hl; exact Heap.lt_size e
  refine call_all_walk (wpAny_pyIter_list hl ?_)
  refine ⟨_, _, _, _, _, _, fun i => bs.getD i true, rfl, Walks.list (A := X.A.in1) (I.ok.hd hc) _ p (Nat.ne_of_lt hlt) its.toArray, ⟨⟨_, Heap.get?_push_size _ rfl, rfl, rfl⟩, hl.push _⟩, bools_truth rv, fun h' tk hk => ?_⟩
  have el : its.toArray.size = bs.length := by rw [List.size_toArray, ← rv.length, List.length_map]
  rw [el, range_all]
  exact ⟨.bl _, H, I.kept (kept_iter hk), rfl, q⟩
end
section
variable {P : Program} {w : World} {A : Around} {E : Value → Shared → Prop} {s : Shared} {b0 : Array Keyed}
end
section
variable {X : Cx}
end
end L2
set_option Elab.async false
set_option linter.all false
set_option maxRecDepth 100000
namespace L2
open PySem PySem.Spec PyProof.Rows
def Rise (xs : Array Nat) : Prop := xs.toList.Pairwise (· < ·)
structure TabOk (t : SetTable) : Prop where
  bare : t.dummies = #[]
  rise : Rise t.place
section
variable {xs : Array Nat} {j : Nat}
theorem Rise.lt (h : Rise xs) {i k : Nat} (ik : i < k) (hk : k < xs.size) : xs.getD i j < xs.getD k j := by
  have hi : i < xs.size := Nat.lt_trans ik hk
  rw [Array.getD_eq_getD_getElem?, Array.getD_eq_getD_getElem?, Array.getElem?_eq_getElem hi, Array.getElem?_eq_getElem hk]
  have q := List.pairwise_iff_getElem.mp h i k (by simpa using hi) (by simpa using hk) ik
  simpa using q
theorem low_lt (h : Rise xs) {m : Nat} (hm : xs.getD m j < j) {i : Nat} (hi : i ≤ m) : xs.getD i j < j := by
  by_cases c : m < xs.size
  · by_cases e : i = m
    · rw [e]; exact hm
    · have := h.lt (j := j) (show i < m by omega) c
      omega
  · rw [Array.getD_eq_getD_getElem?, Array.getElem?_eq_none (by omega)] at hm
    exact absurd hm (Nat.lt_irrefl _)
theorem high_ge (h : Rise xs) {m : Nat} (hm : ¬ xs.getD m j < j) {i : Nat} (hi : m ≤ i) : ¬ xs.getD i j < j := fun c => hm (low_lt h c hi)
theorem below_go (h : Rise xs) : ∀ fuel lo hi, lo ≤ hi → hi ≤ xs.size → hi - lo ≤ fuel → (∀ i, i < lo → xs.getD i j < j) → (∀ i, hi ≤ i → ¬ xs.getD i j < j) →
    SetTable.below.go xs j fuel lo hi ≤ xs.size ∧ (∀ i, i < SetTable.below.go xs j fuel lo hi → xs.getD i j < j) ∧ ∀ i, SetTable.below.go xs j fuel lo hi ≤ i → ¬ xs.getD i j < j
  | 0, lo, hi, h1, h2, h3, h4, h5 => by
    have e : lo = hi := by omega
    unfold SetTable.below.go
    exact ⟨by omega, h4, fun i hi' => h5 i (by omega)⟩
  | fuel + 1, lo, hi, h1, h2, h3, h4, h5 => by
    unfold SetTable.below.go
    by_cases c : lo < hi
    · rw [if_pos c]
      dsimp only
      by_cases d : xs.getD ((lo + hi) / 2) j < j
      · rw [if_pos d]
        exact below_go h fuel _ _ (by omega) h2 (by omega) (fun i hi' => low_lt h d (by omega)) h5
      · rw [if_neg d]
        exact below_go h fuel _ _ (by omega) (by omega) (by omega) h4 (fun i hi' => high_ge h d hi')
    · rw [if_neg c]
      exact ⟨by omega, h4, fun i hi' => h5 i (by omega)⟩
theorem below_spec (h : Rise xs) (j : Nat) : SetTable.below xs j ≤ xs.size ∧ (∀ i, i < SetTable.below xs j → xs.getD i j < j) ∧ ∀ i, SetTable.below xs j ≤ i → ¬ xs.getD i j < j := by
  unfold SetTable.below
  refine below_go h _ _ _ (Nat.zero_le _) (Nat.le_refl _) (by omega) (fun i hi => absurd hi (Nat.not_lt_zero _)) (fun i hi => ?_)
  rw [Array.getD_eq_getD_getElem?, Array.getElem?_eq_none hi]
  exact Nat.lt_irrefl _
theorem Rise.insert (h : Rise xs) {j : Nat} (free : xs[SetTable.below xs j]? ≠ some j) : Rise (SetTable.insertAt xs (SetTable.below xs j) j) := by
  obtain ⟨b1, b2, b3⟩ := below_spec h j
  generalize SetTable.below xs j = p at *
  have at_ : ∀ i (hi : i < xs.size), xs.getD i j = xs.toList[i]'(by simpa using hi) := fun i hi => by
    rw [Array.getD_eq_getD_getElem?, Array.getElem?_eq_getElem hi]; simp
  unfold Rise SetTable.insertAt
  rw [Array.toList_append, Array.toList_push, Array.toList_extract, Array.toList_extract]
  simp only [List.extract_eq_drop_take, Nat.sub_zero, List.drop_zero]
  have e1 : List.take (xs.size - p) (List.drop p xs.toList) = xs.toList.drop p := List.take_of_length_le (by rw [List.length_drop]; simp)
  rw [e1, List.append_assoc]
  refine List.pairwise_append.mpr ⟨h.sublist (List.take_sublist _ _), ?_, ?_⟩
  · refine List.pairwise_append.mpr ⟨List.pairwise_singleton _ _, h.sublist (List.drop_sublist _ _), fun a ha c hc => ?_⟩
    have ea : a = j := by simpa using ha
    subst ea
    obtain ⟨i, hi, rfl⟩ := List.mem_iff_getElem.mp hc
    rw [List.length_drop] at hi
    rw [List.getElem_drop]
    have hlt : p + i < xs.size := by simp at hi; omega
    have q := b3 (p + i) (by omega)
    rw [at_ _ hlt] at q
    by_cases z : i = 0
    · subst z
      have ne : xs.toList[p + 0]'(by simpa using hlt) ≠ a := fun e => free (by
        rw [Array.getElem?_eq_getElem (by simpa using hlt)]
        simpa using e)
      omega
    · have hp : p < xs.size := by omega
      have q0 := b3 p (Nat.le_refl _)
      have q1 := h.lt (j := a) (show p < p + i by omega) hlt
      rw [at_ _ hlt] at q1
      omega
  · intro a ha c hc
    obtain ⟨i, hi, rfl⟩ := List.mem_iff_getElem.mp ha
    rw [List.length_take] at hi
    rw [List.getElem_take]
    have hlt : i < xs.size := by simp at hi; omega
    have qa := b2 i (by omega)
    rw [at_ _ hlt] at qa
    rcases List.mem_append.mp hc with z | z
    · have e : c = j := by simpa using z
      rw [e]; exact qa
    · obtain ⟨k, hk, rfl⟩ := List.mem_iff_getElem.mp z
      rw [List.length_drop] at hk
      rw [List.getElem_drop]
      exact List.pairwise_iff_getElem.mp h i (p + k) _ _ (by omega)
end
theorem has_none (j : Nat) : SetTable.has #[] j = false := by simp [SetTable.has]
theorem TabOk.slot {t : SetTable} (h : TabOk t) {j : Nat} (e : t.slot j = .empty) : t.place[SetTable.below t.place j]? ≠ some j := by
  intro c
  unfold SetTable.slot at e
  simp only [c, beq_self_eq_true, if_true] at e
  cases e
theorem probe_free {t : SetTable} (h : TabOk t) {f : Nat → Int} {x : Int} : ∀ (fuel : Nat) (p : SetTable.Probe) {j : Nat} {d : Option Nat}, p.dummy = none → SetTable.probe.go t f x fuel p = some (.empty j d) → d = none ∧ t.slot j = .empty
  | 0, p, j, d, hp, e => by unfold SetTable.probe.go at e; cases e
  | fuel + 1, p, j, d, hp, e => by
    unfold SetTable.probe.go at e
    have adv : (t.advance p).dummy = none := by unfold SetTable.advance; split <;> exact hp
    cases c : t.slot p.j with
    | empty =>
      rw [c] at e
      dsimp only at e
      cases e
      exact ⟨hp, c⟩
    | dummy =>
      exfalso
      unfold SetTable.slot at c
      dsimp only at c
      split at c
      · cases c
      · rw [h.bare, has_none] at c
        simp at c
    | live i =>
      rw [c] at e
      dsimp only at e
      split at e
      · cases e
      · exact probe_free h fuel _ adv e
theorem TabOk.standIn {t : SetTable} (n : Nat) : TabOk (t.standIn n) := ⟨rfl, by
  show (Array.range n).toList.Pairwise (· < ·)
  rw [Array.toList_range]
  exact List.pairwise_lt_range⟩
theorem TabOk.orStandIn {t : SetTable} (h : TabOk t) (n : Nat) : TabOk (t.orStandIn n) := by
  unfold SetTable.orStandIn
  split
  · exact h
  · exact .standIn n
theorem TabOk.put {t : SetTable} (h : TabOk t) {j : Nat} (e : t.slot j = .empty) : TabOk (t.put j).1 := ⟨by
  show (if SetTable.has t.dummies j then _ else t.dummies) = #[]
  rw [h.bare, has_none]
  rfl, h.rise.insert (h.slot e)⟩
theorem layNew_tab {t : SetTable} (h : TabOk t) (es : Array (Int × Value)) (hv : Int) (x : Value) : TabOk (layNew t es hv x).2.1 ∧ (layNew t es hv x).2.1.led = t.led := by
  unfold layNew
  cases c : t.freeSlot hv with
  | none => exact ⟨.standIn _, rfl⟩
  | some q =>
    obtain ⟨sl, wd⟩ := q
    have free : t.slot sl = .empty := by
      unfold SetTable.freeSlot at c
      split at c
      · next j d e =>
        unfold SetTable.probe at e
        obtain ⟨rfl, z⟩ := probe_free h _ _ rfl e
        simp only [Option.getD_none, Option.isSome_none, Option.some.injEq, Prod.mk.injEq] at c
        rw [← c.1]; exact z
      · cases c
    dsimp only
    refine ⟨(h.put free).orStandIn _, ?_⟩
    unfold SetTable.orStandIn
    split
    · rfl
    · rfl
theorem laid_rise (f : Nat → Option Nat) : ∀ l : List Nat, l.Pairwise (· < ·) → ((l.filterMap fun j => (f j).map (j, ·)).map (·.1)).Pairwise (· < ·) ∧ ∀ a ∈ (l.filterMap fun j => (f j).map (j, ·)).map (·.1), a ∈ l
  | [], _ => ⟨List.Pairwise.nil, fun a h => nomatch h⟩
  | j :: l, h => by
    obtain ⟨i1, i2⟩ := laid_rise f l (List.pairwise_cons.mp h).2
    cases c : f j with
    | none =>
      rw [List.filterMap_cons_none (by rw [c]; rfl)]
      exact ⟨i1, fun a ha => List.mem_cons_of_mem _ (i2 a ha)⟩
    | some k =>
      rw [List.filterMap_cons_some (b := (j, k)) (by rw [c]; rfl)]
      refine ⟨List.pairwise_cons.mpr ⟨fun a ha => (List.pairwise_cons.mp h).1 a (i2 a ha), i1⟩, fun a ha => ?_⟩
      rcases List.mem_cons.mp ha with z | z
      · exact z ▸ List.mem_cons_self
      · exact List.mem_cons_of_mem _ (i2 a z)
theorem relayAll_tab {t : SetTable} (es : Array (Int × Value)) (n : Nat) : TabOk (relayAll t es n).2.1 ∧ (relayAll t es n).2.1.led = t.led := by
  unfold relayAll
  cases c : t.relaid (es.map (·.1)) n with
  | none => exact ⟨.standIn _, rfl⟩
  | some q =>
    obtain ⟨t', order⟩ := q
    dsimp only
    split
    · unfold SetTable.relaid SetTable.laid at c
      cases d : SetTable.layClean (SetTable.sizeAbove n - 1) (es.map (·.1)) with
      | none => rw [d] at c; cases c
      | some owner =>
        rw [d] at c
        simp only [Option.bind_eq_bind, Option.bind_some, Option.pure_def, Option.some.injEq, Prod.mk.injEq] at c
        rw [← c.1]
        refine ⟨⟨rfl, ?_⟩, rfl⟩
        exact (laid_rise (fun j => owner.getD j none) _ List.pairwise_lt_range).1
    · exact ⟨.standIn _, rfl⟩
def ksOf (es : Array (Int × Value)) : List Int := es.toList.map fun e => numOf e.2
structure SetAt (P : Program) (w : World) (h : Heap) (a : Addr) (L : Bool) (M : Int → Prop) (n : Nat) (es : Array (Int × Value)) (ep : Nat) (t : SetTable) : Prop where
  at_ : ∃ o, h.get? a = some o ∧ o.ExactSet ∧ o.data = .set es ep t
  elems : ElemsOf (intKind P w) es.toList
  nd : (ksOf es).Nodup
  mem : ∀ k, k ∈ ksOf es ↔ M k
  len : es.size ≤ n
  fits : t.fits es.size = true
  tab : TabOk t
  led : t.led = L
def SetI (P : Program) (w : World) (h : Heap) (a : Addr) (L : Bool) (M : Int → Prop) (n : Nat) : Prop := ∃ es ep t, SetAt P w h a L M n es ep t
section
variable {P : Program} {w : World} {A : Around} {E : Value → Shared → Prop} {s : Shared}
theorem SetI.keep {h h' : Heap} {a : Addr} {L : Bool} {M : Int → Prop} {n : Nat} (q : SetI P w h a L M n) (k : ∀ o, h.get? a = some o → h'.get? a = some o) : SetI P w h' a L M n := by
  obtain ⟨es, ep, t, x⟩ := q
  obtain ⟨o, h1, h2⟩ := x.at_
  exact ⟨es, ep, t, ⟨⟨o, k o h1, h2⟩, x.elems, x.nd, x.mem, x.len, x.fits, x.tab, x.led⟩⟩
theorem is_num {k : Int} {v : Value} (h : (intKind P w).is k v = true) : numOf v = k ∧ ∃ t, v = .int k t := by
  obtain ⟨t, rfl⟩ := Value.isInt_shape h
  exact ⟨rfl, t, rfl⟩
theorem set_stored {h : Heap} {a : Addr} {o : Obj} {es0 es : Array (Int × Value)} {ep : Nat} {t0 t : SetTable} (ho : h.get? a = some o) (hx : o.ExactSet) (hd : o.data = .set es0 ep t0) :
    ∃ o', (h.update a (Obj.putSet es t)).get? a = some o' ∧ o'.ExactSet ∧ o'.data = .set es (ep + 1) t := by
  refine ⟨{ o with data := .set es (ep + 1) t }, ?_, hx, rfl⟩
  have g := Heap.get?_update_self (Obj.putSet es t) ho (by rw [putSet_of es t hd]; rfl)
  rwa [putSet_of es t hd] at g
theorem add_end {g : Bool → Sem Unit} (hg : ∀ (b : Bool) (s1 : Shared) (R : Unit → Shared → Prop), R () s1 → wpAny (model P w) A (g b) R E s1) {a : Addr} {o : Obj} {es0 es : Array (Int × Value)} {ep : Nat} {t0 t : SetTable} {L : Bool} {M : Int → Prop} {n : Nat} {wd : Bool} {R : Option Bool → Shared → Prop}
    (ho : s.heap.get? a = some o) (hx : o.ExactSet) (hd : o.data = .set es0 ep t0) (h1 : ElemsOf (intKind P w) es.toList) (h2 : (ksOf es).Nodup) (h3 : ∀ k, k ∈ ksOf es ↔ M k) (h4 : es.size ≤ n) (h5 : t.fits es.size = true) (h6 : TabOk t) (h7 : t.led = L) (hn : n < scanBound)
    (q : ∀ h', Heap.SameBut a s.heap h' → SetI P w h' a L M n → R (some true) { s with heap := h' }) :
    wpAny (model P w) A (do
      storeSet a es t
      if (!wd && t.tooFull) = true then do
        g (relayAll t es (SetTable.grown es.size)).2.2
        storeSet a (relayAll t es (SetTable.grown es.size)).1 (relayAll t es (SetTable.grown es.size)).2.1
        pure (some true)
      else pure (some true)) R E s := by
  refine wpAny_bind (wpAny_storeSet_of ho hd ?_ (fits_of_scanBound (Nat.lt_of_le_of_lt h4 hn)))
  obtain ⟨o1, g1, x1, d1⟩ := set_stored (es := es) (t := t) ho hx hd
  have sb := Heap.SameBut.update s.heap a (Obj.putSet es t)
  split
  · have pm := relayAll_perm t es (SetTable.grown es.size)
    have ft := relayAll_fits t es (SetTable.grown es.size)
    obtain ⟨tb, ld⟩ := relayAll_tab (t := t) es (SetTable.grown es.size)
    generalize relayAll t es (SetTable.grown es.size) = W at pm ft tb ld ⊢
    have kp : (ksOf W.1).Perm (ksOf es) := pm.map _
    have sz : W.1.size = es.size := by rw [← Array.length_toList, pm.length_eq, Array.length_toList]
    refine wpAny_bind (hg _ _ _ ?_)
    refine wpAny_bind (wpAny_storeSet_of g1 d1 ?_ (fits_of_scanBound (by omega)))
    obtain ⟨o2, g2, x2, d2⟩ := set_stored (es := W.1) (t := W.2.1) g1 x1 d1
    exact wpAny_pure (q _ (sb.trans (Heap.SameBut.update _ a _)) ⟨W.1, _, W.2.1, ⟨⟨o2, g2, x2, d2⟩, h1.perm pm, kp.nodup_iff.mpr h2, fun k => kp.mem_iff.trans (h3 k), by omega, ft, tb, ld.trans h7⟩⟩)
  · exact wpAny_pure (q _ sb ⟨es, _, t, ⟨⟨o1, g1, x1, d1⟩, h1, h2, h3, h4, h5, h6, h7⟩⟩)
theorem add_int {a : Addr} {L : Bool} {M : Int → Prop} {n : Nat} {k : Int} {tk : Tok} {R : Bool → Shared → Prop} (h : SetI P w s.heap a L M n) (hn : n + 1 < scanBound)
    (q : ∀ h' b, Heap.SameBut a s.heap h' → SetI P w h' a L (fun j => M j ∨ j = k) (n + 1) → R b { s with heap := h' }) : wpAny (model P w) A (setAddHashed a (.int k tk) (hashInt k)) R E s := by
  obtain ⟨es, ep, t, x⟩ := h
  obtain ⟨o, ho, hx, hd⟩ := x.at_
  have lt : es.size < scanBound := Nat.lt_of_le_of_lt x.len (by omega)
  unfold setAddHashed setAddHashedIn
  refine wpAny_holding (wpAny_bind (wpAny_setState_of ho hd x.fits ?_))
  dsimp only
  rw [byScan_of (knd := intKind P w) (x := .int k tk) rfl lt x.elems]
  simp only [↓reduceIte]
  unfold setAddByScan
  refine wpAny_bind (wpAny_bind (wpAny_rule (wpAny_bind (wpAny_setScan_of (intKind_is P w k tk) ho hd x.fits x.elems ?_))))
  cases c : es.toList.findIdx? (fun e => (intKind P w).is k e.2) with
  | some i =>
    obtain ⟨hi, p, _⟩ := List.findIdx?_eq_some_iff_getElem.mp c
    have there : M k := (x.mem k).mp (List.mem_map.mpr ⟨_, List.getElem_mem hi, (is_num p).1⟩)
    exact wpAny_pure (wpAny_pure (q s.heap false (Heap.SameBut.refl a s.heap) ⟨es, ep, t, ⟨⟨o, ho, hx, hd⟩, x.elems, x.nd, fun j => (x.mem j).trans ⟨.inl, fun z => z.elim id fun e => e ▸ there⟩, Nat.le_succ_of_le x.len, x.fits, x.tab, x.led⟩⟩))
  | none =>
    have fresh : k ∉ ksOf es := fun m => by
      obtain ⟨e, he, ek⟩ := List.mem_map.mp m
      have no := List.findIdx?_eq_none_iff.mp c e he
      obtain ⟨⟨k', hk', _⟩, _⟩ := x.elems e he
      rw [(is_num hk').1] at ek
      subst ek
      rw [hk'] at no
      cases no
    have giving : ∀ (b : Bool) {s1 : Shared} {R' : Unit → Shared → Prop}, R' () s1 → wpAny (model P w) A (match b with | true => rule "set.scan.the-table-gave-way" | false => pure ()) R' E s1 := fun b {s1 R'} z => by
      cases b with
      | true => exact wpAny_rule z
      | false => exact wpAny_pure z
    have pm := layNew_perm t es (hashInt k) (.int k tk)
    have ft := layNew_fits t es (hashInt k) (.int k tk)
    obtain ⟨tb, ld⟩ := layNew_tab x.tab es (hashInt k) (.int k tk)
    dsimp only
    generalize layNew t es (hashInt k) (.int k tk) = W at pm ft tb ld ⊢
    obtain ⟨es1, t1, wd, gv⟩ := W
    dsimp only at pm ft tb ld ⊢
    rw [Array.toList_push] at pm
    have e1 : ElemsOf (intKind P w) es1.toList := (x.elems.push (intKind_is P w k tk) rfl).perm pm
    have kp : (ksOf es1).Perm (ksOf es ++ [k]) := by
      have z := pm.map fun e => numOf e.2
      rwa [List.map_append] at z
    have n1 : (ksOf es1).Nodup := kp.nodup_iff.mpr (List.nodup_append.mpr ⟨x.nd, by simp, fun a ha b hb => by
      have e : b = k := by simpa using hb
      subst e
      exact fun z => fresh (z ▸ ha)⟩)
    have m1 : ∀ j, j ∈ ksOf es1 ↔ (M j ∨ j = k) := fun j => by
      rw [kp.mem_iff, List.mem_append, x.mem j]
      simp
    have s1 : es1.size ≤ n + 1 := by
      rw [← Array.length_toList, pm.length_eq, List.length_append, Array.length_toList]
      exact Nat.succ_le_succ x.len
    refine wpAny_bind (giving _ ?_)
    have led1 : t1.led = L := ld.trans x.led
    split
    · refine wpAny_bind ?_
      rw [hashByValue_scannable 8 (x := .int k tk) rfl]
      refine wpAny_pure ?_
      refine add_end ?_ ho hx hd e1 n1 m1 s1 ft tb led1 hn fun h' z1 z2 => ?_
      · intro b s2 R' z
        exact giving b z
      · exact wpAny_pure (q h' true z1 z2)
    · refine wpAny_bind (wpAny_pure ?_)
      refine add_end ?_ ho hx hd e1 n1 m1 s1 ft tb led1 hn fun h' z1 z2 => ?_
      · intro b s2 R' z
        exact giving b z
      · exact wpAny_pure (q h' true z1 z2)
end
theorem SetI.to {P : Program} {w : World} {h : Heap} {a : Addr} {L : Bool} {M M' : Int → Prop} {n n' : Nat} (q : SetI P w h a L M n) (e : ∀ k, M k ↔ M' k) (le : n ≤ n') : SetI P w h a L M' n' := by
  obtain ⟨es, ep, t, x⟩ := q
  exact ⟨es, ep, t, ⟨x.at_, x.elems, x.nd, fun k => (x.mem k).trans (e k), Nat.le_trans x.len le, x.fits, x.tab, x.led⟩⟩
section
variable {P : Program} {w : World} {A : Around} {R : Result → Shared → Prop} {I S : Addr} {fp wr : List Addr} {G : Array GenState → Array GenState → Prop} {n : Nat} {Pv : Nat → Value → Prop} {St : Nat → Shared → Prop} {L : Bool}
end
section
variable {P : Program} {w : World} {A : Around} {E : Value → Shared → Prop} {s : Shared}
end
end L2
set_option Elab.async false
set_option linter.all false
set_option maxRecDepth 100000
namespace L2
open PySem PySem.Spec PyProof.Rows
def SObj (h : Heap) (S : Addr) (es : Array (Int × Value)) (ep : Nat) (t : SetTable) : Prop := ∃ o, h.get? S = some o ∧ o.data = .set es ep t
section
variable {P : Program} {w : World} {A : Around} {E : Value → Shared → Prop} {s : Shared} {it S : Addr} {es : Array (Int × Value)} {ep i n : Nat} {t : SetTable} {R : Option Value → Shared → Prop}
end
section
variable {P : Program} {w : World} {A : Around} {it S T : Addr} {es : Array (Int × Value)} {ep : Nat} {t : SetTable}
theorem SObj.keep {h h' : Heap} (x : SObj h S es ep t) (k : ∀ o, h.get? S = some o → h'.get? S = some o) : SObj h' S es ep t := by
  obtain ⟨o, g, d⟩ := x
  exact ⟨o, k o g, d⟩
end
structure SetWalk (P : Program) (w : World) (A : Around) (s s' : Shared) (S it : Addr) (fp : List Addr) (vals : Array Value) (St : Nat → Heap → Prop) : Prop where
  walk : Walks P w A it fp [it] vals.size (fun i v => vals[i]? = some v) St
  st : St 0 s'.heap
  below : ∀ b ∈ fp, b < s'.heap.objs.size
  new : ∀ b ∈ fp, b = S ∨ s.heap.objs.size ≤ b
  old : s.heap.objs.size ≤ it
  gens : s'.gens = s.gens
  os : s'.os = s.os
  keep : ∀ b o, s.heap.get? b = some o → s'.heap.get? b = some o
section
variable {P : Program} {w : World} {A : Around} {E : Value → Shared → Prop} {s : Shared} {S : Addr} {L : Bool} {M : Int → Prop} {n : Nat} {es : Array (Int × Value)} {ep : Nat} {t : SetTable}
end
end L2
set_option Elab.async false
set_option linter.all false
set_option maxRecDepth 100000
namespace L2
open PySem PySem.Spec PyProof.Rows
section
variable {P : Program} {w : World} {A : Around} {E : Value → Shared → Prop} {s : Shared} {S : Addr} {M : Int → Prop} {n : Nat}
end
section
variable {X : Cx} {pins : List (Addr × Obj)} {σ : St} {H : Hp} {s : Shared}
end
end L2
set_option Elab.async false
set_option linter.all false
set_option maxRecDepth 100000
namespace L2
open PySem PySem.Spec PyProof.Rows
theorem Inv.turnLay {X : Cx} {pins : List (Addr × Obj)} {σ : St} {H : Hp} {s : Shared} {h' : Heap} {ch : List Addr} {T : Addr} {o : HO} {t' : Nat} (I : Inv X pins σ H s) (k : ∀ b u, b ∉ ch → s.heap.get? b = some u → h'.get? b = some u) (hf : ∀ b ∈ ch, FpOk X pins H b)
    (hp : s.heap.objs.size ≤ T) (new : ObjOk X.prog X.w (upd H T o) h' T o) : Inv X pins σ (upd H T o) { s with heap := h', toks := t' } := by
  have fr := I.hok.fresh hp
  have out : ∀ b u, H b = some u → b ∉ ch := fun b u e z => by rw [(hf b z).1] at e; cases e
  refine I.step (g' := s.gens) (d' := s.drawn) (ch := ch) (fun b hb => ⟨(hf b hb).2.2.2.1, (hf b hb).2.1, (hf b hb).2.2.2.2.1, (hf b hb).2.2.2.2.2⟩) (fun b u _ _ hc e _ => k b u hc e) (fun b u _ _ hc e _ => ⟨u.slots, k b u hc e⟩)
    (fun b u _ e z => by rw [upd_ne (Nat.ne_of_lt (Nat.lt_of_lt_of_le (Heap.lt_size e) hp))]; exact z) (fun b u hc e => ⟨u, k b u hc e⟩) (fun b xs e => by rw [upd_ne (ne_of_none e fr)]; exact e) (fun b u v e => by rw [upd_ne (ne_of_none e fr)]; exact e)
    (fun b ps e => ⟨#[], by rw [upd_ne (ne_of_none e fr), e]; simp⟩) (fun m hm => ?_) (fun b u e => ?_) I.bare
  · obtain ⟨ob, es, ep, ho, r⟩ := hm
    exact ⟨ob, es, ep, k _ ob (fun z => (hf _ z).2.1 rfl) ho, r⟩
  · by_cases hb : b = T
    · subst hb
      rw [upd_same] at e
      cases e
      exact new
    · rw [upd_ne hb] at e
      refine (I.hok b u e).stay (fun c v hc q => k c v ?_ q) (fun c q => by rw [upd_ne (ne_of_none q fr)]; exact q) fun c xs q => by rw [upd_ne (ne_of_none q fr)]; exact q
      rcases hc with z | z
      · rw [z]; exact out b u e
      · exact out c _ z
section
variable {X : Cx}
theorem call_tuple_ofQ : CallR X (.type "tuple") (fun xs H Q => ∃ (p : Addr) (ys : List V), xs = [.ref p] ∧ H p = some (.lst ys) ∧ ∀ l, L2.new X.K H l → Q (.ref l) (upd H l (.tup ys))) := by
  intro pins s σ H xs us Q I r h
  obtain ⟨p, ys, e, hq, q⟩ := h
  refine thn (call_tuple_of pins s σ H xs us (fun v H' => ∃ l, H l = none ∧ v = .ref l ∧ H' = upd H l (.tup ys)) I r ⟨p, ys, e, .inl ⟨SqL.of hq, fun l hl => ⟨l, hl, rfl, rfl⟩⟩⟩) fun u s' ⟨v, H', I', rv, l, hl, e1, e2⟩ => ?_
  subst e1 e2
  exact ⟨_, _, I', rv, q l ⟨hl, I'.notMod upd_same⟩⟩
end
section
variable {K : PySem.W.Frag} {g : TG} {tt : TT} {te : TE} {D a : Addr} {Q : Hp → Prop} {σ : St} {H : Hp} {xs : List V}
end
section
variable {X : Cx}
end
end L2
set_option Elab.async false
set_option linter.all false
set_option maxRecDepth 100000
namespace L2
open PySem PySem.Spec PyProof.Rows
theorem Inv.turnAll {X : Cx} {pins : List (Addr × Obj)} {σ : St} {H : Hp} {s : Shared} {h' : Heap} {ch : List Addr} {t' : Nat} (I : Inv X pins σ H s) (k : ∀ b u, b ∉ ch → s.heap.get? b = some u → h'.get? b = some u) (hf : ∀ b ∈ ch, FpOk X pins H b) :
    Inv X pins σ H { s with heap := h', toks := t' } := by
  have out : ∀ b u, H b = some u → b ∉ ch := fun b u e z => by rw [(hf b z).1] at e; cases e
  refine I.step (g' := s.gens) (d' := s.drawn) (ch := ch) (fun b hb => ⟨(hf b hb).2.2.2.1, (hf b hb).2.1, (hf b hb).2.2.2.2.1, (hf b hb).2.2.2.2.2⟩) (fun b u _ _ hc e _ => k b u hc e) (fun b u _ _ hc e _ => ⟨u.slots, k b u hc e⟩)
    (fun _ _ _ _ z => z) (fun b u hc e => ⟨u, k b u hc e⟩) (fun _ _ e => e) (fun _ _ _ e => e)
    (fun b ps e => ⟨#[], by rw [e]; simp⟩) (fun m hm => ?_) (fun b u e => ?_) I.bare
  · obtain ⟨ob, es, ep, ho, r⟩ := hm
    exact ⟨ob, es, ep, k _ ob (fun z => (hf _ z).2.1 rfl) ho, r⟩
  · refine (I.hok b u e).stay (fun c v hc q => k c v ?_ q) (fun _ q => q) fun _ _ q => q
    rcases hc with z | z
    · rw [z]; exact out b u e
    · exact out c _ z
def Itz (K : PySem.W.Frag) (a b : Addr) : It := ⟨fun i H => ∃ xs ys x y, SqL K H a xs ∧ SqL K H b ys ∧ xs[i]? = some x ∧ ys[i]? = some y, fun i H x H' => ∃ T v u, L2.new K H T ∧ (∀ xs, SqL K H a xs → xs[i]? = some v) ∧ (∀ ys, SqL K H b ys → ys[i]? = some u) ∧ x = .ref T ∧ H' = upd H T (.tup [v, u]), fun i H => ∃ xs ys, SqL K H a xs ∧ SqL K H b ys ∧ (xs.length ≤ i ∨ ys.length ≤ i)⟩
theorem turn_zip {P : Program} {w : World} {K : PySem.W.Frag} {es : List Expr} {k : Nat} {tp : Pos} (a b z TI TO i1 i2 : Addr) (D : ZipApart z TI TO i1 i2 a b) : Turn P w K (.Tuple es k tp) (Itz K a b) [z, TI, TO, i1, i2] z
    (fun i h => IsZip h z TI TO .none ∧ IsPair h TI (.ref i1) (.ref i2) ∧ (∃ p q, IsPair h TO p q) ∧ h.IsListIter i1 a i ∧ h.IsListIter i2 b i) where
  mem := by simp
  obj := fun i h st c hc => by
    obtain ⟨g1, g2, ⟨p, q, g3⟩, ⟨o4, g4, c4, d4⟩, ⟨o5, g5, c5, d5⟩⟩ := st
    simp only [List.mem_cons, List.not_mem_nil, or_false] at hc
    rcases hc with rfl | rfl | rfl | rfl | rfl
    · exact ⟨_, g1, fun v z => by cases z⟩
    · exact ⟨_, g2, fun v z => by cases z⟩
    · exact ⟨_, g3, fun v z => by cases z⟩
    · exact ⟨o4, g4, fun v z => by rw [d4] at z; cases z⟩
    · exact ⟨o5, g5, fun v z => by rw [d5] at z; cases z⟩
  keep := fun i h h' st kk => by
    obtain ⟨g1, g2, ⟨p, q, g3⟩, g4, g5⟩ := st
    exact ⟨kk z (by simp) _ g1, kk TI (by simp) _ g2, ⟨p, q, kk TO (by simp) _ g3⟩, g4.at fun o g => kk i1 (by simp) o g, g5.at fun o g => kk i2 (by simp) o g⟩
  item := by
    intro X hP hw hK hc i pins s σ H E I hf st hg
    subst hP hw hK
    obtain ⟨xs, ys, x, y, hq, hq', hx, hy⟩ := hg
    obtain ⟨its, rv, p, hz⟩ := I.list hq
    obtain ⟨its', rv', p', hz'⟩ := I.list hq'
    obtain ⟨u, hu, ru⟩ := rv.get hx
    obtain ⟨u', hu', ru'⟩ := rv'.get hy
    obtain ⟨g1, g2, ⟨a', b', g3⟩, g4, g5⟩ := st
    refine wpAny_pyNext_zip_item D g1 g2 g3 g4 g5 p.isList p'.isList (x := u) (y := u') (by simpa using hu) (by simpa using hu') fun h1 hz1 hTO1 hi1 hi2 gT sz kp => ?_
    refine ⟨_, rfl, wpAny_letOwnedTupleGo_zip hz1 fun h2 hz2 sb => ?_⟩
    have ltZ : z < s.heap.objs.size := Heap.lt_size g1
    have gT2 : h2.get? s.heap.objs.size = some { cls := .type "tuple", data := .seq #[u, u'] } := (sb.2 _ (Nat.ne_of_gt ltZ)).trans gT
    have I1 : Inv X pins σ (upd H s.heap.objs.size (.tup [x, y])) { s with heap := h2, toks := s.toks } := by
      refine I.turnLay (ch := [z, TI, TO, i1, i2]) (fun b o hb g => ?_) hf (Nat.le_refl _) ⟨(show 2 ≤ sizeLine by decide), [u, u'], .cons ru (.cons ru' .nil), _, gT2, rfl, _, rfl⟩
      simp only [List.mem_cons, List.not_mem_nil, or_false, not_or] at hb
      exact (sb.2 b hb.1).trans (kp b o hb.1 hb.2.2.1 hb.2.2.2.1 hb.2.2.2.2 g)
    have kT : ∀ c o, c ≠ z → h1.get? c = some o → h2.get? c = some o := fun c o n g => (sb.2 c n).trans g
    refine ⟨.ref s.heap.objs.size, _, I1, rfl, ⟨_, x, y, ⟨I.hok.fresh (Nat.le_refl _), I1.notMod upd_same⟩, fun ys hy => by rw [I.list_inj hy hq]; exact hx, fun zs hy' => by rw [I.list_inj hy' hq']; exact hy, rfl, rfl⟩,
      ⟨hz2, kT _ _ D.TIz (kp _ _ D.TIz D.TITO D.TIi1 D.TIi2 g2), ⟨_, _, kT _ _ D.TOz hTO1⟩, hi1.at fun o g => kT _ o D.i1z g, hi2.at fun o g => kT _ o D.i2z g⟩, fun c hc => ?_⟩
    have ltc : c < s.heap.objs.size := by
      obtain ⟨o4, e4, _⟩ := g4
      obtain ⟨o5, e5, _⟩ := g5
      simp only [List.mem_cons, List.not_mem_nil, or_false] at hc
      rcases hc with rfl | rfl | rfl | rfl | rfl
      · exact ltZ
      · exact Heap.lt_size g2
      · exact Heap.lt_size g3
      · exact Heap.lt_size e4
      · exact Heap.lt_size e5
    rw [upd_ne (Nat.ne_of_lt ltc)]
    exact (hf c hc).1
  done := by
    intro X hP hw hK hc i pins s σ H E I hf st hg
    subst hP hw hK
    obtain ⟨xs, ys, hq, hq', hx⟩ := hg
    obtain ⟨its, rv, p, hz⟩ := I.list hq
    obtain ⟨its', rv', p', hz'⟩ := I.list hq'
    obtain ⟨g1, g2, ⟨a', b', g3⟩, g4, g5⟩ := st
    have hl := rv.length
    have hl' := rv'.length
    refine wpAny_pyNext_zip_end (I.ok.hd hc) D g1 g2 g3 g4 g5 p.isList p'.isList ?_ fun h' kp => ⟨rfl, I.turnAll (t' := s.toks) (ch := [z, TI, TO, i1, i2]) (fun b o hb g => ?_) hf⟩
    · rcases hx with e | e
      · exact .inl (by simp; omega)
      · exact .inr (by simp; omega)
    · simp only [List.mem_cons, List.not_mem_nil, or_false, not_or] at hb
      exact kp b o hb.1 hb.2.2.1 hb.2.2.2.1 hb.2.2.2.2 g
  self := fun _ _ _ _ _ st h => wpAny_pyIter_zip st.1 h
section
variable {X : Cx}
end
section
variable {K : PySem.W.Frag} {ta : TA} {g : TG} {tb : TS} {D : Ends} {σ : St} {H : Hp} {a b : Addr} {xs ys : List V}
end
section
variable {X : Cx}
end
mutual
def wt : PyData → Nat
  | .none => 1
  | .bool _ => 1
  | .int _ => 1
  | .str _ => 1
  | .list ds => wtAll ds + 1
  | .tuple ds => wtAll ds + 1
  | .dict _ => 1
def wtAll : List PyData → Nat
  | [] => 0
  | d :: ds => wt d + wtAll ds
end
mutual
def bare : PyData → Bool
  | .none => true
  | .int i => decide (i.natAbs.log2 < 1920)
  | .list ds => bareAll ds
  | .tuple ds => bareAll ds
  | _ => false
def bareAll : List PyData → Bool
  | [] => true
  | d :: ds => bare d && bareAll ds
end
theorem listText_le (ts : List Str) : (listText ts).length ≤ piled ts + 2 := by
  cases ts with
  | nil => exact Nat.le_of_eq rfl
  | cons t r =>
    have h := textFrom_length_pos r 1 (("[" : Str) ++ (if (0 : Nat) > 0 then ", " else "" : String) ++ t) (Nat.succ_pos 0)
    have e : ((("[" : Str) ++ (if (0 : Nat) > 0 then ", " else "" : String) ++ t)).length = 1 + t.length := by
      rw [strLen_append, strLen_append]; rfl
    have hX : (listText (t :: r)).length = (textFrom 0 "[" (t :: r)).length + 1 := by
      show (textFrom 0 "[" (t :: r) ++ "]").length = _
      rw [strLen_append]; rfl
    have hY : (textFrom 0 "[" (t :: r)).length = (textFrom 1 (("[" : Str) ++ (if (0 : Nat) > 0 then ", " else "" : String) ++ t) r).length := rfl
    rw [hX, hY, h, e, piled_cons]; omega
theorem tupleText_le (ts : List Str) : (tupleText ts).length ≤ piled ts + 3 := by
  unfold tupleText
  rw [strLen_append, strLen_append]
  have e1 : ((("(" : String) : Str)).length = 1 := rfl
  have e3 : (((if ts.length == 1 then ",)" else ")" : String) : Str)).length ≤ 2 := by split <;> decide
  rw [e1]
  by_cases h : ts = []
  · subst h
    have : (Str.join ", " []).length = 0 := rfl
    omega
  · have := join_length_add ts h
    omega
mutual
theorem shown_le : ∀ {d : PyData}, bare d = true → d.shown.length + 4 ≤ 1930 * wt d
  | .none, _ => by simp only [PyData.shown, wt]; decide
  | .int i, h => by
    simp only [bare, decide_eq_true_eq] at h
    have := int_text_len_1921 h
    simp only [PyData.shown, wt]
    omega
  | .list ds, h => by
    simp only [bare] at h
    have := shownAll_le h
    have l := listText_le (PyData.shownAll ds)
    simp only [PyData.shown, wt]
    omega
  | .tuple ds, h => by
    simp only [bare] at h
    have := shownAll_le h
    have l := tupleText_le (PyData.shownAll ds)
    simp only [PyData.shown, wt]
    omega
  | .bool _, h => by simp [bare] at h
  | .str _, h => by simp [bare] at h
  | .dict _, h => by simp [bare] at h
theorem shownAll_le : ∀ {ds : List PyData}, bareAll ds = true → piled (PyData.shownAll ds) ≤ 1930 * wtAll ds
  | [], _ => by simp [PyData.shownAll, piled, wtAll]
  | d :: ds, h => by
    simp only [bareAll, Bool.and_eq_true] at h
    have h1 := shown_le h.1
    have h2 := shownAll_le h.2
    simp only [PyData.shownAll, piled_cons, wtAll]
    omega
end
mutual
theorem bare_show : ∀ {d : PyData}, bare d = true → d.showable = true ∧ d.hasDict = false
  | .none, _ => by simp only [PyData.showable, PyData.hasDict]; exact ⟨trivial, trivial⟩
  | .int i, h => by
    simp only [bare] at h
    simp only [PyData.showable, PyData.hasDict]
    exact ⟨h, trivial⟩
  | .list ds, h => by
    simp only [bare] at h
    simp only [PyData.showable, PyData.hasDict]
    exact bareAll_show h
  | .tuple ds, h => by
    simp only [bare] at h
    simp only [PyData.showable, PyData.hasDict]
    exact bareAll_show h
  | .bool _, h => by simp [bare] at h
  | .str _, h => by simp [bare] at h
  | .dict _, h => by simp [bare] at h
theorem bareAll_show : ∀ {ds : List PyData}, bareAll ds = true → PyData.showableAll ds = true ∧ PyData.hasDictAll ds = false
  | [], _ => by simp [PyData.showableAll, PyData.hasDictAll]
  | d :: ds, h => by
    simp only [bareAll, Bool.and_eq_true] at h
    have h1 := bare_show h.1
    have h2 := bareAll_show h.2
    simp only [PyData.showableAll, PyData.hasDictAll, h1.1, h1.2, h2.1, h2.2, Bool.and_self, Bool.or_self]
    exact ⟨trivial, trivial⟩
end
section
variable {X : Cx}
end
end L2
set_option Elab.async false
set_option linter.all false
set_option maxRecDepth 100000
namespace PySem
open Sem (wp)
end PySem
namespace PySem
namespace F
end F
section
variable {prog : Program} {w : World} {A : Around} {E : Value → Shared → Prop} {s : Shared}
end
section
variable {prog : Program} {w : World} {A : Around} {R : Result → Shared → Prop} {I : Addr} {fp wr : List Addr} {G : Array GenState → Array GenState → Prop} {n : Nat} {P : Nat → Value → Prop} {St : Nat → Shared → Prop} {K : Type} [DecidableEq K] {knd : KeyKind prog w K}
end
end PySem
namespace PySem
section
variable {prog : Program} {w : World} {K : Type} [DecidableEq K] {knd : KeyKind prog w K} {A : Around} {E : Value → Shared → Prop} {s : Shared}
end
end PySem
namespace L2
open PySem PySem.Spec PyProof.Rows
section
variable {X : Cx}
theorem op_inD (hu : X.A.units + 64 < cLine) : OpR X (compareOp .In) (fun x y H Q => ∃ (a : Addr) (kvs : List (Key × V)) (k : Int), y = .ref a ∧ x = .int k ∧ H a = some (.dK kvs) ∧ Q (.bl (valV kvs (.inl k)).isSome) H) := by
  intro pins s σ H x y v u Q I rx ry h
  obtain ⟨a, kvs, k, rfl, rfl, e, q⟩ := h
  cases ry
  exact d_in (by omega) I (DGet.k (k := .inl k) e) rx fun s' I' => ⟨.bl _, H, I', rfl, q⟩
theorem edget {o i : Expr} {td ty : TE} {pos : Pos} (hu : X.A.units + 64 < cLine) (ho : JE X o td) (hi : JE X i ty) (hs : NoSl i) : JE X (.Subscript o i pos) (tDGet td ty) := ⟨pe_dget (by omega) ho.h hi.h hs⟩
end
end L2
set_option Elab.async false
set_option linter.all false
set_option maxRecDepth 100000
namespace L2
open PySem PySem.Spec PyProof.Rows
theorem is_kV {P : Program} {w : World} {k : Key} {u : Value} (h : (mixKind P w).is k u = true) : RelV (kV k) u := by
  rcases keyIs_shape h with ⟨i, t, rfl, rfl⟩ | ⟨x, t, rfl, rfl⟩
  · exact ⟨t, rfl⟩
  · exact ⟨t, rfl⟩
section
variable {X : Cx} {pins : List (Addr × Obj)} {σ : St} {H : Hp} {s : Shared}
theorem Inv.swap {d : Addr} {u0 u1 : HO} (I : Inv X pins σ H s) (e : H d = some u0) (m0 : ∀ xs, u0 ≠ .tup xs) (m1 : ∀ o u, X.H₀ d ≠ some (.frz o u)) (m2 : ∀ ps, u0 ≠ .tbl ps) (m3 : ∀ x, u0 ≠ .own x) (new : ObjOk X.prog X.w (upd H d u1) s.heap d u1) : Inv X pins σ (upd H d u1) s where
  ok := I.ok
  os := I.os
  bare := I.bare
  base := ⟨I.base.keep, I.base.slot, fun b o g n x => by
      have z := I.base.free b o g n x
      rw [upd_ne (fun q => by rw [q, e] at z; cases z)]
      exact z, I.base.there, fun b xs g => by
      have z := I.base.tups b xs g
      rw [upd_ne (fun q => by rw [q, e] at z; exact m0 xs (Option.some.inj z))]
      exact z, fun b o u g => by
      have z := I.base.frzs b o u g
      rw [upd_ne (fun q => by rw [q] at g; exact m1 o u g)]
      exact z, fun b ps g => by
      obtain ⟨more, z⟩ := I.base.tbls b ps g
      refine ⟨more, ?_⟩
      rw [upd_ne (fun q => by rw [q, e] at z; exact m2 _ (Option.some.inj z))]
      exact z⟩
  loc := I.loc
  cell := I.cell
  free := by
    have z := I.free
    rw [upd_ne (fun q => by rw [q, e] at z; cases z)]
    exact z
  freeC := fun x c g => by
    have z := I.freeC x c g
    rw [upd_ne (fun q => by rw [q, e] at z; cases z)]
    exact z
  pin := fun p hp => by
    obtain ⟨a1, a2, a3⟩ := I.pin p hp
    refine ⟨a1, ?_, a3⟩
    rw [upd_ne (fun q => by rw [q, e] at a2; cases a2)]
    exact a2
  hok := fun a o g => by
    by_cases q : a = d
    · subst q
      rw [upd_same] at g
      cases g
      exact new
    · rw [upd_ne q] at g
      refine (I.hok a o g).stay (fun _ _ _ z => z) (fun b z => ?_) fun b xs z => ?_
      · rw [upd_ne (fun q => by rw [q, e] at z; exact m3 _ (Option.some.inj z))]
        exact z
      · rw [upd_ne (fun q => by rw [q, e] at z; exact m0 _ (Option.some.inj z))]
        exact z
  len := I.len
theorem Inv.notFrz {d : Addr} {kvs : List (Key × V)} (I : Inv X pins σ H s) (e : H d = some (.dK kvs)) : ∀ o u, X.H₀ d ≠ some (.frz o u) := fun o u z => by
  have q := I.base.frzs d o u z
  rw [e] at q
  cases q
theorem Inv.freeze {d : Addr} {kvs : List (Key × V)} {od : Obj} (I : Inv X pins σ H s) (e : H d = some (.dK kvs)) (g : s.heap.get? d = some od) : Inv X pins σ (upd H d (.frz od (.dK kvs))) s :=
  I.swap e (fun _ => nofun) (I.notFrz e) (fun _ => nofun) (fun _ => nofun) ⟨g, I.hok d _ e⟩
theorem Inv.thaw {d : Addr} {kvs : List (Key × V)} {od : Obj} (I : Inv X pins σ H s) (e : H d = some (.frz od (.dK kvs))) (m : ∀ o u, X.H₀ d ≠ some (.frz o u)) : Inv X pins σ (upd H d (.dK kvs)) s :=
  I.swap e (fun _ => nofun) m (fun _ => nofun) (fun _ => nofun) (I.hok d _ e).2
end
def Itd (d : Addr) (od : Obj) (kvs : List (Key × V)) : It :=
  ⟨fun i H => H d = some (.frz od (.dK kvs)) ∧ i < kvs.length, fun i H x H' => H' = H ∧ ∃ p, kvs[i]? = some p ∧ x = kV p.1, fun i H => H d = some (.frz od (.dK kvs)) ∧ kvs.length ≤ i⟩
theorem kv_at {kvs : List (Key × V)} {vs : List (Key × Value)} (r : KV kvs vs) : ∀ {i : Nat} {p : Key × V}, kvs[i]? = some p → ∃ v, vs[i]? = some (p.1, v) := by
  unfold KV at r
  induction r with
  | nil => intro i p h; simp at h
  | @cons a b as bs h t ih =>
    intro i p e
    cases i with
    | zero =>
      simp only [List.getElem?_cons_zero, Option.some.injEq] at e ⊢
      subst e
      exact ⟨b.2, by rw [h.1]⟩
    | succ i =>
      simp only [List.getElem?_cons_succ] at e ⊢
      exact ih e
theorem frz_at {P : Program} {w : World} {H : Hp} {h : Heap} {d : Addr} {od : Obj} {kvs : List (Key × V)} {es : Array DictEntry} {ep : Nat} (hdat : od.data = .dict es ep) (x : ObjOk P w H h d (.frz od (.dK kvs))) : ∃ vs, KV kvs vs ∧ h.DictAt (mixKind P w) d vs ep := by
  obtain ⟨g, z, hd, vs, rel, o, es', ep', g', r1, r2, r3⟩ := x
  rw [g] at g'
  cases g'
  rw [hdat] at r2
  cases r2
  exact ⟨vs, rel, od, es, g, r1, hdat, r3⟩
theorem turn_dict {P : Program} {w : World} {K : PySem.W.Frag} {tg : Expr} {d it : Addr} {od : Obj} {kvs : List (Key × V)} {es : Array DictEntry} {ep : Nat} (hdat : od.data = .dict es ep) : Turn P w K tg (Itd d od kvs) [it] it (fun i h => h.IsKeyIter it d i kvs.length ep) where
  mem := by simp
  obj := fun i h st b hb => by
    have e : b = it := by simpa using hb
    subst e
    obtain ⟨o, e, c, d⟩ := st
    exact ⟨o, e, fun v z => by rw [d] at z; cases z⟩
  keep := fun i h h' st k => st.at fun o e => k it (by simp) o e
  item := by
    intro X hP hw hK hc i pins s σ H E I hf st hg
    subst hP hw hK
    obtain ⟨e, lt⟩ := hg
    obtain ⟨vs, rel, da⟩ := frz_at hdat (I.hok d _ e)
    obtain ⟨p, ep⟩ : ∃ p, kvs[i]? = some p := ⟨_, List.getElem?_eq_getElem lt⟩
    obtain ⟨v, ev⟩ := kv_at rel ep
    obtain ⟨f0, f1, f2, f3, f4, f5⟩ := hf it (by simp)
    refine wpAny_pyNext_dict_item (kvs := vs) (by rw [← rel.length]; exact st) da ev fun key h' hk st' sb => ?_
    have I1 : Inv X pins σ H { s with heap := h' } := I.turned (t' := s.toks) (fun b o hb e => (sb.2 b hb).trans e) f0 f1 f3 f4 f5
    rw [← rel.length] at st'
    obtain ⟨o, e, c, d⟩ := id st'
    exact ⟨key, rfl, go_of (s := { s with heap := h' }) e c d (by decide) ⟨kV p.1, H, I1, is_kV hk, ⟨rfl, p, ep, rfl⟩, st', fun b hb => (hf b hb).1⟩⟩
  done := by
    intro X hP hw hK hc i pins s σ H E I hf st hg
    subst hP hw hK
    obtain ⟨e, le⟩ := hg
    obtain ⟨vs, rel, da⟩ := frz_at hdat (I.hok d _ e)
    obtain ⟨f0, f1, f2, f3, f4, f5⟩ := hf it (by simp)
    exact wpAny_pyNext_dict_end (kvs := vs) (I.ok.hd hc) (by rw [← rel.length]; exact st) da (List.getElem?_eq_none (by rw [← rel.length]; exact le)) fun h' eb => ⟨rfl, I.turned (t' := s.toks) (fun b o hb e => eb b o hb e) f0 f1 f3 f4 f5⟩
  self := fun _ _ _ _ _ st h => wpAny_pyIter_keyiter st h
def tLcD (K : PySem.W.Frag) (td : TE) (src : List (Option Nat)) (g : TG) (tt : TT) (te : TE) : TE := fun σ H Q => td σ H fun x H1 => ∃ a kvs, x = .ref a ∧ H1 a = some (.dK kvs) ∧ ∀ od D, L2.new K (upd H1 a (.frz od (.dK kvs))) D →
  LcLoop (Itd a od kvs) g tt te D (fun H' => H' a = some (.frz od (.dK kvs)) ∧ Q (.ref D) (upd H' a (.dK kvs))) (pick σ src) (upd (upd H1 a (.frz od (.dK kvs))) D (.lst []))
section
variable {X : Cx} {sc : Scope} {N : List Str} {src : List (Option Nat)} {tg iter elt : Expr} {ifs : List Expr} {td : TE} {g : TG} {tt : TT} {te : TE} {pos : Pos}
theorem elcD (c : Cap X sc N src) (hc : X.calm = true) (hi : JE X iter td)
    (hg : ∀ C s H fp, JG (X.comp N sc C s H fp) tg g) (ht : ∀ C s H fp, JF (X.comp N sc C s H fp) ifs tt) (he : ∀ C s H fp, JE (X.comp N sc C s H fp) elt te)
    (hs : ∀ x, foldedSetIterable iter X.env x = pure x := by intro _; rfl) : JE X (.ListComp elt [⟨tg, iter, ifs, 0⟩] sc pos) (tLcD X.K td src g tt te) := ⟨by
  intro pins s σ H Q I h
  rw [eval_ListComp]
  refine wpAny_comprehension_free (use := none) rfl hs (closureFor_eq fun x hx hk => ?_) c.kind c.names ?_
  · obtain ⟨n, k⟩ := x
    cases hk
    exact I.ok.has _ (c.free hx)
  refine thn (hi.h pins s σ H _ I h) fun v s1 ⟨x, H1, I1, r1, q1⟩ => ?_
  obtain ⟨a, kvs, rfl, e, q⟩ := q1
  cases r1
  obtain ⟨z, hsys, vs, rel, dd⟩ := dk_of I1.hok e
  obtain ⟨ep, da⟩ := dd.dictAt
  obtain ⟨od, es, god, r1, hdat, r⟩ := id da
  refine wpAny_pyIter_dict hsys da ?_
  have If := I1.freeze e god
  have lt : a < s1.heap.objs.size := Heap.lt_size god
  have I2 : Inv X pins σ (upd H1 a (.frz od (.dK kvs))) { s1 with heap := s1.heap.push { cls := .type "dict_keyiterator", data := .fields #[.ref a, .int 0 0, .int vs.length 0, .int ep 0] } } := If.kept (t' := s1.toks) fun b o e => Heap.get?_push_of_some _ e
  have f2 : ∀ b ∈ [s1.heap.objs.size], FpOk X pins (upd H1 a (.frz od (.dK kvs))) b := fun b hb => by
    have e : b = s1.heap.objs.size := by simpa using hb
    subst e
    exact If.fpOk (Nat.le_refl _) (If.hok.fresh (Nat.le_refl _))
  refine comp_run (R := fun acc C => compPost (model X.prog X.w) X.A X.xe none (EP X pins σ Q) acc C) (Q := fun v H' => H' a = some (.frz od (.dK kvs)) ∧ Q v (upd H' a (.dK kvs))) c hc hg ht he I2 (turn_dict hdat) ⟨_, Heap.get?_push_size _ rfl, rfl, by rw [rel.length]; rfl⟩ f2 (fun D nD => q od D nD) fun D C s' σ' H' hC I' q => ?_
  obtain ⟨m, hn, _⟩ := id I'.loc
  refine ⟨m, hn, fun h' sb => ?_⟩
  have I3 := I2.unblock f2 hC I' fun b hb => sb.2 b hb
  exact ⟨.ref D, _, I3.thaw q.1 (I1.notFrz e), rfl, q.2⟩⟩
end
section
variable {prog : Program} {w : World} {A : Around} {R : Result → Shared → Prop} {s : Shared}
end
section
variable {X : Cx} {sc : Scope} {N : List Str} {src : List (Option Nat)} {tg iter kx vx : Expr} {ifs : List Expr} {wi : TI} {g : TG} {tt : TT} {tk tv : TE} {pos : Pos}
end
end L2
set_option Elab.async false
set_option linter.all false
set_option maxRecDepth 100000
set_option maxHeartbeats 4000000
namespace L2
open PySem PySem.Spec PyProof.Rows
section
variable {P : Program} {w : World} {A : Around} {E : Value → Shared → Prop} {s : Shared} {S : Addr} {vs : List (Key × Value)} {ep : Nat}
end
section
variable {X : Cx}
end
end L2
set_option Elab.async false
set_option linter.all false
set_option maxRecDepth 100000
set_option maxHeartbeats 4000000
namespace L2
open PySem PySem.Spec PyProof.Rows
section
variable {X : Cx}
def rSlS : V → Option Int → Option Int → Hp → VK → Prop := fun x lo hi H Q => ∃ a, x = .str a ∧ a.length ≤ sizeLine ∧ Q (.str (Txt.slice a lo hi)) H
theorem sl_str : SlR X rSlS := by
  intro pins s σ H x v vl vu lo hi sl Q I rx hs pl pu h
  obtain ⟨a, rfl, ha, q⟩ := h
  obtain ⟨t, rfl⟩ := rx
  refine ⟨"str", _, PySem.F.slot_str_getitem.lookup, typeIs_str _ _ _, ?_⟩
  have fin : ∀ t' k, EP X pins σ Q (.str (Txt.slice a lo hi) t') { s with toks := k } := fun t' k => ⟨.str _, H, I.tok k, ⟨t', rfl⟩, q⟩
  have le := Nat.le_trans (Txt.slice_le a lo hi) ha
  cases pl with
  | none =>
    cases pu with
    | none => exact wpAny_getItem_str_slice (l := none) (u := none) (st := none) hs rfl (post_val_or_str ⟨le, fun t' k => fin t' k⟩)
    | int j uj => exact wpAny_getItem_str_slice (l := none) (u := some (j, uj)) (st := none) hs rfl (post_val_or_str ⟨le, fun t' k => fin t' k⟩)
  | int i ui =>
    cases pu with
    | none => exact wpAny_getItem_str_slice (l := some (i, ui)) (u := none) (st := none) hs rfl (post_val_or_str ⟨le, fun t' k => fin t' k⟩)
    | int j uj => exact wpAny_getItem_str_slice (l := some (i, ui)) (u := some (j, uj)) (st := none) hs rfl (post_val_or_str ⟨le, fun t' k => fin t' k⟩)
theorem op_mul_str : OpR X (binaryOp .Mult) (fun x y H Q => ∃ a n, x = .str a ∧ y = .int n ∧ MulOk a n ∧ Q (.str (Txt.mul a n)) H) := by
  intro pins s σ H x y v u Q I rx ry h
  obtain ⟨a, n, rfl, rfl, ok, q⟩ := h
  obtain ⟨t, rfl⟩ := rx
  obtain ⟨t2, rfl⟩ := ry
  exact SB.mul ok fun t' k => ⟨.str _, H, I.tok k, ⟨t', rfl⟩, q⟩
theorem strs_of : ∀ {ts : List Str} {its : List Value}, Vals (ts.map V.str) its → ∃ l : List (Str × Tok), its = strValues l ∧ l.map (·.1) = ts
  | [], _, r => by rw [List.map_nil] at r; cases r; exact ⟨[], rfl, rfl⟩
  | t :: ts, _, r => by
    rw [List.map_cons] at r
    cases r with
    | cons h hr =>
      obtain ⟨u, rfl⟩ := h
      obtain ⟨l, rfl, e⟩ := strs_of hr
      exact ⟨(t, u) :: l, rfl, by rw [List.map_cons, e]⟩
def lenAll (sep : Str) (ts : List Str) : Nat := ts.foldl (fun n x => n + x.length + sep.length) 0
def rJoin (K : PySem.W.Frag) : V → List V → Hp → VK → Prop := fun x vs H Q => ∃ (sep : Str) (p : Addr) (ts : List Str), x = .str sep ∧ vs = [.ref p] ∧ SqL K H p (ts.map V.str) ∧ lenAll sep ts ≤ sizeLine ∧ (Str.join sep ts).length ≤ sizeLine ∧ Q (.str (Str.join sep ts)) H
theorem mt_join : MtR X "str.join" (rJoin X.K) := by
  intro pins s σ H x vs v us Q I rx rv h
  obtain ⟨sep, p, ts, rfl, rfl, hx, hl, hj, q⟩ := h
  obtain ⟨t, rfl⟩ := rx
  obtain ⟨u, rfl, ru⟩ := vals1 rv
  cases ru
  obtain ⟨its, r, pl, hz⟩ := I.list hx
  obtain ⟨l, rfl, el⟩ := strs_of r
  refine call_meets PySem.F.slot_str_join (typeIs_str _ _ _) PySem.F.entry_str_join (PySem.F.args_str_join_2 _ _) (meets_str_join_list sep t p l ?_) ⟨pl.isList, ?_⟩
  · rw [el]
    unfold Builtin.Str.tooLong
    rw [List.foldl_toArray]
    simpa [lenAll] using hl
  · have fin : ∀ t' k, EP X pins σ Q (.str (Str.join sep ts) t') { s with toks := k } := fun t' k => ⟨.str _, H, I.tok k, ⟨t', rfl⟩, q⟩
    have eg : ∀ l' : List (Str × Tok), Builtin.Str.glued sep (l'.map (·.1)) = Str.join sep (l'.map (·.1)) := fun l' => StrLaws.glued_eq_join sep _
    match l, el with
    | [], el =>
      have e := eg []
      rw [el] at e
      show _ ∧ _
      rw [el, e]
      exact ⟨hj, fin _ _⟩
    | [pp], el =>
      have e : pp.1 = Str.join sep ts := by rw [← el]; rfl
      show wants (EP X pins σ Q) X.xe (Except.ok (Flow.ret (Value.str pp.1 pp.2))) s
      rw [e]
      exact fin _ _
    | a :: b :: r, el =>
      show _ ∧ _
      rw [show Builtin.Str.glued sep ((a :: b :: r).map (·.1)) = Str.join sep ts from by rw [← el]; exact eg _]
      exact ⟨hj, fin _ _⟩
end
end L2
set_option Elab.async false
set_option linter.all false
set_option maxRecDepth 100000
set_option maxHeartbeats 4000000
namespace L2
open PySem PySem.Spec PyProof.Rows
theorem str_ext {a b : Str} (h : a.cps.toList = b.cps.toList) : a = b := Str.ext' (Array.toList_inj.1 h)
theorem str_len (a : Str) : a.length = a.cps.toList.length := by simp [Str.length]
theorem app_cps (a b : Str) : (a ++ b).cps.toList = a.cps.toList ++ b.cps.toList := by rw [Str.cps_append, Array.toList_append]
theorem slice_to {x : Str} {n : Nat} (h : n ≤ x.length) : (Txt.slice x none (some (n : Int))).cps.toList = x.cps.toList.take n := by
  have e : Txt.slice x none (some (n : Int)) = StrLaws.sliceText x none (some (n : Int)) := rfl
  rw [e, StrLaws.sliceText_to ⟨by omega, by rw [str_len] at h; omega⟩]
  simp
section
variable {X : Cx}
end
end L2
set_option Elab.async false
set_option linter.all false
set_option maxRecDepth 100000
set_option maxHeartbeats 4000000
namespace L2
open PySem PySem.Spec PyProof.Rows
section
variable {X : Cx}
end
end L2
set_option Elab.async false
set_option linter.all false
set_option maxRecDepth 100000
set_option maxHeartbeats 4000000
namespace L2
open PySem PySem.Spec PyProof.Rows
end L2
namespace L2
open PySem PySem.Spec PyProof.Rows
section
variable {prog : Program} {w : World} {A : Around} {E : Value → Shared → Prop} {s : Shared}
theorem nextT {it t : Addr} {k : Nat} {xs : Array Value} {x : Value} {Q : Value → Shared → Prop} (hi : IsTupIter s.heap it t k) (ht : IsTup s.heap t xs) (hx : xs[k]? = some x)
    (q : ∀ g, IsTupIter g it t (k + 1) → Heap.SameBut it s.heap g → Q x { s with heap := g }) : wpAny (model prog w) A (Builtin.SmallTypes.nextOf (.ref it)) Q E s := by
  have ty := hi.typeIs
  obtain ⟨o1, g1, c1, d1⟩ := hi
  obtain ⟨o2, g2, _, n2, d2⟩ := ht
  unfold Builtin.SmallTypes.nextOf
  refine wpAny_bind (wpAny_callSpecial?_slot (name := Str.ofString "__next__") ty slot_tupleiter_next (wpAny_call_entry slot_tupleiter_next ty entry_tupleiter_next ?_ (args_tupleiter_next _)))
  show wpAny (model prog w) _ (field (.ref it) 0 >>= _) _ _ s
  refine wpAny_bind (wpAny_field g1 d1 (x := Value.ref t) rfl ?_)
  show wpAny (model prog w) _ (if (Value.ref t == Value.none) = true then _ else _) _ _ s
  rw [if_neg (fun h => by cases h)]
  show wpAny (model prog w) _ (field (.ref it) 1 >>= _) _ _ s
  refine wpAny_bind (wpAny_field g1 d1 (x := Value.int k 0) rfl ?_)
  show wpAny (model prog w) _ (seqItems? (.ref t) >>= _) _ _ s
  refine wpAny_bind (wpAny_seqItems g2 d2 ?_)
  simp only [hx, Int.toNat_natCast]
  refine wpAny_bind (wpAny_setField g1 d1 (by simp) (wpAny_pure ⟨x, rfl, wpAny_pure (q _ ⟨_, Heap.get?_update_self _ g1 (Obj.isFreed_of_fields (Obj.data_mapFields d1 _)), (Obj.cls_mapFields ..).trans c1, ?_⟩ (Heap.SameBut.update ..))⟩))
  rw [Obj.data_mapFields d1]
  simp [rawInt]
theorem nextT_end {it t : Addr} {k : Nat} {xs : Array Value} {Q : Value → Shared → Prop} (calm : A.handled = none) (hi : IsTupIter s.heap it t k) (ht : IsTup s.heap t xs) (hx : xs[k]? = none)
    (q : ∀ g e, Heap.ExtBut it s.heap g → (∃ o, g.get? e = some o ∧ o.cls = .type "StopIteration") → E (.ref e) { s with heap := g }) : wpAny (model prog w) A (Builtin.SmallTypes.nextOf (.ref it)) Q E s := by
  have ty := hi.typeIs
  obtain ⟨o1, g1, c1, d1⟩ := hi
  obtain ⟨o2, g2, _, n2, d2⟩ := ht
  unfold Builtin.SmallTypes.nextOf
  refine wpAny_bind (wpAny_callSpecial?_slot (name := Str.ofString "__next__") ty slot_tupleiter_next (wpAny_call_entry slot_tupleiter_next ty entry_tupleiter_next ?_ (args_tupleiter_next _)))
  show wpAny (model prog w) _ (field (.ref it) 0 >>= _) _ _ s
  refine wpAny_bind (wpAny_field g1 d1 (x := Value.ref t) rfl ?_)
  show wpAny (model prog w) _ (if (Value.ref t == Value.none) = true then _ else _) _ _ s
  rw [if_neg (fun h => by cases h)]
  show wpAny (model prog w) _ (field (.ref it) 1 >>= _) _ _ s
  refine wpAny_bind (wpAny_field g1 d1 (x := Value.int k 0) rfl ?_)
  show wpAny (model prog w) _ (seqItems? (.ref t) >>= _) _ _ s
  refine wpAny_bind (wpAny_seqItems g2 d2 ?_)
  simp only [hx, Int.toNat_natCast]
  refine wpAny_bind (wpAny_rule (wpAny_bind (wpAny_setField g1 d1 (by simp) ?_)))
  show wpAny (model prog w) _ (newExc (.type "StopIteration") [] >>= _) _ _ _
  refine wpAny_bind ?_
  simp only [newTuple, newExc]
  refine wpAny_bind (wpAny_newObj_type (wpAny_bind (m := firstArgMember _ _) (wpAny_of_eq (a := Value.none) (by first | rfl | (simp only [firstArgMember]; rfl)) (wpAny_newObj_type ?_ (by size_fits)))) (by size_fits))
  simp only [raiseNew]
  refine wpAny_bind (wpAny_handled ?_)
  rw [show A.in1.handled = none from calm]
  exact wpAny_bind (wpAny_pure (wpAny_throw (q _ _ (((Heap.SameBut.update ..).extBut.push _).push _) ⟨_, Heap.get?_push_size _ rfl, rfl⟩)))
structure ZT (g : Heap) (z ti to p1 p2 t1 t2 : Addr) (out : Value) (k1 k2 : Nat) : Prop where
  zip : IsZip g z ti to out
  its : IsPair g ti (.ref p1) (.ref p2)
  fst : IsTupIter g p1 t1 k1
  snd : IsTupIter g p2 t2 k2
theorem zipT_item {z ti to p1 p2 t1 t2 : Addr} {k1 k2 : Nat} {xs ys : Array Value} {x y u v : Value} {Q : Option Value → Shared → Prop} (D : ZipApart z ti to p1 p2 t1 t2) (Z : ZT s.heap z ti to p1 p2 t1 t2 .none k1 k2) (ho : IsPair s.heap to u v)
    (h1 : IsTup s.heap t1 xs) (h2 : IsTup s.heap t2 ys) (hx : xs[k1]? = some x) (hy : ys[k2]? = some y)
    (q : ∀ g, ZT g z ti to p1 p2 t1 t2 (rawInt s.heap.objs.size) (k1 + 1) (k2 + 1) → IsPair g to x y → IsPair g s.heap.objs.size x y → g.objs.size = s.heap.objs.size + 1 →
      (∀ c o, c ≠ z → c ≠ to → c ≠ p1 → c ≠ p2 → s.heap.get? c = some o → g.get? c = some o) → Q (some (.ref s.heap.objs.size)) { s with heap := g }) :
    wpAny (model prog w) A (pyNext (.ref z)) Q E s := by
  have ty : s.TypeIs (.ref z) "zip" := ⟨_, Z.zip, rfl⟩
  unfold pyNext
  refine wpAny_bind (wpAny_attempt (wpAny_callSpecial?_slot (name := Str.ofString "__next__") ty F.slot_zip_next (wpAny_call_entry F.slot_zip_next ty F.entry_zip_next ?_ (F.args_zip_next_1 _))))
  show wpAny (model prog w) _ (field (.ref z) 2 >>= _) _ _ _
  refine wpAny_bind (wpAny_field Z.zip rfl (x := Value.bool false) rfl ?_)
  show wpAny (model prog w) _ (field (.ref z) 3 >>= _) _ _ _
  refine wpAny_bind (wpAny_field Z.zip rfl (x := Value.ref ti) rfl (wpAny_bind (wpAny_seqItems Z.its rfl ?_)))
  show wpAny (model prog w) _ (Builtin.SmallTypes.ownedTupleIsFree (.ref z) >>= _) _ _ _
  refine wpAny_bind ?_
  unfold Builtin.SmallTypes.ownedTupleIsFree
  refine wpAny_bind (wpAny_field Z.zip rfl (x := Value.none) rfl (wpAny_pure ?_))
  rw [if_pos rfl]
  refine wpAny_bind (wpAny_rule (wpAny_bind (wpAny_field Z.zip rfl (x := Value.ref to) rfl (wpAny_bind (wpAny_setField_rec Z.zip (by simp) fun a1 az as => ?_)))))
  replace az : IsZip a1 z ti to .ellipsis := az
  refine wpAny_bind ?_
  simp only [List.forIn_nil, List.forIn_cons, List.zipIdx_nil, List.zipIdx_cons]
  refine wpAny_bind (wpAny_bind (wpAny_onRaise ?_))
  show wpAny (model prog w) _ (Builtin.SmallTypes.nextOf (.ref p1) >>= _) _ _ _
  refine wpAny_bind (nextT (Z.fst.extBut as.extBut D.i1z) (h1.extBut as.extBut D.l1z) hx fun a2 bi bs => wpAny_pure ?_)
  have bo : IsPair a2 to u v := bs.extBut _ _ D.TOi1 (as.extBut _ _ D.TOz ho)
  refine wpAny_bind (wpAny_seqItems bo rfl (wpAny_bind (wpAny_updateSeq_pair bo fun a3 co cs => ?_)))
  replace co : IsPair a3 to x v := co
  refine wpAny_bind (wpAny_letGo (wpAny_pure (wpAny_bind (wpAny_bind (wpAny_onRaise ?_)))))
  show wpAny (model prog w) _ (Builtin.SmallTypes.nextOf (.ref p2) >>= _) _ _ _
  refine wpAny_bind (nextT (((Z.snd.extBut as.extBut D.i2z).extBut bs.extBut D.i12.symm).extBut cs.extBut D.TOi2.symm) (((h2.extBut as.extBut D.l2z).extBut bs.extBut D.l2i1).extBut cs.extBut D.l2TO) hy fun a4 di ds => wpAny_pure ?_)
  have dO : IsPair a4 to x v := ds.extBut _ _ D.TOi2 co
  refine wpAny_bind (wpAny_seqItems dO rfl (wpAny_bind (wpAny_updateSeq_pair dO fun a5 eo es => ?_)))
  replace eo : IsPair a5 to x y := eo
  refine wpAny_bind (wpAny_letGo (wpAny_pure (wpAny_pure (wpAny_bind (wpAny_seqItems eo rfl (wpAny_bind (wpAny_newTuple ?_)))))))
  have n5 : a5.objs.size = s.heap.objs.size := by rw [es.1, ds.1, cs.1, bs.1, as.1]
  have ez : IsZip a5 z ti to .ellipsis := es.extBut _ _ D.TOz.symm (ds.extBut _ _ D.i2z.symm (cs.extBut _ _ D.TOz.symm (bs.extBut _ _ D.i1z.symm az)))
  have keep5 : ∀ c o, c ≠ z → c ≠ to → c ≠ p1 → c ≠ p2 → s.heap.get? c = some o → a5.get? c = some o := fun c o e1 e2 e3 e4 e =>
    es.extBut _ _ e2 (ds.extBut _ _ e4 (cs.extBut _ _ e2 (bs.extBut _ _ e3 (as.extBut _ _ e1 e))))
  have f5 : IsTupIter a5 p1 t1 (k1 + 1) := ((bi.extBut cs.extBut D.TOi1.symm).extBut ds.extBut D.i12).extBut es.extBut D.TOi1.symm
  have s5 : IsTupIter a5 p2 t2 (k2 + 1) := di.extBut es.extBut D.TOi2.symm
  have lz : z < a5.objs.size := Heap.lt_size ez
  show wpAny (model prog w) _ (Builtin.SmallTypes.ownedTupleHandOut (.ref z) (.ref a5.objs.size) >>= _) _ _ _
  refine wpAny_bind ?_
  unfold Builtin.SmallTypes.ownedTupleHandOut
  refine wpAny_bind (wpAny_setField_rec (show IsZip (a5.push { cls := .type "tuple", data := .seq #[x, y] }) z ti to .ellipsis from Heap.get?_push_of_some _ ez) (by simp) fun a7 gz gs => ?_)
  replace gz : IsZip a7 z ti to (rawInt a5.objs.size) := gz
  refine wpAny_setField_rec gz (by simp) fun a8 iz js => ?_
  replace iz : IsZip a8 z ti to (rawInt a5.objs.size) := iz
  have on : ∀ c o, c ≠ z → a5.get? c = some o → a8.get? c = some o := fun c o ne e => js.extBut _ _ ne (gs.extBut _ _ ne (Heap.get?_push_of_some _ e))
  have T8 : IsPair a8 a5.objs.size x y := js.extBut _ _ (Nat.ne_of_gt lz) (gs.extBut _ _ (Nat.ne_of_gt lz) (Heap.get?_push_size _ rfl))
  have n8 : a8.objs.size = a5.objs.size + 1 := by rw [js.1, gs.1, Heap.size_push]
  rw [n5] at iz T8 n8
  refine wpAny_pure ⟨_, rfl, wpAny_pure ?_⟩
  show Q (some (.ref a5.objs.size)) _
  rw [n5]
  have at_ : ∀ {p t : Addr} {k : Nat}, p ≠ z → IsTupIter a5 p t k → IsTupIter a8 p t k := fun ne h => let ⟨o, e, r⟩ := h; ⟨o, on _ o ne e, r⟩
  exact q a8 ⟨iz, on _ _ D.TIz (keep5 _ _ D.TIz D.TITO D.TIi1 D.TIi2 Z.its), at_ D.i1z f5, at_ D.i2z s5⟩ (on _ _ D.TOz eo) T8 n8 fun c o e1 e2 e3 e4 e => on c o e1 (keep5 c o e1 e2 e3 e4 e)
theorem zipT_end {z ti to p1 p2 t1 t2 : Addr} {k1 k2 : Nat} {xs : Array Value} {u v : Value} {Q : Option Value → Shared → Prop} (calm : A.handled = none) (D : ZipApart z ti to p1 p2 t1 t2) (Z : ZT s.heap z ti to p1 p2 t1 t2 .none k1 k2) (ho : IsPair s.heap to u v)
    (h1 : IsTup s.heap t1 xs) (hx : xs[k1]? = none) (q : ∀ g, (∀ c o, c ≠ z → c ≠ p1 → s.heap.get? c = some o → g.get? c = some o) → Q none { s with heap := g }) : wpAny (model prog w) A (pyNext (.ref z)) Q E s := by
  have ty : s.TypeIs (.ref z) "zip" := ⟨_, Z.zip, rfl⟩
  unfold pyNext
  refine wpAny_bind (wpAny_attempt (wpAny_callSpecial?_slot (name := Str.ofString "__next__") ty F.slot_zip_next (wpAny_call_entry F.slot_zip_next ty F.entry_zip_next ?_ (F.args_zip_next_1 _))))
  show wpAny (model prog w) _ (field (.ref z) 2 >>= _) _ _ _
  refine wpAny_bind (wpAny_field Z.zip rfl (x := Value.bool false) rfl ?_)
  show wpAny (model prog w) _ (field (.ref z) 3 >>= _) _ _ _
  refine wpAny_bind (wpAny_field Z.zip rfl (x := Value.ref ti) rfl (wpAny_bind (wpAny_seqItems Z.its rfl ?_)))
  show wpAny (model prog w) _ (Builtin.SmallTypes.ownedTupleIsFree (.ref z) >>= _) _ _ _
  refine wpAny_bind ?_
  unfold Builtin.SmallTypes.ownedTupleIsFree
  refine wpAny_bind (wpAny_field Z.zip rfl (x := Value.none) rfl (wpAny_pure ?_))
  rw [if_pos rfl]
  refine wpAny_bind (wpAny_rule (wpAny_bind (wpAny_field Z.zip rfl (x := Value.ref to) rfl (wpAny_bind (wpAny_setField_rec Z.zip (by simp) fun a1 az as => ?_)))))
  replace az : IsZip a1 z ti to .ellipsis := az
  refine wpAny_bind ?_
  simp only [List.forIn_nil, List.forIn_cons, List.zipIdx_nil, List.zipIdx_cons]
  refine wpAny_bind (wpAny_bind (wpAny_onRaise ?_))
  show wpAny (model prog w) _ (Builtin.SmallTypes.nextOf (.ref p1) >>= _) _ _ _
  refine wpAny_bind (nextT_end calm (Z.fst.extBut as.extBut D.i1z) (h1.extBut as.extBut D.l1z) hx fun a2 e bs he => ?_)
  obtain ⟨oe, ge, ce⟩ := he
  have bz : IsZip a2 z ti to .ellipsis := bs _ _ D.i1z.symm az
  have ez : e ≠ z := fun z' => by subst z'; rw [bz] at ge; cases ge; simp at ce
  refine wpAny_setField_rec bz (by simp) fun a3 _ cs => wpAny_bind (wpAny_isInstance (T := "StopIteration") (b := true) ⟨oe, cs.extBut _ _ ez ge, ce⟩ isSubtype_stop (wpAny_pure (q a3 fun c o e1 e2 e => cs.extBut _ _ e1 (bs _ _ e2 (as.extBut _ _ e1 e)))))
abbrev tpIt (t : Addr) : Obj := { cls := .type "tuple_iterator", data := .fields #[.ref t, .int 0 0] }
abbrev zt2 (h : Heap) (t1 t2 : Addr) : Heap := (h.push (tpIt t1)).push (tpIt t2)
abbrev zt3 (h : Heap) (t1 t2 : Addr) : Heap := (zt2 h t1 t2).push { cls := .type "tuple", data := .seq #[.ref h.objs.size, .ref (h.push (tpIt t1)).objs.size] }
abbrev zt4 (h : Heap) (t1 t2 : Addr) : Heap := (zt3 h t1 t2).push { cls := .type "tuple", data := .seq #[.none, .none] }
abbrev zt5 (h : Heap) (t1 t2 : Addr) : Heap := (zt4 h t1 t2).push { cls := .type "zip", data := .fields #[.none, .bool false, .bool false, .ref (zt2 h t1 t2).objs.size, .ref (zt3 h t1 t2).objs.size] }
theorem meets_zt (t1 t2 : Addr) (xs ys : Array Value) : Meets (Builtin.«zip.__new__» ⟨[.type "zip", .ref t1, .ref t2], []⟩) (fun _ R s => IsTup s.heap t1 xs ∧ IsTup s.heap t2 ys ∧ R (.ok (.ret (.ref (zt4 s.heap t1 t2).objs.size))) { s with heap := zt5 s.heap t1 t2 }) :=
  .of_wp fun prog w A R s h => by
    obtain ⟨h0, gn, dr, tk, os⟩ := s
    obtain ⟨e1, e2, h⟩ := h
    have sub := sub_zip
    have f1 : IsTup (Shared.heap ⟨h0, gn, dr, tk, os⟩) t1 xs := e1
    have f2 : IsTup (Shared.heap ⟨h0.push (tpIt t1), gn, dr, tk, os⟩) t2 ys := e2.push _
    wp_walk using iter_tuple f1, iter_tuple f2
    exact ⟨_, rfl, h⟩
theorem call_zipT {t1 t2 : Addr} {xs ys : Array Value} {Q : Value → Shared → Prop} (h1 : IsTup s.heap t1 xs) (h2 : IsTup s.heap t2 ys)
    (q : ∀ g, ZT g (s.heap.objs.size + 4) (s.heap.objs.size + 2) (s.heap.objs.size + 3) s.heap.objs.size (s.heap.objs.size + 1) t1 t2 .none 0 0 → IsPair g (s.heap.objs.size + 3) .none .none → (∀ c o, s.heap.get? c = some o → g.get? c = some o) → Q (.ref (s.heap.objs.size + 4)) { s with heap := g }) :
    wpAny (model prog w) A (call (.type "zip") [.ref t1, .ref t2]) Q E s := by
  refine callType_new F.called_zip (by decide) (F.typeCall_zip_2 _ _) (F.newCall_zip_2 _ _) (fun o => F.args_object_init_3 o _ _) F.entry_zip_new (meets_zt t1 t2 xs ys) ⟨h1, h2, ?_⟩
  have z1 : (s.heap.push (tpIt t1)).objs.size = s.heap.objs.size + 1 := Heap.size_push ..
  have z2 : (zt2 s.heap t1 t2).objs.size = s.heap.objs.size + 2 := by rw [Heap.size_push, Heap.size_push]
  have z3 : (zt3 s.heap t1 t2).objs.size = s.heap.objs.size + 3 := by rw [Heap.size_push, z2]
  have z4 : (zt4 s.heap t1 t2).objs.size = s.heap.objs.size + 4 := by rw [Heap.size_push, z3]
  have e5 : (zt5 s.heap t1 t2).get? (zt4 s.heap t1 t2).objs.size = some _ := Heap.get?_push_size _ rfl
  have e4 : (zt5 s.heap t1 t2).get? (zt3 s.heap t1 t2).objs.size = some _ := Heap.get?_push_of_some _ (Heap.get?_push_size _ rfl)
  have e3 : (zt5 s.heap t1 t2).get? (zt2 s.heap t1 t2).objs.size = some _ := Heap.get?_push_of_some _ (Heap.get?_push_of_some _ (Heap.get?_push_size _ rfl))
  have e2 : (zt5 s.heap t1 t2).get? (s.heap.push (tpIt t1)).objs.size = some (tpIt t2) := Heap.get?_push_of_some _ (Heap.get?_push_of_some _ (Heap.get?_push_of_some _ (Heap.get?_push_size _ rfl)))
  have e1 : (zt5 s.heap t1 t2).get? s.heap.objs.size = some (tpIt t1) := Heap.get?_push_of_some _ (Heap.get?_push_of_some _ (Heap.get?_push_of_some _ (Heap.get?_push_of_some _ (Heap.get?_push_size _ rfl))))
  rw [z2, z3, z4] at e5
  rw [z1, z2] at e3
  rw [z3] at e4
  rw [z1] at e2
  show _ ∧ _
  rw [z4]
  exact ⟨⟨_, e5, rfl⟩, q _ ⟨e5, e3, ⟨_, e1, rfl, rfl⟩, ⟨_, e2, rfl, rfl⟩⟩ e4 fun c o x => Heap.get?_push_of_some _ (Heap.get?_push_of_some _ (Heap.get?_push_of_some _ (Heap.get?_push_of_some _ (Heap.get?_push_of_some _ x))))⟩
end
def ItzT (K : PySem.W.Frag) (a b : Addr) : It := ⟨fun i H => ∃ xs ys x y, SqT K H a xs ∧ SqT K H b ys ∧ xs[i]? = some x ∧ ys[i]? = some y, fun i H x H' => ∃ T v u, L2.new K H T ∧ (∀ xs, SqT K H a xs → xs[i]? = some v) ∧ (∀ ys, SqT K H b ys → ys[i]? = some u) ∧ x = .ref T ∧ H' = upd H T (.tup [v, u]), fun i H => ∃ xs, SqT K H a xs ∧ xs.length ≤ i⟩
theorem turn_zipT {P : Program} {w : World} {K : PySem.W.Frag} {es : List Expr} {k : Nat} {tp : Pos} (a b z ti to p1 p2 : Addr) (D : ZipApart z ti to p1 p2 a b) : Turn P w K (.Tuple es k tp) (ItzT K a b) [z, ti, to, p1, p2] z
    (fun i h => ZT h z ti to p1 p2 a b .none i i ∧ ∃ p q, IsPair h to p q) where
  mem := by simp
  obj := fun i h st c hc => by
    obtain ⟨⟨g1, g2, ⟨o4, g4, c4, d4⟩, ⟨o5, g5, c5, d5⟩⟩, p, q, g3⟩ := st
    simp only [List.mem_cons, List.not_mem_nil, or_false] at hc
    rcases hc with rfl | rfl | rfl | rfl | rfl
    · exact ⟨_, g1, fun v z => by cases z⟩
    · exact ⟨_, g2, fun v z => by cases z⟩
    · exact ⟨_, g3, fun v z => by cases z⟩
    · exact ⟨o4, g4, fun v z => by rw [d4] at z; cases z⟩
    · exact ⟨o5, g5, fun v z => by rw [d5] at z; cases z⟩
  keep := fun i h h' st kk => by
    obtain ⟨⟨g1, g2, ⟨o4, g4, r4⟩, ⟨o5, g5, r5⟩⟩, p, q, g3⟩ := st
    exact ⟨⟨kk z (by simp) _ g1, kk ti (by simp) _ g2, ⟨o4, kk p1 (by simp) _ g4, r4⟩, ⟨o5, kk p2 (by simp) _ g5, r5⟩⟩, p, q, kk to (by simp) _ g3⟩
  item := by
    intro X hP hw hK hc i pins s σ H E I hf st hg
    subst hP hw hK
    obtain ⟨xs, ys, x, y, hq, hq', hx, hy⟩ := hg
    obtain ⟨its, rv, p, hz⟩ := I.tuple hq
    obtain ⟨its', rv', p', hz'⟩ := I.tuple hq'
    obtain ⟨u, hu, ru⟩ := rv.get hx
    obtain ⟨u', hu', ru'⟩ := rv'.get hy
    obtain ⟨Z, a', b', g3⟩ := st
    refine zipT_item D Z g3 p p' (x := u) (y := u') (by simpa using hu) (by simpa using hu') fun h1 Z1 hO gT sz kp => ?_
    refine ⟨_, rfl, wpAny_letOwnedTupleGo_zip Z1.zip fun h2 hz2 sb => ?_⟩
    have ltZ : z < s.heap.objs.size := Heap.lt_size Z.zip
    have gT2 : h2.get? s.heap.objs.size = some { cls := .type "tuple", data := .seq #[u, u'] } := (sb.2 _ (Nat.ne_of_gt ltZ)).trans gT
    have I1 : Inv X pins σ (upd H s.heap.objs.size (.tup [x, y])) { s with heap := h2, toks := s.toks } := by
      refine I.turnLay (ch := [z, ti, to, p1, p2]) (fun b o hb g => ?_) hf (Nat.le_refl _) ⟨(show 2 ≤ sizeLine by decide), [u, u'], .cons ru (.cons ru' .nil), _, gT2, rfl, _, rfl⟩
      simp only [List.mem_cons, List.not_mem_nil, or_false, not_or] at hb
      exact (sb.2 b hb.1).trans (kp b o hb.1 hb.2.2.1 hb.2.2.2.1 hb.2.2.2.2 g)
    have kT : ∀ c o, c ≠ z → h1.get? c = some o → h2.get? c = some o := fun c o n g => (sb.2 c n).trans g
    have itT : ∀ {p t : Addr} {k : Nat}, p ≠ z → IsTupIter h1 p t k → IsTupIter h2 p t k := fun ne h => let ⟨o, e, r⟩ := h; ⟨o, kT _ o ne e, r⟩
    refine ⟨.ref s.heap.objs.size, _, I1, rfl, ⟨_, x, y, ⟨I.hok.fresh (Nat.le_refl _), I1.notMod upd_same⟩, fun ys hy => by rw [I.tuple_inj hy hq]; exact hx, fun zs hy' => by rw [I.tuple_inj hy' hq']; exact hy, rfl, rfl⟩,
      ⟨⟨hz2, kT _ _ D.TIz Z1.its, itT D.i1z Z1.fst, itT D.i2z Z1.snd⟩, _, _, kT _ _ D.TOz hO⟩, fun c hc => ?_⟩
    have ltc : c < s.heap.objs.size := by
      obtain ⟨_, g2, ⟨o4, e4, _⟩, ⟨o5, e5, _⟩⟩ := Z
      simp only [List.mem_cons, List.not_mem_nil, or_false] at hc
      rcases hc with rfl | rfl | rfl | rfl | rfl
      · exact ltZ
      · exact Heap.lt_size g2
      · exact Heap.lt_size g3
      · exact Heap.lt_size e4
      · exact Heap.lt_size e5
    rw [upd_ne (Nat.ne_of_lt ltc)]
    exact (hf c hc).1
  done := by
    intro X hP hw hK hc i pins s σ H E I hf st hg
    subst hP hw hK
    obtain ⟨xs, hq, hx⟩ := hg
    obtain ⟨its, rv, p, hz⟩ := I.tuple hq
    obtain ⟨Z, a', b', g3⟩ := st
    have hl := rv.length
    refine zipT_end (I.ok.hd hc) D Z g3 p (by simp; omega) fun h' kp => ⟨rfl, I.turnAll (t' := s.toks) (ch := [z, ti, to, p1, p2]) (fun b o hb g => ?_) hf⟩
    simp only [List.mem_cons, List.not_mem_nil, or_false, not_or] at hb
    exact kp b o hb.1 hb.2.2.2.1 g
  self := fun _ _ _ _ _ st h => wpAny_pyIter_zip st.1.zip h
section
variable {X : Cx}
def iZipS (K : PySem.W.Frag) (tl : TA) : TI := fun σ H R => tl σ H fun vs H1 => ∃ a b, vs = [.ref a, .ref b] ∧ (((∃ xs, SqL K H1 a xs) ∧ (∃ ys, SqL K H1 b ys) ∧ R (Itz K a b) H1) ∨ ((∃ xs, SqT K H1 a xs) ∧ (∃ ys, SqT K H1 b ys) ∧ R (ItzT K a b) H1))
theorem izipS {K : PySem.W.Frag} {l l' : Expr} {t : TA} {es : List Expr} {k : Nat} {p pos tp : Pos} (hg : Gl X "zip") (hm : X.mg "zip" = none) (ha : JA X [l, l'] t) (hs : starEach [l, l'] X.env = (false, eval l X.env) :: starEach [l'] X.env := by rfl) (hs2 : (backTo pos (starEach [l'] X.env)).any (·.1) = false := by rfl) (hk : X.K = K := by rfl) :
    JI X (.Tuple es k tp) (.Call (.Name "zip" p) [l, l'] [] pos) (iZipS K t) := ⟨by
  subst hk
  intro pins s σ H R I h
  refine Call_ (ld_blt I hg hm bt_zip (PyProof.Rows.callWith_type1 (thn (ha.h pos pins s σ H _ I h) fun us s1 ⟨vs, H1, I1, r1, q1⟩ => ?_) hs hs2))
  have far : ∀ b, b ∈ [s1.heap.objs.size + 4, s1.heap.objs.size + 2, s1.heap.objs.size + 3, s1.heap.objs.size, s1.heap.objs.size + 1] → s1.heap.objs.size ≤ b := by
    intro b hb
    simp only [List.mem_cons, List.not_mem_nil, or_false] at hb
    omega
  obtain ⟨a, b, rfl, ⟨⟨xs, hx⟩, ⟨ys, hy⟩, q⟩ | ⟨⟨xs, hx⟩, ⟨ys, hy⟩, q⟩⟩ := q1
  · obtain ⟨u, u', rfl, ru, ru'⟩ := vals2 r1
    cases ru
    cases ru'
    obtain ⟨its, rv, ht, hz⟩ := I1.list hx
    obtain ⟨its', rv', ht', hz'⟩ := I1.list hy
    have la : a < s1.heap.objs.size := by obtain ⟨_, e, _⟩ := ht.isList; exact Heap.lt_size e
    have lb : b < s1.heap.objs.size := by obtain ⟨_, e, _⟩ := ht'.isList; exact Heap.lt_size e
    refine call_zip_2 ht.isList ht'.isList fun h2 g1 g2 g3 g4 g5 sz kp => ?_
    exact wpAny_pyIter_zip g1 ⟨_, [s1.heap.objs.size + 4, s1.heap.objs.size + 2, s1.heap.objs.size + 3, s1.heap.objs.size, s1.heap.objs.size + 1], _, Itz X.K a b, H1, rfl, I1.kept (t' := s1.toks) kp, turn_zip a b _ _ _ _ _ (zipApart_new la lb), ⟨g1, g2, ⟨_, _, g3⟩, g4, g5⟩, fun b hb => I1.fpOk (far b hb) (I1.hok.fresh (far b hb)), q⟩
  · obtain ⟨u, u', rfl, ru, ru'⟩ := vals2 r1
    cases ru
    cases ru'
    obtain ⟨its, rv, ht, hz⟩ := I1.tuple hx
    obtain ⟨its', rv', ht', hz'⟩ := I1.tuple hy
    refine call_zipT ht ht' fun h2 Z g3 kp => ?_
    exact wpAny_pyIter_zip Z.zip ⟨_, [s1.heap.objs.size + 4, s1.heap.objs.size + 2, s1.heap.objs.size + 3, s1.heap.objs.size, s1.heap.objs.size + 1], _, ItzT X.K a b, H1, rfl, I1.kept (t' := s1.toks) kp, turn_zipT a b _ _ _ _ _ (zipApart_new ht.lt ht'.lt), ⟨Z, _, _, g3⟩, fun b hb => I1.fpOk (far b hb) (I1.hok.fresh (far b hb)), q⟩⟩
end
section
variable {K : PySem.W.Frag} {g : TG} {tt : TT} {te : TE} {D : Addr} {σ : St} {H : Hp} {Q : Hp → Prop} {a b : Addr} {xs ys : List V}
theorem tLc_zipS {ta : TA} {src : List (Option Nat)} {Q : VK} : tLc K (iZipS K ta) src g tt te σ H Q = ta σ H (fun vs H1 => ∃ a b, vs = [.ref a, .ref b] ∧ (((∃ xs, SqL K H1 a xs) ∧ (∃ ys, SqL K H1 b ys) ∧ ∀ D, L2.new K H1 D → LcLoop (Itz K a b) g tt te D (fun H' => Q (.ref D) H') (pick σ src) (upd H1 D (.lst []))) ∨
    ((∃ xs, SqT K H1 a xs) ∧ (∃ ys, SqT K H1 b ys) ∧ ∀ D, L2.new K H1 D → LcLoop (ItzT K a b) g tt te D (fun H' => Q (.ref D) H') (pick σ src) (upd H1 D (.lst []))))) := rfl
theorem lc_zip (Pv : Nat → List V → St → Hp → Prop) (el : xs.length = ys.length) (h0 : Pv 0 [] σ H) (hl : ∀ i acc σ H, i ≤ xs.length → Pv i acc σ H → SqL K H a xs ∧ SqL K H b ys)
    (hs : ∀ i x y acc σ H T, xs[i]? = some x → ys[i]? = some y → Pv i acc σ H → L2.new K H T → g (.ref T) σ (upd H T (.tup [x, y])) fun σ2 H2 => tt σ2 H2 fun b H3 => if b = true then te σ2 H3 fun v H4 => H4 D = some (.lst acc) ∧ acc.length < sizeLine ∧ Pv (i + 1) (acc ++ [v]) σ2 (upd H4 D (.lst (acc ++ [v]))) else Pv (i + 1) acc σ2 H3)
    (hd : ∀ acc σ H, Pv xs.length acc σ H → Q H) : LcLoop (Itz K a b) g tt te D Q σ H := by
  refine lc_run (n := xs.length) Pv h0 (fun i acc σ H hi h => ?_) (fun acc σ H h => ?_) (fun i acc σ H x H' hi h hy => ?_) hd
  · obtain ⟨q1, q2⟩ := hl i acc σ H (Nat.le_of_lt hi) h
    exact ⟨xs, ys, xs[i], ys[i]'(by omega), q1, q2, by simp [hi], by simp [← el, hi]⟩
  · obtain ⟨q1, q2⟩ := hl _ acc σ H (Nat.le_refl _) h
    exact ⟨xs, ys, q1, q2, .inl (Nat.le_refl _)⟩
  · obtain ⟨q1, q2⟩ := hl i acc σ H (Nat.le_of_lt hi) h
    obtain ⟨T, v, u, nT, hv, hu, rfl, rfl⟩ := hy
    exact hs i v u acc σ H T (hv xs q1) (hu ys q2) h nT
theorem lc_zipT (Pv : Nat → List V → St → Hp → Prop) (el : xs.length = ys.length) (h0 : Pv 0 [] σ H) (hl : ∀ i acc σ H, i ≤ xs.length → Pv i acc σ H → SqT K H a xs ∧ SqT K H b ys)
    (hs : ∀ i x y acc σ H T, xs[i]? = some x → ys[i]? = some y → Pv i acc σ H → L2.new K H T → g (.ref T) σ (upd H T (.tup [x, y])) fun σ2 H2 => tt σ2 H2 fun b H3 => if b = true then te σ2 H3 fun v H4 => H4 D = some (.lst acc) ∧ acc.length < sizeLine ∧ Pv (i + 1) (acc ++ [v]) σ2 (upd H4 D (.lst (acc ++ [v]))) else Pv (i + 1) acc σ2 H3)
    (hd : ∀ acc σ H, Pv xs.length acc σ H → Q H) : LcLoop (ItzT K a b) g tt te D Q σ H := by
  refine lc_run (n := xs.length) Pv h0 (fun i acc σ H hi h => ?_) (fun acc σ H h => ?_) (fun i acc σ H x H' hi h hy => ?_) hd
  · obtain ⟨q1, q2⟩ := hl i acc σ H (Nat.le_of_lt hi) h
    exact ⟨xs, ys, xs[i], ys[i]'(by omega), q1, q2, by simp [hi], by simp [← el, hi]⟩
  · obtain ⟨q1, q2⟩ := hl _ acc σ H (Nat.le_refl _) h
    exact ⟨xs, q1, Nat.le_refl _⟩
  · obtain ⟨q1, q2⟩ := hl i acc σ H (Nat.le_of_lt hi) h
    obtain ⟨T, v, u, nT, hv, hu, rfl, rfl⟩ := hy
    exact hs i v u acc σ H T (hv xs q1) (hu ys q2) h nT
end
section
variable {X : Cx}
theorem call_lenA : CallR X (.builtin "len") (fun xs H Q => (∃ p ys, xs = [.ref p] ∧ seqQ X.K H p = some ys ∧ Q (.int ys.length) H) ∨ ∃ a kvs, xs = [V.ref a] ∧ H a = some (.dK kvs) ∧ Q (.int kvs.length) H) := by
  intro pins s σ H xs us Q I r h
  rcases h with h | h
  · exact call_lenQ pins s σ H xs us Q I r h
  · exact call_lenD pins s σ H xs us Q I r h
end
end L2
set_option Elab.async false
set_option linter.all false
set_option maxRecDepth 100000
set_option maxHeartbeats 4000000
namespace L2
open PySem PySem.Spec PyProof.Rows
def CXO (P : Program) (w : World) : CXT := fun outer H s E e s' => ∃ (a : Addr) (cls a0 : Value) (B : Heap) (H' : Hp), e = .ref a ∧ s'.os = s.os ∧ AllBare s'.gens ∧ Heap.FlyingW B outer a cls a0 s'.heap ∧ Un (frs outer) [] H H' s.heap s'.heap ∧
  (∀ b o, s.heap.get? b = some o → H b = none → b ∉ frs outer → B.get? b = some o) ∧ (∀ b o, s.heap.get? b = some o → b ∉ frs outer → ∃ o', B.get? b = some o') ∧ HOk P w H' B ∧ s.heap.get? a = none ∧ E cls none H'
theorem no_obj {P : Program} {w : World} {H : Hp} {h : Heap} {a : Addr} {o : HO} (x : ObjOk P w H h a o) : ∃ u, h.get? a = some u := by
  cases o with
  | lst xs => obtain ⟨_, _, _, _, e⟩ := x; exact ⟨_, e⟩
  | tup xs => obtain ⟨_, _, _, u, e, _⟩ := x; exact ⟨_, e⟩
  | dK kvs => obtain ⟨_, _, _, _, o, _, _, e, _⟩ := x; exact ⟨_, e⟩
  | dT kvs => obtain ⟨_, _, _, _, o, _, _, e, _⟩ := x; exact ⟨_, e⟩
  | set S n => obtain ⟨o, _, _, _, e, _⟩ := x; exact ⟨_, e⟩
  | ins C dx fs => obtain ⟨_, _, _, e, _⟩ := x; exact ⟨_, e⟩
  | own y => exact x
  | xd fs => obtain ⟨_, ⟨_, _, _, e, _⟩, _⟩ := x; exact ⟨_, e⟩
  | rng lo hi => obtain ⟨_, _, _, e⟩ := x; exact ⟨_, e⟩
  | frz ob u => obtain ⟨e, _⟩ := x; exact ⟨_, e⟩
  | tbl ps => exact ⟨_, (show h.get? a = some _ from x)⟩
  | met f y => exact ⟨_, (show h.get? a = some _ from x)⟩
  | ext φ => exact x.2.1
section
variable {X : Cx} {E : XK}
theorem cxo_out {pins : List (Addr × Obj)} {σ : St} {H H' : Hp} {s : Shared} {h1 h2 B : Heap} {a : Addr} {cls a0 : Value} {os : OsState} {g : Array GenState} {d : Drawn} {t : Nat} (hst : X.stack = X.env :: X.outer) (hex : X.ex = [])
    (I : Inv X pins σ H s) (ho : os = s.os) (hg : AllBare g) (fl : Heap.FlyingW B X.outer a cls a0 h2) (up : h1.UpToSlots h2)
    (un : Un (frs X.stack) [] H H' s.heap h1) (kb : ∀ b o, s.heap.get? b = some o → H b = none → b ∉ frs X.stack → B.get? b = some o)
    (tb : ∀ b o, s.heap.get? b = some o → b ∉ frs X.stack → ∃ o', B.get? b = some o') (hok : HOk X.prog X.w H' B) (na : s.heap.get? a = none) (hE : E cls none H') :
    CXO X.prog X.w X.outer X.H₀ X.s₀ E (.ref a) ⟨h2, g, d, t, os⟩ := by
  have nx : ∀ b : Addr, b ∉ X.ex := fun b => by rw [hex]; simp
  have ne : ∀ b o, X.s₀.heap.get? b = some o → b ∉ frs X.outer → b ∉ frs X.stack := fun b o e n z => by
    rcases List.mem_cons.mp (I.stkSub b z) with q | q
    · have h1 := I.ok.above
      rw [← q] at h1
      exact absurd (Nat.lt_of_lt_of_le (Heap.lt_size e) h1) (Nat.lt_irrefl _)
    · exact n q
  have inS : ∀ b, b ∈ frs X.outer → b ∈ frs X.stack := fun b hb => by
    rw [hst]
    unfold frs at hb ⊢
    rw [List.filterMap_cons]
    split
    · exact hb
    · exact List.mem_cons_of_mem _ hb
  refine ⟨a, cls, a0, B, H', rfl, ho.trans I.os, hg, fl, ⟨fun b o e n hb _ => ?_, fun b o e n hb _ => ?_, fun b o e n _ => ?_, fun b o e _ => ?_, fun b xs e => un.tups b xs (I.base.tups b xs e), fun b o xs e => un.frzs b o xs (I.base.frzs b o xs e), fun b ps e => ?_⟩,
    fun b o e n hb => kb b o (I.base.keep b o e n hb (nx b)) (I.base.free b o e n (nx b)) (ne b o e hb), fun b o e hb => ?_, hok, ?_, hE⟩
  · exact fl.1 b o (kb b o (I.base.keep b o e n hb (nx b)) (I.base.free b o e n (nx b)) (ne b o e hb))
  · obtain ⟨sl, e1⟩ := I.base.slot b o e n hb (nx b)
    obtain ⟨sl', e2⟩ := un.slot b _ e1 (I.base.free b o e n (nx b)) (inS b hb) (by simp)
    obtain ⟨_, o', e3, nf⟩ := I.funs.mem hb
    rw [e1] at e3
    cases e3
    obtain ⟨sl'', e4⟩ := up b _ e2 nf
    exact ⟨sl'', e4⟩
  · obtain ⟨o', e1⟩ := I.base.there b o e (nx b)
    exact un.free b o' e1 (I.base.free b o e n (nx b)) (by simp)
  · by_cases hb : b ∈ frs X.outer
    · have n : X.H₀ b = none := I.ok.frf b hb
      obtain ⟨sl, e1⟩ := I.base.slot b o e n hb (nx b)
      obtain ⟨sl', e2⟩ := un.slot b _ e1 (I.base.free b o e n (nx b)) (inS b hb) (by simp)
      obtain ⟨_, o', e3, nf⟩ := I.funs.mem hb
      rw [e1] at e3
      cases e3
      obtain ⟨sl'', e4⟩ := up b _ e2 nf
      exact ⟨_, e4⟩
    · obtain ⟨o1, e1⟩ := I.base.there b o e (nx b)
      obtain ⟨o2, e2⟩ := tb b o1 e1 (ne b o e hb)
      exact ⟨o2, fl.1 b o2 e2⟩
  · obtain ⟨m1, e1⟩ := I.base.tbls b ps e
    obtain ⟨m2, e2⟩ := un.tbls b _ e1
    exact ⟨m1 ++ m2, by rw [e2, Array.append_assoc]⟩
  · obtain ⟨o1, e1⟩ := I.base.there b o e (nx b)
    exact tb b o1 e1 (ne b o e hb)
  · cases q : X.s₀.heap.get? a with
    | none => rfl
    | some o =>
      obtain ⟨o1, e1⟩ := I.base.there a o q (nx a)
      rw [na] at e1
      cases e1
end
section
variable {P : Program} {w : World} {K : PySem.W.Frag} {mg : Str → Option Value} {base : Heap} {N : List Str} {qual : Str} {scope : Scope} {f : Addr} {cd : Value} {A : Around} {outer : List Env} {s0 : Shared} {H0 : Hp} {E : XK} {CX : CXT}
def tRaise (E : XK) (c : Value) : TS := fun _ _ H => E c none H
structure Exc (K : PySem.W.Frag) (C : Addr) : Prop where
  is : PySem.W.excIn K C [.type "ValueError", .type "Exception", .type "BaseException", .type "object"] "ValueError.__new__" = true
theorem Exc.obj {h : Heap} {C : Addr} (X : K.In h) (e : Exc K C) : ∃ bm Nn nm q bs hdct sn sub ab col dd k0 k1 k2 k3 k5 mN, h.get? C = some (excClassObj nm q C Nn bs bm hdct sn sub ab col dd k0 k1 k2 k3 k5 "ValueError.__new__") ∧ h.Ns Nn mN ∧ mN "__init__" = none ∧ OwnTail h [.type "ValueError", .type "Exception", .type "BaseException", .type "object"] bm := by
  have q := e.is
  unfold PySem.W.excIn at q
  split at q
  · rename_i dd cd sl ho
    split at q
    · rename_i C' bm k0 k1 k2 k3 n k5 hm hs
      simp only [Bool.and_eq_true, beq_iff_eq, Bool.not_eq_true'] at q
      obtain ⟨⟨⟨⟨⟨rfl, rfl⟩, hdel⟩, ht⟩, hok⟩, hni⟩ := q
      obtain ⟨nm, bs, mro, ns, qn, hd, sn, sub, ab, col, del⟩ := cd
      have e1 : mro = .ref C' :: bm := hm
      have e2 : del = false := hdel
      subst e1 e2
      obtain ⟨l⟩ := sl
      have e3 : l = [k0, k1, k2, k3, some (.builtin "ValueError.__new__"), k5] := hs
      subst e3
      exact ⟨bm, ns, nm, qn, bs, hd, sn, sub, ab, col, dd, k0, k1, k2, k3, k5, _, X _ _ ho, .of_isNs (PySem.W.isNs_of_in X hok), PySem.W.nsMap_none_of_in X hok hni, PySem.W.tail_of_in X ht⟩
    · cases q
  · cases q
theorem sraise {C : Addr} {x y : Str} {np cpos pos sp : Pos} {j : Nat} (hC : Exc K C) (hm : mg x = some (.ref C)) (hd : A.handled = none) (hg : Gl (cxOf (CXO P w) P w K mg base N qual scope f cd A outer s0 H0 E) x) (hdb : (x == ("__debug__" : Str)) = false := by decide) :
    JS (cxOf (CXO P w) P w K mg base N qual scope f cd A outer s0 H0 E) (.Raise (some (.Call (.Name x np) [.Constant (.str y) j sp] [] cpos)) none pos) (tRaise E (.ref C)) := ⟨by
  intro pins s σ H D I h
  obtain ⟨bm, Nn, nm, q, bs, hdct, sn, sub, ab, col, dd, k0, k1, k2, k3, k5, mN, hCo, hN, hni, T⟩ := hC.obj I.mod.kin
  refine wpAny_Raise_call_subT (C := C) (nm := nm) (q := q) (N := Nn) (bs := bs) (bm := bm) (hdct := hdct) (sn := sn) (sub := sub) (ab := ab) (col := col) (dd := dd) (k0 := k0) (k1 := k1) (k2 := k2) (k3 := k3) (k5 := k5) PySem.F.excBase_ValueError (mN := mN) (T.hasType PySem.F.excBase_ValueError.hasBase) hd rfl hni (ld_glob I hg hm ⟨rfl, ?_⟩ hdb)
  have pa := pa_cons (X := cxOf (CXO P w) P w K mg base N qual scope f cd A outer s0 H0 E) (pe_str (x := y) (j := j) (pos := sp)) pa_nil
  refine Calls.evalArgs_plain (wpAny_mono (pa cpos pins s σ H (fun vs H2 => vs.length = 1 ∧ H2 = H) I ⟨rfl, rfl⟩) (fun us s2 z => ?_) fun _ _ z => z)
  obtain ⟨vs, H2, I2, r2, l2, rfl⟩ := z
  refine ⟨rfl, ?_, I2.bk _ _ hCo, hN.keeps I2.bk, T.keeps I2.bk, fun h' e hx => ?_⟩
  · show us.length ≤ _
    rw [← r2.length, l2]
    decide
  have nf : ∀ b u, H2 b = some u → b ∉ frs (cxOf (CXO P w) P w K mg base N qual scope f cd A outer s0 H0 E).stack := fun b u e z => by
    rw [I2.stkFree b z] at e
    cases e
  refine wpAny_leaves_madeW (base := PySem.W.hideAll s2.heap (frs (cxOf (CXO P w) P w K mg base N qual scope f cd A outer s0 H0 E).stack)) (h := s2.heap) I2.ok.frames rfl (fun b o q => PySem.W.of_hideAll _ q) (PySem.W.funFrames_hide I2.stack fun env he b hb => List.mem_filterMap.mpr ⟨env, he, hb⟩) hx fun h2 t fl _ _ up => ?_
  refine cxo_out (X := cxOf (CXO P w) P w K mg base N qual scope f cd A outer s0 H0 E) (H' := H2) (h1 := h') (s := s2) rfl rfl I2 rfl I2.bare fl up (Un.kept hx.keeps) (fun b o e _ n => PySem.W.hideAll_get _ e n) (fun b o e n => ⟨o, PySem.W.hideAll_get _ e n⟩) (fun b o e => (I2.hok b o e).stay (fun c u hc q => PySem.W.hideAll_get _ q ?_) (fun _ q => q) fun _ _ q => q) hx.new h
  rcases hc with z | z
  · subst z
    exact nf _ _ e
  · exact nf _ _ z⟩
end
end L2
namespace L2
open PySem PySem.Spec PyProof.Rows PySem.W PySem.Calls PySem.Builtin PySem.Builtin.ObjectAttr PySem.Builtin.Getset_descriptor
structure ExcI (K : PySem.W.Frag) (C : Addr) : Prop where
  ga : findIn K (.ref C) "__getattribute__" = some (some (.builtin "BaseException.__getattribute__"))
  gh : findIn K (.ref C) "__getattr__" = some none
  cl : findIn K (.ref C) "__class__" = some (some (.builtin "object.__class__"))
  mo : mroIn K C (.type "object") = some true
  mb : mroIn K C (.type "BaseException") = some true
  gt : specialIn K (.builtin "object.__class__") "__get__" = some (some (.builtin "getset_descriptor.__get__"))
  tk : takesIn K (.builtin "object.__class__") = some true
  is : (clsIn K C).isSome = true
def XAt (a C : Addr) (h : Heap) : Prop := ∃ o, h.get? a = some o ∧ o.cls = .ref C
section
variable {K : PySem.W.Frag} {prog : Program} {w : World} {A : Around} {E : Value → Shared → Prop} {s : Shared} {a C : Addr}
theorem XAt.ty {M : Model} {h : Heap} (x : XAt a C h) : Looks M h (typeOf (.ref a)) (.ref C) := by
  obtain ⟨o, e, c⟩ := x
  exact c ▸ (Looks.ld e).andThen .now
theorem xcls_get {R : Result → Shared → Prop} {tp : Value} (X : K.In s.heap) (x : XAt a C s.heap) (F : ExcI K C) (h : R (.ok (.ret (.ref C))) s) : codeAny (model prog w) A (.call (.builtin "getset_descriptor.__get__") ⟨[.builtin "object.__class__", .ref a, tp], []⟩) R s := by
  obtain ⟨h0, gn, dr, tk, os⟩ := s
  have l0 := x.ty (M := model prog w)
  have l1 := looks_mroIn (M := model prog w) X F.mo
  refine codeAny_call_builtin KF.slot_gs.plain KF.entry_gs (KF.slot_gs.check _ _ _ _ _ _ _ _ KF.type_class (KF.args_gs _ _ _) ?_)
  unfold Builtin.«getset_descriptor.__get__»; unfold descrGet
  rw [dga_obj]
  refine wpAny_bind (wpAny_pure ?_)
  unfold descrGetter; unfold descrCheckInstance; unfold descrNameAndClass; unfold isInstance
  simp only [KF.owner_class]
  repeat lk
  refine ⟨Code.quiet_builtin _ (by decide +kernel), codeAny_builtin KF.entry_class ?_⟩
  unfold Builtin.«object.__class__»; unfold shownTypeOf
  repeat lk
  exact h
theorem xcls_find {M : Model} {h : Heap} (X : K.In h) (F : ExcI K C) : Looks M h (find (.ref a) (.ref C) "__class__") (.bind (.builtin "getset_descriptor.__get__") (.builtin "object.__class__")) := by
  have l1 := looks_findIn (M := M) X F.cl
  have l2 := looks_specialIn (M := M) X F.gt
  have l3 := looks_takesIn (M := M) X F.tk
  exact l1.andThen (Looks.andThen (a := some (Value.builtin "getset_descriptor.__get__")) l2 ((show Looks M h (dataDescriptor? (some (.builtin "object.__class__")) (some (.builtin "getset_descriptor.__get__"))) (some (.builtin "getset_descriptor.__get__", .builtin "object.__class__")) from l3.andThen .now).andThen (Looks.tag .now)))
theorem xcls_entry {tk : Tok} {Q : Fin → Shared → Prop} (X : K.In s.heap) (x : XAt a C s.heap) (F : ExcI K C) (h : Q (.done (.ret (.ref C))) s) : wpAny (model prog w) A (Builtin.«object.__getattribute__» ⟨[.ref a, .str "__class__" tk], []⟩) Q E s := by
  obtain ⟨h0, gn, dr, tk, os⟩ := s
  have l0 := x.ty (M := model prog w)
  have l1 := xcls_find (M := model prog w) (a := a) X F
  unfold Builtin.«object.__getattribute__»
  refine wpAny_bind (wpAny_pure ?_)
  refine wpAny_bind (wpAny_pure ?_)
  refine wpAny_bind (l0.at ?_)
  refine wpAny_bind (l1.at ?_)
  show wpAny (model prog w) A (bindTo (.builtin "getset_descriptor.__get__") (.builtin "object.__class__") (.ref a) (.ref C)) _ _ _
  unfold bindTo
  show wpAny (model prog w) A (holding [.builtin "object.__class__"] (call (.builtin "getset_descriptor.__get__") [.builtin "object.__class__", .ref a, .ref C]) >>= ret) _ _ _
  exact wpAny_bind (wpAny_holding (wpAny_call (xcls_get (s := ⟨h0, gn, dr, tk, os⟩) X x F (wpAny_pure h))))
theorem xcls_call {tk : Tok} {R : Result → Shared → Prop} (X : K.In s.heap) (x : XAt a C s.heap) (F : ExcI K C) (h : R (.ok (.ret (.ref C))) s) : codeAny (model prog w) A (.call (.builtin "BaseException.__getattribute__") ⟨[.ref a, .str "__class__" tk], []⟩) R s := by
  refine codeAny_call_builtin PySem.F.attr_ValueError.ga.plain PySem.F.entry_bexc_ga ?_
  have hk : builtinKind "BaseException.__getattribute__" = some .slot := by decide +kernel
  have hp : splitId "BaseException.__getattribute__" = some ("BaseException", "__getattribute__") := by decide +kernel
  have ha := PySem.F.args_bexc_ga (.ref a) (.str "__class__" tk)
  have l0 := x.ty (M := model prog w)
  have l1 := looks_mroIn (M := model prog w) X F.mb
  have l2 : Looks (model prog w) s.heap (isInstance (.ref a) (.type "BaseException")) true := l0.andThen l1
  simp only [checkBuiltinCall, hk, hp]
  refine wpAny_bind (l2.at ?_)
  rw [if_neg (by decide)]
  exact wpAny_of_eq ha (xcls_entry X x F h)
theorem xcls_by {tk : Tok} {Q : Value → Shared → Prop} (X : K.In s.heap) (x : XAt a C s.heap) (F : ExcI K C) (h : Q (.ref C) s) : wpAny (model prog w) A (getAttrBy (.ref a) (.str "__class__" tk) false) Q E s := by
  have l0 := x.ty (M := model prog w)
  have l1 := looks_findIn (M := model prog w) X F.ga
  have l2 := looks_findIn (M := model prog w) X F.gh
  have f3 := PySem.F.attr_ValueError.ga.bind (.ref a)
  unfold getAttrBy
  refine wpAny_holding (wpAny_bind (l0.at (wpAny_bind (l1.at ?_))))
  dsimp only
  have nb : (onTheHeap (Value.ref C) && Value.builtin "BaseException.__getattribute__" == Value.builtin "object.__getattribute__") = false := by
    rw [show (Value.builtin "BaseException.__getattribute__" == Value.builtin "object.__getattribute__") = false by decide +kernel, Bool.and_false]
  rw [nb, if_neg (by decide)]
  unfold getAttrByItsOwn
  refine wpAny_bind ?_
  show wpAny (model prog w) A (typeLookup (.ref C) "__getattr__") _ _ _
  refine l2.at (wpAny_bind (wpAny_attempt (wpAny_holding ?_)))
  show wpAny (model prog w) A (boundAndCalled (.builtin "BaseException.__getattribute__") (.ref a) (.str "__class__" tk)) _ _ _
  unfold boundAndCalled
  refine wpAny_bind (wpAny_of_eq f3 ?_)
  refine wpAny_call (xcls_call (s := s) X x F ?_)
  exact wpAny_pure h
theorem xcls_attr {Q : Option Value → Shared → Prop} (X : K.In s.heap) (x : XAt a C s.heap) (F : ExcI K C) (h : Q (some (.ref C)) { s with toks := s.toks + 1 }) : wpAny (model prog w) A (getAttr? (.ref a) "__class__") Q E s := by
  unfold getAttr?; unfold getAttrBy?
  exact wpAny_bind (wpAny_mkText (wpAny_bind (wpAny_attempt (xcls_by (s := { s with toks := s.toks + 1 }) X x F (wpAny_pure h)))))
theorem kitx_exc (F : ExcI K C) : KitX K (.ref a) (.ref C) (XAt a C) where
  ty := fun _ _ _ x => x.ty
  it := fun _ _ X _ => by
    have q := F.is
    unfold clsIn at q
    split at q
    · rename_i ho
      intro A' Q' E' s' k z
      unfold isType loadHead
      exact wpAny_bind (wpAny_loadPart (k _ _ (X _ _ ho)) (wpAny_pure z))
    · cases q
  ne := fun h tp dd its n sl X e => by
    have q := F.is
    refine Bool.eq_false_iff.mpr fun z => ?_
    cases beq_iff_eq.mp z
    unfold clsIn at q
    split at q
    · rename_i ho
      have z := (X _ _ ho).symm.trans e
      cases z
    · cases q
  ca := fun X x k => xcls_attr X x F k
end
end L2
set_option Elab.async false
set_option linter.all false
set_option maxRecDepth 100000
set_option maxHeartbeats 4000000
namespace L2
open PySem PySem.Spec PyProof.Rows
def Cx.tried (X : Cx) (xe : Value → Shared → Prop) (pn : List (Addr × Obj)) : Cx := { X with xe := xe, pn := pn }
def Cx.caught (X : Cx) (a : Addr) (xe : Value → Shared → Prop) (pn : List (Addr × Obj)) : Cx := { X with A := X.A.mark (some (.ref a)), calm := false, xe := xe, pn := pn }
section
variable {X : Cx} {pins pins1 : List (Addr × Obj)} {σ : St} {H H' : Hp} {s : Shared} {xe : Value → Shared → Prop}
theorem Inv.tried (I : Inv X pins σ H s) : Inv (X.tried xe (X.pn ++ pins)) [] σ H s :=
  ⟨⟨I.ok.mod, I.ok.kind, I.ok.glob, I.ok.blt, I.ok.above, I.ok.inj, I.ok.has, I.ok.cab, I.ok.hd, I.ok.frames, I.ok.stk, I.ok.exf, I.ok.bs, I.ok.bsz, I.ok.noex, I.ok.exfs, I.ok.funs, I.ok.frf⟩, I.os, I.bare, I.base, I.loc, I.cell, I.free, I.freeC, fun p hp => I.pin p (by rw [List.append_nil] at hp; exact hp), I.hok, I.len⟩
theorem Inv.untried (I : Inv (X.tried xe (X.pn ++ pins)) pins1 σ H s) : Inv X pins σ H s :=
  ⟨⟨I.ok.mod, I.ok.kind, I.ok.glob, I.ok.blt, I.ok.above, I.ok.inj, I.ok.has, I.ok.cab, I.ok.hd, I.ok.frames, I.ok.stk, I.ok.exf, I.ok.bs, I.ok.bsz, I.ok.noex, I.ok.exfs, I.ok.funs, I.ok.frf⟩, I.os, I.bare, I.base, I.loc, I.cell, I.free, I.freeC, fun p hp => I.pin p (List.mem_append_left _ hp), I.hok, I.len⟩
theorem Inv.caught {a : Addr} (I : Inv X pins σ H s) : Inv (X.caught a xe (X.pn ++ pins)) [] σ H s :=
  ⟨⟨I.ok.mod, I.ok.kind, I.ok.glob, I.ok.blt, I.ok.above, I.ok.inj, I.ok.has, I.ok.cab, (fun z => nomatch z), I.ok.frames, I.ok.stk, I.ok.exf, I.ok.bs, I.ok.bsz, I.ok.noex, I.ok.exfs, I.ok.funs, I.ok.frf⟩, I.os, I.bare, I.base, I.loc, I.cell, I.free, I.freeC, fun p hp => I.pin p (by rw [List.append_nil] at hp; exact hp), I.hok, I.len⟩
theorem Inv.uncaught {a : Addr} (ok : X.Ok) (I : Inv (X.caught a xe (X.pn ++ pins)) pins1 σ H s) : Inv X pins σ H s :=
  ⟨ok, I.os, I.bare, I.base, I.loc, I.cell, I.free, I.freeC, fun p hp => I.pin p (List.mem_append_left _ hp), I.hok, I.len⟩
theorem Inv.track {a : Addr} {o : HO} (I : Inv X pins σ H s) (hn : H a = none) (ha : X.s₀.heap.get? a = none) (hl : a ≠ X.env.locals) (hc : ∀ x c, X.env.cells.lookup x = some c → c ≠ a) (hp : ∀ p ∈ X.pn ++ pins, p.1 ≠ a) (ok : ObjOk X.prog X.w (upd H a o) s.heap a o) : Inv X pins σ (upd H a o) s := by
  have ne : ∀ b u, H b = some u → b ≠ a := fun b u e => ne_of_none e hn
  refine ⟨I.ok, I.os, I.bare, ⟨I.base.keep, I.base.slot, fun b u e n hx => ?_, I.base.there, fun b xs e => ?_, fun b u xs e => ?_, fun b ps e => ?_⟩, I.loc, I.cell, ?_, fun x c e => ?_, fun p q => ?_, fun b u e => ?_, I.len⟩
  · rw [upd_ne (fun z => by rw [z, ha] at e; cases e)]
    exact I.base.free b u e n hx
  · have := I.base.tups b xs e
    rw [upd_ne (ne _ _ this)]
    exact this
  · have := I.base.frzs b u xs e
    rw [upd_ne (ne _ _ this)]
    exact this
  · obtain ⟨m, this⟩ := I.base.tbls b ps e
    exact ⟨m, by rw [upd_ne (ne _ _ this)]; exact this⟩
  · rw [upd_ne hl.symm]
    exact I.free
  · rw [upd_ne (hc x c e)]
    exact I.freeC x c e
  · obtain ⟨e, n, r⟩ := I.pin p q
    exact ⟨e, by rw [upd_ne (hp p q)]; exact n, r⟩
  · by_cases z : b = a
    · subst z
      rw [upd_same] at e
      cases e
      exact ok
    · rw [upd_ne z] at e
      exact (I.hok b u e).stay (fun _ _ _ q => q) (fun c q => by rw [upd_ne (ne _ _ q)]; exact q) fun c xs q => by rw [upd_ne (ne _ _ q)]; exact q
end
theorem un_up {st : List Env} {base h h1 h2 B : Heap} {H H' : Hp} (ff : h.FunFrames base st) (fr : ∀ b ∈ frs st, H b = none) (un : Un (frs st) [] H H' h h1) (kb : ∀ b o, h.get? b = some o → H b = none → b ∉ frs st → B.get? b = some o)
    (tb : ∀ b o, h.get? b = some o → b ∉ frs st → ∃ o', B.get? b = some o') (ks : B.StaysIn h2) (up : h1.UpToSlots h2) : Un (frs st) [] H H' h h2 := by
  have sl : ∀ b o, h.get? b = some o → H b = none → b ∈ frs st → ∃ sl, h2.get? b = some { o with slots := sl } := fun b o e n hb => by
    obtain ⟨s1, e1⟩ := un.slot b o e n hb (by simp)
    obtain ⟨_, o', e3, nf⟩ := ff.mem hb
    rw [e] at e3
    cases e3
    obtain ⟨s2, e2⟩ := up b _ e1 nf
    exact ⟨s2, e2⟩
  refine ⟨fun b o e n hb _ => ks b o (kb b o e n hb), fun b o e n hb _ => sl b o e n hb, un.free, fun b o e _ => ?_, un.tups, un.frzs, un.tbls⟩
  by_cases hb : b ∈ frs st
  · obtain ⟨_, e1⟩ := sl b o e (fr b hb) hb
    exact ⟨_, e1⟩
  · obtain ⟨o', e1⟩ := tb b o e hb
    exact ⟨o', ks b o' e1⟩
def Ends.gone (D : Ends) (i : Nat) : Ends := { nx := fun σ H => D.nx (σ.set i none) H, rt := D.rt, bk := fun σ H => D.bk (σ.set i none) H, ct := fun σ H => D.ct (σ.set i none) H }
theorem name_goes {X : Cx} {pins : List (Addr × Obj)} {σ : St} {H : Hp} {s : Shared} {M : Model} {A : Around} {E : Value → Shared → Prop} {Q : Unit → Shared → Prop} {n : Str} {i : Nat} {pos : Pos} (I : Inv X pins σ H s) (hN : X.N.Nodup) (hi : X.N[i]? = some n) (hl : X.env.kindOf n = some .local)
    (h : ∀ s', Inv X pins (σ.set i none) H s' → Q () s') : wpAny M A (do bindName X.env n .none; unbindBehindTheSuite X.env n pos) Q E s := by
  obtain ⟨m, hn, hv⟩ := id I.loc
  obtain ⟨oL, _, _, hoL, _⟩ := id hn
  have ne : ∀ b o, X.s₀.heap.get? b = some o → b ≠ X.env.locals := fun b o e => Nat.ne_of_lt (Nat.lt_of_lt_of_le (Heap.lt_size e) I.ok.above)
  refine wpAny_nameGoes_keeps hl hn (by rw [I.ok.kind]; rfl) fun h' v hn' hs => ?_
  refine h _ ⟨I.ok, I.os, I.bare, ⟨fun b o e n hb hx => (hs.2 b (ne b o e)).trans (I.base.keep b o e n hb hx), fun b o e n hb hx => ?_, I.base.free, fun b o e hx => ?_, I.base.tups, I.base.frzs, I.base.tbls⟩, ⟨_, hn', fun j y u e1 e2 e3 => ?_⟩, fun y c e => ?_, I.free, I.freeC, fun p hp => ?_, fun b u e => ?_, by simpa using I.len⟩
  · obtain ⟨sl, e1⟩ := I.base.slot b o e n hb hx
    exact ⟨sl, (hs.2 b (ne b o e)).trans e1⟩
  · obtain ⟨o', e1⟩ := I.base.there b o e hx
    exact ⟨o', (hs.2 b (ne b o e)).trans e1⟩
  · by_cases hj : j = i
    · subst hj
      have : j < σ.length := by rw [I.len]; exact (List.getElem?_eq_some_iff.mp hi).1
      rw [List.getElem?_set_self this] at e2
      cases e2
    · rw [List.getElem?_set_ne (Ne.symm hj)] at e2
      obtain ⟨u', r', q⟩ := hv j y u e1 e2 e3
      refine ⟨u', r', ?_⟩
      rcases q with ⟨k, e⟩ | ⟨k, c, e, z⟩
      · refine .inl ⟨k, ?_⟩
        have : y ≠ n := fun e => hj (nodup_ix hN e1 (e ▸ hi))
        show (if y = n then v else m y) = _
        rw [if_neg this]
        exact e
      · exact .inr ⟨k, c, e, z.sameBut hs (I.cne y c e)⟩
  · obtain ⟨w', z⟩ := I.cell y c e
    exact ⟨w', z.sameBut hs (I.cne y c e)⟩
  · obtain ⟨e, n, ne, r⟩ := I.pin p hp
    exact ⟨(hs.2 p.1 ne).trans e, n, ne, r⟩
  · refine (I.hok b u e).stay (fun c w' hc q => (hs.2 c ?_).trans q) (fun _ q => q) fun _ _ q => q
    rintro rfl
    rcases hc with z | z
    · rw [← z, I.free] at e
      cases e
    · rw [I.free] at z
      cases z
section
variable {X : Cx}
def tTry (K : PySem.W.Frag) (CF : Addr) (len i : Nat) (tb : XK → TS) (ts : TS) : TS := fun D σ H =>
  tb (fun cls _ H' => ∃ C, cls = .ref C ∧ ExcI K C ∧ PySem.W.exmOne K (.ref C) (.ref CF) = some true ∧ ∀ a, L2.new K H' a → ts (D.gone i) ((List.replicate len none).set i (some (.ref a))) (upd H' a (.ext (XAt a C)))) D σ H
theorem stry {x n : Str} {CF : Addr} {i : Nat} {np hp pos : Pos} {body suite : List Stmt} {b0 : Stmt} {tb : XK → TS} {ts : TS} (hN : X.N.Nodup) (hi : X.N[i]? = some n) (hl : X.env.kindOf n = some .local) (hg : Gl X x) (hm : X.mg x = some (.ref CF)) (hst : X.stack = X.env :: X.outer ∧ X.env.frame = some X.env.locals) (hex : X.ex = [])
    (hb : ∀ (E1 : XK) (xe : Value → Shared → Prop) (pn : List (Addr × Obj)), Passes (CXO X.prog X.w) (X.tried xe pn) E1 → JB (X.tried xe pn) body (tb E1)) (hs : ∀ (a : Addr) (xe : Value → Shared → Prop) (pn : List (Addr × Obj)), JB (X.caught a xe pn) (b0 :: suite) ts) (hdb : (x == ("__debug__" : Str)) = false := by decide) :
    JS X (.Try body [.ExceptHandler (some (.Name x np)) (some n) (b0 :: suite) hp] [] [] pos) (tTry X.K CF X.N.length i tb ts) := ⟨by
  intro pins s σ H D I h
  refine wpAny_Try_except (wpAny_mono ((hb _ (fun e s₁ => wpAny (model X.prog X.w) X.A (noteFrame e X.env) (fun _ s₂ => wpAny (model X.prog X.w) X.A (setFlight e none) (fun _ s₃ => wpAny (model X.prog X.w) X.A (handleBy e X.env [.ExceptHandler (some (.Name x np)) (some n) (b0 :: suite) hp]) (SP X pins D) X.xe s₃) X.xe s₂) X.xe s₁) (X.pn ++ pins) ?_).h [] s σ H D (I.tried (pins := pins)) h) (fun f s1 q => ?_) fun _ _ z => z)
  · rintro pins1 σ1 H1 s1 e ⟨h', g', d', t', os'⟩ J ⟨a, cls, a0, B, H', rfl, os, bare, fl, un, kb, tb, hok, na, C, rfl, F, hx, k⟩
    have J := J.untried
    have fr : X.A.frames = some (X.env :: X.outer) := by rw [← hst.1]; exact J.ok.frames
    have fl : Heap.FlyingW B (X.env :: X.outer) a (.ref C) a0 h' := by rw [← hst.1]; exact fl
    refine wpAny_looks_onW fr hst.2 fl fun h4 held4 up4 => wpAny_landsW held4 fun h5 fl5 up5 => ?_
    have up45 := up4.trans up5
    have mk : ∀ {h6 : Heap}, Heap.FlyingW B (X.env :: X.outer) a (.ref C) a0 h6 → h'.UpToSlots h6 → Inv X pins σ1 H' ⟨h6, g', d', t', os'⟩ := fun {h6} fl6 up6 =>
      J.call' (s' := ⟨h6, g', d', t', os'⟩) (ch := []) os (un_up J.stack J.stkFree un kb tb fl6.1 up6) (hok.kept fl6.1) bare (fun b z => absurd z (by simp))
    have J5 := mk fl5 up45
    have xa : ∀ {h6 : Heap}, Heap.FlyingW B (X.env :: X.outer) a (.ref C) a0 h6 → XAt a C h6 := fun fl6 => fl6.there
    refine wpAny_handleBy_cons (codeAny_handlers_test (Calls.Name_function_global J5.ok.kind hg (Calls.loadGlobal_global (by rw [J5.ok.glob]; exact J5.mod.glob.keeps J5.bk) hm ?_) hdb)) (by intro q; cases q)
    refine (PySem.W.exm_one J5.kIn (xa fl5).ty hx).at ?_
    show codeAny _ _ _ _ _
    refine codeAny_handlers_suite_as ?_
    refine lands_againW fl5 fun h6 fl6 up6 => ?_
    have J6 := mk fl6 (up45.trans up6)
    have ex : ∀ b o, s1.heap.get? b = some o → b ≠ a := fun b o e z => by rw [z, na] at e; cases e
    have aL : X.env.locals ≠ a := by
      obtain ⟨m, ⟨o, _, _, e, _⟩, _⟩ := J.loc
      exact ex _ o e
    have aC : ∀ y c, X.env.cells.lookup y = some c → c ≠ a := fun y c e => by
      obtain ⟨v, o, q, _⟩ := J.cell y c e
      exact ex c o q
    have hH : H' a = none := by
      cases q : H' a with
      | none => rfl
      | some u =>
        obtain ⟨o, e⟩ := no_obj (hok a u q)
        have := fl.2.1
        rw [this] at e
        cases e
    refine store_ok2 J6 hN hi (.inl hl) (v := .ref a) rfl (fun s7 J7 sm => ?_) (.inr hl)
    have x7 : XAt a C s7.heap := by
      obtain ⟨b, sb, hb⟩ := sm
      obtain ⟨o, e, c⟩ := xa fl6
      refine ⟨o, (sb.2 a ?_).trans e, c⟩
      rcases hb with rfl | hb
      · exact aL.symm
      · exact (aC _ _ hb).symm
    have J8 : Inv X pins ((List.replicate X.N.length none).set i (some (.ref a))) H' s7 := by
      refine J7.weak (by simp [J7.len]) fun j v e => ?_
      by_cases z : j = i
      · subst z
        have lt : j < X.N.length := (List.getElem?_eq_some_iff.mp hi).1
        rw [List.getElem?_set_self (by rw [List.length_replicate]; exact lt)] at e
        rw [List.getElem?_set_self (by rw [J.len]; exact lt)]
        exact e
      · rw [List.getElem?_set_ne (Ne.symm z), List.getElem?_replicate] at e
        split at e <;> cases e
    have J9 := J8.track (a := a) (o := .ext (XAt a C)) hH (by
      cases q : X.s₀.heap.get? a with
      | none => rfl
      | some o =>
        obtain ⟨o', e⟩ := J.base.there a o q (by rw [hex]; simp)
        exact absurd rfl (ex a o' e)) aL.symm aC (fun p hp => ex p.1 p.2 (J.pin p hp).1) ⟨x7, (let ⟨o, e, _⟩ := x7; ⟨o, e⟩), fun h1 h2 ⟨o, e, c⟩ k => ⟨o, k o e, c⟩⟩
    have nw := k a ⟨hH, J9.notMod upd_same⟩
    refine wpAny_mono ((hs a _ (X.pn ++ pins)).h [] s7 _ _ (D.gone i) (J9.caught (a := a)) nw) (fun f s8 q => ?_) fun _ _ z => z
    cases f with
    | next =>
      obtain ⟨σ', H2, JA, q⟩ := q
      exact name_goes (JA.uncaught J.ok) hN hi hl fun s' JB => ⟨_, _, JB, q⟩
    | brk =>
      obtain ⟨σ', H2, JA, q⟩ := q
      exact name_goes (JA.uncaught J.ok) hN hi hl fun s' JB => ⟨_, _, JB, q⟩
    | cont =>
      obtain ⟨σ', H2, JA, q⟩ := q
      exact name_goes (JA.uncaught J.ok) hN hi hl fun s' JB => ⟨_, _, JB, q⟩
    | ret u =>
      obtain ⟨v, σ', H2, JA, r, q⟩ := q
      exact name_goes (JA.uncaught J.ok) hN hi hl fun s' JB => ⟨_, _, _, JB, r, q⟩
  · cases f with
    | next =>
      obtain ⟨σ', H', J, q⟩ := q
      exact wpAny_execs_nil ⟨σ', H', J.untried, q⟩
    | brk =>
      obtain ⟨σ', H', J, q⟩ := q
      exact ⟨σ', H', J.untried, q⟩
    | cont =>
      obtain ⟨σ', H', J, q⟩ := q
      exact ⟨σ', H', J.untried, q⟩
    | ret u =>
      obtain ⟨v, σ', H', J, r, q⟩ := q
      exact ⟨v, σ', H', J.untried, r, q⟩⟩
end
end L2
set_option Elab.async false
set_option linter.all false
set_option maxRecDepth 100000
set_option maxHeartbeats 4000000
namespace L2
open PySem PySem.Spec PyProof.Rows
def lamCx (P : Program) (w : World) (K : PySem.W.Frag) (mg : Str → Option Value) (base : Heap) (N : List Str) (qual : Str) (scope : Scope) (f : Addr) (cd : Value) (A : Around) (outer : List Env) (s : Shared) (H : Hp) (E : XK) (cl : List (Str × Addr)) : Cx where
  prog := P
  w := w
  K := K
  mg := mg
  base := base
  A := A.deeper (PySem.W.envX qual scope s.heap.objs.size f cd cl)
  N := N
  s₀ := s
  H₀ := H
  env := PySem.W.envX qual scope s.heap.objs.size f cd cl
  outer := outer
  stack := PySem.W.envX qual scope s.heap.objs.size f cd cl :: outer
  ex := []
  calm := true
  fn := fun _ => false
  pn := []
  xe := fun e s' => wpAny (model P w) (A.deeper (PySem.W.envX qual scope s.heap.objs.size f cd cl)) (leaving (PySem.W.envX qual scope s.heap.objs.size f cd cl) e) (fun _ s'' => CXO P w outer H s E e s'') (fun e' s'' => CXO P w outer H s E e' s'') s'
structure Lam (K : PySem.W.Frag) (H : Hp) (h : Heap) (f : Addr) (name qual : Str) (params : Arguments) (body : Expr) (scope : Scope) (cl : List (Str × Addr)) (pm ctv : Value) (c' : Addr) (N : List Str) (σ : St) : Prop where
  obj : h.get? f = some (PySem.W.kla_obj name qual params body scope cl pm c' ctv)
  code : h.CodeRec (.ref c') qual
  free : ∀ x c, cl.lookup x = some c → H c = none ∧ ∃ v, h.IsCell c v
  inj : ∀ x y c, cl.lookup x = some c → cl.lookup y = some c → x = y
  has : ∀ x, (scope.names.lookup x = some .cell ∨ scope.names.lookup x = some .free) → ∃ c, cl.lookup x = some c
  vals : ∀ (i : Nat) (x : Str) (v : V), N[i]? = some x → σ[i]? = some (some v) → ∃ u c, RelV v u ∧ cl.lookup x = some c ∧ h.IsCell c (some u) ∧ scope.names.lookup x = some .free
  len : σ.length = N.length
section
variable {P : Program} {w : World} {K : PySem.W.Frag} {mg : Str → Option Value} {base : Heap} {N : List Str} {name qual : Str} {scope : Scope} {f c' : Addr} {A : Around} {outer : List Env} {s : Shared} {H : Hp} {E : XK} {cl : List (Str × Addr)} {params : Arguments} {body : Expr} {pm ctv : Value} {σ : St} {Q : VK} {k : Nat} {te : TE}
end
section
variable {X : Cx} {N : List Str} {name qual : Str} {scope : Scope} {f c' : Addr} {E : XK} {cl : List (Str × Addr)} {params : Arguments} {body : Expr} {pm ctv : Value} {σl : St} {k i : Nat} {te : TE} {x : Str} {p pos : Pos}
theorem Lam.on {pins : List (Addr × Obj)} {σ : St} {s : Shared} (L : Lam X.K X.H₀ X.s₀.heap f name qual params body scope cl pm ctv c' N σl) (hf : X.H₀ f = none ∧ f ∉ X.fs) (hc : X.H₀ c' = some (.ext fun h => h.CodeRec (.ref c') qual)) (hcl : ∀ x c, cl.lookup x = some c → c ∉ X.fs) (hex : X.ex = [])
    (I : Inv X pins σ X.H₀ s) : Lam X.K X.H₀ s.heap f name qual params body scope cl pm ctv c' N σl := by
  have nx : ∀ b : Addr, b ∉ X.ex := fun b => by rw [hex]; simp
  have ck : ∀ y c v, cl.lookup y = some c → X.s₀.heap.IsCell c v → s.heap.IsCell c v := fun y c v e ⟨o, q, d⟩ => ⟨o, I.base.keep c o q (L.free y c e).1 (hcl y c e) (nx c), d⟩
  refine ⟨I.base.keep f _ L.obj hf.1 hf.2 (nx f), (I.hok c' _ hc).1, fun y c e => ?_, L.inj, L.has, fun j y v e1 e2 => ?_, L.len⟩
  · obtain ⟨n, v, z⟩ := L.free y c e
    exact ⟨n, v, ck y c v e z⟩
  · obtain ⟨u, c, r, e, z, q⟩ := L.vals j y v e1 e2
    exact ⟨u, c, r, e, ck y c _ e z, q⟩
end
end L2
set_option Elab.async false
set_option linter.all false
set_option maxRecDepth 100000
set_option maxHeartbeats 4000000
namespace L2
open PySem PySem.Spec PyProof.Rows
def CTab (H : Hp) (ps : Array Value) (qual : Str) : Prop := TriplesOk ps.toList ∧ ∀ q v, codeAmong q ps.toList = some v → ∃ c', v = .ref c' ∧ H c' = some (.ext fun h => h.CodeRec (.ref c') qual)
structure LawTab (X : Cx) (c P : Addr) : Prop where
  code : X.env.code = .ref c
  hd : PySem.W.CodeHd X.base c P
  bt : ∃ bm ob, X.mg "__builtins__" = some (.ref bm) ∧ bm ≠ builtinsNs ∧ X.base.get? bm = some ob ∧ ob.cls = .type "module" ∧ ob.dict = some builtinsNs ∧ ob.data = .plain
section
variable {X : Cx} {pins : List (Addr × Obj)} {σ : St} {H : Hp} {s : Shared} {c P : Addr} {ps : Array Value} {params : Arguments} {body : Expr} {scope : Scope} {pos : Pos} {A : Around} {E : Value → Shared → Prop} {Q : Value → Shared → Prop}
structure Made (X : Cx) (pins : List (Addr × Obj)) (σ : St) (H : Hp) (P : Addr) (qual : Str) (params : Arguments) (body : Expr) (scope : Scope) (H' : Hp) (s' : Shared) (f c' : Addr) (pm ctv : Value) : Prop where
  inv : Inv X pins σ H' s'
  tab : ∃ ps', H' P = some (.tbl ps') ∧ CTab H' ps' qual
  code : H' c' = some (.ext fun h => h.CodeRec (.ref c') qual)
  keep : ∀ b o, H b = some o → b ≠ P → H' b = some o
  mod : ∀ b xs, H b = none → kTup X.K b = some xs → H' b = none
  obj : s'.heap.get? f = some (PySem.W.kla_obj "<lambda>" qual params body scope (closL X.env scope.names []) pm c' ctv)
  free : H' f = none
  above : X.s₀.heap.objs.size ≤ f
end
section
variable {X : Cx} {pins : List (Addr × Obj)} {σ : St} {H H' : Hp} {s' : Shared} {P f c' : Addr} {qual : Str} {params : Arguments} {body : Expr} {scope : Scope} {pm ctv : Value} {N : List Str} {src : List (Option Nat)}
theorem Made.lam (M : Made X pins σ H P qual params body scope H' s' f c' pm ctv) (c : Cap X scope N src) : Lam X.K H' s'.heap f "<lambda>" qual params body scope (closL X.env scope.names []) pm ctv c' N (pick σ src) := by
  have I := M.inv
  refine ⟨M.obj, (I.hok c' _ M.code).1, fun x d e => ⟨I.freeC x d (clos_look e), I.cell x d (clos_look e)⟩, fun x y d e1 e2 => I.ok.inj x y d (clos_look e1) (clos_look e2), fun x h => ?_, fun i x v e1 e2 => ?_, by unfold pick; rw [List.length_map]; exact c.len.symm⟩
  · have m : (x, NameKind.free) ∈ scope.names := by
      rcases h with h | h
      · exact absurd rfl (c.cell _ (lookup_mem h))
      · exact lookup_mem h
    obtain ⟨d, hd⟩ := I.ok.has x (c.free m)
    exact ⟨d, clos_has m hd⟩
  · obtain ⟨j, e3, e4⟩ := pick_some e2
    obtain ⟨a1, a2, a3⟩ := c.at_ e1 e3
    obtain ⟨m, _, hl⟩ := I.loc
    have vis : Vis X.env.scope x := by
      rcases a2 with z | z
      · exact .inr (.inl z)
      · exact .inr (.inr z)
    obtain ⟨u, r, q⟩ := hl j x v a1 e4 vis
    rcases q with ⟨z, _⟩ | ⟨_, d, e, z⟩
    · rw [z] at a2
      rcases a2 with z | z <;> cases z
    · exact ⟨u, d, r, clos_has (lookup_mem a3) e, z, a3⟩
theorem Made.apart (M : Made X pins σ H P qual params body scope H' s' f c' pm ctv) (hfn : ∀ x, X.fn x = true) : f ∉ frs X.stack ∧ ∀ x d, (closL X.env scope.names []).lookup x = some d → d ∉ frs X.stack := by
  have I := M.inv
  have old : ∀ b, X.s₀.heap.objs.size ≤ b → b ∉ X.fs := fun b hb z => by
    obtain ⟨_, o, e, _⟩ := I.ok.funs.mem z
    exact absurd (Nat.lt_of_lt_of_le (Heap.lt_size e) hb) (Nat.lt_irrefl _)
  refine ⟨fun z => ?_, fun x d e z => ?_⟩
  · rcases List.mem_cons.mp (I.stkSub f z) with q | q
    · obtain ⟨m, ⟨o, es, ep, e, k, _⟩, _⟩ := I.loc
      rw [← q, M.obj] at e
      cases e
      cases k
    · exact old f M.above q
  · rcases List.mem_cons.mp (I.stkSub d z) with q | q
    · exact I.cne x d (clos_look e) q
    · exact old d (I.ok.cab x d (hfn x) (clos_look e)) q
end
section
variable {P : Program} {w : World} {K : PySem.W.Frag} {mg : Str → Option Value} {base : Heap} {x qual : Str} {st : Stmt} {f : Addr} {fd : FuncData} {N ps : List Str} {k : Nat}
theorem Fun.okX {sp : Sp} (F : Fun K x qual st f fd) (S : FnScope N ps (defScope st)) (len : ∀ vs H Q E, sp vs H Q E → vs.length = ps.length)
    (hbody : ∀ (cdv : Value) (A : Around) (outer : List Env) (s : Shared) (H : Hp) (vs : List V) (Q : VK) (E : XK), Room k (A.deeper (envOfC qual (defScope st) s.heap.objs.size f cdv)) → sp vs H Q E →
      ∃ t, JB (cxOf (CXO P w) P w K mg base N qual (defScope st) f cdv A outer s H E) (defBody st) t ∧ t { nx := fun _ H' => Q .non H', rt := Q } (start N vs) H) : FnOk P w K mg base (CXO P w) (k + 1) f fd ps sp := by
  obtain ⟨oc, od, kV, doc, pm, an, cdv, ct, osl, rfl, lk, hcd⟩ := F.ex
  refine fn_of lk hcd S len fun A outer s H vs Q E hr hsp => ?_
  obtain ⟨t, h, q⟩ := hbody cdv A outer s H vs Q E hr hsp
  exact ⟨t, h.h, q⟩
structure CalleeX (P : Program) (w : World) (K : PySem.W.Frag) (mg : Str → Option Value) (base : Heap) (x : Str) (k : Nat) (ps : List Str) (sp : Sp) : Prop where
  ex : ∃ (f : Addr) (fd : FuncData), FnOk P w K mg base (CXO P w) k f fd ps sp ∧ Binds K fd ps [] ∧ PySem.W.keepIn K (.ref f) = true ∧ mg x = some (.ref f)
theorem ecallX {X : Cx} {E : XK} {sp : Sp} {e : Expr} {es : List Expr} {t : TA} {p pos : Pos} {y : Str} (C : CalleeX X.prog X.w X.K X.mg X.base y k ps sp) (hx : Passes (CXO X.prog X.w) X E) (hr : Room k X.A) (hg : Gl X y) (ha : JA X (e :: es) t)
    (hdb : (y == ("__debug__" : Str)) = false := by decide) (he : starEach (e :: es) X.env = (false, eval e X.env) :: starEach es X.env := by rfl) (hpl : (backTo pos (starEach es X.env)).any (·.1) = false := by rfl) :
    JE X (.Call (.Name y p) (e :: es) [] pos) (tCall sp [] E t) := ⟨by
  obtain ⟨f, fd, F, b, kp, m⟩ := C.ex
  exact pe_call F hr hg m kp b .nil hx ha.h hdb he hpl⟩
end
end L2
set_option Elab.async false
set_option linter.all false
set_option maxRecDepth 100000
set_option maxHeartbeats 4000000
namespace L2
open PySem PySem.Spec PyProof.Rows
section
variable {X : Cx}
theorem call_isexc : CallR X (.builtin "isinstance") (fun xs H Q => ∃ a C D b, xs = [.ref a, .ref D] ∧ H a = some (.ext (XAt a C)) ∧ ExcI X.K C ∧ PySem.W.kitOne X.K (.ref C) (.ref D) = some b ∧ Q (.bl b) H) := by
  rintro pins s σ H xs us Q I r ⟨a, C, D, b, rfl, hx, F, e, q⟩
  obtain ⟨u, w', rfl, ru, rw'⟩ := vals2 r
  cases (show w' = Value.ref D from rw')
  cases (show u = Value.ref a from ru)
  exact PySem.W.kia_one (kitx_exc F) I.kIn (I.hok a _ hx).1 e (fun z => nomatch z) fun tk => ⟨.bl b, H, I.tok tk, rfl, q⟩
end
end L2
set_option Elab.async false
set_option linter.all false
set_option maxRecDepth 100000
set_option maxHeartbeats 4000000
namespace L2
open PySem PySem.Spec PyProof.Rows
structure LamSc (params : Arguments) (body : Expr) (scope : Scope) : Prop where
  kind : scope.kind = .function
  co : scope.isCoroutine = false
  gen : scope.isGenerator = false
  cell : ∀ x ∈ scope.names, x.2 ≠ .cell
  bind : ∀ (name qual : Str) (cl : List (Str × Addr)) (pm ctv : Value) (c' : Addr), bindArgs (PySem.W.kla_fn name qual params body scope cl pm (.ref c') ctv) ⟨[], []⟩ = pure []
structure LamAt (K : PySem.W.Frag) (outer : List Env) (s : Shared) (H : Hp) (f c' : Addr) (name qual : Str) (params : Arguments) (body : Expr) (scope : Scope) (cl : List (Str × Addr)) (pm ctv : Value) (N : List Str) (σl : St) : Prop where
  lam : Lam K H s.heap f name qual params body scope cl pm ctv c' N σl
  free : H f = none ∧ f ∉ frs outer
  code : H c' = some (.ext fun h => h.CodeRec (.ref c') qual)
  cls : ∀ x d, cl.lookup x = some d → d ∉ frs outer
  sc : LamSc params body scope
structure Asker (P : Program) (w : World) (K : PySem.W.Frag) (mg : Str → Option Value) (base : Heap) (y : Str) (k : Nat) (tw : (XK → TE) → St → Hp → VK → Prop) : Prop where
  up : ∀ te te' : XK → TE, (∀ E σ H Q, te E σ H Q → te' E σ H Q) → ∀ σ H Q, tw te σ H Q → tw te' σ H Q
  ex : ∃ fW, PySem.W.keepIn K (.ref fW) = true ∧ mg y = some (.ref fW) ∧ ∀ (A : Around) (outer : List Env) (s : Shared) (H : Hp) (f c' : Addr) (name qual : Str) (params : Arguments) (body : Expr) (scope : Scope) (cl : List (Str × Addr)) (pm ctv : Value) (N : List Str) (σl : St) (te : XK → TE) (Q : VK),
    (∀ E E' σ H Q Q', te E σ H Q → (∀ c x H', E c x H' → E' c x H') → (∀ v H', Q v H' → Q' v H') → te E' σ H Q') → Room (k + 2) A → Env0 P w K mg base A outer s H → LamAt K outer s H f c' name qual params body scope cl pm ctv N σl →
    (∀ (E : XK) (A' : Around) (outer' : List Env) (s1 : Shared), Room k (A'.deeper (PySem.W.envX qual scope s1.heap.objs.size f (.ref c') cl)) → JE (lamCx P w K mg base N qual scope f (.ref c') A' outer' s1 H E cl) body (te E)) → tw te σl H Q →
    codeAny (model P w) A (.call (.ref fW) ⟨[.ref f], []⟩) (CR CX0 outer P w H s Q fun _ _ _ => False) s
structure Tabd (K : PySem.W.Frag) (T : Addr) (qual : Str) (H H' : Hp) : Prop where
  tab : ∃ ps, H' T = some (.tbl ps) ∧ CTab H' ps qual
  keep : ∀ b o, H b = some o → b ≠ T → H' b = some o
  mod : ∀ b xs, H b = none → kTup K b = some xs → H' b = none
end L2
set_option Elab.async false
set_option linter.all false
set_option maxRecDepth 100000
set_option maxHeartbeats 4000000
namespace L2
open PySem PySem.Spec PyProof.Rows HT
section
variable {prog : Program} {w : World} {A : Around} {E : Value → Shared → Prop} {s : Shared}
theorem getItem_tuple_all {t sl : Addr} {items : Array Value} {vl vu : Value} {lo hi : Option Int} {Q : Value → Shared → Prop} (ht : IsTup s.heap t items) (hs : s.heap.IsSliceOf sl vl vu .none) (pl : IsPart vl lo) (pu : IsPart vu hi)
    (hw : sIx items.size 0 lo = 0 ∧ sIx items.size items.size hi = items.size) (h : Q (.ref t) s) : wpAny (model prog w) A (getItem (.ref t) (.ref sl)) Q E s := by
  obtain ⟨os, hos, hcs, hds⟩ := id hs
  have hTs : s.TypeIs (.ref sl) "slice" := ⟨os, hos, hcs⟩
  unfold getItem
  refine wpAny_holding ?_
  first | refine wpAny_bind (wpAny_pure ?_) | skip
  refine wpAny_bind (wpAny_sequenceKey ht.typeIs (by decide) ?_)
  refine wpAny_bind (wpAny_callSpecial?_slot (name := Str.ofString "__getitem__") ht.typeIs PyProof.Rows.slot_tuple_getitem
    (wpAny_call_entry PyProof.Rows.slot_tuple_getitem ht.typeIs entry_tuple_getitem ?_ (args_tuple_getitem _ _)))
  show wpAny _ _ (Builtin.Tuple.tupleItemsOf (.ref t) >>= _) _ _ s
  refine wpAny_bind (tupleItemsOf_ ht ?_)
  refine wpAny_bind (wpAny_typeOf hTs ?_)
  rw [if_pos (by decide)]
  refine wpAny_bind (sliceApplied_gen hs pl pu ?_)
  have hyes : ((((sIx items.size 0 lo : Nat) : Int) == 0 && (1 : Int) == 1 && (sIx items.size items.size hi - sIx items.size 0 lo) == items.size) = true) := by
    rw [hw.1, hw.2]
    simp
  show wpAny _ _ (if (((sIx items.size 0 lo : Nat) : Int) == 0 && (1 : Int) == 1 && (sIx items.size items.size hi - sIx items.size 0 lo) == items.size) = true then _ else _) _ _ s
  rw [if_pos hyes]
  unfold Builtin.Tuple.tupleIsExact
  refine wpAny_bind (wpAny_bind (wpAny_typeOf ht.typeIs (wpAny_pure ?_)))
  rw [if_pos (by decide)]
  exact wpAny_bind (wpAny_rule (wpAny_pure ⟨_, rfl, wpAny_pure h⟩))
end
theorem ex_seal {X : Cx} {all rest : List Stmt} {t2 : TS} {G : TS → Prop} (h2 : JB X rest t2) (k : ∀ r, JB X rest r → r = t2 → ∃ t, JB X all t ∧ G t) : ∃ t, JB X all t ∧ G t := k t2 h2 rfl
theorem cxN {CX : CXT} {P : Program} {w : World} {K : PySem.W.Frag} {mg : Str → Option Value} {base : Heap} {N : List Str} {qual : Str} {scope : Scope} {f : Addr} {cd : Value} {A : Around} {outer : List Env} {s : Shared} {H : Hp} {E : XK} : (cxOf CX P w K mg base N qual scope f cd A outer s H E).N = N := rfl
section
variable {X : Cx}
def rSlTW (K : PySem.W.Frag) : V → Option Int → Option Int → Hp → VK → Prop := fun x lo hi H Q => ∃ a xs, x = .ref a ∧ tupQ K H a = some xs ∧
  (if HT.sIx xs.length 0 lo = 0 ∧ HT.sIx xs.length xs.length hi = xs.length then Q (.ref a) H else ∀ p, L2.new K H p → Q (.ref p) (upd H p (.tup (cutV xs lo hi))))
theorem sl_tupW : SlR X (rSlTW X.K) := by
  intro pins s σ H x v vl vu lo hi sl Q I rx hs pl pu h
  obtain ⟨a, xs, rfl, hx, h⟩ := h
  split at h
  · rename_i hw
    cases rx
    obtain ⟨its, r, ht, hz⟩ := I.tuple (tupQ_sq hx)
    have hlen : its.toArray.size = xs.length := by rw [List.size_toArray]; exact r.length.symm
    refine ⟨"tuple", _, PyProof.Rows.slot_tuple_getitem.lookup, ht.typeIs, ?_⟩
    exact getItem_tuple_all ht hs pl pu (by rw [hlen]; exact hw) ⟨.ref a, H, I, rfl, h⟩
  · rename_i hw
    exact sl_tupQ pins s σ H (.ref a) v vl vu lo hi sl Q I rx hs pl pu ⟨a, xs, rfl, hx, hw, h⟩
def rCatTQ (K : PySem.W.Frag) : R2 := fun x y H Q => ∃ a b xs ys, x = .ref a ∧ y = .ref b ∧ tupQ K H a = some xs ∧ tupQ K H b = some ys ∧ xs ≠ [] ∧ xs.length + ys.length ≤ sizeLine ∧
  (if ys = [] then Q (.ref a) H else ∀ p, L2.new K H p → Q (.ref p) (upd H p (.tup (xs ++ ys))))
theorem op_catTQ : OpR X (binaryOp .Add) (rCatTQ X.K) := by
  intro pins s σ H x y v u Q I rx ry h
  obtain ⟨a, b, xs, ys, rfl, rfl, ha, hb, hx, hz, h⟩ := h
  refine thn (op_catT pins s σ H _ _ v u (fun v' H' => (ys = [] ∧ v' = .ref a ∧ H' = H) ∨ (ys ≠ [] ∧ ∃ l, H l = none ∧ v' = .ref l ∧ H' = upd H l (.tup (xs ++ ys)))) I rx ry ⟨a, b, xs, ys, rfl, rfl, tupQ_sq ha, tupQ_sq hb, hx, hz, fun e => .inl ⟨e, rfl, rfl⟩, fun e l hl => .inr ⟨e, l, hl, rfl, rfl⟩⟩) fun u' s' ⟨v', H', I', rv, q⟩ => ?_
  rcases q with ⟨e, rfl, rfl⟩ | ⟨e, l, hl, rfl, rfl⟩
  · rw [if_pos e] at h
    exact ⟨_, _, I', rv, h⟩
  · rw [if_neg e] at h
    exact ⟨_, _, I', rv, h l ⟨hl, I'.notMod upd_same⟩⟩
def rSlTX (K : PySem.W.Frag) : V → Option Int → Option Int → Hp → VK → Prop := fun x lo hi H Q => ∃ a xs, x = .ref a ∧ tupQ K H a = some xs ∧ ∀ q H', tupQ K H' q = some (cutV xs lo hi) → Ext K H H' → Q (.ref q) H'
theorem sl_tupX : SlR X (rSlTX X.K) := by
  intro pins s σ H x v vl vu lo hi sl Q I rx hs pl pu h
  obtain ⟨a, xs, rfl, hx, h⟩ := h
  refine sl_tupW pins s σ H (.ref a) v vl vu lo hi sl Q I rx hs pl pu ⟨a, xs, rfl, hx, ?_⟩
  split
  · rename_i hw
    refine h a H ?_ Ext.refl
    have : cutV xs lo hi = xs := by
      unfold cutV
      rw [hw.1, hw.2]
      simp
    rw [this]
    exact hx
  · exact fun p np => h p _ tupQ_updT (Ext.new np)
def rCatTX (K : PySem.W.Frag) : R2 := fun x y H Q => ∃ a b xs ys, x = .ref a ∧ y = .ref b ∧ tupQ K H a = some xs ∧ tupQ K H b = some ys ∧ xs ≠ [] ∧ xs.length + ys.length ≤ sizeLine ∧ ∀ q H', tupQ K H' q = some (xs ++ ys) → Ext K H H' → Q (.ref q) H'
theorem op_catTX : OpR X (binaryOp .Add) (rCatTX X.K) := by
  intro pins s σ H x y v u Q I rx ry h
  obtain ⟨a, b, xs, ys, rfl, rfl, ha, hb, hx, hz, h⟩ := h
  refine op_catTQ pins s σ H _ _ v u Q I rx ry ⟨a, b, xs, ys, rfl, rfl, ha, hb, hx, hz, ?_⟩
  split
  · rename_i e
    refine h a H ?_ Ext.refl
    rw [e, List.append_nil]
    exact ha
  · exact fun p np => h p _ tupQ_updT (Ext.new np)
theorem call_isexcK (K : PySem.W.Frag) (hk : X.K = K := by rfl) : CallR X (.builtin "isinstance") (fun xs H Q => ∃ a C D b, xs = [.ref a, .ref D] ∧ H a = some (.ext (XAt a C)) ∧ ExcI K C ∧ PySem.W.kitOne K (.ref C) (.ref D) = some b ∧ Q (.bl b) H) := by subst hk; exact call_isexc
end
structure XT (K : PySem.W.Frag) (T : Addr) (q : Str) (H H' : Hp) : Prop where
  was : ∃ ps, H T = some (.tbl ps)
  tab : ∃ ps, H' T = some (.tbl ps) ∧ CTab H' ps q
  keep : ∀ b o, H b = some o → b ≠ T → H' b = some o
  mod : ∀ b xs, H b = none → kTup K b = some xs → H' b = none
section
variable {K : PySem.W.Frag} {T : Addr} {q : Str} {H H1 H2 : Hp}
theorem CTab.ext {ps : Array Value} (h : CTab H ps q) (x : ∀ b o, H b = some o → (∀ ps, o ≠ .tbl ps) → H1 b = some o) : CTab H1 ps q := ⟨h.1, fun p v e => by
  obtain ⟨c, rfl, hc⟩ := h.2 p v e
  exact ⟨c, rfl, x _ _ hc nofun⟩⟩
theorem XT.refl (h : ∃ ps, H T = some (.tbl ps) ∧ CTab H ps q) : XT K T q H H := ⟨let ⟨ps, e, _⟩ := h; ⟨ps, e⟩, h, fun _ _ e _ => e, fun _ _ e _ => e⟩
theorem XT.trans (x : XT K T q H H1) (y : XT K T q H1 H2) : XT K T q H H2 := ⟨x.was, y.tab, fun b o e n => y.keep b o (x.keep b o e n) n, fun b xs e k => y.mod b xs (x.mod b xs e k) k⟩
theorem XT.ext (x : XT K T q H H1) (y : Ext K H1 H2) : XT K T q H H2 := by
  obtain ⟨ps, e, c⟩ := x.tab
  exact ⟨x.was, ⟨ps, y.same _ _ e, c.ext fun b o h _ => y.same b o h⟩, fun b o e n => y.same _ _ (x.keep b o e n), fun b xs e k => y.mod b xs (x.mod b xs e k) k⟩
theorem XT.at (x : XT K T q H H1) {b : Addr} {o : HO} (h : H b = some o) (n : ∀ ps, o ≠ .tbl ps) : H1 b = some o := x.keep b o h fun z => by
  obtain ⟨ps, e⟩ := x.was
  rw [z, e] at h
  cases h
  exact n _ rfl
theorem XT.tup (x : XT K T q H H1) {a : Addr} {vs : List V} (h : tupQ K H a = some vs) : tupQ K H1 a = some vs := by
  unfold tupQ at h ⊢
  split at h
  · next e => rw [x.at e nofun]; exact h
  · cases h
  · next e => rw [x.mod a vs e h]; exact h
end
end L2
set_option Elab.async false
set_option linter.all false
set_option maxRecDepth 100000
set_option maxHeartbeats 4000000
namespace L2
open PySem PySem.Spec PyProof.Rows
section
variable {X : Cx}
end
section
variable {X : Cx}
def rCatTX0 (K : PySem.W.Frag) : R2 := fun x y H Q => ∃ a b xs ys, x = .ref a ∧ y = .ref b ∧ tupQ K H a = some xs ∧ tupQ K H b = some ys ∧ xs.length + ys.length ≤ sizeLine ∧ ∀ q H', tupQ K H' q = some (xs ++ ys) → Ext K H H' → Q (.ref q) H'
end
mutual
theorem eqv_refl : ∀ (d : PyData), d.canLay0 = true → PyData.eqv d d = true
  | .none, _ => by simp [PyData.eqv]
  | .bool b, _ => by simp [PyData.eqv]
  | .int i, _ => by simp [PyData.eqv]
  | .str x, _ => by simp [PyData.eqv]
  | .list ds, h => by
    simp only [PyData.canLay0] at h
    simp only [PyData.eqv]
    exact eqvAll_refl ds h
  | .tuple ds, h => by
    simp only [PyData.canLay0] at h
    simp only [PyData.eqv]
    exact eqvAll_refl ds h
  | .dict _, h => by simp [PyData.canLay0] at h
theorem eqvAll_refl : ∀ (ds : List PyData), PyData.canLayAll0 ds = true → PyData.eqvAll ds ds = true
  | [], _ => by simp [PyData.eqvAll]
  | d :: ds, h => by
    simp only [PyData.canLayAll0, Bool.and_eq_true] at h
    simp only [PyData.eqvAll, Bool.and_eq_true]
    exact ⟨eqv_refl d h.1, eqvAll_refl ds h.2⟩
end
end L2
set_option Elab.async false
set_option linter.all false
set_option maxRecDepth 100000
set_option maxHeartbeats 4000000
namespace L2
open PySem PySem.Spec PyProof.Rows
section
variable {X : Cx} {o e value : Expr} {f : Str} {pos pos' tpos p : Pos} {ta tv te : TE}
end
structure FunD (K : PySem.W.Frag) (x qual : Str) (st : Stmt) (f : Addr) (fd : FuncData) : Prop where
  ex : ∃ (oc : Value) (od : Option Addr) (dV kV doc pm : Value) (an : Option Addr) (cdv ct : Value) (osl : Array (Option Value)),
    fd = PySem.W.fnOf x qual (defArgs st) (defBody st) (defScope st) dV kV doc pm an cdv ct ∧ K.lookup f = some ⟨oc, od, .func fd, osl⟩ ∧ PySem.W.codeIn K cdv qual = true
section
variable {P : Program} {w : World} {K : PySem.W.Frag} {mg : Str → Option Value} {base : Heap} {x qual : Str} {st : Stmt} {f : Addr} {fd : FuncData} {N ps : List Str} {k : Nat} {sp : Sp}
theorem FunD.okX (F : FunD K x qual st f fd) (S : FnScope N ps (defScope st)) (len : ∀ vs H Q E, sp vs H Q E → vs.length = ps.length)
    (hbody : ∀ (cdv : Value) (A : Around) (outer : List Env) (s : Shared) (H : Hp) (vs : List V) (Q : VK) (E : XK), Room k (A.deeper (envOfC qual (defScope st) s.heap.objs.size f cdv)) → sp vs H Q E →
      ∃ t, JB (cxOf (CXO P w) P w K mg base N qual (defScope st) f cdv A outer s H E) (defBody st) t ∧ t { nx := fun _ H' => Q .non H', rt := Q } (start N vs) H) : FnOk P w K mg base (CXO P w) (k + 1) f fd ps sp := by
  obtain ⟨oc, od, dV, kV, doc, pm, an, cdv, ct, osl, rfl, lk, hcd⟩ := F.ex
  refine fn_of lk hcd S len fun A outer s H vs Q E hr hsp => ?_
  obtain ⟨t, h, q⟩ := hbody cdv A outer s H vs Q E hr hsp
  exact ⟨t, h.h, q⟩
end
structure MakerX (P : Program) (w : World) (K : PySem.W.Frag) (mg : Str → Option Value) (base : Heap) (x : Str) (k : Nat) (ps : List Str) (dvs : List V) (C : Addr) (sp : Sp) : Prop where
  ex : ∃ (f : Addr) (fd : FuncData) (ds : List Value), Mk K C f ∧ FnOk P w K mg base (CXO P w) k f fd ps sp ∧ Binds K fd ps ds ∧ Vals dvs ds ∧ mg x = some (.ref C)
section
variable {X : Cx} {CX : CXT} {k : Nat} {f C : Addr} {fd : FuncData} {ps : List Str} {sp : Sp} {dvs : List V} {ds : List Value} {E : XK} {y : Str} {p pos : Pos} {e : Expr} {es : List Expr} {t : TA}
end
theorem Ext.made {K : PySem.W.Frag} {H : Hp} {x dx : Addr} {o o' : HO} (n : L2.new K H x) (m : L2.new K H dx) (ne : dx ≠ x) : Ext K H (upd (upd H dx o') x o) :=
  (Ext.new m).trans (Ext.new (new_upd.mpr ⟨ne.symm, n⟩))
structure KDict (P : Program) (w : World) (K : PySem.W.Frag) (a : Addr) (vs : List (Key × Value)) : Prop where
  of : ∀ h : Heap, K.In h → h.DictOf (mixKind P w) a vs
  ne : (a == sysModules) = false
section
variable {X : Cx} {a : Addr} {vs : List (Key × Value)} {o i : Expr} {to ti : TE} {pos : Pos}
end
section
variable {X : Cx}
end
section
variable {X : Cx}
end
end L2
set_option Elab.async false
set_option linter.all false
set_option maxRecDepth 100000
set_option maxHeartbeats 4000000
namespace HT
open PySem PySem.Spec PyProof.Rows
section
variable {prog : Program} {w : World} {A : Around} {E : Value → Shared → Prop} {s : Shared}
end
end HT
namespace L2
open PySem PySem.Spec PyProof.Rows
section
variable {X : Cx} {e : Expr} {te : TE} {pos : Pos}
end
end L2
set_option Elab.async false
set_option linter.all false
set_option maxRecDepth 100000
set_option maxHeartbeats 4000000
namespace L2
open PySem PySem.Spec PyProof.Rows
structure MethC (P : Program) (w : World) (K : PySem.W.Frag) (mg : Str → Option Value) (base : Heap) (C : Addr) (m : Str) (k : Nat) (ps : List Str) (dvs : List V) (sp : Sp) : Prop where
  ex : ∃ (f : Addr) (fd : FuncData) (ds : List Value), Meth K C m f ∧ FnOk P w K mg base CX0 k f fd ps sp ∧ Binds K fd ps ds ∧ Vals dvs ds
structure MethX (P : Program) (w : World) (K : PySem.W.Frag) (mg : Str → Option Value) (base : Heap) (C : Addr) (m : Str) (k : Nat) (ps : List Str) (dvs : List V) (sp : Sp) : Prop where
  ex : ∃ (f : Addr) (fd : FuncData) (ds : List Value), Meth K C m f ∧ FnOk P w K mg base (CXO P w) k f fd ps sp ∧ Binds K fd ps ds ∧ Vals dvs ds
structure Maker (P : Program) (w : World) (K : PySem.W.Frag) (mg : Str → Option Value) (base : Heap) (x : Str) (k : Nat) (ps : List Str) (dvs : List V) (C : Addr) (sp : Sp) : Prop where
  ex : ∃ (f : Addr) (fd : FuncData) (ds : List Value), Mk K C f ∧ FnOk P w K mg base CX0 k f fd ps sp ∧ Binds K fd ps ds ∧ Vals dvs ds ∧ mg x = some (.ref C)
section
variable {X : Cx} {k : Nat} {C : Addr} {ps : List Str} {sp : Sp} {dvs : List V} {E : XK} {m y : Str} {apos pos p : Pos} {o e value : Expr} {es : List Expr} {t : TA} {ta tv : TE} {pl : Sem Bool}
end
section
variable {P : Program} {w : World} {K : PySem.W.Frag} {mg : Str → Option Value} {base : Heap} {x qual : Str} {st : Stmt} {f : Addr} {fd : FuncData} {N ps : List Str} {k : Nat} {sp : Sp}
theorem FunD.okJ (F : FunD K x qual st f fd) (S : FnScope N ps (defScope st)) (len : ∀ vs H Q E, sp vs H Q E → vs.length = ps.length)
    (hbody : ∀ (cdv : Value) (A : Around) (outer : List Env) (s : Shared) (H : Hp) (vs : List V) (Q : VK) (E : XK), Room k (A.deeper (envOfC qual (defScope st) s.heap.objs.size f cdv)) → sp vs H Q E →
      ∃ t, JB (cxOf CX0 P w K mg base N qual (defScope st) f cdv A outer s H E).nox (defBody st) t ∧ t { nx := fun _ H' => Q .non H', rt := Q } (start N vs) H) : FnOk P w K mg base CX0 (k + 1) f fd ps sp := by
  obtain ⟨oc, od, dV, kV, doc, pm, an, cdv, ct, osl, rfl, lk, hcd⟩ := F.ex
  refine fn_of lk hcd S len fun A outer s H vs Q E hr hsp => ?_
  obtain ⟨t, h, q⟩ := hbody cdv A outer s H vs Q E hr hsp
  exact ⟨t, h.h.nox, q⟩
end
section
variable {X : Cx}
end
end L2
set_option Elab.async false
set_option linter.all false
set_option maxRecDepth 100000
set_option maxHeartbeats 4000000
namespace L2
open PySem PySem.Spec PyProof.Rows
section
variable {X : Cx}
def rNeE (K : PySem.W.Frag) : R2 := fun x y H Q => ∃ l b xs, x = .ref l ∧ y = .ref b ∧ SqL K H l xs ∧ SqL K H b [] ∧ Q (.bl (!xs.isEmpty)) H
theorem op_neE (hu : X.A.units < cLine) : OpR X (compareOp .NotEq) (rNeE X.K) := by
  intro pins s σ H x y v u Q I rx ry h
  obtain ⟨l, b, xs, rfl, rfl, h1, h2, q⟩ := h
  cases rx
  cases ry
  obtain ⟨its, rv, p, _⟩ := I.list h1
  obtain ⟨its2, rv2, p2, _⟩ := I.list h2
  cases rv2
  have fin : ∀ k : Bool, k = (!xs.isEmpty) → EP X pins σ Q (.bool k) s := fun k e => ⟨.bl k, H, I, rfl, by rw [e]; exact q⟩
  cases rv with
  | nil => exact SeqAt.RcNeAt.lists (e := fun _ => true) p.isList p2.isList rfl hu (fun j h1 => by simp at h1) X.prog X.w X.xe _ (fin _ (by simp))
  | cons a b => exact SeqAt.RcNeAt.lists_lengths p.isList p2.isList (by simp) hu X.prog X.w X.xe _ (fin _ rfl)
end
section
variable {P : Program} {w : World} {A : Around} {E : Value → Shared → Prop} {s : Shared} {S : Addr} {vs : List (Key × Value)} {ep : Nat}
end
section
variable {X : Cx}
end
end L2
set_option Elab.async false
set_option linter.all false
set_option maxRecDepth 100000
set_option maxHeartbeats 4000000
namespace L2
open PySem PySem.Spec PyProof.Rows
section
variable {X : Cx}
theorem call_isexcT (K : PySem.W.Frag) (hk : X.K = K := by rfl) : CallR X (.builtin "isinstance") (fun xs H Q => ∃ a C n b, xs = [.ref a, .ty n] ∧ H a = some (.ext (XAt a C)) ∧ ExcI K C ∧ PySem.W.kitOne K (.ref C) (.type n) = some b ∧ Q (.bl b) H) := by
  subst hk
  rintro pins s σ H xs us Q I r ⟨a, C, D, b, rfl, hx, F, e, q⟩
  obtain ⟨u, w', rfl, ru, rw'⟩ := vals2 r
  cases (show w' = Value.type D from rw')
  cases (show u = Value.ref a from ru)
  exact PySem.W.kia_one (kitx_exc F) I.kIn (I.hok a _ hx).1 e (fun z => nomatch z) fun tk => ⟨.bl b, H, I.tok tk, rfl, q⟩
theorem bt_ValueError : bootBuiltins "ValueError" = some (.type "ValueError") := by decide +kernel
end
end L2
set_option Elab.async false
set_option linter.all false
set_option maxRecDepth 100000
set_option maxHeartbeats 4000000
namespace L2
open PySem PySem.Spec PyProof.Rows
section
variable {X : Cx}
def rIsascii : V → List V → Hp → VK → Prop := fun x vs H Q => ∃ a, x = .str a ∧ vs = [] ∧ Q (.bl (Txt.isascii a)) H
theorem mt_isascii : MtR X "str.isascii" rIsascii := by
  intro pins s σ H x vs v us Q I rx rv h
  obtain ⟨a, rfl, rfl, q⟩ := h
  obtain ⟨t, rfl⟩ := rx
  cases rv
  exact call_meets PySem.F.slot_str_isascii (typeIs_str _ _ _) PySem.F.entry_str_isascii (PySem.F.args_str_isascii_1 _) (gives_str_isascii a t).meets (show (Made.val _).post _ s from ⟨.bl _, H, I, rfl, q⟩)
def rIsdigit : V → List V → Hp → VK → Prop := fun x vs H Q => ∃ a, x = .str a ∧ vs = [] ∧ Q (.bl (Txt.isdigit a)) H
theorem mt_isdigit : MtR X "str.isdigit" rIsdigit := by
  intro pins s σ H x vs v us Q I rx rv h
  obtain ⟨a, rfl, rfl, q⟩ := h
  obtain ⟨t, rfl⟩ := rx
  cases rv
  exact call_meets PySem.F.slot_str_isdigit (typeIs_str _ _ _) PySem.F.entry_str_isdigit (PySem.F.args_str_isdigit_1 _) (gives_str_isdigit a t).meets (show (Made.val _).post _ s from ⟨.bl _, H, I, rfl, q⟩)
def rRemPre : V → List V → Hp → VK → Prop := fun x vs H Q => ∃ a b, x = .str a ∧ vs = [.str b] ∧ a.length ≤ sizeLine ∧ Q (.str (Txt.removeprefix a b)) H
theorem mt_removeprefix : MtR X "str.removeprefix" rRemPre := by
  intro pins s σ H x vs v us Q I rx rv h
  obtain ⟨a, b, rfl, rfl, ha, q⟩ := h
  obtain ⟨t, rfl⟩ := rx
  obtain ⟨u, rfl, ru⟩ := vals1 rv
  obtain ⟨t2, rfl⟩ := ru
  exact call_meets PySem.F.slot_str_removeprefix (typeIs_str _ _ _) PySem.F.entry_str_removeprefix (PySem.F.args_str_removeprefix_2 _ _) (gives_str_removeprefix a b t t2).meets (post_affix ha _ fun t' k => ⟨.str _, H, I.tok k, ⟨t', rfl⟩, q⟩)
theorem vals_strs : ∀ (ts : List Str) (k : Nat), Vals (ts.map V.str) (strsFrom k ts)
  | [], _ => .nil
  | t :: ts, k => .cons ⟨_, rfl⟩ (vals_strs ts (k + 1))
def rSplit (K : PySem.W.Frag) : V → List V → Hp → VK → Prop := fun x vs H Q => ∃ a b, x = .str a ∧ vs = [.str b] ∧ (b.length == 0) = false ∧ a.length ≤ sizeLine ∧ (Txt.split a b).length ≤ sizeLine ∧ ∀ D, L2.new K H D → Q (.ref D) (upd H D (.lst ((Txt.split a b).map V.str)))
theorem mt_split : MtR X "str.split" (rSplit X.K) := by
  intro pins s σ H x vs v us Q I rx rv h
  obtain ⟨a, b, rfl, rfl, hb, ha, hn, q⟩ := h
  obtain ⟨t, rfl⟩ := rx
  obtain ⟨u, rfl, ru⟩ := vals1 rv
  obtain ⟨t2, rfl⟩ := ru
  have fin : ∀ {its : List Value} {k : Nat}, Vals ((Txt.split a b).map V.str) its → EP X pins σ Q (.ref s.heap.objs.size) { s with toks := k, heap := s.heap.push { cls := .type "list", data := .seq its.toArray } } := fun {its k} vv => by
    have I2 : Inv X pins σ (upd H s.heap.objs.size (.lst ((Txt.split a b).map V.str))) { s with toks := k, heap := s.heap.push { cls := .type "list", data := .seq its.toArray } } :=
      I.laid (t' := k) (fun b ob q => Heap.get?_push_of_some _ q) (Nat.le_refl _) ⟨by rw [List.length_map]; exact hn, its, 0, vv, Heap.get?_push_size _ rfl⟩
    exact ⟨.ref s.heap.objs.size, _, I2, rfl, q _ ⟨I.hok.fresh (Nat.le_refl _), I2.notMod upd_same⟩⟩
  have e1 : ∀ {ts : List Str}, Txt.split a b = ts → ∀ {its : List Value} {k : Nat}, Vals (ts.map V.str) its → EP X pins σ Q (.ref s.heap.objs.size) { s with toks := k, heap := s.heap.push { cls := .type "list", data := .seq its.toArray } } := fun {ts} e {its k} vv => fin (by rw [e]; exact vv)
  have one : Vals ([a].map V.str) [.str a t] := .cons ⟨t, rfl⟩ .nil
  cases h1 : (decide (a.length < b.length) || decide (Builtin.Str.strKind a < Builtin.Str.strKind b)) with
  | true => exact call_meets PySem.F.slot_str_split (typeIs_str _ _ _) PySem.F.entry_str_split (PySem.F.args_str_split_2 _ _) (meets_str_split_cannot_occur a b t t2 h1) (e1 (by unfold Txt.split; rw [if_pos h1]) (its := [.str a t]) (k := s.toks) one)
  | false =>
    cases h2 : (Builtin.Str.occurrences a b 0 a.length (a.length + 1)).isEmpty with
    | true => exact call_meets PySem.F.slot_str_split (typeIs_str _ _ _) PySem.F.entry_str_split (PySem.F.args_str_split_2 _ _) (meets_str_split_not_found a b t t2 h1 hb h2) (e1 (by unfold Txt.split; rw [h1, h2, if_neg (by decide), if_pos rfl]) (its := [.str a t]) (k := s.toks) one)
    | false =>
      have e2 : Txt.split a b = Builtin.Str.partsBetween a (Builtin.Str.occurrences a b 0 a.length (a.length + 1)) b.length := by unfold Txt.split; rw [h1, h2, if_neg (by decide), if_neg (by decide)]
      exact call_meets PySem.F.slot_str_split (typeIs_str _ _ _) PySem.F.entry_str_split (PySem.F.args_str_split_2 _ _) (meets_str_split_sep a b t t2 h1 hb h2 ha (e2 ▸ hn)) (e1 e2 (vals_strs _ _))
theorem call_intT : CallR X (.type "int") (fun xs H Q => ∃ a n, xs = [.str a] ∧ PySem.intText? a = some n ∧ a.length ≤ 640 ∧ Q (.int n) H) := by
  intro pins s σ H xs us Q I r h
  obtain ⟨a, n, rfl, hn, hl, q⟩ := h
  obtain ⟨u, rfl, ru⟩ := vals1 r
  obtain ⟨t, rfl⟩ := ru
  exact PySem.W.KIN.call_text hn hl ⟨.int n, H, I.tok _, ⟨_, rfl⟩, q⟩
end
end L2
set_option Elab.async false
set_option linter.all false
set_option maxRecDepth 100000
set_option maxHeartbeats 4000000
namespace L2
open PySem PySem.Spec PyProof.Rows PySem.W
section
variable {prog : Program} {w : World} {A : Around} {E : Value → Shared → Prop} {s : Shared}
theorem star_list {l : Addr} {items : Array Value} {n i : Nat} {Q : List Value → Shared → Prop} (hl : s.heap.IsList l items) (hh : A.handled = none) (hi : i < n) (hn : n ≤ items.size + 1) (hz : items.size ≤ sizeLine)
    (h : ∀ h₂ tk, Heap.ExtBut s.heap.objs.size s.heap h₂ → Q (items.toList.take i ++ [.ref h₂.objs.size] ++ (items.toList.drop i).drop (items.size + 1 - n))
      { s with heap := h₂.push { cls := .type "list", data := .seq ((items.toList.drop i).take (items.size + 1 - n)).toArray }, toks := tk }) : wpAny (model prog w) A (unpackItems (.ref l) n (some i)) Q E s := by
  have hlt : l ≠ s.heap.objs.size := by obtain ⟨o, ho, _⟩ := hl; exact Nat.ne_of_lt (Heap.lt_size ho)
  have hll : l < s.heap.objs.size := by obtain ⟨o, ho, _⟩ := hl; exact Heap.lt_size ho
  unfold unpackItems
  refine wpAny_bind ?_
  unfold notIterableAtAll
  refine wpAny_bind (wpAny_specialOf hl.typeIs slot_list_iter.lookup ?_)
  refine wpAny_pure ?_
  simp only [Bool.false_eq_true, if_false]
  refine wpAny_bind (wpAny_holding (wpAny_pyIter_list hl ?_))
  refine wpAny_bind (wpAny_holding (kun_draw hlt i 0 _ _ ⟨_, Heap.get?_push_size _ rfl, rfl, rfl⟩ (hl.push _) (by omega) fun h₁ hit₁ hs₁ => ?_))
  have hl₁ : h₁.IsList l items := (hl.push _).extBut hs₁.extBut hlt
  rw [Nat.zero_add] at hit₁
  have hit₁' := hit₁
  obtain ⟨oi, hoi, _⟩ := hit₁'
  have hl₁' := hl₁
  obtain ⟨ol, hol, _⟩ := hl₁'
  rw [List.drop_zero]
  have hfl : (items.toList.take i).length = i := by rw [List.length_take, Array.length_toList]; omega
  rw [if_neg (show ¬ ((items.toList.take i).length < i) by rw [hfl]; omega)]
  refine wpAny_bind (wpAny_holding (kun_collect (s := { s with heap := h₁ }) (T := "list_iterator") (.inr (.inr (.inl rfl))) (Walks.list (A := A.in1) hh s.heap.objs.size l hlt items) (fun j u st => st.1.typeIs) (k := i) (by omega) ⟨hit₁, hl₁⟩ (Heap.lt_size hoi) (Heap.lt_size hol) (fun h₂ tk hk => ?_) hz))
  have hrl : (items.toList.drop i).length = items.size - i := by rw [List.length_drop, Array.length_toList]
  have hmid : (items.toList.drop i).length - (n - 1 - i) = items.size + 1 - n := by rw [hrl]; omega
  show wpAny _ _ (if (items.toList.drop i).length < n - 1 - i then _ else _) _ _ _
  rw [if_neg (by rw [hrl]; omega)]
  show wpAny _ _ (newList ((items.toList.drop i).take ((items.toList.drop i).length - (n - 1 - i))) >>= fun d => pure (items.toList.take i ++ [d] ++ (items.toList.drop i).drop ((items.toList.drop i).length - (n - 1 - i)))) _ _ _
  rw [hmid]
  have he : Heap.ExtBut s.heap.objs.size s.heap h₂ := fun b o hb e => hk b o hb (hs₁.extBut b o hb (Heap.get?_push_of_some _ e))
  exact wpAny_bind (wpAny_newList (s := { s with heap := h₂, toks := tk }) (wpAny_pure (h h₂ tk he)) (by rw [List.length_take, hrl]; omega))
end
section
variable {X : Cx} {es : List Expr} {pos : Pos} {e : Expr}
theorem vals_take {vs : List V} {us : List Value} (h : Vals vs us) : ∀ n : Nat, Vals (vs.take n) (us.take n) := by
  induction h with
  | nil => intro n; simp; exact .nil
  | cons a b ih => intro n; cases n with
    | zero => exact .nil
    | succ n => exact .cons a (ih n)
theorem vals_drop {vs : List V} {us : List Value} (h : Vals vs us) : ∀ n : Nat, Vals (vs.drop n) (us.drop n) := by
  induction h with
  | nil => intro n; simp; exact .nil
  | cons a b ih => intro n; cases n with
    | zero => exact .cons a b
    | succ n => exact ih n
theorem vals_app {vs ws : List V} {us xs : List Value} (h : Vals vs us) (h2 : Vals ws xs) : Vals (vs ++ ws) (us ++ xs) := by
  induction h with
  | nil => exact h2
  | cons a b ih => exact .cons a ih
def gStarL (K : PySem.W.Frag) (n i : Nat) (t : TGs) : TG := fun v σ H Q => ∃ a xs, v = .ref a ∧ SqL K H a xs ∧ n ≤ xs.length + 1 ∧
  ∀ D, L2.new K H D → t (xs.take i ++ .ref D :: (xs.drop i).drop (xs.length + 1 - n)) σ (upd H D (.lst ((xs.drop i).take (xs.length + 1 - n)))) Q
theorem gstarL {k : Nat} {t : TGs} {n i : Nat} (hc : X.calm = true) (h : JGs X es t) (hi : i < n := by decide) (hn : (assignEach es X.env).length = n := by rfl) (hst : (assignEach es X.env).findIdx? (·.1) = some i := by rfl) : JG X (.Tuple es k pos) (gStarL X.K n i t) := ⟨by
  intro pins s σ H v u Q I r hw
  obtain ⟨a, xs, e1, hq, hl, hw⟩ := hw
  subst e1
  cases r
  obtain ⟨its, rv, ht, hz⟩ := I.list hq
  have ln : xs.length = its.length := rv.length
  rw [assign_Tuple]
  refine wpAny_bind (wpAny_standAt ?_)
  unfold unpack
  rw [hn, hst]
  refine wpAny_bind (wpAny_holding (star_list ht.isList (I.ok.hd hc) hi (by simpa [← ln] using hl) (by simpa [← ln] using hz) fun h₂ tk hx => ?_))
  have I0 : Inv X pins σ H { s with heap := h₂, toks := tk } := I.kept (t' := tk) fun b o e => hx b o (Nat.ne_of_lt (Heap.lt_size e)) e
  have I1 : Inv X pins σ (upd H h₂.objs.size (.lst ((xs.drop i).take (xs.length + 1 - n)))) { s with heap := h₂.push { cls := .type "list", data := .seq ((its.drop i).take (xs.length + 1 - n)).toArray }, toks := tk } :=
    I0.laid (t' := tk) (fun b ob q => Heap.get?_push_of_some _ q) (Nat.le_refl _) ⟨by rw [List.length_take, List.length_drop]; omega, _, 0, vals_take (vals_drop rv i) _, Heap.get?_push_size _ rfl⟩
  have := h.h pins _ σ _ _ (its.take i ++ [.ref h₂.objs.size] ++ (its.drop i).drop (xs.length + 1 - n)) Q I1 (by
    rw [List.append_assoc]
    exact vals_app (vals_take rv i) (.cons rfl (vals_drop (vals_drop rv i) _))) (hw _ ⟨I0.hok.fresh (Nat.le_refl _), I1.notMod upd_same⟩)
  simpa [← ln] using this⟩
theorem gconsS {t : TG} {u : TGs} (h1 : JG X e t) (h2 : JGs X es u) {p : Pos} (hs : (assignEach (.Starred e p :: es) X.env).map (·.2) = assign e X.env :: (assignEach es X.env).map (·.2) := by rfl) : JGs X (.Starred e p :: es) (gCons t u) := ⟨by
  intro pins s σ H vs us Q I r h
  obtain ⟨v, vr, e1, h⟩ := h
  subst e1
  cases r with
  | cons r rr =>
    rw [hs]
    refine assignInOrder_cons (thn (h1.h pins s σ H _ _ _ I r h) fun _ s1 ⟨σ1, H1, I1, q1⟩ => ?_)
    exact h2.h pins s1 σ1 H1 _ _ Q I1 rr q1⟩
structure EqCls (K : PySem.W.Frag) (C D : Addr) : Prop where
  nf : notFirst K C (.ref D) = true
  ne : findIn K (.ref C) "__ne__" = some (some (.builtin "object.__ne__"))
  ob : subIn K (.ref C) (.type "object") = some true
end
end L2
set_option Elab.async false
set_option linter.all false
set_option maxRecDepth 100000
set_option maxHeartbeats 4000000
namespace L2
open PySem PySem.Spec PyProof.Rows
def bareL : List Nat → List Nat
  | 45 :: cs => cs
  | l => l
def isFig (c : Nat) : Bool := decide (48 ≤ c) && decide (c ≤ 57)
def figL (l : List Nat) : Bool := !(bareL l).isEmpty && (bareL l).all isFig && decide ((bareL l).length ≤ 60) && !(decide ((bareL l).head? = some 48) && decide (l ≠ [48]))
def figV (l : List Nat) : Int := match l with
  | 45 :: cs => -((NumText.digitsVal cs : Nat) : Int)
  | l => ((NumText.digitsVal l : Nat) : Int)
def readFig (t : Str) : Option Int := if figL t.cps.toList = true then some (figV t.cps.toList) else none
theorem bareL_ne {l : List Nat} (h : l.head? ≠ some 45) : bareL l = l := by
  unfold bareL
  split
  · exact absurd rfl h
  · rfl
theorem figV_ne {l : List Nat} (h : l.head? ≠ some 45) : figV l = ((NumText.digitsVal l : Nat) : Int) := by
  unfold figV
  split
  · exact absurd rfl h
  · rfl
theorem minus_cps : (Str.ofString "-").cps.toList = [45] := by decide +kernel
theorem bare_cps (t : Str) : (Txt.removeprefix t "-").cps.toList = bareL t.cps.toList := by
  rw [StrLaws.removeprefix_eq t "-", StrLaws.subAt_eq, minus_cps, show (Str.ofString "-").length = 1 from by decide +kernel]
  have hl : t.length = t.cps.toList.length := by simp [Str.length]
  rw [hl]
  cases e : t.cps.toList with
  | nil => simp [bareL, e]
  | cons c r =>
    by_cases z : c = 45
    · subst z
      simp [bareL]
    · rw [bareL_ne (by simp [z])]
      simp [z, e]
theorem digit_ascii : ∀ c, c < 128 → Unicode.isDigit c = isFig c := by decide +kernel
theorem figs_of (b : Str) : (Txt.isascii b && Txt.isdigit b) = (!(b.cps.toList).isEmpty && b.cps.toList.all isFig) := by
  unfold Txt.isascii Txt.isdigit
  have hl : b.length = b.cps.toList.length := by simp [Str.length]
  rw [hl, ← Array.all_toList, ← Array.all_toList]
  generalize b.cps.toList = l
  rw [Bool.eq_iff_iff]
  simp only [Bool.and_eq_true, List.all_eq_true, decide_eq_true_eq, Bool.not_eq_true', List.isEmpty_eq_false_iff, ne_eq]
  constructor
  · rintro ⟨h1, h2, h3⟩
    refine ⟨fun e => by subst e; simp at h2, fun c hc => ?_⟩
    rw [← digit_ascii c (h1 c hc)]
    exact h3 c hc
  · rintro ⟨h1, h2⟩
    have lt : ∀ c ∈ l, c < 128 := fun c hc => by
      have := h2 c hc
      simp only [isFig, Bool.and_eq_true, decide_eq_true_eq] at this
      omega
    refine ⟨lt, List.length_pos_iff.mpr h1, fun c hc => ?_⟩
    rw [digit_ascii c (lt c hc)]
    exact h2 c hc
theorem allDigits {cs : List Nat} (h : cs.all isFig = true) : NumText.AllDigits cs := by
  intro c hc
  have := List.all_eq_true.mp h c hc
  unfold isFig at this
  simpa using this
theorem figL_of {l : List Nat} (h : figL l = true) : bareL l ≠ [] ∧ NumText.AllDigits (bareL l) ∧ (bareL l).length ≤ 60 ∧ ((bareL l).head? = some 48 → l = [48]) := by
  simp only [figL, Bool.and_eq_true, Bool.not_eq_true', List.isEmpty_eq_false_iff, decide_eq_true_eq, Bool.and_eq_false_imp, decide_eq_false_iff_not, ne_eq, Classical.not_not] at h
  exact ⟨h.1.1.1, allDigits h.1.1.2, h.1.2, h.2⟩
theorem fig_len {t : Str} (h : figL t.cps.toList = true) : t.length ≤ 61 := by
  obtain ⟨h1, h2, h3, h4⟩ := figL_of h
  have hl : t.length = t.cps.toList.length := by simp [Str.length]
  rw [hl]
  cases e : t.cps.toList with
  | nil => simp
  | cons c r =>
    by_cases z : c = 45
    · subst z
      rw [e] at h3
      simp only [bareL] at h3
      rw [List.length_cons]; omega
    · rw [e, bareL_ne (by simp [z])] at h3
      omega
theorem fig_int {t : Str} (h : figL t.cps.toList = true) : PySem.intText? t = some (figV t.cps.toList) := by
  have hlen := fig_len h
  obtain ⟨h1, h2, h3, h4⟩ := figL_of h
  cases e : t.cps.toList with
  | nil => rw [e] at h1; exact absurd rfl h1
  | cons c r =>
    by_cases z : c = 45
    · subst z
      rw [e] at h1 h2
      exact PySem.intText_neg e h2 h1 (by omega)
    · have n45 : (c :: r).head? ≠ some 45 := by simp [z]
      rw [figV_ne n45, ← e]
      rw [e, bareL_ne n45, ← e] at h2
      exact PySem.intText_digits h2 (by rw [e]; simp) (by omega)
theorem ofNat_toNat {c : Nat} (h : 48 ≤ c ∧ c ≤ 57) : (Char.ofNat c).toNat = c := by
  obtain ⟨h1, h2⟩ := h
  have : ∀ c, c < 58 → (Char.ofNat c).toNat = c := by decide
  exact this c (by omega)
theorem map_back : ∀ {cs : List Nat}, NumText.AllDigits cs → (cs.map Char.ofNat).map Char.toNat = cs
  | [], _ => rfl
  | c :: cs, h => by rw [List.map_cons, List.map_cons, ofNat_toNat h.head, map_back h.tail]
theorem digits_back {cs : List Nat} (h : NumText.AllDigits cs) (h0 : cs ≠ []) (h1 : cs.head? = some 48 → cs = [48]) : (Nat.toDigits 10 (NumText.digitsVal cs)).map Char.toNat = cs := by
  rw [NumText.toDigits_digitsVal (cs.length - 1) cs (by have := List.length_pos_iff.mpr h0; omega) h ?_]
  · exact map_back h
  · cases cs with
    | nil => exact absurd rfl h0
    | cons c r =>
      by_cases z : c = 48
      · subst z
        have := h1 rfl
        injection this with _ e
        subst e
        exact .inl rfl
      · exact .inr ⟨c, r, rfl, by have := h.head; omega⟩
theorem fig_str {t : Str} (h : figL t.cps.toList = true) : PySem.Str.ofString (toString (figV t.cps.toList)) = t := by
  obtain ⟨h1, h2, h3, h4⟩ := figL_of h
  have key : (PySem.Str.ofString (toString (figV t.cps.toList))).cps.toList = t.cps.toList := by
    cases e : t.cps.toList with
    | nil => rw [e] at h1; exact absurd rfl h1
    | cons c r =>
      by_cases z : c = 45
      · subst z
        rw [e] at h1 h2 h4
        have h4' : r.head? ≠ some 48 := fun q => by have := h4 q; simp at this
        have pos : 0 < NumText.digitsVal r := by
          cases r with
          | nil => exact absurd rfl h1
          | cons d s => exact NumText.digitsVal_pos (by have := h2.head; have : d ≠ 48 := fun q => h4' (by rw [q]; rfl); omega)
        show (PySem.Str.ofString (toString (-((NumText.digitsVal r : Nat) : Int)))).cps.toList = 45 :: r
        rw [signs_ofString]
        obtain ⟨m, hm⟩ : ∃ m, NumText.digitsVal r = m + 1 := ⟨NumText.digitsVal r - 1, by omega⟩
        have back := digits_back h2 h1 (fun q => absurd q h4')
        rw [show bareL (45 :: r) = r from rfl] at back
        rw [hm] at back ⊢
        show (Int.repr (Int.negSucc m)).toList.map Char.toNat = 45 :: r
        show ("-" ++ Nat.repr (m + 1)).toList.map Char.toNat = 45 :: r
        rw [String.toList_append, List.map_append, Nat.toList_repr, back]
        rfl
      · have n45 : (c :: r).head? ≠ some 45 := by simp [z]
        rw [figV_ne n45, signs_ofString]
        rw [e, bareL_ne n45] at h1 h2 h4
        show (Nat.repr _).toList.map Char.toNat = _
        rw [Nat.toList_repr]
        exact digits_back h2 h1 h4
  have := StrLaws.mk_of_toList key
  rw [this]
end L2
set_option Elab.async false
set_option linter.all false
set_option maxRecDepth 100000
set_option maxHeartbeats 4000000
namespace L2
open PySem PySem.Spec PyProof.Rows
end L2
set_option Elab.async false
set_option linter.all false
set_option maxRecDepth 100000
set_option maxHeartbeats 4000000
namespace L2
open PySem PySem.Spec PyProof.Rows PySem.W PySem.AutoSeq1 PySem.MeetsSeq
section
variable {P : Program} {w : World} {A : Around} {E : Value → Shared → Prop} {s : Shared} {K : PySem.W.Frag} {x C : Addr} {ox : Obj} {od : Option Obj}
end
inductive Odd (K : PySem.W.Frag) (H : Hp) : V → Prop where
  | non : Odd K H .non
  | int (i : Int) : Odd K H (.int i)
  | str (t : Str) : Odd K H (.str t)
  | tup {a : Addr} {xs : List V} (h : SqT K H a xs) : Odd K H (.ref a)
  | lst {a : Addr} {xs : List V} (h : SqL K H a xs) : Odd K H (.ref a)
structure OddCls (K : PySem.W.Frag) (C : Addr) : Prop where
  t : subIn K (.ref C) (.type "tuple") = some false
  l : subIn K (.ref C) (.type "list") = some false
  i : subIn K (.ref C) (.type "int") = some false
  s : subIn K (.ref C) (.type "str") = some false
  n : subIn K (.ref C) (.type "NoneType") = some false
section
variable {X : Cx} {pins : List (Addr × Obj)} {σ : St} {H : Hp} {s : Shared} {A : Around} {E : Value → Shared → Prop} {x C dx : Addr} {fs : List (Str × V)}
end
section
variable {X : Cx}
end
end L2
set_option Elab.async false
set_option linter.all false
set_option maxRecDepth 100000
set_option maxHeartbeats 4000000
namespace L2
open PySem PySem.Spec PyProof.Rows
def Itx (x : Str) : It := ⟨fun i _ => i < x.cps.size, fun i H v H' => H' = H ∧ ∃ c, x.cps[i]? = some c ∧ v = .str ⟨#[c]⟩, fun i _ => x.cps.size ≤ i⟩
theorem turn_text {P : Program} {w : World} {K : PySem.W.Frag} {tg : Expr} (x : Str) (t : Tok) (it : Addr) (ty : String) (hty : ty = "str_ascii_iterator" ∨ ty = "str_iterator") : Turn P w K tg (Itx x) [it] it (fun i h => h.IsStrIter it ty x t i) where
  mem := by simp
  obj := fun i h st b hb => by
    have e : b = it := by simpa using hb
    subst e
    obtain ⟨o, e, c, d⟩ := st
    exact ⟨o, e, fun v z => by rw [d] at z; cases z⟩
  keep := fun i h h' st k => by
    obtain ⟨o, e, c, d⟩ := st
    exact ⟨o, k it (by simp) o e, c, d⟩
  item := by
    intro X hP hw hK hc i pins s σ H E I hf st hg
    subst hP hw hK
    obtain ⟨f0, f1, f2, f3, f4, f5⟩ := hf it (by simp)
    have hx : x.cps[i]? = some (x.cps[i]'hg) := Array.getElem?_eq_getElem hg
    have fin : ∀ h', h'.IsStrIter it ty x t (i + 1) → Heap.SameBut it s.heap h' → ∃ u, some (Value.str ⟨#[x.cps[i]'hg]⟩ s.toks) = some u ∧
      wpAny (model X.prog X.w) X.A (letOwnedTupleGo tg (.ref it) u) (fun _ s2 => ∃ y H', Inv X pins σ H' s2 ∧ RelV y u ∧ (Itx x).yld i H y H' ∧ s2.heap.IsStrIter it ty x t (i + 1) ∧ ∀ b ∈ [it], H' b = none) E { s with heap := h', toks := s.toks + 1 } := fun h' st' sb => by
      have I1 : Inv X pins σ H { s with heap := h', toks := s.toks + 1 } := I.turned (fun b o hb e => (sb.2 b hb).trans e) f0 f1 f3 f4 f5
      obtain ⟨o, e, c, d⟩ := id st'
      exact ⟨_, rfl, go_of (s := { s with heap := h', toks := s.toks + 1 }) e c d (by rcases hty with rfl | rfl <;> decide) ⟨.str ⟨#[x.cps[i]'hg]⟩, H, I1, ⟨_, rfl⟩, ⟨rfl, _, hx, rfl⟩, st', fun b hb => (hf b hb).1⟩⟩
    rcases hty with rfl | rfl
    · exact wpAny_pyNext_ascii_item st hx fin
    · exact wpAny_pyNext_wide_item st hx fin
  done := by
    intro X hP hw hK hc i pins s σ H E I hf st hg
    subst hP hw hK
    obtain ⟨f0, f1, f2, f3, f4, f5⟩ := hf it (by simp)
    have hx : x.cps[i]? = none := Array.getElem?_eq_none hg
    rcases hty with rfl | rfl
    · exact wpAny_pyNext_ascii_end (I.ok.hd hc) st hx fun h' eb => ⟨rfl, I.turned (t' := s.toks) (fun b o hb e => eb b o hb e) f0 f1 f3 f4 f5⟩
    · exact wpAny_pyNext_wide_end (I.ok.hd hc) st hx fun h' eb => ⟨rfl, I.turned (t' := s.toks) (fun b o hb e => eb b o hb e) f0 f1 f3 f4 f5⟩
  self := fun _ _ _ _ _ st h => by
    rcases hty with rfl | rfl
    · exact wpAny_pyIter_striter_ascii st h
    · exact wpAny_pyIter_striter_wide st h
section
variable {X : Cx}
def iText (tl : TE) : TI := fun σ H R => tl σ H fun v H1 => ∃ x : Str, v = .str x ∧ R (Itx x) H1
theorem itext {tg l : Expr} {tl : TE} (hl : JE X l tl) : JI X tg l (iText tl) := ⟨by
  intro pins s σ H R I h
  refine thn (hl.h pins s σ H _ I h) fun v s1 ⟨y, H1, I1, r1, q1⟩ => ?_
  obtain ⟨x, rfl, q⟩ := q1
  obtain ⟨t, rfl⟩ := r1
  have fin : ∀ ty, (ty = "str_ascii_iterator" ∨ ty = "str_iterator") → PIE X pins σ tg R (.ref s1.heap.objs.size) { s1 with heap := s1.heap.push { cls := .type ty, data := .fields #[.str x t, .int 0 0] } } := fun ty hty =>
    ⟨s1.heap.objs.size, [s1.heap.objs.size], _, _, H1, rfl, I1.kept (t' := s1.toks) fun b o e => Heap.get?_push_of_some _ e, turn_text x t _ ty hty, ⟨_, Heap.get?_push_size _ rfl, rfl, rfl⟩, fun b hb => by
      have e : b = s1.heap.objs.size := by simpa using hb
      subst e
      exact I1.fpOk (Nat.le_refl _) (I1.hok.fresh (Nat.le_refl _)), q⟩
  cases ha : x.cps.all (· < 128) with
  | true => exact wpAny_pyIter_ascii ha (fin _ (.inl rfl))
  | false => exact wpAny_pyIter_wide ha (fin _ (.inr rfl))⟩
theorem op_inS : OpR X (compareOp .In) (fun x y H Q => ∃ a b, x = .str a ∧ y = .str b ∧ Q (.bl (Txt.contains b a)) H) := by
  intro pins s σ H x y v u Q I rx ry h
  obtain ⟨a, b, rfl, rfl, q⟩ := h
  obtain ⟨t, rfl⟩ := rx
  obtain ⟨t2, rfl⟩ := ry
  exact SB.contains ⟨.bl _, H, I, rfl, q⟩
theorem op_notInS : OpR X (compareOp .NotIn) (fun x y H Q => ∃ a b, x = .str a ∧ y = .str b ∧ Q (.bl (!Txt.contains b a)) H) := by
  intro pins s σ H x y v u Q I rx ry h
  obtain ⟨a, b, rfl, rfl, q⟩ := h
  obtain ⟨t, rfl⟩ := rx
  obtain ⟨t2, rfl⟩ := ry
  exact SB.notContains ⟨.bl _, H, I, rfl, q⟩
end
section
variable {K : PySem.W.Frag} {g : TG} {tt : TT} {te : TE} {D : Addr} {Q : Hp → Prop} {σ : St} {H : Hp} {x : Str} {tb : TS} {DD : Ends}
theorem tLc_text {tl : TE} {src : List (Option Nat)} {Q : VK} : tLc K (iText tl) src g tt te σ H Q = tl σ H (fun v H1 => ∃ x : Str, v = .str x ∧ ∀ D, L2.new K H1 D → LcLoop (Itx x) g tt te D (fun H' => Q (.ref D) H') (pick σ src) (upd H1 D (.lst []))) := rfl
theorem tFor_text {tl : TE} : tFor (iText tl) g tb DD σ H = tl σ H (fun v H1 => ∃ x : Str, v = .str x ∧ Loop (Itx x) g tb DD σ H1) := rfl
theorem lc_text (Pv : Nat → List V → St → Hp → Prop) (h0 : Pv 0 [] σ H)
    (hs : ∀ i c acc σ H, x.cps.toList[i]? = some c → Pv i acc σ H → g (.str ⟨#[c]⟩) σ H fun σ2 H2 => tt σ2 H2 fun b H3 => if b = true then te σ2 H3 fun v H4 => H4 D = some (.lst acc) ∧ acc.length < sizeLine ∧ Pv (i + 1) (acc ++ [v]) σ2 (upd H4 D (.lst (acc ++ [v]))) else Pv (i + 1) acc σ2 H3)
    (hd : ∀ acc σ H, Pv x.cps.toList.length acc σ H → Q H) : LcLoop (Itx x) g tt te D Q σ H := by
  refine lc_run (n := x.cps.toList.length) Pv h0 (fun i acc σ H hi h => by show i < x.cps.size; simpa using hi) (fun acc σ H h => by show x.cps.size ≤ _; simp) (fun i acc σ H v H' hi h hy => ?_) hd
  obtain ⟨rfl, c, hc, rfl⟩ := hy
  exact hs i c acc σ _ (by rw [Array.getElem?_toList]; exact hc) h
theorem lc_signs {p : Nat → Bool} {v0 : Option V} {rest : St} (nD : new K H D) (hz : x.length ≤ 16777216)
    (test : ∀ c ∈ x.cps.toList, ∀ H' (R : Bool → Hp → Prop), R (p c) H' → tt (some (.str ⟨#[c]⟩) :: rest) H' R)
    (elt : ∀ c ∈ x.cps.toList, ∀ H' (R : VK), R (.str ⟨#[c]⟩) H' → te (some (.str ⟨#[c]⟩) :: rest) H' R)
    (fin : ∀ H', H' D = some (.lst ((x.cps.toList.filter p).map fun c => V.str ⟨#[c]⟩)) → Ext K H H' → Q H') : LcLoop (Itx x) (gName 0) tt te D Q (v0 :: rest) (upd H D (.lst [])) := by
  refine lc_text (fun i acc σ' H' => ∃ (v0 : Option V), σ' = v0 :: rest ∧ H' D = some (.lst acc) ∧ acc = ((x.cps.toList.take i).filter p).map (fun c => V.str ⟨#[c]⟩) ∧ Kp K D (upd H D (.lst [])) H') ?_ ?_ ?_
  · exact ⟨_, rfl, upd_same, rfl, Kp.refl⟩
  · rintro i c acc σ' H' hc ⟨v0, rfl, hD, rfl, k⟩
    have mc := List.mem_of_getElem? hc
    have hlen : (((x.cps.toList.take i).filter p).map fun c => V.str ⟨#[c]⟩).length < sizeLine := by
      rw [List.length_map]
      have h1 := List.length_filter_le p (x.cps.toList.take i)
      have h2 : i < x.cps.toList.length := (List.getElem?_eq_some_iff.mp hc).1
      have h3 : x.length = x.cps.toList.length := by simp [Str.length]
      have h4 := sizeLine_eq
      rw [List.length_take] at h1
      omega
    unfold gName
    refine test c mc H' _ ?_
    rw [List.take_add_one, hc, Option.toList_some, List.filter_append]
    cases e : p c with
    | true =>
      rw [if_pos rfl]
      refine elt c mc H' _ ⟨hD, hlen, _, rfl, upd_same, ?_, k.trans (Kp.upd hD)⟩
      rw [List.map_append]
      simp [e]
    | false =>
      rw [if_neg (by decide)]
      exact ⟨_, rfl, hD, by simp [e], k⟩
  · rintro acc σ' H' ⟨v0, rfl, hD, rfl, k⟩
    rw [List.take_length] at hD
    exact fin H' hD (k.ext nD)
end
theorem FnOk.quiet {P : Program} {w : World} {K : PySem.W.Frag} {mg : Str → Option Value} {base : Heap} {k : Nat} {f : Addr} {fd : FuncData} {ps : List Str} {sp sp' : Sp} (F : FnOk P w K mg base (CXO P w) k f fd ps sp)
    (h : ∀ vs H Q E, sp' vs H Q E → sp vs H Q fun _ _ _ => False) : FnOk P w K mg base CX0 k f fd ps sp' :=
  ⟨fun vs H Q E q => F.len vs H Q _ (h _ _ _ _ q), fun A outer s H args us vs Q E hr he hb hv hs => codeAny_mono (F.run A outer s H args us vs Q _ hr he hb hv (h _ _ _ _ hs)) fun r s' z => by
    cases r with
    | ok fl => cases fl <;> exact z
    | error e =>
      obtain ⟨_, _, _, _, _, _, _, _, _, _, _, _, _, _, q⟩ := z
      exact q⟩
theorem CalleeX.quiet {P : Program} {w : World} {K : PySem.W.Frag} {mg : Str → Option Value} {base : Heap} {x : Str} {k : Nat} {ps : List Str} {sp sp' : Sp} (C : CalleeX P w K mg base x k ps sp)
    (h : ∀ vs H Q E, sp' vs H Q E → sp vs H Q fun _ _ _ => False) : Callee P w K mg base x k ps sp' := by
  obtain ⟨f, fd, F, b, kp, m⟩ := C.ex
  exact ⟨f, fd, F.quiet h, b, kp, m⟩
end L2
set_option Elab.async false
set_option linter.all false
set_option maxRecDepth 100000
set_option maxHeartbeats 4000000
namespace L2
open PySem PySem.Spec PyProof.Rows
structure FnAt (P : Program) (w : World) (K : PySem.W.Frag) (mg : Str → Option Value) (base : Heap) (k : Nat) (ps : List Str) (sp : Sp) (f : Addr) : Prop where
  ex : ∃ fd : FuncData, FnOk P w K mg base CX0 k f fd ps sp ∧ Binds K fd ps [] ∧ PySem.W.keepIn K (.ref f) = true
def tCallV (f : Addr) (sp : Sp) (te : TE) (t : TA) : TE := fun σ H Q => te σ H fun v H1 => v = .ref f ∧ t σ H1 fun vs H2 => sp vs H2 Q E0
section
variable {X : Cx}
theorem ecallV {y : Str} {k : Nat} {ps : List Str} {sp : Sp} {f : Addr} {e : Expr} {es : List Expr} {te : TE} {t : TA} {p pos : Pos} (C : FnAt X.prog X.w X.K X.mg X.base k ps sp f) (hr : Room k X.A) (hn : JE X (.Name y p) te) (ha : JA X (e :: es) t)
    (he : starEach (e :: es) X.env = (false, eval e X.env) :: starEach es X.env := by rfl) (hpl : (backTo pos (starEach es X.env)).any (·.1) = false := by rfl) :
    JE X (.Call (.Name y p) (e :: es) [] pos) (tCallV f sp te t) := ⟨by
  intro pins s σ H Q I h
  obtain ⟨fd, F, hb, hk⟩ := C.ex
  refine wpAny_Call_Name_kw (thn (hn.h pins s σ H _ I h) fun u s1 ⟨v, H1, I1, r, e1, q⟩ => ?_)
  subst e1
  cases r
  refine PySem.W.callWith_K (h₀ := X.base) I1.ok.mod.kin hk (thn (ha.h pos pins s1 σ H1 _ I1 q) fun us s2 ⟨vs, H2, I2, r, q⟩ => ⟨I2.kIn, ?_⟩) he hpl
  exact run_fn F hr hb .nil pass0 I2 r (by simpa using q)⟩
def rStarts : V → List V → Hp → VK → Prop := fun x vs H Q => ∃ a b, x = .str a ∧ vs = [.str b] ∧ Q (.bl (Txt.startswith a b)) H
theorem mt_startswith : MtR X "str.startswith" rStarts := by
  intro pins s σ H x vs v us Q I rx rv h
  obtain ⟨a, b, rfl, rfl, q⟩ := h
  obtain ⟨t, rfl⟩ := rx
  obtain ⟨u, rfl, ru⟩ := vals1 rv
  obtain ⟨t2, rfl⟩ := ru
  exact call_meets PySem.F.slot_str_startswith (typeIs_str _ _ _) PySem.F.entry_str_startswith (PySem.F.args_str_startswith_2 _ _) (gives_str_startswith a b t t2).meets (show (Made.val _).post _ s from ⟨.bl _, H, I, rfl, q⟩)
end
def Itxe (K : PySem.W.Frag) (x : Str) : It := ⟨fun i _ => i < x.cps.size, fun i H v H' => ∃ T c, L2.new K H T ∧ x.cps[i]? = some c ∧ v = .ref T ∧ H' = upd H T (.tup [.int i, .str ⟨#[c]⟩]), fun i _ => i = x.cps.size⟩
theorem turn_enumT {P : Program} {w : World} {K : PySem.W.Frag} {es : List Expr} {k : Nat} {tp : Pos} (x : Str) (t : Tok) (e it : Addr) (ne : e ≠ it) : Turn P w K (.Tuple es k tp) (Itxe K x) [e, it] e (fun i h => (∃ old, IsEnum h e it ((i : Nat) : Int) old) ∧ h.IsStrIter it (strIterType x) x t i) where
  mem := by simp
  obj := fun i h st b hb => by
    simp only [List.mem_cons, List.not_mem_nil, or_false] at hb
    rcases hb with rfl | rfl
    · obtain ⟨⟨old, g⟩, _⟩ := st
      exact ⟨_, g, fun v z => by cases z⟩
    · obtain ⟨_, o, g, c, d⟩ := st
      exact ⟨o, g, fun v z => by rw [d] at z; cases z⟩
  keep := fun i h h' st kk => ⟨let ⟨old, g⟩ := st.1; ⟨old, kk e (by simp) _ g⟩, let ⟨o, g, r⟩ := st.2; ⟨o, kk it (by simp) o g, r⟩⟩
  item := by
    intro X hP hw hK hc i pins s σ H E I hf st hg
    subst hP hw hK
    obtain ⟨⟨old, he⟩, hit⟩ := st
    have D : Draws X.prog X.w X.A.in1 it [it] x.cps.size (fun i v => ∃ c u, x.cps[i]? = some c ∧ v = .str ⟨#[c]⟩ u) (fun i h => h.IsStrIter it (strIterType x) x t i) := by
      unfold strIterType
      split
      · exact Draws.strAscii (show X.A.in1.handled = none from I.ok.hd hc) it x t
      · exact Draws.strWide (show X.A.in1.handled = none from I.ok.hd hc) it x t
    refine wpAny_pyNext_enum_itemD D he hit hg ne (by simpa using ne) fun u h1 tk hu he1 hit1 gT sz kp => ?_
    obtain ⟨c, tu, hc', rfl⟩ := hu
    refine ⟨_, rfl, wpAny_letOwnedTupleGo_enum he1 fun h2 he2 sb => ?_⟩
    have ltE : e < s.heap.objs.size := Heap.lt_size he
    have gT2 : h2.get? s.heap.objs.size = some { cls := .type "tuple", data := .seq #[.int i tk, .str ⟨#[c]⟩ tu] } := (sb.2 _ (Nat.ne_of_gt ltE)).trans gT
    have I1 : Inv X pins σ (upd H s.heap.objs.size (.tup [.int i, .str ⟨#[c]⟩])) { s with heap := h2, toks := tk + 1 } := by
      refine I.turnLay (ch := [e, it]) (fun b o hb g => ?_) hf (Nat.le_refl _) ⟨(show 2 ≤ sizeLine by decide), [.int i tk, .str ⟨#[c]⟩ tu], .cons ⟨_, rfl⟩ (.cons ⟨_, rfl⟩ .nil), _, gT2, rfl, _, rfl⟩
      simp only [List.mem_cons, List.not_mem_nil, or_false, not_or] at hb
      exact (sb.2 b hb.1).trans (kp b o hb.1 hb.2 g)
    refine ⟨.ref s.heap.objs.size, _, I1, rfl, ⟨_, c, ⟨I.hok.fresh (Nat.le_refl _), I1.notMod upd_same⟩, hc', rfl, rfl⟩, ⟨⟨_, by simpa using he2⟩, let ⟨o, g, r⟩ := hit1; ⟨o, (sb.2 it (Ne.symm ne)).trans g, r⟩⟩, fun b hb => ?_⟩
    have ltb : b < s.heap.objs.size := by
      simp only [List.mem_cons, List.not_mem_nil, or_false] at hb
      rcases hb with rfl | rfl
      · exact ltE
      · obtain ⟨o, g, _⟩ := hit
        exact Heap.lt_size g
    rw [upd_ne (Nat.ne_of_lt ltb)]
    exact (hf b hb).1
  done := by
    intro X hP hw hK hc i pins s σ H E I hf st hg
    subst hP hw hK
    obtain ⟨⟨old, he⟩, hit⟩ := st
    obtain ⟨f0, f1, f2, f3, f4, f5⟩ := hf it (by simp)
    have D : Draws X.prog X.w X.A.in1 it [it] x.cps.size (fun i v => ∃ c u, x.cps[i]? = some c ∧ v = .str ⟨#[c]⟩ u) (fun i h => h.IsStrIter it (strIterType x) x t i) := by
      unfold strIterType
      split
      · exact Draws.strAscii (show X.A.in1.handled = none from I.ok.hd hc) it x t
      · exact Draws.strWide (show X.A.in1.handled = none from I.ok.hd hc) it x t
    obtain rfl : i = x.cps.size := hg
    exact wpAny_pyNext_enum_endD D he hit fun h' eb => ⟨rfl, I.turned (t' := s.toks) (fun b o hb g => eb b o hb g) f0 f1 f3 f4 f5⟩
  self := fun _ _ _ _ _ st h => let ⟨_, g⟩ := st.1; wpAny_pyIter_enum g h
section
variable {X : Cx}
def iEnumT (K : PySem.W.Frag) (tl : TA) : TI := fun σ H R => tl σ H fun vs H1 => ∃ x : Str, vs = [.str x] ∧ R (Itxe K x) H1
theorem ienumT {l : Expr} {t : TA} {es : List Expr} {k : Nat} {p pos tp : Pos} (hg : Gl X "enumerate") (hm : X.mg "enumerate" = none) (ha : JA X [l] t) (hs : starEach [l] X.env = (false, eval l X.env) :: starEach [] X.env := by rfl) :
    JI X (.Tuple es k tp) (.Call (.Name "enumerate" p) [l] [] pos) (iEnumT X.K t) := ⟨by
  intro pins s σ H R I h
  refine Call_ (ld_blt I hg hm bt_enumerate (PyProof.Rows.callWith_type1 (thn (ha.h pos pins s σ H _ I h) fun us s1 ⟨vs, H1, I1, r1, q1⟩ => ?_) hs rfl))
  obtain ⟨x, rfl, q⟩ := q1
  obtain ⟨u, rfl, ru⟩ := vals1 r1
  obtain ⟨tk, rfl⟩ := ru
  refine call_enumerate_str fun h2 he hit sz kp => ?_
  have I2 : Inv X pins σ H1 { s1 with heap := h2 } := I1.kept (t' := s1.toks) kp
  refine wpAny_pyIter_enum he ⟨_, [s1.heap.objs.size + 1, s1.heap.objs.size], _, Itxe X.K x, H1, rfl, I2, turn_enumT x tk _ _ (Nat.succ_ne_self _), ⟨⟨_, he⟩, hit⟩, fun b hb => ?_, q⟩
  simp only [List.mem_cons, List.not_mem_nil, or_false] at hb
  have le : s1.heap.objs.size ≤ b := by
    rcases hb with rfl | rfl
    · exact Nat.le_succ _
    · exact Nat.le_refl _
  exact I1.fpOk le (I1.hok.fresh le)⟩
end
section
variable {K : PySem.W.Frag} {g : TG} {tb : TS} {DD : Ends} {σ : St} {H : Hp} {x : Str}
theorem tFor_enumT {ta : TA} : tFor (iEnumT K ta) g tb DD σ H = ta σ H (fun vs H1 => ∃ x : Str, vs = [.str x] ∧ Loop (Itxe K x) g tb DD σ H1) := rfl
end
section
variable {prog : Program} {w : World} {A : Around} {E : Value → Shared → Prop} {s : Shared}
theorem unpack_list {l : Addr} {items : Array Value} {Q : List Value → Shared → Prop} (hh : A.handled = none) (hl : s.heap.IsList l items)
    (hQ : ∀ h', Heap.ExtBut s.heap.objs.size s.heap h' → Q items.toList { s with heap := h' }) : wpAny (model prog w) A (unpackItems (.ref l) items.size none) Q E s := by
  have hlt : l ≠ s.heap.objs.size := by obtain ⟨o, ho, _⟩ := hl; exact Nat.ne_of_lt (Heap.lt_size ho)
  unfold unpackItems
  refine wpAny_bind ?_
  unfold notIterableAtAll
  refine wpAny_bind (wpAny_specialOf hl.typeIs slot_list_iter.lookup ?_)
  refine wpAny_pure ?_
  simp only [Bool.false_eq_true, if_false]
  refine wpAny_bind (wpAny_holding (wpAny_pyIter_list hl ?_))
  refine wpAny_bind (wpAny_holding (PySem.W.kun_draw hlt items.size 0 _ _ ⟨_, Heap.get?_push_size _ rfl, rfl, rfl⟩ (hl.push _) (by omega) fun h₁ hit₁ hs₁ => ?_))
  have hall : List.take items.size (List.drop 0 items.toList) = items.toList := by
    rw [List.drop_zero]; exact List.take_of_length_le (by simp)
  rw [hall, if_neg (by simp)]
  have hl₁ : h₁.IsList l items := (hl.push _).extBut hs₁.extBut hlt
  refine wpAny_bind (wpAny_holding (wpAny_pyNext_list_end hh hit₁ hl₁ (by simp) fun h₂ he₂ => ?_))
  simp only [Option.isSome_none, Bool.false_eq_true, if_false]
  exact wpAny_pure (hQ h₂ fun b o hb e => he₂ b o hb (hs₁.extBut b o hb (Heap.get?_push_of_some _ e)))
end
section
variable {X : Cx} {es : List Expr} {pos : Pos}
def gTupL (K : PySem.W.Frag) (n : Nat) (t : TGs) : TG := fun v σ H Q => ∃ a xs, v = .ref a ∧ SqL K H a xs ∧ xs.length = n ∧ t xs σ H Q
theorem gtupL {k : Nat} {t : TGs} {n : Nat} (hc : X.calm = true) (h : JGs X es t)
    (hn : (assignEach es X.env).length = n := by rfl) (hst : (assignEach es X.env).findIdx? (·.1) = none := by rfl) : JG X (.Tuple es k pos) (gTupL X.K n t) := ⟨by
  intro pins s σ H v u Q I r hw
  obtain ⟨a, xs, e1, hq, hl, hw⟩ := hw
  subst e1
  cases r
  obtain ⟨its, rv, ht, hz⟩ := I.list hq
  rw [assign_Tuple]
  refine wpAny_bind (wpAny_standAt ?_)
  unfold unpack
  rw [hst, show (assignEach es X.env).length = its.toArray.size from by simp [hn, ← hl, rv.length]]
  refine wpAny_bind (wpAny_holding (unpack_list (I.ok.hd hc) ht.isList fun h' hx => ?_))
  have I1 : Inv X pins σ H { s with heap := h' } := I.kept (t' := s.toks) fun b o e => hx b o (Nat.ne_of_lt (Heap.lt_size e)) e
  exact h.h pins _ σ H xs _ Q I1 (by simpa using rv) hw⟩
end
section
variable {K : PySem.W.Frag} {ta : TA} {g : TG} {tb : TS} {DD : Ends} {σ : St} {H : Hp} {a b D : Addr} {xs ys : List V} {tt : TT} {te : TE} {Q : Hp → Prop} {n : Nat}
theorem tFor_zipS : tFor (iZipS K ta) g tb DD σ H = ta σ H (fun vs H1 => ∃ a b, vs = [.ref a, .ref b] ∧ (((∃ xs, SqL K H1 a xs) ∧ (∃ ys, SqL K H1 b ys) ∧ Loop (Itz K a b) g tb DD σ H1) ∨ ((∃ xs, SqT K H1 a xs) ∧ (∃ ys, SqT K H1 b ys) ∧ Loop (ItzT K a b) g tb DD σ H1))) := rfl
theorem loop_zipM (Pv : Nat → St → Hp → Prop) (e1 : n ≤ xs.length) (e2 : n ≤ ys.length) (e3 : xs.length ≤ n ∨ ys.length ≤ n) (h0 : Pv 0 σ H) (hl : ∀ i σ H, i ≤ n → Pv i σ H → SqL K H a xs ∧ SqL K H b ys)
    (hs : ∀ i x y σ H T, xs[i]? = some x → ys[i]? = some y → Pv i σ H → L2.new K H T → g (.ref T) σ (upd H T (.tup [x, y])) fun σ2 H2 => tb { DD with nx := Pv (i + 1), ct := Pv (i + 1), bk := DD.nx } σ2 H2) (hd : ∀ σ H, Pv n σ H → DD.nx σ H) : Loop (Itz K a b) g tb DD σ H := by
  refine ⟨fun i m σ H => m = n - i ∧ i ≤ n ∧ Pv i σ H, ⟨n, by simp, Nat.zero_le _, h0⟩, ?_⟩
  rintro i m σ H ⟨rfl, hi, p⟩
  obtain ⟨q1, q2⟩ := hl i σ H hi p
  by_cases hlt : i < n
  · refine .inr ⟨⟨xs, ys, xs[i], ys[i]'(by omega), q1, q2, List.getElem?_eq_getElem _, List.getElem?_eq_getElem _⟩, Pv (i + 1), fun σ' H' p' => ⟨n - (i + 1), by omega, rfl, hlt, p'⟩, fun x H' y => ?_⟩
    obtain ⟨T, v, u, nT, hv, hu, rfl, rfl⟩ := y
    exact hs i v u σ _ T (hv xs q1) (hu ys q2) p nT
  · have e : i = n := by omega
    subst e
    exact .inl ⟨⟨xs, ys, q1, q2, e3⟩, hd σ H p⟩
theorem lc_zipM (Pv : Nat → List V → St → Hp → Prop) (e1 : n ≤ xs.length) (e2 : n ≤ ys.length) (e3 : xs.length ≤ n ∨ ys.length ≤ n) (h0 : Pv 0 [] σ H) (hl : ∀ i acc σ H, i ≤ n → Pv i acc σ H → SqL K H a xs ∧ SqL K H b ys)
    (hs : ∀ i x y acc σ H T, xs[i]? = some x → ys[i]? = some y → Pv i acc σ H → L2.new K H T → g (.ref T) σ (upd H T (.tup [x, y])) fun σ2 H2 => tt σ2 H2 fun b H3 => if b = true then te σ2 H3 fun v H4 => H4 D = some (.lst acc) ∧ acc.length < sizeLine ∧ Pv (i + 1) (acc ++ [v]) σ2 (upd H4 D (.lst (acc ++ [v]))) else Pv (i + 1) acc σ2 H3)
    (hd : ∀ acc σ H, Pv n acc σ H → Q H) : LcLoop (Itz K a b) g tt te D Q σ H := by
  refine lc_run (n := n) Pv h0 (fun i acc σ H hi h => ?_) (fun acc σ H h => ?_) (fun i acc σ H x H' hi h hy => ?_) hd
  · obtain ⟨q1, q2⟩ := hl i acc σ H (Nat.le_of_lt hi) h
    exact ⟨xs, ys, xs[i], ys[i]'(by omega), q1, q2, List.getElem?_eq_getElem _, List.getElem?_eq_getElem _⟩
  · obtain ⟨q1, q2⟩ := hl _ acc σ H (Nat.le_refl _) h
    exact ⟨xs, ys, q1, q2, e3⟩
  · obtain ⟨q1, q2⟩ := hl i acc σ H (Nat.le_of_lt hi) h
    obtain ⟨T, v, u, nT, hv, hu, rfl, rfl⟩ := hy
    exact hs i v u acc σ H T (hv xs q1) (hu ys q2) h nT
end
section
variable {K : PySem.W.Frag} {g : TG} {tb : TS} {DD : Ends} {σ : St} {H : Hp} {x : Str}
theorem loop_enumT (Pv : Nat → St → Hp → Prop) (h0 : Pv 0 σ H)
    (hs : ∀ i c σ H T, x.cps.toList[i]? = some c → Pv i σ H → L2.new K H T → g (.ref T) σ (upd H T (.tup [.int i, .str ⟨#[c]⟩])) fun σ2 H2 => tb { DD with nx := Pv (i + 1), ct := Pv (i + 1), bk := DD.nx } σ2 H2) (hd : ∀ σ H, Pv x.cps.toList.length σ H → DD.nx σ H) : Loop (Itxe K x) g tb DD σ H := by
  refine ⟨fun i m σ H => m = x.cps.toList.length - i ∧ i ≤ x.cps.toList.length ∧ Pv i σ H, ⟨x.cps.toList.length, by simp, Nat.zero_le _, h0⟩, ?_⟩
  rintro i m σ H ⟨rfl, hi, p⟩
  by_cases hlt : i < x.cps.toList.length
  · refine .inr ⟨by show i < x.cps.size; simpa using hlt, Pv (i + 1), fun σ' H' p' => ⟨x.cps.toList.length - (i + 1), by omega, rfl, hlt, p'⟩, fun v H' y => ?_⟩
    obtain ⟨T, c, nT, hc, rfl, rfl⟩ := y
    exact hs i c σ _ T (by rw [Array.getElem?_toList]; exact hc) p nT
  · have e : i = x.cps.toList.length := by omega
    subst e
    exact .inl ⟨by show x.cps.toList.length = x.cps.size; simp, hd σ H p⟩
end
end L2
set_option Elab.async false
set_option linter.all false
set_option maxRecDepth 100000
set_option maxHeartbeats 4000000
namespace K73
open PySem L2
local macro_rules | `(tactic| walk_at "rd") => `(tactic| simp only [tSeq, tNext, tIfS, tAsg, gName, gSub, tRet, tRetN, tDrop, tVar, tC, tOp, tUn, rI0, rI, rU, tTest, tB, tAndV, tOrV, tNotV, tAnd, tOr, tNot, tIf, tChain, tCB, tCons, tNil, tLst, tTup, tCallC, List.getElem?_cons_zero, List.getElem?_cons_succ, List.set_cons_zero, List.set_cons_succ, Option.some.injEq, V.int.injEq, V.bl.injEq, V.ref.injEq, V.ty.injEq, V.str.injEq, List.cons.injEq, exists_eq_left', exists_eq_left, exists_and_left, and_true, true_and, and_assoc, cxK, rIxF, rSetL, rEq, rNe, scal, HO.lst.injEq, HO.tup.injEq, upd_none, ixN_10, ixN_20, ixN_21, ixN_30, ixN_31, ixN_32, upd_same, seqAt_updL, seqAt_updT, atI_0, atI_1, atI_2, atI_3, decide_eq_true_eq, L2.start, List.map_cons, List.map_nil, List.length_cons, List.length_nil, Nat.reduceAdd, Nat.reduceSub, List.replicate_succ, List.replicate_zero, List.cons_append, List.nil_append, List.append_nil, tFor_rng1, tFor_rng2, tFor_list, tFor_tup, CDv, CMul, CPow, sizeLine_eq, Int.reduceLE, Int.reduceLT, Int.reducePow, Int.reduceToNat, Int.reduceAdd, Int.reduceSub, Int.reduceMul, Int.reduceNeg, Nat.reduceLeDiff, Nat.reducePow, Nat.reduceLT, Int.reduceEq, true_or, or_true, ite_true, ite_false, if_true, if_false, Bool.not_true, Bool.not_false, Bool.false_eq_true, decide_true, decide_false, rIxQ, seqQ_updL, seqQ_updT, tupQ_updT, tSl, tNoPart, tPart, rSlQ, rSlTX, rCatQ, rCatTX, rCatTX0, tTupQ, tLstQ, new_upd, tNever, rEqD, rInQ, gTupQ, gCons, gNil, tBM, rAppend, tBM0, cxN, tCall, tRaise, tTry, Ends.gone, pick_nil, pick_own, pick_cap, join_some, tLc_list, tLc_tup, tYes, tyV, tFor_list, tLc_text, rNeE, rSlS, rIxS, rIsascii, rIsdigit, rRemPre, rSplit, rJoin, rStarts, gStarL, gTupL, tCallV, tFor_enumT, tFor_text, rExtend, tLc_zipS, tFor_zipS, tLcD, tDGet, tLc_rng1])
local macro_rules | `(tactic| walk_at "rn") => `(tactic| simp only [tSeq, tNext, tIfS, tAsg, gName, gSub, tRet, tRetN, tDrop, tVar, tC, tOp, tUn, rI0, rI, rU, tTest, tB, tAndV, tOrV, tNotV, tAnd, tOr, tNot, tIf, tChain, tCB, tCons, tNil, tLst, tTup, tCallC, List.getElem?_cons_zero, List.getElem?_cons_succ, List.set_cons_zero, List.set_cons_succ, Option.some.injEq, V.int.injEq, V.bl.injEq, V.ref.injEq, V.ty.injEq, V.str.injEq, List.cons.injEq, exists_eq_left', exists_eq_left, exists_and_left, and_true, true_and, and_assoc, cxK, rIxF, rSetL, rEq, rNe, scal, HO.lst.injEq, HO.tup.injEq, upd_none, ixN_10, ixN_20, ixN_21, ixN_30, ixN_31, ixN_32, upd_same, seqAt_updL, seqAt_updT, atI_0, atI_1, atI_2, atI_3, decide_eq_true_eq, L2.start, List.map_cons, List.map_nil, List.length_cons, List.length_nil, Nat.reduceAdd, Nat.reduceSub, List.replicate_succ, List.replicate_zero, List.cons_append, List.nil_append, List.append_nil, tFor_rng1, tFor_rng2, tFor_list, tFor_tup, CDv, CMul, CPow, sizeLine_eq, Int.reduceLE, Int.reduceLT, Int.reducePow, Int.reduceToNat, Int.reduceAdd, Int.reduceSub, Int.reduceMul, Int.reduceNeg, Nat.reduceLeDiff, Nat.reducePow, Nat.reduceLT, Int.reduceEq, true_or, or_true, ite_true, ite_false, if_true, if_false, Bool.not_true, Bool.not_false, Bool.false_eq_true, decide_true, decide_false, rIxQ, seqQ_updL, seqQ_updT, tupQ_updT, tSl, tNoPart, tPart, rSlQ, rSlTX, rCatQ, rCatTX, rCatTX0, tTupQ, tLstQ, tNever, rEqD, rInQ, gTupQ, gCons, gNil, tBM, rAppend, tBM0, cxN, tCall, tRaise, tTry, Ends.gone, pick_nil, pick_own, pick_cap, join_some, tLc_list, tLc_tup, tYes, tyV, tFor_list, tLc_text, rNeE, rSlS, rIxS, rIsascii, rIsdigit, rRemPre, rSplit, rJoin, rStarts, gStarL, gTupL, tCallV, tFor_enumT, tFor_text, rExtend, tLc_zipS, tFor_zipS, tLcD, tDGet, tLc_rng1])
local macro_rules | `(tactic| simp_arith [$hs,*]) => `(tactic| simp only [tSeq, tNext, tIfS, tAsg, gName, gSub, tRet, tRetN, tDrop, tVar, tC, tOp, tUn, rI0, rI, rU, tTest, tB, tAndV, tOrV, tNotV, tAnd, tOr, tNot, tIf, tChain, tCB, tCons, tNil, tLst, tTup, tCallC, List.getElem?_cons_zero, List.getElem?_cons_succ, List.set_cons_zero, List.set_cons_succ, Option.some.injEq, V.int.injEq, V.bl.injEq, V.ref.injEq, V.ty.injEq, V.str.injEq, List.cons.injEq, exists_eq_left', exists_eq_left, exists_and_left, and_true, true_and, and_assoc, cxK, rIxF, rSetL, rEq, rNe, scal, HO.lst.injEq, HO.tup.injEq, upd_none, ixN_10, ixN_20, ixN_21, ixN_30, ixN_31, ixN_32, upd_same, seqAt_updL, seqAt_updT, atI_0, atI_1, atI_2, atI_3, decide_eq_true_eq, L2.start, List.map_cons, List.map_nil, List.length_cons, List.length_nil, Nat.reduceAdd, Nat.reduceSub, List.replicate_succ, List.replicate_zero, List.cons_append, List.nil_append, List.append_nil, tFor_rng1, tFor_rng2, tFor_list, tFor_tup, CDv, CMul, CPow, sizeLine_eq, Int.reduceLE, Int.reduceLT, Int.reducePow, Int.reduceToNat, Int.reduceAdd, Int.reduceSub, Int.reduceMul, Int.reduceNeg, Nat.reduceLeDiff, Nat.reducePow, Nat.reduceLT, Int.reduceEq, true_or, or_true, ite_true, ite_false, if_true, if_false, Bool.not_true, Bool.not_false, Bool.false_eq_true, decide_true, decide_false, rIxQ, seqQ_updL, seqQ_updT, tupQ_updT, tSl, tNoPart, tPart, rSlQ, rSlTX, rCatQ, rCatTX, rCatTX0, tTupQ, tLstQ, tNever, rEqD, rInQ, gTupQ, gCons, gNil, tBM, rAppend, tBM0, cxN, tCall, tRaise, tTry, Ends.gone, pick_nil, pick_own, pick_cap, join_some, tLc_list, tLc_tup, tYes, tyV, tFor_list, tLc_text, rNeE, rSlS, rIxS, rIsascii, rIsdigit, rRemPre, rSplit, rJoin, rStarts, gStarL, gTupL, tCallV, tFor_enumT, tFor_text, rExtend, tLc_zipS, tFor_zipS, tLcD, tDGet, tLc_rng1, $hs,*])
def top (i : Nat) : Stmt := PySem.Challenge.pw_notefall_k73_heads_written_and_read.main.body.getD i (.Pass ⟨0, 0, 0, 0⟩)
abbrev s_is_number : Stmt := top 11
abbrev s_is_whole : Stmt := top 12
abbrev s_is_whole_from : Stmt := top 13
abbrev s_is_plan : Stmt := top 16
abbrev s_is_rule : Stmt := top 17
abbrev s_figures_of : Stmt := top 24
abbrev s_are_figures : Stmt := top 25
abbrev s_read_figures : Stmt := top 26
abbrev s_is_rising : Stmt := top 30
abbrev s_are_wholes : Stmt := top 31
abbrev s_are_rising_from : Stmt := top 32
abbrev s_list_text : Stmt := top 42
abbrev s_numbers_text : Stmt := top 43
abbrev s_rule_text : Stmt := top 44
abbrev s_head_text : Stmt := top 45
abbrev s_read_list : Stmt := top 46
abbrev s_read_numbers : Stmt := top 47
abbrev s_read_room : Stmt := top 56
abbrev s_read_rule : Stmt := top 57
abbrev s_read_head : Stmt := top 58
abbrev s__law_cell_at : Stmt := top 60
abbrev s__law_digit : Stmt := top 61
abbrev s__law_alike : Stmt := top 62
abbrev s__law_number : Stmt := top 63
abbrev s__law_marks : Stmt := top 64
abbrev s__law_head : Stmt := top 65
abbrev s__law_head_text : Stmt := top 66
abbrev s__law_whole : Stmt := top 67
abbrev s__law_count : Stmt := top 68
abbrev s__law_rule_in : Stmt := top 69
abbrev s__law_read : Stmt := top 70
abbrev s__law_starts : Stmt := top 71
abbrev s__law_sign : Stmt := top 72
abbrev s__law_parts_turned : Stmt := top 73
abbrev s__law_figures : Stmt := top 74
abbrev s__law_spoilt : Stmt := top 75
abbrev s__law_refused : Stmt := top 76
abbrev s__law_holds : Stmt := top 77
abbrev s_law : Stmt := top 78
structure XC (K : PySem.W.Frag) (C cF cR : Addr) : Prop where
  x : Exc K C
  i : ExcI K C
  m : PySem.W.exmOne K (.ref C) (.ref cF) = some true
  k0 : PySem.W.kitOne K (.ref C) (.ref C) = some true
  k1 : PySem.W.kitOne K (.ref C) (.type "ValueError") = some true
  k2 : PySem.W.kitOne K (.ref C) (.ref cR) = some false
structure B (K : PySem.W.Frag) (mg : Str → Option Value) (aP cF cR cN : Addr) (t1 t2 t3 t4 tF : Tok) : Prop where
  len : mg "len" = none
  isinstance : mg "isinstance" = none
  int : mg "int" = none
  bool : mg "bool" = none
  tuple : mg "tuple" = none
  str : mg "str" = none
  list : mg "list" = none
  all : mg "all" = none
  zip : mg "zip" = none
  enumerate : mg "enumerate" = none
  range : mg "range" = none
  dict : mg "dict" = none
  max : mg "max" = none
  min : mg "min" = none
  ValueError : mg "ValueError" = none
  MOST_TRAY : mg "MOST_TRAY" = some (.int 64 t1)
  LEAST_FAN : mg "LEAST_FAN" = some (.int 3 t2)
  MOST_FAN : mg "MOST_FAN" = some (.int 16 t3)
  MOST_ROWS : mg "MOST_ROWS" = some (.int 64 t4)
  MOST_FIGURES : mg "MOST_FIGURES" = some (.int 60 tF)
  PLANS : mg "PLANS" = some (.ref aP)
  FallError : mg "FallError" = some (.ref cF)
  NoRule : mg "NoRule" = some (.ref cR)
  NoPage : mg "NoPage" = some (.ref cN)
  kP : kTup K aP = some [.str "fullest", .str "eldest"]
  xN : XC K cN cF cR
section
variable {K : PySem.W.Frag} {mg : Str → Option Value} {aP cF cR cN : Addr} {t1 t2 t3 t4 tF : Tok}
theorem B.MOST_TRAY_is (_ : B K mg aP cF cR cN t1 t2 t3 t4 tF) : RelV (.int 64) (.int 64 t1) := ⟨t1, rfl⟩
theorem B.LEAST_FAN_is (_ : B K mg aP cF cR cN t1 t2 t3 t4 tF) : RelV (.int 3) (.int 3 t2) := ⟨t2, rfl⟩
theorem B.MOST_FAN_is (_ : B K mg aP cF cR cN t1 t2 t3 t4 tF) : RelV (.int 16) (.int 16 t3) := ⟨t3, rfl⟩
theorem B.MOST_ROWS_is (_ : B K mg aP cF cR cN t1 t2 t3 t4 tF) : RelV (.int 64) (.int 64 t4) := ⟨t4, rfl⟩
theorem B.MOST_FIGURES_is (_ : B K mg aP cF cR cN t1 t2 t3 t4 tF) : RelV (.int 60) (.int 60 tF) := ⟨tF, rfl⟩
theorem B.PLANS_is (_ : B K mg aP cF cR cN t1 t2 t3 t4 tF) : RelV (.ref aP) (.ref aP) := rfl
theorem B.NoRule_is (_ : B K mg aP cF cR cN t1 t2 t3 t4 tF) : RelV (.ref cR) (.ref cR) := rfl
theorem B.NoPage_is (_ : B K mg aP cF cR cN t1 t2 t3 t4 tF) : RelV (.ref cN) (.ref cN) := rfl
theorem B.x_NoPage (b : B K mg aP cF cR cN t1 t2 t3 t4 tF) : Exc K cN := b.xN.x
end
def on : Option Int → V
  | none => .non
  | some i => .int i
def wO (lo hi : Int) : Option Int → Bool
  | some i => decide (lo ≤ i ∧ i ≤ hi)
  | none => false
def fO (lo : Int) : Option Int → Bool
  | some i => decide (lo ≤ i)
  | none => false
section
variable {P : Program} {w : World} {K : PySem.W.Frag} {mg : Str → Option Value} {base : Heap}
def spNumO : Sp := fun vs H Q _ => ∃ o, vs = [on o] ∧ Q (.bl o.isSome) H
def spWholeO : Sp := fun vs H Q _ => ∃ o lo hi, vs = [on o, .int lo, .int hi] ∧ Q (.bl (wO lo hi o)) H
def spFromO : Sp := fun vs H Q _ => ∃ o lo, vs = [on o, .int lo] ∧ Q (.bl (fO lo o)) H
theorem sc_is_number : FnScope ["thing"] ["thing"] (defScope s_is_number) := ⟨rfl, rfl, rfl, by decide +kernel, rfl, by decide +kernel, by decide +kernel⟩
theorem ok_is_number {f : Addr} {fd : FuncData} (F : Fun K "is_number" "is_number" s_is_number f fd) {aP cF cR cN : Addr} {t1 t2 t3 t4 tF : Tok} (B : B K mg aP cF cR cN t1 t2 t3 t4 tF)  : FnOk P w K mg base CX0 1 f fd ["thing"] spNumO := by
  refine F.okJ sc_is_number (fun vs H Q E h => ?_) (fun cdv A outer s H vs Q E hr h => ?_)
  · obtain ⟨o, rfl, _⟩ := h
    rfl
  obtain ⟨o, rfl, q⟩ := h
  refine ⟨_, (bone (sret (eand (ecallB call_isinstQ rfl B.isinstance bt_isinstance (acons (ev 0) (acons (etyp rfl B.int bt_int) anil))) (eone (enot (ecallB call_isinstQ rfl B.isinstance bt_isinstance (acons (ev 0) (acons (etyp rfl B.bool bt_bool) anil)))))))), ?_⟩
  try walk_at "rn"
  cases o with
  | none => exact ⟨_, .inl .non, false, rfl, q⟩
  | some i => exact ⟨_, .inl (.int i), true, rfl, _, .inl (.int i), false, rfl, q⟩
theorem sc_is_whole : FnScope ["thing", "low", "high"] ["thing", "low", "high"] (defScope s_is_whole) := ⟨rfl, rfl, rfl, by decide +kernel, rfl, by decide +kernel, by decide +kernel⟩
theorem ok_is_whole {f : Addr} {fd : FuncData} (F : Fun K "is_whole" "is_whole" s_is_whole f fd) {aP cF cR cN : Addr} {t1 t2 t3 t4 tF : Tok} (B : B K mg aP cF cR cN t1 t2 t3 t4 tF) (C_is_number : Callee P w K mg base "is_number" 1 ["thing"] spNumO) : FnOk P w K mg base CX0 2 f fd ["thing", "low", "high"] spWholeO := by
  refine F.okJ sc_is_whole (fun vs H Q E h => ?_) (fun cdv A outer s H vs Q E hr h => ?_)
  · obtain ⟨o, lo, hi, rfl, _⟩ := h
    rfl
  obtain ⟨o, lo, hi, rfl, q⟩ := h
  refine ⟨_, (bone (sret (eand (ecall C_is_number (hr.mono (by decide)) rfl (acons (ev 0) anil)) (eone (echain op_le op_le (ev 1) (ev 0) (ev 2)))))), ?_⟩
  try walk_at "rn"
  refine ⟨o, rfl, _, rfl, ?_⟩
  cases o with
  | none => exact iteF' (by decide) q
  | some i =>
    refine iteT' rfl ⟨_, rfl, ?_⟩
    simp only [wO] at q
    split
    · rename_i c
      simp only [c, true_and] at q
      exact ⟨_, rfl, q⟩
    · rename_i c
      simp only [c, false_and, decide_false] at q
      exact q
theorem sc_is_whole_from : FnScope ["thing", "low"] ["thing", "low"] (defScope s_is_whole_from) := ⟨rfl, rfl, rfl, by decide +kernel, rfl, by decide +kernel, by decide +kernel⟩
theorem ok_is_whole_from {f : Addr} {fd : FuncData} (F : Fun K "is_whole_from" "is_whole_from" s_is_whole_from f fd) {aP cF cR cN : Addr} {t1 t2 t3 t4 tF : Tok} (B : B K mg aP cF cR cN t1 t2 t3 t4 tF) (C_is_number : Callee P w K mg base "is_number" 1 ["thing"] spNumO) : FnOk P w K mg base CX0 2 f fd ["thing", "low"] spFromO := by
  refine F.okJ sc_is_whole_from (fun vs H Q E h => ?_) (fun cdv A outer s H vs Q E hr h => ?_)
  · obtain ⟨o, lo, rfl, _⟩ := h
    rfl
  obtain ⟨o, lo, rfl, q⟩ := h
  refine ⟨_, (bone (sret (eand (ecall C_is_number (hr.mono (by decide)) rfl (acons (ev 0) anil)) (eone (ecmp op_le (ev 1) (ev 0) (nomark _)))))), ?_⟩
  try walk_at "rn"
  refine ⟨o, rfl, _, rfl, ?_⟩
  cases o with
  | none => exact iteF' (by decide) q
  | some i => exact iteT' rfl ⟨_, rfl, q⟩
def isPl (t : Str) : Bool := decide (t = "fullest") || decide (t = "eldest")
def spPlan : Sp := fun vs H Q _ => ∃ t : Str, vs = [.str t] ∧ Q (.bl (isPl t)) H
theorem isPl_in (t : Str) : inV (.str t) [.str "fullest", .str "eldest"] = isPl t := by
  unfold inV isPl
  simp only [List.any_cons, List.any_nil, Bool.or_false, eqV]
  have e : ∀ a b : Str, (a == b) = decide (b = a) := fun a b => by
    rw [Bool.eq_iff_iff, beq_iff_eq, decide_eq_true_eq]
    exact ⟨Eq.symm, Eq.symm⟩
  rw [e, e]
theorem sc_is_plan : FnScope ["thing"] ["thing"] (defScope s_is_plan) := ⟨rfl, rfl, rfl, by decide +kernel, rfl, by decide +kernel, by decide +kernel⟩
theorem ok_is_plan {f : Addr} {fd : FuncData} (F : Fun K "is_plan" "is_plan" s_is_plan f fd) {aP cF cR cN : Addr} {t1 t2 t3 t4 tF : Tok} (B : B K mg aP cF cR cN t1 t2 t3 t4 tF) : FnOk P w K mg base CX0 1 f fd ["thing"] spPlan := by
  refine F.okM sc_is_plan (fun vs H Q E h => ?_) (fun cdv A outer s H vs Q E hr hm h => ?_)
  · obtain ⟨t, rfl, _⟩ := h
    rfl
  obtain ⟨t, rfl, q⟩ := h
  refine ⟨_, (bone (sret (eand (ecallB call_isinstQ rfl B.isinstance bt_isinstance (acons (ev 0) (acons (etyp rfl B.str bt_str) anil))) (eone (ecmp op_inQ (ev 0) (eglob rfl B.PLANS B.PLANS_is) (by with_unfolding_all rfl)))))), ?_⟩
  try walk_at "rn"
  refine ⟨_, .inl (.str _), true, rfl, iteT' rfl ⟨_, seqQ_T (hm.tup B.kP), rfl, rfl, ?_⟩⟩
  rw [isPl_in]
  exact q
def isRule (os : List (Option Int)) (pl : Str) : Bool := match os with
  | [a, b, c] => wO 1 64 a && wO 3 16 b && (wO 1 64 c && isPl pl)
  | _ => false
def spRule (K : PySem.W.Frag) : Sp := fun vs H Q _ => ∃ r os pl, vs = [.ref r] ∧ tupQ K H r = some (List.map on os ++ [.str pl]) ∧ Q (.bl (isRule os pl)) H
theorem sc_is_rule : FnScope ["thing", "tray", "fan", "rows", "plan"] ["thing"] (defScope s_is_rule) := ⟨rfl, rfl, rfl, by decide +kernel, rfl, by decide +kernel, by decide +kernel⟩
theorem ok_is_rule {f : Addr} {fd : FuncData} (F : Fun K "is_rule" "is_rule" s_is_rule f fd) {aP cF cR cN : Addr} {t1 t2 t3 t4 tF : Tok} (B : B K mg aP cF cR cN t1 t2 t3 t4 tF) (C_is_whole : Callee P w K mg base "is_whole" 2 ["thing", "low", "high"] spWholeO) (C_is_plan : Callee P w K mg base "is_plan" 1 ["thing"] spPlan) : FnOk P w K mg base CX0 3 f fd ["thing"] (spRule K) := by
  refine F.okJ sc_is_rule (fun vs H Q E h => ?_) (fun cdv A outer s H vs Q E hr h => ?_)
  · obtain ⟨r, os, pl, rfl, _⟩ := h
    rfl
  obtain ⟨r, os, pl, rfl, ht, q⟩ := h
  refine ⟨_, (bcons (sif (tw (wor (tnot (tval (ecallB call_isinstQ rfl B.isinstance bt_isinstance (acons (ev 0) (acons (etyp rfl B.tuple bt_tuple) anil))))) (wor1 (tcmp op_ne (ecallB call_lenQ rfl B.len bt_len (acons (ev 0) anil)) ei (nomark _))))) (bone (sret ebl)) bnil)
      (bcons (sasg (ev 0) (gtupQ (n := 4) rfl (gcons (gname (i := 1) sc_is_rule.nd rfl (Or.inl rfl)) (gcons (gname (i := 2) sc_is_rule.nd rfl (Or.inl rfl)) (gcons (gname (i := 3) sc_is_rule.nd rfl (Or.inl rfl)) (gcons (gname (i := 4) sc_is_rule.nd rfl (Or.inl rfl)) gnil))))))
      (bcons (sif (tw (wor (tnot (tval (ecall C_is_whole (hr.mono (by decide)) rfl (acons (ev 1) (acons ei (acons (eglob rfl B.MOST_TRAY B.MOST_TRAY_is) anil)))))) (wor1 (tnot (tval (ecall C_is_whole (hr.mono (by decide)) rfl (acons (ev 2) (acons (eglob rfl B.LEAST_FAN B.LEAST_FAN_is) (acons (eglob rfl B.MOST_FAN B.MOST_FAN_is) anil))))))))) (bone (sret ebl)) bnil)
      (bone (sret (eand (ecall C_is_whole (hr.mono (by decide)) rfl (acons (ev 3) (acons ei (acons (eglob rfl B.MOST_ROWS B.MOST_ROWS_is) anil)))) (eone (ecall C_is_plan (hr.mono (by decide)) rfl (acons (ev 4) anil))))))))), ?_⟩
  simp_arith [seqQ_T ht]
  refine ⟨_, .tup ht, true, rfl, iteF' (by decide) ?_⟩
  by_cases hl : os.length = 3
  case neg =>
    refine iteT' (by simp; omega) ?_
    have : isRule os pl = false := by
      unfold isRule
      split
      · exact absurd rfl hl
      · rfl
    rw [this] at q
    exact q
  obtain ⟨a, b, c, rfl⟩ : ∃ a b c, os = [a, b, c] := by
    rcases os with _ | ⟨a, _ | ⟨b, _ | ⟨c, _ | ⟨d, os⟩⟩⟩⟩ <;> simp only [List.length_cons, List.length_nil] at hl <;> first | omega | exact ⟨_, _, _, rfl⟩
  refine iteF' (by simp) ?_
  refine ⟨_, ht, rfl, _, _, rfl, _, _, rfl, _, _, rfl, _, _, rfl, rfl, a, _, _, rfl, _, rfl, ?_⟩
  cases c1 : wO 1 64 a
  · exact iteT' (by decide) (by simpa [isRule, c1] using q)
  refine iteF' (by decide) ⟨b, _, _, rfl, _, rfl, ?_⟩
  cases c2 : wO 3 16 b
  · exact iteT' (by decide) (by simpa [isRule, c1, c2] using q)
  refine iteF' (by decide) ⟨c, _, _, rfl, _, rfl, ?_⟩
  cases c3 : wO 1 64 c
  · exact iteF' (by decide) (by simpa [isRule, c1, c2, c3] using q)
  · exact iteT' rfl ⟨pl, rfl, by simpa [isRule, c1, c2, c3] using q⟩
end
theorem lc_mapXT {α : Type} {K : PySem.W.Frag} {c D : Addr} {L : List α} {f g : α → V} {te : TE} {v0 : Option V} {rest : St} {H : Hp} {Q : Hp → Prop} (hk : tupQ K H c = some (L.map f)) (nD : new K H D) (hz : L.length ≤ 1000)
    (elt : ∀ q ∈ L, ∀ H' (Q : VK), Ext K H H' → (∀ H'', Ext K H' H'' → Q (g q) H'') → te (some (f q) :: rest) H' Q)
    (fin : ∀ H', H' D = some (.lst (L.map g)) → Ext K H H' → Q H') : LcLoop (Itt K c) (gName 0) tYes te D Q (v0 :: rest) (upd H D (.lst [])) := by
  refine lc_tup (xs := L.map f) (fun i acc σ' H' => ∃ (v0 : Option V), σ' = v0 :: rest ∧ H' D = some (.lst acc) ∧ acc = (L.take i).map g ∧ Kp K D (upd H D (.lst [])) H') ?_ ?_ ?_ ?_
  · exact ⟨_, rfl, upd_same, rfl, Kp.refl⟩
  · rintro i acc σ' H' _ ⟨v0, rfl, hD, rfl, k⟩
    exact tupQ_sq ((k.ext nD).tup hk)
  · rintro i x acc σ' H' hx ⟨v0, rfl, hD, rfl, k⟩
    rw [List.getElem?_map] at hx
    obtain ⟨q, ek, rfl⟩ := Option.map_eq_some_iff.mp hx
    have hlen : ((L.take i).map g).length ≤ 1000 := by rw [List.length_map, List.length_take]; omega
    unfold gName tYes
    refine iteT ?_
    refine elt q (List.mem_of_getElem? ek) H' _ (k.ext nD) fun H'' x'' => ⟨x''.at hD, Nat.lt_of_le_of_lt hlen (by decide), _, rfl, upd_same, ?_, k.trans (x''.kp.trans (Kp.upd (x''.at hD)))⟩
    rw [List.take_add_one, ek, Option.toList_some, List.map_append]
    rfl
  · rintro acc σ' H' ⟨v0, rfl, hD, rfl, k⟩
    rw [List.length_map, List.take_length] at hD
    exact fin H' hD (k.ext nD)
def numT (i : Int) : Str := Str.ofString (toString i)
theorem numT_len {i : Int} (h : i.natAbs < 10 ^ 100) : (numT i).length ≤ 101 := by
  unfold numT
  rw [PySem.ofString_length]
  exact int_text_length_le10 (by decide) h
theorem num_log {i : Int} (h : i.natAbs < 10 ^ 100) : i.natAbs.log2 < 1920 := by
  by_cases e : i.natAbs = 0
  · rw [e]; decide
  · exact Nat.lt_trans ((Nat.log2_lt (k := 400) e).2 (Nat.lt_trans h (by decide))) (by decide)
theorem lenAll_le {sep : Str} {m : Nat} (ts : List Str) (h : ∀ t ∈ ts, t.length ≤ m) : lenAll sep ts ≤ ts.length * (m + sep.length) := by
  have e : ∀ (ts : List Str) (k : Nat), (∀ t ∈ ts, t.length ≤ m) → ts.foldl (fun n x => n + x.length + sep.length) k ≤ k + ts.length * (m + sep.length) := by
    intro ts
    induction ts with
    | nil => intro k _; simp
    | cons x r ih =>
      intro k h
      rw [List.foldl_cons, List.length_cons, Nat.add_mul]
      have h1 := ih (k + x.length + sep.length) fun t m => h t (List.mem_cons_of_mem _ m)
      have h2 := h x List.mem_cons_self
      omega
  have := e ts 0 h
  unfold lenAll
  omega
theorem join_le {sep : Str} {m : Nat} : ∀ (ts : List Str), (∀ t ∈ ts, t.length ≤ m) → (Str.join sep ts).length ≤ ts.length * (m + sep.length)
  | [], _ => by simp [Str.join, Str.empty, Str.length]
  | [x], h => by
    have := h x List.mem_cons_self
    show x.length ≤ 1 * (m + sep.length)
    omega
  | x :: y :: r, h => by
    have e := join_le (sep := sep) (y :: r) fun t m => h t (List.mem_cons_of_mem _ m)
    have h2 := h x List.mem_cons_self
    show (x ++ sep ++ Str.join sep (y :: r)).length ≤ _
    rw [Str.length_append, Str.length_append, List.length_cons (a := x), Nat.add_mul]
    omega
theorem str_ext {x y : Str} (h : x.cps.toList = y.cps.toList) : x = y := by
  cases x; cases y
  simp only at h
  rw [Array.toList_inj.mp h]
theorem join_cps (c : Nat) (x y : Str) (r : List Str) : (Str.join ⟨#[c]⟩ (x :: y :: r)).cps.toList = x.cps.toList ++ c :: (Str.join ⟨#[c]⟩ (y :: r)).cps.toList := by
  show (x ++ ⟨#[c]⟩ ++ Str.join ⟨#[c]⟩ (y :: r)).cps.toList = _
  rw [app_cps, app_cps]
  simp
theorem split_ne (x : Str) (c : Nat) : Txt.split x ⟨#[c]⟩ ≠ [] := by
  unfold Txt.split
  split
  · simp
  · split
    · simp
    · rw [StrLaws.partsBetween_eq]
      cases Builtin.Str.occurrences x ⟨#[c]⟩ 0 x.length (x.length + 1) <;> simp [StrLaws.partsFrom]
theorem blank_is : Str.ofString " " = ⟨#[32]⟩ := by decide +kernel
theorem toDigits_head : ∀ m : Nat, 0 < m → (Nat.toDigits 10 m).head? ≠ some '0' := by
  intro m
  induction m using Nat.strongRecOn with
  | _ m ih =>
    intro hm
    by_cases h : m < 10
    · rw [Nat.toDigits_of_lt_base h]
      have : ∀ d, d < 10 → 0 < d → ([Nat.digitChar d] : List Char).head? ≠ some '0' := by decide
      exact this m h hm
    · have e := Nat.toDigits_append_toDigits (b := 10) (n := m / 10) (d := m % 10) (by decide) (by omega) (by omega)
      rw [show 10 * (m / 10) + m % 10 = m by omega] at e
      rw [← e]
      have := ih (m / 10) (by omega) (by omega)
      cases q : Nat.toDigits 10 (m / 10) with
      | nil => have := PySem.toDigits_len_ge 10 (m / 10); rw [q] at this; simp at this
      | cons a r => rw [q] at this; simpa using this
theorem nat_signs (m : Nat) (h : m < 10 ^ 60) : let l := (Nat.toDigits 10 m).map Char.toNat; l ≠ [] ∧ l.all isFig = true ∧ l.length ≤ 60 ∧ (l.head? = some 48 → l = [48]) ∧ NumText.digitsVal l = m := by
  refine ⟨?_, ?_, ?_, ?_, PySem.W.KIN.val_back m⟩
  · intro e
    have := PySem.toDigits_len_ge 10 m
    rw [List.map_eq_nil_iff.mp e] at this
    simp at this
  · rw [List.all_eq_true]
    intro c hc
    obtain ⟨ch, hch, e⟩ := List.mem_map.mp hc
    have r := PyProof.Rows.digit_range (Nat.isDigit_of_mem_toDigits (by decide) (by decide) hch)
    rw [← e]
    simp only [isFig, Bool.and_eq_true, decide_eq_true_eq]
    exact r
  · rw [List.length_map]
    have := PySem.digitsCore_len_pow 10 (by decide) 60 (m + 1) m [] (by decide) h
    simpa [Nat.toDigits] using this
  · intro e
    by_cases z : m = 0
    · subst z; decide
    · exfalso
      have := toDigits_head m (by omega)
      cases q : Nat.toDigits 10 m with
      | nil => rw [q] at e; simp at e
      | cons a r =>
        rw [q] at e this
        simp only [List.map_cons, List.head?_cons, Option.some.injEq] at e this
        exact this (congrArg some (Char.toNat_inj.mp (e.trans (by decide))))
theorem num_cps (i : Int) : (numT i).cps.toList = if i < 0 then 45 :: (Nat.toDigits 10 i.natAbs).map Char.toNat else (Nat.toDigits 10 i.natAbs).map Char.toNat := by
  unfold numT
  cases i with
  | ofNat m =>
    rw [if_neg (by simp)]
    exact PySem.W.KIN.signs_num m
  | negSucc m =>
    rw [if_pos (by omega), PyProof.Rows.signs_ofString]
    show ("-" ++ Nat.repr (m + 1)).toList.map Char.toNat = _
    rw [String.toList_append, List.map_append, Nat.toList_repr]
    rfl
theorem digits_lt {cs : List Nat} (h : NumText.AllDigits cs) : NumText.digitsVal cs < 10 ^ cs.length := by
  have key : ∀ (cs : List Nat) (a : Nat), NumText.AllDigits cs → cs.foldl (fun acc c => acc * 10 + (c - 48)) a < (a + 1) * 10 ^ cs.length := by
    intro cs
    induction cs with
    | nil => intro a _; simp
    | cons c r ih =>
      intro a h
      have h1 := h.head
      have h2 := ih (a * 10 + (c - 48)) h.tail
      rw [List.foldl_cons, List.length_cons, Nat.pow_succ]
      refine Nat.lt_of_lt_of_le h2 ?_
      rw [show (a + 1) * (10 ^ r.length * 10) = (a * 10 + 10) * 10 ^ r.length from by rw [Nat.mul_comm (10 ^ r.length), ← Nat.mul_assoc, Nat.add_mul, Nat.one_mul]]
      exact Nat.mul_le_mul_right _ (by omega)
  have := key cs 0 h
  rw [Nat.zero_add, Nat.one_mul] at this
  exact this
theorem fig_small {l : List Nat} (h : figL l = true) : (figV l).natAbs < 10 ^ 60 := by
  obtain ⟨h1, h2, h3, h4⟩ := figL_of h
  have key : ∀ cs : List Nat, NumText.AllDigits cs → cs.length ≤ 60 → NumText.digitsVal cs < 10 ^ 60 := fun cs a b => Nat.lt_of_lt_of_le (digits_lt a) (Nat.pow_le_pow_right (by decide) b)
  by_cases hh : l.head? = some 45
  · cases l with
    | nil => cases hh
    | cons c r =>
      simp only [List.head?_cons, Option.some.injEq] at hh
      subst hh
      have := key r h2 h3
      show (-((NumText.digitsVal r : Nat) : Int)).natAbs < _
      omega
  · rw [bareL_ne hh] at h2 h3
    rw [figV_ne hh]
    have := key l h2 h3
    omega
theorem join_len {c : Nat} : ∀ {ps : List Str}, ps.length ≤ (Str.join ⟨#[c]⟩ ps).length + 1 ∧ ∀ p ∈ ps, p.length ≤ (Str.join ⟨#[c]⟩ ps).length
  | [] => by simp
  | [x] => by
    refine ⟨by simp, fun p hp => ?_⟩
    rw [List.mem_singleton.mp hp]
    exact Nat.le_refl _
  | x :: y :: r => by
    obtain ⟨h1, h2⟩ := join_len (c := c) (ps := y :: r)
    have e : (Str.join ⟨#[c]⟩ (x :: y :: r)).length = x.length + 1 + (Str.join ⟨#[c]⟩ (y :: r)).length := by
      show (x ++ ⟨#[c]⟩ ++ Str.join ⟨#[c]⟩ (y :: r)).length = _
      rw [Str.length_append, Str.length_append]
      rfl
    rw [e, List.length_cons]
    refine ⟨by omega, fun p hp => ?_⟩
    rcases List.mem_cons.mp hp with rfl | hp
    · omega
    · have := h2 p hp
      omega
theorem lc_mapY {α : Type} {K : PySem.W.Frag} {c D : Addr} {L : List α} {f g : α → V} {te : TE} {v0 : Option V} {rest : St} {H : Hp} {Q : Hp → Prop} (hk : SqL K H c (L.map f)) (nD : new K H D) (hz : L.length ≤ 16000000)
    (elt : ∀ q ∈ L, ∀ H' (Q : VK), Ext K H H' → (∀ H'', Ext K H' H'' → Q (g q) H'') → te (some (f q) :: rest) H' Q)
    (fin : ∀ H', H' D = some (.lst (L.map g)) → Ext K H H' → Q H') : LcLoop (Itl K c) (gName 0) tYes te D Q (v0 :: rest) (upd H D (.lst [])) := by
  refine lc_list (xs := L.map f) (fun i acc σ' H' => ∃ (v0 : Option V), σ' = v0 :: rest ∧ H' D = some (.lst acc) ∧ acc = (L.take i).map g ∧ Kp K D (upd H D (.lst [])) H') ?_ ?_ ?_ ?_
  · exact ⟨_, rfl, upd_same, rfl, Kp.refl⟩
  · rintro i acc σ' H' _ ⟨v0, rfl, hD, rfl, k⟩
    exact (k.ext nD).same.seq hk
  · rintro i x acc σ' H' hx ⟨v0, rfl, hD, rfl, k⟩
    rw [List.getElem?_map] at hx
    obtain ⟨q, ek, rfl⟩ := Option.map_eq_some_iff.mp hx
    have hlen : ((L.take i).map g).length ≤ 16000000 := by rw [List.length_map, List.length_take]; omega
    unfold gName tYes
    refine iteT ?_
    refine elt q (List.mem_of_getElem? ek) H' _ (k.ext nD) fun H'' x'' => ⟨x''.at hD, Nat.lt_of_le_of_lt hlen (by decide), _, rfl, upd_same, ?_, k.trans (x''.kp.trans (Kp.upd (x''.at hD)))⟩
    rw [List.take_add_one, ek, Option.toList_some, List.map_append]
    rfl
  · rintro acc σ' H' ⟨v0, rfl, hD, rfl, k⟩
    rw [List.length_map, List.take_length] at hD
    exact fin H' hD (k.ext nD)
theorem comma_is : Str.ofString "," = ⟨#[44]⟩ := by decide +kernel
theorem split_lenC (t : Str) (c : Nat) : (Txt.split t ⟨#[c]⟩).length ≤ t.length + 1 ∧ ∀ p ∈ Txt.split t ⟨#[c]⟩, p.length ≤ t.length := by
  have := join_len (c := c) (ps := Txt.split t ⟨#[c]⟩)
  rw [StrLaws.join_split] at this
  exact this
section
variable {P : Program} {w : World} {K : PySem.W.Frag} {mg : Str → Option Value} {base : Heap}
def spAre : Sp := fun vs H Q _ => ∃ t : Str, vs = [.str t] ∧ t.length ≤ 16777216 ∧ Q (.bl (Txt.isascii t && Txt.isdigit t && decide (t.length ≤ 60))) H
def spRF : Sp := fun vs H Q _ => ∃ t : Str, vs = [.str t] ∧ t.length ≤ 16777216 ∧ Q (on (readFig t)) H
theorem sc_are_figures : FnScope ["text"] ["text"] (defScope s_are_figures) := ⟨rfl, rfl, rfl, by decide +kernel, rfl, by decide +kernel, by decide +kernel⟩
theorem ok_are_figures {f : Addr} {fd : FuncData} (F : Fun K "are_figures" "are_figures" s_are_figures f fd) {aP cF cR cN : Addr} {t1 t2 t3 t4 tF : Tok} (B : B K mg aP cF cR cN t1 t2 t3 t4 tF) : FnOk P w K mg base CX0 1 f fd ["text"] spAre := by
  refine F.okJ sc_are_figures (fun vs H Q E h => ?_) (fun cdv A outer s H vs Q E hr h => ?_)
  · obtain ⟨t, rfl, _⟩ := h
    rfl
  obtain ⟨t, rfl, hl, q⟩ := h
  refine ⟨_, (bone (sret (eand (ebm0 PySem.F.plainAttrs_str PySem.F.slot_str_isascii PySem.F.type_str_isascii mt_isascii (ev 0)) (eand (ebm0 PySem.F.plainAttrs_str PySem.F.slot_str_isdigit PySem.F.type_str_isdigit mt_isdigit (ev 0)) (eone (ecmp op_le (ecallB call_len_str rfl B.len bt_len (acons (ev 0) anil)) (eglob rfl B.MOST_FIGURES B.MOST_FIGURES_is) (nomark _))))))), ?_⟩
  try walk_at "rn"
  cases h1 : Txt.isascii t
  · rw [h1] at q
    exact iteF' (by decide) q
  cases h2 : Txt.isdigit t
  · rw [h1, h2] at q
    exact iteT' rfl (iteF' (by decide) q)
  · rw [h1, h2] at q
    refine iteT' rfl (iteT' rfl ⟨hl, ?_⟩)
    rw [show decide ((t.length : Int) ≤ 60) = (true && true && decide (t.length ≤ 60)) from by simp only [Bool.true_and]; exact decide_eq_decide.mpr (by omega)]
    exact q
theorem bare_len (t : Str) : (Txt.removeprefix t (Str.ofString "-")).length = (bareL t.cps.toList).length := by rw [← bare_cps]; simp [Str.length]
theorem bareL_le : ∀ l : List Nat, (bareL l).length ≤ l.length := by
  intro l
  unfold bareL
  split
  · simp
  · exact Nat.le_refl _
theorem are_eq (t : Str) : (Txt.isascii (Txt.removeprefix t (Str.ofString "-")) && Txt.isdigit (Txt.removeprefix t (Str.ofString "-")) && decide ((Txt.removeprefix t (Str.ofString "-")).length ≤ 60)) = (!(bareL t.cps.toList).isEmpty && (bareL t.cps.toList).all isFig && decide ((bareL t.cps.toList).length ≤ 60)) := by
  rw [figs_of, bare_cps, bare_len]
theorem str_one {c : Nat} : (⟨#[c]⟩ : Str) = Str.ofString "0" ↔ c = 48 := by
  constructor
  · intro h
    have := congrArg (fun s : Str => s.cps.toList) h
    have h0 : (Str.ofString "0").cps.toList = [48] := by decide +kernel
    simp only [h0] at this
    simpa using this
  · intro h
    subst h
    exact str_ext (by decide +kernel)
theorem is_zero {t : Str} : t.cps.toList = [48] ↔ t = Str.ofString "0" := by
  constructor
  · intro h
    exact str_ext (by rw [h]; decide +kernel)
  · intro h
    subst h
    decide +kernel
theorem sc_read_figures : FnScope ["text", "bare"] ["text"] (defScope s_read_figures) := ⟨rfl, rfl, rfl, by decide +kernel, rfl, by decide +kernel, by decide +kernel⟩
theorem ok_read_figures {f : Addr} {fd : FuncData} (F : Fun K "read_figures" "read_figures" s_read_figures f fd) {aP cF cR cN : Addr} {t1 t2 t3 t4 tF : Tok} (B : B K mg aP cF cR cN t1 t2 t3 t4 tF) (C_are_figures : Callee P w K mg base "are_figures" 1 ["text"] spAre) : FnOk P w K mg base CX0 2 f fd ["text"] spRF := by
  refine F.okJ sc_read_figures (fun vs H Q E h => ?_) (fun cdv A outer s H vs Q E hr h => ?_)
  · obtain ⟨t, rfl, _⟩ := h
    rfl
  obtain ⟨t, rfl, ht, q⟩ := h
  have hbl := bare_len t
  have hle := bareL_le t.cps.toList
  have hl : t.length = t.cps.toList.length := by simp [Str.length]
  refine ⟨_, (bcons (sif (tnot (tval (ecallB call_isinstQ rfl B.isinstance bt_isinstance (acons (ev 0) (acons (etyp rfl B.str bt_str) anil))))) (bone (sret enon)) bnil)
      (bcons (sset (i := 1) sc_read_figures.nd rfl (Or.inl rfl) (ebm PySem.F.plainAttrs_str PySem.F.slot_str_removeprefix PySem.F.type_str_removeprefix mt_removeprefix (ev 0) (acons estr anil)))
      (bcons (sif (tnot (tval (ecall C_are_figures (hr.mono (by decide)) rfl (acons (ev 1) anil)))) (bone (sret enon)) bnil)
      (bcons (sif (tw (wand (tcmp op_eq (eix ix_str (ev 1) ei (fun _ _ => rfl)) estr (nomark _)) (wand1 (tcmp op_ne (ev 0) estr (nomark _))))) (bone (sret enon)) bnil)
      (bone (sret (ecallTy call_intT rfl B.int bt_int (acons (ev 0) anil)))))))), ?_⟩
  try walk_at "rn"
  refine ⟨_, .inl (.str _), true, rfl, iteF' (by decide) ⟨by omega, _, rfl, by omega, _, rfl, ?_⟩⟩
  rw [are_eq]
  unfold readFig at q
  cases ca : (!(bareL t.cps.toList).isEmpty && (bareL t.cps.toList).all isFig && decide ((bareL t.cps.toList).length ≤ 60))
  · refine iteT' (by decide) ?_
    rw [if_neg (by unfold figL; rw [ca]; simp)] at q
    exact q
  refine iteF' (by decide) ?_
  have ne : bareL t.cps.toList ≠ [] := by
    simp only [Bool.and_eq_true, Bool.not_eq_true', List.isEmpty_eq_false_iff] at ca
    exact ca.1.1
  have fin : figL t.cps.toList = true → ∃ x, intText? t = some x ∧ t.length ≤ 640 ∧ Q (V.int x) H := fun hf => by
    rw [if_pos hf] at q
    exact ⟨_, fig_int hf, by have := fig_len hf; omega, q⟩
  refine ⟨by omega, ?_⟩
  rw [bare_cps]
  cases e : bareL t.cps.toList with
  | nil => exact absurd e ne
  | cons c r =>
    refine ⟨c, atI_0, ?_⟩
    by_cases hc : c = 48
    · rw [if_pos (str_one.mpr hc)]
      by_cases hz : t = Str.ofString "0"
      · rw [decide_eq_true hz]
        exact iteF' (by decide) (fin (by unfold figL; rw [ca, is_zero.mpr hz]; decide))
      · rw [decide_eq_false hz]
        refine iteT' (by decide) ?_
        rw [if_neg (by unfold figL; rw [ca, e, hc]; simp [show t.cps.toList ≠ [48] from fun z => hz (is_zero.mp z)])] at q
        exact q
    · rw [if_neg (fun z => hc (str_one.mp z))]
      exact fin (by unfold figL; rw [ca, e]; simp [hc])
def spFig : Sp := fun vs H Q _ => ∃ i : Int, vs = [.int i] ∧ i.natAbs < 10 ^ 100 ∧ Q (.str (numT i)) H
theorem sc_figures_of : FnScope ["number"] ["number"] (defScope s_figures_of) := ⟨rfl, rfl, rfl, by decide +kernel, rfl, by decide +kernel, by decide +kernel⟩
theorem ok_figures_of {f : Addr} {fd : FuncData} (F : Fun K "figures_of" "figures_of" s_figures_of f fd) {aP cF cR cN : Addr} {t1 t2 t3 t4 tF : Tok} (B : B K mg aP cF cR cN t1 t2 t3 t4 tF)  : FnOk P w K mg base CX0 1 f fd ["number"] spFig := by
  refine F.okJ sc_figures_of (fun vs H Q E h => ?_) (fun cdv A outer s H vs Q E hr h => ?_)
  · obtain ⟨i, rfl, _⟩ := h
    rfl
  obtain ⟨i, rfl, h, q⟩ := h
  refine ⟨_, (bone (sret (ecallTy call_str_int rfl B.str bt_str (acons (ev 0) anil)))), ?_⟩
  try walk_at "rn"
  exact ⟨num_log h, q⟩
end
def small60 (ns : List Int) : Prop := ∀ i ∈ ns, i.natAbs < 10 ^ 60
def listT (g : Str) (ts : List Str) : Str := if ts = [] then Str.ofString "-" else Str.join g ts
def numsT (ns : List Int) : Str := listT (Str.ofString ",") (ns.map numT)
def ruleT (a b c : Int) (pl : Str) : Str := Str.join (Str.ofString ",") [numT a, numT b, numT c, pl]
def headT (n1 n2 n3 n4 a b c : Int) (pl : Str) (ms : List Int) : Str := Str.join (Str.ofString " ") [Str.ofString "head", numT n1, numT n2, numT n3, numT n4, ruleT a b c pl, numsT ms]
theorem n100 {i : Int} (h : i.natAbs < 10 ^ 60) : i.natAbs < 10 ^ 100 := Nat.lt_trans h (by decide)
theorem ruleT_len {a b c : Int} {pl : Str} (h : small60 [a, b, c]) (hp : pl.length ≤ 101) : (ruleT a b c pl).length ≤ 408 := by
  have l0 : ∀ t ∈ [numT a, numT b, numT c, pl], t.length ≤ 101 := by
    intro t ht
    simp only [List.mem_cons, List.not_mem_nil, or_false] at ht
    rcases ht with rfl | rfl | rfl | rfl
    · exact numT_len (n100 (h a (by simp)))
    · exact numT_len (n100 (h b (by simp)))
    · exact numT_len (n100 (h c (by simp)))
    · exact hp
  have l2 := join_le (sep := Str.ofString ",") _ l0
  rw [show (Str.ofString ",").length = 1 from by decide +kernel] at l2
  simp only [List.length_cons, List.length_nil] at l2
  unfold ruleT
  omega
theorem numsT_len {ms : List Int} (h : small60 ms) : (numsT ms).length ≤ ms.length * 102 + 1 := by
  unfold numsT listT
  split
  · have : (Str.ofString "-").length = 1 := by decide +kernel
    omega
  · have l2 := join_le (sep := Str.ofString ",") (m := 101) (ms.map numT) (fun t ht => by
      obtain ⟨i, hi, rfl⟩ := List.mem_map.mp ht
      exact numT_len (n100 (h i hi)))
    rw [show (Str.ofString ",").length = 1 from by decide +kernel, List.length_map] at l2
    omega
theorem headT_len {n1 n2 n3 n4 a b c : Int} {pl : Str} {ms : List Int} (h1 : small60 [n1, n2, n3, n4]) (h2 : small60 [a, b, c]) (hp : pl.length ≤ 101) (h3 : small60 ms) :
    lenAll (Str.ofString " ") [Str.ofString "head", numT n1, numT n2, numT n3, numT n4, ruleT a b c pl, numsT ms] ≤ ms.length * 102 + 900 ∧ (headT n1 n2 n3 n4 a b c pl ms).length ≤ ms.length * 102 + 900 := by
  have q1 := numT_len (n100 (h1 n1 (by simp)))
  have q2 := numT_len (n100 (h1 n2 (by simp)))
  have q3 := numT_len (n100 (h1 n3 (by simp)))
  have q4 := numT_len (n100 (h1 n4 (by simp)))
  have q5 := ruleT_len h2 hp
  have q6 := numsT_len h3
  have l1 : (Str.ofString " ").length = 1 := by decide +kernel
  have l4 : (Str.ofString "head").length = 4 := by decide +kernel
  constructor
  · simp only [lenAll, List.foldl_cons, List.foldl_nil]
    omega
  · have e : headT n1 n2 n3 n4 a b c pl ms = Str.ofString "head" ++ Str.ofString " " ++ (numT n1 ++ Str.ofString " " ++ (numT n2 ++ Str.ofString " " ++ (numT n3 ++ Str.ofString " " ++ (numT n4 ++ Str.ofString " " ++ (ruleT a b c pl ++ Str.ofString " " ++ numsT ms))))) := rfl
    rw [e]
    simp only [Str.length_append]
    omega
section
variable {P : Program} {w : World} {K : PySem.W.Frag} {mg : Str → Option Value} {base : Heap}
def spLT (K : PySem.W.Frag) : Sp := fun vs H Q _ => ∃ D ts g, vs = [.ref D, .str g] ∧ SqL K H D (List.map V.str ts) ∧ g.length = 1 ∧ ts.length ≤ 120000 ∧ (∀ t ∈ ts, t.length ≤ 101) ∧ Q (.str (listT g ts)) H
theorem sc_list_text : FnScope ["texts", "sign"] ["texts", "sign"] (defScope s_list_text) := ⟨rfl, rfl, rfl, by decide +kernel, rfl, by decide +kernel, by decide +kernel⟩
theorem ok_list_text {f : Addr} {fd : FuncData} (F : Fun K "list_text" "list_text" s_list_text f fd) {aP cF cR cN : Addr} {t1 t2 t3 t4 tF : Tok} (B : B K mg aP cF cR cN t1 t2 t3 t4 tF) : FnOk P w K mg base CX0 1 f fd ["texts", "sign"] (spLT K) := by
  refine F.okJ sc_list_text (fun vs H Q E h => ?_) (fun cdv A outer s H vs Q E hr h => ?_)
  · obtain ⟨D, ts, g, rfl, _⟩ := h
    rfl
  obtain ⟨D, ts, g, rfl, hD, hg, hl, ht, q⟩ := h
  refine ⟨_, (bone (sret (eif (ttruth (ev 0) (fun _ => rfl)) (ebm PySem.F.plainAttrs_str PySem.F.slot_str_join PySem.F.type_str_join mt_join (ev 1) (acons (ev 0) anil)) estr))), ?_⟩
  try walk_at "rn"
  refine ⟨_, .inl ⟨_, hD, rfl⟩, ?_⟩
  unfold listT at q
  by_cases e : ts = []
  · subst e
    rw [if_pos rfl] at q
    exact iteF' (by simp) q
  · rw [if_neg e] at q
    have l1 := lenAll_le (sep := g) ts ht
    have l2 := join_le (sep := g) ts ht
    rw [hg] at l1 l2
    have : ts.length * 102 ≤ 120000 * 102 := Nat.mul_le_mul_right _ hl
    exact iteT' (by simp [e]) ⟨ts, hD, by omega, by omega, q⟩
def spNT (K : PySem.W.Frag) : Sp := fun vs H Q _ => ∃ D ns, vs = [.ref D] ∧ SqL K H D (List.map V.int ns) ∧ ns.length ≤ 120000 ∧ small60 ns ∧ ∀ H', Ext K H H' → Q (.str (numsT ns)) H'
theorem sc_numbers_text : FnScope ["numbers"] ["numbers"] (defScope s_numbers_text) := ⟨rfl, rfl, rfl, by decide +kernel, rfl, by decide +kernel, by decide +kernel⟩
theorem ok_numbers_text {f : Addr} {fd : FuncData} (F : Fun K "numbers_text" "numbers_text" s_numbers_text f fd) {aP cF cR cN : Addr} {t1 t2 t3 t4 tF : Tok} (B : B K mg aP cF cR cN t1 t2 t3 t4 tF) (C_figures_of : Callee P w K mg base "figures_of" 1 ["number"] spFig) (C_list_text : Callee P w K mg base "list_text" 1 ["texts", "sign"] (spLT K)) : FnOk P w K mg base CX0 2 f fd ["numbers"] (spNT K) := by
  refine F.okJ sc_numbers_text (fun vs H Q E h => ?_) (fun cdv A outer s H vs Q E hr h => ?_)
  · obtain ⟨D, ns, rfl, _⟩ := h
    rfl
  obtain ⟨D, ns, rfl, hD, hl, hs, q⟩ := h
  refine ⟨_, (bone (sret (ecall C_list_text (hr.mono (by decide)) rfl (acons (elc (Cap.mk (N := ["number"]) (src := [none]) rfl rfl) rfl (ilist (ev 0)) (fun _ _ _ _ => (gname (i := 0) (show (["number"] : List Str).Nodup from by decide +kernel) rfl (Or.inl rfl))) (fun _ _ _ _ => fnone) (fun _ _ _ _ => (ecall C_figures_of (hr.mono (by decide)) rfl (acons (ev 0) anil)))) (acons estr anil))))), ?_⟩
  try walk_at "rn"
  refine ⟨⟨_, hD⟩, fun D1 n1 => lc_mapY (f := V.int) (g := fun i => V.str (numT i)) hD n1 (by omega) (fun i hi H' Q' xx qq => ?_) (fun H1 h1 x1 => ?_)⟩
  · try walk_at "rn"
    exact ⟨i, rfl, n100 (hs i hi), qq _ Ext.refl⟩
  refine ⟨D1, ns.map numT, _, rfl, SqL.of (by rw [h1, List.map_map]; rfl), by decide +kernel, by rw [List.length_map]; exact hl, fun t ht => ?_, q _ x1⟩
  obtain ⟨i, hi, rfl⟩ := List.mem_map.mp ht
  exact numT_len (n100 (hs i hi))
def spRT (K : PySem.W.Frag) : Sp := fun vs H Q _ => ∃ T a b c pl, vs = [.ref T] ∧ tupQ K H T = some [.int a, .int b, .int c, .str pl] ∧ small60 [a, b, c] ∧ pl.length ≤ 101 ∧ ∀ H', Ext K H H' → Q (.str (ruleT a b c pl)) H'
theorem sc_rule_text : FnScope ["rule", "tray", "fan", "rows", "plan"] ["rule"] (defScope s_rule_text) := ⟨rfl, rfl, rfl, by decide +kernel, rfl, by decide +kernel, by decide +kernel⟩
theorem ok_rule_text {f : Addr} {fd : FuncData} (F : Fun K "rule_text" "rule_text" s_rule_text f fd) {aP cF cR cN : Addr} {t1 t2 t3 t4 tF : Tok} (B : B K mg aP cF cR cN t1 t2 t3 t4 tF) (C_figures_of : Callee P w K mg base "figures_of" 1 ["number"] spFig) : FnOk P w K mg base CX0 2 f fd ["rule"] (spRT K) := by
  refine F.okJ sc_rule_text (fun vs H Q E h => ?_) (fun cdv A outer s H vs Q E hr h => ?_)
  · obtain ⟨T, a, b, c, pl, rfl, _⟩ := h
    rfl
  obtain ⟨T, a, b, c, pl, rfl, hT, hs, hp, q⟩ := h
  refine ⟨_, (bcons (sasg (ev 0) (gtupQ (n := 4) rfl (gcons (gname (i := 1) sc_rule_text.nd rfl (Or.inl rfl)) (gcons (gname (i := 2) sc_rule_text.nd rfl (Or.inl rfl)) (gcons (gname (i := 3) sc_rule_text.nd rfl (Or.inl rfl)) (gcons (gname (i := 4) sc_rule_text.nd rfl (Or.inl rfl)) gnil))))))
      (bone (sret (ebm PySem.F.plainAttrs_str PySem.F.slot_str_join PySem.F.type_str_join mt_join estr (acons (elstQ (acons (ecall C_figures_of (hr.mono (by decide)) rfl (acons (ev 1) anil)) (acons (ecall C_figures_of (hr.mono (by decide)) rfl (acons (ev 2) anil)) (acons (ecall C_figures_of (hr.mono (by decide)) rfl (acons (ev 3) anil)) (acons (ev 4) anil))))) anil))))), ?_⟩
  try walk_at "rn"
  have ha := n100 (hs a (by simp))
  have hb := n100 (hs b (by simp))
  have hc := n100 (hs c (by simp))
  refine ⟨_, hT, rfl, _, _, rfl, _, _, rfl, _, _, rfl, _, _, rfl, rfl, a, rfl, ha, b, rfl, hb, c, rfl, hc, fun p np => ⟨[numT a, numT b, numT c, pl], SqL.of upd_same, ?_, ?_, q _ (Ext.new np)⟩⟩
  all_goals
    have l0 : ∀ t ∈ [numT a, numT b, numT c, pl], t.length ≤ 101 := by
      intro t ht
      simp only [List.mem_cons, List.not_mem_nil, or_false] at ht
      rcases ht with rfl | rfl | rfl | rfl
      · exact numT_len ha
      · exact numT_len hb
      · exact numT_len hc
      · exact hp
    have l1 := lenAll_le (sep := Str.ofString ",") _ l0
    have l2 := join_le (sep := Str.ofString ",") _ l0
    rw [show (Str.ofString ",").length = 1 from by decide +kernel] at l1 l2
    simp only [List.length_cons, List.length_nil] at l1 l2
    omega
def spHT (K : PySem.W.Frag) : Sp := fun vs H Q _ => ∃ T n1 n2 n3 n4 R a b c pl M ms, vs = [.ref T] ∧ tupQ K H T = some [.int n1, .int n2, .int n3, .int n4, .ref R, .ref M] ∧ tupQ K H R = some [.int a, .int b, .int c, .str pl] ∧ SqL K H M (List.map V.int ms) ∧
  small60 [n1, n2, n3, n4] ∧ small60 [a, b, c] ∧ pl.length ≤ 101 ∧ small60 ms ∧ ms.length ≤ 120000 ∧ ∀ H', Ext K H H' → Q (.str (headT n1 n2 n3 n4 a b c pl ms)) H'
theorem sc_head_text : FnScope ["head", "series", "last", "fresh", "place", "rule", "marks", "numbers"] ["head"] (defScope s_head_text) := ⟨rfl, rfl, rfl, by decide +kernel, rfl, by decide +kernel, by decide +kernel⟩
theorem ok_head_text {f : Addr} {fd : FuncData} (F : Fun K "head_text" "head_text" s_head_text f fd) {aP cF cR cN : Addr} {t1 t2 t3 t4 tF : Tok} (B : B K mg aP cF cR cN t1 t2 t3 t4 tF) (C_figures_of : Callee P w K mg base "figures_of" 1 ["number"] spFig) (C_rule_text : Callee P w K mg base "rule_text" 2 ["rule"] (spRT K)) (C_numbers_text : Callee P w K mg base "numbers_text" 2 ["numbers"] (spNT K)) : FnOk P w K mg base CX0 3 f fd ["head"] (spHT K) := by
  refine F.okJ sc_head_text (fun vs H Q E h => ?_) (fun cdv A outer s H vs Q E hr h => ?_)
  · obtain ⟨T, n1, n2, n3, n4, R, a, b, c, pl, M, ms, rfl, _⟩ := h
    rfl
  obtain ⟨T, n1, n2, n3, n4, R, a, b, c, pl, M, ms, rfl, hT, hR, hM, h1, h2, hp, h3, hl, q⟩ := h
  refine ⟨_, (bcons (sasg (ev 0) (gtupQ (n := 6) rfl (gcons (gname (i := 1) sc_head_text.nd rfl (Or.inl rfl)) (gcons (gname (i := 2) sc_head_text.nd rfl (Or.inl rfl)) (gcons (gname (i := 3) sc_head_text.nd rfl (Or.inl rfl)) (gcons (gname (i := 4) sc_head_text.nd rfl (Or.inl rfl)) (gcons (gname (i := 5) sc_head_text.nd rfl (Or.inl rfl)) (gcons (gname (i := 6) sc_head_text.nd rfl (Or.inl rfl)) gnil))))))))
      (bcons (slc (i := 7) sc_head_text.nd rfl (Or.inl rfl) (Cap.mk (N := ["number"]) (src := [none]) rfl rfl) rfl (itup (etupQ (acons (ev 1) (acons (ev 2) (acons (ev 3) (acons (ev 4) anil)))))) (fun _ _ _ _ => (gname (i := 0) (show (["number"] : List Str).Nodup from by decide +kernel) rfl (Or.inl rfl))) (fun _ _ _ _ => fnone) (fun _ _ _ _ => (ecall C_figures_of (hr.mono (by decide)) rfl (acons (ev 0) anil))))
      (bone (sret (ebm PySem.F.plainAttrs_str PySem.F.slot_str_join PySem.F.type_str_join mt_join estr (acons (eop op_catQ (eop op_catQ (elstQ (acons estr anil)) (ev 7)) (elstQ (acons (ecall C_rule_text (hr.mono (by decide)) rfl (acons (ev 5) anil)) (acons (ecall C_numbers_text (hr.mono (by decide)) rfl (acons (ev 6) anil)) anil)))) anil)))))), ?_⟩
  try walk_at "rn"
  refine ⟨_, hT, rfl, _, _, rfl, _, _, rfl, _, _, rfl, _, _, rfl, _, _, rfl, _, _, rfl, rfl, fun p np => ⟨⟨_, tupQ_sq tupQ_updT⟩, fun D nD => ?_⟩⟩
  have xp := Ext.new (K := K) (o := .tup [V.int n1, V.int n2, V.int n3, V.int n4]) np
  refine lc_mapXT (f := V.int) (g := fun i => V.str (numT i)) (L := [n1, n2, n3, n4]) tupQ_updT nD (by simp) (fun i hi H' Q' xx qq => ?_) (fun G hD x1 => ?_)
  · try walk_at "rn"
    exact ⟨i, rfl, n100 (h1 i hi), qq _ Ext.refl⟩
  intro p1 m1
  have y1 := Ext.new (K := K) (o := .lst [V.str "head"]) m1
  refine ⟨_, y1.at hD, by simp, fun p2 m2 => ?_⟩
  have y2 := Ext.new (K := K) (o := .lst (V.str "head" :: List.map (fun i => V.str (numT i)) [n1, n2, n3, n4])) m2
  have xx := xp.trans (x1.trans (y1.trans y2))
  have e2 := upd_same (H := upd G p1 (.lst [V.str "head"])) (a := p2) (o := .lst (V.str "head" :: List.map (fun i => V.str (numT i)) [n1, n2, n3, n4]))
  generalize upd (upd G p1 (.lst [V.str "head"])) p2 (.lst (V.str "head" :: List.map (fun i => V.str (numT i)) [n1, n2, n3, n4])) = G2 at xx e2 ⊢
  refine ⟨R, a, b, c, pl, rfl, xx.tup hR, h2, hp, fun H4 x4 => ⟨M, ms, rfl, (xx.trans x4).same.seq hM, hl, h3, fun H5 x5 p3 m3 => ?_⟩⟩
  have y3 := Ext.new (K := K) (o := .lst [V.str (ruleT a b c pl), V.str (numsT ms)]) m3
  refine ⟨_, y3.at ((x4.trans x5).at e2), by simp, fun p4 m4 => ⟨[Str.ofString "head", numT n1, numT n2, numT n3, numT n4, ruleT a b c pl, numsT ms], SqL.of upd_same, ?_, ?_, q _ (xx.trans (x4.trans (x5.trans (y3.trans (Ext.new m4)))))⟩⟩
  · have := (headT_len h1 h2 hp h3).1
    omega
  · have := (headT_len h1 h2 hp h3).2
    exact Nat.le_trans this (by omega)
end
def rising : List Int → Bool
  | a :: b :: r => decide (a < b) && rising (b :: r)
  | _ => true
theorem rising_zip : ∀ ns : List Int, (List.zipWith (fun a b : Int => decide (a < b)) ns (ns.drop 1)).all id = rising ns
  | [] => rfl
  | [_] => rfl
  | a :: b :: r => by
    have := rising_zip (b :: r)
    unfold rising
    rw [← this]
    rfl
def NumsIs (t : Str) (ns : List Int) : Prop := (t = Str.ofString "-" ∧ ns = []) ∨ (t ≠ Str.ofString "-" ∧ (Txt.split t (Str.ofString ",")).map readFig = ns.map some)
theorem some_inj {us vs : List Int} (h : us.map some = vs.map some) : us = vs := (List.map_inj_right fun _ _ => Option.some.inj).mp h
theorem NumsIs.one {t : Str} {ns ms : List Int} (h : NumsIs t ns) (g : NumsIs t ms) : ns = ms := by
  rcases h with ⟨h1, h2⟩ | ⟨h1, h2⟩ <;> rcases g with ⟨g1, g2⟩ | ⟨g1, g2⟩
  · rw [h2, g2]
  · exact absurd h1 g1
  · exact absurd g1 h1
  · exact some_inj (h2.symm.trans g2)
theorem nums_len {t : Str} {ns : List Int} (h : NumsIs t ns) (ht : t.length < 1000000) : ns.length ≤ 1000000 := by
  rcases h with ⟨_, rfl⟩ | ⟨_, h⟩
  · simp
  · have := (split_lenC t 44).1
    rw [← comma_is] at this
    have e := congrArg List.length h
    rw [List.length_map, List.length_map] at e
    omega
theorem none_in : ∀ os : List (Option Int), (inV .non (os.map on) = true ∧ ∀ us : List Int, os ≠ us.map some) ∨ (inV .non (os.map on) = false ∧ ∃ us : List Int, os = us.map some)
  | [] => .inr ⟨rfl, [], rfl⟩
  | none :: os => .inl ⟨rfl, fun us e => by cases us <;> cases e⟩
  | some i :: os => by
    have e : inV .non ((some i :: os).map on) = inV .non (os.map on) := by simp [inV, on, eqV]
    rw [e]
    rcases none_in os with ⟨h1, h2⟩ | ⟨h1, us, rfl⟩
    · exact .inl ⟨h1, fun us z => by
        cases us with
        | nil => cases z
        | cons u us => exact h2 us (List.cons.inj z).2⟩
    · exact .inr ⟨h1, i :: us, rfl⟩
theorem flat_on (l : List (Option Int)) : (l.map on).all flatV = true := by
  rw [List.all_eq_true]
  intro v hv
  obtain ⟨t, _, rfl⟩ := List.mem_map.mp hv
  cases t <;> rfl
theorem on_some (us : List Int) : (us.map some).map on = us.map V.int := by rw [List.map_map]; rfl
section
variable {P : Program} {w : World} {K : PySem.W.Frag} {mg : Str → Option Value} {base : Heap}
theorem new_old {H H' : Hp} {T : Addr} (x : Ext K H H') (n : new K H' T) : new K H T := by
  refine ⟨?_, n.2⟩
  cases z : H T with
  | none => rfl
  | some o => have := x.at z; rw [n.1] at this; cases this
def spRis (K : PySem.W.Frag) : Sp := fun vs H Q _ => ∃ D ns, vs = [.ref D] ∧ SqL K H D (List.map V.int ns) ∧ ns.length ≤ 1000000 ∧ ∀ H', Ext K H H' → Q (.bl (rising ns)) H'
theorem sc_is_rising : FnScope ["numbers"] ["numbers"] (defScope s_is_rising) := ⟨rfl, rfl, rfl, by decide +kernel, rfl, by decide +kernel, by decide +kernel⟩
theorem ok_is_rising {f : Addr} {fd : FuncData} (F : Fun K "is_rising" "is_rising" s_is_rising f fd) {aP cF cR cN : Addr} {t1 t2 t3 t4 tF : Tok} (B : B K mg aP cF cR cN t1 t2 t3 t4 tF) : FnOk P w K mg base CX0 1 f fd ["numbers"] (spRis K) := by
  refine F.okJ sc_is_rising (fun vs H Q E h => ?_) (fun cdv A outer s H vs Q E hr h => ?_)
  · obtain ⟨D, ns, rfl, _⟩ := h
    rfl
  obtain ⟨D, ns, rfl, hD, hl, q⟩ := h
  refine ⟨_, (bone (sret (ecallB (call_allL rfl) rfl B.all bt_all (acons (elc (Cap.mk (N := ["one", "other"]) (src := [none, none]) rfl rfl) rfl (izipS rfl B.zip (acons (ev 0) (acons (eslice sl_listQ (ev 0) (osome ei) onone) anil))) (fun _ _ _ _ => (gtupQK K (n := 2) rfl (gcons (gname (i := 0) (show (["one", "other"] : List Str).Nodup from by decide +kernel) rfl (Or.inl rfl)) (gcons (gname (i := 1) (show (["one", "other"] : List Str).Nodup from by decide +kernel) rfl (Or.inl rfl)) gnil)))) (fun _ _ _ _ => fnone) (fun _ _ _ _ => (ecmp op_lt (ev 0) (ev 1) (nomark _)))) anil)))), ?_⟩
  try walk_at "rn"
  refine ⟨_, hD, fun S nS => .inl ⟨⟨_, (Ext.new nS).same.seq hD⟩, ⟨_, SqL.of upd_same⟩, fun D1 n1 => ?_⟩⟩
  have eS : cutV (ns.map V.int) (some 1) none = (ns.drop 1).map V.int := by rw [show cutV (ns.map V.int) (some 1) none = (ns.map V.int).drop 1 from cutV_from _ 1, List.map_drop]
  rw [eS] at n1 ⊢
  have xS := Ext.new (K := K) (o := .lst ((ns.drop 1).map V.int)) (by exact nS)
  refine lc_zipM (n := ns.length - 1) (xs := ns.map V.int) (ys := (ns.drop 1).map V.int) (fun i acc σ' H' => ∃ v0 v1 : Option V, σ' = [v0, v1] ∧ acc = ((List.zipWith (fun a b : Int => decide (a < b)) ns (ns.drop 1)).take i).map V.bl ∧ H' D1 = some (.lst acc) ∧ Kp K D1 (upd (upd H S (.lst ((ns.drop 1).map V.int))) D1 (.lst [])) H') (by simp) (by simp) (by simp) ⟨_, _, rfl, rfl, upd_same, Kp.refl⟩ ?_ ?_ ?_
  · rintro i acc σ' H' _ ⟨_, _, rfl, rfl, hD1, k⟩
    exact ⟨(k.ext n1).same.seq (xS.same.seq hD), SqL.of ((k.ext n1).at upd_same)⟩
  · rintro i x y acc σ' H' T hx hy ⟨_, _, rfl, rfl, hD1, k⟩ nT
    rw [List.getElem?_map] at hx hy
    obtain ⟨a, ea, rfl⟩ := Option.map_eq_some_iff.mp hx
    obtain ⟨b, eb, rfl⟩ := Option.map_eq_some_iff.mp hy
    try walk_at "rn"
    have xT := Ext.new (K := K) (o := .tup [V.int a, V.int b]) nT
    have hi : i < ns.length := (List.getElem?_eq_some_iff.mp ea).1
    refine ⟨xT.at hD1, by rw [List.length_map, List.length_take]; have := sizeLine_eq; omega, ?_, k.trans (xT.kp.trans (Kp.upd (xT.at hD1)))⟩
    rw [List.take_add_one, List.map_append, List.getElem?_zipWith, ea, eb]
    rfl
  · rintro acc σ' H' ⟨_, _, rfl, rfl, hD1, k⟩
    refine ⟨_, SqL.of hD1, ?_⟩
    have := q _ ((xS.trans (k.ext n1)))
    rw [← rising_zip] at this
    rw [List.take_of_length_le (by simp)]
    exact this
def spAW (K : PySem.W.Frag) : Sp := fun vs H Q _ => ∃ v, vs = [v] ∧ ((v = .non ∧ Q (.bl false) H) ∨ ∃ D ns, v = .ref D ∧ H D = some (.lst (List.map V.int ns)) ∧ ns.length ≤ 1000000 ∧ ∀ H', Ext K H H' → Q (.bl true) H')
theorem sc_are_wholes : FnScope ["thing"] ["thing"] (defScope s_are_wholes) := ⟨rfl, rfl, rfl, by decide +kernel, rfl, by decide +kernel, by decide +kernel⟩
theorem ok_are_wholes {f : Addr} {fd : FuncData} (F : Fun K "are_wholes" "are_wholes" s_are_wholes f fd) {aP cF cR cN : Addr} {t1 t2 t3 t4 tF : Tok} (B : B K mg aP cF cR cN t1 t2 t3 t4 tF) (C_is_number : Callee P w K mg base "is_number" 1 ["thing"] spNumO) : FnOk P w K mg base CX0 2 f fd ["thing"] (spAW K) := by
  refine F.okJ sc_are_wholes (fun vs H Q E h => ?_) (fun cdv A outer s H vs Q E hr h => ?_)
  · obtain ⟨v, rfl, _⟩ := h
    rfl
  obtain ⟨v, rfl, h⟩ := h
  refine ⟨_, (bone (sret (eand (ecallB call_isinstQ rfl B.isinstance bt_isinstance (acons (ev 0) (acons (etyp rfl B.list bt_list) anil))) (eone (ecallB (call_allL rfl) rfl B.all bt_all (acons (elc (Cap.mk (N := ["part"]) (src := [none]) rfl rfl) rfl (ilist (ev 0)) (fun _ _ _ _ => (gname (i := 0) (show (["part"] : List Str).Nodup from by decide +kernel) rfl (Or.inl rfl))) (fun _ _ _ _ => fnone) (fun _ _ _ _ => (ecall C_is_number (hr.mono (by decide)) rfl (acons (ev 0) anil)))) anil)))))), ?_⟩
  try walk_at "rn"
  rcases h with ⟨rfl, q⟩ | ⟨D, ns, rfl, hD, hl, q⟩
  · exact ⟨_, .inl .non, false, rfl, iteF' (by decide) q⟩
  refine ⟨_, .inl (.lst hD), true, rfl, iteT' rfl ⟨D, rfl, ⟨_, SqL.of hD⟩, fun D1 n1 => lc_mapY (f := V.int) (g := fun _ => V.bl true) (SqL.of hD) n1 (by omega) (fun i hi H' Q' xx qq => ?_) (fun H1 h1 x1 => ?_)⟩⟩
  · try walk_at "rn"
    exact ⟨some i, rfl, qq _ Ext.refl⟩
  refine ⟨ns.map fun _ => true, SqL.of (by rw [h1, List.map_map]; rfl), ?_⟩
  rw [show (ns.map fun _ => true).all id = true from by rw [List.all_eq_true]; intro b hb; obtain ⟨_, _, rfl⟩ := List.mem_map.mp hb; rfl]
  exact q _ x1
def spARF (K : PySem.W.Frag) : Sp := fun vs H Q _ => ∃ v lo, vs = [v, .int lo] ∧ ((v = .non ∧ Q (.bl false) H) ∨ ∃ D ns, v = .ref D ∧ H D = some (.lst (List.map V.int ns)) ∧ ns.length ≤ 1000000 ∧ ∀ H', Ext K H H' → Q (.bl (ns.all (fun n => decide (lo ≤ n)) && rising ns)) H')
theorem sc_are_rising_from : FnScope ["thing", "low"] ["thing", "low"] (defScope s_are_rising_from) := ⟨rfl, rfl, rfl, by decide +kernel, rfl, by decide +kernel, by decide +kernel⟩
theorem ok_are_rising_from {f : Addr} {fd : FuncData} (F : Fun K "are_rising_from" "are_rising_from" s_are_rising_from f fd) {aP cF cR cN : Addr} {t1 t2 t3 t4 tF : Tok} (B : B K mg aP cF cR cN t1 t2 t3 t4 tF) (C_are_wholes : Callee P w K mg base "are_wholes" 2 ["thing"] (spAW K)) (C_is_rising : Callee P w K mg base "is_rising" 1 ["numbers"] (spRis K)) : FnOk P w K mg base CX0 3 f fd ["thing", "low"] (spARF K) := by
  refine F.okJ sc_are_rising_from (fun vs H Q E h => ?_) (fun cdv A outer s H vs Q E hr h => ?_)
  · obtain ⟨v, lo, rfl, _⟩ := h
    rfl
  obtain ⟨v, lo, rfl, h⟩ := h
  refine ⟨_, (bone (sret (eand (ecall C_are_wholes (hr.mono (by decide)) rfl (acons (ev 0) anil)) (eand (ecallB (call_allL rfl) rfl B.all bt_all (acons (elc (Cap.mk (N := ["number", "low"]) (src := [none, some 1]) rfl rfl) rfl (ilist (ev 0)) (fun _ _ _ _ => (gname (i := 0) (show (["number", "low"] : List Str).Nodup from by decide +kernel) rfl (Or.inl rfl))) (fun _ _ _ _ => fnone) (fun _ _ _ _ => (ecmp op_le (ev 1) (ev 0) (nomark _)))) anil)) (eone (ecall C_is_rising (hr.mono (by decide)) rfl (acons (ev 0) anil))))))), ?_⟩
  try walk_at "rn"
  rcases h with ⟨rfl, q⟩ | ⟨D, ns, rfl, hD, hl, q⟩
  · exact ⟨_, rfl, .inl ⟨rfl, false, rfl, iteF' (by decide) q⟩⟩
  refine ⟨_, rfl, .inr ⟨D, ns, rfl, hD, hl, fun H1 x1 => ⟨true, rfl, iteT' rfl ⟨D, rfl, ⟨_, SqL.of (x1.at hD)⟩, fun D1 n1 => lc_mapY (f := V.int) (g := fun i => V.bl (decide (lo ≤ i))) (SqL.of (x1.at hD)) n1 (by omega) (fun i hi H' Q' xx qq => ?_) (fun H2 h2 x2 => ?_)⟩⟩⟩⟩
  · try walk_at "rn"
    exact qq _ Ext.refl
  refine ⟨ns.map fun n => decide (lo ≤ n), SqL.of (by rw [h2, List.map_map]; rfl), ?_⟩
  have e : (ns.map fun n => decide (lo ≤ n)).all id = ns.all fun n => decide (lo ≤ n) := by rw [List.all_map]; rfl
  rw [e]
  cases c : ns.all fun n => decide (lo ≤ n)
  · have := q _ (x1.trans x2)
    rw [c] at this
    exact iteF' (by decide) this
  · refine iteT' rfl ⟨D, ns, rfl, SqL.of ((x1.trans x2).at hD), hl, fun H3 x3 => ?_⟩
    have := q _ (x1.trans (x2.trans x3))
    rw [c] at this
    exact this
def RL (K : PySem.W.Frag) (t : Str) (H : Hp) (Q : VK) : Prop := ((∀ ns, ¬ NumsIs t ns) → ∀ H', Ext K H H' → Q .non H') ∧ (∀ ns, NumsIs t ns → ∀ D H', new K H D → Ext K H H' → H' D = some (.lst (ns.map V.int)) → Q (.ref D) H')
def spRL (K : PySem.W.Frag) (fr : Addr) : Sp := fun vs H Q _ => ∃ t : Str, vs = [.str t, .str (Str.ofString ","), .ref fr] ∧ t.length ≤ 1000000 ∧ RL K t H Q
theorem sc_read_list : FnScope ["text", "sign", "read", "told"] ["text", "sign", "read"] (defScope s_read_list) := ⟨rfl, rfl, rfl, by decide +kernel, rfl, by decide +kernel, by decide +kernel⟩
theorem ok_read_list {f fr : Addr} {fd : FuncData} (F : Fun K "read_list" "read_list" s_read_list f fd) {aP cF cR cN : Addr} {t1 t2 t3 t4 tF : Tok} (B : B K mg aP cF cR cN t1 t2 t3 t4 tF) (A_rf : FnAt P w K mg base 2 ["text"] spRF fr) : FnOk P w K mg base CX0 3 f fd ["text", "sign", "read"] (spRL K fr) := by
  refine F.okJ sc_read_list (fun vs H Q E h => ?_) (fun cdv A outer s H vs Q E hr h => ?_)
  · obtain ⟨t, rfl, _⟩ := h
    rfl
  obtain ⟨t, rfl, ht, qn, q⟩ := h
  obtain ⟨s1, s2⟩ := split_lenC t 44
  rw [← comma_is] at s1 s2
  refine ⟨_, (bcons (sif (tcmp op_eq (ev 0) estr (nomark _)) (bone (sret (elstQ anil))) bnil)
      (bcons (slc (i := 3) sc_read_list.nd rfl (Or.inl rfl) (Cap.mk (N := ["piece", "read"]) (src := [none, some 2]) rfl rfl) rfl (ilist (ebm PySem.F.plainAttrs_str PySem.F.slot_str_split PySem.F.type_str_split mt_split (ev 0) (acons (ev 1) anil))) (fun _ _ _ _ => (gname (i := 0) (show (["piece", "read"] : List Str).Nodup from by decide +kernel) rfl (Or.inl rfl))) (fun _ _ _ _ => fnone) (fun _ _ _ _ => (ecallV A_rf (hr.mono (by decide)) (ev 1) (acons (ev 0) anil))))
      (bone (sret (eif (tcmp op_inQ enon (ev 3) (by with_unfolding_all rfl)) enon (ev 3)))))), ?_⟩
  try walk_at "rn"
  refine ite2 (fun c => fun D nD => q [] (.inl ⟨c, rfl⟩) D _ nD (Ext.new nD) upd_same) (fun c => ?_)
  refine ⟨by decide +kernel, by omega, by omega, fun D nD => ⟨⟨_, SqL.of upd_same⟩, fun D1 n1 => ?_⟩⟩
  refine lc_mapY (f := V.str) (g := fun p => on (readFig p)) (SqL.of upd_same) n1 (by omega) (fun p hp H' Q' xx qq => ?_) (fun H1 h1 x1 => ?_)
  · try walk_at "rn"
    exact ⟨p, rfl, by have := s2 p hp; omega, qq _ Ext.refl⟩
  rw [show (Txt.split t (Str.ofString ",")).map (fun p => on (readFig p)) = ((Txt.split t (Str.ofString ",")).map readFig).map on from by rw [List.map_map]; rfl] at h1
  have xx := (Ext.new (K := K) nD).trans x1
  refine ⟨_, seqQ_lst h1, rfl, flat_on _, ?_⟩
  rcases none_in ((Txt.split t (Str.ofString ",")).map readFig) with ⟨i1, i2⟩ | ⟨i1, us, e⟩
  · refine iteT' i1 (qn (fun ns z => ?_) _ xx)
    rcases z with ⟨z, _⟩ | ⟨_, z⟩
    · exact c z
    · exact i2 ns z
  · refine iteF' (by rw [i1]; decide) (q us (.inr ⟨c, e⟩) D1 _ (new_upd.mp n1).2 xx ?_)
    rw [h1, e, on_some]
def spRN (K : PySem.W.Frag) : Sp := fun vs H Q _ => ∃ t : Str, vs = [.str t] ∧ t.length ≤ 1000000 ∧ RL K t H Q
theorem sc_read_numbers : FnScope ["text"] ["text"] (defScope s_read_numbers) := ⟨rfl, rfl, rfl, by decide +kernel, rfl, by decide +kernel, by decide +kernel⟩
theorem ok_read_numbers {f fr : Addr} {fd : FuncData} (F : Fun K "read_numbers" "read_numbers" s_read_numbers f fd) {aP cF cR cN : Addr} {t1 t2 t3 t4 tF : Tok} (B : B K mg aP cF cR cN t1 t2 t3 t4 tF) (G_rf : mg "read_figures" = some (.ref fr)) (C_read_list : Callee P w K mg base "read_list" 3 ["text", "sign", "read"] (spRL K fr)) : FnOk P w K mg base CX0 4 f fd ["text"] (spRN K) := by
  refine F.okJ sc_read_numbers (fun vs H Q E h => ?_) (fun cdv A outer s H vs Q E hr h => ?_)
  · obtain ⟨t, rfl, _⟩ := h
    rfl
  obtain ⟨t, rfl, ht, q⟩ := h
  refine ⟨_, (bone (sret (ecall C_read_list (hr.mono (by decide)) rfl (acons (ev 0) (acons estr (acons (eglob rfl G_rf (show RelV (.ref fr) (.ref fr) from rfl)) anil)))))), ?_⟩
  try walk_at "rn"
  exact ⟨t, rfl, ht, q⟩
def RuleIs (t : Str) (a b c : Int) (pl : Str) : Prop := ∃ x y z, Txt.split t (Str.ofString ",") = [x, y, z, pl] ∧ readFig x = some a ∧ readFig y = some b ∧ readFig z = some c ∧ (1 ≤ a ∧ a ≤ 64) ∧ (3 ≤ b ∧ b ≤ 16) ∧ (1 ≤ c ∧ c ≤ 64) ∧ isPl pl = true
def spRR (K : PySem.W.Frag) : Sp := fun vs H Q _ => ∃ t : Str, vs = [.str t] ∧ t.length ≤ 1000000 ∧ ((∀ a b c pl, ¬ RuleIs t a b c pl) → ∀ H', Ext K H H' → Q .non H') ∧
  (∀ a b c pl, RuleIs t a b c pl → ∀ T H', new K H T → Ext K H H' → tupQ K H' T = some [.int a, .int b, .int c, .str pl] → Q (.ref T) H')
theorem rule_of {t : Str} {ps : List Str} {pl : Str} (e : Txt.split t (Str.ofString ",") = ps ++ [pl]) : (isRule (ps.map readFig) pl = true ∧ ∃ a b c, RuleIs t a b c pl ∧ ps.map readFig = [some a, some b, some c]) ∨ (isRule (ps.map readFig) pl = false ∧ ∀ a b c pl', ¬ RuleIs t a b c pl') := by
  cases h : isRule (ps.map readFig) pl with
  | true =>
    left
    refine ⟨rfl, ?_⟩
    unfold isRule at h
    split at h
    · rename_i a b c hm
      rcases ps with _ | ⟨x, _ | ⟨y, _ | ⟨z, _ | ⟨u, ps⟩⟩⟩⟩ <;> simp only [List.map_cons, List.map_nil, List.cons.injEq, reduceCtorEq, and_false, and_true] at hm
      obtain ⟨h1, h2, h3⟩ := hm
      rw [Bool.and_eq_true, Bool.and_eq_true, Bool.and_eq_true] at h
      obtain ⟨⟨w1, w2⟩, w3, w4⟩ := h
      cases a with
      | none => cases w1
      | some a =>
        cases b with
        | none => cases w2
        | some b =>
          cases c with
          | none => cases w3
          | some c => exact ⟨a, b, c, ⟨x, y, z, e, h1, h2, h3, of_decide_eq_true w1, of_decide_eq_true w2, of_decide_eq_true w3, w4⟩, by simp [h1, h2, h3]⟩
    · cases h
  | false =>
    right
    refine ⟨rfl, ?_⟩
    rintro a b c pl' ⟨x, y, z, e2, h1, h2, h3, w1, w2, w3, w4⟩
    have e3 : ps ++ [pl] = [x, y, z] ++ [pl'] := e.symm.trans e2
    obtain ⟨rfl, e4⟩ := List.append_inj' e3 rfl
    cases e4
    have : isRule ([x, y, z].map readFig) pl = true := by
      simp only [List.map_cons, List.map_nil, h1, h2, h3, isRule, wO, decide_eq_true w1, decide_eq_true w2, decide_eq_true w3, w4, Bool.and_true]
    rw [this] at h
    cases h
theorem sc_read_rule : FnScope ["text", "numbers", "plan", "rule"] ["text"] (defScope s_read_rule) := ⟨rfl, rfl, rfl, by decide +kernel, rfl, by decide +kernel, by decide +kernel⟩
theorem ok_read_rule {f : Addr} {fd : FuncData} (F : Fun K "read_rule" "read_rule" s_read_rule f fd) {aP cF cR cN : Addr} {t1 t2 t3 t4 tF : Tok} (B : B K mg aP cF cR cN t1 t2 t3 t4 tF) (C_read_figures : Callee P w K mg base "read_figures" 2 ["text"] spRF) (C_is_rule : Callee P w K mg base "is_rule" 3 ["thing"] (spRule K)) : FnOk P w K mg base CX0 4 f fd ["text"] (spRR K) := by
  refine F.okJ sc_read_rule (fun vs H Q E h => ?_) (fun cdv A outer s H vs Q E hr h => ?_)
  · obtain ⟨t, rfl, _⟩ := h
    rfl
  obtain ⟨t, rfl, ht, qn, q⟩ := h
  obtain ⟨s1, s2⟩ := split_lenC t 44
  have sne := split_ne t 44
  rw [← comma_is] at s1 s2 sne
  refine ⟨_, (bcons (sasg (ebm PySem.F.plainAttrs_str PySem.F.slot_str_split PySem.F.type_str_split mt_split (ev 0) (acons estr anil)) (gstarL (n := 2) (i := 0) rfl (gconsS (gname (i := 1) sc_read_rule.nd rfl (Or.inl rfl)) (gcons (gname (i := 2) sc_read_rule.nd rfl (Or.inl rfl)) gnil))))
      (bcons (sset (i := 3) sc_read_rule.nd rfl (Or.inl rfl) (ecallTy call_tuple_ofQ rfl B.tuple bt_tuple (acons (eop op_catQ (elc (Cap.mk (N := ["number"]) (src := [none]) rfl rfl) rfl (ilist (ev 1)) (fun _ _ _ _ => (gname (i := 0) (show (["number"] : List Str).Nodup from by decide +kernel) rfl (Or.inl rfl))) (fun _ _ _ _ => fnone) (fun _ _ _ _ => (ecall C_read_figures (hr.mono (by decide)) rfl (acons (ev 0) anil)))) (elstQ (acons (ev 2) anil))) anil)))
      (bone (sret (eif (tval (ecall C_is_rule (hr.mono (by decide)) rfl (acons (ev 3) anil))) (ev 3) enon))))), ?_⟩
  try walk_at "rn"
  refine ⟨by decide +kernel, by omega, by omega, fun D nD => ?_⟩
  obtain ⟨ps, pl, e⟩ : ∃ ps pl, Txt.split t (Str.ofString ",") = ps ++ [pl] := ⟨_, _, (List.dropLast_concat_getLast sne).symm⟩
  rw [e] at s1 s2 ⊢
  rw [List.length_append, List.length_singleton] at s1
  refine ⟨_, SqL.of upd_same, by simp, fun D1 n1 => ?_⟩
  rw [show List.take ((List.map V.str (ps ++ [pl])).length + 1 - 2) (List.drop 0 (List.map V.str (ps ++ [pl]))) = ps.map V.str from by simp, show List.take 0 (List.map V.str (ps ++ [pl])) ++ V.ref D1 :: List.drop ((List.map V.str (ps ++ [pl])).length + 1 - 2) (List.drop 0 (List.map V.str (ps ++ [pl]))) = [V.ref D1, V.str pl] from by simp]
  have n0 := (new_upd.mp n1).2
  refine ⟨_, _, rfl, _, _, rfl, rfl, D1, rfl, ⟨_, SqL.of upd_same⟩, fun D2 n2 => lc_mapY (f := V.str) (g := fun p => on (readFig p)) (SqL.of upd_same) n2 (by omega) (fun p hp H' Q' xx qq => ?_) (fun H1 h1 x1 => ?_)⟩
  · try walk_at "rn"
    exact ⟨p, rfl, by have := s2 p (List.mem_append_left _ hp); omega, qq _ Ext.refl⟩
  have x0 := (Ext.new (K := K) nD).trans ((Ext.new n1).trans x1)
  rw [show ps.map (fun p => on (readFig p)) = (ps.map readFig).map on from by rw [List.map_map]; rfl] at h1
  intro p3 m3
  refine ⟨_, (Ext.new m3).at h1, by simp only [List.length_map]; omega, fun p4 m4 T nT => ⟨T, ps.map readFig, pl, rfl, tupQ_updT, _, rfl, ?_⟩⟩
  have xx := x0.trans ((Ext.new m3).trans ((Ext.new m4).trans (Ext.new (o := .tup (List.map on (List.map readFig ps) ++ [V.str pl])) nT)))
  rcases rule_of e with ⟨r1, a, b, c, r2, r3⟩ | ⟨r1, r2⟩
  · rw [r1]
    refine iteT' rfl (q a b c pl r2 T _ ?_ xx ?_)
    · exact new_old (x0.trans ((Ext.new m3).trans (Ext.new m4))) nT
    · rw [tupQ_updT, r3]
      rfl
  · rw [r1]
    exact iteF' (by decide) (qn r2 _ xx)
structure HeadIs (t : Str) (n1 n2 n3 n4 a b c : Int) (pl : Str) (ms : List Int) : Prop where
  ex : ∃ p1 p2 p3 p4 pr pm, Txt.split t (Str.ofString " ") = [Str.ofString "head", p1, p2, p3, p4, pr, pm] ∧ [p1, p2, p3, p4].map readFig = [some n1, some n2, some n3, some n4] ∧ (0 ≤ n1 ∧ 0 ≤ n2 ∧ 0 ≤ n3 ∧ 0 ≤ n4) ∧ RuleIs pr a b c pl ∧ NumsIs pm ms ∧ ms.all (fun n => decide (1 ≤ n)) = true ∧ rising ms = true
def NoHead (t : Str) : Prop := ∀ n1 n2 n3 n4 a b c pl ms, ¬ HeadIs t n1 n2 n3 n4 a b c pl ms
def HeadAt (K : PySem.W.Frag) (H : Hp) (T R M : Addr) (n1 n2 n3 n4 a b c : Int) (pl : Str) (ms : List Int) : Prop := tupQ K H T = some [.int n1, .int n2, .int n3, .int n4, .ref R, .ref M] ∧ tupQ K H R = some [.int a, .int b, .int c, .str pl] ∧ H M = some (.lst (ms.map V.int))
def spRH (K : PySem.W.Frag) (cN : Addr) : Sp := fun vs H Q E => ∃ t : Str, vs = [.str t] ∧ t.length < 1000000 ∧ (NoHead t → ∀ H', Ext K H H' → E (.ref cN) none H') ∧
  (∀ n1 n2 n3 n4 a b c pl ms, HeadIs t n1 n2 n3 n4 a b c pl ms → ∀ T R M H', new K H M → Ext K H H' → HeadAt K H' T R M n1 n2 n3 n4 a b c pl ms → Q (.ref T) H')
theorem sc_read_head : FnScope ["text", "word", "pieces", "numbers", "rule", "marks"] ["text"] (defScope s_read_head) := ⟨rfl, rfl, rfl, by decide +kernel, rfl, by decide +kernel, by decide +kernel⟩
theorem ok_read_head {f : Addr} {fd : FuncData} (F : Fun K "read_head" "read_head" s_read_head f fd) {aP cF cR cN : Addr} {t1 t2 t3 t4 tF : Tok} (B : B K mg aP cF cR cN t1 t2 t3 t4 tF) (C_read_figures : Callee P w K mg base "read_figures" 2 ["text"] spRF) (C_read_rule : Callee P w K mg base "read_rule" 4 ["text"] (spRR K)) (C_read_numbers : Callee P w K mg base "read_numbers" 4 ["text"] (spRN K)) (C_is_whole_from : Callee P w K mg base "is_whole_from" 2 ["thing", "low"] spFromO) (C_are_rising_from : Callee P w K mg base "are_rising_from" 3 ["thing", "low"] (spARF K)) : FnOk P w K mg base (CXO P w) 5 f fd ["text"] (spRH K cN) := by
  refine F.okX sc_read_head (fun vs H Q E h => ?_) (fun cdv A outer s H vs Q E hr h => ?_)
  · obtain ⟨t, rfl, _⟩ := h
    rfl
  obtain ⟨t, rfl, ht, qn, q⟩ := h
  obtain ⟨s1, s2⟩ := split_lenC t 32
  have sne := split_ne t 32
  rw [← blank_is] at s1 s2 sne
  refine ex_seal (rest := (defBody s_read_head).drop 7) (bone (sret (ecallTy call_tuple_ofQ rfl B.tuple bt_tuple (acons (eop op_catQ (ev 3) (elstQ (acons (ev 4) (acons (ev 5) anil)))) anil)))) fun r7 J7 e7 => ?_
  refine ex_seal (rest := (defBody s_read_head).drop 6) (bcons (sif (tw (wor (tnot (tval (ecallB (call_allL rfl) rfl B.all bt_all (acons (elc (Cap.mk (N := ["number"]) (src := [none]) rfl rfl) rfl (ilist (ev 3)) (fun _ _ _ _ => (gname (i := 0) (show (["number"] : List Str).Nodup from by decide +kernel) rfl (Or.inl rfl))) (fun _ _ _ _ => fnone) (fun _ _ _ _ => (ecall C_is_whole_from (hr.mono (by decide)) rfl (acons (ev 0) (acons ei anil))))) anil)))) (wor (tcmp op_isN (ev 4) enon (nomark _)) (wor1 (tnot (tval (ecall C_are_rising_from (hr.mono (by decide)) rfl (acons (ev 5) (acons ei anil))))))))) (bone (sraise B.x_NoPage B.NoPage hr.hd rfl)) bnil)
      J7) fun r6 J6 e6 => ?_
  refine ex_seal (rest := (defBody s_read_head).drop 5) (bcons (sset (i := 5) sc_read_head.nd rfl (Or.inl rfl) (ecall C_read_numbers (hr.mono (by decide)) rfl (acons (eix ix_Q (ev 2) ei (fun _ _ => rfl)) anil)))
      J6) fun r5 J5 e5 => ?_
  refine ex_seal (rest := (defBody s_read_head).drop 4) (bcons (sset (i := 4) sc_read_head.nd rfl (Or.inl rfl) (ecall C_read_rule (hr.mono (by decide)) rfl (acons (eix ix_Q (ev 2) ei (fun _ _ => rfl)) anil)))
      J5) fun r4 J4 e4 => ?_
  refine ex_seal (rest := (defBody s_read_head).drop 3) (bcons (slc (i := 3) sc_read_head.nd rfl (Or.inl rfl) (Cap.mk (N := ["piece"]) (src := [none]) rfl rfl) rfl (ilist (eslice sl_listQ (ev 2) onone (osome ei))) (fun _ _ _ _ => (gname (i := 0) (show (["piece"] : List Str).Nodup from by decide +kernel) rfl (Or.inl rfl))) (fun _ _ _ _ => fnone) (fun _ _ _ _ => (ecall C_read_figures (hr.mono (by decide)) rfl (acons (ev 0) anil))))
      J4) fun r3 J3 e3 => ?_
  refine ex_seal (rest := (defBody s_read_head).drop 2) (bcons (sif (tw (wor (tcmp op_ne (ev 1) estr (nomark _)) (wor1 (tcmp op_ne (ecallB call_lenQ rfl B.len bt_len (acons (ev 2) anil)) ei (nomark _))))) (bone (sraise B.x_NoPage B.NoPage hr.hd rfl)) bnil)
      J3) fun r2 J2 e2 => ?_
  refine ⟨_, (bcons (sif (tnot (tval (ecallB call_isinstQ rfl B.isinstance bt_isinstance (acons (ev 0) (acons (etyp rfl B.str bt_str) anil))))) (bone (sraise B.x_NoPage B.NoPage hr.hd rfl)) bnil)
      (bcons (sasg (ebm PySem.F.plainAttrs_str PySem.F.slot_str_split PySem.F.type_str_split mt_split (ev 0) (acons estr anil)) (gstarL (n := 2) (i := 1) rfl (gcons (gname (i := 1) sc_read_head.nd rfl (Or.inl rfl)) (gconsS (gname (i := 2) sc_read_head.nd rfl (Or.inl rfl)) gnil))))
      J2)), ?_⟩
  try walk_at "rn"
  refine ⟨_, .inl (.str _), true, rfl, iteF' (by decide) ⟨by decide +kernel, by omega, by omega, fun D nD => ?_⟩⟩
  obtain ⟨w0, rest, e⟩ : ∃ w0 rest, Txt.split t (Str.ofString " ") = w0 :: rest := by
    cases h : Txt.split t (Str.ofString " ") with
    | nil => exact absurd h sne
    | cons x r => exact ⟨x, r, rfl⟩
  rw [e] at s1 s2 ⊢
  rw [List.length_cons] at s1
  have s3 : ∀ p ∈ rest, p.length ≤ t.length := fun p hp => s2 p (List.mem_cons_of_mem _ hp)
  refine ⟨_, SqL.of upd_same, by simp, fun D1 n1 => ?_⟩
  rw [show List.take ((List.map V.str (w0 :: rest)).length + 1 - 2) (List.drop 1 (List.map V.str (w0 :: rest))) = rest.map V.str from by simp; exact List.take_of_length_le (by simp), show List.take 1 (List.map V.str (w0 :: rest)) ++ V.ref D1 :: List.drop ((List.map V.str (w0 :: rest)).length + 1 - 2) (List.drop 1 (List.map V.str (w0 :: rest))) = [V.str w0, V.ref D1] from by simp]
  refine ⟨_, _, rfl, _, _, rfl, rfl, ?_⟩
  have xG := (Ext.new (K := K) (o := .lst (List.map V.str (w0 :: rest))) nD).trans (Ext.new (o := .lst (rest.map V.str)) n1)
  have hD := upd_same (H := upd H D (.lst (List.map V.str (w0 :: rest)))) (a := D1) (o := .lst (rest.map V.str))
  generalize upd (upd H D (.lst (List.map V.str (w0 :: rest)))) D1 (.lst (rest.map V.str)) = G at xG hD ⊢
  rw [e2]
  simp_arith [seqQ_lst hD]
  by_cases hw : w0 = Str.ofString "head" ∧ rest.length = 6
  case neg =>
    have nh : NoHead t := by
      rintro n1 n2 n3 n4 a b c pl ms ⟨p1, p2, p3, p4, pr, pm, e', _⟩
      rw [e] at e'
      cases e'
      exact hw ⟨rfl, rfl⟩
    by_cases h1 : w0 = Str.ofString "head"
    · refine iteF' (by simp [h1]) (iteT' (by simp; exact fun z => hw ⟨h1, by omega⟩) (qn nh _ xG))
    · exact iteT' (by simp [h1]) (qn nh _ xG)
  obtain ⟨rfl, hl⟩ := hw
  refine iteF' (by simp) (iteF' (by simp [hl]) ?_)
  obtain ⟨p1, p2, p3, p4, pr, pm, rfl⟩ : ∃ p1 p2 p3 p4 pr pm, rest = [p1, p2, p3, p4, pr, pm] := by
    rcases rest with _ | ⟨p1, _ | ⟨p2, _ | ⟨p3, _ | ⟨p4, _ | ⟨p5, _ | ⟨p6, _ | ⟨p7, rest⟩⟩⟩⟩⟩⟩⟩ <;> simp only [List.length_cons, List.length_nil] at hl <;> first | omega | exact ⟨_, _, _, _, _, _, rfl⟩
  rw [e3]
  try walk_at "rn"
  refine ⟨_, SqL.of hD, fun S nS => ⟨⟨_, SqL.of upd_same⟩, fun N nN => ?_⟩⟩
  have eS : cutV (List.map V.str [p1, p2, p3, p4, pr, pm]) none (some 4) = [p1, p2, p3, p4].map V.str := by rw [show cutV (List.map V.str [p1, p2, p3, p4, pr, pm]) none (some 4) = (List.map V.str [p1, p2, p3, p4, pr, pm]).take 4 from cutV_to _ 4]; rfl
  rw [eS] at nN ⊢
  have xS := Ext.new (K := K) (o := .lst ([p1, p2, p3, p4].map V.str)) (by exact nS)
  refine lc_mapY (f := V.str) (g := fun p => on (readFig p)) (H := upd G S (.lst ([p1, p2, p3, p4].map V.str))) (SqL.of upd_same) nN (by simp) (fun p hp H' Q' xx qq => ?_) (fun G1 hN x1 => ?_)
  · try walk_at "rn"
    refine ⟨p, rfl, ?_, qq _ Ext.refl⟩
    have : p ∈ [p1, p2, p3, p4, pr, pm] := by
      simp only [List.mem_cons, List.not_mem_nil, or_false] at hp ⊢
      rcases hp with h | h | h | h <;> simp [h]
    have := s3 p this
    omega
  rw [show [p1, p2, p3, p4].map (fun p => on (readFig p)) = ([p1, p2, p3, p4].map readFig).map on from by rw [List.map_map]; rfl] at hN
  have hD1 := (xS.trans x1).at hD
  have xG1 := xG.trans (xS.trans x1)
  rw [e4]
  simp_arith [seqQ_lst hD1]
  have all0 : ∀ os : List (Option Int), (os.map (fun o => fO 0 o)).all id = true → ∃ us : List Int, os = us.map some ∧ ∀ u ∈ us, 0 ≤ u := by
    intro os
    induction os with
    | nil => intro _; exact ⟨[], rfl, by simp⟩
    | cons o os ih =>
      intro h
      rw [List.map_cons, List.all_cons, Bool.and_eq_true] at h
      obtain ⟨us, rfl, hu⟩ := ih h.2
      cases o with
      | none => cases h.1
      | some i => exact ⟨i :: us, rfl, by intro u hu'; rcases List.mem_cons.mp hu' with rfl | hu'; exact of_decide_eq_true h.1; exact hu u hu'⟩
  have last : ∀ (vr vm : V) (G2 : Hp), Ext K G1 G2 → ((vr = .non ∧ ∀ a b c pl, ¬ RuleIs pr a b c pl) ∨ ∃ R a b c pl, vr = .ref R ∧ RuleIs pr a b c pl ∧ tupQ K G2 R = some [.int a, .int b, .int c, .str pl]) →
      ((vm = .non ∧ ∀ ns, ¬ NumsIs pm ns) ∨ ∃ M ns, vm = .ref M ∧ NumsIs pm ns ∧ new K H M ∧ G2 M = some (.lst (ns.map V.int)) ∧ ns.length ≤ 1000000) → r6 { nx := fun x H' => Q V.non H', rt := Q } [some (V.str t), some (V.str "head"), some (V.ref D1), some (V.ref N), some vr, some vm] G2 := by
    intro vr vm G2 x2 hr' hm'
    rw [e6]
    try walk_at "rn"
    have hN2 := x2.at hN
    refine ⟨⟨_, SqL.of hN2⟩, fun D2 n2 => lc_mapY (f := on) (g := fun o => V.bl (fO 0 o)) (L := [p1, p2, p3, p4].map readFig) (SqL.of hN2) n2 (by simp) (fun o ho H' Q' xx qq => ?_) (fun G3 h3 x3 => ?_)⟩
    · try walk_at "rn"
      exact ⟨o, 0, rfl, qq _ Ext.refl⟩
    have X3 := xG1.trans (x2.trans x3)
    have noh : (∀ n1 n2 n3 n4 a b c pl ms, [p1, p2, p3, p4].map readFig = [some n1, some n2, some n3, some n4] → (0 ≤ n1 ∧ 0 ≤ n2 ∧ 0 ≤ n3 ∧ 0 ≤ n4) → RuleIs pr a b c pl → NumsIs pm ms → ms.all (fun n => decide (1 ≤ n)) = true → rising ms = true → False) → NoHead t := by
      rintro z n1 n2 n3 n4 a b c pl ms ⟨q1, q2, q3, q4, qr, qm, e', h1, h2, h3, h4, h5, h6⟩
      rw [e] at e'
      cases e'
      exact z n1 n2 n3 n4 a b c pl ms h1 h2 h3 h4 h5 h6
    refine ⟨([p1, p2, p3, p4].map readFig).map (fun o => fO 0 o), SqL.of (by rw [h3, List.map_map]; rfl), ?_⟩
    cases c0 : (([p1, p2, p3, p4].map readFig).map (fun o => fO 0 o)).all id
    · refine iteT' rfl (qn (noh fun n1 n2 n3 n4 a b c pl ms h1 h2 _ _ _ _ => ?_) _ X3)
      rw [h1] at c0
      simp [fO, h2.1, h2.2.1, h2.2.2.1, h2.2.2.2] at c0
    refine iteF' (by decide) ?_
    obtain ⟨us, eu, pu⟩ := all0 _ c0
    obtain ⟨n1, n2', n3, n4, rfl⟩ : ∃ n1 n2 n3 n4, us = [n1, n2, n3, n4] := by
      have := congrArg List.length eu
      rcases us with _ | ⟨a1, _ | ⟨a2, _ | ⟨a3, _ | ⟨a4, _ | ⟨a5, us⟩⟩⟩⟩⟩ <;> simp at this <;> first | omega | exact ⟨_, _, _, _, rfl⟩
    rcases hr' with ⟨rfl, nr⟩ | ⟨R, a, b, c, pl, rfl, ri, tR⟩
    · exact iteT' rfl (qn (noh fun n1 n2 n3 n4 a b c pl ms _ _ h3 _ _ _ => nr a b c pl h3) _ X3)
    refine iteF' (by simp) ?_
    rcases hm' with ⟨rfl, nm⟩ | ⟨M, ns, rfl, mi, nM, hM, lM⟩
    · exact ⟨_, 1, rfl, .inl ⟨rfl, false, rfl, iteT' rfl (qn (noh fun n1 n2 n3 n4 a b c pl ms _ _ _ h4 _ _ => nm ms h4) _ X3)⟩⟩
    refine ⟨_, 1, rfl, .inr ⟨M, ns, rfl, x3.at hM, lM, fun G4 x4 => ⟨_, rfl, ?_⟩⟩⟩
    cases c1 : (ns.all (fun n => decide (1 ≤ n)) && rising ns)
    · refine iteT' rfl (qn (noh fun n1 n2 n3 n4 a b c pl ms _ _ _ h4 h5 h6 => ?_) _ (X3.trans x4))
      obtain rfl := h4.one mi
      rw [h5, h6] at c1
      cases c1
    rw [Bool.and_eq_true] at c1
    refine iteF' (by decide) ?_
    rw [e7]
    try walk_at "rn"
    intro p9 m9
    have x9 := Ext.new (K := K) (o := .lst [V.ref R, V.ref M]) m9
    have hN4 := (x3.trans (x4.trans x9)).at hN2
    rw [eu, on_some] at hN4
    refine ⟨_, hN4, by simp, fun pA mA T mT => ?_⟩
    have xA := Ext.new (K := K) (o := .lst (List.map V.int [n1, n2', n3, n4] ++ [V.ref R, V.ref M])) mA
    have xT := Ext.new (K := K) (o := .tup (List.map V.int [n1, n2', n3, n4] ++ [V.ref R, V.ref M])) mT
    have y := x3.trans (x4.trans (x9.trans (xA.trans xT)))
    exact q n1 n2' n3 n4 a b c pl ns ⟨⟨p1, p2, p3, p4, pr, pm, e, eu, ⟨pu _ (by simp), pu _ (by simp), pu _ (by simp), pu _ (by simp)⟩, ri, mi, c1.1, c1.2⟩⟩ T R M _ nM (xG1.trans (x2.trans y)) ⟨tupQ_updT, y.tup tR, y.at hM⟩
  have lp : ∀ p ∈ [p1, p2, p3, p4, pr, pm], p.length < 1000000 := fun p hp => Nat.lt_of_le_of_lt (s3 p hp) ht
  refine ⟨_, rfl, pr, rfl, Nat.le_of_lt (lp pr (by simp)), fun nr G2 x2 => ?_, fun a b c pl ri R G2 nR x2 tR => ?_⟩
  · rw [e5]
    simp_arith [seqQ_lst (x2.at hD1)]
    refine ⟨_, rfl, pm, rfl, Nat.le_of_lt (lp pm (by simp)), fun nm G3 x3 => last _ _ _ (x2.trans x3) (.inl ⟨rfl, nr⟩) (.inl ⟨rfl, nm⟩), fun ns mi M G3 nM x3 hM => last _ _ _ (x2.trans x3) (.inl ⟨rfl, nr⟩) (.inr ⟨M, ns, rfl, mi, new_old (xG1.trans x2) nM, hM, ?_⟩)⟩
    exact nums_len mi (lp pm (by simp))
  · rw [e5]
    simp_arith [seqQ_lst (x2.at hD1)]
    refine ⟨_, rfl, pm, rfl, Nat.le_of_lt (lp pm (by simp)), fun nm G3 x3 => last _ _ _ (x2.trans x3) (.inr ⟨R, a, b, c, pl, rfl, ri, x3.tup tR⟩) (.inl ⟨rfl, nm⟩), fun ns mi M G3 nM x3 hM => last _ _ _ (x2.trans x3) (.inr ⟨R, a, b, c, pl, rfl, ri, x3.tup tR⟩) (.inr ⟨M, ns, rfl, mi, new_old (xG1.trans x2) nM, hM, ?_⟩)⟩
    exact nums_len mi (lp pm (by simp))
def NoRoom (t : Str) : Prop := ¬ (∃ x y, Txt.split t (Str.ofString " ") = [Str.ofString "leaf", x, y]) ∧ ¬ (∃ x y z u, Txt.split t (Str.ofString " ") = [Str.ofString "inner", x, y, z, u])
def spRRm (K : PySem.W.Frag) (cN : Addr) : Sp := fun vs H Q E => ∃ t : Str, vs = [.str t] ∧ t.length ≤ 1000000 ∧ NoRoom t ∧ ∀ H', Ext K H H' → E (.ref cN) none H'
theorem sc_read_room : FnScope ["text", "pieces", "told"] ["text"] (defScope s_read_room) := ⟨rfl, rfl, rfl, by decide +kernel, rfl, by decide +kernel, by decide +kernel⟩
theorem ok_read_room {f : Addr} {fd : FuncData} (F : Fun K "read_room" "read_room" s_read_room f fd) {aP cF cR cN : Addr} {t1 t2 t3 t4 tF : Tok} (B : B K mg aP cF cR cN t1 t2 t3 t4 tF) : FnOk P w K mg base (CXO P w) 9 f fd ["text"] (spRRm K cN) := by
  refine F.okX sc_read_room (fun vs H Q E h => ?_) (fun cdv A outer s H vs Q E hr h => ?_)
  · obtain ⟨t, rfl, _⟩ := h
    rfl
  obtain ⟨t, rfl, ht, nr, q⟩ := h
  obtain ⟨s1, s2⟩ := split_lenC t 32
  have sne := split_ne t 32
  rw [← blank_is] at s1 s2 sne
  refine ⟨_, (bcons (sif (tnot (tval (ecallB call_isinstQ rfl B.isinstance bt_isinstance (acons (ev 0) (acons (etyp rfl B.str bt_str) anil))))) (bone (sraise B.x_NoPage B.NoPage hr.hd rfl)) bnil)
      (bcons (sset (i := 1) sc_read_room.nd rfl (Or.inl rfl) (ebm PySem.F.plainAttrs_str PySem.F.slot_str_split PySem.F.type_str_split mt_split (ev 0) (acons estr anil)))
      (bcons (sset (i := 2) sc_read_room.nd rfl (Or.inl rfl) enon)
      (bcut (sif (tw (wand (tcmp op_eq (eix ix_Q (ev 1) ei (fun _ _ => rfl)) estr (nomark _)) (wand1 (tcmp op_eq (ecallB call_lenQ rfl B.len bt_len (acons (ev 1) anil)) ei (nomark _))))) (bone snever) bnil)
      (bcut (sif (tw (wand (tcmp op_eq (eix ix_Q (ev 1) ei (fun _ _ => rfl)) estr (nomark _)) (wand1 (tcmp op_eq (ecallB call_lenQ rfl B.len bt_len (acons (ev 1) anil)) ei (nomark _))))) (bone snever) bnil)
      (bcons (sif (tcmp op_isN (ev 2) enon (nomark _)) (bone (sraise B.x_NoPage B.NoPage hr.hd rfl)) bnil)
      (bone (sret (ev 2))))))))), ?_⟩
  try walk_at "rn"
  refine ⟨_, .inl (.str _), true, rfl, iteF' (by decide) ⟨by decide +kernel, by omega, by omega, fun D nD => ?_⟩⟩
  obtain ⟨w0, rest, e⟩ : ∃ w0 rest, Txt.split t (Str.ofString " ") = w0 :: rest := by
    cases h : Txt.split t (Str.ofString " ") with
    | nil => exact absurd h sne
    | cons x r => exact ⟨x, r, rfl⟩
  have xG := Ext.new (K := K) (o := .lst (List.map V.str (Txt.split t (Str.ofString " ")))) nD
  have hD := upd_same (H := H) (a := D) (o := .lst (List.map V.str (Txt.split t (Str.ofString " "))))
  rw [e] at hD xG ⊢
  unfold NoRoom at nr
  rw [e] at nr
  generalize upd H D (.lst (List.map V.str (w0 :: rest))) = G at xG hD ⊢
  refine ⟨fun σ G' => σ = [some (V.str t), some (V.ref D), some V.non] ∧ G' = G, ?_, ?_⟩
  · simp_arith [seqQ_lst hD]
    refine ite2 (fun c => ?_) (fun c => trivial)
    refine iteF' (fun z => nr.1 ?_) trivial
    rcases rest with _ | ⟨x, _ | ⟨y, _ | ⟨u, rest⟩⟩⟩ <;> simp at z
    · exact ⟨x, y, by rw [c]⟩
    · omega
  rintro σ G' ⟨rfl, rfl⟩
  refine ⟨fun σ G'' => σ = [some (V.str t), some (V.ref D), some V.non] ∧ G'' = G', ?_, ?_⟩
  · simp_arith [seqQ_lst hD]
    refine ite2 (fun c => ?_) (fun c => trivial)
    refine iteF' (fun z => nr.2 ?_) trivial
    rcases rest with _ | ⟨x, _ | ⟨y, _ | ⟨z', _ | ⟨u, _ | ⟨u', rest⟩⟩⟩⟩⟩ <;> simp at z
    · exact ⟨x, y, z', u, by rw [c]⟩
    · omega
  rintro σ G'' ⟨rfl, rfl⟩
  try walk_at "rn"
  exact q _ xG
end
theorem ints_all {K : PySem.W.Frag} {H : Hp} : ∀ (ks : List Int), IsAll K H (ks.map PyData.int) (ks.map V.int)
  | [] => by simp only [List.map_nil, IsAll]
  | k :: ks => by simp only [List.map_cons, IsAll]; exact ⟨_, _, rfl, by simp only [Is], ints_all ks⟩
theorem ints_is {K : PySem.W.Frag} {H : Hp} {r : Addr} {ks : List Int} (h : H r = some (.lst (ks.map V.int))) : Is K H (.list (ks.map PyData.int)) (.ref r) := by
  simp only [Is]
  exact ⟨r, _, rfl, SqL.of h, ints_all ks⟩
theorem ints_lay : ∀ (ks : List Int), PyData.canLayAll0 (ks.map PyData.int) = true ∧ PyData.depthAll (ks.map PyData.int) ≤ 2
  | [] => by simp [PyData.canLayAll0, PyData.depthAll]
  | k :: ks => by
    have ih := ints_lay ks
    simp only [List.map_cons, PyData.canLayAll0, PyData.depthAll, ih.1, PyData.canLay0, PyData.depth, Bool.and_true]
    exact ⟨trivial, Nat.max_le.mpr ⟨by decide, ih.2⟩⟩
theorem ints_shaped (ks : List Int) : SeqAt.shaped (.list (ks.map PyData.int)) = true := by
  have h := ints_lay ks
  have e : (PyData.list (ks.map PyData.int)).depth = PyData.depthAll (ks.map PyData.int) + 1 := by simp only [PyData.depth]
  simp only [SeqAt.shaped, PyData.canLay0, h.1, Bool.true_and, decide_eq_true_eq]
  rw [e]
  omega
theorem ints_nob : ∀ (ks : List Int), nobAll (ks.map PyData.int) = true
  | [] => rfl
  | k :: ks => by simp only [List.map_cons, nobAll, nob, ints_nob ks, Bool.and_true]
theorem ints_same (ks : List Int) : PyData.eqv (.list (ks.map PyData.int)) (.list (ks.map PyData.int)) = true := (eqv_iff (show nob (.list _) = true from ints_nob ks) (show nob (.list _) = true from ints_nob ks)).mpr rfl
section
variable {P : Program} {w : World} {K : PySem.W.Frag} {mg : Str → Option Value} {base : Heap}
def Alk (K : PySem.W.Frag) (H : Hp) : Nat → V → V → Prop
  | 0, _, _ => False
  | n + 1, u, v => (u = v ∧ ((∃ i, v = .int i) ∨ v = .non ∨ ∃ s, v = .str s)) ∨
    (∃ a b xs ys, u = .ref a ∧ v = .ref b ∧ H a = some (.lst xs) ∧ H b = some (.lst ys) ∧ xs.length = ys.length ∧ xs.length ≤ 1000000 ∧ ∀ (i : Nat) x y, xs[i]? = some x → ys[i]? = some y → Alk K H n x y) ∨
    (∃ a b xs ys, u = .ref a ∧ v = .ref b ∧ tupQ K H a = some xs ∧ tupQ K H b = some ys ∧ xs.length = ys.length ∧ xs.length ≤ 1000000 ∧ ∀ (i : Nat) x y, xs[i]? = some x → ys[i]? = some y → Alk K H n x y)
theorem Alk.ext {H H' : Hp} (x : Ext K H H') : ∀ {n : Nat} {u v : V}, Alk K H n u v → Alk K H' n u v
  | 0, _, _, h => h
  | n + 1, u, v, h => by
    rcases h with h | ⟨a, b, xs, ys, rfl, rfl, h1, h2, l1, l2, h⟩ | ⟨a, b, xs, ys, rfl, rfl, h1, h2, l1, l2, h⟩
    · exact .inl h
    · exact .inr (.inl ⟨a, b, xs, ys, rfl, rfl, x.at h1, x.at h2, l1, l2, fun i p q e f => (h i p q e f).ext x⟩)
    · exact .inr (.inr ⟨a, b, xs, ys, rfl, rfl, x.tup h1, x.tup h2, l1, l2, fun i p q e f => (h i p q e f).ext x⟩)
theorem Alk.int {H : Hp} {n : Nat} {i : Int} : Alk K H (n + 1) (.int i) (.int i) := .inl ⟨rfl, .inl ⟨_, rfl⟩⟩
theorem Alk.str {H : Hp} {n : Nat} {s : Str} : Alk K H (n + 1) (.str s) (.str s) := .inl ⟨rfl, .inr (.inr ⟨_, rfl⟩)⟩
def spAlk (K : PySem.W.Frag) (n : Nat) : Sp := fun vs H Q _ => ∃ u v, vs = [u, v] ∧ Alk K H n u v ∧ ∀ H', Ext K H H' → Q (.bl true) H'
theorem isI {H : Hp} {v : V} {t : Value} {n : String} {b : Bool} {R : Bool → Prop} (h : TyQ K H v t) (e : PySem.W.kitOne K t (.type n) = some b) (r : R b) : ∃ x, TyQ K H v x ∧ ∃ y, PySem.W.kitOne K x (.type n) = some y ∧ R y := ⟨t, h, b, e, r⟩
theorem no_if {a b : Prop} (h : b) : if false = true then a else b := by rw [if_neg (by decide)]; exact h
theorem yes_if {a b : Prop} (h : a) : if true = true then a else b := by rw [if_pos rfl]; exact h
theorem not_if {a b : Prop} (h : a) : if (!false) = true then a else b := by rw [Bool.not_false, if_pos rfl]; exact h
theorem same_if {x : Bool} {a b : Prop} (h : b) : if (!decide (x = x)) = true then a else b := by rw [decide_eq_true rfl]; exact no_if h
theorem trues (n : Nat) : (List.replicate n true).map V.bl = List.replicate n (.bl true) := by rw [List.map_replicate]
theorem all_trues (n : Nat) : (List.replicate n true).all id = true := by
  rw [List.all_eq_true]
  intro b hb
  rw [(List.mem_replicate.1 hb).2]
  rfl
theorem alk_turn {n : Nat} {H H' : Hp} {D T : Addr} {i : Nat} {x y : V} {R : List V → St → Hp → Prop} {Z : St → Hp → Prop} {v0 v1 : Option V} (hn : Alk K H n x y) (xH : Ext K H H') (hD : H' D = some (.lst (List.replicate i (.bl true)))) (hi : i < 1000000) (nT : new K H' T)
    (r : ∀ H2, Kp K D H' H2 → H2 D = some (.lst (List.replicate (i + 1) (.bl true))) → R (List.replicate i (.bl true) ++ [.bl true]) [some x, some y] H2) :
    gTupQ K 2 (gCons (gName 0) (gCons (gName 1) gNil)) (.ref T) [v0, v1] (upd H' T (.tup [x, y])) fun σ2 H2 => tYes σ2 H2 fun b H3 => if b = true then tCall (spAlk K n) [] E0 (tCons (tVar 0) (tCons (tVar 1) tNil)) σ2 H3 fun v H4 => H4 D = some (.lst (List.replicate i (.bl true))) ∧ (List.replicate i (V.bl true)).length < sizeLine ∧ R (List.replicate i (.bl true) ++ [v]) σ2 (upd H4 D (.lst (List.replicate i (.bl true) ++ [v]))) else Z σ2 H3 := by
  simp_arith [tYes]
  have xT := Ext.new (K := K) (o := .tup [x, y]) nT
  refine ⟨x, y, rfl, hn.ext (xH.trans xT), fun H2 x2 => ?_⟩
  have hD2 := (xT.trans x2).at hD
  have er : List.replicate i (V.bl true) ++ [.bl true] = List.replicate (i + 1) (.bl true) := (List.replicate_succ' ..).symm
  refine ⟨hD2, by rw [List.length_replicate]; have := sizeLine_eq; omega, r _ ((xT.trans x2).kp.trans (Kp.upd hD2)) (by rw [upd_same, er])⟩
theorem alk_lists {n : Nat} {H : Hp} {a b D : Addr} {xs ys : List V} {R : Hp → Prop} (h1 : H a = some (.lst xs)) (h2 : H b = some (.lst ys)) (l1 : xs.length = ys.length) (l2 : xs.length ≤ 1000000) (h : ∀ (i : Nat) x y, xs[i]? = some x → ys[i]? = some y → Alk K H n x y) (nD : new K H D)
    (fin : ∀ H', H' D = some (.lst ((List.replicate xs.length true).map V.bl)) → Ext K H H' → R H') : LcLoop (Itz K a b) (gTupQ K 2 (gCons (gName 0) (gCons (gName 1) gNil))) tYes (tCall (spAlk K n) [] E0 (tCons (tVar 0) (tCons (tVar 1) tNil))) D R [none, none] (upd H D (.lst [])) := by
  refine lc_zip (xs := xs) (ys := ys) (fun i acc σ' H' => ∃ v0 v1 : Option V, σ' = [v0, v1] ∧ acc = List.replicate i (.bl true) ∧ H' D = some (.lst acc) ∧ Kp K D (upd H D (.lst [])) H') l1 ⟨_, _, rfl, rfl, upd_same, Kp.refl⟩ ?_ ?_ ?_
  · rintro i acc σ' H' _ ⟨_, _, rfl, rfl, hD, k⟩
    exact ⟨SqL.of ((k.ext nD).at h1), SqL.of ((k.ext nD).at h2)⟩
  · rintro i x y acc σ' H' T hx hy ⟨_, _, rfl, rfl, hD, k⟩ nT
    have hi := (List.getElem?_eq_some_iff.1 hx).1
    exact alk_turn (R := fun acc σ H2 => ∃ v0 v1 : Option V, σ = [v0, v1] ∧ acc = List.replicate (i + 1) (.bl true) ∧ H2 D = some (.lst acc) ∧ Kp K D (upd H D (.lst [])) H2) (h i x y hx hy) (k.ext nD) hD (by omega) nT fun H2 k2 e2 => ⟨_, _, rfl, (List.replicate_succ' ..).symm, by rw [e2, List.replicate_succ'], k.trans k2⟩
  · rintro acc σ' H' ⟨_, _, rfl, rfl, hD, k⟩
    rw [← trues] at hD
    exact fin H' hD (k.ext nD)
theorem alk_tuples {n : Nat} {H : Hp} {a b D : Addr} {xs ys : List V} {R : Hp → Prop} (h1 : tupQ K H a = some xs) (h2 : tupQ K H b = some ys) (l1 : xs.length = ys.length) (l2 : xs.length ≤ 1000000) (h : ∀ (i : Nat) x y, xs[i]? = some x → ys[i]? = some y → Alk K H n x y) (nD : new K H D)
    (fin : ∀ H', H' D = some (.lst ((List.replicate xs.length true).map V.bl)) → Ext K H H' → R H') : LcLoop (ItzT K a b) (gTupQ K 2 (gCons (gName 0) (gCons (gName 1) gNil))) tYes (tCall (spAlk K n) [] E0 (tCons (tVar 0) (tCons (tVar 1) tNil))) D R [none, none] (upd H D (.lst [])) := by
  refine lc_zipT (xs := xs) (ys := ys) (fun i acc σ' H' => ∃ v0 v1 : Option V, σ' = [v0, v1] ∧ acc = List.replicate i (.bl true) ∧ H' D = some (.lst acc) ∧ Kp K D (upd H D (.lst [])) H') l1 ⟨_, _, rfl, rfl, upd_same, Kp.refl⟩ ?_ ?_ ?_
  · rintro i acc σ' H' _ ⟨_, _, rfl, rfl, hD, k⟩
    exact ⟨tupQ_sq ((k.ext nD).tup h1), tupQ_sq ((k.ext nD).tup h2)⟩
  · rintro i x y acc σ' H' T hx hy ⟨_, _, rfl, rfl, hD, k⟩ nT
    have hi := (List.getElem?_eq_some_iff.1 hx).1
    exact alk_turn (R := fun acc σ H2 => ∃ v0 v1 : Option V, σ = [v0, v1] ∧ acc = List.replicate (i + 1) (.bl true) ∧ H2 D = some (.lst acc) ∧ Kp K D (upd H D (.lst [])) H2) (h i x y hx hy) (k.ext nD) hD (by omega) nT fun H2 k2 e2 => ⟨_, _, rfl, (List.replicate_succ' ..).symm, by rw [e2, List.replicate_succ'], k.trans k2⟩
  · rintro acc σ' H' ⟨_, _, rfl, rfl, hD, k⟩
    rw [← trues] at hD
    exact fin H' hD (k.ext nD)
theorem sc__law_alike : FnScope ["_law_found", "_law_due"] ["_law_found", "_law_due"] (defScope s__law_alike) := ⟨rfl, rfl, rfl, by decide +kernel, rfl, by decide +kernel, by decide +kernel⟩
theorem step__law_alike {n : Nat} {f : Addr} {fd : FuncData} (F : Fun K "_law_alike" "_law_alike" s__law_alike f fd) {aP cF cR cN : Addr} {t1 t2 t3 t4 tF : Tok} (B : B K mg aP cF cR cN t1 t2 t3 t4 tF) (C__law_alike : Callee P w K mg base "_law_alike" n ["_law_found", "_law_due"] (spAlk K n)) : FnOk P w K mg base CX0 (n + 1) f fd ["_law_found", "_law_due"] (spAlk K (n + 1)) := by
  refine F.okJ sc__law_alike (fun vs H Q E h => ?_) (fun cdv A outer s H vs Q E hr h => ?_)
  · obtain ⟨u, v, rfl, _⟩ := h
    rfl
  obtain ⟨u, v, rfl, h, q⟩ := h
  refine ⟨_, (bcons (sif (tw (wor (tval (ecallB call_isinstQ rfl B.isinstance bt_isinstance (acons (ev 1) (acons (etyp rfl B.list bt_list) anil)))) (wor1 (tval (ecallB call_isinstQ rfl B.isinstance bt_isinstance (acons (ev 1) (acons (etyp rfl B.tuple bt_tuple) anil))))))) (bcons (sif (tw (wor (tcmp op_ne (ecallB call_isinstQ rfl B.isinstance bt_isinstance (acons (ev 0) (acons (etyp rfl B.list bt_list) anil))) (ecallB call_isinstQ rfl B.isinstance bt_isinstance (acons (ev 1) (acons (etyp rfl B.list bt_list) anil))) (nomark _)) (wor1 (tcmp op_ne (ecallB call_isinstQ rfl B.isinstance bt_isinstance (acons (ev 0) (acons (etyp rfl B.tuple bt_tuple) anil))) (ecallB call_isinstQ rfl B.isinstance bt_isinstance (acons (ev 1) (acons (etyp rfl B.tuple bt_tuple) anil))) (nomark _))))) (bone (sret ebl)) bnil)
      (bone (sret (eand (ecmp op_eq (ecallB call_lenA rfl B.len bt_len (acons (ev 0) anil)) (ecallB call_lenA rfl B.len bt_len (acons (ev 1) anil)) (nomark _)) (eone (ecallB (call_allL rfl) rfl B.all bt_all (acons (elc (Cap.mk (N := ["_law_one", "_law_other"]) (src := [none, none]) rfl rfl) rfl (izipS rfl B.zip (acons (ev 0) (acons (ev 1) anil))) (fun _ _ _ _ => (gtupQK K (n := 2) rfl (gcons (gname (i := 0) (show (["_law_one", "_law_other"] : List Str).Nodup from by decide +kernel) rfl (Or.inl rfl)) (gcons (gname (i := 1) (show (["_law_one", "_law_other"] : List Str).Nodup from by decide +kernel) rfl (Or.inl rfl)) gnil)))) (fun _ _ _ _ => fnone) (fun _ _ _ _ => (ecall C__law_alike (hr.mono (by omega)) rfl (acons (ev 0) (acons (ev 1) anil))))) anil))))))) bnil)
      (bcons (sif (tval (ecallB call_isinstQ rfl B.isinstance bt_isinstance (acons (ev 1) (acons (etyp rfl B.dict bt_dict) anil)))) (bcons (sif (tw (wor (tnot (tval (ecallB call_isinstQ rfl B.isinstance bt_isinstance (acons (ev 0) (acons (etyp rfl B.dict bt_dict) anil))))) (wor1 (tcmp op_ne (ecallB call_lenA rfl B.len bt_len (acons (ev 0) anil)) (ecallB call_lenA rfl B.len bt_len (acons (ev 1) anil)) (nomark _))))) (bone (sret ebl)) bnil)
      (bone (sret (ecallB (call_allL rfl) rfl B.all bt_all (acons (elcD (Cap.mk (N := ["_law_key", "_law_found", "_law_due"]) (src := [none, some 0, some 1]) rfl rfl) rfl (ev 1) (fun _ _ _ _ => (gname (i := 0) (show (["_law_key", "_law_found", "_law_due"] : List Str).Nodup from by decide +kernel) rfl (Or.inl rfl))) (fun _ _ _ _ => fnone) (fun _ _ _ _ => (eand (ecmp (op_inD hr.units) (ev 0) (ev 1) (by with_unfolding_all rfl)) (eone (ecall C__law_alike (hr.mono (by omega)) rfl (acons (edget hr.units (ev 1) (ev 0) (fun _ _ => rfl)) (acons (edget hr.units (ev 2) (ev 0) (fun _ _ => rfl)) anil))))))) anil))))) bnil)
      (bcons (sif (tw (wor (tcmp op_isN (ev 1) enon (nomark _)) (wor1 (tval (ecallB call_isinstQ rfl B.isinstance bt_isinstance (acons (ev 1) (acons (etyp rfl B.str bt_str) anil))))))) (bone (sret (eand (ecmp op_eq (ev 0) (ev 1) (nomark _)) (eone (ecmp op_eq (ecallB call_isinstQ rfl B.isinstance bt_isinstance (acons (ev 0) (acons (etyp rfl B.str bt_str) anil))) (ecallB call_isinstQ rfl B.isinstance bt_isinstance (acons (ev 1) (acons (etyp rfl B.str bt_str) anil))) (nomark _)))))) bnil)
      (bone (sret (eand (ecallB call_isinstQ rfl B.isinstance bt_isinstance (acons (ev 0) (acons (etyp rfl B.int bt_int) anil))) (eand (enot (ecallB call_isinstQ rfl B.isinstance bt_isinstance (acons (ev 0) (acons (etyp rfl B.bool bt_bool) anil)))) (eone (ecmp op_eq (ev 0) (ev 1) (nomark _)))))))))), ?_⟩
  try walk_at "rn"
  rcases h with ⟨rfl, ⟨i, rfl⟩ | rfl | ⟨s', rfl⟩⟩ | ⟨a, b, xs, ys, rfl, rfl, h1, h2, l1, l2, h⟩ | ⟨a, b, xs, ys, rfl, rfl, h1, h2, l1, l2, h⟩
  · have ty : TyQ K H (.int i) (.type "int") := .inl (.int i)
    refine isI ty rfl (no_if (isI ty rfl (no_if (isI ty rfl (no_if ?_)))))
    rw [if_neg (fun e => by cases e)]
    refine isI ty rfl (no_if (isI ty rfl (yes_if (isI (b := false) ty rfl (not_if ⟨rfl, ?_⟩)))))
    rw [decide_eq_true rfl]
    exact q _ Ext.refl
  · have ty : TyQ K H .non (.type "NoneType") := .inl .non
    refine isI ty rfl (no_if (isI ty rfl (no_if (isI ty rfl (no_if ?_)))))
    rw [if_pos rfl]
    refine ⟨rfl, ?_⟩
    rw [if_pos rfl]
    refine isI ty rfl (isI ty rfl ?_)
    exact q _ Ext.refl
  · have ty : TyQ K H (.str s') (.type "str") := .inl (.str s')
    refine isI ty rfl (no_if (isI ty rfl (no_if (isI ty rfl (no_if ?_)))))
    rw [if_neg (fun e => by cases e)]
    refine isI ty rfl (yes_if ⟨rfl, ?_⟩)
    rw [if_pos rfl]
    refine isI ty rfl (isI ty rfl ?_)
    exact q _ Ext.refl
  · have ta : TyQ K H (.ref a) (.type "list") := .inl (.lst h1)
    have tb : TyQ K H (.ref b) (.type "list") := .inl (.lst h2)
    refine isI tb rfl (yes_if (isI ta rfl (isI tb rfl (same_if (isI ta rfl (isI tb rfl (same_if (.inl ⟨a, rfl, xs, seqQ_lst h1, .inl ⟨b, rfl, ys, seqQ_lst h2, ?_⟩⟩))))))))
    rw [if_pos (by rw [l1])]
    refine ⟨a, rfl, b, rfl, .inl ⟨⟨_, SqL.of h1⟩, ⟨_, SqL.of h2⟩, fun D nD => alk_lists h1 h2 l1 l2 h nD fun H' hD x => ⟨_, SqL.of hD, ?_⟩⟩⟩
    rw [all_trues]
    exact q _ x
  · have ta : TyQ K H (.ref a) (.type "tuple") := .tup h1
    have tb : TyQ K H (.ref b) (.type "tuple") := .tup h2
    refine isI tb rfl (no_if (isI tb rfl (yes_if (isI ta rfl (isI tb rfl (same_if (isI ta rfl (isI tb rfl (same_if (.inl ⟨a, rfl, xs, seqQ_T h1, .inl ⟨b, rfl, ys, seqQ_T h2, ?_⟩⟩))))))))))
    rw [if_pos (by rw [l1])]
    refine ⟨a, rfl, b, rfl, .inr ⟨⟨_, tupQ_sq h1⟩, ⟨_, tupQ_sq h2⟩, fun D nD => alk_tuples h1 h2 l1 l2 h nD fun H' hD x => ⟨_, SqL.of hD, ?_⟩⟩⟩
    rw [all_trues]
    exact q _ x
theorem base__law_alike {f : Addr} {fd : FuncData} : FnOk P w K mg base CX0 0 f fd ["_law_found", "_law_due"] (spAlk K 0) :=
  ⟨fun _ _ _ _ h => let ⟨_, _, _, h, _⟩ := h; h.elim, fun _ _ _ _ _ _ _ _ _ _ _ _ _ h => let ⟨_, _, _, h, _⟩ := h; h.elim⟩
theorem rec__law_alike {f : Addr} {fd : FuncData} (F : Fun K "_law_alike" "_law_alike" s__law_alike f fd) {aP cF cR cN : Addr} {t1 t2 t3 t4 tF : Tok} (B : B K mg aP cF cR cN t1 t2 t3 t4 tF) (b : Binds K fd ["_law_found", "_law_due"] []) (kp : PySem.W.keepIn K (.ref f) = true) (m : mg "_law_alike" = some (.ref f)) : ∀ n : Nat, FnOk P w K mg base CX0 n f fd ["_law_found", "_law_due"] (spAlk K n)
  | 0 => base__law_alike
  | n + 1 => step__law_alike F B ⟨f, fd, rec__law_alike F B b kp m n, b, kp, m⟩
theorem ok__law_alike {f : Addr} {fd : FuncData} (F : Fun K "_law_alike" "_law_alike" s__law_alike f fd) {aP cF cR cN : Addr} {t1 t2 t3 t4 tF : Tok} (B : B K mg aP cF cR cN t1 t2 t3 t4 tF) (b : Binds K fd ["_law_found", "_law_due"] []) (kp : PySem.W.keepIn K (.ref f) = true) (m : mg "_law_alike" = some (.ref f)) : FnOk P w K mg base CX0 3 f fd ["_law_found", "_law_due"] (spAlk K 3) := rec__law_alike F B b kp m 3
end
section
variable {P : Program} {w : World} {K : PySem.W.Frag} {mg : Str → Option Value} {base : Heap}
def L3 (x y z : Int) : HO := .lst [.int x, .int y, .int z]
def Wl (H : Hp) (p : Addr) : Prop := (∃ x, H p = some (.lst [.int x])) ∨ ∃ x y z, H p = some (L3 x y z)
theorem Wl.ext {K : PySem.W.Frag} {H H' : Hp} {p : Addr} (h : Wl H p) (x : Ext K H H') : Wl H' p := by
  rcases h with ⟨u, h⟩ | ⟨u, v, z, h⟩
  · exact .inl ⟨u, x.at h⟩
  · exact .inr ⟨u, v, z, x.at h⟩
theorem Wl.ne {K : PySem.W.Frag} {H : Hp} {p b : Addr} (h : Wl H p) (n : new K H b) : b ≠ p := by
  rcases h with ⟨u, h⟩ | ⟨u, v, z, h⟩
  · exact (ne_of_none h n.1).symm
  · exact (ne_of_none h n.1).symm
theorem Wl.upd {H : Hp} {p b : Addr} {o : HO} (h : Wl H p) (n : p ≠ b) : Wl (upd H b o) p := by
  rcases h with ⟨u, h⟩ | ⟨u, v, z, h⟩
  · exact .inl ⟨u, by rw [upd_ne n]; exact h⟩
  · exact .inr ⟨u, v, z, by rw [upd_ne n]; exact h⟩
def spCell (K : PySem.W.Frag) : Sp := fun vs H Q _ => ∃ (a : Addr) (ns : List Int) (k : Int), vs = [.ref a, .int k] ∧ SqL K H a (ns.map V.int) ∧ 0 ≤ k ∧ ∀ n, Q (.int n) H
theorem sc__law_cell_at : FnScope ["_law_script", "_law_k"] ["_law_script", "_law_k"] (defScope s__law_cell_at) := ⟨rfl, rfl, rfl, by decide +kernel, rfl, by decide +kernel, by decide +kernel⟩
theorem ok__law_cell_at {f : Addr} {fd : FuncData} (F : Fun K "_law_cell_at" "_law_cell_at" s__law_cell_at f fd) {aP cF cR cN : Addr} {t1 t2 t3 t4 tF : Tok} (B : B K mg aP cF cR cN t1 t2 t3 t4 tF) : FnOk P w K mg base CX0 1 f fd ["_law_script", "_law_k"] (spCell K) := by
  refine F.okJ sc__law_cell_at (fun vs H Q E h => ?_) (fun cdv A outer s H vs Q E hr h => ?_)
  · obtain ⟨a, ns, k, rfl, _⟩ := h
    rfl
  obtain ⟨a, ns, k, rfl, hs, h0, q⟩ := h
  refine ⟨_, (bcons (sif (tcmp op_lt (ev 1) (ecallB call_len_seq rfl B.len bt_len (acons (ev 0) anil)) (nomark _)) (bone (sret (eix ix_list (ev 0) (ev 1) (fun _ _ => rfl)))) bnil)
      (bone (sret ei))), ?_⟩
  simp_arith [rIxL]
  refine ⟨_, .inl hs, ?_⟩
  refine ite2 (fun c => ?_) (fun c => q 0)
  obtain ⟨v, e, m⟩ := atI_in h0 c
  obtain ⟨n, _, rfl⟩ := List.mem_map.mp m
  exact ⟨_, hs, _, e, q n⟩
def spDigit (K : PySem.W.Frag) : Sp := fun vs H Q _ => ∃ p m, vs = [.ref p, .int m] ∧ Wl H p ∧ 0 < m ∧ m < 10 ^ 100 ∧
  ∀ (r : Int) (H' : Hp), 0 ≤ r → r < m → Wl H' p → Kp K p H H' → Q (.int r) H'
theorem sc__law_digit : FnScope ["_law_state", "_law_base", "_law_cell", "_law_found", "_law_number_here"] ["_law_state", "_law_base"] (defScope s__law_digit) := ⟨rfl, rfl, rfl, by decide +kernel, rfl, by decide +kernel, by decide +kernel⟩
theorem ok__law_digit {f : Addr} {fd : FuncData} (F : Fun K "_law_digit" "_law_digit" s__law_digit f fd) {aP cF cR cN : Addr} {t1 t2 t3 t4 tF : Tok} (B : B K mg aP cF cR cN t1 t2 t3 t4 tF) : FnOk P w K mg base CX0 1 f fd ["_law_state", "_law_base"] (spDigit K) := by
  refine F.okJ sc__law_digit (fun vs H Q E h => ?_) (fun cdv A outer s H vs Q E hr h => ?_)
  · obtain ⟨p, m, rfl, _⟩ := h
    rfl
  obtain ⟨p, m, rfl, hp, h0, h1, q⟩ := h
  refine ⟨_, (bcut (sif (tcmp op_eq (ecallB call_lenQ rfl B.len bt_len (acons (ev 0) anil)) ei (nomark _)) (bcons (sset (i := 2) sc__law_digit.nd rfl (Or.inl rfl) (eix ix_Q (ev 0) ei (fun _ _ => rfl)))
      (bcons (sasg (eix ix_Q (elstQ (acons ei (acons (ev 2) anil))) (ecallTy call_intB rfl B.int bt_int (acons (ecmp op_ge (ev 2) (epowc 1000000000000000000) (nomark _)) anil)) (fun _ _ => rfl)) (gsub (ev 0) ei set_list))
      (bone (sexpr (ebm PySem.F.plainAttrs_list PySem.F.slot_list_extend PySem.F.type_list_extend mt_extend (ev 0) (acons (elstQ (acons (eop op_mod (ev 2) ei) (acons ei anil))) anil)))))) bnil)
      (bcons (sif (tcmp op_gt (eix ix_Q (ev 0) ei (fun _ _ => rfl)) ei (nomark _)) (bcons (sset (i := 3) sc__law_digit.nd rfl (Or.inl rfl) (eop op_mod (eix ix_Q (ev 0) ei (fun _ _ => rfl)) (ev 1)))
      (bcons (sasg (eop op_fdivP (eix ix_Q (ev 0) ei (fun _ _ => rfl)) (ev 1)) (gsub (ev 0) ei set_list))
      (bone (sret (ev 3))))) bnil)
      (bcons (sasg (eop op_add (eix ix_Q (ev 0) ei (fun _ _ => rfl)) ei) (gsub (ev 0) ei set_list))
      (bcons (sset (i := 4) sc__law_digit.nd rfl (Or.inl rfl) (eop op_mod (eop op_mul (eop op_add (eop op_add (eix ix_Q (ev 0) ei (fun _ _ => rfl)) (eop op_mul ei (eix ix_Q (ev 0) ei (fun _ _ => rfl)))) ei) ei) ei))
      (bcons (sset (i := 4) sc__law_digit.nd rfl (Or.inl rfl) (eop op_mod (eop op_mul (ev 4) (eop op_add (eop op_fdivP (ev 4) ei) ei)) ei))
      (bone (sret (eop op_mod (eop op_mod (eop op_mul (ev 4) (eop op_add (eop op_fdivP (ev 4) ei) ei)) ei) (ev 1))))))))), ?_⟩
  obtain ⟨J, eJ⟩ : ∃ J : St → Hp → Prop, J = fun σ1 G1 => ∃ (v2 : Option V) (x y z : Int), σ1 = [some (.ref p), some (.int m), v2, none, none] ∧ G1 p = some (L3 x y z) ∧ Kp K p H G1 := ⟨_, rfl⟩
  refine ⟨J, ?_, ?_⟩
  · rcases hp with ⟨x, hp⟩ | ⟨x, y, z, hp⟩
    · simp only [tSeq, tNext, tIfS, tAsg, gName, gSub, tRet, tRetN, tDrop, tVar, tC, tOp, tUn, rI0, rI, rU, tTest, tB, tAndV, tOrV, tNotV, tAnd, tOr, tNot, tIf, tChain, tCB, tCons, tNil, tLst, tTup, tCallC, List.getElem?_cons_zero, List.getElem?_cons_succ, List.set_cons_zero, List.set_cons_succ, Option.some.injEq, V.int.injEq, V.bl.injEq, V.ref.injEq, V.ty.injEq, V.str.injEq, List.cons.injEq, exists_eq_left', exists_eq_left, exists_and_left, and_true, true_and, and_assoc, cxK, rIxF, rSetL, rEq, rNe, scal, HO.lst.injEq, HO.tup.injEq, upd_none, ixN_10, ixN_20, ixN_21, ixN_30, ixN_31, ixN_32, upd_same, seqAt_updL, seqAt_updT, atI_0, atI_1, atI_2, atI_3, decide_eq_true_eq, L2.start, List.map_cons, List.map_nil, List.length_cons, List.length_nil, Nat.reduceAdd, Nat.reduceSub, List.replicate_succ, List.replicate_zero, List.cons_append, List.nil_append, List.append_nil, tFor_rng1, tFor_rng2, tFor_list, tFor_tup, CDv, CMul, CPow, sizeLine_eq, Int.reduceLE, Int.reduceLT, Int.reducePow, Int.reduceToNat, Int.reduceAdd, Int.reduceSub, Int.reduceMul, Int.reduceNeg, Nat.reduceLeDiff, Nat.reducePow, Nat.reduceLT, Int.reduceEq, true_or, or_true, ite_true, ite_false, if_true, if_false, Bool.not_true, Bool.not_false, Bool.false_eq_true, decide_true, decide_false, rIxQ, seqQ_updL, seqQ_updT, tupQ_updT, tSl, tNoPart, tPart, rSlQ, rSlTX, rCatQ, rCatTX, rCatTX0, tTupQ, tLstQ, new_upd, tNever, rEqD, rInQ, gTupQ, gCons, gNil, tBM, rAppend, tBM0, cxN, tCall, tRaise, tTry, Ends.gone, pick_nil, pick_own, pick_cap, join_some, tLc_list, tLc_tup, tYes, tyV, tFor_list, tLc_text, rNeE, rSlS, rIxS, rIsascii, rIsdigit, rRemPre, rSplit, rJoin, rStarts, gStarL, gTupL, tCallV, tFor_enumT, tFor_text, rExtend, tLc_zipS, tFor_zipS, tLcD, tDGet, tLc_rng1, hp,  seqQ_lst hp]
      refine ite2 (fun _ => ?_) (fun c => absurd rfl c)
      intro b nb
      have ne : b ≠ p := (ne_of_none hp nb.1).symm
      obtain ⟨v, ev⟩ : ∃ v : Int, atI [V.int 0, V.int x] (if 1000000000000000000 ≤ x then 1 else 0) = some (.int v) := by split <;> exact ⟨_, rfl⟩
      have x1 := Ext.new (K := K) (o := .lst [.int 0, .int x]) nb
      have hp1 := x1.at hp
      refine ⟨_, ev, _, hp1, 0, rfl, .inl ⟨_, SqL.of upd_same⟩, fun b2 nb2 => ⟨_, by rw [upd_ne nb2.1.symm]; exact upd_same, by show 1 ≤ 16777214; decide, ?_⟩⟩
      rw [eJ]
      have k2 : Kp K p _ (upd (upd H b (.lst [.int 0, .int x])) p (.lst [.int v])) := Kp.upd hp1
      have n2 : new K (upd (upd H b (.lst [.int 0, .int x])) p (.lst [.int v])) b2 := ⟨by rw [upd_ne nb2.1, upd_ne nb2.2.1]; exact nb2.2.2.1, nb2.2.2.2⟩
      have x3 := Ext.new (K := K) (o := .lst [.int (x % 2147483647), .int 0]) n2
      exact ⟨_, v, _, _, rfl, upd_same, x1.kp.trans (k2.trans (x3.kp.trans (Kp.upd (x3.at upd_same))))⟩
    · unfold L3 at hp
      simp only [tSeq, tNext, tIfS, tAsg, gName, gSub, tRet, tRetN, tDrop, tVar, tC, tOp, tUn, rI0, rI, rU, tTest, tB, tAndV, tOrV, tNotV, tAnd, tOr, tNot, tIf, tChain, tCB, tCons, tNil, tLst, tTup, tCallC, List.getElem?_cons_zero, List.getElem?_cons_succ, List.set_cons_zero, List.set_cons_succ, Option.some.injEq, V.int.injEq, V.bl.injEq, V.ref.injEq, V.ty.injEq, V.str.injEq, List.cons.injEq, exists_eq_left', exists_eq_left, exists_and_left, and_true, true_and, and_assoc, cxK, rIxF, rSetL, rEq, rNe, scal, HO.lst.injEq, HO.tup.injEq, upd_none, ixN_10, ixN_20, ixN_21, ixN_30, ixN_31, ixN_32, upd_same, seqAt_updL, seqAt_updT, atI_0, atI_1, atI_2, atI_3, decide_eq_true_eq, L2.start, List.map_cons, List.map_nil, List.length_cons, List.length_nil, Nat.reduceAdd, Nat.reduceSub, List.replicate_succ, List.replicate_zero, List.cons_append, List.nil_append, List.append_nil, tFor_rng1, tFor_rng2, tFor_list, tFor_tup, CDv, CMul, CPow, sizeLine_eq, Int.reduceLE, Int.reduceLT, Int.reducePow, Int.reduceToNat, Int.reduceAdd, Int.reduceSub, Int.reduceMul, Int.reduceNeg, Nat.reduceLeDiff, Nat.reducePow, Nat.reduceLT, Int.reduceEq, true_or, or_true, ite_true, ite_false, if_true, if_false, Bool.not_true, Bool.not_false, Bool.false_eq_true, decide_true, decide_false, rIxQ, seqQ_updL, seqQ_updT, tupQ_updT, tSl, tNoPart, tPart, rSlQ, rSlTX, rCatQ, rCatTX, rCatTX0, tTupQ, tLstQ, new_upd, tNever, rEqD, rInQ, gTupQ, gCons, gNil, tBM, rAppend, tBM0, cxN, tCall, tRaise, tTry, Ends.gone, pick_nil, pick_own, pick_cap, join_some, tLc_list, tLc_tup, tYes, tyV, tFor_list, tLc_text, rNeE, rSlS, rIxS, rIsascii, rIsdigit, rRemPre, rSplit, rJoin, rStarts, gStarL, gTupL, tCallV, tFor_enumT, tFor_text, rExtend, tLc_zipS, tFor_zipS, tLcD, tDGet, tLc_rng1, hp,  seqQ_lst hp]
      refine ite2 (fun c => absurd c (by decide)) (fun _ => ?_)
      rw [eJ]
      exact ⟨_, _, _, _, rfl, hp, Kp.refl⟩
  intro σ1 G1 h
  rw [eJ] at h
  clear eJ
  obtain ⟨v2, x, y, z, rfl, hp, k⟩ := h
  unfold L3 at hp
  simp only [tSeq, tNext, tIfS, tAsg, gName, gSub, tRet, tRetN, tDrop, tVar, tC, tOp, tUn, rI0, rI, rU, tTest, tB, tAndV, tOrV, tNotV, tAnd, tOr, tNot, tIf, tChain, tCB, tCons, tNil, tLst, tTup, tCallC, List.getElem?_cons_zero, List.getElem?_cons_succ, List.set_cons_zero, List.set_cons_succ, Option.some.injEq, V.int.injEq, V.bl.injEq, V.ref.injEq, V.ty.injEq, V.str.injEq, List.cons.injEq, exists_eq_left', exists_eq_left, exists_and_left, and_true, true_and, and_assoc, cxK, rIxF, rSetL, rEq, rNe, scal, HO.lst.injEq, HO.tup.injEq, upd_none, ixN_10, ixN_20, ixN_21, ixN_30, ixN_31, ixN_32, upd_same, seqAt_updL, seqAt_updT, atI_0, atI_1, atI_2, atI_3, decide_eq_true_eq, L2.start, List.map_cons, List.map_nil, List.length_cons, List.length_nil, Nat.reduceAdd, Nat.reduceSub, List.replicate_succ, List.replicate_zero, List.cons_append, List.nil_append, List.append_nil, tFor_rng1, tFor_rng2, tFor_list, tFor_tup, CDv, CMul, CPow, sizeLine_eq, Int.reduceLE, Int.reduceLT, Int.reducePow, Int.reduceToNat, Int.reduceAdd, Int.reduceSub, Int.reduceMul, Int.reduceNeg, Nat.reduceLeDiff, Nat.reducePow, Nat.reduceLT, Int.reduceEq, true_or, or_true, ite_true, ite_false, if_true, if_false, Bool.not_true, Bool.not_false, Bool.false_eq_true, decide_true, decide_false, rIxQ, seqQ_updL, seqQ_updT, tupQ_updT, tSl, tNoPart, tPart, rSlQ, rSlTX, rCatQ, rCatTX, rCatTX0, tTupQ, tLstQ, new_upd, tNever, rEqD, rInQ, gTupQ, gCons, gNil, tBM, rAppend, tBM0, cxN, tCall, tRaise, tTry, Ends.gone, pick_nil, pick_own, pick_cap, join_some, tLc_list, tLc_tup, tYes, tyV, tFor_list, tLc_text, rNeE, rSlS, rIxS, rIsascii, rIsdigit, rRemPre, rSplit, rJoin, rStarts, gStarL, gTupL, tCallV, tFor_enumT, tFor_text, rExtend, tLc_zipS, tFor_zipS, tLcD, tDGet, tLc_rng1, hp,  seqQ_lst hp]
  have g : ∀ (u v z : Int), Kp K p H (upd G1 p (L3 u v z)) := fun u v z => k.trans (Kp.upd hp)
  refine ite2 (fun c => ⟨h0, h0, by omega, ?_⟩) (fun c => ?_)
  · exact q _ _ (Int.emod_nonneg _ (by omega)) (Int.emod_lt_of_pos _ h0) (.inr ⟨_, _, _, upd_same⟩) (g _ _ _)
  · refine ⟨?_, ?_, h0, q _ _ (Int.emod_nonneg _ (by omega)) (Int.emod_lt_of_pos _ h0) (.inr ⟨_, _, _, upd_same⟩) (g _ _ _)⟩
    all_goals omega
def spNumL (K : PySem.W.Frag) : Sp := fun vs H Q _ => ∃ p, vs = [.ref p] ∧ Wl H p ∧ ∀ (n : Int) (H' : Hp), 0 ≤ n → n.natAbs < 10 ^ 60 → Wl H' p → Kp K p H H' → Q (.int n) H'
theorem sc__law_number : FnScope ["_law_state", "_law_way", "_law_found"] ["_law_state"] (defScope s__law_number) := ⟨rfl, rfl, rfl, by decide +kernel, rfl, by decide +kernel, by decide +kernel⟩
theorem ok__law_number {f : Addr} {fd : FuncData} (F : Fun K "_law_number" "_law_number" s__law_number f fd) {aP cF cR cN : Addr} {t1 t2 t3 t4 tF : Tok} (B : B K mg aP cF cR cN t1 t2 t3 t4 tF) (C__law_digit : Callee P w K mg base "_law_digit" 1 ["_law_state", "_law_base"] (spDigit K)) : FnOk P w K mg base CX0 2 f fd ["_law_state"] (spNumL K) := by
  refine F.okJ sc__law_number (fun vs H Q E h => ?_) (fun cdv A outer s H vs Q E hr h => ?_)
  · obtain ⟨p, rfl, _⟩ := h
    rfl
  obtain ⟨p, rfl, hp, q⟩ := h
  refine ⟨_, (bcons (sset (i := 1) sc__law_number.nd rfl (Or.inl rfl) (ecall C__law_digit (hr.mono (by decide)) rfl (acons (ev 0) (acons ei anil))))
      (bcons (sset (i := 2) sc__law_number.nd rfl (Or.inl rfl) (ecall C__law_digit (hr.mono (by decide)) rfl (acons (ev 0) (acons (eix ix_Q (elstQ (acons ei (acons ei (acons (epowc 1000000000) (acons (epowc 1000000000000000000000000000000000000000000000000000000000000) (acons (epowc 1000000000) anil)))))) (ev 1) (fun _ _ => rfl)) anil))))
      (bcons (sif (tcmp op_eq (ev 1) ei (nomark _)) (bone (sret (eop op_sub (eop op_sub (epowc 1000000000000000000000000000000000000000000000000000000000000) ei) (ev 2)))) bnil)
      (bone (sret (ev 2)))))), ?_⟩
  try walk_at "rn"
  refine ⟨p, 5, rfl, hp, by decide, by decide, fun way H1 w0 w1 hp1 k1 => ?_⟩
  try walk_at "rn"
  intro b1 n1
  have x1 := Ext.new (K := K) (o := .lst [V.int 1, V.int 10, V.int 1000000000, V.int 1000000000000000000000000000000000000000000000000000000000000, V.int 1000000000]) n1
  obtain ⟨v, ev, mv⟩ := atI_in (xs := [V.int 1, V.int 10, V.int 1000000000, V.int 1000000000000000000000000000000000000000000000000000000000000, V.int 1000000000]) w0 w1
  obtain ⟨m, rfl, m0, m1⟩ : ∃ m : Int, v = .int m ∧ 0 < m ∧ m ≤ 1000000000000000000000000000000000000000000000000000000000000 := by
    simp only [List.mem_cons, List.not_mem_nil, or_false] at mv
    rcases mv with rfl | rfl | rfl | rfl | rfl <;> exact ⟨_, rfl, by decide, by decide⟩
  refine ⟨_, ev, p, m, rfl, hp1.ext x1, m0, by omega, fun r H2 r0 r1 hp2 k2 => ?_⟩
  try walk_at "rn"
  refine ite2 (fun c => ?_) (fun c => ?_)
  · subst c
    cases (show V.int m = V.int 1000000000 from Option.some.inj (ev.symm.trans rfl))
    exact q _ _ (by omega) (by omega) hp2 (k1.trans (x1.kp.trans k2))
  · exact q _ _ (by omega) (by omega) hp2 (k1.trans (x1.kp.trans k2))
def okMs (ms : List Int) : Prop := ms.length ≤ 41 ∧ small60 ms ∧ ms.all (fun n => decide (1 ≤ n)) = true ∧ rising ms = true
def spMarks (K : PySem.W.Frag) : Sp := fun vs H Q _ => ∃ p m, vs = [.ref p, .int m] ∧ Wl H p ∧ 0 < m ∧ m ≤ 41 ∧ ∀ (D : Addr) (ms : List Int) (H' : Hp), okMs ms → H' D = some (.lst (ms.map V.int)) → Wl H' p → Kp K p H H' → Q (.ref D) H'
theorem rising_snoc : ∀ {ms : List Int} {m : Int}, rising ms = true → (∀ x, ms.getLast? = some x → x < m) → rising (ms ++ [m]) = true
  | [], m, _, _ => rfl
  | [a], m, _, h => by
    have := h a rfl
    show (decide (a < m) && true) = true
    rw [decide_eq_true this]
    rfl
  | a :: b :: r, m, hr, h => by
    unfold rising at hr
    rw [Bool.and_eq_true] at hr
    show (decide (a < b) && rising (b :: r ++ [m])) = true
    rw [hr.1, rising_snoc hr.2 (fun x hx => h x (by simpa using hx))]
    rfl
theorem sc__law_marks : FnScope ["_law_state", "_law_most", "_law_many", "_law_mark", "_law_found", "_law_k"] ["_law_state", "_law_most"] (defScope s__law_marks) := ⟨rfl, rfl, rfl, by decide +kernel, rfl, by decide +kernel, by decide +kernel⟩
theorem ok__law_marks {f : Addr} {fd : FuncData} (F : Fun K "_law_marks" "_law_marks" s__law_marks f fd) {aP cF cR cN : Addr} {t1 t2 t3 t4 tF : Tok} (B : B K mg aP cF cR cN t1 t2 t3 t4 tF) (C__law_digit : Callee P w K mg base "_law_digit" 1 ["_law_state", "_law_base"] (spDigit K)) : FnOk P w K mg base CX0 2 f fd ["_law_state", "_law_most"] (spMarks K) := by
  refine F.okJ sc__law_marks (fun vs H Q E h => ?_) (fun cdv A outer s H vs Q E hr h => ?_)
  · obtain ⟨p, m, rfl, _⟩ := h
    rfl
  obtain ⟨p, most, rfl, hp, h0, h1, q⟩ := h
  refine ⟨_, (bcons (sset (i := 2) sc__law_marks.nd rfl (Or.inl rfl) (ecall C__law_digit (hr.mono (by decide)) rfl (acons (ev 0) (acons (eix ix_Q (elstQ (acons ei (acons ei (acons ei (acons (ev 1) anil))))) (ecall C__law_digit (hr.mono (by decide)) rfl (acons (ev 0) (acons ei anil))) (fun _ _ => rfl)) anil))))
      (bcons (sset (i := 3) sc__law_marks.nd rfl (Or.inl rfl) (ecall C__law_digit (hr.mono (by decide)) rfl (acons (ev 0) (acons (eix ix_Q (elstQ (acons ei (acons ei (acons (epowc 1000000000) (acons (epowc 100000000000000000000000000000000000000000000000000000000000) anil))))) (ecall C__law_digit (hr.mono (by decide)) rfl (acons (ev 0) (acons ei anil))) (fun _ _ => rfl)) anil))))
      (bcons (sset (i := 4) sc__law_marks.nd rfl (Or.inl rfl) (elstQ anil))
      (bcons (sfor PassesOwn.never rfl (irange1 rfl B.range (acons (ev 2) anil)) (gname (i := 5) sc__law_marks.nd rfl (Or.inl rfl))
        (bcons (sset (i := 3) sc__law_marks.nd rfl (Or.inl rfl) (eop op_add (eop op_add (ev 3) ei) (ecall C__law_digit (hr.mono (by decide)) rfl (acons (ev 0) (acons (eix ix_Q (elstQ (acons ei (acons ei (acons (epowc 1000000000) anil)))) (ecall C__law_digit (hr.mono (by decide)) rfl (acons (ev 0) (acons ei anil))) (fun _ _ => rfl)) anil)))))
      (bone (sexpr (ebm PySem.F.plainAttrs_list PySem.F.slot_list_append PySem.F.type_list_append mt_append (ev 4) (acons (ev 3) anil))))))
      (bone (sret (ev 4))))))), ?_⟩
  try walk_at "rn"
  intro b1 n1
  have x1 := Ext.new (K := K) (o := .lst [V.int 1, V.int 4, V.int 6, V.int most]) n1
  refine ⟨p, 4, rfl, hp.ext x1, by decide, by decide, fun d H1 d0 d1 hp1 k1 => ⟨_, rfl, _, seqQ_lst (k1.keep b1 _ upd_same (hp.ne n1)), ?_⟩⟩
  obtain ⟨v, ev, mv⟩ := atI_in (xs := [V.int 1, V.int 4, V.int 6, V.int most]) d0 d1
  obtain ⟨m1, rfl, m10, m11⟩ : ∃ m : Int, v = .int m ∧ 0 < m ∧ m ≤ 41 := by
    simp only [List.mem_cons, List.not_mem_nil, or_false] at mv
    rcases mv with rfl | rfl | rfl | rfl
    · exact ⟨_, rfl, by decide, by decide⟩
    · exact ⟨_, rfl, by decide, by decide⟩
    · exact ⟨_, rfl, by decide, by decide⟩
    · exact ⟨_, rfl, h0, h1⟩
  refine ⟨_, ev, p, m1, rfl, hp1, m10, by omega, fun many H2 y0 y1 hp2 k2 => ?_⟩
  try walk_at "rn"
  intro b2 n2
  have x2 := Ext.new (K := K) (o := .lst [V.int 1, V.int 10, V.int 1000000000, V.int 100000000000000000000000000000000000000000000000000000000000]) n2
  refine ⟨p, 4, rfl, hp2.ext x2, by decide, by decide, fun d H3 d0 d1 hp3 k3 => ⟨_, rfl, _, seqQ_lst (k3.keep b2 _ upd_same (hp2.ne n2)), ?_⟩⟩
  obtain ⟨v, ev, mv⟩ := atI_in (xs := [V.int 1, V.int 10, V.int 1000000000, V.int 100000000000000000000000000000000000000000000000000000000000]) d0 d1
  obtain ⟨m2, rfl, m20, m21⟩ : ∃ m : Int, v = .int m ∧ 0 < m ∧ m ≤ 100000000000000000000000000000000000000000000000000000000000 := by
    simp only [List.mem_cons, List.not_mem_nil, or_false] at mv
    rcases mv with rfl | rfl | rfl | rfl <;> exact ⟨_, rfl, by decide, by decide⟩
  refine ⟨_, ev, p, m2, rfl, hp3, m20, by omega, fun mark H4 z0 z1 hp4 k4 => ?_⟩
  try walk_at "rn"
  intro D nD
  refine ⟨by omega, by omega, ?_⟩
  have pD : p ≠ D := (hp4.ne nD).symm
  have kk := k1.trans (k2.trans (x2.kp.trans (k3.trans k4)))
  refine loop_range (fun i σ H' => ∃ (mk : Int) (ms : List Int) (v5 : Option V), σ = [some (.ref p), some (.int most), some (.int many), some (.int mk), some (.ref D), v5] ∧ H' D = some (.lst (ms.map V.int)) ∧ Wl H' p ∧ Kp2 K p D (upd H4 D (.lst [])) H' ∧ ms.length = i ∧ (0 ≤ mk ∧ mk ≤ 100000000000000000000000000000000000000000000000000000000000 + i * 1000000001) ∧ (∀ m ∈ ms, 1 ≤ m ∧ m ≤ mk) ∧ rising ms = true) ⟨mark, [], _, rfl, upd_same, hp4.upd pD, Kp2.refl, rfl, ⟨z0, by omega⟩, by simp, rfl⟩ ?_ ?_
  · rintro i σ H' hi ⟨mk, ms, v5, rfl, hD, hw, k5, hl, hm, hb, hr5⟩
    try walk_at "rn"
    intro b3 n3
    have x3 := Ext.new (K := K) (o := .lst [V.int 1, V.int 5, V.int 1000000000]) n3
    refine ⟨p, 3, rfl, hw.ext x3, by decide, by decide, fun d H5 d0 d1 hp5 k6 => ⟨_, rfl, _, seqQ_lst (k6.keep b3 _ upd_same (hw.ne n3)), ?_⟩⟩
    obtain ⟨v, ev, mv⟩ := atI_in (xs := [V.int 1, V.int 5, V.int 1000000000]) d0 d1
    obtain ⟨m3, rfl, m30, m31⟩ : ∃ m : Int, v = .int m ∧ 0 < m ∧ m ≤ 1000000000 := by
      simp only [List.mem_cons, List.not_mem_nil, or_false] at mv
      rcases mv with rfl | rfl | rfl <;> exact ⟨_, rfl, by decide, by decide⟩
    refine ⟨_, ev, p, m3, rfl, hp5, m30, by omega, fun r H6 r0 r1 hp6 k7 => ?_⟩
    try walk_at "rn"
    have hD6 := k7.keep D _ (k6.keep D _ (x3.at hD) pD.symm) pD.symm
    refine ⟨.inl ⟨_, SqL.of hD6⟩, _, hD6, by rw [List.length_map]; omega, ms ++ [mk + 1 + r], by simp, hp6.upd pD, ⟨fun q' o h e1 e2 => ?_, fun b xs h e => ?_⟩, by simp [hl], by omega, by omega, fun m hm' => ?_, rising_snoc hr5 fun x hx => ?_⟩
    · rw [upd_ne e2]
      exact k7.keep q' o (k6.keep q' o (x3.at (k5.keep q' o h e1 e2)) e1) e1
    · rw [upd_ne (fun z => by rw [z, nD.2] at e; cases e)]
      exact k7.mod b xs (k6.mod b xs (x3.mod b xs (k5.mod b xs h e) e) e) e
    · rcases List.mem_append.mp hm' with hm' | hm'
      · have := hb m hm'
        omega
      · rw [List.mem_singleton.mp hm']
        omega
    · have := hb x (List.mem_of_getLast? hx)
      omega
  · rintro σ H' ⟨mk, ms, v5, rfl, hD, hw, k5, hl, hm, hb, hr5⟩
    try walk_at "rn"
    refine q D ms _ ⟨by omega, fun m hm' => ?_, ?_, hr5⟩ hD hw (x1.kp.trans (kk.trans (k5.kp nD)))
    · have := hb m hm'
      omega
    · rw [List.all_eq_true]
      intro m hm'
      exact decide_eq_true (hb m hm').1
structure HeadOk (n1 n2 n3 n4 a b c : Int) (pl : Str) (ms : List Int) : Prop where
  n : small60 [n1, n2, n3, n4] ∧ 0 ≤ n1 ∧ 0 ≤ n2 ∧ 0 ≤ n3 ∧ 0 ≤ n4
  r : (1 ≤ a ∧ a ≤ 64) ∧ (3 ≤ b ∧ b ≤ 16) ∧ (1 ≤ c ∧ c ≤ 64)
  p : pl = Str.ofString "fullest" ∨ pl = Str.ofString "eldest"
  m : okMs ms
def spHead (K : PySem.W.Frag) : Sp := fun vs H Q _ => ∃ p m, vs = [.ref p, .int m] ∧ Wl H p ∧ 0 < m ∧ m ≤ 41 ∧ ∀ (T R M : Addr) n1 n2 n3 n4 a b c pl ms (H' : Hp), HeadOk n1 n2 n3 n4 a b c pl ms → HeadAt K H' T R M n1 n2 n3 n4 a b c pl ms → Wl H' p → Kp K p H H' → Q (.ref T) H'
theorem sc__law_head : FnScope ["_law_state", "_law_most", "_law_numbers", "_law_plan", "_law_rule"] ["_law_state", "_law_most"] (defScope s__law_head) := ⟨rfl, rfl, rfl, by decide +kernel, rfl, by decide +kernel, by decide +kernel⟩
theorem ok__law_head {f : Addr} {fd : FuncData} (F : Fun K "_law_head" "_law_head" s__law_head f fd) {aP cF cR cN : Addr} {t1 t2 t3 t4 tF : Tok} (B : B K mg aP cF cR cN t1 t2 t3 t4 tF) (C__law_digit : Callee P w K mg base "_law_digit" 1 ["_law_state", "_law_base"] (spDigit K)) (C__law_number : Callee P w K mg base "_law_number" 2 ["_law_state"] (spNumL K)) (C__law_marks : Callee P w K mg base "_law_marks" 2 ["_law_state", "_law_most"] (spMarks K)) : FnOk P w K mg base CX0 3 f fd ["_law_state", "_law_most"] (spHead K) := by
  refine F.okJ sc__law_head (fun vs H Q E h => ?_) (fun cdv A outer s H vs Q E hr h => ?_)
  · obtain ⟨p, m, rfl, _⟩ := h
    rfl
  obtain ⟨p, most, rfl, hp, h0, h1, q⟩ := h
  refine ex_seal (rest := (defBody s__law_head).drop 3) (bone (sret (etupQ (acons (eix ix_Q (ev 2) ei (fun _ _ => rfl)) (acons (eix ix_Q (ev 2) ei (fun _ _ => rfl)) (acons (eix ix_Q (ev 2) ei (fun _ _ => rfl)) (acons (eix ix_Q (ev 2) ei (fun _ _ => rfl)) (acons (ev 4) (acons (ecall C__law_marks (hr.mono (by decide)) rfl (acons (ev 0) (acons (ev 1) anil))) anil))))))))) fun r3 J3 e3 => ?_
  refine ex_seal (rest := (defBody s__law_head).drop 2) (bcons (sset (i := 4) sc__law_head.nd rfl (Or.inl rfl) (etupQ (acons (eop op_add ei (ecall C__law_digit (hr.mono (by decide)) rfl (acons (ev 0) (acons ei anil)))) (acons (eop op_add ei (ecall C__law_digit (hr.mono (by decide)) rfl (acons (ev 0) (acons ei anil)))) (acons (eop op_add ei (ecall C__law_digit (hr.mono (by decide)) rfl (acons (ev 0) (acons ei anil)))) (acons (ev 3) anil))))))
      J3) fun r2 J2 e2 => ?_
  refine ex_seal (rest := (defBody s__law_head).drop 1) (bcons (sset (i := 3) sc__law_head.nd rfl (Or.inl rfl) (eix ix_Q (elstQ (acons estr (acons estr anil))) (ecall C__law_digit (hr.mono (by decide)) rfl (acons (ev 0) (acons ei anil))) (fun _ _ => rfl)))
      J2) fun r1 J1 e1 => ?_
  refine ⟨_, (bcons (slc (i := 2) sc__law_head.nd rfl (Or.inl rfl) (Cap.mk (N := ["_law_k", "_law_state"]) (src := [none, some 0]) rfl rfl) rfl (irange1 rfl B.range (acons ei anil)) (fun _ _ _ _ => (gname (i := 0) (show (["_law_k", "_law_state"] : List Str).Nodup from by decide +kernel) rfl (Or.inl rfl))) (fun _ _ _ _ => fnone) (fun _ _ _ _ => (ecall C__law_number (hr.mono (by decide)) rfl (acons (ev 1) anil))))
      J1), ?_⟩
  try walk_at "rn"
  intro D nD
  have pD : p ≠ D := (hp.ne nD).symm
  refine lc_range (fun i acc σ H' => ∃ (ns : List Int) (v0 : Option V), σ = [v0, some (.ref p)] ∧ acc = ns.map V.int ∧ H' D = some (.lst acc) ∧ Wl H' p ∧ Kp2 K p D (upd H D (.lst [])) H' ∧ ns.length = i ∧ (∀ n ∈ ns, 0 ≤ n) ∧ small60 ns) ⟨[], _, rfl, rfl, upd_same, hp.upd pD, Kp2.refl, rfl, by simp, fun i hi => by cases hi⟩ ?_ ?_
  · rintro i acc σ H' hi ⟨ns, v0, rfl, rfl, hD, hw, k5, hl, hb, hs⟩
    try walk_at "rn"
    refine ⟨p, rfl, hw, fun n H2 n0 n60 hw2 k2 => ⟨k2.keep D _ hD pD.symm, by rw [List.length_map]; have := sizeLine_eq; omega, ns ++ [n], by simp, ?_⟩⟩
    refine ⟨hw2.upd pD, ⟨fun q' o h e1 e2 => ?_, fun b xs h e => ?_⟩, by simp [hl], fun m hm => ?_, fun m hm => ?_⟩
    · rw [upd_ne e2]
      exact k2.keep q' o (k5.keep q' o h e1 e2) e1
    · rw [upd_ne (fun z => by rw [z, nD.2] at e; cases e)]
      exact k2.mod b xs (k5.mod b xs h e) e
    · rcases List.mem_append.mp hm with hm | hm
      · exact hb m hm
      · rw [List.mem_singleton.mp hm]; exact n0
    · rcases List.mem_append.mp hm with hm | hm
      · exact hs m hm
      · rw [List.mem_singleton.mp hm]; exact n60
  rintro acc σ G ⟨ns, v0, rfl, rfl, hD, hw, k5, hl, hb, hs⟩
  have kG : Kp K p H G := k5.kp nD
  obtain ⟨n1, n2, n3, n4, rfl⟩ : ∃ n1 n2 n3 n4, ns = [n1, n2, n3, n4] := by
    rcases ns with _ | ⟨a1, _ | ⟨a2, _ | ⟨a3, _ | ⟨a4, _ | ⟨a5, us⟩⟩⟩⟩⟩ <;> simp only [List.length_cons, List.length_nil] at hl <;> first | omega | exact ⟨_, _, _, _, rfl⟩
  clear k5 hl
  rw [e1]
  try walk_at "rn"
  intro b1 m1
  have x1 := Ext.new (K := K) (o := .lst [V.str "fullest", V.str "eldest"]) m1
  refine ⟨p, 2, rfl, hw.ext x1, by decide, by decide, fun d H1 d0 d1 hp1 k1 => ⟨_, rfl, _, seqQ_lst (k1.keep b1 _ upd_same (hw.ne m1)), ?_⟩⟩
  obtain ⟨v, ev, mv⟩ := atI_in (xs := [V.str "fullest", V.str "eldest"]) d0 d1
  obtain ⟨pl, rfl, hpl⟩ : ∃ pl : Str, v = .str pl ∧ (pl = Str.ofString "fullest" ∨ pl = Str.ofString "eldest") := by
    simp only [List.mem_cons, List.not_mem_nil, or_false] at mv
    rcases mv with rfl | rfl
    · exact ⟨_, rfl, .inl rfl⟩
    · exact ⟨_, rfl, .inr rfl⟩
  refine ⟨_, ev, ?_⟩
  have hD1 := k1.keep D _ (x1.at hD) pD.symm
  have kG1 := kG.trans (x1.kp.trans k1)
  rw [e2]
  try walk_at "rn"
  refine ⟨p, 64, rfl, hp1, by decide, by decide, fun r1 H2 a0 a1 hp2 k2 => ⟨_, rfl, p, 14, rfl, hp2, by decide, by decide, fun r2 H3 b0 b1 hp3 k3 => ⟨_, rfl, p, 64, rfl, hp3, by decide, by decide, fun r3 H4 c0 c1 hp4 k4 => ⟨_, rfl, fun R nR => ?_⟩⟩⟩⟩
  have xR := Ext.new (K := K) (o := .tup [V.int (1 + r1), V.int (3 + r2), V.int (1 + r3), V.str pl]) nR
  have hD4 := xR.at (k4.keep D _ (k3.keep D _ (k2.keep D _ hD1 pD.symm) pD.symm) pD.symm)
  have kG4 := kG1.trans (k2.trans (k3.trans (k4.trans xR.kp)))
  have tR : tupQ K (upd H4 R (.tup [V.int (1 + r1), V.int (3 + r2), V.int (1 + r3), V.str pl])) R = some [V.int (1 + r1), V.int (3 + r2), V.int (1 + r3), V.str pl] := tupQ_updT
  have hp5 := hp4.ext xR
  generalize upd H4 R (.tup [V.int (1 + r1), V.int (3 + r2), V.int (1 + r3), V.str pl]) = G4 at hD4 kG4 tR hp5 ⊢
  rw [e3]
  simp_arith [seqQ_lst hD4]
  refine ⟨p, most, rfl, hp5, h0, h1, fun M ms H6 ok hM hp6 k6 T nT => ?_⟩
  have xT := Ext.new (K := K) (o := .tup [V.int n1, V.int n2, V.int n3, V.int n4, V.ref R, V.ref M]) nT
  obtain ⟨wx, hwx⟩ : ∃ xs, G4 p = some (.lst xs) := by
    rcases hp5 with ⟨x, h⟩ | ⟨x, y, z, h⟩
    · exact ⟨_, h⟩
    · exact ⟨_, h⟩
  exact q T R M n1 n2 n3 n4 _ _ _ pl ms _ ⟨⟨hs, hb _ (by simp), hb _ (by simp), hb _ (by simp), hb _ (by simp)⟩, ⟨⟨by omega, by omega⟩, ⟨by omega, by omega⟩, ⟨by omega, by omega⟩⟩, hpl, ok⟩ ⟨tupQ_updT, xT.tup (k6.tup hwx tR), xT.at hM⟩ (hp6.ext xT) (kG4.trans (k6.trans xT.kp))
theorem ext_upd {H G : Hp} {W : Addr} {o : HO} (x : Ext K H G) (n : new K H W) : Ext K H (upd G W o) := by
  refine ⟨fun b u e => ?_, fun b xs e k => ?_⟩
  · rw [upd_ne (ne_of_none e n.1)]
    exact x.at e
  · rw [upd_ne (fun z => by rw [z, n.2] at k; cases k)]
    exact x.mod b xs e k
theorem rule_app (a b c pl : Str) : a ++ Str.ofString "," ++ b ++ Str.ofString "," ++ c ++ Str.ofString "," ++ pl = Str.join (Str.ofString ",") [a, b, c, pl] := by
  refine str_ext ?_
  rw [comma_is, join_cps, join_cps, join_cps]
  show _ = a.cps.toList ++ 44 :: (b.cps.toList ++ 44 :: (c.cps.toList ++ 44 :: pl.cps.toList))
  simp only [app_cps, List.append_assoc]
  rfl
theorem join_last {c : Nat} : ∀ {ps : List Str} {q : Str}, ps ≠ [] → Str.join ⟨#[c]⟩ (ps ++ [q]) = Str.join ⟨#[c]⟩ ps ++ (⟨#[c]⟩ ++ q)
  | [], _, h => absurd rfl h
  | [x], q, _ => by
    refine str_ext ?_
    show (Str.join ⟨#[c]⟩ [x, q]).cps.toList = _
    rw [join_cps]
    show x.cps.toList ++ c :: q.cps.toList = (x ++ (⟨#[c]⟩ ++ q)).cps.toList
    simp only [app_cps]
    rfl
  | x :: y :: r, q, _ => by
    refine str_ext ?_
    have ih := join_last (c := c) (ps := y :: r) (q := q) (by simp)
    show (Str.join ⟨#[c]⟩ (x :: y :: (r ++ [q]))).cps.toList = _
    rw [join_cps, show y :: (r ++ [q]) = (y :: r) ++ [q] from rfl, ih]
    simp only [app_cps, join_cps, List.append_assoc, List.cons_append]
def spHTL (K : PySem.W.Frag) : Sp := fun vs H Q _ => ∃ T R M n1 n2 n3 n4 a b c pl ms, vs = [.ref T] ∧ HeadAt K H T R M n1 n2 n3 n4 a b c pl ms ∧ HeadOk n1 n2 n3 n4 a b c pl ms ∧ ∀ H', Ext K H H' → Q (.str (headT n1 n2 n3 n4 a b c pl ms)) H'
theorem sc__law_head_text : FnScope ["_law_head_here", "_law_words", "_law_rule"] ["_law_head_here"] (defScope s__law_head_text) := ⟨rfl, rfl, rfl, by decide +kernel, rfl, by decide +kernel, by decide +kernel⟩
theorem ok__law_head_text {f : Addr} {fd : FuncData} (F : Fun K "_law_head_text" "_law_head_text" s__law_head_text f fd) {aP cF cR cN : Addr} {t1 t2 t3 t4 tF : Tok} (B : B K mg aP cF cR cN t1 t2 t3 t4 tF) : FnOk P w K mg base CX0 1 f fd ["_law_head_here"] (spHTL K) := by
  refine F.okJ sc__law_head_text (fun vs H Q E h => ?_) (fun cdv A outer s H vs Q E hr h => ?_)
  · obtain ⟨T, R, M, n1, n2, n3, n4, a, b, c, pl, ms, rfl, _⟩ := h
    rfl
  obtain ⟨T, R, M, n1, n2, n3, n4, a, b, c, pl, ms, rfl, ⟨hT, hR, hM⟩, ok, q⟩ := h
  refine ex_seal (rest := (defBody s__law_head_text).drop 4) (bone (sret (eop op_add_str (eop op_add_str (ebm PySem.F.plainAttrs_str PySem.F.slot_str_join PySem.F.type_str_join mt_join estr (acons (ev 1) anil)) estr) (ebm PySem.F.plainAttrs_str PySem.F.slot_str_join PySem.F.type_str_join mt_join estr (acons (elc (Cap.mk (N := ["_law_mark"]) (src := [none]) rfl rfl) rfl (ilist (eix ix_Q (ev 0) ei (fun _ _ => rfl))) (fun _ _ _ _ => (gname (i := 0) (show (["_law_mark"] : List Str).Nodup from by decide +kernel) rfl (Or.inl rfl))) (fun _ _ _ _ => fnone) (fun _ _ _ _ => (ecallTy call_str_int rfl B.str bt_str (acons (ev 0) anil)))) anil))))) fun r4 J4 e4 => ?_
  refine ex_seal (rest := (defBody s__law_head_text).drop 3) (bcons (sif (tcmp (op_eqD hr.units) (eix ix_Q (ev 0) ei (fun _ _ => rfl)) (elstQ anil) (nomark _)) (bone (sret (eop op_add_str (ebm PySem.F.plainAttrs_str PySem.F.slot_str_join PySem.F.type_str_join mt_join estr (acons (ev 1) anil)) estr))) bnil)
      J4) fun r3 J3 e3 => ?_
  refine ex_seal (rest := (defBody s__law_head_text).drop 2) (bcons (sexpr (ebm PySem.F.plainAttrs_list PySem.F.slot_list_append PySem.F.type_list_append mt_append (ev 1) (acons (eop op_add_str (eop op_add_str (eop op_add_str (eop op_add_str (eop op_add_str (eop op_add_str (ecallTy call_str_int rfl B.str bt_str (acons (eix ix_Q (ev 2) ei (fun _ _ => rfl)) anil)) estr) (ecallTy call_str_int rfl B.str bt_str (acons (eix ix_Q (ev 2) ei (fun _ _ => rfl)) anil))) estr) (ecallTy call_str_int rfl B.str bt_str (acons (eix ix_Q (ev 2) ei (fun _ _ => rfl)) anil))) estr) (eix ix_Q (ev 2) ei (fun _ _ => rfl))) anil)))
      J3) fun r2 J2 e2 => ?_
  refine ex_seal (rest := (defBody s__law_head_text).drop 1) (bcons (sset (i := 2) sc__law_head_text.nd rfl (Or.inl rfl) (eix ix_Q (ev 0) ei (fun _ _ => rfl)))
      J2) fun r1 J1 e1 => ?_
  refine ⟨_, (bcons (sset (i := 1) sc__law_head_text.nd rfl (Or.inl rfl) (eop op_catQ (elstQ (acons estr anil)) (elc (Cap.mk (N := ["_law_number_here"]) (src := [none]) rfl rfl) rfl (itup (eslice sl_tupX (ev 0) onone (osome ei))) (fun _ _ _ _ => (gname (i := 0) (show (["_law_number_here"] : List Str).Nodup from by decide +kernel) rfl (Or.inl rfl))) (fun _ _ _ _ => fnone) (fun _ _ _ _ => (ecallTy call_str_int rfl B.str bt_str (acons (ev 0) anil))))))
      J1), ?_⟩
  try walk_at "rn"
  intro p1 m1
  have y1 := Ext.new (K := K) (o := .lst [V.str "head"]) m1
  refine ⟨_, y1.tup hT, fun S H1 hS x1 => ⟨⟨_, tupQ_sq hS⟩, fun D nD => ?_⟩⟩
  rw [show cutV [V.int n1, V.int n2, V.int n3, V.int n4, V.ref R, V.ref M] none (some 4) = [n1, n2, n3, n4].map V.int from by rw [show cutV [V.int n1, V.int n2, V.int n3, V.int n4, V.ref R, V.ref M] none (some 4) = [V.int n1, V.int n2, V.int n3, V.int n4, V.ref R, V.ref M].take 4 from cutV_to _ 4]; rfl] at hS
  refine lc_mapXT (f := V.int) (g := fun i => V.str (numT i)) (L := [n1, n2, n3, n4]) hS nD (by simp) (fun i hi H' Q' xx qq => ?_) (fun G hD x2 => ?_)
  · try walk_at "rn"
    exact ⟨num_log (n100 (ok.n.1 i hi)), qq _ Ext.refl⟩
  refine ⟨_, (x1.trans x2).at upd_same, _, hD, by simp, fun W nW => ?_⟩
  have yW := Ext.new (K := K) (o := .lst ([V.str "head"] ++ List.map (fun i => V.str (numT i)) [n1, n2, n3, n4])) nW
  have xG := y1.trans (x1.trans (x2.trans yW))
  have hW := upd_same (H := G) (a := W) (o := .lst ([V.str "head"] ++ List.map (fun i => V.str (numT i)) [n1, n2, n3, n4]))
  rw [show ([V.str "head"] ++ List.map (fun i => V.str (numT i)) [n1, n2, n3, n4] : List V) = [Str.ofString "head", numT n1, numT n2, numT n3, numT n4].map V.str from rfl] at xG hW ⊢
  generalize upd G W (.lst ([Str.ofString "head", numT n1, numT n2, numT n3, numT n4].map V.str)) = G1 at xG hW ⊢
  have hT1 := xG.tup hT
  have hR1 := xG.tup hR
  have hM1 := xG.at hM
  rw [e1]
  simp_arith [seqQ_T hT1]
  refine ⟨_, rfl, ?_⟩
  rw [e2]
  simp_arith [seqQ_T hR1]
  have la := numT_len (i := a) (by have := ok.r; omega)
  have lb := numT_len (i := b) (by have := ok.r; omega)
  have lc := numT_len (i := c) (by have := ok.r; omega)
  have lpl : pl.length ≤ 10 := by rcases ok.p with rfl | rfl <;> decide +kernel
  have l1 : (Str.ofString ",").length = 1 := by decide +kernel
  have tg : ∀ i : Int, Str.ofString (toString i) = numT i := fun _ => rfl
  simp only [tg]
  refine ⟨.inl ⟨_, SqL.of hW⟩, num_log (by have := ok.r; omega), by omega, num_log (by have := ok.r; omega), by simp only [Str.length_append]; omega, by simp only [Str.length_append]; omega, num_log (by have := ok.r; omega), by simp only [Str.length_append]; omega, by simp only [Str.length_append]; omega, by simp only [Str.length_append]; omega, _, hW, by simp, ?_⟩
  rw [rule_app, show Str.join (Str.ofString ",") [numT a, numT b, numT c, pl] = ruleT a b c pl from rfl]
  have nW0 := new_old (y1.trans (x1.trans x2)) nW
  have xG2 := ext_upd (o := .lst ([Str.ofString "head", numT n1, numT n2, numT n3, numT n4].map V.str ++ [V.str (ruleT a b c pl)])) xG nW0
  have hW2 := upd_same (H := G1) (a := W) (o := .lst ([Str.ofString "head", numT n1, numT n2, numT n3, numT n4].map V.str ++ [V.str (ruleT a b c pl)]))
  rw [show ([Str.ofString "head", numT n1, numT n2, numT n3, numT n4].map V.str ++ [V.str (ruleT a b c pl)] : List V) = [Str.ofString "head", numT n1, numT n2, numT n3, numT n4, ruleT a b c pl].map V.str from rfl] at xG2 hW2 ⊢
  generalize upd G1 W (.lst ([Str.ofString "head", numT n1, numT n2, numT n3, numT n4, ruleT a b c pl].map V.str)) = G2 at xG2 hW2 ⊢
  have hT2 := xG2.tup hT
  have hM2 := xG2.at hM
  clear xG hW hT1 hR1 hM1
  have sm3 : small60 [a, b, c] := by
    intro i hi
    have := ok.r
    simp only [List.mem_cons, List.not_mem_nil, or_false] at hi
    rcases hi with rfl | rfl | rfl <;> omega
  have lr := ruleT_len (pl := pl) sm3 (by omega)
  have l6 : ∀ t ∈ [Str.ofString "head", numT n1, numT n2, numT n3, numT n4, ruleT a b c pl], t.length ≤ 408 := by
    intro t ht
    simp only [List.mem_cons, List.not_mem_nil, or_false] at ht
    have z : ∀ i ∈ [n1, n2, n3, n4], (numT i).length ≤ 408 := fun i hi => by have := numT_len (n100 (ok.n.1 i hi)); omega
    rcases ht with rfl | rfl | rfl | rfl | rfl | rfl
    · decide +kernel
    · exact z _ (by simp)
    · exact z _ (by simp)
    · exact z _ (by simp)
    · exact z _ (by simp)
    · exact lr
  have j1 := lenAll_le (sep := Str.ofString " ") _ l6
  have j2 := join_le (sep := Str.ofString " ") _ l6
  rw [show (Str.ofString " ").length = 1 from by decide +kernel] at j1 j2
  simp only [List.length_cons, List.length_nil] at j1 j2
  have he : ∀ z : Str, numsT ms = z → headT n1 n2 n3 n4 a b c pl ms = Str.join (Str.ofString " ") [Str.ofString "head", numT n1, numT n2, numT n3, numT n4, ruleT a b c pl] ++ (Str.ofString " " ++ z) := fun z e => by
    unfold headT
    rw [e, blank_is, ← join_last (by simp)]
    rfl
  rw [e3]
  simp_arith [seqQ_T hT2]
  refine ⟨_, rfl, fun p3 m3 => ?_⟩
  have y3 := Ext.new (K := K) (o := .lst []) m3
  refine ⟨_, ints_is (y3.at hM2), _, ints_is (ks := []) (by exact upd_same), ints_shaped _, ints_shaped _, ?_⟩
  obtain ⟨lm, sm, _, _⟩ := ok.m
  cases hm : ms with
  | nil =>
    subst hm
    refine iteT' rfl ⟨[Str.ofString "head", numT n1, numT n2, numT n3, numT n4, ruleT a b c pl], SqL.of (y3.at hW2), by omega, by omega, by have : (Str.ofString " -").length = 2 := by { decide +kernel }; omega, ?_⟩
    have := q _ (xG2.trans y3)
    rw [he (Str.ofString "-") rfl] at this
    rw [show Str.ofString " -" = Str.ofString " " ++ Str.ofString "-" from by decide +kernel]
    exact this
  | cons m0 mr =>
    rw [← hm]
    refine iteF' (by rw [hm]; simp [PyData.eqv, PyData.eqvAll]) ?_
    rw [e4]
    simp_arith [seqQ_T (y3.tup hT2)]
    have lb : (Str.ofString " ").length = 1 := by decide +kernel
    refine ⟨[Str.ofString "head", numT n1, numT n2, numT n3, numT n4, ruleT a b c pl], SqL.of (y3.at hW2), by omega, by omega, by omega, _, rfl, M, rfl, ⟨_, SqL.of (y3.at hM2)⟩, fun D2 nD2 => lc_mapY (f := V.int) (g := fun i => V.str (numT i)) (SqL.of (y3.at hM2)) nD2 (by omega) (fun i hi H' Q' xx qq => ?_) (fun G3 h3 x3 => ?_)⟩
    · try walk_at "rn"
      exact ⟨num_log (n100 (sm i hi)), qq _ Ext.refl⟩
    have l7 : ∀ t ∈ ms.map numT, t.length ≤ 101 := fun t ht => by
      obtain ⟨i, hi, rfl⟩ := List.mem_map.mp ht
      exact numT_len (n100 (sm i hi))
    have j3 := lenAll_le (sep := Str.ofString ",") _ l7
    have j4 := join_le (sep := Str.ofString ",") _ l7
    rw [show (Str.ofString ",").length = 1 from by decide +kernel, List.length_map] at j3 j4
    have : ms.length * 102 ≤ 41 * 102 := Nat.mul_le_mul_right _ lm
    refine ⟨ms.map numT, SqL.of (by rw [h3, List.map_map]; rfl), by omega, by omega, by rw [Str.length_append]; omega, ?_⟩
    have := q _ (xG2.trans (y3.trans x3))
    rw [he (Str.join (Str.ofString ",") (ms.map numT)) (by unfold numsT listT; rw [if_neg (by rw [hm]; simp)])] at this
    rw [show ∀ x y z : Str, x ++ y ++ z = x ++ (y ++ z) from fun x y z => str_ext (by simp only [app_cps, List.append_assoc])]
    exact this
end
theorem slice_from {x : Str} {n : Nat} (h : n ≤ x.length) : (Txt.slice x (some (n : Int)) none).cps.toList = x.cps.toList.drop n := by
  have e : Txt.slice x (some (n : Int)) none = StrLaws.sliceText x (some (n : Int)) none := rfl
  rw [e, StrLaws.sliceText_from ⟨by omega, by rw [str_len] at h; omega⟩]
  simp
  exact List.take_of_length_le (by simp)
theorem signs_of (c : Nat) : Txt.contains (Str.ofString "0123456789") ⟨#[c]⟩ = isFig c := by
  show (!(Builtin.Str.occurrences (Str.ofString "0123456789") ⟨#[c]⟩ 0 (Str.ofString "0123456789").length 1).isEmpty) = _
  rw [StrLaws.found_one, show (Str.ofString "0123456789").cps.toList = [48, 49, 50, 51, 52, 53, 54, 55, 56, 57] from by decide +kernel]
  unfold isFig
  rw [Bool.eq_iff_iff]
  simp only [List.mem_cons, List.not_mem_nil, or_false, decide_eq_true_eq, Bool.and_eq_true]
  omega
theorem fig_law {t b : Str} (hb : b.cps.toList = bareL t.cps.toList) (ne : bareL t.cps.toList ≠ []) (h60 : (bareL t.cps.toList).length ≤ 60) (ha : (bareL t.cps.toList).all isFig = true) : figL t.cps.toList = !(decide (t = Str.ofString "-0") || (decide (1 < b.length) && decide (b.cps.toList.head? = some 48))) := by
  unfold figL
  rw [ha, decide_eq_true h60, show (!(bareL t.cps.toList).isEmpty) = true from by simp [ne], Bool.true_and, Bool.true_and]
  congr 1
  have hl : b.length = (bareL t.cps.toList).length := by rw [str_len, hb]
  rw [hb, hl]
  have m0 : (Str.ofString "-0").cps.toList = [45, 48] := by decide +kernel
  have e0 : (t = Str.ofString "-0") ↔ t.cps.toList = [45, 48] := ⟨fun z => by rw [z, m0], fun z => str_ext (by rw [z, m0])⟩
  have hd : decide (t = Str.ofString "-0") = decide (t.cps.toList = [45, 48]) := decide_eq_decide.mpr e0
  rw [hd]
  clear hd hb e0 m0 hl ha h60
  generalize t.cps.toList = l at ne ⊢
  rw [Bool.eq_iff_iff]
  simp only [Bool.and_eq_true, decide_eq_true_eq, Bool.or_eq_true, ne_eq]
  rcases l with _ | ⟨c, l⟩
  · exact absurd rfl ne
  · by_cases hc : c = 45
    · subst hc
      simp only [bareL] at ne ⊢
      rcases l with _ | ⟨d, _ | ⟨e, l⟩⟩
      · exact absurd rfl ne
      · simp
      · simp
    · rw [bareL_ne (by simp [hc])]
      rcases l with _ | ⟨d, l⟩
      · simp [hc]
      · simp [hc]
theorem starts_minus (t : Str) : Txt.startswith t (Str.ofString "-") = decide (t.cps.toList.head? = some 45) := by
  unfold Txt.startswith
  rw [StrLaws.subAt_eq, minus_cps, show (Str.ofString "-").length = 1 from by decide +kernel, str_len]
  cases e : t.cps.toList with
  | nil => simp
  | cons c r =>
    simp
    rfl
section
variable {P : Program} {w : World} {K : PySem.W.Frag} {mg : Str → Option Value} {base : Heap}
def spWh (K : PySem.W.Frag) : Sp := fun vs H Q _ => ∃ t : Str, vs = [.str t] ∧ t.length ≤ 1000000 ∧ ∀ H', Ext K H H' → Q (on (readFig t)) H'
theorem sc__law_whole : FnScope ["_law_word", "_law_figures_here"] ["_law_word"] (defScope s__law_whole) := ⟨rfl, rfl, rfl, by decide +kernel, rfl, by decide +kernel, by decide +kernel⟩
theorem ok__law_whole {f : Addr} {fd : FuncData} (F : Fun K "_law_whole" "_law_whole" s__law_whole f fd) {aP cF cR cN : Addr} {t1 t2 t3 t4 tF : Tok} (B : B K mg aP cF cR cN t1 t2 t3 t4 tF) : FnOk P w K mg base CX0 1 f fd ["_law_word"] (spWh K) := by
  refine F.okJ sc__law_whole (fun vs H Q E h => ?_) (fun cdv A outer s H vs Q E hr h => ?_)
  · obtain ⟨t, rfl, _⟩ := h
    rfl
  obtain ⟨t, rfl, ht, q⟩ := h
  refine ⟨_, (bcons (sset (i := 1) sc__law_whole.nd rfl (Or.inl rfl) (ev 0))
      (bcut (sif (ttruth (ebm PySem.F.plainAttrs_str PySem.F.slot_str_startswith PySem.F.type_str_startswith mt_startswith (ev 0) (acons estr anil)) (fun _ => rfl)) (bone (sset (i := 1) sc__law_whole.nd rfl (Or.inl rfl) (eslice sl_str (ev 0) (osome ei) onone))) bnil)
      (bcons (sif (tw (wor (tcmp op_lt (ecallB call_len_str rfl B.len bt_len (acons (ev 1) anil)) ei (nomark _)) (wor (tcmp op_gt (ecallB call_len_str rfl B.len bt_len (acons (ev 1) anil)) ei (nomark _)) (wor1 (tcmp (op_neE (Nat.lt_of_le_of_lt (Nat.le_add_right _ 64) hr.units)) (elc (Cap.mk (N := ["_law_sign_here"]) (src := [none]) rfl rfl) rfl (itext (ev 1)) (fun _ _ _ _ => (gname (i := 0) (show (["_law_sign_here"] : List Str).Nodup from by decide +kernel) rfl (Or.inl rfl))) (fun _ _ _ _ => (fone (tcmp op_notInS (ev 0) estr (by with_unfolding_all rfl)))) (fun _ _ _ _ => (ev 0))) (elstQ anil) (nomark _)))))) (bone (sret enon)) bnil)
      (bcons (sif (tw (wor (tcmp op_eq (ev 0) estr (nomark _)) (wor1 (tw (wand (tcmp op_gt (ecallB call_len_str rfl B.len bt_len (acons (ev 1) anil)) ei (nomark _)) (wand1 (tcmp op_eq (eix ix_str (ev 1) ei (fun _ _ => rfl)) estr (nomark _)))))))) (bone (sret enon)) bnil)
      (bone (sret (ecallTy call_intT rfl B.int bt_int (acons (ev 0) anil)))))))), ?_⟩
  try walk_at "rn"
  refine ⟨fun σ H' => ∃ b : Str, σ = [some (.str t), some (.str b)] ∧ H' = H ∧ b.cps.toList = bareL t.cps.toList, ?_, ?_⟩
  · try walk_at "rn"
    rw [starts_minus]
    refine ⟨_, rfl, ?_⟩
    by_cases c : t.cps.toList.head? = some 45
    · refine iteT' (decide_eq_true c) ⟨by omega, ?_⟩
      cases q' : t.cps.toList with
      | nil => rw [q'] at c; cases c
      | cons d r =>
        rw [q'] at c
        simp only [List.head?_cons, Option.some.injEq] at c
        subst c
        have := slice_from (x := t) (n := 1) (by rw [str_len, q']; simp)
        rw [q'] at this
        exact this
    · exact iteF' (by rw [decide_eq_false c]; decide) (bareL_ne c).symm
  rintro σ H' ⟨b, rfl, rfl, hb⟩
  have hl : b.length = (bareL t.cps.toList).length := by rw [str_len, hb]
  have hle := bareL_le t.cps.toList
  have htl : t.length = t.cps.toList.length := by simp [Str.length]
  try walk_at "rn"
  unfold readFig at q
  refine ⟨by omega, ite2 (fun c => ?_) (fun c => ?_)⟩
  · have := q H' Ext.refl
    have z : bareL t.cps.toList = [] := List.eq_nil_of_length_eq_zero (by omega)
    rw [if_neg (by unfold figL; rw [z]; simp)] at this
    exact this
  refine ⟨by omega, ite2 (fun d => ?_) (fun d => ?_)⟩
  · have := q H' Ext.refl
    rw [if_neg (by unfold figL; rw [decide_eq_false (show ¬ (bareL t.cps.toList).length ≤ 60 by omega)]; simp)] at this
    exact this
  have ne : bareL t.cps.toList ≠ [] := fun z => by rw [z] at hl; simp at hl; omega
  intro D nD
  refine lc_signs (p := fun c => !isFig c) nD (by omega) (fun c hc H' R r => ?_) (fun c hc H' R r => ?_) (fun H1 hD x' => ?_)
  · try walk_at "rn"
    rw [signs_of]
    exact r
  · try walk_at "rn"
    exact r
  intro p np
  refine ⟨_, (Ext.new np).same.seq (SqL.of hD), SqL.of upd_same, ?_⟩
  have xx := x'.trans (Ext.new (K := K) (o := .lst []) np)
  have key : (!((b.cps.toList.filter fun c => !isFig c).map fun c => V.str ⟨#[c]⟩).isEmpty) = !((bareL t.cps.toList).all isFig) := by
    rw [hb]
    congr 1
    rw [Bool.eq_iff_iff, List.isEmpty_iff, List.map_eq_nil_iff, List.filter_eq_nil_iff, List.all_eq_true]
    simp
  rw [key]
  cases ca1 : (bareL t.cps.toList).all isFig with
  | false =>
    refine iteT' (by decide) ?_
    have := q _ xx
    rw [if_neg (by unfold figL; rw [ca1]; simp)] at this
    exact this
  | true =>
    refine iteF' (by decide) ?_
    have fl := fig_law hb ne (by omega) ca1
    have q' := q _ xx
    have fin : figL t.cps.toList = true → ∃ x, intText? t = some x ∧ t.length ≤ 640 ∧ Q (V.int x) (upd H1 p (.lst [])) := fun hf => by
      rw [if_pos hf] at q'
      exact ⟨_, fig_int hf, by have := fig_len hf; omega, q'⟩
    have bad : figL t.cps.toList = false → Q .non (upd H1 p (.lst [])) := fun hf => by
      rw [if_neg (by rw [hf]; decide)] at q'
      exact q'
    by_cases c0 : t = Str.ofString "-0"
    · exact iteT' c0 (bad (by rw [fl, decide_eq_true c0]; rfl))
    refine iteF' c0 ⟨by omega, ?_⟩
    by_cases c1 : 1 < b.length
    · refine iteT' (by omega) ⟨by omega, ?_⟩
      cases e : b.cps.toList with
      | nil => rw [hb] at e; exact absurd e ne
      | cons d r =>
        refine ⟨d, atI_0, ?_⟩
        by_cases hc : d = 48
        · refine iteT' (str_one.mpr hc) (bad ?_)
          rw [fl, decide_eq_true c1, e, hc]
          simp
        · refine iteF' (fun z => hc (str_one.mp z)) (fin ?_)
          rw [fl, decide_eq_false c0, e]
          simp [hc]
    · refine iteF' (by omega) (fin ?_)
      rw [fl, decide_eq_false c0, decide_eq_false c1]
      rfl
def cnt (t : Str) : Option Int := match readFig t with
  | some i => if 0 ≤ i then some i else none
  | none => none
theorem cnt_of {u : Str} {i : Int} (h : cnt u = some i) : readFig u = some i ∧ 0 ≤ i := by
  unfold cnt at h
  cases h' : readFig u with
  | none => rw [h'] at h; cases h
  | some j =>
    rw [h'] at h
    by_cases c : 0 ≤ j
    · simp only [if_pos c, Option.some.injEq] at h
      subst h
      exact ⟨rfl, c⟩
    · simp only [if_neg c] at h
      cases h
theorem cnt_eq {u : Str} {i : Int} (h : readFig u = some i) (c : 0 ≤ i) : cnt u = some i := by
  unfold cnt
  rw [h]
  simp [c]
theorem cnts_of : ∀ {ps : List Str} {ns : List Int}, ps.map cnt = ns.map some → ps.map readFig = ns.map some ∧ ∀ n ∈ ns, 0 ≤ n
  | [], [], _ => ⟨rfl, by simp⟩
  | [], _ :: _, h => by cases h
  | _ :: _, [], h => by cases h
  | p :: ps, n :: ns, h => by
    rw [List.map_cons, List.map_cons] at h
    obtain ⟨h1, h2⟩ := List.cons.inj h
    obtain ⟨a1, a2⟩ := cnt_of h1
    obtain ⟨b1, b2⟩ := cnts_of h2
    refine ⟨by rw [List.map_cons, List.map_cons, a1, b1], fun m hm => ?_⟩
    rcases List.mem_cons.mp hm with rfl | hm
    · exact a2
    · exact b2 m hm
theorem cnts_eq : ∀ {ps : List Str} {ns : List Int}, ps.map readFig = ns.map some → (∀ n ∈ ns, 0 ≤ n) → ps.map cnt = ns.map some
  | [], [], _, _ => rfl
  | [], _ :: _, h, _ => by cases h
  | _ :: _, [], h, _ => by cases h
  | p :: ps, n :: ns, h, c => by
    rw [List.map_cons, List.map_cons] at h
    obtain ⟨h1, h2⟩ := List.cons.inj h
    rw [List.map_cons, List.map_cons, cnt_eq h1 (c n List.mem_cons_self), cnts_eq h2 fun m hm => c m (List.mem_cons_of_mem _ hm)]
def spCnt (K : PySem.W.Frag) : Sp := fun vs H Q _ => ∃ t : Str, vs = [.str t] ∧ t.length ≤ 1000000 ∧ ∀ H', Ext K H H' → Q (on (cnt t)) H'
theorem sc__law_count : FnScope ["_law_word", "_law_found"] ["_law_word"] (defScope s__law_count) := ⟨rfl, rfl, rfl, by decide +kernel, rfl, by decide +kernel, by decide +kernel⟩
theorem ok__law_count {f : Addr} {fd : FuncData} (F : Fun K "_law_count" "_law_count" s__law_count f fd) {aP cF cR cN : Addr} {t1 t2 t3 t4 tF : Tok} (B : B K mg aP cF cR cN t1 t2 t3 t4 tF) (C__law_whole : Callee P w K mg base "_law_whole" 1 ["_law_word"] (spWh K)) : FnOk P w K mg base CX0 2 f fd ["_law_word"] (spCnt K) := by
  refine F.okJ sc__law_count (fun vs H Q E h => ?_) (fun cdv A outer s H vs Q E hr h => ?_)
  · obtain ⟨t, rfl, _⟩ := h
    rfl
  obtain ⟨t, rfl, ht, q⟩ := h
  refine ⟨_, (bcons (sset (i := 1) sc__law_count.nd rfl (Or.inl rfl) (ecall C__law_whole (hr.mono (by decide)) rfl (acons (ev 0) anil)))
      (bcons (sif (tw (wor (tcmp op_isN (ev 1) enon (nomark _)) (wor1 (tcmp op_lt (ev 1) ei (nomark _))))) (bone (sret enon)) bnil)
      (bone (sret (ev 1))))), ?_⟩
  try walk_at "rn"
  refine ⟨t, rfl, ht, fun H1 x1 => ?_⟩
  have q1 := q H1 x1
  unfold cnt at q1
  cases e : readFig t with
  | none =>
    rw [e] at q1
    exact iteT' rfl q1
  | some i =>
    rw [e] at q1
    refine iteF' (by simp [on]) ⟨i, rfl, ite2 (fun c => ?_) (fun c => ?_)⟩
    · simp only [if_neg (show ¬ 0 ≤ i by omega)] at q1
      exact q1
    · simp only [if_pos (show 0 ≤ i by omega)] at q1
      exact q1
theorem sc__law_rule_in : FnScope ["_law_word", "_law_parts", "_law_tray", "_law_fan", "_law_rows"] ["_law_word"] (defScope s__law_rule_in) := ⟨rfl, rfl, rfl, by decide +kernel, rfl, by decide +kernel, by decide +kernel⟩
theorem ok__law_rule_in {f : Addr} {fd : FuncData} (F : Fun K "_law_rule_in" "_law_rule_in" s__law_rule_in f fd) {aP cF cR cN : Addr} {t1 t2 t3 t4 tF : Tok} (B : B K mg aP cF cR cN t1 t2 t3 t4 tF) (C__law_count : Callee P w K mg base "_law_count" 2 ["_law_word"] (spCnt K)) : FnOk P w K mg base CX0 3 f fd ["_law_word"] (spRR K) := by
  refine F.okJ sc__law_rule_in (fun vs H Q E h => ?_) (fun cdv A outer s H vs Q E hr h => ?_)
  · obtain ⟨t, rfl, _⟩ := h
    rfl
  obtain ⟨t, rfl, ht, qn, q⟩ := h
  obtain ⟨s1, s2⟩ := split_lenC t 44
  have sne := split_ne t 44
  rw [← comma_is] at s1 s2 sne
  refine ex_seal (rest := (defBody s__law_rule_in).drop 5) (bone (sret (etupQ (acons (ev 2) (acons (ev 3) (acons (ev 4) (acons (eix ix_Q (ev 1) ei (fun _ _ => rfl)) anil))))))) fun r5 J5 e5 => ?_
  refine ex_seal (rest := (defBody s__law_rule_in).drop 4) (bcons (sif (tw (wor (tcmp op_lt (ev 2) ei (nomark _)) (wor (tcmp op_gt (ev 2) ei (nomark _)) (wor (tcmp op_lt (ev 3) ei (nomark _)) (wor (tcmp op_gt (ev 3) ei (nomark _)) (wor (tcmp op_lt (ev 4) ei (nomark _)) (wor1 (tcmp op_gt (ev 4) ei (nomark _))))))))) (bone (sret enon)) bnil)
      J5) fun r4 J4 e4 => ?_
  refine ex_seal (rest := (defBody s__law_rule_in).drop 3) (bcons (sif (tw (wor (tcmp op_isN (ev 2) enon (nomark _)) (wor (tcmp op_isN (ev 3) enon (nomark _)) (wor (tcmp op_isN (ev 4) enon (nomark _)) (wor1 (tcmp op_notInQ (eix ix_Q (ev 1) ei (fun _ _ => rfl)) (elstQ (acons estr (acons estr anil))) (by with_unfolding_all rfl))))))) (bone (sret enon)) bnil)
      J4) fun r3 J3 e3 => ?_
  refine ex_seal (rest := (defBody s__law_rule_in).drop 2) (bcons (sasg (elc (Cap.mk (N := ["_law_piece"]) (src := [none]) rfl rfl) rfl (ilist (eslice sl_listQ (ev 1) onone (osome ei))) (fun _ _ _ _ => (gname (i := 0) (show (["_law_piece"] : List Str).Nodup from by decide +kernel) rfl (Or.inl rfl))) (fun _ _ _ _ => fnone) (fun _ _ _ _ => (ecall C__law_count (hr.mono (by decide)) rfl (acons (ev 0) anil)))) (gtupL (n := 3) rfl (gcons (gname (i := 2) sc__law_rule_in.nd rfl (Or.inl rfl)) (gcons (gname (i := 3) sc__law_rule_in.nd rfl (Or.inl rfl)) (gcons (gname (i := 4) sc__law_rule_in.nd rfl (Or.inl rfl)) gnil)))))
      J3) fun r2 J2 e2 => ?_
  refine ⟨_, (bcons (sset (i := 1) sc__law_rule_in.nd rfl (Or.inl rfl) (ebm PySem.F.plainAttrs_str PySem.F.slot_str_split PySem.F.type_str_split mt_split (ev 0) (acons estr anil)))
      (bcons (sif (tcmp op_ne (ecallB call_lenQ rfl B.len bt_len (acons (ev 1) anil)) ei (nomark _)) (bone (sret enon)) bnil)
      J2)), ?_⟩
  try walk_at "rn"
  refine ⟨by decide +kernel, by omega, by omega, fun D nD => ?_⟩
  have hD := upd_same (H := H) (a := D) (o := .lst (List.map V.str (Txt.split t (Str.ofString ","))))
  have xG := Ext.new (K := K) (o := .lst (List.map V.str (Txt.split t (Str.ofString ",")))) nD
  by_cases h4 : (Txt.split t (Str.ofString ",")).length = 4
  case neg =>
    refine iteT' (by simp; omega) (qn ?_ _ xG)
    rintro a b c pl ⟨x, y, z, e, _⟩
    rw [e] at h4
    exact h4 rfl
  refine iteF' (by simp [h4]) ?_
  obtain ⟨x, y, z, pl, e⟩ : ∃ x y z pl, Txt.split t (Str.ofString ",") = [x, y, z, pl] := by
    generalize Txt.split t (Str.ofString ",") = l at h4
    rcases l with _ | ⟨a, _ | ⟨b, _ | ⟨c, _ | ⟨d, _ | ⟨f', l⟩⟩⟩⟩⟩ <;> simp only [List.length_cons, List.length_nil] at h4 <;> first | omega | exact ⟨_, _, _, _, rfl⟩
  rw [e] at s2 hD xG ⊢
  generalize upd H D (.lst (List.map V.str [x, y, z, pl])) = G at hD xG ⊢
  rw [e2]
  try walk_at "rn"
  refine ⟨_, SqL.of hD, fun S nS => ⟨⟨_, SqL.of upd_same⟩, fun N nN => ?_⟩⟩
  have eS : cutV (List.map V.str [x, y, z, pl]) none (some 3) = [x, y, z].map V.str := by rw [show cutV (List.map V.str [x, y, z, pl]) none (some 3) = (List.map V.str [x, y, z, pl]).take 3 from cutV_to _ 3]; rfl
  rw [eS] at nN ⊢
  have xS := Ext.new (K := K) (o := .lst ([x, y, z].map V.str)) (by exact nS)
  refine lc_mapY (f := V.str) (g := fun p => on (cnt p)) (H := upd G S (.lst ([x, y, z].map V.str))) (SqL.of upd_same) nN (by simp) (fun p hp H' Q' xx qq => ?_) (fun G1 hN x1 => ?_)
  · try walk_at "rn"
    refine ⟨p, rfl, ?_, qq⟩
    have := s2 p (by simp only [List.mem_cons, List.not_mem_nil, or_false] at hp ⊢; rcases hp with h | h | h <;> simp [h])
    omega
  have xG1 := xG.trans (xS.trans x1)
  have hD1 := (xS.trans x1).at hD
  refine ⟨_, SqL.of hN, rfl, _, _, rfl, _, _, rfl, _, _, rfl, rfl, ?_⟩
  have noR : (∀ a b c, readFig x = some a → readFig y = some b → readFig z = some c → (1 ≤ a ∧ a ≤ 64) → (3 ≤ b ∧ b ≤ 16) → (1 ≤ c ∧ c ≤ 64) → isPl pl = true → False) → ∀ a b c pl', ¬ RuleIs t a b c pl' := by
    rintro w' a b c pl' ⟨x', y', z', e', h1, h2, h3, g1, g2, g3, g4⟩
    rw [e] at e'
    cases e'
    exact w' a b c h1 h2 h3 g1 g2 g3 g4
  have cn : ∀ {u : Str} {i : Int}, cnt u = some i → readFig u = some i ∧ 0 ≤ i := by
    intro u i h
    unfold cnt at h
    cases h' : readFig u with
    | none => rw [h'] at h; cases h
    | some j =>
      rw [h'] at h
      by_cases c : 0 ≤ j
      · simp only [if_pos c, Option.some.injEq] at h
        subst h
        exact ⟨rfl, c⟩
      · simp only [if_neg c] at h
        cases h
  have cy : ∀ {u : Str} {i : Int}, readFig u = some i → 0 ≤ i → cnt u = some i := by
    intro u i h c
    unfold cnt
    rw [h]
    simp [c]
  rw [e3]
  simp_arith [seqQ_lst hD1]
  cases c1 : cnt x with
  | none => exact iteT' rfl (qn (noR fun a b c h1 _ _ g1 _ _ _ => by rw [cy h1 (by omega)] at c1; cases c1) _ xG1)
  | some a =>
  refine iteF' (by simp [on]) ?_
  cases c2 : cnt y with
  | none => exact iteT' rfl (qn (noR fun a b c _ h2 _ _ g2 _ _ => by rw [cy h2 (by omega)] at c2; cases c2) _ xG1)
  | some b =>
  refine iteF' (by simp [on]) ?_
  cases c3 : cnt z with
  | none => exact iteT' rfl (qn (noR fun a b c _ _ h3 _ _ g3 _ => by rw [cy h3 (by omega)] at c3; cases c3) _ xG1)
  | some c =>
  refine iteF' (by simp [on]) ?_
  obtain ⟨f1, _⟩ := cn c1
  obtain ⟨f2, _⟩ := cn c2
  obtain ⟨f3, _⟩ := cn c3
  have noR' : ((1 ≤ a ∧ a ≤ 64) → (3 ≤ b ∧ b ≤ 16) → (1 ≤ c ∧ c ≤ 64) → isPl pl = true → False) → ∀ a b c pl', ¬ RuleIs t a b c pl' := fun w' => noR fun a' b' c' h1 h2 h3 g1 g2 g3 g4 => by
    rw [f1] at h1
    rw [f2] at h2
    rw [f3] at h3
    cases h1; cases h2; cases h3
    exact w' g1 g2 g3 g4
  intro p np
  have xp := Ext.new (K := K) (o := .lst [V.str (Str.ofString "fullest"), V.str (Str.ofString "eldest")]) np
  have xG2 := xG1.trans xp
  have hD2 := xp.at hD1
  refine ⟨rfl, rfl, ?_⟩
  rw [isPl_in]
  cases cp : isPl pl
  · exact iteT' rfl (qn (noR' fun _ _ _ g => by rw [cp] at g; cases g) _ xG2)
  refine iteF' (by decide) ?_
  generalize upd G1 p (.lst [V.str (Str.ofString "fullest"), V.str (Str.ofString "eldest")]) = G2 at xG2 hD2 ⊢
  rw [e4]
  simp only [on]
  try walk_at "rn"
  refine ite2 (fun d => qn (noR' fun g _ _ _ => by omega) _ xG2) (fun d1 => ?_)
  refine ite2 (fun d => qn (noR' fun g _ _ _ => by omega) _ xG2) (fun d2 => ?_)
  refine ite2 (fun d => qn (noR' fun _ g _ _ => by omega) _ xG2) (fun d3 => ?_)
  refine ite2 (fun d => qn (noR' fun _ g _ _ => by omega) _ xG2) (fun d4 => ?_)
  refine ite2 (fun d => qn (noR' fun _ _ g _ => by omega) _ xG2) (fun d5 => ?_)
  refine ite2 (fun d => qn (noR' fun _ _ g _ => by omega) _ xG2) (fun d6 => ?_)
  rw [e5]
  simp_arith [seqQ_lst hD2]
  exact fun T nT => q a b c pl ⟨x, y, z, e, f1, f2, f3, by omega, by omega, by omega, cp⟩ T _ (new_old xG2 nT) (xG2.trans (Ext.new nT)) tupQ_updT
theorem chain_iff : ∀ (ns : List Int), (ns.all (fun n => decide (1 ≤ n)) = true ∧ rising ns = true) ↔ (∀ (i : Nat) (a b : Int), (0 :: ns)[i]? = some a → ns[i]? = some b → a < b)
  | [] => by simp [rising]
  | [n] => by
    simp only [List.all_cons, List.all_nil, Bool.and_true, decide_eq_true_eq, rising, and_true]
    constructor
    · intro h i a b h1 h2
      cases i with
      | zero => simp at h1 h2; omega
      | succ i => simp at h2
    · intro h
      have := h 0 0 n rfl rfl
      omega
  | n :: m :: r => by
    have ih := chain_iff (m :: r)
    constructor
    · rintro ⟨h1, h2⟩ i a b e1 e2
      unfold rising at h2
      rw [List.all_cons, Bool.and_eq_true, decide_eq_true_eq] at h1
      rw [Bool.and_eq_true, decide_eq_true_eq] at h2
      cases i with
      | zero => simp at e1 e2; omega
      | succ i =>
        cases i with
        | zero => simp at e1 e2; omega
        | succ i =>
          refine (ih.mp ⟨h1.2, h2.2⟩) (i + 1) a b ?_ ?_
          · simpa using e1
          · simpa using e2
    · intro h
      have a0 := h 0 0 n rfl rfl
      have a1 := h 1 n m rfl rfl
      have := ih.mpr (fun i a b e1 e2 => by
        cases i with
        | zero => simp at e1 e2; omega
        | succ i => exact h (i + 2) a b (by simpa using e1) (by simpa using e2))
      rw [List.all_cons, Bool.and_eq_true, decide_eq_true_eq]
      refine ⟨⟨by omega, this.1⟩, ?_⟩
      unfold rising
      rw [Bool.and_eq_true, decide_eq_true_eq]
      exact ⟨a1, this.2⟩
def RuleV (K : PySem.W.Frag) (pr : Str) (vr : V) (H : Hp) : Prop := (vr = .non ∧ ∀ a b c pl, ¬ RuleIs pr a b c pl) ∨ ∃ R a b c pl, vr = .ref R ∧ RuleIs pr a b c pl ∧ tupQ K H R = some [.int a, .int b, .int c, .str pl]
def MarkV (pm : Str) (M : Addr) (H : Hp) : Prop := ∃ os, H M = some (.lst (List.map on os)) ∧ ((pm = Str.ofString "-" ∧ os = []) ∨ (pm ≠ Str.ofString "-" ∧ os = (Txt.split pm (Str.ofString ",")).map cnt))
def spRd (K : PySem.W.Frag) : Sp := fun vs H Q _ => ∃ t : Str, vs = [.str t] ∧ t.length < 1000000 ∧ (NoHead t → ∀ H', Ext K H H' → Q .non H') ∧
  (∀ n1 n2 n3 n4 a b c pl ms, HeadIs t n1 n2 n3 n4 a b c pl ms → ∀ T R M H', Ext K H H' → HeadAt K H' T R M n1 n2 n3 n4 a b c pl ms → Q (.ref T) H')
theorem sc__law_read : FnScope ["_law_text", "_law_words", "_law_numbers", "_law_rule", "_law_marks_here", "_law_one", "_law_other"] ["_law_text"] (defScope s__law_read) := ⟨rfl, rfl, rfl, by decide +kernel, rfl, by decide +kernel, by decide +kernel⟩
theorem ok__law_read {f : Addr} {fd : FuncData} (F : Fun K "_law_read" "_law_read" s__law_read f fd) {aP cF cR cN : Addr} {t1 t2 t3 t4 tF : Tok} (B : B K mg aP cF cR cN t1 t2 t3 t4 tF) (C__law_count : Callee P w K mg base "_law_count" 2 ["_law_word"] (spCnt K)) (C__law_rule_in : Callee P w K mg base "_law_rule_in" 3 ["_law_word"] (spRR K)) : FnOk P w K mg base CX0 4 f fd ["_law_text"] (spRd K) := by
  refine F.okJ sc__law_read (fun vs H Q E h => ?_) (fun cdv A outer s H vs Q E hr h => ?_)
  · obtain ⟨t, rfl, _⟩ := h
    rfl
  obtain ⟨t, rfl, ht, qn, q⟩ := h
  obtain ⟨s1, s2⟩ := split_lenC t 32
  have sne := split_ne t 32
  rw [← blank_is] at s1 s2 sne
  refine ex_seal (rest := (defBody s__law_read).drop 8) (bone (sret (etupQ (acons (eix ix_Q (ev 2) ei (fun _ _ => rfl)) (acons (eix ix_Q (ev 2) ei (fun _ _ => rfl)) (acons (eix ix_Q (ev 2) ei (fun _ _ => rfl)) (acons (eix ix_Q (ev 2) ei (fun _ _ => rfl)) (acons (ev 3) (acons (ev 4) anil))))))))) fun r8 J8 e8 => ?_
  refine ex_seal (rest := (defBody s__law_read).drop 7) (bcons (sfor PassesOwn.never rfl (izipS rfl B.zip (acons (eop op_catQ (elstQ (acons ei anil)) (ev 4)) (acons (ev 4) anil))) (gtupQ (n := 2) rfl (gcons (gname (i := 5) sc__law_read.nd rfl (Or.inl rfl)) (gcons (gname (i := 6) sc__law_read.nd rfl (Or.inl rfl)) gnil)))
        (bone (sif (tcmp op_ge (ev 5) (ev 6) (nomark _)) (bone (sret enon)) bnil)))
      J8) fun r7 J7 e7 => ?_
  refine ex_seal (rest := (defBody s__law_read).drop 6) (bcons (sif (tw (wor (tcmp op_inQ enon (ev 2) (by with_unfolding_all rfl)) (wor (tcmp op_isN (ev 3) enon (nomark _)) (wor1 (tcmp op_inQ enon (ev 4) (by with_unfolding_all rfl)))))) (bone (sret enon)) bnil)
      J7) fun r6 J6 e6 => ?_
  refine ex_seal (rest := (defBody s__law_read).drop 5) (bcut (sif (tcmp op_ne (eix ix_Q (ev 1) ei (fun _ _ => rfl)) estr (nomark _)) (bone (slc (i := 4) sc__law_read.nd rfl (Or.inl rfl) (Cap.mk (N := ["_law_word"]) (src := [none]) rfl rfl) rfl (ilist (ebm PySem.F.plainAttrs_str PySem.F.slot_str_split PySem.F.type_str_split mt_split (eix ix_Q (ev 1) ei (fun _ _ => rfl)) (acons estr anil))) (fun _ _ _ _ => (gname (i := 0) (show (["_law_word"] : List Str).Nodup from by decide +kernel) rfl (Or.inl rfl))) (fun _ _ _ _ => fnone) (fun _ _ _ _ => (ecall C__law_count (hr.mono (by decide)) rfl (acons (ev 0) anil))))) bnil)
      J6) fun r5 J5 e5 => ?_
  refine ex_seal (rest := (defBody s__law_read).drop 4) (bcons (sset (i := 4) sc__law_read.nd rfl (Or.inl rfl) (elstQ anil))
      J5) fun r4 J4 e4 => ?_
  refine ex_seal (rest := (defBody s__law_read).drop 3) (bcons (sset (i := 3) sc__law_read.nd rfl (Or.inl rfl) (ecall C__law_rule_in (hr.mono (by decide)) rfl (acons (eix ix_Q (ev 1) ei (fun _ _ => rfl)) anil)))
      J4) fun r3 J3 e3 => ?_
  refine ex_seal (rest := (defBody s__law_read).drop 2) (bcons (slc (i := 2) sc__law_read.nd rfl (Or.inl rfl) (Cap.mk (N := ["_law_word"]) (src := [none]) rfl rfl) rfl (ilist (eslice sl_listQ (ev 1) (osome ei) (osome ei))) (fun _ _ _ _ => (gname (i := 0) (show (["_law_word"] : List Str).Nodup from by decide +kernel) rfl (Or.inl rfl))) (fun _ _ _ _ => fnone) (fun _ _ _ _ => (ecall C__law_count (hr.mono (by decide)) rfl (acons (ev 0) anil))))
      J3) fun r2 J2 e2 => ?_
  refine ex_seal (rest := (defBody s__law_read).drop 1) (bcons (sif (tw (wor (tcmp op_ne (ecallB call_lenQ rfl B.len bt_len (acons (ev 1) anil)) ei (nomark _)) (wor1 (tcmp op_ne (eix ix_Q (ev 1) ei (fun _ _ => rfl)) estr (nomark _))))) (bone (sret enon)) bnil)
      J2) fun r1 J1 e1 => ?_
  refine ⟨_, (bcons (sset (i := 1) sc__law_read.nd rfl (Or.inl rfl) (ebm PySem.F.plainAttrs_str PySem.F.slot_str_split PySem.F.type_str_split mt_split (ev 0) (acons estr anil)))
      J1), ?_⟩
  try walk_at "rn"
  refine ⟨by decide +kernel, by omega, by omega, fun D nD => ?_⟩
  have hD := upd_same (H := H) (a := D) (o := .lst (List.map V.str (Txt.split t (Str.ofString " "))))
  have xG := Ext.new (K := K) (o := .lst (List.map V.str (Txt.split t (Str.ofString " ")))) nD
  obtain ⟨w0, rest, e⟩ : ∃ w0 rest, Txt.split t (Str.ofString " ") = w0 :: rest := by
    cases h : Txt.split t (Str.ofString " ") with
    | nil => exact absurd h sne
    | cons x r => exact ⟨x, r, rfl⟩
  rw [e] at s1 s2 hD xG ⊢
  generalize upd H D (.lst (List.map V.str (w0 :: rest))) = G at xG hD ⊢
  rw [e1]
  simp_arith [seqQ_lst hD]
  by_cases hw : w0 = Str.ofString "head" ∧ rest.length = 6
  case neg =>
    have nh : NoHead t := by
      rintro n1 n2 n3 n4 a b c pl ms ⟨p1, p2, p3, p4, pr, pm, e', _⟩
      rw [e] at e'
      cases e'
      exact hw ⟨rfl, rfl⟩
    by_cases h1 : rest.length = 6
    · exact iteF' (by simp [h1]) (iteT' (by simp; exact fun z => hw ⟨z, h1⟩) (qn nh _ xG))
    · exact iteT' (by simp; omega) (qn nh _ xG)
  obtain ⟨rfl, hl⟩ := hw
  refine iteF' (by simp [hl]) (iteF' (by simp) ?_)
  obtain ⟨p1, p2, p3, p4, pr, pm, rfl⟩ : ∃ p1 p2 p3 p4 pr pm, rest = [p1, p2, p3, p4, pr, pm] := by
    rcases rest with _ | ⟨p1, _ | ⟨p2, _ | ⟨p3, _ | ⟨p4, _ | ⟨p5, _ | ⟨p6, _ | ⟨p7, rest⟩⟩⟩⟩⟩⟩⟩ <;> simp only [List.length_cons, List.length_nil] at hl <;> first | omega | exact ⟨_, _, _, _, _, _, rfl⟩
  have lp : ∀ p ∈ [p1, p2, p3, p4, pr, pm], p.length < 1000000 := fun p hp => Nat.lt_of_le_of_lt (s2 p (List.mem_cons_of_mem _ hp)) ht
  have noh : (∀ n1 n2 n3 n4 a b c pl ms, [p1, p2, p3, p4].map readFig = [some n1, some n2, some n3, some n4] → (0 ≤ n1 ∧ 0 ≤ n2 ∧ 0 ≤ n3 ∧ 0 ≤ n4) → RuleIs pr a b c pl → NumsIs pm ms → ms.all (fun n => decide (1 ≤ n)) = true → rising ms = true → False) → NoHead t := by
    rintro z n1 n2 n3 n4 a b c pl ms ⟨q1, q2, q3, q4, qr, qm, e', h1, h2, h3, h4, h5, h6⟩
    rw [e] at e'
    cases e'
    exact z n1 n2 n3 n4 a b c pl ms h1 h2 h3 h4 h5 h6
  rw [e2]
  try walk_at "rn"
  refine ⟨_, SqL.of hD, fun S nS => ⟨⟨_, SqL.of upd_same⟩, fun N nN => ?_⟩⟩
  have eS : cutV (List.map V.str [Str.ofString "head", p1, p2, p3, p4, pr, pm]) (some 1) (some 5) = [p1, p2, p3, p4].map V.str := by rw [show cutV (List.map V.str [Str.ofString "head", p1, p2, p3, p4, pr, pm]) (some 1) (some 5) = ((List.map V.str [Str.ofString "head", p1, p2, p3, p4, pr, pm]).drop 1).take 4 from cutV_nat _ 1 5 (by simp) (by decide)]; rfl
  rw [eS] at nN ⊢
  have xS := Ext.new (K := K) (o := .lst ([p1, p2, p3, p4].map V.str)) (by exact nS)
  refine lc_mapY (f := V.str) (g := fun p => on (cnt p)) (H := upd G S (.lst ([p1, p2, p3, p4].map V.str))) (SqL.of upd_same) nN (by simp) (fun p hp H' Q' xx qq => ?_) (fun G1 hN x1 => ?_)
  · try walk_at "rn"
    refine ⟨p, rfl, ?_, qq⟩
    have := lp p (by simp only [List.mem_cons, List.not_mem_nil, or_false] at hp ⊢; rcases hp with h | h | h | h <;> simp [h])
    omega
  rw [show [p1, p2, p3, p4].map (fun p => on (cnt p)) = ([p1, p2, p3, p4].map cnt).map on from by rw [List.map_map]; rfl] at hN
  have xG1 := xG.trans (xS.trans x1)
  have hD1 := (xS.trans x1).at hD
  have last : ∀ (vr : V) (M : Addr) (os : List (Option Int)) (G2 : Hp), Ext K G1 G2 → ((vr = .non ∧ ∀ a b c pl, ¬ RuleIs pr a b c pl) ∨ ∃ R a b c pl, vr = .ref R ∧ RuleIs pr a b c pl ∧ tupQ K G2 R = some [.int a, .int b, .int c, .str pl]) →
      G2 M = some (.lst (os.map on)) → ((pm = Str.ofString "-" ∧ os = []) ∨ (pm ≠ Str.ofString "-" ∧ os = (Txt.split pm (Str.ofString ",")).map cnt)) → r6 { nx := fun x H' => Q V.non H', rt := Q } [some (V.str t), some (V.ref D), some (V.ref N), some vr, some (V.ref M), none, none] G2 := by
    intro vr M os G2 x2 hr' hM ho
    rw [e6]
    simp_arith [seqQ_lst (x2.at hN),  seqQ_lst hM]
    have X2 := xG1.trans x2
    refine ⟨rfl, flat_on ([p1, p2, p3, p4].map cnt), ?_⟩
    rcases none_in ([p1, p2, p3, p4].map cnt) with ⟨i1, i2⟩ | ⟨i1, us, eu⟩
    · refine iteT' i1 (qn (noh fun n1 n2 n3 n4 a b c pl ms h1 h2 _ _ _ _ => i2 [n1, n2, n3, n4] (cnts_eq h1 fun n hn => ?_)) _ X2)
      simp only [List.mem_cons, List.not_mem_nil, or_false] at hn
      rcases hn with rfl | rfl | rfl | rfl <;> omega
    refine iteF' (by rw [show inV V.non [on (cnt p1), on (cnt p2), on (cnt p3), on (cnt p4)] = false from i1]; decide) ?_
    obtain ⟨n1, n2, n3, n4, rfl⟩ : ∃ n1 n2 n3 n4, us = [n1, n2, n3, n4] := by
      have := congrArg List.length eu
      rcases us with _ | ⟨a1, _ | ⟨a2, _ | ⟨a3, _ | ⟨a4, _ | ⟨a5, us⟩⟩⟩⟩⟩ <;> simp at this <;> first | omega | exact ⟨_, _, _, _, rfl⟩
    obtain ⟨fu, pu⟩ := cnts_of eu
    rcases hr' with ⟨rfl, nr⟩ | ⟨R, a, b, c, pl, rfl, ri, tR⟩
    · exact iteT' rfl (qn (noh fun n1 n2 n3 n4 a b c pl ms _ _ h3 _ _ _ => nr a b c pl h3) _ X2)
    refine iteF' (by simp) ⟨rfl, flat_on _, ?_⟩
    have pos : ∀ {ms : List Int}, ms.all (fun n => decide (1 ≤ n)) = true → ∀ n ∈ ms, 0 ≤ n := fun h n hn => by
      have := of_decide_eq_true (List.all_eq_true.mp h n hn)
      omega
    rcases none_in os with ⟨j1, j2⟩ | ⟨j1, ns, rfl⟩
    · refine iteT' j1 (qn (noh fun n1 n2 n3 n4 a b c pl ms _ _ _ h4 h5 _ => ?_) _ X2)
      rcases ho with ⟨o1, rfl⟩ | ⟨o1, rfl⟩
      · exact j2 [] rfl
      · rcases h4 with ⟨h4, _⟩ | ⟨_, h4⟩
        · exact o1 h4
        · exact j2 ms (cnts_eq h4 (pos h5))
    refine iteF' (by rw [j1]; decide) ?_
    have ni : NumsIs pm ns := by
      rcases ho with ⟨o1, o2⟩ | ⟨o1, o2⟩
      · exact .inl ⟨o1, by cases ns with | nil => rfl | cons => cases o2⟩
      · exact .inr ⟨o1, (cnts_of o2.symm).1⟩
    have ln := nums_len ni (lp pm (by simp))
    rw [on_some] at hM
    rw [e7]
    try walk_at "rn"
    intro p9 m9
    have y9 := Ext.new (K := K) (o := .lst [V.int 0]) m9
    refine ⟨_, y9.at hM, by rw [List.length_map]; omega, fun Z nZ => .inl ⟨⟨_, SqL.of upd_same⟩, ⟨_, SqL.of ((y9.trans (Ext.new nZ)).at hM)⟩, ?_⟩⟩
    have yZ := Ext.new (K := K) (o := .lst (V.int 0 :: ns.map V.int)) nZ
    have hM3 := (y9.trans yZ).at hM
    have hZ := upd_same (H := upd G2 p9 (.lst [V.int 0])) (a := Z) (o := .lst (V.int 0 :: ns.map V.int))
    have x23 := y9.trans yZ
    generalize upd (upd G2 p9 (.lst [V.int 0])) Z (.lst (V.int 0 :: ns.map V.int)) = G3 at hM3 hZ x23 ⊢
    refine loop_zipM (n := ns.length) (xs := (0 :: ns).map V.int) (ys := ns.map V.int) (fun i σ H' => ∃ v5 v6 : Option V, σ = [some (V.str t), some (V.ref D), some (V.ref N), some (V.ref R), some (V.ref M), v5, v6] ∧ Ext K G3 H' ∧ ∀ (j : Nat) (a b : Int), j < i → (0 :: ns)[j]? = some a → ns[j]? = some b → a < b) (by simp) (by simp) (by simp) ⟨_, _, rfl, Ext.refl, fun j a b h => by omega⟩ ?_ ?_ ?_
    · rintro i σ H' _ ⟨_, _, rfl, x, _⟩
      exact ⟨SqL.of (x.at hZ), SqL.of (x.at hM3)⟩
    · rintro i x y σ H' T hx hy ⟨_, _, rfl, x3, hc⟩ nT
      rw [List.getElem?_map] at hx hy
      obtain ⟨u, eu', rfl⟩ := Option.map_eq_some_iff.mp hx
      obtain ⟨v, ev', rfl⟩ := Option.map_eq_some_iff.mp hy
      have yT := Ext.new (K := K) (o := .tup [V.int u, V.int v]) nT
      try walk_at "rn"
      refine ite2 (fun c => qn (noh fun n1 n2 n3 n4 a b c' pl ms _ _ _ h4 h5 h6 => ?_) _ (X2.trans (x23.trans (x3.trans yT)))) (fun c => ⟨x3.trans yT, fun j a b hj ha hb => ?_⟩)
      · obtain rfl := h4.one ni
        have := (chain_iff ms).mp ⟨h5, h6⟩ i u v eu' ev'
        omega
      · by_cases z : j = i
        · subst z
          rw [eu'] at ha
          rw [ev'] at hb
          cases ha; cases hb
          omega
        · exact hc j a b (by omega) ha hb
    · rintro σ H' ⟨_, _, rfl, x3, hc⟩
      have ch := (chain_iff ns).mpr fun j a b ha hb => hc j a b (List.getElem?_eq_some_iff.mp hb).1 ha hb
      rw [e8]
      have hN3 := (x2.trans (x23.trans x3)).at hN
      rw [eu, on_some] at hN3
      simp_arith [seqQ_lst hN3]
      intro T nT
      have yT := Ext.new (K := K) (o := .tup [V.int n1, V.int n2, V.int n3, V.int n4, V.ref R, V.ref M]) nT
      exact q n1 n2 n3 n4 a b c pl ns ⟨⟨p1, p2, p3, p4, pr, pm, e, fu, ⟨pu _ (by simp), pu _ (by simp), pu _ (by simp), pu _ (by simp)⟩, ri, ni, ch.1, ch.2⟩⟩ T R M _ (X2.trans (x23.trans (x3.trans yT))) ⟨tupQ_updT, (x23.trans (x3.trans yT)).tup tR, (x3.trans yT).at hM3⟩
  rw [e3]
  simp_arith [seqQ_lst hD1]
  have mid : ∀ (vr : V) (G2 : Hp), Ext K G1 G2 → ((vr = .non ∧ ∀ a b c pl, ¬ RuleIs pr a b c pl) ∨ ∃ R a b c pl, vr = .ref R ∧ RuleIs pr a b c pl ∧ tupQ K G2 R = some [.int a, .int b, .int c, .str pl]) →
      r4 { nx := fun x H' => Q V.non H', rt := Q } [some (V.str t), some (V.ref D), some (V.ref N), some vr, none, none, none] G2 := by
    intro vr G2 x2 hr'
    rw [e4]
    try walk_at "rn"
    intro M nM
    have yM := Ext.new (K := K) (o := .lst []) nM
    have hD2 := (x2.trans yM).at hD1
    have hR2 : RuleV K pr vr (upd G2 M (.lst [])) := by
      rcases hr' with h | ⟨R, a, b, c, pl, h1, h2, h3⟩
      · exact .inl h
      · exact .inr ⟨R, a, b, c, pl, h1, h2, yM.tup h3⟩
    have hM2 := upd_same (H := G2) (a := M) (o := .lst [])
    generalize upd G2 M (.lst []) = G3 at yM hD2 hR2 hM2 ⊢
    rw [e5]
    simp_arith [seqQ_lst hD2]
    refine ⟨fun σ H' => ∃ M', σ = [some (V.str t), some (V.ref D), some (V.ref N), some vr, some (V.ref M'), none, none] ∧ Ext K G1 H' ∧ RuleV K pr vr H' ∧ MarkV pm M' H', ?_, ?_⟩
    · simp_arith [seqQ_lst hD2]
      refine ⟨_, rfl, rfl, ?_⟩
      by_cases z : pm = Str.ofString "-"
      · exact iteF' (by rw [z]; simp) ⟨x2.trans yM, hR2, [], hM2, .inl ⟨z, rfl⟩⟩
      · obtain ⟨u1, u2⟩ := split_lenC pm 44
        rw [← comma_is] at u1 u2
        have lm := lp pm (by simp)
        refine iteT' (by simp [z]) ⟨_, rfl, trivial, pm, rfl, by decide +kernel, by omega, by omega, fun E1 nE => ⟨⟨_, SqL.of upd_same⟩, fun M' nM' => ?_⟩⟩
        refine lc_mapY (f := V.str) (g := fun p => on (cnt p)) (SqL.of upd_same) nM' (by omega) (fun p hp H' Q' xx qq => ?_) (fun G4 h4 x4 => ?_)
        · try walk_at "rn"
          exact ⟨p, rfl, by have := u2 p hp; omega, qq⟩
        have y4 := (Ext.new (K := K) nE).trans x4
        refine ⟨x2.trans (yM.trans y4), ?_, (Txt.split pm (Str.ofString ",")).map cnt, by rw [h4, List.map_map]; rfl, .inr ⟨z, rfl⟩⟩
        rcases hR2 with h | ⟨R, a, b, c, pl, h1, h2, h3⟩
        · exact .inl h
        · exact .inr ⟨R, a, b, c, pl, h1, h2, y4.tup h3⟩
    · rintro σ H' ⟨M', rfl, x5, h5, os, h6, h7⟩
      exact last vr M' os H' x5 h5 h6 h7
  refine ⟨_, rfl, pr, rfl, Nat.le_of_lt (lp pr (by simp)), fun nr G2 x2 => mid _ _ x2 (.inl ⟨rfl, nr⟩), fun a b c pl ri R G2 nR x2 tR => mid _ _ x2 (.inr ⟨R, a, b, c, pl, rfl, ri, tR⟩)⟩
end
def pair2 (x y : Nat) : List Nat → Bool
  | a :: b :: r => (a == x && b == y) || pair2 x y (b :: r)
  | _ => false
theorem pair2_cons {x y a : Nat} {l : List Nat} (h : pair2 x y l = true) : pair2 x y (a :: l) = true := by
  cases l with
  | nil => cases h
  | cons b r => unfold pair2; rw [h, Bool.or_true]
theorem pair2_no {x y : Nat} : ∀ {l : List Nat}, x ∉ l → pair2 x y l = false
  | [], _ => rfl
  | [_], _ => rfl
  | a :: b :: r, h => by
    unfold pair2
    rw [pair2_no fun m => h (List.mem_cons_of_mem _ m)]
    have : (a == x) = false := by simpa using fun e : a = x => h (by rw [e]; exact List.mem_cons_self)
    rw [this]
    rfl
theorem pair2_mem {x y : Nat} : ∀ {l : List Nat}, pair2 x y l = true → x ∈ l
  | [], h => by cases h
  | [_], h => by cases h
  | a :: b :: r, h => by
    unfold pair2 at h
    rcases Bool.or_eq_true_iff.mp h with h | h
    · rw [Bool.and_eq_true, beq_iff_eq] at h
      rw [h.1]
      exact List.mem_cons_self
    · exact List.mem_cons_of_mem _ (pair2_mem h)
theorem pair2_right {x y : Nat} : ∀ {p l : List Nat}, pair2 x y l = true → pair2 x y (p ++ l) = true
  | [], _, h => h
  | a :: p, l, h => pair2_cons (pair2_right h)
theorem pair2_left {x y : Nat} : ∀ {l s : List Nat}, pair2 x y l = true → pair2 x y (l ++ s) = true
  | [], _, h => by cases h
  | [_], _, h => by cases h
  | a :: b :: r, s, h => by
    unfold pair2 at h
    show ((a == x && b == y) || pair2 x y (b :: r ++ s)) = true
    rcases Bool.or_eq_true_iff.mp h with h | h
    · rw [h, Bool.true_or]
    · rw [pair2_left h, Bool.or_true]
theorem pair2_around {x y c : Nat} (hx : c ≠ x) (hy : c ≠ y) : ∀ {l s : List Nat}, pair2 x y (l ++ c :: s) = true → pair2 x y l = true ∨ pair2 x y s = true
  | [], [], h => by cases h
  | [], b :: s, h => by
    have h : ((c == x && b == y) || pair2 x y (b :: s)) = true := h
    rw [show (c == x) = false from by simpa using hx] at h
    exact .inr (by simpa using h)
  | [a], s, h => by
    have h : ((a == x && c == y) || pair2 x y (c :: s)) = true := h
    rw [show (c == y) = false from by simpa using hy, Bool.and_false, Bool.false_or] at h
    exact pair2_around hx hy (l := []) h
  | a :: b :: r, s, h => by
    have h : ((a == x && b == y) || pair2 x y (b :: r ++ c :: s)) = true := h
    rcases Bool.or_eq_true_iff.mp h with h | h
    · exact .inl (by unfold pair2; rw [h, Bool.true_or])
    · rcases pair2_around hx hy h with h | h
      · exact .inl (pair2_cons h)
      · exact .inr h
def joinL (g : Nat) : List (List Nat) → List Nat
  | [] => []
  | [p] => p
  | p :: q :: r => p ++ g :: joinL g (q :: r)
theorem joinL_pair {g x y : Nat} (hx : g ≠ x) (hy : g ≠ y) : ∀ {qs : List (List Nat)}, pair2 x y (joinL g qs) = true → ∃ q ∈ qs, pair2 x y q = true
  | [], h => by cases h
  | [p], h => ⟨p, List.mem_singleton.mpr rfl, h⟩
  | p :: q :: r, h => by
    rcases pair2_around hx hy (show pair2 x y (p ++ g :: joinL g (q :: r)) = true from h) with h | h
    · exact ⟨p, List.mem_cons_self, h⟩
    · obtain ⟨z, hz, e⟩ := joinL_pair hx hy h
      exact ⟨z, List.mem_cons_of_mem _ hz, e⟩
theorem joinL_in {g x y : Nat} : ∀ {qs : List (List Nat)} {q : List Nat}, q ∈ qs → pair2 x y q = true → pair2 x y (joinL g qs) = true
  | [p], q, h, e => by rw [← List.mem_singleton.mp h]; exact e
  | p :: p2 :: r, q, h, e => by
    show pair2 x y (p ++ g :: joinL g (p2 :: r)) = true
    rcases List.mem_cons.mp h with rfl | h
    · exact pair2_left e
    · exact pair2_right (pair2_cons (joinL_in h e))
theorem joinL_mem {g x : Nat} : ∀ {qs : List (List Nat)}, x ∈ joinL g qs → x = g ∨ ∃ q ∈ qs, x ∈ q
  | [p], h => .inr ⟨p, List.mem_singleton.mpr rfl, h⟩
  | p :: q :: r, h => by
    rcases List.mem_append.mp (show x ∈ p ++ g :: joinL g (q :: r) from h) with h | h
    · exact .inr ⟨p, List.mem_cons_self, h⟩
    · rcases List.mem_cons.mp h with h | h
      · exact .inl h
      · rcases joinL_mem h with h | ⟨z, hz, e⟩
        · exact .inl h
        · exact .inr ⟨z, List.mem_cons_of_mem _ hz, e⟩
theorem joinL_of {g x : Nat} : ∀ {qs : List (List Nat)} {q : List Nat}, q ∈ qs → x ∈ q → x ∈ joinL g qs
  | [p], q, h, e => by rw [← List.mem_singleton.mp h]; exact e
  | p :: p2 :: r, q, h, e => by
    show x ∈ p ++ g :: joinL g (p2 :: r)
    rcases List.mem_cons.mp h with rfl | h
    · exact List.mem_append_left _ e
    · exact List.mem_append_right _ (List.mem_cons_of_mem _ (joinL_of h e))
theorem joinL_head {g x : Nat} : ∀ {qs : List (List Nat)} {q : List Nat}, q ∈ qs → q.head? = some x → (joinL g qs).head? = some x ∨ pair2 g x (joinL g qs) = true
  | [p], q, h, e => by rw [← List.mem_singleton.mp h]; exact .inl e
  | p :: p2 :: r, q, h, e => by
    rcases List.mem_cons.mp h with rfl | h
    · left
      cases q with
      | nil => cases e
      | cons a q => exact e
    · right
      show pair2 g x (p ++ g :: joinL g (p2 :: r)) = true
      refine pair2_right ?_
      rcases joinL_head h e with z | z
      · cases w : joinL g (p2 :: r) with
        | nil => rw [w] at z; cases z
        | cons a l =>
          rw [w] at z
          have : a = x := by simpa using z
          subst this
          unfold pair2
          simp
      · exact pair2_cons z
theorem joinL_sign {g x : Nat} (hx : g ≠ x) : ∀ {qs : List (List Nat)}, (∀ q ∈ qs, g ∉ q) → pair2 g x (joinL g qs) = true → ∃ q ∈ qs, q.head? = some x
  | [], _, h => by cases h
  | [p], hf, h => absurd (pair2_mem h) (hf p (List.mem_singleton.mpr rfl))
  | p :: q :: r, hf, h => by
    have key : ∀ (p l : List Nat), g ∉ p → pair2 g x (p ++ g :: l) = true → l.head? = some x ∨ pair2 g x l = true := by
      intro p
      induction p with
      | nil =>
        intro l _ h
        cases l with
        | nil => cases h
        | cons b l =>
          have h : ((g == g && b == x) || pair2 g x (b :: l)) = true := h
          rcases Bool.or_eq_true_iff.mp h with h | h
          · exact .inl (by simpa using h)
          · exact .inr h
      | cons a p ih =>
        intro l hp h
        have ha : a ≠ g := fun e => hp (by rw [e]; exact List.mem_cons_self)
        refine ih l (fun m => hp (List.mem_cons_of_mem _ m)) ?_
        cases p with
        | nil =>
          have h : ((a == g && g == x) || pair2 g x (g :: l)) = true := h
          rw [show (a == g) = false from by simpa using ha] at h
          simpa using h
        | cons b p =>
          have h : ((a == g && b == x) || pair2 g x (b :: p ++ g :: l)) = true := h
          rw [show (a == g) = false from by simpa using ha] at h
          simpa using h
    rcases key p _ (hf p List.mem_cons_self) h with h | h
    · refine ⟨q, List.mem_cons_of_mem _ List.mem_cons_self, ?_⟩
      cases r with
      | nil => exact h
      | cons q2 r =>
        cases q with
        | nil =>
          have h : (g :: joinL g (q2 :: r)).head? = some x := h
          simp at h
          exact absurd h hx
        | cons a q => exact h
    · obtain ⟨z, hz, e⟩ := joinL_sign hx (fun z hz => hf z (List.mem_cons_of_mem _ hz)) h
      exact ⟨z, List.mem_cons_of_mem _ hz, e⟩
theorem joinL_first {g x : Nat} (hx : g ≠ x) : ∀ {qs : List (List Nat)}, (joinL g qs).head? = some x → ∃ q ∈ qs, q.head? = some x
  | [], h => by cases h
  | [p], h => ⟨p, List.mem_singleton.mpr rfl, h⟩
  | p :: q :: r, h => by
    refine ⟨p, List.mem_cons_self, ?_⟩
    cases p with
    | nil =>
      have h : (g :: joinL g (q :: r)).head? = some x := h
      simp at h
      exact absurd h hx
    | cons a p => exact h
def signs6 : List Nat := [59, 44, 46, 32, 58, 61]
def smallOp (t t' : List Nat) : Prop :=
  t' = t ∨ (∃ i c, t' = t.take i ++ c :: t.drop (i + 1)) ∨ (∃ i c, t' = t.take i ++ c :: t.drop i) ∨ (∃ i, t' = t.take i ++ t.drop (i + 1)) ∨
  (∃ i, t' = t.take i ++ ((t.drop (i + 1)).take 1 ++ ((t.drop i).take 1 ++ t.drop (i + 2)))) ∨ (∃ i n, t' = t.take i ++ (List.replicate n 55 ++ t.drop i))
def bigOp (t t' : List Nat) : Prop :=
  (∃ i, t' = t.take i) ∨ (∃ g ∈ signs6, ∃ ps qs : List (List Nat), t = joinL g ps ∧ (∀ p ∈ ps, g ∉ p) ∧ (∀ q ∈ qs, q ∈ ps) ∧ t' = joinL g qs)
def F1 (t : List Nat) : Prop := t.head? = some 108
def F2 (t : List Nat) : Prop := pair2 97 102 t = true
def F3 (t : List Nat) : Prop := ∃ g ∈ signs6, pair2 g 108 t = true
theorem no_sign {g : Nat} (h : g ∈ signs6) : g ≠ 97 ∧ g ≠ 102 ∧ g ≠ 108 ∧ g ≠ 105 ∧ g ≠ 110 ∧ g ≠ 114 := by
  simp only [signs6, List.mem_cons, List.not_mem_nil, or_false] at h
  omega
theorem pair_take {x y : Nat} {t : List Nat} {i : Nat} (h : pair2 x y (t.take i) = true) : pair2 x y t = true := by
  have := pair2_left (s := t.drop i) h
  rwa [List.take_append_drop] at this
theorem pair_drop {x y : Nat} {t : List Nat} {i : Nat} (h : pair2 x y (t.drop i) = true) : pair2 x y t = true := by
  have := pair2_right (p := t.take i) h
  rwa [List.take_append_drop] at this
theorem big_f2 {t t' : List Nat} (h : bigOp t t') (f : F2 t') : F2 t := by
  rcases h with ⟨i, rfl⟩ | ⟨g, hg, ps, qs, rfl, hf, hq, rfl⟩
  · exact pair_take f
  · obtain ⟨q, m, e⟩ := joinL_pair (no_sign hg).1 (no_sign hg).2.1 f
    exact joinL_in (hq q m) e
theorem big_f1 {t t' : List Nat} (h : bigOp t t') (f : F1 t') : F1 t ∨ F3 t := by
  rcases h with ⟨i, rfl⟩ | ⟨g, hg, ps, qs, rfl, hf, hq, rfl⟩
  · left
    unfold F1 at f ⊢
    cases t with
    | nil => rw [List.take_nil] at f; cases f
    | cons a t => cases i with
      | zero => cases f
      | succ i => exact f
  · obtain ⟨q, m, e⟩ := joinL_first (no_sign hg).2.2.1 f
    rcases joinL_head (g := g) (hq q m) e with z | z
    · exact .inl z
    · exact .inr ⟨g, hg, z⟩
def leafs (t : List Nat) : Prop := ∃ r, t = 108 :: 101 :: 97 :: 102 :: r
theorem leafs_f {t : List Nat} (h : leafs t) : F1 t ∧ F2 t := by
  obtain ⟨r, rfl⟩ := h
  exact ⟨rfl, by unfold F2 pair2 pair2 pair2; simp⟩
theorem head_take {t s : List Nat} {i : Nat} (hi : 0 < i) (ht : t ≠ []) : (t.take i ++ s).head? = t.head? := by
  cases t with
  | nil => exact absurd rfl ht
  | cons a t => cases i with
    | zero => cases hi
    | succ i => rfl
theorem small_leafs {t t' : List Nat} (h : smallOp t t') (n1 : ¬ F1 t) (n2 : ¬ F2 t) : ¬ leafs t' := by
  intro lf
  have f1 := (leafs_f lf).1
  obtain ⟨r, hr⟩ := lf
  by_cases ht : t = []
  · subst ht
    rcases h with rfl | ⟨i, c, rfl⟩ | ⟨i, c, rfl⟩ | ⟨i, rfl⟩ | ⟨i, rfl⟩ | ⟨i, n, rfl⟩
    · cases hr
    · simp at hr
    · simp at hr
    · simp at hr
    · simp at hr
    · simp only [List.take_nil, List.drop_nil, List.nil_append, List.append_nil] at f1
      cases n with
      | zero => cases f1
      | succ n => simp [List.replicate_succ, F1] at f1
  rcases h with rfl | ⟨i, c, rfl⟩ | ⟨i, c, rfl⟩ | ⟨i, rfl⟩ | ⟨i, rfl⟩ | ⟨i, n, rfl⟩
  · exact n1 f1
  · by_cases hi : 0 < i
    · exact n1 (by unfold F1 at f1 ⊢; rwa [head_take hi ht] at f1)
    · obtain rfl : i = 0 := by omega
      have hr : c :: t.drop 1 = 108 :: 101 :: 97 :: 102 :: r := hr
      have := (List.cons.inj hr).2
      exact n2 (pair_drop (i := 1) (by rw [this]; unfold pair2 pair2; simp))
  · by_cases hi : 0 < i
    · exact n1 (by unfold F1 at f1 ⊢; rwa [head_take hi ht] at f1)
    · obtain rfl : i = 0 := by omega
      have hr : c :: t = 108 :: 101 :: 97 :: 102 :: r := hr
      have := (List.cons.inj hr).2
      exact n2 (by unfold F2; rw [this]; unfold pair2 pair2; simp)
  · by_cases hi : 0 < i
    · exact n1 (by unfold F1 at f1 ⊢; rwa [head_take hi ht] at f1)
    · obtain rfl : i = 0 := by omega
      have hr : t.drop 1 = 108 :: 101 :: 97 :: 102 :: r := hr
      exact n2 (pair_drop (i := 1) (by rw [hr]; unfold pair2 pair2 pair2; simp))
  · by_cases hi : 0 < i
    · exact n1 (by unfold F1 at f1 ⊢; rwa [head_take hi ht] at f1)
    · obtain rfl : i = 0 := by omega
      cases t with
      | nil => exact ht rfl
      | cons a t =>
        cases t with
        | nil => simp at hr
        | cons b t =>
          have hr : b :: a :: t = 108 :: 101 :: 97 :: 102 :: r := by simpa using hr
          have h2 := (List.cons.inj (List.cons.inj hr).2).2
          exact n2 (pair_drop (i := 2) (by show pair2 97 102 t = true; rw [h2]; unfold pair2; simp))
  · by_cases hi : 0 < i
    · exact n1 (by unfold F1 at f1 ⊢; rwa [head_take hi ht] at f1)
    · obtain rfl : i = 0 := by omega
      cases n with
      | zero => exact n1 f1
      | succ n => simp [List.replicate_succ, F1] at f1
theorem blanks_take (t : List Nat) (i : Nat) : (t.take i).count 32 + (t.drop i).count 32 = t.count 32 := by
  rw [← List.count_append, List.take_append_drop]
theorem blanks_drop (t : List Nat) (i : Nat) : (t.drop i).count 32 ≤ (t.drop (i + 1)).count 32 + 1 := by
  rw [← List.drop_drop (i := 1) (j := i)]
  cases t.drop i with
  | nil => simp
  | cons a l =>
    rw [List.drop_succ_cons, List.drop_zero, List.count_cons]
    split <;> omega
theorem small_blanks {t t' : List Nat} (h : smallOp t t') : t.count 32 ≤ t'.count 32 + 1 := by
  rcases h with rfl | ⟨i, c, rfl⟩ | ⟨i, c, rfl⟩ | ⟨i, rfl⟩ | ⟨i, rfl⟩ | ⟨i, n, rfl⟩
  · omega
  · have h1 := blanks_take t i
    have h2 := blanks_drop t i
    rw [List.count_append, List.count_cons]
    omega
  · have h1 := blanks_take t i
    rw [List.count_append, List.count_cons]
    omega
  · have h1 := blanks_take t i
    have h2 := blanks_drop t i
    rw [List.count_append]
    omega
  · have h1 := blanks_take t i
    have h2 : (t.drop i).count 32 = ((t.drop i).take 1).count 32 + (t.drop (i + 1)).count 32 := by
      rw [← List.drop_drop (i := 1) (j := i)]; exact (blanks_take (t.drop i) 1).symm
    have h3 : (t.drop (i + 1)).count 32 = ((t.drop (i + 1)).take 1).count 32 + (t.drop (i + 2)).count 32 := by
      rw [show i + 2 = i + 1 + 1 from rfl, ← List.drop_drop (i := 1) (j := i + 1)]; exact (blanks_take (t.drop (i + 1)) 1).symm
    rw [List.count_append, List.count_append, List.count_append]
    omega
  · have h1 := blanks_take t i
    rw [List.count_append, List.count_append]
    omega
theorem op_signs {t t' : List Nat} (h : smallOp t t' ∨ bigOp t t') : ∃ c, ∀ x ∈ t', x ∈ t ∨ x = c ∨ x = 55 ∨ x ∈ signs6 := by
  have tk : ∀ {i x}, x ∈ t.take i → x ∈ t := fun h => List.mem_of_mem_take h
  have dr : ∀ {i x}, x ∈ t.drop i → x ∈ t := fun h => List.mem_of_mem_drop h
  rcases h with (rfl | ⟨i, c, rfl⟩ | ⟨i, c, rfl⟩ | ⟨i, rfl⟩ | ⟨i, rfl⟩ | ⟨i, n, rfl⟩) | (⟨i, rfl⟩ | ⟨g, hg, ps, qs, rfl, hf, hq, rfl⟩)
  · exact ⟨0, fun x h => .inl h⟩
  · refine ⟨c, fun x h => ?_⟩
    rcases List.mem_append.mp h with h | h
    · exact .inl (tk h)
    · rcases List.mem_cons.mp h with h | h
      · exact .inr (.inl h)
      · exact .inl (dr h)
  · refine ⟨c, fun x h => ?_⟩
    rcases List.mem_append.mp h with h | h
    · exact .inl (tk h)
    · rcases List.mem_cons.mp h with h | h
      · exact .inr (.inl h)
      · exact .inl (dr h)
  · refine ⟨0, fun x h => ?_⟩
    rcases List.mem_append.mp h with h | h
    · exact .inl (tk h)
    · exact .inl (dr h)
  · refine ⟨0, fun x h => .inl ?_⟩
    rcases List.mem_append.mp h with h | h
    · exact tk h
    · rcases List.mem_append.mp h with h | h
      · exact dr (List.mem_of_mem_take h)
      · rcases List.mem_append.mp h with h | h
        · exact dr (List.mem_of_mem_take h)
        · exact dr h
  · refine ⟨0, fun x h => ?_⟩
    rcases List.mem_append.mp h with h | h
    · exact .inl (tk h)
    · rcases List.mem_append.mp h with h | h
      · exact .inr (.inr (.inl (List.mem_replicate.mp h).2))
      · exact .inl (dr h)
  · exact ⟨0, fun x h => .inl (tk h)⟩
  · refine ⟨0, fun x h => ?_⟩
    rcases joinL_mem h with rfl | ⟨q, m, e⟩
    · exact .inr (.inr (.inr hg))
    · exact .inl (joinL_of (hq q m) e)
def headL (r : List Nat) : List Nat := 104 :: 101 :: 97 :: 100 :: 32 :: r
structure HeadR (s : List Nat) : Prop where
  a : 97 ∉ s
  i : 105 ∉ s
  n : 110 ∉ s
  r : 114 ∉ s
  l : ∀ g ∈ signs6, pair2 g 108 (32 :: s) = false
  b : s.count 32 = 5
theorem head_no {r : List Nat} (h : HeadR r) : ¬ F1 (headL r) ∧ ¬ F2 (headL r) ∧ ¬ F3 (headL r) := by
  refine ⟨by simp [F1, headL], ?_, ?_⟩
  · have := pair2_no (x := 97) (y := 102) (l := 32 :: r) (by simp [h.a])
    unfold F2 headL pair2 pair2 pair2 pair2
    simp [this]
  · rintro ⟨g, hg, f⟩
    have := h.l g hg
    have g1 : g ≠ 104 ∧ g ≠ 101 ∧ g ≠ 97 ∧ g ≠ 100 := by simp only [signs6, List.mem_cons, List.not_mem_nil, or_false] at hg; omega
    unfold headL pair2 pair2 pair2 pair2 at f
    simp [this] at f
theorem big_head {r t : List Nat} (h : HeadR r) (o : bigOp (headL r) t) : ¬ F1 t ∧ ¬ F2 t := by
  obtain ⟨n1, n2, n3⟩ := head_no h
  exact ⟨fun f => by rcases big_f1 o f with z | z; exact n1 z; exact n3 z, fun f => n2 (big_f2 o f)⟩
theorem small_head {r t : List Nat} (h : HeadR r) (o : smallOp (headL r) t) (f : F2 t) : ¬ F1 t ∧ ¬ F3 t := by
  obtain ⟨n1, n2, n3⟩ := head_no h
  have put : ∀ (i j : Nat) (c : Nat), t = (headL r).take i ++ c :: (headL r).drop j → ¬ F1 t ∧ ¬ F3 t := by
    intro i j c e
    have hc : c = 97 ∨ c = 102 := by
      by_cases h1 : c = 97
      · exact .inl h1
      by_cases h2 : c = 102
      · exact .inr h2
      exfalso
      unfold F2 at f
      rw [e] at f
      rcases pair2_around h1 h2 f with z | z
      · exact n2 (pair_take z)
      · exact n2 (pair_drop z)
    subst e
    refine ⟨fun z => ?_, fun ⟨g, hg, z⟩ => ?_⟩
    · by_cases hi : 0 < i
      · unfold F1 at z
        rw [head_take hi (by simp [headL])] at z
        simp [headL] at z
      · obtain rfl : i = 0 := by omega
        have : c = 108 := by simpa [F1] using z
        omega
    · have := no_sign hg
      rcases pair2_around (c := c) (by omega) (by omega) z with z | z
      · exact n3 ⟨g, hg, pair_take z⟩
      · exact n3 ⟨g, hg, pair_drop z⟩
  have no : ∀ s : List Nat, t = s → pair2 97 102 s = false → ¬ F1 t ∧ ¬ F3 t := fun s e z => by
    unfold F2 at f
    rw [e, z] at f
    cases f
  have dm : ∀ {j x}, x ∈ r.drop j → x ∈ r := fun h => List.mem_of_mem_drop h
  have tm : ∀ {j x}, x ∈ r.take j → x ∈ r := fun h => List.mem_of_mem_take h
  rcases o with rfl | ⟨i, c, e⟩ | ⟨i, c, e⟩ | ⟨i, e⟩ | ⟨i, e⟩ | ⟨i, n, e⟩
  · exact absurd f n2
  · exact put i (i + 1) c e
  · exact put i i c e
  · rcases i with _ | _ | _ | _ | _ | i
    · exact no _ e (by simp [headL, pair2, pair2_no (x := 97) (y := 102) (l := 32 :: r) (by simp [h.a])])
    · exact no _ e (by simp [headL, pair2, pair2_no (x := 97) (y := 102) (l := 32 :: r) (by simp [h.a])])
    · exact no _ e (by simp [headL, pair2, pair2_no (x := 97) (y := 102) (l := 32 :: r) (by simp [h.a])])
    · exact no _ e (by simp [headL, pair2, pair2_no (x := 97) (y := 102) (l := 32 :: r) (by simp [h.a])])
    · exact no _ e (by simp [headL, pair2, pair2_no (x := 97) (y := 102) (l := 100 :: r) (by simp [h.a])])
    · refine no _ e ?_
      have := pair2_no (x := 97) (y := 102) (l := 32 :: (r.take i ++ r.drop (i + 1))) (by
        simp only [List.mem_cons, List.mem_append, not_or]
        exact ⟨by decide, fun m => h.a (tm m), fun m => h.a (dm m)⟩)
      simpa [headL, pair2] using this
  · rcases i with _ | _ | _ | _ | _ | i
    · exact no _ e (by simp [headL, pair2, pair2_no (x := 97) (y := 102) (l := 32 :: r) (by simp [h.a])])
    · exact no _ e (by simp [headL, pair2, pair2_no (x := 97) (y := 102) (l := 32 :: r) (by simp [h.a])])
    · exact no _ e (by simp [headL, pair2, pair2_no (x := 97) (y := 102) (l := 32 :: r) (by simp [h.a])])
    · exact no _ e (by simp [headL, pair2, pair2_no (x := 97) (y := 102) (l := 100 :: r) (by simp [h.a])])
    · refine no _ e ?_
      have := pair2_no (x := 97) (y := 102) (l := 100 :: (r.take 1 ++ 32 :: r.drop 1)) (by
        simp only [List.mem_cons, List.mem_append, not_or]
        exact ⟨by decide, fun m => h.a (tm m), by decide, fun m => h.a (dm m)⟩)
      simpa [headL, pair2] using this
    · refine no _ e ?_
      have := pair2_no (x := 97) (y := 102) (l := 32 :: (r.take i ++ ((r.drop (i + 1)).take 1 ++ ((r.drop i).take 1 ++ r.drop (i + 2))))) (by
        simp only [List.mem_cons, List.mem_append, not_or]
        exact ⟨by decide, fun m => h.a (tm m), fun m => h.a (dm (List.mem_of_mem_take m)), fun m => h.a (dm (List.mem_of_mem_take m)), fun m => h.a (dm m)⟩)
      simpa [headL, pair2] using this
  · have rep : ∀ (m : Nat) (s : List Nat), 97 ∉ s → pair2 97 102 (97 :: (List.replicate m 55 ++ 100 :: s)) = false := by
      intro m s hs
      cases m with
      | zero => simp [pair2, pair2_no (x := 97) (y := 102) (l := 100 :: s) (by simp [hs])]
      | succ m =>
        have := pair2_no (x := 97) (y := 102) (l := 55 :: (List.replicate m 55 ++ 100 :: s)) (by
          simp only [List.mem_cons, List.mem_append, not_or]
          exact ⟨by decide, fun z => absurd (List.mem_replicate.mp z).2 (by decide), by decide, hs⟩)
        rw [List.replicate_succ, List.cons_append]
        unfold pair2
        rw [this]
        simp
    have nr : ∀ (m : Nat) (p s : List Nat), 97 ∉ p → 97 ∉ s → 97 ∉ p ++ (List.replicate m 55 ++ s) := by
      intro m p s h1 h2 z
      rcases List.mem_append.mp z with z | z
      · exact h1 z
      · rcases List.mem_append.mp z with z | z
        · exact absurd (List.mem_replicate.mp z).2 (by decide)
        · exact h2 z
    have front : ∀ (p s : List Nat), 97 ∉ p → pair2 97 102 (p ++ s) = true → pair2 97 102 s = true := by
      intro p
      induction p with
      | nil => intro s _ h; exact h
      | cons a p ih =>
        intro s hp h
        refine ih s (fun m => hp (List.mem_cons_of_mem _ m)) ?_
        have ha : (a == 97) = false := by simpa using fun e : a = 97 => hp (by rw [e]; exact List.mem_cons_self)
        cases w : p ++ s with
        | nil => rw [List.cons_append, w] at h; cases h
        | cons b l =>
          rw [List.cons_append, w] at h
          unfold pair2 at h
          rw [ha] at h
          simpa using h
    have done : ∀ p s : List Nat, t = p ++ s → 97 ∉ p → pair2 97 102 s = false → ¬ F1 t ∧ ¬ F3 t := fun p s e hp hs => no _ e (by
      cases z : pair2 97 102 (p ++ s) with
      | false => rfl
      | true => rw [front p s hp z] at hs; cases hs)
    have tail0 : pair2 97 102 (97 :: 100 :: 32 :: r) = false := by simp [pair2, pair2_no (x := 97) (y := 102) (l := 32 :: r) (by simp [h.a])]
    rcases i with _ | _ | _ | _ | _ | i
    · exact done (List.replicate n 55 ++ [104, 101]) (97 :: 100 :: 32 :: r) (by rw [e]; simp [headL]) (by
        intro z
        rcases List.mem_append.mp z with z | z
        · exact absurd (List.mem_replicate.mp z).2 (by decide)
        · revert z; decide) tail0
    · exact done ([104] ++ (List.replicate n 55 ++ [101])) (97 :: 100 :: 32 :: r) (by rw [e]; simp [headL]) (nr n _ _ (by decide) (by decide)) tail0
    · exact done ([104, 101] ++ (List.replicate n 55 ++ [])) (97 :: 100 :: 32 :: r) (by rw [e]; simp [headL]) (nr n _ _ (by decide) (by decide)) tail0
    · exact done [104, 101] (97 :: (List.replicate n 55 ++ 100 :: 32 :: r)) (by rw [e]; simp [headL]) (by decide) (rep n _ (by simp [h.a]))
    · refine done [104, 101] (97 :: 100 :: (List.replicate n 55 ++ 32 :: r)) (by rw [e]; simp [headL]) (by decide) ?_
      have := pair2_no (x := 97) (y := 102) (l := 100 :: (List.replicate n 55 ++ 32 :: r)) (by
        simp only [List.mem_cons, List.mem_append, not_or]
        exact ⟨by decide, fun z => absurd (List.mem_replicate.mp z).2 (by decide), by decide, h.a⟩)
      unfold pair2
      rw [this]
      simp
    · refine done [104, 101] (97 :: 100 :: 32 :: (r.take i ++ (List.replicate n 55 ++ r.drop i))) (by rw [e]; simp [headL]) (by decide) ?_
      have := pair2_no (x := 97) (y := 102) (l := 32 :: (r.take i ++ (List.replicate n 55 ++ r.drop i))) (by
        simp only [List.mem_cons, not_or]
        exact ⟨by decide, nr n _ _ (fun m => h.a (tm m)) (fun m => h.a (dm m))⟩)
      unfold pair2 pair2
      rw [this]
      simp
theorem no_leaf {r t u : List Nat} (h : HeadR r) (o1 : smallOp (headL r) t ∨ bigOp (headL r) t) (o2 : smallOp t u ∨ bigOp t u) (lf : leafs u) (b : u.count 32 = 2) : False := by
  obtain ⟨f1, f2⟩ := leafs_f lf
  have hb : (headL r).count 32 = 6 := by simp [headL, List.count_cons, h.b]
  rcases o1 with s1 | b1
  · have c1 := small_blanks s1
    rcases o2 with s2 | b2
    · have c2 := small_blanks s2
      omega
    · have g2 := big_f2 b2 f2
      obtain ⟨n1, n3⟩ := small_head h s1 g2
      rcases big_f1 b2 f1 with z | z
      · exact n1 z
      · exact n3 z
  · obtain ⟨n1, n2⟩ := big_head h b1
    rcases o2 with s2 | b2
    · exact small_leafs s2 n1 n2 lf
    · exact n2 (big_f2 b2 f2)
theorem no_inner {r t u : List Nat} (h : HeadR r) (o1 : smallOp (headL r) t ∨ bigOp (headL r) t) (o2 : smallOp t u ∨ bigOp t u) (hi : 105 ∈ u) (hn : 110 ∈ u) (hr : 114 ∈ u) : False := by
  obtain ⟨c, h1⟩ := op_signs o1
  obtain ⟨d, h2⟩ := op_signs o2
  have key : ∀ x, (x = 105 ∨ x = 110 ∨ x = 114) → x ∈ u → x = c ∨ x = d := by
    intro x hx m
    have nx : x ∉ headL r := by
      unfold headL
      simp only [List.mem_cons, not_or]
      refine ⟨by omega, by omega, by omega, by omega, by omega, ?_⟩
      rcases hx with rfl | rfl | rfl
      · exact h.i
      · exact h.n
      · exact h.r
    have ns : x ∉ signs6 := by simp only [signs6, List.mem_cons, List.not_mem_nil, or_false]; omega
    rcases h2 x m with m | e | e | e
    · rcases h1 x m with m | e | e | e
      · exact absurd m nx
      · exact .inl e
      · omega
      · exact absurd e ns
    · exact .inr e
    · omega
    · exact absurd e ns
  have a := key 105 (.inl rfl) hi
  have b := key 110 (.inr (.inl rfl)) hn
  have e := key 114 (.inr (.inr rfl)) hr
  omega
section
variable {P : Program} {w : World} {K : PySem.W.Frag} {mg : Str → Option Value} {base : Heap}
def spStarts (K : PySem.W.Frag) : Sp := fun vs H Q _ => ∃ t : Str, vs = [.str t] ∧ t.length ≤ 1000000 ∧ ∀ D ps H', new K H D → Ext K H H' → H' D = some (.lst (List.map V.int ps)) → ps.length ≤ t.length → (∀ p ∈ ps, 0 ≤ p ∧ p < t.length) → Q (.ref D) H'
theorem sc__law_starts : FnScope ["_law_text", "_law_found", "_law_ahead", "_law_k", "_law_sign_here", "_law_here"] ["_law_text"] (defScope s__law_starts) := ⟨rfl, rfl, rfl, by decide +kernel, rfl, by decide +kernel, by decide +kernel⟩
theorem ok__law_starts {f : Addr} {fd : FuncData} (F : Fun K "_law_starts" "_law_starts" s__law_starts f fd) {aP cF cR cN : Addr} {t1 t2 t3 t4 tF : Tok} (B : B K mg aP cF cR cN t1 t2 t3 t4 tF) : FnOk P w K mg base CX0 1 f fd ["_law_text"] (spStarts K) := by
  refine F.okJ sc__law_starts (fun vs H Q E h => ?_) (fun cdv A outer s H vs Q E hr h => ?_)
  · obtain ⟨t, rfl, _⟩ := h
    rfl
  obtain ⟨t, rfl, ht, q⟩ := h
  refine ⟨_, (bcons (sset (i := 1) sc__law_starts.nd rfl (Or.inl rfl) (elstQ anil))
      (bcons (sset (i := 2) sc__law_starts.nd rfl (Or.inl rfl) ebl)
      (bcons (sfor PassesOwn.never rfl (ienumT rfl B.enumerate (acons (ev 0) anil)) (gtupQ (n := 2) rfl (gcons (gname (i := 3) sc__law_starts.nd rfl (Or.inl rfl)) (gcons (gname (i := 4) sc__law_starts.nd rfl (Or.inl rfl)) gnil)))
        (bcons (sset (i := 5) sc__law_starts.nd rfl (Or.inl rfl) (ecmp op_inS (ev 4) estr (by with_unfolding_all rfl)))
      (bcut (sif (tw (wand (tval (ev 5)) (wand1 (tnot (tval (ev 2)))))) (bone (sexpr (ebm PySem.F.plainAttrs_list PySem.F.slot_list_append PySem.F.type_list_append mt_append (ev 1) (acons (ev 3) anil)))) bnil)
      (bone (sset (i := 2) sc__law_starts.nd rfl (Or.inl rfl) (ev 5))))))
      (bone (sret (ev 1)))))), ?_⟩
  try walk_at "rn"
  intro D nD
  have htl : t.length = t.cps.toList.length := by simp [Str.length]
  refine loop_enumT (fun i σ H' => ∃ (ps : List Int) (b : Bool) (v3 v4 v5 : Option V), σ = [some (.str t), some (.ref D), some (.bl b), v3, v4, v5] ∧ H' D = some (.lst (ps.map V.int)) ∧ Kp K D (upd H D (.lst [])) H' ∧ ps.length ≤ i ∧ ∀ p ∈ ps, 0 ≤ p ∧ p < i) ⟨[], _, _, _, _, rfl, upd_same, Kp.refl, by simp, by simp⟩ ?_ ?_
  · rintro i c σ H' T hc ⟨ps, b, v3, v4, v5, rfl, hD, k, hl, hb⟩ nT
    have hi : i < t.cps.toList.length := (List.getElem?_eq_some_iff.mp hc).1
    have yT := Ext.new (K := K) (o := .tup [V.int i, V.str ⟨#[c]⟩]) nT
    try walk_at "rn"
    generalize Txt.contains (Str.ofString "0123456789") ⟨#[c]⟩ = h
    have hD2 := yT.at hD
    have kT := k.trans yT.kp
    generalize upd H' T (.tup [V.int i, V.str ⟨#[c]⟩]) = G at hD2 kT ⊢
    refine ⟨fun σ G' => ∃ ps : List Int, σ = [some (.str t), some (.ref D), some (.bl b), some (.int i), some (.str ⟨#[c]⟩), some (.bl h)] ∧ G' D = some (.lst (ps.map V.int)) ∧ Kp K D (upd H D (.lst [])) G' ∧ ps.length ≤ i + 1 ∧ ∀ p ∈ ps, 0 ≤ p ∧ p < ((i + 1 : Nat) : Int), ?_, ?_⟩
    · try walk_at "rn"
      have stay : ∃ ps_1, G D = some (HO.lst (List.map V.int ps_1)) ∧ Kp K D (upd H D (.lst [])) G ∧ ps_1.length ≤ i + 1 ∧ ∀ p ∈ ps_1, 0 ≤ p ∧ p < ((i + 1 : Nat) : Int) := ⟨ps, hD2, kT, by omega, fun p hp => by have := hb p hp; omega⟩
      refine ite2 (fun c1 => ite2 (fun c2 => ?_) (fun c2 => stay)) (fun c1 => stay)
      refine ⟨.inl ⟨_, SqL.of hD2⟩, _, hD2, by rw [List.length_map]; omega, ps ++ [(i : Int)], by rw [List.map_append]; rfl, kT.trans (Kp.upd hD2), by rw [List.length_append]; simp; omega, fun p hp => ?_⟩
      rcases List.mem_append.mp hp with hp | hp
      · have := hb p hp; omega
      · have := List.mem_singleton.mp hp; omega
    · rintro σ G' ⟨ps', rfl, h1, h2, h3, h4⟩
      try walk_at "rn"
      exact ⟨ps', h1, h2, h3, h4⟩
  · rintro σ H' ⟨ps, b, v3, v4, v5, rfl, hD, k, hl, hb⟩
    try walk_at "rn"
    exact q D ps _ nD (k.ext nD) hD (by omega) (fun p hp => by have := hb p hp; omega)
def spSign (K : PySem.W.Frag) : Sp := fun vs H Q _ => ∃ p, vs = [.ref p] ∧ Wl H p ∧ ∀ (c : Nat) (H' : Hp), Wl H' p → Kp K p H H' → Q (.str ⟨#[c]⟩) H'
theorem sc__law_sign : FnScope ["_law_state", "_law_signs"] ["_law_state"] (defScope s__law_sign) := ⟨rfl, rfl, rfl, by decide +kernel, rfl, by decide +kernel, by decide +kernel⟩
theorem ok__law_sign {f : Addr} {fd : FuncData} (F : Fun K "_law_sign" "_law_sign" s__law_sign f fd) {aP cF cR cN : Addr} {t1 t2 t3 t4 tF : Tok} (B : B K mg aP cF cR cN t1 t2 t3 t4 tF) (C__law_digit : Callee P w K mg base "_law_digit" 1 ["_law_state", "_law_base"] (spDigit K)) : FnOk P w K mg base CX0 2 f fd ["_law_state"] (spSign K) := by
  refine F.okJ sc__law_sign (fun vs H Q E h => ?_) (fun cdv A outer s H vs Q E hr h => ?_)
  · obtain ⟨p, rfl, _⟩ := h
    rfl
  obtain ⟨p, rfl, hp, q⟩ := h
  refine ⟨_, (bcons (sset (i := 1) sc__law_sign.nd rfl (Or.inl rfl) estr)
      (bcut (sif (tcmp op_eq (ecall C__law_digit (hr.mono (by decide)) rfl (acons (ev 0) (acons ei anil))) ei (nomark _)) (bcons (sset (i := 1) sc__law_sign.nd rfl (Or.inl rfl) estr)
      (bone (sset (i := 1) sc__law_sign.nd rfl (Or.inl rfl) (eop op_add_str (ev 1) estr)))) bnil)
      (bone (sret (eix ix_str (ev 1) (ecall C__law_digit (hr.mono (by decide)) rfl (acons (ev 0) (acons (ecallB call_len_str rfl B.len bt_len (acons (ev 1) anil)) anil))) (fun _ _ => rfl)))))), ?_⟩
  try walk_at "rn"
  refine ⟨fun σ H' => ∃ z : Str, σ = [some (.ref p), some (.str z)] ∧ (0 < z.length ∧ z.length ≤ 1000) ∧ Wl H' p ∧ Kp K p H H', ?_, ?_⟩
  · try walk_at "rn"
    refine ⟨p, 2, rfl, hp, by decide, by decide, fun d H1 d0 d1 hp1 k1 => ⟨rfl, ite2 (fun c => ?_) (fun c => ?_)⟩⟩
    · exact ⟨by decide +kernel, by decide +kernel, by decide +kernel, hp1, k1⟩
    · exact ⟨by decide +kernel, by decide +kernel, hp1, k1⟩
  rintro σ H1 ⟨z, rfl, ⟨z0, z1⟩, hp1, k1⟩
  try walk_at "rn"
  refine ⟨by omega, p, (z.length : Int), rfl, hp1, by omega, by omega, fun r H2 r0 r1 hp2 k2 => ⟨_, rfl, by omega, ?_⟩⟩
  obtain ⟨c, ec, _⟩ := atI_in (xs := z.cps.toList) r0 (by rw [str_len] at r1; exact r1)
  exact ⟨c, ec, q c _ hp2 (k1.trans k2)⟩
def SL (ps : List Str) : Nat := (ps.map fun p => p.length + 1).sum
theorem SL_app (ps qs : List Str) : SL (ps ++ qs) = SL ps + SL qs := by unfold SL; rw [List.map_append, List.sum_append]
theorem SL_take (ps : List Str) (k : Nat) : SL (ps.take k) + SL (ps.drop k) = SL ps := by rw [← SL_app, List.take_append_drop]
theorem SL_sub_take (ps : List Str) (k : Nat) : SL (ps.take k) ≤ SL ps := by have := SL_take ps k; omega
theorem SL_sub_drop (ps : List Str) (k : Nat) : SL (ps.drop k) ≤ SL ps := by have := SL_take ps k; omega
theorem SL_lenAll {g : Str} (hg : g.length = 1) (ps : List Str) : lenAll g ps = SL ps := by
  have key : ∀ (ps : List Str) (a : Nat), ps.foldl (fun n x => n + x.length + g.length) a = a + SL ps := by
    intro ps
    induction ps with
    | nil => intro a; simp [SL]
    | cons p r ih =>
      intro a
      rw [List.foldl_cons, ih, hg]
      simp only [SL, List.map_cons, List.sum_cons]
      omega
  have := key ps 0
  unfold lenAll
  omega
theorem SL_join {c : Nat} : ∀ (ps : List Str), (Str.join ⟨#[c]⟩ ps).length ≤ SL ps ∧ (ps ≠ [] → SL ps = (Str.join ⟨#[c]⟩ ps).length + 1)
  | [] => ⟨by simp [Str.join, Str.empty, Str.length, SL], fun h => absurd rfl h⟩
  | [x] => by
    have : (Str.join ⟨#[c]⟩ [x]).length = x.length := rfl
    simp [SL, this]
  | x :: y :: r => by
    obtain ⟨h1, h2⟩ := SL_join (c := c) (y :: r)
    have h2 := h2 (by simp)
    have e : (Str.join ⟨#[c]⟩ (x :: y :: r)).length = x.length + 1 + (Str.join ⟨#[c]⟩ (y :: r)).length := by
      show (x ++ ⟨#[c]⟩ ++ Str.join ⟨#[c]⟩ (y :: r)).length = _
      rw [Str.length_append, Str.length_append]
      rfl
    have e2 : SL (x :: y :: r) = x.length + 1 + SL (y :: r) := by simp [SL]
    rw [e, e2]
    exact ⟨by omega, fun _ => by omega⟩
theorem join_joinL {g : Nat} : ∀ (ps : List Str), (Str.join ⟨#[g]⟩ ps).cps.toList = joinL g (ps.map fun p => p.cps.toList)
  | [] => rfl
  | [x] => rfl
  | x :: y :: r => by rw [join_cps, join_joinL (y :: r)]; rfl
def Op (t t' : Str) : Prop := smallOp t.cps.toList t'.cps.toList ∨ bigOp t.cps.toList t'.cps.toList
theorem parts_op {t : Str} {g : Nat} (hg : g ∈ signs6) {qs : List Str} (hq : ∀ q ∈ qs, q ∈ Txt.split t ⟨#[g]⟩) : Op t (Str.join ⟨#[g]⟩ qs) := by
  refine .inr (.inr ⟨g, hg, (Txt.split t ⟨#[g]⟩).map (fun p => p.cps.toList), qs.map (fun p => p.cps.toList), ?_, ?_, ?_, join_joinL qs⟩)
  · rw [← join_joinL, StrLaws.join_split]
  · intro p hp
    obtain ⟨q, h, rfl⟩ := List.mem_map.mp hp
    exact StrLaws.split_free _ _ q h
  · intro p hp
    obtain ⟨q, h, rfl⟩ := List.mem_map.mp hp
    exact List.mem_map.mpr ⟨q, hq q h, rfl⟩
theorem cut_str (ps : List Str) (lo hi : Option Int) : ∃ qs : List Str, cutV (ps.map V.str) lo hi = qs.map V.str ∧ (∀ q ∈ qs, q ∈ ps) ∧ SL qs ≤ SL ps := by
  refine ⟨_, by unfold cutV; rw [← List.map_drop, ← List.map_take], fun q h => List.mem_of_mem_drop (List.mem_of_mem_take h), Nat.le_trans (SL_sub_take _ _) (SL_sub_drop _ _)⟩
theorem cut_len (ps : List Str) (lo hi : Option Int) : (cutV (ps.map V.str) lo hi).length ≤ ps.length := by
  have := cutV_length (ps.map V.str) lo hi
  rwa [List.length_map] at this
def spTurn (K : PySem.W.Frag) : Sp := fun vs H Q _ => ∃ p t m, vs = [.ref p, .str t, .int m] ∧ Wl H p ∧ t.length ≤ 200000 ∧ ∀ (t' : Str) (H' : Hp), Op t t' → t'.length ≤ 4 * t.length + 6000 → Wl H' p → Kp K p H H' → Q (.str t') H'
theorem sign_of {r : Int} (r0 : 0 ≤ r) (r1 : r < 6) : ∃ g ∈ signs6, atI [V.str (Str.ofString ";"), V.str (Str.ofString ","), V.str (Str.ofString "."), V.str (Str.ofString " "), V.str (Str.ofString ":"), V.str (Str.ofString "=")] r = some (.str ⟨#[g]⟩) := by
  obtain ⟨v, ev, mv⟩ := atI_in (xs := [V.str (Str.ofString ";"), V.str (Str.ofString ","), V.str (Str.ofString "."), V.str (Str.ofString " "), V.str (Str.ofString ":"), V.str (Str.ofString "=")]) r0 r1
  have e : ∀ (x : Str) (g : Nat), x.cps.toList = [g] → x = ⟨#[g]⟩ := fun x g h => str_ext h
  simp only [List.mem_cons, List.not_mem_nil, or_false] at mv
  rcases mv with rfl | rfl | rfl | rfl | rfl | rfl
  · exact ⟨59, by decide, by rw [ev, e (Str.ofString ";") 59 (by decide +kernel)]⟩
  · exact ⟨44, by decide, by rw [ev, e (Str.ofString ",") 44 (by decide +kernel)]⟩
  · exact ⟨46, by decide, by rw [ev, e (Str.ofString ".") 46 (by decide +kernel)]⟩
  · exact ⟨32, by decide, by rw [ev, e (Str.ofString " ") 32 (by decide +kernel)]⟩
  · exact ⟨58, by decide, by rw [ev, e (Str.ofString ":") 58 (by decide +kernel)]⟩
  · exact ⟨61, by decide, by rw [ev, e (Str.ofString "=") 61 (by decide +kernel)]⟩
theorem sc__law_parts_turned : FnScope ["_law_state", "_law_text", "_law_way", "_law_sign_here", "_law_parts", "_law_k", "_law_turned"] ["_law_state", "_law_text", "_law_way"] (defScope s__law_parts_turned) := ⟨rfl, rfl, rfl, by decide +kernel, rfl, by decide +kernel, by decide +kernel⟩
theorem ok__law_parts_turned {f : Addr} {fd : FuncData} (F : Fun K "_law_parts_turned" "_law_parts_turned" s__law_parts_turned f fd) {aP cF cR cN : Addr} {t1 t2 t3 t4 tF : Tok} (B : B K mg aP cF cR cN t1 t2 t3 t4 tF) (C__law_digit : Callee P w K mg base "_law_digit" 1 ["_law_state", "_law_base"] (spDigit K)) : FnOk P w K mg base CX0 2 f fd ["_law_state", "_law_text", "_law_way"] (spTurn K) := by
  refine F.okJ sc__law_parts_turned (fun vs H Q E h => ?_) (fun cdv A outer s H vs Q E hr h => ?_)
  · obtain ⟨p, t, m, rfl, _⟩ := h
    rfl
  obtain ⟨p, t, m, rfl, hp, ht, q⟩ := h
  refine ex_seal (rest := (defBody s__law_parts_turned).drop 6) (bone (sret (ebm PySem.F.plainAttrs_str PySem.F.slot_str_join PySem.F.type_str_join mt_join (ev 3) (acons (eop op_catQ (eop op_catQ (eslice sl_listQ (ev 4) onone (osome (ev 5))) (ev 6)) (eslice sl_listQ (ev 4) (osome (eop op_add (ev 5) ei)) onone)) anil)))) fun r6 J6 e6 => ?_
  refine ex_seal (rest := (defBody s__law_parts_turned).drop 5) (bcons (sset (i := 6) sc__law_parts_turned.nd rfl (Or.inl rfl) (eop op_catQ (eslice sl_listQ (ev 4) (osome (eop op_add (ev 5) ei)) (osome (eop op_add (ev 5) ei))) (eslice sl_listQ (ev 4) (osome (ev 5)) (osome (eop op_add (ev 5) ei)))))
      J6) fun r5 J5 e5 => ?_
  refine ex_seal (rest := (defBody s__law_parts_turned).drop 4) (bcons (sif (tcmp op_eq (ev 2) ei (nomark _)) (bone (sret (ebm PySem.F.plainAttrs_str PySem.F.slot_str_join PySem.F.type_str_join mt_join (ev 3) (acons (eop op_catQ (eslice sl_listQ (ev 4) onone (osome (ev 5))) (eslice sl_listQ (ev 4) (osome (eop op_add (ev 5) ei)) onone)) anil)))) bnil)
      J5) fun r4 J4 e4 => ?_
  refine ex_seal (rest := (defBody s__law_parts_turned).drop 3) (bcons (sif (tcmp op_eq (ev 2) ei (nomark _)) (bone (sret (ebm PySem.F.plainAttrs_str PySem.F.slot_str_join PySem.F.type_str_join mt_join (ev 3) (acons (eop op_catQ (eop op_catQ (eslice sl_listQ (ev 4) onone (osome (ev 5))) (eslice sl_listQ (ev 4) (osome (ev 5)) (osome (eop op_add (ev 5) ei)))) (eslice sl_listQ (ev 4) (osome (ev 5)) onone)) anil)))) bnil)
      J4) fun r3 J3 e3 => ?_
  refine ⟨_, (bcons (sset (i := 3) sc__law_parts_turned.nd rfl (Or.inl rfl) (eix ix_Q (elstQ (acons estr (acons estr (acons estr (acons estr (acons estr (acons estr anil))))))) (ecall C__law_digit (hr.mono (by decide)) rfl (acons (ev 0) (acons ei anil))) (fun _ _ => rfl)))
      (bcons (sset (i := 4) sc__law_parts_turned.nd rfl (Or.inl rfl) (ebm PySem.F.plainAttrs_str PySem.F.slot_str_split PySem.F.type_str_split mt_split (ev 1) (acons (ev 3) anil)))
      (bcons (sset (i := 5) sc__law_parts_turned.nd rfl (Or.inl rfl) (ecall C__law_digit (hr.mono (by decide)) rfl (acons (ev 0) (acons (ecallB call_lenQ rfl B.len bt_len (acons (ev 4) anil)) anil))))
      J3))), ?_⟩
  try walk_at "rn"
  intro b1 n1
  have y1 := Ext.new (K := K) (o := .lst [V.str (Str.ofString ";"), V.str (Str.ofString ","), V.str (Str.ofString "."), V.str (Str.ofString " "), V.str (Str.ofString ":"), V.str (Str.ofString "=")]) n1
  refine ⟨p, 6, rfl, hp.ext y1, by decide, by decide, fun r H1 r0 r1 hp1 k1 => ⟨_, rfl, _, seqQ_lst (k1.keep b1 _ upd_same (hp.ne n1)), ?_⟩⟩
  obtain ⟨g, hg, eg⟩ := sign_of r0 r1
  obtain ⟨s1, s2⟩ := split_lenC t g
  have sne := split_ne t g
  obtain ⟨_, sj⟩ := SL_join (c := g) (Txt.split t ⟨#[g]⟩)
  have sj := sj sne
  rw [StrLaws.join_split] at sj
  refine ⟨_, eg, ?_⟩
  try walk_at "rn"
  refine ⟨rfl, by omega, by omega, fun D nD => ?_⟩
  have yD := Ext.new (K := K) (o := .lst (List.map V.str (Txt.split t ⟨#[g]⟩))) nD
  have spos : 0 < (Txt.split t ⟨#[g]⟩).length := List.length_pos_iff.mpr sne
  refine ⟨p, _, rfl, hp1.ext yD, by rw [List.length_map]; omega, by rw [List.length_map]; omega, fun k H2 k0 k2 hp2 kk => ?_⟩
  have hD : H2 D = some (.lst (List.map V.str (Txt.split t ⟨#[g]⟩))) := kk.keep D _ upd_same (hp1.ne nD)
  have kA := (y1.kp (p := p)).trans (k1.trans ((yD.kp (p := p)).trans kk))
  generalize eP : Txt.split t ⟨#[g]⟩ = ps at *
  have fin : ∀ (qs : List Str) (H' : Hp), (∀ q ∈ qs, q ∈ ps) → SL qs ≤ 4 * SL ps → Ext K H2 H' → lenAll ⟨#[g]⟩ qs ≤ 16777216 ∧ (Str.join ⟨#[g]⟩ qs).length ≤ 16777216 ∧ Q (.str (Str.join ⟨#[g]⟩ qs)) H' := by
    intro qs H' hq hs x
    obtain ⟨j1, _⟩ := SL_join (c := g) qs
    have := SL_lenAll (g := ⟨#[g]⟩) rfl qs
    exact ⟨by omega, by omega, q _ _ (parts_op hg (by rw [eP]; exact hq)) (by omega) (hp2.ext x) (kA.trans x.kp)⟩
  rw [e3]
  try walk_at "rn"
  obtain ⟨qa, ea, ma, sa⟩ := cut_str ps none (some k)
  obtain ⟨qb, eb, mb, sb⟩ := cut_str ps (some k) (some (k + 1))
  have la := cut_len ps none (some k)
  have lb := cut_len ps (some k) (some (k + 1))
  refine ite2 (fun c => ?_) (fun c => ?_)
  · obtain ⟨qc, ec, mc, sc⟩ := cut_str ps (some k) none
    have lc := cut_len ps (some k) none
    rw [ea] at la
    rw [eb] at lb
    rw [ec] at lc
    refine ⟨_, SqL.of hD, fun a1 z1 => ?_⟩
    rw [ea]
    have x1 := Ext.new (K := K) (o := .lst (qa.map V.str)) z1
    refine ⟨_, SqL.of (x1.at hD), fun a2 z2 => ?_⟩
    rw [eb]
    have x2 := Ext.new (K := K) (o := .lst (qb.map V.str)) z2
    refine ⟨_, x2.at upd_same, by omega, fun a3 z3 => ?_⟩
    have x3 := Ext.new (K := K) (o := .lst (qa.map V.str ++ qb.map V.str)) z3
    refine ⟨_, SqL.of ((x1.trans (x2.trans x3)).at hD), fun a4 z4 => ?_⟩
    rw [ec]
    have x4 := Ext.new (K := K) (o := .lst (qc.map V.str)) z4
    refine ⟨_, x4.at upd_same, by rw [List.length_append]; omega, fun a5 z5 => ?_⟩
    have x5 := Ext.new (K := K) (o := .lst (qa.map V.str ++ qb.map V.str ++ qc.map V.str)) z5
    refine ⟨qa ++ qb ++ qc, SqL.of (by rw [upd_same, List.map_append, List.map_append]), fin _ _ ?_ ?_ (x1.trans (x2.trans (x3.trans (x4.trans x5))))⟩
    · intro z hz
      rcases List.mem_append.mp hz with hz | hz
      · rcases List.mem_append.mp hz with hz | hz
        · exact ma z hz
        · exact mb z hz
      · exact mc z hz
    · rw [SL_app, SL_app]; omega
  rw [e4]
  try walk_at "rn"
  obtain ⟨qc, ec, mc, sc⟩ := cut_str ps (some (k + 1)) none
  have lc := cut_len ps (some (k + 1)) none
  refine ite2 (fun c => ?_) (fun c => ?_)
  · rw [ea] at la
    rw [ec] at lc
    refine ⟨_, SqL.of hD, fun a1 z1 => ?_⟩
    rw [ea]
    have x1 := Ext.new (K := K) (o := .lst (qa.map V.str)) z1
    refine ⟨_, SqL.of (x1.at hD), fun a2 z2 => ?_⟩
    rw [ec]
    have x2 := Ext.new (K := K) (o := .lst (qc.map V.str)) z2
    refine ⟨_, x2.at upd_same, by omega, fun a3 z3 => ?_⟩
    have x3 := Ext.new (K := K) (o := .lst (qa.map V.str ++ qc.map V.str)) z3
    refine ⟨qa ++ qc, SqL.of (by rw [upd_same, List.map_append]), fin _ _ ?_ ?_ (x1.trans (x2.trans x3))⟩
    · intro z hz
      rcases List.mem_append.mp hz with hz | hz
      · exact ma z hz
      · exact mc z hz
    · rw [SL_app]; omega
  rw [e5]
  try walk_at "rn"
  obtain ⟨qd, ed, md, sd⟩ := cut_str ps (some (k + 1)) (some (k + 2))
  obtain ⟨qe, ee, me, se⟩ := cut_str ps (some (k + 2)) none
  have ld := cut_len ps (some (k + 1)) (some (k + 2))
  have le := cut_len ps (some (k + 2)) none
  rw [ea] at la
  rw [eb] at lb
  rw [ed] at ld
  rw [ee] at le
  refine ⟨_, SqL.of hD, fun a1 z1 => ?_⟩
  rw [ed]
  have x1 := Ext.new (K := K) (o := .lst (qd.map V.str)) z1
  refine ⟨_, SqL.of (x1.at hD), fun a2 z2 => ?_⟩
  rw [eb]
  have x2 := Ext.new (K := K) (o := .lst (qb.map V.str)) z2
  refine ⟨_, x2.at upd_same, by omega, fun a3 z3 => ?_⟩
  have x3 := Ext.new (K := K) (o := .lst (qd.map V.str ++ qb.map V.str)) z3
  have h3 : upd (upd (upd H2 a1 (.lst (qd.map V.str))) a2 (.lst (qb.map V.str))) a3 (.lst (qd.map V.str ++ qb.map V.str)) a3 = some (.lst (qd.map V.str ++ qb.map V.str)) := upd_same
  have x13 := x1.trans (x2.trans x3)
  generalize upd (upd (upd H2 a1 (.lst (qd.map V.str))) a2 (.lst (qb.map V.str))) a3 (.lst (qd.map V.str ++ qb.map V.str)) = H3 at h3 x13 ⊢
  rw [e6]
  try walk_at "rn"
  refine ⟨_, SqL.of (x13.at hD), fun a4 z4 => ?_⟩
  rw [ea]
  have x4 := Ext.new (K := K) (o := .lst (qa.map V.str)) z4
  refine ⟨_, x4.at h3, by rw [List.length_append]; omega, fun a5 z5 => ?_⟩
  have x5 := Ext.new (K := K) (o := .lst (qa.map V.str ++ (qd.map V.str ++ qb.map V.str))) z5
  refine ⟨_, SqL.of ((x13.trans (x4.trans x5)).at hD), fun a6 z6 => ?_⟩
  rw [ee]
  have x6 := Ext.new (K := K) (o := .lst (qe.map V.str)) z6
  refine ⟨_, x6.at upd_same, by rw [List.length_append, List.length_append]; omega, fun a7 z7 => ?_⟩
  have x7 := Ext.new (K := K) (o := .lst (qa.map V.str ++ (qd.map V.str ++ qb.map V.str) ++ qe.map V.str)) z7
  refine ⟨qa ++ (qd ++ qb) ++ qe, SqL.of (by rw [upd_same, List.map_append, List.map_append, List.map_append]), fin _ _ ?_ ?_ (x13.trans (x4.trans (x5.trans (x6.trans x7))))⟩
  · intro z hz
    rcases List.mem_append.mp hz with hz | hz
    · rcases List.mem_append.mp hz with hz | hz
      · exact ma z hz
      · rcases List.mem_append.mp hz with hz | hz
        · exact md z hz
        · exact mb z hz
    · exact me z hz
  · rw [SL_app, SL_app, SL_app]; omega
end
theorem clip_lo {x : Str} {u : Option Int} {i : Nat} : Txt.slice x (some (i : Int)) u = Txt.slice x (some ((min i x.length : Nat) : Int)) u := by
  have e : Builtin.Str.strSliceIndices (some (i : Int)) u 1 x.length = Builtin.Str.strSliceIndices (some ((min i x.length : Nat) : Int)) u 1 x.length := by
    unfold Builtin.Str.strSliceIndices
    simp only [show (1 : Int) > 0 by decide, if_true]
    congr 1
    split <;> split <;> omega
  unfold Txt.slice
  rw [e]
theorem clip_hi {x : Str} {l : Option Int} {i : Nat} : Txt.slice x l (some (i : Int)) = Txt.slice x l (some ((min i x.length : Nat) : Int)) := by
  have e : Builtin.Str.strSliceIndices l (some (i : Int)) 1 x.length = Builtin.Str.strSliceIndices l (some ((min i x.length : Nat) : Int)) 1 x.length := by
    unfold Builtin.Str.strSliceIndices
    simp only [show (1 : Int) > 0 by decide, if_true]
    congr 1
    split <;> split <;> omega
  unfold Txt.slice
  rw [e]
theorem sl_to (x : Str) (n : Nat) : (Txt.slice x none (some (n : Int))).cps.toList = x.cps.toList.take n := by
  rw [clip_hi, slice_to (Nat.min_le_right _ _), str_len]
  by_cases h : n ≤ x.cps.toList.length
  · rw [Nat.min_eq_left h]
  · rw [Nat.min_eq_right (by omega), List.take_of_length_le (Nat.le_refl _), List.take_of_length_le (by omega)]
theorem sl_from (x : Str) (n : Nat) : (Txt.slice x (some (n : Int)) none).cps.toList = x.cps.toList.drop n := by
  rw [clip_lo, slice_from (Nat.min_le_right _ _), str_len]
  by_cases h : n ≤ x.cps.toList.length
  · rw [Nat.min_eq_left h]
  · rw [Nat.min_eq_right (by omega), List.drop_of_length_le (Nat.le_refl _), List.drop_of_length_le (by omega)]
theorem sl_one (x : Str) (n : Nat) : (Txt.slice x (some (n : Int)) (some ((n + 1 : Nat) : Int))).cps.toList = (x.cps.toList.drop n).take 1 := by
  rw [clip_lo, clip_hi]
  have e : ∀ a b : Nat, Txt.slice x (some (a : Int)) (some (b : Int)) = StrLaws.sliceText x (some (a : Int)) (some (b : Int)) := fun _ _ => rfl
  rw [e, StrLaws.sliceText_nat x (by omega) (Nat.min_le_right _ _)]
  show (x.cps.toList.drop _).take _ = _
  rw [str_len]
  by_cases h : n + 1 ≤ x.cps.toList.length
  · rw [Nat.min_eq_left h, Nat.min_eq_left (by omega)]
    congr 1
    omega
  · rw [Nat.min_eq_right (by omega), Nat.min_eq_right (by omega), List.drop_of_length_le (Nat.le_refl _), List.drop_of_length_le (by omega)]
    simp
theorem mulOk1 {x : Str} {n : Int} (hx : x.length = 1) (h0 : 1 ≤ n) (h : n ≤ 5000) : MulOk x n := by
  refine ⟨?_, fun _ _ => ?_, fun _ _ => PyProof.Rows.short24 ?_⟩
  · simp only [Bool.or_eq_false_iff, decide_eq_false_iff_not]
    omega
  · have : 1 ≤ (2 ^ 63 - 1 : Int) / n := Int.le_ediv_of_mul_le (by omega) (by omega)
    omega
  · rw [hx]
    omega
theorem mul_rep {c : Nat} {n : Int} (h : 1 ≤ n) : (Txt.mul ⟨#[c]⟩ n).cps.toList = List.replicate n.toNat c := by
  have key : ∀ (k : Nat) (a : Array Nat), ((List.replicate k #[c]).foldl (· ++ ·) a).toList = a.toList ++ List.replicate k c := by
    intro k
    induction k with
    | zero => intro a; simp
    | succ k ih => intro a; rw [List.replicate_succ, List.foldl_cons, ih, List.replicate_succ]; simp
  unfold Txt.mul
  rw [if_neg (by omega)]
  by_cases e : n = 1
  · subst e; rfl
  · rw [if_neg (by
      rw [Bool.or_eq_true, beq_iff_eq]
      rintro (h | h)
      · exact e h
      · cases h)]
    exact (key n.toNat #[]).trans (by simp)
section
variable {P : Program} {w : World} {K : PySem.W.Frag} {mg : Str → Option Value} {base : Heap}
def spFigs (K : PySem.W.Frag) : Sp := fun vs H Q _ => ∃ p t, vs = [.ref p, .str t] ∧ Wl H p ∧ t.length ≤ 200000 ∧ ∀ (t' : Str) (H' : Hp), Op t t' → t'.length ≤ 4 * t.length + 6000 → Wl H' p → Kp K p H H' → Q (.str t') H'
theorem many_of {r : Int} (r0 : 0 ≤ r) (r1 : r < 6) : ∃ n : Int, 0 ≤ n ∧ n ≤ 5000 ∧ atI [V.int 0, V.int 1, V.int 58, V.int 59, V.int 60, V.int 5000] r = some (.int n) := by
  obtain ⟨v, ev, mv⟩ := atI_in (xs := [V.int 0, V.int 1, V.int 58, V.int 59, V.int 60, V.int 5000]) r0 r1
  simp only [List.mem_cons, List.not_mem_nil, or_false] at mv
  rcases mv with rfl | rfl | rfl | rfl | rfl | rfl <;> exact ⟨_, by decide, by decide, ev⟩
theorem sc__law_figures : FnScope ["_law_state", "_law_text", "_law_starts_here", "_law_many", "_law_sign_here", "_law_at"] ["_law_state", "_law_text"] (defScope s__law_figures) := ⟨rfl, rfl, rfl, by decide +kernel, rfl, by decide +kernel, by decide +kernel⟩
theorem ok__law_figures {f : Addr} {fd : FuncData} (F : Fun K "_law_figures" "_law_figures" s__law_figures f fd) {aP cF cR cN : Addr} {t1 t2 t3 t4 tF : Tok} (B : B K mg aP cF cR cN t1 t2 t3 t4 tF) (C__law_digit : Callee P w K mg base "_law_digit" 1 ["_law_state", "_law_base"] (spDigit K)) (C__law_starts : Callee P w K mg base "_law_starts" 1 ["_law_text"] (spStarts K)) : FnOk P w K mg base CX0 2 f fd ["_law_state", "_law_text"] (spFigs K) := by
  refine F.okJ sc__law_figures (fun vs H Q E h => ?_) (fun cdv A outer s H vs Q E hr h => ?_)
  · obtain ⟨p, t, rfl, _⟩ := h
    rfl
  obtain ⟨p, t, rfl, hp, ht, q⟩ := h
  refine ex_seal (rest := (defBody s__law_figures).drop 6) (bone (sret (eop op_add_str (eop op_add_str (eslice sl_str (ev 1) onone (osome (ev 5))) (eop op_mul_str estr (ev 3))) (eslice sl_str (ev 1) (osome (ev 5)) onone)))) fun r6 J6 e6 => ?_
  refine ex_seal (rest := (defBody s__law_figures).drop 5) (bcons (sif (tcmp op_eq (ev 3) ei (nomark _)) (bone (sret (eop op_add_str (eop op_add_str (eslice sl_str (ev 1) onone (osome (ev 5))) (eix ix_str estr (ev 4) (fun _ _ => rfl))) (eslice sl_str (ev 1) (osome (ev 5)) onone)))) bnil)
      J6) fun r5 J5 e5 => ?_
  refine ex_seal (rest := (defBody s__law_figures).drop 4) (bcons (sset (i := 5) sc__law_figures.nd rfl (Or.inl rfl) (eix ix_Q (ev 2) (ecall C__law_digit (hr.mono (by decide)) rfl (acons (ev 0) (acons (ecallB call_lenQ rfl B.len bt_len (acons (ev 2) anil)) anil))) (fun _ _ => rfl)))
      J5) fun r4 J4 e4 => ?_
  refine ex_seal (rest := (defBody s__law_figures).drop 3) (bcons (sif (tcmp (op_eqD hr.units) (ev 2) (elstQ anil) (nomark _)) (bone (sret (ev 1))) bnil)
      J4) fun r3 J3 e3 => ?_
  refine ⟨_, (bcons (sset (i := 2) sc__law_figures.nd rfl (Or.inl rfl) (ecall C__law_starts (hr.mono (by decide)) rfl (acons (ev 1) anil)))
      (bcons (sset (i := 3) sc__law_figures.nd rfl (Or.inl rfl) (eix ix_Q (elstQ (acons ei (acons ei (acons ei (acons ei (acons ei (acons ei anil))))))) (ecall C__law_digit (hr.mono (by decide)) rfl (acons (ev 0) (acons ei anil))) (fun _ _ => rfl)))
      (bcons (sset (i := 4) sc__law_figures.nd rfl (Or.inl rfl) (ecall C__law_digit (hr.mono (by decide)) rfl (acons (ev 0) (acons ei anil))))
      J3))), ?_⟩
  try walk_at "rn"
  refine ⟨t, rfl, by omega, fun S ss H1 nS0 x1 hS sl sb => ?_⟩
  try walk_at "rn"
  intro b1 n1
  have y1 := Ext.new (K := K) (o := .lst [V.int 0, V.int 1, V.int 58, V.int 59, V.int 60, V.int 5000]) n1
  refine ⟨p, 6, rfl, hp.ext (x1.trans y1), by decide, by decide, fun r H2 r0 r1 hp2 k2 => ⟨_, rfl, _, seqQ_lst (k2.keep b1 _ upd_same ((hp.ext x1).ne n1)), ?_⟩⟩
  obtain ⟨n, n0, n5, en⟩ := many_of r0 r1
  refine ⟨_, en, ?_⟩
  refine ⟨p, 4, rfl, hp2, by decide, by decide, fun r' H3 r0' r1' hp3 k3 => ?_⟩
  rw [e3]
  try walk_at "rn"
  intro b2 n2
  have y2 := Ext.new (K := K) (o := .lst []) n2
  have nS : S ≠ p := hp.ne nS0
  have hS3 : H3 S = some (.lst (ss.map V.int)) := k3.keep S _ (k2.keep S _ (y1.at hS) nS) nS
  have hp4 := hp3.ext y2
  have kA := (x1.kp (p := p)).trans ((y1.kp (p := p)).trans (k2.trans (k3.trans (y2.kp (p := p)))))
  refine ⟨_, ints_is (y2.at hS3), _, ints_is (ks := []) (by exact upd_same), ints_shaped _, ints_shaped _, ?_⟩
  have hS4 := y2.at hS3
  generalize upd H3 b2 (.lst []) = H4 at hp4 kA hS4 ⊢
  cases hs : ss with
  | nil => exact iteT' rfl (q t _ (.inl (.inl rfl)) (by omega) hp4 kA)
  | cons s0 sr =>
  rw [← hs]
  have spos : 0 < ss.length := by rw [hs]; simp
  refine iteF' (by rw [hs]; simp [PyData.eqv, PyData.eqvAll]) ?_
  rw [e4]
  try walk_at "rn"
  refine ⟨_, seqQ_lst hS4, p, _, rfl, hp4, by rw [List.length_map]; omega, by rw [List.length_map]; omega, fun i H5 i0 i1 hp5 k5 => ⟨_, rfl, _, seqQ_lst (k5.keep S _ hS4 nS), ?_⟩⟩
  obtain ⟨v, ev, mv⟩ := atI_in (xs := ss.map V.int) i0 i1
  obtain ⟨a, ma, rfl⟩ := List.mem_map.mp mv
  obtain ⟨a0, a1⟩ := sb a ma
  obtain ⟨k, rfl⟩ : ∃ k : Nat, a = k := ⟨a.toNat, by omega⟩
  have kB := kA.trans k5
  have l1 := Txt.slice_le t none (some (k : Int))
  have l2 := Txt.slice_le t (some (k : Int)) none
  refine ⟨_, ev, ?_⟩
  rw [e5]
  try walk_at "rn"
  refine ite2 (fun c => ?_) (fun c => ?_)
  · obtain ⟨c, ec, _⟩ := atI_in (xs := (Str.ofString "0-+ ").cps.toList) (k := r') r0' (by rw [show (Str.ofString "0-+ ").cps.toList.length = 4 from by decide +kernel]; exact r1')
    have l3 : (⟨#[c]⟩ : Str).length = 1 := rfl
    refine ⟨by omega, by decide +kernel, c, ec, by omega, by omega, by rw [Str.length_append]; omega, q _ _ (.inl (.inr (.inr (.inl ⟨k, c, ?_⟩)))) (by rw [Str.length_append, Str.length_append]; omega) hp5 kB⟩
    rw [app_cps, app_cps, sl_to, sl_from, List.append_assoc]
    rfl
  rw [e6]
  try walk_at "rn"
  have e7 : Str.ofString "7" = ⟨#[55]⟩ := str_ext (by decide +kernel)
  rw [e7]
  have l3 : (Txt.mul ⟨#[55]⟩ n).length = n.toNat := by rw [str_len, mul_rep (by omega), List.length_replicate]
  refine ⟨by omega, mulOk1 rfl (by omega) (by omega), by omega, by omega, by rw [Str.length_append]; omega, q _ _ (.inl (.inr (.inr (.inr (.inr (.inr ⟨k, n.toNat, ?_⟩)))))) (by rw [Str.length_append, Str.length_append]; omega) hp5 kB⟩
  rw [app_cps, app_cps, sl_to, sl_from, mul_rep (by omega), List.append_assoc]
theorem sc__law_spoilt : FnScope ["_law_state", "_law_text", "_law_way", "_law_at", "_law_sign_here", "_law_turned"] ["_law_state", "_law_text"] (defScope s__law_spoilt) := ⟨rfl, rfl, rfl, by decide +kernel, rfl, by decide +kernel, by decide +kernel⟩
theorem ok__law_spoilt {f : Addr} {fd : FuncData} (F : Fun K "_law_spoilt" "_law_spoilt" s__law_spoilt f fd) {aP cF cR cN : Addr} {t1 t2 t3 t4 tF : Tok} (B : B K mg aP cF cR cN t1 t2 t3 t4 tF) (C__law_digit : Callee P w K mg base "_law_digit" 1 ["_law_state", "_law_base"] (spDigit K)) (C__law_sign : Callee P w K mg base "_law_sign" 2 ["_law_state"] (spSign K)) (C__law_parts_turned : Callee P w K mg base "_law_parts_turned" 2 ["_law_state", "_law_text", "_law_way"] (spTurn K)) (C__law_figures : Callee P w K mg base "_law_figures" 2 ["_law_state", "_law_text"] (spFigs K)) : FnOk P w K mg base CX0 3 f fd ["_law_state", "_law_text"] (spFigs K) := by
  refine F.okJ sc__law_spoilt (fun vs H Q E h => ?_) (fun cdv A outer s H vs Q E hr h => ?_)
  · obtain ⟨p, t, rfl, _⟩ := h
    rfl
  obtain ⟨p, t, rfl, hp, ht, q⟩ := h
  refine ex_seal (rest := (defBody s__law_spoilt).drop 10) (bone (sret (eslice sl_str (ev 1) onone (osome (ev 3))))) fun r10 J10 e10 => ?_
  refine ex_seal (rest := (defBody s__law_spoilt).drop 9) (bcons (sif (tcmp op_eq (ev 2) ei (nomark _)) (bcons (sset (i := 5) sc__law_spoilt.nd rfl (Or.inl rfl) (eop op_add_str (eslice sl_str (ev 1) (osome (eop op_add (ev 3) ei)) (osome (eop op_add (ev 3) ei))) (eslice sl_str (ev 1) (osome (ev 3)) (osome (eop op_add (ev 3) ei)))))
      (bone (sret (eop op_add_str (eop op_add_str (eslice sl_str (ev 1) onone (osome (ev 3))) (ev 5)) (eslice sl_str (ev 1) (osome (eop op_add (ev 3) ei)) onone))))) bnil)
      J10) fun r9 J9 e9 => ?_
  refine ex_seal (rest := (defBody s__law_spoilt).drop 8) (bcons (sif (tcmp op_eq (ev 2) ei (nomark _)) (bone (sret (eop op_add_str (eslice sl_str (ev 1) onone (osome (ev 3))) (eslice sl_str (ev 1) (osome (eop op_add (ev 3) ei)) onone)))) bnil)
      J9) fun r8 J8 e8 => ?_
  refine ex_seal (rest := (defBody s__law_spoilt).drop 7) (bcons (sif (tcmp op_eq (ev 2) ei (nomark _)) (bone (sret (eop op_add_str (eop op_add_str (eslice sl_str (ev 1) onone (osome (ev 3))) (ev 4)) (eslice sl_str (ev 1) (osome (ev 3)) onone)))) bnil)
      J8) fun r7 J7 e7 => ?_
  refine ex_seal (rest := (defBody s__law_spoilt).drop 6) (bcons (sif (tcmp op_eq (ev 2) ei (nomark _)) (bone (sret (eop op_add_str (eop op_add_str (eslice sl_str (ev 1) onone (osome (ev 3))) (ev 4)) (eslice sl_str (ev 1) (osome (eop op_add (ev 3) ei)) onone)))) bnil)
      J7) fun r6 J6 e6 => ?_
  refine ex_seal (rest := (defBody s__law_spoilt).drop 4) (bcons (sset (i := 3) sc__law_spoilt.nd rfl (Or.inl rfl) (ecall C__law_digit (hr.mono (by decide)) rfl (acons (ev 0) (acons (eop op_add (ecallB call_len_str rfl B.len bt_len (acons (ev 1) anil)) ei) anil))))
      (bcons (sset (i := 4) sc__law_spoilt.nd rfl (Or.inl rfl) (ecall C__law_sign (hr.mono (by decide)) rfl (acons (ev 0) anil)))
      J6)) fun r4 J4 e4 => ?_
  refine ⟨_, (bcons (sset (i := 2) sc__law_spoilt.nd rfl (Or.inl rfl) (ecall C__law_digit (hr.mono (by decide)) rfl (acons (ev 0) (acons ei anil))))
      (bcons (sif (tcmp op_eq (ev 2) ei (nomark _)) (bone (sret (ev 1))) bnil)
      (bcons (sif (tcmp op_gt (ev 2) ei (nomark _)) (bone (sret (ecall C__law_figures (hr.mono (by decide)) rfl (acons (ev 0) (acons (ev 1) anil))))) bnil)
      (bcons (sif (tcmp op_gt (ev 2) ei (nomark _)) (bone (sret (ecall C__law_parts_turned (hr.mono (by decide)) rfl (acons (ev 0) (acons (ev 1) (acons (ev 2) anil)))))) bnil)
      J4)))), ?_⟩
  try walk_at "rn"
  refine ⟨p, 11, rfl, hp, by decide, by decide, fun m H1 m0 m1 hp1 k1 => ⟨rfl, ite2 (fun c => q t _ (.inl (.inl rfl)) (by omega) hp1 k1) (fun c => ⟨m, rfl, ?_⟩)⟩⟩
  refine ite2 (fun c => ?_) (fun c => ⟨m, rfl, ?_⟩)
  · exact ⟨p, t, rfl, hp1, ht, fun t' H' o l hp' k' => q t' _ o l hp' (k1.trans k')⟩
  refine ite2 (fun c => ?_) (fun c => ?_)
  · exact ⟨p, t, m, rfl, hp1, ht, fun t' H' o l hp' k' => q t' _ o l hp' (k1.trans k')⟩
  rw [e4]
  try walk_at "rn"
  refine ⟨by omega, p, _, rfl, hp1, by omega, by omega, fun i H2 i0 i1 hp2 k2 => ⟨p, rfl, hp2, fun c H3 hp3 k3 => ?_⟩⟩
  obtain ⟨k, rfl⟩ : ∃ k : Nat, i = k := ⟨i.toNat, by omega⟩
  have kA := k1.trans (k2.trans k3)
  rw [e6]
  try walk_at "rn"
  have l0 := Txt.slice_le t none (some (k : Int))
  have l1 := Txt.slice_le t (some (k : Int)) none
  have l2 := Txt.slice_le t (some ((k : Int) + 1)) none
  have l3 := Txt.slice_le t (some ((k : Int) + 2)) none
  have l4 := Txt.slice_le t (some (k : Int)) (some ((k : Int) + 1))
  have l5 := Txt.slice_le t (some ((k : Int) + 1)) (some ((k : Int) + 2))
  have lc : (⟨#[c]⟩ : Str).length = 1 := rfl
  have f1 := sl_from t (k + 1)
  have f2 := sl_from t (k + 2)
  have f4 := sl_one t k
  have f5 := sl_one t (k + 1)
  rw [show ((k + 1 : Nat) : Int) = (k : Int) + 1 from by omega] at f1 f4 f5
  rw [show ((k + 2 : Nat) : Int) = (k : Int) + 2 from by omega] at f2
  rw [show ((k + 1 + 1 : Nat) : Int) = (k : Int) + 2 from by omega] at f5
  have f0 := sl_to t k
  have f3 := sl_from t k
  refine ite2 (fun w => ?_) (fun w1 => ?_)
  · refine ⟨by omega, by omega, by omega, by rw [Str.length_append]; omega, q _ _ (.inl (.inr (.inl ⟨k, c, ?_⟩))) (by rw [Str.length_append, Str.length_append]; omega) hp3 kA⟩
    rw [app_cps, app_cps, f0, f1, List.append_assoc]
    rfl
  rw [e7]
  try walk_at "rn"
  refine ite2 (fun w => ?_) (fun w2 => ?_)
  · refine ⟨by omega, by omega, by omega, by rw [Str.length_append]; omega, q _ _ (.inl (.inr (.inr (.inl ⟨k, c, ?_⟩)))) (by rw [Str.length_append, Str.length_append]; omega) hp3 kA⟩
    rw [app_cps, app_cps, f0, f3, List.append_assoc]
    rfl
  rw [e8]
  try walk_at "rn"
  refine ite2 (fun w => ?_) (fun w3 => ?_)
  · refine ⟨by omega, by omega, by omega, q _ _ (.inl (.inr (.inr (.inr (.inl ⟨k, ?_⟩))))) (by rw [Str.length_append]; omega) hp3 kA⟩
    rw [app_cps, f0, f1]
  rw [e9]
  try walk_at "rn"
  refine ite2 (fun w => ?_) (fun w4 => ?_)
  · refine ⟨by omega, by omega, by omega, by omega, by rw [Str.length_append]; omega, by omega, by rw [Str.length_append, Str.length_append]; omega, q _ _ (.inl (.inr (.inr (.inr (.inr (.inl ⟨k, ?_⟩)))))) (by rw [Str.length_append, Str.length_append, Str.length_append]; omega) hp3 kA⟩
    rw [app_cps, app_cps, app_cps, f0, f2, f4, f5, List.append_assoc, List.append_assoc]
  rw [e10]
  try walk_at "rn"
  exact ⟨by omega, q _ _ (.inr (.inl ⟨k, f0⟩)) (by omega) hp3 kA⟩
end
theorem pair2_mem2 {x y : Nat} : ∀ {l : List Nat}, pair2 x y l = true → y ∈ l
  | [], h => by cases h
  | [_], h => by cases h
  | a :: b :: r, h => by
    unfold pair2 at h
    rcases Bool.or_eq_true_iff.mp h with h | h
    · rw [Bool.and_eq_true, beq_iff_eq, beq_iff_eq] at h
      rw [h.2]
      exact List.mem_cons_of_mem _ List.mem_cons_self
    · exact List.mem_cons_of_mem _ (pair2_mem2 h)
structure Fine (q : List Nat) : Prop where
  a : 97 ∉ q
  i : 105 ∉ q
  n : 110 ∉ q
  r : 114 ∉ q
  h : q.head? ≠ some 108
  l : ∀ g ∈ signs6, pair2 g 108 q = false
theorem fine_join {c : Nat} (hc : c ∈ signs6) {qs : List (List Nat)} (h : ∀ q ∈ qs, Fine q) (hf : ∀ q ∈ qs, c ∉ q) : Fine (joinL c qs) := by
  have ns := no_sign hc
  refine ⟨fun m => ?_, fun m => ?_, fun m => ?_, fun m => ?_, fun e => ?_, fun g hg => ?_⟩
  · rcases joinL_mem m with e | ⟨q, hq, m⟩
    · omega
    · exact (h q hq).a m
  · rcases joinL_mem m with e | ⟨q, hq, m⟩
    · omega
    · exact (h q hq).i m
  · rcases joinL_mem m with e | ⟨q, hq, m⟩
    · omega
    · exact (h q hq).n m
  · rcases joinL_mem m with e | ⟨q, hq, m⟩
    · omega
    · exact (h q hq).r m
  · obtain ⟨q, hq, m⟩ := joinL_first (by omega) e
    exact (h q hq).h m
  · cases z : pair2 g 108 (joinL c qs) with
    | false => rfl
    | true =>
      by_cases e : c = g
      · subst e
        obtain ⟨q, hq, m⟩ := joinL_sign (by omega) hf z
        exact absurd m (h q hq).h
      · obtain ⟨q, hq, m⟩ := joinL_pair e (by omega) z
        rw [(h q hq).l g hg] at m
        cases m
theorem fine_low {q : List Nat} (h : ∀ x ∈ q, x < 97) : Fine q := by
  refine ⟨fun m => ?_, fun m => ?_, fun m => ?_, fun m => ?_, fun e => ?_, fun g hg => ?_⟩
  · have := h _ m; omega
  · have := h _ m; omega
  · have := h _ m; omega
  · have := h _ m; omega
  · have := h _ (List.mem_of_head? e); omega
  · cases z : pair2 g 108 q with
    | false => rfl
    | true => have := h _ (pair2_mem2 z); omega
theorem num_signs {i : Int} (h0 : 0 ≤ i) (h : i.natAbs < 10 ^ 60) : ∀ x ∈ (numT i).cps.toList, 48 ≤ x ∧ x ≤ 57 := by
  obtain ⟨_, h2, _⟩ := nat_signs i.natAbs h
  rw [num_cps, if_neg (by omega)]
  intro x hx
  have := List.all_eq_true.mp h2 x hx
  unfold isFig at this
  simpa using this
theorem joinL_count {c : Nat} : ∀ {qs : List (List Nat)}, qs ≠ [] → (∀ q ∈ qs, c ∉ q) → (joinL c qs).count c + 1 = qs.length
  | [], h, _ => absurd rfl h
  | [p], _, h => by
    have := List.count_eq_zero.mpr (h p (by simp))
    show p.count c + 1 = 1
    omega
  | p :: q :: r, _, h => by
    have ih := joinL_count (qs := q :: r) (by simp) (fun z hz => h z (List.mem_cons_of_mem _ hz))
    have := List.count_eq_zero.mpr (h p (by simp))
    show (p ++ c :: joinL c (q :: r)).count c + 1 = _
    rw [List.count_append, List.count_cons, List.length_cons]
    simp only [beq_self_eq_true, if_true]
    omega
theorem rule_fine {a b c : Int} {pl : Str} (r : (1 ≤ a ∧ a ≤ 64) ∧ (3 ≤ b ∧ b ≤ 16) ∧ (1 ≤ c ∧ c ≤ 64)) (p : pl = Str.ofString "fullest" ∨ pl = Str.ofString "eldest") : Fine (ruleT a b c pl).cps.toList ∧ 32 ∉ (ruleT a b c pl).cps.toList := by
  have ea := num_signs (i := a) (by omega) (by omega)
  have eb := num_signs (i := b) (by omega) (by omega)
  have ec := num_signs (i := c) (by omega) (by omega)
  have e : (ruleT a b c pl).cps.toList = joinL 44 [(numT a).cps.toList, (numT b).cps.toList, (numT c).cps.toList, pl.cps.toList] := by
    unfold ruleT
    rw [comma_is, join_joinL]
    rfl
  have hp : Fine pl.cps.toList ∧ 44 ∉ pl.cps.toList ∧ 32 ∉ pl.cps.toList := by
    rcases p with rfl | rfl
    · rw [show (Str.ofString "fullest").cps.toList = [102, 117, 108, 108, 101, 115, 116] from by decide +kernel]
      exact ⟨⟨by decide, by decide, by decide, by decide, by decide, by decide⟩, by decide, by decide⟩
    · rw [show (Str.ofString "eldest").cps.toList = [101, 108, 100, 101, 115, 116] from by decide +kernel]
      exact ⟨⟨by decide, by decide, by decide, by decide, by decide, by decide⟩, by decide, by decide⟩
  rw [e]
  have mem : ∀ q ∈ [(numT a).cps.toList, (numT b).cps.toList, (numT c).cps.toList, pl.cps.toList], Fine q ∧ 44 ∉ q ∧ 32 ∉ q := by
    have dig : ∀ q : List Nat, (∀ x ∈ q, 48 ≤ x ∧ x ≤ 57) → Fine q ∧ 44 ∉ q ∧ 32 ∉ q := fun q h => ⟨fine_low fun x m => by have := h x m; omega, fun m => by have := h _ m; omega, fun m => by have := h _ m; omega⟩
    intro q hq
    simp only [List.mem_cons, List.not_mem_nil, or_false] at hq
    rcases hq with rfl | rfl | rfl | rfl
    · exact dig _ ea
    · exact dig _ eb
    · exact dig _ ec
    · exact hp
  refine ⟨fine_join (by decide) (fun q hq => (mem q hq).1) (fun q hq => (mem q hq).2.1), fun m => ?_⟩
  rcases joinL_mem m with z | ⟨q, hq, m⟩
  · omega
  · exact (mem q hq).2.2 m
theorem nums_low {ms : List Int} (h : small60 ms) (h0 : ∀ n ∈ ms, 1 ≤ n) : ∀ x ∈ (numsT ms).cps.toList, 44 ≤ x ∧ x ≤ 57 := by
  unfold numsT listT
  split
  · intro x hx
    rw [show (Str.ofString "-").cps.toList = [45] from by decide +kernel, List.mem_singleton] at hx
    omega
  · rw [comma_is, join_joinL]
    intro x hx
    rcases joinL_mem hx with rfl | ⟨q, hq, m⟩
    · omega
    · obtain ⟨s, hs, rfl⟩ := List.mem_map.mp hq
      obtain ⟨i, hi, rfl⟩ := List.mem_map.mp hs
      have := num_signs (by have := h0 i hi; omega) (h i hi) x m
      omega
theorem head_shape {n1 n2 n3 n4 a b c : Int} {pl : Str} {ms : List Int} (ok : HeadOk n1 n2 n3 n4 a b c pl ms) : ∃ r, (headT n1 n2 n3 n4 a b c pl ms).cps.toList = headL r ∧ HeadR r := by
  obtain ⟨sn, p1, p2, p3, p4⟩ := ok.n
  obtain ⟨_, sm, sa, _⟩ := ok.m
  obtain ⟨fr, br⟩ := rule_fine ok.r ok.p
  have low := nums_low sm (fun n hn => by simpa using List.all_eq_true.mp sa n hn)
  have g1 := num_signs p1 (sn n1 (by simp))
  have g2 := num_signs p2 (sn n2 (by simp))
  have g3 := num_signs p3 (sn n3 (by simp))
  have g4 := num_signs p4 (sn n4 (by simp))
  have e : (headT n1 n2 n3 n4 a b c pl ms).cps.toList = headL (joinL 32 [(numT n1).cps.toList, (numT n2).cps.toList, (numT n3).cps.toList, (numT n4).cps.toList, (ruleT a b c pl).cps.toList, (numsT ms).cps.toList]) := by
    unfold headT
    rw [blank_is, join_joinL, List.map_cons, show (Str.ofString "head").cps.toList = [104, 101, 97, 100] from by decide +kernel]
    rfl
  have mem : ∀ q ∈ [] :: [(numT n1).cps.toList, (numT n2).cps.toList, (numT n3).cps.toList, (numT n4).cps.toList, (ruleT a b c pl).cps.toList, (numsT ms).cps.toList], Fine q ∧ 32 ∉ q := by
    have dig : ∀ q : List Nat, (∀ x ∈ q, 44 ≤ x ∧ x ≤ 57) → Fine q ∧ 32 ∉ q := fun q h => ⟨fine_low fun x m => by have := h x m; omega, fun m => by have := h _ m; omega⟩
    intro q hq
    simp only [List.mem_cons, List.not_mem_nil, or_false] at hq
    rcases hq with rfl | rfl | rfl | rfl | rfl | rfl | rfl
    · exact dig _ (fun x m => by cases m)
    · exact dig _ (fun x m => by have := g1 x m; omega)
    · exact dig _ (fun x m => by have := g2 x m; omega)
    · exact dig _ (fun x m => by have := g3 x m; omega)
    · exact dig _ (fun x m => by have := g4 x m; omega)
    · exact ⟨fr, br⟩
    · exact dig _ low
  have f1 := fine_join (c := 32) (by decide) (fun q hq => (mem q (List.mem_cons_of_mem _ hq)).1) (fun q hq => (mem q (List.mem_cons_of_mem _ hq)).2)
  have f2 := fine_join (c := 32) (by decide) (fun q hq => (mem q hq).1) (fun q hq => (mem q hq).2)
  have ct := joinL_count (c := 32) (qs := [(numT n1).cps.toList, (numT n2).cps.toList, (numT n3).cps.toList, (numT n4).cps.toList, (ruleT a b c pl).cps.toList, (numsT ms).cps.toList]) (by simp) (fun q hq => (mem q (List.mem_cons_of_mem _ hq)).2)
  refine ⟨_, e, f1.a, f1.i, f1.n, f1.r, fun g hg => f2.l g hg, ?_⟩
  simp only [List.length_cons, List.length_nil] at ct
  omega
theorem op_same {t : Str} : Op t t := .inl (.inl rfl)
theorem no_room {n1 n2 n3 n4 a b c : Int} {pl : Str} {ms : List Int} (ok : HeadOk n1 n2 n3 n4 a b c pl ms) {t u : Str} (o1 : Op (headT n1 n2 n3 n4 a b c pl ms) t) (o2 : Op t u) : NoRoom u := by
  obtain ⟨r, er, hr⟩ := head_shape ok
  unfold Op at o1
  rw [er] at o1
  have back : ∀ ws : List Str, Txt.split u (Str.ofString " ") = ws → u.cps.toList = joinL 32 (ws.map fun p => p.cps.toList) ∧ ∀ q ∈ ws.map (fun p => p.cps.toList), 32 ∉ q := by
    intro ws e
    rw [blank_is] at e
    refine ⟨?_, ?_⟩
    · rw [← join_joinL, ← e, StrLaws.join_split]
    · intro q hq
      obtain ⟨s, hs, rfl⟩ := List.mem_map.mp hq
      rw [← e] at hs
      exact StrLaws.split_free _ _ s hs
  refine ⟨?_, ?_⟩
  · rintro ⟨x, y, e⟩
    obtain ⟨e1, f1⟩ := back _ e
    have ct := joinL_count (by simp) f1
    rw [← e1] at ct
    refine no_leaf hr o1 o2 ?_ (by simpa using ct)
    rw [e1, List.map_cons, show (Str.ofString "leaf").cps.toList = [108, 101, 97, 102] from by decide +kernel]
    exact ⟨_, rfl⟩
  · rintro ⟨x, y, z, v, e⟩
    obtain ⟨e1, _⟩ := back _ e
    rw [List.map_cons, show (Str.ofString "inner").cps.toList = [105, 110, 110, 101, 114] from by decide +kernel] at e1
    exact no_inner hr o1 o2 (by rw [e1]; exact joinL_of (by simp) (q := [105, 110, 110, 101, 114]) (by decide)) (by rw [e1]; exact joinL_of (by simp) (q := [105, 110, 110, 101, 114]) (by decide)) (by rw [e1]; exact joinL_of (by simp) (q := [105, 110, 110, 101, 114]) (by decide))
theorem fig_back {p : Str} {i : Int} (h : readFig p = some i) : p = numT i ∧ i.natAbs < 10 ^ 60 := by
  unfold readFig at h
  split at h
  · rename_i f
    rw [← Option.some.inj h]
    exact ⟨(fig_str f).symm, fig_small f⟩
  · cases h
theorem figs_back : ∀ {ps : List Str} {ns : List Int}, ps.map readFig = ns.map some → ps = ns.map numT ∧ small60 ns
  | [], [], _ => ⟨rfl, fun _ m => by cases m⟩
  | [], _ :: _, h => by cases h
  | _ :: _, [], h => by cases h
  | p :: ps, n :: ns, h => by
    obtain ⟨h1, h2⟩ := List.cons.inj h
    obtain ⟨e1, s1⟩ := fig_back h1
    obtain ⟨e2, s2⟩ := figs_back h2
    refine ⟨by rw [e1, e2]; rfl, fun i m => ?_⟩
    rcases List.mem_cons.mp m with rfl | m
    · exact s1
    · exact s2 i m
theorem nums_back {t : Str} {ns : List Int} (h : NumsIs t ns) : numsT ns = t ∧ small60 ns ∧ ns.length ≤ t.length + 1 := by
  rcases h with ⟨rfl, rfl⟩ | ⟨_, h⟩
  · exact ⟨rfl, fun _ m => by (cases m), by simp⟩
  · obtain ⟨e, s⟩ := figs_back h
    rw [comma_is] at e
    have ne := split_ne t 44
    obtain ⟨l, _⟩ := split_lenC t 44
    rw [e] at ne l
    refine ⟨?_, s, by rw [List.length_map] at l; exact l⟩
    unfold numsT listT
    rw [if_neg ne, comma_is, ← e, StrLaws.join_split]
theorem head_back {t : Str} {n1 n2 n3 n4 a b c : Int} {pl : Str} {ms : List Int} (h : HeadIs t n1 n2 n3 n4 a b c pl ms) : headT n1 n2 n3 n4 a b c pl ms = t ∧ small60 [n1, n2, n3, n4] ∧ small60 [a, b, c] ∧ pl.length ≤ 101 ∧ small60 ms ∧ ms.length ≤ t.length + 1 := by
  obtain ⟨p1, p2, p3, p4, pr, pm, e, f, _, ⟨x, y, z, es, rx, ry, rz, _, _, _, ip⟩, nm, _, _⟩ := h.ex
  obtain ⟨ep, s4⟩ := figs_back (ps := [p1, p2, p3, p4]) (ns := [n1, n2, n3, n4]) f
  obtain ⟨ex, sx⟩ := fig_back rx
  obtain ⟨ey, sy⟩ := fig_back ry
  obtain ⟨ez, sz⟩ := fig_back rz
  obtain ⟨em, sm, lm⟩ := nums_back nm
  simp only [List.map_cons, List.map_nil, List.cons.injEq, and_true] at ep
  obtain ⟨rfl, rfl, rfl, rfl⟩ := ep
  rw [blank_is] at e
  rw [comma_is] at es
  have er : ruleT a b c pl = pr := by
    unfold ruleT
    rw [comma_is, ← ex, ← ey, ← ez, ← es, StrLaws.join_split]
  have lt := (split_lenC t 32).2 pm (by rw [e]; simp)
  refine ⟨?_, s4, ?_, ?_, sm, by omega⟩
  · unfold headT
    rw [er, em, blank_is, ← e, StrLaws.join_split]
  · intro i hi
    simp only [List.mem_cons, List.not_mem_nil, or_false] at hi
    rcases hi with rfl | rfl | rfl
    · exact sx
    · exact sy
    · exact sz
  · unfold isPl at ip
    rw [Bool.or_eq_true, decide_eq_true_eq, decide_eq_true_eq] at ip
    rcases ip with rfl | rfl <;> decide +kernel
theorem head_alk {K : PySem.W.Frag} {H : Hp} {T R M T' R' M' : Addr} {n1 n2 n3 n4 a b c : Int} {pl : Str} {ms : List Int} (h : HeadAt K H T R M n1 n2 n3 n4 a b c pl ms) (g : HeadAt K H T' R' M' n1 n2 n3 n4 a b c pl ms) (hl : ms.length ≤ 1000000) : Alk K H 3 (.ref T) (.ref T') := by
  obtain ⟨h1, h2, h3⟩ := h
  obtain ⟨g1, g2, g3⟩ := g
  refine .inr (.inr ⟨T, T', _, _, rfl, rfl, h1, g1, rfl, by simp, fun i x y e f => ?_⟩)
  rcases i with _ | _ | _ | _ | _ | _ | i
  · cases e; cases f; exact .int
  · cases e; cases f; exact .int
  · cases e; cases f; exact .int
  · cases e; cases f; exact .int
  · cases e; cases f
    refine .inr (.inr ⟨R, R', _, _, rfl, rfl, h2, g2, rfl, by simp, fun i x y e f => ?_⟩)
    rcases i with _ | _ | _ | _ | i
    · cases e; cases f; exact .int
    · cases e; cases f; exact .int
    · cases e; cases f; exact .int
    · cases e; cases f; exact .str
    · cases e
  · cases e; cases f
    refine .inr (.inl ⟨M, M', _, _, rfl, rfl, h3, g3, rfl, by rw [List.length_map]; exact hl, fun i x y e f => ?_⟩)
    have xy : x = y := by rw [e] at f; exact Option.some.inj f
    subst xy
    obtain ⟨n, _, rfl⟩ := List.mem_map.mp (List.mem_of_getElem? e)
    exact .int
  · cases e
section
variable {P : Program} {w : World} {K : PySem.W.Frag} {mg : Str → Option Value} {base : Heap}
def spRef (K : PySem.W.Frag) : Sp := fun vs H Q _ => ∃ x t : Str, vs = [.str x, .str t] ∧ t.length < 1000000 ∧ ((x = Str.ofString "head" ∧ NoHead t) ∨ (x = Str.ofString "room" ∧ NoRoom t)) ∧ ∀ H', Ext K H H' → Q (.bl true) H'
theorem sc__law_refused : FnScope ["_law_word", "_law_text", "e"] ["_law_word", "_law_text"] (defScope s__law_refused) := ⟨rfl, rfl, rfl, by decide +kernel, rfl, by decide +kernel, by decide +kernel⟩
theorem ok__law_refused {f : Addr} {fd : FuncData} (F : Fun K "_law_refused" "_law_refused" s__law_refused f fd) {aP cF cR cN : Addr} {t1 t2 t3 t4 tF : Tok} (B : B K mg aP cF cR cN t1 t2 t3 t4 tF) (C_read_head : CalleeX P w K mg base "read_head" 5 ["text"] (spRH K cN)) (C_read_room : CalleeX P w K mg base "read_room" 9 ["text"] (spRRm K cN)) : FnOk P w K mg base CX0 10 f fd ["_law_word", "_law_text"] (spRef K) := by
  refine F.okJ sc__law_refused (fun vs H Q E h => ?_) (fun cdv A outer s H vs Q E hr h => ?_)
  · obtain ⟨x, t, rfl, _⟩ := h
    rfl
  obtain ⟨x, t, rfl, ht, hx, q⟩ := h
  refine ⟨_, (bcons (stry (i := 2) sc__law_refused.nd rfl rfl rfl B.FallError ⟨rfl, rfl⟩ rfl (fun E1 xe pn hp => (bone (sif (tcmp op_eq (ev 0) estr (nomark _)) (bone (sexpr (ecallX C_read_head hp (hr.mono (by decide)) rfl (acons (ev 1) anil)))) (bone (sexpr (ecallX C_read_room hp (hr.mono (by decide)) rfl (acons (ev 1) anil)))))))
        (fun a xe pn => (bone (sret (eand (ecallB (call_isexcK K) rfl B.isinstance bt_isinstance (acons (ev 2) (acons (eglob rfl B.NoPage B.NoPage_is) anil))) (eand (ecallB (call_isexcT K) rfl B.isinstance bt_isinstance (acons (ev 2) (acons (etyp rfl B.ValueError bt_ValueError) anil))) (eone (enot (ecallB (call_isexcK K) rfl B.isinstance bt_isinstance (acons (ev 2) (acons (eglob rfl B.NoRule B.NoRule_is) anil)))))))))))
      (bone (sret ebl))), ?_⟩
  try walk_at "rn"
  have fin : ∀ H', Ext K H H' → ∃ C, Value.ref cN = Value.ref C ∧ ExcI K C ∧ PySem.W.exmOne K (.ref C) (.ref cF) = some true ∧ ∀ a, new K H' a → ∃ x, HO.ext (XAt a C) = HO.ext (XAt a x) ∧ ExcI K x ∧ ∃ x_1, PySem.W.kitOne K (.ref x) (.ref cN) = some x_1 ∧ if x_1 = true then ∃ x, HO.ext (XAt a C) = HO.ext (XAt a x) ∧ ExcI K x ∧ ∃ x_2, PySem.W.kitOne K (.ref x) (.type "ValueError") = some x_2 ∧ if x_2 = true then ∃ x, HO.ext (XAt a C) = HO.ext (XAt a x) ∧ ExcI K x ∧ ∃ x_3, PySem.W.kitOne K (.ref x) (.ref cR) = some x_3 ∧ Q (V.bl !x_3) (upd H' a (HO.ext (XAt a C))) else Q (V.bl false) (upd H' a (HO.ext (XAt a C))) else Q (V.bl false) (upd H' a (HO.ext (XAt a C))) :=
    fun H' xx => ⟨cN, rfl, B.xN.i, B.xN.m, fun a na => ⟨cN, rfl, B.xN.i, _, B.xN.k0, iteT' rfl ⟨cN, rfl, B.xN.i, _, B.xN.k1, iteT' rfl ⟨cN, rfl, B.xN.i, _, B.xN.k2, q _ (xx.trans (.new na))⟩⟩⟩⟩
  rcases hx with ⟨rfl, hx⟩ | ⟨rfl, hx⟩
  · exact iteT' rfl ⟨t, rfl, ht, fun _ H' xx => fin H' xx, fun n1 n2 n3 n4 a b c pl ms hi => absurd hi (hx n1 n2 n3 n4 a b c pl ms)⟩
  · exact iteF' (by decide +kernel) ⟨t, rfl, by omega, hx, fun H' xx => fin H' xx⟩
theorem head_one {t : Str} {n1 n2 n3 n4 a b c m1 m2 m3 m4 d e f : Int} {pl pm : Str} {ms ns : List Int} (h : HeadIs t n1 n2 n3 n4 a b c pl ms) (g : HeadIs t m1 m2 m3 m4 d e f pm ns) : n1 = m1 ∧ n2 = m2 ∧ n3 = m3 ∧ n4 = m4 ∧ a = d ∧ b = e ∧ c = f ∧ pl = pm ∧ ms = ns := by
  obtain ⟨p1, p2, p3, p4, pr, pq, e1, f1, _, ⟨x, y, z, es, rx, ry, rz, _, _, _, ip⟩, nm, _, _⟩ := h.ex
  obtain ⟨p1', p2', p3', p4', pr', pq', e1', f1', _, ⟨x', y', z', es', rx', ry', rz', _, _, _, ip'⟩, nm', _, _⟩ := g.ex
  have ee := e1.symm.trans e1'
  simp only [List.cons.injEq, and_true, true_and] at ee
  obtain ⟨rfl, rfl, rfl, rfl, rfl, rfl⟩ := ee
  have ef := f1.symm.trans f1'
  simp only [List.cons.injEq, Option.some.injEq, and_true] at ef
  have ex := es.symm.trans es'
  simp only [List.cons.injEq, and_true] at ex
  obtain ⟨rfl, rfl, rfl, rfl⟩ := ex
  exact ⟨ef.1, ef.2.1, ef.2.2.1, ef.2.2.2, Option.some.inj (rx.symm.trans rx'), Option.some.inj (ry.symm.trans ry'), Option.some.inj (rz.symm.trans rz'), rfl, nm.one nm'⟩
theorem HeadAt.ext {H H' : Hp} {T R M : Addr} {n1 n2 n3 n4 a b c : Int} {pl : Str} {ms : List Int} (h : HeadAt K H T R M n1 n2 n3 n4 a b c pl ms) (x : Ext K H H') : HeadAt K H' T R M n1 n2 n3 n4 a b c pl ms := ⟨x.tup h.1, x.tup h.2.1, x.at h.2.2⟩
def spRHq (K : PySem.W.Frag) : Sp := fun vs H Q _ => ∃ (t : Str) (n1 n2 n3 n4 a b c : Int) (pl : Str) (ms : List Int), vs = [.str t] ∧ t.length < 1000000 ∧ HeadIs t n1 n2 n3 n4 a b c pl ms ∧ ∀ T R M H', new K H M → Ext K H H' → HeadAt K H' T R M n1 n2 n3 n4 a b c pl ms → Q (.ref T) H'
theorem headQ {cN : Addr} : ∀ vs H Q E, spRHq K vs H Q E → spRH K cN vs H Q fun _ _ _ => False := by
  rintro vs H Q E ⟨t, n1, n2, n3, n4, a, b, c, pl, ms, rfl, ht, hi, q⟩
  refine ⟨t, rfl, ht, fun no => absurd hi (no n1 n2 n3 n4 a b c pl ms), fun m1 m2 m3 m4 d e f pm ns hj => ?_⟩
  obtain ⟨rfl, rfl, rfl, rfl, rfl, rfl, rfl, rfl, rfl⟩ := head_one hi hj
  exact q
def spHolds (K : PySem.W.Frag) : Sp := fun vs H Q _ => ∃ p m, vs = [.ref p, .int m] ∧ Wl H p ∧ 0 < m ∧ m ≤ 41 ∧ ∀ H', Kp K p H H' → Q (.bl true) H'
theorem sc__law_holds : FnScope ["_law_state", "_law_most", "_law_twice", "_law_head_here", "_law_text", "_law_marks_here", "_law_due", "_law_found"] ["_law_state", "_law_most"] (defScope s__law_holds) := ⟨rfl, rfl, rfl, by decide +kernel, rfl, by decide +kernel, by decide +kernel⟩
theorem ok__law_holds {f : Addr} {fd : FuncData} (F : Fun K "_law_holds" "_law_holds" s__law_holds f fd) {aP cF cR cN : Addr} {t1 t2 t3 t4 tF : Tok} (B : B K mg aP cF cR cN t1 t2 t3 t4 tF) (C__law_digit : Callee P w K mg base "_law_digit" 1 ["_law_state", "_law_base"] (spDigit K)) (C__law_head : Callee P w K mg base "_law_head" 3 ["_law_state", "_law_most"] (spHead K)) (C__law_head_text : Callee P w K mg base "_law_head_text" 1 ["_law_head_here"] (spHTL K)) (C_head_text : Callee P w K mg base "head_text" 3 ["head"] (spHT K)) (C__law_spoilt : Callee P w K mg base "_law_spoilt" 3 ["_law_state", "_law_text"] (spFigs K)) (C__law_read : Callee P w K mg base "_law_read" 4 ["_law_text"] (spRd K)) (C__law_refused : Callee P w K mg base "_law_refused" 10 ["_law_word", "_law_text"] (spRef K)) (Q_read_head : Callee P w K mg base "read_head" 5 ["text"] (spRHq K)) (C__law_alike : Callee P w K mg base "_law_alike" 3 ["_law_found", "_law_due"] (spAlk K 3)) : FnOk P w K mg base CX0 11 f fd ["_law_state", "_law_most"] (spHolds K) := by
  refine F.okJ sc__law_holds (fun vs H Q E h => ?_) (fun cdv A outer s H vs Q E hr h => ?_)
  · obtain ⟨p, m, rfl, _⟩ := h
    rfl
  obtain ⟨p, m, rfl, hp, m0, m1, q⟩ := h
  refine ex_seal (rest := (defBody s__law_holds).drop 13) (bone (sret (eand (ecall C__law_alike (hr.mono (by decide)) rfl (acons (ecall Q_read_head (hr.mono (by decide)) rfl (acons (ev 4) anil)) (acons (ev 6) anil))) (eone (ecmp op_eq (ecall C_head_text (hr.mono (by decide)) rfl (acons (ev 6) anil)) (ev 4) (nomark _)))))) fun r13 J13 e13 => ?_
  refine ex_seal (rest := (defBody s__law_holds).drop 12) (bcons (sexpr (ebm PySem.F.plainAttrs_list PySem.F.slot_list_append PySem.F.type_list_append mt_append (eix ix_Q (ev 7) ei (fun _ _ => rfl)) (acons ei anil)))
      J13) fun r12 J12 e12 => ?_
  refine ex_seal (rest := (defBody s__law_holds).drop 11) (bcons (sif (tnot (tval (ecall C__law_alike (hr.mono (by decide)) rfl (acons (ev 7) (acons (ev 6) anil))))) (bone (sret ebl)) bnil)
      J12) fun r11 J11 e11 => ?_
  refine ex_seal (rest := (defBody s__law_holds).drop 10) (bcons (sset (i := 7) sc__law_holds.nd rfl (Or.inl rfl) (ecall Q_read_head (hr.mono (by decide)) rfl (acons (ev 4) anil)))
      J11) fun r10 J10 e10 => ?_
  refine ex_seal (rest := (defBody s__law_holds).drop 9) (bcons (sif (tcmp op_isN (ev 6) enon (nomark _)) (bone (sret (ecall C__law_refused (hr.mono (by decide)) rfl (acons estr (acons (ev 4) anil))))) bnil)
      J10) fun r9 J9 e9 => ?_
  refine ex_seal (rest := (defBody s__law_holds).drop 8) (bcons (sif (tnot (tval (ecall C__law_refused (hr.mono (by decide)) rfl (acons estr (acons (ev 4) anil))))) (bone (sret ebl)) bnil)
      J9) fun r8 J8 e8 => ?_
  refine ex_seal (rest := (defBody s__law_holds).drop 7) (bcons (sset (i := 6) sc__law_holds.nd rfl (Or.inl rfl) (ecall C__law_read (hr.mono (by decide)) rfl (acons (ev 4) anil)))
      J8) fun r7 J7 e7 => ?_
  refine ex_seal (rest := (defBody s__law_holds).drop 6) (bcut (sif (tval (ev 2)) (bone (sset (i := 4) sc__law_holds.nd rfl (Or.inl rfl) (ecall C__law_spoilt (hr.mono (by decide)) rfl (acons (ev 0) (acons (ev 4) anil))))) bnil)
      J7) fun r6 J6 e6 => ?_
  refine ex_seal (rest := (defBody s__law_holds).drop 5) (bcons (sset (i := 4) sc__law_holds.nd rfl (Or.inl rfl) (ecall C__law_spoilt (hr.mono (by decide)) rfl (acons (ev 0) (acons (ev 4) anil))))
      J6) fun r5 J5 e5 => ?_
  refine ex_seal (rest := (defBody s__law_holds).drop 4) (bcons (sif (tw (wor (tcmp op_ne (ecall C_head_text (hr.mono (by decide)) rfl (acons (eop op_catTX (eslice sl_tupX (ev 3) onone (osome ei)) (etupQ (acons (ev 5) anil))) anil)) (ev 4) (nomark _)) (wor1 (tcmp (op_neD hr.units) (ev 5) (eix ix_Q (ev 3) ei (fun _ _ => rfl)) (nomark _))))) (bone (sret ebl)) bnil)
      J5) fun r4 J4 e4 => ?_
  refine ex_seal (rest := (defBody s__law_holds).drop 3) (bcons (sset (i := 5) sc__law_holds.nd rfl (Or.inl rfl) (ecallTy call_list_ofQ rfl B.list bt_list (acons (eix ix_Q (ev 3) ei (fun _ _ => rfl)) anil)))
      J4) fun r3 J3 e3 => ?_
  refine ⟨_, (bcons (sset (i := 2) sc__law_holds.nd rfl (Or.inl rfl) (ecmp op_eq (ecall C__law_digit (hr.mono (by decide)) rfl (acons (ev 0) (acons ei anil))) ei (nomark _)))
      (bcons (sset (i := 3) sc__law_holds.nd rfl (Or.inl rfl) (ecall C__law_head (hr.mono (by decide)) rfl (acons (ev 0) (acons (ev 1) anil))))
      (bcons (sset (i := 4) sc__law_holds.nd rfl (Or.inl rfl) (ecall C__law_head_text (hr.mono (by decide)) rfl (acons (ev 3) anil)))
      J3))), ?_⟩
  try walk_at "rn"
  refine ⟨p, 3, rfl, hp, by decide, by decide, fun tw H1 tw0 tw1 hp1 k1 => ⟨rfl, p, m, rfl, hp1, m0, m1, fun T R M n1 n2 n3 n4 a b c pl ms H2 ok hd hp2 k2 => ?_⟩⟩
  refine ⟨T, R, M, n1, n2, n3, n4, a, b, c, pl, ms, rfl, hd, ok, fun H3 x3 => ?_⟩
  have hd3 : HeadAt K H3 T R M n1 n2 n3 n4 a b c pl ms := ⟨x3.tup hd.1, x3.tup hd.2.1, x3.at hd.2.2⟩
  have hp3 := hp2.ext x3
  have k3 := k1.trans (k2.trans (x3.kp (p := p)))
  clear x3 hd k1 k2 hp hp1 hp2
  generalize hd0 : decide (V.int tw = V.int 1) = tb
  clear hd0
  show r3 _ _ _
  rw [e3]
  try walk_at "rn"
  refine ⟨_, seqQ_T hd3.1, _, rfl, M, rfl, _, seqQ_lst hd3.2.2, fun D nD => ?_⟩
  have xD := Ext.new (K := K) (o := .lst (ms.map V.int)) nD
  have hd4 : HeadAt K (upd H3 D (.lst (ms.map V.int))) T R M n1 n2 n3 n4 a b c pl ms := ⟨xD.tup hd3.1, xD.tup hd3.2.1, xD.at hd3.2.2⟩
  have hD4 : upd H3 D (.lst (ms.map V.int)) D = some (.lst (ms.map V.int)) := upd_same
  have hp4 := hp3.ext xD
  have k4 := k3.trans (xD.kp (p := p))
  generalize upd H3 D (.lst (ms.map V.int)) = H4 at *
  rw [e4]
  try walk_at "rn"
  obtain ⟨sn, _⟩ := ok.n
  obtain ⟨lm, sm, _, _⟩ := ok.m
  have s3 : small60 [a, b, c] := by
    have := ok.r
    intro i hi
    simp only [List.mem_cons, List.not_mem_nil, or_false] at hi
    rcases hi with rfl | rfl | rfl <;> omega
  have lp : pl.length ≤ 101 := by rcases ok.p with rfl | rfl <;> decide +kernel
  have lt := (headT_len sn s3 lp sm).2
  refine ⟨_, hd4.1, fun q5 H5 t5 x5 p6 n6 => ?_⟩
  rw [show cutV [V.int n1, V.int n2, V.int n3, V.int n4, V.ref R, V.ref M] none (some 5) = [V.int n1, V.int n2, V.int n3, V.int n4, V.ref R] from cutV_to _ 5] at t5
  have x6 := Ext.new (K := K) (o := .tup [V.ref D]) n6
  refine ⟨_, x6.tup t5, by simp, by simp, fun q7 H7 t7 x7 => ?_⟩
  have x47 := x5.trans (x6.trans x7)
  refine ⟨q7, n1, n2, n3, n4, R, a, b, c, pl, D, ms, rfl, t7, x47.tup hd4.2.1, SqL.of (x47.at hD4), sn, s3, lp, sm, by omega, fun H8 x8 => ?_⟩
  refine ⟨rfl, ?_⟩
  rw [decide_eq_true rfl]
  refine iteF' (by decide) ⟨_, seqQ_T ((x47.trans x8).tup hd4.1), _, rfl, ?_⟩
  refine ⟨_, ints_is ((x47.trans x8).at hD4), _, ints_is ((x47.trans x8).at hd4.2.2), ints_shaped _, ints_shaped _, ?_⟩
  rw [ints_same]
  refine iteF' (by decide) ?_
  have hp8 := hp4.ext (x47.trans x8)
  have k8 := k4.trans ((x47.trans x8).kp (p := p))
  clear x47 x8 x7 x6 x5 t5 t7 hD4 hd4 k4 k3 hp3 hp4 xD nD hd3
  rw [e5]
  try walk_at "rn"
  refine ⟨p, _, rfl, hp8, by omega, fun t1 H9 o1 l1 hp9 k9 => ?_⟩
  rw [e6]
  try walk_at "rn"
  refine ⟨fun σ H' => ∃ u : Str, σ = [some (.ref p), some (.int m), some (.bl tb), some (.ref T), some (.str u), some (.ref D), none, none] ∧ (∃ v, Op (headT n1 n2 n3 n4 a b c pl ms) v ∧ Op v u) ∧ u.length ≤ 111400 ∧ Kp K p H H', ?_, ?_⟩
  · try walk_at "rn"
    refine ite2 (fun _ => ?_) (fun _ => ?_)
    · exact ⟨p, t1, rfl, hp9, by omega, fun u H10 o2 l2 _ k10 => ⟨u, rfl, ⟨t1, o1, o2⟩, by omega, k8.trans (k9.trans k10)⟩⟩
    · exact ⟨⟨t1, o1, op_same⟩, by omega, k8.trans k9⟩
  clear o1 l1 hp9 k9 hp8 k8 H9 t1 H8
  rintro σ H2 ⟨u, rfl, ⟨v, o1, o2⟩, lu, k2⟩
  have nr := no_room ok o1 o2
  clear o1 o2 lt lp s3 sm lm sn
  rw [e7]
  try walk_at "rn"
  have rest : ∀ (H3 : Hp), Ext K H2 H3 → (NoHead u → r8 { nx := fun x H' => Q V.non H', rt := Q } [some (V.ref p), some (V.int m), some (V.bl tb), some (V.ref T), some (V.str u), some (V.ref D), some .non, none] H3) ∧ ∀ n1 n2 n3 n4 a b c pl ms, HeadIs u n1 n2 n3 n4 a b c pl ms → ∀ T2 R2 M2, HeadAt K H3 T2 R2 M2 n1 n2 n3 n4 a b c pl ms → r8 { nx := fun x H' => Q V.non H', rt := Q } [some (V.ref p), some (V.int m), some (V.bl tb), some (V.ref T), some (V.str u), some (V.ref D), some (.ref T2), none] H3 := by
    intro H3 x3
    constructor
    · intro no
      rw [e8]
      try walk_at "rn"
      refine ⟨_, u, rfl, by omega, .inr ⟨rfl, nr⟩, fun H4 x4 => ?_⟩
      refine ⟨true, rfl, iteF' (by decide) ?_⟩
      rw [e9]
      try walk_at "rn"
      exact ⟨_, u, rfl, by omega, .inl ⟨rfl, no⟩, fun H5 x5 => q _ (k2.trans (x3.trans (x4.trans x5)).kp)⟩
    · intro n1 n2 n3 n4 a b c pl ms hi T2 R2 M2 hd
      rw [e8]
      try walk_at "rn"
      refine ⟨_, u, rfl, by omega, .inr ⟨rfl, nr⟩, fun H4 x4 => ?_⟩
      refine ⟨true, rfl, iteF' (by decide) ?_⟩
      rw [e9]
      try walk_at "rn"
      rw [e10]
      try walk_at "rn"
      obtain ⟨eu, sn, s3, lp, sm, lm⟩ := head_back hi
      refine ⟨u, n1, n2, n3, n4, a, b, c, pl, ms, rfl, by omega, hi, fun T3 R3 M3 H5 nM3 x5 hd3 => ?_⟩
      have hd5 : HeadAt K H5 T2 R2 M2 n1 n2 n3 n4 a b c pl ms := hd.ext (x4.trans x5)
      show r11 _ _ _
      rw [e11]
      try walk_at "rn"
      refine ⟨_, _, rfl, head_alk hd3 hd5 (by omega), fun H6 x6 => ⟨true, rfl, iteF' (by decide) ?_⟩⟩
      rw [e12]
      try walk_at "rn"
      refine ⟨_, seqQ_T (x6.tup hd3.1), _, rfl, .inl ⟨_, SqL.of (x6.at hd3.2.2)⟩, ?_⟩
      refine ⟨M3, rfl, _, x6.at hd3.2.2, by rw [List.length_map]; omega, ?_⟩
      have x7 := ext_upd (o := .lst (ms.map V.int ++ [V.int 7])) (x5.trans x6) nM3
      generalize upd H6 M3 (.lst (ms.map V.int ++ [V.int 7])) = H7 at x7 ⊢
      rw [e13]
      try walk_at "rn"
      refine ⟨u, n1, n2, n3, n4, a, b, c, pl, ms, rfl, by omega, hi, fun T4 R4 M4 H8 nM4 x8 hd8 => ?_⟩
      have hd82 : HeadAt K H8 T2 R2 M2 n1 n2 n3 n4 a b c pl ms := hd.ext (x4.trans (x7.trans x8))
      refine ⟨_, _, rfl, head_alk hd8 hd82 (by omega), fun H9 x9 => ?_⟩
      have hd9 := hd82.ext x9
      refine ⟨true, rfl, iteT' rfl ⟨T2, n1, n2, n3, n4, R2, a, b, c, pl, M2, ms, rfl, hd9.1, hd9.2.1, SqL.of hd9.2.2, sn, s3, lp, sm, by omega, fun H10 x10 => ?_⟩⟩
      rw [eu]
      refine ⟨rfl, ?_⟩
      rw [decide_eq_true rfl]
      exact q _ (k2.trans (x3.trans (x4.trans (x7.trans (x8.trans (x9.trans x10))))).kp)
  exact ⟨u, rfl, by omega, fun no H3 x3 => (rest H3 x3).1 no, fun n1 n2 n3 n4 a b c pl ms hi T2 R2 M2 H3 x3 hd => (rest H3 x3).2 n1 n2 n3 n4 a b c pl ms hi T2 R2 M2 hd⟩
def spLaw (K : PySem.W.Frag) : Sp := fun vs H Q _ => ∃ (a : Addr) (ns : List Int), vs = [.ref a] ∧ SqL K H a (ns.map V.int) ∧ ns.length ≤ 63 ∧ Only H ∧ ∀ H', Q (.bl true) H'
theorem sc_law : FnScope ["_law_script", "_law_k"] ["_law_script"] (defScope s_law) := ⟨rfl, rfl, rfl, by decide +kernel, rfl, by decide +kernel, by decide +kernel⟩
theorem ok_law {f : Addr} {fd : FuncData} (F : Fun K "law" "law" s_law f fd) {aP cF cR cN : Addr} {t1 t2 t3 t4 tF : Tok} (B : B K mg aP cF cR cN t1 t2 t3 t4 tF)
    (C__law_cell_at : Callee P w K mg base "_law_cell_at" 1 ["_law_script", "_law_k"] (spCell K))
    (C__law_holds : Callee P w K mg base "_law_holds" 11 ["_law_state", "_law_most"] (spHolds K)) : FnOk P w K mg base CX0 12 f fd ["_law_script"] (spLaw K) := by
  refine F.okJ sc_law (fun vs H Q E h => ?_) (fun cdv A outer s H vs Q E hr h => ?_)
  · obtain ⟨a, ns, rfl, _⟩ := h
    rfl
  obtain ⟨a, ns, rfl, hS, h63, ho, q⟩ := h
  refine ⟨_, (bcons (sfor PassesOwn.never rfl (irange1 rfl B.range (acons (ecallB (call_max2 rfl) rfl B.max bt_max (acons ei (acons (ecallB (call_min2 rfl) rfl B.min bt_min (acons ei (acons (ecallB call_len_seq rfl B.len bt_len (acons (ev 0) anil)) anil))) anil))) anil)) (gname (i := 1) sc_law.nd rfl (Or.inl rfl))
        (bone (sif (tnot (tval (ecall C__law_holds (hr.mono (by decide)) rfl (acons (elstQ (acons (eop op_add (ecall C__law_cell_at (hr.mono (by decide)) rfl (acons (ev 0) (acons (ev 1) anil))) (ev 1)) anil)) (acons (eix ix_Q (elstQ (acons ei (acons ei anil))) (ecallTy call_intB rfl B.int bt_int (acons (ecmp op_gt (ev 1) ei (nomark _)) anil)) (fun _ _ => rfl)) anil))))) (bone (sret ebl)) bnil)))
      (bone (sret ebl))), ?_⟩
  try walk_at "rn"
  refine ⟨_, .inl hS, by split <;> (try split) <;> omega, by split <;> (try split) <;> omega, ?_⟩
  refine loop_range (fun i σ H2 => ∃ v1, σ = [some (.ref a), v1] ∧ Ext K H H2) ⟨_, rfl, Ext.refl⟩ ?_ ?_
  · rintro i σ H0 hi ⟨v1, rfl, x0⟩
    try walk_at "rn"
    refine ⟨a, ns, _, rfl, x0.same.seq hS, by omega, fun n => ?_⟩
    try walk_at "rn"
    intro D nD D2 nD2
    have x2 := Ext.new (K := K) (o := .lst [V.int 41, V.int 6]) nD2
    obtain ⟨m, em, m0, m1⟩ : ∃ m : Int, atI [V.int 41, V.int 6] (if 0 < (0 : Int) + i then 1 else 0) = some (.int m) ∧ 0 < m ∧ m ≤ 41 := by
      split
      · exact ⟨6, rfl, by decide, by decide⟩
      · exact ⟨41, rfl, by decide, by decide⟩
    refine ⟨_, em, D, m, rfl, .inl ⟨_, x2.at upd_same⟩, m0, m1, fun H1 k1 => ⟨true, rfl, iteF' (by decide) ?_⟩⟩
    exact x0.trans ((x2.kp.trans k1).ext nD)
  · rintro σ H2 ⟨_, rfl, _⟩
    exact q H2
end
theorem all_mk {l : PySem.W.OpenLaw} {w : World} {K : PySem.W.Frag} {h : Heap} {mg : Str → Option Value} {fa f1 f2 f3 f4 f5 f6 f7 f8 f9 f10 f11 f12 f13 f14 f15 f16 f17 f18 f19 f20 f21 f22 f23 f24 f25 f26 f27 f28 f29 f30 f31 f32 f33 f34 f35 f36 f37 f38 f39 : Addr} {od1 an1 od2 an2 od3 an3 od4 an4 od5 an5 od6 an6 od7 an7 od8 an8 od9 an9 od10 an10 od11 an11 od12 an12 od13 an13 od14 an14 od15 an15 od16 an16 od17 an17 od18 an18 od19 an19 od20 an20 od21 an21 od22 an22 od23 an23 od24 an24 od25 an25 od26 an26 od27 an27 od28 an28 od29 an29 od30 an30 od31 an31 od32 an32 od33 an33 od34 an34 od35 an35 od36 an36 od37 an37 od38 an38 od39 an39 : Option Addr} {sl1 sl2 sl3 sl4 sl5 sl6 sl7 sl8 sl9 sl10 sl11 sl12 sl13 sl14 sl15 sl16 sl17 sl18 sl19 sl20 sl21 sl22 sl23 sl24 sl25 sl26 sl27 sl28 sl29 sl30 sl31 sl32 sl33 sl34 sl35 sl36 sl37 sl38 sl39 : Array (Option Value)} {oc1 kV1 dc1 pm1 cd1 ct1 oc2 kV2 dc2 pm2 cd2 ct2 oc3 kV3 dc3 pm3 cd3 ct3 oc4 kV4 dc4 pm4 cd4 ct4 oc5 kV5 dc5 pm5 cd5 ct5 oc6 kV6 dc6 pm6 cd6 ct6 oc7 kV7 dc7 pm7 cd7 ct7 oc8 kV8 dc8 pm8 cd8 ct8 oc9 kV9 dc9 pm9 cd9 ct9 oc10 kV10 dc10 pm10 cd10 ct10 oc11 kV11 dc11 pm11 cd11 ct11 oc12 kV12 dc12 pm12 cd12 ct12 oc13 kV13 dc13 pm13 cd13 ct13 oc14 kV14 dc14 pm14 cd14 ct14 oc15 kV15 dc15 pm15 cd15 ct15 oc16 kV16 dc16 pm16 cd16 ct16 oc17 kV17 dc17 pm17 cd17 ct17 oc18 kV18 dc18 pm18 cd18 ct18 oc19 kV19 dc19 pm19 cd19 ct19 oc20 kV20 dc20 pm20 cd20 ct20 oc21 kV21 dc21 pm21 cd21 ct21 oc22 kV22 dc22 pm22 cd22 ct22 oc23 kV23 dc23 pm23 cd23 ct23 oc24 kV24 dc24 pm24 cd24 ct24 oc25 kV25 dc25 pm25 cd25 ct25 oc26 kV26 dc26 pm26 cd26 ct26 oc27 kV27 dc27 pm27 cd27 ct27 oc28 kV28 dc28 pm28 cd28 ct28 oc29 kV29 dc29 pm29 cd29 ct29 oc30 kV30 dc30 pm30 cd30 ct30 oc31 kV31 dc31 pm31 cd31 ct31 oc32 kV32 dc32 pm32 cd32 ct32 oc33 kV33 dc33 pm33 cd33 ct33 oc34 kV34 dc34 pm34 cd34 ct34 oc35 kV35 dc35 pm35 cd35 ct35 oc36 kV36 dc36 pm36 cd36 ct36 oc37 kV37 dc37 pm37 cd37 ct37 oc38 kV38 dc38 pm38 cd38 ct38 oc39 kV39 dc39 pm39 cd39 ct39 : Value} {t1 : Tok} {t2 : Tok} {t3 : Tok} {t4 : Tok} {tF : Tok} {aP : Addr} {cF : Addr} {cR : Addr} {cN : Addr} {coN : Value} {doN : Option Addr} {cdN : ClassData} {slN : Array (Option Value)} {dP : Option Addr} {u1 u2 : Tok} {nP : Nat} {slP : Array (Option Value)} (X : K.In h) (G : h.Ns mainGlobals mg) (hfa : mg "law" = some (.ref fa))
    (a1 : PySem.W.nsIn K mainGlobals "are_figures" = some (some (.ref f1))) (l1 : K.lookup f1 = some ⟨oc1, od1, .func (PySem.W.fnOf "are_figures" "are_figures" (defArgs s_are_figures) (defBody s_are_figures) (defScope s_are_figures) .none kV1 dc1 pm1 an1 cd1 ct1), sl1⟩) (c1 : PySem.W.codeIn K cd1 "are_figures" = true) (k1 : PySem.W.keepIn K (.ref f1) = true)
    (a2 : PySem.W.nsIn K mainGlobals "read_figures" = some (some (.ref f2))) (l2 : K.lookup f2 = some ⟨oc2, od2, .func (PySem.W.fnOf "read_figures" "read_figures" (defArgs s_read_figures) (defBody s_read_figures) (defScope s_read_figures) .none kV2 dc2 pm2 an2 cd2 ct2), sl2⟩) (c2 : PySem.W.codeIn K cd2 "read_figures" = true) (k2 : PySem.W.keepIn K (.ref f2) = true)
    (a3 : PySem.W.nsIn K mainGlobals "is_number" = some (some (.ref f3))) (l3 : K.lookup f3 = some ⟨oc3, od3, .func (PySem.W.fnOf "is_number" "is_number" (defArgs s_is_number) (defBody s_is_number) (defScope s_is_number) .none kV3 dc3 pm3 an3 cd3 ct3), sl3⟩) (c3 : PySem.W.codeIn K cd3 "is_number" = true) (k3 : PySem.W.keepIn K (.ref f3) = true)
    (a4 : PySem.W.nsIn K mainGlobals "is_whole" = some (some (.ref f4))) (l4 : K.lookup f4 = some ⟨oc4, od4, .func (PySem.W.fnOf "is_whole" "is_whole" (defArgs s_is_whole) (defBody s_is_whole) (defScope s_is_whole) .none kV4 dc4 pm4 an4 cd4 ct4), sl4⟩) (c4 : PySem.W.codeIn K cd4 "is_whole" = true) (k4 : PySem.W.keepIn K (.ref f4) = true)
    (a5 : PySem.W.nsIn K mainGlobals "is_whole_from" = some (some (.ref f5))) (l5 : K.lookup f5 = some ⟨oc5, od5, .func (PySem.W.fnOf "is_whole_from" "is_whole_from" (defArgs s_is_whole_from) (defBody s_is_whole_from) (defScope s_is_whole_from) .none kV5 dc5 pm5 an5 cd5 ct5), sl5⟩) (c5 : PySem.W.codeIn K cd5 "is_whole_from" = true) (k5 : PySem.W.keepIn K (.ref f5) = true)
    (a6 : PySem.W.nsIn K mainGlobals "is_plan" = some (some (.ref f6))) (l6 : K.lookup f6 = some ⟨oc6, od6, .func (PySem.W.fnOf "is_plan" "is_plan" (defArgs s_is_plan) (defBody s_is_plan) (defScope s_is_plan) .none kV6 dc6 pm6 an6 cd6 ct6), sl6⟩) (c6 : PySem.W.codeIn K cd6 "is_plan" = true) (k6 : PySem.W.keepIn K (.ref f6) = true)
    (a7 : PySem.W.nsIn K mainGlobals "is_rule" = some (some (.ref f7))) (l7 : K.lookup f7 = some ⟨oc7, od7, .func (PySem.W.fnOf "is_rule" "is_rule" (defArgs s_is_rule) (defBody s_is_rule) (defScope s_is_rule) .none kV7 dc7 pm7 an7 cd7 ct7), sl7⟩) (c7 : PySem.W.codeIn K cd7 "is_rule" = true) (k7 : PySem.W.keepIn K (.ref f7) = true)
    (a8 : PySem.W.nsIn K mainGlobals "figures_of" = some (some (.ref f8))) (l8 : K.lookup f8 = some ⟨oc8, od8, .func (PySem.W.fnOf "figures_of" "figures_of" (defArgs s_figures_of) (defBody s_figures_of) (defScope s_figures_of) .none kV8 dc8 pm8 an8 cd8 ct8), sl8⟩) (c8 : PySem.W.codeIn K cd8 "figures_of" = true) (k8 : PySem.W.keepIn K (.ref f8) = true)
    (a9 : PySem.W.nsIn K mainGlobals "list_text" = some (some (.ref f9))) (l9 : K.lookup f9 = some ⟨oc9, od9, .func (PySem.W.fnOf "list_text" "list_text" (defArgs s_list_text) (defBody s_list_text) (defScope s_list_text) .none kV9 dc9 pm9 an9 cd9 ct9), sl9⟩) (c9 : PySem.W.codeIn K cd9 "list_text" = true) (k9 : PySem.W.keepIn K (.ref f9) = true)
    (a10 : PySem.W.nsIn K mainGlobals "numbers_text" = some (some (.ref f10))) (l10 : K.lookup f10 = some ⟨oc10, od10, .func (PySem.W.fnOf "numbers_text" "numbers_text" (defArgs s_numbers_text) (defBody s_numbers_text) (defScope s_numbers_text) .none kV10 dc10 pm10 an10 cd10 ct10), sl10⟩) (c10 : PySem.W.codeIn K cd10 "numbers_text" = true) (k10 : PySem.W.keepIn K (.ref f10) = true)
    (a11 : PySem.W.nsIn K mainGlobals "rule_text" = some (some (.ref f11))) (l11 : K.lookup f11 = some ⟨oc11, od11, .func (PySem.W.fnOf "rule_text" "rule_text" (defArgs s_rule_text) (defBody s_rule_text) (defScope s_rule_text) .none kV11 dc11 pm11 an11 cd11 ct11), sl11⟩) (c11 : PySem.W.codeIn K cd11 "rule_text" = true) (k11 : PySem.W.keepIn K (.ref f11) = true)
    (a12 : PySem.W.nsIn K mainGlobals "head_text" = some (some (.ref f12))) (l12 : K.lookup f12 = some ⟨oc12, od12, .func (PySem.W.fnOf "head_text" "head_text" (defArgs s_head_text) (defBody s_head_text) (defScope s_head_text) .none kV12 dc12 pm12 an12 cd12 ct12), sl12⟩) (c12 : PySem.W.codeIn K cd12 "head_text" = true) (k12 : PySem.W.keepIn K (.ref f12) = true)
    (a13 : PySem.W.nsIn K mainGlobals "is_rising" = some (some (.ref f13))) (l13 : K.lookup f13 = some ⟨oc13, od13, .func (PySem.W.fnOf "is_rising" "is_rising" (defArgs s_is_rising) (defBody s_is_rising) (defScope s_is_rising) .none kV13 dc13 pm13 an13 cd13 ct13), sl13⟩) (c13 : PySem.W.codeIn K cd13 "is_rising" = true) (k13 : PySem.W.keepIn K (.ref f13) = true)
    (a14 : PySem.W.nsIn K mainGlobals "are_wholes" = some (some (.ref f14))) (l14 : K.lookup f14 = some ⟨oc14, od14, .func (PySem.W.fnOf "are_wholes" "are_wholes" (defArgs s_are_wholes) (defBody s_are_wholes) (defScope s_are_wholes) .none kV14 dc14 pm14 an14 cd14 ct14), sl14⟩) (c14 : PySem.W.codeIn K cd14 "are_wholes" = true) (k14 : PySem.W.keepIn K (.ref f14) = true)
    (a15 : PySem.W.nsIn K mainGlobals "are_rising_from" = some (some (.ref f15))) (l15 : K.lookup f15 = some ⟨oc15, od15, .func (PySem.W.fnOf "are_rising_from" "are_rising_from" (defArgs s_are_rising_from) (defBody s_are_rising_from) (defScope s_are_rising_from) .none kV15 dc15 pm15 an15 cd15 ct15), sl15⟩) (c15 : PySem.W.codeIn K cd15 "are_rising_from" = true) (k15 : PySem.W.keepIn K (.ref f15) = true)
    (a16 : PySem.W.nsIn K mainGlobals "read_list" = some (some (.ref f16))) (l16 : K.lookup f16 = some ⟨oc16, od16, .func (PySem.W.fnOf "read_list" "read_list" (defArgs s_read_list) (defBody s_read_list) (defScope s_read_list) .none kV16 dc16 pm16 an16 cd16 ct16), sl16⟩) (c16 : PySem.W.codeIn K cd16 "read_list" = true) (k16 : PySem.W.keepIn K (.ref f16) = true)
    (a17 : PySem.W.nsIn K mainGlobals "read_numbers" = some (some (.ref f17))) (l17 : K.lookup f17 = some ⟨oc17, od17, .func (PySem.W.fnOf "read_numbers" "read_numbers" (defArgs s_read_numbers) (defBody s_read_numbers) (defScope s_read_numbers) .none kV17 dc17 pm17 an17 cd17 ct17), sl17⟩) (c17 : PySem.W.codeIn K cd17 "read_numbers" = true) (k17 : PySem.W.keepIn K (.ref f17) = true)
    (a18 : PySem.W.nsIn K mainGlobals "read_rule" = some (some (.ref f18))) (l18 : K.lookup f18 = some ⟨oc18, od18, .func (PySem.W.fnOf "read_rule" "read_rule" (defArgs s_read_rule) (defBody s_read_rule) (defScope s_read_rule) .none kV18 dc18 pm18 an18 cd18 ct18), sl18⟩) (c18 : PySem.W.codeIn K cd18 "read_rule" = true) (k18 : PySem.W.keepIn K (.ref f18) = true)
    (a19 : PySem.W.nsIn K mainGlobals "read_head" = some (some (.ref f19))) (l19 : K.lookup f19 = some ⟨oc19, od19, .func (PySem.W.fnOf "read_head" "read_head" (defArgs s_read_head) (defBody s_read_head) (defScope s_read_head) .none kV19 dc19 pm19 an19 cd19 ct19), sl19⟩) (c19 : PySem.W.codeIn K cd19 "read_head" = true) (k19 : PySem.W.keepIn K (.ref f19) = true)
    (a20 : PySem.W.nsIn K mainGlobals "read_room" = some (some (.ref f20))) (l20 : K.lookup f20 = some ⟨oc20, od20, .func (PySem.W.fnOf "read_room" "read_room" (defArgs s_read_room) (defBody s_read_room) (defScope s_read_room) .none kV20 dc20 pm20 an20 cd20 ct20), sl20⟩) (c20 : PySem.W.codeIn K cd20 "read_room" = true) (k20 : PySem.W.keepIn K (.ref f20) = true)
    (a21 : PySem.W.nsIn K mainGlobals "_law_cell_at" = some (some (.ref f21))) (l21 : K.lookup f21 = some ⟨oc21, od21, .func (PySem.W.fnOf "_law_cell_at" "_law_cell_at" (defArgs s__law_cell_at) (defBody s__law_cell_at) (defScope s__law_cell_at) .none kV21 dc21 pm21 an21 cd21 ct21), sl21⟩) (c21 : PySem.W.codeIn K cd21 "_law_cell_at" = true) (k21 : PySem.W.keepIn K (.ref f21) = true)
    (a22 : PySem.W.nsIn K mainGlobals "_law_digit" = some (some (.ref f22))) (l22 : K.lookup f22 = some ⟨oc22, od22, .func (PySem.W.fnOf "_law_digit" "_law_digit" (defArgs s__law_digit) (defBody s__law_digit) (defScope s__law_digit) .none kV22 dc22 pm22 an22 cd22 ct22), sl22⟩) (c22 : PySem.W.codeIn K cd22 "_law_digit" = true) (k22 : PySem.W.keepIn K (.ref f22) = true)
    (a23 : PySem.W.nsIn K mainGlobals "_law_alike" = some (some (.ref f23))) (l23 : K.lookup f23 = some ⟨oc23, od23, .func (PySem.W.fnOf "_law_alike" "_law_alike" (defArgs s__law_alike) (defBody s__law_alike) (defScope s__law_alike) .none kV23 dc23 pm23 an23 cd23 ct23), sl23⟩) (c23 : PySem.W.codeIn K cd23 "_law_alike" = true) (k23 : PySem.W.keepIn K (.ref f23) = true)
    (a24 : PySem.W.nsIn K mainGlobals "_law_number" = some (some (.ref f24))) (l24 : K.lookup f24 = some ⟨oc24, od24, .func (PySem.W.fnOf "_law_number" "_law_number" (defArgs s__law_number) (defBody s__law_number) (defScope s__law_number) .none kV24 dc24 pm24 an24 cd24 ct24), sl24⟩) (c24 : PySem.W.codeIn K cd24 "_law_number" = true) (k24 : PySem.W.keepIn K (.ref f24) = true)
    (a25 : PySem.W.nsIn K mainGlobals "_law_marks" = some (some (.ref f25))) (l25 : K.lookup f25 = some ⟨oc25, od25, .func (PySem.W.fnOf "_law_marks" "_law_marks" (defArgs s__law_marks) (defBody s__law_marks) (defScope s__law_marks) .none kV25 dc25 pm25 an25 cd25 ct25), sl25⟩) (c25 : PySem.W.codeIn K cd25 "_law_marks" = true) (k25 : PySem.W.keepIn K (.ref f25) = true)
    (a26 : PySem.W.nsIn K mainGlobals "_law_head" = some (some (.ref f26))) (l26 : K.lookup f26 = some ⟨oc26, od26, .func (PySem.W.fnOf "_law_head" "_law_head" (defArgs s__law_head) (defBody s__law_head) (defScope s__law_head) .none kV26 dc26 pm26 an26 cd26 ct26), sl26⟩) (c26 : PySem.W.codeIn K cd26 "_law_head" = true) (k26 : PySem.W.keepIn K (.ref f26) = true)
    (a27 : PySem.W.nsIn K mainGlobals "_law_head_text" = some (some (.ref f27))) (l27 : K.lookup f27 = some ⟨oc27, od27, .func (PySem.W.fnOf "_law_head_text" "_law_head_text" (defArgs s__law_head_text) (defBody s__law_head_text) (defScope s__law_head_text) .none kV27 dc27 pm27 an27 cd27 ct27), sl27⟩) (c27 : PySem.W.codeIn K cd27 "_law_head_text" = true) (k27 : PySem.W.keepIn K (.ref f27) = true)
    (a28 : PySem.W.nsIn K mainGlobals "_law_whole" = some (some (.ref f28))) (l28 : K.lookup f28 = some ⟨oc28, od28, .func (PySem.W.fnOf "_law_whole" "_law_whole" (defArgs s__law_whole) (defBody s__law_whole) (defScope s__law_whole) .none kV28 dc28 pm28 an28 cd28 ct28), sl28⟩) (c28 : PySem.W.codeIn K cd28 "_law_whole" = true) (k28 : PySem.W.keepIn K (.ref f28) = true)
    (a29 : PySem.W.nsIn K mainGlobals "_law_count" = some (some (.ref f29))) (l29 : K.lookup f29 = some ⟨oc29, od29, .func (PySem.W.fnOf "_law_count" "_law_count" (defArgs s__law_count) (defBody s__law_count) (defScope s__law_count) .none kV29 dc29 pm29 an29 cd29 ct29), sl29⟩) (c29 : PySem.W.codeIn K cd29 "_law_count" = true) (k29 : PySem.W.keepIn K (.ref f29) = true)
    (a30 : PySem.W.nsIn K mainGlobals "_law_rule_in" = some (some (.ref f30))) (l30 : K.lookup f30 = some ⟨oc30, od30, .func (PySem.W.fnOf "_law_rule_in" "_law_rule_in" (defArgs s__law_rule_in) (defBody s__law_rule_in) (defScope s__law_rule_in) .none kV30 dc30 pm30 an30 cd30 ct30), sl30⟩) (c30 : PySem.W.codeIn K cd30 "_law_rule_in" = true) (k30 : PySem.W.keepIn K (.ref f30) = true)
    (a31 : PySem.W.nsIn K mainGlobals "_law_read" = some (some (.ref f31))) (l31 : K.lookup f31 = some ⟨oc31, od31, .func (PySem.W.fnOf "_law_read" "_law_read" (defArgs s__law_read) (defBody s__law_read) (defScope s__law_read) .none kV31 dc31 pm31 an31 cd31 ct31), sl31⟩) (c31 : PySem.W.codeIn K cd31 "_law_read" = true) (k31 : PySem.W.keepIn K (.ref f31) = true)
    (a32 : PySem.W.nsIn K mainGlobals "_law_starts" = some (some (.ref f32))) (l32 : K.lookup f32 = some ⟨oc32, od32, .func (PySem.W.fnOf "_law_starts" "_law_starts" (defArgs s__law_starts) (defBody s__law_starts) (defScope s__law_starts) .none kV32 dc32 pm32 an32 cd32 ct32), sl32⟩) (c32 : PySem.W.codeIn K cd32 "_law_starts" = true) (k32 : PySem.W.keepIn K (.ref f32) = true)
    (a33 : PySem.W.nsIn K mainGlobals "_law_sign" = some (some (.ref f33))) (l33 : K.lookup f33 = some ⟨oc33, od33, .func (PySem.W.fnOf "_law_sign" "_law_sign" (defArgs s__law_sign) (defBody s__law_sign) (defScope s__law_sign) .none kV33 dc33 pm33 an33 cd33 ct33), sl33⟩) (c33 : PySem.W.codeIn K cd33 "_law_sign" = true) (k33 : PySem.W.keepIn K (.ref f33) = true)
    (a34 : PySem.W.nsIn K mainGlobals "_law_parts_turned" = some (some (.ref f34))) (l34 : K.lookup f34 = some ⟨oc34, od34, .func (PySem.W.fnOf "_law_parts_turned" "_law_parts_turned" (defArgs s__law_parts_turned) (defBody s__law_parts_turned) (defScope s__law_parts_turned) .none kV34 dc34 pm34 an34 cd34 ct34), sl34⟩) (c34 : PySem.W.codeIn K cd34 "_law_parts_turned" = true) (k34 : PySem.W.keepIn K (.ref f34) = true)
    (a35 : PySem.W.nsIn K mainGlobals "_law_figures" = some (some (.ref f35))) (l35 : K.lookup f35 = some ⟨oc35, od35, .func (PySem.W.fnOf "_law_figures" "_law_figures" (defArgs s__law_figures) (defBody s__law_figures) (defScope s__law_figures) .none kV35 dc35 pm35 an35 cd35 ct35), sl35⟩) (c35 : PySem.W.codeIn K cd35 "_law_figures" = true) (k35 : PySem.W.keepIn K (.ref f35) = true)
    (a36 : PySem.W.nsIn K mainGlobals "_law_spoilt" = some (some (.ref f36))) (l36 : K.lookup f36 = some ⟨oc36, od36, .func (PySem.W.fnOf "_law_spoilt" "_law_spoilt" (defArgs s__law_spoilt) (defBody s__law_spoilt) (defScope s__law_spoilt) .none kV36 dc36 pm36 an36 cd36 ct36), sl36⟩) (c36 : PySem.W.codeIn K cd36 "_law_spoilt" = true) (k36 : PySem.W.keepIn K (.ref f36) = true)
    (a37 : PySem.W.nsIn K mainGlobals "_law_refused" = some (some (.ref f37))) (l37 : K.lookup f37 = some ⟨oc37, od37, .func (PySem.W.fnOf "_law_refused" "_law_refused" (defArgs s__law_refused) (defBody s__law_refused) (defScope s__law_refused) .none kV37 dc37 pm37 an37 cd37 ct37), sl37⟩) (c37 : PySem.W.codeIn K cd37 "_law_refused" = true) (k37 : PySem.W.keepIn K (.ref f37) = true)
    (a38 : PySem.W.nsIn K mainGlobals "_law_holds" = some (some (.ref f38))) (l38 : K.lookup f38 = some ⟨oc38, od38, .func (PySem.W.fnOf "_law_holds" "_law_holds" (defArgs s__law_holds) (defBody s__law_holds) (defScope s__law_holds) .none kV38 dc38 pm38 an38 cd38 ct38), sl38⟩) (c38 : PySem.W.codeIn K cd38 "_law_holds" = true) (k38 : PySem.W.keepIn K (.ref f38) = true)
    (a39 : PySem.W.nsIn K mainGlobals "law" = some (some (.ref f39))) (l39 : K.lookup f39 = some ⟨oc39, od39, .func (PySem.W.fnOf "law" "law" (defArgs s_law) (defBody s_law) (defScope s_law) .none kV39 dc39 pm39 an39 cd39 ct39), sl39⟩) (c39 : PySem.W.codeIn K cd39 "law" = true) (k39 : PySem.W.keepIn K (.ref f39) = true)
    (z_len : PySem.W.nsIn K mainGlobals "len" = some none)
    (z_isinstance : PySem.W.nsIn K mainGlobals "isinstance" = some none)
    (z_int : PySem.W.nsIn K mainGlobals "int" = some none)
    (z_bool : PySem.W.nsIn K mainGlobals "bool" = some none)
    (z_tuple : PySem.W.nsIn K mainGlobals "tuple" = some none)
    (z_str : PySem.W.nsIn K mainGlobals "str" = some none)
    (z_list : PySem.W.nsIn K mainGlobals "list" = some none)
    (z_all : PySem.W.nsIn K mainGlobals "all" = some none)
    (z_zip : PySem.W.nsIn K mainGlobals "zip" = some none)
    (z_enumerate : PySem.W.nsIn K mainGlobals "enumerate" = some none)
    (z_range : PySem.W.nsIn K mainGlobals "range" = some none)
    (z_dict : PySem.W.nsIn K mainGlobals "dict" = some none)
    (z_max : PySem.W.nsIn K mainGlobals "max" = some none)
    (z_min : PySem.W.nsIn K mainGlobals "min" = some none)
    (z_ValueError : PySem.W.nsIn K mainGlobals "ValueError" = some none)
    (z_MOST_TRAY : PySem.W.nsIn K mainGlobals "MOST_TRAY" = some (some (.int 64 t1)))
    (z_LEAST_FAN : PySem.W.nsIn K mainGlobals "LEAST_FAN" = some (some (.int 3 t2)))
    (z_MOST_FAN : PySem.W.nsIn K mainGlobals "MOST_FAN" = some (some (.int 16 t3)))
    (z_MOST_ROWS : PySem.W.nsIn K mainGlobals "MOST_ROWS" = some (some (.int 64 t4)))
    (z_MOST_FIGURES : PySem.W.nsIn K mainGlobals "MOST_FIGURES" = some (some (.int 60 tF)))
    (z_PLANS : PySem.W.nsIn K mainGlobals "PLANS" = some (some (.ref aP)))
    (z_FallError : PySem.W.nsIn K mainGlobals "FallError" = some (some (.ref cF)))
    (z_NoRule : PySem.W.nsIn K mainGlobals "NoRule" = some (some (.ref cR)))
    (z_NoPage : PySem.W.nsIn K mainGlobals "NoPage" = some (some (.ref cN)))
    (z_gt : PySem.W.specialIn K (.builtin "object.__class__") "__get__" = some (some (.builtin "getset_descriptor.__get__")))
    (z_tk : PySem.W.takesIn K (.builtin "object.__class__") = some true)
    (z_xN : PySem.W.excIn K cN [.type "ValueError", .type "Exception", .type "BaseException", .type "object"] "ValueError.__new__" = true)
    (z_gaN : PySem.W.findIn K (.ref cN) "__getattribute__" = some (some (.builtin "BaseException.__getattribute__")))
    (z_ghN : PySem.W.findIn K (.ref cN) "__getattr__" = some none)
    (z_clN : PySem.W.findIn K (.ref cN) "__class__" = some (some (.builtin "object.__class__")))
    (z_moN : PySem.W.mroIn K cN (.type "object") = some true)
    (z_mbN : PySem.W.mroIn K cN (.type "BaseException") = some true)
    (z_isN : K.lookup cN = some ⟨coN, doN, .cls cdN, slN⟩)
    (z_mN : PySem.W.exmOne K (.ref cN) (.ref cF) = some true)
    (z_kN0 : PySem.W.kitOne K (.ref cN) (.ref cN) = some true)
    (z_kN1 : PySem.W.kitOne K (.ref cN) (.type "ValueError") = some true)
    (z_kN2 : PySem.W.kitOne K (.ref cN) (.ref cR) = some false)
    (z_kP : K.lookup aP = some ⟨.type "tuple", dP, .seq #[.str "fullest" u1, .str "eldest" u2] nP, slP⟩) :
    ∃ fd : FuncData, (∀ (s : Shared) (v : Value), BindsTo s fd ⟨[v], []⟩ [("_law_script", v)]) ∧ ∀ base : Heap, K.In base → base.Ns mainGlobals mg → FnOk l.prog w K mg base CX0 12 fa fd ["_law_script"] (spLaw K) := by
  have e := hfa.symm.trans (PySem.W.mg_of X G a39)
  cases e
  have B := (B.mk (PySem.W.mg_none_of X G z_len) (PySem.W.mg_none_of X G z_isinstance) (PySem.W.mg_none_of X G z_int) (PySem.W.mg_none_of X G z_bool) (PySem.W.mg_none_of X G z_tuple) (PySem.W.mg_none_of X G z_str) (PySem.W.mg_none_of X G z_list) (PySem.W.mg_none_of X G z_all) (PySem.W.mg_none_of X G z_zip) (PySem.W.mg_none_of X G z_enumerate) (PySem.W.mg_none_of X G z_range) (PySem.W.mg_none_of X G z_dict) (PySem.W.mg_none_of X G z_max) (PySem.W.mg_none_of X G z_min) (PySem.W.mg_none_of X G z_ValueError) (PySem.W.mg_of X G z_MOST_TRAY) (PySem.W.mg_of X G z_LEAST_FAN) (PySem.W.mg_of X G z_MOST_FAN) (PySem.W.mg_of X G z_MOST_ROWS) (PySem.W.mg_of X G z_MOST_FIGURES) (PySem.W.mg_of X G z_PLANS) (PySem.W.mg_of X G z_FallError) (PySem.W.mg_of X G z_NoRule) (PySem.W.mg_of X G z_NoPage) (kTup_of z_kP (by simp) rfl) ⟨⟨z_xN⟩, ⟨z_gaN, z_ghN, z_clN, z_moN, z_mbN, z_gt, z_tk, by unfold PySem.W.clsIn; rw [z_isN]; rfl⟩, z_mN, z_kN0, z_kN1, z_kN2⟩ : B K mg aP cF cR cN t1 t2 t3 t4 tF)
  have F1 := fun_mk (st := s_are_figures) l1 c1 k1
  have b1 := F1.binds (ps := ["text"]) fun _ _ _ _ _ _ us hl => match us, hl with | [_], _ => rfl
  have F2 := fun_mk (st := s_read_figures) l2 c2 k2
  have b2 := F2.binds (ps := ["text"]) fun _ _ _ _ _ _ us hl => match us, hl with | [_], _ => rfl
  have F3 := fun_mk (st := s_is_number) l3 c3 k3
  have b3 := F3.binds (ps := ["thing"]) fun _ _ _ _ _ _ us hl => match us, hl with | [_], _ => rfl
  have F4 := fun_mk (st := s_is_whole) l4 c4 k4
  have b4 := F4.binds (ps := ["thing", "low", "high"]) fun _ _ _ _ _ _ us hl => match us, hl with | [_, _, _], _ => rfl
  have F5 := fun_mk (st := s_is_whole_from) l5 c5 k5
  have b5 := F5.binds (ps := ["thing", "low"]) fun _ _ _ _ _ _ us hl => match us, hl with | [_, _], _ => rfl
  have F6 := fun_mk (st := s_is_plan) l6 c6 k6
  have b6 := F6.binds (ps := ["thing"]) fun _ _ _ _ _ _ us hl => match us, hl with | [_], _ => rfl
  have F7 := fun_mk (st := s_is_rule) l7 c7 k7
  have b7 := F7.binds (ps := ["thing"]) fun _ _ _ _ _ _ us hl => match us, hl with | [_], _ => rfl
  have F8 := fun_mk (st := s_figures_of) l8 c8 k8
  have b8 := F8.binds (ps := ["number"]) fun _ _ _ _ _ _ us hl => match us, hl with | [_], _ => rfl
  have F9 := fun_mk (st := s_list_text) l9 c9 k9
  have b9 := F9.binds (ps := ["texts", "sign"]) fun _ _ _ _ _ _ us hl => match us, hl with | [_, _], _ => rfl
  have F10 := fun_mk (st := s_numbers_text) l10 c10 k10
  have b10 := F10.binds (ps := ["numbers"]) fun _ _ _ _ _ _ us hl => match us, hl with | [_], _ => rfl
  have F11 := fun_mk (st := s_rule_text) l11 c11 k11
  have b11 := F11.binds (ps := ["rule"]) fun _ _ _ _ _ _ us hl => match us, hl with | [_], _ => rfl
  have F12 := fun_mk (st := s_head_text) l12 c12 k12
  have b12 := F12.binds (ps := ["head"]) fun _ _ _ _ _ _ us hl => match us, hl with | [_], _ => rfl
  have F13 := fun_mk (st := s_is_rising) l13 c13 k13
  have b13 := F13.binds (ps := ["numbers"]) fun _ _ _ _ _ _ us hl => match us, hl with | [_], _ => rfl
  have F14 := fun_mk (st := s_are_wholes) l14 c14 k14
  have b14 := F14.binds (ps := ["thing"]) fun _ _ _ _ _ _ us hl => match us, hl with | [_], _ => rfl
  have F15 := fun_mk (st := s_are_rising_from) l15 c15 k15
  have b15 := F15.binds (ps := ["thing", "low"]) fun _ _ _ _ _ _ us hl => match us, hl with | [_, _], _ => rfl
  have F16 := fun_mk (st := s_read_list) l16 c16 k16
  have b16 := F16.binds (ps := ["text", "sign", "read"]) fun _ _ _ _ _ _ us hl => match us, hl with | [_, _, _], _ => rfl
  have F17 := fun_mk (st := s_read_numbers) l17 c17 k17
  have b17 := F17.binds (ps := ["text"]) fun _ _ _ _ _ _ us hl => match us, hl with | [_], _ => rfl
  have F18 := fun_mk (st := s_read_rule) l18 c18 k18
  have b18 := F18.binds (ps := ["text"]) fun _ _ _ _ _ _ us hl => match us, hl with | [_], _ => rfl
  have F19 := fun_mk (st := s_read_head) l19 c19 k19
  have b19 := F19.binds (ps := ["text"]) fun _ _ _ _ _ _ us hl => match us, hl with | [_], _ => rfl
  have F20 := fun_mk (st := s_read_room) l20 c20 k20
  have b20 := F20.binds (ps := ["text"]) fun _ _ _ _ _ _ us hl => match us, hl with | [_], _ => rfl
  have F21 := fun_mk (st := s__law_cell_at) l21 c21 k21
  have b21 := F21.binds (ps := ["_law_script", "_law_k"]) fun _ _ _ _ _ _ us hl => match us, hl with | [_, _], _ => rfl
  have F22 := fun_mk (st := s__law_digit) l22 c22 k22
  have b22 := F22.binds (ps := ["_law_state", "_law_base"]) fun _ _ _ _ _ _ us hl => match us, hl with | [_, _], _ => rfl
  have F23 := fun_mk (st := s__law_alike) l23 c23 k23
  have b23 := F23.binds (ps := ["_law_found", "_law_due"]) fun _ _ _ _ _ _ us hl => match us, hl with | [_, _], _ => rfl
  have F24 := fun_mk (st := s__law_number) l24 c24 k24
  have b24 := F24.binds (ps := ["_law_state"]) fun _ _ _ _ _ _ us hl => match us, hl with | [_], _ => rfl
  have F25 := fun_mk (st := s__law_marks) l25 c25 k25
  have b25 := F25.binds (ps := ["_law_state", "_law_most"]) fun _ _ _ _ _ _ us hl => match us, hl with | [_, _], _ => rfl
  have F26 := fun_mk (st := s__law_head) l26 c26 k26
  have b26 := F26.binds (ps := ["_law_state", "_law_most"]) fun _ _ _ _ _ _ us hl => match us, hl with | [_, _], _ => rfl
  have F27 := fun_mk (st := s__law_head_text) l27 c27 k27
  have b27 := F27.binds (ps := ["_law_head_here"]) fun _ _ _ _ _ _ us hl => match us, hl with | [_], _ => rfl
  have F28 := fun_mk (st := s__law_whole) l28 c28 k28
  have b28 := F28.binds (ps := ["_law_word"]) fun _ _ _ _ _ _ us hl => match us, hl with | [_], _ => rfl
  have F29 := fun_mk (st := s__law_count) l29 c29 k29
  have b29 := F29.binds (ps := ["_law_word"]) fun _ _ _ _ _ _ us hl => match us, hl with | [_], _ => rfl
  have F30 := fun_mk (st := s__law_rule_in) l30 c30 k30
  have b30 := F30.binds (ps := ["_law_word"]) fun _ _ _ _ _ _ us hl => match us, hl with | [_], _ => rfl
  have F31 := fun_mk (st := s__law_read) l31 c31 k31
  have b31 := F31.binds (ps := ["_law_text"]) fun _ _ _ _ _ _ us hl => match us, hl with | [_], _ => rfl
  have F32 := fun_mk (st := s__law_starts) l32 c32 k32
  have b32 := F32.binds (ps := ["_law_text"]) fun _ _ _ _ _ _ us hl => match us, hl with | [_], _ => rfl
  have F33 := fun_mk (st := s__law_sign) l33 c33 k33
  have b33 := F33.binds (ps := ["_law_state"]) fun _ _ _ _ _ _ us hl => match us, hl with | [_], _ => rfl
  have F34 := fun_mk (st := s__law_parts_turned) l34 c34 k34
  have b34 := F34.binds (ps := ["_law_state", "_law_text", "_law_way"]) fun _ _ _ _ _ _ us hl => match us, hl with | [_, _, _], _ => rfl
  have F35 := fun_mk (st := s__law_figures) l35 c35 k35
  have b35 := F35.binds (ps := ["_law_state", "_law_text"]) fun _ _ _ _ _ _ us hl => match us, hl with | [_, _], _ => rfl
  have F36 := fun_mk (st := s__law_spoilt) l36 c36 k36
  have b36 := F36.binds (ps := ["_law_state", "_law_text"]) fun _ _ _ _ _ _ us hl => match us, hl with | [_, _], _ => rfl
  have F37 := fun_mk (st := s__law_refused) l37 c37 k37
  have b37 := F37.binds (ps := ["_law_word", "_law_text"]) fun _ _ _ _ _ _ us hl => match us, hl with | [_, _], _ => rfl
  have F38 := fun_mk (st := s__law_holds) l38 c38 k38
  have b38 := F38.binds (ps := ["_law_state", "_law_most"]) fun _ _ _ _ _ _ us hl => match us, hl with | [_, _], _ => rfl
  have F39 := fun_mk (st := s_law) l39 c39 k39
  refine ⟨PySem.W.fnOf "law" "law" (defArgs s_law) (defBody s_law) (defScope s_law) .none kV39 dc39 pm39 an39 cd39 ct39, fun s v => .of_eq rfl, fun base _ _ => ?_⟩
  have C_are_figures : Callee l.prog w K mg base "are_figures" 1 ["text"] spAre := ⟨f1, _, ok_are_figures F1 B    , b1, k1, PySem.W.mg_of X G a1⟩
  have C_read_figures : Callee l.prog w K mg base "read_figures" 2 ["text"] spRF := ⟨f2, _, ok_read_figures F2 B (C_are_figures := C_are_figures)   , b2, k2, PySem.W.mg_of X G a2⟩
  have C_is_number : Callee l.prog w K mg base "is_number" 1 ["thing"] spNumO := ⟨f3, _, ok_is_number F3 B    , b3, k3, PySem.W.mg_of X G a3⟩
  have C_is_whole : Callee l.prog w K mg base "is_whole" 2 ["thing", "low", "high"] spWholeO := ⟨f4, _, ok_is_whole F4 B (C_is_number := C_is_number)   , b4, k4, PySem.W.mg_of X G a4⟩
  have C_is_whole_from : Callee l.prog w K mg base "is_whole_from" 2 ["thing", "low"] spFromO := ⟨f5, _, ok_is_whole_from F5 B (C_is_number := C_is_number)   , b5, k5, PySem.W.mg_of X G a5⟩
  have C_is_plan : Callee l.prog w K mg base "is_plan" 1 ["thing"] spPlan := ⟨f6, _, ok_is_plan F6 B    , b6, k6, PySem.W.mg_of X G a6⟩
  have C_is_rule : Callee l.prog w K mg base "is_rule" 3 ["thing"] (spRule K) := ⟨f7, _, ok_is_rule F7 B (C_is_whole := C_is_whole) (C_is_plan := C_is_plan)   , b7, k7, PySem.W.mg_of X G a7⟩
  have C_figures_of : Callee l.prog w K mg base "figures_of" 1 ["number"] spFig := ⟨f8, _, ok_figures_of F8 B    , b8, k8, PySem.W.mg_of X G a8⟩
  have C_list_text : Callee l.prog w K mg base "list_text" 1 ["texts", "sign"] (spLT K) := ⟨f9, _, ok_list_text F9 B    , b9, k9, PySem.W.mg_of X G a9⟩
  have C_numbers_text : Callee l.prog w K mg base "numbers_text" 2 ["numbers"] (spNT K) := ⟨f10, _, ok_numbers_text F10 B (C_list_text := C_list_text) (C_figures_of := C_figures_of)   , b10, k10, PySem.W.mg_of X G a10⟩
  have C_rule_text : Callee l.prog w K mg base "rule_text" 2 ["rule"] (spRT K) := ⟨f11, _, ok_rule_text F11 B (C_figures_of := C_figures_of)   , b11, k11, PySem.W.mg_of X G a11⟩
  have C_head_text : Callee l.prog w K mg base "head_text" 3 ["head"] (spHT K) := ⟨f12, _, ok_head_text F12 B (C_figures_of := C_figures_of) (C_rule_text := C_rule_text) (C_numbers_text := C_numbers_text)   , b12, k12, PySem.W.mg_of X G a12⟩
  have C_is_rising : Callee l.prog w K mg base "is_rising" 1 ["numbers"] (spRis K) := ⟨f13, _, ok_is_rising F13 B    , b13, k13, PySem.W.mg_of X G a13⟩
  have C_are_wholes : Callee l.prog w K mg base "are_wholes" 2 ["thing"] (spAW K) := ⟨f14, _, ok_are_wholes F14 B (C_is_number := C_is_number)   , b14, k14, PySem.W.mg_of X G a14⟩
  have C_are_rising_from : Callee l.prog w K mg base "are_rising_from" 3 ["thing", "low"] (spARF K) := ⟨f15, _, ok_are_rising_from F15 B (C_are_wholes := C_are_wholes) (C_is_rising := C_is_rising)   , b15, k15, PySem.W.mg_of X G a15⟩
  have A_rf : FnAt l.prog w K mg base 2 ["text"] spRF f2 := ⟨⟨_, ok_read_figures F2 B (C_are_figures := C_are_figures), b2, k2⟩⟩
  have C_read_list : Callee l.prog w K mg base "read_list" 3 ["text", "sign", "read"] (spRL K f2) := ⟨f16, _, ok_read_list F16 B    (A_rf := A_rf), b16, k16, PySem.W.mg_of X G a16⟩
  have C_read_numbers : Callee l.prog w K mg base "read_numbers" 4 ["text"] (spRN K) := ⟨f17, _, ok_read_numbers F17 B (C_read_list := C_read_list)   (G_rf := PySem.W.mg_of X G a2), b17, k17, PySem.W.mg_of X G a17⟩
  have C_read_rule : Callee l.prog w K mg base "read_rule" 4 ["text"] (spRR K) := ⟨f18, _, ok_read_rule F18 B (C_is_rule := C_is_rule) (C_read_figures := C_read_figures)   , b18, k18, PySem.W.mg_of X G a18⟩
  have C_read_head : CalleeX l.prog w K mg base "read_head" 5 ["text"] (spRH K cN) := ⟨f19, _, ok_read_head F19 B (C_read_rule := C_read_rule) (C_read_numbers := C_read_numbers) (C_read_figures := C_read_figures) (C_are_rising_from := C_are_rising_from) (C_is_whole_from := C_is_whole_from)   , b19, k19, PySem.W.mg_of X G a19⟩
  have C_read_room : CalleeX l.prog w K mg base "read_room" 9 ["text"] (spRRm K cN) := ⟨f20, _, ok_read_room F20 B    , b20, k20, PySem.W.mg_of X G a20⟩
  have C__law_cell_at : Callee l.prog w K mg base "_law_cell_at" 1 ["_law_script", "_law_k"] (spCell K) := ⟨f21, _, ok__law_cell_at F21 B    , b21, k21, PySem.W.mg_of X G a21⟩
  have C__law_digit : Callee l.prog w K mg base "_law_digit" 1 ["_law_state", "_law_base"] (spDigit K) := ⟨f22, _, ok__law_digit F22 B    , b22, k22, PySem.W.mg_of X G a22⟩
  have C__law_alike : Callee l.prog w K mg base "_law_alike" 3 ["_law_found", "_law_due"] (spAlk K 3) := ⟨f23, _, ok__law_alike F23 B b23 k23 (PySem.W.mg_of X G a23)    , b23, k23, PySem.W.mg_of X G a23⟩
  have C__law_number : Callee l.prog w K mg base "_law_number" 2 ["_law_state"] (spNumL K) := ⟨f24, _, ok__law_number F24 B (C__law_digit := C__law_digit)   , b24, k24, PySem.W.mg_of X G a24⟩
  have C__law_marks : Callee l.prog w K mg base "_law_marks" 2 ["_law_state", "_law_most"] (spMarks K) := ⟨f25, _, ok__law_marks F25 B (C__law_digit := C__law_digit)   , b25, k25, PySem.W.mg_of X G a25⟩
  have C__law_head : Callee l.prog w K mg base "_law_head" 3 ["_law_state", "_law_most"] (spHead K) := ⟨f26, _, ok__law_head F26 B (C__law_number := C__law_number) (C__law_digit := C__law_digit) (C__law_marks := C__law_marks)   , b26, k26, PySem.W.mg_of X G a26⟩
  have C__law_head_text : Callee l.prog w K mg base "_law_head_text" 1 ["_law_head_here"] (spHTL K) := ⟨f27, _, ok__law_head_text F27 B    , b27, k27, PySem.W.mg_of X G a27⟩
  have C__law_whole : Callee l.prog w K mg base "_law_whole" 1 ["_law_word"] (spWh K) := ⟨f28, _, ok__law_whole F28 B    , b28, k28, PySem.W.mg_of X G a28⟩
  have C__law_count : Callee l.prog w K mg base "_law_count" 2 ["_law_word"] (spCnt K) := ⟨f29, _, ok__law_count F29 B (C__law_whole := C__law_whole)   , b29, k29, PySem.W.mg_of X G a29⟩
  have C__law_rule_in : Callee l.prog w K mg base "_law_rule_in" 3 ["_law_word"] (spRR K) := ⟨f30, _, ok__law_rule_in F30 B (C__law_count := C__law_count)   , b30, k30, PySem.W.mg_of X G a30⟩
  have C__law_read : Callee l.prog w K mg base "_law_read" 4 ["_law_text"] (spRd K) := ⟨f31, _, ok__law_read F31 B (C__law_rule_in := C__law_rule_in) (C__law_count := C__law_count)   , b31, k31, PySem.W.mg_of X G a31⟩
  have C__law_starts : Callee l.prog w K mg base "_law_starts" 1 ["_law_text"] (spStarts K) := ⟨f32, _, ok__law_starts F32 B    , b32, k32, PySem.W.mg_of X G a32⟩
  have C__law_sign : Callee l.prog w K mg base "_law_sign" 2 ["_law_state"] (spSign K) := ⟨f33, _, ok__law_sign F33 B (C__law_digit := C__law_digit)   , b33, k33, PySem.W.mg_of X G a33⟩
  have C__law_parts_turned : Callee l.prog w K mg base "_law_parts_turned" 2 ["_law_state", "_law_text", "_law_way"] (spTurn K) := ⟨f34, _, ok__law_parts_turned F34 B (C__law_digit := C__law_digit)   , b34, k34, PySem.W.mg_of X G a34⟩
  have C__law_figures : Callee l.prog w K mg base "_law_figures" 2 ["_law_state", "_law_text"] (spFigs K) := ⟨f35, _, ok__law_figures F35 B (C__law_starts := C__law_starts) (C__law_digit := C__law_digit)   , b35, k35, PySem.W.mg_of X G a35⟩
  have C__law_spoilt : Callee l.prog w K mg base "_law_spoilt" 3 ["_law_state", "_law_text"] (spFigs K) := ⟨f36, _, ok__law_spoilt F36 B (C__law_digit := C__law_digit) (C__law_sign := C__law_sign) (C__law_figures := C__law_figures) (C__law_parts_turned := C__law_parts_turned)   , b36, k36, PySem.W.mg_of X G a36⟩
  have C__law_refused : Callee l.prog w K mg base "_law_refused" 10 ["_law_word", "_law_text"] (spRef K) := ⟨f37, _, ok__law_refused F37 B (C_read_head := C_read_head) (C_read_room := C_read_room)   , b37, k37, PySem.W.mg_of X G a37⟩
  have Q_read_head := C_read_head.quiet (headQ (K := K) (cN := cN))
  have C__law_holds : Callee l.prog w K mg base "_law_holds" 11 ["_law_state", "_law_most"] (spHolds K) := ⟨f38, _, ok__law_holds F38 B (C__law_head := C__law_head) (C__law_head_text := C__law_head_text) (C__law_spoilt := C__law_spoilt) (C__law_read := C__law_read) (C__law_digit := C__law_digit) (C__law_refused := C__law_refused) (C__law_alike := C__law_alike) (C_head_text := C_head_text)   (Q_read_head := Q_read_head), b38, k38, PySem.W.mg_of X G a38⟩
  exact ok_law F39 B (C__law_holds := C__law_holds) (C__law_cell_at := C__law_cell_at)
theorem walk {l : PySem.W.OpenLaw} {q : Program} {loose : List Str} {XP : (Str → Option Value) → Heap → Prop} {YP : World → Heap → Prop} {d : DefRec} {K : Params → PySem.W.Frag} (hn : l.most = some 63) (hdf : d.params.defaults = [])
    (hY : ∀ (w : World) (h : Heap), YP w h → (K w.params).In h)
    (F : ∀ (w : World) (mg : Str → Option Value) (fa : Addr) (h : Heap), (K w.params).In h → h.Ns mainGlobals mg → mg d.name = some (.ref fa) →
      ∃ fd : FuncData, (∀ (s : Shared) (u : Value), BindsTo s fd ⟨[u], []⟩ [("_law_script", u)]) ∧ ∀ base : Heap, (K w.params).In base → base.Ns mainGlobals mg → FnOk l.prog w (K w.params) mg base CX0 12 fa fd ["_law_script"] (spLaw (K w.params))) :
    PySem.W.WalkO q loose XP YP l.row.toRowW d [] (fun f vs => PySem.call f vs) :=
  L2.walk_of (n := 63) (k := 12) (x := "_law_script") (CX := fun _ => CX0) (sp := fun w => spLaw (K w.params)) hn (by decide) hdf ⟨rfl, by decide, by decide, rfl⟩ hY F (fun _ _ a ns hl ho hS => ⟨a, ns, rfl, hS, hl, ho, fun _ => rfl⟩) fun _ _ _ _ _ z => z
abbrev kh (P : Params) (x : Str) : Int := PyData.keyHash P x
def hK (P : Params) : PySem.W.Frag :=
 (nat_lit 2, ⟨.none, none, (.dict (List.toArray ( [])) 0), #[]⟩) ::
 (nat_lit 3, ⟨(.type "dict"), none, (.dict (List.toArray (⟨kh P "__name__", (.str "__name__" 165), (.str "law_notefall_k73_heads_written_and_read" 591)⟩ :: ⟨kh P "__doc__", (.str "__doc__" 166), .none⟩ :: ⟨kh P "__package__", (.str "__package__" 167), .none⟩ :: ⟨kh P "__loader__", (.str "__loader__" 168), (.builtin "__main__.__loader__#opaque")⟩ :: ⟨kh P "__spec__", (.str "__spec__" 169), .none⟩ :: ⟨kh P "__annotations__", (.str "__annotations__" 170), (.ref 6)⟩ :: ⟨kh P "__builtins__", (.str "__builtins__" 171), (.ref 4)⟩ :: ⟨kh P "__file__", (.str "__file__" 173), (.str "/claim/cut.py" 172)⟩ :: ⟨kh P "__cached__", (.str "__cached__" 174), .none⟩ :: ⟨kh P "FallError", (.str "FallError" 206), (.ref 24)⟩ :: ⟨kh P "NoRule", (.str "NoRule" 222), (.ref 37)⟩ :: ⟨kh P "NoPage", (.str "NoPage" 238), (.ref 49)⟩ :: ⟨kh P "END", (.str "END" 244), (.int 1000000000000 243)⟩ :: ⟨kh P "MOST_TRAY", (.str "MOST_TRAY" 246), (.int 64 245)⟩ :: ⟨kh P "LEAST_FAN", (.str "LEAST_FAN" 248), (.int 3 247)⟩ :: ⟨kh P "MOST_FAN", (.str "MOST_FAN" 250), (.int 16 249)⟩ :: ⟨kh P "MOST_ROWS", (.str "MOST_ROWS" 252), (.int 64 251)⟩ :: ⟨kh P "PLANS", (.str "PLANS" 255), (.ref 52)⟩ :: ⟨kh P "is_number", (.str "is_number" 262), (.ref 59)⟩ :: ⟨kh P "is_whole", (.str "is_whole" 271), (.ref 66)⟩ :: ⟨kh P "is_whole_from", (.str "is_whole_from" 279), (.ref 73)⟩ :: ⟨kh P "is_key", (.str "is_key" 286), (.ref 80)⟩ :: ⟨kh P "is_stretch", (.str "is_stretch" 294), (.ref 87)⟩ :: ⟨kh P "is_plan", (.str "is_plan" 301), (.ref 94)⟩ :: ⟨kh P "is_rule", (.str "is_rule" 312), (.ref 101)⟩ :: ⟨kh P "GONE", (.str "GONE" 316), (.ref 102)⟩ :: ⟨kh P "is_half", (.str "is_half" 324), (.ref 109)⟩ :: ⟨kh P "is_action", (.str "is_action" 333), (.ref 116)⟩ :: ⟨kh P "MOST_FIGURES", (.str "MOST_FIGURES" 337), (.int 60 336)⟩ :: ⟨kh P "figures_of", (.str "figures_of" 344), (.ref 123)⟩ :: ⟨kh P "are_figures", (.str "are_figures" 351), (.ref 130)⟩ :: ⟨kh P "read_figures", (.str "read_figures" 359), (.ref 137)⟩ :: ⟨kh P "is_note", (.str "is_note" 372), (.ref 144)⟩ :: ⟨kh P "is_rising", (.str "is_rising" 380), (.ref 149)⟩ :: ⟨kh P "are_wholes", (.str "are_wholes" 386), (.ref 154)⟩ :: ⟨kh P "are_rising_from", (.str "are_rising_from" 392), (.ref 159)⟩ :: ⟨kh P "is_version", (.str "is_version" 401), (.ref 166)⟩ :: ⟨kh P "are_versions", (.str "are_versions" 407), (.ref 171)⟩ :: ⟨kh P "is_row", (.str "is_row" 414), (.ref 178)⟩ :: ⟨kh P "are_rows", (.str "are_rows" 420), (.ref 183)⟩ :: ⟨kh P "are_notes", (.str "are_notes" 426), (.ref 188)⟩ :: ⟨kh P "has_word", (.str "has_word" 435), (.ref 195)⟩ :: ⟨kh P "is_leaf_told", (.str "is_leaf_told" 442), (.ref 202)⟩ :: ⟨kh P "is_inner_told", (.str "is_inner_told" 454), (.ref 209)⟩ :: ⟨kh P "list_text", (.str "list_text" 464), (.ref 216)⟩ :: ⟨kh P "numbers_text", (.str "numbers_text" 470), (.ref 221)⟩ :: ⟨kh P "rule_text", (.str "rule_text" 481), (.ref 228)⟩ :: ⟨kh P "head_text", (.str "head_text" 487), (.ref 233)⟩ :: ⟨kh P "read_list", (.str "read_list" 493), (.ref 238)⟩ :: ⟨kh P "read_numbers", (.str "read_numbers" 500), (.ref 245)⟩ :: ⟨kh P "read_version", (.str "read_version" 510), (.ref 252)⟩ :: ⟨kh P "read_row", (.str "read_row" 521), (.ref 259)⟩ :: ⟨kh P "read_half", (.str "read_half" 529), (.ref 266)⟩ :: ⟨kh P "read_note", (.str "read_note" 535), (.ref 271)⟩ :: ⟨kh P "read_spot", (.str "read_spot" 546), (.ref 278)⟩ :: ⟨kh P "read_leaf", (.str "read_leaf" 557), (.ref 285)⟩ :: ⟨kh P "read_inner", (.str "read_inner" 563), (.ref 290)⟩ :: ⟨kh P "is_inner_writable", (.str "is_inner_writable" 569), (.ref 295)⟩ :: ⟨kh P "read_room", (.str "read_room" 578), (.ref 302)⟩ :: ⟨kh P "read_rule", (.str "read_rule" 584), (.ref 307)⟩ :: ⟨kh P "read_head", (.str "read_head" 590), (.ref 312)⟩ :: ⟨kh P "_law_cell_at", (.str "_law_cell_at" 600), (.ref 319)⟩ :: ⟨kh P "_law_digit", (.str "_law_digit" 611), (.ref 326)⟩ :: ⟨kh P "_law_alike", (.str "_law_alike" 617), (.ref 331)⟩ :: ⟨kh P "_law_number", (.str "_law_number" 626), (.ref 338)⟩ :: ⟨kh P "_law_marks", (.str "_law_marks" 638), (.ref 345)⟩ :: ⟨kh P "_law_head", (.str "_law_head" 644), (.ref 350)⟩ :: ⟨kh P "_law_head_text", (.str "_law_head_text" 650), (.ref 355)⟩ :: ⟨kh P "_law_whole", (.str "_law_whole" 656), (.ref 360)⟩ :: ⟨kh P "_law_count", (.str "_law_count" 664), (.ref 367)⟩ :: ⟨kh P "_law_rule_in", (.str "_law_rule_in" 670), (.ref 372)⟩ :: ⟨kh P "_law_read", (.str "_law_read" 676), (.ref 377)⟩ :: ⟨kh P "_law_starts", (.str "_law_starts" 688), (.ref 384)⟩ :: ⟨kh P "_law_sign", (.str "_law_sign" 696), (.ref 391)⟩ :: ⟨kh P "_law_parts_turned", (.str "_law_parts_turned" 709), (.ref 398)⟩ :: ⟨kh P "_law_figures", (.str "_law_figures" 721), (.ref 405)⟩ :: ⟨kh P "_law_spoilt", (.str "_law_spoilt" 733), (.ref 412)⟩ :: ⟨kh P "_law_refused", (.str "_law_refused" 742), (.ref 419)⟩ :: ⟨kh P "_law_holds", (.str "_law_holds" 756), (.ref 426)⟩ :: ⟨kh P "law", (.str "law" 764), (.ref 433)⟩ :: [])) 80), #[]⟩) ::
 (nat_lit 15, ⟨(.type "tuple"), none, (.seq #[(.type "ValueError")] 0), #[]⟩) ::
 (nat_lit 22, ⟨(.type "tuple"), none, (.seq #[] 0), #[]⟩) ::
 (nat_lit 23, ⟨(.type "dict"), none, (.dict (List.toArray (⟨kh P "__module__", (.str "__module__" 196), (.str "notefall.errors" 187)⟩ :: ⟨kh P "__firstlineno__", (.str "__firstlineno__" 200), (.int 2 199)⟩ :: ⟨kh P "__static_attributes__", (.str "__static_attributes__" 201), (.ref 22)⟩ :: ⟨kh P "__weakref__", (.str "__weakref__" 203), (.ref 25)⟩ :: ⟨kh P "__doc__", (.str "__doc__" 204), .none⟩ :: [])) 3), #[]⟩) ::
 (nat_lit 24, ⟨(.type "type"), none, (.cls ⟨"FallError", [(.type "ValueError")], [(.ref 24), (.type "ValueError"), (.type "Exception"), (.type "BaseException"), (.type "object")], 23, "FallError", true, [], [(.ref 37), (.ref 49)], false, none, false⟩), #[(some (.ref 15)), none, (some (.str "FallError" 189)), (some (.str "FallError" 197)), (some (.builtin "ValueError.__new__")), (some (.bool true))]⟩) ::
 (nat_lit 25, ⟨(.type "getset_descriptor"), none, (.fields #[(.str "__weakref__" 202), (.ref 24), (.builtin "ExceptionGroup.__weakref__"), .none]), #[]⟩) ::
 (nat_lit 28, ⟨(.type "tuple"), none, (.seq #[(.ref 24)] 0), #[]⟩) ::
 (nat_lit 35, ⟨(.type "tuple"), none, (.seq #[] 0), #[]⟩) ::
 (nat_lit 36, ⟨(.type "dict"), none, (.dict (List.toArray (⟨kh P "__module__", (.str "__module__" 214), (.str "notefall.errors" 187)⟩ :: ⟨kh P "__firstlineno__", (.str "__firstlineno__" 218), (.int 4 217)⟩ :: ⟨kh P "__static_attributes__", (.str "__static_attributes__" 219), (.ref 35)⟩ :: ⟨kh P "__doc__", (.str "__doc__" 220), .none⟩ :: [])) 2), #[]⟩) ::
 (nat_lit 37, ⟨(.type "type"), none, (.cls ⟨"NoRule", [(.ref 24)], [(.ref 37), (.ref 24), (.type "ValueError"), (.type "Exception"), (.type "BaseException"), (.type "object")], 36, "NoRule", true, [], [], false, none, false⟩), #[(some (.ref 28)), none, (some (.str "NoRule" 207)), (some (.str "NoRule" 215)), (some (.builtin "ValueError.__new__")), (some (.bool true))]⟩) ::
 (nat_lit 40, ⟨(.type "tuple"), none, (.seq #[(.ref 24)] 0), #[]⟩) ::
 (nat_lit 47, ⟨(.type "tuple"), none, (.seq #[] 0), #[]⟩) ::
 (nat_lit 48, ⟨(.type "dict"), none, (.dict (List.toArray (⟨kh P "__module__", (.str "__module__" 230), (.str "notefall.errors" 187)⟩ :: ⟨kh P "__firstlineno__", (.str "__firstlineno__" 234), (.int 6 233)⟩ :: ⟨kh P "__static_attributes__", (.str "__static_attributes__" 235), (.ref 47)⟩ :: ⟨kh P "__doc__", (.str "__doc__" 236), .none⟩ :: [])) 2), #[]⟩) ::
 (nat_lit 49, ⟨(.type "type"), none, (.cls ⟨"NoPage", [(.ref 24)], [(.ref 49), (.ref 24), (.type "ValueError"), (.type "Exception"), (.type "BaseException"), (.type "object")], 48, "NoPage", true, [], [], false, none, false⟩), #[(some (.ref 40)), none, (some (.str "NoPage" 223)), (some (.str "NoPage" 231)), (some (.builtin "ValueError.__new__")), (some (.bool true))]⟩) ::
 (nat_lit 52, ⟨(.type "tuple"), none, (.seq #[(.str "fullest" 253), (.str "eldest" 254)] 0), #[]⟩) ::
 (nat_lit 53, ⟨(.type "tuple"), none, (.seq #[] 0), #[]⟩) ::
 (nat_lit 55, ⟨(.type "tuple"), none, (.seq #[(.str "thing" 259)] 0), #[]⟩) ::
 (nat_lit 56, ⟨(.type "tuple"), none, (.seq #[] 0), #[]⟩) ::
 (nat_lit 58, ⟨(.type "code"), none, (.fields #[(.str "is_number" 256), (.str "is_number" 257), (.str "/claim/cut.py" 258), (.int 15 0), (.int 1 0), (.int 0 0), (.int 0 0), (.int 3 0), (.ref 53), (.bool true), (.int 181 0), (.ref 54), .none, (.ref 55), (.ref 56), (.ref 57), (.int 260 0), (.int 15 0), (.str "/claim/cut.py" 261)]), #[]⟩) ::
 (nat_lit 59, ⟨(.type "function"), none, (.func ⟨"is_number", "is_number", defArgs (top 11), .stmts (defBody (top 11)), defScope (top 11), 3, [], .none, .none, .none, (.str "notefall.wholes" 239), none, (.ref 58), .none, 0⟩), #[]⟩) ::
 (nat_lit 60, ⟨(.type "tuple"), none, (.seq #[] 0), #[]⟩) ::
 (nat_lit 62, ⟨(.type "tuple"), none, (.seq #[(.str "thing" 266), (.str "low" 267), (.str "high" 268)] 0), #[]⟩) ::
 (nat_lit 63, ⟨(.type "tuple"), none, (.seq #[] 0), #[]⟩) ::
 (nat_lit 65, ⟨(.type "code"), none, (.fields #[(.str "is_whole" 263), (.str "is_whole" 264), (.str "/claim/cut.py" 265), (.int 17 0), (.int 3 0), (.int 0 0), (.int 0 0), (.int 3 0), (.ref 60), (.bool true), (.int 181 0), (.ref 61), .none, (.ref 62), (.ref 63), (.ref 64), (.int 269 0), (.int 17 0), (.str "/claim/cut.py" 270)]), #[]⟩) ::
 (nat_lit 66, ⟨(.type "function"), none, (.func ⟨"is_whole", "is_whole", defArgs (top 12), .stmts (defBody (top 12)), defScope (top 12), 3, [], .none, .none, .none, (.str "notefall.wholes" 239), none, (.ref 65), .none, 0⟩), #[]⟩) ::
 (nat_lit 67, ⟨(.type "tuple"), none, (.seq #[] 0), #[]⟩) ::
 (nat_lit 69, ⟨(.type "tuple"), none, (.seq #[(.str "thing" 275), (.str "low" 276)] 0), #[]⟩) ::
 (nat_lit 70, ⟨(.type "tuple"), none, (.seq #[] 0), #[]⟩) ::
 (nat_lit 72, ⟨(.type "code"), none, (.fields #[(.str "is_whole_from" 272), (.str "is_whole_from" 273), (.str "/claim/cut.py" 274), (.int 19 0), (.int 2 0), (.int 0 0), (.int 0 0), (.int 3 0), (.ref 67), (.bool true), (.int 181 0), (.ref 68), .none, (.ref 69), (.ref 70), (.ref 71), (.int 277 0), (.int 19 0), (.str "/claim/cut.py" 278)]), #[]⟩) ::
 (nat_lit 73, ⟨(.type "function"), none, (.func ⟨"is_whole_from", "is_whole_from", defArgs (top 13), .stmts (defBody (top 13)), defScope (top 13), 3, [], .none, .none, .none, (.str "notefall.wholes" 239), none, (.ref 72), .none, 0⟩), #[]⟩) ::
 (nat_lit 74, ⟨(.type "tuple"), none, (.seq #[] 0), #[]⟩) ::
 (nat_lit 76, ⟨(.type "tuple"), none, (.seq #[(.str "thing" 283)] 0), #[]⟩) ::
 (nat_lit 77, ⟨(.type "tuple"), none, (.seq #[] 0), #[]⟩) ::
 (nat_lit 79, ⟨(.type "code"), none, (.fields #[(.str "is_key" 280), (.str "is_key" 281), (.str "/claim/cut.py" 282), (.int 21 0), (.int 1 0), (.int 0 0), (.int 0 0), (.int 3 0), (.ref 74), (.bool true), (.int 181 0), (.ref 75), .none, (.ref 76), (.ref 77), (.ref 78), (.int 284 0), (.int 21 0), (.str "/claim/cut.py" 285)]), #[]⟩) ::
 (nat_lit 80, ⟨(.type "function"), none, (.func ⟨"is_key", "is_key", defArgs (top 14), .stmts (defBody (top 14)), defScope (top 14), 3, [], .none, .none, .none, (.str "notefall.wholes" 239), none, (.ref 79), .none, 0⟩), #[]⟩) ::
 (nat_lit 81, ⟨(.type "tuple"), none, (.seq #[] 0), #[]⟩) ::
 (nat_lit 83, ⟨(.type "tuple"), none, (.seq #[(.str "low" 290), (.str "high" 291)] 0), #[]⟩) ::
 (nat_lit 84, ⟨(.type "tuple"), none, (.seq #[] 0), #[]⟩) ::
 (nat_lit 86, ⟨(.type "code"), none, (.fields #[(.str "is_stretch" 287), (.str "is_stretch" 288), (.str "/claim/cut.py" 289), (.int 23 0), (.int 2 0), (.int 0 0), (.int 0 0), (.int 3 0), (.ref 81), (.bool true), (.int 181 0), (.ref 82), .none, (.ref 83), (.ref 84), (.ref 85), (.int 292 0), (.int 23 0), (.str "/claim/cut.py" 293)]), #[]⟩) ::
 (nat_lit 87, ⟨(.type "function"), none, (.func ⟨"is_stretch", "is_stretch", defArgs (top 15), .stmts (defBody (top 15)), defScope (top 15), 3, [], .none, .none, .none, (.str "notefall.wholes" 239), none, (.ref 86), .none, 0⟩), #[]⟩) ::
 (nat_lit 88, ⟨(.type "tuple"), none, (.seq #[] 0), #[]⟩) ::
 (nat_lit 90, ⟨(.type "tuple"), none, (.seq #[(.str "thing" 298)] 0), #[]⟩) ::
 (nat_lit 91, ⟨(.type "tuple"), none, (.seq #[] 0), #[]⟩) ::
 (nat_lit 93, ⟨(.type "code"), none, (.fields #[(.str "is_plan" 295), (.str "is_plan" 296), (.str "/claim/cut.py" 297), (.int 25 0), (.int 1 0), (.int 0 0), (.int 0 0), (.int 3 0), (.ref 88), (.bool true), (.int 181 0), (.ref 89), .none, (.ref 90), (.ref 91), (.ref 92), (.int 299 0), (.int 25 0), (.str "/claim/cut.py" 300)]), #[]⟩) ::
 (nat_lit 94, ⟨(.type "function"), none, (.func ⟨"is_plan", "is_plan", defArgs (top 16), .stmts (defBody (top 16)), defScope (top 16), 3, [], .none, .none, .none, (.str "notefall.wholes" 239), none, (.ref 93), .none, 0⟩), #[]⟩) ::
 (nat_lit 95, ⟨(.type "tuple"), none, (.seq #[] 0), #[]⟩) ::
 (nat_lit 97, ⟨(.type "tuple"), none, (.seq #[(.str "thing" 305), (.str "tray" 306), (.str "fan" 307), (.str "rows" 308), (.str "plan" 309)] 0), #[]⟩) ::
 (nat_lit 98, ⟨(.type "tuple"), none, (.seq #[] 0), #[]⟩) ::
 (nat_lit 100, ⟨(.type "code"), none, (.fields #[(.str "is_rule" 302), (.str "is_rule" 303), (.str "/claim/cut.py" 304), (.int 27 0), (.int 1 0), (.int 0 0), (.int 0 0), (.int 3 0), (.ref 95), (.bool true), (.int 181 0), (.ref 96), .none, (.ref 97), (.ref 98), (.ref 99), (.int 310 0), (.int 27 0), (.str "/claim/cut.py" 311)]), #[]⟩) ::
 (nat_lit 101, ⟨(.type "function"), none, (.func ⟨"is_rule", "is_rule", defArgs (top 17), .stmts (defBody (top 17)), defScope (top 17), 3, [], .none, .none, .none, (.str "notefall.wholes" 239), none, (.ref 100), .none, 0⟩), #[]⟩) ::
 (nat_lit 102, ⟨(.type "tuple"), none, (.seq #[(.str "gone" 315)] 0), #[]⟩) ::
 (nat_lit 103, ⟨(.type "tuple"), none, (.seq #[] 0), #[]⟩) ::
 (nat_lit 105, ⟨(.type "tuple"), none, (.seq #[(.str "thing" 320), (.str "words" 321)] 0), #[]⟩) ::
 (nat_lit 106, ⟨(.type "tuple"), none, (.seq #[] 0), #[]⟩) ::
 (nat_lit 108, ⟨(.type "code"), none, (.fields #[(.str "is_half" 317), (.str "is_half" 318), (.str "/claim/cut.py" 319), (.int 36 0), (.int 2 0), (.int 0 0), (.int 0 0), (.int 3 0), (.ref 103), (.bool true), (.int 181 0), (.ref 104), .none, (.ref 105), (.ref 106), (.ref 107), (.int 322 0), (.int 36 0), (.str "/claim/cut.py" 323)]), #[]⟩) ::
 (nat_lit 109, ⟨(.type "function"), none, (.func ⟨"is_half", "is_half", defArgs (top 20), .stmts (defBody (top 20)), defScope (top 20), 3, [], .none, .none, .none, (.str "notefall.actions" 313), none, (.ref 108), .none, 0⟩), #[]⟩) ::
 (nat_lit 110, ⟨(.type "tuple"), none, (.seq #[] 0), #[]⟩) ::
 (nat_lit 112, ⟨(.type "tuple"), none, (.seq #[(.str "thing" 328), (.str "there" 329), (.str "none" 330)] 0), #[]⟩) ::
 (nat_lit 113, ⟨(.type "tuple"), none, (.seq #[] 0), #[]⟩) ::
 (nat_lit 115, ⟨(.type "code"), none, (.fields #[(.str "is_action" 325), (.str "is_action" 326), (.str "/claim/cut.py" 327), (.int 42 0), (.int 1 0), (.int 0 0), (.int 0 0), (.int 3 0), (.ref 110), (.bool true), (.int 181 0), (.ref 111), .none, (.ref 112), (.ref 113), (.ref 114), (.int 331 0), (.int 42 0), (.str "/claim/cut.py" 332)]), #[]⟩) ::
 (nat_lit 116, ⟨(.type "function"), none, (.func ⟨"is_action", "is_action", defArgs (top 21), .stmts (defBody (top 21)), defScope (top 21), 3, [], .none, .none, .none, (.str "notefall.actions" 313), none, (.ref 115), .none, 0⟩), #[]⟩) ::
 (nat_lit 117, ⟨(.type "tuple"), none, (.seq #[] 0), #[]⟩) ::
 (nat_lit 119, ⟨(.type "tuple"), none, (.seq #[(.str "number" 341)] 0), #[]⟩) ::
 (nat_lit 120, ⟨(.type "tuple"), none, (.seq #[] 0), #[]⟩) ::
 (nat_lit 122, ⟨(.type "code"), none, (.fields #[(.str "figures_of" 338), (.str "figures_of" 339), (.str "/claim/cut.py" 340), (.int 49 0), (.int 1 0), (.int 0 0), (.int 0 0), (.int 3 0), (.ref 117), (.bool true), (.int 181 0), (.ref 118), .none, (.ref 119), (.ref 120), (.ref 121), (.int 342 0), (.int 49 0), (.str "/claim/cut.py" 343)]), #[]⟩) ::
 (nat_lit 123, ⟨(.type "function"), none, (.func ⟨"figures_of", "figures_of", defArgs (top 24), .stmts (defBody (top 24)), defScope (top 24), 3, [], .none, .none, .none, (.str "notefall.figures" 334), none, (.ref 122), .none, 0⟩), #[]⟩) ::
 (nat_lit 124, ⟨(.type "tuple"), none, (.seq #[] 0), #[]⟩) ::
 (nat_lit 126, ⟨(.type "tuple"), none, (.seq #[(.str "text" 348)] 0), #[]⟩) ::
 (nat_lit 127, ⟨(.type "tuple"), none, (.seq #[] 0), #[]⟩) ::
 (nat_lit 129, ⟨(.type "code"), none, (.fields #[(.str "are_figures" 345), (.str "are_figures" 346), (.str "/claim/cut.py" 347), (.int 51 0), (.int 1 0), (.int 0 0), (.int 0 0), (.int 3 0), (.ref 124), (.bool true), (.int 181 0), (.ref 125), .none, (.ref 126), (.ref 127), (.ref 128), (.int 349 0), (.int 51 0), (.str "/claim/cut.py" 350)]), #[]⟩) ::
 (nat_lit 130, ⟨(.type "function"), none, (.func ⟨"are_figures", "are_figures", defArgs (top 25), .stmts (defBody (top 25)), defScope (top 25), 3, [], .none, .none, .none, (.str "notefall.figures" 334), none, (.ref 129), .none, 0⟩), #[]⟩) ::
 (nat_lit 131, ⟨(.type "tuple"), none, (.seq #[] 0), #[]⟩) ::
 (nat_lit 133, ⟨(.type "tuple"), none, (.seq #[(.str "text" 355), (.str "bare" 356)] 0), #[]⟩) ::
 (nat_lit 134, ⟨(.type "tuple"), none, (.seq #[] 0), #[]⟩) ::
 (nat_lit 136, ⟨(.type "code"), none, (.fields #[(.str "read_figures" 352), (.str "read_figures" 353), (.str "/claim/cut.py" 354), (.int 53 0), (.int 1 0), (.int 0 0), (.int 0 0), (.int 3 0), (.ref 131), (.bool true), (.int 181 0), (.ref 132), .none, (.ref 133), (.ref 134), (.ref 135), (.int 357 0), (.int 53 0), (.str "/claim/cut.py" 358)]), #[]⟩) ::
 (nat_lit 137, ⟨(.type "function"), none, (.func ⟨"read_figures", "read_figures", defArgs (top 26), .stmts (defBody (top 26)), defScope (top 26), 3, [], .none, .none, .none, (.str "notefall.figures" 334), none, (.ref 136), .none, 0⟩), #[]⟩) ::
 (nat_lit 138, ⟨(.type "tuple"), none, (.seq #[] 0), #[]⟩) ::
 (nat_lit 140, ⟨(.type "tuple"), none, (.seq #[(.str "thing" 365), (.str "number" 366), (.str "low" 367), (.str "high" 368), (.str "action" 369)] 0), #[]⟩) ::
 (nat_lit 141, ⟨(.type "tuple"), none, (.seq #[] 0), #[]⟩) ::
 (nat_lit 143, ⟨(.type "code"), none, (.fields #[(.str "is_note" 362), (.str "is_note" 363), (.str "/claim/cut.py" 364), (.int 63 0), (.int 1 0), (.int 0 0), (.int 0 0), (.int 3 0), (.ref 138), (.bool true), (.int 181 0), (.ref 139), .none, (.ref 140), (.ref 141), (.ref 142), (.int 370 0), (.int 63 0), (.str "/claim/cut.py" 371)]), #[]⟩) ::
 (nat_lit 144, ⟨(.type "function"), none, (.func ⟨"is_note", "is_note", defArgs (top 28), .stmts (defBody (top 28)), defScope (top 28), 3, [], .none, .none, .none, (.str "notefall.notes" 360), none, (.ref 143), .none, 0⟩), #[]⟩) ::
 (nat_lit 145, ⟨(.type "tuple"), none, (.seq #[] 0), #[]⟩) ::
 (nat_lit 148, ⟨(.type "code"), none, (.fields #[(.str "is_rising" 375), (.str "is_rising" 376), (.str "/claim/cut.py" 377), (.int 71 0), (.int 1 0), (.int 0 0), (.int 0 0), (.int 3 0), (.ref 145), (.bool true), (.int 181 0), (.ref 146), .none, .none, .none, (.ref 147), (.int 378 0), (.int 71 0), (.str "/claim/cut.py" 379)]), #[]⟩) ::
 (nat_lit 149, ⟨(.type "function"), none, (.func ⟨"is_rising", "is_rising", defArgs (top 30), .stmts (defBody (top 30)), defScope (top 30), 3, [], .none, .none, .none, (.str "notefall.shapes" 373), none, (.ref 148), .none, 0⟩), #[]⟩) ::
 (nat_lit 150, ⟨(.type "tuple"), none, (.seq #[] 0), #[]⟩) ::
 (nat_lit 153, ⟨(.type "code"), none, (.fields #[(.str "are_wholes" 381), (.str "are_wholes" 382), (.str "/claim/cut.py" 383), (.int 73 0), (.int 1 0), (.int 0 0), (.int 0 0), (.int 3 0), (.ref 150), (.bool true), (.int 181 0), (.ref 151), .none, .none, .none, (.ref 152), (.int 384 0), (.int 73 0), (.str "/claim/cut.py" 385)]), #[]⟩) ::
 (nat_lit 154, ⟨(.type "function"), none, (.func ⟨"are_wholes", "are_wholes", defArgs (top 31), .stmts (defBody (top 31)), defScope (top 31), 3, [], .none, .none, .none, (.str "notefall.shapes" 373), none, (.ref 153), .none, 0⟩), #[]⟩) ::
 (nat_lit 155, ⟨(.type "tuple"), none, (.seq #[] 0), #[]⟩) ::
 (nat_lit 158, ⟨(.type "code"), none, (.fields #[(.str "are_rising_from" 387), (.str "are_rising_from" 388), (.str "/claim/cut.py" 389), (.int 75 0), (.int 2 0), (.int 0 0), (.int 0 0), (.int 3 0), (.ref 155), (.bool true), (.int 181 0), (.ref 156), .none, .none, .none, (.ref 157), (.int 390 0), (.int 75 0), (.str "/claim/cut.py" 391)]), #[]⟩) ::
 (nat_lit 159, ⟨(.type "function"), none, (.func ⟨"are_rising_from", "are_rising_from", defArgs (top 32), .stmts (defBody (top 32)), defScope (top 32), 3, [], .none, .none, .none, (.str "notefall.shapes" 373), none, (.ref 158), .none, 0⟩), #[]⟩) ::
 (nat_lit 160, ⟨(.type "tuple"), none, (.seq #[] 0), #[]⟩) ::
 (nat_lit 162, ⟨(.type "tuple"), none, (.seq #[(.str "thing" 396), (.str "number" 397), (.str "value" 398)] 0), #[]⟩) ::
 (nat_lit 163, ⟨(.type "tuple"), none, (.seq #[] 0), #[]⟩) ::
 (nat_lit 165, ⟨(.type "code"), none, (.fields #[(.str "is_version" 393), (.str "is_version" 394), (.str "/claim/cut.py" 395), (.int 77 0), (.int 1 0), (.int 0 0), (.int 0 0), (.int 3 0), (.ref 160), (.bool true), (.int 181 0), (.ref 161), .none, (.ref 162), (.ref 163), (.ref 164), (.int 399 0), (.int 77 0), (.str "/claim/cut.py" 400)]), #[]⟩) ::
 (nat_lit 166, ⟨(.type "function"), none, (.func ⟨"is_version", "is_version", defArgs (top 33), .stmts (defBody (top 33)), defScope (top 33), 3, [], .none, .none, .none, (.str "notefall.shapes" 373), none, (.ref 165), .none, 0⟩), #[]⟩) ::
 (nat_lit 167, ⟨(.type "tuple"), none, (.seq #[] 0), #[]⟩) ::
 (nat_lit 170, ⟨(.type "code"), none, (.fields #[(.str "are_versions" 402), (.str "are_versions" 403), (.str "/claim/cut.py" 404), (.int 82 0), (.int 1 0), (.int 0 0), (.int 0 0), (.int 3 0), (.ref 167), (.bool true), (.int 181 0), (.ref 168), .none, .none, .none, (.ref 169), (.int 405 0), (.int 82 0), (.str "/claim/cut.py" 406)]), #[]⟩) ::
 (nat_lit 171, ⟨(.type "function"), none, (.func ⟨"are_versions", "are_versions", defArgs (top 34), .stmts (defBody (top 34)), defScope (top 34), 3, [], .none, .none, .none, (.str "notefall.shapes" 373), none, (.ref 170), .none, 0⟩), #[]⟩) ::
 (nat_lit 172, ⟨(.type "tuple"), none, (.seq #[] 0), #[]⟩) ::
 (nat_lit 174, ⟨(.type "tuple"), none, (.seq #[(.str "thing" 411)] 0), #[]⟩) ::
 (nat_lit 175, ⟨(.type "tuple"), none, (.seq #[] 0), #[]⟩) ::
 (nat_lit 177, ⟨(.type "code"), none, (.fields #[(.str "is_row" 408), (.str "is_row" 409), (.str "/claim/cut.py" 410), (.int 86 0), (.int 1 0), (.int 0 0), (.int 0 0), (.int 3 0), (.ref 172), (.bool true), (.int 181 0), (.ref 173), .none, (.ref 174), (.ref 175), (.ref 176), (.int 412 0), (.int 86 0), (.str "/claim/cut.py" 413)]), #[]⟩) ::
 (nat_lit 178, ⟨(.type "function"), none, (.func ⟨"is_row", "is_row", defArgs (top 35), .stmts (defBody (top 35)), defScope (top 35), 3, [], .none, .none, .none, (.str "notefall.shapes" 373), none, (.ref 177), .none, 0⟩), #[]⟩) ::
 (nat_lit 179, ⟨(.type "tuple"), none, (.seq #[] 0), #[]⟩) ::
 (nat_lit 182, ⟨(.type "code"), none, (.fields #[(.str "are_rows" 415), (.str "are_rows" 416), (.str "/claim/cut.py" 417), (.int 88 0), (.int 1 0), (.int 0 0), (.int 0 0), (.int 3 0), (.ref 179), (.bool true), (.int 181 0), (.ref 180), .none, .none, .none, (.ref 181), (.int 418 0), (.int 88 0), (.str "/claim/cut.py" 419)]), #[]⟩) ::
 (nat_lit 183, ⟨(.type "function"), none, (.func ⟨"are_rows", "are_rows", defArgs (top 36), .stmts (defBody (top 36)), defScope (top 36), 3, [], .none, .none, .none, (.str "notefall.shapes" 373), none, (.ref 182), .none, 0⟩), #[]⟩) ::
 (nat_lit 184, ⟨(.type "tuple"), none, (.seq #[] 0), #[]⟩) ::
 (nat_lit 187, ⟨(.type "code"), none, (.fields #[(.str "are_notes" 421), (.str "are_notes" 422), (.str "/claim/cut.py" 423), (.int 92 0), (.int 1 0), (.int 0 0), (.int 0 0), (.int 3 0), (.ref 184), (.bool true), (.int 181 0), (.ref 185), .none, .none, .none, (.ref 186), (.int 424 0), (.int 92 0), (.str "/claim/cut.py" 425)]), #[]⟩) ::
 (nat_lit 188, ⟨(.type "function"), none, (.func ⟨"are_notes", "are_notes", defArgs (top 37), .stmts (defBody (top 37)), defScope (top 37), 3, [], .none, .none, .none, (.str "notefall.shapes" 373), none, (.ref 187), .none, 0⟩), #[]⟩) ::
 (nat_lit 189, ⟨(.type "tuple"), none, (.seq #[] 0), #[]⟩) ::
 (nat_lit 191, ⟨(.type "tuple"), none, (.seq #[(.str "thing" 430), (.str "word" 431), (.str "many" 432)] 0), #[]⟩) ::
 (nat_lit 192, ⟨(.type "tuple"), none, (.seq #[] 0), #[]⟩) ::
 (nat_lit 194, ⟨(.type "code"), none, (.fields #[(.str "has_word" 427), (.str "has_word" 428), (.str "/claim/cut.py" 429), (.int 94 0), (.int 3 0), (.int 0 0), (.int 0 0), (.int 3 0), (.ref 189), (.bool true), (.int 181 0), (.ref 190), .none, (.ref 191), (.ref 192), (.ref 193), (.int 433 0), (.int 94 0), (.str "/claim/cut.py" 434)]), #[]⟩) ::
 (nat_lit 195, ⟨(.type "function"), none, (.func ⟨"has_word", "has_word", defArgs (top 38), .stmts (defBody (top 38)), defScope (top 38), 3, [], .none, .none, .none, (.str "notefall.shapes" 373), none, (.ref 194), .none, 0⟩), #[]⟩) ::
 (nat_lit 196, ⟨(.type "tuple"), none, (.seq #[] 0), #[]⟩) ::
 (nat_lit 198, ⟨(.type "tuple"), none, (.seq #[(.str "thing" 439)] 0), #[]⟩) ::
 (nat_lit 199, ⟨(.type "tuple"), none, (.seq #[] 0), #[]⟩) ::
 (nat_lit 201, ⟨(.type "code"), none, (.fields #[(.str "is_leaf_told" 436), (.str "is_leaf_told" 437), (.str "/claim/cut.py" 438), (.int 98 0), (.int 1 0), (.int 0 0), (.int 0 0), (.int 3 0), (.ref 196), (.bool true), (.int 181 0), (.ref 197), .none, (.ref 198), (.ref 199), (.ref 200), (.int 440 0), (.int 98 0), (.str "/claim/cut.py" 441)]), #[]⟩) ::
 (nat_lit 202, ⟨(.type "function"), none, (.func ⟨"is_leaf_told", "is_leaf_told", defArgs (top 39), .stmts (defBody (top 39)), defScope (top 39), 3, [], .none, .none, .none, (.str "notefall.shapes" 373), none, (.ref 201), .none, 0⟩), #[]⟩) ::
 (nat_lit 203, ⟨(.type "tuple"), none, (.seq #[] 0), #[]⟩) ::
 (nat_lit 205, ⟨(.type "tuple"), none, (.seq #[(.str "thing" 446), (.str "word" 447), (.str "number" 448), (.str "pivots" 449), (.str "children" 450), (.str "tray" 451)] 0), #[]⟩) ::
 (nat_lit 206, ⟨(.type "tuple"), none, (.seq #[] 0), #[]⟩) ::
 (nat_lit 208, ⟨(.type "code"), none, (.fields #[(.str "is_inner_told" 443), (.str "is_inner_told" 444), (.str "/claim/cut.py" 445), (.int 100 0), (.int 1 0), (.int 0 0), (.int 0 0), (.int 3 0), (.ref 203), (.bool true), (.int 181 0), (.ref 204), .none, (.ref 205), (.ref 206), (.ref 207), (.int 452 0), (.int 100 0), (.str "/claim/cut.py" 453)]), #[]⟩) ::
 (nat_lit 209, ⟨(.type "function"), none, (.func ⟨"is_inner_told", "is_inner_told", defArgs (top 40), .stmts (defBody (top 40)), defScope (top 40), 3, [], .none, .none, .none, (.str "notefall.shapes" 373), none, (.ref 208), .none, 0⟩), #[]⟩) ::
 (nat_lit 210, ⟨(.type "tuple"), none, (.seq #[] 0), #[]⟩) ::
 (nat_lit 212, ⟨(.type "tuple"), none, (.seq #[(.str "texts" 460), (.str "sign" 461)] 0), #[]⟩) ::
 (nat_lit 213, ⟨(.type "tuple"), none, (.seq #[] 0), #[]⟩) ::
 (nat_lit 215, ⟨(.type "code"), none, (.fields #[(.str "list_text" 457), (.str "list_text" 458), (.str "/claim/cut.py" 459), (.int 106 0), (.int 2 0), (.int 0 0), (.int 0 0), (.int 3 0), (.ref 210), (.bool true), (.int 181 0), (.ref 211), .none, (.ref 212), (.ref 213), (.ref 214), (.int 462 0), (.int 106 0), (.str "/claim/cut.py" 463)]), #[]⟩) ::
 (nat_lit 216, ⟨(.type "function"), none, (.func ⟨"list_text", "list_text", defArgs (top 42), .stmts (defBody (top 42)), defScope (top 42), 3, [], .none, .none, .none, (.str "notefall.pages" 455), none, (.ref 215), .none, 0⟩), #[]⟩) ::
 (nat_lit 217, ⟨(.type "tuple"), none, (.seq #[] 0), #[]⟩) ::
 (nat_lit 220, ⟨(.type "code"), none, (.fields #[(.str "numbers_text" 465), (.str "numbers_text" 466), (.str "/claim/cut.py" 467), (.int 108 0), (.int 1 0), (.int 0 0), (.int 0 0), (.int 3 0), (.ref 217), (.bool true), (.int 181 0), (.ref 218), .none, .none, .none, (.ref 219), (.int 468 0), (.int 108 0), (.str "/claim/cut.py" 469)]), #[]⟩) ::
 (nat_lit 221, ⟨(.type "function"), none, (.func ⟨"numbers_text", "numbers_text", defArgs (top 43), .stmts (defBody (top 43)), defScope (top 43), 3, [], .none, .none, .none, (.str "notefall.pages" 455), none, (.ref 220), .none, 0⟩), #[]⟩) ::
 (nat_lit 222, ⟨(.type "tuple"), none, (.seq #[] 0), #[]⟩) ::
 (nat_lit 224, ⟨(.type "tuple"), none, (.seq #[(.str "rule" 474), (.str "tray" 475), (.str "fan" 476), (.str "rows" 477), (.str "plan" 478)] 0), #[]⟩) ::
 (nat_lit 225, ⟨(.type "tuple"), none, (.seq #[] 0), #[]⟩) ::
 (nat_lit 227, ⟨(.type "code"), none, (.fields #[(.str "rule_text" 471), (.str "rule_text" 472), (.str "/claim/cut.py" 473), (.int 110 0), (.int 1 0), (.int 0 0), (.int 0 0), (.int 3 0), (.ref 222), (.bool true), (.int 181 0), (.ref 223), .none, (.ref 224), (.ref 225), (.ref 226), (.int 479 0), (.int 110 0), (.str "/claim/cut.py" 480)]), #[]⟩) ::
 (nat_lit 228, ⟨(.type "function"), none, (.func ⟨"rule_text", "rule_text", defArgs (top 44), .stmts (defBody (top 44)), defScope (top 44), 3, [], .none, .none, .none, (.str "notefall.pages" 455), none, (.ref 227), .none, 0⟩), #[]⟩) ::
 (nat_lit 229, ⟨(.type "tuple"), none, (.seq #[] 0), #[]⟩) ::
 (nat_lit 232, ⟨(.type "code"), none, (.fields #[(.str "head_text" 482), (.str "head_text" 483), (.str "/claim/cut.py" 484), (.int 113 0), (.int 1 0), (.int 0 0), (.int 0 0), (.int 3 0), (.ref 229), (.bool true), (.int 181 0), (.ref 230), .none, .none, .none, (.ref 231), (.int 485 0), (.int 113 0), (.str "/claim/cut.py" 486)]), #[]⟩) ::
 (nat_lit 233, ⟨(.type "function"), none, (.func ⟨"head_text", "head_text", defArgs (top 45), .stmts (defBody (top 45)), defScope (top 45), 3, [], .none, .none, .none, (.str "notefall.pages" 455), none, (.ref 232), .none, 0⟩), #[]⟩) ::
 (nat_lit 234, ⟨(.type "tuple"), none, (.seq #[] 0), #[]⟩) ::
 (nat_lit 237, ⟨(.type "code"), none, (.fields #[(.str "read_list" 488), (.str "read_list" 489), (.str "/claim/cut.py" 490), (.int 117 0), (.int 3 0), (.int 0 0), (.int 0 0), (.int 3 0), (.ref 234), (.bool true), (.int 181 0), (.ref 235), .none, .none, .none, (.ref 236), (.int 491 0), (.int 117 0), (.str "/claim/cut.py" 492)]), #[]⟩) ::
 (nat_lit 238, ⟨(.type "function"), none, (.func ⟨"read_list", "read_list", defArgs (top 46), .stmts (defBody (top 46)), defScope (top 46), 3, [], .none, .none, .none, (.str "notefall.pages" 455), none, (.ref 237), .none, 0⟩), #[]⟩) ::
 (nat_lit 239, ⟨(.type "tuple"), none, (.seq #[] 0), #[]⟩) ::
 (nat_lit 241, ⟨(.type "tuple"), none, (.seq #[(.str "text" 497)] 0), #[]⟩) ::
 (nat_lit 242, ⟨(.type "tuple"), none, (.seq #[] 0), #[]⟩) ::
 (nat_lit 244, ⟨(.type "code"), none, (.fields #[(.str "read_numbers" 494), (.str "read_numbers" 495), (.str "/claim/cut.py" 496), (.int 122 0), (.int 1 0), (.int 0 0), (.int 0 0), (.int 3 0), (.ref 239), (.bool true), (.int 181 0), (.ref 240), .none, (.ref 241), (.ref 242), (.ref 243), (.int 498 0), (.int 122 0), (.str "/claim/cut.py" 499)]), #[]⟩) ::
 (nat_lit 245, ⟨(.type "function"), none, (.func ⟨"read_numbers", "read_numbers", defArgs (top 47), .stmts (defBody (top 47)), defScope (top 47), 3, [], .none, .none, .none, (.str "notefall.pages" 455), none, (.ref 244), .none, 0⟩), #[]⟩) ::
 (nat_lit 246, ⟨(.type "tuple"), none, (.seq #[] 0), #[]⟩) ::
 (nat_lit 248, ⟨(.type "tuple"), none, (.seq #[(.str "text" 504), (.str "number" 505), (.str "colon" 506), (.str "value" 507)] 0), #[]⟩) ::
 (nat_lit 249, ⟨(.type "tuple"), none, (.seq #[] 0), #[]⟩) ::
 (nat_lit 251, ⟨(.type "code"), none, (.fields #[(.str "read_version" 501), (.str "read_version" 502), (.str "/claim/cut.py" 503), (.int 124 0), (.int 1 0), (.int 0 0), (.int 0 0), (.int 3 0), (.ref 246), (.bool true), (.int 181 0), (.ref 247), .none, (.ref 248), (.ref 249), (.ref 250), (.int 508 0), (.int 124 0), (.str "/claim/cut.py" 509)]), #[]⟩) ::
 (nat_lit 252, ⟨(.type "function"), none, (.func ⟨"read_version", "read_version", defArgs (top 48), .stmts (defBody (top 48)), defScope (top 48), 3, [], .none, .none, .none, (.str "notefall.pages" 455), none, (.ref 251), .none, 0⟩), #[]⟩) ::
 (nat_lit 253, ⟨(.type "tuple"), none, (.seq #[] 0), #[]⟩) ::
 (nat_lit 255, ⟨(.type "tuple"), none, (.seq #[(.str "text" 514), (.str "key" 515), (.str "sign" 516), (.str "versions" 517), (.str "told" 518)] 0), #[]⟩) ::
 (nat_lit 256, ⟨(.type "tuple"), none, (.seq #[] 0), #[]⟩) ::
 (nat_lit 258, ⟨(.type "code"), none, (.fields #[(.str "read_row" 511), (.str "read_row" 512), (.str "/claim/cut.py" 513), (.int 129 0), (.int 1 0), (.int 0 0), (.int 0 0), (.int 3 0), (.ref 253), (.bool true), (.int 181 0), (.ref 254), .none, (.ref 255), (.ref 256), (.ref 257), (.int 519 0), (.int 129 0), (.str "/claim/cut.py" 520)]), #[]⟩) ::
 (nat_lit 259, ⟨(.type "function"), none, (.func ⟨"read_row", "read_row", defArgs (top 49), .stmts (defBody (top 49)), defScope (top 49), 3, [], .none, .none, .none, (.str "notefall.pages" 455), none, (.ref 258), .none, 0⟩), #[]⟩) ::
 (nat_lit 260, ⟨(.type "tuple"), none, (.seq #[] 0), #[]⟩) ::
 (nat_lit 262, ⟨(.type "tuple"), none, (.seq #[(.str "text" 525), (.str "number" 526)] 0), #[]⟩) ::
 (nat_lit 263, ⟨(.type "tuple"), none, (.seq #[] 0), #[]⟩) ::
 (nat_lit 265, ⟨(.type "code"), none, (.fields #[(.str "read_half" 522), (.str "read_half" 523), (.str "/claim/cut.py" 524), (.int 133 0), (.int 1 0), (.int 0 0), (.int 0 0), (.int 3 0), (.ref 260), (.bool true), (.int 181 0), (.ref 261), .none, (.ref 262), (.ref 263), (.ref 264), (.int 527 0), (.int 133 0), (.str "/claim/cut.py" 528)]), #[]⟩) ::
 (nat_lit 266, ⟨(.type "function"), none, (.func ⟨"read_half", "read_half", defArgs (top 50), .stmts (defBody (top 50)), defScope (top 50), 3, [], .none, .none, .none, (.str "notefall.pages" 455), none, (.ref 265), .none, 0⟩), #[]⟩) ::
 (nat_lit 267, ⟨(.type "tuple"), none, (.seq #[] 0), #[]⟩) ::
 (nat_lit 270, ⟨(.type "code"), none, (.fields #[(.str "read_note" 530), (.str "read_note" 531), (.str "/claim/cut.py" 532), (.int 140 0), (.int 1 0), (.int 0 0), (.int 0 0), (.int 3 0), (.ref 267), (.bool true), (.int 181 0), (.ref 268), .none, .none, .none, (.ref 269), (.int 533 0), (.int 140 0), (.str "/claim/cut.py" 534)]), #[]⟩) ::
 (nat_lit 271, ⟨(.type "function"), none, (.func ⟨"read_note", "read_note", defArgs (top 51), .stmts (defBody (top 51)), defScope (top 51), 3, [], .none, .none, .none, (.str "notefall.pages" 455), none, (.ref 270), .none, 0⟩), #[]⟩) ::
 (nat_lit 272, ⟨(.type "tuple"), none, (.seq #[] 0), #[]⟩) ::
 (nat_lit 274, ⟨(.type "tuple"), none, (.seq #[(.str "text" 539), (.str "child" 540), (.str "sign" 541), (.str "place" 542), (.str "told" 543)] 0), #[]⟩) ::
 (nat_lit 275, ⟨(.type "tuple"), none, (.seq #[] 0), #[]⟩) ::
 (nat_lit 277, ⟨(.type "code"), none, (.fields #[(.str "read_spot" 536), (.str "read_spot" 537), (.str "/claim/cut.py" 538), (.int 147 0), (.int 1 0), (.int 0 0), (.int 0 0), (.int 3 0), (.ref 272), (.bool true), (.int 181 0), (.ref 273), .none, (.ref 274), (.ref 275), (.ref 276), (.int 544 0), (.int 147 0), (.str "/claim/cut.py" 545)]), #[]⟩) ::
 (nat_lit 278, ⟨(.type "function"), none, (.func ⟨"read_spot", "read_spot", defArgs (top 52), .stmts (defBody (top 52)), defScope (top 52), 3, [], .none, .none, .none, (.str "notefall.pages" 455), none, (.ref 277), .none, 0⟩), #[]⟩) ::
 (nat_lit 279, ⟨(.type "tuple"), none, (.seq #[] 0), #[]⟩) ::
 (nat_lit 281, ⟨(.type "tuple"), none, (.seq #[(.str "pieces" 550), (.str "word" 551), (.str "number" 552), (.str "rows" 553), (.str "leaf" 554)] 0), #[]⟩) ::
 (nat_lit 282, ⟨(.type "tuple"), none, (.seq #[] 0), #[]⟩) ::
 (nat_lit 284, ⟨(.type "code"), none, (.fields #[(.str "read_leaf" 547), (.str "read_leaf" 548), (.str "/claim/cut.py" 549), (.int 151 0), (.int 1 0), (.int 0 0), (.int 0 0), (.int 3 0), (.ref 279), (.bool true), (.int 181 0), (.ref 280), .none, (.ref 281), (.ref 282), (.ref 283), (.int 555 0), (.int 151 0), (.str "/claim/cut.py" 556)]), #[]⟩) ::
 (nat_lit 285, ⟨(.type "function"), none, (.func ⟨"read_leaf", "read_leaf", defArgs (top 53), .stmts (defBody (top 53)), defScope (top 53), 3, [], .none, .none, .none, (.str "notefall.pages" 455), none, (.ref 284), .none, 0⟩), #[]⟩) ::
 (nat_lit 286, ⟨(.type "tuple"), none, (.seq #[] 0), #[]⟩) ::
 (nat_lit 289, ⟨(.type "code"), none, (.fields #[(.str "read_inner" 558), (.str "read_inner" 559), (.str "/claim/cut.py" 560), (.int 155 0), (.int 1 0), (.int 0 0), (.int 0 0), (.int 3 0), (.ref 286), (.bool true), (.int 181 0), (.ref 287), .none, .none, .none, (.ref 288), (.int 561 0), (.int 155 0), (.str "/claim/cut.py" 562)]), #[]⟩) ::
 (nat_lit 290, ⟨(.type "function"), none, (.func ⟨"read_inner", "read_inner", defArgs (top 54), .stmts (defBody (top 54)), defScope (top 54), 3, [], .none, .none, .none, (.str "notefall.pages" 455), none, (.ref 289), .none, 0⟩), #[]⟩) ::
 (nat_lit 291, ⟨(.type "tuple"), none, (.seq #[] 0), #[]⟩) ::
 (nat_lit 294, ⟨(.type "code"), none, (.fields #[(.str "is_inner_writable" 564), (.str "is_inner_writable" 565), (.str "/claim/cut.py" 566), (.int 164 0), (.int 2 0), (.int 0 0), (.int 0 0), (.int 3 0), (.ref 291), (.bool true), (.int 181 0), (.ref 292), .none, .none, .none, (.ref 293), (.int 567 0), (.int 164 0), (.str "/claim/cut.py" 568)]), #[]⟩) ::
 (nat_lit 295, ⟨(.type "function"), none, (.func ⟨"is_inner_writable", "is_inner_writable", defArgs (top 55), .stmts (defBody (top 55)), defScope (top 55), 3, [], .none, .none, .none, (.str "notefall.pages" 455), none, (.ref 294), .none, 0⟩), #[]⟩) ::
 (nat_lit 296, ⟨(.type "tuple"), none, (.seq #[] 0), #[]⟩) ::
 (nat_lit 298, ⟨(.type "tuple"), none, (.seq #[(.str "text" 573), (.str "pieces" 574), (.str "told" 575)] 0), #[]⟩) ::
 (nat_lit 299, ⟨(.type "tuple"), none, (.seq #[] 0), #[]⟩) ::
 (nat_lit 301, ⟨(.type "code"), none, (.fields #[(.str "read_room" 570), (.str "read_room" 571), (.str "/claim/cut.py" 572), (.int 169 0), (.int 1 0), (.int 0 0), (.int 0 0), (.int 3 0), (.ref 296), (.bool true), (.int 181 0), (.ref 297), .none, (.ref 298), (.ref 299), (.ref 300), (.int 576 0), (.int 169 0), (.str "/claim/cut.py" 577)]), #[]⟩) ::
 (nat_lit 302, ⟨(.type "function"), none, (.func ⟨"read_room", "read_room", defArgs (top 56), .stmts (defBody (top 56)), defScope (top 56), 3, [], .none, .none, .none, (.str "notefall.pages" 455), none, (.ref 301), .none, 0⟩), #[]⟩) ::
 (nat_lit 303, ⟨(.type "tuple"), none, (.seq #[] 0), #[]⟩) ::
 (nat_lit 306, ⟨(.type "code"), none, (.fields #[(.str "read_rule" 579), (.str "read_rule" 580), (.str "/claim/cut.py" 581), (.int 181 0), (.int 1 0), (.int 0 0), (.int 0 0), (.int 3 0), (.ref 303), (.bool true), (.int 181 0), (.ref 304), .none, .none, .none, (.ref 305), (.int 582 0), (.int 181 0), (.str "/claim/cut.py" 583)]), #[]⟩) ::
 (nat_lit 307, ⟨(.type "function"), none, (.func ⟨"read_rule", "read_rule", defArgs (top 57), .stmts (defBody (top 57)), defScope (top 57), 3, [], .none, .none, .none, (.str "notefall.pages" 455), none, (.ref 306), .none, 0⟩), #[]⟩) ::
 (nat_lit 308, ⟨(.type "tuple"), none, (.seq #[] 0), #[]⟩) ::
 (nat_lit 311, ⟨(.type "code"), none, (.fields #[(.str "read_head" 585), (.str "read_head" 586), (.str "/claim/cut.py" 587), (.int 185 0), (.int 1 0), (.int 0 0), (.int 0 0), (.int 3 0), (.ref 308), (.bool true), (.int 181 0), (.ref 309), .none, .none, .none, (.ref 310), (.int 588 0), (.int 185 0), (.str "/claim/cut.py" 589)]), #[]⟩) ::
 (nat_lit 312, ⟨(.type "function"), none, (.func ⟨"read_head", "read_head", defArgs (top 58), .stmts (defBody (top 58)), defScope (top 58), 3, [], .none, .none, .none, (.str "notefall.pages" 455), none, (.ref 311), .none, 0⟩), #[]⟩) ::
 (nat_lit 313, ⟨(.type "tuple"), none, (.seq #[] 0), #[]⟩) ::
 (nat_lit 315, ⟨(.type "tuple"), none, (.seq #[(.str "_law_script" 596), (.str "_law_k" 597)] 0), #[]⟩) ::
 (nat_lit 316, ⟨(.type "tuple"), none, (.seq #[] 0), #[]⟩) ::
 (nat_lit 318, ⟨(.type "code"), none, (.fields #[(.str "_law_cell_at" 593), (.str "_law_cell_at" 594), (.str "/claim/cut.py" 595), (.int 198 0), (.int 2 0), (.int 0 0), (.int 0 0), (.int 3 0), (.ref 313), (.bool true), (.int 181 0), (.ref 314), .none, (.ref 315), (.ref 316), (.ref 317), (.int 598 0), (.int 198 0), (.str "/claim/cut.py" 599)]), #[]⟩) ::
 (nat_lit 319, ⟨(.type "function"), none, (.func ⟨"_law_cell_at", "_law_cell_at", defArgs (top 60), .stmts (defBody (top 60)), defScope (top 60), 3, [], .none, .none, .none, (.str "law_notefall_k73_heads_written_and_read" 591), none, (.ref 318), .none, 0⟩), #[]⟩) ::
 (nat_lit 320, ⟨(.type "tuple"), none, (.seq #[] 0), #[]⟩) ::
 (nat_lit 322, ⟨(.type "tuple"), none, (.seq #[(.str "_law_state" 604), (.str "_law_base" 605), (.str "_law_cell" 606), (.str "_law_found" 607), (.str "_law_number_here" 608)] 0), #[]⟩) ::
 (nat_lit 323, ⟨(.type "tuple"), none, (.seq #[] 0), #[]⟩) ::
 (nat_lit 325, ⟨(.type "code"), none, (.fields #[(.str "_law_digit" 601), (.str "_law_digit" 602), (.str "/claim/cut.py" 603), (.int 202 0), (.int 2 0), (.int 0 0), (.int 0 0), (.int 3 0), (.ref 320), (.bool true), (.int 181 0), (.ref 321), .none, (.ref 322), (.ref 323), (.ref 324), (.int 609 0), (.int 202 0), (.str "/claim/cut.py" 610)]), #[]⟩) ::
 (nat_lit 326, ⟨(.type "function"), none, (.func ⟨"_law_digit", "_law_digit", defArgs (top 61), .stmts (defBody (top 61)), defScope (top 61), 3, [], .none, .none, .none, (.str "law_notefall_k73_heads_written_and_read" 591), none, (.ref 325), .none, 0⟩), #[]⟩) ::
 (nat_lit 327, ⟨(.type "tuple"), none, (.seq #[] 0), #[]⟩) ::
 (nat_lit 330, ⟨(.type "code"), none, (.fields #[(.str "_law_alike" 612), (.str "_law_alike" 613), (.str "/claim/cut.py" 614), (.int 215 0), (.int 2 0), (.int 0 0), (.int 0 0), (.int 3 0), (.ref 327), (.bool true), (.int 181 0), (.ref 328), .none, .none, .none, (.ref 329), (.int 615 0), (.int 215 0), (.str "/claim/cut.py" 616)]), #[]⟩) ::
 (nat_lit 331, ⟨(.type "function"), none, (.func ⟨"_law_alike", "_law_alike", defArgs (top 62), .stmts (defBody (top 62)), defScope (top 62), 3, [], .none, .none, .none, (.str "law_notefall_k73_heads_written_and_read" 591), none, (.ref 330), .none, 0⟩), #[]⟩) ::
 (nat_lit 332, ⟨(.type "tuple"), none, (.seq #[] 0), #[]⟩) ::
 (nat_lit 334, ⟨(.type "tuple"), none, (.seq #[(.str "_law_state" 621), (.str "_law_way" 622), (.str "_law_found" 623)] 0), #[]⟩) ::
 (nat_lit 335, ⟨(.type "tuple"), none, (.seq #[] 0), #[]⟩) ::
 (nat_lit 337, ⟨(.type "code"), none, (.fields #[(.str "_law_number" 618), (.str "_law_number" 619), (.str "/claim/cut.py" 620), (.int 227 0), (.int 1 0), (.int 0 0), (.int 0 0), (.int 3 0), (.ref 332), (.bool true), (.int 181 0), (.ref 333), .none, (.ref 334), (.ref 335), (.ref 336), (.int 624 0), (.int 227 0), (.str "/claim/cut.py" 625)]), #[]⟩) ::
 (nat_lit 338, ⟨(.type "function"), none, (.func ⟨"_law_number", "_law_number", defArgs (top 63), .stmts (defBody (top 63)), defScope (top 63), 3, [], .none, .none, .none, (.str "law_notefall_k73_heads_written_and_read" 591), none, (.ref 337), .none, 0⟩), #[]⟩) ::
 (nat_lit 339, ⟨(.type "tuple"), none, (.seq #[] 0), #[]⟩) ::
 (nat_lit 341, ⟨(.type "tuple"), none, (.seq #[(.str "_law_state" 630), (.str "_law_most" 631), (.str "_law_many" 632), (.str "_law_mark" 633), (.str "_law_found" 634), (.str "_law_k" 635)] 0), #[]⟩) ::
 (nat_lit 342, ⟨(.type "tuple"), none, (.seq #[] 0), #[]⟩) ::
 (nat_lit 344, ⟨(.type "code"), none, (.fields #[(.str "_law_marks" 627), (.str "_law_marks" 628), (.str "/claim/cut.py" 629), (.int 233 0), (.int 2 0), (.int 0 0), (.int 0 0), (.int 3 0), (.ref 339), (.bool true), (.int 181 0), (.ref 340), .none, (.ref 341), (.ref 342), (.ref 343), (.int 636 0), (.int 233 0), (.str "/claim/cut.py" 637)]), #[]⟩) ::
 (nat_lit 345, ⟨(.type "function"), none, (.func ⟨"_law_marks", "_law_marks", defArgs (top 64), .stmts (defBody (top 64)), defScope (top 64), 3, [], .none, .none, .none, (.str "law_notefall_k73_heads_written_and_read" 591), none, (.ref 344), .none, 0⟩), #[]⟩) ::
 (nat_lit 346, ⟨(.type "tuple"), none, (.seq #[] 0), #[]⟩) ::
 (nat_lit 349, ⟨(.type "code"), none, (.fields #[(.str "_law_head" 639), (.str "_law_head" 640), (.str "/claim/cut.py" 641), (.int 241 0), (.int 2 0), (.int 0 0), (.int 0 0), (.int 3 0), (.ref 346), (.bool true), (.int 181 0), (.ref 347), .none, .none, .none, (.ref 348), (.int 642 0), (.int 241 0), (.str "/claim/cut.py" 643)]), #[]⟩) ::
 (nat_lit 350, ⟨(.type "function"), none, (.func ⟨"_law_head", "_law_head", defArgs (top 65), .stmts (defBody (top 65)), defScope (top 65), 3, [], .none, .none, .none, (.str "law_notefall_k73_heads_written_and_read" 591), none, (.ref 349), .none, 0⟩), #[]⟩) ::
 (nat_lit 351, ⟨(.type "tuple"), none, (.seq #[] 0), #[]⟩) ::
 (nat_lit 354, ⟨(.type "code"), none, (.fields #[(.str "_law_head_text" 645), (.str "_law_head_text" 646), (.str "/claim/cut.py" 647), (.int 246 0), (.int 1 0), (.int 0 0), (.int 0 0), (.int 3 0), (.ref 351), (.bool true), (.int 181 0), (.ref 352), .none, .none, .none, (.ref 353), (.int 648 0), (.int 246 0), (.str "/claim/cut.py" 649)]), #[]⟩) ::
 (nat_lit 355, ⟨(.type "function"), none, (.func ⟨"_law_head_text", "_law_head_text", defArgs (top 66), .stmts (defBody (top 66)), defScope (top 66), 3, [], .none, .none, .none, (.str "law_notefall_k73_heads_written_and_read" 591), none, (.ref 354), .none, 0⟩), #[]⟩) ::
 (nat_lit 356, ⟨(.type "tuple"), none, (.seq #[] 0), #[]⟩) ::
 (nat_lit 359, ⟨(.type "code"), none, (.fields #[(.str "_law_whole" 651), (.str "_law_whole" 652), (.str "/claim/cut.py" 653), (.int 253 0), (.int 1 0), (.int 0 0), (.int 0 0), (.int 3 0), (.ref 356), (.bool true), (.int 181 0), (.ref 357), .none, .none, .none, (.ref 358), (.int 654 0), (.int 253 0), (.str "/claim/cut.py" 655)]), #[]⟩) ::
 (nat_lit 360, ⟨(.type "function"), none, (.func ⟨"_law_whole", "_law_whole", defArgs (top 67), .stmts (defBody (top 67)), defScope (top 67), 3, [], .none, .none, .none, (.str "law_notefall_k73_heads_written_and_read" 591), none, (.ref 359), .none, 0⟩), #[]⟩) ::
 (nat_lit 361, ⟨(.type "tuple"), none, (.seq #[] 0), #[]⟩) ::
 (nat_lit 363, ⟨(.type "tuple"), none, (.seq #[(.str "_law_word" 660), (.str "_law_found" 661)] 0), #[]⟩) ::
 (nat_lit 364, ⟨(.type "tuple"), none, (.seq #[] 0), #[]⟩) ::
 (nat_lit 366, ⟨(.type "code"), none, (.fields #[(.str "_law_count" 657), (.str "_law_count" 658), (.str "/claim/cut.py" 659), (.int 262 0), (.int 1 0), (.int 0 0), (.int 0 0), (.int 3 0), (.ref 361), (.bool true), (.int 181 0), (.ref 362), .none, (.ref 363), (.ref 364), (.ref 365), (.int 662 0), (.int 262 0), (.str "/claim/cut.py" 663)]), #[]⟩) ::
 (nat_lit 367, ⟨(.type "function"), none, (.func ⟨"_law_count", "_law_count", defArgs (top 68), .stmts (defBody (top 68)), defScope (top 68), 3, [], .none, .none, .none, (.str "law_notefall_k73_heads_written_and_read" 591), none, (.ref 366), .none, 0⟩), #[]⟩) ::
 (nat_lit 368, ⟨(.type "tuple"), none, (.seq #[] 0), #[]⟩) ::
 (nat_lit 371, ⟨(.type "code"), none, (.fields #[(.str "_law_rule_in" 665), (.str "_law_rule_in" 666), (.str "/claim/cut.py" 667), (.int 267 0), (.int 1 0), (.int 0 0), (.int 0 0), (.int 3 0), (.ref 368), (.bool true), (.int 181 0), (.ref 369), .none, .none, .none, (.ref 370), (.int 668 0), (.int 267 0), (.str "/claim/cut.py" 669)]), #[]⟩) ::
 (nat_lit 372, ⟨(.type "function"), none, (.func ⟨"_law_rule_in", "_law_rule_in", defArgs (top 69), .stmts (defBody (top 69)), defScope (top 69), 3, [], .none, .none, .none, (.str "law_notefall_k73_heads_written_and_read" 591), none, (.ref 371), .none, 0⟩), #[]⟩) ::
 (nat_lit 373, ⟨(.type "tuple"), none, (.seq #[] 0), #[]⟩) ::
 (nat_lit 376, ⟨(.type "code"), none, (.fields #[(.str "_law_read" 671), (.str "_law_read" 672), (.str "/claim/cut.py" 673), (.int 277 0), (.int 1 0), (.int 0 0), (.int 0 0), (.int 3 0), (.ref 373), (.bool true), (.int 181 0), (.ref 374), .none, .none, .none, (.ref 375), (.int 674 0), (.int 277 0), (.str "/claim/cut.py" 675)]), #[]⟩) ::
 (nat_lit 377, ⟨(.type "function"), none, (.func ⟨"_law_read", "_law_read", defArgs (top 70), .stmts (defBody (top 70)), defScope (top 70), 3, [], .none, .none, .none, (.str "law_notefall_k73_heads_written_and_read" 591), none, (.ref 376), .none, 0⟩), #[]⟩) ::
 (nat_lit 378, ⟨(.type "tuple"), none, (.seq #[] 0), #[]⟩) ::
 (nat_lit 380, ⟨(.type "tuple"), none, (.seq #[(.str "_law_text" 680), (.str "_law_found" 681), (.str "_law_ahead" 682), (.str "_law_k" 683), (.str "_law_sign_here" 684), (.str "_law_here" 685)] 0), #[]⟩) ::
 (nat_lit 381, ⟨(.type "tuple"), none, (.seq #[] 0), #[]⟩) ::
 (nat_lit 383, ⟨(.type "code"), none, (.fields #[(.str "_law_starts" 677), (.str "_law_starts" 678), (.str "/claim/cut.py" 679), (.int 292 0), (.int 1 0), (.int 0 0), (.int 0 0), (.int 3 0), (.ref 378), (.bool true), (.int 181 0), (.ref 379), .none, (.ref 380), (.ref 381), (.ref 382), (.int 686 0), (.int 292 0), (.str "/claim/cut.py" 687)]), #[]⟩) ::
 (nat_lit 384, ⟨(.type "function"), none, (.func ⟨"_law_starts", "_law_starts", defArgs (top 71), .stmts (defBody (top 71)), defScope (top 71), 3, [], .none, .none, .none, (.str "law_notefall_k73_heads_written_and_read" 591), none, (.ref 383), .none, 0⟩), #[]⟩) ::
 (nat_lit 385, ⟨(.type "tuple"), none, (.seq #[] 0), #[]⟩) ::
 (nat_lit 387, ⟨(.type "tuple"), none, (.seq #[(.str "_law_state" 692), (.str "_law_signs" 693)] 0), #[]⟩) ::
 (nat_lit 388, ⟨(.type "tuple"), none, (.seq #[] 0), #[]⟩) ::
 (nat_lit 390, ⟨(.type "code"), none, (.fields #[(.str "_law_sign" 689), (.str "_law_sign" 690), (.str "/claim/cut.py" 691), (.int 301 0), (.int 1 0), (.int 0 0), (.int 0 0), (.int 3 0), (.ref 385), (.bool true), (.int 181 0), (.ref 386), .none, (.ref 387), (.ref 388), (.ref 389), (.int 694 0), (.int 301 0), (.str "/claim/cut.py" 695)]), #[]⟩) ::
 (nat_lit 391, ⟨(.type "function"), none, (.func ⟨"_law_sign", "_law_sign", defArgs (top 72), .stmts (defBody (top 72)), defScope (top 72), 3, [], .none, .none, .none, (.str "law_notefall_k73_heads_written_and_read" 591), none, (.ref 390), .none, 0⟩), #[]⟩) ::
 (nat_lit 392, ⟨(.type "tuple"), none, (.seq #[] 0), #[]⟩) ::
 (nat_lit 394, ⟨(.type "tuple"), none, (.seq #[(.str "_law_state" 700), (.str "_law_text" 701), (.str "_law_way" 702), (.str "_law_sign_here" 703), (.str "_law_parts" 704), (.str "_law_k" 705), (.str "_law_turned" 706)] 0), #[]⟩) ::
 (nat_lit 395, ⟨(.type "tuple"), none, (.seq #[] 0), #[]⟩) ::
 (nat_lit 397, ⟨(.type "code"), none, (.fields #[(.str "_law_parts_turned" 697), (.str "_law_parts_turned" 698), (.str "/claim/cut.py" 699), (.int 307 0), (.int 3 0), (.int 0 0), (.int 0 0), (.int 3 0), (.ref 392), (.bool true), (.int 181 0), (.ref 393), .none, (.ref 394), (.ref 395), (.ref 396), (.int 707 0), (.int 307 0), (.str "/claim/cut.py" 708)]), #[]⟩) ::
 (nat_lit 398, ⟨(.type "function"), none, (.func ⟨"_law_parts_turned", "_law_parts_turned", defArgs (top 73), .stmts (defBody (top 73)), defScope (top 73), 3, [], .none, .none, .none, (.str "law_notefall_k73_heads_written_and_read" 591), none, (.ref 397), .none, 0⟩), #[]⟩) ::
 (nat_lit 399, ⟨(.type "tuple"), none, (.seq #[] 0), #[]⟩) ::
 (nat_lit 401, ⟨(.type "tuple"), none, (.seq #[(.str "_law_state" 713), (.str "_law_text" 714), (.str "_law_starts_here" 715), (.str "_law_many" 716), (.str "_law_sign_here" 717), (.str "_law_at" 718)] 0), #[]⟩) ::
 (nat_lit 402, ⟨(.type "tuple"), none, (.seq #[] 0), #[]⟩) ::
 (nat_lit 404, ⟨(.type "code"), none, (.fields #[(.str "_law_figures" 710), (.str "_law_figures" 711), (.str "/claim/cut.py" 712), (.int 317 0), (.int 2 0), (.int 0 0), (.int 0 0), (.int 3 0), (.ref 399), (.bool true), (.int 181 0), (.ref 400), .none, (.ref 401), (.ref 402), (.ref 403), (.int 719 0), (.int 317 0), (.str "/claim/cut.py" 720)]), #[]⟩) ::
 (nat_lit 405, ⟨(.type "function"), none, (.func ⟨"_law_figures", "_law_figures", defArgs (top 74), .stmts (defBody (top 74)), defScope (top 74), 3, [], .none, .none, .none, (.str "law_notefall_k73_heads_written_and_read" 591), none, (.ref 404), .none, 0⟩), #[]⟩) ::
 (nat_lit 406, ⟨(.type "tuple"), none, (.seq #[] 0), #[]⟩) ::
 (nat_lit 408, ⟨(.type "tuple"), none, (.seq #[(.str "_law_state" 725), (.str "_law_text" 726), (.str "_law_way" 727), (.str "_law_at" 728), (.str "_law_sign_here" 729), (.str "_law_turned" 730)] 0), #[]⟩) ::
 (nat_lit 409, ⟨(.type "tuple"), none, (.seq #[] 0), #[]⟩) ::
 (nat_lit 411, ⟨(.type "code"), none, (.fields #[(.str "_law_spoilt" 722), (.str "_law_spoilt" 723), (.str "/claim/cut.py" 724), (.int 327 0), (.int 2 0), (.int 0 0), (.int 0 0), (.int 3 0), (.ref 406), (.bool true), (.int 181 0), (.ref 407), .none, (.ref 408), (.ref 409), (.ref 410), (.int 731 0), (.int 327 0), (.str "/claim/cut.py" 732)]), #[]⟩) ::
 (nat_lit 412, ⟨(.type "function"), none, (.func ⟨"_law_spoilt", "_law_spoilt", defArgs (top 75), .stmts (defBody (top 75)), defScope (top 75), 3, [], .none, .none, .none, (.str "law_notefall_k73_heads_written_and_read" 591), none, (.ref 411), .none, 0⟩), #[]⟩) ::
 (nat_lit 413, ⟨(.type "tuple"), none, (.seq #[] 0), #[]⟩) ::
 (nat_lit 415, ⟨(.type "tuple"), none, (.seq #[(.str "_law_word" 737), (.str "_law_text" 738), (.str "e" 739)] 0), #[]⟩) ::
 (nat_lit 416, ⟨(.type "tuple"), none, (.seq #[] 0), #[]⟩) ::
 (nat_lit 418, ⟨(.type "code"), none, (.fields #[(.str "_law_refused" 734), (.str "_law_refused" 735), (.str "/claim/cut.py" 736), (.int 347 0), (.int 2 0), (.int 0 0), (.int 0 0), (.int 3 0), (.ref 413), (.bool true), (.int 181 0), (.ref 414), .none, (.ref 415), (.ref 416), (.ref 417), (.int 740 0), (.int 347 0), (.str "/claim/cut.py" 741)]), #[]⟩) ::
 (nat_lit 419, ⟨(.type "function"), none, (.func ⟨"_law_refused", "_law_refused", defArgs (top 76), .stmts (defBody (top 76)), defScope (top 76), 3, [], .none, .none, .none, (.str "law_notefall_k73_heads_written_and_read" 591), none, (.ref 418), .none, 0⟩), #[]⟩) ::
 (nat_lit 420, ⟨(.type "tuple"), none, (.seq #[] 0), #[]⟩) ::
 (nat_lit 422, ⟨(.type "tuple"), none, (.seq #[(.str "_law_state" 746), (.str "_law_most" 747), (.str "_law_twice" 748), (.str "_law_head_here" 749), (.str "_law_text" 750), (.str "_law_marks_here" 751), (.str "_law_due" 752), (.str "_law_found" 753)] 0), #[]⟩) ::
 (nat_lit 423, ⟨(.type "tuple"), none, (.seq #[] 0), #[]⟩) ::
 (nat_lit 425, ⟨(.type "code"), none, (.fields #[(.str "_law_holds" 743), (.str "_law_holds" 744), (.str "/claim/cut.py" 745), (.int 356 0), (.int 2 0), (.int 0 0), (.int 0 0), (.int 3 0), (.ref 420), (.bool true), (.int 181 0), (.ref 421), .none, (.ref 422), (.ref 423), (.ref 424), (.int 754 0), (.int 356 0), (.str "/claim/cut.py" 755)]), #[]⟩) ::
 (nat_lit 426, ⟨(.type "function"), none, (.func ⟨"_law_holds", "_law_holds", defArgs (top 77), .stmts (defBody (top 77)), defScope (top 77), 3, [], .none, .none, .none, (.str "law_notefall_k73_heads_written_and_read" 591), none, (.ref 425), .none, 0⟩), #[]⟩) ::
 (nat_lit 427, ⟨(.type "tuple"), none, (.seq #[] 0), #[]⟩) ::
 (nat_lit 429, ⟨(.type "tuple"), none, (.seq #[(.str "_law_script" 760), (.str "_law_k" 761)] 0), #[]⟩) ::
 (nat_lit 430, ⟨(.type "tuple"), none, (.seq #[] 0), #[]⟩) ::
 (nat_lit 432, ⟨(.type "code"), none, (.fields #[(.str "law" 757), (.str "law" 758), (.str "/claim/cut.py" 759), (.int 376 0), (.int 1 0), (.int 0 0), (.int 0 0), (.int 3 0), (.ref 427), (.bool true), (.int 181 0), (.ref 428), .none, (.ref 429), (.ref 430), (.ref 431), (.int 762 0), (.int 376 0), (.str "/claim/cut.py" 763)]), #[]⟩) ::
 (nat_lit 433, ⟨(.type "function"), none, (.func ⟨"law", "law", defArgs (top 78), .stmts (defBody (top 78)), defScope (top 78), 3, [], .none, .none, .none, (.str "law_notefall_k73_heads_written_and_read" 591), none, (.ref 432), .none, 0⟩), #[]⟩) :: []
def hAs : List Addr := nat_lit 2 :: nat_lit 3 :: nat_lit 15 :: nat_lit 22 :: nat_lit 23 :: nat_lit 24 :: nat_lit 25 :: nat_lit 28 :: nat_lit 35 :: nat_lit 36 :: nat_lit 37 :: nat_lit 40 :: nat_lit 47 :: nat_lit 48 :: nat_lit 49 :: nat_lit 52 :: nat_lit 53 :: nat_lit 55 :: nat_lit 56 :: nat_lit 58 :: nat_lit 59 :: nat_lit 60 :: nat_lit 62 :: nat_lit 63 :: nat_lit 65 :: nat_lit 66 :: nat_lit 67 :: nat_lit 69 :: nat_lit 70 :: nat_lit 72 :: nat_lit 73 :: nat_lit 74 :: nat_lit 76 :: nat_lit 77 :: nat_lit 79 :: nat_lit 80 :: nat_lit 81 :: nat_lit 83 :: nat_lit 84 :: nat_lit 86 :: nat_lit 87 :: nat_lit 88 :: nat_lit 90 :: nat_lit 91 :: nat_lit 93 :: nat_lit 94 :: nat_lit 95 :: nat_lit 97 :: nat_lit 98 :: nat_lit 100 :: nat_lit 101 :: nat_lit 102 :: nat_lit 103 :: nat_lit 105 :: nat_lit 106 :: nat_lit 108 :: nat_lit 109 :: nat_lit 110 :: nat_lit 112 :: nat_lit 113 :: nat_lit 115 :: nat_lit 116 :: nat_lit 117 :: nat_lit 119 :: nat_lit 120 :: nat_lit 122 :: nat_lit 123 :: nat_lit 124 :: nat_lit 126 :: nat_lit 127 :: nat_lit 129 :: nat_lit 130 :: nat_lit 131 :: nat_lit 133 :: nat_lit 134 :: nat_lit 136 :: nat_lit 137 :: nat_lit 138 :: nat_lit 140 :: nat_lit 141 :: nat_lit 143 :: nat_lit 144 :: nat_lit 145 :: nat_lit 148 :: nat_lit 149 :: nat_lit 150 :: nat_lit 153 :: nat_lit 154 :: nat_lit 155 :: nat_lit 158 :: nat_lit 159 :: nat_lit 160 :: nat_lit 162 :: nat_lit 163 :: nat_lit 165 :: nat_lit 166 :: nat_lit 167 :: nat_lit 170 :: nat_lit 171 :: nat_lit 172 :: nat_lit 174 :: nat_lit 175 :: nat_lit 177 :: nat_lit 178 :: nat_lit 179 :: nat_lit 182 :: nat_lit 183 :: nat_lit 184 :: nat_lit 187 :: nat_lit 188 :: nat_lit 189 :: nat_lit 191 :: nat_lit 192 :: nat_lit 194 :: nat_lit 195 :: nat_lit 196 :: nat_lit 198 :: nat_lit 199 :: nat_lit 201 :: nat_lit 202 :: nat_lit 203 :: nat_lit 205 :: nat_lit 206 :: nat_lit 208 :: nat_lit 209 :: nat_lit 210 :: nat_lit 212 :: nat_lit 213 :: nat_lit 215 :: nat_lit 216 :: nat_lit 217 :: nat_lit 220 :: nat_lit 221 :: nat_lit 222 :: nat_lit 224 :: nat_lit 225 :: nat_lit 227 :: nat_lit 228 :: nat_lit 229 :: nat_lit 232 :: nat_lit 233 :: nat_lit 234 :: nat_lit 237 :: nat_lit 238 :: nat_lit 239 :: nat_lit 241 :: nat_lit 242 :: nat_lit 244 :: nat_lit 245 :: nat_lit 246 :: nat_lit 248 :: nat_lit 249 :: nat_lit 251 :: nat_lit 252 :: nat_lit 253 :: nat_lit 255 :: nat_lit 256 :: nat_lit 258 :: nat_lit 259 :: nat_lit 260 :: nat_lit 262 :: nat_lit 263 :: nat_lit 265 :: nat_lit 266 :: nat_lit 267 :: nat_lit 270 :: nat_lit 271 :: nat_lit 272 :: nat_lit 274 :: nat_lit 275 :: nat_lit 277 :: nat_lit 278 :: nat_lit 279 :: nat_lit 281 :: nat_lit 282 :: nat_lit 284 :: nat_lit 285 :: nat_lit 286 :: nat_lit 289 :: nat_lit 290 :: nat_lit 291 :: nat_lit 294 :: nat_lit 295 :: nat_lit 296 :: nat_lit 298 :: nat_lit 299 :: nat_lit 301 :: nat_lit 302 :: nat_lit 303 :: nat_lit 306 :: nat_lit 307 :: nat_lit 308 :: nat_lit 311 :: nat_lit 312 :: nat_lit 313 :: nat_lit 315 :: nat_lit 316 :: nat_lit 318 :: nat_lit 319 :: nat_lit 320 :: nat_lit 322 :: nat_lit 323 :: nat_lit 325 :: nat_lit 326 :: nat_lit 327 :: nat_lit 330 :: nat_lit 331 :: nat_lit 332 :: nat_lit 334 :: nat_lit 335 :: nat_lit 337 :: nat_lit 338 :: nat_lit 339 :: nat_lit 341 :: nat_lit 342 :: nat_lit 344 :: nat_lit 345 :: nat_lit 346 :: nat_lit 349 :: nat_lit 350 :: nat_lit 351 :: nat_lit 354 :: nat_lit 355 :: nat_lit 356 :: nat_lit 359 :: nat_lit 360 :: nat_lit 361 :: nat_lit 363 :: nat_lit 364 :: nat_lit 366 :: nat_lit 367 :: nat_lit 368 :: nat_lit 371 :: nat_lit 372 :: nat_lit 373 :: nat_lit 376 :: nat_lit 377 :: nat_lit 378 :: nat_lit 380 :: nat_lit 381 :: nat_lit 383 :: nat_lit 384 :: nat_lit 385 :: nat_lit 387 :: nat_lit 388 :: nat_lit 390 :: nat_lit 391 :: nat_lit 392 :: nat_lit 394 :: nat_lit 395 :: nat_lit 397 :: nat_lit 398 :: nat_lit 399 :: nat_lit 401 :: nat_lit 402 :: nat_lit 404 :: nat_lit 405 :: nat_lit 406 :: nat_lit 408 :: nat_lit 409 :: nat_lit 411 :: nat_lit 412 :: nat_lit 413 :: nat_lit 415 :: nat_lit 416 :: nat_lit 418 :: nat_lit 419 :: nat_lit 420 :: nat_lit 422 :: nat_lit 423 :: nat_lit 425 :: nat_lit 426 :: nat_lit 427 :: nat_lit 429 :: nat_lit 430 :: nat_lit 432 :: nat_lit 433 :: []
def hQ : Program := { PySem.Challenge.pw_notefall_k73_heads_written_and_read with main := { PySem.Challenge.pw_notefall_k73_heads_written_and_read.main with body := top 1 :: top 2 :: top 3 :: top 5 :: top 6 :: top 7 :: top 8 :: top 9 :: top 10 :: top 11 :: top 12 :: top 13 :: top 14 :: top 15 :: top 16 :: top 17 :: top 19 :: top 20 :: top 21 :: top 23 :: top 24 :: top 25 :: top 26 :: top 28 :: top 30 :: top 31 :: top 32 :: top 33 :: top 34 :: top 35 :: top 36 :: top 37 :: top 38 :: top 39 :: top 40 :: top 42 :: top 43 :: top 44 :: top 45 :: top 46 :: top 47 :: top 48 :: top 49 :: top 50 :: top 51 :: top 52 :: top 53 :: top 54 :: top 55 :: top 56 :: top 57 :: top 58 :: top 60 :: top 61 :: top 62 :: top 63 :: top 64 :: top 65 :: top 66 :: top 67 :: top 68 :: top 69 :: top 70 :: top 71 :: top 72 :: top 73 :: top 74 :: top 75 :: top 76 :: top 77 :: top 78 :: [] } }
def hLv : List (Str × PySem.W.WData) := [((Str.ofString "END"), PySem.W.WData.int 1000000000000)]
def hLo : List Str := [(Str.ofString "END")]
theorem z_hK : K73.hK = K73.hK := rfl
name_quick K73_hK for K73.hK by K73.z_hK
theorem z_hQ : K73.hQ = K73.hQ := rfl
name_quick K73_hQ for K73.hQ by K73.z_hQ
theorem z_pw : PySem.Challenge.pw_notefall_k73_heads_written_and_read = PySem.Challenge.pw_notefall_k73_heads_written_and_read := rfl
name_quick K73_pw for PySem.Challenge.pw_notefall_k73_heads_written_and_read by K73.z_pw
theorem z_hLv : K73.hLv = K73.hLv := rfl
name_quick K73_hLv for K73.hLv by K73.z_hLv
theorem z_hLo : K73.hLo = K73.hLo := rfl
name_quick K73_hLo for K73.hLo by K73.z_hLo
def hYf (s : Shared) : List (Option Obj) := hAs.map s.heap.get?
def hYa (K : Params → PySem.W.Frag) (w : World) : List (Option Obj) := (K w.params).map fun p => some p.2
theorem hE (P : Params) : hAs = (hK P).map (·.1) := by kernel_rfl
abbrev hXt (q : Program) (lv : List (Str × PySem.W.WData)) (s : Shared) : Bool := PySem.W.xlAt q lv s && PySem.W.recOk (PySem.W.RowW.records (PySem.W.OpenRow.toRowW PySem.Challenge.rw_notefall_k73_heads_written_and_read.row)) s
abbrev hF {t : Type} (tb : String → Option Builtin) (p q : Program) (lo : List Str) (lv : List (Str × PySem.W.WData)) (K : Params → PySem.W.Frag) (sn : Program → List Str → List Str → (Shared → Bool) → Bool → Shared → t) (gd : Program → List Str → t) (im : List Stmt → List Str) (w : World) : Prop :=
  (PySem.W.openEnds tb p w 5206).map (fun s => (sn q lo (im p.main.body) (hXt q lv) true s, hYf s)) = some (gd q lo, hYa K w)
noncomputable def hOth (P : Params) : PySem.W.Frag :=
 (nat_lit 0, PySem.W.boot_o_0 P) ::
 (nat_lit 1, PySem.W.boot_o_1 P) ::
 (nat_lit 4, PySem.W.boot_o_4 P) ::
 (nat_lit 5, PySem.W.boot_o_5 P) ::
 (nat_lit 6, PySem.W.boot_o_6 P) ::
 (nat_lit 7, PySem.W.boot_o_7 P) ::
 (nat_lit 8, PySem.W.boot_o_8 P) ::
 (nat_lit 9, PySem.W.boot_o_9 P) ::
 (nat_lit 10, PySem.W.boot_o_10 P) ::
 (nat_lit 11, ⟨(.type "tuple"), none, (.seq #[] 0), #[]⟩) ::
 (nat_lit 12, ⟨.none, none, (.fields #[(.int 2 0), (.int 0 0), (.ref 20), (.int 4 0), (.int 0 0), (.ref 33), (.int 6 0), (.int 0 0), (.ref 45), (.int 15 0), (.int 0 0), (.ref 58), (.int 17 0), (.int 0 0), (.ref 65), (.int 19 0), (.int 0 0), (.ref 72), (.int 21 0), (.int 0 0), (.ref 79), (.int 23 0), (.int 0 0), (.ref 86), (.int 25 0), (.int 0 0), (.ref 93), (.int 27 0), (.int 0 0), (.ref 100), (.int 36 0), (.int 0 0), (.ref 108), (.int 42 0), (.int 0 0), (.ref 115), (.int 49 0), (.int 0 0), (.ref 122), (.int 51 0), (.int 0 0), (.ref 129), (.int 53 0), (.int 0 0), (.ref 136), (.int 63 0), (.int 0 0), (.ref 143), (.int 71 0), (.int 0 0), (.ref 148), (.int 73 0), (.int 0 0), (.ref 153), (.int 75 0), (.int 0 0), (.ref 158), (.int 77 0), (.int 0 0), (.ref 165), (.int 82 0), (.int 0 0), (.ref 170), (.int 86 0), (.int 0 0), (.ref 177), (.int 88 0), (.int 0 0), (.ref 182), (.int 92 0), (.int 0 0), (.ref 187), (.int 94 0), (.int 0 0), (.ref 194), (.int 98 0), (.int 0 0), (.ref 201), (.int 100 0), (.int 0 0), (.ref 208), (.int 106 0), (.int 0 0), (.ref 215), (.int 108 0), (.int 0 0), (.ref 220), (.int 110 0), (.int 0 0), (.ref 227), (.int 113 0), (.int 0 0), (.ref 232), (.int 117 0), (.int 0 0), (.ref 237), (.int 122 0), (.int 0 0), (.ref 244), (.int 124 0), (.int 0 0), (.ref 251), (.int 129 0), (.int 0 0), (.ref 258), (.int 133 0), (.int 0 0), (.ref 265), (.int 140 0), (.int 0 0), (.ref 270), (.int 147 0), (.int 0 0), (.ref 277), (.int 151 0), (.int 0 0), (.ref 284), (.int 155 0), (.int 0 0), (.ref 289), (.int 164 0), (.int 0 0), (.ref 294), (.int 169 0), (.int 0 0), (.ref 301), (.int 181 0), (.int 0 0), (.ref 306), (.int 185 0), (.int 0 0), (.ref 311), (.int 198 0), (.int 0 0), (.ref 318), (.int 202 0), (.int 0 0), (.ref 325), (.int 215 0), (.int 0 0), (.ref 330), (.int 227 0), (.int 0 0), (.ref 337), (.int 233 0), (.int 0 0), (.ref 344), (.int 241 0), (.int 0 0), (.ref 349), (.int 246 0), (.int 0 0), (.ref 354), (.int 253 0), (.int 0 0), (.ref 359), (.int 262 0), (.int 0 0), (.ref 366), (.int 267 0), (.int 0 0), (.ref 371), (.int 277 0), (.int 0 0), (.ref 376), (.int 292 0), (.int 0 0), (.ref 383), (.int 301 0), (.int 0 0), (.ref 390), (.int 307 0), (.int 0 0), (.ref 397), (.int 317 0), (.int 0 0), (.ref 404), (.int 327 0), (.int 0 0), (.ref 411), (.int 347 0), (.int 0 0), (.ref 418), (.int 356 0), (.int 0 0), (.ref 425), (.int 376 0), (.int 0 0), (.ref 432)]), #[]⟩) ::
 (nat_lit 13, ⟨(.type "code"), none, (.fields #[(.str "<module>" 182), (.str "<module>" 183), (.str "/claim/cut.py" 184), (.int 1 0), (.int 0 0), (.int 0 0), (.int 0 0), (.int 0 0), (.ref 11), (.bool false), (.int 181 0), (.ref 12), .none, .none, .none, .none, (.int 185 0), (.int 1 0), (.str "/claim/cut.py" 186)]), #[]⟩) ::
 (nat_lit 14, ⟨(.type "frame"), none, .plain, #[(some (.ref 13)), (some (.ref 3)), (some (.ref 3)), none, (some (.str "__main__" 164)), none, (some (.ref 0))]⟩) ::
 (nat_lit 16, ⟨(.type "builtin_function_or_method"), none, (.fields #[(.builtin "type.__prepare__"), (.type "type")]), #[]⟩) ::
 (nat_lit 17, ⟨(.type "dict"), none, (.dict (List.toArray (⟨kh P "__module__", (.str "__module__" 196), (.str "notefall.errors" 187)⟩ :: ⟨kh P "__qualname__", (.str "__qualname__" 198), (.str "FallError" 197)⟩ :: ⟨kh P "__firstlineno__", (.str "__firstlineno__" 200), (.int 2 199)⟩ :: ⟨kh P "__static_attributes__", (.str "__static_attributes__" 201), (.ref 22)⟩ :: [])) 4), #[]⟩) ::
 (nat_lit 18, ⟨(.type "tuple"), none, (.seq #[] 0), #[]⟩) ::
 (nat_lit 19, ⟨.none, none, (.fields #[]), #[]⟩) ::
 (nat_lit 20, ⟨(.type "code"), none, (.fields #[(.str "FallError" 191), (.str "FallError" 192), (.str "/claim/cut.py" 193), (.int 2 0), (.int 0 0), (.int 0 0), (.int 0 0), (.int 0 0), (.ref 18), (.bool false), (.int 181 0), (.ref 19), .none, .none, .none, .none, (.int 194 0), (.int 2 0), (.str "/claim/cut.py" 195)]), #[]⟩) ::
 (nat_lit 21, ⟨(.type "frame"), none, .plain, #[(some (.ref 20)), (some (.ref 3)), (some (.ref 17)), none, (some (.str "notefall.errors" 187)), none, (some (.ref 0))]⟩) ::
 (nat_lit 26, ⟨(.type "super"), none, (.fields #[(.ref 24), (.ref 24), (.ref 24)]), #[]⟩) ::
 (nat_lit 27, ⟨(.type "builtin_function_or_method"), none, (.fields #[(.builtin "object.__init_subclass__"), (.ref 24)]), #[]⟩) ::
 (nat_lit 29, ⟨(.type "builtin_function_or_method"), none, (.fields #[(.builtin "type.__prepare__"), (.type "type")]), #[]⟩) ::
 (nat_lit 30, ⟨(.type "dict"), none, (.dict (List.toArray (⟨kh P "__module__", (.str "__module__" 214), (.str "notefall.errors" 187)⟩ :: ⟨kh P "__qualname__", (.str "__qualname__" 216), (.str "NoRule" 215)⟩ :: ⟨kh P "__firstlineno__", (.str "__firstlineno__" 218), (.int 4 217)⟩ :: ⟨kh P "__static_attributes__", (.str "__static_attributes__" 219), (.ref 35)⟩ :: [])) 4), #[]⟩) ::
 (nat_lit 31, ⟨(.type "tuple"), none, (.seq #[] 0), #[]⟩) ::
 (nat_lit 32, ⟨.none, none, (.fields #[]), #[]⟩) ::
 (nat_lit 33, ⟨(.type "code"), none, (.fields #[(.str "NoRule" 209), (.str "NoRule" 210), (.str "/claim/cut.py" 211), (.int 4 0), (.int 0 0), (.int 0 0), (.int 0 0), (.int 0 0), (.ref 31), (.bool false), (.int 181 0), (.ref 32), .none, .none, .none, .none, (.int 212 0), (.int 4 0), (.str "/claim/cut.py" 213)]), #[]⟩) ::
 (nat_lit 34, ⟨(.type "frame"), none, .plain, #[(some (.ref 33)), (some (.ref 3)), (some (.ref 30)), none, (some (.str "notefall.errors" 187)), none, (some (.ref 0))]⟩) ::
 (nat_lit 38, ⟨(.type "super"), none, (.fields #[(.ref 37), (.ref 37), (.ref 37)]), #[]⟩) ::
 (nat_lit 39, ⟨(.type "builtin_function_or_method"), none, (.fields #[(.builtin "object.__init_subclass__"), (.ref 37)]), #[]⟩) ::
 (nat_lit 41, ⟨(.type "builtin_function_or_method"), none, (.fields #[(.builtin "type.__prepare__"), (.type "type")]), #[]⟩) ::
 (nat_lit 42, ⟨(.type "dict"), none, (.dict (List.toArray (⟨kh P "__module__", (.str "__module__" 230), (.str "notefall.errors" 187)⟩ :: ⟨kh P "__qualname__", (.str "__qualname__" 232), (.str "NoPage" 231)⟩ :: ⟨kh P "__firstlineno__", (.str "__firstlineno__" 234), (.int 6 233)⟩ :: ⟨kh P "__static_attributes__", (.str "__static_attributes__" 235), (.ref 47)⟩ :: [])) 4), #[]⟩) ::
 (nat_lit 43, ⟨(.type "tuple"), none, (.seq #[] 0), #[]⟩) ::
 (nat_lit 44, ⟨.none, none, (.fields #[]), #[]⟩) ::
 (nat_lit 45, ⟨(.type "code"), none, (.fields #[(.str "NoPage" 225), (.str "NoPage" 226), (.str "/claim/cut.py" 227), (.int 6 0), (.int 0 0), (.int 0 0), (.int 0 0), (.int 0 0), (.ref 43), (.bool false), (.int 181 0), (.ref 44), .none, .none, .none, .none, (.int 228 0), (.int 6 0), (.str "/claim/cut.py" 229)]), #[]⟩) ::
 (nat_lit 46, ⟨(.type "frame"), none, .plain, #[(some (.ref 45)), (some (.ref 3)), (some (.ref 42)), none, (some (.str "notefall.errors" 187)), none, (some (.ref 0))]⟩) ::
 (nat_lit 50, ⟨(.type "super"), none, (.fields #[(.ref 49), (.ref 49), (.ref 49)]), #[]⟩) ::
 (nat_lit 51, ⟨(.type "builtin_function_or_method"), none, (.fields #[(.builtin "object.__init_subclass__"), (.ref 49)]), #[]⟩) ::
 (nat_lit 54, ⟨.none, none, (.fields #[]), #[]⟩) ::
 (nat_lit 57, ⟨.none, none, (.func ⟨"is_number", "is_number", defArgs (top 11), .stmts (defBody (top 11)), defScope (top 11), 0, [], .none, .none, .none, .none, none, .none, .none, 0⟩), #[]⟩) ::
 (nat_lit 61, ⟨.none, none, (.fields #[]), #[]⟩) ::
 (nat_lit 64, ⟨.none, none, (.func ⟨"is_whole", "is_whole", defArgs (top 12), .stmts (defBody (top 12)), defScope (top 12), 0, [], .none, .none, .none, .none, none, .none, .none, 0⟩), #[]⟩) ::
 (nat_lit 68, ⟨.none, none, (.fields #[]), #[]⟩) ::
 (nat_lit 71, ⟨.none, none, (.func ⟨"is_whole_from", "is_whole_from", defArgs (top 13), .stmts (defBody (top 13)), defScope (top 13), 0, [], .none, .none, .none, .none, none, .none, .none, 0⟩), #[]⟩) ::
 (nat_lit 75, ⟨.none, none, (.fields #[]), #[]⟩) ::
 (nat_lit 78, ⟨.none, none, (.func ⟨"is_key", "is_key", defArgs (top 14), .stmts (defBody (top 14)), defScope (top 14), 0, [], .none, .none, .none, .none, none, .none, .none, 0⟩), #[]⟩) ::
 (nat_lit 82, ⟨.none, none, (.fields #[]), #[]⟩) ::
 (nat_lit 85, ⟨.none, none, (.func ⟨"is_stretch", "is_stretch", defArgs (top 15), .stmts (defBody (top 15)), defScope (top 15), 0, [], .none, .none, .none, .none, none, .none, .none, 0⟩), #[]⟩) ::
 (nat_lit 89, ⟨.none, none, (.fields #[]), #[]⟩) ::
 (nat_lit 92, ⟨.none, none, (.func ⟨"is_plan", "is_plan", defArgs (top 16), .stmts (defBody (top 16)), defScope (top 16), 0, [], .none, .none, .none, .none, none, .none, .none, 0⟩), #[]⟩) ::
 (nat_lit 96, ⟨.none, none, (.fields #[]), #[]⟩) ::
 (nat_lit 99, ⟨.none, none, (.func ⟨"is_rule", "is_rule", defArgs (top 17), .stmts (defBody (top 17)), defScope (top 17), 0, [], .none, .none, .none, .none, none, .none, .none, 0⟩), #[]⟩) ::
 (nat_lit 104, ⟨.none, none, (.fields #[]), #[]⟩) ::
 (nat_lit 107, ⟨.none, none, (.func ⟨"is_half", "is_half", defArgs (top 20), .stmts (defBody (top 20)), defScope (top 20), 0, [], .none, .none, .none, .none, none, .none, .none, 0⟩), #[]⟩) ::
 (nat_lit 111, ⟨.none, none, (.fields #[]), #[]⟩) ::
 (nat_lit 114, ⟨.none, none, (.func ⟨"is_action", "is_action", defArgs (top 21), .stmts (defBody (top 21)), defScope (top 21), 0, [], .none, .none, .none, .none, none, .none, .none, 0⟩), #[]⟩) ::
 (nat_lit 118, ⟨.none, none, (.fields #[]), #[]⟩) ::
 (nat_lit 121, ⟨.none, none, (.func ⟨"figures_of", "figures_of", defArgs (top 24), .stmts (defBody (top 24)), defScope (top 24), 0, [], .none, .none, .none, .none, none, .none, .none, 0⟩), #[]⟩) ::
 (nat_lit 125, ⟨.none, none, (.fields #[]), #[]⟩) ::
 (nat_lit 128, ⟨.none, none, (.func ⟨"are_figures", "are_figures", defArgs (top 25), .stmts (defBody (top 25)), defScope (top 25), 0, [], .none, .none, .none, .none, none, .none, .none, 0⟩), #[]⟩) ::
 (nat_lit 132, ⟨.none, none, (.fields #[]), #[]⟩) ::
 (nat_lit 135, ⟨.none, none, (.func ⟨"read_figures", "read_figures", defArgs (top 26), .stmts (defBody (top 26)), defScope (top 26), 0, [], .none, .none, .none, .none, none, .none, .none, 0⟩), #[]⟩) ::
 (nat_lit 139, ⟨.none, none, (.fields #[]), #[]⟩) ::
 (nat_lit 142, ⟨.none, none, (.func ⟨"is_note", "is_note", defArgs (top 28), .stmts (defBody (top 28)), defScope (top 28), 0, [], .none, .none, .none, .none, none, .none, .none, 0⟩), #[]⟩) ::
 (nat_lit 146, ⟨.none, none, (.fields #[]), #[]⟩) ::
 (nat_lit 147, ⟨.none, none, (.func ⟨"is_rising", "is_rising", defArgs (top 30), .stmts (defBody (top 30)), defScope (top 30), 0, [], .none, .none, .none, .none, none, .none, .none, 0⟩), #[]⟩) ::
 (nat_lit 151, ⟨.none, none, (.fields #[]), #[]⟩) ::
 (nat_lit 152, ⟨.none, none, (.func ⟨"are_wholes", "are_wholes", defArgs (top 31), .stmts (defBody (top 31)), defScope (top 31), 0, [], .none, .none, .none, .none, none, .none, .none, 0⟩), #[]⟩) ::
 (nat_lit 156, ⟨.none, none, (.fields #[]), #[]⟩) ::
 (nat_lit 157, ⟨.none, none, (.func ⟨"are_rising_from", "are_rising_from", defArgs (top 32), .stmts (defBody (top 32)), defScope (top 32), 0, [], .none, .none, .none, .none, none, .none, .none, 0⟩), #[]⟩) ::
 (nat_lit 161, ⟨.none, none, (.fields #[]), #[]⟩) ::
 (nat_lit 164, ⟨.none, none, (.func ⟨"is_version", "is_version", defArgs (top 33), .stmts (defBody (top 33)), defScope (top 33), 0, [], .none, .none, .none, .none, none, .none, .none, 0⟩), #[]⟩) ::
 (nat_lit 168, ⟨.none, none, (.fields #[]), #[]⟩) ::
 (nat_lit 169, ⟨.none, none, (.func ⟨"are_versions", "are_versions", defArgs (top 34), .stmts (defBody (top 34)), defScope (top 34), 0, [], .none, .none, .none, .none, none, .none, .none, 0⟩), #[]⟩) ::
 (nat_lit 173, ⟨.none, none, (.fields #[]), #[]⟩) ::
 (nat_lit 176, ⟨.none, none, (.func ⟨"is_row", "is_row", defArgs (top 35), .stmts (defBody (top 35)), defScope (top 35), 0, [], .none, .none, .none, .none, none, .none, .none, 0⟩), #[]⟩) ::
 (nat_lit 180, ⟨.none, none, (.fields #[]), #[]⟩) ::
 (nat_lit 181, ⟨.none, none, (.func ⟨"are_rows", "are_rows", defArgs (top 36), .stmts (defBody (top 36)), defScope (top 36), 0, [], .none, .none, .none, .none, none, .none, .none, 0⟩), #[]⟩) ::
 (nat_lit 185, ⟨.none, none, (.fields #[]), #[]⟩) ::
 (nat_lit 186, ⟨.none, none, (.func ⟨"are_notes", "are_notes", defArgs (top 37), .stmts (defBody (top 37)), defScope (top 37), 0, [], .none, .none, .none, .none, none, .none, .none, 0⟩), #[]⟩) ::
 (nat_lit 190, ⟨.none, none, (.fields #[]), #[]⟩) ::
 (nat_lit 193, ⟨.none, none, (.func ⟨"has_word", "has_word", defArgs (top 38), .stmts (defBody (top 38)), defScope (top 38), 0, [], .none, .none, .none, .none, none, .none, .none, 0⟩), #[]⟩) ::
 (nat_lit 197, ⟨.none, none, (.fields #[]), #[]⟩) ::
 (nat_lit 200, ⟨.none, none, (.func ⟨"is_leaf_told", "is_leaf_told", defArgs (top 39), .stmts (defBody (top 39)), defScope (top 39), 0, [], .none, .none, .none, .none, none, .none, .none, 0⟩), #[]⟩) ::
 (nat_lit 204, ⟨.none, none, (.fields #[]), #[]⟩) ::
 (nat_lit 207, ⟨.none, none, (.func ⟨"is_inner_told", "is_inner_told", defArgs (top 40), .stmts (defBody (top 40)), defScope (top 40), 0, [], .none, .none, .none, .none, none, .none, .none, 0⟩), #[]⟩) ::
 (nat_lit 211, ⟨.none, none, (.fields #[]), #[]⟩) ::
 (nat_lit 214, ⟨.none, none, (.func ⟨"list_text", "list_text", defArgs (top 42), .stmts (defBody (top 42)), defScope (top 42), 0, [], .none, .none, .none, .none, none, .none, .none, 0⟩), #[]⟩) ::
 (nat_lit 218, ⟨.none, none, (.fields #[]), #[]⟩) ::
 (nat_lit 219, ⟨.none, none, (.func ⟨"numbers_text", "numbers_text", defArgs (top 43), .stmts (defBody (top 43)), defScope (top 43), 0, [], .none, .none, .none, .none, none, .none, .none, 0⟩), #[]⟩) ::
 (nat_lit 223, ⟨.none, none, (.fields #[]), #[]⟩) ::
 (nat_lit 226, ⟨.none, none, (.func ⟨"rule_text", "rule_text", defArgs (top 44), .stmts (defBody (top 44)), defScope (top 44), 0, [], .none, .none, .none, .none, none, .none, .none, 0⟩), #[]⟩) ::
 (nat_lit 230, ⟨.none, none, (.fields #[]), #[]⟩) ::
 (nat_lit 231, ⟨.none, none, (.func ⟨"head_text", "head_text", defArgs (top 45), .stmts (defBody (top 45)), defScope (top 45), 0, [], .none, .none, .none, .none, none, .none, .none, 0⟩), #[]⟩) ::
 (nat_lit 235, ⟨.none, none, (.fields #[]), #[]⟩) ::
 (nat_lit 236, ⟨.none, none, (.func ⟨"read_list", "read_list", defArgs (top 46), .stmts (defBody (top 46)), defScope (top 46), 0, [], .none, .none, .none, .none, none, .none, .none, 0⟩), #[]⟩) ::
 (nat_lit 240, ⟨.none, none, (.fields #[]), #[]⟩) ::
 (nat_lit 243, ⟨.none, none, (.func ⟨"read_numbers", "read_numbers", defArgs (top 47), .stmts (defBody (top 47)), defScope (top 47), 0, [], .none, .none, .none, .none, none, .none, .none, 0⟩), #[]⟩) ::
 (nat_lit 247, ⟨.none, none, (.fields #[]), #[]⟩) ::
 (nat_lit 250, ⟨.none, none, (.func ⟨"read_version", "read_version", defArgs (top 48), .stmts (defBody (top 48)), defScope (top 48), 0, [], .none, .none, .none, .none, none, .none, .none, 0⟩), #[]⟩) ::
 (nat_lit 254, ⟨.none, none, (.fields #[]), #[]⟩) ::
 (nat_lit 257, ⟨.none, none, (.func ⟨"read_row", "read_row", defArgs (top 49), .stmts (defBody (top 49)), defScope (top 49), 0, [], .none, .none, .none, .none, none, .none, .none, 0⟩), #[]⟩) ::
 (nat_lit 261, ⟨.none, none, (.fields #[]), #[]⟩) ::
 (nat_lit 264, ⟨.none, none, (.func ⟨"read_half", "read_half", defArgs (top 50), .stmts (defBody (top 50)), defScope (top 50), 0, [], .none, .none, .none, .none, none, .none, .none, 0⟩), #[]⟩) ::
 (nat_lit 268, ⟨.none, none, (.fields #[]), #[]⟩) ::
 (nat_lit 269, ⟨.none, none, (.func ⟨"read_note", "read_note", defArgs (top 51), .stmts (defBody (top 51)), defScope (top 51), 0, [], .none, .none, .none, .none, none, .none, .none, 0⟩), #[]⟩) ::
 (nat_lit 273, ⟨.none, none, (.fields #[]), #[]⟩) ::
 (nat_lit 276, ⟨.none, none, (.func ⟨"read_spot", "read_spot", defArgs (top 52), .stmts (defBody (top 52)), defScope (top 52), 0, [], .none, .none, .none, .none, none, .none, .none, 0⟩), #[]⟩) ::
 (nat_lit 280, ⟨.none, none, (.fields #[]), #[]⟩) ::
 (nat_lit 283, ⟨.none, none, (.func ⟨"read_leaf", "read_leaf", defArgs (top 53), .stmts (defBody (top 53)), defScope (top 53), 0, [], .none, .none, .none, .none, none, .none, .none, 0⟩), #[]⟩) ::
 (nat_lit 287, ⟨.none, none, (.fields #[]), #[]⟩) ::
 (nat_lit 288, ⟨.none, none, (.func ⟨"read_inner", "read_inner", defArgs (top 54), .stmts (defBody (top 54)), defScope (top 54), 0, [], .none, .none, .none, .none, none, .none, .none, 0⟩), #[]⟩) ::
 (nat_lit 292, ⟨.none, none, (.fields #[]), #[]⟩) ::
 (nat_lit 293, ⟨.none, none, (.func ⟨"is_inner_writable", "is_inner_writable", defArgs (top 55), .stmts (defBody (top 55)), defScope (top 55), 0, [], .none, .none, .none, .none, none, .none, .none, 0⟩), #[]⟩) ::
 (nat_lit 297, ⟨.none, none, (.fields #[]), #[]⟩) ::
 (nat_lit 300, ⟨.none, none, (.func ⟨"read_room", "read_room", defArgs (top 56), .stmts (defBody (top 56)), defScope (top 56), 0, [], .none, .none, .none, .none, none, .none, .none, 0⟩), #[]⟩) ::
 (nat_lit 304, ⟨.none, none, (.fields #[]), #[]⟩) ::
 (nat_lit 305, ⟨.none, none, (.func ⟨"read_rule", "read_rule", defArgs (top 57), .stmts (defBody (top 57)), defScope (top 57), 0, [], .none, .none, .none, .none, none, .none, .none, 0⟩), #[]⟩) ::
 (nat_lit 309, ⟨.none, none, (.fields #[]), #[]⟩) ::
 (nat_lit 310, ⟨.none, none, (.func ⟨"read_head", "read_head", defArgs (top 58), .stmts (defBody (top 58)), defScope (top 58), 0, [], .none, .none, .none, .none, none, .none, .none, 0⟩), #[]⟩) ::
 (nat_lit 314, ⟨.none, none, (.fields #[]), #[]⟩) ::
 (nat_lit 317, ⟨.none, none, (.func ⟨"_law_cell_at", "_law_cell_at", defArgs (top 60), .stmts (defBody (top 60)), defScope (top 60), 0, [], .none, .none, .none, .none, none, .none, .none, 0⟩), #[]⟩) ::
 (nat_lit 321, ⟨.none, none, (.fields #[]), #[]⟩) ::
 (nat_lit 324, ⟨.none, none, (.func ⟨"_law_digit", "_law_digit", defArgs (top 61), .stmts (defBody (top 61)), defScope (top 61), 0, [], .none, .none, .none, .none, none, .none, .none, 0⟩), #[]⟩) ::
 (nat_lit 328, ⟨.none, none, (.fields #[]), #[]⟩) ::
 (nat_lit 329, ⟨.none, none, (.func ⟨"_law_alike", "_law_alike", defArgs (top 62), .stmts (defBody (top 62)), defScope (top 62), 0, [], .none, .none, .none, .none, none, .none, .none, 0⟩), #[]⟩) ::
 (nat_lit 333, ⟨.none, none, (.fields #[]), #[]⟩) ::
 (nat_lit 336, ⟨.none, none, (.func ⟨"_law_number", "_law_number", defArgs (top 63), .stmts (defBody (top 63)), defScope (top 63), 0, [], .none, .none, .none, .none, none, .none, .none, 0⟩), #[]⟩) ::
 (nat_lit 340, ⟨.none, none, (.fields #[]), #[]⟩) ::
 (nat_lit 343, ⟨.none, none, (.func ⟨"_law_marks", "_law_marks", defArgs (top 64), .stmts (defBody (top 64)), defScope (top 64), 0, [], .none, .none, .none, .none, none, .none, .none, 0⟩), #[]⟩) ::
 (nat_lit 347, ⟨.none, none, (.fields #[]), #[]⟩) ::
 (nat_lit 348, ⟨.none, none, (.func ⟨"_law_head", "_law_head", defArgs (top 65), .stmts (defBody (top 65)), defScope (top 65), 0, [], .none, .none, .none, .none, none, .none, .none, 0⟩), #[]⟩) ::
 (nat_lit 352, ⟨.none, none, (.fields #[]), #[]⟩) ::
 (nat_lit 353, ⟨.none, none, (.func ⟨"_law_head_text", "_law_head_text", defArgs (top 66), .stmts (defBody (top 66)), defScope (top 66), 0, [], .none, .none, .none, .none, none, .none, .none, 0⟩), #[]⟩) ::
 (nat_lit 357, ⟨.none, none, (.fields #[]), #[]⟩) ::
 (nat_lit 358, ⟨.none, none, (.func ⟨"_law_whole", "_law_whole", defArgs (top 67), .stmts (defBody (top 67)), defScope (top 67), 0, [], .none, .none, .none, .none, none, .none, .none, 0⟩), #[]⟩) ::
 (nat_lit 362, ⟨.none, none, (.fields #[]), #[]⟩) ::
 (nat_lit 365, ⟨.none, none, (.func ⟨"_law_count", "_law_count", defArgs (top 68), .stmts (defBody (top 68)), defScope (top 68), 0, [], .none, .none, .none, .none, none, .none, .none, 0⟩), #[]⟩) ::
 (nat_lit 369, ⟨.none, none, (.fields #[]), #[]⟩) ::
 (nat_lit 370, ⟨.none, none, (.func ⟨"_law_rule_in", "_law_rule_in", defArgs (top 69), .stmts (defBody (top 69)), defScope (top 69), 0, [], .none, .none, .none, .none, none, .none, .none, 0⟩), #[]⟩) ::
 (nat_lit 374, ⟨.none, none, (.fields #[]), #[]⟩) ::
 (nat_lit 375, ⟨.none, none, (.func ⟨"_law_read", "_law_read", defArgs (top 70), .stmts (defBody (top 70)), defScope (top 70), 0, [], .none, .none, .none, .none, none, .none, .none, 0⟩), #[]⟩) ::
 (nat_lit 379, ⟨.none, none, (.fields #[]), #[]⟩) ::
 (nat_lit 382, ⟨.none, none, (.func ⟨"_law_starts", "_law_starts", defArgs (top 71), .stmts (defBody (top 71)), defScope (top 71), 0, [], .none, .none, .none, .none, none, .none, .none, 0⟩), #[]⟩) ::
 (nat_lit 386, ⟨.none, none, (.fields #[]), #[]⟩) ::
 (nat_lit 389, ⟨.none, none, (.func ⟨"_law_sign", "_law_sign", defArgs (top 72), .stmts (defBody (top 72)), defScope (top 72), 0, [], .none, .none, .none, .none, none, .none, .none, 0⟩), #[]⟩) ::
 (nat_lit 393, ⟨.none, none, (.fields #[]), #[]⟩) ::
 (nat_lit 396, ⟨.none, none, (.func ⟨"_law_parts_turned", "_law_parts_turned", defArgs (top 73), .stmts (defBody (top 73)), defScope (top 73), 0, [], .none, .none, .none, .none, none, .none, .none, 0⟩), #[]⟩) ::
 (nat_lit 400, ⟨.none, none, (.fields #[]), #[]⟩) ::
 (nat_lit 403, ⟨.none, none, (.func ⟨"_law_figures", "_law_figures", defArgs (top 74), .stmts (defBody (top 74)), defScope (top 74), 0, [], .none, .none, .none, .none, none, .none, .none, 0⟩), #[]⟩) ::
 (nat_lit 407, ⟨.none, none, (.fields #[]), #[]⟩) ::
 (nat_lit 410, ⟨.none, none, (.func ⟨"_law_spoilt", "_law_spoilt", defArgs (top 75), .stmts (defBody (top 75)), defScope (top 75), 0, [], .none, .none, .none, .none, none, .none, .none, 0⟩), #[]⟩) ::
 (nat_lit 414, ⟨.none, none, (.fields #[]), #[]⟩) ::
 (nat_lit 417, ⟨.none, none, (.func ⟨"_law_refused", "_law_refused", defArgs (top 76), .stmts (defBody (top 76)), defScope (top 76), 0, [], .none, .none, .none, .none, none, .none, .none, 0⟩), #[]⟩) ::
 (nat_lit 421, ⟨.none, none, (.fields #[]), #[]⟩) ::
 (nat_lit 424, ⟨.none, none, (.func ⟨"_law_holds", "_law_holds", defArgs (top 77), .stmts (defBody (top 77)), defScope (top 77), 0, [], .none, .none, .none, .none, none, .none, .none, 0⟩), #[]⟩) ::
 (nat_lit 428, ⟨.none, none, (.fields #[]), #[]⟩) ::
 (nat_lit 431, ⟨.none, none, (.func ⟨"law", "law", defArgs (top 78), .stmts (defBody (top 78)), defScope (top 78), 0, [], .none, .none, .none, .none, none, .none, .none, 0⟩), #[]⟩) :: []
noncomputable def hAo (P : Params) : List Obj :=
 (PySem.W.boot_o_0 P) ::
 (PySem.W.boot_o_1 P) ::
 (PySem.W.boot_o_2 P) ::
 (PySem.W.boot_o_3 P) ::
 (PySem.W.boot_o_4 P) ::
 (PySem.W.boot_o_5 P) ::
 (PySem.W.boot_o_6 P) ::
 (PySem.W.boot_o_7 P) ::
 (PySem.W.boot_o_8 P) ::
 (PySem.W.boot_o_9 P) ::
 (PySem.W.boot_o_10 P) ::
 (⟨(.type "tuple"), none, (.seq #[] 0), #[]⟩) ::
 (⟨.none, none, (.fields #[]), #[]⟩) ::
 (⟨(.type "code"), none, (.fields #[(.str "<module>" 182), (.str "<module>" 183), (.str "/claim/cut.py" 184), (.int 1 0), (.int 0 0), (.int 0 0), (.int 0 0), (.int 0 0), (.ref 11), (.bool false), (.int 181 0), (.ref 12), .none, .none, .none, .none, (.int 185 0), (.int 1 0), (.str "/claim/cut.py" 186)]), #[]⟩) ::
 (⟨(.type "frame"), none, .plain, #[(some (.ref 13)), (some (.ref 3)), (some (.ref 3)), none, (some (.str "__main__" 164)), none, (some (.ref 0))]⟩) :: []
theorem z_hOth : K73.hOth = K73.hOth := rfl
name_quick K73_hOth for K73.hOth by K73.z_hOth
theorem z_hAo : K73.hAo = K73.hAo := rfl
name_quick K73_hAo for K73.hAo by K73.z_hAo
def hMrg : Nat → PySem.W.Frag → PySem.W.Frag → List Obj
  | 0, _, _ => []
  | n + 1, (a, o) :: r, (b, p) :: s => match Nat.blt a b with
    | true => o :: hMrg n r ((b, p) :: s)
    | false => p :: hMrg n ((a, o) :: r) s
  | n + 1, (_, o) :: r, [] => o :: hMrg n r []
  | n + 1, [], (_, p) :: s => p :: hMrg n [] s
  | _ + 1, [], [] => []
def hIns : List Obj → Nat → PySem.W.BT → PySem.W.BT
  | [], _, t => t
  | o :: r, n, t => hIns r (n + 1) (t.ins n o)
noncomputable def hTr (P : Params) : PySem.W.BT := hIns (hMrg 434 (PySem.W.Fast.K73_hK P) (PySem.W.Fast.K73_hOth P)) 0 .nil
noncomputable def hEnv : Env := { scope := PySem.W.Fast.K73_pw.main.scope, locals := mainNs, globals := mainNs, cells := [], code := (.ref 13), frame := some 14 }
noncomputable abbrev hCd : Code := Code.body (PySem.W.behindTheImports PySem.W.Fast.K73_pw) hEnv
noncomputable abbrev hSa (P : Params) (os : OsState) : PySem.W.SharedT := ⟨hIns (PySem.W.Fast.K73_hAo P) 0 .nil, 15, {}, Array.mk [], ⟨0, 0, 0, 0⟩, 187, os⟩
noncomputable abbrev hSm (P : Params) (os : OsState) : PySem.W.SharedT := ⟨hTr P, 434, {}, Array.mk [], ⟨0, 0, 0, 0⟩, 765, os⟩
set_option maxRecDepth 100000 in
set_option maxHeartbeats 0 in
theorem hPre (w : World) (os : OsState) : PySem.W.topGo PySem.W.Fast.tw14364793385576792824 PySem.W.Fast.K73_pw w 11 (some (.ref 6)) 12 ⟨PySem.W.boot_heap w.params, Array.mk [], PySem.W.boot_drawn, PySem.W.boot_toks, os⟩ (PySem.W.topStub PySem.W.Fast.K73_pw) = some ((hSa w.params os).abs, ⟨denote PySem.W.Fast.tw14364793385576792824 hCd, hCd, ⟨0, 0, 0, 0⟩, [PySem.W.topFrame ⟨0, 0, 0, 0⟩]⟩) := by kernel_rfl
set_option maxRecDepth 100000 in
set_option maxHeartbeats 0 in
theorem hBlk (w : World) (os : OsState) : PySem.W.segRun PySem.W.Fast.tw14364793385576792824 PySem.W.Fast.K73_pw w 11 (some (.ref 6)) 1 1 (hSa w.params os).abs (PySem.W.blockOf (PySem.W.behindTheImports PySem.W.Fast.K73_pw) hEnv hCd ⟨0, 0, 0, 0⟩ [PySem.W.topFrame ⟨0, 0, 0, 0⟩]) = some (.next, (hSa w.params os).abs, hCd, ⟨0, 0, 0, 0⟩) := by kernel_rfl
noncomputable abbrev hH1 (P : Params) : Heap := PySem.W.absHeap (hTr P) 434 {}
set_option maxRecDepth 100000 in
set_option maxHeartbeats 0 in
theorem hAllq (w : World) (os : OsState) : PySem.W.Fast.tw10110043849684766642 PySem.W.Fast.tw14364793385576792824 PySem.W.Fast.K73_pw w 11 (some (.ref 6)) 1 2550 (hSa w.params os) ⟨(PySem.W.Fast.tw12563942051412417395 (PySem.W.behindTheImports PySem.W.Fast.K73_pw) hEnv).wrap PySem.W.doneF PySem.W.deadEnd id id, hCd, ⟨0, 0, 0, 0⟩, [PySem.W.topFrame ⟨0, 0, 0, 0⟩]⟩ = some (.next, hSm w.params os, hCd, ⟨376, 0, 380, 15⟩) := by kernel_rfl
set_option maxRecDepth 100000 in
set_option maxHeartbeats 0 in
theorem hFin (w : World) (os : OsState) : PySem.W.topRun PySem.W.Fast.tw14364793385576792824 PySem.W.Fast.K73_pw w 11 (some (.ref 6)) 2 (hSm w.params os).abs (PySem.W.restOf [] hEnv hCd ⟨376, 0, 380, 15⟩ [PySem.W.topFrame ⟨0, 0, 0, 0⟩]) = some ⟨hH1 w.params, Array.mk [], ⟨0, 0, 0, 0⟩, 765, os⟩ := by kernel_rfl
theorem all_of {F F' : (String → Option Builtin) → Program → World → Nat → Option Value → Nat → Nat → PySem.W.SharedT → Thread → Option (Flow × PySem.W.SharedT × Code × Pos)} {G G' : List Stmt → Env → Sem Flow} {tb : String → Option Builtin} {p : Program} {w : World} {m n : Nat} {ann : Option Value} {S : PySem.W.SharedT} {l : List Stmt} {env : Env} {c : Code} {pos : Pos} {B : List Frame} {r : Option (Flow × PySem.W.SharedT × Code × Pos)}
    (h : F' tb p w m ann 1 n S ⟨(G' l env).wrap PySem.W.doneF PySem.W.deadEnd id id, c, pos, B⟩ = r) (eF : F = F') (eG : G = G') : F tb p w m ann 1 n S ⟨(G l env).wrap PySem.W.doneF PySem.W.deadEnd id id, c, pos, B⟩ = r := by
  subst eF eG; exact h
theorem run_chain {tb : String → Option Builtin} {p : Program} {w : World} {m n0 n1 n2 n3 : Nat} {ann : Option Value} {env : Env} {q : Pos} {b : List Stmt} {S0 Sa R : Shared} {SA SM : PySem.W.SharedT} {stub : Thread} {pos0 pos1 pos2 : Pos} (ea : SA.abs = Sa)
    (h1 : PySem.W.topGo tb p w m ann n0 S0 stub = some (Sa, ⟨denote tb (Code.body b env), Code.body b env, pos0, [PySem.W.topFrame q]⟩))
    (h2 : PySem.W.segRun tb p w m ann 1 n1 Sa (PySem.W.blockOf b env (Code.body b env) pos0 [PySem.W.topFrame q]) = some (.next, Sa, Code.body b env, pos1))
    (h3 : PySem.W.segRunT tb p w m ann 1 n2 SA (PySem.W.piecesOf b env (Code.body b env) pos1 [PySem.W.topFrame q]) = some (.next, SM, Code.body b env, pos2))
    (h4 : PySem.W.topRun tb p w m ann n3 SM.abs (PySem.W.restOf [] env (Code.body b env) pos2 [PySem.W.topFrame q]) = some R) : PySem.W.topRun tb p w m ann (n0 + (n1 + (n2 + n3))) S0 stub = some R := by
  subst ea
  refine PySem.W.go_top h1 (PySem.W.piece_block h2 ?_)
  have h := PySem.W.piece_app (rest := []) (PySem.W.segRun_of h3) h4
  rw [List.append_nil] at h
  exact h
set_option maxRecDepth 100000 in
set_option maxHeartbeats 0 in
theorem hRun (w : World) (os : OsState) : PySem.W.topRun PySem.W.Fast.tw14364793385576792824 PySem.W.Fast.K73_pw w 11 (some (.ref 6)) (12 + (1 + (2550 + 2))) ⟨PySem.W.boot_heap w.params, Array.mk [], PySem.W.boot_drawn, PySem.W.boot_toks, os⟩ (PySem.W.topStub PySem.W.Fast.K73_pw) = some ⟨hH1 w.params, Array.mk [], ⟨0, 0, 0, 0⟩, 765, os⟩ :=
  run_chain rfl (hPre w os) (hBlk w os) (all_of (hAllq w os) PySem.W.Fast.te10110043849684766642 PySem.W.Fast.te12563942051412417395) (hFin w os)
abbrev hG {t : Type} (p q : Program) (lo : List Str) (lv : List (Str × PySem.W.WData)) (K : Params → PySem.W.Frag) (sn : Program → List Str → List Str → (Shared → Bool) → Bool → Shared → t) (gd : Program → List Str → t) (im : List Stmt → List Str) (w : World) : Prop :=
  (fun os : OsState => ((PySem.W.staticsOk (im p.main.body) (PySem.W.boot_heap w.params) (hH1 w.params) && PySem.W.namesBound p (hH1 w.params) && PySem.W.gensDone ⟨hH1 w.params, Array.mk [], ⟨0, 0, 0, 0⟩, 765, os⟩ && PySem.W.laidKept (PySem.W.boot_heap w.params) (hH1 w.params)), sn q lo (im p.main.body) (hXt q lv) true ⟨hH1 w.params, Array.mk [], ⟨0, 0, 0, 0⟩, 765, os⟩, hYf ⟨hH1 w.params, Array.mk [], ⟨0, 0, 0, 0⟩, 765, os⟩)) = fun _ => (true, gd q lo, hYa K w)
theorem hG_of {t : Type} {p p' q q' : Program} {lo lo' : List Str} {lv lv' : List (Str × PySem.W.WData)} {K K' : Params → PySem.W.Frag} {sn sn' : Program → List Str → List Str → (Shared → Bool) → Bool → Shared → t} {gd : Program → List Str → t} {im im' : List Stmt → List Str} {w : World}
    (h : hG p' q' lo' lv' K' sn' gd im' w) (e2 : p = p') (e3 : q = q') (e4 : lo = lo') (e5 : lv = lv') (e6 : K = K') (e7 : sn = sn') (e8 : im = im') : hG p q lo lv K sn gd im w := by
  subst e2 e3 e4 e5 e6 e7 e8; exact h
set_option maxRecDepth 100000 in
set_option maxHeartbeats 0 in
theorem hLk (w : World) : hG PySem.W.Fast.K73_pw PySem.W.Fast.K73_hQ PySem.W.Fast.K73_hLo PySem.W.Fast.K73_hLv PySem.W.Fast.K73_hK PySem.W.Fast.tw4187177175401517315 PySem.W.openGood PySem.W.Fast.tw5923862056798008813 w := by kernel_rfl
theorem hR_of {tb tb' : String → Option Builtin} {p p' : Program} {M : Nat} {S R : World → OsState → Shared} (h : ∀ w os, PySem.W.topRun tb' p' w 11 (some (.ref 6)) M (S w os) (PySem.W.topStub p') = some (R w os)) (e1 : tb = tb') (e2 : p = p') : ∀ w os, PySem.W.topRun tb p w 11 (some (.ref 6)) M (S w os) (PySem.W.topStub p) = some (R w os) := by
  subst e1 e2; exact h
set_option maxRecDepth 100000 in
set_option maxHeartbeats 0 in
theorem hSz (w : World) : ((PySem.W.boot_heap w.params).isNs mainGlobals && (Array.mk [] : Array GenState).size == 0, (PySem.W.boot_heap w.params).objs.size, (PySem.W.boot_heap w.params).nsMap mainGlobals "__annotations__") = (true, 11, (some (.ref 6))) := by kernel_rfl
set_option maxRecDepth 100000 in
set_option maxHeartbeats 0 in
theorem hl : PySem.W.LeftO PySem.Challenge.pw_notefall_k73_heads_written_and_read hQ hLo (hXt hQ hLv) hYf (hYa hK) 5206 :=
  PySem.W.LeftO.of_pieces (H₁ := hH1) (gs₁ := Array.mk []) (d₁ := ⟨0, 0, 0, 0⟩) (k₁ := 765) (PySem.W.boot_open (by kernel_rfl) (by decide +kernel) (fun s => by kernel_rfl)) hSz (hR_of (M := (12 + (1 + (2550 + 2)))) hRun PySem.W.Fast.te14364793385576792824 PySem.W.Fast.K73_pw_eq) (by decide +kernel)
    (fun w => hG_of (hLk w) PySem.W.Fast.K73_pw_eq PySem.W.Fast.K73_hQ_eq PySem.W.Fast.K73_hLo_eq PySem.W.Fast.K73_hLv_eq PySem.W.Fast.K73_hK_eq PySem.W.Fast.te4187177175401517315 PySem.W.Fast.te5923862056798008813)
end K73
open PySem PySem.W PyProof.Rows
set_option maxRecDepth 100000 in
set_option maxHeartbeats 0 in
theorem PySem.Challenge.cw_notefall_k73_heads_written_and_read_holds : PySem.Challenge.rw_notefall_k73_heads_written_and_read.Holds := by
  w_on; o_law
  refine holds_open (q := K73.hQ) (loose := K73.hLo) (Xt := K73.hXt K73.hQ K73.hLv) (XP := XL K73.hQ K73.hLv) (Yf := K73.hYf) (Ya := K73.hYa K73.hK) (YP := Hook.says (PySem.W.kHook K73.hK K73.hAs K73.hE)) (N := 5206) K73.hl (Hook.of (PySem.W.kHook K73.hK K73.hAs K73.hE)) (Hook.keeps (PySem.W.kHook K73.hK K73.hAs K73.hE)) (fun s e => xl_of s (Bool.and_eq_true_iff.mp e).1) XL.keeps (by rfl) (by rfl) (by rfl) (fun s e => recFacts_of (Bool.and_eq_true_iff.mp e).2) (by rfl) (by first | assumption | decide +kernel) (by decide +kernel) ⟨rfl, rfl, rfl, rfl, rfl, by decide +kernel⟩ ?hw ?hc
  case hw => w_witness2
  k_fill
  refine K73.walk (l := PySem.Challenge.rw_notefall_k73_heads_written_and_read) rfl rfl (fun w h Y => PySem.W.kIn_of Y) ?F
  case F =>
    intro w mg fa h KX G hmg
    refine' K73.all_mk KX G hmg ?a1 ?l1 ?c1 ?k1 ?a2 ?l2 ?c2 ?k2 ?a3 ?l3 ?c3 ?k3 ?a4 ?l4 ?c4 ?k4 ?a5 ?l5 ?c5 ?k5 ?a6 ?l6 ?c6 ?k6 ?a7 ?l7 ?c7 ?k7 ?a8 ?l8 ?c8 ?k8 ?a9 ?l9 ?c9 ?k9 ?a10 ?l10 ?c10 ?k10 ?a11 ?l11 ?c11 ?k11 ?a12 ?l12 ?c12 ?k12 ?a13 ?l13 ?c13 ?k13 ?a14 ?l14 ?c14 ?k14 ?a15 ?l15 ?c15 ?k15 ?a16 ?l16 ?c16 ?k16 ?a17 ?l17 ?c17 ?k17 ?a18 ?l18 ?c18 ?k18 ?a19 ?l19 ?c19 ?k19 ?a20 ?l20 ?c20 ?k20 ?a21 ?l21 ?c21 ?k21 ?a22 ?l22 ?c22 ?k22 ?a23 ?l23 ?c23 ?k23 ?a24 ?l24 ?c24 ?k24 ?a25 ?l25 ?c25 ?k25 ?a26 ?l26 ?c26 ?k26 ?a27 ?l27 ?c27 ?k27 ?a28 ?l28 ?c28 ?k28 ?a29 ?l29 ?c29 ?k29 ?a30 ?l30 ?c30 ?k30 ?a31 ?l31 ?c31 ?k31 ?a32 ?l32 ?c32 ?k32 ?a33 ?l33 ?c33 ?k33 ?a34 ?l34 ?c34 ?k34 ?a35 ?l35 ?c35 ?k35 ?a36 ?l36 ?c36 ?k36 ?a37 ?l37 ?c37 ?k37 ?a38 ?l38 ?c38 ?k38 ?a39 ?l39 ?c39 ?k39 ?z_len ?z_isinstance ?z_int ?z_bool ?z_tuple ?z_str ?z_list ?z_all ?z_zip ?z_enumerate ?z_range ?z_dict ?z_max ?z_min ?z_ValueError ?z_MOST_TRAY ?z_LEAST_FAN ?z_MOST_FAN ?z_MOST_ROWS ?z_MOST_FIGURES ?z_PLANS ?z_FallError ?z_NoRule ?z_NoPage ?z_gt ?z_tk ?z_xN ?z_gaN ?z_ghN ?z_clN ?z_moN ?z_mbN ?z_isN ?z_mN ?z_kN0 ?z_kN1 ?z_kN2 ?z_kP
    (case z_MOST_TRAY => k_is)
    (case z_LEAST_FAN => k_is)
    (case z_MOST_FAN => k_is)
    (case z_MOST_ROWS => k_is)
    (case z_MOST_FIGURES => k_is)
    (case z_PLANS => k_is)
    (case z_FallError => k_is)
    (case z_NoRule => k_is)
    (case z_NoPage => k_is)
    (case a1 => k_is)
    (case l1 => k_is)
    (case c1 => k_is)
    (case k1 => k_is)
    (case a2 => k_is)
    (case l2 => k_is)
    (case c2 => k_is)
    (case k2 => k_is)
    (case a3 => k_is)
    (case l3 => k_is)
    (case c3 => k_is)
    (case k3 => k_is)
    (case a4 => k_is)
    (case l4 => k_is)
    (case c4 => k_is)
    (case k4 => k_is)
    (case a5 => k_is)
    (case l5 => k_is)
    (case c5 => k_is)
    (case k5 => k_is)
    (case a6 => k_is)
    (case l6 => k_is)
    (case c6 => k_is)
    (case k6 => k_is)
    (case a7 => k_is)
    (case l7 => k_is)
    (case c7 => k_is)
    (case k7 => k_is)
    (case a8 => k_is)
    (case l8 => k_is)
    (case c8 => k_is)
    (case k8 => k_is)
    (case a9 => k_is)
    (case l9 => k_is)
    (case c9 => k_is)
    (case k9 => k_is)
    (case a10 => k_is)
    (case l10 => k_is)
    (case c10 => k_is)
    (case k10 => k_is)
    (case a11 => k_is)
    (case l11 => k_is)
    (case c11 => k_is)
    (case k11 => k_is)
    (case a12 => k_is)
    (case l12 => k_is)
    (case c12 => k_is)
    (case k12 => k_is)
    (case a13 => k_is)
    (case l13 => k_is)
    (case c13 => k_is)
    (case k13 => k_is)
    (case a14 => k_is)
    (case l14 => k_is)
    (case c14 => k_is)
    (case k14 => k_is)
    (case a15 => k_is)
    (case l15 => k_is)
    (case c15 => k_is)
    (case k15 => k_is)
    (case a16 => k_is)
    (case l16 => k_is)
    (case c16 => k_is)
    (case k16 => k_is)
    (case a17 => k_is)
    (case l17 => k_is)
    (case c17 => k_is)
    (case k17 => k_is)
    (case a18 => k_is)
    (case l18 => k_is)
    (case c18 => k_is)
    (case k18 => k_is)
    (case a19 => k_is)
    (case l19 => k_is)
    (case c19 => k_is)
    (case k19 => k_is)
    (case a20 => k_is)
    (case l20 => k_is)
    (case c20 => k_is)
    (case k20 => k_is)
    (case a21 => k_is)
    (case l21 => k_is)
    (case c21 => k_is)
    (case k21 => k_is)
    (case a22 => k_is)
    (case l22 => k_is)
    (case c22 => k_is)
    (case k22 => k_is)
    (case a23 => k_is)
    (case l23 => k_is)
    (case c23 => k_is)
    (case k23 => k_is)
    (case a24 => k_is)
    (case l24 => k_is)
    (case c24 => k_is)
    (case k24 => k_is)
    (case a25 => k_is)
    (case l25 => k_is)
    (case c25 => k_is)
    (case k25 => k_is)
    (case a26 => k_is)
    (case l26 => k_is)
    (case c26 => k_is)
    (case k26 => k_is)
    (case a27 => k_is)
    (case l27 => k_is)
    (case c27 => k_is)
    (case k27 => k_is)
    (case a28 => k_is)
    (case l28 => k_is)
    (case c28 => k_is)
    (case k28 => k_is)
    (case a29 => k_is)
    (case l29 => k_is)
    (case c29 => k_is)
    (case k29 => k_is)
    (case a30 => k_is)
    (case l30 => k_is)
    (case c30 => k_is)
    (case k30 => k_is)
    (case a31 => k_is)
    (case l31 => k_is)
    (case c31 => k_is)
    (case k31 => k_is)
    (case a32 => k_is)
    (case l32 => k_is)
    (case c32 => k_is)
    (case k32 => k_is)
    (case a33 => k_is)
    (case l33 => k_is)
    (case c33 => k_is)
    (case k33 => k_is)
    (case a34 => k_is)
    (case l34 => k_is)
    (case c34 => k_is)
    (case k34 => k_is)
    (case a35 => k_is)
    (case l35 => k_is)
    (case c35 => k_is)
    (case k35 => k_is)
    (case a36 => k_is)
    (case l36 => k_is)
    (case c36 => k_is)
    (case k36 => k_is)
    (case a37 => k_is)
    (case l37 => k_is)
    (case c37 => k_is)
    (case k37 => k_is)
    (case a38 => k_is)
    (case l38 => k_is)
    (case c38 => k_is)
    (case k38 => k_is)
    (case a39 => k_is)
    (case l39 => k_is)
    (case c39 => k_is)
    (case k39 => k_is)
    (case z_len => k_is)
    (case z_isinstance => k_is)
    (case z_int => k_is)
    (case z_bool => k_is)
    (case z_tuple => k_is)
    (case z_str => k_is)
    (case z_list => k_is)
    (case z_all => k_is)
    (case z_zip => k_is)
    (case z_enumerate => k_is)
    (case z_range => k_is)
    (case z_dict => k_is)
    (case z_max => k_is)
    (case z_min => k_is)
    (case z_ValueError => k_is)
    (case z_gt => k_is)
    (case z_tk => k_is)
    (case z_xN => k_exc)
    (case z_gaN => k_is)
    (case z_ghN => k_is)
    (case z_clN => k_is)
    (case z_moN => k_is)
    (case z_mbN => k_is)
    (case z_isN => k_is)
    (case z_mN => kts_exm)
    (case z_kN0 => kit_is)
    (case z_kN1 => kit_is)
    (case z_kN2 => kit_is)
    (case z_kP => k_is)
