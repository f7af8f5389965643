import PyProof.Rows.All
import Wide.All
import OpenK.AllK
import Wide.FinOn
import HandS.ForMost
import HandS.SortInts
import HandS.WideBits
import HandS.Conv
import HandS.Zip
import HandS.TupAny
import HandS.TupMul
import HandS.More
import HandS.Dict
import HandS.Style
import PySem.Challenge.RW_wavespots_k41_whole_parts_by_own_divisio
set_option Elab.async false
set_option linter.all false
set_option maxRecDepth 100000
set_option maxHeartbeats 4000000
/-! Dm: values of a program as plain data; what an expression, a statement, a def gives as a function of plain data. -/
namespace Dm
open PySem PySem.Spec L2
set_option autoImplicit false

/-- plain data: what a value is, deep -/
inductive D where
  | non | bl (b : Bool) | int (i : Int) | str (x : Str) | tup (xs : List D) | lst (xs : List D) | dic (ks : List Key) (vs : List D)
  deriving Inhabited

mutual
inductive At (K : PySem.W.Frag) (H : Hp) : V → D → Prop
  | non : At K H .non .non
  | bl (b : Bool) : At K H (.bl b) (.bl b)
  | int (i : Int) : At K H (.int i) (.int i)
  | str (x : Str) : At K H (.str x) (.str x)
  | lst {a : Addr} {xs : List V} {ds : List D} : SqL K H a xs → Ats K H xs ds → At K H (.ref a) (.lst ds)
  | tup {a : Addr} {xs : List V} {ds : List D} : SqT K H a xs → Ats K H xs ds → At K H (.ref a) (.tup ds)
  | dic {a : Addr} {kvs : List (Key × V)} {ds : List D} : Rd H a (.dK kvs) → Ats K H (kvs.map (·.2)) ds → At K H (.ref a) (.dic (kvs.map (·.1)) ds)
inductive Ats (K : PySem.W.Frag) (H : Hp) : List V → List D → Prop
  | nil : Ats K H [] []
  | cons {v : V} {vs : List V} {d : D} {ds : List D} : At K H v d → Ats K H vs ds → Ats K H (v :: vs) (d :: ds)
end

/-- all that M tells, H tells -/
def Le (M H : Hp) : Prop := ∀ a o, M a = some o → H a = some o
theorem Le.refl (H : Hp) : Le H H := fun _ _ h => h
theorem Le.trans {A B C : Hp} (x : Le A B) (y : Le B C) : Le A C := fun a o h => y a o (x a o h)
theorem Le.rd {M H : Hp} (e : Le M H) {a : Addr} {u : HO} (h : Rd M a u) : Rd H a u := by
  rcases h with h | ⟨o, h⟩
  · exact .inl (e a _ h)
  · exact .inr ⟨o, e a _ h⟩
theorem Le.sqL {K : PySem.W.Frag} {M H : Hp} (e : Le M H) {a : Addr} {xs : List V} (h : SqL K M a xs) : SqL K H a xs := by
  rcases h with h | h
  · exact .inl (e.rd h)
  · exact .inr h
theorem Le.sqT {K : PySem.W.Frag} {M H : Hp} (e : Le M H) {a : Addr} {xs : List V} (h : SqT K M a xs) : SqT K H a xs := by
  rcases h with h | h
  · exact .inl (e.rd h)
  · exact .inr h
mutual
theorem At.mono {K : PySem.W.Frag} {M H : Hp} (e : Le M H) : ∀ {v : V} {d : D}, At K M v d → At K H v d
  | _, _, .non => .non
  | _, _, .bl b => .bl b
  | _, _, .int i => .int i
  | _, _, .str x => .str x
  | _, _, .lst h q => .lst (e.sqL h) (Ats.mono e q)
  | _, _, .tup h q => .tup (e.sqT h) (Ats.mono e q)
  | _, _, .dic h q => .dic (e.rd h) (Ats.mono e q)
theorem Ats.mono {K : PySem.W.Frag} {M H : Hp} (e : Le M H) : ∀ {vs : List V} {ds : List D}, Ats K M vs ds → Ats K H vs ds
  | _, _, .nil => .nil
  | _, _, .cons h q => .cons (At.mono e h) (Ats.mono e q)
end
section
variable {K : PySem.W.Frag} {M H : Hp}
theorem Ats.length : ∀ {vs : List V} {ds : List D}, Ats K H vs ds → vs.length = ds.length
  | _, _, .nil => rfl
  | _, _, .cons _ q => congrArg (· + 1) (Ats.length q)
theorem Ats.get : ∀ {vs : List V} {ds : List D} {i : Nat} {d : D}, Ats K H vs ds → ds[i]? = some d → ∃ v, vs[i]? = some v ∧ At K H v d
  | _, _, _, _, .nil, e => by simp at e
  | _, _, 0, _, .cons h _, e => by simp at e; subst e; exact ⟨_, rfl, h⟩
  | _, _, i + 1, _, .cons _ q, e => by
    obtain ⟨v, h1, h2⟩ := Ats.get (i := i) q (by simpa using e)
    exact ⟨v, by simpa using h1, h2⟩
theorem Ats.getV : ∀ {vs : List V} {ds : List D} {i : Nat} {v : V}, Ats K H vs ds → vs[i]? = some v → ∃ d, ds[i]? = some d ∧ At K H v d
  | _, _, _, _, .nil, e => by simp at e
  | _, _, 0, _, .cons h _, e => by simp at e; subst e; exact ⟨_, rfl, h⟩
  | _, _, i + 1, _, .cons _ q, e => by
    obtain ⟨v, h1, h2⟩ := Ats.getV (i := i) q (by simpa using e)
    exact ⟨v, by simpa using h1, h2⟩
theorem Ats.append : ∀ {vs ws : List V} {ds es : List D}, Ats K H vs ds → Ats K H ws es → Ats K H (vs ++ ws) (ds ++ es)
  | _, _, _, _, .nil, q => q
  | _, _, _, _, .cons h t, q => .cons h (Ats.append t q)
theorem Ats.one {v : V} {d : D} (h : At K H v d) : Ats K H [v] [d] := .cons h .nil
theorem Ats.set {v : V} {d : D} (h : At K H v d) : ∀ {vs : List V} {ds : List D} (i : Nat), Ats K H vs ds → Ats K H (vs.set i v) (ds.set i d)
  | _, _, _, .nil => .nil
  | _, _, 0, .cons _ t => .cons h t
  | _, _, i + 1, .cons q t => .cons q (Ats.set h i t)
theorem Ats.take : ∀ {vs : List V} {ds : List D} (n : Nat), Ats K H vs ds → Ats K H (vs.take n) (ds.take n)
  | _, _, 0, _ => .nil
  | _, _, _ + 1, .nil => .nil
  | _, _, n + 1, .cons q t => .cons q (Ats.take n t)
theorem Ats.drop : ∀ {vs : List V} {ds : List D} (n : Nat), Ats K H vs ds → Ats K H (vs.drop n) (ds.drop n)
  | _, _, 0, q => q
  | _, _, _ + 1, .nil => .nil
  | _, _, n + 1, .cons _ t => Ats.drop n t
theorem Ats.dropLast {vs : List V} {ds : List D} (h : Ats K H vs ds) : Ats K H vs.dropLast ds.dropLast := by
  rw [List.dropLast_eq_take, List.dropLast_eq_take, h.length]
  exact h.take _
theorem Ats.reverse : ∀ {vs : List V} {ds : List D}, Ats K H vs ds → Ats K H vs.reverse ds.reverse
  | _, _, .nil => .nil
  | _, _, .cons q t => by
    rw [List.reverse_cons, List.reverse_cons]
    exact (Ats.reverse t).append (.one q)
theorem Ats.rep {vs : List V} {ds : List D} (h : Ats K H vs ds) : ∀ k : Nat, Ats K H (List.replicate k vs).flatten (List.replicate k ds).flatten
  | 0 => .nil
  | k + 1 => by
    rw [List.replicate_succ, List.replicate_succ, List.flatten_cons, List.flatten_cons]
    exact h.append (Ats.rep h k)
end

/-- a slot: nothing, data that stays, a list of this def's own (true: handed in to be changed) -/
inductive Cell where
  | val (d : D) | own (p : Bool) (xs : List D)
abbrev S := List (Option Cell)
/-- a result: data that stays; a new list; the list at a slot -/
inductive R where
  | val (d : D) | own (xs : List D) | slot (i : Nat)
/-- what a def hands back -/
inductive Ret where
  | val (d : D) | own (xs : List D)

def Owned (σ : St) (s : S) (a : Addr) : Prop := ∃ (i : Nat) (p : Bool) (xs : List D), s[i]? = some (some (Cell.own p xs)) ∧ σ[i]? = some (some (V.ref a))

structure Rel (K : PySem.W.Frag) (M H : Hp) (σ : St) (s : S) : Prop where
  len : s.length = σ.length
  le : Le M H
  val : ∀ (i : Nat) (d : D), s[i]? = some (some (Cell.val d)) → ∃ v, σ[i]? = some (some v) ∧ At K M v d
  own : ∀ (i : Nat) (p : Bool) (xs : List D), s[i]? = some (some (Cell.own p xs)) → ∃ l vs, σ[i]? = some (some (V.ref l)) ∧ H l = some (.lst vs) ∧ M l = none ∧ Ats K M vs xs
  inj : ∀ (i j : Nat) (p q : Bool) (xs ys : List D) (l : Addr), s[i]? = some (some (Cell.own p xs)) → s[j]? = some (some (Cell.own q ys)) → σ[i]? = some (some (V.ref l)) → σ[j]? = some (some (V.ref l)) → i = j

structure Go (σ : St) (s : S) (M H : Hp) (σ' : St) (s' : S) (M' H' : Hp) : Prop where
  up : Le M M'
  keep : ∀ a o, H a = some o → ¬ Owned σ s a → H' a = some o ∧ (M a = none → M' a = none)
  there : ∀ a o, H a = some o → ∃ o', H' a = some o'
  own : ∀ (i : Nat) (p : Bool) (xs : List D) (l : Addr), s'[i]? = some (some (Cell.own p xs)) → σ'[i]? = some (some (V.ref l)) → (H l = none ∧ p = false) ∨ (∃ (j : Nat) (ys : List D), s[j]? = some (some (Cell.own p ys)) ∧ σ[j]? = some (some (V.ref l)))
  port : ∀ (i : Nat) (xs : List D), s[i]? = some (some (Cell.own true xs)) → ∃ ys, s'[i]? = some (some (Cell.own true ys)) ∧ σ'[i]? = σ[i]?

theorem Go.refl {σ : St} {s : S} {M H : Hp} : Go σ s M H σ s M H :=
  ⟨Le.refl _, fun _ _ h _ => ⟨h, fun z => z⟩, fun _ o h => ⟨o, h⟩, fun i p xs l h1 h2 => .inr ⟨i, xs, h1, h2⟩, fun _ xs h => ⟨xs, h, rfl⟩⟩
theorem Go.trans {σ σ1 σ2 : St} {s s1 s2 : S} {M H M1 H1 M2 H2 : Hp} (a : Go σ s M H σ1 s1 M1 H1) (b : Go σ1 s1 M1 H1 σ2 s2 M2 H2) : Go σ s M H σ2 s2 M2 H2 where
  up := a.up.trans b.up
  keep := fun x o h n => by
    obtain ⟨h1, m1⟩ := a.keep x o h n
    have n1 : ¬ Owned σ1 s1 x := fun ⟨i, p, xs, e1, e2⟩ => by
      rcases a.own i p xs x e1 e2 with ⟨z, _⟩ | ⟨j, ys, z1, z2⟩
      · rw [h] at z; cases z
      · exact n ⟨j, p, ys, z1, z2⟩
    obtain ⟨h2, m2⟩ := b.keep x o h1 n1
    exact ⟨h2, fun z => m2 (m1 z)⟩
  there := fun x o h => by
    obtain ⟨o1, h1⟩ := a.there x o h
    exact b.there x o1 h1
  own := fun i p xs l e1 e2 => by
    rcases b.own i p xs l e1 e2 with ⟨z, hp⟩ | ⟨j, ys, z1, z2⟩
    · refine .inl ⟨?_, hp⟩
      cases q : H l with
      | none => rfl
      | some o =>
        obtain ⟨o', h'⟩ := a.there l o q
        rw [z] at h'; cases h'
    · exact a.own j p ys l z1 z2
  port := fun i xs h => by
    obtain ⟨ys, e1, e2⟩ := a.port i xs h
    obtain ⟨zs, e3, e4⟩ := b.port i ys e1
    exact ⟨zs, e3, e4.trans e2⟩
/-- nothing but new things -/
theorem Go.grow {σ : St} {s : S} {M H M' H' : Hp} (u : Le M M') (h : Le H H') (f : ∀ a o, H a = some o → M a = none → M' a = none) : Go σ s M H σ s M' H' :=
  ⟨u, fun a o e _ => ⟨h a o e, f a o e⟩, fun a o e => ⟨o, h a o e⟩, fun i p xs l h1 h2 => .inr ⟨i, xs, h1, h2⟩, fun _ xs e => ⟨xs, e, rfl⟩⟩
theorem Go.free {σ σ' : St} {s s' : S} {M H M' H' : Hp} (g : Go σ s M H σ' s' M' H') {l : Addr} (h : H' l = none) : H l = none := by
  cases q : H l with
  | none => rfl
  | some o =>
    obtain ⟨o', h'⟩ := g.there l o q
    rw [h] at h'; cases h'
theorem le_none {M H : Hp} (e : Le M H) {a : Addr} (h : H a = none) : M a = none := by
  cases q : M a with
  | none => rfl
  | some o => rw [e a o q] at h; cases h
theorem le_upd {H : Hp} {p : Addr} {o : HO} (h : H p = none) : Le H (upd H p o) := fun a u e => by
  rw [upd_ne (ne_of_none e h)]; exact e
theorem le_upd2 {M H : Hp} {p : Addr} {o : HO} (e : Le M H) : Le (upd M p o) (upd H p o) := fun a u h => by
  by_cases q : a = p
  · subst q; rw [upd_same] at h ⊢; exact h
  · rw [upd_ne q] at h ⊢; exact e a u h
theorem le_updr {M H : Hp} {p : Addr} {o : HO} (e : Le M H) (h : M p = none) : Le M (upd H p o) := fun a u q => by
  rw [upd_ne (ne_of_none q h)]; exact e a u q

section
variable {K : PySem.W.Frag} {M H M' H' : Hp} {σ : St} {s : S}
/-- the relation over more heap -/
theorem Rel.grow (r : Rel K M H σ s) (u : Le M M') (h : Le H H') (e : Le M' H') (f : ∀ a o, H a = some o → M a = none → M' a = none) : Rel K M' H' σ s where
  len := r.len
  le := e
  val := fun i d q => let ⟨v, a, b⟩ := r.val i d q; ⟨v, a, b.mono u⟩
  own := fun i p xs q => by
    obtain ⟨l, vs, a, b, c, d⟩ := r.own i p xs q
    exact ⟨l, vs, a, h l _ b, f l _ b c, d.mono u⟩
  inj := r.inj
theorem Rel.owned_some (r : Rel K M H σ s) {a : Addr} (o : Owned σ s a) : ∃ vs, H a = some (.lst vs) ∧ M a = none := by
  obtain ⟨i, p, xs, e1, e2⟩ := o
  obtain ⟨l, vs, a1, b, c, _⟩ := r.own i p xs e1
  rw [e2] at a1
  cases a1
  exact ⟨vs, b, c⟩
theorem Rel.not_owned (r : Rel K M H σ s) {a : Addr} (h : H a = none) : ¬ Owned σ s a := fun o => by
  obtain ⟨vs, q, _⟩ := r.owned_some o
  rw [h] at q; cases q
end

/-- what a result is -/
def Held (K : PySem.W.Frag) (M H : Hp) (σ : St) (s : S) (v : V) : R → Prop
  | .val d => At K M v d
  | .own xs => ∃ l vs, v = .ref l ∧ H l = some (.lst vs) ∧ M l = none ∧ ¬ Owned σ s l ∧ Ats K M vs xs
  | .slot i => σ[i]? = some (some v)
/-- a new result: a list that was not there -/
def New (H : Hp) (v : V) : R → Prop
  | .own _ => ∃ l, v = .ref l ∧ H l = none
  | _ => True
theorem Held.go {K : PySem.W.Frag} {M H M' H' : Hp} {σ : St} {s s' : S} {v : V} {r : R} (h : Held K M H σ s v r) (g : Go σ s M H σ s' M' H') (_ : Rel K M' H' σ s') : Held K M' H' σ s' v r := by
  cases r with
  | val d => exact At.mono g.up h
  | own xs =>
    obtain ⟨l, vs, e, h1, h2, h3, h4⟩ := h
    obtain ⟨k1, k2⟩ := g.keep l _ h1 h3
    refine ⟨l, vs, e, k1, k2 h2, fun ⟨i, p, ys, e1, e2⟩ => ?_, h4.mono g.up⟩
    rcases g.own i p ys l e1 e2 with ⟨z, _⟩ | ⟨j, zs, z1, z2⟩
    · rw [h1] at z; cases z
    · exact h3 ⟨j, p, zs, z1, z2⟩
  | slot i => exact h
/-- the data of a result, as it stands -/
def peek (r : R) (s : S) : Option D := match r with
  | .val d => some d
  | .own xs => some (.lst xs)
  | .slot i => match s[i]? with
    | some (some (Cell.own _ xs)) => some (.lst xs)
    | some (some (Cell.val d)) => some d
    | _ => none
theorem Held.peek {K : PySem.W.Frag} {M H : Hp} {σ : St} {s : S} {v : V} {r : R} {d : D} (h : Held K M H σ s v r) (rel : Rel K M H σ s) (e : peek r s = some d) :
    At K M v d ∨ ∃ l vs xs, v = .ref l ∧ H l = some (.lst vs) ∧ M l = none ∧ Ats K M vs xs ∧ d = .lst xs := by
  cases r with
  | val d' => cases e; exact .inl h
  | own xs =>
    cases e
    obtain ⟨l, vs, e, h1, h2, _, h4⟩ := h
    exact .inr ⟨l, vs, xs, e, h1, h2, h4, rfl⟩
  | slot i =>
    have h' : σ[i]? = some (some v) := h
    unfold Dm.peek at e
    simp only at e
    split at e
    · rename_i p xs q
      cases e
      obtain ⟨l, vs, a, b, c, d⟩ := rel.own i p xs q
      rw [h'] at a
      cases a
      exact .inr ⟨l, vs, xs, rfl, b, c, d, rfl⟩
    · rename_i d' q
      cases e
      obtain ⟨v', a, b⟩ := rel.val i _ q
      rw [h'] at a
      cases a
      exact .inl b
    · cases e
/-- at the heap itself -/
theorem Held.at {K : PySem.W.Frag} {M H : Hp} {σ : St} {s : S} {v : V} {r : R} {d : D} (h : Held K M H σ s v r) (rel : Rel K M H σ s) (e : Dm.peek r s = some d) : At K H v d := by
  rcases h.peek rel e with q | ⟨l, vs, xs, rfl, h1, _, h4, rfl⟩
  · exact q.mono rel.le
  · exact .lst (SqL.of h1) (h4.mono rel.le)
/-- a list as it stands: its items stay -/
theorem Held.list {K : PySem.W.Frag} {M H : Hp} {σ : St} {s : S} {v : V} {r : R} {xs : List D} (h : Held K M H σ s v r) (rel : Rel K M H σ s) (e : Dm.peek r s = some (.lst xs)) : ∃ l vs, v = .ref l ∧ SqL K H l vs ∧ Ats K M vs xs := by
  rcases h.peek rel e with q | ⟨l, vs, xs', rfl, h1, _, h4, e2⟩
  · cases q with
    | lst a b => exact ⟨_, _, rfl, rel.le.sqL a, b⟩
  · cases e2
    exact ⟨l, vs, rfl, SqL.of h1, h4⟩
theorem Held.tuple {K : PySem.W.Frag} {M H : Hp} {σ : St} {s : S} {v : V} {r : R} {xs : List D} (h : Held K M H σ s v r) (rel : Rel K M H σ s) (e : Dm.peek r s = some (.tup xs)) : ∃ l vs, v = .ref l ∧ SqT K H l vs ∧ Ats K M vs xs := by
  rcases h.peek rel e with q | ⟨l, vs, xs', rfl, h1, _, h4, e2⟩
  · cases q with
    | tup a b => exact ⟨_, _, rfl, rel.le.sqT a, b⟩
  · cases e2
theorem Held.scal {K : PySem.W.Frag} {M H : Hp} {σ : St} {s : S} {v : V} {r : R} {d : D} (h : Held K M H σ s v r) (rel : Rel K M H σ s) (e : Dm.peek r s = some d) : (∀ i, d = .int i → v = .int i) ∧ (∀ b, d = .bl b → v = .bl b) ∧ (∀ x, d = .str x → v = .str x) ∧ (d = .non → v = .non) := by
  have q := h.at rel e
  refine ⟨fun i z => ?_, fun b z => ?_, fun x z => ?_, fun z => ?_⟩ <;> (subst z; cases q; rfl)
end Dm
set_option Elab.async false
set_option linter.all false
set_option maxRecDepth 100000
set_option maxHeartbeats 4000000
namespace Dm
open PySem PySem.Spec L2
set_option autoImplicit false

/-- no name twice, as a test -/
def ndB : List Str → Bool
  | [] => true
  | x :: xs => !(xs.any fun y => decide (x = y)) && ndB xs
theorem ndOf : ∀ {xs : List Str}, ndB xs = true → xs.Nodup
  | [], _ => .nil
  | x :: xs, h => by
    unfold ndB at h
    rw [Bool.and_eq_true] at h
    refine List.nodup_cons.2 ⟨fun m => ?_, ndOf h.2⟩
    have := h.1
    rw [Bool.not_eq_true', List.any_eq_false] at this
    exact this x m (by simp)
/-- what the rules ask of where one stands -/
structure Cd where
  P : Program
  w : World
  K : PySem.W.Frag
  mg : Str → Option Value
  base : Heap
  N : List Str
  sc : Scope
  k : Nat
  top : Bool
structure Fits (c : Cd) (X : Cx) : Prop where
  P : X.prog = c.P
  w : X.w = c.w
  K : X.K = c.K
  mg : X.mg = c.mg
  base : X.base = c.base
  N : X.N = c.N
  sc : X.env.scope = c.sc
  calm : X.calm = true
  room : Room c.k X.A
  own : PassesOwn (model X.prog X.w) X.A X.env X.xe
  fn : c.top = true → ∀ x, X.fn x = true
  guards : X.A.guards = some []

structure Ok (K : PySem.W.Frag) (σ : L2.St) (s : S) (M H : Hp) (r : R) (s' : S) (v : V) (M' H' : Hp) : Prop where
  go : Go σ s M H σ s' M' H'
  rel : Rel K M' H' σ s'
  held : Held K M' H' σ s' v r
  new : New H v r

abbrev ME := S → Option (R × S)
def Sound (K : PySem.W.Frag) (t : TE) (m : ME) : Prop :=
  ∀ (σ : L2.St) (s : S) (M H : Hp) (r : R) (s' : S), m s = some (r, s') → Rel K M H σ s → ∀ Q : VK, (∀ v M' H', Ok K σ s M H r s' v M' H' → Q v H') → t σ H Q
def SE (c : Cd) (e : Expr) (m : ME) : Prop := ∃ t : TE, (∀ X, Fits c X → PE X e t) ∧ Sound c.K t m

section basics
variable {c : Cd} {e : Expr}
def mVar (i : Nat) : ME := fun s => match s[i]? with
  | some (some (.val d)) => some (.val d, s)
  | some (some (.own _ _)) => some (.slot i, s)
  | _ => none
def mC (d : D) : ME := fun s => some (.val d, s)

theorem Ok.same {K : PySem.W.Frag} {σ : L2.St} {s : S} {M H : Hp} {r : R} {v : V} (rel : Rel K M H σ s) (h : Held K M H σ s v r) (n : New H v r) : Ok K σ s M H r s v M H := ⟨Go.refl, rel, h, n⟩
theorem sound_c {K : PySem.W.Frag} {v : V} {d : D} (h : ∀ M, At K M v d) : Sound K (tC v) (mC d) := fun σ s M H r s' e rel Q q => by
  cases e
  exact q v M H (.same rel (h M) trivial)
theorem sound_var {K : PySem.W.Frag} {i : Nat} : Sound K (tVar i) (mVar i) := fun σ s M H r s' e rel Q q => by
  unfold mVar at e
  split at e
  · rename_i d h
    cases e
    obtain ⟨v, a, b⟩ := rel.val i d h
    exact ⟨v, a, q v M H (.same rel b trivial)⟩
  · rename_i p xs h
    cases e
    obtain ⟨l, vs, a, b, c, d⟩ := rel.own i p xs h
    exact ⟨.ref l, a, q _ M H (.same rel a trivial)⟩
  · cases e
theorem se_var (i : Nat) {x : Str} {pos : Pos} (hN : c.N[i]? = some x := by rfl) (hv : Vis c.sc x := by first | exact Or.inl rfl | exact Or.inr (Or.inl rfl) | exact Or.inr (Or.inr rfl))
    (hd : (x == ("__debug__" : Str)) = false := by decide) (hcd : (x == ("__classdict__" : Str)) = false := by decide) : SE c (.Name x pos) (mVar i) :=
  ⟨_, fun X h => pe_var (by rw [h.N]; exact hN) (by rw [h.sc]; exact hv) hd hcd, sound_var⟩
theorem se_int {i : Int} {j : Nat} {pos : Pos} : SE c (.Constant (.int i) j pos) (mC (.int i)) := ⟨_, fun _ _ => pe_int, sound_c fun _ => .int i⟩
theorem se_bl {b : Bool} {j : Nat} {pos : Pos} : SE c (.Constant (.bool b) j pos) (mC (.bl b)) := ⟨_, fun _ _ => pe_bl, sound_c fun _ => .bl b⟩
theorem se_non {j : Nat} {pos : Pos} : SE c (.Constant .none j pos) (mC .non) := ⟨_, fun _ _ => pe_non, sound_c fun _ => .non⟩
theorem se_str {x : Str} {j : Nat} {pos : Pos} : SE c (.Constant (.str x) j pos) (mC (.str x)) := ⟨_, fun _ _ => pe_str, sound_c fun _ => .str x⟩
/-- a module's constant -/
theorem se_glob {x : Str} {v : V} {u : Value} {d : D} {pos : Pos} (hg : (c.sc.names.lookup x).getD .globalImplicit = .globalImplicit) (hk : ∀ X, Fits c X → Gl X x) (hm : c.mg x = some u) (r : RelV v u) (h : ∀ M, At c.K M v d) (hd : (x == ("__debug__" : Str)) = false := by decide) :
    SE c (.Name x pos) (mC d) := ⟨_, fun X f => pe_glob (hk X f) (by rw [f.mg]; exact hm) r hd, sound_c h⟩

/-- to data that stays -/
def frz (r : R) (s : S) : Option (D × S) := match r with
  | .val d => some (d, s)
  | .own xs => some (.lst xs, s)
  | .slot i => match s[i]? with
    | some (some (.own false xs)) => some (.lst xs, s.set i (some (.val (.lst xs))))
    | some (some (.val d)) => some (d, s)
    | _ => none
theorem set_get {α : Type} {s : List α} {i j : Nat} {x : α} {y : α} (h : (s.set i x)[j]? = some y) : (j = i ∧ y = x) ∨ (j ≠ i ∧ s[j]? = some y) := by
  by_cases e : i = j
  · subst e
    rw [List.getElem?_set_self'] at h
    cases q : s[i]? with
    | none => rw [q] at h; cases h
    | some z => rw [q] at h; simp at h; exact .inl ⟨rfl, h.symm⟩
  · rw [List.getElem?_set_ne e] at h
    exact .inr ⟨fun z => e z.symm, h⟩
theorem frz_ok {K : PySem.W.Frag} {σ : L2.St} {s : S} {M H : Hp} {r : R} {s' s'' : S} {v : V} {M' H' : Hp} {d : D} (o : Ok K σ s M H r s' v M' H') (e : frz r s' = some (d, s'')) :
    ∃ M'', Ok K σ s M H (.val d) s'' v M'' H' := by
  obtain ⟨go, rel, held, new⟩ := o
  cases r with
  | val d' => cases e; exact ⟨M', go, rel, held, trivial⟩
  | own xs =>
    cases e
    obtain ⟨l, vs, rfl, h1, h2, h3, h4⟩ := held
    obtain ⟨l', e', hn⟩ := new
    cases e'
    have up : Le M' (upd M' l (.lst vs)) := le_upd h2
    refine ⟨upd M' l (.lst vs), ⟨go.up.trans up, fun a o ha hna => ?_, go.there, go.own, go.port⟩, ⟨rel.len, fun a o q => ?_, fun i d q => ?_, fun i p ys q => ?_, rel.inj⟩, .lst (SqL.of upd_same) (h4.mono up), trivial⟩
    · obtain ⟨k1, k2⟩ := go.keep a o ha hna
      exact ⟨k1, fun z => by rw [upd_ne (ne_of_none ha hn)]; exact k2 z⟩
    · by_cases z : a = l
      · subst z; rw [upd_same] at q; rw [h1]; exact q
      · rw [upd_ne z] at q; exact rel.le a o q
    · obtain ⟨v, a, b⟩ := rel.val i d q
      exact ⟨v, a, b.mono up⟩
    · obtain ⟨l2, ws, a, b, c, f⟩ := rel.own i p ys q
      exact ⟨l2, ws, a, b, by rw [upd_ne (fun z => h3 ⟨i, p, ys, q, by rw [← z]; exact a⟩)]; exact c, f.mono up⟩
  | slot i =>
    unfold frz at e
    simp only at e
    split at e
    · rename_i xs q
      cases e
      obtain ⟨l, vs, a, b, c, f⟩ := rel.own i false xs q
      have hv : σ[i]? = some (some v) := held
      rw [a] at hv
      cases hv
      have up : Le M' (upd M' l (.lst vs)) := le_upd c
      refine ⟨upd M' l (.lst vs), ⟨go.up.trans up, fun a' o ha hna => ?_, go.there, fun j p ys l2 h1 h2 => ?_, fun j ys h => ?_⟩, ⟨by rw [List.length_set]; exact rel.len, fun a' o q' => ?_, fun j d q' => ?_, fun j p ys q' => ?_, fun j k p p' ys zs l2 h1 h2 h3 h4 => ?_⟩, .lst (SqL.of upd_same) (f.mono up), trivial⟩
      · obtain ⟨k1, k2⟩ := go.keep a' o ha hna
        refine ⟨k1, fun z => ?_⟩
        rw [upd_ne ?_]
        · exact k2 z
        · intro e'
          subst e'
          rcases go.own i false xs a' q a with ⟨z', _⟩ | ⟨j, ys, z1, z2⟩
          · rw [ha] at z'; cases z'
          · exact hna ⟨j, false, ys, z1, z2⟩
      · rcases set_get h1 with ⟨_, z⟩ | ⟨_, z⟩
        · cases z
        · exact go.own j p ys l2 z h2
      · obtain ⟨zs, z1, z2⟩ := go.port j ys h
        have hji : j ≠ i := fun z => by subst z; rw [q] at z1; cases z1
        exact ⟨zs, by rw [List.getElem?_set_ne (fun z => hji z.symm)]; exact z1, z2⟩
      · by_cases z : a' = l
        · subst z; rw [upd_same] at q'; rw [b]; exact q'
        · rw [upd_ne z] at q'; exact rel.le a' o q'
      · rcases set_get q' with ⟨e1, z⟩ | ⟨_, z⟩
        · subst e1
          cases z
          exact ⟨_, a, .lst (SqL.of upd_same) (f.mono up)⟩
        · obtain ⟨v, a1, b1⟩ := rel.val j d z
          exact ⟨v, a1, b1.mono up⟩
      · rcases set_get q' with ⟨_, z⟩ | ⟨hj, z⟩
        · cases z
        · obtain ⟨l2, ws, a1, b1, c1, f1⟩ := rel.own j p ys z
          refine ⟨l2, ws, a1, b1, ?_, f1.mono up⟩
          rw [upd_ne ?_]
          · exact c1
          · intro e'
            subst e'
            exact hj (rel.inj j i p false ys xs l2 z q a1 a)
      · rcases set_get h1 with ⟨_, z⟩ | ⟨_, z1⟩
        · cases z
        · rcases set_get h2 with ⟨_, z⟩ | ⟨_, z2⟩
          · cases z
          · exact rel.inj j k p p' ys zs l2 z1 z2 h3 h4
    · rename_i d' q
      cases e
      obtain ⟨v', a, b⟩ := rel.val i _ q
      have hv : σ[i]? = some (some v) := held
      rw [a] at hv
      cases hv
      exact ⟨M', go, rel, b, trivial⟩
    · cases e
theorem bd {α β : Type} {x : Option α} {f : α → Option β} {b : β} (h : x.bind f = some b) : ∃ a, x = some a ∧ f a = some b := Option.bind_eq_some_iff.mp h
def mFrz (m : ME) : ME := fun s => (m s).bind fun p => (frz p.1 p.2).bind fun q => some (.val q.1, q.2)
theorem sound_frz {K : PySem.W.Frag} {t : TE} {m : ME} (h : Sound K t m) : Sound K t (mFrz m) := fun σ s M H r s' e rel Q q => by
  obtain ⟨⟨r1, s1⟩, e1, e⟩ := bd e
  obtain ⟨⟨d, s2⟩, e2, e⟩ := bd e
  cases e
  refine h σ s M H r1 s1 e1 rel Q fun v M' H' o => ?_
  obtain ⟨M'', o'⟩ := frz_ok o e2
  exact q v M'' H' o'
theorem se_frz {m : ME} (h : SE c e m) : SE c e (mFrz m) := let ⟨t, a, b⟩ := h; ⟨t, a, sound_frz b⟩
end basics

/-! ### after one another -/
theorem Ok.then {K : PySem.W.Frag} {σ : L2.St} {s s1 s2 : S} {M H M1 H1 M2 H2 : Hp} {r1 r2 : R} {v1 v2 : V} (a : Ok K σ s M H r1 s1 v1 M1 H1) (b : Ok K σ s1 M1 H1 r2 s2 v2 M2 H2) :
    Go σ s M H σ s2 M2 H2 ∧ Held K M2 H2 σ s2 v1 r1 := ⟨a.go.trans b.go, a.held.go b.go b.rel⟩
theorem New.back {H H1 : Hp} {v : V} {r : R} (n : New H1 v r) (f : ∀ l, H1 l = none → H l = none) : New H v r := by
  cases r with
  | own xs => obtain ⟨l, e, h⟩ := n; exact ⟨l, e, f l h⟩
  | val d => trivial
  | slot i => trivial

/-! ### two-place operations on what the operands are -/
/-- the answer is a scalar: nothing is made -/
def Sc2 (K : PySem.W.Frag) (r2 : R2) (f : D → D → Option D) : Prop := ∀ (H : Hp) (v w : V) (d e z : D), At K H v d → At K H w e → f d e = some z → ∃ u, (∀ M, At K M u z) ∧ ∀ Q : VK, Q u H → r2 v w H Q
def mBin (f : D → D → Option D) (ma mb : ME) : ME := fun s => (ma s).bind fun p => (mb p.2).bind fun q => (peek p.1 q.2).bind fun d => (peek q.1 q.2).bind fun e => (f d e).bind fun z => some (.val z, q.2)
theorem sound_bin {K : PySem.W.Frag} {r2 : R2} {f : D → D → Option D} {ta tb : TE} {ma mb : ME} (h : Sc2 K r2 f) (ha : Sound K ta ma) (hb : Sound K tb mb) : Sound K (tOp r2 ta tb) (mBin f ma mb) := fun σ s M H r s' e rel Q q => by
  obtain ⟨⟨r1, s1⟩, e1, e⟩ := bd e
  obtain ⟨⟨r3, s2⟩, e2, e⟩ := bd e
  obtain ⟨d1, p1, e⟩ := bd e
  obtain ⟨d2, p2, e⟩ := bd e
  obtain ⟨z, e3, e⟩ := bd e
  cases e
  refine ha σ s M H r1 s1 e1 rel _ fun v M1 H1 o1 => hb σ s1 M1 H1 r3 _ e2 o1.rel _ fun w M2 H2 o2 => ?_
  obtain ⟨g, hd⟩ := o1.then o2
  obtain ⟨u, hu, k⟩ := h H2 v w d1 d2 z (hd.at o2.rel p1) (o2.held.at o2.rel p2) e3
  exact k _ (q u M2 H2 ⟨g, o2.rel, hu M2, trivial⟩)
theorem se_bin {c : Cd} {a b : Expr} {pos : Pos} {op : Operator} {r2 : PySem.W.Frag → R2} {f : D → D → Option D} {ma mb : ME} (ho : ∀ X : Cx, OpR X (binaryOp op) (r2 X.K)) (h : Sc2 c.K (r2 c.K) f) (ha : SE c a ma) (hb : SE c b mb) : SE c (.BinOp a op b pos) (mBin f ma mb) := by
  obtain ⟨ta, pa, sa⟩ := ha
  obtain ⟨tb, pb, sb⟩ := hb
  exact ⟨_, fun X g => by have := ho X; rw [g.K] at this; exact pe_op this (pa X g) (pb X g), sound_bin h sa sb⟩
theorem se_cmp {c : Cd} {a b : Expr} {pos : Pos} {op : CmpOp} {r2 : PySem.W.Frag → R2} {f : D → D → Option D} {ma mb : ME} (ho : ∀ X : Cx, Fits c X → OpR X (compareOp op) (r2 X.K)) (h : Sc2 c.K (r2 c.K) f) (hm : behindInMarks op b = false) (ha : SE c a ma) (hb : SE c b mb) : SE c (.Compare a [op] [b] pos) (mBin f ma mb) := by
  obtain ⟨ta, pa, sa⟩ := ha
  obtain ⟨tb, pb, sb⟩ := hb
  exact ⟨_, fun X g => by have := ho X g; rw [g.K] at this; exact pe_cmpR this (pa X g) (pb X g) hm, sound_bin h sa sb⟩
/-- on whole numbers -/
def onI (g : Int → Int → Option D) : D → D → Option D := fun d e => match d, e with
  | .int i, .int j => g i j
  | _, _ => none
theorem sc_I {K : PySem.W.Frag} {C : Int → Int → Prop} [∀ i j, Decidable (C i j)] {g : Int → Int → V} {gd : Int → Int → D} (h : ∀ i j M, At K M (g i j) (gd i j)) : Sc2 K (rI C g) (onI fun i j => if C i j then some (gd i j) else none) := fun H v w d e z hv hw q => by
  cases hv <;> cases hw <;> try (cases q; done)
  rename_i i j
  unfold onI at q
  simp only at q
  split at q
  · rename_i hc
    cases q
    exact ⟨g i j, h i j, fun Q k => ⟨i, j, rfl, rfl, hc, k⟩⟩
  · cases q
theorem sc_I0 {K : PySem.W.Frag} {g : Int → Int → V} {gd : Int → Int → D} (h : ∀ i j M, At K M (g i j) (gd i j)) : Sc2 K (rI0 g) (onI fun i j => some (gd i j)) := fun H v w d e z hv hw q => by
  cases hv <;> cases hw <;> try (cases q; done)
  rename_i i j
  cases q
  exact ⟨g i j, h i j, fun Q k => ⟨i, j, rfl, rfl, k⟩⟩
abbrev fAdd : D → D → Option D := onI fun i j => some (.int (i + j))
abbrev fSub : D → D → Option D := onI fun i j => some (.int (i - j))
instance (i j : Int) : Decidable (CMul i j) := by unfold CMul; infer_instance
instance (i j : Int) : Decidable (CDivN i j) := by unfold CDivN; infer_instance
instance (i j : Int) : Decidable (CPow i j) := by unfold CPow; infer_instance
abbrev fMul : D → D → Option D := onI fun i j => if CMul i j then some (.int (i * j)) else none
abbrev fDiv : D → D → Option D := onI fun i j => if CDivN i j then some (.int (i.fdiv j)) else none
abbrev fMod : D → D → Option D := onI fun i j => if j ≠ 0 then some (.int (i.fmod j)) else none
abbrev fPow : D → D → Option D := onI fun i j => if CPow i j then some (.int (i ^ j.toNat)) else none
abbrev fLt : D → D → Option D := onI fun i j => some (.bl (decide (i < j)))
abbrev fLe : D → D → Option D := onI fun i j => some (.bl (decide (i ≤ j)))
abbrev fGt : D → D → Option D := onI fun i j => some (.bl (decide (j < i)))
abbrev fGe : D → D → Option D := onI fun i j => some (.bl (decide (j ≤ i)))
section
variable {c : Cd} {a b : Expr} {pos : Pos} {ma mb : ME}
theorem se_add (ha : SE c a ma) (hb : SE c b mb) : SE c (.BinOp a .Add b pos) (mBin fAdd ma mb) := se_bin (r2 := fun _ => _) (fun _ => op_add) (sc_I0 fun _ _ _ => .int _) ha hb
theorem se_sub (ha : SE c a ma) (hb : SE c b mb) : SE c (.BinOp a .Sub b pos) (mBin fSub ma mb) := se_bin (r2 := fun _ => _) (fun _ => op_sub) (sc_I0 fun _ _ _ => .int _) ha hb
theorem se_mul (ha : SE c a ma) (hb : SE c b mb) : SE c (.BinOp a .Mult b pos) (mBin fMul ma mb) := se_bin (r2 := fun _ => _) (fun _ => op_mul) (sc_I fun _ _ _ => .int _) ha hb
theorem se_div (ha : SE c a ma) (hb : SE c b mb) : SE c (.BinOp a .FloorDiv b pos) (mBin fDiv ma mb) := se_bin (r2 := fun _ => _) (fun _ => op_fdivN) (sc_I fun _ _ _ => .int _) ha hb
theorem se_mod (ha : SE c a ma) (hb : SE c b mb) : SE c (.BinOp a .Mod b pos) (mBin fMod ma mb) := se_bin (r2 := fun _ => _) (fun _ => op_modN) (sc_I fun _ _ _ => .int _) ha hb
theorem se_pow (ha : SE c a ma) (hb : SE c b mb) : SE c (.BinOp a .Pow b pos) (mBin fPow ma mb) := se_bin (r2 := fun _ => _) (fun _ => op_pow) (sc_I fun _ _ _ => .int _) ha hb
theorem se_lt (ha : SE c a ma) (hb : SE c b mb) : SE c (.Compare a [.Lt] [b] pos) (mBin fLt ma mb) := se_cmp (r2 := fun _ => _) (fun _ _ => op_lt) (sc_I0 fun _ _ _ => .bl _) (nomark _) ha hb
theorem se_le (ha : SE c a ma) (hb : SE c b mb) : SE c (.Compare a [.LtE] [b] pos) (mBin fLe ma mb) := se_cmp (r2 := fun _ => _) (fun _ _ => op_le) (sc_I0 fun _ _ _ => .bl _) (nomark _) ha hb
theorem se_gt (ha : SE c a ma) (hb : SE c b mb) : SE c (.Compare a [.Gt] [b] pos) (mBin fGt ma mb) := se_cmp (r2 := fun _ => _) (fun _ _ => op_gt) (sc_I0 fun _ _ _ => .bl _) (nomark _) ha hb
theorem se_ge (ha : SE c a ma) (hb : SE c b mb) : SE c (.Compare a [.GtE] [b] pos) (mBin fGe ma mb) := se_cmp (r2 := fun _ => _) (fun _ _ => op_ge) (sc_I0 fun _ _ _ => .bl _) (nomark _) ha hb
end
end Dm
set_option Elab.async false
set_option linter.all false
set_option maxRecDepth 100000
set_option maxHeartbeats 4000000
namespace Dm
open PySem PySem.Spec L2
set_option autoImplicit false

/-! ### tests -/
abbrev MT := S → Option (Bool × S)
structure OkT (K : PySem.W.Frag) (σ : L2.St) (s : S) (M H : Hp) (s' : S) (M' H' : Hp) : Prop where
  go : Go σ s M H σ s' M' H'
  rel : Rel K M' H' σ s'
theorem Ok.t {K : PySem.W.Frag} {σ : L2.St} {s : S} {M H : Hp} {r : R} {s' : S} {v : V} {M' H' : Hp} (o : Ok K σ s M H r s' v M' H') : OkT K σ s M H s' M' H' := ⟨o.go, o.rel⟩
theorem OkT.refl {K : PySem.W.Frag} {σ : L2.St} {s : S} {M H : Hp} (r : Rel K M H σ s) : OkT K σ s M H s M H := ⟨Go.refl, r⟩
theorem OkT.trans {K : PySem.W.Frag} {σ : L2.St} {s s1 s2 : S} {M H M1 H1 M2 H2 : Hp} (a : OkT K σ s M H s1 M1 H1) (b : OkT K σ s1 M1 H1 s2 M2 H2) : OkT K σ s M H s2 M2 H2 := ⟨a.go.trans b.go, b.rel⟩
/-- an answer behind other steps -/
theorem Ok.behind {K : PySem.W.Frag} {σ : L2.St} {s s1 s2 : S} {M H M1 H1 M2 H2 : Hp} {r : R} {v : V} (a : OkT K σ s M H s1 M1 H1) (b : Ok K σ s1 M1 H1 r s2 v M2 H2) : Ok K σ s M H r s2 v M2 H2 :=
  ⟨a.go.trans b.go, b.rel, b.held, b.new.back fun l h => a.go.free h⟩
def SoundT (K : PySem.W.Frag) (t : TT) (m : MT) : Prop :=
  ∀ (σ : L2.St) (s : S) (M H : Hp) (b : Bool) (s' : S), m s = some (b, s') → Rel K M H σ s → ∀ Q : Bool → Hp → Prop, (∀ M' H', OkT K σ s M H s' M' H' → Q b H') → t σ H Q
def ST (c : Cd) (e : Expr) (m : MT) : Prop := ∃ t : TT, (∀ X, Fits c X → PT X e t) ∧ SoundT c.K t m
def SW (c : Cd) (e : Expr) (m : MT) : Prop := ∃ t : TT, (∀ X, Fits c X → PW X e t) ∧ SoundT c.K t m
def asB : D → Option Bool
  | .bl b => some b
  | _ => none
def mTest (m : ME) : MT := fun s => (m s).bind fun p => (peek p.1 p.2).bind fun d => (asB d).bind fun b => some (b, p.2)
theorem asB_at {K : PySem.W.Frag} {H : Hp} {v : V} {d : D} {b : Bool} (h : At K H v d) (e : asB d = some b) : v = .bl b := by
  cases h <;> try (cases e; done)
  cases e; rfl
theorem sound_test {K : PySem.W.Frag} {t : TE} {m : ME} (h : Sound K t m) : SoundT K (tTest t) (mTest m) := fun σ s M H b s' e rel Q q => by
  obtain ⟨⟨r, s1⟩, e1, e⟩ := bd e
  obtain ⟨d, p1, e⟩ := bd e
  obtain ⟨b', e2, e⟩ := bd e
  cases e
  exact h σ s M H r _ e1 rel _ fun v M' H' o => ⟨b, asB_at (o.held.at o.rel p1) e2, q M' H' o.t⟩
theorem sound_B {K : PySem.W.Frag} {t : TE} {m : ME} (h : Sound K t m) : SoundT K (tB t) (mTest m) := fun σ s M H b s' e rel Q q => by
  obtain ⟨⟨r, s1⟩, e1, e⟩ := bd e
  obtain ⟨d, p1, e⟩ := bd e
  obtain ⟨b', e2, e⟩ := bd e
  cases e
  exact h σ s M H r _ e1 rel _ fun v M' H' o => ⟨b, asB_at (o.held.at o.rel p1) e2, q M' H' o.t⟩
section
variable {c : Cd} {e a b : Expr} {rest : List Expr} {pos : Pos} {m ma mb : ME} {t u : MT}
/-- a value that is True or False -/
theorem st_val (h : SE c e m) (he : ∀ (env : Env) (whole : Sem Value), isTrue e env whole = (do let v ← whole; standAt e.pos; holding [v] (truthy v)) := by intro _ _; rfl) : ST c e (mTest m) := by
  obtain ⟨te, p, sd⟩ := h
  exact ⟨_, fun X g => pt_val (p X g) (fun w => he X.env w), sound_B sd⟩
theorem st_cmp {op : CmpOp} {r2 : PySem.W.Frag → R2} {f : D → D → Option D} (ho : ∀ X : Cx, Fits c X → OpR X (compareOp op) (r2 X.K)) (h : Sc2 c.K (r2 c.K) f) (hm : behindInMarks op b = false) (ha : SE c a ma) (hb : SE c b mb) : ST c (.Compare a [op] [b] pos) (mTest (mBin f ma mb)) := by
  obtain ⟨ta, pa, sa⟩ := ha
  obtain ⟨tb, pb, sb⟩ := hb
  exact ⟨_, fun X g => by have := ho X g; rw [g.K] at this; exact pt_cmpR this (pa X g) (pb X g) hm, sound_test (sound_bin h sa sb)⟩
theorem st_lt (ha : SE c a ma) (hb : SE c b mb) : ST c (.Compare a [.Lt] [b] pos) (mTest (mBin fLt ma mb)) := st_cmp (r2 := fun _ => _) (fun _ _ => op_lt) (sc_I0 fun _ _ _ => .bl _) (nomark _) ha hb
theorem st_le (ha : SE c a ma) (hb : SE c b mb) : ST c (.Compare a [.LtE] [b] pos) (mTest (mBin fLe ma mb)) := st_cmp (r2 := fun _ => _) (fun _ _ => op_le) (sc_I0 fun _ _ _ => .bl _) (nomark _) ha hb
theorem st_gt (ha : SE c a ma) (hb : SE c b mb) : ST c (.Compare a [.Gt] [b] pos) (mTest (mBin fGt ma mb)) := st_cmp (r2 := fun _ => _) (fun _ _ => op_gt) (sc_I0 fun _ _ _ => .bl _) (nomark _) ha hb
theorem st_ge (ha : SE c a ma) (hb : SE c b mb) : ST c (.Compare a [.GtE] [b] pos) (mTest (mBin fGe ma mb)) := st_cmp (r2 := fun _ => _) (fun _ _ => op_ge) (sc_I0 fun _ _ _ => .bl _) (nomark _) ha hb
def mNotT (t : MT) : MT := fun s => (t s).bind fun p => some (!p.1, p.2)
theorem sound_notT {K : PySem.W.Frag} {t : TT} {m : MT} (h : SoundT K t m) : SoundT K (tNot t) (mNotT m) := fun σ s M H b s' e rel Q q => by
  obtain ⟨⟨r, s1⟩, e1, e⟩ := bd e
  cases e
  exact h σ s M H r _ e1 rel _ fun M' H' o => q M' H' o
theorem st_not (h : ST c a t) : ST c (.UnaryOp .Not a pos) (mNotT t) := by
  obtain ⟨te, p, sd⟩ := h
  exact ⟨_, fun X g => pt_not (p X g), sound_notT sd⟩
def mAndT (t u : MT) : MT := fun s => (t s).bind fun p => if p.1 then u p.2 else some (false, p.2)
def mOrT (t u : MT) : MT := fun s => (t s).bind fun p => if p.1 then some (true, p.2) else u p.2
theorem sound_andT {K : PySem.W.Frag} {t t' : TT} {m m' : MT} (h : SoundT K t m) (h' : SoundT K t' m') : SoundT K (tAnd t t') (mAndT m m') := fun σ s M H b s' e rel Q q => by
  obtain ⟨⟨r, s1⟩, e1, e⟩ := bd e
  refine h σ s M H r _ e1 rel _ fun M' H' o => ?_
  cases r with
  | true => exact h' σ s1 M' H' b s' e o.rel _ fun M2 H2 o2 => q M2 H2 (o.trans o2)
  | false => cases e; exact q M' H' o
theorem sound_orT {K : PySem.W.Frag} {t t' : TT} {m m' : MT} (h : SoundT K t m) (h' : SoundT K t' m') : SoundT K (tOr t t') (mOrT m m') := fun σ s M H b s' e rel Q q => by
  obtain ⟨⟨r, s1⟩, e1, e⟩ := bd e
  refine h σ s M H r _ e1 rel _ fun M' H' o => ?_
  cases r with
  | false => exact h' σ s1 M' H' b s' e o.rel _ fun M2 H2 o2 => q M2 H2 (o.trans o2)
  | true => cases e; exact q M' H' o
theorem sw_and1 (h : ST c a t) : SW c (.BoolOp .And [a] pos) t := by
  obtain ⟨te, p, sd⟩ := h
  exact ⟨te, fun X g => pw_and1 (p X g), sd⟩
theorem sw_or1 (h : ST c a t) : SW c (.BoolOp .Or [a] pos) t := by
  obtain ⟨te, p, sd⟩ := h
  exact ⟨te, fun X g => pw_or1 (p X g), sd⟩
theorem sw_and (h : ST c a t) (h' : SW c (.BoolOp .And (b :: rest) pos) u) : SW c (.BoolOp .And (a :: b :: rest) pos) (mAndT t u) := by
  obtain ⟨te, p, sd⟩ := h
  obtain ⟨te', p', sd'⟩ := h'
  exact ⟨_, fun X g => pw_and (p X g) (p' X g), sound_andT sd sd'⟩
theorem sw_or (h : ST c a t) (h' : SW c (.BoolOp .Or (b :: rest) pos) u) : SW c (.BoolOp .Or (a :: b :: rest) pos) (mOrT t u) := by
  obtain ⟨te, p, sd⟩ := h
  obtain ⟨te', p', sd'⟩ := h'
  exact ⟨_, fun X g => pw_or (p X g) (p' X g), sound_orT sd sd'⟩
theorem st_w (h : SW c e t) : ST c e t := by
  obtain ⟨te, p, sd⟩ := h
  exact ⟨te, fun X g => (p X g).pt, sd⟩
/-! ### and, or, not, if as values -/
def mAndV (ma mb : ME) : ME := fun s => (ma s).bind fun p => (peek p.1 p.2).bind fun d => (asB d).bind fun k => if k then mb p.2 else some (.val (.bl false), p.2)
def mOrV (ma mb : ME) : ME := fun s => (ma s).bind fun p => (peek p.1 p.2).bind fun d => (asB d).bind fun k => if k then some (.val (.bl true), p.2) else mb p.2
def mNotV (ma : ME) : ME := fun s => (ma s).bind fun p => (peek p.1 p.2).bind fun d => (asB d).bind fun k => some (.val (.bl (!k)), p.2)
theorem sound_andV {K : PySem.W.Frag} {ta tb : TE} {ma mb : ME} (ha : Sound K ta ma) (hb : Sound K tb mb) : Sound K (tAndV ta tb) (mAndV ma mb) := fun σ s M H r s' e rel Q q => by
  obtain ⟨⟨r1, s1⟩, e1, e⟩ := bd e
  obtain ⟨d, p1, e⟩ := bd e
  obtain ⟨k, e2, e⟩ := bd e
  refine ha σ s M H r1 s1 e1 rel _ fun v M1 H1 o => ⟨k, asB_at (o.held.at o.rel p1) e2, ?_⟩
  cases k with
  | true => exact hb σ s1 M1 H1 r s' e o.rel _ fun w M2 H2 o2 => q w M2 H2 (.behind o.t o2)
  | false => cases e; exact q _ M1 H1 (.behind o.t (.same o.rel (.bl false) trivial))
theorem sound_orV {K : PySem.W.Frag} {ta tb : TE} {ma mb : ME} (ha : Sound K ta ma) (hb : Sound K tb mb) : Sound K (tOrV ta tb) (mOrV ma mb) := fun σ s M H r s' e rel Q q => by
  obtain ⟨⟨r1, s1⟩, e1, e⟩ := bd e
  obtain ⟨d, p1, e⟩ := bd e
  obtain ⟨k, e2, e⟩ := bd e
  refine ha σ s M H r1 s1 e1 rel _ fun v M1 H1 o => ⟨k, asB_at (o.held.at o.rel p1) e2, ?_⟩
  cases k with
  | false => exact hb σ s1 M1 H1 r s' e o.rel _ fun w M2 H2 o2 => q w M2 H2 (.behind o.t o2)
  | true => cases e; exact q _ M1 H1 (.behind o.t (.same o.rel (.bl true) trivial))
theorem sound_notV {K : PySem.W.Frag} {ta : TE} {ma : ME} (ha : Sound K ta ma) : Sound K (tNotV ta) (mNotV ma) := fun σ s M H r s' e rel Q q => by
  obtain ⟨⟨r1, s1⟩, e1, e⟩ := bd e
  obtain ⟨d, p1, e⟩ := bd e
  obtain ⟨k, e2, e⟩ := bd e
  cases e
  exact ha σ s M H r1 _ e1 rel _ fun v M1 H1 o => ⟨k, asB_at (o.held.at o.rel p1) e2, q _ M1 H1 ⟨o.go, o.rel, .bl _, trivial⟩⟩
theorem se_one {op : BoolOp} (h : SE c a m) : SE c (.BoolOp op [a] pos) m := by
  obtain ⟨te, p, sd⟩ := h
  exact ⟨te, fun X g => pe_one (p X g), sd⟩
theorem se_and (ha : SE c a ma) (hb : SE c (.BoolOp .And (b :: rest) pos) mb) : SE c (.BoolOp .And (a :: b :: rest) pos) (mAndV ma mb) := by
  obtain ⟨ta, pa, sa⟩ := ha
  obtain ⟨tb, pb, sb⟩ := hb
  exact ⟨_, fun X g => pe_and (pa X g) (pb X g), sound_andV sa sb⟩
theorem se_or (ha : SE c a ma) (hb : SE c (.BoolOp .Or (b :: rest) pos) mb) : SE c (.BoolOp .Or (a :: b :: rest) pos) (mOrV ma mb) := by
  obtain ⟨ta, pa, sa⟩ := ha
  obtain ⟨tb, pb, sb⟩ := hb
  exact ⟨_, fun X g => pe_or (pa X g) (pb X g), sound_orV sa sb⟩
theorem se_not (ha : SE c a ma) : SE c (.UnaryOp .Not a pos) (mNotV ma) := by
  obtain ⟨ta, pa, sa⟩ := ha
  exact ⟨_, fun X g => pe_not (pa X g), sound_notV sa⟩
def mIf (t : MT) (ma mb : ME) : ME := fun s => (t s).bind fun p => if p.1 then ma p.2 else mb p.2
theorem sound_if {K : PySem.W.Frag} {tt : TT} {ta tb : TE} {t : MT} {ma mb : ME} (ht : SoundT K tt t) (ha : Sound K ta ma) (hb : Sound K tb mb) : Sound K (tIf tt ta tb) (mIf t ma mb) := fun σ s M H r s' e rel Q q => by
  obtain ⟨⟨k, s1⟩, e1, e⟩ := bd e
  refine ht σ s M H k s1 e1 rel _ fun M1 H1 o => ?_
  cases k with
  | true => exact ha σ s1 M1 H1 r s' e o.rel _ fun w M2 H2 o2 => q w M2 H2 (.behind o o2)
  | false => exact hb σ s1 M1 H1 r s' e o.rel _ fun w M2 H2 o2 => q w M2 H2 (.behind o o2)
theorem se_ifExp {cc : Expr} (ht : ST c cc t) (ha : SE c a ma) (hb : SE c b mb) : SE c (.IfExp cc a b pos) (mIf t ma mb) := by
  obtain ⟨tt, pt, st⟩ := ht
  obtain ⟨ta, pa, sa⟩ := ha
  obtain ⟨tb, pb, sb⟩ := hb
  exact ⟨_, fun X g => pe_ifExp (pt X g) (pa X g) (pb X g), sound_if st sa sb⟩
/-! ### one-place operations -/
def mUn (f : D → Option D) (ma : ME) : ME := fun s => (ma s).bind fun p => (peek p.1 p.2).bind fun d => (f d).bind fun z => some (.val z, p.2)
def fNeg : D → Option D
  | .int i => some (.int (-i))
  | _ => none
theorem se_neg (ha : SE c a ma) : SE c (.UnaryOp .USub a pos) (mUn fNeg ma) := by
  obtain ⟨ta, pa, sa⟩ := ha
  refine ⟨_, fun X g => pe_un un_neg (pa X g), fun σ s M H r s' e rel Q q => ?_⟩
  obtain ⟨⟨r1, s1⟩, e1, e⟩ := bd e
  obtain ⟨d, p1, e⟩ := bd e
  obtain ⟨z, e2, e⟩ := bd e
  cases e
  refine sa σ s M H r1 _ e1 rel _ fun v M1 H1 o => ?_
  have hv := o.held.at o.rel p1
  cases hv <;> try (cases e2; done)
  rename_i i
  cases e2
  exact ⟨i, rfl, q _ M1 H1 ⟨o.go, o.rel, .int _, trivial⟩⟩
/-! ### a op b op' c -/
def mChain (f g : D → D → Option D) (ma mb mc : ME) : ME := fun s => (ma s).bind fun p => (mb p.2).bind fun q => (peek p.1 q.2).bind fun d => (peek q.1 q.2).bind fun e => (f d e).bind fun z => (asB z).bind fun k =>
  if k then (mc q.2).bind fun r => (peek q.1 r.2).bind fun e' => (peek r.1 r.2).bind fun h => (g e' h).bind fun y => some (.val y, r.2) else some (.val (.bl false), q.2)
theorem se_chain {e3 : Expr} {mc : ME} {op op' : CmpOp} {r2 r3 : PySem.W.Frag → R2} {f g : D → D → Option D} (ho : ∀ X : Cx, OpR X (compareOp op) (r2 X.K)) (ho' : ∀ X : Cx, OpR X (compareOp op') (r3 X.K)) (h : Sc2 c.K (r2 c.K) f) (h' : Sc2 c.K (r3 c.K) g)
    (ha : SE c a ma) (hb : SE c b mb) (hc : SE c e3 mc) (hm : lastMarks [op, op'] [b, e3] = false := by with_unfolding_all rfl) : SE c (.Compare a [op, op'] [b, e3] pos) (mChain f g ma mb mc) := by
  obtain ⟨ta, pa, sa⟩ := ha
  obtain ⟨tb, pb, sb⟩ := hb
  obtain ⟨tc, pc, sc⟩ := hc
  refine ⟨_, fun X k => by
    have q1 := ho X
    have q2 := ho' X
    rw [k.K] at q1 q2
    exact pe_chain q1 q2 (pa X k) (pb X k) (pc X k) hm, fun σ s M H r s' e rel Q q => ?_⟩
  obtain ⟨⟨r1, s1⟩, e1, e⟩ := bd e
  obtain ⟨⟨r3, s2⟩, e2, e⟩ := bd e
  obtain ⟨d1, p1, e⟩ := bd e
  obtain ⟨d2, p2, e⟩ := bd e
  obtain ⟨z, e3, e⟩ := bd e
  obtain ⟨k, e4, e⟩ := bd e
  refine sa σ s M H r1 s1 e1 rel _ fun v M1 H1 o1 => sb σ s1 M1 H1 r3 s2 e2 o1.rel _ fun w M2 H2 o2 => ?_
  obtain ⟨go, hd⟩ := o1.then o2
  obtain ⟨u, hu, kk⟩ := h H2 v w d1 d2 z (hd.at o2.rel p1) (o2.held.at o2.rel p2) e3
  refine kk _ ⟨k, asB_at (hu M2) e4, ?_⟩
  have ot : OkT c.K σ s M H s2 M2 H2 := ⟨go, o2.rel⟩
  cases k with
  | true =>
    obtain ⟨⟨r4, s3⟩, e5, e⟩ := bd e
    obtain ⟨d3, p3, e⟩ := bd e
    obtain ⟨d4, p4, e⟩ := bd e
    obtain ⟨y, e6, e⟩ := bd e
    cases e
    refine sc σ s2 M2 H2 r4 _ e5 o2.rel _ fun x M3 H3 o3 => ?_
    obtain ⟨go3, hd3⟩ := o2.then o3
    obtain ⟨u', hu', kk'⟩ := h' H3 w x d3 d4 y (hd3.at o3.rel p3) (o3.held.at o3.rel p4) e6
    exact kk' _ (q u' M3 H3 (.behind ot ⟨o3.go, o3.rel, hu' M3, trivial⟩))
  | false =>
    cases e
    exact q _ M2 H2 (.behind ot (.same o2.rel (.bl false) trivial))
end
end Dm
set_option Elab.async false
set_option linter.all false
set_option maxRecDepth 100000
set_option maxHeartbeats 4000000
namespace Dm
open PySem PySem.Spec L2
set_option autoImplicit false

/-! ### argument lists -/
abbrev MA := S → Option (List R × S)
inductive Helds (K : PySem.W.Frag) (M H : Hp) (σ : L2.St) (s : S) : List V → List R → Prop
  | nil : Helds K M H σ s [] []
  | cons {v : V} {vs : List V} {r : R} {rs : List R} : Held K M H σ s v r → Helds K M H σ s vs rs → Helds K M H σ s (v :: vs) (r :: rs)
inductive News (H : Hp) : List V → List R → Prop
  | nil : News H [] []
  | cons {v : V} {vs : List V} {r : R} {rs : List R} : New H v r → News H vs rs → News H (v :: vs) (r :: rs)
structure OkA (K : PySem.W.Frag) (σ : L2.St) (s : S) (M H : Hp) (rs : List R) (s' : S) (vs : List V) (M' H' : Hp) : Prop where
  go : Go σ s M H σ s' M' H'
  rel : Rel K M' H' σ s'
  held : Helds K M' H' σ s' vs rs
  new : News H vs rs
def SoundA (K : PySem.W.Frag) (t : TA) (m : MA) : Prop :=
  ∀ (σ : L2.St) (s : S) (M H : Hp) (rs : List R) (s' : S), m s = some (rs, s') → Rel K M H σ s → ∀ Q : List V → Hp → Prop, (∀ vs M' H', OkA K σ s M H rs s' vs M' H' → Q vs H') → t σ H Q
def SA (c : Cd) (es : List Expr) (m : MA) : Prop := ∃ t : TA, (∀ X, Fits c X → PA X es t) ∧ SoundA c.K t m
def mNil : MA := fun s => some ([], s)
def mCons (m : ME) (ms : MA) : MA := fun s => (m s).bind fun p => (ms p.2).bind fun q => some (p.1 :: q.1, q.2)
theorem News.back {H H1 : Hp} {vs : List V} {rs : List R} (n : News H1 vs rs) (f : ∀ l, H1 l = none → H l = none) : News H vs rs := by
  induction n with
  | nil => exact .nil
  | cons h _ ih => exact .cons (h.back f) ih
section
variable {c : Cd} {e : Expr} {es : List Expr} {m : ME} {ms : MA}
theorem sa_nil : SA c [] mNil := ⟨_, fun _ _ => pa_nil, fun σ s M H rs s' e rel Q q => by cases e; exact q [] M H ⟨Go.refl, rel, .nil, .nil⟩⟩
theorem sa_cons (h : SE c e m) (hr : SA c es ms) (hs : ∀ env, starEach (e :: es) env = (false, eval e env) :: starEach es env := by intro _; rfl) : SA c (e :: es) (mCons m ms) := by
  obtain ⟨t, p, sd⟩ := h
  obtain ⟨ts, ps, sds⟩ := hr
  refine ⟨_, fun X g => pa_cons (p X g) (ps X g) (hs X.env), fun σ s M H rs s' e rel Q q => ?_⟩
  obtain ⟨⟨r1, s1⟩, e1, e⟩ := bd e
  obtain ⟨⟨r2, s2⟩, e2, e⟩ := bd e
  cases e
  refine sd σ s M H r1 s1 e1 rel _ fun v M1 H1 o1 => sds σ s1 M1 H1 r2 _ e2 o1.rel _ fun vs M2 H2 o2 => ?_
  exact q _ M2 H2 ⟨o1.go.trans o2.go, o2.rel, .cons (o1.held.go o2.go o2.rel) o2.held, .cons o1.new (o2.new.back fun l h => o1.go.free h)⟩
end
/-- all of them data that stays -/
def vals : List R → Option (List D)
  | [] => some []
  | .val d :: rs => (vals rs).bind fun ds => some (d :: ds)
  | _ :: _ => none
theorem vals_ats {K : PySem.W.Frag} {M H : Hp} {σ : L2.St} {s : S} : ∀ {vs : List V} {rs : List R} {ds : List D}, Helds K M H σ s vs rs → vals rs = some ds → Ats K M vs ds
  | _, _, _, .nil, e => by cases e; exact .nil
  | _, _, _, .cons (r := r) h t, e => by
    cases r with
    | val d =>
      obtain ⟨ds, e1, e⟩ := bd e
      cases e
      exact .cons h (vals_ats t e1)
    | own xs => cases e
    | slot i => cases e
/-! ### new things -/
section
variable {K : PySem.W.Frag} {σ : L2.St} {s : S} {M H : Hp} {p : Addr} {o : HO}
/-- something new that stays -/
theorem ok_new {ds : List D} {vs : List V} {d : D} (rel : Rel K M H σ s) (hp : H p = none) (h : At K (upd M p o) (.ref p) d) : Ok K σ s M H (.val d) s (.ref p) (upd M p o) (upd H p o) :=
  ⟨Go.grow (le_upd (le_none rel.le hp)) (le_upd hp) fun a u q z => by rw [upd_ne (ne_of_none q hp)]; exact z,
    rel.grow (le_upd (le_none rel.le hp)) (le_upd hp) (le_upd2 rel.le) fun a u q z => by rw [upd_ne (ne_of_none q hp)]; exact z, h, trivial⟩
theorem ok_tup {ds : List D} {vs : List V} (rel : Rel K M H σ s) (hp : H p = none) (h : Ats K M vs ds) : Ok K σ s M H (.val (.tup ds)) s (.ref p) (upd M p (.tup vs)) (upd H p (.tup vs)) :=
  ok_new (ds := []) (vs := []) rel hp (.tup (SqT.of upd_same) (h.mono (le_upd (le_none rel.le hp))))
/-- a new list -/
theorem ok_lst {ds : List D} {vs : List V} (rel : Rel K M H σ s) (hp : H p = none) (h : Ats K M vs ds) : Ok K σ s M H (.own ds) s (.ref p) M (upd H p (.lst vs)) := by
  refine ⟨Go.grow (Le.refl _) (le_upd hp) fun a u q z => z, rel.grow (Le.refl _) (le_upd hp) (le_updr rel.le (le_none rel.le hp)) fun a u q z => z, ⟨p, vs, rfl, upd_same, le_none rel.le hp, rel.not_owned hp, h⟩, ⟨p, rfl, hp⟩⟩
end
theorem OkA.t {K : PySem.W.Frag} {σ : L2.St} {s : S} {M H : Hp} {rs : List R} {s' : S} {vs : List V} {M' H' : Hp} (o : OkA K σ s M H rs s' vs M' H') : OkT K σ s M H s' M' H' := ⟨o.go, o.rel⟩
def mTup (ms : MA) : ME := fun s => (ms s).bind fun p => (vals p.1).bind fun ds => if ds.length ≤ 100000 then some (.val (.tup ds), p.2) else none
def mLst (ms : MA) : ME := fun s => (ms s).bind fun p => (vals p.1).bind fun ds => if ds.length ≤ 100000 then some (.own ds, p.2) else none
theorem sz_of {n : Nat} (h : n ≤ 100000) : n ≤ sizeLine := Nat.le_trans h (by decide)
section
variable {c : Cd} {e a b : Expr} {es : List Expr} {pos : Pos} {m ma mb : ME} {ms : MA}
theorem se_tup {x1 : _} (h : SA c es ms) : SE c (.Tuple es x1 pos) (mTup ms) := by
  obtain ⟨t, p, sd⟩ := h
  refine ⟨_, fun X g => pe_tup (p X g), fun σ s M H r s' e rel Q q => ?_⟩
  obtain ⟨⟨rs, s1⟩, e1, e⟩ := bd e
  obtain ⟨ds, e2, e⟩ := bd e
  split at e
  · rename_i hl
    cases e
    refine sd σ s M H rs _ e1 rel _ fun vs M1 H1 o => ?_
    have ha := vals_ats o.held e2
    exact ⟨sz_of (by rw [ha.length]; exact hl), fun p hp => q _ _ _ (.behind o.t (ok_tup o.rel hp ha))⟩
  · cases e
theorem se_lst (h : SA c es ms) : SE c (.List es pos) (mLst ms) := by
  obtain ⟨t, p, sd⟩ := h
  refine ⟨_, fun X g => pe_lst (p X g), fun σ s M H r s' e rel Q q => ?_⟩
  obtain ⟨⟨rs, s1⟩, e1, e⟩ := bd e
  obtain ⟨ds, e2, e⟩ := bd e
  split at e
  · rename_i hl
    cases e
    refine sd σ s M H rs _ e1 rel _ fun vs M1 H1 o => ?_
    have ha := vals_ats o.held e2
    exact ⟨sz_of (by rw [ha.length]; exact hl), fun p hp => q _ _ _ (.behind o.t (ok_lst o.rel hp ha))⟩
  · cases e
/-! ### subscripts, slices -/
def seqD : D → Option (List D)
  | .tup xs => some xs
  | .lst xs => some xs
  | _ => none
def asI : D → Option Int
  | .int i => some i
  | _ => none
theorem asI_at {K : PySem.W.Frag} {H : Hp} {v : V} {d : D} {i : Int} (h : At K H v d) (e : asI d = some i) : v = .int i := by
  cases h <;> try (cases e; done)
  cases e; rfl
theorem Held.seq {K : PySem.W.Frag} {M H : Hp} {σ : L2.St} {s : S} {v : V} {r : R} {d : D} {xs : List D} (h : Held K M H σ s v r) (rel : Rel K M H σ s) (e : Dm.peek r s = some d) (e2 : seqD d = some xs) :
    ∃ l vs, v = .ref l ∧ (SqL K H l vs ∨ SqT K H l vs) ∧ Ats K M vs xs := by
  cases d <;> try (cases e2; done)
  · cases e2
    obtain ⟨l, vs, a, b, c⟩ := h.tuple rel e
    exact ⟨l, vs, a, .inr b, c⟩
  · cases e2
    obtain ⟨l, vs, a, b, c⟩ := h.list rel e
    exact ⟨l, vs, a, .inl b, c⟩
def mIx (ma mb : ME) : ME := fun s => (ma s).bind fun p => (mb p.2).bind fun q => (peek p.1 q.2).bind fun d => (seqD d).bind fun xs => (peek q.1 q.2).bind fun e => (asI e).bind fun i => (atI xs i).bind fun z => some (.val z, q.2)
theorem ats_ix {K : PySem.W.Frag} {H : Hp} {vs : List V} {ds : List D} {i : Int} {z : D} (h : Ats K H vs ds) (e : atI ds i = some z) : ∃ v, atI vs i = some v ∧ At K H v z := by
  unfold atI at e ⊢
  rw [h.length]
  obtain ⟨j, e1, e2⟩ := bd e
  obtain ⟨v, a, b⟩ := h.get e2
  exact ⟨v, by rw [e1]; exact a, b⟩
theorem se_ix (ha : SE c a ma) (hb : SE c b mb) (hs : PlainIx b := by exact fun _ _ => rfl) : SE c (.Subscript a b pos) (mIx ma mb) := by
  obtain ⟨ta, pa, sa⟩ := ha
  obtain ⟨tb, pb, sb⟩ := hb
  refine ⟨tOp (rIx c.K) ta tb, fun X g => by have := ix_seq (X := X); rw [g.K] at this; exact pe_ix this (pa X g) (pb X g) hs, fun σ s M H r s' e rel Q q => ?_⟩
  obtain ⟨⟨r1, s1⟩, e1, e⟩ := bd e
  obtain ⟨⟨r3, s2⟩, e2, e⟩ := bd e
  obtain ⟨d1, p1, e⟩ := bd e
  obtain ⟨xs, p3, e⟩ := bd e
  obtain ⟨d2, p2, e⟩ := bd e
  obtain ⟨i, p4, e⟩ := bd e
  obtain ⟨z, p5, e⟩ := bd e
  cases e
  refine sa σ s M H r1 s1 e1 rel _ fun v M1 H1 o1 => sb σ s1 M1 H1 r3 _ e2 o1.rel _ fun w M2 H2 o2 => ?_
  obtain ⟨g, hd⟩ := o1.then o2
  obtain ⟨l, vs, rfl, hsq, hats⟩ := hd.seq o2.rel p1 p3
  have hw := asI_at (o2.held.at o2.rel p2) p4
  subst hw
  obtain ⟨u, hu, hat⟩ := ats_ix hats p5
  have fin := q u M2 H2 ⟨g, o2.rel, hat, trivial⟩
  rcases hsq with h | h
  · exact .inl ⟨l, vs, i, u, rfl, rfl, h, hu, fin⟩
  · exact .inr (.inl ⟨l, vs, i, u, rfl, rfl, h, hu, fin⟩)
abbrev MO := S → Option (Option Int × S)
def SO (c : Cd) (e : Option Expr) (m : MO) : Prop := ∃ t : TO, (∀ X, Fits c X → PO X e t) ∧ ∀ (σ : L2.St) (s : S) (M H : Hp) (o : Option Int) (s' : S), m s = some (o, s') → Rel c.K M H σ s → ∀ Q : Option Int → Hp → Prop, (∀ M' H', OkT c.K σ s M H s' M' H' → Q o H') → t σ H Q
def mNo : MO := fun s => some (none, s)
def mPart (m : ME) : MO := fun s => (m s).bind fun p => (peek p.1 p.2).bind fun d => (asI d).bind fun i => some (some i, p.2)
theorem so_none : SO c none mNo := ⟨_, fun _ _ => po_none, fun σ s M H o s' e rel Q q => by cases e; exact q M H (.refl rel)⟩
theorem so_some (h : SE c e m) : SO c (some e) (mPart m) := by
  obtain ⟨t, p, sd⟩ := h
  refine ⟨_, fun X g => po_some (p X g), fun σ s M H o s' e rel Q q => ?_⟩
  obtain ⟨⟨r1, s1⟩, e1, e⟩ := bd e
  obtain ⟨d1, p1, e⟩ := bd e
  obtain ⟨i, p2, e⟩ := bd e
  cases e
  exact sd σ s M H r1 _ e1 rel _ fun v M1 H1 o1 => ⟨i, asI_at (o1.held.at o1.rel p1) p2, q M1 H1 o1.t⟩
def cutD (xs : List D) (lo hi : Option Int) : List D := (xs.drop (HT.sIx xs.length 0 lo)).take (HT.sIx xs.length xs.length hi - HT.sIx xs.length 0 lo)
theorem ats_cut {K : PySem.W.Frag} {H : Hp} {vs : List V} {ds : List D} (h : Ats K H vs ds) (lo hi : Option Int) : Ats K H (cutV vs lo hi) (cutD ds lo hi) := by
  unfold cutV cutD
  rw [h.length]
  exact (h.drop _).take _
def mSlL (ma : ME) (ml mh : MO) : ME := fun s => (ma s).bind fun p => (ml p.2).bind fun l => (mh l.2).bind fun h => (peek p.1 h.2).bind fun d => match d with
  | .lst xs => some (.own (cutD xs l.1 h.1), h.2)
  | _ => none
theorem se_slL {lo hi : Option Expr} {p2 : Pos} {ml mh : MO} (ha : SE c a ma) (hl : SO c lo ml) (hh : SO c hi mh) : SE c (.Subscript a (.Slice lo hi none p2) pos) (mSlL ma ml mh) := by
  obtain ⟨ta, pa, sa⟩ := ha
  obtain ⟨tl, pl, sl⟩ := hl
  obtain ⟨th, ph, sh⟩ := hh
  refine ⟨tSl (rSlL c.K) ta tl th, fun X g => by have := sl_list (X := X); rw [g.K] at this; exact pe_slice this (pa X g) (pl X g) (ph X g), fun σ s M H r s' e rel Q q => ?_⟩
  obtain ⟨⟨r1, s1⟩, e1, e⟩ := bd e
  obtain ⟨⟨o2, s2⟩, e2, e⟩ := bd e
  obtain ⟨⟨o3, s3⟩, e3, e⟩ := bd e
  obtain ⟨d1, p1, e⟩ := bd e
  cases d1 <;> try (cases e; done)
  rename_i xs
  cases e
  refine sa σ s M H r1 s1 e1 rel _ fun v M1 H1 k1 => sl σ s1 M1 H1 o2 s2 e2 k1.rel _ fun M2 H2 k2 => sh σ s2 M2 H2 o3 _ e3 k2.rel _ fun M3 H3 k3 => ?_
  have hd := k1.held.go (k2.go.trans k3.go) k3.rel
  obtain ⟨l, vs, rfl, hsq, hats⟩ := hd.list k3.rel p1
  exact ⟨l, vs, rfl, hsq, fun p hp => q _ _ _ (.behind (k1.t.trans (k2.trans k3)) (ok_lst k3.rel hp (ats_cut hats _ _)))⟩
end
end Dm
set_option Elab.async false
set_option linter.all false
set_option maxRecDepth 100000
set_option maxHeartbeats 4000000
namespace Dm
open PySem PySem.Spec L2
set_option autoImplicit false

/-! ### built-in functions by what the arguments are -/
def peeks : List R → S → Option (List D)
  | [], _ => some []
  | r :: rs, s => (peek r s).bind fun d => (peeks rs s).bind fun ds => some (d :: ds)
theorem Helds.ats {K : PySem.W.Frag} {M H : Hp} {σ : L2.St} {s : S} : ∀ {vs : List V} {rs : List R} {ds : List D}, Helds K M H σ s vs rs → Rel K M H σ s → peeks rs s = some ds → Ats K H vs ds
  | _, _, _, .nil, _, e => by cases e; exact .nil
  | _, _, _, .cons h t, rel, e => by
    obtain ⟨d, e1, e⟩ := bd e
    obtain ⟨ds, e2, e⟩ := bd e
    cases e
    exact .cons (h.at rel e1) (Helds.ats t rel e2)
abbrev RC := List V → Hp → VK → Prop
/-- the answer is a scalar -/
def Sc1 (K : PySem.W.Frag) (r : RC) (f : List D → Option D) : Prop := ∀ (H : Hp) (vs : List V) (ds : List D) (z : D), Ats K H vs ds → f ds = some z → ∃ u, (∀ M, At K M u z) ∧ ∀ Q : VK, Q u H → r vs H Q
def mCS (f : List D → Option D) (ms : MA) : ME := fun s => (ms s).bind fun p => (peeks p.1 p.2).bind fun ds => (f ds).bind fun z => some (.val z, p.2)
theorem sound_cs {K : PySem.W.Frag} {r : RC} {f : List D → Option D} {ta : TA} {ms : MA} (h : Sc1 K r f) (ha : SoundA K ta ms) : Sound K (tCB r ta) (mCS f ms) := fun σ s M H r' s' e rel Q q => by
  obtain ⟨⟨rs, s1⟩, e1, e⟩ := bd e
  obtain ⟨ds, e2, e⟩ := bd e
  obtain ⟨z, e3, e⟩ := bd e
  cases e
  refine ha σ s M H rs _ e1 rel _ fun vs M1 H1 o => ?_
  obtain ⟨u, hu, k⟩ := h H1 vs ds z (o.held.ats o.rel e2) e3
  exact k _ (q u M1 H1 ⟨o.go, o.rel, hu M1, trivial⟩)
/-- the answer is a new list (a new tuple) of what stays -/
def SL1 (K : PySem.W.Frag) (r : RC) (f : List D → Option (List D)) : Prop := ∀ (M H : Hp) (σ : L2.St) (s : S) (vs : List V) (rs : List R) (ds : List D) (zs : List D), Rel K M H σ s → Helds K M H σ s vs rs → peeks rs s = some ds → f ds = some zs →
  ∀ Q : VK, (∀ p ws, H p = none → Ats K M ws zs → Q (.ref p) (upd H p (.lst ws))) → r vs H Q
def mCL (f : List D → Option (List D)) (ms : MA) : ME := fun s => (ms s).bind fun p => (peeks p.1 p.2).bind fun ds => (f ds).bind fun z => some (.own z, p.2)
theorem sound_cl {K : PySem.W.Frag} {r : RC} {f : List D → Option (List D)} {ta : TA} {ms : MA} (h : SL1 K r f) (ha : SoundA K ta ms) : Sound K (tCB r ta) (mCL f ms) := fun σ s M H r' s' e rel Q q => by
  obtain ⟨⟨rs, s1⟩, e1, e⟩ := bd e
  obtain ⟨ds, e2, e⟩ := bd e
  obtain ⟨z, e3, e⟩ := bd e
  cases e
  refine ha σ s M H rs _ e1 rel _ fun vs M1 H1 o => ?_
  exact h M1 H1 σ _ vs rs ds _ o.rel o.held e2 e3 _ fun p ws hp hw => q _ _ _ (.behind o.t (ok_lst o.rel hp hw))
section
variable {c : Cd} {e a b : Expr} {es : List Expr} {p pos : Pos} {ms : MA}
/-- f is a built-in that no name of the module hides -/
theorem se_callB {x : Str} {id : String} {r : PySem.W.Frag → RC} {f : List D → Option D} (hc : ∀ X : Cx, Fits c X → CallR X (.builtin id) (r X.K)) (h : Sc1 c.K (r c.K) f) (hg : ∀ X : Cx, Fits c X → Gl X x) (hm : c.mg x = none) (hv : bootBuiltins x = some (.builtin id))
    (ha : SA c (e :: es) ms) (hn : x ≠ "__name__" := by decide) (hdb : (x == ("__debug__" : Str)) = false := by decide)
    (he : ∀ env, starEach (e :: es) env = (false, eval e env) :: starEach es env := by intro _; rfl) (hpl : ∀ env, (backTo pos (starEach es env)).any (·.1) = false := by intro _; rfl) : SE c (.Call (.Name x p) (e :: es) [] pos) (mCS f ms) := by
  obtain ⟨ta, pa, sa⟩ := ha
  refine ⟨_, fun X g => by have := hc X g; rw [g.K] at this; exact pe_callB this (hg X g) (by rw [g.mg]; exact hm) hv (pa X g) hn hdb (he X.env) (hpl X.env), sound_cs h sa⟩
theorem se_callTy {x : Str} {T : String} {r : PySem.W.Frag → RC} {f : List D → Option D} (hc : ∀ X : Cx, Fits c X → CallR X (.type T) (r X.K)) (h : Sc1 c.K (r c.K) f) (hg : ∀ X : Cx, Fits c X → Gl X x) (hm : c.mg x = none) (hv : bootBuiltins x = some (.type T))
    (ha : SA c (e :: es) ms) (hn : x ≠ "__name__" := by decide) (hdb : (x == ("__debug__" : Str)) = false := by decide)
    (he : ∀ env, starEach (e :: es) env = (false, eval e env) :: starEach es env := by intro _; rfl) (hpl : ∀ env, (backTo pos (starEach es env)).any (·.1) = false := by intro _; rfl) : SE c (.Call (.Name x p) (e :: es) [] pos) (mCS f ms) := by
  obtain ⟨ta, pa, sa⟩ := ha
  refine ⟨_, fun X g => by have := hc X g; rw [g.K] at this; exact pe_callTy this (hg X g) (by rw [g.mg]; exact hm) hv (pa X g) hn hdb (he X.env) (hpl X.env), sound_cs h sa⟩
theorem se_callBL {x : Str} {id : String} {r : PySem.W.Frag → RC} {f : List D → Option (List D)} (hc : ∀ X : Cx, Fits c X → CallR X (.builtin id) (r X.K)) (h : SL1 c.K (r c.K) f) (hg : ∀ X : Cx, Fits c X → Gl X x) (hm : c.mg x = none) (hv : bootBuiltins x = some (.builtin id))
    (ha : SA c (e :: es) ms) (hn : x ≠ "__name__" := by decide) (hdb : (x == ("__debug__" : Str)) = false := by decide)
    (he : ∀ env, starEach (e :: es) env = (false, eval e env) :: starEach es env := by intro _; rfl) (hpl : ∀ env, (backTo pos (starEach es env)).any (·.1) = false := by intro _; rfl) : SE c (.Call (.Name x p) (e :: es) [] pos) (mCL f ms) := by
  obtain ⟨ta, pa, sa⟩ := ha
  refine ⟨_, fun X g => by have := hc X g; rw [g.K] at this; exact pe_callB this (hg X g) (by rw [g.mg]; exact hm) hv (pa X g) hn hdb (he X.env) (hpl X.env), sound_cl h sa⟩
theorem se_callTyL {x : Str} {T : String} {r : PySem.W.Frag → RC} {f : List D → Option (List D)} (hc : ∀ X : Cx, Fits c X → CallR X (.type T) (r X.K)) (h : SL1 c.K (r c.K) f) (hg : ∀ X : Cx, Fits c X → Gl X x) (hm : c.mg x = none) (hv : bootBuiltins x = some (.type T))
    (ha : SA c (e :: es) ms) (hn : x ≠ "__name__" := by decide) (hdb : (x == ("__debug__" : Str)) = false := by decide)
    (he : ∀ env, starEach (e :: es) env = (false, eval e env) :: starEach es env := by intro _; rfl) (hpl : ∀ env, (backTo pos (starEach es env)).any (·.1) = false := by intro _; rfl) : SE c (.Call (.Name x p) (e :: es) [] pos) (mCL f ms) := by
  obtain ⟨ta, pa, sa⟩ := ha
  refine ⟨_, fun X g => by have := hc X g; rw [g.K] at this; exact pe_callTy this (hg X g) (by rw [g.mg]; exact hm) hv (pa X g) hn hdb (he X.env) (hpl X.env), sound_cl h sa⟩
end
/-! ### the single ones -/
section
variable {K : PySem.W.Frag}
def fLen : List D → Option D
  | [d] => (seqD d).bind fun xs => some (.int xs.length)
  | _ => none
theorem At.seq {H : Hp} {v : V} {d : D} {xs : List D} (h : At K H v d) (e : seqD d = some xs) : ∃ l vs, v = .ref l ∧ (SqL K H l vs ∨ SqT K H l vs) ∧ Ats K H vs xs := by
  cases h <;> try (cases e; done)
  · rename_i h1 h2; cases e; exact ⟨_, _, rfl, .inl h1, h2⟩
  · rename_i h1 h2; cases e; exact ⟨_, _, rfl, .inr h1, h2⟩
theorem ats1 {H : Hp} {vs : List V} {d : D} (h : Ats K H vs [d]) : ∃ v, vs = [v] ∧ At K H v d := by
  cases h with
  | cons a b => cases b; exact ⟨_, rfl, a⟩
theorem ats2 {H : Hp} {vs : List V} {d e : D} (h : Ats K H vs [d, e]) : ∃ v w, vs = [v, w] ∧ At K H v d ∧ At K H w e := by
  cases h with
  | cons a b =>
    cases b with
    | cons b c => cases c; exact ⟨_, _, rfl, a, b⟩
abbrev rLen (K : PySem.W.Frag) : RC := fun xs H Q => ∃ p ys, xs = [V.ref p] ∧ (SqL K H p ys ∨ SqT K H p ys) ∧ Q (.int ys.length) H
theorem sc_len : Sc1 K (rLen K) fLen := fun H vs ds z h e => by
  unfold fLen at e
  split at e
  · rename_i d
    obtain ⟨xs, e1, e⟩ := bd e
    cases e
    obtain ⟨v, rfl, ha⟩ := ats1 h
    obtain ⟨l, ws, rfl, hs, hw⟩ := ha.seq e1
    exact ⟨.int xs.length, fun _ => .int _, fun Q q => ⟨l, ws, rfl, hs, by rw [hw.length]; exact q⟩⟩
  · cases e
def fI1 (g : Int → Int) : List D → Option D
  | [.int i] => some (.int (g i))
  | _ => none
def fI2 (g : Int → Int → Int) : List D → Option D
  | [.int i, .int j] => some (.int (g i j))
  | _ => none
theorem atsI1 {H : Hp} {vs : List V} {i : Int} (h : Ats K H vs [.int i]) : vs = [.int i] := by
  obtain ⟨v, rfl, ha⟩ := ats1 h
  cases ha; rfl
theorem atsI2 {H : Hp} {vs : List V} {i j : Int} (h : Ats K H vs [.int i, .int j]) : vs = [.int i, .int j] := by
  obtain ⟨v, w, rfl, ha, hb⟩ := ats2 h
  cases ha; cases hb; rfl
abbrev gAbs : Int → Int := fun i => if i < 0 then -i else i
abbrev rAbs (K : PySem.W.Frag) : RC := fun xs H Q => ∃ i, xs = [V.int i] ∧ Q (.int (if i < 0 then -i else i)) H
theorem sc_abs : Sc1 K (rAbs K) (fI1 gAbs) := fun H vs ds z h e => by
  unfold fI1 at e
  split at e
  · cases e
    exact ⟨_, fun _ => .int _, fun Q q => ⟨_, atsI1 h, q⟩⟩
  · cases e
abbrev rInt1 (K : PySem.W.Frag) : RC := fun xs H Q => (∃ i, xs = [V.int i] ∧ Q (V.int i) H) ∨ ∃ k, xs = [V.bl k] ∧ Q (.int (if k then 1 else 0)) H
theorem sc_int : Sc1 K (rInt1 K) (fI1 fun i => i) := fun H vs ds z h e => by
  unfold fI1 at e
  split at e
  · cases e
    exact ⟨_, fun _ => .int _, fun Q q => .inl ⟨_, atsI1 h, q⟩⟩
  · cases e
abbrev gMax : Int → Int → Int := fun i j => if j > i then j else i
abbrev gMin : Int → Int → Int := fun i j => if j < i then j else i
abbrev rMax2 (K : PySem.W.Frag) : RC := fun xs H Q => ∃ i j, xs = [V.int i, .int j] ∧ Q (.int (if j > i then j else i)) H
theorem sc_max : Sc1 K (rMax2 K) (fI2 gMax) := fun H vs ds z h e => by
  unfold fI2 at e
  split at e
  · cases e
    exact ⟨_, fun _ => .int _, fun Q q => ⟨_, _, atsI2 h, q⟩⟩
  · cases e
abbrev rMin2 (K : PySem.W.Frag) : RC := fun xs H Q => ∃ i j, xs = [V.int i, .int j] ∧ Q (.int (if j < i then j else i)) H
theorem sc_min : Sc1 K (rMin2 K) (fI2 gMin) := fun H vs ds z h e => by
  unfold fI2 at e
  split at e
  · cases e
    exact ⟨_, fun _ => .int _, fun Q q => ⟨_, _, atsI2 h, q⟩⟩
  · cases e
/-- all of them truth values, whole numbers -/
def boolsD : List D → Option (List Bool)
  | [] => some []
  | d :: ds => (asB d).bind fun b => (boolsD ds).bind fun bs => some (b :: bs)
def intsD : List D → Option (List Int)
  | [] => some []
  | d :: ds => (asI d).bind fun b => (intsD ds).bind fun bs => some (b :: bs)
theorem bools_at {H : Hp} : ∀ {vs : List V} {ds : List D} {bs : List Bool}, Ats K H vs ds → boolsD ds = some bs → vs = bs.map V.bl
  | _, _, _, .nil, e => by cases e; rfl
  | _, _, _, .cons h t, e => by
    obtain ⟨b, e1, e⟩ := bd e
    obtain ⟨bs, e2, e⟩ := bd e
    cases e
    rw [asB_at h e1, bools_at t e2]; rfl
theorem ints_at {H : Hp} : ∀ {vs : List V} {ds : List D} {bs : List Int}, Ats K H vs ds → intsD ds = some bs → vs = bs.map V.int
  | _, _, _, .nil, e => by cases e; rfl
  | _, _, _, .cons h t, e => by
    obtain ⟨b, e1, e⟩ := bd e
    obtain ⟨bs, e2, e⟩ := bd e
    cases e
    rw [asI_at h e1, ints_at t e2]; rfl
theorem ats_ints {H : Hp} : ∀ ns : List Int, Ats K H (ns.map V.int) (ns.map D.int)
  | [] => .nil
  | n :: ns => .cons (.int n) (ats_ints ns)
theorem ints_map : ∀ ns : List Int, intsD (ns.map D.int) = some ns
  | [] => rfl
  | n :: ns => by
    show (asI (.int n)).bind (fun b => (intsD (ns.map D.int)).bind fun bs => some (b :: bs)) = _
    rw [ints_map ns]; rfl
def fAll : List D → Option D
  | [.lst xs] => (boolsD xs).bind fun bs => some (.bl (bs.all id))
  | _ => none
def fAny : List D → Option D
  | [.lst xs] => (boolsD xs).bind fun bs => some (.bl (bs.any id))
  | _ => none
theorem sc_all : Sc1 K (rAll K) fAll := fun H vs ds z h e => by
  unfold fAll at e
  split at e
  · obtain ⟨bs, e1, e⟩ := bd e
    cases e
    obtain ⟨v, rfl, ha⟩ := ats1 h
    cases ha with
    | lst h1 h2 =>
      rw [bools_at h2 e1] at h1
      exact ⟨_, fun _ => .bl _, fun Q q => ⟨_, bs, rfl, h1, q⟩⟩
  · cases e
theorem sc_any : Sc1 K (rAny K) fAny := fun H vs ds z h e => by
  unfold fAny at e
  split at e
  · obtain ⟨bs, e1, e⟩ := bd e
    cases e
    obtain ⟨v, rfl, ha⟩ := ats1 h
    cases ha with
    | lst h1 h2 =>
      rw [bools_at h2 e1] at h1
      exact ⟨_, fun _ => .bl _, fun Q q => ⟨_, bs, rfl, h1, q⟩⟩
  · cases e
/-! list(x), sorted(x), tuple(x) -/
def fList : List D → Option (List D)
  | [d] => seqD d
  | _ => none
theorem helds1 {M H : Hp} {σ : L2.St} {s : S} {vs : List V} {rs : List R} {d : D} (h : Helds K M H σ s vs rs) (e : peeks rs s = some [d]) : ∃ v r, vs = [v] ∧ Held K M H σ s v r ∧ peek r s = some d := by
  cases h with
  | nil => cases e
  | cons h t =>
    obtain ⟨d', e1, e⟩ := bd e
    obtain ⟨ds, e2, e⟩ := bd e
    cases e
    cases t with
    | nil => exact ⟨_, _, rfl, h, e1⟩
    | cons _ _ =>
      obtain ⟨_, _, e2⟩ := bd e2
      obtain ⟨_, _, e2⟩ := bd e2
      cases e2
abbrev rList1 (K : PySem.W.Frag) : RC := fun xs H Q => ∃ p ys, xs = [V.ref p] ∧ (SqL K H p ys ∨ SqT K H p ys) ∧ ∀ l, H l = none → Q (.ref l) (upd H l (.lst ys))
theorem sl_list1 : SL1 K (rList1 K) fList := fun M H σ s vs rs ds zs rel h e e2 Q q => by
  unfold fList at e2
  split at e2
  · obtain ⟨v, r, rfl, hv, hp⟩ := helds1 h e
    obtain ⟨l, ws, rfl, hs, hw⟩ := hv.seq rel hp e2
    exact ⟨l, ws, rfl, hs, fun l' hl => q l' ws hl hw⟩
  · cases e2
/-- the whole numbers in order -/
def isort : List Int → List Int := fun ns => ns.mergeSort (fun a b => decide (a ≤ b))
def fSorted : List D → Option (List D)
  | [.lst xs] => (intsD xs).bind fun ns => some ((isort ns).map D.int)
  | _ => none
theorem isort_of {ns ms : List Int} (p : ms.Perm ns) (o : ms.Pairwise (· ≤ ·)) : ms = isort ns := by
  unfold isort
  have p2 : ms.Perm (ns.mergeSort (fun a b => decide (a ≤ b))) := p.trans (List.mergeSort_perm ns _).symm
  have o2 : (ns.mergeSort (fun a b => decide (a ≤ b))).Pairwise (· ≤ ·) := by
    have := List.pairwise_mergeSort (le := fun a b : Int => decide (a ≤ b)) (by intro a b c; simp; omega) (by intro a b; simp; omega) ns
    exact this.imp (by intro a b h; simpa using h)
  exact List.Perm.eq_of_pairwise (fun a b _ _ h1 h2 => Int.le_antisymm h1 h2) o o2 p2
theorem sl_sorted : SL1 K (rSortedI K) fSorted := fun M H σ s vs rs ds zs rel h e e2 Q q => by
  unfold fSorted at e2
  split at e2
  · obtain ⟨ns, e3, e2⟩ := bd e2
    cases e2
    obtain ⟨v, r, rfl, hv, hp⟩ := helds1 h e
    obtain ⟨l, ws, rfl, hs, hw⟩ := hv.list rel hp
    rw [ints_at hw e3] at hs
    refine ⟨l, ns, rfl, hs, fun ns' p pm od hn => q p _ hn ?_⟩
    rw [isort_of pm od]
    exact ats_ints _
  · cases e2
def fTup : List D → Option (List D)
  | [d] => seqD d
  | _ => none
end
section
variable {c : Cd} {e a b : Expr} {es : List Expr} {p pos : Pos} {ms : MA}
/-- tuple(x): of a list a new tuple, of a tuple itself -/
def mTupOf (ms : MA) : ME := fun s => (ms s).bind fun p => (peeks p.1 p.2).bind fun ds => (fTup ds).bind fun z => some (.val (.tup z), p.2)
theorem se_tupOf (hg : ∀ X : Cx, Fits c X → Gl X "tuple") (hm : c.mg "tuple" = none) (ha : SA c (e :: es) ms)
    (he : ∀ env, starEach (e :: es) env = (false, eval e env) :: starEach es env := by intro _; rfl) (hpl : ∀ env, (backTo pos (starEach es env)).any (·.1) = false := by intro _; rfl) : SE c (.Call (.Name "tuple" p) (e :: es) [] pos) (mTupOf ms) := by
  obtain ⟨ta, pa, sa⟩ := ha
  refine ⟨_, fun X g => by have := call_tuple_of (X := X); rw [g.K] at this; exact pe_callTy this (hg X g) (by rw [g.mg]; exact hm) (by decide +kernel) (pa X g) (by decide) (by decide) (he X.env) (hpl X.env), fun σ s M H r' s' e rel Q q => ?_⟩
  obtain ⟨⟨rs, s1⟩, e1, e⟩ := bd e
  obtain ⟨ds, e2, e⟩ := bd e
  obtain ⟨z, e3, e⟩ := bd e
  cases e
  refine sa σ s M H rs _ e1 rel _ fun vs M1 H1 o => ?_
  unfold fTup at e3
  split at e3
  · rename_i d
    obtain ⟨v, r, rfl, hv, hp⟩ := helds1 o.held e2
    cases d <;> try (cases e3; done)
    · cases e3
      rcases hv.peek o.rel hp with q1 | ⟨l, ws, xs, rfl, h1, h2, h3, h4⟩
      · cases q1 with
        | tup h1 h2 => exact ⟨_, _, rfl, .inr ⟨o.rel.le.sqT h1, q _ M1 H1 ⟨o.go, o.rel, .tup h1 h2, trivial⟩⟩⟩
      · cases h4
    · cases e3
      obtain ⟨l, ws, rfl, hs, hw⟩ := hv.list o.rel hp
      exact ⟨l, ws, rfl, .inl ⟨hs, fun p hp => q _ _ _ (.behind o.t (ok_tup o.rel hp hw))⟩⟩
  · cases e3
/-- divmod(i, j) -/
instance (i j : Int) : Decidable (CDiv i j) := by unfold CDiv; infer_instance
def fDm : List D → Option (List D)
  | [.int i, .int j] => if CDiv i j then some [.int (i / j), .int (i % j)] else none
  | _ => none
def mTupNew (f : List D → Option (List D)) (ms : MA) : ME := fun s => (ms s).bind fun p => (peeks p.1 p.2).bind fun ds => (f ds).bind fun z => some (.val (.tup z), p.2)
theorem se_divmod (hg : ∀ X : Cx, Fits c X → Gl X "divmod") (hm : c.mg "divmod" = none) (ha : SA c (e :: es) ms)
    (he : ∀ env, starEach (e :: es) env = (false, eval e env) :: starEach es env := by intro _; rfl) (hpl : ∀ env, (backTo pos (starEach es env)).any (·.1) = false := by intro _; rfl) : SE c (.Call (.Name "divmod" p) (e :: es) [] pos) (mTupNew fDm ms) := by
  obtain ⟨ta, pa, sa⟩ := ha
  refine ⟨_, fun X g => pe_callB (call_divmod) (hg X g) (by rw [g.mg]; exact hm) (by decide +kernel) (pa X g) (by decide) (by decide) (he X.env) (hpl X.env), fun σ s M H r' s' e rel Q q => ?_⟩
  obtain ⟨⟨rs, s1⟩, e1, e⟩ := bd e
  obtain ⟨ds, e2, e⟩ := bd e
  obtain ⟨z, e3, e⟩ := bd e
  cases e
  refine sa σ s M H rs _ e1 rel _ fun vs M1 H1 o => ?_
  unfold fDm at e3
  split at e3
  · rename_i i j
    split at e3
    · rename_i hc
      cases e3
      exact ⟨i, j, atsI2 (o.held.ats o.rel e2), hc, fun p hp => q _ _ _ (.behind o.t (ok_tup o.rel hp (.cons (.int _) (.cons (.int _) .nil))))⟩
    · cases e3
  · cases e3
end
end Dm
set_option Elab.async false
set_option linter.all false
set_option maxRecDepth 100000
set_option maxHeartbeats 4000000
namespace Dm
open PySem PySem.Spec L2
set_option autoImplicit false

/-! ### statements -/
inductive O where
  | nx (s : S) | rt (r : Ret) (s : S) | bk (s : S) | ct (s : S)
abbrev MS := S → Option O
structure OkS (K : PySem.W.Frag) (σ : L2.St) (s : S) (M H : Hp) (σ' : L2.St) (s' : S) (M' H' : Hp) : Prop where
  go : Go σ s M H σ' s' M' H'
  rel : Rel K M' H' σ' s'
theorem OkS.refl {K : PySem.W.Frag} {σ : L2.St} {s : S} {M H : Hp} (r : Rel K M H σ s) : OkS K σ s M H σ s M H := ⟨Go.refl, r⟩
theorem OkS.trans {K : PySem.W.Frag} {σ σ1 σ2 : L2.St} {s s1 s2 : S} {M H M1 H1 M2 H2 : Hp} (a : OkS K σ s M H σ1 s1 M1 H1) (b : OkS K σ1 s1 M1 H1 σ2 s2 M2 H2) : OkS K σ s M H σ2 s2 M2 H2 := ⟨a.go.trans b.go, b.rel⟩
theorem OkT.s {K : PySem.W.Frag} {σ : L2.St} {s s' : S} {M H M' H' : Hp} (o : OkT K σ s M H s' M' H') : OkS K σ s M H σ s' M' H' := ⟨o.go, o.rel⟩
def RetOk (K : PySem.W.Frag) (σ : L2.St) (s : S) (H M' H' : Hp) (v : V) : Ret → Prop
  | .val d => At K M' v d
  | .own xs => ∃ l vs, v = .ref l ∧ H' l = some (.lst vs) ∧ M' l = none ∧ Ats K M' vs xs ∧ (H l = none ∨ ∃ (j : Nat) (ys : List D), s[j]? = some (some (Cell.own false ys)) ∧ σ[j]? = some (some (V.ref l)))
def End (K : PySem.W.Frag) (σ : L2.St) (s : S) (M H : Hp) (E : Ends) : O → Prop
  | .nx s' => ∀ σ' M' H', OkS K σ s M H σ' s' M' H' → E.nx σ' H'
  | .bk s' => ∀ σ' M' H', OkS K σ s M H σ' s' M' H' → E.bk σ' H'
  | .ct s' => ∀ σ' M' H', OkS K σ s M H σ' s' M' H' → E.ct σ' H'
  | .rt r s' => ∀ v σ' M' H', OkS K σ s M H σ' s' M' H' → RetOk K σ s H M' H' v r → E.rt v H'
theorem RetOk.go {K : PySem.W.Frag} {σ σ1 : L2.St} {s s1 : S} {M H M1 H1 M' H' : Hp} {v : V} {r : Ret} (g : Go σ s M H σ1 s1 M1 H1) (h : RetOk K σ1 s1 H1 M' H' v r) : RetOk K σ s H M' H' v r := by
  cases r with
  | val d => exact h
  | own xs =>
    obtain ⟨l, vs, e, h1, h2, h3, h4⟩ := h
    refine ⟨l, vs, e, h1, h2, h3, ?_⟩
    rcases h4 with h4 | ⟨j, ys, a, b⟩
    · exact .inl (g.free h4)
    · rcases g.own j false ys l a b with ⟨z, _⟩ | ⟨k, zs, z1, z2⟩
      · exact .inl z
      · exact .inr ⟨k, zs, z1, z2⟩
theorem End.go {K : PySem.W.Frag} {σ σ1 : L2.St} {s s1 : S} {M H M1 H1 : Hp} {E : Ends} {o : O} (h : End K σ s M H E o) (g : OkS K σ s M H σ1 s1 M1 H1) : End K σ1 s1 M1 H1 E o := by
  cases o with
  | nx s' => exact fun σ' M' H' k => h σ' M' H' (g.trans k)
  | bk s' => exact fun σ' M' H' k => h σ' M' H' (g.trans k)
  | ct s' => exact fun σ' M' H' k => h σ' M' H' (g.trans k)
  | rt r s' => exact fun v σ' M' H' k q => h v σ' M' H' (g.trans k) (q.go g.go)
def SoundS (K : PySem.W.Frag) (t : TS) (m : MS) : Prop := ∀ (σ : L2.St) (s : S) (M H : Hp) (o : O), m s = some o → Rel K M H σ s → ∀ E : Ends, End K σ s M H E o → t E σ H
def SS (c : Cd) (st : Stmt) (m : MS) : Prop := ∃ t : TS, (∀ X, Fits c X → PS X st t) ∧ SoundS c.K t m
def SSs (c : Cd) (sts : List Stmt) (m : MS) : Prop := ∃ t : TS, (∀ X, Fits c X → PSs X sts t) ∧ SoundS c.K t m

def mSkip : MS := fun s => some (.nx s)
def mSeq (a b : MS) : MS := fun s => (a s).bind fun o => match o with
  | .nx s1 => b s1
  | o => some o
def mDie : MS := fun _ => none
def mBreak : MS := fun s => some (.bk s)
def mCont : MS := fun s => some (.ct s)
theorem sound_skip {K : PySem.W.Frag} : SoundS K tNext mSkip := fun σ s M H o e rel E h => by cases e; exact h σ M H (.refl rel)
theorem sound_seq {K : PySem.W.Frag} {t u : TS} {a b : MS} (ha : SoundS K t a) (hb : SoundS K u b) : SoundS K (tSeq t u) (mSeq a b) := fun σ s M H o e rel E h => by
  obtain ⟨o1, e1, e⟩ := bd e
  cases o1 with
  | nx s1 => exact ha σ s M H _ e1 rel _ fun σ1 M1 H1 k => hb σ1 s1 M1 H1 o e k.rel E (h.go k)
  | bk s1 => cases e; exact ha σ s M H _ e1 rel _ h
  | ct s1 => cases e; exact ha σ s M H _ e1 rel _ h
  | rt r s1 => cases e; exact ha σ s M H _ e1 rel _ h
section
variable {c : Cd} {st : Stmt} {sts : List Stmt} {a b : MS} {e : Expr} {m : ME} {t : MT} {pos : Pos}
theorem ss_nil : SSs c [] mSkip := ⟨_, fun _ _ => pss_nil, sound_skip⟩
theorem ss_cons (h : SS c st a) (h' : SSs c sts b) : SSs c (st :: sts) (mSeq a b) := by
  obtain ⟨ta, pa, sa⟩ := h
  obtain ⟨tb, pb, sb⟩ := h'
  exact ⟨_, fun X g => pss_cons (pa X g) (pb X g), sound_seq sa sb⟩
theorem ss_one (h : SS c st a) : SSs c [st] a := by
  obtain ⟨ta, pa, sa⟩ := h
  exact ⟨_, fun X g => pss_one (pa X g), sa⟩
theorem ss_pass : SS c (.Pass pos) mSkip := ⟨_, fun _ _ => ps_pass, sound_skip⟩
theorem ss_break : SS c (.Break pos) mBreak := ⟨_, fun _ _ => ps_break, fun σ s M H o e rel E h => by cases e; exact h σ M H (.refl rel)⟩
theorem ss_cont : SS c (.Continue pos) mCont := ⟨_, fun _ _ => ps_continue, fun σ s M H o e rel E h => by cases e; exact h σ M H (.refl rel)⟩
/-- a statement that no good way reaches -/
theorem ss_die : SS c st mDie := ⟨_, fun _ _ => ps_never, fun σ s M H o e rel E h => by cases e⟩
def mExpr (m : ME) : MS := fun s => (m s).bind fun p => some (.nx p.2)
theorem ss_expr (h : SE c e m) (hs : ∀ env, swapsWith e none pos.line env = pure false := by intro _; rfl) : SS c (.Expr e pos) (mExpr m) := by
  obtain ⟨ta, pa, sa⟩ := h
  refine ⟨_, fun X g => ps_expr (pa X g) (hs X.env), fun σ s M H o e rel E h => ?_⟩
  obtain ⟨⟨r, s1⟩, e1, e⟩ := bd e
  cases e
  exact sa σ s M H r _ e1 rel _ fun v M1 H1 k => h σ M1 H1 k.t.s
def mIfS (t : MT) (a b : MS) : MS := fun s => (t s).bind fun p => if p.1 then a p.2 else b p.2
theorem ss_if {ss1 ss2 : List Stmt} (ht : ST c e t) (h : SSs c ss1 a) (h' : SSs c ss2 b) : SS c (.If e ss1 ss2 pos) (mIfS t a b) := by
  obtain ⟨tt, pt, st⟩ := ht
  obtain ⟨ta, pa, sa⟩ := h
  obtain ⟨tb, pb, sb⟩ := h'
  refine ⟨_, fun X g => ps_if (pt X g) (pa X g) (pb X g), fun σ s M H o e rel E h => ?_⟩
  obtain ⟨⟨k, s1⟩, e1, e⟩ := bd e
  refine st σ s M H k s1 e1 rel _ fun M1 H1 g => ?_
  cases k with
  | true => exact sa σ s1 M1 H1 o e g.rel E (h.go g.s)
  | false => exact sb σ s1 M1 H1 o e g.rel E (h.go g.s)
/-! ### return -/
def toRet (r : R) (s : S) : Option Ret := match r with
  | .val d => some (.val d)
  | .own xs => some (.own xs)
  | .slot i => match s[i]? with
    | some (some (.own false xs)) => some (.own xs)
    | some (some (.val d)) => some (.val d)
    | _ => none
theorem toRet_ok {K : PySem.W.Frag} {σ : L2.St} {s s' : S} {M H M' H' : Hp} {v : V} {r : R} {r' : Ret} (o : Ok K σ s M H r s' v M' H') (e : toRet r s' = some r') : RetOk K σ s H M' H' v r' := by
  obtain ⟨go, rel, held, new⟩ := o
  cases r with
  | val d => cases e; exact held
  | own xs =>
    cases e
    obtain ⟨l, vs, rfl, h1, h2, h3, h4⟩ := held
    obtain ⟨l', e', hn⟩ := new
    cases e'
    exact ⟨l, vs, rfl, h1, h2, h4, .inl hn⟩
  | slot i =>
    unfold toRet at e
    simp only at e
    have hv : σ[i]? = some (some v) := held
    split at e
    · rename_i xs q
      cases e
      obtain ⟨l, vs, a, b, c, f⟩ := rel.own i false xs q
      rw [hv] at a
      cases a
      refine ⟨l, vs, rfl, b, c, f, ?_⟩
      rcases go.own i false xs l q hv with ⟨z, _⟩ | z
      · exact .inl z
      · exact .inr z
    · rename_i d q
      cases e
      obtain ⟨v', a, b⟩ := rel.val i d q
      rw [hv] at a
      cases a
      exact b
    · cases e
def mRet (m : ME) : MS := fun s => (m s).bind fun p => (toRet p.1 p.2).bind fun r => some (.rt r p.2)
theorem ss_ret (h : SE c e m) : SS c (.Return (some e) pos) (mRet m) := by
  obtain ⟨ta, pa, sa⟩ := h
  refine ⟨_, fun X g => ps_ret (pa X g), fun σ s M H o e rel E h => ?_⟩
  obtain ⟨⟨r, s1⟩, e1, e⟩ := bd e
  obtain ⟨r', e2, e⟩ := bd e
  cases e
  exact sa σ s M H r _ e1 rel _ fun v M1 H1 k => h v σ M1 H1 k.t.s (toRet_ok k e2)
def mRetN : MS := fun s => some (.rt (.val .non) s)
theorem ss_retN : SS c (.Return none pos) mRetN := ⟨_, fun _ _ => ps_retN, fun σ s M H o e rel E h => by cases e; exact h .non σ M H (.refl rel) .non⟩
/-! ### x = e -/
def put (i : Nat) (r : R) (s : S) : Option S := match s[i]? with
  | none => none
  | some (some (.own true _)) => none
  | _ => match r with
    | .val d => some (s.set i (some (.val d)))
    | .own xs => some (s.set i (some (.own false xs)))
    | .slot j => (frz (.slot j) s).bind fun p => some (p.2.set i (some (.val p.1)))
theorem put_val {K : PySem.W.Frag} {σ : L2.St} {s : S} {M H : Hp} {i : Nat} {d : D} {v : V} (rel : Rel K M H σ s) (hv : At K M v d) (hi : i < s.length) (hp : ∀ xs, s[i]? ≠ some (some (Cell.own true xs))) : OkS K σ s M H (σ.set i (some v)) (s.set i (some (.val d))) M H := by
  have hi' : i < σ.length := by rw [← rel.len]; exact hi
  refine ⟨⟨Le.refl _, fun a o h _ => ⟨h, fun z => z⟩, fun a o h => ⟨o, h⟩, fun j p xs l h1 h2 => ?_, fun j xs h => ?_⟩, ⟨by rw [List.length_set, List.length_set]; exact rel.len, rel.le, fun j d' q => ?_, fun j p xs q => ?_, fun j k p q xs ys l h1 h2 h3 h4 => ?_⟩⟩
  · rcases set_get h1 with ⟨_, z⟩ | ⟨hj, z⟩
    · cases z
    · rw [List.getElem?_set_ne (fun e => hj e.symm)] at h2
      exact .inr ⟨j, xs, z, h2⟩
  · have hj : j ≠ i := fun e => by subst e; exact hp xs h
    exact ⟨xs, by rw [List.getElem?_set_ne (fun e => hj e.symm)]; exact h, List.getElem?_set_ne (fun e => hj e.symm)⟩
  · rcases set_get q with ⟨rfl, z⟩ | ⟨hj, z⟩
    · cases z
      exact ⟨v, List.getElem?_set_self hi', hv⟩
    · obtain ⟨w, a, b⟩ := rel.val j d' z
      exact ⟨w, by rw [List.getElem?_set_ne (fun e => hj e.symm)]; exact a, b⟩
  · rcases set_get q with ⟨_, z⟩ | ⟨hj, z⟩
    · cases z
    · obtain ⟨l, vs, a, b⟩ := rel.own j p xs z
      exact ⟨l, vs, by rw [List.getElem?_set_ne (fun e => hj e.symm)]; exact a, b⟩
  · rcases set_get h1 with ⟨_, z⟩ | ⟨hj, z1⟩
    · cases z
    · rcases set_get h2 with ⟨_, z⟩ | ⟨hk, z2⟩
      · cases z
      · rw [List.getElem?_set_ne (fun e => hj e.symm)] at h3
        rw [List.getElem?_set_ne (fun e => hk e.symm)] at h4
        exact rel.inj j k p q xs ys l z1 z2 h3 h4
theorem put_own {K : PySem.W.Frag} {σ : L2.St} {s : S} {M H : Hp} {i : Nat} {xs : List D} {v : V} (rel : Rel K M H σ s) (hv : Held K M H σ s v (.own xs)) (hi : i < s.length) (hp : ∀ xs, s[i]? ≠ some (some (Cell.own true xs))) :
    Rel K M H (σ.set i (some v)) (s.set i (some (.own false xs))) ∧ (∀ a o, H a = some o → ¬ Owned σ s a → (M a = none → M a = none)) := by
  have hi' : i < σ.length := by rw [← rel.len]; exact hi
  obtain ⟨l, vs, rfl, h1, h2, h3, h4⟩ := hv
  refine ⟨⟨by rw [List.length_set, List.length_set]; exact rel.len, rel.le, fun j d' q => ?_, fun j p ys q => ?_, fun j k p q ys zs l2 g1 g2 g3 g4 => ?_⟩, fun _ _ _ _ z => z⟩
  · rcases set_get q with ⟨_, z⟩ | ⟨hj, z⟩
    · cases z
    · obtain ⟨w, a, b⟩ := rel.val j d' z
      exact ⟨w, by rw [List.getElem?_set_ne (fun e => hj e.symm)]; exact a, b⟩
  · rcases set_get q with ⟨rfl, z⟩ | ⟨hj, z⟩
    · cases z
      exact ⟨l, vs, List.getElem?_set_self hi', h1, h2, h4⟩
    · obtain ⟨l', vs', a, b⟩ := rel.own j p ys z
      exact ⟨l', vs', by rw [List.getElem?_set_ne (fun e => hj e.symm)]; exact a, b⟩
  · rcases set_get g1 with ⟨rfl, z1⟩ | ⟨hj, z1⟩
    · rcases set_get g2 with ⟨rfl, z2⟩ | ⟨hk, z2⟩
      · rfl
      · rw [List.getElem?_set_self hi'] at g3
        cases g3
        rw [List.getElem?_set_ne (fun e => hk e.symm)] at g4
        exact (h3 ⟨k, q, zs, z2, g4⟩).elim
    · rw [List.getElem?_set_ne (fun e => hj e.symm)] at g3
      rcases set_get g2 with ⟨rfl, z2⟩ | ⟨hk, z2⟩
      · rw [List.getElem?_set_self hi'] at g4
        cases g4
        exact (h3 ⟨j, p, ys, z1, g3⟩).elim
      · rw [List.getElem?_set_ne (fun e => hk e.symm)] at g4
        exact rel.inj j k p q ys zs l2 z1 z2 g3 g4
theorem put_ok {K : PySem.W.Frag} {σ : L2.St} {s s1 s2 : S} {M H M1 H1 : Hp} {i : Nat} {r : R} {v : V} (o : Ok K σ s M H r s1 v M1 H1) (e : put i r s1 = some s2) : ∃ M2, OkS K σ s M H (σ.set i (some v)) s2 M2 H1 := by
  unfold put at e
  split at e
  · cases e
  · cases e
  · rename_i x q0 q1
    have hi : i < s1.length := by
      have : s1[i]? ≠ none := q0
      rcases Nat.lt_or_ge i s1.length with h | h
      · exact h
      · exact absurd (List.getElem?_eq_none h) this
    have hp : ∀ xs, s1[i]? ≠ some (some (Cell.own true xs)) := fun xs z => q1 xs z
    cases r with
    | val d =>
      cases e
      exact ⟨M1, o.t.s.trans (put_val o.rel o.held hi hp)⟩
    | own xs =>
      cases e
      obtain ⟨l, e', hn⟩ := o.new
      subst e'
      obtain ⟨rel', _⟩ := put_own o.rel o.held hi hp
      have hi' : i < σ.length := by rw [← o.rel.len]; exact hi
      refine ⟨M1, ⟨o.go.up, o.go.keep, o.go.there, fun j p ys l2 h1 h2 => ?_, fun j ys h => ?_⟩, rel'⟩
      · rcases set_get h1 with ⟨rfl, z⟩ | ⟨hj, z⟩
        · cases z
          rw [List.getElem?_set_self hi'] at h2
          cases h2
          exact .inl ⟨hn, rfl⟩
        · rw [List.getElem?_set_ne (fun e => hj e.symm)] at h2
          exact o.go.own j p ys l2 z h2
      · obtain ⟨zs, z1, z2⟩ := o.go.port j ys h
        have hj : j ≠ i := fun e => by subst e; exact hp zs z1
        exact ⟨zs, by rw [List.getElem?_set_ne (fun e => hj e.symm)]; exact z1, List.getElem?_set_ne (fun e => hj e.symm)⟩
    | slot j =>
      obtain ⟨⟨d, s3⟩, e3, e⟩ := bd e
      cases e
      obtain ⟨M2, o2⟩ := frz_ok o e3
      have hl : s3.length = s1.length := by rw [o2.rel.len, o.rel.len]
      refine ⟨M2, o2.t.s.trans (put_val o2.rel o2.held (by rw [hl]; exact hi) fun xs z => ?_)⟩
      -- a port is not made by freezing
      have key : s3[i]? = s1[i]? ∨ ∃ d, s3[i]? = some (some (Cell.val d)) := by
        unfold frz at e3
        simp only at e3
        split at e3
        · rename_i ys q
          cases e3
          by_cases hji : j = i
          · subst hji; exact .inr ⟨_, List.getElem?_set_self hi⟩
          · exact .inl (List.getElem?_set_ne hji)
        · cases e3; exact .inl rfl
        · cases e3
      rcases key with k | ⟨d', k⟩
      · rw [k] at z; exact hp xs z
      · rw [k] at z; cases z
def mSet (i : Nat) (m : ME) : MS := fun s => (m s).bind fun p => (put i p.1 p.2).bind fun s2 => some (.nx s2)
theorem ss_set (i : Nat) {x : Str} {pos' : Pos} (h : SE c e m) (hN : ndB c.N = true := by rfl) (hi : c.N[i]? = some x := by rfl) (hx : Loc c.sc x := by first | exact .inl rfl | exact .inr rfl)
    (hf : c.top = true ∨ c.sc.names.lookup x = some .local := by first | exact .inr rfl | exact .inl rfl) (hs : ∀ env, swapsWith e (some (.Name x pos')) pos.line env = pure false := by intro _; rfl) : SS c (.Assign [.Name x pos'] e pos) (mSet i m) := by
  obtain ⟨ta, pa, sa⟩ := h
  refine ⟨tAsg ta (gName i), fun X g => ps_set (i := i) (by rw [g.N]; exact ndOf hN) (by rw [g.N]; exact hi) (by rw [g.sc]; exact hx) (pa X g) (hs X.env) ?_, fun σ s M H o e rel E h => ?_⟩
  · rcases hf with k | k
    · exact .inl (g.fn k x)
    · exact .inr (by rw [g.sc]; exact k)
  obtain ⟨⟨r, s1⟩, e1, e⟩ := bd e
  obtain ⟨s2, e2, e⟩ := bd e
  cases e
  refine sa σ s M H r _ e1 rel _ fun v M1 H1 k => ?_
  obtain ⟨M2, k2⟩ := put_ok k e2
  exact h _ M2 H1 k2
end
end Dm
set_option Elab.async false
set_option linter.all false
set_option maxRecDepth 100000
set_option maxHeartbeats 4000000
namespace Dm
open PySem PySem.Spec L2
set_option autoImplicit false

/-! ### targets -/
abbrev MG := D → S → Option S
def Off (ts : List Nat) (σ σ' : L2.St) : Prop := σ'.length = σ.length ∧ ∀ j, j ∉ ts → σ'[j]? = σ[j]?
theorem Off.refl {ts : List Nat} {σ : L2.St} : Off ts σ σ := ⟨rfl, fun _ _ => rfl⟩
theorem Off.trans {ts us : List Nat} {σ σ1 σ2 : L2.St} (a : Off ts σ σ1) (b : Off us σ1 σ2) : Off (ts ++ us) σ σ2 := ⟨b.1.trans a.1, fun j h => by
  rw [List.mem_append, not_or] at h
  exact (b.2 j h.2).trans (a.2 j h.1)⟩
def SoundG (K : PySem.W.Frag) (ts : List Nat) (t : TG) (g : MG) : Prop := ∀ (d : D) (v : V) (σ : L2.St) (s : S) (M H : Hp) (s' : S), g d s = some s' → Rel K M H σ s → At K M v d → ∀ Q : L2.St → Hp → Prop,
  (∀ σ' M' H', OkS K σ s M H σ' s' M' H' → Off ts σ σ' → Q σ' H') → t v σ H Q
def SG (c : Cd) (e : Expr) (ts : List Nat) (g : MG) : Prop := ∃ t : TG, (∀ X, Fits c X → PG X e t) ∧ SoundG c.K ts t g
def SoundGs (K : PySem.W.Frag) (ts : List Nat) (t : TGs) (g : List D → S → Option S) : Prop := ∀ (ds : List D) (vs : List V) (σ : L2.St) (s : S) (M H : Hp) (s' : S), g ds s = some s' → Rel K M H σ s → Ats K M vs ds → ∀ Q : L2.St → Hp → Prop,
  (∀ σ' M' H', OkS K σ s M H σ' s' M' H' → Off ts σ σ' → Q σ' H') → t vs σ H Q
def SGs (c : Cd) (es : List Expr) (ts : List Nat) (g : List D → S → Option S) : Prop := ∃ t : TGs, (∀ X, Fits c X → PGs X es t) ∧ SoundGs c.K ts t g
def gPut (i : Nat) : MG := fun d s => put i (.val d) s
def gsNil : List D → S → Option S := fun ds s => match ds with
  | [] => some s
  | _ => none
def gsCons (g : MG) (gs : List D → S → Option S) : List D → S → Option S := fun ds s => match ds with
  | d :: ds => (g d s).bind fun s1 => gs ds s1
  | [] => none
def gTupD (n : Nat) (gs : List D → S → Option S) : MG := fun d s => match d with
  | .tup ds => if ds.length = n then gs ds s else none
  | _ => none
section
variable {c : Cd} {e : Expr} {es : List Expr} {pos : Pos} {ts us : List Nat} {g : MG} {gs : List D → S → Option S}
theorem sg_name (i : Nat) {x : Str} (hN : ndB c.N = true := by rfl) (hi : c.N[i]? = some x := by rfl) (hx : Loc c.sc x := by first | exact .inl rfl | exact .inr rfl)
    (hf : c.top = true ∨ c.sc.names.lookup x = some .local := by first | exact .inr rfl | exact .inl rfl) : SG c (.Name x pos) [i] (gPut i) := by
  refine ⟨gName i, fun X g => pg_name (by rw [g.N]; exact ndOf hN) (by rw [g.N]; exact hi) (by rw [g.sc]; exact hx) ?_, fun d v σ s M H s' e rel hv Q q => ?_⟩
  · rcases hf with k | k
    · exact .inl (g.fn k x)
    · exact .inr (by rw [g.sc]; exact k)
  obtain ⟨M2, k⟩ := put_ok (σ := σ) (M := M) (H := H) (M1 := M) (H1 := H) (v := v) (.same (r := .val d) rel hv trivial) e
  exact q _ M2 H k ⟨List.length_set, fun j hj => List.getElem?_set_ne (fun z => hj (by rw [z]; exact List.mem_singleton.mpr rfl))⟩
theorem sgs_nil : SGs c [] [] gsNil := ⟨_, fun _ _ => pgs_nil, fun ds vs σ s M H s' e rel hv Q q => by
  cases hv with
  | nil => cases e; exact ⟨rfl, q σ M H (.refl rel) .refl⟩
  | cons _ _ => cases e⟩
theorem sgs_cons (h : SG c e ts g) (h' : SGs c es us gs) (hs : ∀ env, (assignEach (e :: es) env).map (·.2) = assign e env :: (assignEach es env).map (·.2) := by intro _; rfl) : SGs c (e :: es) (ts ++ us) (gsCons g gs) := by
  obtain ⟨t, p, sd⟩ := h
  obtain ⟨t', p', sd'⟩ := h'
  refine ⟨_, fun X g => pgs_cons (p X g) (p' X g) (hs X.env), fun ds vs σ s M H s' e rel hv Q q => ?_⟩
  cases hv with
  | nil => cases e
  | cons a b =>
    obtain ⟨s1, e1, e⟩ := bd e
    exact ⟨_, _, rfl, sd _ _ σ s M H s1 e1 rel a _ fun σ1 M1 H1 k1 o1 => sd' _ _ σ1 s1 M1 H1 s' e k1.rel (b.mono k1.go.up) _ fun σ2 M2 H2 k2 o2 => q σ2 M2 H2 (k1.trans k2) (o1.trans o2)⟩
theorem sg_tup {n k : Nat} (h : SGs c es ts gs) (hn : ∀ env, (assignEach es env).length = n := by intro _; rfl) (hst : ∀ env, (assignEach es env).findIdx? (·.1) = none := by intro _; rfl) : SG c (.Tuple es k pos) ts (gTupD n gs) := by
  obtain ⟨t, p, sd⟩ := h
  refine ⟨gTup c.K n t, fun X g => by have := pg_tup (X := X) (pos := pos) (k := k) g.calm (p X g) (hn X.env) (hst X.env); rw [g.K] at this; exact this, fun d v σ s M H s' e rel hv Q q => ?_⟩
  cases hv <;> try (cases e; done)
  rename_i a xs ds h1 h2
  unfold gTupD at e
  simp only at e
  split at e
  · rename_i hl
    exact ⟨a, xs, rfl, rel.le.sqT h1, by rw [h2.length]; exact hl, sd ds xs σ s M H s' e rel h2 Q q⟩
  · cases e
end
/-! ### a list of one's own is changed -/
theorem own_upd {K : PySem.W.Frag} {M H : Hp} {σ : L2.St} {s : S} {k : Nat} {p : Bool} {xs zs : List D} {l : Addr} {ws : List V} (rel : Rel K M H σ s) (h : s[k]? = some (some (Cell.own p xs))) (hl : σ[k]? = some (some (V.ref l))) (hw : Ats K M ws zs) :
    OkT K σ s M H (s.set k (some (.own p zs))) M (upd H l (.lst ws)) := by
  obtain ⟨l', vs, a, b, c, d⟩ := rel.own k p xs h
  rw [hl] at a
  cases a
  have hk : k < s.length := by
    rcases Nat.lt_or_ge k s.length with q | q
    · exact q
    · rw [List.getElem?_eq_none q] at h; cases h
  have ne : ∀ j q ys l2, j ≠ k → s[j]? = some (some (Cell.own q ys)) → σ[j]? = some (some (V.ref l2)) → l2 ≠ l := fun j q ys l2 hj h1 h2 e => by
    subst e
    exact hj (rel.inj j k q p ys xs l2 h1 h h2 hl)
  refine ⟨⟨Le.refl _, fun a o ha hn => ⟨?_, fun z => z⟩, fun a o ha => ?_, fun j q ys l2 h1 h2 => ?_, fun j ys hj => ?_⟩, ⟨by rw [List.length_set]; exact rel.len, le_updr rel.le c, fun j d' q => ?_, fun j q ys h1 => ?_, fun i j q q' ys zs' l2 h1 h2 h3 h4 => ?_⟩⟩
  · rw [upd_ne (fun e => hn ⟨k, p, xs, h, by rw [e]; exact hl⟩)]; exact ha
  · by_cases e : a = l
    · subst e; exact ⟨_, upd_same⟩
    · exact ⟨o, by rw [upd_ne e]; exact ha⟩
  · rcases set_get h1 with ⟨rfl, z⟩ | ⟨hj, z⟩
    · cases z; exact .inr ⟨j, xs, h, h2⟩
    · exact .inr ⟨j, ys, z, h2⟩
  · by_cases e : k = j
    · subst e
      rw [h] at hj
      cases hj
      exact ⟨zs, List.getElem?_set_self hk, rfl⟩
    · exact ⟨ys, by rw [List.getElem?_set_ne e]; exact hj, rfl⟩
  · rcases set_get q with ⟨_, z⟩ | ⟨hj, z⟩
    · cases z
    · exact rel.val j d' z
  · rcases set_get h1 with ⟨rfl, z⟩ | ⟨hj, z⟩
    · cases z
      exact ⟨l, ws, hl, upd_same, c, hw⟩
    · obtain ⟨l2, vs2, a2, b2, c2, d2⟩ := rel.own j q ys z
      exact ⟨l2, vs2, a2, by rw [upd_ne (ne j q ys l2 hj z a2)]; exact b2, c2, d2⟩
  · have get : ∀ m r us, (s.set k (some (Cell.own p zs)))[m]? = some (some (Cell.own r us)) → ∃ r' us', s[m]? = some (some (Cell.own r' us')) := fun m r us hm => by
      rcases set_get hm with ⟨rfl, _⟩ | ⟨_, z⟩
      · exact ⟨p, xs, h⟩
      · exact ⟨r, us, z⟩
    obtain ⟨r1, u1, g1⟩ := get i q ys h1
    obtain ⟨r2, u2, g2⟩ := get j q' zs' h2
    exact rel.inj i j r1 r2 u1 u2 l2 g1 g2 h3 h4
def ownAt (r : R) (s : S) : Option (Nat × Bool × List D) := match r with
  | .slot k => match s[k]? with
    | some (some (.own p xs)) => some (k, p, xs)
    | _ => none
  | _ => none
theorem ownAt_ok {K : PySem.W.Frag} {M H : Hp} {σ : L2.St} {s : S} {v : V} {r : R} {k : Nat} {p : Bool} {xs : List D} (rel : Rel K M H σ s) (h : Held K M H σ s v r) (e : ownAt r s = some (k, p, xs)) :
    s[k]? = some (some (Cell.own p xs)) ∧ ∃ l vs, v = .ref l ∧ σ[k]? = some (some (V.ref l)) ∧ H l = some (.lst vs) ∧ M l = none ∧ Ats K M vs xs := by
  unfold ownAt at e
  cases r with
  | val d => cases e
  | own xs => cases e
  | slot i =>
    simp only at e
    split at e
    · rename_i p' xs' q
      cases e
      obtain ⟨l, vs, a, b, c, d⟩ := rel.own k p xs q
      have hv : σ[k]? = some (some v) := h
      rw [a] at hv
      cases hv
      exact ⟨q, l, vs, rfl, a, b, c, d⟩
    · cases e
/-- x[i] = .. -/
def gSubD (mo mi : ME) : MG := fun d s => (mo s).bind fun p => (mi p.2).bind fun q => (ownAt p.1 q.2).bind fun o => (peek q.1 q.2).bind fun e => (asI e).bind fun i => (ixN o.2.2.length i).bind fun j => some (q.2.set o.1 (some (.own o.2.1 (o.2.2.set j d))))
section
variable {c : Cd} {o i e : Expr} {es : List Expr} {pos : Pos} {mo mi m : ME} {g : MG}
theorem sg_sub (ho : SE c o mo) (hi : SE c i mi) (ha : ∀ (env : Env) (v : Value), assign (.Subscript o i pos) env v = (do
      let ov ← holding [v] (eval o env)
      let iv ← holding [v, ov] (eval i env)
      standAt pos
      holding [v, ov, iv] (setItem ov iv v)
      release [v, ov, iv] []) := by intro _ _; rfl) : SG c (.Subscript o i pos) [] (gSubD mo mi) := by
  obtain ⟨to, po, so⟩ := ho
  obtain ⟨ti, pi, si⟩ := hi
  refine ⟨_, fun X g => pg_sub (po X g) (pi X g) set_list (ha X.env), fun d v σ s M H s' e rel hv Q q => ?_⟩
  obtain ⟨⟨r1, s1⟩, e1, e⟩ := bd e
  obtain ⟨⟨r2, s2⟩, e2, e⟩ := bd e
  obtain ⟨⟨k, p, xs⟩, e3, e⟩ := bd e
  obtain ⟨di, e4, e⟩ := bd e
  obtain ⟨ii, e5, e⟩ := bd e
  obtain ⟨j, e6, e⟩ := bd e
  cases e
  refine so σ s M H r1 s1 e1 rel _ fun w1 M1 H1 o1 => si σ s1 M1 H1 r2 s2 e2 o1.rel _ fun w2 M2 H2 o2 => ?_
  obtain ⟨go, hd⟩ := o1.then o2
  obtain ⟨hk, l, vs, rfl, hl, hH, hM, hats⟩ := ownAt_ok o2.rel hd e3
  have hw := asI_at (o2.held.at o2.rel e4) e5
  subst hw
  refine ⟨l, vs, ii, j, rfl, rfl, hH, by rw [hats.length]; exact e6, ?_⟩
  have fin := own_upd o2.rel hk hl (Ats.set (hv.mono go.up) j hats)
  exact q σ M2 _ (OkS.trans ⟨go, o2.rel⟩ fin.s) .refl
/-- target = e, e data that stays -/
def mAsg (m : ME) (g : MG) : MS := fun s => (m s).bind fun p => match p.1 with
  | .val d => (g d p.2).bind fun s2 => some (.nx s2)
  | _ => none
/-- swapped stores depend on the scope alone -/
theorem sw_scope {ts : List Expr} {v : Expr} {a b : Env} (h : a.scope = b.scope) : swappedStores ts v a = swappedStores ts v b := by
  cases a
  cases b
  have h : _ = _ := h
  simp only at h
  subst h
  rfl
def envAt (sc : Scope) : Env := { scope := sc, locals := 0, globals := 0, builtins := 0, cells := [], qual := "" }
theorem ss_asg {tg : Expr} {ts : List Nat} (h : SE c e m) (hg : SG c tg ts g) (hs : ∀ env, swapsWithSole [tg] e pos.line env = pure false := by intro _; rfl) (hw : swappedStores [tg] e (envAt c.sc) = pure none := by rfl)
    (h1 : ∀ env, (assignEach [tg] env).map (·.2) = [assign tg env] := by intro _; rfl) : SS c (.Assign [tg] e pos) (mAsg m g) := by
  obtain ⟨t, p, sd⟩ := h
  obtain ⟨tg', pg, sg⟩ := hg
  refine ⟨_, fun X g => ps_asg (p X g) (pg X g) (hs X.env) ((sw_scope (b := envAt c.sc) g.sc).trans hw) (h1 X.env), fun σ s M H o e rel E h => ?_⟩
  obtain ⟨⟨r, s1⟩, e1, e⟩ := bd e
  cases r with
  | own xs => cases e
  | slot i => cases e
  | val d =>
    obtain ⟨s2, e2, e⟩ := bd e
    cases e
    exact sd σ s M H _ s1 e1 rel _ fun v M1 H1 k1 => sg d v σ s1 M1 H1 s2 e2 k1.rel k1.held _ fun σ2 M2 H2 k2 _ => h σ2 M2 H2 (k1.t.s.trans k2)
/-- a, b = e, f (two local names) -/
def plain : R → Bool
  | .slot _ => false
  | _ => true
def mPar (i j : Nat) (ms : MA) : MS := fun s => (ms s).bind fun p => match p.1 with
  | [.val d, r] => if plain r then (put i (.val d) p.2).bind fun s2 => (put j r s2).bind fun s3 => some (.nx s3) else none
  | _ => none
theorem Held.put {K : PySem.W.Frag} {M H : Hp} {σ : L2.St} {s : S} {v w : V} {r : R} {d : D} {i : Nat} (h : Held K M H σ s v r) (hs : plain r = true) : Held K M H (σ.set i (some w)) (s.set i (some (.val d))) v r := by
  cases r with
  | val d => exact h
  | own xs =>
    obtain ⟨l, vs, e, h1, h2, h3, h4⟩ := h
    refine ⟨l, vs, e, h1, h2, fun ⟨j, p, ys, e1, e2⟩ => ?_, h4⟩
    rcases set_get e1 with ⟨_, z⟩ | ⟨hj, z⟩
    · cases z
    · rw [List.getElem?_set_ne (fun e => hj e.symm)] at e2
      exact h3 ⟨j, p, ys, z, e2⟩
  | slot k => cases hs
theorem put_in {i : Nat} {r : R} {s s2 : S} (e : put i r s = some s2) : i < s.length ∧ ∀ xs, s[i]? ≠ some (some (Cell.own true xs)) := by
  unfold Dm.put at e
  split at e
  · cases e
  · cases e
  · rename_i x' q0 q1'
    refine ⟨?_, fun xs z => q1' xs z⟩
    rcases Nat.lt_or_ge i s.length with hh | hh
    · exact hh
    · exact absurd (List.getElem?_eq_none hh) q0
theorem put_eq {i : Nat} {r : R} {s s2 : S} (e : put i r s = some s2) : (∀ d, r = .val d → s2 = s.set i (some (.val d))) ∧ (∀ xs, r = .own xs → s2 = s.set i (some (.own false xs))) := by
  unfold Dm.put at e
  split at e
  · cases e
  · cases e
  · refine ⟨fun d h => ?_, fun xs h => ?_⟩ <;> (subst h; cases e; rfl)
/-- put, behind other stores -/
theorem put_ok2 {K : PySem.W.Frag} {σ σ1 : L2.St} {s s1 s2 : S} {M H M1 H1 : Hp} {i : Nat} {r : R} {v : V} (k : OkS K σ s M H σ1 s1 M1 H1) (h : Held K M1 H1 σ1 s1 v r) (n : New H v r) (hr : plain r = true) (e : put i r s1 = some s2) : OkS K σ s M H (σ1.set i (some v)) s2 M1 H1 := by
  obtain ⟨hi, hp⟩ := put_in e
  obtain ⟨e1, e2⟩ := put_eq e
  cases r with
  | slot j => cases hr
  | val d =>
    rw [e1 d rfl]
    exact k.trans (put_val k.rel h hi hp)
  | own xs =>
    rw [e2 xs rfl]
    obtain ⟨rel', _⟩ := put_own k.rel h hi hp
    have hi' : i < σ1.length := by rw [← k.rel.len]; exact hi
    obtain ⟨l, e', hn⟩ := n
    subst e'
    refine ⟨⟨k.go.up, k.go.keep, k.go.there, fun j p ys l2 h1 h2 => ?_, fun j ys h => ?_⟩, rel'⟩
    · rcases set_get h1 with ⟨rfl, z⟩ | ⟨hj, z⟩
      · cases z
        rw [List.getElem?_set_self hi'] at h2
        cases h2
        exact .inl ⟨hn, rfl⟩
      · rw [List.getElem?_set_ne (fun e => hj e.symm)] at h2
        exact k.go.own j p ys l2 z h2
    · obtain ⟨zs, z1, z2⟩ := k.go.port j ys h
      have hj : j ≠ i := fun e => by subst e; exact hp zs z1
      exact ⟨zs, by rw [List.getElem?_set_ne (fun e => hj e.symm)]; exact z1, by rw [List.getElem?_set_ne (fun e => hj e.symm)]; exact z2⟩
theorem sound_par {K : PySem.W.Frag} {i j : Nat} {t : TA} {ms : MA} (sd : SoundA K t ms) : SoundS K (tPar i j t) (mPar i j ms) := fun σ s M H o e rel E h => by
  obtain ⟨⟨rs, s1⟩, e1, e⟩ := bd e
  refine sd σ s M H rs s1 e1 rel _ fun vs M1 H1 k => ?_
  simp only at e
  split at e
  · rename_i rs' d r
    split at e
    · rename_i hpl
      obtain ⟨s2, e2, e⟩ := bd e
      obtain ⟨s3, e3, e⟩ := bd e
      cases e
      obtain ⟨kg, kr, kh, kn⟩ := k
      cases kh with
      | cons h1 kh =>
        cases kh with
        | cons h2 kh =>
          cases kh
          cases kn with
          | cons n1 kn =>
            cases kn with
            | cons n2 kn =>
              rename_i v w
              refine ⟨v, w, rfl, ?_⟩
              have k1 := put_ok2 (v := v) ⟨kg, kr⟩ h1 n1 rfl e2
              have hd := (put_eq e2).1 d rfl
              subst hd
              exact h _ M1 H1 (put_ok2 k1 (h2.put hpl) n2 hpl e3)
    · cases e
  · cases e
theorem ss_par (i j : Nat) {x y : Str} {a b : Expr} {px py pt : Pos} {kt k2 : Nat} {pt2 : Pos} {ms : MA} (ha : SA c [a, b] ms)
    (hp : ∀ X : Cx, Fits c X → ∀ ta, PA X [a, b] ta → PS X (.Assign [.Tuple [.Name x px, .Name y py] kt pt] (.Tuple [a, b] k2 pt2) pos) (tPar i j ta)) :
    SS c (.Assign [.Tuple [.Name x px, .Name y py] kt pt] (.Tuple [a, b] k2 pt2) pos) (mPar i j ms) := by
  obtain ⟨t, p, sd⟩ := ha
  exact ⟨tPar i j t, fun X g => hp X g t (p X g), sound_par sd⟩
/-! ### x.append(e), x.extend(e), x.pop() -/
theorem sz_lt {n : Nat} (h : n < 100000) : n < sizeLine := Nat.lt_of_lt_of_le h (by decide)
def mApp (mo m : ME) : ME := fun s => (mo s).bind fun p => (ownAt p.1 p.2).bind fun _ => (m p.2).bind fun q => (ownAt p.1 q.2).bind fun o => match q.1 with
  | .val d => if o.2.2.length < 100000 then some (.val .non, q.2.set o.1 (some (.own o.2.1 (o.2.2 ++ [d])))) else none
  | _ => none
theorem sound_app {K : PySem.W.Frag} {to te : TE} {mo m : ME} (so : Sound K to mo) (sd : Sound K te m) : Sound K (tBM K "list" rAppend to (tCons te tNil)) (mApp mo m) := fun σ s M H r s' e rel Q q => by
  obtain ⟨⟨r1, s1⟩, e1, e⟩ := bd e
  obtain ⟨⟨k0, b0, xs0⟩, e0, e⟩ := bd e
  obtain ⟨⟨r2, s2⟩, e2, e⟩ := bd e
  obtain ⟨⟨k, b, xs⟩, e3, e⟩ := bd e
  cases r2 with
  | own xs => cases e
  | slot i => cases e
  | val d =>
    simp only at e
    split at e
    · rename_i hlen
      cases e
      refine so σ s M H r1 s1 e1 rel _ fun w1 M1 H1 o1 => ?_
      obtain ⟨_, l0, vs0, hw0, _, hH0, _, _⟩ := ownAt_ok o1.rel o1.held e0
      subst hw0
      refine ⟨Or.inl ⟨rfl, vs0, SqL.of hH0⟩, sd σ s1 M1 H1 _ s2 e2 o1.rel _ fun w2 M2 H2 o2 => ?_⟩
      obtain ⟨go, hd⟩ := o1.then o2
      obtain ⟨hk, l, vs, hw, hl, hH, hM, hats⟩ := ownAt_ok o2.rel hd e3
      cases hw
      have hd2 : At K M2 w2 d := o2.held
      refine ⟨l0, vs, w2, rfl, rfl, hH, sz_lt (by rw [hats.length]; exact hlen), ?_⟩
      have fin := own_upd o2.rel hk hl (hats.append (.one hd2))
      exact q _ M2 _ (.behind ⟨go, o2.rel⟩ ⟨fin.go, fin.rel, .non, trivial⟩)
    · cases e
theorem se_app {ob : Expr} {apos : Pos} (ho : SE c ob mo) (h : SE c e m)
    (hx : ∀ X : Cx, Fits c X → ∀ to ta, PE X ob to → PA X [e] ta → PE X (.Call (.Attribute ob "append" apos) [e] [] pos) (tBM X.K "list" rAppend to ta) := by exact fun X _ to ta p q => pe_bm PySem.F.plainAttrs_list PySem.F.slot_list_append PySem.F.type_list_append mt_append p q)
    (hs : ∀ env, starEach [e] env = (false, eval e env) :: starEach [] env := by intro _; rfl) : SE c (.Call (.Attribute ob "append" apos) [e] [] pos) (mApp mo m) := by
  obtain ⟨to, po, so⟩ := ho
  obtain ⟨t, p, sd⟩ := h
  exact ⟨tBM c.K "list" rAppend to (tCons t tNil), fun X g => by have := hx X g _ _ (po X g) (pa_cons (p X g) pa_nil (hs X.env)); rw [g.K] at this; exact this, sound_app so sd⟩
/-- x.pop() -/
def mPop (mo : ME) : ME := fun s => (mo s).bind fun p => (ownAt p.1 p.2).bind fun o => (o.2.2[o.2.2.length - 1]?).bind fun d => some (.val d, p.2.set o.1 (some (.own o.2.1 o.2.2.dropLast)))
theorem sound_pop {K : PySem.W.Frag} {to : TE} {mo : ME} (so : Sound K to mo) : Sound K (tBM0 K "list" rPop to) (mPop mo) := fun σ s M H r s' e rel Q q => by
  obtain ⟨⟨r1, s1⟩, e1, e⟩ := bd e
  obtain ⟨⟨k, b, xs⟩, e3, e⟩ := bd e
  obtain ⟨d, e4, e⟩ := bd e
  cases e
  refine so σ s M H r1 s1 e1 rel _ fun w1 M1 H1 o1 => ?_
  obtain ⟨hk, l, vs, hw, hl, hH, hM, hats⟩ := ownAt_ok o1.rel o1.held e3
  subst hw
  obtain ⟨y, hy, hya⟩ := hats.get e4
  refine ⟨Or.inl ⟨rfl, vs, SqL.of hH⟩, l, vs, y, rfl, rfl, hH, by rw [hats.length]; exact hy, ?_⟩
  have fin := own_upd o1.rel hk hl hats.dropLast
  exact q _ M1 _ (.behind o1.t ⟨fin.go, fin.rel, hya, trivial⟩)
theorem se_pop {ob : Expr} {apos : Pos} (ho : SE c ob mo)
    (hx : ∀ X : Cx, Fits c X → ∀ to, PE X ob to → PE X (.Call (.Attribute ob "pop" apos) [] [] pos) (tBM0 X.K "list" rPop to) := by exact fun X _ to p => pe_bm0 PySem.F.plainAttrs_list PySem.F.slot_list_pop PySem.F.type_list_pop mt_pop p) : SE c (.Call (.Attribute ob "pop" apos) [] [] pos) (mPop mo) := by
  obtain ⟨to, po, so⟩ := ho
  exact ⟨tBM0 c.K "list" rPop to, fun X g => by have := hx X g _ (po X g); rw [g.K] at this; exact this, sound_pop so⟩
/-- x.extend(e), e a new list -/
def mExt (mo m : ME) : ME := fun s => (mo s).bind fun p => (ownAt p.1 p.2).bind fun _ => (m p.2).bind fun q => (ownAt p.1 q.2).bind fun o => match q.1 with
  | .own ys => if o.2.2.length + ys.length ≤ 100000 then some (.val .non, q.2.set o.1 (some (.own o.2.1 (o.2.2 ++ ys)))) else none
  | _ => none
theorem sound_ext {K : PySem.W.Frag} {to te : TE} {mo m : ME} (so : Sound K to mo) (sd : Sound K te m) : Sound K (tBM K "list" rExtend to (tCons te tNil)) (mExt mo m) := fun σ s M H r s' e rel Q q => by
  obtain ⟨⟨r1, s1⟩, e1, e⟩ := bd e
  obtain ⟨⟨k0, b0, xs0⟩, e0, e⟩ := bd e
  obtain ⟨⟨r2, s2⟩, e2, e⟩ := bd e
  obtain ⟨⟨k, b, xs⟩, e3, e⟩ := bd e
  cases r2 with
  | val xs => cases e
  | slot i => cases e
  | own ys =>
    simp only at e
    split at e
    · rename_i hlen
      cases e
      refine so σ s M H r1 s1 e1 rel _ fun w1 M1 H1 o1 => ?_
      obtain ⟨_, l0, vs0, hw0, _, hH0, _, _⟩ := ownAt_ok o1.rel o1.held e0
      subst hw0
      refine ⟨Or.inl ⟨rfl, vs0, SqL.of hH0⟩, sd σ s1 M1 H1 _ s2 e2 o1.rel _ fun w2 M2 H2 o2 => ?_⟩
      obtain ⟨go, hd⟩ := o1.then o2
      obtain ⟨hk, l, vs, hw, hl, hH, hM, hats⟩ := ownAt_ok o2.rel hd e3
      cases hw
      obtain ⟨l2, ws, rfl, g1, g2, g3, g4⟩ := o2.held
      refine ⟨l0, l2, vs, ws, rfl, rfl, hH, g1, sz_of (by rw [hats.length, g4.length]; exact hlen), ?_⟩
      have fin := own_upd o2.rel hk hl (hats.append g4)
      exact q _ M2 _ (.behind ⟨go, o2.rel⟩ ⟨fin.go, fin.rel, .non, trivial⟩)
    · cases e
theorem se_ext {ob : Expr} {apos : Pos} (ho : SE c ob mo) (h : SE c e m)
    (hx : ∀ X : Cx, Fits c X → ∀ to ta, PE X ob to → PA X [e] ta → PE X (.Call (.Attribute ob "extend" apos) [e] [] pos) (tBM X.K "list" rExtend to ta) := by exact fun X _ to ta p q => pe_bm PySem.F.plainAttrs_list PySem.F.slot_list_extend PySem.F.type_list_extend mt_extend p q)
    (hs : ∀ env, starEach [e] env = (false, eval e env) :: starEach [] env := by intro _; rfl) : SE c (.Call (.Attribute ob "extend" apos) [e] [] pos) (mExt mo m) := by
  obtain ⟨to, po, so⟩ := ho
  obtain ⟨t, p, sd⟩ := h
  exact ⟨tBM c.K "list" rExtend to (tCons t tNil), fun X g => by have := hx X g _ _ (po X g) (pa_cons (p X g) pa_nil (hs X.env)); rw [g.K] at this; exact this, sound_ext so sd⟩
/-! ### x += e, x[i] += e -/
def ipD (f : Int → Int → Int) : D → D → Option D := onI fun i j => some (.int (f i j))
def mAug (i : Nat) (f : Int → Int → Int) (m : ME) : MS := fun s => match s[i]? with
  | some (some (.val (.int a))) => (m s).bind fun p => (peek p.1 p.2).bind fun d => (asI d).bind fun b => (put i (.val (.int (f a b))) p.2).bind fun s2 => some (.nx s2)
  | _ => none
theorem ss_aug (i : Nat) {x : Str} {op : Operator} {f : Int → Int → Int} {pos' : Pos} (h : SE c e m) (ho : ∀ X : Cx, PIp X op (ipI f)) (hN : ndB c.N = true := by rfl) (hi : c.N[i]? = some x := by rfl) (hx : Loc c.sc x := by first | exact .inl rfl | exact .inr rfl)
    (hf : c.top = true ∨ c.sc.names.lookup x = some .local := by first | exact .inr rfl | exact .inl rfl) : SS c (.AugAssign (.Name x pos') op e pos) (mAug i f m) := by
  obtain ⟨t, p, sd⟩ := h
  refine ⟨tAug i t (ipI f), fun X g => ps_aug (i := i) (by rw [g.N]; exact ndOf hN) (by rw [g.N]; exact hi) (by rw [g.sc]; exact hx) (p X g) (ho X) ?_, fun σ s M H o e rel E h => ?_⟩
  · rcases hf with k | k
    · exact .inl (g.fn k x)
    · exact .inr (by rw [g.sc]; exact k)
  unfold mAug at e
  split at e
  · rename_i a ha
    obtain ⟨⟨r, s1⟩, e1, e⟩ := bd e
    obtain ⟨d, e2, e⟩ := bd e
    obtain ⟨b, e3, e⟩ := bd e
    obtain ⟨s2, e4, e⟩ := bd e
    cases e
    obtain ⟨v, hv, hat⟩ := rel.val i _ ha
    cases hat
    refine ⟨.int a, hv, sd σ s M H r s1 e1 rel _ fun w M1 H1 k => ?_⟩
    refine ⟨a, b, rfl, asI_at (k.held.at k.rel e2) e3, ?_⟩
    obtain ⟨M2, k2⟩ := put_ok (v := .int (f a b)) (.behind k.t (.same (r := .val (.int (f a b))) k.rel (.int _) trivial)) e4
    exact h _ M2 H1 k2
  · cases e
theorem get_list {X : Cx} : PGet X (rIxL X.K) := fun pins s σ H o i ov iv Q I ro ri h => by
  obtain ⟨p, xs, i, z, rfl, rfl, hq, he, q⟩ := h
  cases ro
  obtain ⟨t, rfl⟩ := ri
  obtain ⟨its, r, pl, hz⟩ := I.list hq
  obtain ⟨j, h1, h2, h3, h4, h5⟩ := atI_get he
  obtain ⟨w, ew, rw'⟩ := r.get h2
  have hl := r.length
  have hn := line63
  have fin : EP X pins σ Q w s := ⟨z, H, I, rw', q⟩
  by_cases h0 : 0 ≤ i
  · have hj : i.toNat = j := by
      rw [seqIndex_of h0 h5] at h1
      exact Option.some.inj h1
    exact wpAny_getItem_list pl.isList h0 (by omega) (by rw [hj]; simpa using ew) fin
  · have hj : (i + (its.toArray.size : Int)).toNat = j := by
      rw [seqIndex_neg (by omega) h4] at h1
      rw [List.size_toArray, ← hl]
      exact Option.some.inj h1
    exact wpAny_getItem_list_neg pl.isList (by omega) (by rw [List.size_toArray] <;> omega) (by omega) (by rw [hj]; simpa using ew) fin
/-- x[i] op= e, x a list of one's own -/
def mAugS (f : Int → Int → Int) (mo mi m : ME) : MS := fun s => (mo s).bind fun p => (mi p.2).bind fun q => (ownAt p.1 q.2).bind fun o => (peek q.1 q.2).bind fun d => (asI d).bind fun i => (atI o.2.2 i).bind fun old => (asI old).bind fun a =>
  (m q.2).bind fun r => (peek r.1 r.2).bind fun e => (asI e).bind fun b => (ownAt p.1 r.2).bind fun o2 => (ixN o2.2.2.length i).bind fun j => some (.nx (r.2.set o2.1 (some (.own o2.2.1 (o2.2.2.set j (.int (f a b)))))))
theorem sound_augS {K : PySem.W.Frag} {f : Int → Int → Int} {to ti te : TE} {mo mi m : ME} (so : Sound K to mo) (si : Sound K ti mi) (sd : Sound K te m) : SoundS K (tAugS to ti te (rIxL K) (ipI f) rSetL) (mAugS f mo mi m) := fun σ s M H o e rel E h => by
  obtain ⟨⟨r1, s1⟩, e1, e⟩ := bd e
  obtain ⟨⟨r2, s2⟩, e2, e⟩ := bd e
  obtain ⟨⟨k, b, xs⟩, e3, e⟩ := bd e
  obtain ⟨d, e4, e⟩ := bd e
  obtain ⟨i, e5, e⟩ := bd e
  obtain ⟨old, e6, e⟩ := bd e
  obtain ⟨a, e7, e⟩ := bd e
  obtain ⟨⟨r3, s3⟩, e8, e⟩ := bd e
  obtain ⟨d3, e9, e⟩ := bd e
  obtain ⟨b3, e10, e⟩ := bd e
  obtain ⟨⟨k', b', xs'⟩, e11, e⟩ := bd e
  obtain ⟨j, e12, e⟩ := bd e
  cases e
  refine so σ s M H r1 s1 e1 rel _ fun w1 M1 H1 o1 => si σ s1 M1 H1 r2 s2 e2 o1.rel _ fun w2 M2 H2 o2 => ?_
  obtain ⟨go, hd⟩ := o1.then o2
  obtain ⟨hk, l, vs, rfl, hl, hH, hM, hats⟩ := ownAt_ok o2.rel hd e3
  have hw := asI_at (o2.held.at o2.rel e4) e5
  subst hw
  obtain ⟨u, hu, hua⟩ := ats_ix hats e6
  have hu2 := asI_at hua e7
  subst hu2
  refine ⟨l, vs, i, _, rfl, rfl, SqL.of hH, hu, sd σ s2 M2 H2 r3 s3 e8 o2.rel _ fun w3 M3 H3 o3 => ?_⟩
  have hw3 := asI_at (o3.held.at o3.rel e9) e10
  subst hw3
  have hd3 := hd.go o3.go o3.rel
  obtain ⟨hk', l', vs', hw', hl', hH', hM', hats'⟩ := ownAt_ok o3.rel hd3 e11
  cases hw'
  refine ⟨a, b3, rfl, rfl, l, vs', i, j, rfl, rfl, hH', by rw [hats'.length]; exact e12, ?_⟩
  have fin := own_upd o3.rel hk' hl' (Ats.set (.int (f a b3)) j hats')
  exact h σ M3 _ (OkS.trans ⟨go.trans o3.go, o3.rel⟩ fin.s)
theorem ss_augS {op : Operator} {f : Int → Int → Int} {tpos : Pos} {mo mi : ME} (hso : SE c o mo) (hsi : SE c i mi) (h : SE c e m) (ho : ∀ X : Cx, PIp X op (ipI f))
    (ha : ∀ ov iv new, augStore i ov iv new = (do holding [new, ov, iv] (setItem ov iv new); release [new, ov, iv] []; pure .next) := by intros; rfl) : SS c (.AugAssign (.Subscript o i tpos) op e pos) (mAugS f mo mi m) := by
  obtain ⟨to, po, so⟩ := hso
  obtain ⟨ti, pi, si⟩ := hsi
  obtain ⟨t, p, sd⟩ := h
  exact ⟨_, fun X g => by have := get_list (X := X); rw [g.K] at this; exact ps_augS (po X g) (pi X g) this (p X g) (ho X) set_list ha, sound_augS so si sd⟩
end
end Dm
set_option Elab.async false
set_option linter.all false
set_option maxRecDepth 100000
set_option maxHeartbeats 4000000
namespace Dm
open PySem PySem.Spec L2
set_option autoImplicit false

/-! ### what is walked -/
/-- an item of a walk: as it stands, or a new tuple of what stands -/
def Yl (K : PySem.W.Frag) (M H : Hp) (x : V) (H' : Hp) (d : D) : Prop :=
  (H' = H ∧ At K M x d) ∨ (∃ T vs ds, x = V.ref T ∧ H T = none ∧ H' = upd H T (.tup vs) ∧ d = D.tup ds ∧ Ats K M vs ds)
structure Walk (K : PySem.W.Frag) (M : Hp) (J : It) (xs : List D) : Prop where
  go : ∀ i H, Le M H → i < xs.length → J.go i H
  yld : ∀ i H x H', Le M H → i < xs.length → J.yld i H x H' → ∃ d, xs[i]? = some d ∧ Yl K M H x H' d
  stop : ∀ i H, Le M H → xs.length ≤ i → J.stop i H
abbrev MI := S → Option (List D × S)
def SoundI (K : PySem.W.Frag) (wi : TI) (m : MI) : Prop := ∀ (σ : L2.St) (s : S) (M H : Hp) (xs : List D) (s' : S), m s = some (xs, s') → Rel K M H σ s → ∀ R : It → Hp → Prop, (∀ J M' H', OkT K σ s M H s' M' H' → Walk K M' J xs → R J H') → wi σ H R
def SI (c : Cd) (tg e : Expr) (m : MI) : Prop := ∃ t : TI, (∀ X, Fits c X → PI X tg e t) ∧ SoundI c.K t m
/-- the item taken -/
theorem yl_ok {K : PySem.W.Frag} {M0 M H H' : Hp} {σ : L2.St} {s : S} {x : V} {d : D} (rel : Rel K M H σ s) (h0 : Le M0 M) (y : Yl K M0 H x H' d) : ∃ M', OkT K σ s M H s M' H' ∧ At K M' x d := by
  rcases y with ⟨rfl, h⟩ | ⟨T, vs, ds, rfl, hT, rfl, rfl, h⟩
  · exact ⟨M, .refl rel, h.mono h0⟩
  · have o := ok_tup rel hT (h.mono h0)
    exact ⟨_, o.t, o.held⟩
/-! lists, tuples -/
def iSeq (K : PySem.W.Frag) (tl : TE) : TI := fun σ H R => tl σ H fun x H1 => ∃ a, x = V.ref a ∧ (((∃ xs, SqL K H1 a xs) ∧ R (Itl K a) H1) ∨ ((∃ xs, SqT K H1 a xs) ∧ R (Itt K a) H1))
theorem pi_seq {X : Cx} {tg l : Expr} {tl : TE} (hl : PE X l tl) : PI X tg l (iSeq X.K tl) := by
  refine ⟨fun pins s σ H R I h => ?_⟩
  refine thn (hl.run pins s σ H _ I h) fun v s1 ⟨x, H1, I1, r1, q1⟩ => ?_
  obtain ⟨a, e, q1⟩ := q1
  subst e
  cases r1
  rcases q1 with ⟨⟨xs, hq⟩, q⟩ | ⟨⟨xs, hq⟩, q⟩
  · obtain ⟨its, rv, p, hz⟩ := I1.list hq
    refine wpAny_pyIter_list p.isList ?_
    refine ⟨s1.heap.objs.size, [s1.heap.objs.size], _, _, H1, rfl, I1.kept (t' := s1.toks) fun b o e => Heap.get?_push_of_some _ e, turn_list a _, ⟨_, Heap.get?_push_size _ rfl, rfl, rfl⟩, fun b hb => ?_, q⟩
    have e : b = s1.heap.objs.size := by simpa using hb
    subst e
    exact I1.fpOk (Nat.le_refl _) (I1.hok.fresh (Nat.le_refl _))
  · obtain ⟨its, rv, p, hz⟩ := I1.tuple hq
    refine wpAny_pyIter_tuple (show s1.heap.IsTuple a its.toArray from p) ?_
    refine ⟨s1.heap.objs.size, [s1.heap.objs.size], _, _, H1, rfl, I1.kept (t' := s1.toks) fun b o e => Heap.get?_push_of_some _ e, turn_tuple a _, ⟨_, Heap.get?_push_size _ rfl, rfl, rfl⟩, fun b hb => ?_, q⟩
    have e : b = s1.heap.objs.size := by simpa using hb
    subst e
    exact I1.fpOk (Nat.le_refl _) (I1.hok.fresh (Nat.le_refl _))
theorem walk_list {K : PySem.W.Frag} {M : Hp} {a : Addr} {vs : List V} {xs : List D} (h : SqL K M a vs) (q : Ats K M vs xs) : Walk K M (Itl K a) xs where
  go := fun i H le hi => ⟨vs, vs[i]'(by rw [q.length]; exact hi), le.sqL h, List.getElem?_eq_getElem _⟩
  yld := fun i H x H' le hi y => by
    obtain ⟨e, y⟩ := y
    obtain ⟨d, a1, a2⟩ := q.getV (y vs (le.sqL h))
    exact ⟨d, a1, .inl ⟨e, a2⟩⟩
  stop := fun i H le hi => ⟨vs, le.sqL h, by rw [q.length]; exact hi⟩
theorem walk_tup {K : PySem.W.Frag} {M : Hp} {a : Addr} {vs : List V} {xs : List D} (h : SqT K M a vs) (q : Ats K M vs xs) : Walk K M (Itt K a) xs where
  go := fun i H le hi => ⟨vs, vs[i]'(by rw [q.length]; exact hi), le.sqT h, List.getElem?_eq_getElem _⟩
  yld := fun i H x H' le hi y => by
    obtain ⟨e, y⟩ := y
    obtain ⟨d, a1, a2⟩ := q.getV (y vs (le.sqT h))
    exact ⟨d, a1, .inl ⟨e, a2⟩⟩
  stop := fun i H le hi => ⟨vs, le.sqT h, by rw [q.length]; exact hi⟩
/-- over data that stays -/
def mSeqI (m : ME) : MI := fun s => (m s).bind fun p => (frz p.1 p.2).bind fun q => (seqD q.1).bind fun xs => some (xs, q.2)
section
variable {c : Cd} {tg e a b : Expr} {es : List Expr} {p pos : Pos} {m : ME} {ms : MA}
theorem si_seq (h : SE c e m) : SI c tg e (mSeqI m) := by
  obtain ⟨t, p, sd⟩ := h
  refine ⟨iSeq c.K t, fun X g => by have := pi_seq (tg := tg) (p X g); rw [g.K] at this; exact this, fun σ s M H xs s' e rel R q => ?_⟩
  obtain ⟨⟨r1, s1⟩, e1, e⟩ := bd e
  obtain ⟨⟨d, s2⟩, e2, e⟩ := bd e
  obtain ⟨zs, e3, e⟩ := bd e
  cases e
  refine sd σ s M H r1 s1 e1 rel _ fun v M1 H1 k => ?_
  obtain ⟨M2, k2⟩ := frz_ok k e2
  have ha : At c.K M2 v d := k2.held
  cases d <;> try (cases e3; done)
  · cases e3
    cases ha with
    | tup h1 h2 => exact ⟨_, rfl, .inr ⟨⟨_, k2.rel.le.sqT h1⟩, q _ M2 H1 k2.t (walk_tup h1 h2)⟩⟩
  · cases e3
    cases ha with
    | lst h1 h2 => exact ⟨_, rfl, .inl ⟨⟨_, k2.rel.le.sqL h1⟩, q _ M2 H1 k2.t (walk_list h1 h2)⟩⟩
/-! ranges -/
def rgD (lo : Int) (n : Nat) (c : Int) : List D := (List.range n).map fun i => D.int (lo + (i : Nat) * c)
theorem rgD_length (lo c : Int) (n : Nat) : (rgD lo n c).length = n := by unfold rgD; rw [List.length_map, List.length_range]
theorem rgD_get (lo c : Int) (n i : Nat) (h : i < n) : (rgD lo n c)[i]? = some (D.int (lo + (i : Nat) * c)) := by
  unfold rgD
  rw [List.getElem?_map, List.getElem?_range h]; rfl
theorem walk_r {K : PySem.W.Frag} {M : Hp} {lo : Int} {n : Nat} : Walk K M (Itr lo n) (rgD lo n 1) where
  go := fun i H le hi => by rw [rgD_length] at hi; exact hi
  yld := fun i H x H' le hi y => by
    rw [rgD_length] at hi
    obtain ⟨e, y⟩ := y
    subst y
    exact ⟨_, rgD_get lo 1 n i hi, .inl ⟨e, by rw [Int.mul_one]; exact .int _⟩⟩
  stop := fun i H le hi => by rw [rgD_length] at hi; exact hi
theorem walk_c {K : PySem.W.Frag} {M : Hp} {lo c : Int} {n : Nat} : Walk K M (Itc lo c n) (rgD lo n c) where
  go := fun i H le hi => by rw [rgD_length] at hi; exact hi
  yld := fun i H x H' le hi y => by
    rw [rgD_length] at hi
    obtain ⟨e, y⟩ := y
    subst y
    exact ⟨_, rgD_get lo c n i hi, .inl ⟨e, .int _⟩⟩
  stop := fun i H le hi => by rw [rgD_length] at hi; exact hi
def small (i : Int) : Bool := decide (-1000000000 ≤ i) && decide (i ≤ 1000000000)
theorem small_ok {i : Int} (h : small i = true) : -(2 ^ 62) ≤ i ∧ i < 2 ^ 62 := by
  unfold small at h
  rw [Bool.and_eq_true, decide_eq_true_eq, decide_eq_true_eq] at h
  omega
abbrev FR := List D → Option (Int × Nat × Int)
def fRg1 : FR
  | [.int j] => if small j then some (0, j.toNat, 1) else none
  | _ => none
def fRg2 : FR
  | [.int i, .int j] => if small i && small j then some (i, (j - i).toNat, 1) else none
  | _ => none
/-- down by one -/
def fRg3 : FR
  | [.int i, .int j, .int c] => if small i && small j && decide (c = -1) then some (i, (i - j).toNat, -1) else none
  | _ => none
def mRng (f : FR) (ms : MA) : MI := fun s => (ms s).bind fun p => (peeks p.1 p.2).bind fun ds => (f ds).bind fun r => some (rgD r.1 r.2.1 r.2.2, p.2)
theorem sound_rng1 {K : PySem.W.Frag} {ta : TA} (sa : SoundA K ta ms) : SoundI K (iRng1 ta) (mRng fRg1 ms) := fun σ s M H xs s' e rel RR q => by
  obtain ⟨⟨rs, s1⟩, e1, e⟩ := bd e
  obtain ⟨ds, e2, e⟩ := bd e
  obtain ⟨z, e3, e⟩ := bd e
  cases e
  refine sa σ s M H rs _ e1 rel _ fun vs M1 H1 o => ?_
  have hats := o.held.ats o.rel e2
  unfold fRg1 at e3
  split at e3
  · split at e3
    · rename_i j hs
      cases e3
      obtain ⟨b1, b2⟩ := small_ok hs
      exact ⟨_, atsI1 hats, b1, b2, q _ M1 H1 o.t walk_r⟩
    · cases e3
  · cases e3
theorem sound_rng2 {K : PySem.W.Frag} {ta : TA} (sa : SoundA K ta ms) : SoundI K (iRng2 ta) (mRng fRg2 ms) := fun σ s M H xs s' e rel RR q => by
  obtain ⟨⟨rs, s1⟩, e1, e⟩ := bd e
  obtain ⟨ds, e2, e⟩ := bd e
  obtain ⟨z, e3, e⟩ := bd e
  cases e
  refine sa σ s M H rs _ e1 rel _ fun vs M1 H1 o => ?_
  have hats := o.held.ats o.rel e2
  unfold fRg2 at e3
  split at e3
  · split at e3
    · rename_i i j hs
      cases e3
      rw [Bool.and_eq_true] at hs
      obtain ⟨b1, b2⟩ := small_ok hs.1
      obtain ⟨b3, b4⟩ := small_ok hs.2
      exact ⟨_, _, atsI2 hats, ⟨b1, b2, b3, b4⟩, q _ M1 H1 o.t walk_r⟩
    · cases e3
  · cases e3
theorem atsI3 {K : PySem.W.Frag} {H : Hp} {vs : List V} {i j k : Int} (h : Ats K H vs [.int i, .int j, .int k]) : vs = [.int i, .int j, .int k] := by
  cases h with
  | cons a b =>
    cases a
    rw [atsI2 b]
theorem sound_rng3 {K : PySem.W.Frag} {ta : TA} (sa : SoundA K ta ms) : SoundI K (iRng3 ta) (mRng fRg3 ms) := fun σ s M H xs s' e rel RR q => by
  obtain ⟨⟨rs, s1⟩, e1, e⟩ := bd e
  obtain ⟨ds, e2, e⟩ := bd e
  obtain ⟨z, e3, e⟩ := bd e
  cases e
  refine sa σ s M H rs _ e1 rel _ fun vs M1 H1 o => ?_
  have hats := o.held.ats o.rel e2
  unfold fRg3 at e3
  split at e3
  · split at e3
    · rename_i i j k hs
      cases e3
      rw [Bool.and_eq_true, Bool.and_eq_true, decide_eq_true_eq] at hs
      obtain ⟨b1, b2⟩ := small_ok hs.1.1
      obtain ⟨b3, b4⟩ := small_ok hs.1.2
      have hk := hs.2
      subst hk
      exact ⟨_, _, _, _, atsI3 hats, RgC.neg b1 b2 b3 b4, q _ M1 H1 o.t walk_c⟩
    · cases e3
  · cases e3
theorem si_rng1 (hg : ∀ X : Cx, Fits c X → Gl X "range") (hm : c.mg "range" = none) (ha : SA c [a] ms) (hs : ∀ env, starEach [a] env = [(false, eval a env)] := by intro _; rfl) : SI c tg (.Call (.Name "range" p) [a] [] pos) (mRng fRg1 ms) := by
  obtain ⟨t, pa, sd⟩ := ha
  exact ⟨_, fun X g => pi_range1 (hg X g) (by rw [g.mg]; exact hm) (pa X g) (hs X.env), sound_rng1 sd⟩
theorem si_rng2 (hg : ∀ X : Cx, Fits c X → Gl X "range") (hm : c.mg "range" = none) (ha : SA c [a, b] ms) (hs : ∀ env, starEach [a, b] env = [(false, eval a env), (false, eval b env)] := by intro _; rfl) (hs2 : ∀ env, starEach [b] env = [(false, eval b env)] := by intro _; rfl) :
    SI c tg (.Call (.Name "range" p) [a, b] [] pos) (mRng fRg2 ms) := by
  obtain ⟨t, pa, sd⟩ := ha
  exact ⟨_, fun X g => pi_range2 (hg X g) (by rw [g.mg]; exact hm) (pa X g) (hs X.env) (hs2 X.env), sound_rng2 sd⟩
theorem si_rng3 {a3 : Expr} (hg : ∀ X : Cx, Fits c X → Gl X "range") (hm : c.mg "range" = none) (ha : SA c [a, b, a3] ms) (hs : ∀ env, starEach [a, b, a3] env = (false, eval a env) :: starEach [b, a3] env := by intro _; rfl) (hpl : ∀ env, (backTo pos (starEach [b, a3] env)).any (·.1) = false := by intro _; rfl) :
    SI c tg (.Call (.Name "range" p) [a, b, a3] [] pos) (mRng fRg3 ms) := by
  obtain ⟨t, pa, sd⟩ := ha
  exact ⟨_, fun X g => pi_range3 (hg X g) (by rw [g.mg]; exact hm) (pa X g) (hs X.env) (hpl X.env), sound_rng3 sd⟩
/-! enumerate(list that stays), zip -/
def enD (xs : List D) : List D := (List.range xs.length).map fun i => D.tup [.int (i : Nat), xs.getD i .non]
theorem enD_length (xs : List D) : (enD xs).length = xs.length := by unfold enD; rw [List.length_map, List.length_range]
theorem walk_en {K : PySem.W.Frag} {M : Hp} {a : Addr} {vs : List V} {xs : List D} (h : SqL K M a vs) (q : Ats K M vs xs) : Walk K M (Ite K a) (enD xs) where
  go := fun i H le hi => ⟨vs, vs[i]'(by rw [q.length]; rw [enD_length] at hi; exact hi), le.sqL h, List.getElem?_eq_getElem _⟩
  yld := fun i H x H' le hi y => by
    rw [enD_length] at hi
    obtain ⟨T, z, e1, e2, e3, y⟩ := y
    obtain ⟨d, a1, a2⟩ := q.getV (y vs (le.sqL h))
    refine ⟨.tup [.int (i : Nat), d], ?_, .inr ⟨T, _, _, e1, e2, e3, rfl, .cons (.int _) (.cons a2 .nil)⟩⟩
    unfold enD
    rw [List.getElem?_map, List.getElem?_range hi]
    show some (D.tup [.int (i : Nat), xs.getD i .non]) = _
    rw [List.getD_eq_getElem?_getD, a1]; rfl
  stop := fun i H le hi => ⟨vs, le.sqL h, by rw [q.length]; rw [enD_length] at hi; exact hi⟩
def mEnum (m : ME) : MI := fun s => (m s).bind fun p => (frz p.1 p.2).bind fun q => match q.1 with
  | .lst xs => some (enD xs, q.2)
  | _ => none
theorem si_enum {elts : List Expr} {kk : Nat} {tpos : Pos} (hg : ∀ X : Cx, Fits c X → Gl X "enumerate") (hm : c.mg "enumerate" = none) (h : SE c e m) (hs : ∀ env, starEach [e] env = [(false, eval e env)] := by intro _; rfl) (hs1 : ∀ env, starEach [e] env = (false, eval e env) :: starEach [] env := by intro _; rfl) :
    SI c (.Tuple elts kk tpos) (.Call (.Name "enumerate" p) [e] [] pos) (mEnum m) := by
  obtain ⟨t, pe, sd⟩ := h
  refine ⟨iEnum c.K (tCons t tNil), fun X g => by have := pi_enum (X := X) (elts := elts) (kk := kk) (tpos := tpos) (p := p) (pos := pos) (hg X g) (by rw [g.mg]; exact hm) (pa_cons (pe X g) pa_nil (hs1 X.env)) (hs X.env); rw [g.K] at this; exact this, fun σ s M H xs s' e rel RR q => ?_⟩
  obtain ⟨⟨r1, s1⟩, e1, e⟩ := bd e
  obtain ⟨⟨d, s2⟩, e2, e⟩ := bd e
  cases d <;> try (cases e; done)
  rename_i zs
  cases e
  refine sd σ s M H r1 s1 e1 rel _ fun v M1 H1 k => ?_
  obtain ⟨M2, k2⟩ := frz_ok k e2
  have ha : At c.K M2 v (.lst zs) := k2.held
  cases ha with
  | lst h1 h2 => exact ⟨_, _, rfl, k2.rel.le.sqL h1, q _ M2 H1 k2.t (walk_en h1 h2)⟩
/-- the pairs, as many as the shorter one has -/
def zpD (xs ys : List D) : List D := List.zipWith (fun x y => D.tup [x, y]) xs ys
theorem zpD_get {xs ys : List D} {i : Nat} {x y : D} (h1 : xs[i]? = some x) (h2 : ys[i]? = some y) : (zpD xs ys)[i]? = some (.tup [x, y]) := by
  unfold zpD
  rw [List.getElem?_zipWith, h1, h2]
theorem zpD_length (xs ys : List D) : (zpD xs ys).length = min xs.length ys.length := by unfold zpD; rw [List.length_zipWith]
theorem walk_zpT {K : PySem.W.Frag} {M : Hp} {a b : Addr} {vs ws : List V} {xs ys : List D} (h : SqT K M a vs) (h' : SqT K M b ws) (q : Ats K M vs xs) (q' : Ats K M ws ys) : Walk K M (RZ.ItzT K a b) (zpD xs ys) where
  go := fun i H le hi => by
    rw [zpD_length, Nat.lt_min] at hi
    exact ⟨vs, ws, vs[i]'(by rw [q.length]; exact hi.1), ws[i]'(by rw [q'.length]; exact hi.2), le.sqT h, le.sqT h', List.getElem?_eq_getElem _, List.getElem?_eq_getElem _⟩
  yld := fun i H x H' le hi y => by
    obtain ⟨T, z, z', e1, e2, e3, y1, y2⟩ := y
    obtain ⟨d, a1, a2⟩ := q.getV (y1 vs (le.sqT h))
    obtain ⟨d', b1, b2⟩ := q'.getV (y2 ws (le.sqT h'))
    exact ⟨_, zpD_get a1 b1, .inr ⟨T, _, _, e1, e2, e3, rfl, .cons a2 (.cons b2 .nil)⟩⟩
  stop := fun i H le hi => ⟨vs, ws, le.sqT h, le.sqT h', by rw [q.length, q'.length]; rw [zpD_length] at hi; omega⟩
theorem walk_zpL {K : PySem.W.Frag} {M : Hp} {a b : Addr} {vs ws : List V} {xs ys : List D} (h : SqL K M a vs) (h' : SqL K M b ws) (q : Ats K M vs xs) (q' : Ats K M ws ys) : Walk K M (Itz K a b) (zpD xs ys) where
  go := fun i H le hi => by
    rw [zpD_length, Nat.lt_min] at hi
    exact ⟨vs, ws, vs[i]'(by rw [q.length]; exact hi.1), ws[i]'(by rw [q'.length]; exact hi.2), le.sqL h, le.sqL h', List.getElem?_eq_getElem _, List.getElem?_eq_getElem _⟩
  yld := fun i H x H' le hi y => by
    obtain ⟨T, z, z', e1, e2, e3, y1, y2⟩ := y
    obtain ⟨d, a1, a2⟩ := q.getV (y1 vs (le.sqL h))
    obtain ⟨d', b1, b2⟩ := q'.getV (y2 ws (le.sqL h'))
    exact ⟨_, zpD_get a1 b1, .inr ⟨T, _, _, e1, e2, e3, rfl, .cons a2 (.cons b2 .nil)⟩⟩
  stop := fun i H le hi => ⟨vs, ws, le.sqL h, le.sqL h', by rw [q.length, q'.length]; rw [zpD_length] at hi; omega⟩
/-- both arguments data that stays (se_frz) -/
def mZip (ms : MA) : MI := fun s => (ms s).bind fun p => match p.1 with
  | [.val (.tup xs), .val (.tup ys)] => some (zpD xs ys, p.2)
  | [.val (.lst xs), .val (.lst ys)] => some (zpD xs ys, p.2)
  | _ => none
theorem si_zip {elts : List Expr} {kk : Nat} {tpos : Pos} (hg : ∀ X : Cx, Fits c X → Gl X "zip") (hm : c.mg "zip" = none) (ha : SA c [a, b] ms)
    (hs : ∀ env, starEach [a, b] env = (false, eval a env) :: starEach [b] env := by intro _; rfl) (hpl : ∀ env, (backTo pos (starEach [b] env)).any (·.1) = false := by intro _; rfl) :
    SI c (.Tuple elts kk tpos) (.Call (.Name "zip" p) [a, b] [] pos) (mZip ms) := by
  obtain ⟨t, pa, sd⟩ := ha
  refine ⟨RZ.iZipA c.K t, fun X g => by have := RZ.pi_zipA (X := X) (elts := elts) (kk := kk) (tpos := tpos) (p := p) (pos := pos) (hg X g) (by rw [g.mg]; exact hm) (pa X g) (hs X.env) (hpl X.env); rw [g.K] at this; exact this, fun σ s M H xs s' e rel RR q => ?_⟩
  obtain ⟨⟨rs, s1⟩, e1, e⟩ := bd e
  refine sd σ s M H rs s1 e1 rel _ fun vs M1 H1 k => ?_
  simp only at e
  split at e
  · cases e
    obtain ⟨kg, kr, kh, kn⟩ := k
    cases kh with
    | cons h1 kh =>
      cases kh with
      | cons h2 kh =>
        cases kh
        cases h1 with
        | tup a1 a2 =>
          cases h2 with
          | tup b1 b2 => exact ⟨_, _, _, _, rfl, .inr ⟨kr.le.sqT a1, kr.le.sqT b1, q _ M1 H1 ⟨kg, kr⟩ (walk_zpT a1 b1 a2 b2)⟩⟩
  · cases e
    obtain ⟨kg, kr, kh, kn⟩ := k
    cases kh with
    | cons h1 kh =>
      cases kh with
      | cons h2 kh =>
        cases kh
        cases h1 with
        | lst a1 a2 =>
          cases h2 with
          | lst b1 b2 => exact ⟨_, _, _, _, rfl, .inl ⟨kr.le.sqL a1, kr.le.sqL b1, q _ M1 H1 ⟨kg, kr⟩ (walk_zpL a1 b1 a2 b2)⟩⟩
  · cases e
end
end Dm
set_option Elab.async false
set_option linter.all false
set_option maxRecDepth 100000
set_option maxHeartbeats 4000000
namespace Dm
open PySem PySem.Spec L2
set_option autoImplicit false

/-! ### for, while -/
def loop (g : MG) (b : MS) : List D → S → Option O
  | [], s => some (.nx s)
  | d :: ds, s => (g d s).bind fun s1 => (b s1).bind fun o => match o with
    | .nx s2 => loop g b ds s2
    | .ct s2 => loop g b ds s2
    | .bk s2 => some (.nx s2)
    | .rt r s2 => some (.rt r s2)
def mFor (mi : MI) (g : MG) (b : MS) : MS := fun s => (mi s).bind fun p => loop g b p.1 p.2
theorem sound_for {K : PySem.W.Frag} {wi : TI} {tg : TG} {tb : TS} {mi : MI} {ts : List Nat} {g : MG} {b : MS} (hi : SoundI K wi mi) (hg : SoundG K ts tg g) (hb : SoundS K tb b) : SoundS K (tFor wi tg tb) (mFor mi g b) := fun σ s M H o e rel E h => by
  obtain ⟨⟨xs, s1⟩, e1, e⟩ := bd e
  refine hi σ s M H xs s1 e1 rel _ fun J M1 H1 k1 W => ?_
  refine ⟨fun i m σ2 H2 => m = xs.length - i ∧ i ≤ xs.length ∧ ∃ s2 M2, OkS K σ s M H σ2 s2 M2 H2 ∧ Le M1 M2 ∧ loop g b (xs.drop i) s2 = some o, ⟨xs.length, by simp, Nat.zero_le _, s1, M1, k1.s, Le.refl _, by simpa using e⟩, fun i m σ2 H2 hw => ?_⟩
  obtain ⟨rfl, hil, s2, M2, k2, le2, e2⟩ := hw
  by_cases hlt : i < xs.length
  · refine .inr ⟨W.go i H2 (le2.trans k2.rel.le) hlt, fun σ' H' => ∃ s3 M3, OkS K σ s M H σ' s3 M3 H' ∧ Le M1 M3 ∧ loop g b (xs.drop (i + 1)) s3 = some o, fun σ' H' hn => ⟨xs.length - (i + 1), by omega, rfl, by omega, hn⟩, fun x H' hy => ?_⟩
    obtain ⟨d, hd, y⟩ := W.yld i H2 x H' (le2.trans k2.rel.le) hlt hy
    rw [List.drop_eq_getElem_cons hlt] at e2
    have hd' : xs[i] = d := by rw [List.getElem?_eq_getElem hlt] at hd; exact Option.some.inj hd
    rw [hd'] at e2
    obtain ⟨s3, e3, e2⟩ := bd e2
    obtain ⟨o3, e4, e2⟩ := bd e2
    obtain ⟨M3, k3, hat⟩ := yl_ok k2.rel le2 y
    have k23 := k2.trans k3.s
    refine hg d x σ2 s2 M3 H' s3 e3 k3.rel hat _ fun σ4 M4 H4 k4 _ => ?_
    have k24 := k23.trans k4
    have le4 : Le M1 M4 := le2.trans (k3.go.up.trans k4.go.up)
    refine hb σ4 s3 M4 H4 o3 e4 k4.rel _ ?_
    cases o3 with
    | nx s5 => exact fun σ5 M5 H5 k5 => ⟨s5, M5, k24.trans k5, le4.trans k5.go.up, e2⟩
    | ct s5 => exact fun σ5 M5 H5 k5 => ⟨s5, M5, k24.trans k5, le4.trans k5.go.up, e2⟩
    | bk s5 => cases e2; exact fun σ5 M5 H5 k5 => h σ5 M5 H5 (k24.trans k5)
    | rt r s5 => cases e2; exact fun v σ5 M5 H5 k5 q => h v σ5 M5 H5 (k24.trans k5) (q.go k24.go)
  · have ei : xs.drop i = [] := List.drop_eq_nil_of_le (by omega)
    rw [ei] at e2
    cases e2
    exact .inl ⟨W.stop i H2 (le2.trans k2.rel.le) (by omega), h σ2 M2 H2 k2⟩
section
variable {c : Cd} {tg e : Expr} {pos : Pos} {mi : MI} {ts : List Nat} {g : MG} {b : MS} {t : MT} {body : List Stmt}
theorem ss_for (hi : SI c tg e mi) (hg : SG c tg ts g) (hb : SSs c body b) (hs : ∀ env x, foldedSetIterable e env x = pure x := by intro _ _; rfl) : SS c (.For tg e body [] pos) (mFor mi g b) := by
  obtain ⟨ti, pi, si⟩ := hi
  obtain ⟨tg', pg, sg⟩ := hg
  obtain ⟨tb, pb, sb⟩ := hb
  exact ⟨_, fun X g => ps_for g.own g.calm (pi X g) (pg X g) (pb X g) (hs X.env), sound_for si sg sb⟩
def whil (t : MT) (b : MS) : Nat → S → Option O
  | 0, _ => none
  | n + 1, s => (t s).bind fun p => if p.1 then (b p.2).bind fun o => match o with
      | .nx s2 => whil t b n s2
      | .ct s2 => whil t b n s2
      | .bk s2 => some (.nx s2)
      | .rt r s2 => some (.rt r s2)
    else some (.nx p.2)
def mWhile (f : S → Nat) (t : MT) (b : MS) : MS := fun s => whil t b (f s) s
theorem sound_while {K : PySem.W.Frag} {tc : TT} {tb : TS} {f : S → Nat} {t : MT} {b : MS} (ht : SoundT K tc t) (hb : SoundS K tb b) : SoundS K (tWhile tc tb) (mWhile f t b) := fun σ s M H o e rel E h => by
  refine ⟨fun m σ2 H2 => ∃ s2 M2, OkS K σ s M H σ2 s2 M2 H2 ∧ whil t b m s2 = some o, ⟨f s, s, M, .refl rel, e⟩, fun m σ2 H2 hw => ?_⟩
  obtain ⟨s2, M2, k2, e2⟩ := hw
  cases m with
  | zero => cases e2
  | succ m =>
    obtain ⟨⟨k, s3⟩, e3, e2⟩ := bd e2
    refine ht σ2 s2 M2 H2 k s3 e3 k2.rel _ fun M3 H3 k3 => ?_
    have k23 := k2.trans k3.s
    cases k with
    | true =>
      obtain ⟨o3, e4, e2⟩ := bd e2
      refine ⟨fun σ' H' => ∃ s4 M4, OkS K σ s M H σ' s4 M4 H' ∧ whil t b m s4 = some o, fun σ' H' hn => ⟨m, Nat.lt_succ_self _, hn⟩, hb σ2 s3 M3 H3 o3 e4 k3.rel _ ?_⟩
      cases o3 with
      | nx s5 => exact fun σ5 M5 H5 k5 => ⟨s5, M5, k23.trans k5, e2⟩
      | ct s5 => exact fun σ5 M5 H5 k5 => ⟨s5, M5, k23.trans k5, e2⟩
      | bk s5 => cases e2; exact fun σ5 M5 H5 k5 => h σ5 M5 H5 (k23.trans k5)
      | rt r s5 => cases e2; exact fun v σ5 M5 H5 k5 q => h v σ5 M5 H5 (k23.trans k5) (q.go k23.go)
    | false =>
      cases e2
      exact h σ2 M3 H3 k23
theorem ss_while (f : S → Nat) (ht : ST c e t) (hb : SSs c body b) : SS c (.While e body [] pos) (mWhile f t b) := by
  obtain ⟨tt, pt, st⟩ := ht
  obtain ⟨tb, pb, sb⟩ := hb
  exact ⟨_, fun X g => ps_while g.own (pt X g) (pb X g), sound_while st sb⟩
end

/-! ### [e for x in xs if t] -/
def wipeS (s : S) : List Nat → S
  | [] => s
  | v :: vs => (wipeS s vs).set v none
theorem wipeS_length (s : S) : ∀ vs : List Nat, (wipeS s vs).length = s.length
  | [] => rfl
  | v :: vs => by unfold wipeS; rw [List.length_set, wipeS_length s vs]
theorem wipeS_get (s : S) (i : Nat) : ∀ vs : List Nat, i ∉ vs → (wipeS s vs)[i]? = s[i]?
  | [], _ => rfl
  | v :: vs, h => by
    rw [List.mem_cons, not_or] at h
    unfold wipeS
    rw [List.getElem?_set_ne (fun e => h.1 e.symm), wipeS_get s i vs h.2]
theorem wipeS_mem (s : S) (i : Nat) : ∀ vs : List Nat, i ∈ vs → ∀ cl, (wipeS s vs)[i]? ≠ some (some cl)
  | [], h, _ => by cases h
  | v :: vs, h, cl => by
    unfold wipeS
    intro q
    rcases set_get q with ⟨_, z⟩ | ⟨hn, z⟩
    · cases z
    · rcases List.mem_cons.mp h with e | e
      · exact hn e
      · exact wipeS_mem s i vs e cl z
theorem wipe_get (σ : L2.St) (i : Nat) : ∀ vs : List Nat, i ∉ vs → (wipe σ vs)[i]? = σ[i]?
  | [], _ => rfl
  | v :: vs, h => by
    rw [List.mem_cons, not_or] at h
    unfold wipe
    rw [List.getElem?_set_ne (fun e => h.1 e.symm), wipe_get σ i vs h.2]
theorem wipe_in (σ : L2.St) (i : Nat) (hi : i < σ.length) : ∀ vs : List Nat, i ∈ vs → (wipe σ vs)[i]? = some none
  | [], h => by cases h
  | v :: vs, h => by
    unfold wipe
    by_cases e : v = i
    · subst e
      exact List.getElem?_set_self (by rw [wipe_length]; exact hi)
    · rw [List.getElem?_set_ne e]
      rcases List.mem_cons.mp h with z | z
      · exact absurd z.symm e
      · exact wipe_in σ i hi vs z
theorem wipe_off {ts vs : List Nat} {σ σ2 : L2.St} (h : Off ts (wipe σ vs) σ2) (hs : ∀ i ∈ ts, i ∈ vs) : wipe σ2 vs = wipe σ vs := by
  apply List.ext_getElem?
  intro i
  have hl : σ2.length = σ.length := by rw [h.1, wipe_length]
  by_cases hv : i ∈ vs
  · by_cases hi : i < σ.length
    · rw [wipe_in σ2 i (by rw [hl]; exact hi) vs hv, wipe_in σ i hi vs hv]
    · rw [List.getElem?_eq_none (by rw [wipe_length, hl]; omega), List.getElem?_eq_none (by rw [wipe_length]; omega)]
  · rw [wipe_get σ2 i vs hv, h.2 i (fun z => hv (hs i z))]
/-- back to what the slots were -/
def unwipe (s0 s1 : S) (vs : List Nat) : S := s1.zipIdx.map fun p => if p.2 ∈ vs then (s0[p.2]?).getD none else p.1
theorem unwipe_length (s0 s1 : S) (vs : List Nat) : (unwipe s0 s1 vs).length = s1.length := by unfold unwipe; rw [List.length_map, List.length_zipIdx]
theorem unwipe_get (s0 s1 : S) (vs : List Nat) (i : Nat) (h : i ∉ vs) : (unwipe s0 s1 vs)[i]? = s1[i]? := by
  unfold unwipe
  rw [List.getElem?_map, List.getElem?_zipIdx]
  cases q : s1[i]? with
  | none => rfl
  | some x => simp [h]
theorem unwipe_in (s0 s1 : S) (vs : List Nat) (i : Nat) (h : i ∈ vs) {cl : Cell} (e : (unwipe s0 s1 vs)[i]? = some (some cl)) : s0[i]? = some (some cl) := by
  unfold unwipe at e
  rw [List.getElem?_map, List.getElem?_zipIdx] at e
  cases q : s1[i]? with
  | none => rw [q] at e; cases e
  | some x =>
    rw [q] at e
    simp [h] at e
    cases q2 : s0[i]? with
    | none => rw [q2] at e; cases e
    | some y => rw [q2] at e; simp at e; rw [e]
theorem unwipe_out (s0 s1 : S) (vs : List Nat) (i : Nat) (h : i ∈ vs) (hl : s0.length = s1.length) {cl : Cell} (e : s0[i]? = some (some cl)) : (unwipe s0 s1 vs)[i]? = some (some cl) := by
  have hi : i < s1.length := by
    rcases Nat.lt_or_ge i s1.length with q | q
    · exact q
    · rw [List.getElem?_eq_none (by omega)] at e; cases e
  unfold unwipe
  rw [List.getElem?_map, List.getElem?_zipIdx, List.getElem?_eq_getElem hi]
  simp [h, e]
/-- into the block -/
theorem rel_wipe {K : PySem.W.Frag} {M H : Hp} {σ : L2.St} {s : S} (vs : List Nat) (rel : Rel K M H σ s) : Rel K M H (wipe σ vs) (wipeS s vs) ∧ (∀ a, Owned (wipe σ vs) (wipeS s vs) a → Owned σ s a) := by
  have nv : ∀ {i : Nat} {cl : Cell}, (wipeS s vs)[i]? = some (some cl) → i ∉ vs ∧ s[i]? = some (some cl) := fun {i cl} h => by
    by_cases hv : i ∈ vs
    · exact (wipeS_mem s i vs hv cl h).elim
    · exact ⟨hv, by rw [wipeS_get s i vs hv] at h; exact h⟩
  refine ⟨⟨by rw [wipeS_length, wipe_length]; exact rel.len, rel.le, fun i d h => ?_, fun i p xs h => ?_, fun i j p q xs ys l h1 h2 h3 h4 => ?_⟩, fun a ⟨i, p, xs, h1, h2⟩ => ?_⟩
  · obtain ⟨hv, h⟩ := nv h
    obtain ⟨v, a, b⟩ := rel.val i d h
    exact ⟨v, by rw [wipe_get σ i vs hv]; exact a, b⟩
  · obtain ⟨hv, h⟩ := nv h
    obtain ⟨l, ws, a, b⟩ := rel.own i p xs h
    exact ⟨l, ws, by rw [wipe_get σ i vs hv]; exact a, b⟩
  · obtain ⟨v1, h1⟩ := nv h1
    obtain ⟨v2, h2⟩ := nv h2
    rw [wipe_get σ i vs v1] at h3
    rw [wipe_get σ j vs v2] at h4
    exact rel.inj i j p q xs ys l h1 h2 h3 h4
  · obtain ⟨hv, h1⟩ := nv h1
    rw [wipe_get σ i vs hv] at h2
    exact ⟨i, p, xs, h1, h2⟩
/-- the next turn begins: the target's slots are forgotten -/
theorem oks_wipe {K : PySem.W.Frag} {M H M' H' : Hp} {σ σ2 : L2.St} {s s2 : S} {vs : List Nat} (k : OkS K (wipe σ vs) s M H σ2 s2 M' H') (hn : ∀ i ∈ vs, ∀ cl, s[i]? ≠ some (some cl)) (hw : wipe σ2 vs = wipe σ vs) : OkS K (wipe σ vs) s M H (wipe σ vs) (wipeS s2 vs) M' H' := by
  obtain ⟨rel', own'⟩ := rel_wipe vs k.rel
  rw [hw] at rel' own'
  have nv : ∀ {i : Nat} {cl : Cell}, (wipeS s2 vs)[i]? = some (some cl) → i ∉ vs ∧ s2[i]? = some (some cl) := fun {i cl} h => by
    by_cases hv : i ∈ vs
    · exact (wipeS_mem s2 i vs hv cl h).elim
    · exact ⟨hv, by rw [wipeS_get s2 i vs hv] at h; exact h⟩
  have same : ∀ i, i ∉ vs → (wipe σ vs)[i]? = σ2[i]? := fun i hv => by rw [← hw, wipe_get σ2 i vs hv]
  refine ⟨⟨k.go.up, k.go.keep, k.go.there, fun i p xs l h1 h2 => ?_, fun i xs h => ?_⟩, rel'⟩
  · obtain ⟨hv, h1⟩ := nv h1
    rw [same i hv] at h2
    exact k.go.own i p xs l h1 h2
  · have hv : i ∉ vs := fun hv => hn i hv _ h
    obtain ⟨ys, a, b⟩ := k.go.port i xs h
    exact ⟨ys, by rw [wipeS_get s2 i vs hv]; exact a, rfl⟩
def lcLoop (vs : List Nat) (g : MG) (t : MT) (m : ME) : List D → S → List D → Option (List D × S)
  | [], s, acc => some (acc, s)
  | d :: ds, s, acc => (g d s).bind fun s1 => (t s1).bind fun p => if p.1 then (m p.2).bind fun q => (frz q.1 q.2).bind fun r => if acc.length < 100000 then lcLoop vs g t m ds (wipeS r.2 vs) (acc ++ [r.1]) else none
    else lcLoop vs g t m ds (wipeS p.2 vs) acc
def mLc (vs : List Nat) (mi : MI) (g : MG) (t : MT) (m : ME) : ME := fun s => (mi s).bind fun p => (lcLoop vs g t m p.1 (wipeS p.2 vs) []).bind fun q => some (.own q.1, unwipe p.2 q.2 vs)
theorem Owned.of {K : PySem.W.Frag} {M H : Hp} {σ : L2.St} {s : S} {a : Addr} (rel : Rel K M H σ s) (h : Owned σ s a) : H a ≠ none := by
  obtain ⟨vs, q, _⟩ := rel.owned_some h
  rw [q]; exact fun z => nomatch z
theorem sound_lc {K : PySem.W.Frag} {wi : TI} {tg : TG} {tt : TT} {te : TE} {vs ts : List Nat} {mi : MI} {g : MG} {t : MT} {m : ME} (hi : SoundI K wi mi) (hg : SoundG K ts tg g) (ht : SoundT K tt t) (hm : Sound K te m) (hts : ∀ i ∈ ts, i ∈ vs) :
    Sound K (tLc wi tg tt te vs) (mLc vs mi g t m) := fun σ s M H r s' e rel Q q => by
  obtain ⟨⟨xs, s0⟩, e1, e⟩ := bd e
  obtain ⟨⟨res, sf⟩, e2, e⟩ := bd e
  cases e
  refine hi σ s M H xs s0 e1 rel _ fun J M0 H0 k0 W Da hD => ?_
  obtain ⟨relW, ownW⟩ := rel_wipe vs k0.rel
  have hnone : ∀ i ∈ vs, ∀ cl, (wipeS s0 vs)[i]? ≠ some (some cl) := fun i hv cl => wipeS_mem s0 i vs hv cl
  -- the new list, beside
  have relD : Rel K M0 (upd H0 Da (.lst [])) (wipe σ vs) (wipeS s0 vs) := relW.grow (Le.refl _) (le_upd hD) (le_updr relW.le (le_none relW.le hD)) fun _ _ _ z => z
  have nD : ¬ Owned (wipe σ vs) (wipeS s0 vs) Da := fun z => Owned.of k0.rel (ownW Da z) hD
  refine ⟨fun i m' H2 => m' = xs.length - i ∧ i ≤ xs.length ∧ ∃ s2 M2 acc ws, OkS K (wipe σ vs) (wipeS s0 vs) M0 H0 (wipe σ vs) s2 M2 H2 ∧ (∀ j ∈ vs, ∀ cl, s2[j]? ≠ some (some cl)) ∧ H2 Da = some (.lst ws) ∧ M2 Da = none ∧ ¬ Owned (wipe σ vs) s2 Da ∧ Ats K M2 ws acc ∧ lcLoop vs g t m (xs.drop i) s2 acc = some (res, sf),
    ⟨xs.length, by simp, Nat.zero_le _, wipeS s0 vs, M0, [], [], ⟨Go.grow (Le.refl _) (le_upd hD) fun _ _ _ z => z, relD⟩, hnone, upd_same, le_none relW.le hD, nD, .nil, by simpa using e2⟩, fun i m' H2 hw => ?_⟩
  obtain ⟨rfl, hil, s2, M2, acc, ws, k2, hn2, hD2, hM2, nD2, hac, e3⟩ := hw
  have le2 : Le M0 M2 := k2.go.up
  by_cases hlt : i < xs.length
  · refine .inr ⟨W.go i H2 (le2.trans k2.rel.le) hlt, fun H' => ∃ s3 M3 acc ws, OkS K (wipe σ vs) (wipeS s0 vs) M0 H0 (wipe σ vs) s3 M3 H' ∧ (∀ j ∈ vs, ∀ cl, s3[j]? ≠ some (some cl)) ∧ H' Da = some (.lst ws) ∧ M3 Da = none ∧ ¬ Owned (wipe σ vs) s3 Da ∧ Ats K M3 ws acc ∧ lcLoop vs g t m (xs.drop (i + 1)) s3 acc = some (res, sf),
      fun H' hn => ⟨xs.length - (i + 1), by omega, rfl, by omega, hn⟩, fun x H' hy => ?_⟩
    obtain ⟨d, hd, y⟩ := W.yld i H2 x H' (le2.trans k2.rel.le) hlt hy
    rw [List.drop_eq_getElem_cons hlt] at e3
    have hd' : xs[i] = d := by rw [List.getElem?_eq_getElem hlt] at hd; exact Option.some.inj hd
    rw [hd'] at e3
    obtain ⟨s3, e4, e3⟩ := bd e3
    obtain ⟨⟨kb, s4⟩, e5, e3⟩ := bd e3
    obtain ⟨M3, k3, hat⟩ := yl_ok k2.rel le2 y
    refine hg d x (wipe σ vs) s2 M3 H' s3 e4 k3.rel hat _ fun σ4 M4 H4 k4 off => ?_
    have hw := wipe_off off hts
    refine ⟨hw, ht σ4 s3 M4 H4 kb s4 e5 k4.rel _ fun M5 H5 k5 => ?_⟩
    -- D through these steps
    have kk := (k3.s.trans k4).trans k5.s
    obtain ⟨d5, m5⟩ := kk.go.keep Da _ hD2 nD2
    have own5 : ∀ {s6 : S} {M6 H6 : Hp}, OkS K (wipe σ vs) s2 M2 H2 σ4 s6 M6 H6 → ¬ Owned σ4 s6 Da := fun {s6 M6 H6} kx ⟨j, p, ys, a, b⟩ => by
      rcases kx.go.own j p ys Da a b with ⟨z, _⟩ | ⟨j', zs, z1, z2⟩
      · rw [hD2] at z; cases z
      · exact nD2 ⟨j', p, zs, z1, z2⟩
    have fin : ∀ {s6 : S} {M6 H6 : Hp}, OkS K (wipe σ vs) s2 M2 H2 σ4 s6 M6 H6 → OkS K (wipe σ vs) (wipeS s0 vs) M0 H0 (wipe σ vs) (wipeS s6 vs) M6 H6 ∧ (∀ j ∈ vs, ∀ cl, (wipeS s6 vs)[j]? ≠ some (some cl)) ∧ ¬ Owned (wipe σ vs) (wipeS s6 vs) Da := fun {s6 M6 H6} kx => by
      have k6 := oks_wipe kx hn2 hw
      refine ⟨k2.trans k6, fun j hv cl => wipeS_mem s6 j vs hv cl, fun z => own5 kx ?_⟩
      have := (rel_wipe vs kx.rel).2 Da
      rw [hw] at this
      exact this z
    cases kb with
    | false =>
      obtain ⟨f1, f2, f3⟩ := fin kk
      exact ⟨_, M5, acc, ws, f1, f2, d5, m5 hM2, f3, hac.mono kk.go.up, e3⟩
    | true =>
      obtain ⟨⟨r6, s6⟩, e6, e3⟩ := bd e3
      obtain ⟨⟨d7, s7⟩, e7, e3⟩ := bd e3
      show te σ4 H5 _
      refine hm σ4 s4 M5 H5 r6 s6 e6 k5.rel _ fun yv M6 H6 o6 => ?_
      obtain ⟨M7, o7⟩ := frz_ok o6 e7
      split at e3
      · rename_i hlen
        have kz := kk.trans o7.t.s
        obtain ⟨d7', m7⟩ := kz.go.keep Da _ hD2 nD2
        have hac7 := hac.mono kz.go.up
        refine ⟨ws, d7', sz_lt (by rw [hac.length]; exact hlen), ?_⟩
        obtain ⟨f1, f2, f3⟩ := fin kz
        have hM7 := m7 hM2
        have hDn : M0 Da = none := le_none k0.rel.le hD
        -- the list grows
        refine ⟨_, M7, acc ++ [d7], ws ++ [yv], ⟨⟨f1.go.up, fun a o ha hna => ?_, fun a o ha => ?_, f1.go.own, f1.go.port⟩, ?_⟩, f2, upd_same, hM7, f3, hac7.append (.one o7.held), e3⟩
        · have hne : a ≠ Da := fun z => by subst z; rw [hD] at ha; cases ha
          rw [upd_ne hne]
          exact f1.go.keep a o ha hna
        · by_cases z : a = Da
          · subst z; exact ⟨_, upd_same⟩
          · rw [upd_ne z]; exact f1.go.there a o ha
        · refine ⟨f1.rel.len, le_updr f1.rel.le hM7, f1.rel.val, fun j p ys h1 => ?_, f1.rel.inj⟩
          obtain ⟨l, us, a1, b1, c1, dd1⟩ := f1.rel.own j p ys h1
          refine ⟨l, us, a1, ?_, c1, dd1⟩
          rw [upd_ne (fun z => f3 ⟨j, p, ys, h1, by rw [← z]; exact a1⟩)]
          exact b1
      · cases e3
  · have ei : xs.drop i = [] := List.drop_eq_nil_of_le (by omega)
    rw [ei] at e3
    obtain ⟨e5, e6⟩ := Prod.mk.inj (Option.some.inj e3)
    subst e5
    subst e6
    refine .inl ⟨W.stop i H2 (le2.trans k2.rel.le) (by omega), q _ M2 H2 ?_⟩
    -- back in the def
    have hlen : s0.length = s2.length := by rw [k0.rel.len, ← wipe_length σ vs, k2.rel.len]
    have keepW : ∀ a o, H0 a = some o → ¬ Owned σ s0 a → H2 a = some o ∧ (M0 a = none → M2 a = none) := fun a o ha hna => k2.go.keep a o ha fun z => hna (ownW a z)
    -- an address owned at a slot that was forgotten
    have hid : ∀ (j : Nat) (p : Bool) (ys : List D) (l : Addr), j ∈ vs → s0[j]? = some (some (Cell.own p ys)) → σ[j]? = some (some (V.ref l)) → ¬ Owned (wipe σ vs) (wipeS s0 vs) l := fun j p ys l hv h1 h2 ⟨j2, p2, zs, z1, z2⟩ => by
      have hv2 : j2 ∉ vs := fun hv2 => wipeS_mem s0 j2 vs hv2 _ z1
      rw [wipeS_get s0 j2 vs hv2] at z1
      rw [wipe_get σ j2 vs hv2] at z2
      exact hv2 (by rw [← k0.rel.inj j j2 p p2 ys zs l h1 z1 h2 z2]; exact hv)
    have rel' : Rel K M2 H2 σ (unwipe s0 s2 vs) := by
      refine ⟨by rw [unwipe_length, ← hlen]; exact k0.rel.len, k2.rel.le, fun j d h => ?_, fun j p ys h => ?_, fun j1 j2 p1 p2 xs1 xs2 l h1 h2 h3 h4 => ?_⟩
      · by_cases hv : j ∈ vs
        · obtain ⟨v, a, b⟩ := k0.rel.val j d (unwipe_in s0 s2 vs j hv h)
          exact ⟨v, a, b.mono k2.go.up⟩
        · rw [unwipe_get s0 s2 vs j hv] at h
          obtain ⟨v, a, b⟩ := k2.rel.val j d h
          rw [wipe_get σ j vs hv] at a
          exact ⟨v, a, b⟩
      · by_cases hv : j ∈ vs
        · have h0 := unwipe_in s0 s2 vs j hv h
          obtain ⟨l, us, a, b, c, d⟩ := k0.rel.own j p ys h0
          obtain ⟨z1, z2⟩ := k2.go.keep l _ b (hid j p ys l hv h0 a)
          exact ⟨l, us, a, z1, z2 c, d.mono k2.go.up⟩
        · rw [unwipe_get s0 s2 vs j hv] at h
          obtain ⟨l, us, a, b⟩ := k2.rel.own j p ys h
          rw [wipe_get σ j vs hv] at a
          exact ⟨l, us, a, b⟩
      · -- an own list of the block at j was one before, at the same place, or is new
        have back : ∀ (j : Nat) (p : Bool) (ys : List D), j ∉ vs → s2[j]? = some (some (Cell.own p ys)) → σ[j]? = some (some (V.ref l)) → H0 l = none ∨ ∃ j' zs, j' ∉ vs ∧ s0[j']? = some (some (Cell.own p zs)) ∧ σ[j']? = some (some (V.ref l)) := fun j p ys hv h1 h2 => by
          rcases k2.go.own j p ys l h1 (by rw [wipe_get σ j vs hv]; exact h2) with ⟨z, _⟩ | ⟨j', zs, z1, z2⟩
          · exact .inl z
          · have hv' : j' ∉ vs := fun hv' => wipeS_mem s0 j' vs hv' _ z1
            rw [wipeS_get s0 j' vs hv'] at z1
            rw [wipe_get σ j' vs hv'] at z2
            exact .inr ⟨j', zs, hv', z1, z2⟩
        have mix : ∀ (i j : Nat) (p p' : Bool) (ys zs : List D), i ∈ vs → j ∉ vs → s0[i]? = some (some (Cell.own p ys)) → s2[j]? = some (some (Cell.own p' zs)) → σ[i]? = some (some (V.ref l)) → σ[j]? = some (some (V.ref l)) → False := fun i j p p' ys zs hv hv' a1 a2 a3 a4 => by
          obtain ⟨l', us, b1, b2, _⟩ := k0.rel.own i p ys a1
          rw [a3] at b1
          cases b1
          rcases back j p' zs hv' a2 a4 with z | ⟨j', ws', c1, c2, c3⟩
          · rw [b2] at z; cases z
          · exact c1 (by rw [← k0.rel.inj i j' p p' ys ws' l a1 c2 a3 c3]; exact hv)
        by_cases hv1 : j1 ∈ vs
        · have g1 := unwipe_in s0 s2 vs j1 hv1 h1
          by_cases hv2 : j2 ∈ vs
          · exact k0.rel.inj j1 j2 p1 p2 xs1 xs2 l g1 (unwipe_in s0 s2 vs j2 hv2 h2) h3 h4
          · rw [unwipe_get s0 s2 vs j2 hv2] at h2
            exact (mix j1 j2 p1 p2 xs1 xs2 hv1 hv2 g1 h2 h3 h4).elim
        · rw [unwipe_get s0 s2 vs j1 hv1] at h1
          by_cases hv2 : j2 ∈ vs
          · exact (mix j2 j1 p2 p1 xs2 xs1 hv2 hv1 (unwipe_in s0 s2 vs j2 hv2 h2) h1 h4 h3).elim
          · rw [unwipe_get s0 s2 vs j2 hv2] at h2
            exact k2.rel.inj j1 j2 p1 p2 xs1 xs2 l h1 h2 (by rw [wipe_get σ j1 vs hv1]; exact h3) (by rw [wipe_get σ j2 vs hv2]; exact h4)
    have ownO : ∀ (j : Nat) (p : Bool) (ys : List D) (l : Addr), (unwipe s0 s2 vs)[j]? = some (some (Cell.own p ys)) → σ[j]? = some (some (V.ref l)) → (H0 l = none ∧ p = false) ∨ ∃ (j' : Nat) (zs : List D), s0[j']? = some (some (Cell.own p zs)) ∧ σ[j']? = some (some (V.ref l)) := fun j p ys l h1 h2 => by
      by_cases hv : j ∈ vs
      · exact .inr ⟨j, ys, unwipe_in s0 s2 vs j hv h1, h2⟩
      · rw [unwipe_get s0 s2 vs j hv] at h1
        rcases k2.go.own j p ys l h1 (by rw [wipe_get σ j vs hv]; exact h2) with z | ⟨j', zs, z1, z2⟩
        · exact .inl z
        · have hv' : j' ∉ vs := fun hv' => wipeS_mem s0 j' vs hv' _ z1
          rw [wipeS_get s0 j' vs hv'] at z1
          rw [wipe_get σ j' vs hv'] at z2
          exact .inr ⟨j', zs, z1, z2⟩
    have kB : OkS K σ s0 M0 H0 σ (unwipe s0 s2 vs) M2 H2 := by
      refine ⟨⟨k2.go.up, keepW, k2.go.there, ownO, fun j ys h => ?_⟩, rel'⟩
      by_cases hv : j ∈ vs
      · exact ⟨ys, unwipe_out s0 s2 vs j hv hlen h, rfl⟩
      · obtain ⟨zs, z1, _⟩ := k2.go.port j ys (by rw [wipeS_get s0 j vs hv]; exact h)
        exact ⟨zs, by rw [unwipe_get s0 s2 vs j hv]; exact z1, rfl⟩
    have kO := k0.s.trans kB
    refine ⟨kO.go, kO.rel, ⟨Da, ws, rfl, hD2, hM2, fun ⟨j, p, ys, a, b⟩ => ?_, hac⟩, ⟨Da, rfl, k0.go.free hD⟩⟩
    by_cases hv : j ∈ vs
    · obtain ⟨l', us, b1, b2, _⟩ := k0.rel.own j p ys (unwipe_in s0 s2 vs j hv a)
      rw [b] at b1
      cases b1
      rw [hD] at b2; cases b2
    · rw [unwipe_get s0 s2 vs j hv] at a
      exact nD2 ⟨j, p, ys, a, by rw [wipe_get σ j vs hv]; exact b⟩
end Dm
set_option Elab.async false
set_option linter.all false
set_option maxRecDepth 100000
set_option maxHeartbeats 4000000
namespace Dm
open PySem PySem.Spec L2
set_option autoImplicit false

/-! ### a promise of a def where no display is under way (repr asks that) -/
structure FnG (P : Program) (w : World) (K : PySem.W.Frag) (mg : Str → Option Value) (base : Heap) (CX : CXT) (k : Nat) (f : Addr) (fd : FuncData) (ps : List Str) (sp : Sp) : Prop where
  len : ∀ vs H Q E, sp vs H Q E → vs.length = ps.length
  run : ∀ (A : Around) (outer : List Env) (s : Shared) (H : Hp) (args : Args) (us : List Value) (vs : List V) (Q : VK) (E : XK), Room k A → A.guards = some [] → Env0 P w K mg base A outer s H → BindsTo s fd args (ps.zip us) → Vals vs us →
    sp vs H Q E → codeAny (model P w) A (.call (.ref f) args) (CR CX outer P w H s Q E) s
section
variable {P : Program} {w : World} {K : PySem.W.Frag} {mg : Str → Option Value} {base : Heap} {CX : CXT}
theorem FnG.imp {k : Nat} {f : Addr} {fd : FuncData} {ps : List Str} {sp sp' : Sp} (F : FnG P w K mg base CX k f fd ps sp) (h : ∀ vs H Q E, sp' vs H Q E → sp vs H Q E) : FnG P w K mg base CX k f fd ps sp' where
  len := fun vs H Q E q => F.len vs H Q E (h _ _ _ _ q)
  run := fun A outer s H args us vs Q E a b c d e q => F.run A outer s H args us vs Q E a b c d e (h _ _ _ _ q)
/-- the rule for a def's body -/
theorem fun_G {x qual : Str} {st : Stmt} {f : Addr} {fd : FuncData} {N ps : List Str} {k : Nat} {sp : Sp} (F : Fun K x qual st f fd) (S : FnScope N ps (defScope st)) (len : ∀ vs H Q E, sp vs H Q E → vs.length = ps.length)
    (body : ∀ (cdv : Value) (A : Around) (outer : List Env) (s : Shared) (H : Hp) (vs : List V) (Q : VK) (E : XK), Room k (A.deeper (PyProof.Rows.envOfC qual (defScope st) s.heap.objs.size f cdv)) → A.guards = some [] → sp vs H Q E →
      ∃ t, PSs (cxOf CX P w K mg base N qual (defScope st) f cdv A outer s H E) (defBody st) t ∧ t { nx := fun _ H' => Q .non H', rt := Q } (L2.start N vs) H) : FnG P w K mg base CX (k + 1) f fd ps sp := by
  obtain ⟨oc, od, kV, doc, pm, an, cdv, ct, osl, rfl, lk, hcd⟩ := F.ex
  refine ⟨len, ?_⟩
  intro A outer s H args us vs Q E room gd e0 binds rel want
  have n := len vs H Q E want
  have kin : K.In s.heap := e0.mod.kin.keeps (fun b o z => (e0.bs b o z).1)
  have nol : s.heap.NoLimit := e0.mod.nolimit.keeps (fun b o z => (e0.bs b o z).1)
  have kinds : ∀ y ∈ ps.zip us, (defScope st).names.lookup y.1 = some .local ∨ ((defScope st).names.lookup y.1 = some .cell ∧ ((cellsFrom (s.heap.objs.size + 1) (defScope st).names []).lookup y.1).isSome = true) := by
    rintro ⟨nm, v⟩ hy
    rcases S.par nm (List.of_mem_zip hy).1 with z | z
    · exact Or.inl z
    · exact Or.inr ⟨z, PySem.W.cellsFrom_some _ _ _ (Or.inl z)⟩
  apply codeAny_call_function room.depth (kin _ _ lk) rfl S.co S.gen rfl (PySem.W.codeRec_of kin hcd)
  apply binds
  apply wpAny_newFunctionEnv_cells S.kind kinds
  rintro env rfl s1 made
  refine ⟨nol.keeps made.toInCall.keep, codeAny_func ?_⟩
  obtain ⟨t, pt, ht⟩ := body cdv A outer s H vs Q E (room.deeper _) gd want
  have inv : Inv (cxOf CX P w K mg base N qual (defScope st) f cdv A outer s H E) [] (L2.start N vs) H s1 := inv_start S room.hd e0 n rel made
  apply wpAny_mono (pt.run [] s1 _ H _ inv ht)
  · rintro (_ | _ | _ | u) s' q
    · obtain ⟨σ', H', J, q⟩ := q
      exact ⟨V.non, H', J.os, J.bare, J.base, J.hok, rfl, q⟩
    · obtain ⟨_, _, _, q⟩ := q
      exact q.elim
    · obtain ⟨_, _, _, q⟩ := q
      exact q.elim
    · obtain ⟨v, σ', H', J, rv, q⟩ := q
      exact ⟨v, H', J.os, J.bare, J.base, J.hok, rv, q⟩
  · exact fun _ _ q => q
end
section
variable {X : Cx} {CX : CXT} {k : Nat} {f : Addr} {fd : FuncData} {ps : List Str} {sp : Sp} {E : XK} {x : Str} {p pos : Pos} {e : Expr} {es : List Expr} {t tk : TA} {kws : List Keyword}
theorem enter_G {pins : List (Addr × Obj)} {σ : L2.St} {H : Hp} {s : Shared} {Q : VK} {args : Args} {us : List Value} {vs : List V} (F : FnG X.prog X.w X.K X.mg X.base CX k f fd ps sp) (room : Room k X.A) (gd : X.A.guards = some []) (hb : BindsTo s fd args (ps.zip us))
    (hx : Passes CX X E) (I : Inv X pins σ H s) (r : Vals vs us) (h : sp vs H Q E) : codeAny (model X.prog X.w) X.A (.call (.ref f) args) (fun r s' => match r with | .ok (.ret u) => EP X pins σ Q u s' | .ok _ => False | .error e => X.xe e s') s := by
  apply codeAny_mono (F.run X.A X.stack s H args us vs Q E room gd I.env0 hb r h)
  rintro (z | (_ | _ | _ | u)) s' q
  · exact hx pins σ H s z s' I q
  · exact q.elim
  · exact q.elim
  · exact q.elim
  · exact I.after q
theorem pe_callG (F : FnG X.prog X.w X.K X.mg X.base CX k f fd ps sp) (room : Room k X.A) (gd : X.A.guards = some []) (hg : Gl X x) (hm : X.mg x = some (.ref f)) (hk : PySem.W.keepIn X.K (.ref f) = true) (hb : Binds X.K fd ps []) (hx : Passes CX X E)
    (ha : PA X (e :: es) t) (hdb : (x == ("__debug__" : Str)) = false) (he : starEach (e :: es) X.env = (false, eval e X.env) :: starEach es X.env) (hpl : (backTo pos (starEach es X.env)).any (·.1) = false) : PE X (.Call (.Name x p) (e :: es) [] pos) (tCall sp [] E t) where
  run := fun pins s σ H Q I h => wpAny_Call_Name_kw (ld_glob I hg hm (PySem.W.callWith_K (h₀ := X.base) I.ok.mod.kin hk (thn (ha.run pos pins s σ H _ I h) fun us s1 ⟨vs, H1, I1, r, q⟩ => ⟨I1.kIn, by
    have n : (us ++ []).length = ps.length := by
      rw [List.append_nil, ← r.length]
      exact F.len _ _ _ _ (by simpa using q)
    have bt := hb s1 us I1.kIn n
    rw [List.append_nil] at bt
    refine wpAny_call (codeAny_mono (enter_G F room gd bt hx I1 r (by simpa using q)) ?_)
    rintro (z | (_ | _ | _ | u)) s' q2
    · exact q2
    · exact q2.elim
    · exact q2.elim
    · exact q2.elim
    · exact q2⟩) he hpl) hdb)
/-- f(k = v, ..): every parameter by its name, in order -/
theorem pe_callGK (F : FnG X.prog X.w X.K X.mg X.base CX k f fd ps sp) (room : Room k X.A) (gd : X.A.guards = some []) (hg : Gl X x) (hm : X.mg x = some (.ref f)) (hk : PySem.W.keepIn X.K (.ref f) = true)
    (hb : ∀ (s : Shared) (ws : List Value), ws.length = ps.length → BindsTo s fd ⟨[], ps.zip ws⟩ (ps.zip ws)) (hx : Passes CX X E)
    (hkw : PK X kws t) (hall : (backToKw pos (keywordEach kws X.env)).all (·.1.isSome) = true) (hks : (backToKw pos (keywordEach kws X.env)).filterMap (·.1) = ps)
    (hdb : (x == ("__debug__" : Str)) = false) (hpl : ((backTo pos (starEach [] X.env)).any (·.1) || (backToKw pos (keywordEach kws X.env)).any (·.1.isNone)) = false) : PE X (.Call (.Name x p) [] kws pos) (tCall sp [] E t) where
  run := fun pins s σ H Q I h => wpAny_Call_Name_kw (ld_glob I hg hm (PySem.W.callWith_KW0 (h₀ := X.base) I.ok.mod.kin hk hall (thn (hkw.run pos pins s σ H _ I h) fun us s1 ⟨vs, H1, I1, r, q⟩ => ⟨I1.kIn, by
    rw [hks]
    have n : us.length = ps.length := by
      rw [← r.length]
      exact F.len _ _ _ _ (by simpa using q)
    refine wpAny_call (codeAny_mono (enter_G F room gd (hb s1 us n) hx I1 r (by simpa using q)) ?_)
    rintro (z | (_ | _ | _ | u)) s' q2
    · exact q2
    · exact q2.elim
    · exact q2.elim
    · exact q2.elim
    · exact q2⟩) hpl) hdb)
end
end Dm
set_option Elab.async false
set_option linter.all false
set_option maxRecDepth 100000
set_option maxHeartbeats 4000000
namespace Dm
open PySem PySem.Spec L2
set_option autoImplicit false

/-! ### comprehensions in their place -/
abbrev Cd.blk (c : Cd) (scope : Scope) : Cd := { c with sc := relS scope c.sc, top := false }
theorem fits_blk {c : Cd} {X : Cx} (g : Fits c X) (s : Shared) (H : Hp) (scope : Scope) (C : Addr) (cl : List (Str × Addr)) (fp : List Addr) : Fits (c.blk scope) (X.blk s H scope (compEnvC scope cl C X.env) fp) where
  P := g.P
  w := g.w
  K := g.K
  mg := g.mg
  base := g.base
  N := g.N
  sc := by
    show relS scope X.env.scope = relS scope c.sc
    rw [g.sc]
  calm := g.calm
  room := g.room
  own := PassesOwn.never
  fn := fun h => nomatch h
  guards := g.guards
def STs (c : Cd) (ifs : List Expr) (m : MT) : Prop := ∃ t : TT, (∀ X, Fits c X → PTs X ifs t) ∧ SoundT c.K t m
def mYes : MT := fun s => some (true, s)
section
variable {c : Cd} {e elt tg iter : Expr} {ifs : List Expr} {scope : Scope} {pos : Pos} {t : MT} {m : ME} {g : MG} {mi : MI} {ts : List Nat}
theorem sts_nil : STs c [] mYes := ⟨_, fun _ _ => pts_nil, fun σ s M H b s' e rel Q q => by cases e; exact q M H (.refl rel)⟩
theorem sts_one (h : ST c e t) : STs c [e] t := by
  obtain ⟨tt, p, sd⟩ := h
  exact ⟨tt, fun X g => pts_one (p X g), sd⟩
theorem se_lc (own : List (Str × Nat)) (hi : SI c tg iter mi) (hg : SG (c.blk scope) tg ts g) (ht : STs (c.blk scope) ifs t) (he : SE (c.blk scope) elt m)
    (hts : ∀ i ∈ ts, i ∈ own.map (·.2) := by decide) (hN : ndB c.N = true := by rfl) (ok : blkC c.N c.sc scope own = true := by rfl) (hs : ∀ env x, foldedSetIterable iter env x = pure x := by intro _ _; rfl) :
    SE c (.ListComp elt [⟨tg, iter, ifs, 0⟩] scope pos) (mLc (own.map (·.2)) mi g t m) := by
  obtain ⟨ti, pi, si⟩ := hi
  obtain ⟨tg', pg, sg⟩ := hg
  obtain ⟨tt, pt, st⟩ := ht
  obtain ⟨te, pe, se⟩ := he
  exact ⟨_, fun X k => pe_lc (own := own) k.calm (by rw [k.N]; exact ndOf hN) (pi X k) (by rw [k.N, k.sc]; exact blkOk_by ok) (fun s H C cl fp => pg _ (fits_blk k s H scope C cl fp)) (fun s H C cl fp => pt _ (fits_blk k s H scope C cl fp))
    (fun s H C cl fp => pe _ (fits_blk k s H scope C cl fp)) (hs X.env), sound_lc si sg st se hts⟩
/-- y = [..] on one line, y a local -/
theorem ss_setLc (i : Nat) {y : Str} {py spos : Pos} (own : List (Str × Nat)) (hi : SI c tg iter mi) (hg : SG (c.blk scope) tg ts g) (ht : STs (c.blk scope) ifs t) (he : SE (c.blk scope) elt m) (hy : c.N[i]? = some y := by rfl) (hyl : c.sc.names.lookup y = some .local := by rfl)
    (hsw : ∀ X : Cx, Fits c X → swapsWith (.ListComp elt [⟨tg, iter, ifs, 0⟩] scope pos) (some (.Name y py)) spos.line X.env = pure true)
    (hts : ∀ i ∈ ts, i ∈ own.map (·.2) := by decide) (hN : ndB c.N = true := by rfl) (ok : blkC c.N c.sc scope own = true := by rfl) (hs : ∀ env x, foldedSetIterable iter env x = pure x := by intro _ _; rfl) :
    SS c (.Assign [.Name y py] (.ListComp elt [⟨tg, iter, ifs, 0⟩] scope pos) spos) (mSet i (mLc (own.map (·.2)) mi g t m)) := by
  obtain ⟨ti, pi, si⟩ := hi
  obtain ⟨tg', pg, sg⟩ := hg
  obtain ⟨tt, pt, st⟩ := ht
  obtain ⟨te, pe, se⟩ := he
  refine ⟨_, fun X k => ps_setLc (i := i) (own := own) k.calm (by rw [k.N]; exact ndOf hN) (by rw [k.N]; exact hy) (by rw [k.sc]; exact hyl) (hsw X k) (pi X k) (by rw [k.N, k.sc]; exact blkOk_by ok) (fun s H C cl fp => pg _ (fits_blk k s H scope C cl fp)) (fun s H C cl fp => pt _ (fits_blk k s H scope C cl fp))
    (fun s H C cl fp => pe _ (fits_blk k s H scope C cl fp)) (hs X.env), fun σ s M H o e rel E h => ?_⟩
  obtain ⟨⟨r, s1⟩, e1, e⟩ := bd e
  obtain ⟨s2, e2, e⟩ := bd e
  cases e
  refine sound_lc si sg st se hts σ s M H r _ e1 rel _ fun v M1 H1 k => ?_
  obtain ⟨M2, k2⟩ := put_ok k e2
  exact h _ M2 H1 k2
end

/-! ### defs -/
/-- a def that changes none of its arguments -/
abbrev FnV := List D → Option Ret
/-- a def that may change the list that is its first argument -/
abbrev FnW := List D → List D → Option (Ret × List D)
structure GoF (M H M' H' : Hp) (L : Addr → Prop) : Prop where
  up : Le M M'
  le : Le M' H'
  keep : ∀ a o, H a = some o → ¬ L a → H' a = some o ∧ (M a = none → M' a = none)
  there : ∀ a o, H a = some o → ∃ o', H' a = some o'
def RetF (K : PySem.W.Frag) (H M' H' : Hp) (v : V) : Ret → Prop
  | .val d => At K M' v d
  | .own xs => ∃ l vs, v = V.ref l ∧ H l = none ∧ H' l = some (.lst vs) ∧ M' l = none ∧ Ats K M' vs xs
def spV (K : PySem.W.Frag) (n : Nat) (f : FnV) : Sp := fun vs H Q _ => vs.length = n ∧ ∃ M ds r, f ds = some r ∧ Le M H ∧ Ats K M vs ds ∧ ∀ v M' H', GoF M H M' H' (fun _ => False) → RetF K H M' H' v r → Q v H'
def spW (K : PySem.W.Frag) (n : Nat) (f : FnW) : Sp := fun vs H Q _ => vs.length = n ∧ ∃ M l ws vs' xs ds r xs', vs = V.ref l :: vs' ∧ H l = some (.lst ws) ∧ M l = none ∧ Ats K M ws xs ∧ Ats K M vs' ds ∧ f xs ds = some (r, xs') ∧ Le M H ∧
  ∀ v M' H' ws', GoF M H M' H' (fun a => a = l) → H' l = some (.lst ws') → M' l = none → Ats K M' ws' xs' → RetF K H M' H' v r → Q v H'
theorem spV_len {K : PySem.W.Frag} {n : Nat} {f : FnV} : ∀ vs H Q E, spV K n f vs H Q E → vs.length = n := fun _ _ _ _ h => h.1
theorem spW_len {K : PySem.W.Frag} {n : Nat} {f : FnW} : ∀ vs H Q E, spW K n f vs H Q E → vs.length = n := fun _ _ _ _ h => h.1
/-- the slots at the entry -/
def initV (n : Nat) (ds : List D) : S := ds.map (fun d => some (Cell.val d)) ++ List.replicate (n - ds.length) none
def initW (n : Nat) (xs ds : List D) : S := some (Cell.own true xs) :: (ds.map (fun d => some (Cell.val d)) ++ List.replicate (n - (ds.length + 1)) none)
/-- a def's function by its body; nv: names in all, np: parameters -/
def fnV (nv np : Nat) (b : MS) : FnV := fun ds => if ds.length = np then (b (initV nv ds)).bind fun o => match o with
    | .nx _ => some (.val .non)
    | .rt r _ => some r
    | _ => none
  else none
def port0 (s : S) : Option (List D) := match (s[0]? : Option (Option Cell)) with
  | some (some (Cell.own true ys)) => some ys
  | _ => none
def fnW (nv np : Nat) (b : MS) : FnW := fun xs ds => if ds.length + 1 = np then (b (initW nv xs ds)).bind fun o => match o with
    | .nx s => (port0 s).bind fun ys => some (.val .non, ys)
    | .rt r s => (port0 s).bind fun ys => some (r, ys)
    | _ => none
  else none
theorem port0_ok {s : S} {ys : List D} (h : port0 s = some ys) : s[0]? = some (some (Cell.own true ys)) := by
  unfold port0 at h
  split at h
  · rename_i q; cases h; exact q
  · cases h
theorem start_get {N : List Str} {vs : List V} {i : Nat} {v : V} (h : vs[i]? = some v) : (L2.start N vs)[i]? = some (some v) := by
  unfold L2.start
  have hi : i < vs.length := by
    rcases Nat.lt_or_ge i vs.length with q | q
    · exact q
    · rw [List.getElem?_eq_none q] at h; cases h
  rw [List.getElem?_append_left (by rw [List.length_map]; exact hi), List.getElem?_map, h]; rfl
theorem start_len {N : List Str} {vs : List V} (h : vs.length ≤ N.length) : (L2.start N vs).length = N.length := by
  unfold L2.start
  rw [List.length_append, List.length_map, List.length_replicate]; omega
theorem initV_get {n : Nat} {ds : List D} {i : Nat} {cl : Cell} (h : (initV n ds)[i]? = some (some cl)) : ∃ d, ds[i]? = some d ∧ cl = .val d := by
  unfold initV at h
  by_cases hi : i < ds.length
  · rw [List.getElem?_append_left (by rw [List.length_map]; exact hi), List.getElem?_map] at h
    cases q : ds[i]? with
    | none => rw [q] at h; cases h
    | some d => rw [q] at h; cases h; exact ⟨d, rfl, rfl⟩
  · rw [List.getElem?_append_right (by rw [List.length_map]; omega)] at h
    rw [List.getElem?_replicate] at h
    split at h <;> cases h
theorem rel_initV {K : PySem.W.Frag} {M H : Hp} {N : List Str} {vs : List V} {ds : List D} (le : Le M H) (h : Ats K M vs ds) (hn : vs.length ≤ N.length) : Rel K M H (L2.start N vs) (initV N.length ds) where
  len := by
    rw [start_len hn]
    unfold initV
    rw [List.length_append, List.length_map, List.length_replicate, ← h.length]; omega
  le := le
  val := fun i d q => by
    obtain ⟨d', a, b⟩ := initV_get q
    cases b
    obtain ⟨v, c1, c2⟩ := h.get a
    exact ⟨v, start_get c1, c2⟩
  own := fun i p xs q => by
    obtain ⟨d', _, b⟩ := initV_get q
    cases b
  inj := fun i j p q xs ys l h1 => by
    obtain ⟨d', _, b⟩ := initV_get h1
    cases b
theorem initW_get {n : Nat} {xs ds : List D} {i : Nat} {cl : Cell} (h : (initW n xs ds)[i]? = some (some cl)) : (i = 0 ∧ cl = .own true xs) ∨ ∃ j d, i = j + 1 ∧ ds[j]? = some d ∧ cl = .val d := by
  cases i with
  | zero => unfold initW at h; simp at h; exact .inl ⟨rfl, h.symm⟩
  | succ j =>
    unfold initW at h
    rw [List.getElem?_cons_succ] at h
    by_cases hj : j < ds.length
    · rw [List.getElem?_append_left (by rw [List.length_map]; exact hj), List.getElem?_map] at h
      cases q : ds[j]? with
      | none => rw [q] at h; cases h
      | some d => rw [q] at h; cases h; exact .inr ⟨j, d, rfl, q, rfl⟩
    · rw [List.getElem?_append_right (by rw [List.length_map]; omega)] at h
      rw [List.getElem?_replicate] at h
      split at h <;> cases h
theorem rel_initW {K : PySem.W.Frag} {M H : Hp} {N : List Str} {vs : List V} {l : Addr} {ws : List V} {xs ds : List D} (le : Le M H) (hl : H l = some (.lst ws)) (hm : M l = none) (hw : Ats K M ws xs) (h : Ats K M vs ds) (hn : vs.length + 1 ≤ N.length) :
    Rel K M H (L2.start N (V.ref l :: vs)) (initW N.length xs ds) where
  len := by
    rw [start_len (by rw [List.length_cons]; exact hn)]
    unfold initW
    rw [List.length_cons, List.length_append, List.length_map, List.length_replicate, ← h.length]; omega
  le := le
  val := fun i d q => by
    rcases initW_get q with ⟨_, b⟩ | ⟨j, d', rfl, a, b⟩
    · cases b
    · cases b
      obtain ⟨v, c1, c2⟩ := h.get a
      exact ⟨v, start_get (by rw [List.getElem?_cons_succ]; exact c1), c2⟩
  own := fun i p ys q => by
    rcases initW_get q with ⟨rfl, b⟩ | ⟨j, d', rfl, a, b⟩
    · cases b
      exact ⟨l, ws, start_get rfl, hl, hm, hw⟩
    · cases b
  inj := fun i j p q ys zs l' h1 h2 => by
    rcases initW_get h1 with ⟨rfl, b⟩ | ⟨j, d', rfl, a, b⟩
    · rcases initW_get h2 with ⟨rfl, b⟩ | ⟨j, d', rfl, a, b⟩
      · intro _ _; rfl
      · cases b
    · cases b
section
variable {P : Program} {w : World} {K : PySem.W.Frag} {mg : Str → Option Value} {base : Heap}
/-- the description of a def's body -/
abbrev cdOf (P : Program) (w : World) (K : PySem.W.Frag) (mg : Str → Option Value) (base : Heap) (N : List Str) (st : Stmt) (k : Nat) : Cd := ⟨P, w, K, mg, base, N, defScope st, k, true⟩
theorem fits_def {x qual : Str} {st : Stmt} {f : Addr} {N : List Str} {k : Nat} {cdv : Value} {A : Around} {outer : List Env} {s : Shared} {H : Hp} {E : XK} (hr : Room k (A.deeper (PyProof.Rows.envOfC qual (defScope st) s.heap.objs.size f cdv))) (hgd : A.guards = some []) :
    Fits (cdOf P w K mg base N st k) (cxOf CX0 P w K mg base N qual (defScope st) f cdv A outer s H E).nox where
  P := rfl
  w := rfl
  K := rfl
  mg := rfl
  base := rfl
  N := rfl
  sc := rfl
  calm := rfl
  room := hr
  own := PassesOwn.never
  fn := fun _ _ => rfl
  guards := hgd
theorem fn_okV {x qual : Str} {st : Stmt} {f : Addr} {fd : FuncData} {N ps : List Str} {k : Nat} {b : MS} (F : Fun K x qual st f fd) (sc : FnScope N ps (defScope st)) (hb : SSs (cdOf P w K mg base N st k) (defBody st) b) (hn : ps.length ≤ N.length := by decide) :
    FnG P w K mg base CX0 (k + 1) f fd ps (spV K ps.length (fnV N.length ps.length b)) := by
  obtain ⟨t, pt, st'⟩ := hb
  refine fun_G F sc spV_len fun cdv A outer s H vs Q E hr hgd h => ?_
  obtain ⟨hl, M, ds, r, e, le, ha, q⟩ := h
  refine ⟨t, (pt _ (fits_def (x := x) hr hgd)).nox, ?_⟩
  unfold fnV at e
  rw [if_pos (by rw [← ha.length]; exact hl)] at e
  obtain ⟨o, e1, e⟩ := bd e
  have rel := rel_initV (N := N) le ha (by rw [hl]; exact hn)
  have noOwn : ∀ a, ¬ Owned (L2.start N vs) (initV N.length ds) a := fun a ⟨i, p, xs, h1, _⟩ => by
    obtain ⟨d', _, b⟩ := initV_get h1
    cases b
  have gf : ∀ {σ' : L2.St} {s' : S} {M' H' : Hp}, OkS K (L2.start N vs) (initV N.length ds) M H σ' s' M' H' → GoF M H M' H' (fun _ => False) := fun k => ⟨k.go.up, k.rel.le, fun a o h _ => k.go.keep a o h (noOwn a), k.go.there⟩
  refine st' _ _ M H o e1 rel _ ?_
  cases o with
  | nx s' => cases e; exact fun σ' M' H' k => q _ M' H' (gf k) .non
  | bk s' => cases e
  | ct s' => cases e
  | rt r' s' =>
    cases e
    refine fun v σ' M' H' k hr => q v M' H' (gf k) ?_
    cases r with
    | val d => exact hr
    | own xs =>
      obtain ⟨l, us, h0, h1, h2, h3, h4⟩ := hr
      rcases h4 with h4 | ⟨j, ys, z, _⟩
      · exact ⟨l, us, h0, h4, h1, h2, h3⟩
      · obtain ⟨d', _, b⟩ := initV_get z
        cases b
theorem fn_okW {x qual : Str} {st : Stmt} {f : Addr} {fd : FuncData} {N ps : List Str} {k : Nat} {b : MS} (F : Fun K x qual st f fd) (sc : FnScope N ps (defScope st)) (hb : SSs (cdOf P w K mg base N st k) (defBody st) b) (hn : ps.length ≤ N.length := by decide) :
    FnG P w K mg base CX0 (k + 1) f fd ps (spW K ps.length (fnW N.length ps.length b)) := by
  obtain ⟨t, pt, st'⟩ := hb
  refine fun_G F sc spW_len fun cdv A outer s H vs Q E hr hgd h => ?_
  obtain ⟨hl, M, l, ws, vs', xs, ds, r, xs', rfl, h1, h2, h3, h4, e, le, q⟩ := h
  refine ⟨t, (pt _ (fits_def (x := x) hr hgd)).nox, ?_⟩
  rw [List.length_cons] at hl
  unfold fnW at e
  rw [if_pos (by rw [← h4.length]; exact hl)] at e
  obtain ⟨o, e1, e⟩ := bd e
  have rel := rel_initW (N := N) le h1 h2 h3 h4 (by rw [hl]; exact hn)
  have hl0 : (L2.start N (V.ref l :: vs'))[0]? = some (some (V.ref l)) := start_get rfl
  have h00 : (initW N.length xs ds)[0]? = some (some (Cell.own true xs)) := rfl
  have ownL : ∀ a, Owned (L2.start N (V.ref l :: vs')) (initW N.length xs ds) a → a = l := fun a ⟨i, p, ys, z1, z2⟩ => by
    rcases initW_get z1 with ⟨rfl, _⟩ | ⟨j, d', rfl, _, b⟩
    · rw [hl0] at z2; cases z2; rfl
    · cases b
  have gf : ∀ {σ' : L2.St} {s' : S} {M' H' : Hp}, OkS K (L2.start N (V.ref l :: vs')) (initW N.length xs ds) M H σ' s' M' H' → GoF M H M' H' (fun a => a = l) := fun k => ⟨k.go.up, k.rel.le, fun a o h na => k.go.keep a o h (fun z => na (ownL a z)), k.go.there⟩
  -- the list at the end
  have fin : ∀ {σ' : L2.St} {s' : S} {M' H' : Hp} {ys : List D}, OkS K (L2.start N (V.ref l :: vs')) (initW N.length xs ds) M H σ' s' M' H' → s'[0]? = some (some (Cell.own true ys)) → ∃ ws', H' l = some (.lst ws') ∧ M' l = none ∧ Ats K M' ws' ys := fun {σ' s' M' H' ys} k z => by
    obtain ⟨zs, z1, z2⟩ := k.go.port 0 xs h00
    obtain ⟨l', us, a1, a2, a3, a4⟩ := k.rel.own 0 true ys z
    rw [z2, hl0] at a1
    cases a1
    exact ⟨us, a2, a3, a4⟩
  refine st' _ _ M H o e1 rel _ ?_
  cases o with
  | nx s' =>
    obtain ⟨ys, z, e⟩ := bd e
    cases e
    intro σ' M' H' k
    obtain ⟨ws', b1, b2, b3⟩ := fin k (port0_ok z)
    exact q _ M' H' ws' (gf k) b1 b2 b3 .non
  | bk s' => cases e
  | ct s' => cases e
  | rt r' s' =>
    obtain ⟨ys, z, e⟩ := bd e
    cases e
    intro v σ' M' H' k hr
    obtain ⟨ws', b1, b2, b3⟩ := fin k (port0_ok z)
    refine q v M' H' ws' (gf k) b1 b2 b3 ?_
    cases r with
    | val d => exact hr
    | own ys =>
      obtain ⟨l2, us, g0, g1, g2, g3, g4⟩ := hr
      rcases g4 with g4 | ⟨j, ys', z1, _⟩
      · exact ⟨l2, us, g0, g4, g1, g2, g3⟩
      · rcases initW_get z1 with ⟨_, b⟩ | ⟨j', d', _, _, b⟩
        · cases b
        · cases b
end
/-! ### calls -/
def rOf : Ret → R
  | .val d => .val d
  | .own xs => .own xs
theorem ok_ret {K : PySem.W.Frag} {σ : L2.St} {s : S} {M H M' H' : Hp} {v : V} {r : Ret} (rel : Rel K M H σ s) (g : GoF M H M' H' (fun _ => False)) (h : RetF K H M' H' v r) : Ok K σ s M H (rOf r) s v M' H' := by
  have rel' : Rel K M' H' σ s := ⟨rel.len, g.le, fun i d q => let ⟨v, a, b⟩ := rel.val i d q; ⟨v, a, b.mono g.up⟩, fun i p xs q => by
    obtain ⟨l, vs, a, b, c, d⟩ := rel.own i p xs q
    obtain ⟨k1, k2⟩ := g.keep l _ b (fun z => z)
    exact ⟨l, vs, a, k1, k2 c, d.mono g.up⟩, rel.inj⟩
  refine ⟨⟨g.up, fun a o ha _ => g.keep a o ha (fun z => z), g.there, fun i p xs l h1 h2 => .inr ⟨i, xs, h1, h2⟩, fun i xs h => ⟨xs, h, rfl⟩⟩, rel', ?_, ?_⟩
  · cases r with
    | val d => exact h
    | own xs =>
      obtain ⟨l, vs, e, h0, h1, h2, h3⟩ := h
      exact ⟨l, vs, e, h1, h2, rel.not_owned h0, h3⟩
  · cases r with
    | val d => trivial
    | own xs =>
      obtain ⟨l, vs, e, h0, _⟩ := h
      exact ⟨l, e, h0⟩
/-- f(..), f a def that changes nothing; the arguments data that stays (se_frz) -/
def mCallV (f : FnV) (ms : MA) : ME := fun s => (ms s).bind fun p => (vals p.1).bind fun ds => (f ds).bind fun r => some (rOf r, p.2)
theorem sound_callV {K : PySem.W.Frag} {n : Nat} {f : FnV} {E : XK} {ta : TA} {ms : MA} (hn : ∀ ds r, f ds = some r → ds.length = n) (ha : SoundA K ta ms) : Sound K (tCall (spV K n f) [] E ta) (mCallV f ms) := fun σ s M H r s' e rel Q q => by
  obtain ⟨⟨rs, s1⟩, e1, e⟩ := bd e
  obtain ⟨ds, e2, e⟩ := bd e
  obtain ⟨r', e3, e⟩ := bd e
  cases e
  refine ha σ s M H rs _ e1 rel _ fun vs M1 H1 o => ?_
  have hv := vals_ats o.held e2
  rw [List.append_nil]
  exact ⟨by rw [hv.length]; exact hn _ _ e3, M1, ds, r', e3, o.rel.le, hv, fun v M' H' g h => q v M' H' (.behind o.t (ok_ret o.rel g h))⟩
theorem fnV_n {nv np : Nat} {b : MS} : ∀ ds r, fnV nv np b ds = some r → ds.length = np := fun ds r e => by
  unfold fnV at e
  split at e
  · assumption
  · cases e
theorem fnW_n {nv np : Nat} {b : MS} : ∀ xs ds r, fnW nv np b xs ds = some r → ds.length + 1 = np := fun xs ds r e => by
  unfold fnW at e
  split at e
  · assumption
  · cases e
/-- f(x, ..), f may change the list x, one of one's own -/
def mCallW (f : FnW) (mo : ME) (ms : MA) : ME := fun s => (mo s).bind fun p => (ms p.2).bind fun q => (vals q.1).bind fun ds => match p.1 with
  | .slot k => (ownAt (.slot k) q.2).bind fun o => (f o.2.2 ds).bind fun r => some (rOf r.1, q.2.set k (some (.own o.2.1 r.2)))
  | .own xs => (f xs ds).bind fun r => some (rOf r.1, q.2)
  | .val _ => none
theorem sound_callW {K : PySem.W.Frag} {n : Nat} {f : FnW} {E : XK} {te : TE} {ta : TA} {mo : ME} {ms : MA} (hn : ∀ xs ds r, f xs ds = some r → ds.length + 1 = n) (ho : Sound K te mo) (ha : SoundA K ta ms) : Sound K (tCall (spW K n f) [] E (tCons te ta)) (mCallW f mo ms) := fun σ s M H r s' e rel Q q => by
  obtain ⟨⟨r1, s1⟩, e1, e⟩ := bd e
  obtain ⟨⟨rs, s2⟩, e2, e⟩ := bd e
  obtain ⟨ds, e3, e⟩ := bd e
  refine ho σ s M H r1 s1 e1 rel _ fun v0 M1 H1 o1 => ha σ s1 M1 H1 rs s2 e2 o1.rel _ fun vs M2 H2 o2 => ?_
  have hv := vals_ats o2.held e3
  have hd := o1.held.go o2.go o2.rel
  have k12 := o1.t.trans o2.t
  show spW K n f ((v0 :: vs) ++ []) H2 Q E
  rw [List.append_nil]
  cases r1 with
  | val d => cases e
  | slot k =>
    obtain ⟨⟨k', p, xs⟩, e4, e⟩ := bd e
    obtain ⟨⟨rr, ys⟩, e5, e⟩ := bd e
    cases e
    obtain ⟨hk, l, ws, rfl, hl, hH, hM, hats⟩ := ownAt_ok o2.rel hd e4
    have hkk : k' = k := by
      unfold ownAt at e4
      simp only at e4
      split at e4
      · cases e4; rfl
      · cases e4
    subst hkk
    refine ⟨by rw [List.length_cons, hv.length]; exact hn _ _ _ e5, M2, l, ws, vs, xs, ds, rr, ys, rfl, hH, hM, hats, hv, e5, o2.rel.le, fun v M' H' ws' g hH' hM' hats' hret => q v M' H' (.behind k12 ?_)⟩
    have hkl : k' < s2.length := by
      rcases Nat.lt_or_ge k' s2.length with z | z
      · exact z
      · rw [List.getElem?_eq_none z] at hk; cases hk
    have ne : ∀ j q ys l2, j ≠ k' → s2[j]? = some (some (Cell.own q ys)) → σ[j]? = some (some (V.ref l2)) → l2 ≠ l := fun j q ys l2 hj h1 h2 e => by
      subst e
      exact hj (o2.rel.inj j k' q p ys xs l2 h1 hk h2 hl)
    have notO : ∀ {l2}, H2 l2 = none → ¬ Owned σ (s2.set k' (some (Cell.own p ys))) l2 := fun {l2} hz ⟨j, p2, zs, z1, z2⟩ => by
      rcases set_get z1 with ⟨rfl, _⟩ | ⟨_, z⟩
      · rw [hl] at z2; cases z2; rw [hH] at hz; cases hz
      · exact o2.rel.not_owned hz ⟨j, p2, zs, z, z2⟩
    refine ⟨⟨g.up, fun a o ha' hna => g.keep a o ha' fun z => hna ⟨k', p, xs, hk, by rw [z]; exact hl⟩, g.there, fun j p2 zs l2 h1 h2 => ?_, fun j zs h => ?_⟩, ⟨by rw [List.length_set]; exact o2.rel.len, g.le, fun j d h => ?_, fun j p2 zs h => ?_, fun j1 j2 p1 p2 zs1 zs2 l2 h1 h2 h3 h4 => ?_⟩, ?_, ?_⟩
    · rcases set_get h1 with ⟨rfl, z⟩ | ⟨_, z⟩
      · cases z; exact .inr ⟨j, xs, hk, h2⟩
      · exact .inr ⟨j, zs, z, h2⟩
    · by_cases e : k' = j
      · subst e
        rw [hk] at h
        cases h
        exact ⟨ys, List.getElem?_set_self hkl, rfl⟩
      · exact ⟨zs, by rw [List.getElem?_set_ne e]; exact h, rfl⟩
    · rcases set_get h with ⟨_, z⟩ | ⟨_, z⟩
      · cases z
      · obtain ⟨v, a, b⟩ := o2.rel.val j d z
        exact ⟨v, a, b.mono g.up⟩
    · rcases set_get h with ⟨rfl, z⟩ | ⟨hj, z⟩
      · cases z
        exact ⟨l, ws', hl, hH', hM', hats'⟩
      · obtain ⟨l2, us, a, b, cc, d⟩ := o2.rel.own j p2 zs z
        obtain ⟨k1, k2⟩ := g.keep l2 _ b (ne j p2 zs l2 hj z a)
        exact ⟨l2, us, a, k1, k2 cc, d.mono g.up⟩
    · have get : ∀ m r us, (s2.set k' (some (Cell.own p ys)))[m]? = some (some (Cell.own r us)) → ∃ r' us', s2[m]? = some (some (Cell.own r' us')) := fun m r us hm => by
        rcases set_get hm with ⟨rfl, _⟩ | ⟨_, z⟩
        · exact ⟨p, xs, hk⟩
        · exact ⟨r, us, z⟩
      obtain ⟨r1, u1, g1⟩ := get j1 p1 zs1 h1
      obtain ⟨r2, u2, g2⟩ := get j2 p2 zs2 h2
      exact o2.rel.inj j1 j2 r1 r2 u1 u2 l2 g1 g2 h3 h4
    · cases rr with
      | val d => exact hret
      | own zs =>
        obtain ⟨l2, us, e, h0, h1, h2, h3⟩ := hret
        exact ⟨l2, us, e, h1, h2, notO h0, h3⟩
    · cases rr with
      | val d => trivial
      | own zs =>
        obtain ⟨l2, us, e, h0, _⟩ := hret
        exact ⟨l2, e, h0⟩
  | own xs =>
    obtain ⟨⟨rr, ys⟩, e5, e⟩ := bd e
    cases e
    obtain ⟨l, ws, rfl, hH, hM, hno, hats⟩ := hd
    refine ⟨by rw [List.length_cons, hv.length]; exact hn _ _ _ e5, M2, l, ws, vs, xs, ds, rr, ys, rfl, hH, hM, hats, hv, e5, o2.rel.le, fun v M' H' ws' g hH' hM' hats' hret => q v M' H' ?_⟩
    -- the list was new: the caller's caller does not know it
    obtain ⟨l', e', hnew⟩ := o1.new
    cases e'
    have neO : ∀ j q zs l2, s2[j]? = some (some (Cell.own q zs)) → σ[j]? = some (some (V.ref l2)) → l2 ≠ l := fun j q zs l2 h1 h2 e => by
      subst e
      exact hno ⟨j, q, zs, h1, h2⟩
    refine ⟨⟨k12.go.up.trans g.up, fun a o ha' hna => ?_, fun a o ha' => ?_, k12.go.own, k12.go.port⟩, ⟨o2.rel.len, g.le, fun j d h => ?_, fun j p2 zs h => ?_, o2.rel.inj⟩, ?_, ?_⟩
    · obtain ⟨x1, x2⟩ := k12.go.keep a o ha' hna
      obtain ⟨y1, y2⟩ := g.keep a o x1 (fun z => by subst z; rw [hnew] at ha'; cases ha')
      exact ⟨y1, fun z => y2 (x2 z)⟩
    · obtain ⟨o', x1⟩ := k12.go.there a o ha'
      exact g.there a o' x1
    · obtain ⟨v, a, b⟩ := o2.rel.val j d h
      exact ⟨v, a, b.mono g.up⟩
    · obtain ⟨l2, us, a, b, cc, d⟩ := o2.rel.own j p2 zs h
      obtain ⟨k1, k2⟩ := g.keep l2 _ b (neO j p2 zs l2 h a)
      exact ⟨l2, us, a, k1, k2 cc, d.mono g.up⟩
    · cases rr with
      | val d => exact hret
      | own zs =>
        obtain ⟨l2, us, e, h0, h1, h2, h3⟩ := hret
        exact ⟨l2, us, e, h1, h2, fun ⟨j, p2, us', z1, z2⟩ => o2.rel.not_owned h0 ⟨j, p2, us', z1, z2⟩, h3⟩
    · cases rr with
      | val d => trivial
      | own zs =>
        obtain ⟨l2, us, e, h0, _⟩ := hret
        exact ⟨l2, e, k12.go.free h0⟩
section
variable {c : Cd} {e : Expr} {es : List Expr} {p pos : Pos} {ms : MA} {mo : ME} {x : Str} {f : Addr} {fd : FuncData} {ps : List Str} {k n : Nat}
theorem Fits.fnOk {X : Cx} {sp : Sp} (g : Fits c X) (F : FnG c.P c.w c.K c.mg c.base CX0 k f fd ps sp) : FnG X.prog X.w X.K X.mg X.base CX0 k f fd ps sp := by
  rw [g.P, g.w, g.K, g.mg, g.base]; exact F
theorem se_callV {fn : FnV} (F : FnG c.P c.w c.K c.mg c.base CX0 k f fd ps (spV c.K n fn)) (hn : ∀ ds r, fn ds = some r → ds.length = n) (hk : k ≤ c.k) (hg : ∀ X : Cx, Fits c X → Gl X x) (hm : c.mg x = some (.ref f)) (kp : PySem.W.keepIn c.K (.ref f) = true) (hb : Binds c.K fd ps [])
    (ha : SA c (e :: es) ms) (hdb : (x == ("__debug__" : Str)) = false := by decide) (he : ∀ env, starEach (e :: es) env = (false, eval e env) :: starEach es env := by intro _; rfl) (hpl : ∀ env, (backTo pos (starEach es env)).any (·.1) = false := by intro _; rfl) : SE c (.Call (.Name x p) (e :: es) [] pos) (mCallV fn ms) := by
  obtain ⟨ta, pa, sa⟩ := ha
  exact ⟨tCall (spV c.K n fn) [] E0 ta, fun X g => pe_callG (g.fnOk F) (g.room.mono hk) g.guards (hg X g) (by rw [g.mg]; exact hm) (by rw [g.K]; exact kp) (by rw [g.K]; exact hb) pass0 (pa X g) hdb (he X.env) (hpl X.env), sound_callV hn sa⟩
theorem se_callW {fn : FnW} (F : FnG c.P c.w c.K c.mg c.base CX0 k f fd ps (spW c.K n fn)) (hn : ∀ xs ds r, fn xs ds = some r → ds.length + 1 = n) (hk : k ≤ c.k) (hg : ∀ X : Cx, Fits c X → Gl X x) (hm : c.mg x = some (.ref f)) (kp : PySem.W.keepIn c.K (.ref f) = true) (hb : Binds c.K fd ps [])
    (ho : SE c e mo) (ha : SA c es ms) (hdb : (x == ("__debug__" : Str)) = false := by decide) (he : ∀ env, starEach (e :: es) env = (false, eval e env) :: starEach es env := by intro _; rfl) (hpl : ∀ env, (backTo pos (starEach es env)).any (·.1) = false := by intro _; rfl) : SE c (.Call (.Name x p) (e :: es) [] pos) (mCallW fn mo ms) := by
  obtain ⟨te, pe, se⟩ := ho
  obtain ⟨ta, pa, sa⟩ := ha
  exact ⟨tCall (spW c.K n fn) [] E0 (tCons te ta), fun X g => pe_callG (g.fnOk F) (g.room.mono hk) g.guards (hg X g) (by rw [g.mg]; exact hm) (by rw [g.K]; exact kp) (by rw [g.K]; exact hb) pass0 (pa_cons (pe X g) (pa X g) (he X.env)) hdb (he X.env) (hpl X.env), sound_callW hn se sa⟩
/-! keywords -/
def SK (c : Cd) (kws : List Keyword) (m : MA) : Prop := ∃ t : TA, (∀ X, Fits c X → PK X kws t) ∧ SoundA c.K t m
theorem sk_nil : SK c [] mNil := ⟨_, fun _ _ => pk_nil, fun σ s M H rs s' e rel Q q => by cases e; exact q [] M H ⟨Go.refl, rel, .nil, .nil⟩⟩
theorem sk_cons {kws : List Keyword} {nm : Option Str} {kpos : Pos} {m : ME} {ms : MA} (h : SE c e m) (hr : SK c kws ms) : SK c (⟨nm, e, kpos⟩ :: kws) (mCons m ms) := by
  obtain ⟨t, p, sd⟩ := h
  obtain ⟨ts, ps, sds⟩ := hr
  refine ⟨_, fun X g => pk_cons (p X g) (ps X g), fun σ s M H rs s' e rel Q q => ?_⟩
  obtain ⟨⟨r1, s1⟩, e1, e⟩ := bd e
  obtain ⟨⟨r2, s2⟩, e2, e⟩ := bd e
  cases e
  refine sd σ s M H r1 s1 e1 rel _ fun v M1 H1 o1 => sds σ s1 M1 H1 r2 _ e2 o1.rel _ fun vs M2 H2 o2 => ?_
  exact q _ M2 H2 ⟨o1.go.trans o2.go, o2.rel, .cons (o1.held.go o2.go o2.rel) o2.held, .cons o1.new (o2.new.back fun l h => o1.go.free h)⟩
theorem se_callVK {fn : FnV} {kws : List Keyword} (F : FnG c.P c.w c.K c.mg c.base CX0 k f fd ps (spV c.K n fn)) (hn : ∀ ds r, fn ds = some r → ds.length = n) (hk : k ≤ c.k) (hg : ∀ X : Cx, Fits c X → Gl X x) (hm : c.mg x = some (.ref f)) (kp : PySem.W.keepIn c.K (.ref f) = true)
    (hb : ∀ (s : Shared) (ws : List Value), ws.length = ps.length → BindsTo s fd ⟨[], ps.zip ws⟩ (ps.zip ws)) (ha : SK c kws ms) (hall : ∀ env, (backToKw pos (keywordEach kws env)).all (·.1.isSome) = true := by intro _; rfl) (hks : ∀ env, (backToKw pos (keywordEach kws env)).filterMap (·.1) = ps := by intro _; rfl)
    (hdb : (x == ("__debug__" : Str)) = false := by decide) (hpl : ∀ env, ((backTo pos (starEach [] env)).any (·.1) || (backToKw pos (keywordEach kws env)).any (·.1.isNone)) = false := by intro _; rfl) : SE c (.Call (.Name x p) [] kws pos) (mCallV fn ms) := by
  obtain ⟨ta, pa, sa⟩ := ha
  exact ⟨tCall (spV c.K n fn) [] E0 ta, fun X g => pe_callGK (g.fnOk F) (g.room.mono hk) g.guards (hg X g) (by rw [g.mg]; exact hm) (by rw [g.K]; exact kp) hb pass0 (pa X g) (hall X.env) (hks X.env) hdb (hpl X.env), sound_callV hn sa⟩
/-- a global name that is none of the def's own -/
theorem gl_of {X : Cx} (g : Fits c X) (h : c.sc.names.lookup x = some .globalImplicit) : Gl X x := by
  show X.env.kindOf x = some .globalImplicit
  unfold Env.kindOf
  rw [g.sc]; exact h
end
end Dm
set_option Elab.async false
set_option linter.all false
set_option maxRecDepth 100000
set_option maxHeartbeats 4000000
namespace Dm
open PySem PySem.Spec L2
set_option autoImplicit false

/-! ### ==, != -/
mutual
def toP : D → PyData
  | .non => .none
  | .bl b => .bool b
  | .int i => .int i
  | .str x => .str x
  | .tup xs => .tuple (toPs xs)
  | .lst xs => .list (toPs xs)
  | .dic _ _ => .none
def toPs : List D → List PyData
  | [] => []
  | x :: xs => toP x :: toPs xs
end
mutual
/-- no dict in it -/
def noDic : D → Bool
  | .tup xs => noDics xs
  | .lst xs => noDics xs
  | .dic _ _ => false
  | _ => true
def noDics : List D → Bool
  | [] => true
  | x :: xs => noDic x && noDics xs
end
mutual
theorem At.dp {K : PySem.W.Frag} {H : Hp} : ∀ {v : V} {d : D}, At K H v d → noDic d = true → Dp K H v (toP d)
  | _, _, .non, _ => .non
  | _, _, .bl b, _ => .bl b
  | _, _, .int i, _ => .int i
  | _, _, .str x, _ => .str x
  | _, _, .lst h q, e => .lst h (Ats.dp q e)
  | _, _, .tup h q, e => .tup h (Ats.dp q e)
  | _, _, .dic _ _, e => by cases e
theorem Ats.dp {K : PySem.W.Frag} {H : Hp} : ∀ {vs : List V} {ds : List D}, Ats K H vs ds → noDics ds = true → DpAll K H vs (toPs ds)
  | _, _, .nil, _ => .nil
  | _, _, .cons h q, e => by
    have e' : (noDic _ && noDics _) = true := e
    rw [Bool.and_eq_true] at e'
    exact .cons (At.dp h e'.1) (Ats.dp q e'.2)
end
def shp (d : D) : Bool := noDic d && SeqAt.shaped (toP d)
def fEq : D → D → Option D := fun d e => if shp d && shp e then some (.bl (PyData.eqv (toP d) (toP e))) else none
def fNe : D → D → Option D := fun d e => if shp d && shp e then some (.bl (!PyData.eqv (toP d) (toP e))) else none
theorem shp_ok {d : D} (h : shp d = true) : noDic d = true ∧ SeqAt.shaped (toP d) = true := by
  unfold shp at h
  rw [Bool.and_eq_true] at h
  exact h
theorem sc_eq {K : PySem.W.Frag} : Sc2 K (rEqD K) fEq := fun H v w d e z hv hw q => by
  unfold fEq at q
  split at q
  · rename_i hs
    rw [Bool.and_eq_true] at hs
    cases q
    obtain ⟨a1, a2⟩ := shp_ok hs.1
    obtain ⟨b1, b2⟩ := shp_ok hs.2
    exact ⟨_, fun _ => .bl _, fun Q k => ⟨_, _, hv.dp a1, hw.dp b1, a2, b2, k⟩⟩
  · cases q
theorem sc_ne {K : PySem.W.Frag} : Sc2 K (rNeD K) fNe := fun H v w d e z hv hw q => by
  unfold fNe at q
  split at q
  · rename_i hs
    rw [Bool.and_eq_true] at hs
    cases q
    obtain ⟨a1, a2⟩ := shp_ok hs.1
    obtain ⟨b1, b2⟩ := shp_ok hs.2
    exact ⟨_, fun _ => .bl _, fun Q k => ⟨_, _, hv.dp a1, hw.dp b1, a2, b2, k⟩⟩
  · cases q
/-! ### in, not in: flat things -/
def flatD : D → Bool
  | .non => true
  | .bl _ => true
  | .int _ => true
  | .str _ => true
  | _ => false
def eqF : D → D → Bool
  | .non, .non => true
  | .bl a, .bl b => a == b
  | .bl a, .int b => (if a then 1 else 0) == b
  | .int a, .bl b => a == (if b then 1 else 0)
  | .int a, .int b => a == b
  | .str a, .str b => a == b
  | _, _ => false
def inD (x : D) (xs : List D) : Bool := xs.any fun y => eqF y x
theorem flat_at {K : PySem.W.Frag} {H : Hp} {v : V} {d : D} (h : At K H v d) (e : flatD d = true) : flatV v = true := by
  cases h <;> first | rfl | cases e
theorem flats_at {K : PySem.W.Frag} {H : Hp} : ∀ {vs : List V} {ds : List D}, Ats K H vs ds → ds.all flatD = true → vs.all flatV = true
  | _, _, .nil, _ => rfl
  | _, _, .cons h t, e => by
    rw [List.all_cons, Bool.and_eq_true] at e ⊢
    exact ⟨flat_at h e.1, flats_at t e.2⟩
theorem eqF_at {K : PySem.W.Frag} {H : Hp} {v w : V} {d e : D} (h : At K H v d) (h' : At K H w e) : eqV v w = eqF d e := by
  cases h <;> cases h' <;> rfl
theorem inD_at {K : PySem.W.Frag} {H : Hp} {v : V} {d : D} (h : At K H v d) : ∀ {vs : List V} {ds : List D}, Ats K H vs ds → inV v vs = inD d ds
  | _, _, .nil => rfl
  | _, _, .cons a t => by
    unfold inV inD
    rw [List.any_cons, List.any_cons, eqF_at a h]
    have := inD_at h t
    unfold inV inD at this
    rw [this]
def fIn (neg : Bool) : D → D → Option D := fun d e => (seqD e).bind fun xs => if flatD d && xs.all flatD then some (.bl (if neg then !inD d xs else inD d xs)) else none
theorem sc_in {K : PySem.W.Frag} (neg : Bool) : Sc2 K (rIn K neg) (fIn neg) := fun H v w d e z hv hw q => by
  obtain ⟨xs, e1, q⟩ := bd q
  split at q
  · rename_i hf
    rw [Bool.and_eq_true] at hf
    cases q
    obtain ⟨l, ws, rfl, hs, ha⟩ := hw.seq e1
    refine ⟨.bl (if neg then !inV v ws else inV v ws), fun M => ?_, fun Q k => ⟨l, ws, rfl, hs, flat_at hv hf.1, flats_at ha hf.2, k⟩⟩
    rw [inD_at hv ha]
    exact .bl _
  · cases q
/-! ### is None -/
def fIsN : D → D → Option D := fun d e => match e with
  | .non => some (.bl (match d with | .non => true | _ => false))
  | _ => none
def fNotN : D → D → Option D := fun d e => match e with
  | .non => some (.bl (match d with | .non => false | _ => true))
  | _ => none
theorem sc_isN {K : PySem.W.Frag} : Sc2 K (fun x y H Q => y = .non ∧ Q (.bl (decide (x = .non))) H) fIsN := fun H v w d e z hv hw q => by
  cases hw <;> try (cases q; done)
  cases q
  refine ⟨.bl (decide (v = .non)), fun M => ?_, fun Q k => ⟨rfl, k⟩⟩
  cases hv <;> exact .bl _
theorem sc_notN {K : PySem.W.Frag} : Sc2 K (fun x y H Q => y = .non ∧ Q (.bl (!decide (x = .non))) H) fNotN := fun H v w d e z hv hw q => by
  cases hw <;> try (cases q; done)
  cases q
  refine ⟨.bl (!decide (v = .non)), fun M => ?_, fun Q k => ⟨rfl, k⟩⟩
  cases hv <;> exact .bl _
section
variable {c : Cd} {a b : Expr} {pos : Pos} {ma mb : ME}
theorem se_eq (ha : SE c a ma) (hb : SE c b mb) : SE c (.Compare a [.Eq] [b] pos) (mBin fEq ma mb) := se_cmp (r2 := rEqD) (fun X g => op_eqD g.room.units) sc_eq (nomark _) ha hb
theorem se_ne (ha : SE c a ma) (hb : SE c b mb) : SE c (.Compare a [.NotEq] [b] pos) (mBin fNe ma mb) := se_cmp (r2 := rNeD) (fun X g => op_neD g.room.units) sc_ne (nomark _) ha hb
theorem st_eq (ha : SE c a ma) (hb : SE c b mb) : ST c (.Compare a [.Eq] [b] pos) (mTest (mBin fEq ma mb)) := st_cmp (r2 := rEqD) (fun X g => op_eqD g.room.units) sc_eq (nomark _) ha hb
theorem st_ne (ha : SE c a ma) (hb : SE c b mb) : ST c (.Compare a [.NotEq] [b] pos) (mTest (mBin fNe ma mb)) := st_cmp (r2 := rNeD) (fun X g => op_neD g.room.units) sc_ne (nomark _) ha hb
theorem se_in (ha : SE c a ma) (hb : SE c b mb) (hm : behindInMarks .In b = false := by rfl) : SE c (.Compare a [.In] [b] pos) (mBin (fIn false) ma mb) := se_cmp (r2 := fun K => rIn K false) (fun X g => op_in_seq) (sc_in false) hm ha hb
theorem se_nin (ha : SE c a ma) (hb : SE c b mb) (hm : behindInMarks .NotIn b = false := by rfl) : SE c (.Compare a [.NotIn] [b] pos) (mBin (fIn true) ma mb) := se_cmp (r2 := fun K => rIn K true) (fun X g => op_notIn_seq) (sc_in true) hm ha hb
theorem st_in (ha : SE c a ma) (hb : SE c b mb) (hm : behindInMarks .In b = false := by rfl) : ST c (.Compare a [.In] [b] pos) (mTest (mBin (fIn false) ma mb)) := st_cmp (r2 := fun K => rIn K false) (fun X g => op_in_seq) (sc_in false) hm ha hb
theorem st_nin (ha : SE c a ma) (hb : SE c b mb) (hm : behindInMarks .NotIn b = false := by rfl) : ST c (.Compare a [.NotIn] [b] pos) (mTest (mBin (fIn true) ma mb)) := st_cmp (r2 := fun K => rIn K true) (fun X g => op_notIn_seq) (sc_in true) hm ha hb
theorem se_isN (ha : SE c a ma) (hb : SE c b mb) : SE c (.Compare a [.Is] [b] pos) (mBin fIsN ma mb) := se_cmp (r2 := fun _ => _) (fun _ _ => op_isN) sc_isN (nomark _) ha hb
theorem se_notN (ha : SE c a ma) (hb : SE c b mb) : SE c (.Compare a [.IsNot] [b] pos) (mBin fNotN ma mb) := se_cmp (r2 := fun _ => _) (fun _ _ => op_notN) sc_notN (nomark _) ha hb
theorem st_isN (ha : SE c a ma) (hb : SE c b mb) : ST c (.Compare a [.Is] [b] pos) (mTest (mBin fIsN ma mb)) := st_cmp (r2 := fun _ => _) (fun _ _ => op_isN) sc_isN (nomark _) ha hb
theorem st_notN (ha : SE c a ma) (hb : SE c b mb) : ST c (.Compare a [.IsNot] [b] pos) (mTest (mBin fNotN ma mb)) := st_cmp (r2 := fun _ => _) (fun _ _ => op_notN) sc_notN (nomark _) ha hb
end
/-! ### repr -/
def okR (d : PyData) : Bool := d.showable && !d.hasDict && decide (d.depth ≤ 60) && decide (d.shown.length ≤ 16000000)
def fRepr : List D → Option D
  | [d] => if noDic d && okR (toP d) then some (.str (toP d).shown) else none
  | _ => none
theorem sixteen : (16000000 : Nat) ≤ sizeLine := by decide
def rRepr (K : PySem.W.Frag) : RC := fun vs H Q => ∃ v d, vs = [v] ∧ Dp K H v d ∧ okR d = true ∧ Q (.str d.shown) H
theorem call_reprD {X : Cx} (gd : X.A.guards = some []) (hu : X.A.units + 64 < cLine) : CallR X (.builtin "repr") (rRepr X.K) := by
  intro pins s σ H vs us Q I r h
  obtain ⟨v, d, rfl, hd, ok, q⟩ := h
  obtain ⟨u, rfl, ru⟩ := vals1 r
  unfold okR at ok
  simp only [Bool.and_eq_true, decide_eq_true_eq, Bool.not_eq_true'] at ok
  obtain ⟨⟨⟨o1, o2⟩, o3⟩, o4⟩ := ok
  have o5 : d.shown.length ≤ sizeLine := Nat.le_trans o4 sixteen
  have byref : ∀ a, u = .ref a → wpAny (model X.prog X.w) X.A (call (.builtin "repr") [u]) (EP X pins σ Q) X.xe s := fun a e => by
    subst e
    obtain ⟨as, rd⟩ := Dp.reads I d v (.ref a) hd ru
    exact repr_of_reads' rd o1 (fun z => by rw [o2] at z; cases z) gd (by omega) (fun _ _ z => z) (fun h' t tk hk => ⟨.str d.shown, H, I.kept hk, ⟨t, rfl⟩, q⟩) o5
  cases hd with
  | non => cases ru; exact PySem.P.repr_of_none ⟨.str _, H, I.tok _, ⟨_, rfl⟩, q⟩
  | bl b =>
    cases ru
    exact PySem.P.repr_of_bool ⟨.str _, H, I.tok _, ⟨_, rfl⟩, by cases b <;> exact q⟩
  | int i =>
    obtain ⟨t, rfl⟩ := ru
    exact PySem.P.repr_of_int (by simpa [PyData.showable] using o1) ⟨.str _, H, I.tok _, ⟨_, rfl⟩, q⟩
  | str x =>
    obtain ⟨t, rfl⟩ := ru
    exact PySem.P.repr_of_str ⟨.str _, H, I.tok _, ⟨_, rfl⟩, q⟩ o5
  | lst h1 h2 => exact byref _ ru
  | tup h1 h2 => exact byref _ ru
theorem sc_repr {K : PySem.W.Frag} : Sc1 K (rRepr K) fRepr := fun H vs ds z h e => by
  unfold fRepr at e
  split at e
  · split at e
    · rename_i hs
      rw [Bool.and_eq_true] at hs
      cases e
      obtain ⟨v, rfl, ha⟩ := ats1 h
      exact ⟨_, fun _ => .str _, fun Q q => ⟨v, _, rfl, ha.dp hs.1, hs.2, q⟩⟩
    · cases e
  · cases e
section
variable {c : Cd} {e a b : Expr} {es : List Expr} {p pos : Pos} {ms : MA} {m ma mb : ME}
theorem se_repr (hg : ∀ X : Cx, Fits c X → Gl X "repr") (hm : c.mg "repr" = none) (ha : SA c (e :: es) ms) (he : ∀ env, starEach (e :: es) env = (false, eval e env) :: starEach es env := by intro _; rfl) (hpl : ∀ env, (backTo pos (starEach es env)).any (·.1) = false := by intro _; rfl) :
    SE c (.Call (.Name "repr" p) (e :: es) [] pos) (mCS fRepr ms) := se_callB (r := rRepr) (fun X g => call_reprD g.guards g.room.units) sc_repr hg hm (by decide +kernel) ha (by decide) (by decide) he hpl
/-! ### lists and tuples: times, plus, slices -/
/-- [..] * n, of a list of one's own -/
def mRep (ma mb : ME) : ME := fun s => (ma s).bind fun p => (mb p.2).bind fun q => (peek q.1 q.2).bind fun e => (asI e).bind fun k => match p.1 with
  | .own xs => if xs.length * k.toNat ≤ 100000 ∧ small k = true then some (.own (List.replicate k.toNat xs).flatten, q.2) else none
  | _ => none
theorem se_rep (ha : SE c a ma) (hb : SE c b mb) : SE c (.BinOp a .Mult b pos) (mRep ma mb) := by
  obtain ⟨ta, pa, sa⟩ := ha
  obtain ⟨tb, pb, sb⟩ := hb
  refine ⟨tOp rRep ta tb, fun X g => pe_op op_rep (pa X g) (pb X g), fun σ s M H r s' e rel Q q => ?_⟩
  obtain ⟨⟨r1, s1⟩, e1, e⟩ := bd e
  obtain ⟨⟨r2, s2⟩, e2, e⟩ := bd e
  obtain ⟨d, e3, e⟩ := bd e
  obtain ⟨k, e4, e⟩ := bd e
  cases r1 with
  | val d => cases e
  | slot i => cases e
  | own xs =>
    simp only at e
    split at e
    · rename_i hc
      cases e
      refine sa σ s M H _ s1 e1 rel _ fun v M1 H1 o1 => sb σ s1 M1 H1 r2 _ e2 o1.rel _ fun w M2 H2 o2 => ?_
      obtain ⟨g, hd⟩ := o1.then o2
      obtain ⟨l, vs, rfl, h1, h2, h3, h4⟩ := hd
      have hw := asI_at (o2.held.at o2.rel e3) e4
      subst hw
      obtain ⟨b1, b2⟩ := small_ok hc.2
      exact ⟨l, k, vs, rfl, rfl, h1, by omega, by omega, sz_of (by rw [h4.length]; exact hc.1), fun p hp => q _ _ _ (.behind ⟨g, o2.rel⟩ (ok_lst o2.rel hp (h4.rep k.toNat)))⟩
    · cases e
/-- t + u, tuples that stay -/
def mCatT (ma mb : ME) : ME := fun s => (ma s).bind fun p => (mb p.2).bind fun q => match p.1, q.1 with
  | .val (.tup xs), .val (.tup ys) => if xs.length + ys.length ≤ 100000 then some (.val (.tup (xs ++ ys)), q.2) else none
  | _, _ => none
/-- t[i:j], a tuple that stays -/
def mSlT (ma : ME) (ml mh : MO) : ME := fun s => (ma s).bind fun p => (ml p.2).bind fun l => (mh l.2).bind fun h => (peek p.1 h.2).bind fun d => match d with
  | .tup xs => some (.val (.tup (cutD xs l.1 h.1)), h.2)
  | _ => none
end
end Dm
set_option Elab.async false
set_option linter.all false
set_option maxRecDepth 100000
set_option maxHeartbeats 4000000
namespace Dm
open PySem PySem.Spec L2
set_option autoImplicit false

section
variable {c : Cd} {e a b : Expr} {es : List Expr} {p p2 pos : Pos} {ms : MA} {m ma mb : ME}
theorem se_catT (ha : SE c a ma) (hb : SE c b mb) : SE c (.BinOp a .Add b pos) (mCatT ma mb) := by
  obtain ⟨ta, pa, sa⟩ := ha
  obtain ⟨tb, pb, sb⟩ := hb
  refine ⟨tOp (rCatA c.K) ta tb, fun X g => by have := op_catA (X := X); rw [g.K] at this; exact pe_op this (pa X g) (pb X g), fun σ s M H r s' e rel Q q => ?_⟩
  obtain ⟨⟨r1, s1⟩, e1, e⟩ := bd e
  obtain ⟨⟨r2, s2⟩, e2, e⟩ := bd e
  simp only at e
  split at e
  · split at e
    · rename_i xs ys hl
      cases e
      refine sa σ s M H _ s1 e1 rel _ fun v M1 H1 o1 => sb σ s1 M1 H1 _ _ e2 o1.rel _ fun w M2 H2 o2 => ?_
      obtain ⟨g, hd⟩ := o1.then o2
      have hv : At c.K M2 v (.tup _) := hd
      have hw : At c.K M2 w (.tup _) := o2.held
      have hv0 := hv
      have hw0 := hw
      cases hv with
      | tup h1 h2 =>
        cases hw with
        | tup h3 h4 =>
          refine ⟨_, _, _, _, rfl, rfl, o2.rel.le.sqT h1, o2.rel.le.sqT h3, sz_of (by rw [h2.length, h4.length]; exact hl), fun z => ?_, fun _ z => ?_, fun _ _ p hp => q _ _ _ (.behind ⟨g, o2.rel⟩ (ok_tup o2.rel hp (h2.append h4)))⟩
          · subst z
            cases h2
            exact q _ M2 H2 (.behind ⟨g, o2.rel⟩ (.same (r := .val _) o2.rel hw0 trivial))
          · subst z
            cases h4
            rw [List.append_nil] at q
            exact q _ M2 H2 (.behind ⟨g, o2.rel⟩ (.same (r := .val _) o2.rel hv0 trivial))
    · cases e
  · cases e
theorem se_slT {lo hi : Option Expr} {ml mh : MO} (ha : SE c a ma) (hl : SO c lo ml) (hh : SO c hi mh) : SE c (.Subscript a (.Slice lo hi none p2) pos) (mSlT ma ml mh) := by
  obtain ⟨ta, pa, sa⟩ := ha
  obtain ⟨tl, pl, sl⟩ := hl
  obtain ⟨th, ph, sh⟩ := hh
  refine ⟨tSl (rSlA c.K) ta tl th, fun X g => by have := sl_tupA (X := X); rw [g.K] at this; exact pe_slice this (pa X g) (pl X g) (ph X g), fun σ s M H r s' e rel Q q => ?_⟩
  obtain ⟨⟨r1, s1⟩, e1, e⟩ := bd e
  obtain ⟨⟨o2, s2⟩, e2, e⟩ := bd e
  obtain ⟨⟨o3, s3⟩, e3, e⟩ := bd e
  obtain ⟨d1, p1, e⟩ := bd e
  cases d1 <;> try (cases e; done)
  rename_i xs
  cases e
  refine sa σ s M H r1 s1 e1 rel _ fun v M1 H1 k1 => sl σ s1 M1 H1 o2 s2 e2 k1.rel _ fun M2 H2 k2 => sh σ s2 M2 H2 o3 _ e3 k2.rel _ fun M3 H3 k3 => ?_
  have hd := k1.held.go (k2.go.trans k3.go) k3.rel
  have hk := k1.t.trans (k2.trans k3)
  rcases hd.peek k3.rel p1 with z | ⟨_, _, _, _, _, _, _, z⟩
  · have z0 := z
    cases z with
    | tup h1 h2 =>
      refine ⟨_, _, rfl, k3.rel.le.sqT h1, fun w => ?_, fun _ p hp => q _ _ _ (.behind hk (ok_tup k3.rel hp (ats_cut h2 _ _)))⟩
      have : cutD xs o2 o3 = xs := by
        unfold cutD
        rw [h2.length] at w
        rw [w.1, w.2]
        simp
      rw [this] at q
      exact q _ M3 H3 (.behind hk (.same (r := .val _) k3.rel z0 trivial))
  · cases z
/-! t * n -/
def mRepT (ma mb : ME) : ME := fun s => (ma s).bind fun p => (mb p.2).bind fun q => (peek q.1 q.2).bind fun e => (asI e).bind fun k => match p.1 with
  | .val (.tup xs) => if 0 < xs.length ∧ xs.length ≤ 1000 ∧ 2 ≤ k ∧ k ≤ 1000 then some (.val (.tup (List.replicate k.toNat xs).flatten), q.2) else none
  | _ => none
theorem se_repT (ha : SE c a ma) (hb : SE c b mb) : SE c (.BinOp a .Mult b pos) (mRepT ma mb) := by
  obtain ⟨ta, pa, sa⟩ := ha
  obtain ⟨tb, pb, sb⟩ := hb
  refine ⟨tOp (rRepT c.K) ta tb, fun X g => by have := op_repT (X := X); rw [g.K] at this; exact pe_op this (pa X g) (pb X g), fun σ s M H r s' e rel Q q => ?_⟩
  obtain ⟨⟨r1, s1⟩, e1, e⟩ := bd e
  obtain ⟨⟨r2, s2⟩, e2, e⟩ := bd e
  obtain ⟨d, e3, e⟩ := bd e
  obtain ⟨k, e4, e⟩ := bd e
  simp only at e
  split at e
  · split at e
    · rename_i xs hc
      cases e
      refine sa σ s M H _ s1 e1 rel _ fun v M1 H1 o1 => sb σ s1 M1 H1 r2 _ e2 o1.rel _ fun w M2 H2 o2 => ?_
      obtain ⟨g, hd⟩ := o1.then o2
      have hv : At c.K M2 v (.tup _) := hd
      have hw := asI_at (o2.held.at o2.rel e3) e4
      subst hw
      cases hv with
      | tup h1 h2 =>
        have hl := h2.length
        refine ⟨_, k, _, rfl, rfl, o2.rel.le.sqT h1, fun z => ?_, hc.2.2.1, hc.2.2.2, by rw [hl]; exact hc.2.1, fun p hp => q _ _ _ (.behind ⟨g, o2.rel⟩ (ok_tup o2.rel hp (h2.rep k.toNat)))⟩
        rw [z] at hl
        have := hc.1
        rw [← hl] at this
        exact absurd this (by decide)
    · cases e
  · cases e
/-! n.bit_length() -/
def fBits : D → Option D
  | .int i => some (.int (Builtin.Int.intBits i : Nat))
  | _ => none
theorem se_bits {o : Expr} {apos : Pos} {mo : ME} (ho : SE c o mo) (hx : ∀ X : Cx, Fits c X → ∀ to, PE X o to → PE X (.Call (.Attribute o "bit_length" apos) [] [] pos) (tBits to) := by exact fun X _ to p => pe_bits p) : SE c (.Call (.Attribute o "bit_length" apos) [] [] pos) (mUn fBits mo) := by
  obtain ⟨to, po, so⟩ := ho
  refine ⟨tBits to, fun X g => hx X g to (po X g), fun σ s M H r s' e rel Q q => ?_⟩
  obtain ⟨⟨r1, s1⟩, e1, e⟩ := bd e
  obtain ⟨d, p1, e⟩ := bd e
  obtain ⟨z, e2, e⟩ := bd e
  cases e
  refine so σ s M H r1 _ e1 rel _ fun v M1 H1 k => ?_
  have hv := k.held.at k.rel p1
  cases hv <;> try (cases e2; done)
  cases e2
  exact ⟨_, rfl, q _ M1 H1 ⟨k.go, k.rel, .int _, trivial⟩⟩
/-! type(x) is T -/
def tyD : D → String
  | .non => "NoneType"
  | .bl _ => "bool"
  | .int _ => "int"
  | .str _ => "str"
  | .tup _ => "tuple"
  | .lst _ => "list"
  | .dic _ _ => "dict"
def noFrz : D → Bool
  | .dic _ _ => false
  | _ => true
theorem At.ty {K : PySem.W.Frag} {H : Hp} {v : V} {d : D} (h : At K H v d) (e : noFrz d = true) : TyB K H v (tyD d) := by
  cases h with
  | non => exact .non
  | bl b => exact .bl b
  | int i => exact .int i
  | str x => exact .str x
  | lst h _ => exact .lst h
  | tup h _ => exact .tup h
  | dic _ _ => cases e
def mTyIs (T : String) (neg : Bool) (m : ME) : ME := fun s => (m s).bind fun p => (peek p.1 p.2).bind fun d => if noFrz d then some (.val (.bl (if neg then !decide (tyD d = T) else decide (tyD d = T))), p.2) else none
theorem sound_tyIs {K : PySem.W.Frag} {T : String} {te : TE} (sd : Sound K te m) : Sound K (tOp (fun x y H Q => ∃ a b, x = .ty a ∧ y = .ty b ∧ Q (.bl (decide (a = b))) H) (tCB (rTyp K) (tCons te tNil)) (tC (.ty T))) (mTyIs T false m) := fun σ s M H r s' e rel Q q => by
  obtain ⟨⟨r1, s1⟩, e1, e⟩ := bd e
  obtain ⟨d, p1, e⟩ := bd e
  split at e
  · rename_i hf
    cases e
    refine sd σ s M H r1 _ e1 rel _ fun v M1 H1 k => ?_
    exact ⟨v, tyD d, rfl, (k.held.at k.rel p1).ty hf, tyD d, T, rfl, rfl, q _ M1 H1 ⟨k.go, k.rel, .bl _, trivial⟩⟩
  · cases e
theorem sound_tyNot {K : PySem.W.Frag} {T : String} {te : TE} (sd : Sound K te m) : Sound K (tOp rNT (tCB (rTyp K) (tCons te tNil)) (tC (.ty T))) (mTyIs T true m) := fun σ s M H r s' e rel Q q => by
  obtain ⟨⟨r1, s1⟩, e1, e⟩ := bd e
  obtain ⟨d, p1, e⟩ := bd e
  split at e
  · rename_i hf
    cases e
    refine sd σ s M H r1 _ e1 rel _ fun v M1 H1 k => ?_
    exact ⟨v, tyD d, rfl, (k.held.at k.rel p1).ty hf, tyD d, T, rfl, rfl, q _ M1 H1 ⟨k.go, k.rel, .bl _, trivial⟩⟩
  · cases e
theorem se_tyIs {x : Str} (T : String) (h : SE c e m) (hg : ∀ X : Cx, Fits c X → Gl X "type") (hm : c.mg "type" = none) (hg2 : ∀ X : Cx, Fits c X → Gl X x) (hm2 : c.mg x = none) (hv : bootBuiltins x = some (.type T)) (hn : x ≠ "__name__" := by decide) (hd : (x == ("__debug__" : Str)) = false := by decide)
    (hs : ∀ env, starEach [e] env = (false, eval e env) :: starEach [] env := by intro _; rfl) (hpl : ∀ env, (backTo pos (starEach [] env)).any (·.1) = false := by intro _; rfl) {p3 : Pos} : SE c (.Compare (.Call (.Name "type" p) [e] [] pos) [.Is] [.Name x p2] p3) (mTyIs T false m) := by
  obtain ⟨te, pe, sd⟩ := h
  refine ⟨_, fun X g => by
    have := call_type1 (X := X)
    rw [g.K] at this
    exact pe_cmpR op_isTyB (pe_callTy this (hg X g) (by rw [g.mg]; exact hm) (by decide +kernel) (pa_cons (pe X g) pa_nil (hs X.env)) (by decide) (by decide) (hs X.env) (hpl X.env)) (pe_bltn (hg2 X g) (by rw [g.mg]; exact hm2) hv rfl hn hd) (nomark _), sound_tyIs sd⟩
theorem se_tyNot {x : Str} (T : String) (h : SE c e m) (hg : ∀ X : Cx, Fits c X → Gl X "type") (hm : c.mg "type" = none) (hg2 : ∀ X : Cx, Fits c X → Gl X x) (hm2 : c.mg x = none) (hv : bootBuiltins x = some (.type T)) (hn : x ≠ "__name__" := by decide) (hd : (x == ("__debug__" : Str)) = false := by decide)
    (hs : ∀ env, starEach [e] env = (false, eval e env) :: starEach [] env := by intro _; rfl) (hpl : ∀ env, (backTo pos (starEach [] env)).any (·.1) = false := by intro _; rfl) {p3 : Pos} : SE c (.Compare (.Call (.Name "type" p) [e] [] pos) [.IsNot] [.Name x p2] p3) (mTyIs T true m) := by
  obtain ⟨te, pe, sd⟩ := h
  refine ⟨_, fun X g => by
    have := call_type1 (X := X)
    rw [g.K] at this
    exact pe_cmpR op_notTyB (pe_callTy this (hg X g) (by rw [g.mg]; exact hm) (by decide +kernel) (pa_cons (pe X g) pa_nil (hs X.env)) (by decide) (by decide) (hs X.env) (hpl X.env)) (pe_bltn (hg2 X g) (by rw [g.mg]; exact hm2) hv rfl hn hd) (nomark _), sound_tyNot sd⟩
theorem st_tyIs {x : Str} (T : String) (h : SE c e m) (hg : ∀ X : Cx, Fits c X → Gl X "type") (hm : c.mg "type" = none) (hg2 : ∀ X : Cx, Fits c X → Gl X x) (hm2 : c.mg x = none) (hv : bootBuiltins x = some (.type T)) (hn : x ≠ "__name__" := by decide) (hd : (x == ("__debug__" : Str)) = false := by decide)
    (hs : ∀ env, starEach [e] env = (false, eval e env) :: starEach [] env := by intro _; rfl) (hpl : ∀ env, (backTo pos (starEach [] env)).any (·.1) = false := by intro _; rfl) {p3 : Pos} : ST c (.Compare (.Call (.Name "type" p) [e] [] pos) [.Is] [.Name x p2] p3) (mTest (mTyIs T false m)) := by
  obtain ⟨te, pe, sd⟩ := h
  refine ⟨_, fun X g => by
    have := call_type1 (X := X)
    rw [g.K] at this
    exact pt_cmpR op_isTyB (pe_callTy this (hg X g) (by rw [g.mg]; exact hm) (by decide +kernel) (pa_cons (pe X g) pa_nil (hs X.env)) (by decide) (by decide) (hs X.env) (hpl X.env)) (pe_bltn (hg2 X g) (by rw [g.mg]; exact hm2) hv rfl hn hd) (nomark _), sound_test (sound_tyIs sd)⟩
theorem st_tyNot {x : Str} (T : String) (h : SE c e m) (hg : ∀ X : Cx, Fits c X → Gl X "type") (hm : c.mg "type" = none) (hg2 : ∀ X : Cx, Fits c X → Gl X x) (hm2 : c.mg x = none) (hv : bootBuiltins x = some (.type T)) (hn : x ≠ "__name__" := by decide) (hd : (x == ("__debug__" : Str)) = false := by decide)
    (hs : ∀ env, starEach [e] env = (false, eval e env) :: starEach [] env := by intro _; rfl) (hpl : ∀ env, (backTo pos (starEach [] env)).any (·.1) = false := by intro _; rfl) {p3 : Pos} : ST c (.Compare (.Call (.Name "type" p) [e] [] pos) [.IsNot] [.Name x p2] p3) (mTest (mTyIs T true m)) := by
  obtain ⟨te, pe, sd⟩ := h
  refine ⟨_, fun X g => by
    have := call_type1 (X := X)
    rw [g.K] at this
    exact pt_cmpR op_notTyB (pe_callTy this (hg X g) (by rw [g.mg]; exact hm) (by decide +kernel) (pa_cons (pe X g) pa_nil (hs X.env)) (by decide) (by decide) (hs X.env) (hpl X.env)) (pe_bltn (hg2 X g) (by rw [g.mg]; exact hm2) hv rfl hn hd) (nomark _), sound_test (sound_tyNot sd)⟩
/-! any(t) of whole numbers and truth values -/
def truD : D → Option Bool
  | .bl b => some b
  | .int i => some (i != 0)
  | _ => none
def trus : List D → Option (List Bool)
  | [] => some []
  | d :: ds => (truD d).bind fun b => (trus ds).bind fun bs => some (b :: bs)
def truV : V → Option Bool
  | .bl b => some b
  | .int i => some (i != 0)
  | _ => none
inductive Trus : List V → List Bool → Prop
  | nil : Trus [] []
  | cons {v : V} {b : Bool} {vs : List V} {bs : List Bool} : truV v = some b → Trus vs bs → Trus (v :: vs) (b :: bs)
theorem trus_at {K : PySem.W.Frag} {H : Hp} : ∀ {vs : List V} {ds : List D} {bs : List Bool}, Ats K H vs ds → trus ds = some bs → Trus vs bs
  | _, _, _, .nil, e => by cases e; exact .nil
  | _, _, _, .cons h t, e => by
    obtain ⟨b, e1, e⟩ := bd e
    obtain ⟨bs, e2, e⟩ := bd e
    cases e
    refine .cons ?_ (trus_at t e2)
    cases h <;> first | exact e1 | cases e1
theorem Trus.length : ∀ {vs : List V} {bs : List Bool}, Trus vs bs → vs.length = bs.length
  | _, _, .nil => rfl
  | _, _, .cons _ t => congrArg (· + 1) t.length
theorem Trus.get : ∀ {vs : List V} {bs : List Bool} {i : Nat} {v : V}, Trus vs bs → vs[i]? = some v → ∃ b, bs[i]? = some b ∧ truV v = some b
  | _, _, _, _, .nil, e => by simp at e
  | _, _, 0, _, .cons h _, e => by simp at e; subst e; exact ⟨_, rfl, h⟩
  | _, _, i + 1, _, .cons _ q, e => by
    obtain ⟨b, h1, h2⟩ := Trus.get (i := i) q (by simpa using e)
    exact ⟨b, by simpa using h1, h2⟩
theorem truth_of {prog : Program} {w : World} {A : Around} {vs : List V} {its : List Value} {bs : List Bool} (r : Vals vs its) (t : Trus vs bs) : TruthOf prog w A (fun i v => its.toArray[i]? = some v) (fun i => bs.getD i false) := fun i v s Q E hv hq => by
  have hv' : its[i]? = some v := by simpa using hv
  have hi : i < vs.length := by
    rw [r.length]
    rcases Nat.lt_or_ge i its.length with z | z
    · exact z
    · rw [List.getElem?_eq_none z] at hv'; cases hv'
  obtain ⟨u, hu, ru⟩ := r.get (List.getElem?_eq_getElem hi)
  rw [hv'] at hu
  cases hu
  obtain ⟨b, hb, tb⟩ := t.get (List.getElem?_eq_getElem hi)
  have hg : bs.getD i false = b := by rw [List.getD_eq_getElem?_getD, hb] <;> rfl
  have hq' : Q (bs.getD i false) s := hq
  rw [hg] at hq'
  cases hx : vs[i] with
  | bl k =>
    rw [hx] at ru tb
    cases tb
    cases ru
    exact wpAny_truthy_bool hq'
  | int k =>
    rw [hx] at ru tb
    cases tb
    obtain ⟨t, rfl⟩ := ru
    exact PySem.P.truthy_int hq'
  | _ => rw [hx] at tb; cases tb
def rAnyX (K : PySem.W.Frag) : RC := fun vs H Q => ∃ (a : Addr) (xs : List V) (bs : List Bool), vs = [V.ref a] ∧ (SqL K H a xs ∨ SqT K H a xs) ∧ Trus xs bs ∧ Q (.bl (bs.any id)) H
theorem call_anyX {X : Cx} (hc : X.calm = true) : CallR X (.builtin "any") (rAnyX X.K) := by
  intro pins s σ H vs us Q I r h
  obtain ⟨a, xs, bs, rfl, hs, tr, q⟩ := h
  have e0 := Vals.ref1 r
  subst e0
  have fin : ∀ {its : List Value} {h' : Heap} {tk : Nat}, Vals xs its → (∀ b o, b ∉ [s.heap.objs.size] → (s.heap.push { cls := .type "list_iterator", data := .fields #[.ref a, .int 0 0] }).get? b = some o → h'.get? b = some o) → True := fun _ _ => trivial
  rcases hs with hs | hs
  · obtain ⟨its, rv, hl, _⟩ := I.list hs
    refine call_any_walk (iter_any hl.isList fun s₂ e2 st hne => ?_)
    subst e2
    refine ⟨_, _, _, _, _, _, _, rfl, Walks.list (A := X.A.in1) (I.ok.hd hc) _ a hne its.toArray, st, truth_of rv tr, fun h' tk hk => ?_⟩
    refine ⟨.bl _, H, I.kept fun b o eo => hk b o (fun hmem => ?_) (Heap.get?_push_of_some _ eo), ?_, q⟩
    · rcases List.mem_cons.mp hmem with e1 | hmem
      · exact absurd (e1 ▸ Heap.lt_size eo) (Nat.lt_irrefl _)
      · cases hmem
    · show Value.bool _ = Value.bool _
      rw [← any_range, List.size_toArray, ← rv.length, tr.length]
  · obtain ⟨its, rv, hl, _⟩ := I.tuple hs
    have hl' : s.heap.IsTuple a its.toArray := hl
    have hlt : a < s.heap.objs.size := by obtain ⟨_, e, _⟩ := hl'; exact Heap.lt_size e
    refine call_any_walk (wpAny_pyIter_tuple hl' ?_)
    refine ⟨_, _, _, _, _, _, _, rfl, Walks.tuple (A := X.A.in1) (I.ok.hd hc) _ a (Nat.ne_of_lt hlt) its.toArray, ⟨⟨_, Heap.get?_push_size _ rfl, rfl, rfl⟩, hl'.push _⟩, truth_of rv tr, fun h' tk hk => ?_⟩
    refine ⟨.bl _, H, I.kept fun b o eo => hk b o (fun hmem => ?_) (Heap.get?_push_of_some _ eo), ?_, q⟩
    · rcases List.mem_cons.mp hmem with e1 | hmem
      · exact absurd (e1 ▸ Heap.lt_size eo) (Nat.lt_irrefl _)
      · cases hmem
    · show Value.bool _ = Value.bool _
      rw [← any_range, List.size_toArray, ← rv.length, tr.length]
def fAnyX : List D → Option D
  | [d] => (seqD d).bind fun xs => (trus xs).bind fun bs => some (.bl (bs.any id))
  | _ => none
theorem sc_anyX {K : PySem.W.Frag} : Sc1 K (rAnyX K) fAnyX := fun H vs ds z h e => by
  unfold fAnyX at e
  split at e
  · obtain ⟨xs, e1, e⟩ := bd e
    obtain ⟨bs, e2, e⟩ := bd e
    cases e
    obtain ⟨v, rfl, ha⟩ := ats1 h
    obtain ⟨l, ws, rfl, hs, hw⟩ := ha.seq e1
    exact ⟨_, fun _ => .bl _, fun Q q => ⟨l, ws, bs, rfl, hs, trus_at hw e2, q⟩⟩
  · cases e
/-! a module's dict by whole numbers, d[i] -/
structure KInt (K : PySem.W.Frag) (a : Addr) (kvs : List (Int × V)) : Prop where
  ex : ∃ es n vs, K.lookup a = some ⟨.type "dict", none, .dict es n, #[]⟩ ∧ es.toList = vs.map (fun kv : (Int × Tok × Value) => (⟨hashInt kv.1, .int kv.1 kv.2.1, kv.2.2⟩ : DictEntry)) ∧ Paired (fun (p : Int × V) (q : Int × Tok × Value) => p.1 = q.1 ∧ RelV p.2 q.2.2) kvs vs ∧ (kvs.map (·.1)).Nodup
def rIxK (K : PySem.W.Frag) : R2 := fun x y H Q => ∃ a i v kvs, x = V.ref a ∧ y = V.int i ∧ KInt K a kvs ∧ kvs.lookup i = some v ∧ Q v H
theorem kint_find {P : Program} {w : World} {kvs : List (Int × V)} {vs : List (Int × Tok × Value)} (h : Paired (fun (p : Int × V) (q : Int × Tok × Value) => p.1 = q.1 ∧ RelV p.2 q.2.2) kvs vs) : ∀ {i : Int} {v : V}, kvs.lookup i = some v →
    ∃ u, RelV v u ∧ valueAt (vs.map fun q => (q.1, q.2.2)) i = some u := by
  induction h with
  | nil => intro i v e; cases e
  | @cons p q ps qs h t ih =>
    obtain ⟨k, x⟩ := p
    obtain ⟨k', tk, u⟩ := q
    obtain ⟨h1, h2⟩ := h
    have h1 : k = k' := h1
    subst h1
    intro i v e
    rw [List.lookup_cons] at e
    unfold valueAt
    rw [List.map_cons, List.find?_cons]
    by_cases hik : i = k
    · subst hik
      simp at e
      subst e
      exact ⟨u, h2, by simp⟩
    · have hne : (i == k) = false := by simpa using hik
      rw [hne] at e
      have hne2 : ¬ k = i := fun z => hik z.symm
      simp [hne2]
      obtain ⟨u', a1, a2⟩ := ih e
      refine ⟨u', a1, ?_⟩
      unfold valueAt at a2
      simpa using a2
theorem ix_K {X : Cx} : IxR X (rIxK X.K) := by
  intro value slice pins s σ H x y v u Q I rx ry h hs
  obtain ⟨a, i, z, kvs, rfl, rfl, ⟨es, n, vs, hl, he, hp, hn⟩, hf, q⟩ := h
  obtain rfl : v = Value.ref a := rx
  obtain ⟨t, rfl⟩ := ry
  have hobj := I.kIn a _ hl
  have hk : (vs.map (·.1)) = kvs.map (·.1) := by
    clear hl he hn hf
    induction hp with
    | nil => rfl
    | cons h _ ih => rw [List.map_cons, List.map_cons, ih, h.1]
  have dict : s.heap.DictOf (intKind X.prog X.w) a (vs.map fun q => (q.1, q.2.2)) := by
    refine ⟨_, es, n, hobj, ⟨rfl, rfl, rfl⟩, rfl, ?_, ?_, ?_⟩
    · intro d hd
      have hd' : d ∈ es.toList := by simpa using hd
      rw [he] at hd'
      obtain ⟨q, _, rfl⟩ := List.mem_map.mp hd'
      exact ⟨q.1, by simp [intKind, Value.isInt], rfl⟩
    · rw [he]
      clear hl he hp hn hf hobj hk
      induction vs with
      | nil => exact .nil
      | cons q qs ih => exact .cons (by simp [intKind, Value.isInt]) rfl ih
    · rw [List.map_map]
      show (vs.map (·.1)).Nodup
      rw [hk]; exact hn
  obtain ⟨w', rw', hv⟩ := kint_find (P := X.prog) (w := X.w) hp hf
  exact PyProof.Rows.tail_any dict.mapOf.typeIs PySem.F.slot_dict_getitem.lookup (wpAny_getItem_of (by simp [intKind, Value.isInt]) dict.mapOf hv ⟨z, H, I.tok _, rw', q⟩) hs
def mIxK (kds : List (Int × D)) (m : ME) : ME := fun s => (m s).bind fun p => (peek p.1 p.2).bind fun d => (asI d).bind fun i => (kds.lookup i).bind fun z => some (.val z, p.2)
theorem se_ixK {x : Str} {g : Addr} {kvs : List (Int × V)} (kds : List (Int × D)) (hk : KInt c.K g kvs) (hd : ∀ M i z, kds.lookup i = some z → ∃ v, kvs.lookup i = some v ∧ At c.K M v z) (hgl : ∀ X : Cx, Fits c X → Gl X x) (hm : c.mg x = some (.ref g)) (hdb : (x == ("__debug__" : Str)) = false := by decide)
    (h : SE c e m) (hs : PlainIx e := by exact fun _ _ => rfl) : SE c (.Subscript (.Name x p) e pos) (mIxK kds m) := by
  obtain ⟨te, pe, sd⟩ := h
  refine ⟨tOp (rIxK c.K) (tC (.ref g)) te, fun X k => by have := ix_K (X := X); rw [k.K] at this; exact pe_ix this (pe_glob (hgl X k) (by rw [k.mg]; exact hm) rfl hdb) (pe X k) hs, fun σ s M H r s' e rel Q q => ?_⟩
  obtain ⟨⟨r1, s1⟩, e1, e⟩ := bd e
  obtain ⟨d, p1, e⟩ := bd e
  obtain ⟨i, e2, e⟩ := bd e
  obtain ⟨z, e3, e⟩ := bd e
  cases e
  refine sd σ s M H r1 _ e1 rel _ fun v M1 H1 k => ?_
  obtain ⟨v', hv', hat⟩ := hd M1 i z e3
  exact ⟨g, i, v', kvs, rfl, asI_at (k.held.at k.rel p1) e2, hk, hv', q _ M1 H1 ⟨k.go, k.rel, hat, trivial⟩⟩
end
end Dm
set_option Elab.async false
set_option linter.all false
set_option maxRecDepth 100000
set_option maxHeartbeats 4000000
namespace Dm
open PySem PySem.Spec L2
set_option autoImplicit false

/-! ### {k: v, ..}[i], keys written whole numbers -/
def SPs (c : Cd) (keys : List (Option Expr)) (values : List Expr) (ks : List Int) (ms : S → Option (List D × S)) : Prop := ∃ trs, (∀ X pos, Fits c X → PPs X pos keys values trs) ∧ ∀ (σ : L2.St) (s : S) (M H : Hp) (ds : List D) (s' : S), ms s = some (ds, s') → Rel c.K M H σ s →
  ∀ Q : List (V × V) → Hp → Prop, (∀ ws M' H', OkT c.K σ s M H s' M' H' → Ats c.K M' ws ds → ws.length = ks.length → Q ((ks.zip ws).map fun p => (V.int p.1, p.2)) H') → tPairs trs σ H Q
def mPNil : S → Option (List D × S) := fun s => some ([], s)
def mPCons (m : ME) (ms : S → Option (List D × S)) : S → Option (List D × S) := fun s => (m s).bind fun p => match p.1 with
  | .val d => (ms p.2).bind fun q => some (d :: q.1, q.2)
  | _ => none
section
variable {c : Cd} {e v : Expr} {keys : List (Option Expr)} {values : List Expr} {ks : List Int} {m : ME} {ms : S → Option (List D × S)} {pos p2 : Pos}
theorem sps_nil : SPs c [] [] [] mPNil := ⟨[], fun _ _ _ => pps_nil, fun σ s M H ds s' e rel Q q => by cases e; exact q [] M H (.refl rel) .nil rfl⟩
theorem sps_cons {i : Int} {j : Nat} {kp : Pos} (h : SE c v m) (hr : SPs c keys values ks ms) : SPs c (some (.Constant (.int i) j kp) :: keys) (v :: values) (i :: ks) (mPCons m ms) := by
  obtain ⟨t, p, sd⟩ := h
  obtain ⟨ts, ps, sds⟩ := hr
  refine ⟨(tC (.int i), t) :: ts, fun X pos g => pps_cons pe_int (p X g) (ps X pos g), fun σ s M H ds s' e rel Q q => ?_⟩
  obtain ⟨⟨r, s1⟩, e1, e⟩ := bd e
  cases r with
  | own xs => cases e
  | slot k => cases e
  | val d =>
    obtain ⟨⟨es, s2⟩, e2, e⟩ := bd e
    cases e
    show t σ H _
    refine sd σ s M H _ s1 e1 rel _ fun w M1 H1 o1 => sds σ s1 M1 H1 es _ e2 o1.rel _ fun ws M2 H2 o2 ha hl => ?_
    exact q (w :: ws) M2 H2 (o1.t.trans o2) (.cons (At.mono o2.go.up o1.held) ha) (by rw [List.length_cons, List.length_cons, hl])
/-- the last one at the key -/
def lastAt {α : Type} : List Int → List α → Int → Option α
  | [], _, _ => none
  | k :: ks, ds, i => match ds with
    | [] => none
    | d :: ds => (lastAt ks ds i).or (if i = k then some d else none)
def mDisp (ks : List Int) (ms : S → Option (List D × S)) (m : ME) : ME := fun s => (ms s).bind fun p => (m p.2).bind fun q => (peek q.1 q.2).bind fun d => (asI d).bind fun i => (lastAt ks p.1 i).bind fun z => some (.val z, q.2)
theorem valV_merge (i : Int) : ∀ (ks : List Int) (ws : List V) (acc : List (Key × V)), valV (mergeK acc ((ks.zip ws).map fun p => ((Sum.inl p.1 : Key), p.2))) (Sum.inl i) = (lastAt ks ws i).or (valV acc (Sum.inl i))
  | [], ws, acc => by simp [mergeK, lastAt]
  | k :: ks, [], acc => by simp [mergeK, lastAt]
  | k :: ks, w :: ws, acc => by
    have ih := valV_merge i ks ws (putK acc (Sum.inl k) w)
    have e : mergeK acc (((k :: ks).zip (w :: ws)).map fun p => ((Sum.inl p.1 : Key), p.2)) = mergeK (putK acc (Sum.inl k) w) ((ks.zip ws).map fun p => ((Sum.inl p.1 : Key), p.2)) := rfl
    rw [e, ih, valV_put]
    show _ = ((lastAt ks ws i).or (if i = k then some w else none)).or _
    cases lastAt ks ws i with
    | some z => rfl
    | none =>
      by_cases h : i = k
      · subst h; simp
      · have h2 : ¬ (Sum.inl i : Key) = Sum.inl k := fun z => h (Sum.inl.inj z)
        rw [if_neg h2, if_neg h]; rfl
theorem last_at {K : PySem.W.Frag} {M : Hp} {i : Int} : ∀ (ks : List Int) {ws : List V} {ds : List D}, Ats K M ws ds → (∀ z, lastAt ks ds i = some z → ∃ v, lastAt ks ws i = some v ∧ At K M v z) ∧ (lastAt ks ds i = none → lastAt ks ws i = none)
  | [], ws, ds, h => ⟨fun z e => (nomatch e), fun _ => rfl⟩
  | k :: ks, _, _, .nil => ⟨fun z e => (nomatch e), fun _ => rfl⟩
  | k :: ks, w :: ws, _, .cons (d := d) (ds := ds) a t => by
    obtain ⟨h1, h2⟩ := last_at (i := i) ks t
    show (∀ z, (lastAt ks ds i).or (if i = k then some d else none) = some z → ∃ v, (lastAt ks ws i).or (if i = k then some w else none) = some v ∧ At K M v z) ∧ ((lastAt ks ds i).or (if i = k then some d else none) = none → (lastAt ks ws i).or (if i = k then some w else none) = none)
    cases hq : lastAt ks ds i with
    | some y =>
      obtain ⟨v, g1, g2⟩ := h1 _ hq
      rw [g1]
      exact ⟨fun z e => by cases e; exact ⟨v, rfl, g2⟩, fun e => by cases e⟩
    | none =>
      rw [h2 hq]
      by_cases hk : i = k
      · rw [if_pos hk, if_pos hk]
        exact ⟨fun z e => by cases e; exact ⟨w, rfl, a⟩, fun e => by cases e⟩
      · rw [if_neg hk, if_neg hk]
        exact ⟨fun z e => (by cases e), fun _ => rfl⟩
theorem se_dispIx (h : SPs c keys values ks ms) (he : SE c e m) (hs : NoSl e := by exact fun _ _ => rfl) (hall : keys.all (·.isSome) = true := by rfl) (hl : keys.length = values.length := by rfl) (h0 : keys ≠ [] := by intro z; cases z) (h15 : keys.length ≤ 15 := by decide) (hks : ks.length ≤ 15 := by decide) :
    SE c (.Subscript (.Dict keys values p2) e pos) (mDisp ks ms m) := by
  obtain ⟨trs, pp, sp⟩ := h
  obtain ⟨te, pe, sd⟩ := he
  refine ⟨tDGet (tDisp trs) te, fun X g => pe_dget (by have := g.room.units; omega) (pe_disp (pp X p2 g) hall hl h0 h15) (pe X g) hs, fun σ s M H r s' e rel Q q => ?_⟩
  obtain ⟨⟨ds, s1⟩, e1, e⟩ := bd e
  obtain ⟨⟨r1, s2⟩, e2, e⟩ := bd e
  obtain ⟨d, e3, e⟩ := bd e
  obtain ⟨i, e4, e⟩ := bd e
  obtain ⟨z, e5, e⟩ := bd e
  cases e
  show tDisp trs σ H _
  intro p hp
  have r0 : Rel c.K M (upd H p (.dK [])) σ s := rel.grow (Le.refl _) (le_upd hp) (le_updr rel.le (le_none rel.le hp)) fun _ _ _ z => z
  have g0 : Go σ s M H σ s M (upd H p (.dK [])) := Go.grow (Le.refl _) (le_upd hp) fun _ _ _ z => z
  refine sp σ s M _ ds s1 e1 r0 _ fun ws M1 H1 o1 ha hlw => ?_
  have no : ¬ Owned σ s p := rel.not_owned hp
  obtain ⟨k1, k2⟩ := o1.go.keep p _ upd_same no
  have hM1 : M1 p = none := k2 (le_none rel.le hp)
  refine ⟨k1, (ks.zip ws).map fun q => ((Sum.inl q.1 : Key), q.2), by rw [List.map_map]; rfl, ?_, ?_⟩
  · rw [List.length_map, List.length_zip]
    have := Nat.min_le_left ks.length ws.length
    omega
  -- the dict filled
  generalize hkv : mergeK [] ((ks.zip ws).map fun q => ((Sum.inl q.1 : Key), q.2)) = kvs
  have nO1 : ¬ Owned σ s1 p := fun zz => by
    obtain ⟨vs, q1, _⟩ := o1.rel.owned_some zz
    rw [k1] at q1; cases q1
  have r1' : Rel c.K M1 (upd H1 p (.dK kvs)) σ s1 := ⟨o1.rel.len, le_updr o1.rel.le hM1, o1.rel.val, fun j pp xs hj => by
    obtain ⟨l, us, a1, b1, c1, d1⟩ := o1.rel.own j pp xs hj
    exact ⟨l, us, a1, by rw [upd_ne (fun zz => nO1 ⟨j, pp, xs, hj, by rw [← zz]; exact a1⟩)]; exact b1, c1, d1⟩, o1.rel.inj⟩
  have g1 : Go σ s M H σ s1 M1 (upd H1 p (.dK kvs)) := by
    have gg := g0.trans o1.go
    refine ⟨gg.up, fun a o hao hna => ?_, fun a o hao => ?_, gg.own, gg.port⟩
    · have hne : a ≠ p := fun zz => by subst zz; rw [hp] at hao; cases hao
      rw [upd_ne hne]
      exact gg.keep a o hao hna
    · by_cases zz : a = p
      · subst zz; exact ⟨_, upd_same⟩
      · rw [upd_ne zz]; exact gg.there a o hao
  refine sd σ s1 M1 _ r1 _ e2 r1' _ fun w M2 H2 o2 => ?_
  obtain ⟨k3, _⟩ := o2.go.keep p _ upd_same nO1
  have hw := asI_at (o2.held.at o2.rel e3) e4
  subst hw
  obtain ⟨v, h1, h2⟩ := (last_at ks ha).1 _ e5
  refine ⟨p, v, rfl, .inl ⟨kvs, Sum.inl i, .inl k3, rfl, ?_⟩, q v M2 H2 ⟨g1.trans o2.go, o2.rel, h2.mono o2.go.up, trivial⟩⟩
  rw [← hkv, valV_merge, h1]
  rfl
end

/-! ### the law's end -/
theorem run_law {P : Program} {w : World} {K : PySem.W.Frag} {mg mb : Str → Option Value} {k : Nat} {fa a : Addr} {fd : FuncData} {x : Str} {fn : FnV} {s₁ : Shared} {vs : List Value} {ns : List Int}
    (kin : K.In s₁.heap) (glob : s₁.heap.Ns mainGlobals mg) (blt : s₁.heap.Ns builtinsNs mb) (hbb : ∀ x : Str, x ≠ "__name__" → mb x = bootBuiltins x) (nol : s₁.heap.NoLimit) (gens : s₁.gens = #[])
    (here : s₁.heap.get? a = some { cls := .type "list", data := .seq vs.toArray }) (hi : PyProof.Rows.IntsAre vs ns) (hl : ns.length ≤ sizeLine) (room : Room k callerA)
    (F : ∀ base : Heap, K.In base → base.Ns mainGlobals mg → FnG P w K mg base CX0 k fa fd [x] (spV K 1 fn)) (bind : ∀ (s : Shared) (u : Value), BindsTo s fd ⟨[u], []⟩ [(x, u)])
    (holds : fn [.lst (ns.map D.int)] = some (.val (.bl true))) :
    codeAny (model P w) callerA (.call (.ref fa) ⟨[.ref a], []⟩) (fun r s' => r = .ok (.ret (.bool true)) ∧ OldK s₁.heap s'.heap ∧ s'.os = s₁.os ∧ PyProof.Rows.AllBare s'.gens) s₁ := by
  have rel : Vals (ns.map V.int) vs := vals_of_ints hi
  have long : vs.toArray.size ≤ sizeLine := by
    rw [List.size_toArray, ← rel.length, List.length_map]; exact hl
  -- what is tracked: the script, if it is no object of the module
  have go : ∀ H : Hp, (∀ b u, H b = some u → b = a ∧ K.lookup a = none ∧ u = .frz { cls := .type "list", data := .seq vs.toArray } (.lst (ns.map V.int))) → SqL K H a (ns.map V.int) →
      codeAny (model P w) callerA (.call (.ref fa) ⟨[.ref a], []⟩) (fun r s' => r = .ok (.ret (.bool true)) ∧ OldK s₁.heap s'.heap ∧ s'.os = s₁.os ∧ PyProof.Rows.AllBare s'.gens) s₁ := by
    intro H only sq
    have ok : HOk P w H s₁.heap := by
      intro b u hb
      obtain ⟨rfl, _, rfl⟩ := only b u hb
      exact ⟨here, by rw [List.length_map]; exact hl, vs, _, rel, here⟩
    have dicts : ∀ {b : Addr} {o : Obj} {es : Array DictEntry} {ep : Nat}, s₁.heap.get? b = some o → o.data = .dict es ep → H b = none := by
      intro b o es ep hb hd
      cases hu : H b with
      | none => rfl
      | some u =>
        obtain ⟨rfl, _, _⟩ := only b u hu
        rw [here] at hb
        cases hb
        cases (show Data.seq vs.toArray _ = Data.dict es ep from hd)
    have names : ∀ {b : Addr} {m : Str → Option Value}, s₁.heap.Ns b m → (hidT s₁.heap H).Ns b m := by
      rintro b m ⟨o, es, ep, h1, h2, h3⟩
      exact ⟨o, es, ep, hidT_get h1 (dicts h1 h2), h2, h3⟩
    have kin' : K.In (hidT s₁.heap H) := by
      intro b o hb
      refine hidT_get (kin b o hb) ?_
      cases hu : H b with
      | none => rfl
      | some u =>
        obtain ⟨rfl, hk, _⟩ := only b u hu
        rw [hk] at hb
        cases hb
    obtain ⟨mc, n1, n2⟩ := nol
    have env : Env0 P w K mg (hidT s₁.heap H) callerA [] s₁ H :=
      ⟨rfl, ⟨kin', names glob, ⟨mb, names blt, hbb⟩, ⟨mc, names n1, n2⟩⟩, fun b o => of_hidT, Nat.le_of_eq (hidT_size _ _), trivial, fun b hb => absurd (show b ∈ ([] : List Addr) from hb) (by simp), ok, .of_eq gens⟩
    have want : spV K 1 fn [V.ref a] H (fun v H' => v = .bl true ∧ ∀ b u, H b = some u → H' b = some u) (fun _ _ _ => False) := by
      refine ⟨rfl, H, [.lst (ns.map D.int)], _, holds, Le.refl _, .cons (.lst sq (ats_ints ns)) .nil, ?_⟩
      intro v M' H' g h
      have h : At K M' v (.bl true) := h
      refine ⟨by cases h; rfl, fun b u hu => (g.keep b u hu (fun z => z)).1⟩
    apply codeAny_mono ((F _ kin' (names glob)).run callerA [] s₁ H ⟨[.ref a], []⟩ [.ref a] [V.ref a] _ _ room rfl env (bind s₁ (.ref a)) (.cons rfl .nil) want)
    rintro (z | (_ | _ | _ | u)) s' q
    · exact q.elim
    · exact q.elim
    · exact q.elim
    · exact q.elim
    · obtain ⟨v, H', os, bare, un, ok', rv, rfl, stay⟩ := q
      obtain rfl : u = Value.bool true := rv
      refine ⟨rfl, OldK.of_keep ?_, os, bare⟩
      intro b o hb
      cases hu : H b with
      | none => exact un.keep b o hb hu (by intro z; exact absurd (show b ∈ ([] : List Addr) from z) (by simp)) (by simp)
      | some u =>
        obtain ⟨rfl, _, rfl⟩ := only b u hu
        rw [here] at hb
        cases hb
        exact (ok' b _ (stay b _ hu)).1
  cases hk : K.lookup a with
  | some o =>
    have same := kin a o hk
    rw [here] at same
    cases same
    exact go (fun _ => none) (fun b u z => nomatch z) (.inr ⟨_, vs.toArray, _, hk, rfl, rfl, rfl, long, by simpa using rel⟩)
  | none =>
    refine go (fun b => if b = a then some (.frz { cls := .type "list", data := .seq vs.toArray } (.lst (ns.map V.int))) else none) ?_ (.inl (.inr ⟨_, if_pos rfl⟩))
    intro b u z
    by_cases hb : b = a
    · have z' := (if_pos hb).symm.trans z
      cases z'
      exact ⟨hb, hk, rfl⟩
    · have z' := (if_neg hb).symm.trans z
      cases z'
theorem walk_G {l : PySem.W.OpenLaw} {n k : Nat} {q : Program} {loose : List Str} {XP : (Str → Option Value) → Heap → Prop} {YP : World → Heap → Prop} {d : DefRec} {K : Params → PySem.W.Frag} {x : Str} {fn : FnV}
    (hn : l.most = some n) (hn2 : n ≤ sizeLine) (hdf : d.params.defaults = []) (room : Room k callerA) (hY : ∀ (w : World) (h : Heap), YP w h → (K w.params).In h)
    (F : ∀ (w : World) (mg : Str → Option Value) (fa : Addr) (h : Heap), (K w.params).In h → h.Ns mainGlobals mg → mg d.name = some (.ref fa) →
      ∃ fd : FuncData, (∀ (s : Shared) (u : Value), BindsTo s fd ⟨[u], []⟩ [(x, u)]) ∧ ∀ base : Heap, (K w.params).In base → base.Ns mainGlobals mg → FnG l.prog w (K w.params) mg base CX0 k fa fd [x] (spV (K w.params) 1 fn))
    (holds : ∀ ns : List Int, ns.length ≤ n → fn [.lst (ns.map D.int)] = some (.val (.bl true))) : PySem.W.WalkO q loose XP YP l.row.toRowW d [] (fun f vs => PySem.call f vs) := by
  apply Att.attach_call hn hdf
  intro w s₀ s₁ mg mb fa o pm cd doc a vs ns G Y ho hd hcd hmg hobj hints hlen hg
  obtain ⟨fd, hb, hF⟩ := F w mg fa _ (hY w _ Y) G.T.g hmg
  exact run_law (hY w _ Y) G.T.g G.T.b G.T.builtins G.T.nolimit hg hobj hints (Nat.le_trans hlen hn2) room hF hb (holds ns hlen)
end Dm
set_option Elab.async false
set_option linter.all false
set_option maxRecDepth 100000
set_option maxHeartbeats 4000000
namespace Dm
open PySem PySem.Spec L2
set_option autoImplicit false

theorem kind_of {c : Cd} {X : Cx} (g : Fits c X) (x : Str) : X.env.kindOf x = c.sc.names.lookup x := by
  unfold Env.kindOf
  rw [g.sc]
theorem block_of {c : Cd} {X : Cx} (g : Fits c X) (h : c.sc.kind = .function) : X.env.blockKind = .function := by
  unfold Env.blockKind
  rw [g.sc, h]
  rfl
theorem sw_cell {c : Cd} {X : Cx} (g : Fits c X) {elt : Expr} {gens : List Comprehension} {scope : Scope} {pos tpos : Pos} {t : Str} {line : Nat} (h : c.sc.names.lookup t = some .cell) :
    swapsWith (.ListComp elt gens scope pos) (some (.Name t tpos)) line X.env = pure false := by
  unfold swapsWith
  have k := (kind_of g t).trans h
  simp only [k, show (some NameKind.cell == some NameKind.local) = false from by decide, Bool.and_false, Bool.false_and]
section
variable {c : Cd} {e elt tg iter : Expr} {ifs : List Expr} {scope : Scope} {pos : Pos} {t : MT} {m : ME} {g : MG} {mi : MI} {ts : List Nat}
theorem se_globI {x : Str} {i : Int} (hk : ∀ X, Fits c X → Gl X x) (hm : ∃ tk, c.mg x = some (.int i tk)) (hd : (x == ("__debug__" : Str)) = false := by decide) : SE c (.Name x pos) (mC (.int i)) := by
  obtain ⟨tk, hm⟩ := hm
  exact ⟨tC (.int i), fun X f => pe_glob (hk X f) (by rw [f.mg]; exact hm) ⟨tk, rfl⟩ hd, sound_c fun _ => .int i⟩
/-- y = [..], y a name that an inner block reads -/
theorem ss_setC (i : Nat) {y : Str} {py spos : Pos} {gens : List Comprehension} (h : SE c (.ListComp elt gens scope pos) m) (hN : ndB c.N = true := by rfl) (hi : c.N[i]? = some y := by rfl) (hx : c.sc.names.lookup y = some .cell := by rfl) (ht : c.top = true := by rfl) :
    SS c (.Assign [.Name y py] (.ListComp elt gens scope pos) spos) (mSet i m) := by
  obtain ⟨ta, pa, sa⟩ := h
  refine ⟨tAsg ta (gName i), fun X g => ps_set (i := i) (by rw [g.N]; exact ndOf hN) (by rw [g.N]; exact hi) (by rw [g.sc]; exact .inr hx) (pa X g) (sw_cell g hx) (.inl (g.fn ht y)), fun σ s M H o e rel E h => ?_⟩
  obtain ⟨⟨r, s1⟩, e1, e⟩ := bd e
  obtain ⟨s2, e2, e⟩ := bd e
  cases e
  refine sa σ s M H r _ e1 rel _ fun v M1 H1 k => ?_
  obtain ⟨M2, k2⟩ := put_ok k e2
  exact h _ M2 H1 k2
theorem ss_setL (i : Nat) {y : Str} {py spos : Pos} (own : List (Str × Nat)) (hi : SI c tg iter mi) (hg : SG (c.blk scope) tg ts g) (ht : STs (c.blk scope) ifs t) (he : SE (c.blk scope) elt m) (hy : c.N[i]? = some y := by rfl) (hyl : c.sc.names.lookup y = some .local := by rfl)
    (hkind : c.sc.kind = .function := by rfl) (hline : (py.line == pos.line) = true := by rfl) (hno : (scope.names.any fun (n, k) => n == y && (k == .local || k == .cell)) = false := by decide +kernel) (hpl : (pos.line == spos.line) = true := by rfl)
    (hts : ∀ i ∈ ts, i ∈ own.map (·.2) := by decide) (hN : ndB c.N = true := by rfl) (ok : blkC c.N c.sc scope own = true := by rfl) (hs : ∀ env x, foldedSetIterable iter env x = pure x := by intro _ _; rfl) :
    SS c (.Assign [.Name y py] (.ListComp elt [⟨tg, iter, ifs, 0⟩] scope pos) spos) (mSet i (mLc (own.map (·.2)) mi g t m)) :=
  ss_setLc i own hi hg ht he hy hyl (fun X g => sw_true (by rw [g.sc]; exact hkind) (by rw [g.sc]; exact hyl) hline hno) hts hN ok hs
theorem ss_par2 (i j : Nat) {x y : Str} {a b : Expr} {px py pt : Pos} {kt k2 : _} {pt2 : Pos} {ms : MA} (ha : SA c [a, b] ms) (hN : ndB c.N = true := by rfl) (hi : c.N[i]? = some x := by rfl) (hj : c.N[j]? = some y := by rfl) (hij : i ≠ j := by decide)
    (hx : c.sc.names.lookup x = some .local := by rfl) (hy : c.sc.names.lookup y = some .local := by rfl) (hw : swappedStores [.Tuple [.Name x px, .Name y py] kt pt] (.Tuple [a, b] k2 pt2) (envAt c.sc) = pure (some [x, y]) := by rfl) :
    SS c (.Assign [.Tuple [.Name x px, .Name y py] kt pt] (.Tuple [a, b] k2 pt2) pos) (mPar i j ms) :=
  ss_par i j ha fun X g ta pa => ps_par g.calm (by rw [g.N]; exact ndOf hN) (by rw [g.N]; exact hi) (by rw [g.N]; exact hj) hij (by rw [g.sc]; exact hx) (by rw [g.sc]; exact hy) pa ((sw_scope (b := envAt c.sc) g.sc).trans hw)
/-- three names, each value data that stays -/
def mPar3 (i j l : Nat) (ms : MA) : MS := fun s => (ms s).bind fun p => match p.1 with
  | [.val d, .val e, .val f] => (put i (.val d) p.2).bind fun s2 => (put j (.val e) s2).bind fun s3 => (put l (.val f) s3).bind fun s4 => some (.nx s4)
  | _ => none
theorem ss_par3 (i j l : Nat) {x y z : Str} {a b d : Expr} {px py pz pt : Pos} {kt k2 : _} {pt2 : Pos} {ms : MA} (ha : SA c [a, b, d] ms) (hN : ndB c.N = true := by rfl) (hi : c.N[i]? = some x := by rfl) (hj : c.N[j]? = some y := by rfl) (hl : c.N[l]? = some z := by rfl) (hij : i ≠ j := by decide) (hil : i ≠ l := by decide) (hjl : j ≠ l := by decide)
    (hx : c.sc.names.lookup x = some .local := by rfl) (hy : c.sc.names.lookup y = some .local := by rfl) (hz : c.sc.names.lookup z = some .local := by rfl)
    (hw : swappedStores [.Tuple [.Name x px, .Name y py, .Name z pz] kt pt] (.Tuple [a, b, d] k2 pt2) (envAt c.sc) = pure (some [x, y, z]) := by rfl) :
    SS c (.Assign [.Tuple [.Name x px, .Name y py, .Name z pz] kt pt] (.Tuple [a, b, d] k2 pt2) pos) (mPar3 i j l ms) := by
  obtain ⟨t, pa, sd⟩ := ha
  refine ⟨_, fun X g => ps_par3 g.calm (by rw [g.N]; exact ndOf hN) (by rw [g.N]; exact hi) (by rw [g.N]; exact hj) (by rw [g.N]; exact hl) hij hil hjl (by rw [g.sc]; exact hx) (by rw [g.sc]; exact hy) (by rw [g.sc]; exact hz) (pa X g) ((sw_scope (b := envAt c.sc) g.sc).trans hw), fun σ s M H o e rel E h => ?_⟩
  obtain ⟨⟨rs, s1⟩, e1, e⟩ := bd e
  refine sd σ s M H rs s1 e1 rel _ fun vs M1 H1 k => ?_
  simp only at e
  split at e
  · obtain ⟨s2, e2, e⟩ := bd e
    obtain ⟨s3, e3, e⟩ := bd e
    obtain ⟨s4, e4, e⟩ := bd e
    cases e
    obtain ⟨kg, kr, kh, kn⟩ := k
    cases kh with
    | cons h1 kh =>
      cases kh with
      | cons h2 kh =>
        cases kh with
        | cons h3 kh =>
          cases kh
          refine ⟨_, _, _, rfl, ?_⟩
          have k1 := put_ok2 (r := .val _) ⟨kg, kr⟩ h1 trivial rfl e2
          have k2 := put_ok2 (r := .val _) k1 h2 trivial rfl e3
          exact h _ M1 H1 (put_ok2 (r := .val _) k2 h3 trivial rfl e4)
  · cases e
end
end Dm
set_option Elab.async false
set_option linter.all false
set_option maxRecDepth 100000
set_option maxHeartbeats 4000000
namespace Dm
open PySem PySem.Spec L2
set_option autoImplicit false
/-! what a program over plain data reaches -/
def WE (m : ME) (s : S) (Q : R → S → Prop) : Prop := ∃ r s', m s = some (r, s') ∧ Q r s'
def WT (t : MT) (s : S) (Q : Bool → S → Prop) : Prop := ∃ b s', t s = some (b, s') ∧ Q b s'
def WS (b : MS) (s : S) (Q : O → Prop) : Prop := ∃ o, b s = some o ∧ Q o
section
variable {a b : MS} {m mo : ME} {t : MT} {g : MG} {mi : MI} {s : S} {Q : O → Prop}
theorem ws_seq (h : WS a s fun o => ∃ s1, o = .nx s1 ∧ WS b s1 Q) : WS (mSeq a b) s Q := by
  obtain ⟨o, e, s1, rfl, o2, e2, q⟩ := h
  refine ⟨o2, ?_, q⟩
  unfold mSeq
  rw [e]
  exact e2
/-- a return behind the first -/
theorem ws_seqR (h : WS a s fun o => ∃ r s1, o = .rt r s1 ∧ Q o) : WS (mSeq a b) s Q := by
  obtain ⟨o, e, r, s1, rfl, q⟩ := h
  refine ⟨_, ?_, q⟩
  unfold mSeq
  rw [e]
  rfl
theorem ws_set {i : Nat} (h : WE m s fun r s1 => ∃ s2, put i r s1 = some s2 ∧ Q (.nx s2)) : WS (mSet i m) s Q := by
  obtain ⟨r, s1, e, s2, e2, q⟩ := h
  refine ⟨_, ?_, q⟩
  unfold mSet
  rw [e]
  show (put i r s1).bind _ = _
  rw [e2]
  rfl
theorem ws_if {c d : MS} (h : WT t s fun k s1 => if k then WS c s1 Q else WS d s1 Q) : WS (mIfS t c d) s Q := by
  obtain ⟨k, s1, e, q⟩ := h
  cases k with
  | true =>
    rw [if_pos rfl] at q
    obtain ⟨o, e2, q⟩ := q
    refine ⟨o, ?_, q⟩
    unfold mIfS
    rw [e]
    exact e2
  | false =>
    rw [if_neg Bool.false_ne_true] at q
    obtain ⟨o, e2, q⟩ := q
    refine ⟨o, ?_, q⟩
    unfold mIfS
    rw [e]
    exact e2
theorem ws_ret (h : WE m s fun r s1 => ∃ r', toRet r s1 = some r' ∧ Q (.rt r' s1)) : WS (mRet m) s Q := by
  obtain ⟨r, s1, e, r', e2, q⟩ := h
  refine ⟨_, ?_, q⟩
  unfold mRet
  rw [e]
  show (toRet r s1).bind _ = _
  rw [e2]
  rfl
theorem ws_for (h : ∃ ds s1, mi s = some (ds, s1) ∧ WS (loop g b ds) s1 Q) : WS (mFor mi g b) s Q := by
  obtain ⟨ds, s1, e, o, e2, q⟩ := h
  refine ⟨o, ?_, q⟩
  unfold mFor
  rw [e]
  exact e2
theorem WS.mono {Q' : O → Prop} (h : WS b s Q) (f : ∀ o, Q o → Q' o) : WS b s Q' := by
  obtain ⟨o, e, q⟩ := h
  exact ⟨o, e, f o q⟩
/-- a loop that runs to its end -/
theorem loop_run {α : Type} (f : α → D) (I : List α → S → Prop) : ∀ (xs done : List α) (s : S), I done s →
    (∀ (done : List α) (x : α) (s : S), I done s → x ∈ xs → ∃ s1, g (f x) s = some s1 ∧ WS b s1 fun o => ∃ s2, (o = .nx s2 ∨ o = .ct s2) ∧ I (done ++ [x]) s2) →
    ∃ s', loop g b (xs.map f) s = some (.nx s') ∧ I (done ++ xs) s'
  | [], done, s, h, _ => ⟨s, rfl, by rw [List.append_nil]; exact h⟩
  | x :: xs, done, s, h, st => by
    obtain ⟨s1, e1, o, e2, s2, ho, i2⟩ := st done x s h List.mem_cons_self
    obtain ⟨s', e3, i3⟩ := loop_run f I xs (done ++ [x]) s2 i2 fun dn y t it hy => st dn y t it (List.mem_cons_of_mem _ hy)
    refine ⟨s', ?_, by rw [List.append_assoc] at i3; exact i3⟩
    rw [List.map_cons]
    unfold loop
    rw [e1]
    show (b s1).bind _ = _
    rw [e2]
    rcases ho with rfl | rfl <;> exact e3
/-- the same, with the done part a whole prefix of the list -/
theorem loop_pre {α : Type} (f : α → D) (I : List α → S → Prop) (xs : List α) (s : S) (h : I [] s)
    (st : ∀ (done : List α) (x : α) (rest : List α) (s : S), xs = done ++ x :: rest → I done s → ∃ s1, g (f x) s = some s1 ∧ WS b s1 fun o => ∃ s2, (o = .nx s2 ∨ o = .ct s2) ∧ I (done ++ [x]) s2) :
    ∃ s', loop g b (xs.map f) s = some (.nx s') ∧ I xs s' := by
  suffices H : ∀ (ys done : List α) (s : S), xs = done ++ ys → I done s → ∃ s', loop g b (ys.map f) s = some (.nx s') ∧ I xs s' from H xs [] s rfl h
  intro ys
  induction ys with
  | nil => intro done s e i; rw [List.append_nil] at e; subst e; exact ⟨s, rfl, i⟩
  | cons y ys ih =>
    intro done s e i
    obtain ⟨s1, e1, o, e2, s2, ho, i2⟩ := st done y ys s e i
    obtain ⟨s', e3, i3⟩ := ih (done ++ [y]) s2 (by rw [e, List.append_assoc]; rfl) i2
    refine ⟨s', ?_, i3⟩
    rw [List.map_cons]
    unfold loop
    rw [e1]
    show (b s1).bind _ = _
    rw [e2]
    rcases ho with rfl | rfl <;> exact e3
/-- a comprehension: what is kept and what it is, told by the element -/
theorem lc_run {α : Type} (f : α → D) (vs : List Nat) (I : S → Prop) (p : α → Bool) (v : α → D) : ∀ (xs : List α) (s : S) (acc : List D), I s → acc.length + xs.length ≤ 100000 →
    (∀ (x : α) (s : S), I s → x ∈ xs → ∃ s1, g (f x) s = some s1 ∧ WT t s1 fun k s2 => k = p x ∧ (p x = true → WE m s2 fun r s3 => ∃ s4, frz r s3 = some (v x, s4) ∧ I (wipeS s4 vs)) ∧ (p x = false → I (wipeS s2 vs))) →
    ∃ s', lcLoop vs g t m (xs.map f) s acc = some (acc ++ (xs.filter p).map v, s') ∧ I s'
  | [], s, acc, i, _, _ => ⟨s, by simp [lcLoop], i⟩
  | x :: xs, s, acc, i, hl, st => by
    obtain ⟨s1, e1, k, s2, e2, rfl, h3, h4⟩ := st x s i List.mem_cons_self
    rw [List.length_cons] at hl
    rw [List.map_cons]
    unfold lcLoop
    rw [e1]
    show ∃ s', ((t s1).bind _ = _) ∧ _
    rw [e2]
    show ∃ s', ((if p x = true then _ else _) = _) ∧ _
    by_cases hp : p x = true
    · rw [if_pos hp]
      obtain ⟨r, s3, e3, s4, e4, i4⟩ := h3 hp
      rw [e3]
      show ∃ s', ((frz r s3).bind _ = _) ∧ _
      rw [e4]
      show ∃ s', ((if acc.length < 100000 then _ else _) = _) ∧ _
      rw [if_pos (by omega)]
      obtain ⟨s', e5, i5⟩ := lc_run f vs I p v xs _ (acc ++ [v x]) i4 (by rw [List.length_append, List.length_singleton]; omega) fun y s iy hy => st y s iy (List.mem_cons_of_mem _ hy)
      refine ⟨s', ?_, i5⟩
      rw [e5, List.filter_cons_of_pos hp, List.map_cons, List.append_assoc]
      rfl
    · have hp' : p x = false := by cases q : p x <;> simp_all
      rw [if_neg hp]
      obtain ⟨s', e5, i5⟩ := lc_run f vs I p v xs _ acc (h4 hp') (by omega) fun y s iy hy => st y s iy (List.mem_cons_of_mem _ hy)
      refine ⟨s', ?_, i5⟩
      rw [e5, List.filter_cons_of_neg hp]
/-- a comprehension whose keeping hangs on the state: each kept one is one of the given -/
theorem lc_some {α : Type} (f : α → D) (vs : List Nat) (I : S → Prop) (v : α → D → Prop) : ∀ (xs : List α) (s : S) (acc : List D), I s → acc.length + xs.length ≤ 100000 →
    (∀ (x : α) (s : S), I s → x ∈ xs → ∃ s1, g (f x) s = some s1 ∧ WT t s1 fun k s2 => (k = true → WE m s2 fun r s3 => ∃ d s4, frz r s3 = some (d, s4) ∧ v x d ∧ I (wipeS s4 vs)) ∧ (k = false → I (wipeS s2 vs))) →
    ∃ out s', lcLoop vs g t m (xs.map f) s acc = some (acc ++ out, s') ∧ I s' ∧ out.length ≤ xs.length ∧ ∀ d ∈ out, ∃ x ∈ xs, v x d
  | [], s, acc, i, _, _ => ⟨[], s, by rw [List.append_nil]; rfl, i, Nat.le_refl _, fun _ h => nomatch h⟩
  | x :: xs, s, acc, i, hl, st => by
    obtain ⟨s1, e1, k, s2, e2, h3, h4⟩ := st x s i List.mem_cons_self
    rw [List.length_cons] at hl
    rw [List.map_cons]
    unfold lcLoop
    rw [e1]
    show ∃ out s', ((t s1).bind _ = _) ∧ _
    rw [e2]
    show ∃ out s', ((if k = true then _ else _) = _) ∧ _
    cases k with
    | true =>
      rw [if_pos rfl]
      obtain ⟨r, s3, e3, d, s4, e4, hv, i4⟩ := h3 rfl
      rw [e3]
      show ∃ out s', ((frz r s3).bind _ = _) ∧ _
      rw [e4]
      show ∃ out s', ((if acc.length < 100000 then _ else _) = _) ∧ _
      rw [if_pos (by omega)]
      obtain ⟨out, s', e5, i5, l5, m5⟩ := lc_some f vs I v xs _ (acc ++ [d]) i4 (by rw [List.length_append, List.length_singleton]; omega) fun y s iy hy => st y s iy (List.mem_cons_of_mem _ hy)
      refine ⟨d :: out, s', ?_, i5, by rw [List.length_cons, List.length_cons]; omega, fun y hy => ?_⟩
      · rw [e5, List.append_assoc]; rfl
      · rcases List.mem_cons.1 hy with rfl | hy
        · exact ⟨x, List.mem_cons_self, hv⟩
        · obtain ⟨z, hz, q⟩ := m5 y hy
          exact ⟨z, List.mem_cons_of_mem _ hz, q⟩
    | false =>
      rw [if_neg Bool.false_ne_true]
      obtain ⟨out, s', e5, i5, l5, m5⟩ := lc_some f vs I v xs _ acc (h4 rfl) (by omega) fun y s iy hy => st y s iy (List.mem_cons_of_mem _ hy)
      refine ⟨out, s', e5, i5, by rw [List.length_cons]; omega, fun y hy => ?_⟩
      obtain ⟨z, hz, q⟩ := m5 y hy
      exact ⟨z, List.mem_cons_of_mem _ hz, q⟩
theorem we_lc {vs : List Nat} {P : R → S → Prop} (h : ∃ ds s1, mi s = some (ds, s1) ∧ ∃ out s2, lcLoop vs g t m ds (wipeS s1 vs) [] = some (out, s2) ∧ P (.own out) (unwipe s1 s2 vs)) : WE (mLc vs mi g t m) s P := by
  obtain ⟨ds, s1, e1, out, s2, e2, p⟩ := h
  refine ⟨_, _, ?_, p⟩
  unfold mLc
  rw [e1]
  show (lcLoop vs g t m ds (wipeS s1 vs) []).bind _ = _
  rw [e2]
  rfl
end
section
variable {a b : MS} {s s1 : S} {Q : O → Prop} {nv np : Nat} {ds xs : List D}
theorem ws_step (e : a s = some (.nx s1)) (h : WS b s1 Q) : WS (mSeq a b) s Q := ws_seq ⟨_, e, s1, rfl, h⟩
theorem fnV_ws {P : Ret → Prop} (W : WS b (initV nv ds) fun o => ∃ r s, o = .rt r s ∧ P r) (hl : ds.length = np := by rfl) : ∃ r, fnV nv np b ds = some r ∧ P r := by
  obtain ⟨o, e, r, s, rfl, p⟩ := W
  refine ⟨r, ?_, p⟩
  unfold fnV
  rw [if_pos hl, e]
  rfl
theorem fnV_nx (W : WS b (initV nv ds) fun o => ∃ s, o = .nx s) (hl : ds.length = np := by rfl) : fnV nv np b ds = some (.val .non) := by
  obtain ⟨o, e, s, rfl⟩ := W
  unfold fnV
  rw [if_pos hl, e]
  rfl
theorem fnW_ws {P : Ret → List D → Prop} (W : WS b (initW nv xs ds) fun o => ∃ r s ys, o = .rt r s ∧ port0 s = some ys ∧ P r ys) (hl : ds.length + 1 = np := by rfl) : ∃ r ys, fnW nv np b xs ds = some (r, ys) ∧ P r ys := by
  obtain ⟨o, e, r, s, ys, rfl, e2, p⟩ := W
  refine ⟨r, ys, ?_, p⟩
  unfold fnW
  rw [if_pos hl, e]
  show (port0 s).bind _ = _
  rw [e2]
  rfl
end
abbrev nI : Nat → D := fun k => .int k
theorem rgD_map (n : Nat) : rgD 0 n 1 = (List.range n).map nI := by
  unfold rgD
  refine List.map_congr_left fun i _ => ?_
  show D.int _ = D.int _
  congr 1
  omega
theorem rgD_map2 (lo : Nat) (n : Nat) : rgD lo n 1 = (List.range n).map fun i => nI (lo + i) := by
  unfold rgD
  refine List.map_congr_left fun i _ => ?_
  show D.int _ = D.int _
  congr 1
  omega
end Dm
set_option Elab.async false
set_option linter.all false
set_option maxRecDepth 100000
set_option maxHeartbeats 4000000
namespace Dm
open PySem PySem.Spec L2
set_option autoImplicit false
/-! ### data that shows and compares -/
def tinyI (i : Int) : Bool := decide (i.natAbs < 200)
mutual
def tame : D → Bool
  | .non => true
  | .bl _ => true
  | .int i => tinyI i
  | .str _ => false
  | .tup xs => tames xs
  | .lst xs => tames xs
  | .dic _ _ => false
def tames : List D → Bool
  | [] => true
  | x :: xs => tame x && tames xs
end
theorem strOk_app (x y : Str) (h : PyData.strOk x = true) (k : PyData.strOk y = true) : PyData.strOk (x ++ y) = true := by
  unfold PyData.strOk at *
  show (x.cps ++ y.cps).all _ = true
  rw [Array.all_append, h, k]
  rfl
theorem strOk_join (sep : Str) (hs : PyData.strOk sep = true) : ∀ ts : List Str, (∀ t ∈ ts, PyData.strOk t = true) → PyData.strOk (Str.join sep ts) = true
  | [], _ => (by decide +kernel : PyData.strOk Str.empty = true)
  | [x], h => h x (by simp)
  | x :: y :: r, h => by
    show PyData.strOk (x ++ sep ++ Str.join sep (y :: r)) = true
    exact strOk_app _ _ (strOk_app _ _ (h x (by simp)) hs) (strOk_join sep hs (y :: r) fun t ht => h t (List.mem_cons_of_mem _ ht))
theorem strOk_from : ∀ (ts : List Str) (k : Nat) (acc : Str), PyData.strOk acc = true → (∀ t ∈ ts, PyData.strOk t = true) → PyData.strOk (textFrom k acc ts) = true
  | [], k, acc, h, _ => h
  | t :: r, k, acc, h, ht => by
    refine strOk_from r (k + 1) _ (strOk_app _ _ (strOk_app _ _ h ?_) (ht t (by simp))) fun u hu => ht u (List.mem_cons_of_mem _ hu)
    by_cases h0 : k > 0
    · rw [if_pos h0]; decide +kernel
    · rw [if_neg h0]; decide +kernel
theorem tiny_str : ∀ k < 200, PyData.strOk (PyData.shown (.int (k : Nat))) = true ∧ PyData.strOk (PyData.shown (.int (-(k : Nat)))) = true := by decide +kernel
theorem tinyI_str {i : Int} (h : tinyI i = true) : PyData.strOk (PyData.shown (.int i)) = true := by
  unfold tinyI at h
  rw [decide_eq_true_eq] at h
  rcases Int.natAbs_eq i with e | e
  · rw [e]; exact (tiny_str _ h).1
  · rw [e]; exact (tiny_str _ h).2
structure Tm (d : D) : Prop where
  nd : noDic d = true
  sh : (toP d).showable = true
  hd : (toP d).hasDict = false
  lv : (toP d).leavesShort 13 = true
  so : PyData.strOk (toP d).shown = true
  cl : (toP d).canLay0 = true
structure Tms (ds : List D) : Prop where
  nd : noDics ds = true
  sh : PyData.showableAll (toPs ds) = true
  hd : PyData.hasDictAll (toPs ds) = false
  lv : PyData.leavesShortAll 13 (toPs ds) = true
  so : ∀ t ∈ PyData.shownAll (toPs ds), PyData.strOk t = true
  cl : PyData.canLayAll0 (toPs ds) = true
mutual
theorem tame_tm : ∀ d : D, tame d = true → Tm d
  | .non, _ => ⟨rfl, rfl, rfl, rfl, by decide +kernel, rfl⟩
  | .bl true, _ => ⟨rfl, rfl, rfl, rfl, by decide +kernel, rfl⟩
  | .bl false, _ => ⟨rfl, rfl, rfl, rfl, by decide +kernel, rfl⟩
  | .int i, h => by
    have h : tinyI i = true := by simpa only [tame] using h
    refine ⟨rfl, ?_, rfl, ?_, tinyI_str h, rfl⟩
    · unfold tinyI at h
      rw [decide_eq_true_eq] at h
      show PyData.showable (.int i) = true
      simp only [PyData.showable, decide_eq_true_eq]
      refine Nat.lt_of_le_of_lt (Nat.log2_le_self _) (by omega)
    · unfold tinyI at h
      rw [decide_eq_true_eq] at h
      show PyData.leavesShort 13 (.int i) = true
      simp only [PyData.leavesShort, decide_eq_true_eq]
      exact PyData.shown_int_le (by omega)
  | .str _, h => by simp [tame] at h
  | .dic _ _, h => by simp [tame] at h
  | .tup xs, h => by
    have t := tames_tm xs (by simpa only [tame] using h)
    exact ⟨t.nd, t.sh, t.hd, t.lv, by
      show PyData.strOk (tupleText (PyData.shownAll (toPs xs))) = true
      unfold tupleText
      refine strOk_app _ _ (strOk_app _ _ (by decide +kernel) (strOk_join _ (by decide +kernel) _ t.so)) ?_
      split <;> decide +kernel, t.cl⟩
  | .lst xs, h => by
    have t := tames_tm xs (by simpa only [tame] using h)
    exact ⟨t.nd, t.sh, t.hd, t.lv, by
      show PyData.strOk (listText (PyData.shownAll (toPs xs))) = true
      unfold listText
      exact strOk_app _ _ (strOk_from _ _ _ (by decide +kernel) t.so) (by decide +kernel), t.cl⟩
theorem tames_tm : ∀ ds : List D, tames ds = true → Tms ds
  | [], _ => ⟨rfl, rfl, rfl, rfl, (fun _ h => nomatch h), rfl⟩
  | x :: xs, h => by
    have h : (tame x && tames xs) = true := by simpa only [tames] using h
    rw [Bool.and_eq_true] at h
    have a := tame_tm x h.1
    have b := tames_tm xs h.2
    refine ⟨?_, ?_, ?_, ?_, ?_, ?_⟩
    · show (noDic x && noDics xs) = true
      rw [a.nd, b.nd]; rfl
    · show (PyData.showable (toP x) && PyData.showableAll (toPs xs)) = true
      rw [a.sh, b.sh]; rfl
    · show (PyData.hasDict (toP x) || PyData.hasDictAll (toPs xs)) = false
      rw [a.hd, b.hd]; rfl
    · show (PyData.leavesShort 13 (toP x) && PyData.leavesShortAll 13 (toPs xs)) = true
      rw [a.lv, b.lv]; rfl
    · intro t ht
      have ht : t ∈ (toP x).shown :: PyData.shownAll (toPs xs) := ht
      rcases List.mem_cons.1 ht with rfl | ht
      · exact a.so
      · exact b.so t ht
    · show (PyData.canLay0 (toP x) && PyData.canLayAll0 (toPs xs)) = true
      rw [a.cl, b.cl]; rfl
end
/-- repr of tame data, its depth and bulk told -/
theorem repr_tame {d : D} (h : tame d = true) (hp : (toP d).depth ≤ 60) (hb : (toP d).bulk ≤ 1000000) : fRepr [d] = some (.str (toP d).shown) := by
  have t := tame_tm d h
  have l := PyData.shown_le_bulk 13 (by decide) (toP d) t.lv
  unfold fRepr
  have ok : okR (toP d) = true := by
    unfold okR
    rw [t.sh, t.hd, decide_eq_true hp, decide_eq_true (by omega)]
    rfl
  simp only [t.nd, ok, Bool.and_self, if_true]
theorem shp_str {x : Str} (h : PyData.strOk x = true) : shp (.str x) = true := by
  unfold shp
  show (true && _) = true
  rw [Bool.true_and]
  show (PyData.canLay0 (.str x) && decide (PyData.depth (.str x) ≤ 64)) = true
  simp only [PyData.canLay0, h, PyData.depth]
  rfl
theorem shp_tame {d : D} (h : tame d = true) (hp : (toP d).depth ≤ 64) : shp d = true := by
  have t := tame_tm d h
  unfold shp
  rw [t.nd]
  show (true && ((toP d).canLay0 && decide ((toP d).depth ≤ 64))) = true
  rw [t.cl, decide_eq_true hp]
  rfl
/-! lists of small whole numbers -/
theorem toPs_nI (l : List Nat) : toPs (l.map nI) = l.map fun (k : Nat) => PyData.int (k : Int) := by
  induction l with
  | nil => rfl
  | cons x l ih => show PyData.int _ :: toPs _ = _; rw [ih]; rfl
theorem tames_nI {l : List Nat} (h : ∀ j ∈ l, j < 200) : tames (l.map nI) = true := by
  induction l with
  | nil => rfl
  | cons x l ih =>
    show (tinyI (x : Nat) && tames _) = true
    rw [ih fun j hj => h j (List.mem_cons_of_mem _ hj)]
    have := h x List.mem_cons_self
    unfold tinyI
    rw [decide_eq_true (by omega)]
    rfl
theorem depth_nI (l : List Nat) : PyData.depthAll (toPs (l.map nI)) = 0 := by
  induction l with
  | nil => rfl
  | cons x l ih => show max (PyData.depth (.int _)) (PyData.depthAll (toPs _)) = 0; rw [ih]; rfl
theorem bulk_nI (l : List Nat) : PyData.bulkAll (toPs (l.map nI)) = l.length := by
  induction l with
  | nil => rfl
  | cons x l ih => show PyData.bulk (.int _) + 1 + PyData.bulkAll (toPs _) = _; rw [ih, List.length_cons]; show 0 + 1 + _ = _; omega
theorem eqvAll_nI : ∀ l m : List Nat, PyData.eqvAll (toPs (l.map nI)) (toPs (m.map nI)) = decide (l = m)
  | [], [] => rfl
  | [], _ :: _ => rfl
  | _ :: _, [] => rfl
  | x :: l, y :: m => by
    show (PyData.eqv (.int x) (.int y) && PyData.eqvAll (toPs _) (toPs _)) = _
    rw [eqvAll_nI l m]
    have : PyData.eqv (.int x) (.int y) = decide (x = y) := by
      show ((x : Int) == (y : Int)) = _
      by_cases h : x = y
      · subst h; simp
      · rw [decide_eq_false h]; simp; omega
    rw [this]
    simp
/-- the text of a tuple of such -/
def RS (l : List Nat) : Str := (toP (.tup (l.map nI))).shown
theorem repr_tup {l : List Nat} (h : ∀ j ∈ l, j < 200) (hl : l.length ≤ 1000000) : fRepr [.tup (l.map nI)] = some (.str (RS l)) := by
  refine repr_tame (by show tames _ = true; exact tames_nI h) ?_ ?_
  · show PyData.depthAll (toPs (l.map nI)) + 1 ≤ 60
    rw [depth_nI]; decide
  · show PyData.bulkAll (toPs (l.map nI)) ≤ _
    rw [bulk_nI]; exact hl
theorem shp_RS {l : List Nat} (h : ∀ j ∈ l, j < 200) : shp (.str (RS l)) = true :=
  shp_str (tame_tm _ (show tame (.tup (l.map nI)) = true from tames_nI h)).so
theorem ne_RS {l : List Nat} (h : ∀ j ∈ l, j < 200) : fNe (.str (RS l)) (.str (RS l)) = some (.bl false) := by
  unfold fNe
  rw [shp_RS h]
  show some (D.bl (!(RS l == RS l))) = _
  rw [show (RS l == RS l) = true from by simp]
  rfl
theorem eq_RS {l : List Nat} (h : ∀ j ∈ l, j < 200) : fEq (.str (RS l)) (.str (RS l)) = some (.bl true) := by
  unfold fEq
  rw [shp_RS h]
  show some (D.bl (RS l == RS l)) = _
  rw [show (RS l == RS l) = true from by simp]
theorem shp_lst {l : List Nat} (h : ∀ j ∈ l, j < 200) : shp (.lst (l.map nI)) = true :=
  shp_tame (show tames _ = true from tames_nI h) (by show PyData.depthAll (toPs (l.map nI)) + 1 ≤ 64; rw [depth_nI]; decide)
theorem shp_tup {l : List Nat} (h : ∀ j ∈ l, j < 200) : shp (.tup (l.map nI)) = true :=
  shp_tame (show tames _ = true from tames_nI h) (by show PyData.depthAll (toPs (l.map nI)) + 1 ≤ 64; rw [depth_nI]; decide)
theorem shp_lst0 : shp (.lst []) = true := by decide
theorem shp_tup0 : shp (.tup []) = true := by decide
theorem shp_int (i : Int) : shp (.int i) = true := rfl
theorem fEq_int (i j : Int) : fEq (.int i) (.int j) = some (.bl (decide (i = j))) := by
  show some (D.bl (i == j)) = _
  congr 2
theorem fNe_int (i j : Int) : fNe (.int i) (.int j) = some (.bl (!decide (i = j))) := by
  show some (D.bl (!(i == j))) = _
  congr 2
theorem fNe_lst0 {l : List Nat} (h : ∀ j ∈ l, j < 200) : fNe (.lst (l.map nI)) (.lst []) = some (.bl (!decide (l = []))) := by
  unfold fNe
  rw [shp_lst h, shp_lst0]
  show some (D.bl (!PyData.eqvAll (toPs (l.map nI)) (toPs (([] : List Nat).map nI)))) = _
  rw [eqvAll_nI]
theorem fNe_tup0 {l : List Nat} (h : ∀ j ∈ l, j < 200) : fNe (.tup (l.map nI)) (.tup []) = some (.bl (!decide (l = []))) := by
  unfold fNe
  rw [shp_tup h, shp_tup0]
  show some (D.bl (!PyData.eqvAll (toPs (l.map nI)) (toPs (([] : List Nat).map nI)))) = _
  rw [eqvAll_nI]
theorem fEq_tup0 {l : List Nat} (h : ∀ j ∈ l, j < 200) : fEq (.tup (l.map nI)) (.tup []) = some (.bl (decide (l = []))) := by
  unfold fEq
  rw [shp_tup h, shp_tup0]
  show some (D.bl (PyData.eqvAll (toPs (l.map nI)) (toPs (([] : List Nat).map nI)))) = _
  rw [eqvAll_nI]
theorem inD_nI (j : Nat) (l : List Nat) : inD (nI j) (l.map nI) = decide (j ∈ l) := by
  unfold inD
  induction l with
  | nil => rfl
  | cons x l ih =>
    rw [List.map_cons, List.any_cons, ih]
    have : eqF (nI x) (nI j) = decide (x = j) := by
      show ((x : Int) == (j : Int)) = _
      by_cases h : x = j
      · subst h; simp
      · rw [decide_eq_false h]; simp; omega
    rw [this]
    by_cases h : x = j
    · subst h; simp
    · simp [h, Ne.symm h]
theorem flat_nI (l : List Nat) : (l.map nI).all flatD = true := by simp [flatD]
theorem fIn_lst (neg : Bool) (j : Nat) (l : List Nat) : fIn neg (.int j) (.lst (l.map nI)) = some (.bl (if neg then !decide (j ∈ l) else decide (j ∈ l))) := by
  unfold fIn
  show (if (flatD (nI j) && (l.map nI).all flatD) = true then _ else _) = _
  rw [flat_nI]
  show some _ = _
  rw [inD_nI]
theorem fIn_tup (neg : Bool) (j : Nat) (l : List Nat) : fIn neg (.int j) (.tup (l.map nI)) = some (.bl (if neg then !decide (j ∈ l) else decide (j ∈ l))) := fIn_lst neg j l
theorem fm_nat (a b : Nat) : ((a : Int)).fmod (b : Int) = ((a % b : Nat) : Int) := (Int.ofNat_fmod a b).symm
/-! a slot that may be written -/
def Fr : Option Cell → Bool
  | some (.own true _) => false
  | _ => true
theorem put_valF {s : S} {i : Nat} {c : Option Cell} {d : D} (h : s[i]? = some c) (hc : Fr c = true) : put i (.val d) s = some (s.set i (some (.val d))) := by
  unfold put
  rw [h]
  split
  · rename_i q; cases q
  · rename_i q; cases q; cases hc
  · rfl
theorem put_ownF {s : S} {i : Nat} {c : Option Cell} {xs : List D} (h : s[i]? = some c) (hc : Fr c = true) : put i (.own xs) s = some (s.set i (some (.own false xs))) := by
  unfold put
  rw [h]
  split
  · rename_i q; cases q
  · rename_i q; cases q; cases hc
  · rfl
end Dm
set_option Elab.async false
set_option linter.all false
set_option maxRecDepth 100000
set_option maxHeartbeats 4000000
namespace Dm
open PySem PySem.Spec L2
set_option autoImplicit false
/-! ### lists of whole numbers, as functions of the place -/
def fl (m : Nat) (x : Nat → Int) : List D := (List.range m).map fun p => D.int (x p)
theorem fl_len (m : Nat) (x : Nat → Int) : (fl m x).length = m := by unfold fl; rw [List.length_map, List.length_range]
theorem fl_get {m p : Nat} (x : Nat → Int) (h : p < m) : (fl m x)[p]? = some (.int (x p)) := by
  unfold fl
  rw [List.getElem?_map, List.getElem?_range h]; rfl
theorem fl_congr {m : Nat} {x y : Nat → Int} (h : ∀ p < m, x p = y p) : fl m x = fl m y :=
  List.map_congr_left fun p hp => by rw [h p (List.mem_range.1 hp)]
theorem fl_set {m p : Nat} (x : Nat → Int) (v : Int) (h : p < m) : (fl m x).set p (.int v) = fl m fun q => if q = p then v else x q := by
  refine List.ext_getElem? fun q => ?_
  rw [List.getElem?_set]
  by_cases hq : q < m
  · rw [fl_get x hq, fl_len]
    by_cases e : p = q
    · subst e; rw [fl_get _ h, if_pos rfl, if_pos h, if_pos rfl]
    · rw [fl_get _ hq, if_neg e, if_neg (Ne.symm e)]
  · have e1 : (fl m fun q => if q = p then v else x q)[q]? = none := List.getElem?_eq_none (by rw [fl_len]; omega)
    have e2 : (fl m x)[q]? = none := List.getElem?_eq_none (by rw [fl_len]; omega)
    rw [e1, e2, if_neg (by omega)]
theorem fl_drop (m : Nat) (x : Nat → Int) : (fl (m + 1) x).dropLast = fl m x := by
  unfold fl
  rw [List.range_succ, List.map_append, List.map_singleton, List.dropLast_concat]
theorem fl_take {m k : Nat} (x : Nat → Int) (h : k ≤ m) : (fl m x).take k = fl k x := by
  unfold fl
  rw [← List.map_take, List.take_range, Nat.min_eq_left h]
theorem fl_of (l : List Int) : l.map D.int = fl l.length fun p => l.getD p 0 := by
  refine List.ext_getElem? fun q => ?_
  by_cases hq : q < l.length
  · rw [fl_get _ hq]; simp [hq, List.getD]
  · rw [List.getElem?_eq_none (by simpa using hq), List.getElem?_eq_none (by rw [fl_len]; omega)]
theorem ixN_nat {n j : Nat} (h : j < n) : ixN n (j : Int) = some j := by
  unfold ixN
  rw [if_pos (by omega), if_pos (by omega)]
  rfl
theorem ixN_of {n j : Nat} {i : Int} (e : i = j) (h : j < n) : ixN n i = some j := by subst e; exact ixN_nat h
theorem atI_of {α : Type} {xs : List α} {j : Nat} {i : Int} {z : α} (e : i = j) (h : xs[j]? = some z) : atI xs i = some z := by
  have hl : j < xs.length := by
    rcases Nat.lt_or_ge j xs.length with h1 | h1
    · exact h1
    · rw [List.getElem?_eq_none h1] at h; cases h
  unfold atI
  rw [ixN_of e hl]
  exact h
theorem atI_fl {m j : Nat} {i : Int} (x : Nat → Int) (e : i = j) (h : j < m) : atI (fl m x) i = some (.int (x j)) := atI_of e (fl_get x h)
theorem ixN_fl {m j : Nat} {i : Int} (x : Nat → Int) (e : i = j) (h : j < m) : ixN (fl m x).length i = some j := ixN_of e (by rw [fl_len]; exact h)
theorem small_nat {n : Nat} (h : n ≤ 1000000000) : small (n : Int) = true := by
  unfold small
  rw [decide_eq_true (by omega), decide_eq_true (by omega)]
  rfl
theorem small_int {i : Int} (h : -1000000000 ≤ i) (h2 : i ≤ 1000000000) : small i = true := by
  unfold small
  rw [decide_eq_true h, decide_eq_true h2]
  rfl
theorem rgD_down (lo : Nat) (n : Nat) (h : n ≤ lo + 1) : rgD lo n (-1) = (List.range n).map fun i => nI (lo - i) := by
  unfold rgD
  refine List.map_congr_left fun i hi => ?_
  have := List.mem_range.1 hi
  show D.int _ = D.int _
  congr 1
  omega
section
variable {b : MS} {g : MG} {s : S}
theorem loop_rng {f : Nat → D} (I : Nat → S → Prop) (K : Nat) (h : I 0 s)
    (st : ∀ i s, i < K → I i s → ∃ s1, g (f i) s = some s1 ∧ WS b s1 fun o => ∃ s2, (o = .nx s2 ∨ o = .ct s2) ∧ I (i + 1) s2) :
    ∃ s', loop g b ((List.range K).map f) s = some (.nx s') ∧ I K s' := by
  obtain ⟨s', e, i⟩ := loop_pre f (fun dn s => I dn.length s) (List.range K) s h fun dn x rest s e i => by
    have hx : (List.range K)[dn.length]? = some x := by rw [e]; simp
    have hl : dn.length < K := by
      rcases Nat.lt_or_ge dn.length K with h1 | h1
      · exact h1
      · rw [List.getElem?_eq_none (by simpa using h1)] at hx; cases hx
    rw [List.getElem?_range hl] at hx
    cases hx
    obtain ⟨s1, a, o, c, s2, ho, i2⟩ := st _ s hl i
    exact ⟨s1, a, o, c, s2, ho, by rw [List.length_append]; exact i2⟩
  exact ⟨s', e, by simpa using i⟩
end
theorem ws_ifT {t : MT} {c d : MS} {s s1 : S} {Q : O → Prop} (e : t s = some (true, s1)) (h : WS c s1 Q) : WS (mIfS t c d) s Q := ws_if ⟨true, s1, e, h⟩
theorem ws_ifF {t : MT} {c d : MS} {s s1 : S} {Q : O → Prop} (e : t s = some (false, s1)) (h : WS d s1 Q) : WS (mIfS t c d) s Q := ws_if ⟨false, s1, e, h⟩
theorem ws_skip {s : S} {Q : O → Prop} (q : Q (.nx s)) : WS mSkip s Q := ⟨_, rfl, q⟩
theorem ws_nx {a : MS} {s s1 : S} {Q : O → Prop} (e : a s = some (.nx s1)) (q : Q (.nx s1)) : WS a s Q := ⟨_, e, q⟩
theorem ws_rt {a : MS} {s s1 : S} {r : Ret} {Q : O → Prop} (e : a s = some (.rt r s1)) (q : Q (.rt r s1)) : WS a s Q := ⟨_, e, q⟩
theorem ws_rng {b : MS} {g : MG} {s : S} {Q : O → Prop} {f : Nat → D} (I : Nat → S → Prop) (K : Nat) (h : I 0 s)
    (st : ∀ i s, i < K → I i s → ∃ s1, g (f i) s = some s1 ∧ WS b s1 fun o => ∃ s2, (o = .nx s2 ∨ o = .ct s2) ∧ I (i + 1) s2) (fin : ∀ s', I K s' → Q (.nx s')) : WS (loop g b ((List.range K).map f)) s Q := by
  obtain ⟨s', e, i⟩ := loop_rng I K h st
  exact ⟨_, e, fin s' i⟩
theorem ws_list {b : MS} {g : MG} {s : S} {Q : O → Prop} {α : Type} (f : α → D) (I : List α → S → Prop) (xs : List α) (h : I [] s)
    (st : ∀ (done : List α) (x : α) (rest : List α) (s : S), xs = done ++ x :: rest → I done s → ∃ s1, g (f x) s = some s1 ∧ WS b s1 fun o => ∃ s2, (o = .nx s2 ∨ o = .ct s2) ∧ I (done ++ [x]) s2) (fin : ∀ s', I xs s' → Q (.nx s')) : WS (loop g b (xs.map f)) s Q := by
  obtain ⟨s', e, i⟩ := loop_pre f I xs s h st
  exact ⟨_, e, fin s' i⟩
theorem rng1_of {ms : MA} {s s1 : S} {rs : List R} {i : Int} (k : Nat) (h : ms s = some (rs, s1)) (hp : peeks rs s1 = some [.int i]) (hi : i = k) (hk : k ≤ 1000000000) : mRng fRg1 ms s = some ((List.range k).map nI, s1) := by
  subst hi
  have hs := small_nat hk
  unfold mRng
  rw [h]
  show (peeks rs s1).bind _ = _
  rw [hp]
  show (fRg1 [.int k]).bind _ = _
  have : fRg1 [.int k] = some (0, k, 1) := by
    unfold fRg1
    show (if small k = true then _ else _) = _
    rw [if_pos hs]
    rfl
  rw [this]
  show some (rgD 0 k 1, s1) = _
  rw [rgD_map]
theorem rng2_of {ms : MA} {s s1 : S} {rs : List R} {i j : Int} (a b : Nat) (h : ms s = some (rs, s1)) (hp : peeks rs s1 = some [.int i, .int j]) (hi : i = a) (hj : j = b) (ha : a ≤ 1000000000) (hb : b ≤ 1000000000) : mRng fRg2 ms s = some ((List.range (b - a)).map fun i => nI (a + i), s1) := by
  subst hi
  subst hj
  have hs := small_nat ha
  have hs2 := small_nat hb
  unfold mRng
  rw [h]
  show (peeks rs s1).bind _ = _
  rw [hp]
  show (fRg2 [.int a, .int b]).bind _ = _
  have : fRg2 [.int a, .int b] = some ((a : Int), b - a, 1) := by
    unfold fRg2
    show (if (small a && small b) = true then _ else _) = _
    rw [hs, hs2]
    show some ((a : Int), ((b : Int) - a).toNat, (1 : Int)) = _
    rw [show ((b : Int) - a).toNat = b - a from by omega]
  rw [this]
  show some (rgD a (b - a) 1, s1) = _
  rw [rgD_map2]
theorem mBin_of {f : D → D → Option D} {ma mb : ME} {s : S} {d e z : D} (ha : ma s = some (.val d, s)) (hb : mb s = some (.val e, s)) (hf : f d e = some z) : mBin f ma mb s = some (.val z, s) := by
  unfold mBin
  rw [ha]
  show (mb s).bind _ = _
  rw [hb]
  show (f d e).bind _ = _
  rw [hf]
  rfl
theorem mBin_of2 {f : D → D → Option D} {ma mb : ME} {s : S} {ra rb : R} {d e z : D} (ha : ma s = some (ra, s)) (hb : mb s = some (rb, s)) (pa : peek ra s = some d) (pb : peek rb s = some e) (hf : f d e = some z) : mBin f ma mb s = some (.val z, s) := by
  unfold mBin
  rw [ha]
  show (mb s).bind _ = _
  rw [hb]
  show (peek ra s).bind _ = _
  rw [pa]
  show (peek rb s).bind _ = _
  rw [pb]
  show (f d e).bind _ = _
  rw [hf]
  rfl
theorem mTest_of {m : ME} {s : S} {b : Bool} (h : m s = some (.val (.bl b), s)) : mTest m s = some (b, s) := by
  unfold mTest
  rw [h]
  rfl
theorem set_of {m : ME} {s s1 s2 : S} {r : R} {i : Nat} (h : m s = some (r, s1)) (h2 : put i r s1 = some s2) : mSet i m s = some (.nx s2) := by
  unfold mSet
  rw [h]
  show (put i r s1).bind _ = _
  rw [h2]
  rfl
theorem callW_of {f : FnW} {mo : ME} {ms : MA} {s s1 : S} {k : Nat} {p : Bool} {xs ys ds : List D} {rs : List R} {d : D} {s2 : S} (ho : mo s = some (.slot k, s)) (hm : ms s = some (rs, s1)) (hv : vals rs = some ds) (hk : s1[k]? = some (some (.own p xs))) (hf : f xs ds = some (.val d, ys)) (h2 : s1.set k (some (.own p ys)) = s2) : mCallW f mo ms s = some (.val d, s2) := by
  have ho' : ownAt (.slot k) s1 = some (k, p, xs) := by unfold ownAt; simp only; rw [hk]
  subst h2
  unfold mCallW
  rw [ho]
  show (ms s).bind _ = _
  rw [hm]
  show (vals rs).bind _ = _
  rw [hv]
  show (ownAt (.slot k) s1).bind _ = _
  rw [ho']
  show (f xs ds).bind _ = _
  rw [hf]
  rfl
theorem cons_of {m : ME} {ms : MA} {s s1 s2 : S} {r : R} {rs : List R} (h : m s = some (r, s1)) (h2 : ms s1 = some (rs, s2)) : mCons m ms s = some (r :: rs, s2) := by
  unfold mCons
  rw [h]
  show (ms s1).bind _ = _
  rw [h2]
  rfl
theorem frz_of {m : ME} {s s1 : S} {xs : List D} (h : m s = some (.own xs, s1)) : mFrz m s = some (.val (.lst xs), s1) := by
  unfold mFrz
  rw [h]
  rfl
theorem frzV_of {m : ME} {s s1 : S} {d : D} (h : m s = some (.val d, s1)) : mFrz m s = some (.val d, s1) := by
  unfold mFrz
  rw [h]
  rfl
theorem lst_of {ms : MA} {s s1 : S} {rs : List R} {ds : List D} (h : ms s = some (rs, s1)) (hv : vals rs = some ds) (hl : ds.length ≤ 100000) : mLst ms s = some (.own ds, s1) := by
  unfold mLst
  rw [h]
  show (vals rs).bind _ = _
  rw [hv]
  show (if ds.length ≤ 100000 then _ else _) = _
  rw [if_pos hl]
theorem tup_of {ms : MA} {s s1 : S} {rs : List R} {ds : List D} (h : ms s = some (rs, s1)) (hv : vals rs = some ds) (hl : ds.length ≤ 100000) : mTup ms s = some (.val (.tup ds), s1) := by
  unfold mTup
  rw [h]
  show (vals rs).bind _ = _
  rw [hv]
  show (if ds.length ≤ 100000 then _ else _) = _
  rw [if_pos hl]
theorem tupOf_of {m : ME} {s s1 : S} {xs : List D} (h : m s = some (.own xs, s1)) : mTupOf (mCons m mNil) s = some (.val (.tup xs), s1) := by
  unfold mTupOf
  rw [cons_of h rfl]
  rfl
theorem callV_of {f : FnV} {ms : MA} {s s1 : S} {rs : List R} {ds : List D} {r : Ret} (h : ms s = some (rs, s1)) (hv : vals rs = some ds) (hf : f ds = some r) : mCallV f ms s = some (rOf r, s1) := by
  unfold mCallV
  rw [h]
  show (vals rs).bind _ = _
  rw [hv]
  show (f ds).bind _ = _
  rw [hf]
  rfl
theorem ifT_of {t : MT} {a b : ME} {s s1 : S} (h : t s = some (true, s1)) : mIf t a b s = a s1 := by
  unfold mIf
  rw [h]
  rfl
theorem ifF_of {t : MT} {a b : ME} {s s1 : S} (h : t s = some (false, s1)) : mIf t a b s = b s1 := by
  unfold mIf
  rw [h]
  rfl
theorem repr_of {m : ME} {s s1 : S} {r : R} {d z : D} (h : m s = some (r, s1)) (hp : peek r s1 = some d) (hf : fRepr [d] = some z) : mCS fRepr (mCons m mNil) s = some (.val z, s1) := by
  unfold mCS
  rw [cons_of h rfl]
  show ((peek r s1).bind _ |>.bind _) = _
  rw [hp]
  show (fRepr [d]).bind _ = _
  rw [hf]
  rfl
theorem mInt_of {m : ME} {s : S} {i : Int} (h : m s = some (.val (.int i), s)) : mCS (fI1 fun i => i) (mCons m mNil) s = some (.val (.int i), s) := by
  unfold mCS mCons
  rw [h]
  rfl
theorem cmul_nat {a : Nat} (h : a < 1000000) (j : Int) : CMul (a : Int) j := by
  unfold CMul
  left
  constructor <;> omega
theorem fMul_of {i j : Int} (h : CMul i j) : fMul (.int i) (.int j) = some (.int (i * j)) := by
  simp only [fMul, onI, if_pos h]
theorem fMul_nat {a b : Nat} (h : a < 1000000) : fMul (.int a) (.int b) = some (.int ((a * b : Nat) : Int)) := by
  rw [fMul_of (cmul_nat h _), Int.natCast_mul]
theorem fMod_nat {a n : Nat} (h : n ≠ 0) : fMod (.int a) (.int n) = some (.int ((a % n : Nat) : Int)) := by
  show (if (n : Int) ≠ 0 then some (D.int ((a : Int).fmod n)) else none) = _
  rw [if_pos (by omega), fm_nat]
theorem mVar_val {s : S} {i : Nat} {d : D} (h : s[i]? = some (some (.val d))) : mVar i s = some (.val d, s) := by
  unfold mVar
  rw [h]
theorem augS_of {f : Int → Int → Int} {mo mi m : ME} {s : S} {k j : Nat} {p : Bool} {xs : List D} {i a b : Int} (ho : mo s = some (.slot k, s)) (hi : mi s = some (.val (.int i), s)) (hs : s[k]? = some (some (.own p xs))) (ha : atI xs i = some (.int a))
    (hm : m s = some (.val (.int b), s)) (hj : ixN xs.length i = some j) : mAugS f mo mi m s = some (.nx (s.set k (some (.own p (xs.set j (.int (f a b))))))) := by
  have ho' : ownAt (.slot k) s = some (k, p, xs) := by unfold ownAt; simp only; rw [hs]
  unfold mAugS
  rw [ho]
  show (mi s).bind _ = _
  rw [hi]
  show (ownAt (.slot k) s).bind _ = _
  rw [ho']
  show (atI xs i).bind _ = _
  rw [ha]
  show (m s).bind _ = _
  rw [hm]
  show (ownAt (.slot k) s).bind _ = _
  rw [ho']
  show (ixN xs.length i).bind _ = _
  rw [hj]
  rfl
/-- a comprehension that leaves all as it was -/
theorem mlc_pure {α : Type} {vs : List Nat} {mi : MI} {g : MG} {t : MT} {m : ME} (f : α → D) (p : α → Bool) (v : α → D) (xs : List α) {s s1 s2 : S} (hm : mi s = some (xs.map f, s1)) (hl : xs.length ≤ 100000)
    (st : ∀ x ∈ xs, ∃ s3, g (f x) (wipeS s1 vs) = some s3 ∧ t s3 = some (p x, s3) ∧ (p x = true → m s3 = some (.val (v x), s3)) ∧ wipeS s3 vs = wipeS s1 vs) (hu : unwipe s1 (wipeS s1 vs) vs = s2) :
    mLc vs mi g t m s = some (.own ((xs.filter p).map v), s2) := by
  obtain ⟨s', e, rfl⟩ := lc_run (g := g) (t := t) (m := m) f vs (fun s => s = wipeS s1 vs) p v xs (wipeS s1 vs) [] rfl (by rw [List.length_nil]; omega) (by
    rintro x s rfl hx
    obtain ⟨s3, e1, e2, e3, e4⟩ := st x hx
    exact ⟨s3, e1, p x, s3, e2, rfl, fun h => ⟨_, s3, e3 h, s3, rfl, e4⟩, fun h => e4⟩)
  unfold mLc
  rw [hm]
  show (lcLoop vs g t m (xs.map f) (wipeS s1 vs) []).bind _ = _
  rw [e, List.nil_append]
  show some (_, unwipe s1 (wipeS s1 vs) vs) = _
  rw [hu]
theorem filter_all {α : Type} (xs : List α) : xs.filter (fun _ => true) = xs := List.filter_eq_self.2 fun _ _ => rfl
/-- a while loop that runs down a number -/
theorem whil_run {t : MT} {b : MS} (I : Nat → S → Prop) (J : S → Prop) : ∀ (k n : Nat) (s : S), k < n → I k s →
    (∀ k s, I (k + 1) s → WT t s fun c s1 => c = true ∧ WS b s1 fun o => ∃ s2, (o = .nx s2 ∨ o = .ct s2) ∧ I k s2) →
    (∀ s, I 0 s → WT t s fun c s1 => c = false ∧ J s1) → ∃ s', whil t b n s = some (.nx s') ∧ J s'
  | _, 0, _, h, _, _, _ => absurd h (Nat.not_lt_zero _)
  | 0, n + 1, s, _, i, _, f => by
    obtain ⟨c, s1, e, rfl, j⟩ := f s i
    refine ⟨s1, ?_, j⟩
    unfold whil
    rw [e]
    rfl
  | k + 1, n + 1, s, h, i, st, f => by
    obtain ⟨c, s1, e, rfl, o, e2, s2, ho, i2⟩ := st k s i
    obtain ⟨s', e3, j⟩ := whil_run I J k n s2 (by omega) i2 st f
    refine ⟨s', ?_, j⟩
    unfold whil
    rw [e]
    show (b s1).bind _ = _
    rw [e2]
    rcases ho with rfl | rfl <;> exact e3
end Dm
set_option Elab.async false
set_option linter.all false
set_option maxRecDepth 100000
set_option maxHeartbeats 4000000
namespace Dm
open PySem PySem.Spec L2
set_option autoImplicit false
/-! ### comprehensions of two clauses -/
/-- out of the block again: the new list, the slots as before -/
theorem lc_back {K : PySem.W.Frag} {σ : L2.St} {s s0 s2 : S} {M H M0 H0 M2 H2 : Hp} {vs : List Nat} {Da : Addr} {ws : List V} {acc : List D} (k0 : OkT K σ s M H s0 M0 H0) (hD : H0 Da = none)
    (k2 : OkS K (wipe σ vs) (wipeS s0 vs) M0 H0 (wipe σ vs) s2 M2 H2) (hD2 : H2 Da = some (.lst ws)) (hM2 : M2 Da = none) (nD2 : ¬ Owned (wipe σ vs) s2 Da) (hac : Ats K M2 ws acc) : Ok K σ s M H (.own acc) (unwipe s0 s2 vs) (.ref Da) M2 H2 := by
    have ownW := (rel_wipe vs k0.rel).2
    -- back in the def
    have hlen : s0.length = s2.length := by rw [k0.rel.len, ← wipe_length σ vs, k2.rel.len]
    have keepW : ∀ a o, H0 a = some o → ¬ Owned σ s0 a → H2 a = some o ∧ (M0 a = none → M2 a = none) := fun a o ha hna => k2.go.keep a o ha fun z => hna (ownW a z)
    -- an address owned at a slot that was forgotten
    have hid : ∀ (j : Nat) (p : Bool) (ys : List D) (l : Addr), j ∈ vs → s0[j]? = some (some (Cell.own p ys)) → σ[j]? = some (some (V.ref l)) → ¬ Owned (wipe σ vs) (wipeS s0 vs) l := fun j p ys l hv h1 h2 ⟨j2, p2, zs, z1, z2⟩ => by
      have hv2 : j2 ∉ vs := fun hv2 => wipeS_mem s0 j2 vs hv2 _ z1
      rw [wipeS_get s0 j2 vs hv2] at z1
      rw [wipe_get σ j2 vs hv2] at z2
      exact hv2 (by rw [← k0.rel.inj j j2 p p2 ys zs l h1 z1 h2 z2]; exact hv)
    have rel' : Rel K M2 H2 σ (unwipe s0 s2 vs) := by
      refine ⟨by rw [unwipe_length, ← hlen]; exact k0.rel.len, k2.rel.le, fun j d h => ?_, fun j p ys h => ?_, fun j1 j2 p1 p2 xs1 xs2 l h1 h2 h3 h4 => ?_⟩
      · by_cases hv : j ∈ vs
        · obtain ⟨v, a, b⟩ := k0.rel.val j d (unwipe_in s0 s2 vs j hv h)
          exact ⟨v, a, b.mono k2.go.up⟩
        · rw [unwipe_get s0 s2 vs j hv] at h
          obtain ⟨v, a, b⟩ := k2.rel.val j d h
          rw [wipe_get σ j vs hv] at a
          exact ⟨v, a, b⟩
      · by_cases hv : j ∈ vs
        · have h0 := unwipe_in s0 s2 vs j hv h
          obtain ⟨l, us, a, b, c, d⟩ := k0.rel.own j p ys h0
          obtain ⟨z1, z2⟩ := k2.go.keep l _ b (hid j p ys l hv h0 a)
          exact ⟨l, us, a, z1, z2 c, d.mono k2.go.up⟩
        · rw [unwipe_get s0 s2 vs j hv] at h
          obtain ⟨l, us, a, b⟩ := k2.rel.own j p ys h
          rw [wipe_get σ j vs hv] at a
          exact ⟨l, us, a, b⟩
      · -- an own list of the block at j was one before, at the same place, or is new
        have back : ∀ (j : Nat) (p : Bool) (ys : List D), j ∉ vs → s2[j]? = some (some (Cell.own p ys)) → σ[j]? = some (some (V.ref l)) → H0 l = none ∨ ∃ j' zs, j' ∉ vs ∧ s0[j']? = some (some (Cell.own p zs)) ∧ σ[j']? = some (some (V.ref l)) := fun j p ys hv h1 h2 => by
          rcases k2.go.own j p ys l h1 (by rw [wipe_get σ j vs hv]; exact h2) with ⟨z, _⟩ | ⟨j', zs, z1, z2⟩
          · exact .inl z
          · have hv' : j' ∉ vs := fun hv' => wipeS_mem s0 j' vs hv' _ z1
            rw [wipeS_get s0 j' vs hv'] at z1
            rw [wipe_get σ j' vs hv'] at z2
            exact .inr ⟨j', zs, hv', z1, z2⟩
        have mix : ∀ (i j : Nat) (p p' : Bool) (ys zs : List D), i ∈ vs → j ∉ vs → s0[i]? = some (some (Cell.own p ys)) → s2[j]? = some (some (Cell.own p' zs)) → σ[i]? = some (some (V.ref l)) → σ[j]? = some (some (V.ref l)) → False := fun i j p p' ys zs hv hv' a1 a2 a3 a4 => by
          obtain ⟨l', us, b1, b2, _⟩ := k0.rel.own i p ys a1
          rw [a3] at b1
          cases b1
          rcases back j p' zs hv' a2 a4 with z | ⟨j', ws', c1, c2, c3⟩
          · rw [b2] at z; cases z
          · exact c1 (by rw [← k0.rel.inj i j' p p' ys ws' l a1 c2 a3 c3]; exact hv)
        by_cases hv1 : j1 ∈ vs
        · have g1 := unwipe_in s0 s2 vs j1 hv1 h1
          by_cases hv2 : j2 ∈ vs
          · exact k0.rel.inj j1 j2 p1 p2 xs1 xs2 l g1 (unwipe_in s0 s2 vs j2 hv2 h2) h3 h4
          · rw [unwipe_get s0 s2 vs j2 hv2] at h2
            exact (mix j1 j2 p1 p2 xs1 xs2 hv1 hv2 g1 h2 h3 h4).elim
        · rw [unwipe_get s0 s2 vs j1 hv1] at h1
          by_cases hv2 : j2 ∈ vs
          · exact (mix j2 j1 p2 p1 xs2 xs1 hv2 hv1 (unwipe_in s0 s2 vs j2 hv2 h2) h1 h4 h3).elim
          · rw [unwipe_get s0 s2 vs j2 hv2] at h2
            exact k2.rel.inj j1 j2 p1 p2 xs1 xs2 l h1 h2 (by rw [wipe_get σ j1 vs hv1]; exact h3) (by rw [wipe_get σ j2 vs hv2]; exact h4)
    have ownO : ∀ (j : Nat) (p : Bool) (ys : List D) (l : Addr), (unwipe s0 s2 vs)[j]? = some (some (Cell.own p ys)) → σ[j]? = some (some (V.ref l)) → (H0 l = none ∧ p = false) ∨ ∃ (j' : Nat) (zs : List D), s0[j']? = some (some (Cell.own p zs)) ∧ σ[j']? = some (some (V.ref l)) := fun j p ys l h1 h2 => by
      by_cases hv : j ∈ vs
      · exact .inr ⟨j, ys, unwipe_in s0 s2 vs j hv h1, h2⟩
      · rw [unwipe_get s0 s2 vs j hv] at h1
        rcases k2.go.own j p ys l h1 (by rw [wipe_get σ j vs hv]; exact h2) with z | ⟨j', zs, z1, z2⟩
        · exact .inl z
        · have hv' : j' ∉ vs := fun hv' => wipeS_mem s0 j' vs hv' _ z1
          rw [wipeS_get s0 j' vs hv'] at z1
          rw [wipe_get σ j' vs hv'] at z2
          exact .inr ⟨j', zs, z1, z2⟩
    have kB : OkS K σ s0 M0 H0 σ (unwipe s0 s2 vs) M2 H2 := by
      refine ⟨⟨k2.go.up, keepW, k2.go.there, ownO, fun j ys h => ?_⟩, rel'⟩
      by_cases hv : j ∈ vs
      · exact ⟨ys, unwipe_out s0 s2 vs j hv hlen h, rfl⟩
      · obtain ⟨zs, z1, _⟩ := k2.go.port j ys (by rw [wipeS_get s0 j vs hv]; exact h)
        exact ⟨zs, by rw [unwipe_get s0 s2 vs j hv]; exact z1, rfl⟩
    have kO := k0.s.trans kB
    refine ⟨kO.go, kO.rel, ⟨Da, ws, rfl, hD2, hM2, fun ⟨j, p, ys, a, b⟩ => ?_, hac⟩, ⟨Da, rfl, k0.go.free hD⟩⟩
    by_cases hv : j ∈ vs
    · obtain ⟨l', us, b1, b2, _⟩ := k0.rel.own j p ys (unwipe_in s0 s2 vs j hv a)
      rw [b] at b1
      cases b1
      rw [hD] at b2; cases b2
    · rw [unwipe_get s0 s2 vs j hv] at a
      exact nD2 ⟨j, p, ys, a, by rw [wipe_get σ j vs hv]; exact b⟩
/-- what the walk keeps: the base, and the new list beside -/
structure InD (K : PySem.W.Frag) (σb : L2.St) (sb : S) (Mb Hb : Hp) (Da : Addr) (σ : L2.St) (s : S) (M H : Hp) (acc : List D) : Prop where
  k : OkS K σb sb Mb Hb σ s M H
  ls : ∃ ws, H Da = some (.lst ws) ∧ Ats K M ws acc
  mn : M Da = none
  no : ¬ Owned σ s Da
section
variable {K : PySem.W.Frag} {σb σ σ' : L2.St} {sb s s' : S} {Mb Hb M H M' H' : Hp} {Da : Addr} {acc : List D} {vs : List Nat}
theorem InD.step (d : InD K σb sb Mb Hb Da σ s M H acc) (k : OkS K σ s M H σ' s' M' H') : InD K σb sb Mb Hb Da σ' s' M' H' acc := by
  obtain ⟨ws, h1, h2⟩ := d.ls
  obtain ⟨a, b⟩ := k.go.keep Da _ h1 d.no
  refine ⟨d.k.trans k, ⟨ws, a, h2.mono k.go.up⟩, b d.mn, fun ⟨j, p, ys, x, y⟩ => ?_⟩
  rcases k.go.own j p ys Da x y with ⟨z, _⟩ | ⟨j', zs, z1, z2⟩
  · rw [h1] at z; cases z
  · exact d.no ⟨j', p, zs, z1, z2⟩
theorem InD.wipe (d : InD K σb sb Mb Hb Da σ s M H acc) (hn : ∀ i ∈ vs, ∀ cl, sb[i]? ≠ some (some cl)) : InD K σb sb Mb Hb Da (L2.wipe σ vs) (wipeS s vs) M H acc := by
  obtain ⟨rel', own'⟩ := rel_wipe vs d.k.rel
  have nv : ∀ {i : Nat} {cl : Cell}, (wipeS s vs)[i]? = some (some cl) → i ∉ vs ∧ s[i]? = some (some cl) := fun {i cl} h => by
    by_cases hv : i ∈ vs
    · exact (wipeS_mem s i vs hv cl h).elim
    · exact ⟨hv, by rw [wipeS_get s i vs hv] at h; exact h⟩
  refine ⟨⟨⟨d.k.go.up, d.k.go.keep, d.k.go.there, fun i p xs l h1 h2 => ?_, fun i xs h => ?_⟩, rel'⟩, d.ls, d.mn, fun z => d.no (own' Da z)⟩
  · obtain ⟨hv, h1⟩ := nv h1
    rw [wipe_get σ i vs hv] at h2
    exact d.k.go.own i p xs l h1 h2
  · have hv : i ∉ vs := fun hv => hn i hv _ h
    obtain ⟨ys, a, b⟩ := d.k.go.port i xs h
    exact ⟨ys, by rw [wipeS_get s i vs hv]; exact a, by rw [wipe_get σ i vs hv]; exact b⟩
theorem InD.grow {x : V} {d : D} (z : InD K σb sb Mb Hb Da σ s M H acc) (hb : Hb Da = none) (hx : At K M x d) : ∃ ws, H Da = some (.lst ws) ∧ ws.length = acc.length ∧ InD K σb sb Mb Hb Da σ s M (upd H Da (.lst (ws ++ [x]))) (acc ++ [d]) := by
  obtain ⟨ws, h1, h2⟩ := z.ls
  refine ⟨ws, h1, h2.length, ⟨⟨z.k.go.up, fun a o ha hna => ?_, fun a o ha => ?_, z.k.go.own, z.k.go.port⟩, ?_⟩, ⟨_, upd_same, h2.append (.one hx)⟩, z.mn, z.no⟩
  · have hne : a ≠ Da := fun q => by subst q; rw [hb] at ha; cases ha
    rw [upd_ne hne]
    exact z.k.go.keep a o ha hna
  · by_cases q : a = Da
    · subst q; exact ⟨_, upd_same⟩
    · rw [upd_ne q]; exact z.k.go.there a o ha
  · refine ⟨z.k.rel.len, le_updr z.k.rel.le z.mn, z.k.rel.val, fun j p ys h => ?_, z.k.rel.inj⟩
    obtain ⟨l, us, a1, b1, c1⟩ := z.k.rel.own j p ys h
    refine ⟨l, us, a1, ?_, c1⟩
    rw [upd_ne (fun q => z.no ⟨j, p, ys, h, by rw [← q]; exact a1⟩)]
    exact b1
end
theorem wipe_wipe {vs vs1 : List Nat} (σ : L2.St) (h : ∀ i ∈ vs1, i ∈ vs) : wipe (wipe σ vs1) vs = wipe σ vs := by
  apply List.ext_getElem?
  intro i
  by_cases hv : i ∈ vs
  · by_cases hi : i < σ.length
    · rw [wipe_in _ i (by rw [wipe_length]; exact hi) vs hv, wipe_in σ i hi vs hv]
    · rw [List.getElem?_eq_none (by rw [wipe_length, wipe_length]; omega), List.getElem?_eq_none (by rw [wipe_length]; omega)]
  · rw [wipe_get _ i vs hv, wipe_get σ i vs hv, wipe_get σ i vs1 fun z => hv (h i z)]
/-- the inner walk -/
theorem walk_in {K : PySem.W.Frag} {tg : TG} {tt : TT} {te : TE} {vs ts : List Nat} {g : MG} {t : MT} {m : ME} (hg : SoundG K ts tg g) (ht : SoundT K tt t) (hm : Sound K te m) (hts : ∀ i ∈ ts, i ∈ vs)
    {σb σ2 : L2.St} {sb s2 sf : S} {Mb Hb M2 H2 : Hp} {Da : Addr} {acc res : List D} {J : It} {xs : List D} (hn : ∀ i ∈ vs, ∀ cl, sb[i]? ≠ some (some cl)) (hb : Hb Da = none) (z : InD K σb sb Mb Hb Da (wipe σ2 vs) s2 M2 H2 acc) (W : Walk K M2 J xs)
    (e : lcLoop vs g t m xs s2 acc = some (res, sf)) (Post : Hp → Prop) (post : ∀ M H, InD K σb sb Mb Hb Da (wipe σ2 vs) sf M H res → Le M2 M → Post H) :
    ∃ W1 : Nat → Nat → Hp → Prop, (∃ k, W1 0 k H2) ∧ ∀ j k H, W1 j k H → (J.stop j H ∧ Post H) ∨ (J.go j H ∧ ∃ Nx1 : Hp → Prop, (∀ H', Nx1 H' → ∃ k', k' < k ∧ W1 (j + 1) k' H') ∧ ∀ x H', J.yld j H x H' → tg x (wipe σ2 vs) H' fun σ3 H5 => wipe σ3 vs = wipe σ2 vs ∧ tt σ3 H5 fun b H6 =>
        if b = true then te σ3 H6 fun y H7 => ∃ acc, H7 Da = some (.lst acc) ∧ acc.length < sizeLine ∧ Nx1 (upd H7 Da (.lst (acc ++ [y]))) else Nx1 H6) := by
  refine ⟨fun i k H => k = xs.length - i ∧ i ≤ xs.length ∧ ∃ s M acc, InD K σb sb Mb Hb Da (wipe σ2 vs) s M H acc ∧ Le M2 M ∧ lcLoop vs g t m (xs.drop i) s acc = some (res, sf), ⟨_, rfl, Nat.zero_le _, s2, M2, acc, z, Le.refl _, e⟩, ?_⟩
  rintro i k H ⟨rfl, hil, s, M, acc, d, le, e⟩
  by_cases hlt : i < xs.length
  · refine .inr ⟨W.go i H (le.trans d.k.rel.le) hlt, fun H' => ∃ s M acc, InD K σb sb Mb Hb Da (wipe σ2 vs) s M H' acc ∧ Le M2 M ∧ lcLoop vs g t m (xs.drop (i + 1)) s acc = some (res, sf), fun H' hh => ⟨xs.length - (i + 1), by omega, rfl, by omega, hh⟩, fun x H' hy => ?_⟩
    obtain ⟨dd, hd, y⟩ := W.yld i H x H' (le.trans d.k.rel.le) hlt hy
    rw [List.drop_eq_getElem_cons hlt] at e
    have hd' : xs[i] = dd := by rw [List.getElem?_eq_getElem hlt] at hd; exact Option.some.inj hd
    rw [hd'] at e
    obtain ⟨s3, e4, e⟩ := bd e
    obtain ⟨⟨kb, s4⟩, e5, e⟩ := bd e
    obtain ⟨M3, k3, hat⟩ := yl_ok d.k.rel le y
    have d3 := d.step k3.s
    refine hg dd x (wipe σ2 vs) s M3 H' s3 e4 k3.rel hat _ fun σ4 M4 H4 k4 off => ?_
    have d4 := d3.step k4
    have hw := wipe_off off hts
    refine ⟨hw, ht σ4 s3 M4 H4 kb s4 e5 k4.rel _ fun M5 H5 k5 => ?_⟩
    have d5 := d4.step k5.s
    have le5 : Le M2 M5 := ((le.trans k3.s.go.up).trans k4.go.up).trans k5.s.go.up
    cases kb with
    | false =>
      have d6 := d5.wipe hn
      rw [hw] at d6
      exact ⟨_, M5, acc, d6, le5, e⟩
    | true =>
      obtain ⟨⟨r6, s6⟩, e6, e⟩ := bd e
      obtain ⟨⟨d7, s7⟩, e7, e⟩ := bd e
      show te σ4 H5 _
      refine hm σ4 s4 M5 H5 r6 s6 e6 k5.rel _ fun yv M6 H6 o6 => ?_
      obtain ⟨M7, o7⟩ := frz_ok o6 e7
      split at e
      · rename_i hlen
        have d7 := d5.step o7.t.s
        obtain ⟨ws, h1, hl, d8⟩ := d7.grow hb o7.held
        have d9 := d8.wipe hn
        rw [hw] at d9
        exact ⟨ws, h1, sz_lt (by rw [hl]; exact hlen), _, M7, _, d9, le5.trans o7.t.s.go.up, e⟩
      · cases e
  · have ei : xs.drop i = [] := List.drop_eq_nil_of_le (by omega)
    rw [ei] at e
    obtain ⟨e5, e6⟩ := Prod.mk.inj (Option.some.inj e)
    subst e5
    subst e6
    exact .inl ⟨W.stop i H (le.trans d.k.rel.le) (by omega), post M H d le⟩
def lc2Loop (vs vs1 : List Nat) (g : MG) (t : MT) (mi1 : MI) (g1 : MG) (t1 : MT) (m : ME) : List D → S → List D → Option (List D × S)
  | [], s, acc => some (acc, s)
  | d :: ds, s, acc => (g d s).bind fun s1 => (t s1).bind fun p => if p.1 then (mi1 p.2).bind fun q => (lcLoop vs1 g1 t1 m q.1 (wipeS q.2 vs1) acc).bind fun r => lc2Loop vs vs1 g t mi1 g1 t1 m ds (wipeS r.2 vs) r.1
    else lc2Loop vs vs1 g t mi1 g1 t1 m ds (wipeS p.2 vs) acc
def mLc2 (vs vs1 : List Nat) (mi : MI) (g : MG) (t : MT) (mi1 : MI) (g1 : MG) (t1 : MT) (m : ME) : ME := fun s => (mi s).bind fun p => (lc2Loop vs vs1 g t mi1 g1 t1 m p.1 (wipeS p.2 vs) []).bind fun q => some (.own q.1, unwipe p.2 q.2 vs)
theorem sound_lc2 {K : PySem.W.Frag} {wi wi1 : TI} {tg tg1 : TG} {tt tt1 : TT} {te : TE} {vs vs1 ts ts1 : List Nat} {mi mi1 : MI} {g g1 : MG} {t t1 : MT} {m : ME} (hi : SoundI K wi mi) (hg : SoundG K ts tg g) (ht : SoundT K tt t) (hi1 : SoundI K wi1 mi1) (hg1 : SoundG K ts1 tg1 g1) (ht1 : SoundT K tt1 t1) (hm : Sound K te m)
    (hts : ∀ i ∈ ts, i ∈ vs) (hts1 : ∀ i ∈ ts1, i ∈ vs1) (hvs : ∀ i ∈ vs1, i ∈ vs) : Sound K (tLc2 wi tg tt wi1 tg1 tt1 te vs vs1) (mLc2 vs vs1 mi g t mi1 g1 t1 m) := fun σ s M H r s' e rel Q q => by
  obtain ⟨⟨xs, s0⟩, e1, e⟩ := bd e
  obtain ⟨⟨res, sf⟩, e2, e⟩ := bd e
  cases e
  refine hi σ s M H xs s0 e1 rel _ fun J M0 H0 k0 W Da hD => ?_
  obtain ⟨relW, ownW⟩ := rel_wipe vs k0.rel
  have hnone : ∀ i ∈ vs, ∀ cl, (wipeS s0 vs)[i]? ≠ some (some cl) := fun i hv cl => wipeS_mem s0 i vs hv cl
  have relD : Rel K M0 (upd H0 Da (.lst [])) (wipe σ vs) (wipeS s0 vs) := relW.grow (Le.refl _) (le_upd hD) (le_updr relW.le (le_none relW.le hD)) fun _ _ _ z => z
  have nD : ¬ Owned (wipe σ vs) (wipeS s0 vs) Da := fun z => Owned.of k0.rel (ownW Da z) hD
  have d0 : InD K (wipe σ vs) (wipeS s0 vs) M0 H0 Da (wipe σ vs) (wipeS s0 vs) M0 (upd H0 Da (.lst [])) [] := ⟨⟨Go.grow (Le.refl _) (le_upd hD) fun _ _ _ z => z, relD⟩, ⟨[], upd_same, .nil⟩, le_none relW.le hD, nD⟩
  refine ⟨fun i k H => k = xs.length - i ∧ i ≤ xs.length ∧ ∃ s M acc, InD K (wipe σ vs) (wipeS s0 vs) M0 H0 Da (wipe σ vs) s M H acc ∧ lc2Loop vs vs1 g t mi1 g1 t1 m (xs.drop i) s acc = some (res, sf), ⟨_, rfl, Nat.zero_le _, _, _, _, d0, e2⟩, ?_⟩
  rintro i k H ⟨rfl, hil, s2, M2, acc, d, e⟩
  have le : Le M0 M2 := d.k.go.up
  by_cases hlt : i < xs.length
  · refine .inr ⟨W.go i H (le.trans d.k.rel.le) hlt, fun H' => ∃ s M acc, InD K (wipe σ vs) (wipeS s0 vs) M0 H0 Da (wipe σ vs) s M H' acc ∧ lc2Loop vs vs1 g t mi1 g1 t1 m (xs.drop (i + 1)) s acc = some (res, sf), fun H' hh => ⟨xs.length - (i + 1), by omega, rfl, by omega, hh⟩, fun x H' hy => ?_⟩
    obtain ⟨dd, hd, y⟩ := W.yld i H x H' (le.trans d.k.rel.le) hlt hy
    rw [List.drop_eq_getElem_cons hlt] at e
    have hd' : xs[i] = dd := by rw [List.getElem?_eq_getElem hlt] at hd; exact Option.some.inj hd
    rw [hd'] at e
    obtain ⟨s3, e4, e⟩ := bd e
    obtain ⟨⟨kb, s4⟩, e5, e⟩ := bd e
    obtain ⟨M3, k3, hat⟩ := yl_ok d.k.rel le y
    have d3 := d.step k3.s
    refine hg dd x (wipe σ vs) s2 M3 H' s3 e4 k3.rel hat _ fun σ4 M4 H4 k4 off => ?_
    have d4 := d3.step k4
    have hw := wipe_off off hts
    refine ⟨hw, ht σ4 s3 M4 H4 kb s4 e5 k4.rel _ fun M5 H5 k5 => ?_⟩
    have d5 := d4.step k5.s
    cases kb with
    | false =>
      have d6 := d5.wipe hnone
      rw [hw] at d6
      exact ⟨_, M5, acc, d6, e⟩
    | true =>
      obtain ⟨⟨xs1, s6⟩, e6, e⟩ := bd e
      obtain ⟨⟨res1, sf1⟩, e7, e⟩ := bd e
      show wi1 σ4 H5 _
      refine hi1 σ4 s4 M5 H5 xs1 s6 e6 k5.rel _ fun J1 M6 H6 k6 W1 => ?_
      have d6 := (d5.step k6.s).wipe (vs := vs1) fun i hv => hnone i (hvs i hv)
      refine walk_in hg1 ht1 hm hts1 (fun i hv => hnone i (hvs i hv)) hD d6 W1 e7 _ fun M7 H7 d7 _ => ?_
      have d8 := d7.wipe hnone
      rw [wipe_wipe σ4 hvs, hw] at d8
      exact ⟨_, M7, res1, d8, e⟩
  · have ei : xs.drop i = [] := List.drop_eq_nil_of_le (by omega)
    rw [ei] at e
    obtain ⟨e5, e6⟩ := Prod.mk.inj (Option.some.inj e)
    subst e5
    subst e6
    obtain ⟨ws, h1, h2⟩ := d.ls
    exact .inl ⟨W.stop i H (le.trans d.k.rel.le) (by omega), q _ M2 H (lc_back k0 hD d.k h1 d.mn d.no h2)⟩
theorem se_lc2 {c : Cd} {elt tg iter tg1 iter1 : Expr} {ifs ifs1 : List Expr} {scope : Scope} {pos : Pos} {t t1 : MT} {m : ME} {g g1 : MG} {mi mi1 : MI} {ts ts1 : List Nat} (own : List (Str × Nat)) (vs1 : List Nat) (hi : SI c tg iter mi) (hg : SG (c.blk scope) tg ts g) (ht : STs (c.blk scope) ifs t) (hi1 : SI (c.blk scope) tg1 iter1 mi1) (hg1 : SG (c.blk scope) tg1 ts1 g1) (ht1 : STs (c.blk scope) ifs1 t1) (he : SE (c.blk scope) elt m)
    (hts : ∀ i ∈ ts, i ∈ own.map (·.2) := by decide) (hts1 : ∀ i ∈ ts1, i ∈ vs1 := by decide) (hvs : ∀ i ∈ vs1, i ∈ own.map (·.2) := by decide) (hN : ndB c.N = true := by rfl) (ok : blkC c.N c.sc scope own = true := by rfl) (hs : ∀ env x, foldedSetIterable iter env x = pure x := by intro _ _; rfl) (hs1 : ∀ env x, foldedSetIterable iter1 env x = pure x := by intro _ _; rfl) :
    SE c (.ListComp elt [⟨tg, iter, ifs, 0⟩, ⟨tg1, iter1, ifs1, 0⟩] scope pos) (mLc2 (own.map (·.2)) vs1 mi g t mi1 g1 t1 m) := by
  obtain ⟨ti, pi, si⟩ := hi
  obtain ⟨tg', pg, sg⟩ := hg
  obtain ⟨tt, pt, st⟩ := ht
  obtain ⟨ti1, pi1, si1⟩ := hi1
  obtain ⟨tg1', pg1, sg1⟩ := hg1
  obtain ⟨tt1, pt1, st1⟩ := ht1
  obtain ⟨te, pe, se⟩ := he
  exact ⟨_, fun X k => pe_lc2 (own := own) (vs1 := vs1) k.calm (by rw [k.N]; exact ndOf hN) (pi X k) (by rw [k.N, k.sc]; exact blkOk_by ok) hvs (fun s H C cl fp => pg _ (fits_blk k s H scope C cl fp)) (fun s H C cl fp => pt _ (fits_blk k s H scope C cl fp))
    (fun s H C cl fp => pi1 _ (fits_blk k s H scope C cl fp)) (fun s H C cl fp => pg1 _ (fits_blk k s H scope C cl fp)) (fun s H C cl fp => pt1 _ (fits_blk k s H scope C cl fp)) (fun s H C cl fp => pe _ (fits_blk k s H scope C cl fp)) (hs X.env) hs1, sound_lc2 si sg st si1 sg1 st1 se hts hts1 hvs⟩
/-! ### min of a list -/
def minI : Int → List Int → Int
  | m, [] => m
  | m, x :: xs => minI (if x < m then x else m) xs
def fMinL : List D → Option D
  | [.lst xs] => (intsD xs).bind fun ns => match ns with
    | [] => none
    | n :: ns => some (.int (minI n ns))
  | _ => none
theorem minI_is : ∀ (xs : List Int) (m : Int), (minI m xs = m ∨ minI m xs ∈ xs) ∧ minI m xs ≤ m ∧ ∀ y ∈ xs, minI m xs ≤ y
  | [], m => ⟨.inl rfl, Int.le_refl _, fun _ h => nomatch h⟩
  | x :: xs, m => by
    obtain ⟨a, b, c⟩ := minI_is xs (if x < m then x else m)
    unfold minI
    by_cases h : x < m
    · rw [if_pos h] at a b c ⊢
      refine ⟨.inr ?_, by omega, fun y hy => ?_⟩
      · rcases a with a | a
        · rw [a]; exact List.mem_cons_self
        · exact List.mem_cons_of_mem _ a
      · rcases List.mem_cons.1 hy with rfl | hy
        · exact b
        · exact c y hy
    · rw [if_neg h] at a b c ⊢
      refine ⟨?_, b, fun y hy => ?_⟩
      · rcases a with a | a
        · exact .inl a
        · exact .inr (List.mem_cons_of_mem _ a)
      · rcases List.mem_cons.1 hy with rfl | hy
        · omega
        · exact c y hy
theorem sc_minL {K : PySem.W.Frag} : Sc1 K (rMin K) fMinL := fun H vs ds z h e => by
  unfold fMinL at e
  split at e
  · rename_i xs
    obtain ⟨ns, e1, e⟩ := bd e
    split at e
    · cases e
    · rename_i n ns
      cases e
      obtain ⟨v, rfl, ha⟩ := ats1 h
      cases ha with
      | lst hs hw =>
        have hz := ints_at hw e1
        subst hz
        refine ⟨_, fun _ => .int _, fun Q q => ⟨_, n :: ns, rfl, hs, by simp, fun m hm hmin => ?_⟩⟩
        obtain ⟨a, b, c⟩ := minI_is ns n
        have : m = minI n ns := by
          have h1 : minI n ns ∈ n :: ns := by
            rcases a with a | a
            · rw [a]; exact List.mem_cons_self
            · exact List.mem_cons_of_mem _ a
          have h1 := hmin _ h1
          have h2 : minI n ns ≤ m := by
            rcases List.mem_cons.1 hm with rfl | hm
            · exact b
            · exact c m hm
          omega
        rw [this]
        exact q
  · cases e
end Dm
set_option Elab.async false
set_option linter.all false
set_option maxRecDepth 100000
set_option maxHeartbeats 4000000
namespace Dm
open PySem PySem.Spec L2
set_option autoImplicit false
/-! ### dicts of one's own that stay as they were made -/
def lookD : List Key → List D → Key → Option D
  | k :: ks, ds, q => match ds with
    | d :: ds => if k = q then some d else lookD ks ds q
    | [] => none
  | [], _, _ => none
def asKey : D → Option Key
  | .int i => some (.inl i)
  | .str x => some (.inr x)
  | _ => none
theorem asKey_at {K : PySem.W.Frag} {H : Hp} {v : V} {d : D} {k : Key} (h : At K H v d) (e : asKey d = some k) : v = kV k := by
  cases h <;> try (cases e; done)
  · cases e; rfl
  · cases e; rfl
theorem look_at {K : PySem.W.Frag} {H : Hp} (q : Key) : ∀ {kvs : List (Key × V)} {ds : List D}, Ats K H (kvs.map (·.2)) ds → (∀ d, lookD (kvs.map (·.1)) ds q = some d → ∃ v, valV kvs q = some v ∧ At K H v d) ∧ (lookD (kvs.map (·.1)) ds q = none → valV kvs q = none)
  | [], ds, _ => ⟨fun d e => (nomatch e), fun _ => rfl⟩
  | (k, v) :: kvs, ds, h => by
    cases h with
    | @cons _ _ d ds h t =>
      obtain ⟨a, b⟩ := look_at q t
      show (∀ d', (if k = q then some d else lookD (kvs.map (·.1)) ds q) = some d' → _) ∧ ((if k = q then some d else lookD (kvs.map (·.1)) ds q) = none → _)
      by_cases e : k = q
      · rw [if_pos e, valV_pos e]
        exact ⟨fun d' z => ⟨v, rfl, by cases z; exact h⟩, fun z => (nomatch z)⟩
      · rw [if_neg e, valV_neg e]
        exact ⟨a, b⟩
/-- the dict that a result is -/
def dicR (r : R) : Option (List Key × List D) := match r with
  | .val (.dic ks ds) => some (ks, ds)
  | _ => none
theorem dicR_at {K : PySem.W.Frag} {M H : Hp} {σ : L2.St} {s : S} {v : V} {r : R} {ks : List Key} {ds : List D} (h : Held K M H σ s v r) (e : dicR r = some (ks, ds)) : ∃ a kvs, v = .ref a ∧ Rd M a (.dK kvs) ∧ Ats K M (kvs.map (·.2)) ds ∧ kvs.map (·.1) = ks := by
  unfold dicR at e
  split at e
  · cases e
    have h : At K M v (.dic ks ds) := h
    cases h with
    | dic h1 h2 => exact ⟨_, _, rfl, h1, h2, rfl⟩
  · cases e
theorem rd_mono {M H : Hp} {a : Addr} {u : HO} (h : Rd M a u) (le : Le M H) : Rd H a u := by
  rcases h with h | ⟨o, h⟩
  · exact .inl (le _ _ h)
  · exact .inr ⟨o, le _ _ h⟩
/-- d[k] -/
def mIxD (md mi : ME) : ME := fun s => (md s).bind fun p => (dicR p.1).bind fun z => (mi p.2).bind fun q => (peek q.1 q.2).bind fun e => (asKey e).bind fun k => (lookD z.1 z.2 k).bind fun d => some (.val d, q.2)
/-- k in d -/
def mInD (neg : Bool) (mi md : ME) : ME := fun s => (mi s).bind fun p => (peek p.1 p.2).bind fun e => (asKey e).bind fun k => (md p.2).bind fun q => (dicR q.1).bind fun z => some (.val (.bl (if neg then !(lookD z.1 z.2 k).isSome else (lookD z.1 z.2 k).isSome)), q.2)
/-- d.get(k, x) -/
def mGet2 (md mi mx : ME) : ME := fun s => (md s).bind fun p => (dicR p.1).bind fun z => (mi p.2).bind fun q => (peek q.1 q.2).bind fun e => (asKey e).bind fun k => (mx q.2).bind fun r => match r.1 with
  | .val x => some (.val ((lookD z.1 z.2 k).getD x), r.2)
  | _ => none
section
variable {c : Cd} {o i x : Expr} {pos : Pos} {md mi mx : ME}
theorem se_ixD (hd : SE c o md) (hi : SE c i mi) (hs : NoSl i := by exact fun _ _ => rfl) : SE c (.Subscript o i pos) (mIxD md mi) := by
  obtain ⟨td, pd, sd⟩ := hd
  obtain ⟨ti, pi, si⟩ := hi
  refine ⟨tDGet td ti, fun X g => pe_dget (by have := g.room.units; omega) (pd X g) (pi X g) hs, fun σ s M H r s' e rel Q q => ?_⟩
  obtain ⟨⟨r1, s1⟩, e1, e⟩ := bd e
  obtain ⟨⟨ks, ds⟩, ez, e⟩ := bd e
  obtain ⟨⟨r2, s2⟩, e2, e⟩ := bd e
  obtain ⟨d2, p2, e⟩ := bd e
  obtain ⟨k, ek, e⟩ := bd e
  obtain ⟨d, el, e⟩ := bd e
  cases e
  refine sd σ s M H r1 s1 e1 rel _ fun v M1 H1 k1 => ?_
  obtain ⟨a, kvs, rfl, hr, ha, hk⟩ := dicR_at k1.held ez
  refine si σ s1 M1 H1 r2 _ e2 k1.rel _ fun w M2 H2 k2 => ?_
  have hw := asKey_at (k2.held.at k2.rel p2) ek
  subst hw
  have ha2 := ha.mono k2.go.up
  rw [← hk] at el
  obtain ⟨u, h1, h2⟩ := (look_at k ha2).1 d el
  exact ⟨a, u, rfl, .inl ⟨kvs, k, rd_mono (rd_mono hr k2.go.up) k2.rel.le, rfl, h1.symm⟩, q u M2 H2 ⟨k1.go.trans k2.go, k2.rel, h2, trivial⟩⟩
theorem sound_inD {K : PySem.W.Frag} {ti td : TE} (neg : Bool) (si : Sound K ti mi) (sd : Sound K td md) : Sound K (if neg then tDNotIn ti td else tDIn ti td) (mInD neg mi md) := fun σ s M H r s' e rel Q q => by
  obtain ⟨⟨r1, s1⟩, e1, e⟩ := bd e
  obtain ⟨d1, p1, e⟩ := bd e
  obtain ⟨k, ek, e⟩ := bd e
  obtain ⟨⟨r2, s2⟩, e2, e⟩ := bd e
  obtain ⟨⟨ks, ds⟩, ez, e⟩ := bd e
  cases e
  have main : ∀ b : Bool, b = (lookD ks ds k).isSome → ∀ w M2 H2, Ok K σ s M H r2 s2 w M2 H2 → ∃ a o, w = .ref a ∧ DGet H2 a (kV k) o ∧ o.isSome = b := fun b hb w M2 H2 k2 => by
    obtain ⟨a, kvs, rfl, hr, ha, hk⟩ := dicR_at k2.held ez
    subst hk
    obtain ⟨f1, f2⟩ := look_at k ha
    refine ⟨a, valV kvs k, rfl, .inl ⟨kvs, k, rd_mono hr k2.rel.le, rfl, rfl⟩, ?_⟩
    rw [hb]
    cases hl : lookD (kvs.map (·.1)) ds k with
    | none => rw [f2 hl]; rfl
    | some d =>
      obtain ⟨v, h1, _⟩ := f1 d hl
      rw [h1]; rfl
  cases neg with
  | false =>
    refine si σ s M H r1 s1 e1 rel _ fun v M1 H1 k1 => ?_
    have hv := asKey_at (k1.held.at k1.rel p1) ek
    subst hv
    refine sd σ s1 M1 H1 r2 _ e2 k1.rel _ fun w M2 H2 k2 => ?_
    obtain ⟨a, o, rfl, h1, h2⟩ := main _ rfl w M2 H2 (.behind k1.t k2)
    refine ⟨a, o, rfl, h1, ?_⟩
    rw [h2]
    exact q _ M2 H2 ⟨k1.go.trans k2.go, k2.rel, .bl _, trivial⟩
  | true =>
    refine si σ s M H r1 s1 e1 rel _ fun v M1 H1 k1 => ?_
    have hv := asKey_at (k1.held.at k1.rel p1) ek
    subst hv
    refine sd σ s1 M1 H1 r2 _ e2 k1.rel _ fun w M2 H2 k2 => ?_
    obtain ⟨a, o, rfl, h1, h2⟩ := main _ rfl w M2 H2 (.behind k1.t k2)
    refine ⟨a, o, rfl, h1, ?_⟩
    rw [h2]
    exact q _ M2 H2 ⟨k1.go.trans k2.go, k2.rel, .bl _, trivial⟩
theorem se_inD (hi : SE c i mi) (hd : SE c o md) (hm : behindInMarks .In o = false := by rfl) : SE c (.Compare i [.In] [o] pos) (mInD false mi md) := by
  obtain ⟨td, pd, sd⟩ := hd
  obtain ⟨ti, pi, si⟩ := hi
  exact ⟨_, fun X g => pe_cmp (pc_din (by have := g.room.units; omega) (pi X g) (pd X g)) hm, sound_inD false si sd⟩
theorem se_ninD (hi : SE c i mi) (hd : SE c o md) (hm : behindInMarks .NotIn o = false := by rfl) : SE c (.Compare i [.NotIn] [o] pos) (mInD true mi md) := by
  obtain ⟨td, pd, sd⟩ := hd
  obtain ⟨ti, pi, si⟩ := hi
  exact ⟨_, fun X g => pe_cmp (pc_dnotin (by have := g.room.units; omega) (pi X g) (pd X g)) hm, sound_inD true si sd⟩
theorem st_inD (hi : SE c i mi) (hd : SE c o md) (hm : behindInMarks .In o = false := by rfl) : ST c (.Compare i [.In] [o] pos) (mTest (mInD false mi md)) := by
  obtain ⟨td, pd, sd⟩ := hd
  obtain ⟨ti, pi, si⟩ := hi
  exact ⟨_, fun X g => pt_cmp (pc_din (by have := g.room.units; omega) (pi X g) (pd X g)) hm, sound_B (sound_inD false si sd)⟩
theorem st_ninD (hi : SE c i mi) (hd : SE c o md) (hm : behindInMarks .NotIn o = false := by rfl) : ST c (.Compare i [.NotIn] [o] pos) (mTest (mInD true mi md)) := by
  obtain ⟨td, pd, sd⟩ := hd
  obtain ⟨ti, pi, si⟩ := hi
  exact ⟨_, fun X g => pt_cmp (pc_dnotin (by have := g.room.units; omega) (pi X g) (pd X g)) hm, sound_B (sound_inD true si sd)⟩
theorem se_get2 {apos : Pos} (hd : SE c o md) (hi : SE c i mi) (hx : SE c x mx) (hm : ∀ X : Cx, Fits c X → M2 X o "get" apos i x pos := by exact fun X g => ⟨rfl, rfl, rfl, rfl⟩) : SE c (.Call (.Attribute o "get" apos) [i, x] [] pos) (mGet2 md mi mx) := by
  obtain ⟨td, pd, sd⟩ := hd
  obtain ⟨ti, pi, si⟩ := hi
  obtain ⟨tx, px, sx⟩ := hx
  refine ⟨tDGet2 td ti tx, fun X g => pe_dget2 (by have := g.room.units; omega) (pd X g) (pi X g) (px X g) (hm X g), fun σ s M H r s' e rel Q q => ?_⟩
  obtain ⟨⟨r1, s1⟩, e1, e⟩ := bd e
  obtain ⟨⟨ks, ds⟩, ez, e⟩ := bd e
  obtain ⟨⟨r2, s2⟩, e2, e⟩ := bd e
  obtain ⟨d2, p2, e⟩ := bd e
  obtain ⟨k, ek, e⟩ := bd e
  obtain ⟨⟨r3, s3⟩, e3, e⟩ := bd e
  refine sd σ s M H r1 s1 e1 rel _ fun v M1 H1 k1 => ?_
  obtain ⟨a, kvs, rfl, hr, ha, hk⟩ := dicR_at k1.held ez
  subst hk
  refine ⟨a, rfl, .inl ⟨kvs, rd_mono hr k1.rel.le⟩, ?_⟩
  refine si σ s1 M1 H1 r2 _ e2 k1.rel _ fun w M2 H2 k2 => ?_
  have hw := asKey_at (k2.held.at k2.rel p2) ek
  subst hw
  refine sx σ s2 M2 H2 r3 _ e3 k2.rel _ fun y M3 H3 k3 => ?_
  cases r3 with
  | own xs => cases e
  | slot j => cases e
  | val xd =>
    cases e
    have up := k2.go.up.trans k3.go.up
    have ha3 := ha.mono up
    obtain ⟨f1, f2⟩ := look_at k ha3
    have gg := (k1.go.trans k2.go).trans k3.go
    refine ⟨valV kvs k, .inl ⟨kvs, k, rd_mono (rd_mono hr up) k3.rel.le, rfl, rfl⟩, ?_⟩
    cases hl : lookD (kvs.map (·.1)) ds k with
    | none =>
      rw [f2 hl]
      exact q y M3 H3 ⟨gg, k3.rel, (show At c.K M3 y ((lookD (kvs.map (·.1)) ds k).getD xd) by rw [hl]; exact k3.held), trivial⟩
    | some d =>
      obtain ⟨u, h1, h2⟩ := f1 d hl
      rw [h1]
      exact q u M3 H3 ⟨gg, k3.rel, (show At c.K M3 u ((lookD (kvs.map (·.1)) ds k).getD xd) by rw [hl]; exact h2), trivial⟩
end
/-! the display itself -/
theorem merge_new : ∀ (more acc : List (Key × V)), (more.map (·.1)).Nodup → (∀ k ∈ more.map (·.1), k ∉ acc.map (·.1)) → mergeK acc more = acc ++ more
  | [], acc, _, _ => by show acc = _; rw [List.append_nil]
  | (k, v) :: more, acc, hn, hd => by
    have hk : (acc.any fun kv => decide (kv.1 = k)) = false := by
      rw [List.any_eq_false]
      intro kv hkv he
      have : kv.1 = k := of_decide_eq_true he
      exact hd k (by simp) (by rw [← this]; exact List.mem_map.2 ⟨kv, hkv, rfl⟩)
    have e : putK acc k v = acc ++ [(k, v)] := by
      unfold putK
      rw [hk]
      rfl
    show mergeK (putK acc k v) more = _
    rw [List.map_cons, List.nodup_cons] at hn
    rw [e, merge_new more _ hn.2 (fun q hq hm => ?_), List.append_assoc]
    · rfl
    · rw [List.map_append, List.mem_append] at hm
      rcases hm with hm | hm
      · exact hd q (List.mem_cons_of_mem _ hq) hm
      · simp at hm
        exact hn.1 (by rw [← hm]; exact hq)
def mDicV (ks : List Int) (ms : S → Option (List D × S)) : ME := fun s => (ms s).bind fun p => some (.val (.dic (ks.map Sum.inl) p.1), p.2)
theorem se_dic {c : Cd} {keys : List (Option Expr)} {values : List Expr} {ks : List Int} {ms : S → Option (List D × S)} {pos : Pos} (h : SPs c keys values ks ms) (hall : keys.all (·.isSome) = true := by rfl) (hl : keys.length = values.length := by rfl) (h0 : keys ≠ [] := by intro z; cases z) (h15 : keys.length ≤ 15 := by decide) (hks : ks.length ≤ 15 := by decide) (hnd : ks.Nodup := by decide) :
    SE c (.Dict keys values pos) (mDicV ks ms) := by
  obtain ⟨trs, pp, sp⟩ := h
  refine ⟨tDisp trs, fun X g => pe_disp (pp X pos g) hall hl h0 h15, fun σ s M H r s' e rel Q q => ?_⟩
  obtain ⟨⟨ds, s1⟩, e1, e⟩ := bd e
  cases e
  intro p hp
  have r0 : Rel c.K M (upd H p (.dK [])) σ s := rel.grow (Le.refl _) (le_upd hp) (le_updr rel.le (le_none rel.le hp)) fun _ _ _ z => z
  have g0 : Go σ s M H σ s M (upd H p (.dK [])) := Go.grow (Le.refl _) (le_upd hp) fun _ _ _ z => z
  refine sp σ s M _ ds _ e1 r0 _ fun ws M1 H1 o1 ha hlw => ?_
  have no : ¬ Owned σ s p := rel.not_owned hp
  obtain ⟨k1, k2⟩ := o1.go.keep p _ upd_same no
  have hM1 : M1 p = none := k2 (le_none rel.le hp)
  have hz1 : ((ks.zip ws).map fun q => ((Sum.inl q.1 : Key), q.2)).map (·.1) = ks.map Sum.inl := by
    rw [List.map_map]
    show (ks.zip ws).map (Sum.inl ∘ Prod.fst) = _
    rw [← List.map_map, List.map_fst_zip (by omega)]
  have hz2 : ((ks.zip ws).map fun q => ((Sum.inl q.1 : Key), q.2)).map (·.2) = ws := by
    rw [List.map_map]
    show (ks.zip ws).map Prod.snd = _
    rw [List.map_snd_zip (by omega)]
  have hmg : mergeK [] ((ks.zip ws).map fun q => ((Sum.inl q.1 : Key), q.2)) = (ks.zip ws).map fun q => ((Sum.inl q.1 : Key), q.2) := by
    refine merge_new _ _ ?_ fun k _ hm => by cases hm
    rw [hz1]
    refine List.pairwise_map.2 (hnd.imp fun hab he => hab ?_)
    cases he
    rfl
  refine ⟨k1, (ks.zip ws).map fun q => ((Sum.inl q.1 : Key), q.2), by rw [List.map_map]; rfl, ?_, ?_⟩
  · rw [List.length_map, List.length_zip]
    have := Nat.min_le_left ks.length ws.length
    omega
  rw [hmg]
  generalize hkv : ((ks.zip ws).map fun q => ((Sum.inl q.1 : Key), q.2)) = kvs at hz1 hz2
  have nO1 : ¬ Owned σ s1 p := fun zz => by
    obtain ⟨vs, q1, _⟩ := o1.rel.owned_some zz
    rw [k1] at q1; cases q1
  have leM : Le M1 (upd M1 p (.dK kvs)) := le_upd hM1
  refine q (.ref p) (upd M1 p (.dK kvs)) _ ⟨⟨(g0.trans o1.go).up.trans leM, fun a o hao hna => ?_, fun a o hao => ?_, (g0.trans o1.go).own, (g0.trans o1.go).port⟩, ⟨o1.rel.len, fun a o hao => ?_, fun i d hi => ?_, fun j pp xs hj => ?_, o1.rel.inj⟩, ?_, trivial⟩
  · have hne : a ≠ p := fun zz => by subst zz; rw [hp] at hao; cases hao
    rw [upd_ne hne, upd_ne hne]
    exact (g0.trans o1.go).keep a o hao hna
  · by_cases zz : a = p
    · subst zz; exact ⟨_, upd_same⟩
    · rw [upd_ne zz]; exact (g0.trans o1.go).there a o hao
  · by_cases zz : a = p
    · subst zz
      rw [upd_same] at hao ⊢
      exact hao
    · rw [upd_ne zz] at hao ⊢
      exact o1.rel.le a o hao
  · obtain ⟨v, a1, b1⟩ := o1.rel.val i d hi
    exact ⟨v, a1, b1.mono leM⟩
  · obtain ⟨l, us, a1, b1, c1, d1⟩ := o1.rel.own j pp xs hj
    have hne : l ≠ p := fun zz => nO1 ⟨j, pp, xs, hj, by rw [← zz]; exact a1⟩
    exact ⟨l, us, a1, by rw [upd_ne hne]; exact b1, by rw [upd_ne hne]; exact c1, d1.mono leM⟩
  · show At c.K _ (.ref p) (.dic (ks.map Sum.inl) ds)
    rw [← hz1]
    exact .dic (.inl upd_same) (by rw [hz2]; exact ha.mono leM)
end Dm
set_option Elab.async false
set_option linter.all false
set_option maxRecDepth 100000
set_option maxHeartbeats 4000000
namespace Dm
open PySem PySem.Spec L2
set_option autoImplicit false
/-! ### x, y = [..], e -/
def mParO (i j : Nat) (ms : MA) : MS := fun s => (ms s).bind fun p => match p.1 with
  | [.own xs, .val d] => (put i (.own xs) p.2).bind fun s2 => (put j (.val d) s2).bind fun s3 => some (.nx s3)
  | _ => none
theorem sound_parO {K : PySem.W.Frag} {i j : Nat} {t : TA} {ms : MA} (sd : SoundA K t ms) : SoundS K (tPar i j t) (mParO i j ms) := fun σ s M H o e rel E h => by
  obtain ⟨⟨rs, s1⟩, e1, e⟩ := bd e
  refine sd σ s M H rs s1 e1 rel _ fun vs M1 H1 k => ?_
  simp only at e
  split at e
  · rename_i rs' xs d
    obtain ⟨s2, e2, e⟩ := bd e
    obtain ⟨s3, e3, e⟩ := bd e
    cases e
    obtain ⟨kg, kr, kh, kn⟩ := k
    cases kh with
    | cons h1 kh =>
      cases kh with
      | cons h2 kh =>
        cases kh
        cases kn with
        | cons n1 kn =>
          cases kn with
          | cons n2 kn =>
            rename_i v w
            refine ⟨v, w, rfl, ?_⟩
            have k1 := put_ok2 (v := v) ⟨kg, kr⟩ h1 n1 rfl e2
            have h2' : At K M1 w d := h2
            exact h _ M1 H1 (put_ok2 (r := .val d) k1 h2' trivial rfl e3)
  · cases e
section
variable {c : Cd} {pos : Pos}
theorem ss_parO (i j : Nat) {x y : Str} {a b : Expr} {px py pt : Pos} {kt k2 : _} {pt2 : Pos} {ms : MA} (ha : SA c [a, b] ms) (hN : ndB c.N = true := by rfl) (hi : c.N[i]? = some x := by rfl) (hj : c.N[j]? = some y := by rfl) (hij : i ≠ j := by decide)
    (hx : c.sc.names.lookup x = some .local := by rfl) (hy : c.sc.names.lookup y = some .local := by rfl) (hw : swappedStores [.Tuple [.Name x px, .Name y py] kt pt] (.Tuple [a, b] k2 pt2) (envAt c.sc) = pure (some [x, y]) := by rfl) :
    SS c (.Assign [.Tuple [.Name x px, .Name y py] kt pt] (.Tuple [a, b] k2 pt2) pos) (mParO i j ms) := by
  obtain ⟨t, pa, sd⟩ := ha
  exact ⟨tPar i j t, fun X g => ps_par g.calm (by rw [g.N]; exact ndOf hN) (by rw [g.N]; exact hi) (by rw [g.N]; exact hj) hij (by rw [g.sc]; exact hx) (by rw [g.sc]; exact hy) (pa X g) ((sw_scope (b := envAt c.sc) g.sc).trans hw), sound_parO sd⟩
end
end Dm
set_option Elab.async false
set_option linter.all false
set_option maxRecDepth 100000
set_option maxHeartbeats 8000000
namespace Zn
set_option autoImplicit false
/-- the round polynomials, lowest first -/
def base : Nat → List Int
  | 2 => [1, 1]
  | 3 => [1, 1, 1]
  | 4 => [1, 0, 1]
  | 5 => [1, 1, 1, 1, 1]
  | 6 => [1, -1, 1]
  | 7 => [1, 1, 1, 1, 1, 1, 1]
  | 8 => [1, 0, 0, 0, 1]
  | 9 => [1, 0, 0, 1, 0, 0, 1]
  | 10 => [1, -1, 1, -1, 1]
  | 11 => [1, 1, 1, 1, 1, 1, 1, 1, 1, 1, 1]
  | 12 => [1, 0, -1, 0, 1]
  | _ => [1]
def deg (n : Nat) : Nat := (base n).length - 1
/-- one step of the division: the topmost of m places is taken away -/
def R (b : List Int) (d m : Nat) (x : Nat → Int) : Nat → Int := fun p => if m - 1 - d ≤ p ∧ p < m - 1 then x p - x (m - 1) * b.getD (p - (m - 1 - d)) 0 else x p
def rdN (b : List Int) (d : Nat) : Nat → (Nat → Int) → Nat → Int
  | 0, x => x
  | k + 1, x => rdN b d k (R b d (d + k + 1) x)
/-- the rest at a place -/
def rest (n : Nat) (x : Nat → Int) : Nat → Int := rdN (base n) (deg n) (n - deg n) x
/-- the rest is nothing, written out -/
def Zx (n : Nat) (x : Nat → Int) : Prop := match n with
  | 2 => x 0 - x 1 = 0
  | 3 => x 0 - x 2 = 0 ∧ x 1 - x 2 = 0
  | 4 => x 0 - x 2 = 0 ∧ x 1 - x 3 = 0
  | 5 => x 0 - x 4 = 0 ∧ x 1 - x 4 = 0 ∧ x 2 - x 4 = 0 ∧ x 3 - x 4 = 0
  | 6 => x 0 - x 2 - x 3 + x 5 = 0 ∧ x 1 + x 2 - x 4 - x 5 = 0
  | 7 => x 0 - x 6 = 0 ∧ x 1 - x 6 = 0 ∧ x 2 - x 6 = 0 ∧ x 3 - x 6 = 0 ∧ x 4 - x 6 = 0 ∧ x 5 - x 6 = 0
  | 8 => x 0 - x 4 = 0 ∧ x 1 - x 5 = 0 ∧ x 2 - x 6 = 0 ∧ x 3 - x 7 = 0
  | 9 => x 0 - x 6 = 0 ∧ x 1 - x 7 = 0 ∧ x 2 - x 8 = 0 ∧ x 3 - x 6 = 0 ∧ x 4 - x 7 = 0 ∧ x 5 - x 8 = 0
  | 10 => x 0 - x 4 - x 5 + x 9 = 0 ∧ x 1 + x 4 - x 6 - x 9 = 0 ∧ x 2 - x 4 - x 7 + x 9 = 0 ∧ x 3 + x 4 - x 8 - x 9 = 0
  | 11 => x 0 - x 10 = 0 ∧ x 1 - x 10 = 0 ∧ x 2 - x 10 = 0 ∧ x 3 - x 10 = 0 ∧ x 4 - x 10 = 0 ∧ x 5 - x 10 = 0 ∧ x 6 - x 10 = 0 ∧ x 7 - x 10 = 0 ∧ x 8 - x 10 = 0 ∧ x 9 - x 10 = 0
  | 12 => x 0 - x 4 - x 6 + x 10 = 0 ∧ x 1 - x 5 - x 7 + x 11 = 0 ∧ x 2 + x 4 - x 8 - x 10 = 0 ∧ x 3 + x 5 - x 9 - x 11 = 0
  | _ => False
theorem sizes {n : Nat} (h : 2 ≤ n) (h2 : n ≤ 12) : n = 2 ∨ n = 3 ∨ n = 4 ∨ n = 5 ∨ n = 6 ∨ n = 7 ∨ n = 8 ∨ n = 9 ∨ n = 10 ∨ n = 11 ∨ n = 12 := by omega
theorem below {v n : Nat} (h : v < n) (h2 : n ≤ 12) : v = 0 ∨ v = 1 ∨ v = 2 ∨ v = 3 ∨ v = 4 ∨ v = 5 ∨ v = 6 ∨ v = 7 ∨ v = 8 ∨ v = 9 ∨ v = 10 ∨ v = 11 := by omega

theorem all_lt (n : Nat) (P : Nat → Prop) : (∀ p < n + 1, P p) ↔ (∀ p < n, P p) ∧ P n := by
  constructor
  · intro h; exact ⟨fun p hp => h p (by omega), h n (by omega)⟩
  · rintro ⟨a, b⟩ p hp
    by_cases e : p = n
    · subst e; exact b
    · exact a p (by omega)
theorem rest_2 (x : Nat → Int) : (∀ p < deg 2, rest 2 x p = 0) ↔ Zx 2 x := by
  have e : deg 2 = 1 := rfl
  rw [e]
  simp only [rest, e, base, rdN, Zx]
  constructor
  · intro h
    have h0 := h 0 (by decide)
    simp [R, List.getD] at *
    omega
  · intro z p hp
    rcases (by omega : p = 0) with rfl
    all_goals
      simp [R, List.getD]
      omega
theorem rest_3 (x : Nat → Int) : (∀ p < deg 3, rest 3 x p = 0) ↔ Zx 3 x := by
  have e : deg 3 = 2 := rfl
  rw [e]
  simp only [rest, e, base, rdN, Zx]
  constructor
  · intro h
    have h0 := h 0 (by decide)
    have h1 := h 1 (by decide)
    simp [R, List.getD] at *
    omega
  · intro z p hp
    rcases (by omega : p = 0 ∨ p = 1) with rfl | rfl
    all_goals
      simp [R, List.getD]
      omega
theorem rest_4 (x : Nat → Int) : (∀ p < deg 4, rest 4 x p = 0) ↔ Zx 4 x := by
  have e : deg 4 = 2 := rfl
  rw [e]
  simp only [rest, e, base, rdN, Zx]
  constructor
  · intro h
    have h0 := h 0 (by decide)
    have h1 := h 1 (by decide)
    simp [R, List.getD] at *
    omega
  · intro z p hp
    rcases (by omega : p = 0 ∨ p = 1) with rfl | rfl
    all_goals
      simp [R, List.getD]
      omega
theorem rest_5 (x : Nat → Int) : (∀ p < deg 5, rest 5 x p = 0) ↔ Zx 5 x := by
  have e : deg 5 = 4 := rfl
  rw [e]
  simp only [rest, e, base, rdN, Zx]
  constructor
  · intro h
    have h0 := h 0 (by decide)
    have h1 := h 1 (by decide)
    have h2 := h 2 (by decide)
    have h3 := h 3 (by decide)
    simp [R, List.getD] at *
    omega
  · intro z p hp
    rcases (by omega : p = 0 ∨ p = 1 ∨ p = 2 ∨ p = 3) with rfl | rfl | rfl | rfl
    all_goals
      simp [R, List.getD]
      omega
theorem rest_6 (x : Nat → Int) : (∀ p < deg 6, rest 6 x p = 0) ↔ Zx 6 x := by
  have e : deg 6 = 2 := rfl
  rw [e]
  simp only [rest, e, base, rdN, Zx]
  constructor
  · intro h
    have h0 := h 0 (by decide)
    have h1 := h 1 (by decide)
    simp [R, List.getD] at *
    omega
  · intro z p hp
    rcases (by omega : p = 0 ∨ p = 1) with rfl | rfl
    all_goals
      simp [R, List.getD]
      omega
theorem rest_7 (x : Nat → Int) : (∀ p < deg 7, rest 7 x p = 0) ↔ Zx 7 x := by
  have e : deg 7 = 6 := rfl
  rw [e]
  simp only [rest, e, base, rdN, Zx]
  constructor
  · intro h
    have h0 := h 0 (by decide)
    have h1 := h 1 (by decide)
    have h2 := h 2 (by decide)
    have h3 := h 3 (by decide)
    have h4 := h 4 (by decide)
    have h5 := h 5 (by decide)
    simp [R, List.getD] at *
    omega
  · intro z p hp
    rcases (by omega : p = 0 ∨ p = 1 ∨ p = 2 ∨ p = 3 ∨ p = 4 ∨ p = 5) with rfl | rfl | rfl | rfl | rfl | rfl
    all_goals
      simp [R, List.getD]
      omega
theorem rest_8 (x : Nat → Int) : (∀ p < deg 8, rest 8 x p = 0) ↔ Zx 8 x := by
  have e : deg 8 = 4 := rfl
  rw [e]
  simp only [rest, e, base, rdN, Zx]
  constructor
  · intro h
    have h0 := h 0 (by decide)
    have h1 := h 1 (by decide)
    have h2 := h 2 (by decide)
    have h3 := h 3 (by decide)
    simp [R, List.getD] at *
    omega
  · intro z p hp
    rcases (by omega : p = 0 ∨ p = 1 ∨ p = 2 ∨ p = 3) with rfl | rfl | rfl | rfl
    all_goals
      simp [R, List.getD]
      omega
theorem rest_9 (x : Nat → Int) : (∀ p < deg 9, rest 9 x p = 0) ↔ Zx 9 x := by
  have e : deg 9 = 6 := rfl
  rw [e]
  simp only [rest, e, base, rdN, Zx]
  constructor
  · intro h
    have h0 := h 0 (by decide)
    have h1 := h 1 (by decide)
    have h2 := h 2 (by decide)
    have h3 := h 3 (by decide)
    have h4 := h 4 (by decide)
    have h5 := h 5 (by decide)
    simp [R, List.getD] at *
    omega
  · intro z p hp
    rcases (by omega : p = 0 ∨ p = 1 ∨ p = 2 ∨ p = 3 ∨ p = 4 ∨ p = 5) with rfl | rfl | rfl | rfl | rfl | rfl
    all_goals
      simp [R, List.getD]
      omega
theorem rest_10 (x : Nat → Int) : (∀ p < deg 10, rest 10 x p = 0) ↔ Zx 10 x := by
  have e : deg 10 = 4 := rfl
  rw [e]
  simp only [rest, e, base, rdN, Zx]
  constructor
  · intro h
    have h0 := h 0 (by decide)
    have h1 := h 1 (by decide)
    have h2 := h 2 (by decide)
    have h3 := h 3 (by decide)
    simp [R, List.getD] at *
    omega
  · intro z p hp
    rcases (by omega : p = 0 ∨ p = 1 ∨ p = 2 ∨ p = 3) with rfl | rfl | rfl | rfl
    all_goals
      simp [R, List.getD]
      omega
theorem rest_11 (x : Nat → Int) : (∀ p < deg 11, rest 11 x p = 0) ↔ Zx 11 x := by
  have e : deg 11 = 10 := rfl
  rw [e]
  simp only [rest, e, base, rdN, Zx]
  constructor
  · intro h
    have h0 := h 0 (by decide)
    have h1 := h 1 (by decide)
    have h2 := h 2 (by decide)
    have h3 := h 3 (by decide)
    have h4 := h 4 (by decide)
    have h5 := h 5 (by decide)
    have h6 := h 6 (by decide)
    have h7 := h 7 (by decide)
    have h8 := h 8 (by decide)
    have h9 := h 9 (by decide)
    simp [R, List.getD] at *
    omega
  · intro z p hp
    rcases (by omega : p = 0 ∨ p = 1 ∨ p = 2 ∨ p = 3 ∨ p = 4 ∨ p = 5 ∨ p = 6 ∨ p = 7 ∨ p = 8 ∨ p = 9) with rfl | rfl | rfl | rfl | rfl | rfl | rfl | rfl | rfl | rfl
    all_goals
      simp [R, List.getD]
      omega
theorem rest_12 (x : Nat → Int) : (∀ p < deg 12, rest 12 x p = 0) ↔ Zx 12 x := by
  have e : deg 12 = 4 := rfl
  rw [e]
  simp only [rest, e, base, rdN, Zx]
  constructor
  · intro h
    have h0 := h 0 (by decide)
    have h1 := h 1 (by decide)
    have h2 := h 2 (by decide)
    have h3 := h 3 (by decide)
    simp [R, List.getD] at *
    omega
  · intro z p hp
    rcases (by omega : p = 0 ∨ p = 1 ∨ p = 2 ∨ p = 3) with rfl | rfl | rfl | rfl
    all_goals
      simp [R, List.getD]
      omega
theorem rest_iff {n : Nat} (h : 2 ≤ n) (h2 : n ≤ 12) (x : Nat → Int) : (∀ p < deg n, rest n x p = 0) ↔ Zx n x := by
  rcases sizes h h2 with rfl | rfl | rfl | rfl | rfl | rfl | rfl | rfl | rfl | rfl | rfl
  · exact rest_2 x
  · exact rest_3 x
  · exact rest_4 x
  · exact rest_5 x
  · exact rest_6 x
  · exact rest_7 x
  · exact rest_8 x
  · exact rest_9 x
  · exact rest_10 x
  · exact rest_11 x
  · exact rest_12 x
theorem perm {n v : Nat} (h : 2 ≤ n) (h2 : n ≤ 12) (hv : v < n) (hc : Nat.gcd v n = 1) (x : Nat → Int) (z : Zx n x) : Zx n fun k => x (v * k % n) := by
  rcases sizes h h2 with rfl | rfl | rfl | rfl | rfl | rfl | rfl | rfl | rfl | rfl | rfl
  all_goals
    rcases below hv h2 with rfl | rfl | rfl | rfl | rfl | rfl | rfl | rfl | rfl | rfl | rfl | rfl
    all_goals
      first
      | exact absurd hv (by decide)
      | exact absurd hc (by decide)
      | (simp only [Zx, Nat.reduceMul, Nat.reduceMod] at z ⊢; omega)
theorem shift {n t : Nat} (h : 2 ≤ n) (h2 : n ≤ 12) (ht : t < n) (x : Nat → Int) (z : Zx n x) : Zx n fun k => x ((k + t) % n) := by
  rcases sizes h h2 with rfl | rfl | rfl | rfl | rfl | rfl | rfl | rfl | rfl | rfl | rfl
  all_goals
    rcases below ht h2 with rfl | rfl | rfl | rfl | rfl | rfl | rfl | rfl | rfl | rfl | rfl | rfl
    all_goals
      first
      | exact absurd ht (by decide)
      | (simp only [Zx, Nat.reduceAdd, Nat.reduceMod] at z ⊢; omega)
theorem lone {n : Nat} (h : 2 ≤ n) (h2 : n ≤ 12) (x : Nat → Int) (z : Zx n x) (e : ∀ k < n, k ≠ 0 → x k = 0) : x 0 = 0 := by
  rcases sizes h h2 with rfl | rfl | rfl | rfl | rfl | rfl | rfl | rfl | rfl | rfl | rfl
  all_goals
    simp only [Zx] at z
    simp only [all_lt] at e
    omega


theorem cong {n : Nat} (h : 2 ≤ n) (h2 : n ≤ 12) (x y : Nat → Int) (z : Zx n x) (e : ∀ k < n, y k = x k) : Zx n y := by
  rcases sizes h h2 with rfl | rfl | rfl | rfl | rfl | rfl | rfl | rfl | rfl | rfl | rfl
  · simp only [Zx, e 0 (by decide), e 1 (by decide)] at z ⊢; exact z
  · simp only [Zx, e 0 (by decide), e 1 (by decide), e 2 (by decide)] at z ⊢; exact z
  · simp only [Zx, e 0 (by decide), e 1 (by decide), e 2 (by decide), e 3 (by decide)] at z ⊢; exact z
  · simp only [Zx, e 0 (by decide), e 1 (by decide), e 2 (by decide), e 3 (by decide), e 4 (by decide)] at z ⊢; exact z
  · simp only [Zx, e 0 (by decide), e 1 (by decide), e 2 (by decide), e 3 (by decide), e 4 (by decide), e 5 (by decide)] at z ⊢; exact z
  · simp only [Zx, e 0 (by decide), e 1 (by decide), e 2 (by decide), e 3 (by decide), e 4 (by decide), e 5 (by decide), e 6 (by decide)] at z ⊢; exact z
  · simp only [Zx, e 0 (by decide), e 1 (by decide), e 2 (by decide), e 3 (by decide), e 4 (by decide), e 5 (by decide), e 6 (by decide), e 7 (by decide)] at z ⊢; exact z
  · simp only [Zx, e 0 (by decide), e 1 (by decide), e 2 (by decide), e 3 (by decide), e 4 (by decide), e 5 (by decide), e 6 (by decide), e 7 (by decide), e 8 (by decide)] at z ⊢; exact z
  · simp only [Zx, e 0 (by decide), e 1 (by decide), e 2 (by decide), e 3 (by decide), e 4 (by decide), e 5 (by decide), e 6 (by decide), e 7 (by decide), e 8 (by decide), e 9 (by decide)] at z ⊢; exact z
  · simp only [Zx, e 0 (by decide), e 1 (by decide), e 2 (by decide), e 3 (by decide), e 4 (by decide), e 5 (by decide), e 6 (by decide), e 7 (by decide), e 8 (by decide), e 9 (by decide), e 10 (by decide)] at z ⊢; exact z
  · simp only [Zx, e 0 (by decide), e 1 (by decide), e 2 (by decide), e 3 (by decide), e 4 (by decide), e 5 (by decide), e 6 (by decide), e 7 (by decide), e 8 (by decide), e 9 (by decide), e 10 (by decide), e 11 (by decide)] at z ⊢; exact z
theorem minus {n : Nat} (h : 2 ≤ n) (h2 : n ≤ 12) (x y w : Nat → Int) (z : Zx n x) (z2 : Zx n y) (e : ∀ k < n, w k = y k - x k) : Zx n w := by
  rcases sizes h h2 with rfl | rfl | rfl | rfl | rfl | rfl | rfl | rfl | rfl | rfl | rfl
  · simp only [Zx, e 0 (by decide), e 1 (by decide)] at z z2 ⊢; omega
  · simp only [Zx, e 0 (by decide), e 1 (by decide), e 2 (by decide)] at z z2 ⊢; omega
  · simp only [Zx, e 0 (by decide), e 1 (by decide), e 2 (by decide), e 3 (by decide)] at z z2 ⊢; omega
  · simp only [Zx, e 0 (by decide), e 1 (by decide), e 2 (by decide), e 3 (by decide), e 4 (by decide)] at z z2 ⊢; omega
  · simp only [Zx, e 0 (by decide), e 1 (by decide), e 2 (by decide), e 3 (by decide), e 4 (by decide), e 5 (by decide)] at z z2 ⊢; omega
  · simp only [Zx, e 0 (by decide), e 1 (by decide), e 2 (by decide), e 3 (by decide), e 4 (by decide), e 5 (by decide), e 6 (by decide)] at z z2 ⊢; omega
  · simp only [Zx, e 0 (by decide), e 1 (by decide), e 2 (by decide), e 3 (by decide), e 4 (by decide), e 5 (by decide), e 6 (by decide), e 7 (by decide)] at z z2 ⊢; omega
  · simp only [Zx, e 0 (by decide), e 1 (by decide), e 2 (by decide), e 3 (by decide), e 4 (by decide), e 5 (by decide), e 6 (by decide), e 7 (by decide), e 8 (by decide)] at z z2 ⊢; omega
  · simp only [Zx, e 0 (by decide), e 1 (by decide), e 2 (by decide), e 3 (by decide), e 4 (by decide), e 5 (by decide), e 6 (by decide), e 7 (by decide), e 8 (by decide), e 9 (by decide)] at z z2 ⊢; omega
  · simp only [Zx, e 0 (by decide), e 1 (by decide), e 2 (by decide), e 3 (by decide), e 4 (by decide), e 5 (by decide), e 6 (by decide), e 7 (by decide), e 8 (by decide), e 9 (by decide), e 10 (by decide)] at z z2 ⊢; omega
  · simp only [Zx, e 0 (by decide), e 1 (by decide), e 2 (by decide), e 3 (by decide), e 4 (by decide), e 5 (by decide), e 6 (by decide), e 7 (by decide), e 8 (by decide), e 9 (by decide), e 10 (by decide), e 11 (by decide)] at z z2 ⊢; omega
instance (n : Nat) (x : Nat → Int) : Decidable (Zx n x) := by
  unfold Zx
  split <;> infer_instance
/-- each rest as often: at a step that is not nothing modulo n, all together -/
theorem every {n s : Nat} (h : 2 ≤ n) (h2 : n ≤ 12) (hs : s < n) (h0 : s ≠ 0) : Zx n fun k => (((List.range n).countP fun j => j * s % n == k : Nat) : Int) := by
  rcases sizes h h2 with rfl | rfl | rfl | rfl | rfl | rfl | rfl | rfl | rfl | rfl | rfl
  all_goals
    rcases below hs h2 with rfl | rfl | rfl | rfl | rfl | rfl | rfl | rfl | rfl | rfl | rfl | rfl
    all_goals
      first
      | exact absurd hs (by decide)
      | exact absurd rfl h0
      | (simp only [Zx]; decide)
end Zn
set_option Elab.async false
set_option linter.all false
set_option maxRecDepth 100000
set_option maxHeartbeats 8000000
namespace Zn
set_option autoImplicit false
/-- the sum of those that fall on a place -/
def S (n s : Nat) (r : Nat → Int) : Nat → Int := fun k => ((List.range n).map fun j => if j * s % n = k then r j else 0).sum
theorem part_2_2 (r : Nat → Int) : (∀ p < deg 2, rdN (base 2) (deg 2) (2 - deg 2) r p = 0) ↔ Zx 2 (S 2 1 r) := by
  have e : deg 2 = 1 := rfl
  rw [e]
  simp only [base, rdN, Zx, Nat.reduceSub]
  constructor
  · intro h
    have h0 := h 0 (by decide)
    simp [R, List.getD, S, List.range, List.range.loop] at *
    omega
  · intro z p hp
    rcases (by omega : p = 0) with rfl
    all_goals
      simp [R, List.getD, S, List.range, List.range.loop] at *
      omega
theorem part_3_3 (r : Nat → Int) : (∀ p < deg 3, rdN (base 3) (deg 3) (3 - deg 3) r p = 0) ↔ Zx 3 (S 3 1 r) := by
  have e : deg 3 = 2 := rfl
  rw [e]
  simp only [base, rdN, Zx, Nat.reduceSub]
  constructor
  · intro h
    have h0 := h 0 (by decide)
    have h1 := h 1 (by decide)
    simp [R, List.getD, S, List.range, List.range.loop] at *
    omega
  · intro z p hp
    rcases (by omega : p = 0 ∨ p = 1) with rfl | rfl
    all_goals
      simp [R, List.getD, S, List.range, List.range.loop] at *
      omega
theorem part_4_2 (r : Nat → Int) : (∀ p < deg 2, rdN (base 2) (deg 2) (4 - deg 2) r p = 0) ↔ Zx 4 (S 4 2 r) := by
  have e : deg 2 = 1 := rfl
  rw [e]
  simp only [base, rdN, Zx, Nat.reduceSub]
  constructor
  · intro h
    have h0 := h 0 (by decide)
    simp [R, List.getD, S, List.range, List.range.loop] at *
    omega
  · intro z p hp
    rcases (by omega : p = 0) with rfl
    all_goals
      simp [R, List.getD, S, List.range, List.range.loop] at *
      omega
theorem part_4_4 (r : Nat → Int) : (∀ p < deg 4, rdN (base 4) (deg 4) (4 - deg 4) r p = 0) ↔ Zx 4 (S 4 1 r) := by
  have e : deg 4 = 2 := rfl
  rw [e]
  simp only [base, rdN, Zx, Nat.reduceSub]
  constructor
  · intro h
    have h0 := h 0 (by decide)
    have h1 := h 1 (by decide)
    simp [R, List.getD, S, List.range, List.range.loop] at *
    omega
  · intro z p hp
    rcases (by omega : p = 0 ∨ p = 1) with rfl | rfl
    all_goals
      simp [R, List.getD, S, List.range, List.range.loop] at *
      omega
theorem part_5_5 (r : Nat → Int) : (∀ p < deg 5, rdN (base 5) (deg 5) (5 - deg 5) r p = 0) ↔ Zx 5 (S 5 1 r) := by
  have e : deg 5 = 4 := rfl
  rw [e]
  simp only [base, rdN, Zx, Nat.reduceSub]
  constructor
  · intro h
    have h0 := h 0 (by decide)
    have h1 := h 1 (by decide)
    have h2 := h 2 (by decide)
    have h3 := h 3 (by decide)
    simp [R, List.getD, S, List.range, List.range.loop] at *
    omega
  · intro z p hp
    rcases (by omega : p = 0 ∨ p = 1 ∨ p = 2 ∨ p = 3) with rfl | rfl | rfl | rfl
    all_goals
      simp [R, List.getD, S, List.range, List.range.loop] at *
      omega
theorem part_6_2 (r : Nat → Int) : (∀ p < deg 2, rdN (base 2) (deg 2) (6 - deg 2) r p = 0) ↔ Zx 6 (S 6 3 r) := by
  have e : deg 2 = 1 := rfl
  rw [e]
  simp only [base, rdN, Zx, Nat.reduceSub]
  constructor
  · intro h
    have h0 := h 0 (by decide)
    simp [R, List.getD, S, List.range, List.range.loop] at *
    omega
  · intro z p hp
    rcases (by omega : p = 0) with rfl
    all_goals
      simp [R, List.getD, S, List.range, List.range.loop] at *
      omega
theorem part_6_3 (r : Nat → Int) : (∀ p < deg 3, rdN (base 3) (deg 3) (6 - deg 3) r p = 0) ↔ Zx 6 (S 6 2 r) := by
  have e : deg 3 = 2 := rfl
  rw [e]
  simp only [base, rdN, Zx, Nat.reduceSub]
  constructor
  · intro h
    have h0 := h 0 (by decide)
    have h1 := h 1 (by decide)
    simp [R, List.getD, S, List.range, List.range.loop] at *
    omega
  · intro z p hp
    rcases (by omega : p = 0 ∨ p = 1) with rfl | rfl
    all_goals
      simp [R, List.getD, S, List.range, List.range.loop] at *
      omega
theorem part_6_6 (r : Nat → Int) : (∀ p < deg 6, rdN (base 6) (deg 6) (6 - deg 6) r p = 0) ↔ Zx 6 (S 6 1 r) := by
  have e : deg 6 = 2 := rfl
  rw [e]
  simp only [base, rdN, Zx, Nat.reduceSub]
  constructor
  · intro h
    have h0 := h 0 (by decide)
    have h1 := h 1 (by decide)
    simp [R, List.getD, S, List.range, List.range.loop] at *
    omega
  · intro z p hp
    rcases (by omega : p = 0 ∨ p = 1) with rfl | rfl
    all_goals
      simp [R, List.getD, S, List.range, List.range.loop] at *
      omega
theorem part_7_7 (r : Nat → Int) : (∀ p < deg 7, rdN (base 7) (deg 7) (7 - deg 7) r p = 0) ↔ Zx 7 (S 7 1 r) := by
  have e : deg 7 = 6 := rfl
  rw [e]
  simp only [base, rdN, Zx, Nat.reduceSub]
  constructor
  · intro h
    have h0 := h 0 (by decide)
    have h1 := h 1 (by decide)
    have h2 := h 2 (by decide)
    have h3 := h 3 (by decide)
    have h4 := h 4 (by decide)
    have h5 := h 5 (by decide)
    simp [R, List.getD, S, List.range, List.range.loop] at *
    omega
  · intro z p hp
    rcases (by omega : p = 0 ∨ p = 1 ∨ p = 2 ∨ p = 3 ∨ p = 4 ∨ p = 5) with rfl | rfl | rfl | rfl | rfl | rfl
    all_goals
      simp [R, List.getD, S, List.range, List.range.loop] at *
      omega
theorem part_8_2 (r : Nat → Int) : (∀ p < deg 2, rdN (base 2) (deg 2) (8 - deg 2) r p = 0) ↔ Zx 8 (S 8 4 r) := by
  have e : deg 2 = 1 := rfl
  rw [e]
  simp only [base, rdN, Zx, Nat.reduceSub]
  constructor
  · intro h
    have h0 := h 0 (by decide)
    simp [R, List.getD, S, List.range, List.range.loop] at *
    omega
  · intro z p hp
    rcases (by omega : p = 0) with rfl
    all_goals
      simp [R, List.getD, S, List.range, List.range.loop] at *
      omega
theorem part_8_4 (r : Nat → Int) : (∀ p < deg 4, rdN (base 4) (deg 4) (8 - deg 4) r p = 0) ↔ Zx 8 (S 8 2 r) := by
  have e : deg 4 = 2 := rfl
  rw [e]
  simp only [base, rdN, Zx, Nat.reduceSub]
  constructor
  · intro h
    have h0 := h 0 (by decide)
    have h1 := h 1 (by decide)
    simp [R, List.getD, S, List.range, List.range.loop] at *
    omega
  · intro z p hp
    rcases (by omega : p = 0 ∨ p = 1) with rfl | rfl
    all_goals
      simp [R, List.getD, S, List.range, List.range.loop] at *
      omega
theorem part_8_8 (r : Nat → Int) : (∀ p < deg 8, rdN (base 8) (deg 8) (8 - deg 8) r p = 0) ↔ Zx 8 (S 8 1 r) := by
  have e : deg 8 = 4 := rfl
  rw [e]
  simp only [base, rdN, Zx, Nat.reduceSub]
  constructor
  · intro h
    have h0 := h 0 (by decide)
    have h1 := h 1 (by decide)
    have h2 := h 2 (by decide)
    have h3 := h 3 (by decide)
    simp [R, List.getD, S, List.range, List.range.loop] at *
    omega
  · intro z p hp
    rcases (by omega : p = 0 ∨ p = 1 ∨ p = 2 ∨ p = 3) with rfl | rfl | rfl | rfl
    all_goals
      simp [R, List.getD, S, List.range, List.range.loop] at *
      omega
theorem part_9_3 (r : Nat → Int) : (∀ p < deg 3, rdN (base 3) (deg 3) (9 - deg 3) r p = 0) ↔ Zx 9 (S 9 3 r) := by
  have e : deg 3 = 2 := rfl
  rw [e]
  simp only [base, rdN, Zx, Nat.reduceSub]
  constructor
  · intro h
    have h0 := h 0 (by decide)
    have h1 := h 1 (by decide)
    simp [R, List.getD, S, List.range, List.range.loop] at *
    omega
  · intro z p hp
    rcases (by omega : p = 0 ∨ p = 1) with rfl | rfl
    all_goals
      simp [R, List.getD, S, List.range, List.range.loop] at *
      omega
theorem part_9_9 (r : Nat → Int) : (∀ p < deg 9, rdN (base 9) (deg 9) (9 - deg 9) r p = 0) ↔ Zx 9 (S 9 1 r) := by
  have e : deg 9 = 6 := rfl
  rw [e]
  simp only [base, rdN, Zx, Nat.reduceSub]
  constructor
  · intro h
    have h0 := h 0 (by decide)
    have h1 := h 1 (by decide)
    have h2 := h 2 (by decide)
    have h3 := h 3 (by decide)
    have h4 := h 4 (by decide)
    have h5 := h 5 (by decide)
    simp [R, List.getD, S, List.range, List.range.loop] at *
    omega
  · intro z p hp
    rcases (by omega : p = 0 ∨ p = 1 ∨ p = 2 ∨ p = 3 ∨ p = 4 ∨ p = 5) with rfl | rfl | rfl | rfl | rfl | rfl
    all_goals
      simp [R, List.getD, S, List.range, List.range.loop] at *
      omega
theorem part_10_2 (r : Nat → Int) : (∀ p < deg 2, rdN (base 2) (deg 2) (10 - deg 2) r p = 0) ↔ Zx 10 (S 10 5 r) := by
  have e : deg 2 = 1 := rfl
  rw [e]
  simp only [base, rdN, Zx, Nat.reduceSub]
  constructor
  · intro h
    have h0 := h 0 (by decide)
    simp [R, List.getD, S, List.range, List.range.loop] at *
    omega
  · intro z p hp
    rcases (by omega : p = 0) with rfl
    all_goals
      simp [R, List.getD, S, List.range, List.range.loop] at *
      omega
theorem part_10_5 (r : Nat → Int) : (∀ p < deg 5, rdN (base 5) (deg 5) (10 - deg 5) r p = 0) ↔ Zx 10 (S 10 2 r) := by
  have e : deg 5 = 4 := rfl
  rw [e]
  simp only [base, rdN, Zx, Nat.reduceSub]
  constructor
  · intro h
    have h0 := h 0 (by decide)
    have h1 := h 1 (by decide)
    have h2 := h 2 (by decide)
    have h3 := h 3 (by decide)
    simp [R, List.getD, S, List.range, List.range.loop] at *
    omega
  · intro z p hp
    rcases (by omega : p = 0 ∨ p = 1 ∨ p = 2 ∨ p = 3) with rfl | rfl | rfl | rfl
    all_goals
      simp [R, List.getD, S, List.range, List.range.loop] at *
      omega
theorem part_10_10 (r : Nat → Int) : (∀ p < deg 10, rdN (base 10) (deg 10) (10 - deg 10) r p = 0) ↔ Zx 10 (S 10 1 r) := by
  have e : deg 10 = 4 := rfl
  rw [e]
  simp only [base, rdN, Zx, Nat.reduceSub]
  constructor
  · intro h
    have h0 := h 0 (by decide)
    have h1 := h 1 (by decide)
    have h2 := h 2 (by decide)
    have h3 := h 3 (by decide)
    simp [R, List.getD, S, List.range, List.range.loop] at *
    omega
  · intro z p hp
    rcases (by omega : p = 0 ∨ p = 1 ∨ p = 2 ∨ p = 3) with rfl | rfl | rfl | rfl
    all_goals
      simp [R, List.getD, S, List.range, List.range.loop] at *
      omega
theorem part_11_11 (r : Nat → Int) : (∀ p < deg 11, rdN (base 11) (deg 11) (11 - deg 11) r p = 0) ↔ Zx 11 (S 11 1 r) := by
  have e : deg 11 = 10 := rfl
  rw [e]
  simp only [base, rdN, Zx, Nat.reduceSub]
  constructor
  · intro h
    have h0 := h 0 (by decide)
    have h1 := h 1 (by decide)
    have h2 := h 2 (by decide)
    have h3 := h 3 (by decide)
    have h4 := h 4 (by decide)
    have h5 := h 5 (by decide)
    have h6 := h 6 (by decide)
    have h7 := h 7 (by decide)
    have h8 := h 8 (by decide)
    have h9 := h 9 (by decide)
    simp [R, List.getD, S, List.range, List.range.loop] at *
    omega
  · intro z p hp
    rcases (by omega : p = 0 ∨ p = 1 ∨ p = 2 ∨ p = 3 ∨ p = 4 ∨ p = 5 ∨ p = 6 ∨ p = 7 ∨ p = 8 ∨ p = 9) with rfl | rfl | rfl | rfl | rfl | rfl | rfl | rfl | rfl | rfl
    all_goals
      simp [R, List.getD, S, List.range, List.range.loop] at *
      omega
theorem part_12_2 (r : Nat → Int) : (∀ p < deg 2, rdN (base 2) (deg 2) (12 - deg 2) r p = 0) ↔ Zx 12 (S 12 6 r) := by
  have e : deg 2 = 1 := rfl
  rw [e]
  simp only [base, rdN, Zx, Nat.reduceSub]
  constructor
  · intro h
    have h0 := h 0 (by decide)
    simp [R, List.getD, S, List.range, List.range.loop] at *
    omega
  · intro z p hp
    rcases (by omega : p = 0) with rfl
    all_goals
      simp [R, List.getD, S, List.range, List.range.loop] at *
      omega
theorem part_12_3 (r : Nat → Int) : (∀ p < deg 3, rdN (base 3) (deg 3) (12 - deg 3) r p = 0) ↔ Zx 12 (S 12 4 r) := by
  have e : deg 3 = 2 := rfl
  rw [e]
  simp only [base, rdN, Zx, Nat.reduceSub]
  constructor
  · intro h
    have h0 := h 0 (by decide)
    have h1 := h 1 (by decide)
    simp [R, List.getD, S, List.range, List.range.loop] at *
    omega
  · intro z p hp
    rcases (by omega : p = 0 ∨ p = 1) with rfl | rfl
    all_goals
      simp [R, List.getD, S, List.range, List.range.loop] at *
      omega
theorem part_12_4 (r : Nat → Int) : (∀ p < deg 4, rdN (base 4) (deg 4) (12 - deg 4) r p = 0) ↔ Zx 12 (S 12 3 r) := by
  have e : deg 4 = 2 := rfl
  rw [e]
  simp only [base, rdN, Zx, Nat.reduceSub]
  constructor
  · intro h
    have h0 := h 0 (by decide)
    have h1 := h 1 (by decide)
    simp [R, List.getD, S, List.range, List.range.loop] at *
    omega
  · intro z p hp
    rcases (by omega : p = 0 ∨ p = 1) with rfl | rfl
    all_goals
      simp [R, List.getD, S, List.range, List.range.loop] at *
      omega
theorem part_12_6 (r : Nat → Int) : (∀ p < deg 6, rdN (base 6) (deg 6) (12 - deg 6) r p = 0) ↔ Zx 12 (S 12 2 r) := by
  have e : deg 6 = 2 := rfl
  rw [e]
  simp only [base, rdN, Zx, Nat.reduceSub]
  constructor
  · intro h
    have h0 := h 0 (by decide)
    have h1 := h 1 (by decide)
    simp [R, List.getD, S, List.range, List.range.loop] at *
    omega
  · intro z p hp
    rcases (by omega : p = 0 ∨ p = 1) with rfl | rfl
    all_goals
      simp [R, List.getD, S, List.range, List.range.loop] at *
      omega
theorem part_12_12 (r : Nat → Int) : (∀ p < deg 12, rdN (base 12) (deg 12) (12 - deg 12) r p = 0) ↔ Zx 12 (S 12 1 r) := by
  have e : deg 12 = 4 := rfl
  rw [e]
  simp only [base, rdN, Zx, Nat.reduceSub]
  constructor
  · intro h
    have h0 := h 0 (by decide)
    have h1 := h 1 (by decide)
    have h2 := h 2 (by decide)
    have h3 := h 3 (by decide)
    simp [R, List.getD, S, List.range, List.range.loop] at *
    omega
  · intro z p hp
    rcases (by omega : p = 0 ∨ p = 1 ∨ p = 2 ∨ p = 3) with rfl | rfl | rfl | rfl
    all_goals
      simp [R, List.getD, S, List.range, List.range.loop] at *
      omega
theorem part_iff {n m : Nat} (h : 2 ≤ n) (h2 : n ≤ 12) (hm : 2 ≤ m) (hd : n % m = 0) (r : Nat → Int) : (∀ p < deg m, rdN (base m) (deg m) (n - deg m) r p = 0) ↔ Zx n (S n (n / m) r) := by
  have hmn : m ≤ n := Nat.le_of_dvd (by omega) (Nat.dvd_of_mod_eq_zero hd)
  rcases sizes h h2 with rfl | rfl | rfl | rfl | rfl | rfl | rfl | rfl | rfl | rfl | rfl
  · have e : m = 2 := by omega
    subst e
    exact part_2_2 r
  · rcases (by omega : m = 2 ∨ m = 3) with rfl | rfl
    · exact absurd hd (by decide)
    · exact part_3_3 r
  · rcases (by omega : m = 2 ∨ m = 3 ∨ m = 4) with rfl | rfl | rfl
    · exact part_4_2 r
    · exact absurd hd (by decide)
    · exact part_4_4 r
  · rcases (by omega : m = 2 ∨ m = 3 ∨ m = 4 ∨ m = 5) with rfl | rfl | rfl | rfl
    · exact absurd hd (by decide)
    · exact absurd hd (by decide)
    · exact absurd hd (by decide)
    · exact part_5_5 r
  · rcases (by omega : m = 2 ∨ m = 3 ∨ m = 4 ∨ m = 5 ∨ m = 6) with rfl | rfl | rfl | rfl | rfl
    · exact part_6_2 r
    · exact part_6_3 r
    · exact absurd hd (by decide)
    · exact absurd hd (by decide)
    · exact part_6_6 r
  · rcases (by omega : m = 2 ∨ m = 3 ∨ m = 4 ∨ m = 5 ∨ m = 6 ∨ m = 7) with rfl | rfl | rfl | rfl | rfl | rfl
    · exact absurd hd (by decide)
    · exact absurd hd (by decide)
    · exact absurd hd (by decide)
    · exact absurd hd (by decide)
    · exact absurd hd (by decide)
    · exact part_7_7 r
  · rcases (by omega : m = 2 ∨ m = 3 ∨ m = 4 ∨ m = 5 ∨ m = 6 ∨ m = 7 ∨ m = 8) with rfl | rfl | rfl | rfl | rfl | rfl | rfl
    · exact part_8_2 r
    · exact absurd hd (by decide)
    · exact part_8_4 r
    · exact absurd hd (by decide)
    · exact absurd hd (by decide)
    · exact absurd hd (by decide)
    · exact part_8_8 r
  · rcases (by omega : m = 2 ∨ m = 3 ∨ m = 4 ∨ m = 5 ∨ m = 6 ∨ m = 7 ∨ m = 8 ∨ m = 9) with rfl | rfl | rfl | rfl | rfl | rfl | rfl | rfl
    · exact absurd hd (by decide)
    · exact part_9_3 r
    · exact absurd hd (by decide)
    · exact absurd hd (by decide)
    · exact absurd hd (by decide)
    · exact absurd hd (by decide)
    · exact absurd hd (by decide)
    · exact part_9_9 r
  · rcases (by omega : m = 2 ∨ m = 3 ∨ m = 4 ∨ m = 5 ∨ m = 6 ∨ m = 7 ∨ m = 8 ∨ m = 9 ∨ m = 10) with rfl | rfl | rfl | rfl | rfl | rfl | rfl | rfl | rfl
    · exact part_10_2 r
    · exact absurd hd (by decide)
    · exact absurd hd (by decide)
    · exact part_10_5 r
    · exact absurd hd (by decide)
    · exact absurd hd (by decide)
    · exact absurd hd (by decide)
    · exact absurd hd (by decide)
    · exact part_10_10 r
  · rcases (by omega : m = 2 ∨ m = 3 ∨ m = 4 ∨ m = 5 ∨ m = 6 ∨ m = 7 ∨ m = 8 ∨ m = 9 ∨ m = 10 ∨ m = 11) with rfl | rfl | rfl | rfl | rfl | rfl | rfl | rfl | rfl | rfl
    · exact absurd hd (by decide)
    · exact absurd hd (by decide)
    · exact absurd hd (by decide)
    · exact absurd hd (by decide)
    · exact absurd hd (by decide)
    · exact absurd hd (by decide)
    · exact absurd hd (by decide)
    · exact absurd hd (by decide)
    · exact absurd hd (by decide)
    · exact part_11_11 r
  · rcases (by omega : m = 2 ∨ m = 3 ∨ m = 4 ∨ m = 5 ∨ m = 6 ∨ m = 7 ∨ m = 8 ∨ m = 9 ∨ m = 10 ∨ m = 11 ∨ m = 12) with rfl | rfl | rfl | rfl | rfl | rfl | rfl | rfl | rfl | rfl | rfl
    · exact part_12_2 r
    · exact part_12_3 r
    · exact part_12_4 r
    · exact absurd hd (by decide)
    · exact part_12_6 r
    · exact absurd hd (by decide)
    · exact absurd hd (by decide)
    · exact absurd hd (by decide)
    · exact absurd hd (by decide)
    · exact absurd hd (by decide)
    · exact part_12_12 r
end Zn
set_option Elab.async false
set_option linter.all false
set_option maxRecDepth 100000
set_option maxHeartbeats 4000000
namespace K41
open PySem PySem.Spec L2 Dm
set_option autoImplicit false
/-! ### the text -/
def topS (i : Nat) : Stmt := PySem.Challenge.pw_wavespots_k41_whole_parts_by_own_divisio.main.body.getD i (.Pass ⟨0, 0, 0, 0⟩)
abbrev s_rest_by_round : Stmt := topS 6
abbrev N_rest_by_round : List Str := ["size", "coefficients", "divisor", "degree", "rest", "lead", "low", "at"]
abbrev p_rest_by_round : List Str := ["size", "coefficients"]
theorem sc_rest_by_round : FnScope N_rest_by_round p_rest_by_round (defScope s_rest_by_round) := ⟨rfl, rfl, rfl, by decide +kernel, rfl, by decide +kernel, by decide +kernel⟩
abbrev s_is_whole_from : Stmt := topS 10
abbrev N_is_whole_from : List Str := ["value", "low", "high"]
abbrev p_is_whole_from : List Str := ["value", "low", "high"]
theorem sc_is_whole_from : FnScope N_is_whole_from p_is_whole_from (defScope s_is_whole_from) := ⟨rfl, rfl, rfl, by decide +kernel, rfl, by decide +kernel, by decide +kernel⟩
abbrev s_is_size : Stmt := topS 11
abbrev N_is_size : List Str := ["value"]
abbrev p_is_size : List Str := ["value"]
theorem sc_is_size : FnScope N_is_size p_is_size (defScope s_is_size) := ⟨rfl, rfl, rfl, by decide +kernel, rfl, by decide +kernel, by decide +kernel⟩
abbrev s_check_size : Stmt := topS 12
abbrev N_check_size : List Str := ["size"]
abbrev p_check_size : List Str := ["size"]
theorem sc_check_size : FnScope N_check_size p_check_size (defScope s_check_size) := ⟨rfl, rfl, rfl, by decide +kernel, rfl, by decide +kernel, by decide +kernel⟩
abbrev s_divisors_of : Stmt := topS 13
abbrev N_divisors_of : List Str := ["count", "divisor"]
abbrev p_divisors_of : List Str := ["count"]
theorem sc_divisors_of : FnScope N_divisors_of p_divisors_of (defScope s_divisors_of) := ⟨rfl, rfl, rfl, by decide +kernel, rfl, by decide +kernel, by decide +kernel⟩
abbrev s_prime_of : Stmt := topS 14
abbrev N_prime_of : List Str := ["count", "prime", "rest"]
abbrev p_prime_of : List Str := ["count"]
theorem sc_prime_of : FnScope N_prime_of p_prime_of (defScope s_prime_of) := ⟨rfl, rfl, rfl, by decide +kernel, rfl, by decide +kernel, by decide +kernel⟩
abbrev s_is_lot : Stmt := topS 16
abbrev N_is_lot : List Str := ["size", "value", "index", "following"]
abbrev p_is_lot : List Str := ["size", "value"]
theorem sc_is_lot : FnScope N_is_lot p_is_lot (defScope s_is_lot) := ⟨rfl, rfl, rfl, by decide +kernel, rfl, by decide +kernel, by decide +kernel⟩
abbrev s_check_full_lot : Stmt := topS 17
abbrev N_check_full_lot : List Str := ["size", "lot"]
abbrev p_check_full_lot : List Str := ["size", "lot"]
theorem sc_check_full_lot : FnScope N_check_full_lot p_check_full_lot (defScope s_check_full_lot) := ⟨rfl, rfl, rfl, by decide +kernel, rfl, by decide +kernel, by decide +kernel⟩
abbrev s_is_zero_step : Stmt := topS 20
abbrev N_is_zero_step : List Str := ["size", "moments", "step", "turns", "moment"]
abbrev p_is_zero_step : List Str := ["size", "moments", "step"]
theorem sc_is_zero_step : FnScope N_is_zero_step p_is_zero_step (defScope s_is_zero_step) := ⟨rfl, rfl, rfl, by decide +kernel, rfl, by decide +kernel, by decide +kernel⟩
abbrev s_zero_steps : Stmt := topS 19
abbrev N_zero_steps : List Str := ["size", "moments", "step"]
abbrev p_zero_steps : List Str := ["size", "moments"]
theorem sc_zero_steps : FnScope N_zero_steps p_zero_steps (defScope s_zero_steps) := ⟨rfl, rfl, rfl, by decide +kernel, rfl, by decide +kernel, by decide +kernel⟩
abbrev s_parts_in : Stmt := topS 21
abbrev N_parts_in : List Str := ["size", "moments", "steps", "divisor"]
abbrev p_parts_in : List Str := ["size", "moments"]
theorem sc_parts_in : FnScope N_parts_in p_parts_in (defScope s_parts_in) := ⟨rfl, rfl, rfl, by decide +kernel, rfl, by decide +kernel, by decide +kernel⟩
abbrev s_has_first_sign : Stmt := topS 22
abbrev N_has_first_sign : List Str := ["size", "moments", "product", "part", "prime"]
abbrev p_has_first_sign : List Str := ["size", "moments"]
theorem sc_has_first_sign : FnScope N_has_first_sign p_has_first_sign (defScope s_has_first_sign) := ⟨rfl, rfl, rfl, by decide +kernel, rfl, by decide +kernel, by decide +kernel⟩
abbrev s_has_second_sign : Stmt := topS 23
abbrev N_has_second_sign : List Str := ["size", "moments", "parts", "powers", "part", "one", "other"]
abbrev p_has_second_sign : List Str := ["size", "moments"]
theorem sc_has_second_sign : FnScope N_has_second_sign p_has_second_sign (defScope s_has_second_sign) := ⟨rfl, rfl, rfl, by decide +kernel, rfl, by decide +kernel, by decide +kernel⟩
abbrev s__law_spring : Stmt := topS 25
abbrev N__law_spring : List Str := ["script", "turn", "stir", "place", "cell"]
abbrev p__law_spring : List Str := ["script", "turn"]
theorem sc__law_spring : FnScope N__law_spring p__law_spring (defScope s__law_spring) := ⟨rfl, rfl, rfl, by decide +kernel, rfl, by decide +kernel, by decide +kernel⟩
abbrev s__law_draw : Stmt := topS 26
abbrev N__law_draw : List Str := ["spring", "wide", "digit"]
abbrev p__law_draw : List Str := ["spring", "wide"]
theorem sc__law_draw : FnScope N__law_draw p__law_draw (defScope s__law_draw) := ⟨rfl, rfl, rfl, by decide +kernel, rfl, by decide +kernel, by decide +kernel⟩
abbrev s__law_one : Stmt := topS 27
abbrev N__law_one : List Str := ["spring", "some"]
abbrev p__law_one : List Str := ["spring", "some"]
theorem sc__law_one : FnScope N__law_one p__law_one (defScope s__law_one) := ⟨rfl, rfl, rfl, by decide +kernel, rfl, by decide +kernel, by decide +kernel⟩
abbrev s__law_shared : Stmt := topS 28
abbrev N__law_shared : List Str := ["one", "two", "a", "b", "turn"]
abbrev p__law_shared : List Str := ["one", "two"]
theorem sc__law_shared : FnScope N__law_shared p__law_shared (defScope s__law_shared) := ⟨rfl, rfl, rfl, by decide +kernel, rfl, by decide +kernel, by decide +kernel⟩
abbrev s__law_base : Stmt := topS 29
abbrev N__law_base : List Str := ["n"]
abbrev p__law_base : List Str := ["n"]
theorem sc__law_base : FnScope N__law_base p__law_base (defScope s__law_base) := ⟨rfl, rfl, rfl, by decide +kernel, rfl, by decide +kernel, by decide +kernel⟩
abbrev s__law_rest : Stmt := topS 30
abbrev N__law_rest : List Str := ["n", "row", "base", "rest", "long", "at", "worth", "k"]
abbrev p__law_rest : List Str := ["n", "row"]
theorem sc__law_rest : FnScope N__law_rest p__law_rest (defScope s__law_rest) := ⟨rfl, rfl, rfl, by decide +kernel, rfl, by decide +kernel, by decide +kernel⟩
abbrev s__law_is : Stmt := topS 31
abbrev N__law_is : List Str := ["n", "row", "worth"]
abbrev p__law_is : List Str := ["n", "row"]
theorem sc__law_is : FnScope N__law_is p__law_is (defScope s__law_is) := ⟨rfl, rfl, rfl, by decide +kernel, rfl, by decide +kernel, by decide +kernel⟩
abbrev s__law_lot : Stmt := topS 32
abbrev N__law_lot : List Str := ["spring", "n", "way", "some", "first", "long", "d", "left", "one", "two", "three", "at", "turn", "m"]
abbrev p__law_lot : List Str := ["spring", "n"]
theorem sc__law_lot : FnScope N__law_lot p__law_lot (defScope s__law_lot) := ⟨rfl, rfl, rfl, by decide +kernel, rfl, by decide +kernel, by decide +kernel⟩
abbrev s__law_led : Stmt := topS 33
abbrev N__law_led : List Str := ["n", "some", "u", "far", "at"]
abbrev p__law_led : List Str := ["n", "some", "u", "far"]
theorem sc__law_led : FnScope N__law_led p__law_led (defScope s__law_led) := ⟨rfl, rfl, rfl, by decide +kernel, rfl, by decide +kernel, by decide +kernel⟩
abbrev s__law_own : Stmt := topS 34
abbrev N__law_own : List Str := ["n", "here", "held", "primes", "m", "product", "second", "each", "j"]
abbrev p__law_own : List Str := ["n", "here"]
theorem sc__law_own : FnScope N__law_own p__law_own (defScope s__law_own) := ⟨rfl, rfl, rfl, by decide +kernel, rfl, by decide +kernel, by decide +kernel⟩
abbrev s__law_told : Stmt := topS 35
abbrev N__law_told : List Str := ["n", "here", "due"]
abbrev p__law_told : List Str := ["n", "here", "due"]
theorem sc__law_told : FnScope N__law_told p__law_told (defScope s__law_told) := ⟨rfl, rfl, rfl, by decide +kernel, rfl, by decide +kernel, by decide +kernel⟩
abbrev s__law_right : Stmt := topS 36
abbrev N__law_right : List Str := ["spring", "n", "here", "due", "steps", "u", "m", "each"]
abbrev p__law_right : List Str := ["spring"]
theorem sc__law_right : FnScope N__law_right p__law_right (defScope s__law_right) := ⟨rfl, rfl, rfl, by decide +kernel, rfl, by decide +kernel, by decide +kernel⟩
abbrev s_law : Stmt := topS 37
abbrev N_law : List Str := ["script", "turn"]
abbrev p_law : List Str := ["script"]
theorem sc_law : FnScope N_law p_law (defScope s_law) := ⟨rfl, rfl, rfl, by decide +kernel, rfl, by decide +kernel, by decide +kernel⟩
def kd_ROUND_POLYNOMIALS : List (Int × D) := [(2, .tup [.int 1, .int 1]), (3, .tup [.int 1, .int 1, .int 1]), (4, .tup [.int 1, .int 0, .int 1]), (5, .tup [.int 1, .int 1, .int 1, .int 1, .int 1]), (6, .tup [.int 1, .int (-1), .int 1]), (7, .tup [.int 1, .int 1, .int 1, .int 1, .int 1, .int 1, .int 1]), (8, .tup [.int 1, .int 0, .int 0, .int 0, .int 1]), (9, .tup [.int 1, .int 0, .int 0, .int 1, .int 0, .int 0, .int 1]), (10, .tup [.int 1, .int (-1), .int 1, .int (-1), .int 1]), (11, .tup [.int 1, .int 1, .int 1, .int 1, .int 1, .int 1, .int 1, .int 1, .int 1, .int 1, .int 1]), (12, .tup [.int 1, .int 0, .int (-1), .int 0, .int 1])]
/-! ### the programs -/
def b_rest_by_round : MS :=
  (mSeq (mSet 2 (mIxK kd_ROUND_POLYNOMIALS (mVar 0)))
  (mSeq (mSet 3 (mBin fSub (mCS fLen (mCons (mVar 2) mNil)) (mC (.int 1))))
  (mSeq (mSet 4 (mCL fList (mCons (mVar 1) mNil)))
  (mSeq (mWhile (fun _ => 100) (mTest (mBin fGt (mCS fLen (mCons (mVar 4) mNil)) (mVar 3))) (mSeq (mSet 5 (mPop (mVar 4)))
  (mIfS (mTest (mBin fNe (mVar 5) (mC (.int 0)))) (mSeq (mSet 6 (mBin fSub (mCS fLen (mCons (mVar 4) mNil)) (mVar 3)))
  (mFor (mRng fRg1 (mCons (mVar 3) mNil)) (gPut 7) (mAugS (fun i j => i - j) (mVar 4) (mBin fAdd (mVar 6) (mVar 7)) (mBin fMul (mVar 5) (mIx (mVar 2) (mVar 7)))))) mSkip)))
  (mRet (mTupOf (mCons (mVar 4) mNil)))))))
def fn_rest_by_round : FnV := fnV 8 2 b_rest_by_round
def b_is_whole_from : MS :=
  (mRet (mAndV (mTyIs "int" false (mVar 0)) (mChain fLe fLe (mVar 1) (mVar 0) (mVar 2))))
def fn_is_whole_from : FnV := fnV 3 3 b_is_whole_from
def b_is_size : MS :=
  (mRet (mCallV fn_is_whole_from (mCons (mFrz (mVar 0)) (mCons (mFrz (mC (.int 2))) (mCons (mFrz (mC (.int 12))) mNil)))))
def fn_is_size : FnV := fnV 1 1 b_is_size
def b_check_size : MS :=
  (mIfS (mNotT (mTest (mCallV fn_is_size (mCons (mFrz (mVar 0)) mNil)))) mDie mSkip)
def fn_check_size : FnV := fnV 1 1 b_check_size
def b_divisors_of : MS :=
  (mRet (mLc [1] (mRng fRg2 (mCons (mC (.int 1)) (mCons (mBin fAdd (mVar 0) (mC (.int 1))) mNil))) (gPut 1) (mTest (mBin fEq (mBin fMod (mVar 0) (mVar 1)) (mC (.int 0)))) (mVar 1)))
def fn_divisors_of : FnV := fnV 2 1 b_divisors_of
def b_prime_of : MS :=
  (mSeq (mSet 1 (mIx (mCallV fn_divisors_of (mCons (mFrz (mVar 0)) mNil)) (mC (.int 1))))
  (mSeq (mSet 2 (mVar 0))
  (mSeq (mWhile (fun _ => 100) (mTest (mBin fEq (mBin fMod (mVar 2) (mVar 1)) (mC (.int 0)))) (mSet 2 (mBin fDiv (mVar 2) (mVar 1))))
  (mRet (mIf (mTest (mBin fEq (mVar 2) (mC (.int 1)))) (mVar 1) (mC .non))))))
def fn_prime_of : FnV := fnV 3 1 b_prime_of
def b_is_lot : MS :=
  (mSeq (mExpr (mCallV fn_check_size (mCons (mFrz (mVar 0)) mNil)))
  (mSeq (mIfS (mTest (mTyIs "tuple" true (mVar 1))) (mRet (mC (.bl false))) mSkip)
  (mSeq (mIfS (mNotT (mTest (mCS fAll (mCons (mLc [2] (mSeqI (mVar 1)) (gPut 2) mYes (mCallV fn_is_whole_from (mCons (mFrz (mVar 2)) (mCons (mFrz (mC (.int 0))) (mCons (mFrz (mBin fSub (mVar 0) (mC (.int 1)))) mNil))))) mNil)))) (mRet (mC (.bl false))) mSkip)
  (mRet (mCS fAll (mCons (mLc [2, 3] (mZip (mCons (mFrz (mVar 1)) (mCons (mFrz (mSlT (mVar 1) (mPart (mC (.int 1))) mNo)) mNil))) (gTupD 2 (gsCons (gPut 2) (gsCons (gPut 3) gsNil))) mYes (mBin fLt (mVar 2) (mVar 3))) mNil))))))
def fn_is_lot : FnV := fnV 4 2 b_is_lot
def b_check_full_lot : MS :=
  (mIfS (mOrT (mNotT (mTest (mCallV fn_is_lot (mCons (mFrz (mVar 0)) (mCons (mFrz (mVar 1)) mNil))))) (mTest (mBin fEq (mVar 1) (mTup mNil)))) mDie mSkip)
def fn_check_full_lot : FnV := fnV 2 2 b_check_full_lot
def b_is_zero_step : MS :=
  (mSeq (mSet 3 (mRep (mLst (mCons (mFrz (mC (.int 0))) mNil)) (mVar 0)))
  (mSeq (mFor (mSeqI (mVar 1)) (gPut 4) (mAugS (fun i j => i + j) (mVar 3) (mBin fMod (mBin fMul (mVar 4) (mVar 2)) (mVar 0)) (mC (.int 1))))
  (mRet (mNotV (mCS fAnyX (mCons (mCallV fn_rest_by_round (mCons (mFrz (mVar 0)) (mCons (mFrz (mVar 3)) mNil))) mNil))))))
def fn_is_zero_step : FnV := fnV 5 3 b_is_zero_step
def b_zero_steps : MS :=
  (mSeq (mExpr (mCallV fn_check_size (mCons (mFrz (mVar 0)) mNil)))
  (mSeq (mExpr (mCallV fn_check_full_lot (mCons (mFrz (mVar 0)) (mCons (mFrz (mVar 1)) mNil))))
  (mRet (mTupOf (mCons (mLc [2] (mRng fRg1 (mCons (mVar 0) mNil)) (gPut 2) (mTest (mCallV fn_is_zero_step (mCons (mFrz (mVar 0)) (mCons (mFrz (mVar 1)) (mCons (mFrz (mVar 2)) mNil))))) (mVar 2)) mNil)))))
def fn_zero_steps : FnV := fnV 3 2 b_zero_steps
def b_parts_in : MS :=
  (mSeq (mSet 2 (mCallV fn_zero_steps (mCons (mFrz (mVar 0)) (mCons (mFrz (mVar 1)) mNil))))
  (mRet (mTupOf (mCons (mLc [3] (mSeqI (mSlL (mCallV fn_divisors_of (mCons (mFrz (mVar 0)) mNil)) (mPart (mC (.int 1))) mNo)) (gPut 3) (mTest (mBin (fIn false) (mBin fDiv (mVar 0) (mVar 3)) (mVar 2))) (mVar 3)) mNil))))
def fn_parts_in : FnV := fnV 4 2 b_parts_in
def b_has_first_sign : MS :=
  (mSeq (mSet 2 (mC (.int 1)))
  (mSeq (mFor (mSeqI (mCallV fn_parts_in (mCons (mFrz (mVar 0)) (mCons (mFrz (mVar 1)) mNil)))) (gPut 3) (mSeq (mSet 4 (mCallV fn_prime_of (mCons (mFrz (mVar 3)) mNil)))
  (mIfS (mTest (mBin fNotN (mVar 4) (mC .non))) (mSet 2 (mBin fMul (mVar 2) (mVar 4))) mSkip)))
  (mRet (mBin fEq (mVar 2) (mCS fLen (mCons (mVar 1) mNil))))))
def fn_has_first_sign : FnV := fnV 5 2 b_has_first_sign
def b_has_second_sign : MS :=
  (mSeq (mSet 2 (mCallV fn_parts_in (mCons (mFrz (mVar 0)) (mCons (mFrz (mVar 1)) mNil))))
  (mSeq (mSet 3 (mLc [4] (mSeqI (mVar 2)) (gPut 4) (mTest (mBin fNotN (mCallV fn_prime_of (mCons (mFrz (mVar 4)) mNil)) (mC .non))) (mVar 4)))
  (mRet (mCS fAll (mCons (mLc2 [5, 6] [6] (mSeqI (mVar 3)) (gPut 5) mYes (mSeqI (mVar 3)) (gPut 6) (mTest (mBin fNe (mCallV fn_prime_of (mCons (mFrz (mVar 5)) mNil)) (mCallV fn_prime_of (mCons (mFrz (mVar 6)) mNil)))) (mBin (fIn false) (mBin fMul (mVar 5) (mVar 6)) (mVar 2))) mNil)))))
def fn_has_second_sign : FnV := fnV 7 2 b_has_second_sign
def b__law_spring : MS :=
  (mSeq (mSet 2 (mBin fAdd (mC (.int 40499323)) (mBin fMul (mC (.int 7187)) (mVar 1))))
  (mSeq (mFor (mEnum (mVar 0)) (gTupD 2 (gsCons (gPut 3) (gsCons (gPut 4) gsNil))) (mSet 2 (mBin fMod (mCS (fI1 fun i => i) (mCons (mBin fAdd (mBin fAdd (mBin fMul (mBin fAdd (mVar 2) (mBin fMul (mC (.int 29)) (mVar 3))) (mC (.int 60271))) (mBin fMul (mBin fMod (mCS (fI1 fun i => i) (mCons (mVar 4) mNil)) (mC (.int 1000000093))) (mC (.int 40013)))) (mC (.int 5))) mNil)) (mC (.int 2147483423)))))
  (mSeq (mSet 4 (mIf (mTest (mBin fLt (mVar 1) (mCS fLen (mCons (mVar 0) mNil)))) (mCS (fI1 fun i => i) (mCons (mIx (mVar 0) (mVar 1)) mNil)) (mC (.int 0))))
  (mRet (mLst (mCons (mFrz (mIf (mTest (mBin fGe (mCS (fI1 gAbs) (mCons (mVar 4) mNil)) (mBin fPow (mC (.int 10)) (mC (.int 18))))) (mCS (fI1 gAbs) (mCons (mVar 4) mNil)) (mC (.int 0)))) (mCons (mFrz (mVar 2)) (mCons (mFrz (mVar 1)) mNil))))))))
def fn__law_spring : FnV := fnV 5 2 b__law_spring
def b__law_draw : MS :=
  (mSeq (mIfS (mTest (mBin fGt (mIx (mVar 0) (mC (.int 0))) (mC (.int 0)))) (mSeq (mAsg (mFrz (mTupNew fDm (mCons (mIx (mVar 0) (mC (.int 0))) (mCons (mVar 1) mNil)))) (gTupD 2 (gsCons (gSubD (mVar 0) (mC (.int 0))) (gsCons (gPut 2) gsNil))))
  (mRet (mVar 2))) mSkip)
  (mSeq (mAsg (mFrz (mBin fAdd (mIx (mVar 0) (mC (.int 2))) (mC (.int 1)))) (gSubD (mVar 0) (mC (.int 2))))
  (mSeq (mAsg (mFrz (mBin fMod (mCS (fI1 fun i => i) (mCons (mBin fAdd (mBin fAdd (mBin fMul (mIx (mVar 0) (mC (.int 1))) (mBin fAdd (mC (.int 52361)) (mBin fMul (mC (.int 2)) (mIx (mVar 0) (mC (.int 2)))))) (mBin fMul (mC (.int 7907)) (mIx (mVar 0) (mC (.int 2))))) (mC (.int 13))) mNil)) (mC (.int 2147483423)))) (gSubD (mVar 0) (mC (.int 1))))
  (mRet (mBin fMod (mCS (fI1 fun i => i) (mCons (mBin fDiv (mIx (mVar 0) (mC (.int 1))) (mC (.int 131))) mNil)) (mVar 1))))))
def fn__law_draw : FnW := fnW 3 2 b__law_draw
def b__law_one : MS :=
  (mRet (mIx (mVar 1) (mCallW fn__law_draw (mVar 0) (mCons (mFrz (mCS fLen (mCons (mVar 1) mNil))) mNil))))
def fn__law_one : FnW := fnW 2 2 b__law_one
def b__law_shared : MS :=
  (mSeq (mPar 2 3 (mCons (mFrz (mCS (fI1 gAbs) (mCons (mVar 0) mNil))) (mCons (mFrz (mCS (fI1 gAbs) (mCons (mVar 1) mNil))) mNil)))
  (mSeq (mFor (mRng fRg1 (mCons (mBin fAdd (mBin fMul (mC (.int 2)) (mUn fBits (mVar 3))) (mC (.int 3))) mNil)) (gPut 4) (mSeq (mIfS (mTest (mBin fEq (mVar 3) (mC (.int 0)))) mBreak mSkip)
  (mPar 2 3 (mCons (mFrz (mVar 3)) (mCons (mFrz (mBin fMod (mCS (fI1 fun i => i) (mCons (mVar 2) mNil)) (mVar 3))) mNil)))))
  (mRet (mVar 2))))
def fn__law_shared : FnV := fnV 5 2 b__law_shared
def b__law_base : MS :=
  (mSeq (mIfS (mTest (mBin (fIn false) (mVar 0) (mTup (mCons (mFrz (mC (.int 2))) (mCons (mFrz (mC (.int 3))) (mCons (mFrz (mC (.int 5))) (mCons (mFrz (mC (.int 7))) (mCons (mFrz (mC (.int 11))) mNil)))))))) (mRet (mRepT (mTup (mCons (mFrz (mC (.int 1))) mNil)) (mVar 0))) mSkip)
  (mRet (mDisp [4, 6, 8, 9, 10, 12] (mPCons (mFrz (mTup (mCons (mFrz (mC (.int 1))) (mCons (mFrz (mC (.int 0))) (mCons (mFrz (mC (.int 1))) mNil))))) (mPCons (mFrz (mTup (mCons (mFrz (mC (.int 1))) (mCons (mFrz (mUn fNeg (mC (.int 1)))) (mCons (mFrz (mC (.int 1))) mNil))))) (mPCons (mFrz (mTup (mCons (mFrz (mC (.int 1))) (mCons (mFrz (mC (.int 0))) (mCons (mFrz (mC (.int 0))) (mCons (mFrz (mC (.int 0))) (mCons (mFrz (mC (.int 1))) mNil))))))) (mPCons (mFrz (mTup (mCons (mFrz (mC (.int 1))) (mCons (mFrz (mC (.int 0))) (mCons (mFrz (mC (.int 0))) (mCons (mFrz (mC (.int 1))) (mCons (mFrz (mC (.int 0))) (mCons (mFrz (mC (.int 0))) (mCons (mFrz (mC (.int 1))) mNil))))))))) (mPCons (mFrz (mTup (mCons (mFrz (mC (.int 1))) (mCons (mFrz (mUn fNeg (mC (.int 1)))) (mCons (mFrz (mC (.int 1))) (mCons (mFrz (mUn fNeg (mC (.int 1)))) (mCons (mFrz (mC (.int 1))) mNil))))))) (mPCons (mFrz (mTup (mCons (mFrz (mC (.int 1))) (mCons (mFrz (mC (.int 0))) (mCons (mFrz (mUn fNeg (mC (.int 1)))) (mCons (mFrz (mC (.int 0))) (mCons (mFrz (mC (.int 1))) mNil))))))) mPNil)))))) (mVar 0))))
def fn__law_base : FnV := fnV 1 1 b__law_base
def b__law_rest : MS :=
  (mSeq (mPar 2 3 (mCons (mFrz (mCallV fn__law_base (mCons (mFrz (mVar 0)) mNil))) (mCons (mLc [6] (mSeqI (mVar 1)) (gPut 6) mYes (mVar 6)) mNil)))
  (mSeq (mSet 4 (mBin fSub (mCS fLen (mCons (mVar 2) mNil)) (mC (.int 1))))
  (mSeq (mFor (mRng fRg3 (mCons (mBin fSub (mCS fLen (mCons (mVar 3) mNil)) (mC (.int 1))) (mCons (mBin fSub (mVar 4) (mC (.int 1))) (mCons (mUn fNeg (mC (.int 1))) mNil)))) (gPut 5) (mSeq (mSet 6 (mIx (mVar 3) (mVar 5)))
  (mIfS (mTest (mBin fNe (mVar 6) (mC (.int 0)))) (mFor (mRng fRg1 (mCons (mBin fAdd (mVar 4) (mC (.int 1))) mNil)) (gPut 7) (mAsg (mFrz (mBin fSub (mIx (mVar 3) (mBin fAdd (mBin fSub (mVar 5) (mVar 4)) (mVar 7))) (mBin fMul (mVar 6) (mIx (mVar 2) (mVar 7))))) (gSubD (mVar 3) (mBin fAdd (mBin fSub (mVar 5) (mVar 4)) (mVar 7))))) mSkip)))
  (mRet (mSlL (mVar 3) mNo (mPart (mVar 4)))))))
def fn__law_rest : FnV := fnV 8 2 b__law_rest
def b__law_is : MS :=
  (mRet (mCS fAnyX (mCons (mLc [2] (mSeqI (mCallV fn__law_rest (mCons (mFrz (mVar 0)) (mCons (mFrz (mVar 1)) mNil)))) (gPut 2) mYes (mBin fNe (mVar 2) (mC (.int 0)))) mNil)))
def fn__law_is : FnV := fnV 3 2 b__law_is
def b__law_lot : MS :=
  (mSeq (mSet 2 (mCallW fn__law_draw (mVar 0) (mCons (mFrz (mC (.int 6))) mNil)))
  (mSeq (mSet 3 (mLc [11] (mRng fRg1 (mCons (mVar 1) mNil)) (gPut 11) (mTest (mBin fEq (mCallW fn__law_draw (mVar 0) (mCons (mFrz (mC (.int 2))) mNil)) (mC (.int 0)))) (mVar 11)))
  (mSeq (mIfS (mTest (mBin fEq (mVar 2) (mC (.int 1)))) (mSeq (mAsg (mFrz (mTup (mCons (mFrz (mCallW fn__law_draw (mVar 0) (mCons (mFrz (mVar 1)) mNil))) (mCons (mFrz (mBin fAdd (mC (.int 1)) (mCallW fn__law_draw (mVar 0) (mCons (mFrz (mVar 1)) mNil)))) mNil)))) (gTupD 2 (gsCons (gPut 4) (gsCons (gPut 5) gsNil))))
  (mSet 3 (mLc [11] (mRng fRg1 (mCons (mVar 1) mNil)) (gPut 11) (mTest (mBin fLt (mBin fMod (mCS (fI1 fun i => i) (mCons (mBin fSub (mVar 11) (mVar 4)) mNil)) (mVar 1)) (mVar 5))) (mVar 11)))) mSkip)
  (mSeq (mIfS (mOrT (mTest (mBin fEq (mVar 2) (mC (.int 2)))) (mTest (mBin fEq (mVar 2) (mC (.int 3))))) (mSeq (mSet 6 (mCallW fn__law_one (mVar 0) (mCons (mFrz (mLc [13] (mRng fRg2 (mCons (mC (.int 1)) (mCons (mBin fAdd (mVar 1) (mC (.int 1))) mNil))) (gPut 13) (mTest (mBin fEq (mBin fMod (mCS (fI1 fun i => i) (mCons (mVar 1) mNil)) (mVar 13)) (mC (.int 0)))) (mVar 13))) mNil)))
  (mSeq (mSet 7 (mLc [12] (mRng fRg1 (mCons (mBin fAdd (mC (.int 1)) (mCallW fn__law_draw (mVar 0) (mCons (mFrz (mC (.int 2))) mNil))) mNil)) (gPut 12) mYes (mCallW fn__law_draw (mVar 0) (mCons (mFrz (mVar 6)) mNil))))
  (mSet 3 (mLc [11] (mRng fRg1 (mCons (mVar 1) mNil)) (gPut 11) (mTest (mBin (fIn false) (mBin fMod (mCS (fI1 fun i => i) (mCons (mVar 11) mNil)) (mVar 6)) (mVar 7))) (mVar 11))))) mSkip)
  (mSeq (mIfS (mTest (mBin fEq (mVar 2) (mC (.int 4)))) (mSeq (mPar3 8 9 10 (mCons (mFrz (mCallW fn__law_draw (mVar 0) (mCons (mFrz (mVar 1)) mNil))) (mCons (mFrz (mCallW fn__law_draw (mVar 0) (mCons (mFrz (mVar 1)) mNil))) (mCons (mFrz (mCallW fn__law_draw (mVar 0) (mCons (mFrz (mVar 1)) mNil))) mNil))))
  (mSet 3 (mLst (mCons (mFrz (mVar 8)) (mCons (mFrz (mBin fMod (mCS (fI1 fun i => i) (mCons (mBin fAdd (mVar 8) (mVar 9)) mNil)) (mVar 1))) (mCons (mFrz (mBin fMod (mCS (fI1 fun i => i) (mCons (mBin fAdd (mVar 8) (mVar 10)) mNil)) (mVar 1))) (mCons (mFrz (mBin fMod (mCS (fI1 fun i => i) (mCons (mBin fAdd (mBin fAdd (mVar 8) (mVar 9)) (mVar 10)) mNil)) (mVar 1))) mNil))))))) mSkip)
  (mSeq (mIfS (mTest (mBin fEq (mVar 2) (mC (.int 5)))) (mSet 3 (mLc [11] (mRng fRg1 (mCons (mVar 1) mNil)) (gPut 11) (mTest (mBin fGt (mCallW fn__law_draw (mVar 0) (mCons (mFrz (mC (.int 4))) mNil)) (mC (.int 0)))) (mVar 11))) mSkip)
  (mRet (mIf (mTest (mBin fNe (mVar 3) (mLst mNil))) (mTupOf (mCons (mLc [11] (mRng fRg1 (mCons (mVar 1) mNil)) (gPut 11) (mTest (mBin (fIn false) (mVar 11) (mVar 3))) (mVar 11)) mNil)) (mTup (mCons (mFrz (mCallW fn__law_draw (mVar 0) (mCons (mFrz (mVar 1)) mNil))) mNil))))))))))
def fn__law_lot : FnW := fnW 14 2 b__law_lot
def b__law_led : MS :=
  (mRet (mTupOf (mCons (mCL fSorted (mCons (mLc [4] (mSeqI (mVar 1)) (gPut 4) mYes (mBin fMod (mCS (fI1 fun i => i) (mCons (mBin fAdd (mBin fMul (mVar 4) (mVar 2)) (mVar 3)) mNil)) (mVar 0))) mNil)) mNil)))
def fn__law_led : FnV := fnV 5 4 b__law_led
def b__law_own : MS :=
  (mSeq (mParO 2 3 (mCons (mLst mNil) (mCons (mFrz (mDicV [2, 3, 4, 5, 7, 8, 9, 11] (mPCons (mFrz (mC (.int 2))) (mPCons (mFrz (mC (.int 3))) (mPCons (mFrz (mC (.int 2))) (mPCons (mFrz (mC (.int 5))) (mPCons (mFrz (mC (.int 7))) (mPCons (mFrz (mC (.int 2))) (mPCons (mFrz (mC (.int 3))) (mPCons (mFrz (mC (.int 11))) mPNil)))))))))) mNil)))
  (mSeq (mFor (mRng fRg2 (mCons (mC (.int 2)) (mCons (mBin fAdd (mVar 0) (mC (.int 1))) mNil))) (gPut 4) (mIfS (mAndT (mTest (mBin fEq (mBin fMod (mCS (fI1 fun i => i) (mCons (mVar 0) mNil)) (mVar 4)) (mC (.int 0)))) (mNotT (mTest (mCallV fn__law_is (mCons (mFrz (mVar 4)) (mCons (mFrz (mLc [8] (mRng fRg1 (mCons (mVar 0) mNil)) (gPut 8) mYes (mIf (mTest (mBin (fIn false) (mVar 8) (mVar 1))) (mC (.int 1)) (mC (.int 0))))) mNil)))))) (mExpr (mApp (mVar 2) (mFrz (mVar 4)))) mSkip))
  (mSeq (mAsg (mFrz (mTup (mCons (mFrz (mC (.int 1))) (mCons (mFrz (mC (.bl true))) mNil)))) (gTupD 2 (gsCons (gPut 5) (gsCons (gPut 6) gsNil))))
  (mSeq (mFor (mSeqI (mVar 2)) (gPut 4) (mSeq (mSet 5 (mBin fMul (mVar 5) (mGet2 (mVar 3) (mVar 4) (mC (.int 1)))))
  (mFor (mSeqI (mVar 2)) (gPut 7) (mIfS (mAndT (mTest (mInD false (mVar 4) (mVar 3))) (mAndT (mTest (mInD false (mVar 7) (mVar 3))) (mAndT (mTest (mBin fNe (mIxD (mVar 3) (mVar 4)) (mIxD (mVar 3) (mVar 7)))) (mTest (mBin (fIn true) (mBin fMul (mVar 4) (mVar 7)) (mVar 2)))))) (mSet 6 (mC (.bl false))) mSkip))))
  (mRet (mTup (mCons (mFrz (mTupOf (mCons (mVar 2) mNil))) (mCons (mFrz (mBin fEq (mVar 5) (mCS fLen (mCons (mVar 1) mNil)))) (mCons (mFrz (mVar 6)) mNil)))))))))
def fn__law_own : FnV := fnV 9 2 b__law_own
def b__law_told : MS :=
  (mSeq (mIfS (mTest (mBin fNe (mCS fRepr (mCons (mCallV fn_parts_in (mCons (mFrz (mVar 0)) (mCons (mFrz (mVar 1)) mNil))) mNil)) (mCS fRepr (mCons (mIx (mVar 2) (mC (.int 0))) mNil)))) (mRet (mC (.bl false))) mSkip)
  (mRet (mAndV (mBin fEq (mCS fRepr (mCons (mCallV fn_has_first_sign (mCons (mFrz (mVar 0)) (mCons (mFrz (mVar 1)) mNil))) mNil)) (mCS fRepr (mCons (mIx (mVar 2) (mC (.int 1))) mNil))) (mBin fEq (mCS fRepr (mCons (mCallV fn_has_second_sign (mCons (mFrz (mVar 0)) (mCons (mFrz (mVar 1)) mNil))) mNil)) (mCS fRepr (mCons (mIx (mVar 2) (mC (.int 2))) mNil))))))
def fn__law_told : FnV := fnV 3 3 b__law_told
def b__law_right : MS :=
  (mSeq (mSet 1 (mCallW fn__law_one (mVar 0) (mCons (mFrz (mLst (mCons (mFrz (mC (.int 2))) (mCons (mFrz (mC (.int 3))) (mCons (mFrz (mC (.int 4))) (mCons (mFrz (mC (.int 4))) (mCons (mFrz (mC (.int 5))) (mCons (mFrz (mC (.int 6))) (mCons (mFrz (mC (.int 6))) (mCons (mFrz (mC (.int 6))) (mCons (mFrz (mC (.int 7))) (mCons (mFrz (mC (.int 8))) (mCons (mFrz (mC (.int 8))) (mCons (mFrz (mC (.int 9))) (mCons (mFrz (mC (.int 9))) (mCons (mFrz (mC (.int 10))) (mCons (mFrz (mC (.int 10))) (mCons (mFrz (mC (.int 11))) (mCons (mFrz (mC (.int 12))) (mCons (mFrz (mC (.int 12))) (mCons (mFrz (mC (.int 12))) (mCons (mFrz (mC (.int 12))) (mCons (mFrz (mC (.int 12))) mNil))))))))))))))))))))))) mNil)))
  (mSeq (mSet 2 (mCallW fn__law_lot (mVar 0) (mCons (mFrz (mVar 1)) mNil)))
  (mSeq (mAsg (mFrz (mTup (mCons (mFrz (mCallV fn__law_own (mCons (mFrz (mVar 1)) (mCons (mFrz (mVar 2)) mNil)))) (mCons (mFrz (mCallV fn_zero_steps (mCons (mFrz (mVar 1)) (mCons (mFrz (mVar 2)) mNil)))) mNil)))) (gTupD 2 (gsCons (gPut 3) (gsCons (gPut 4) gsNil))))
  (mSeq (mIfS (mOrT (mNotT (mTest (mCallV fn__law_told (mCons (mFrz (mVar 1)) (mCons (mFrz (mVar 2)) (mCons (mFrz (mVar 3)) mNil)))))) (mTest (mBin fNe (mCS fRepr (mCons (mCallV fn_parts_in (mCons (mFrz (mVar 1)) (mCons (mFrz (mVar 2)) mNil))) mNil)) (mCS fRepr (mCons (mIx (mVar 3) (mC (.int 0))) mNil))))) (mRet (mC (.bl false))) mSkip)
  (mSeq (mIfS (mTest (mBin fNe (mLc [6] (mRng fRg2 (mCons (mC (.int 2)) (mCons (mBin fAdd (mVar 1) (mC (.int 1))) mNil))) (gPut 6) (mAndT (mTest (mBin fEq (mBin fMod (mCS (fI1 fun i => i) (mCons (mVar 1) mNil)) (mVar 6)) (mC (.int 0)))) (mTest (mBin fNe (mBin (fIn false) (mBin fDiv (mVar 1) (mVar 6)) (mVar 4)) (mBin (fIn false) (mVar 6) (mIx (mVar 3) (mC (.int 0))))))) (mVar 6)) (mLst mNil))) (mRet (mC (.bl false))) mSkip)
  (mSeq (mSet 5 (mCallW fn__law_one (mVar 0) (mCons (mFrz (mLc [7] (mRng fRg2 (mCons (mC (.int 1)) (mCons (mVar 1) mNil))) (gPut 7) (mTest (mBin fEq (mCallV fn__law_shared (mCons (mFrz (mVar 7)) (mCons (mFrz (mVar 1)) mNil))) (mC (.int 1)))) (mVar 7))) mNil)))
  (mRet (mCallV fn__law_told (mCons (mFrz (mVar 1)) (mCons (mFrz (mCallV fn__law_led (mCons (mFrz (mVar 1)) (mCons (mFrz (mVar 2)) (mCons (mFrz (mVar 5)) (mCons (mFrz (mCallW fn__law_draw (mVar 0) (mCons (mFrz (mVar 1)) mNil))) mNil)))))) (mCons (mFrz (mVar 3)) mNil)))))))))))
def fn__law_right : FnW := fnW 8 1 b__law_right
def b_law : MS :=
  (mRet (mCS fAll (mCons (mLc [1] (mRng fRg1 (mCons (mCS (fI2 gMax) (mCons (mC (.int 1)) (mCons (mCS (fI2 gMin) (mCons (mCS fLen (mCons (mVar 0) mNil)) (mCons (mC (.int 4)) mNil))) mNil))) mNil)) (gPut 1) mYes (mCallW fn__law_right (mCallV fn__law_spring (mCons (mFrz (mVar 0)) (mCons (mFrz (mVar 1)) mNil))) mNil)) mNil)))
def fn_law : FnV := fnV 2 1 b_law
/-! ### what the top has written -/
structure Txt (K : PySem.W.Frag) (mg : Str → Option Value) where
  f_rest_by_round : Addr
  fd_rest_by_round : FuncData
  F_rest_by_round : Fun K "rest_by_round" "rest_by_round" s_rest_by_round f_rest_by_round fd_rest_by_round
  b_rest_by_round : Binds K fd_rest_by_round p_rest_by_round []
  m_rest_by_round : mg "rest_by_round" = some (.ref f_rest_by_round)
  f_is_whole_from : Addr
  fd_is_whole_from : FuncData
  F_is_whole_from : Fun K "is_whole_from" "is_whole_from" s_is_whole_from f_is_whole_from fd_is_whole_from
  b_is_whole_from : Binds K fd_is_whole_from p_is_whole_from []
  m_is_whole_from : mg "is_whole_from" = some (.ref f_is_whole_from)
  f_is_size : Addr
  fd_is_size : FuncData
  F_is_size : Fun K "is_size" "is_size" s_is_size f_is_size fd_is_size
  b_is_size : Binds K fd_is_size p_is_size []
  m_is_size : mg "is_size" = some (.ref f_is_size)
  f_check_size : Addr
  fd_check_size : FuncData
  F_check_size : Fun K "check_size" "check_size" s_check_size f_check_size fd_check_size
  b_check_size : Binds K fd_check_size p_check_size []
  m_check_size : mg "check_size" = some (.ref f_check_size)
  f_divisors_of : Addr
  fd_divisors_of : FuncData
  F_divisors_of : Fun K "divisors_of" "divisors_of" s_divisors_of f_divisors_of fd_divisors_of
  b_divisors_of : Binds K fd_divisors_of p_divisors_of []
  m_divisors_of : mg "divisors_of" = some (.ref f_divisors_of)
  f_prime_of : Addr
  fd_prime_of : FuncData
  F_prime_of : Fun K "prime_of" "prime_of" s_prime_of f_prime_of fd_prime_of
  b_prime_of : Binds K fd_prime_of p_prime_of []
  m_prime_of : mg "prime_of" = some (.ref f_prime_of)
  f_is_lot : Addr
  fd_is_lot : FuncData
  F_is_lot : Fun K "is_lot" "is_lot" s_is_lot f_is_lot fd_is_lot
  b_is_lot : Binds K fd_is_lot p_is_lot []
  m_is_lot : mg "is_lot" = some (.ref f_is_lot)
  f_check_full_lot : Addr
  fd_check_full_lot : FuncData
  F_check_full_lot : Fun K "check_full_lot" "check_full_lot" s_check_full_lot f_check_full_lot fd_check_full_lot
  b_check_full_lot : Binds K fd_check_full_lot p_check_full_lot []
  m_check_full_lot : mg "check_full_lot" = some (.ref f_check_full_lot)
  f_is_zero_step : Addr
  fd_is_zero_step : FuncData
  F_is_zero_step : Fun K "is_zero_step" "is_zero_step" s_is_zero_step f_is_zero_step fd_is_zero_step
  b_is_zero_step : Binds K fd_is_zero_step p_is_zero_step []
  m_is_zero_step : mg "is_zero_step" = some (.ref f_is_zero_step)
  f_zero_steps : Addr
  fd_zero_steps : FuncData
  F_zero_steps : Fun K "zero_steps" "zero_steps" s_zero_steps f_zero_steps fd_zero_steps
  b_zero_steps : Binds K fd_zero_steps p_zero_steps []
  m_zero_steps : mg "zero_steps" = some (.ref f_zero_steps)
  f_parts_in : Addr
  fd_parts_in : FuncData
  F_parts_in : Fun K "parts_in" "parts_in" s_parts_in f_parts_in fd_parts_in
  b_parts_in : Binds K fd_parts_in p_parts_in []
  m_parts_in : mg "parts_in" = some (.ref f_parts_in)
  q_parts_in : ∀ (s : Shared) (ws : List Value), ws.length = p_parts_in.length → BindsTo s fd_parts_in ⟨[], (p_parts_in).zip ws⟩ ((p_parts_in).zip ws)
  f_has_first_sign : Addr
  fd_has_first_sign : FuncData
  F_has_first_sign : Fun K "has_first_sign" "has_first_sign" s_has_first_sign f_has_first_sign fd_has_first_sign
  b_has_first_sign : Binds K fd_has_first_sign p_has_first_sign []
  m_has_first_sign : mg "has_first_sign" = some (.ref f_has_first_sign)
  f_has_second_sign : Addr
  fd_has_second_sign : FuncData
  F_has_second_sign : Fun K "has_second_sign" "has_second_sign" s_has_second_sign f_has_second_sign fd_has_second_sign
  b_has_second_sign : Binds K fd_has_second_sign p_has_second_sign []
  m_has_second_sign : mg "has_second_sign" = some (.ref f_has_second_sign)
  f__law_spring : Addr
  fd__law_spring : FuncData
  F__law_spring : Fun K "_law_spring" "_law_spring" s__law_spring f__law_spring fd__law_spring
  b__law_spring : Binds K fd__law_spring p__law_spring []
  m__law_spring : mg "_law_spring" = some (.ref f__law_spring)
  f__law_draw : Addr
  fd__law_draw : FuncData
  F__law_draw : Fun K "_law_draw" "_law_draw" s__law_draw f__law_draw fd__law_draw
  b__law_draw : Binds K fd__law_draw p__law_draw []
  m__law_draw : mg "_law_draw" = some (.ref f__law_draw)
  f__law_one : Addr
  fd__law_one : FuncData
  F__law_one : Fun K "_law_one" "_law_one" s__law_one f__law_one fd__law_one
  b__law_one : Binds K fd__law_one p__law_one []
  m__law_one : mg "_law_one" = some (.ref f__law_one)
  f__law_shared : Addr
  fd__law_shared : FuncData
  F__law_shared : Fun K "_law_shared" "_law_shared" s__law_shared f__law_shared fd__law_shared
  b__law_shared : Binds K fd__law_shared p__law_shared []
  m__law_shared : mg "_law_shared" = some (.ref f__law_shared)
  f__law_base : Addr
  fd__law_base : FuncData
  F__law_base : Fun K "_law_base" "_law_base" s__law_base f__law_base fd__law_base
  b__law_base : Binds K fd__law_base p__law_base []
  m__law_base : mg "_law_base" = some (.ref f__law_base)
  f__law_rest : Addr
  fd__law_rest : FuncData
  F__law_rest : Fun K "_law_rest" "_law_rest" s__law_rest f__law_rest fd__law_rest
  b__law_rest : Binds K fd__law_rest p__law_rest []
  m__law_rest : mg "_law_rest" = some (.ref f__law_rest)
  f__law_is : Addr
  fd__law_is : FuncData
  F__law_is : Fun K "_law_is" "_law_is" s__law_is f__law_is fd__law_is
  b__law_is : Binds K fd__law_is p__law_is []
  m__law_is : mg "_law_is" = some (.ref f__law_is)
  f__law_lot : Addr
  fd__law_lot : FuncData
  F__law_lot : Fun K "_law_lot" "_law_lot" s__law_lot f__law_lot fd__law_lot
  b__law_lot : Binds K fd__law_lot p__law_lot []
  m__law_lot : mg "_law_lot" = some (.ref f__law_lot)
  f__law_led : Addr
  fd__law_led : FuncData
  F__law_led : Fun K "_law_led" "_law_led" s__law_led f__law_led fd__law_led
  b__law_led : Binds K fd__law_led p__law_led []
  m__law_led : mg "_law_led" = some (.ref f__law_led)
  f__law_own : Addr
  fd__law_own : FuncData
  F__law_own : Fun K "_law_own" "_law_own" s__law_own f__law_own fd__law_own
  b__law_own : Binds K fd__law_own p__law_own []
  m__law_own : mg "_law_own" = some (.ref f__law_own)
  f__law_told : Addr
  fd__law_told : FuncData
  F__law_told : Fun K "_law_told" "_law_told" s__law_told f__law_told fd__law_told
  b__law_told : Binds K fd__law_told p__law_told []
  m__law_told : mg "_law_told" = some (.ref f__law_told)
  f__law_right : Addr
  fd__law_right : FuncData
  F__law_right : Fun K "_law_right" "_law_right" s__law_right f__law_right fd__law_right
  b__law_right : Binds K fd__law_right p__law_right []
  m__law_right : mg "_law_right" = some (.ref f__law_right)
  f_law : Addr
  fd_law : FuncData
  F_law : Fun K "law" "law" s_law f_law fd_law
  b_law : Binds K fd_law p_law []
  m_law : mg "law" = some (.ref f_law)
  z_abs : mg "abs" = none
  z_all : mg "all" = none
  z_any : mg "any" = none
  z_divmod : mg "divmod" = none
  z_enumerate : mg "enumerate" = none
  z_int : mg "int" = none
  z_len : mg "len" = none
  z_list : mg "list" = none
  z_max : mg "max" = none
  z_min : mg "min" = none
  z_range : mg "range" = none
  z_repr : mg "repr" = none
  z_sorted : mg "sorted" = none
  z_tuple : mg "tuple" = none
  z_type : mg "type" = none
  z_zip : mg "zip" = none
  c_GREATEST_SIZE : ∃ tk, mg "GREATEST_SIZE" = some (.int 12 tk)
  c_LEAST_SIZE : ∃ tk, mg "LEAST_SIZE" = some (.int 2 tk)
  g_ROUND_POLYNOMIALS : Addr
  v_ROUND_POLYNOMIALS : List (Int × V)
  k_ROUND_POLYNOMIALS : KInt K g_ROUND_POLYNOMIALS v_ROUND_POLYNOMIALS
  d_ROUND_POLYNOMIALS : ∀ M i z, kd_ROUND_POLYNOMIALS.lookup i = some z → ∃ v, v_ROUND_POLYNOMIALS.lookup i = some v ∧ At K M v z
  m_ROUND_POLYNOMIALS : mg "ROUND_POLYNOMIALS" = some (.ref g_ROUND_POLYNOMIALS)
/-! ### the defs keep them -/
section
variable {P : Program} {w : World} {K : PySem.W.Frag} {mg : Str → Option Value} {base : Heap}
theorem ss_rest_by_round (T : Txt K mg) : SSs (cdOf P w K mg base N_rest_by_round s_rest_by_round 0) (defBody s_rest_by_round) b_rest_by_round :=
  (ss_cons (ss_set 2 (se_ixK kd_ROUND_POLYNOMIALS T.k_ROUND_POLYNOMIALS T.d_ROUND_POLYNOMIALS (fun X g => gl_of g (by rfl)) T.m_ROUND_POLYNOMIALS (by decide) (se_var 0)))
  (ss_cons (ss_set 3 (se_sub (se_callB (r := Dm.rLen) (fun X g => call_len_seq) sc_len (fun X g => gl_of g (by rfl)) T.z_len (by rfl) (sa_cons (se_var 2) sa_nil)) se_int))
  (ss_cons (ss_set 4 (se_callTyL (r := rList1) (fun X g => call_list_of) sl_list1 (fun X g => gl_of g (by rfl)) T.z_list (by rfl) (sa_cons (se_var 1) sa_nil)))
  (ss_cons (ss_while (fun _ => 100) (st_gt (se_callB (r := Dm.rLen) (fun X g => call_len_seq) sc_len (fun X g => gl_of g (by rfl)) T.z_len (by rfl) (sa_cons (se_var 4) sa_nil)) (se_var 3)) (ss_cons (ss_set 5 (se_pop (se_var 4)))
  (ss_one (ss_if (st_ne (se_var 5) se_int) (ss_cons (ss_set 6 (se_sub (se_callB (r := Dm.rLen) (fun X g => call_len_seq) sc_len (fun X g => gl_of g (by rfl)) T.z_len (by rfl) (sa_cons (se_var 4) sa_nil)) (se_var 3)))
  (ss_one (ss_for (si_rng1 (fun X g => gl_of g (by rfl)) T.z_range (sa_cons (se_var 3) sa_nil)) (sg_name 7) (ss_one (ss_augS (se_var 4) (se_add (se_var 6) (se_var 7)) (se_mul (se_var 5) (se_ix (se_var 2) (se_var 7))) (fun _ => ip_sub)))))) ss_nil))))
  (ss_one (ss_ret (se_tupOf (fun X g => gl_of g (by rfl)) T.z_tuple (sa_cons (se_var 4) sa_nil))))))))
theorem ok_rest_by_round (T : Txt K mg) : FnG P w K mg base CX0 1 T.f_rest_by_round T.fd_rest_by_round p_rest_by_round (spV K 2 fn_rest_by_round) := fn_okV T.F_rest_by_round sc_rest_by_round (ss_rest_by_round T)
theorem ss_is_whole_from (T : Txt K mg) : SSs (cdOf P w K mg base N_is_whole_from s_is_whole_from 0) (defBody s_is_whole_from) b_is_whole_from :=
  (ss_one (ss_ret (se_and (se_tyIs "int" (se_var 0) (fun X g => gl_of g (by rfl)) T.z_type (fun X g => gl_of g (by rfl)) T.z_int (by rfl)) (se_one (se_chain (r2 := fun _ => _) (r3 := fun _ => _) (fun _ => op_le) (fun _ => op_le) (sc_I0 fun _ _ _ => .bl _) (sc_I0 fun _ _ _ => .bl _) (se_var 1) (se_var 0) (se_var 2))))))
theorem ok_is_whole_from (T : Txt K mg) : FnG P w K mg base CX0 1 T.f_is_whole_from T.fd_is_whole_from p_is_whole_from (spV K 3 fn_is_whole_from) := fn_okV T.F_is_whole_from sc_is_whole_from (ss_is_whole_from T)
theorem ss_is_size (T : Txt K mg) : SSs (cdOf P w K mg base N_is_size s_is_size 1) (defBody s_is_size) b_is_size :=
  (ss_one (ss_ret (se_callV (ok_is_whole_from T) fnV_n (show 1 ≤ 1 by decide) (fun X g => gl_of g (by rfl)) T.m_is_whole_from T.F_is_whole_from.kp T.b_is_whole_from (sa_cons (se_frz (se_var 0)) (sa_cons (se_frz (se_globI (fun X g => gl_of g (by rfl)) T.c_LEAST_SIZE)) (sa_cons (se_frz (se_globI (fun X g => gl_of g (by rfl)) T.c_GREATEST_SIZE)) sa_nil))))))
theorem ok_is_size (T : Txt K mg) : FnG P w K mg base CX0 2 T.f_is_size T.fd_is_size p_is_size (spV K 1 fn_is_size) := fn_okV T.F_is_size sc_is_size (ss_is_size T)
theorem ss_check_size (T : Txt K mg) : SSs (cdOf P w K mg base N_check_size s_check_size 2) (defBody s_check_size) b_check_size :=
  (ss_one (ss_if (st_not (st_val (se_callV (ok_is_size T) fnV_n (show 2 ≤ 2 by decide) (fun X g => gl_of g (by rfl)) T.m_is_size T.F_is_size.kp T.b_is_size (sa_cons (se_frz (se_var 0)) sa_nil)))) (ss_one ss_die) ss_nil))
theorem ok_check_size (T : Txt K mg) : FnG P w K mg base CX0 3 T.f_check_size T.fd_check_size p_check_size (spV K 1 fn_check_size) := fn_okV T.F_check_size sc_check_size (ss_check_size T)
theorem ss_divisors_of (T : Txt K mg) : SSs (cdOf P w K mg base N_divisors_of s_divisors_of 0) (defBody s_divisors_of) b_divisors_of :=
  (ss_one (ss_ret (se_lc [("divisor", 1)] (si_rng2 (fun X g => gl_of g (by rfl)) T.z_range (sa_cons se_int (sa_cons (se_add (se_var 0) se_int) sa_nil))) (sg_name 1) (sts_one (st_eq (se_mod (se_var 0) (se_var 1)) se_int)) (se_var 1))))
theorem ok_divisors_of (T : Txt K mg) : FnG P w K mg base CX0 1 T.f_divisors_of T.fd_divisors_of p_divisors_of (spV K 1 fn_divisors_of) := fn_okV T.F_divisors_of sc_divisors_of (ss_divisors_of T)
theorem ss_prime_of (T : Txt K mg) : SSs (cdOf P w K mg base N_prime_of s_prime_of 1) (defBody s_prime_of) b_prime_of :=
  (ss_cons (ss_set 1 (se_ix (se_callV (ok_divisors_of T) fnV_n (show 1 ≤ 1 by decide) (fun X g => gl_of g (by rfl)) T.m_divisors_of T.F_divisors_of.kp T.b_divisors_of (sa_cons (se_frz (se_var 0)) sa_nil)) se_int))
  (ss_cons (ss_set 2 (se_var 0))
  (ss_cons (ss_while (fun _ => 100) (st_eq (se_mod (se_var 2) (se_var 1)) se_int) (ss_one (ss_set 2 (se_div (se_var 2) (se_var 1)))))
  (ss_one (ss_ret (se_ifExp (st_eq (se_var 2) se_int) (se_var 1) se_non))))))
theorem ok_prime_of (T : Txt K mg) : FnG P w K mg base CX0 2 T.f_prime_of T.fd_prime_of p_prime_of (spV K 1 fn_prime_of) := fn_okV T.F_prime_of sc_prime_of (ss_prime_of T)
theorem ss_is_lot (T : Txt K mg) : SSs (cdOf P w K mg base N_is_lot s_is_lot 3) (defBody s_is_lot) b_is_lot :=
  (ss_cons (ss_expr (se_callV (ok_check_size T) fnV_n (show 3 ≤ 3 by decide) (fun X g => gl_of g (by rfl)) T.m_check_size T.F_check_size.kp T.b_check_size (sa_cons (se_frz (se_var 0)) sa_nil)))
  (ss_cons (ss_if (st_tyNot "tuple" (se_var 1) (fun X g => gl_of g (by rfl)) T.z_type (fun X g => gl_of g (by rfl)) T.z_tuple (by rfl)) (ss_one (ss_ret se_bl)) ss_nil)
  (ss_cons (ss_if (st_not (st_val (se_callB (r := rAll) (fun X g => cr_all g.calm) sc_all (fun X g => gl_of g (by rfl)) T.z_all (by rfl) (sa_cons (se_lc [("index", 2)] (si_seq (se_var 1)) (sg_name 2) sts_nil (se_callV (ok_is_whole_from T) fnV_n (show 1 ≤ 3 by decide) (fun X g => gl_of g (by rfl)) T.m_is_whole_from T.F_is_whole_from.kp T.b_is_whole_from (sa_cons (se_frz (se_var 2)) (sa_cons (se_frz se_int) (sa_cons (se_frz (se_sub (se_var 0) se_int)) sa_nil))))) sa_nil)))) (ss_one (ss_ret se_bl)) ss_nil)
  (ss_one (ss_ret (se_callB (r := rAll) (fun X g => cr_all g.calm) sc_all (fun X g => gl_of g (by rfl)) T.z_all (by rfl) (sa_cons (se_lc [("index", 2), ("following", 3)] (si_zip (fun X g => gl_of g (by rfl)) T.z_zip (sa_cons (se_frz (se_var 1)) (sa_cons (se_frz (se_slT (se_var 1) (so_some se_int) so_none)) sa_nil))) (sg_tup (sgs_cons (sg_name 2) (sgs_cons (sg_name 3) sgs_nil))) sts_nil (se_lt (se_var 2) (se_var 3))) sa_nil)))))))
theorem ok_is_lot (T : Txt K mg) : FnG P w K mg base CX0 4 T.f_is_lot T.fd_is_lot p_is_lot (spV K 2 fn_is_lot) := fn_okV T.F_is_lot sc_is_lot (ss_is_lot T)
theorem ss_check_full_lot (T : Txt K mg) : SSs (cdOf P w K mg base N_check_full_lot s_check_full_lot 4) (defBody s_check_full_lot) b_check_full_lot :=
  (ss_one (ss_if (st_w (sw_or (st_not (st_val (se_callV (ok_is_lot T) fnV_n (show 4 ≤ 4 by decide) (fun X g => gl_of g (by rfl)) T.m_is_lot T.F_is_lot.kp T.b_is_lot (sa_cons (se_frz (se_var 0)) (sa_cons (se_frz (se_var 1)) sa_nil))))) (sw_or1 (st_eq (se_var 1) (se_tup sa_nil))))) (ss_one ss_die) ss_nil))
theorem ok_check_full_lot (T : Txt K mg) : FnG P w K mg base CX0 5 T.f_check_full_lot T.fd_check_full_lot p_check_full_lot (spV K 2 fn_check_full_lot) := fn_okV T.F_check_full_lot sc_check_full_lot (ss_check_full_lot T)
theorem ss_is_zero_step (T : Txt K mg) : SSs (cdOf P w K mg base N_is_zero_step s_is_zero_step 1) (defBody s_is_zero_step) b_is_zero_step :=
  (ss_cons (ss_set 3 (se_rep (se_lst (sa_cons (se_frz se_int) sa_nil)) (se_var 0)))
  (ss_cons (ss_for (si_seq (se_var 1)) (sg_name 4) (ss_one (ss_augS (se_var 3) (se_mod (se_mul (se_var 4) (se_var 2)) (se_var 0)) se_int (fun _ => ip_add))))
  (ss_one (ss_ret (se_not (se_callB (r := rAnyX) (fun X g => call_anyX g.calm) sc_anyX (fun X g => gl_of g (by rfl)) T.z_any (by rfl) (sa_cons (se_callV (ok_rest_by_round T) fnV_n (show 1 ≤ 1 by decide) (fun X g => gl_of g (by rfl)) T.m_rest_by_round T.F_rest_by_round.kp T.b_rest_by_round (sa_cons (se_frz (se_var 0)) (sa_cons (se_frz (se_var 3)) sa_nil))) sa_nil)))))))
theorem ok_is_zero_step (T : Txt K mg) : FnG P w K mg base CX0 2 T.f_is_zero_step T.fd_is_zero_step p_is_zero_step (spV K 3 fn_is_zero_step) := fn_okV T.F_is_zero_step sc_is_zero_step (ss_is_zero_step T)
theorem ss_zero_steps (T : Txt K mg) : SSs (cdOf P w K mg base N_zero_steps s_zero_steps 5) (defBody s_zero_steps) b_zero_steps :=
  (ss_cons (ss_expr (se_callV (ok_check_size T) fnV_n (show 3 ≤ 5 by decide) (fun X g => gl_of g (by rfl)) T.m_check_size T.F_check_size.kp T.b_check_size (sa_cons (se_frz (se_var 0)) sa_nil)))
  (ss_cons (ss_expr (se_callV (ok_check_full_lot T) fnV_n (show 5 ≤ 5 by decide) (fun X g => gl_of g (by rfl)) T.m_check_full_lot T.F_check_full_lot.kp T.b_check_full_lot (sa_cons (se_frz (se_var 0)) (sa_cons (se_frz (se_var 1)) sa_nil))))
  (ss_one (ss_ret (se_tupOf (fun X g => gl_of g (by rfl)) T.z_tuple (sa_cons (se_lc [("step", 2)] (si_rng1 (fun X g => gl_of g (by rfl)) T.z_range (sa_cons (se_var 0) sa_nil)) (sg_name 2) (sts_one (st_val (se_callV (ok_is_zero_step T) fnV_n (show 2 ≤ 5 by decide) (fun X g => gl_of g (by rfl)) T.m_is_zero_step T.F_is_zero_step.kp T.b_is_zero_step (sa_cons (se_frz (se_var 0)) (sa_cons (se_frz (se_var 1)) (sa_cons (se_frz (se_var 2)) sa_nil)))))) (se_var 2)) sa_nil))))))
theorem ok_zero_steps (T : Txt K mg) : FnG P w K mg base CX0 6 T.f_zero_steps T.fd_zero_steps p_zero_steps (spV K 2 fn_zero_steps) := fn_okV T.F_zero_steps sc_zero_steps (ss_zero_steps T)
theorem ss_parts_in (T : Txt K mg) : SSs (cdOf P w K mg base N_parts_in s_parts_in 6) (defBody s_parts_in) b_parts_in :=
  (ss_cons (ss_set 2 (se_callV (ok_zero_steps T) fnV_n (show 6 ≤ 6 by decide) (fun X g => gl_of g (by rfl)) T.m_zero_steps T.F_zero_steps.kp T.b_zero_steps (sa_cons (se_frz (se_var 0)) (sa_cons (se_frz (se_var 1)) sa_nil))))
  (ss_one (ss_ret (se_tupOf (fun X g => gl_of g (by rfl)) T.z_tuple (sa_cons (se_lc [("divisor", 3)] (si_seq (se_slL (se_callV (ok_divisors_of T) fnV_n (show 1 ≤ 6 by decide) (fun X g => gl_of g (by rfl)) T.m_divisors_of T.F_divisors_of.kp T.b_divisors_of (sa_cons (se_frz (se_var 0)) sa_nil)) (so_some se_int) so_none)) (sg_name 3) (sts_one (st_in (se_div (se_var 0) (se_var 3)) (se_var 2))) (se_var 3)) sa_nil)))))
theorem ok_parts_in (T : Txt K mg) : FnG P w K mg base CX0 7 T.f_parts_in T.fd_parts_in p_parts_in (spV K 2 fn_parts_in) := fn_okV T.F_parts_in sc_parts_in (ss_parts_in T)
theorem ss_has_first_sign (T : Txt K mg) : SSs (cdOf P w K mg base N_has_first_sign s_has_first_sign 7) (defBody s_has_first_sign) b_has_first_sign :=
  (ss_cons (ss_set 2 se_int)
  (ss_cons (ss_for (si_seq (se_callV (ok_parts_in T) fnV_n (show 7 ≤ 7 by decide) (fun X g => gl_of g (by rfl)) T.m_parts_in T.F_parts_in.kp T.b_parts_in (sa_cons (se_frz (se_var 0)) (sa_cons (se_frz (se_var 1)) sa_nil)))) (sg_name 3) (ss_cons (ss_set 4 (se_callV (ok_prime_of T) fnV_n (show 2 ≤ 7 by decide) (fun X g => gl_of g (by rfl)) T.m_prime_of T.F_prime_of.kp T.b_prime_of (sa_cons (se_frz (se_var 3)) sa_nil)))
  (ss_one (ss_if (st_notN (se_var 4) se_non) (ss_one (ss_set 2 (se_mul (se_var 2) (se_var 4)))) ss_nil))))
  (ss_one (ss_ret (se_eq (se_var 2) (se_callB (r := Dm.rLen) (fun X g => call_len_seq) sc_len (fun X g => gl_of g (by rfl)) T.z_len (by rfl) (sa_cons (se_var 1) sa_nil)))))))
theorem ok_has_first_sign (T : Txt K mg) : FnG P w K mg base CX0 8 T.f_has_first_sign T.fd_has_first_sign p_has_first_sign (spV K 2 fn_has_first_sign) := fn_okV T.F_has_first_sign sc_has_first_sign (ss_has_first_sign T)
theorem ss_has_second_sign (T : Txt K mg) : SSs (cdOf P w K mg base N_has_second_sign s_has_second_sign 7) (defBody s_has_second_sign) b_has_second_sign :=
  (ss_cons (ss_set 2 (se_callV (ok_parts_in T) fnV_n (show 7 ≤ 7 by decide) (fun X g => gl_of g (by rfl)) T.m_parts_in T.F_parts_in.kp T.b_parts_in (sa_cons (se_frz (se_var 0)) (sa_cons (se_frz (se_var 1)) sa_nil))))
  (ss_cons (ss_setC 3 (se_lc [("part", 4)] (si_seq (se_var 2)) (sg_name 4) (sts_one (st_notN (se_callV (ok_prime_of T) fnV_n (show 2 ≤ 7 by decide) (fun X g => gl_of g (by rfl)) T.m_prime_of T.F_prime_of.kp T.b_prime_of (sa_cons (se_frz (se_var 4)) sa_nil)) se_non)) (se_var 4)))
  (ss_one (ss_ret (se_callB (r := rAll) (fun X g => cr_all g.calm) sc_all (fun X g => gl_of g (by rfl)) T.z_all (by rfl) (sa_cons (se_lc2 [("one", 5), ("other", 6)] [6] (si_seq (se_var 3)) (sg_name 5) sts_nil (si_seq (se_var 3)) (sg_name 6) (sts_one (st_ne (se_callV (ok_prime_of T) fnV_n (show 2 ≤ 7 by decide) (fun X g => gl_of g (by rfl)) T.m_prime_of T.F_prime_of.kp T.b_prime_of (sa_cons (se_frz (se_var 5)) sa_nil)) (se_callV (ok_prime_of T) fnV_n (show 2 ≤ 7 by decide) (fun X g => gl_of g (by rfl)) T.m_prime_of T.F_prime_of.kp T.b_prime_of (sa_cons (se_frz (se_var 6)) sa_nil)))) (se_in (se_mul (se_var 5) (se_var 6)) (se_var 2))) sa_nil))))))
theorem ok_has_second_sign (T : Txt K mg) : FnG P w K mg base CX0 8 T.f_has_second_sign T.fd_has_second_sign p_has_second_sign (spV K 2 fn_has_second_sign) := fn_okV T.F_has_second_sign sc_has_second_sign (ss_has_second_sign T)
theorem ss__law_spring (T : Txt K mg) : SSs (cdOf P w K mg base N__law_spring s__law_spring 0) (defBody s__law_spring) b__law_spring :=
  (ss_cons (ss_set 2 (se_add se_int (se_mul se_int (se_var 1))))
  (ss_cons (ss_for (si_enum (fun X g => gl_of g (by rfl)) T.z_enumerate (se_var 0)) (sg_tup (sgs_cons (sg_name 3) (sgs_cons (sg_name 4) sgs_nil))) (ss_one (ss_set 2 (se_mod (se_callTy (r := rInt1) (fun X g => call_int1) sc_int (fun X g => gl_of g (by rfl)) T.z_int (by rfl) (sa_cons (se_add (se_add (se_mul (se_add (se_var 2) (se_mul se_int (se_var 3))) se_int) (se_mul (se_mod (se_callTy (r := rInt1) (fun X g => call_int1) sc_int (fun X g => gl_of g (by rfl)) T.z_int (by rfl) (sa_cons (se_var 4) sa_nil)) se_int) se_int)) se_int) sa_nil)) se_int))))
  (ss_cons (ss_set 4 (se_ifExp (st_lt (se_var 1) (se_callB (r := Dm.rLen) (fun X g => call_len_seq) sc_len (fun X g => gl_of g (by rfl)) T.z_len (by rfl) (sa_cons (se_var 0) sa_nil))) (se_callTy (r := rInt1) (fun X g => call_int1) sc_int (fun X g => gl_of g (by rfl)) T.z_int (by rfl) (sa_cons (se_ix (se_var 0) (se_var 1)) sa_nil)) se_int))
  (ss_one (ss_ret (se_lst (sa_cons (se_frz (se_ifExp (st_ge (se_callB (r := rAbs) (fun X g => call_abs) sc_abs (fun X g => gl_of g (by rfl)) T.z_abs (by rfl) (sa_cons (se_var 4) sa_nil)) (se_pow se_int se_int)) (se_callB (r := rAbs) (fun X g => call_abs) sc_abs (fun X g => gl_of g (by rfl)) T.z_abs (by rfl) (sa_cons (se_var 4) sa_nil)) se_int)) (sa_cons (se_frz (se_var 2)) (sa_cons (se_frz (se_var 1)) sa_nil)))))))))
theorem ok__law_spring (T : Txt K mg) : FnG P w K mg base CX0 1 T.f__law_spring T.fd__law_spring p__law_spring (spV K 2 fn__law_spring) := fn_okV T.F__law_spring sc__law_spring (ss__law_spring T)
theorem ss__law_draw (T : Txt K mg) : SSs (cdOf P w K mg base N__law_draw s__law_draw 0) (defBody s__law_draw) b__law_draw :=
  (ss_cons (ss_if (st_gt (se_ix (se_var 0) se_int) se_int) (ss_cons (ss_asg (se_frz (se_divmod (fun X g => gl_of g (by rfl)) T.z_divmod (sa_cons (se_ix (se_var 0) se_int) (sa_cons (se_var 1) sa_nil)))) (sg_tup (sgs_cons (sg_sub (se_var 0) se_int) (sgs_cons (sg_name 2) sgs_nil))))
  (ss_one (ss_ret (se_var 2)))) ss_nil)
  (ss_cons (ss_asg (se_frz (se_add (se_ix (se_var 0) se_int) se_int)) (sg_sub (se_var 0) se_int))
  (ss_cons (ss_asg (se_frz (se_mod (se_callTy (r := rInt1) (fun X g => call_int1) sc_int (fun X g => gl_of g (by rfl)) T.z_int (by rfl) (sa_cons (se_add (se_add (se_mul (se_ix (se_var 0) se_int) (se_add se_int (se_mul se_int (se_ix (se_var 0) se_int)))) (se_mul se_int (se_ix (se_var 0) se_int))) se_int) sa_nil)) se_int)) (sg_sub (se_var 0) se_int))
  (ss_one (ss_ret (se_mod (se_callTy (r := rInt1) (fun X g => call_int1) sc_int (fun X g => gl_of g (by rfl)) T.z_int (by rfl) (sa_cons (se_div (se_ix (se_var 0) se_int) se_int) sa_nil)) (se_var 1)))))))
theorem ok__law_draw (T : Txt K mg) : FnG P w K mg base CX0 1 T.f__law_draw T.fd__law_draw p__law_draw (spW K 2 fn__law_draw) := fn_okW T.F__law_draw sc__law_draw (ss__law_draw T)
theorem ss__law_one (T : Txt K mg) : SSs (cdOf P w K mg base N__law_one s__law_one 1) (defBody s__law_one) b__law_one :=
  (ss_one (ss_ret (se_ix (se_var 1) (se_callW (ok__law_draw T) fnW_n (show 1 ≤ 1 by decide) (fun X g => gl_of g (by rfl)) T.m__law_draw T.F__law_draw.kp T.b__law_draw (se_var 0) (sa_cons (se_frz (se_callB (r := Dm.rLen) (fun X g => call_len_seq) sc_len (fun X g => gl_of g (by rfl)) T.z_len (by rfl) (sa_cons (se_var 1) sa_nil))) sa_nil)))))
theorem ok__law_one (T : Txt K mg) : FnG P w K mg base CX0 2 T.f__law_one T.fd__law_one p__law_one (spW K 2 fn__law_one) := fn_okW T.F__law_one sc__law_one (ss__law_one T)
theorem ss__law_shared (T : Txt K mg) : SSs (cdOf P w K mg base N__law_shared s__law_shared 0) (defBody s__law_shared) b__law_shared :=
  (ss_cons (ss_par2 2 3 (sa_cons (se_frz (se_callB (r := rAbs) (fun X g => call_abs) sc_abs (fun X g => gl_of g (by rfl)) T.z_abs (by rfl) (sa_cons (se_var 0) sa_nil))) (sa_cons (se_frz (se_callB (r := rAbs) (fun X g => call_abs) sc_abs (fun X g => gl_of g (by rfl)) T.z_abs (by rfl) (sa_cons (se_var 1) sa_nil))) sa_nil)))
  (ss_cons (ss_for (si_rng1 (fun X g => gl_of g (by rfl)) T.z_range (sa_cons (se_add (se_mul se_int (se_bits (se_var 3))) se_int) sa_nil)) (sg_name 4) (ss_cons (ss_if (st_eq (se_var 3) se_int) (ss_one ss_break) ss_nil)
  (ss_one (ss_par2 2 3 (sa_cons (se_frz (se_var 3)) (sa_cons (se_frz (se_mod (se_callTy (r := rInt1) (fun X g => call_int1) sc_int (fun X g => gl_of g (by rfl)) T.z_int (by rfl) (sa_cons (se_var 2) sa_nil)) (se_var 3))) sa_nil))))))
  (ss_one (ss_ret (se_var 2)))))
theorem ok__law_shared (T : Txt K mg) : FnG P w K mg base CX0 1 T.f__law_shared T.fd__law_shared p__law_shared (spV K 2 fn__law_shared) := fn_okV T.F__law_shared sc__law_shared (ss__law_shared T)
theorem ss__law_base (T : Txt K mg) : SSs (cdOf P w K mg base N__law_base s__law_base 0) (defBody s__law_base) b__law_base :=
  (ss_cons (ss_if (st_in (se_var 0) (se_tup (sa_cons (se_frz se_int) (sa_cons (se_frz se_int) (sa_cons (se_frz se_int) (sa_cons (se_frz se_int) (sa_cons (se_frz se_int) sa_nil))))))) (ss_one (ss_ret (se_repT (se_tup (sa_cons (se_frz se_int) sa_nil)) (se_var 0)))) ss_nil)
  (ss_one (ss_ret (se_dispIx (sps_cons (se_frz (se_tup (sa_cons (se_frz se_int) (sa_cons (se_frz se_int) (sa_cons (se_frz se_int) sa_nil))))) (sps_cons (se_frz (se_tup (sa_cons (se_frz se_int) (sa_cons (se_frz (se_neg se_int)) (sa_cons (se_frz se_int) sa_nil))))) (sps_cons (se_frz (se_tup (sa_cons (se_frz se_int) (sa_cons (se_frz se_int) (sa_cons (se_frz se_int) (sa_cons (se_frz se_int) (sa_cons (se_frz se_int) sa_nil))))))) (sps_cons (se_frz (se_tup (sa_cons (se_frz se_int) (sa_cons (se_frz se_int) (sa_cons (se_frz se_int) (sa_cons (se_frz se_int) (sa_cons (se_frz se_int) (sa_cons (se_frz se_int) (sa_cons (se_frz se_int) sa_nil))))))))) (sps_cons (se_frz (se_tup (sa_cons (se_frz se_int) (sa_cons (se_frz (se_neg se_int)) (sa_cons (se_frz se_int) (sa_cons (se_frz (se_neg se_int)) (sa_cons (se_frz se_int) sa_nil))))))) (sps_cons (se_frz (se_tup (sa_cons (se_frz se_int) (sa_cons (se_frz se_int) (sa_cons (se_frz (se_neg se_int)) (sa_cons (se_frz se_int) (sa_cons (se_frz se_int) sa_nil))))))) sps_nil)))))) (se_var 0)))))
theorem ok__law_base (T : Txt K mg) : FnG P w K mg base CX0 1 T.f__law_base T.fd__law_base p__law_base (spV K 1 fn__law_base) := fn_okV T.F__law_base sc__law_base (ss__law_base T)
theorem ss__law_rest (T : Txt K mg) : SSs (cdOf P w K mg base N__law_rest s__law_rest 1) (defBody s__law_rest) b__law_rest :=
  (ss_cons (ss_par2 2 3 (sa_cons (se_frz (se_callV (ok__law_base T) fnV_n (show 1 ≤ 1 by decide) (fun X g => gl_of g (by rfl)) T.m__law_base T.F__law_base.kp T.b__law_base (sa_cons (se_frz (se_var 0)) sa_nil))) (sa_cons (se_lc [("worth", 6)] (si_seq (se_var 1)) (sg_name 6) sts_nil (se_var 6)) sa_nil)))
  (ss_cons (ss_set 4 (se_sub (se_callB (r := Dm.rLen) (fun X g => call_len_seq) sc_len (fun X g => gl_of g (by rfl)) T.z_len (by rfl) (sa_cons (se_var 2) sa_nil)) se_int))
  (ss_cons (ss_for (si_rng3 (fun X g => gl_of g (by rfl)) T.z_range (sa_cons (se_sub (se_callB (r := Dm.rLen) (fun X g => call_len_seq) sc_len (fun X g => gl_of g (by rfl)) T.z_len (by rfl) (sa_cons (se_var 3) sa_nil)) se_int) (sa_cons (se_sub (se_var 4) se_int) (sa_cons (se_neg se_int) sa_nil)))) (sg_name 5) (ss_cons (ss_set 6 (se_ix (se_var 3) (se_var 5)))
  (ss_one (ss_if (st_ne (se_var 6) se_int) (ss_one (ss_for (si_rng1 (fun X g => gl_of g (by rfl)) T.z_range (sa_cons (se_add (se_var 4) se_int) sa_nil)) (sg_name 7) (ss_one (ss_asg (se_frz (se_sub (se_ix (se_var 3) (se_add (se_sub (se_var 5) (se_var 4)) (se_var 7))) (se_mul (se_var 6) (se_ix (se_var 2) (se_var 7))))) (sg_sub (se_var 3) (se_add (se_sub (se_var 5) (se_var 4)) (se_var 7))))))) ss_nil))))
  (ss_one (ss_ret (se_slL (se_var 3) so_none (so_some (se_var 4))))))))
theorem ok__law_rest (T : Txt K mg) : FnG P w K mg base CX0 2 T.f__law_rest T.fd__law_rest p__law_rest (spV K 2 fn__law_rest) := fn_okV T.F__law_rest sc__law_rest (ss__law_rest T)
theorem ss__law_is (T : Txt K mg) : SSs (cdOf P w K mg base N__law_is s__law_is 2) (defBody s__law_is) b__law_is :=
  (ss_one (ss_ret (se_callB (r := rAnyX) (fun X g => call_anyX g.calm) sc_anyX (fun X g => gl_of g (by rfl)) T.z_any (by rfl) (sa_cons (se_lc [("worth", 2)] (si_seq (se_callV (ok__law_rest T) fnV_n (show 2 ≤ 2 by decide) (fun X g => gl_of g (by rfl)) T.m__law_rest T.F__law_rest.kp T.b__law_rest (sa_cons (se_frz (se_var 0)) (sa_cons (se_frz (se_var 1)) sa_nil)))) (sg_name 2) sts_nil (se_ne (se_var 2) se_int)) sa_nil))))
theorem ok__law_is (T : Txt K mg) : FnG P w K mg base CX0 3 T.f__law_is T.fd__law_is p__law_is (spV K 2 fn__law_is) := fn_okV T.F__law_is sc__law_is (ss__law_is T)
theorem ss__law_lot (T : Txt K mg) : SSs (cdOf P w K mg base N__law_lot s__law_lot 2) (defBody s__law_lot) b__law_lot :=
  (ss_cons (ss_set 2 (se_callW (ok__law_draw T) fnW_n (show 1 ≤ 2 by decide) (fun X g => gl_of g (by rfl)) T.m__law_draw T.F__law_draw.kp T.b__law_draw (se_var 0) (sa_cons (se_frz se_int) sa_nil)))
  (ss_cons (ss_setC 3 (se_lc [("at", 11)] (si_rng1 (fun X g => gl_of g (by rfl)) T.z_range (sa_cons (se_var 1) sa_nil)) (sg_name 11) (sts_one (st_eq (se_callW (ok__law_draw T) fnW_n (show 1 ≤ 2 by decide) (fun X g => gl_of g (by rfl)) T.m__law_draw T.F__law_draw.kp T.b__law_draw (se_var 0) (sa_cons (se_frz se_int) sa_nil)) se_int)) (se_var 11)))
  (ss_cons (ss_if (st_eq (se_var 2) se_int) (ss_cons (ss_asg (se_frz (se_tup (sa_cons (se_frz (se_callW (ok__law_draw T) fnW_n (show 1 ≤ 2 by decide) (fun X g => gl_of g (by rfl)) T.m__law_draw T.F__law_draw.kp T.b__law_draw (se_var 0) (sa_cons (se_frz (se_var 1)) sa_nil))) (sa_cons (se_frz (se_add se_int (se_callW (ok__law_draw T) fnW_n (show 1 ≤ 2 by decide) (fun X g => gl_of g (by rfl)) T.m__law_draw T.F__law_draw.kp T.b__law_draw (se_var 0) (sa_cons (se_frz (se_var 1)) sa_nil)))) sa_nil)))) (sg_tup (sgs_cons (sg_name 4) (sgs_cons (sg_name 5) sgs_nil))))
  (ss_one (ss_setC 3 (se_lc [("at", 11)] (si_rng1 (fun X g => gl_of g (by rfl)) T.z_range (sa_cons (se_var 1) sa_nil)) (sg_name 11) (sts_one (st_lt (se_mod (se_callTy (r := rInt1) (fun X g => call_int1) sc_int (fun X g => gl_of g (by rfl)) T.z_int (by rfl) (sa_cons (se_sub (se_var 11) (se_var 4)) sa_nil)) (se_var 1)) (se_var 5))) (se_var 11))))) ss_nil)
  (ss_cons (ss_if (st_w (sw_or (st_eq (se_var 2) se_int) (sw_or1 (st_eq (se_var 2) se_int)))) (ss_cons (ss_set 6 (se_callW (ok__law_one T) fnW_n (show 2 ≤ 2 by decide) (fun X g => gl_of g (by rfl)) T.m__law_one T.F__law_one.kp T.b__law_one (se_var 0) (sa_cons (se_frz (se_lc [("m", 13)] (si_rng2 (fun X g => gl_of g (by rfl)) T.z_range (sa_cons se_int (sa_cons (se_add (se_var 1) se_int) sa_nil))) (sg_name 13) (sts_one (st_eq (se_mod (se_callTy (r := rInt1) (fun X g => call_int1) sc_int (fun X g => gl_of g (by rfl)) T.z_int (by rfl) (sa_cons (se_var 1) sa_nil)) (se_var 13)) se_int)) (se_var 13))) sa_nil)))
  (ss_cons (ss_setC 7 (se_lc [("turn", 12)] (si_rng1 (fun X g => gl_of g (by rfl)) T.z_range (sa_cons (se_add se_int (se_callW (ok__law_draw T) fnW_n (show 1 ≤ 2 by decide) (fun X g => gl_of g (by rfl)) T.m__law_draw T.F__law_draw.kp T.b__law_draw (se_var 0) (sa_cons (se_frz se_int) sa_nil))) sa_nil)) (sg_name 12) sts_nil (se_callW (ok__law_draw T) fnW_n (show 1 ≤ 2 by decide) (fun X g => gl_of g (by rfl)) T.m__law_draw T.F__law_draw.kp T.b__law_draw (se_var 0) (sa_cons (se_frz (se_var 6)) sa_nil))))
  (ss_one (ss_setC 3 (se_lc [("at", 11)] (si_rng1 (fun X g => gl_of g (by rfl)) T.z_range (sa_cons (se_var 1) sa_nil)) (sg_name 11) (sts_one (st_in (se_mod (se_callTy (r := rInt1) (fun X g => call_int1) sc_int (fun X g => gl_of g (by rfl)) T.z_int (by rfl) (sa_cons (se_var 11) sa_nil)) (se_var 6)) (se_var 7))) (se_var 11)))))) ss_nil)
  (ss_cons (ss_if (st_eq (se_var 2) se_int) (ss_cons (ss_par3 8 9 10 (sa_cons (se_frz (se_callW (ok__law_draw T) fnW_n (show 1 ≤ 2 by decide) (fun X g => gl_of g (by rfl)) T.m__law_draw T.F__law_draw.kp T.b__law_draw (se_var 0) (sa_cons (se_frz (se_var 1)) sa_nil))) (sa_cons (se_frz (se_callW (ok__law_draw T) fnW_n (show 1 ≤ 2 by decide) (fun X g => gl_of g (by rfl)) T.m__law_draw T.F__law_draw.kp T.b__law_draw (se_var 0) (sa_cons (se_frz (se_var 1)) sa_nil))) (sa_cons (se_frz (se_callW (ok__law_draw T) fnW_n (show 1 ≤ 2 by decide) (fun X g => gl_of g (by rfl)) T.m__law_draw T.F__law_draw.kp T.b__law_draw (se_var 0) (sa_cons (se_frz (se_var 1)) sa_nil))) sa_nil))))
  (ss_one (ss_set 3 (se_lst (sa_cons (se_frz (se_var 8)) (sa_cons (se_frz (se_mod (se_callTy (r := rInt1) (fun X g => call_int1) sc_int (fun X g => gl_of g (by rfl)) T.z_int (by rfl) (sa_cons (se_add (se_var 8) (se_var 9)) sa_nil)) (se_var 1))) (sa_cons (se_frz (se_mod (se_callTy (r := rInt1) (fun X g => call_int1) sc_int (fun X g => gl_of g (by rfl)) T.z_int (by rfl) (sa_cons (se_add (se_var 8) (se_var 10)) sa_nil)) (se_var 1))) (sa_cons (se_frz (se_mod (se_callTy (r := rInt1) (fun X g => call_int1) sc_int (fun X g => gl_of g (by rfl)) T.z_int (by rfl) (sa_cons (se_add (se_add (se_var 8) (se_var 9)) (se_var 10)) sa_nil)) (se_var 1))) sa_nil)))))))) ss_nil)
  (ss_cons (ss_if (st_eq (se_var 2) se_int) (ss_one (ss_setC 3 (se_lc [("at", 11)] (si_rng1 (fun X g => gl_of g (by rfl)) T.z_range (sa_cons (se_var 1) sa_nil)) (sg_name 11) (sts_one (st_gt (se_callW (ok__law_draw T) fnW_n (show 1 ≤ 2 by decide) (fun X g => gl_of g (by rfl)) T.m__law_draw T.F__law_draw.kp T.b__law_draw (se_var 0) (sa_cons (se_frz se_int) sa_nil)) se_int)) (se_var 11)))) ss_nil)
  (ss_one (ss_ret (se_ifExp (st_ne (se_var 3) (se_lst sa_nil)) (se_tupOf (fun X g => gl_of g (by rfl)) T.z_tuple (sa_cons (se_lc [("at", 11)] (si_rng1 (fun X g => gl_of g (by rfl)) T.z_range (sa_cons (se_var 1) sa_nil)) (sg_name 11) (sts_one (st_in (se_var 11) (se_var 3))) (se_var 11)) sa_nil)) (se_tup (sa_cons (se_frz (se_callW (ok__law_draw T) fnW_n (show 1 ≤ 2 by decide) (fun X g => gl_of g (by rfl)) T.m__law_draw T.F__law_draw.kp T.b__law_draw (se_var 0) (sa_cons (se_frz (se_var 1)) sa_nil))) sa_nil)))))))))))
theorem ok__law_lot (T : Txt K mg) : FnG P w K mg base CX0 3 T.f__law_lot T.fd__law_lot p__law_lot (spW K 2 fn__law_lot) := fn_okW T.F__law_lot sc__law_lot (ss__law_lot T)
theorem ss__law_led (T : Txt K mg) : SSs (cdOf P w K mg base N__law_led s__law_led 0) (defBody s__law_led) b__law_led :=
  (ss_one (ss_ret (se_tupOf (fun X g => gl_of g (by rfl)) T.z_tuple (sa_cons (se_callBL (r := rSortedI) (fun X g => cr_sortedI) sl_sorted (fun X g => gl_of g (by rfl)) T.z_sorted (by rfl) (sa_cons (se_lc [("at", 4)] (si_seq (se_var 1)) (sg_name 4) sts_nil (se_mod (se_callTy (r := rInt1) (fun X g => call_int1) sc_int (fun X g => gl_of g (by rfl)) T.z_int (by rfl) (sa_cons (se_add (se_mul (se_var 4) (se_var 2)) (se_var 3)) sa_nil)) (se_var 0))) sa_nil)) sa_nil))))
theorem ok__law_led (T : Txt K mg) : FnG P w K mg base CX0 1 T.f__law_led T.fd__law_led p__law_led (spV K 4 fn__law_led) := fn_okV T.F__law_led sc__law_led (ss__law_led T)
theorem ss__law_own (T : Txt K mg) : SSs (cdOf P w K mg base N__law_own s__law_own 3) (defBody s__law_own) b__law_own :=
  (ss_cons (ss_parO 2 3 (sa_cons (se_lst sa_nil) (sa_cons (se_frz (se_dic (sps_cons (se_frz se_int) (sps_cons (se_frz se_int) (sps_cons (se_frz se_int) (sps_cons (se_frz se_int) (sps_cons (se_frz se_int) (sps_cons (se_frz se_int) (sps_cons (se_frz se_int) (sps_cons (se_frz se_int) sps_nil)))))))))) sa_nil)))
  (ss_cons (ss_for (si_rng2 (fun X g => gl_of g (by rfl)) T.z_range (sa_cons se_int (sa_cons (se_add (se_var 0) se_int) sa_nil))) (sg_name 4) (ss_one (ss_if (st_w (sw_and (st_eq (se_mod (se_callTy (r := rInt1) (fun X g => call_int1) sc_int (fun X g => gl_of g (by rfl)) T.z_int (by rfl) (sa_cons (se_var 0) sa_nil)) (se_var 4)) se_int) (sw_and1 (st_not (st_val (se_callV (ok__law_is T) fnV_n (show 3 ≤ 3 by decide) (fun X g => gl_of g (by rfl)) T.m__law_is T.F__law_is.kp T.b__law_is (sa_cons (se_frz (se_var 4)) (sa_cons (se_frz (se_lc [("j", 8)] (si_rng1 (fun X g => gl_of g (by rfl)) T.z_range (sa_cons (se_var 0) sa_nil)) (sg_name 8) sts_nil (se_ifExp (st_in (se_var 8) (se_var 1)) se_int se_int))) sa_nil)))))))) (ss_one (ss_expr (se_app (se_var 2) (se_frz (se_var 4))))) ss_nil)))
  (ss_cons (ss_asg (se_frz (se_tup (sa_cons (se_frz se_int) (sa_cons (se_frz se_bl) sa_nil)))) (sg_tup (sgs_cons (sg_name 5) (sgs_cons (sg_name 6) sgs_nil))))
  (ss_cons (ss_for (si_seq (se_var 2)) (sg_name 4) (ss_cons (ss_set 5 (se_mul (se_var 5) (se_get2 (se_var 3) (se_var 4) se_int)))
  (ss_one (ss_for (si_seq (se_var 2)) (sg_name 7) (ss_one (ss_if (st_w (sw_and (st_inD (se_var 4) (se_var 3)) (sw_and (st_inD (se_var 7) (se_var 3)) (sw_and (st_ne (se_ixD (se_var 3) (se_var 4)) (se_ixD (se_var 3) (se_var 7))) (sw_and1 (st_nin (se_mul (se_var 4) (se_var 7)) (se_var 2))))))) (ss_one (ss_set 6 se_bl)) ss_nil))))))
  (ss_one (ss_ret (se_tup (sa_cons (se_frz (se_tupOf (fun X g => gl_of g (by rfl)) T.z_tuple (sa_cons (se_var 2) sa_nil))) (sa_cons (se_frz (se_eq (se_var 5) (se_callB (r := Dm.rLen) (fun X g => call_len_seq) sc_len (fun X g => gl_of g (by rfl)) T.z_len (by rfl) (sa_cons (se_var 1) sa_nil)))) (sa_cons (se_frz (se_var 6)) sa_nil))))))))))
theorem ok__law_own (T : Txt K mg) : FnG P w K mg base CX0 4 T.f__law_own T.fd__law_own p__law_own (spV K 2 fn__law_own) := fn_okV T.F__law_own sc__law_own (ss__law_own T)
theorem ss__law_told (T : Txt K mg) : SSs (cdOf P w K mg base N__law_told s__law_told 8) (defBody s__law_told) b__law_told :=
  (ss_cons (ss_if (st_ne (se_repr (fun X g => gl_of g (by rfl)) T.z_repr (sa_cons (se_callV (ok_parts_in T) fnV_n (show 7 ≤ 8 by decide) (fun X g => gl_of g (by rfl)) T.m_parts_in T.F_parts_in.kp T.b_parts_in (sa_cons (se_frz (se_var 0)) (sa_cons (se_frz (se_var 1)) sa_nil))) sa_nil)) (se_repr (fun X g => gl_of g (by rfl)) T.z_repr (sa_cons (se_ix (se_var 2) se_int) sa_nil))) (ss_one (ss_ret se_bl)) ss_nil)
  (ss_one (ss_ret (se_and (se_eq (se_repr (fun X g => gl_of g (by rfl)) T.z_repr (sa_cons (se_callV (ok_has_first_sign T) fnV_n (show 8 ≤ 8 by decide) (fun X g => gl_of g (by rfl)) T.m_has_first_sign T.F_has_first_sign.kp T.b_has_first_sign (sa_cons (se_frz (se_var 0)) (sa_cons (se_frz (se_var 1)) sa_nil))) sa_nil)) (se_repr (fun X g => gl_of g (by rfl)) T.z_repr (sa_cons (se_ix (se_var 2) se_int) sa_nil))) (se_one (se_eq (se_repr (fun X g => gl_of g (by rfl)) T.z_repr (sa_cons (se_callV (ok_has_second_sign T) fnV_n (show 8 ≤ 8 by decide) (fun X g => gl_of g (by rfl)) T.m_has_second_sign T.F_has_second_sign.kp T.b_has_second_sign (sa_cons (se_frz (se_var 0)) (sa_cons (se_frz (se_var 1)) sa_nil))) sa_nil)) (se_repr (fun X g => gl_of g (by rfl)) T.z_repr (sa_cons (se_ix (se_var 2) se_int) sa_nil))))))))
theorem ok__law_told (T : Txt K mg) : FnG P w K mg base CX0 9 T.f__law_told T.fd__law_told p__law_told (spV K 3 fn__law_told) := fn_okV T.F__law_told sc__law_told (ss__law_told T)
theorem ss__law_right (T : Txt K mg) : SSs (cdOf P w K mg base N__law_right s__law_right 9) (defBody s__law_right) b__law_right :=
  (ss_cons (ss_set 1 (se_callW (ok__law_one T) fnW_n (show 2 ≤ 9 by decide) (fun X g => gl_of g (by rfl)) T.m__law_one T.F__law_one.kp T.b__law_one (se_var 0) (sa_cons (se_frz (se_lst (sa_cons (se_frz se_int) (sa_cons (se_frz se_int) (sa_cons (se_frz se_int) (sa_cons (se_frz se_int) (sa_cons (se_frz se_int) (sa_cons (se_frz se_int) (sa_cons (se_frz se_int) (sa_cons (se_frz se_int) (sa_cons (se_frz se_int) (sa_cons (se_frz se_int) (sa_cons (se_frz se_int) (sa_cons (se_frz se_int) (sa_cons (se_frz se_int) (sa_cons (se_frz se_int) (sa_cons (se_frz se_int) (sa_cons (se_frz se_int) (sa_cons (se_frz se_int) (sa_cons (se_frz se_int) (sa_cons (se_frz se_int) (sa_cons (se_frz se_int) (sa_cons (se_frz se_int) sa_nil))))))))))))))))))))))) sa_nil)))
  (ss_cons (ss_set 2 (se_callW (ok__law_lot T) fnW_n (show 3 ≤ 9 by decide) (fun X g => gl_of g (by rfl)) T.m__law_lot T.F__law_lot.kp T.b__law_lot (se_var 0) (sa_cons (se_frz (se_var 1)) sa_nil)))
  (ss_cons (ss_asg (se_frz (se_tup (sa_cons (se_frz (se_callV (ok__law_own T) fnV_n (show 4 ≤ 9 by decide) (fun X g => gl_of g (by rfl)) T.m__law_own T.F__law_own.kp T.b__law_own (sa_cons (se_frz (se_var 1)) (sa_cons (se_frz (se_var 2)) sa_nil)))) (sa_cons (se_frz (se_callV (ok_zero_steps T) fnV_n (show 6 ≤ 9 by decide) (fun X g => gl_of g (by rfl)) T.m_zero_steps T.F_zero_steps.kp T.b_zero_steps (sa_cons (se_frz (se_var 1)) (sa_cons (se_frz (se_var 2)) sa_nil)))) sa_nil)))) (sg_tup (sgs_cons (sg_name 3) (sgs_cons (sg_name 4) sgs_nil))))
  (ss_cons (ss_if (st_w (sw_or (st_not (st_val (se_callV (ok__law_told T) fnV_n (show 9 ≤ 9 by decide) (fun X g => gl_of g (by rfl)) T.m__law_told T.F__law_told.kp T.b__law_told (sa_cons (se_frz (se_var 1)) (sa_cons (se_frz (se_var 2)) (sa_cons (se_frz (se_var 3)) sa_nil)))))) (sw_or1 (st_ne (se_repr (fun X g => gl_of g (by rfl)) T.z_repr (sa_cons (se_callVK (ok_parts_in T) fnV_n (show 7 ≤ 9 by decide) (fun X g => gl_of g (by rfl)) T.m_parts_in T.F_parts_in.kp T.q_parts_in (sk_cons (se_frz (se_var 1)) (sk_cons (se_frz (se_var 2)) sk_nil))) sa_nil)) (se_repr (fun X g => gl_of g (by rfl)) T.z_repr (sa_cons (se_ix (se_var 3) se_int) sa_nil)))))) (ss_one (ss_ret se_bl)) ss_nil)
  (ss_cons (ss_if (st_ne (se_lc [("m", 6)] (si_rng2 (fun X g => gl_of g (by rfl)) T.z_range (sa_cons se_int (sa_cons (se_add (se_var 1) se_int) sa_nil))) (sg_name 6) (sts_one (st_w (sw_and (st_eq (se_mod (se_callTy (r := rInt1) (fun X g => call_int1) sc_int (fun X g => gl_of g (by rfl)) T.z_int (by rfl) (sa_cons (se_var 1) sa_nil)) (se_var 6)) se_int) (sw_and1 (st_ne (se_in (se_div (se_var 1) (se_var 6)) (se_var 4)) (se_in (se_var 6) (se_ix (se_var 3) se_int))))))) (se_var 6)) (se_lst sa_nil)) (ss_one (ss_ret se_bl)) ss_nil)
  (ss_cons (ss_set 5 (se_callW (ok__law_one T) fnW_n (show 2 ≤ 9 by decide) (fun X g => gl_of g (by rfl)) T.m__law_one T.F__law_one.kp T.b__law_one (se_var 0) (sa_cons (se_frz (se_lc [("each", 7)] (si_rng2 (fun X g => gl_of g (by rfl)) T.z_range (sa_cons se_int (sa_cons (se_var 1) sa_nil))) (sg_name 7) (sts_one (st_eq (se_callV (ok__law_shared T) fnV_n (show 1 ≤ 9 by decide) (fun X g => gl_of g (by rfl)) T.m__law_shared T.F__law_shared.kp T.b__law_shared (sa_cons (se_frz (se_var 7)) (sa_cons (se_frz (se_var 1)) sa_nil))) se_int)) (se_var 7))) sa_nil)))
  (ss_one (ss_ret (se_callV (ok__law_told T) fnV_n (show 9 ≤ 9 by decide) (fun X g => gl_of g (by rfl)) T.m__law_told T.F__law_told.kp T.b__law_told (sa_cons (se_frz (se_var 1)) (sa_cons (se_frz (se_callV (ok__law_led T) fnV_n (show 1 ≤ 9 by decide) (fun X g => gl_of g (by rfl)) T.m__law_led T.F__law_led.kp T.b__law_led (sa_cons (se_frz (se_var 1)) (sa_cons (se_frz (se_var 2)) (sa_cons (se_frz (se_var 5)) (sa_cons (se_frz (se_callW (ok__law_draw T) fnW_n (show 1 ≤ 9 by decide) (fun X g => gl_of g (by rfl)) T.m__law_draw T.F__law_draw.kp T.b__law_draw (se_var 0) (sa_cons (se_frz (se_var 1)) sa_nil))) sa_nil)))))) (sa_cons (se_frz (se_var 3)) sa_nil))))))))))))
theorem ok__law_right (T : Txt K mg) : FnG P w K mg base CX0 10 T.f__law_right T.fd__law_right p__law_right (spW K 1 fn__law_right) := fn_okW T.F__law_right sc__law_right (ss__law_right T)
theorem ss_law (T : Txt K mg) : SSs (cdOf P w K mg base N_law s_law 10) (defBody s_law) b_law :=
  (ss_one (ss_ret (se_callB (r := rAll) (fun X g => cr_all g.calm) sc_all (fun X g => gl_of g (by rfl)) T.z_all (by rfl) (sa_cons (se_lc [("turn", 1)] (si_rng1 (fun X g => gl_of g (by rfl)) T.z_range (sa_cons (se_callB (r := rMax2) (fun X g => call_max2 g.calm) sc_max (fun X g => gl_of g (by rfl)) T.z_max (by rfl) (sa_cons se_int (sa_cons (se_callB (r := rMin2) (fun X g => call_min2 g.calm) sc_min (fun X g => gl_of g (by rfl)) T.z_min (by rfl) (sa_cons (se_callB (r := Dm.rLen) (fun X g => call_len_seq) sc_len (fun X g => gl_of g (by rfl)) T.z_len (by rfl) (sa_cons (se_var 0) sa_nil)) (sa_cons se_int sa_nil))) sa_nil))) sa_nil)) (sg_name 1) sts_nil (se_callW (ok__law_right T) fnW_n (show 10 ≤ 10 by decide) (fun X g => gl_of g (by rfl)) T.m__law_right T.F__law_right.kp T.b__law_right (se_callV (ok__law_spring T) fnV_n (show 1 ≤ 10 by decide) (fun X g => gl_of g (by rfl)) T.m__law_spring T.F__law_spring.kp T.b__law_spring (sa_cons (se_frz (se_var 0)) (sa_cons (se_frz (se_var 1)) sa_nil))) sa_nil)) sa_nil))))
theorem ok_law (T : Txt K mg) : FnG P w K mg base CX0 11 T.f_law T.fd_law p_law (spV K 1 fn_law) := fn_okV T.F_law sc_law (ss_law T)
end
end K41
set_option Elab.async false
set_option linter.all false
set_option maxRecDepth 100000
set_option maxHeartbeats 4000000
namespace K41
open PySem PySem.Spec L2 Dm
set_option autoImplicit false
/-! ### the draws -/
def Spr (sp : List D) : Prop := ∃ a b c : Int, sp = [.int a, .int b, .int c] ∧ 0 ≤ b ∧ b < 2147483423
theorem draw_ok {sp : List D} (h : Spr sp) {w : Int} (h0 : 0 < w) (h1 : w < 1073741824) :
    ∃ (k : Nat) (sp' : List D), fn__law_draw sp [.int w] = some (.val (.int k), sp') ∧ Spr sp' ∧ (k : Int) < w := by
  obtain ⟨a, b, c, rfl, hb, hb2⟩ := h
  have hC : CDiv a w := ⟨h0, h1⟩
  have hw : w ≠ 0 := by omega
  have m1 : CMul 2 (c + 1) := .inl (by decide)
  have m2 : CMul 7907 (c + 1) := .inl (by decide)
  have m3 : CMul b (52361 + 2 * (c + 1)) := .inl (by omega)
  have hd : CDivN ((b * (52361 + 2 * (c + 1)) + 7907 * (c + 1) + 13).fmod 2147483423) 131 := by unfold CDivN; decide
  by_cases h : a > 0
  · refine ⟨(a % w).toNat, [.int (a / w), .int b, .int c], ?_, ⟨_, _, _, rfl, hb, hb2⟩, ?_⟩
    · have e : (((a % w).toNat : Nat) : Int) = a % w := Int.toNat_of_nonneg (Int.emod_nonneg _ hw)
      rw [e]
      simp [fn__law_draw, b__law_draw, fnV, fnW, initV, initW, mSeq, mIfS, mTest, mBin, mIx, mVar, mC, peek, peeks, seqD, asI, asB, atI, ixN, onI, mAsg, mFrz, frz, mTupNew, mCons, mNil, fDm, gTupD, gsCons, gsNil, gSubD, gPut, put, ownAt, mRet, toRet, port0, mSkip, mCS, mCL, fI1, fI2, mSet, mPar, mPar3, Dm.plain, mTup, mLst, vals, mTupOf, fTup, fLen, mIf, mIfS, mNotT, mChain, mTyIs, tyD, noFrz, mIxK, mAndT, mOrT, mAndV, mOrV, mNotV, mExpr, mCallV, mCallW, rOf, mUn, fNeg, fList, fRg1, fRg2, fRg3, mRng, mSeqI, mYes, wipeS, mRep, h, hC]
    · rw [Int.toNat_of_nonneg (Int.emod_nonneg _ hw)]
      exact Int.emod_lt_of_pos _ h0
  · have nn : 0 ≤ (((b * (52361 + 2 * (c + 1)) + 7907 * (c + 1) + 13).fmod 2147483423).fdiv 131).fmod w := Int.fmod_nonneg_of_pos _ h0
    refine ⟨((((b * (52361 + 2 * (c + 1)) + 7907 * (c + 1) + 13).fmod 2147483423).fdiv 131).fmod w).toNat, [.int a, .int ((b * (52361 + 2 * (c + 1)) + 7907 * (c + 1) + 13).fmod 2147483423), .int (c + 1)], ?_, ⟨_, _, _, rfl, Int.fmod_nonneg_of_pos _ (by decide), Int.fmod_lt_of_pos _ (by decide)⟩, ?_⟩
    · rw [Int.toNat_of_nonneg nn]
      simp [fn__law_draw, b__law_draw, fnV, fnW, initV, initW, mSeq, mIfS, mTest, mBin, mIx, mVar, mC, peek, peeks, seqD, asI, asB, atI, ixN, onI, mAsg, mFrz, frz, mTupNew, mCons, mNil, fDm, gTupD, gsCons, gsNil, gSubD, gPut, put, ownAt, mRet, toRet, port0, mSkip, mCS, mCL, fI1, fI2, mSet, mPar, mPar3, Dm.plain, mTup, mLst, vals, mTupOf, fTup, fLen, mIf, mIfS, mNotT, mChain, mTyIs, tyD, noFrz, mIxK, mAndT, mOrT, mAndV, mOrV, mNotV, mExpr, mCallV, mCallW, rOf, mUn, fNeg, fList, fRg1, fRg2, fRg3, mRng, mSeqI, mYes, wipeS, mRep, h, m1, m2, m3, hd, hw]
    · rw [Int.toNat_of_nonneg nn]
      exact Int.fmod_lt_of_pos _ h0
theorem one_ok {sp : List D} (h : Spr sp) {xs : List D} (h0 : xs ≠ []) (h1 : xs.length < 1000000) :
    ∃ (x : D) (sp' : List D), fn__law_one sp [.lst xs] = some (.val x, sp') ∧ Spr sp' ∧ x ∈ xs := by
  have hl : 0 < xs.length := List.length_pos_iff.2 h0
  obtain ⟨k, sp', e, hs, hk⟩ := draw_ok h (w := xs.length) (by omega) (by omega)
  have hk' : k < xs.length := by omega
  refine ⟨xs[k], sp', ?_, hs, List.getElem_mem hk'⟩
  have hix : xs[k]? = some xs[k] := List.getElem?_eq_getElem hk'
  simp [fn__law_one, b__law_one, fnV, fnW, initV, initW, mSeq, mIfS, mTest, mBin, mIx, mVar, mC, peek, peeks, seqD, asI, asB, atI, ixN, onI, mAsg, mFrz, frz, mTupNew, mCons, mNil, fDm, gTupD, gsCons, gsNil, gSubD, gPut, put, ownAt, mRet, toRet, port0, mSkip, mCS, mCL, fI1, fI2, mSet, mPar, mPar3, Dm.plain, mTup, mLst, vals, mTupOf, fTup, fLen, mIf, mIfS, mNotT, mChain, mTyIs, tyD, noFrz, mIxK, mAndT, mOrT, mAndV, mOrV, mNotV, mExpr, mCallV, mCallW, rOf, mUn, fNeg, fList, fRg1, fRg2, fRg3, mRng, mSeqI, mYes, wipeS, mRep, e, hk, hix]
/-! ### the spring -/
theorem enD_map (xs : List D) : enD xs = (List.range xs.length).map fun i => D.tup [.int (i : Nat), xs.getD i .non] := rfl
theorem spring_ok (ns : List Int) (t : Nat) (ht : t < 1000) : ∃ sp, fn__law_spring [.lst (ns.map D.int), .int t] = some (.own sp) ∧ Spr sp := by
  have key : WS b__law_spring (initV 5 [.lst (ns.map D.int), .int t]) fun o => ∃ r s, o = .rt r s ∧ ∃ sp, r = .own sp ∧ Spr sp := by
    unfold b__law_spring
    have m0 : CMul 7187 (t : Int) := .inl (by decide)
    have m1 : ∀ x, CMul x 60271 := fun x => .inr (by decide)
    have m2 : ∀ x, CMul x 40013 := fun x => .inr (by decide)
    have m3 : ∀ x, CMul 29 x := fun x => .inl (by decide)
    have cp : CPow 10 18 := by decide
    have fin : ∀ (z b : Int) {x : Option Cell}, 0 ≤ b → b < 2147483423 → WS (mRet (mLst (mCons (mFrz (mIf (mTest (mBin fGe (mCS (fI1 gAbs) (mCons (mVar 4) mNil)) (mBin fPow (mC (.int 10)) (mC (.int 18))))) (mCS (fI1 gAbs) (mCons (mVar 4) mNil)) (mC (.int 0)))) (mCons (mFrz (mVar 2)) (mCons (mFrz (mVar 1)) mNil)))))
        [some (.val (.lst (ns.map D.int))), some (.val (.int t)), some (.val (.int b)), x, some (.val (.int z))] fun o => ∃ r s, o = .rt r s ∧ ∃ sp, r = .own sp ∧ Spr sp := fun z b x hb hb2 => by
      refine ws_ret ?_
      by_cases hz : 1000000000000000000 ≤ gAbs z
      · exact ⟨_, _, by simp [fnV, fnW, initV, initW, mSeq, mIfS, mTest, mBin, mIx, mVar, mC, peek, peeks, seqD, asI, asB, atI, ixN, onI, mAsg, mFrz, frz, mTupNew, mCons, mNil, fDm, gTupD, gsCons, gsNil, gSubD, gPut, put, ownAt, mRet, toRet, port0, mSkip, mCS, mCL, fI1, fI2, mSet, mPar, mPar3, Dm.plain, mTup, mLst, vals, mTupOf, fTup, fLen, mIf, mIfS, mNotT, mChain, mTyIs, tyD, noFrz, mIxK, mAndT, mOrT, mAndV, mOrV, mNotV, mExpr, mCallV, mCallW, rOf, mUn, fNeg, fList, fRg1, fRg2, fRg3, mRng, mSeqI, mYes, wipeS, mRep, cp, hz]; exact ⟨rfl, rfl⟩, _, rfl, _, _, rfl, _, rfl, _, _, _, rfl, hb, hb2⟩
      · exact ⟨_, _, by simp [fnV, fnW, initV, initW, mSeq, mIfS, mTest, mBin, mIx, mVar, mC, peek, peeks, seqD, asI, asB, atI, ixN, onI, mAsg, mFrz, frz, mTupNew, mCons, mNil, fDm, gTupD, gsCons, gsNil, gSubD, gPut, put, ownAt, mRet, toRet, port0, mSkip, mCS, mCL, fI1, fI2, mSet, mPar, mPar3, Dm.plain, mTup, mLst, vals, mTupOf, fTup, fLen, mIf, mIfS, mNotT, mChain, mTyIs, tyD, noFrz, mIxK, mAndT, mOrT, mAndV, mOrV, mNotV, mExpr, mCallV, mCallW, rOf, mUn, fNeg, fList, fRg1, fRg2, fRg3, mRng, mSeqI, mYes, wipeS, mRep, cp, hz]; exact ⟨rfl, rfl⟩, _, rfl, _, _, rfl, _, rfl, _, _, _, rfl, hb, hb2⟩
    refine ws_step (by simp [fnV, fnW, initV, initW, mSeq, mIfS, mTest, mBin, mIx, mVar, mC, peek, peeks, seqD, asI, asB, atI, ixN, onI, mAsg, mFrz, frz, mTupNew, mCons, mNil, fDm, gTupD, gsCons, gsNil, gSubD, gPut, put, ownAt, mRet, toRet, port0, mSkip, mCS, mCL, fI1, fI2, mSet, mPar, mPar3, Dm.plain, mTup, mLst, vals, mTupOf, fTup, fLen, mIf, mIfS, mNotT, mChain, mTyIs, tyD, noFrz, mIxK, mAndT, mOrT, mAndV, mOrV, mNotV, mExpr, mCallV, mCallW, rOf, mUn, fNeg, fList, fRg1, fRg2, fRg3, mRng, mSeqI, mYes, wipeS, mRep, m0]; rfl) ?_
    refine ws_seq (ws_for ⟨_, _, by simp [mEnum, fnV, fnW, initV, initW, mSeq, mIfS, mTest, mBin, mIx, mVar, mC, peek, peeks, seqD, asI, asB, atI, ixN, onI, mAsg, mFrz, frz, mTupNew, mCons, mNil, fDm, gTupD, gsCons, gsNil, gSubD, gPut, put, ownAt, mRet, toRet, port0, mSkip, mCS, mCL, fI1, fI2, mSet, mPar, mPar3, Dm.plain, mTup, mLst, vals, mTupOf, fTup, fLen, mIf, mIfS, mNotT, mChain, mTyIs, tyD, noFrz, mIxK, mAndT, mOrT, mAndV, mOrV, mNotV, mExpr, mCallV, mCallW, rOf, mUn, fNeg, fList, fRg1, fRg2, fRg3, mRng, mSeqI, mYes, wipeS, mRep]; exact ⟨rfl, rfl⟩, ?_⟩)
    rw [enD_map]
    obtain ⟨s', e, i⟩ := loop_run (g := gTupD 2 (gsCons (gPut 3) (gsCons (gPut 4) gsNil))) (b := (mSet 2 (mBin fMod (mCS (fI1 fun i => i) (mCons (mBin fAdd (mBin fAdd (mBin fMul (mBin fAdd (mVar 2) (mBin fMul (mC (.int 29)) (mVar 3))) (mC (.int 60271))) (mBin fMul (mBin fMod (mCS (fI1 fun i => i) (mCons (mVar 4) mNil)) (mC (.int 1000000093))) (mC (.int 40013)))) (mC (.int 5))) mNil)) (mC (.int 2147483423)))))
      (fun i : Nat => D.tup [.int (i : Nat), (ns.map D.int).getD i .non]) (fun _ s => ∃ b x y, s = [some (.val (.lst (ns.map D.int))), some (.val (.int t)), some (.val (.int b)), x, y] ∧ 0 ≤ b ∧ b < 2147483423 ∧ (x = none ∨ ∃ d, x = some (.val d)) ∧ (y = none ∨ ∃ d, y = some (.val d)))
      (List.range (ns.map D.int).length) [] [some (.val (.lst (ns.map D.int))), some (.val (.int t)), some (.val (.int (40499323 + 7187 * t))), none, none]
      ⟨_, _, _, rfl, by omega, by omega, .inl rfl, .inl rfl⟩ (by
        rintro _ i s ⟨b, x, y, rfl, hb, hb2, hx, hy⟩ hi
        have hi := List.mem_range.1 hi
        rw [List.length_map] at hi
        have hg : (ns.map D.int).getD i .non = .int ns[i] := by simp [List.getD, hi]
        rw [hg]
        refine ⟨[some (.val (.lst (ns.map D.int))), some (.val (.int t)), some (.val (.int b)), some (.val (.int i)), some (.val (.int ns[i]))], ?_, _, by simp [fnV, fnW, initV, initW, mSeq, mIfS, mTest, mBin, mIx, mVar, mC, peek, peeks, seqD, asI, asB, atI, ixN, onI, mAsg, mFrz, frz, mTupNew, mCons, mNil, fDm, gTupD, gsCons, gsNil, gSubD, gPut, put, ownAt, mRet, toRet, port0, mSkip, mCS, mCL, fI1, fI2, mSet, mPar, mPar3, Dm.plain, mTup, mLst, vals, mTupOf, fTup, fLen, mIf, mIfS, mNotT, mChain, mTyIs, tyD, noFrz, mIxK, mAndT, mOrT, mAndV, mOrV, mNotV, mExpr, mCallV, mCallW, rOf, mUn, fNeg, fList, fRg1, fRg2, fRg3, mRng, mSeqI, mYes, wipeS, mRep, m1, m2, m3], _, .inl rfl, ((b + 29 * i) * 60271 + ns[i].fmod 1000000093 * 40013 + 5).fmod 2147483423, some (.val (.int i)), some (.val (.int ns[i])), rfl, Int.fmod_nonneg_of_pos _ (by decide), Int.fmod_lt_of_pos _ (by decide), .inr ⟨_, rfl⟩, .inr ⟨_, rfl⟩⟩
        rcases hx with rfl | ⟨d, rfl⟩ <;> rcases hy with rfl | ⟨d', rfl⟩ <;> simp [fnV, fnW, initV, initW, mSeq, mIfS, mTest, mBin, mIx, mVar, mC, peek, peeks, seqD, asI, asB, atI, ixN, onI, mAsg, mFrz, frz, mTupNew, mCons, mNil, fDm, gTupD, gsCons, gsNil, gSubD, gPut, put, ownAt, mRet, toRet, port0, mSkip, mCS, mCL, fI1, fI2, mSet, mPar, mPar3, Dm.plain, mTup, mLst, vals, mTupOf, fTup, fLen, mIf, mIfS, mNotT, mChain, mTyIs, tyD, noFrz, mIxK, mAndT, mOrT, mAndV, mOrV, mNotV, mExpr, mCallV, mCallW, rOf, mUn, fNeg, fList, fRg1, fRg2, fRg3, mRng, mSeqI, mYes, wipeS, mRep])
    refine ⟨_, e, _, rfl, ?_⟩
    obtain ⟨b, x, y, rfl, hb, hb2, hx, hy⟩ := i
    by_cases hlt : (t : Int) < ns.length
    · have hn : t < ns.length := by omega
      have hg : ns[t]? = some ns[t] := List.getElem?_eq_getElem hn
      refine ws_step (s1 := [some (.val (.lst (ns.map D.int))), some (.val (.int t)), some (.val (.int b)), x, some (.val (.int ns[t]))]) (by rcases hy with rfl | ⟨d', rfl⟩ <;> simp [fnV, fnW, initV, initW, mSeq, mIfS, mTest, mBin, mIx, mVar, mC, peek, peeks, seqD, asI, asB, atI, ixN, onI, mAsg, mFrz, frz, mTupNew, mCons, mNil, fDm, gTupD, gsCons, gsNil, gSubD, gPut, put, ownAt, mRet, toRet, port0, mSkip, mCS, mCL, fI1, fI2, mSet, mPar, mPar3, Dm.plain, mTup, mLst, vals, mTupOf, fTup, fLen, mIf, mIfS, mNotT, mChain, mTyIs, tyD, noFrz, mIxK, mAndT, mOrT, mAndV, mOrV, mNotV, mExpr, mCallV, mCallW, rOf, mUn, fNeg, fList, fRg1, fRg2, fRg3, mRng, mSeqI, mYes, wipeS, mRep, hlt, hg, hn]) ?_
      exact fin _ _ hb hb2
    · refine ws_step (s1 := [some (.val (.lst (ns.map D.int))), some (.val (.int t)), some (.val (.int b)), x, some (.val (.int 0))]) (by rcases hy with rfl | ⟨d', rfl⟩ <;> simp [fnV, fnW, initV, initW, mSeq, mIfS, mTest, mBin, mIx, mVar, mC, peek, peeks, seqD, asI, asB, atI, ixN, onI, mAsg, mFrz, frz, mTupNew, mCons, mNil, fDm, gTupD, gsCons, gsNil, gSubD, gPut, put, ownAt, mRet, toRet, port0, mSkip, mCS, mCL, fI1, fI2, mSet, mPar, mPar3, Dm.plain, mTup, mLst, vals, mTupOf, fTup, fLen, mIf, mIfS, mNotT, mChain, mTyIs, tyD, noFrz, mIxK, mAndT, mOrT, mAndV, mOrV, mNotV, mExpr, mCallV, mCallW, rOf, mUn, fNeg, fList, fRg1, fRg2, fRg3, mRng, mSeqI, mYes, wipeS, mRep, hlt]) ?_
      exact fin _ _ hb hb2
  obtain ⟨r, e, sp, rfl, h⟩ := fnV_ws (np := 2) key
  exact ⟨sp, e, h⟩
end K41
set_option Elab.async false
set_option linter.all false
set_option maxRecDepth 100000
set_option maxHeartbeats 4000000
namespace K41
open PySem PySem.Spec L2 Dm
set_option autoImplicit false
def bN (n : Nat) : Nat → Int := fun p => (Zn.base n).getD p 0
theorem base_len {n : Nat} (h : 2 ≤ n) (h2 : n ≤ 12) : (Zn.base n).length = Zn.deg n + 1 := by
  rcases Zn.sizes h h2 with rfl | rfl | rfl | rfl | rfl | rfl | rfl | rfl | rfl | rfl | rfl <;> rfl
theorem deg_le {n : Nat} (h : 2 ≤ n) (h2 : n ≤ 12) : 1 ≤ Zn.deg n ∧ Zn.deg n < n := by
  rcases Zn.sizes h h2 with rfl | rfl | rfl | rfl | rfl | rfl | rfl | rfl | rfl | rfl | rfl <;> decide
theorem top_one {n : Nat} (h : 2 ≤ n) (h2 : n ≤ 12) : bN n (Zn.deg n) = 1 := by
  rcases Zn.sizes h h2 with rfl | rfl | rfl | rfl | rfl | rfl | rfl | rfl | rfl | rfl | rfl <;> rfl
theorem base_small {n : Nat} (h : 2 ≤ n) (h2 : n ≤ 12) (p : Nat) : -(2 ^ 64) < bN n p ∧ bN n p < 2 ^ 64 := by
  rcases Nat.lt_or_ge p 11 with hp | hp
  · rcases Zn.sizes h h2 with rfl | rfl | rfl | rfl | rfl | rfl | rfl | rfl | rfl | rfl | rfl <;>
    rcases Zn.below (n := 11) hp (by decide) with rfl | rfl | rfl | rfl | rfl | rfl | rfl | rfl | rfl | rfl | rfl | rfl <;> decide
  · have : bN n p = 0 := by
      show (Zn.base n).getD p 0 = 0
      have hb : (Zn.base n).length ≤ 11 := by rcases Zn.sizes h h2 with rfl | rfl | rfl | rfl | rfl | rfl | rfl | rfl | rfl | rfl | rfl <;> decide
      rw [List.getD_eq_getElem?_getD, List.getElem?_eq_none (by omega)]
      rfl
    rw [this]
    decide
theorem law_base_ok {n : Nat} (h : 2 ≤ n) (h2 : n ≤ 12) : fn__law_base [.int n] = some (.val (.tup (fl (Zn.deg n + 1) (bN n)))) := by
  rcases Zn.sizes h h2 with rfl | rfl | rfl | rfl | rfl | rfl | rfl | rfl | rfl | rfl | rfl <;> rfl
theorem round_ok {n : Nat} (h : 2 ≤ n) (h2 : n ≤ 12) : kd_ROUND_POLYNOMIALS.lookup (n : Int) = some (.tup (fl (Zn.deg n + 1) (bN n))) := by
  rcases Zn.sizes h h2 with rfl | rfl | rfl | rfl | rfl | rfl | rfl | rfl | rfl | rfl | rfl <;> rfl
/-! ### the law's own division -/
theorem law_rest_N {n N : Nat} (h : 2 ≤ n) (h2 : n ≤ 12) (hN : n ≤ N) (hN2 : N ≤ 12) (x : Nat → Int) : fn__law_rest [.int n, .lst (fl N x)] = some (.own (fl (Zn.deg n) (Zn.rdN (Zn.base n) (Zn.deg n) (N - Zn.deg n) x))) := by
  have hd : 1 ≤ Zn.deg n ∧ Zn.deg n < N := by have := deg_le h h2; omega
  generalize hdn : Zn.deg n = d at hd
  generalize hR : Zn.rdN (Zn.base n) d (N - d) x = Rx
  have key : WS b__law_rest (initV 8 [.int n, .lst (fl N x)]) fun o => ∃ r s, o = .rt r s ∧ r = .own (fl d (Rx)) := by
    unfold b__law_rest
    have lb := law_base_ok h h2
    rw [hdn] at lb
    have hlc : ∀ s, s = [some (Cell.val (.int n)), some (.val (.lst (fl N x))), none, none, none, none, none, none] → ∃ s', lcLoop [6] (gPut 6) mYes (mVar 6) (fl N x) s [] = some (fl N x, s') ∧ s' = [some (Cell.val (.int n)), some (.val (.lst (fl N x))), none, none, none, none, none, none] := fun s hs => by
      have := lc_run (g := gPut 6) (t := mYes) (m := mVar 6) (fun p : Nat => D.int (x p)) [6] (fun s => s = [some (Cell.val (.int n)), some (.val (.lst (fl N x))), none, none, none, none, none, none]) (fun _ => true) (fun p : Nat => D.int (x p)) (List.range N) s [] hs (by simp; omega) (by
        rintro p s rfl -
        refine ⟨_, by simp [gPut, put]; rfl, ⟨true, _, rfl, rfl, fun _ => ⟨_, _, rfl, _, rfl, rfl⟩, fun e => by cases e⟩⟩)
      have hf : (List.range N).filter (fun _ => true) = List.range N := List.filter_eq_self.2 (fun _ _ => rfl)
      rw [hf] at this
      simpa [fl] using this
    refine ws_step (s1 := [some (.val (.int n)), some (.val (.lst (fl N x))), some (.val (.tup (fl (d + 1) (bN n)))), some (.own false (fl N x)), none, none, none, none]) ?_ ?_
    · obtain ⟨s', e, rfl⟩ := hlc _ rfl
      simp [fnV, fnW, initV, initW, mSeq, mIfS, mTest, mBin, mIx, mVar, mC, peek, peeks, seqD, asI, asB, atI, ixN, onI, mAsg, mFrz, frz, mTupNew, mCons, mNil, fDm, gTupD, gsCons, gsNil, gSubD, gPut, put, ownAt, mRet, toRet, port0, mSkip, mCS, mCL, fI1, fI2, mSet, mPar, mPar3, Dm.plain, mTup, mLst, vals, mTupOf, fTup, fLen, mIf, mIfS, mNotT, mChain, mTyIs, tyD, noFrz, mIxK, mAndT, mOrT, mAndV, mOrV, mNotV, mExpr, mCallV, mCallW, rOf, mUn, fNeg, fList, fRg1, fRg2, fRg3, mRng, mSeqI, mYes, wipeS, mRep, mLc, lb, e, unwipe]
    refine ws_step (s1 := [some (.val (.int n)), some (.val (.lst (fl N x))), some (.val (.tup (fl (d + 1) (bN n)))), some (.own false (fl N x)), some (.val (.int d)), none, none, none]) (by simp [fnV, fnW, initV, initW, mSeq, mIfS, mTest, mBin, mIx, mVar, mC, peek, peeks, seqD, asI, asB, atI, ixN, onI, mAsg, mFrz, frz, mTupNew, mCons, mNil, fDm, gTupD, gsCons, gsNil, gSubD, gPut, put, ownAt, mRet, toRet, port0, mSkip, mCS, mCL, fI1, fI2, mSet, mPar, mPar3, Dm.plain, mTup, mLst, vals, mTupOf, fTup, fLen, mIf, mIfS, mNotT, mChain, mTyIs, tyD, noFrz, mIxK, mAndT, mOrT, mAndV, mOrV, mNotV, mExpr, mCallV, mCallW, rOf, mUn, fNeg, fList, fRg1, fRg2, fRg3, mRng, mSeqI, mYes, wipeS, mRep, fl_len]) ?_
    refine ws_seq (ws_for ⟨(List.range (N - d)).map fun i => nI (N - 1 - i), [some (Cell.val (.int n)), some (.val (.lst (fl N x))), some (.val (.tup (fl (d + 1) (bN n)))), some (.own false (fl N x)), some (.val (.int d)), none, none, none], ?_, ws_rng
      (fun i s => ∃ (y z : Nat → Int) (c5 c6 c7 : Option Cell), s = [some (Cell.val (.int n)), some (.val (.lst (fl N x))), some (.val (.tup (fl (d + 1) (bN n)))), some (.own false (fl N z)), some (.val (.int d)), c5, c6, c7] ∧ Fr c5 = true ∧ Fr c6 = true ∧ Fr c7 = true ∧ (∀ p < N - i, z p = y p) ∧ Zn.rdN (Zn.base n) d (N - d - i) y = Rx)
      (N - d) ⟨x, x, none, none, none, rfl, rfl, rfl, rfl, fun _ _ => rfl, hR⟩ ?_ ?_⟩)
    · have e1 : ((N : Int) - 1 - ((d : Int) - 1)).toNat = N - d := by omega
      have e2 : (N : Int) - 1 = ((N - 1 : Nat) : Int) := by omega
      have e3 := rgD_down (N - 1) (N - d) (by omega)
      have s1 := small_int (i := (N : Int) - 1) (by omega) (by omega)
      have s2 := small_int (i := (d : Int) - 1) (by omega) (by omega)
      simp [fnV, fnW, initV, initW, mSeq, mIfS, mTest, mBin, mIx, mVar, mC, peek, peeks, seqD, asI, asB, onI, mAsg, mFrz, frz, mTupNew, mCons, mNil, fDm, gTupD, gsCons, gsNil, gSubD, gPut, put, ownAt, mRet, toRet, port0, mSkip, mCS, mCL, fI1, fI2, mSet, mPar, mPar3, Dm.plain, mTup, mLst, vals, mTupOf, fTup, fLen, mIf, mIfS, mNotT, mChain, mTyIs, tyD, noFrz, mIxK, mAndT, mOrT, mAndV, mOrV, mNotV, mExpr, mCallV, mCallW, rOf, mUn, fNeg, fList, fRg1, fRg2, fRg3, mRng, mSeqI, mYes, wipeS, mRep, fl_len, s1, s2, e1]
      rw [e2]
      exact e3
    · rintro i s hi ⟨y, z, c5, c6, c7, rfl, h5, h6, h7, hz, hy⟩
      generalize hat : N - 1 - i = at_
      have hat2 : N - d - i = N - d - (i + 1) + 1 := by omega
      have hm : d + (N - d - (i + 1)) + 1 = at_ + 1 := by omega
      rw [hat2] at hy
      unfold Zn.rdN at hy
      rw [hm] at hy
      have hla : at_ < N := by omega
      have hlb : d ≤ at_ := by omega
      refine ⟨[some (Cell.val (.int n)), some (.val (.lst (fl N x))), some (.val (.tup (fl (d + 1) (bN n)))), some (.own false (fl N z)), some (.val (.int d)), some (.val (.int at_)), c6, c7], put_valF (c := c5) rfl h5, ?_⟩
      have ha := atI_fl z (i := at_) rfl hla
      refine ws_step (s1 := [some (Cell.val (.int n)), some (.val (.lst (fl N x))), some (.val (.tup (fl (d + 1) (bN n)))), some (.own false (fl N z)), some (.val (.int d)), some (.val (.int at_)), some (.val (.int (z at_))), c7]) ?_ ?_
      · have : mIx (mVar 3) (mVar 5) [some (Cell.val (.int n)), some (.val (.lst (fl N x))), some (.val (.tup (fl (d + 1) (bN n)))), some (.own false (fl N z)), some (.val (.int d)), some (.val (.int at_)), c6, c7] = some (.val (.int (z at_)), [some (Cell.val (.int n)), some (.val (.lst (fl N x))), some (.val (.tup (fl (d + 1) (bN n)))), some (.own false (fl N z)), some (.val (.int d)), some (.val (.int at_)), c6, c7]) := by simp [fnV, fnW, initV, initW, mSeq, mIfS, mTest, mBin, mIx, mVar, mC, peek, peeks, seqD, asI, asB, onI, mAsg, mFrz, frz, mTupNew, mCons, mNil, fDm, gTupD, gsCons, gsNil, gSubD, gPut, put, ownAt, mRet, toRet, port0, mSkip, mCS, mCL, fI1, fI2, mSet, mPar, mPar3, Dm.plain, mTup, mLst, vals, mTupOf, fTup, fLen, mIf, mIfS, mNotT, mChain, mTyIs, tyD, noFrz, mIxK, mAndT, mOrT, mAndV, mOrV, mNotV, mExpr, mCallV, mCallW, rOf, mUn, fNeg, fList, fRg1, fRg2, fRg3, mRng, mSeqI, mYes, wipeS, mRep, ha]
        unfold mSet
        rw [this]
        show (put 6 _ _).bind _ = _
        rw [put_valF (c := c6) rfl h6]
        rfl
      by_cases h0 : z at_ = 0
      · refine ws_ifF (by simp [fnV, fnW, initV, initW, mSeq, mIfS, mTest, mBin, mIx, mVar, mC, peek, peeks, seqD, asI, asB, onI, mAsg, mFrz, frz, mTupNew, mCons, mNil, fDm, gTupD, gsCons, gsNil, gSubD, gPut, put, ownAt, mRet, toRet, port0, mSkip, mCS, mCL, fI1, fI2, mSet, mPar, mPar3, Dm.plain, mTup, mLst, vals, mTupOf, fTup, fLen, mIf, mIfS, mNotT, mChain, mTyIs, tyD, noFrz, mIxK, mAndT, mOrT, mAndV, mOrV, mNotV, mExpr, mCallV, mCallW, rOf, mUn, fNeg, fList, fRg1, fRg2, fRg3, mRng, mSeqI, mYes, wipeS, mRep, fNe_int, h0]; rfl) ?_
        refine ws_skip ⟨_, .inl rfl, Zn.R (Zn.base n) d (at_ + 1) y, z, _, _, c7, rfl, rfl, rfl, h7, fun p hp => ?_, hy⟩
        unfold Zn.R
        rw [show at_ + 1 - 1 = at_ from rfl, ← hz at_ (by omega), h0, Int.zero_mul, Int.sub_zero, ite_self]
        exact hz p (by omega)
      · refine ws_ifT (by simp [fnV, fnW, initV, initW, mSeq, mIfS, mTest, mBin, mIx, mVar, mC, peek, peeks, seqD, asI, asB, onI, mAsg, mFrz, frz, mTupNew, mCons, mNil, fDm, gTupD, gsCons, gsNil, gSubD, gPut, put, ownAt, mRet, toRet, port0, mSkip, mCS, mCL, fI1, fI2, mSet, mPar, mPar3, Dm.plain, mTup, mLst, vals, mTupOf, fTup, fLen, mIf, mIfS, mNotT, mChain, mTyIs, tyD, noFrz, mIxK, mAndT, mOrT, mAndV, mOrV, mNotV, mExpr, mCallV, mCallW, rOf, mUn, fNeg, fList, fRg1, fRg2, fRg3, mRng, mSeqI, mYes, wipeS, mRep, fNe_int, h0]; rfl) ?_
        refine ws_for ⟨(List.range (d + 1)).map nI, [some (Cell.val (.int n)), some (.val (.lst (fl N x))), some (.val (.tup (fl (d + 1) (bN n)))), some (.own false (fl N z)), some (.val (.int d)), some (.val (.int at_)), some (.val (.int (z at_))), c7], ?_, ws_rng
          (fun k s => ∃ (c7 : Option Cell), s = [some (Cell.val (.int n)), some (.val (.lst (fl N x))), some (.val (.tup (fl (d + 1) (bN n)))), some (.own false (fl N (fun p => if at_ - d ≤ p ∧ p < at_ - d + k then z p - z at_ * bN n (p - (at_ - d)) else z p))), some (.val (.int d)), some (.val (.int at_)), some (.val (.int (z at_))), c7] ∧ Fr c7 = true) (d + 1) ⟨c7, ?_, h7⟩ ?_ ?_⟩
        · exact rng1_of (i := (d : Int) + 1) (rs := [.val (.int ((d : Int) + 1))]) (d + 1) (by simp [fnV, fnW, initV, initW, mSeq, mIfS, mTest, mBin, mIx, mVar, mC, peek, peeks, seqD, asI, asB, onI, mAsg, mFrz, frz, mTupNew, mCons, mNil, fDm, gTupD, gsCons, gsNil, gSubD, gPut, put, ownAt, mRet, toRet, port0, mSkip, mCS, mCL, fI1, fI2, mSet, mPar, mPar3, Dm.plain, mTup, mLst, vals, mTupOf, fTup, fLen, mIf, mIfS, mNotT, mChain, mTyIs, tyD, noFrz, mIxK, mAndT, mOrT, mAndV, mOrV, mNotV, mExpr, mCallV, mCallW, rOf, mUn, fNeg, fList, fRg1, fRg2, fRg3, mRng, mSeqI, mYes, wipeS, mRep]) rfl (by omega) (by omega)
        · rw [show (fun p => if at_ - d ≤ p ∧ p < at_ - d + 0 then z p - z at_ * bN n (p - (at_ - d)) else z p) = z from by
            funext p; rw [if_neg (by omega)]]
        · rintro k s hk ⟨c7, rfl, h7⟩
          generalize hF : (fun p => if at_ - d ≤ p ∧ p < at_ - d + k then z p - z at_ * bN n (p - (at_ - d)) else z p) = F
          have Fk : F (at_ - d + k) = z (at_ - d + k) := by rw [← hF]; exact if_neg (by omega)
          refine ⟨_, put_valF (c := c7) rfl h7, ?_⟩
          have a1 := atI_fl F (i := (at_ : Int) - d + k) (j := at_ - d + k) (by omega) (m := N) (by omega)
          have a2 := atI_fl (bN n) (i := (k : Int)) (j := k) rfl hk
          have a3 := ixN_fl F (i := (at_ : Int) - d + k) (j := at_ - d + k) (by omega) (m := N) (by omega)
          have mm : CMul (z at_) (bN n k) := .inr (base_small h h2 k)
          have a4 := fl_set (m := N) (p := at_ - d + k) F (F (at_ - d + k) - z at_ * bN n k) (by omega)
          refine ⟨_, by simp [fnV, fnW, initV, initW, mSeq, mIfS, mTest, mBin, mIx, mVar, mC, peek, peeks, seqD, asI, asB, onI, mAsg, mFrz, frz, mTupNew, mCons, mNil, fDm, gTupD, gsCons, gsNil, gSubD, gPut, put, ownAt, mRet, toRet, port0, mSkip, mCS, mCL, fI1, fI2, mSet, mPar, mPar3, Dm.plain, mTup, mLst, vals, mTupOf, fTup, fLen, mIf, mIfS, mNotT, mChain, mTyIs, tyD, noFrz, mIxK, mAndT, mOrT, mAndV, mOrV, mNotV, mExpr, mCallV, mCallW, rOf, mUn, fNeg, fList, fRg1, fRg2, fRg3, mRng, mSeqI, mYes, wipeS, mRep, a1, a2, a3, mm, a4]; rfl, _, .inl rfl, some (.val (.int k)), ?_, rfl⟩
          have ef : fl N (fun q => if q = at_ - d + k then F (at_ - d + k) - z at_ * bN n k else F q) = fl N (fun p => if at_ - d ≤ p ∧ p < at_ - d + (k + 1) then z p - z at_ * bN n (p - (at_ - d)) else z p) := by
            refine fl_congr fun p hp => ?_
            by_cases e : p = at_ - d + k
            · subst e
              rw [if_pos rfl, if_pos (by omega), show at_ - d + k - (at_ - d) = k from by omega, Fk]
            · rw [if_neg e, ← hF]
              by_cases e2 : at_ - d ≤ p ∧ p < at_ - d + k
              · show (if _ then _ else _) = _
                rw [if_pos e2, if_pos (by omega)]
              · show (if _ then _ else _) = _
                rw [if_neg e2, if_neg (by omega)]
          rw [ef]
        · rintro s' ⟨c7, rfl, h7⟩
          refine ⟨_, .inl rfl, Zn.R (Zn.base n) d (at_ + 1) y, _, _, _, c7, rfl, rfl, rfl, h7, fun p hp => ?_, hy⟩
          unfold Zn.R
          rw [show at_ + 1 - 1 = at_ from rfl, ← hz at_ (by omega), ← hz p (by omega)]
          by_cases e2 : at_ - d ≤ p
          · rw [if_pos (by omega), if_pos (by omega)]; rfl
          · rw [if_neg (by omega), if_neg (by omega)]
    · rintro s' ⟨y, z, c5, c6, c7, rfl, h5, h6, h7, hz, hy⟩
      refine ⟨_, rfl, ?_⟩
      have e0 : N - (N - d) = d := by omega
      have e00 : N - d - (N - d) = 0 := by omega
      rw [e0] at hz
      rw [e00] at hy
      have hyz : fl d z = fl d (Rx) := fl_congr fun p hp => by rw [hz p hp, ← hy]; rfl
      refine ws_ret ⟨.own (fl d (Rx)), [some (Cell.val (.int n)), some (.val (.lst (fl N x))), some (.val (.tup (fl (d + 1) (bN n)))), some (.own false (fl N z)), some (.val (.int d)), c5, c6, c7], ?_, _, rfl, _, _, rfl, rfl⟩
      have ec : cutD (fl N z) none (some (d : Int)) = fl d (Rx) := by
        unfold cutD
        rw [HT.sIx_none, HT.sIx_nat, fl_len, List.drop_zero, Nat.sub_zero, fl_take _ (Nat.min_le_right _ _), Nat.min_eq_left (by omega), hyz]
      simp [fnV, fnW, initV, initW, mSeq, mIfS, mTest, mBin, mIx, mVar, mC, peek, peeks, seqD, asI, asB, onI, mAsg, mFrz, frz, mTupNew, mCons, mNil, fDm, gTupD, gsCons, gsNil, gSubD, gPut, put, ownAt, mRet, toRet, port0, mSkip, mCS, mCL, fI1, fI2, mSet, mPar, mPar3, Dm.plain, mTup, mLst, vals, mTupOf, fTup, fLen, mIf, mIfS, mNotT, mChain, mTyIs, tyD, noFrz, mIxK, mAndT, mOrT, mAndV, mOrV, mNotV, mExpr, mCallV, mCallW, rOf, mUn, fNeg, fList, fRg1, fRg2, fRg3, mRng, mSeqI, mYes, wipeS, mRep, mSlL, mNo, mPart, ec]
  obtain ⟨r, e, rfl⟩ := fnV_ws (np := 2) key
  exact e
theorem law_rest_ok {n : Nat} (h : 2 ≤ n) (h2 : n ≤ 12) (x : Nat → Int) : fn__law_rest [.int n, .lst (fl n x)] = some (.own (fl (Zn.deg n) (Zn.rest n x))) := law_rest_N h h2 (Nat.le_refl n) h2 x
theorem trus_fl (m : Nat) (x : Nat → Int) : trus (fl m x) = some ((List.range m).map fun p => x p != 0) := by
  unfold fl
  induction (List.range m) with
  | nil => rfl
  | cons p l ih => rw [List.map_cons, List.map_cons]; unfold trus; rw [ih]; rfl
theorem any_rest {n : Nat} (h : 2 ≤ n) (h2 : n ≤ 12) (x : Nat → Int) : ((List.range (Zn.deg n)).map fun p => Zn.rest n x p != 0).any id = !decide (Zn.Zx n x) := by
  rw [Bool.eq_iff_iff]
  simp only [List.any_map, List.any_eq_true, List.mem_range, Function.comp, id, bne_iff_ne, ne_eq, Bool.not_eq_true', decide_eq_false_iff_not, ← Zn.rest_iff h h2 x]
  constructor
  · rintro ⟨p, hp, e⟩ c; exact e (c p hp)
  · intro c
    refine Classical.byContradiction fun k => c fun p hp => Classical.byContradiction fun e => k ⟨p, hp, e⟩
theorem law_is_ok {n : Nat} (h : 2 ≤ n) (h2 : n ≤ 12) (x : Nat → Int) : fn__law_is [.int n, .lst (fl n x)] = some (.val (.bl (!decide (Zn.Zx n x)))) := by
  have lr := law_rest_ok h h2 x
  have hd := deg_le h h2
  have tr : trus ((List.range (Zn.deg n)).map fun p => D.bl (Zn.rest n x p != 0)) = some ((List.range (Zn.deg n)).map fun p => Zn.rest n x p != 0) := by
    induction (List.range (Zn.deg n)) with
    | nil => rfl
    | cons p l ih => rw [List.map_cons, List.map_cons]; unfold trus; rw [ih]; rfl
  have an := any_rest h h2 x
  have key := mlc_pure (vs := [2]) (mi := (mSeqI (mCallV fn__law_rest (mCons (mFrz (mVar 0)) (mCons (mFrz (mVar 1)) mNil))))) (g := gPut 2) (t := mYes) (m := (mBin fNe (mVar 2) (mC (.int 0)))) (fun p : Nat => D.int (Zn.rest n x p)) (fun _ => true) (fun p : Nat => D.bl (Zn.rest n x p != 0)) (List.range (Zn.deg n)) (s := [some (Cell.val (.int n)), some (.val (.lst (fl n x))), none]) (s1 := [some (Cell.val (.int n)), some (.val (.lst (fl n x))), none]) (s2 := [some (Cell.val (.int n)), some (.val (.lst (fl n x))), none])
    (by simp [fnV, fnW, initV, initW, mSeq, mIfS, mTest, mBin, mIx, mVar, mC, peek, peeks, seqD, asI, asB, onI, mAsg, mFrz, frz, mTupNew, mCons, mNil, fDm, gTupD, gsCons, gsNil, gSubD, gPut, put, ownAt, mRet, toRet, port0, mSkip, mCS, mCL, fI1, fI2, mSet, mPar, mPar3, Dm.plain, mTup, mLst, vals, mTupOf, fTup, fLen, mIf, mIfS, mNotT, mChain, mTyIs, tyD, noFrz, mIxK, mAndT, mOrT, mAndV, mOrV, mNotV, mExpr, mCallV, mCallW, rOf, mUn, fNeg, fList, fRg1, fRg2, fRg3, mRng, mSeqI, mYes, wipeS, mRep, lr]; rfl) (by simp; omega) (by
      intro p hp
      refine ⟨[some (Cell.val (.int n)), some (.val (.lst (fl n x))), some (.val (.int (Zn.rest n x p)))], by simp [gPut, put, wipeS], rfl, fun _ => ?_, rfl⟩
      by_cases e : Zn.rest n x p = 0 <;> simp [fnV, fnW, initV, initW, mSeq, mIfS, mTest, mBin, mIx, mVar, mC, peek, peeks, seqD, asI, asB, onI, mAsg, mFrz, frz, mTupNew, mCons, mNil, fDm, gTupD, gsCons, gsNil, gSubD, gPut, put, ownAt, mRet, toRet, port0, mSkip, mCS, mCL, fI1, fI2, mSet, mPar, mPar3, Dm.plain, mTup, mLst, vals, mTupOf, fTup, fLen, mIf, mIfS, mNotT, mChain, mTyIs, tyD, noFrz, mIxK, mAndT, mOrT, mAndV, mOrV, mNotV, mExpr, mCallV, mCallW, rOf, mUn, fNeg, fList, fRg1, fRg2, fRg3, mRng, mSeqI, mYes, wipeS, mRep, fNe_int, e]) rfl
  rw [filter_all] at key
  unfold fn__law_is b__law_is fnV
  rw [if_pos (show [D.int n, D.lst (fl n x)].length = 2 from rfl), show initV 3 [.int n, .lst (fl n x)] = [some (Cell.val (.int n)), some (.val (.lst (fl n x))), none] from rfl]
  simp only [mRet, mCS, mCons, key, mNil, Option.bind_some, peeks, peek, fAnyX, seqD, tr, an, toRet]
theorem rest_round_ok {n : Nat} (h : 2 ≤ n) (h2 : n ≤ 12) (x : Nat → Int) : fn_rest_by_round [.int n, .lst (fl n x)] = some (.val (.tup (fl (Zn.deg n) (Zn.rest n x)))) := by
  have hd := deg_le h h2
  have lb := round_ok h h2
  generalize hdn : Zn.deg n = d at hd lb
  have key : WS b_rest_by_round (initV 8 [.int n, .lst (fl n x)]) fun o => ∃ r s, o = .rt r s ∧ r = .val (.tup (fl d (Zn.rest n x))) := by
    unfold b_rest_by_round
    refine ws_step (s1 := [some (.val (.int n)), some (.val (.lst (fl n x))), some (.val (.tup (fl (d + 1) (bN n)))), none, none, none, none, none]) (by simp [fnV, fnW, initV, initW, mSeq, mIfS, mTest, mBin, mIx, mVar, mC, peek, peeks, seqD, asI, asB, onI, mAsg, mFrz, frz, mTupNew, mCons, mNil, fDm, gTupD, gsCons, gsNil, gSubD, gPut, put, ownAt, mRet, toRet, port0, mSkip, mCS, mCL, fI1, fI2, mSet, mPar, mPar3, Dm.plain, mTup, mLst, vals, mTupOf, fTup, fLen, mIf, mIfS, mNotT, mChain, mTyIs, tyD, noFrz, mIxK, mAndT, mOrT, mAndV, mOrV, mNotV, mExpr, mCallV, mCallW, rOf, mUn, fNeg, fList, fRg1, fRg2, fRg3, mRng, mSeqI, mYes, wipeS, mRep, mIxK, lb]) ?_
    refine ws_step (s1 := [some (.val (.int n)), some (.val (.lst (fl n x))), some (.val (.tup (fl (d + 1) (bN n)))), some (.val (.int d)), none, none, none, none]) (by simp [fnV, fnW, initV, initW, mSeq, mIfS, mTest, mBin, mIx, mVar, mC, peek, peeks, seqD, asI, asB, onI, mAsg, mFrz, frz, mTupNew, mCons, mNil, fDm, gTupD, gsCons, gsNil, gSubD, gPut, put, ownAt, mRet, toRet, port0, mSkip, mCS, mCL, fI1, fI2, mSet, mPar, mPar3, Dm.plain, mTup, mLst, vals, mTupOf, fTup, fLen, mIf, mIfS, mNotT, mChain, mTyIs, tyD, noFrz, mIxK, mAndT, mOrT, mAndV, mOrV, mNotV, mExpr, mCallV, mCallW, rOf, mUn, fNeg, fList, fRg1, fRg2, fRg3, mRng, mSeqI, mYes, wipeS, mRep, fl_len]) ?_
    refine ws_step (s1 := [some (.val (.int n)), some (.val (.lst (fl n x))), some (.val (.tup (fl (d + 1) (bN n)))), some (.val (.int d)), some (.own false (fl n x)), none, none, none]) (by simp [fnV, fnW, initV, initW, mSeq, mIfS, mTest, mBin, mIx, mVar, mC, peek, peeks, seqD, asI, asB, onI, mAsg, mFrz, frz, mTupNew, mCons, mNil, fDm, gTupD, gsCons, gsNil, gSubD, gPut, put, ownAt, mRet, toRet, port0, mSkip, mCS, mCL, fI1, fI2, mSet, mPar, mPar3, Dm.plain, mTup, mLst, vals, mTupOf, fTup, fLen, mIf, mIfS, mNotT, mChain, mTyIs, tyD, noFrz, mIxK, mAndT, mOrT, mAndV, mOrV, mNotV, mExpr, mCallV, mCallW, rOf, mUn, fNeg, fList, fRg1, fRg2, fRg3, mRng, mSeqI, mYes, wipeS, mRep]) ?_
    refine ws_seq ?_
    obtain ⟨s', e, y, c5, c6, c7, rfl, hy⟩ : ∃ s', mWhile (fun _ => 100) (mTest (mBin fGt (mCS fLen (mCons (mVar 4) mNil)) (mVar 3))) (mSeq (mSet 5 (mPop (mVar 4)))
  (mIfS (mTest (mBin fNe (mVar 5) (mC (.int 0)))) (mSeq (mSet 6 (mBin fSub (mCS fLen (mCons (mVar 4) mNil)) (mVar 3)))
  (mFor (mRng fRg1 (mCons (mVar 3) mNil)) (gPut 7) (mAugS (fun i j => i - j) (mVar 4) (mBin fAdd (mVar 6) (mVar 7)) (mBin fMul (mVar 5) (mIx (mVar 2) (mVar 7)))))) mSkip)) [some (.val (.int n)), some (.val (.lst (fl n x))), some (.val (.tup (fl (d + 1) (bN n)))), some (.val (.int d)), some (.own false (fl n x)), none, none, none] = some (.nx s') ∧
        ∃ (y : Nat → Int) (c5 c6 c7 : Option Cell), s' = [some (Cell.val (.int n)), some (.val (.lst (fl n x))), some (.val (.tup (fl (d + 1) (bN n)))), some (.val (.int d)), some (.own false (fl (d) y)), c5, c6, c7] ∧ Zn.rdN (Zn.base n) d 0 y = Zn.rest n x := by
      refine whil_run (fun k s => ∃ (y : Nat → Int) (c5 c6 c7 : Option Cell), s = [some (Cell.val (.int n)), some (.val (.lst (fl n x))), some (.val (.tup (fl (d + 1) (bN n)))), some (.val (.int d)), some (.own false (fl (d + k) y)), c5, c6, c7] ∧ Fr c5 = true ∧ Fr c6 = true ∧ Fr c7 = true ∧ Zn.rdN (Zn.base n) d k y = Zn.rest n x) _ (n - d) 100 _ (by omega) ⟨x, none, none, none, ?_, rfl, rfl, rfl, ?_⟩ ?_ ?_
      · rw [show d + (n - d) = n from by omega]
      · rw [← hdn]; rfl
      · rintro k s ⟨y, c5, c6, c7, rfl, h5, h6, h7, hy⟩
        unfold Zn.rdN at hy
        refine ⟨true, [some (Cell.val (.int n)), some (.val (.lst (fl n x))), some (.val (.tup (fl (d + 1) (bN n)))), some (.val (.int d)), some (.own false (fl (d + (k + 1)) y)), c5, c6, c7], ?_, rfl, ?_⟩
        · have : ((d + (k + 1) : Nat) : Int) > d := by omega
          simp [fnV, fnW, initV, initW, mSeq, mIfS, mTest, mBin, mIx, mVar, mC, peek, peeks, seqD, asI, asB, onI, mAsg, mFrz, frz, mTupNew, mCons, mNil, fDm, gTupD, gsCons, gsNil, gSubD, gPut, put, ownAt, mRet, toRet, port0, mSkip, mCS, mCL, fI1, fI2, mSet, mPar, mPar3, Dm.plain, mTup, mLst, vals, mTupOf, fTup, fLen, mIf, mIfS, mNotT, mChain, mTyIs, tyD, noFrz, mIxK, mAndT, mOrT, mAndV, mOrV, mNotV, mExpr, mCallV, mCallW, rOf, mUn, fNeg, fList, fRg1, fRg2, fRg3, mRng, mSeqI, mYes, wipeS, mRep, fl_len]
          omega
        have hg : (fl (d + (k + 1)) y)[d + (k + 1) - 1]? = some (.int (y (d + k))) := fl_get y (by omega)
        have hdl : (fl (d + (k + 1)) y).dropLast = fl (d + k) y := fl_drop (d + k) y
        refine ws_step (s1 := [some (Cell.val (.int n)), some (.val (.lst (fl n x))), some (.val (.tup (fl (d + 1) (bN n)))), some (.val (.int d)), some (.own false (fl (d + k) y)), some (.val (.int (y (d + k)))), c6, c7]) ?_ ?_
        · have : mPop (mVar 4) [some (Cell.val (.int n)), some (.val (.lst (fl n x))), some (.val (.tup (fl (d + 1) (bN n)))), some (.val (.int d)), some (.own false (fl (d + (k + 1)) y)), c5, c6, c7] = some (.val (.int (y (d + k))), [some (Cell.val (.int n)), some (.val (.lst (fl n x))), some (.val (.tup (fl (d + 1) (bN n)))), some (.val (.int d)), some (.own false (fl (d + k) y)), c5, c6, c7]) := by
            have e1 : mVar 4 [some (Cell.val (.int n)), some (.val (.lst (fl n x))), some (.val (.tup (fl (d + 1) (bN n)))), some (.val (.int d)), some (.own false (fl (d + (k + 1)) y)), c5, c6, c7] = some (.slot 4, [some (Cell.val (.int n)), some (.val (.lst (fl n x))), some (.val (.tup (fl (d + 1) (bN n)))), some (.val (.int d)), some (.own false (fl (d + (k + 1)) y)), c5, c6, c7]) := rfl
            unfold mPop
            rw [e1]
            show ((fl (d + (k + 1)) y)[(fl (d + (k + 1)) y).length - 1]?).bind _ = _
            rw [fl_len, hg]
            show some (_, List.set _ 4 (some (Cell.own false (fl (d + (k + 1)) y).dropLast))) = _
            rw [hdl]
            rfl
          unfold mSet
          rw [this]
          show (put 5 _ _).bind _ = _
          rw [put_valF (c := c5) rfl h5]
          rfl
        by_cases h0 : y (d + k) = 0
        · refine ws_ifF (by simp [fnV, fnW, initV, initW, mSeq, mIfS, mTest, mBin, mIx, mVar, mC, peek, peeks, seqD, asI, asB, onI, mAsg, mFrz, frz, mTupNew, mCons, mNil, fDm, gTupD, gsCons, gsNil, gSubD, gPut, put, ownAt, mRet, toRet, port0, mSkip, mCS, mCL, fI1, fI2, mSet, mPar, mPar3, Dm.plain, mTup, mLst, vals, mTupOf, fTup, fLen, mIf, mIfS, mNotT, mChain, mTyIs, tyD, noFrz, mIxK, mAndT, mOrT, mAndV, mOrV, mNotV, mExpr, mCallV, mCallW, rOf, mUn, fNeg, fList, fRg1, fRg2, fRg3, mRng, mSeqI, mYes, wipeS, mRep, fNe_int, h0]; rfl) ?_
          refine ws_skip ⟨_, .inl rfl, y, _, c6, c7, rfl, rfl, h6, h7, ?_⟩
          rw [← hy]
          congr 1
          funext p
          unfold Zn.R
          rw [show d + k + 1 - 1 = d + k from rfl, h0, Int.zero_mul, Int.sub_zero, ite_self]
        · refine ws_ifT (by simp [fnV, fnW, initV, initW, mSeq, mIfS, mTest, mBin, mIx, mVar, mC, peek, peeks, seqD, asI, asB, onI, mAsg, mFrz, frz, mTupNew, mCons, mNil, fDm, gTupD, gsCons, gsNil, gSubD, gPut, put, ownAt, mRet, toRet, port0, mSkip, mCS, mCL, fI1, fI2, mSet, mPar, mPar3, Dm.plain, mTup, mLst, vals, mTupOf, fTup, fLen, mIf, mIfS, mNotT, mChain, mTyIs, tyD, noFrz, mIxK, mAndT, mOrT, mAndV, mOrV, mNotV, mExpr, mCallV, mCallW, rOf, mUn, fNeg, fList, fRg1, fRg2, fRg3, mRng, mSeqI, mYes, wipeS, mRep, fNe_int, h0]; rfl) ?_
          refine ws_step (s1 := [some (Cell.val (.int n)), some (.val (.lst (fl n x))), some (.val (.tup (fl (d + 1) (bN n)))), some (.val (.int d)), some (.own false (fl (d + k) y)), some (.val (.int (y (d + k)))), some (.val (.int k)), c7]) ?_ ?_
          · have : mBin fSub (mCS fLen (mCons (mVar 4) mNil)) (mVar 3) [some (Cell.val (.int n)), some (.val (.lst (fl n x))), some (.val (.tup (fl (d + 1) (bN n)))), some (.val (.int d)), some (.own false (fl (d + k) y)), some (.val (.int (y (d + k)))), c6, c7] = some (.val (.int k), [some (Cell.val (.int n)), some (.val (.lst (fl n x))), some (.val (.tup (fl (d + 1) (bN n)))), some (.val (.int d)), some (.own false (fl (d + k) y)), some (.val (.int (y (d + k)))), c6, c7]) := by
              simp [fnV, fnW, initV, initW, mSeq, mIfS, mTest, mBin, mIx, mVar, mC, peek, peeks, seqD, asI, asB, onI, mAsg, mFrz, frz, mTupNew, mCons, mNil, fDm, gTupD, gsCons, gsNil, gSubD, gPut, put, ownAt, mRet, toRet, port0, mSkip, mCS, mCL, fI1, fI2, mSet, mPar, mPar3, Dm.plain, mTup, mLst, vals, mTupOf, fTup, fLen, mIf, mIfS, mNotT, mChain, mTyIs, tyD, noFrz, mIxK, mAndT, mOrT, mAndV, mOrV, mNotV, mExpr, mCallV, mCallW, rOf, mUn, fNeg, fList, fRg1, fRg2, fRg3, mRng, mSeqI, mYes, wipeS, mRep, fl_len]
              omega
            unfold mSet
            rw [this]
            show (put 6 _ _).bind _ = _
            rw [put_valF (c := c6) rfl h6]
            rfl
          refine ws_for ⟨(List.range d).map nI, [some (Cell.val (.int n)), some (.val (.lst (fl n x))), some (.val (.tup (fl (d + 1) (bN n)))), some (.val (.int d)), some (.own false (fl (d + k) y)), some (.val (.int (y (d + k)))), some (.val (.int k)), c7], rng1_of (i := (d : Int)) (rs := [.val (.int (d : Int))]) d (by simp [fnV, fnW, initV, initW, mSeq, mIfS, mTest, mBin, mIx, mVar, mC, peek, peeks, seqD, asI, asB, onI, mAsg, mFrz, frz, mTupNew, mCons, mNil, fDm, gTupD, gsCons, gsNil, gSubD, gPut, put, ownAt, mRet, toRet, port0, mSkip, mCS, mCL, fI1, fI2, mSet, mPar, mPar3, Dm.plain, mTup, mLst, vals, mTupOf, fTup, fLen, mIf, mIfS, mNotT, mChain, mTyIs, tyD, noFrz, mIxK, mAndT, mOrT, mAndV, mOrV, mNotV, mExpr, mCallV, mCallW, rOf, mUn, fNeg, fList, fRg1, fRg2, fRg3, mRng, mSeqI, mYes, wipeS, mRep]) rfl rfl (by omega), ws_rng
            (fun i s => ∃ (c7 : Option Cell), s = [some (Cell.val (.int n)), some (.val (.lst (fl n x))), some (.val (.tup (fl (d + 1) (bN n)))), some (.val (.int d)), some (.own false (fl (d + k) (fun p => if k ≤ p ∧ p < k + i then y p - y (d + k) * bN n (p - k) else y p))), some (.val (.int (y (d + k)))), some (.val (.int k)), c7] ∧ Fr c7 = true) d ⟨c7, ?_, h7⟩ ?_ ?_⟩
          · rw [show (fun p => if k ≤ p ∧ p < k + 0 then y p - y (d + k) * bN n (p - k) else y p) = y from by
              funext p; rw [if_neg (by omega)]]
          · rintro i s hi ⟨c7, rfl, h7⟩
            generalize hF : (fun p => if k ≤ p ∧ p < k + i then y p - y (d + k) * bN n (p - k) else y p) = F
            have Fk : F (k + i) = y (k + i) := by rw [← hF]; exact if_neg (by omega)
            refine ⟨_, put_valF (c := c7) rfl h7, ?_⟩
            have a1 := atI_fl F (i := (k : Int) + i) (j := k + i) (by omega) (m := d + k) (by omega)
            have a2 := atI_fl (bN n) (i := (i : Int)) (j := i) rfl (m := d + 1) (by omega)
            have a3 := ixN_fl F (i := (k : Int) + i) (j := k + i) (by omega) (m := d + k) (by omega)
            have mm : CMul (y (d + k)) (bN n i) := .inr (base_small h h2 i)
            have a4 := fl_set (m := d + k) (p := k + i) F (F (k + i) - y (d + k) * bN n i) (by omega)
            refine ⟨_, by simp [fnV, fnW, initV, initW, mSeq, mIfS, mTest, mBin, mIx, mVar, mC, peek, peeks, seqD, asI, asB, onI, mAsg, mFrz, frz, mTupNew, mCons, mNil, fDm, gTupD, gsCons, gsNil, gSubD, gPut, put, ownAt, mRet, toRet, port0, mSkip, mCS, mCL, fI1, fI2, mSet, mPar, mPar3, Dm.plain, mTup, mLst, vals, mTupOf, fTup, fLen, mIf, mIfS, mNotT, mChain, mTyIs, tyD, noFrz, mIxK, mAndT, mOrT, mAndV, mOrV, mNotV, mExpr, mCallV, mCallW, rOf, mUn, fNeg, fList, fRg1, fRg2, fRg3, mRng, mSeqI, mYes, wipeS, mRep, mAugS, a1, a2, a3, mm, a4]; rfl, _, .inl rfl, some (.val (.int i)), ?_, rfl⟩
            have ef : fl (d + k) (fun q => if q = k + i then F (k + i) - y (d + k) * bN n i else F q) = fl (d + k) (fun p => if k ≤ p ∧ p < k + (i + 1) then y p - y (d + k) * bN n (p - k) else y p) := by
              refine fl_congr fun p hp => ?_
              by_cases e : p = k + i
              · subst e
                rw [if_pos rfl, if_pos (by omega), show k + i - k = i from by omega, Fk]
              · rw [if_neg e, ← hF]
                by_cases e2 : k ≤ p ∧ p < k + i
                · show (if _ then _ else _) = _
                  rw [if_pos e2, if_pos (by omega)]
                · show (if _ then _ else _) = _
                  rw [if_neg e2, if_neg (by omega)]
            rw [ef]
          · rintro s' ⟨c7, rfl, h7⟩
            refine ⟨_, .inl rfl, _, _, _, c7, rfl, rfl, rfl, h7, ?_⟩
            rw [← hy]
            congr 1
            funext p
            unfold Zn.R
            rw [show d + k + 1 - 1 = d + k from rfl, show d + k - d = k from by omega]
            by_cases e2 : k ≤ p ∧ p < k + d
            · rw [if_pos e2, if_pos (by omega)]; rfl
            · rw [if_neg e2, if_neg (by omega)]
      · rintro s ⟨y, c5, c6, c7, rfl, h5, h6, h7, hy⟩
        refine ⟨false, [some (Cell.val (.int n)), some (.val (.lst (fl n x))), some (.val (.tup (fl (d + 1) (bN n)))), some (.val (.int d)), some (.own false (fl (d) y)), c5, c6, c7], ?_, rfl, y, c5, c6, c7, rfl, hy⟩
        simp [fnV, fnW, initV, initW, mSeq, mIfS, mTest, mBin, mIx, mVar, mC, peek, peeks, seqD, asI, asB, onI, mAsg, mFrz, frz, mTupNew, mCons, mNil, fDm, gTupD, gsCons, gsNil, gSubD, gPut, put, ownAt, mRet, toRet, port0, mSkip, mCS, mCL, fI1, fI2, mSet, mPar, mPar3, Dm.plain, mTup, mLst, vals, mTupOf, fTup, fLen, mIf, mIfS, mNotT, mChain, mTyIs, tyD, noFrz, mIxK, mAndT, mOrT, mAndV, mOrV, mNotV, mExpr, mCallV, mCallW, rOf, mUn, fNeg, fList, fRg1, fRg2, fRg3, mRng, mSeqI, mYes, wipeS, mRep, fl_len]
    refine ⟨_, e, _, rfl, ?_⟩
    have hyz : y = Zn.rest n x := hy
    subst hyz
    refine ws_ret ⟨.val (.tup (fl d (Zn.rest n x))), [some (Cell.val (.int n)), some (.val (.lst (fl n x))), some (.val (.tup (fl (d + 1) (bN n)))), some (.val (.int d)), some (.own false (fl (d) (Zn.rest n x))), c5, c6, c7], by simp [fnV, fnW, initV, initW, mSeq, mIfS, mTest, mBin, mIx, mVar, mC, peek, peeks, seqD, asI, asB, onI, mAsg, mFrz, frz, mTupNew, mCons, mNil, fDm, gTupD, gsCons, gsNil, gSubD, gPut, put, ownAt, mRet, toRet, port0, mSkip, mCS, mCL, fI1, fI2, mSet, mPar, mPar3, Dm.plain, mTup, mLst, vals, mTupOf, fTup, fLen, mIf, mIfS, mNotT, mChain, mTyIs, tyD, noFrz, mIxK, mAndT, mOrT, mAndV, mOrV, mNotV, mExpr, mCallV, mCallW, rOf, mUn, fNeg, fList, fRg1, fRg2, fRg3, mRng, mSeqI, mYes, wipeS, mRep], _, rfl, _, _, rfl, rfl⟩
  obtain ⟨r, e, rfl⟩ := fnV_ws (np := 2) key
  exact e
end K41
set_option Elab.async false
set_option linter.all false
set_option maxRecDepth 100000
set_option maxHeartbeats 4000000
namespace K41
open PySem PySem.Spec L2 Dm
set_option autoImplicit false
/-- how often each rest comes -/
def X (n : Nat) (l : List Nat) (s : Nat) : Nat → Int := fun k => ((l.countP fun j => j * s % n == k : Nat) : Int)
theorem X_nil (n s : Nat) : X n [] s = fun _ => 0 := rfl
theorem X_snoc (n : Nat) (l : List Nat) (s j : Nat) : X n (l ++ [j]) s = fun k => if k = j * s % n then X n l s k + 1 else X n l s k := by
  funext k
  unfold X
  rw [List.countP_append, List.countP_singleton]
  by_cases e : k = j * s % n
  · subst e; simp
  · rw [if_neg e, if_neg (by simp; exact fun h => e h.symm)]; simp
theorem rep_fl (n : Nat) : (List.replicate n [D.int 0]).flatten = fl n fun _ => 0 := by
  unfold fl
  induction n with
  | zero => rfl
  | succ n ih => rw [List.replicate_succ', List.flatten_append, ih, List.range_succ, List.map_append]; rfl
theorem prod_mod (a b n : Nat) : ((a : Int) * b).fmod n = ((a * b % n : Nat) : Int) := by
  rw [← Int.natCast_mul, fm_nat]
theorem mRep_ok {s : S} {n : Nat} (h : n ≤ 1000) {i : Nat} (hv : mVar i s = some (.val (.int n), s)) : mRep (mLst (mCons (mFrz (mC (.int 0))) mNil)) (mVar i) s = some (.own (fl n fun _ => 0), s) := by
  have e : mLst (mCons (mFrz (mC (.int 0))) mNil) s = some (.own [.int 0], s) := rfl
  unfold mRep
  rw [e]
  show (mVar i s).bind _ = _
  rw [hv]
  show (if [D.int 0].length * ((n : Int)).toNat ≤ 100000 ∧ small n = true then _ else _) = _
  rw [if_pos ⟨by rw [Int.toNat_natCast]; simp; omega, small_nat (by omega)⟩, Int.toNat_natCast, rep_fl]
theorem zero_ok {n : Nat} (h : 2 ≤ n) (h2 : n ≤ 12) {l : List Nat} (hl : ∀ j ∈ l, j < n) {s : Nat} (hs : s < n) : fn_is_zero_step [.int n, .tup (l.map nI), .int s] = some (.val (.bl (decide (Zn.Zx n (X n l s))))) := by
  have key : WS b_is_zero_step (initV 5 [.int n, .tup (l.map nI), .int s]) fun o => ∃ r s', o = .rt r s' ∧ r = .val (.bl (decide (Zn.Zx n (X n l s)))) := by
    unfold b_is_zero_step
    refine ws_step (s1 := [some (.val (.int n)), some (.val (.tup (l.map nI))), some (.val (.int s)), some (.own false (fl n (X n [] s))), none]) ?_ ?_
    · unfold mSet
      rw [mRep_ok (n := n) (by omega) rfl]
      rfl
    refine ws_seq (ws_for ⟨l.map nI, [some (.val (.int n)), some (.val (.tup (l.map nI))), some (.val (.int s)), some (.own false (fl n (X n [] s))), none], by simp [fnV, fnW, initV, initW, mSeq, mIfS, mTest, mBin, mIx, mVar, mC, peek, peeks, seqD, asI, asB, onI, mAsg, mFrz, frz, mTupNew, mCons, mNil, fDm, gTupD, gsCons, gsNil, gSubD, gPut, put, ownAt, mRet, toRet, port0, mSkip, mCS, mCL, fI1, fI2, mSet, mPar, mPar3, Dm.plain, mTup, mLst, vals, mTupOf, fTup, fLen, mIf, mIfS, mNotT, mChain, mTyIs, tyD, noFrz, mIxK, mAndT, mOrT, mAndV, mOrV, mNotV, mExpr, mCallV, mCallW, rOf, mUn, fNeg, fList, fRg1, fRg2, fRg3, mRng, mSeqI, mYes, wipeS, mRep], ws_list nI (fun dn t => ∃ c4, t = [some (.val (.int n)), some (.val (.tup (l.map nI))), some (.val (.int s)), some (.own false (fl n (X n dn s))), c4] ∧ Fr c4 = true) l ⟨none, rfl, rfl⟩ ?_ ?_⟩)
    · rintro dn j rest t hd ⟨c4, rfl, h4⟩
      refine ⟨_, put_valF (c := c4) rfl h4, ?_⟩
      have hk : j * s % n < n := Nat.mod_lt _ (by omega)
      have a1 := atI_fl (X n dn s) (i := ((j * s % n : Nat) : Int)) rfl hk
      have a3 := ixN_fl (X n dn s) (i := ((j * s % n : Nat) : Int)) rfl hk
      have a4 := fl_set (X n dn s) (X n dn s (j * s % n) + 1) hk
      have n0 : (n : Int) ≠ 0 := by omega
      have n1 : n ≠ 0 := by omega
      have j64 : j < 1000000 := by have := hl j (by rw [hd]; simp); omega
      refine ⟨_, augS_of (k := 3) (i := ((j * s % n : Nat) : Int)) (a := X n dn s (j * s % n)) (b := 1) rfl (mBin_of (mBin_of rfl rfl (fMul_nat j64)) rfl (fMod_nat n1)) rfl a1 rfl a3, _, .inl rfl, some (.val (.int j)), ?_, rfl⟩
      show List.set _ 3 (some (Cell.own false ((fl n (X n dn s)).set (j * s % n) (.int (X n dn s (j * s % n) + 1))))) = _
      rw [a4]
      rw [X_snoc]
      refine congrArg (fun z => [_, _, _, some (Cell.own false z), _]) ?_
      refine fl_congr fun p hp => ?_
      by_cases e : p = j * s % n
      · subst e; simp
      · rw [if_neg e, if_neg e]
    · rintro t ⟨c4, rfl, h4⟩
      refine ⟨_, rfl, ?_⟩
      have rr := rest_round_ok h h2 (X n l s)
      have tr := trus_fl (Zn.deg n) (Zn.rest n (X n l s))
      have an := any_rest h h2 (X n l s)
      refine ws_ret ?_
      refine ⟨.val (.bl (decide (Zn.Zx n (X n l s)))), _, by simp only [fnV, fnW, initV, initW, mSeq, mIfS, mTest, mBin, mIx, mVar, mC, peek, peeks, seqD, asI, asB, onI, mAsg, mFrz, frz, mTupNew, mCons, mNil, fDm, gTupD, gsCons, gsNil, gSubD, gPut, put, ownAt, mRet, toRet, port0, mSkip, mCS, mCL, fI1, fI2, mSet, mPar, mPar3, Dm.plain, mTup, mLst, vals, mTupOf, fTup, fLen, mIf, mIfS, mNotT, mChain, mTyIs, tyD, noFrz, mIxK, mAndT, mOrT, mAndV, mOrV, mNotV, mExpr, mCallV, mCallW, rOf, mUn, fNeg, fList, fRg1, fRg2, fRg3, mRng, mSeqI, mYes, wipeS, mRep, fAnyX, rr, tr, an, Option.bind_some, List.getElem?_cons_zero, List.getElem?_cons_succ, List.set_cons_zero, List.set_cons_succ, id, Bool.not_not]; rfl, _, rfl, _, _, rfl, rfl⟩
  obtain ⟨r, e, rfl⟩ := fnV_ws (np := 3) key
  exact e
/-! ### the law's own zeros -/
def zs (n : Nat) (l : List Nat) : List Nat := (List.range n).filter fun s => decide (Zn.Zx n (X n l s))
theorem zs_lt {n : Nat} {l : List Nat} {s : Nat} (h : s ∈ zs n l) : s < n := List.mem_range.1 (List.mem_filter.1 h).1
end K41
set_option Elab.async false
set_option linter.all false
set_option maxRecDepth 100000
set_option maxHeartbeats 4000000
namespace K41
open PySem PySem.Spec L2 Dm
set_option autoImplicit false
theorem whole_ok (a lo hi : Int) : fn_is_whole_from [.int a, .int lo, .int hi] = some (.val (.bl (decide (lo ≤ a) && decide (a ≤ hi)))) := by
  by_cases h : lo ≤ a
  · simp [fn_is_whole_from, b_is_whole_from, fnV, fnW, initV, initW, mSeq, mIfS, mTest, mBin, mIx, mVar, mC, peek, peeks, seqD, asI, asB, onI, mAsg, mFrz, frz, mTupNew, mCons, mNil, fDm, gTupD, gsCons, gsNil, gSubD, gPut, put, ownAt, mRet, toRet, port0, mSkip, mCS, mCL, fI1, fI2, mSet, mPar, mPar3, Dm.plain, mTup, mLst, vals, mTupOf, fTup, fLen, mIf, mIfS, mNotT, mChain, mTyIs, tyD, noFrz, mIxK, mAndT, mOrT, mAndV, mOrV, mNotV, mExpr, mCallV, mCallW, rOf, mUn, fNeg, fList, fRg1, fRg2, fRg3, mRng, mSeqI, mYes, wipeS, mRep, mTyIs, noFrz, tyD, mChain, h]
  · simp [fn_is_whole_from, b_is_whole_from, fnV, fnW, initV, initW, mSeq, mIfS, mTest, mBin, mIx, mVar, mC, peek, peeks, seqD, asI, asB, onI, mAsg, mFrz, frz, mTupNew, mCons, mNil, fDm, gTupD, gsCons, gsNil, gSubD, gPut, put, ownAt, mRet, toRet, port0, mSkip, mCS, mCL, fI1, fI2, mSet, mPar, mPar3, Dm.plain, mTup, mLst, vals, mTupOf, fTup, fLen, mIf, mIfS, mNotT, mChain, mTyIs, tyD, noFrz, mIxK, mAndT, mOrT, mAndV, mOrV, mNotV, mExpr, mCallV, mCallW, rOf, mUn, fNeg, fList, fRg1, fRg2, fRg3, mRng, mSeqI, mYes, wipeS, mRep, mTyIs, noFrz, tyD, mChain, h]
theorem size_ok {n : Nat} (h : 2 ≤ n) (h2 : n ≤ 12) : fn_is_size [.int n] = some (.val (.bl true)) := by
  have w := whole_ok n 2 12
  rw [decide_eq_true (by omega), decide_eq_true (by omega)] at w
  simp [fn_is_size, b_is_size, fnV, fnW, initV, initW, mSeq, mIfS, mTest, mBin, mIx, mVar, mC, peek, peeks, seqD, asI, asB, onI, mAsg, mFrz, frz, mTupNew, mCons, mNil, fDm, gTupD, gsCons, gsNil, gSubD, gPut, put, ownAt, mRet, toRet, port0, mSkip, mCS, mCL, fI1, fI2, mSet, mPar, mPar3, Dm.plain, mTup, mLst, vals, mTupOf, fTup, fLen, mIf, mIfS, mNotT, mChain, mTyIs, tyD, noFrz, mIxK, mAndT, mOrT, mAndV, mOrV, mNotV, mExpr, mCallV, mCallW, rOf, mUn, fNeg, fList, fRg1, fRg2, fRg3, mRng, mSeqI, mYes, wipeS, mRep, w]
theorem check_size_ok {n : Nat} (h : 2 ≤ n) (h2 : n ≤ 12) : fn_check_size [.int n] = some (.val .non) := by
  have w := size_ok h h2
  simp [fn_check_size, b_check_size, fnV, fnW, initV, initW, mSeq, mIfS, mTest, mBin, mIx, mVar, mC, peek, peeks, seqD, asI, asB, onI, mAsg, mFrz, frz, mTupNew, mCons, mNil, fDm, gTupD, gsCons, gsNil, gSubD, gPut, put, ownAt, mRet, toRet, port0, mSkip, mCS, mCL, fI1, fI2, mSet, mPar, mPar3, Dm.plain, mTup, mLst, vals, mTupOf, fTup, fLen, mIf, mIfS, mNotT, mChain, mTyIs, tyD, noFrz, mIxK, mAndT, mOrT, mAndV, mOrV, mNotV, mExpr, mCallV, mCallW, rOf, mUn, fNeg, fList, fRg1, fRg2, fRg3, mRng, mSeqI, mYes, wipeS, mRep, w]
theorem zp_nI : ∀ l m : List Nat, zpD (l.map nI) (m.map nI) = (l.zip m).map fun q => D.tup [nI q.1, nI q.2]
  | [], _ => by simp [zpD]
  | _ :: _, [] => by simp [zpD]
  | x :: l, y :: m => by
    have := zp_nI l m
    unfold zpD at *
    rw [List.map_cons, List.map_cons, List.zipWith_cons_cons, this]
    rfl
theorem pair_lt : ∀ {l : List Nat}, l.Pairwise (· < ·) → ∀ q ∈ l.zip l.tail, q.1 < q.2
  | [], _, q, h => by simp at h
  | [x], _, q, h => by simp at h
  | x :: y :: l, p, q, h => by
    have h : q ∈ (x, y) :: (y :: l).zip l := h
    rcases List.mem_cons.1 h with rfl | h
    · exact (List.pairwise_cons.1 p).1 y (by simp)
    · exact pair_lt (l := y :: l) (List.pairwise_cons.1 p).2 q h
theorem bools_all {α : Type} (xs : List α) : boolsD (xs.map fun _ => D.bl true) = some (xs.map fun _ => true) := by
  induction xs with
  | nil => rfl
  | cons x xs ih => rw [List.map_cons, List.map_cons]; unfold boolsD; rw [ih]; rfl
theorem all_true {α : Type} (xs : List α) : (xs.map fun _ => true).all id = true := by simp
theorem cut_tail (l : List Nat) : cutD (l.map nI) (some 1) none = l.tail.map nI := by
  unfold cutD
  have : HT.sIx (l.map nI).length 0 (some 1) = min 1 (l.map nI).length := HT.sIx_nat _ _ 1
  rw [HT.sIx_none, this]
  cases l with
  | nil => rfl
  | cons x l =>
    rw [List.length_map, List.length_cons, Nat.min_eq_left (by omega)]
    show (((x :: l).map nI).drop 1).take _ = _
    rw [List.map_cons, List.drop_succ_cons, List.drop_zero, Nat.add_sub_cancel, List.take_of_length_le (by simp)]
    rfl
theorem is_lot_ok {n : Nat} (h : 2 ≤ n) (h2 : n ≤ 12) {l : List Nat} (hl : ∀ j ∈ l, j < n) (hp : l.Pairwise (· < ·)) (hlen : l.length ≤ 1000) : fn_is_lot [.int n, .tup (l.map nI)] = some (.val (.bl true)) := by
  have cs := check_size_ok h h2
  let s : S := [some (Cell.val (.int n)), some (.val (.tup (l.map nI))), none, none]
  have k1 := mlc_pure (vs := [2]) (mi := mSeqI (mVar 1)) (g := gPut 2) (t := mYes) (m := mCallV fn_is_whole_from (mCons (mFrz (mVar 2)) (mCons (mFrz (mC (.int 0))) (mCons (mFrz (mBin fSub (mVar 0) (mC (.int 1)))) mNil)))) nI (fun _ => true) (fun _ => .bl true) l (s := s) (s1 := s) (s2 := s) (by simp [s, fnV, fnW, initV, initW, mSeq, mIfS, mTest, mBin, mIx, mVar, mC, peek, peeks, seqD, asI, asB, onI, mAsg, mFrz, frz, mTupNew, mCons, mNil, fDm, gTupD, gsCons, gsNil, gSubD, gPut, put, ownAt, mRet, toRet, port0, mSkip, mCS, mCL, fI1, fI2, mSet, mPar, mPar3, Dm.plain, mTup, mLst, vals, mTupOf, fTup, fLen, mIf, mIfS, mNotT, mChain, mTyIs, tyD, noFrz, mIxK, mAndT, mOrT, mAndV, mOrV, mNotV, mExpr, mCallV, mCallW, rOf, mUn, fNeg, fList, fRg1, fRg2, fRg3, mRng, mSeqI, mYes, wipeS, mRep]) (by omega) (by
    intro j hj
    have w := whole_ok j 0 ((n : Int) - 1)
    have hjn := hl j hj
    rw [decide_eq_true (by omega), decide_eq_true (by omega)] at w
    exact ⟨[some (Cell.val (.int n)), some (.val (.tup (l.map nI))), some (.val (.int j)), none], rfl, rfl, fun _ => by simp [fnV, fnW, initV, initW, mSeq, mIfS, mTest, mBin, mIx, mVar, mC, peek, peeks, seqD, asI, asB, onI, mAsg, mFrz, frz, mTupNew, mCons, mNil, fDm, gTupD, gsCons, gsNil, gSubD, gPut, put, ownAt, mRet, toRet, port0, mSkip, mCS, mCL, fI1, fI2, mSet, mPar, mPar3, Dm.plain, mTup, mLst, vals, mTupOf, fTup, fLen, mIf, mIfS, mNotT, mChain, mTyIs, tyD, noFrz, mIxK, mAndT, mOrT, mAndV, mOrV, mNotV, mExpr, mCallV, mCallW, rOf, mUn, fNeg, fList, fRg1, fRg2, fRg3, mRng, mSeqI, mYes, wipeS, mRep, w], rfl⟩) rfl
  have k2 := mlc_pure (vs := [2, 3]) (mi := (mZip (mCons (mFrz (mVar 1)) (mCons (mFrz (mSlT (mVar 1) (mPart (mC (.int 1))) mNo)) mNil)))) (g := (gTupD 2 (gsCons (gPut 2) (gsCons (gPut 3) gsNil)))) (t := mYes) (m := (mBin fLt (mVar 2) (mVar 3))) (fun q : Nat × Nat => D.tup [nI q.1, nI q.2]) (fun _ => true) (fun _ => .bl true) (l.zip l.tail) (s := s) (s1 := s) (s2 := s) (by
      have ct := cut_tail l
      simp [s, fnV, fnW, initV, initW, mSeq, mIfS, mTest, mBin, mIx, mVar, mC, peek, peeks, seqD, asI, asB, onI, mAsg, mFrz, frz, mTupNew, mCons, mNil, fDm, gTupD, gsCons, gsNil, gSubD, gPut, put, ownAt, mRet, toRet, port0, mSkip, mCS, mCL, fI1, fI2, mSet, mPar, mPar3, Dm.plain, mTup, mLst, vals, mTupOf, fTup, fLen, mIf, mIfS, mNotT, mChain, mTyIs, tyD, noFrz, mIxK, mAndT, mOrT, mAndV, mOrV, mNotV, mExpr, mCallV, mCallW, rOf, mUn, fNeg, fList, fRg1, fRg2, fRg3, mRng, mSeqI, mYes, wipeS, mRep, mZip, mSlT, mPart, mNo, ct]
      have zz := zp_nI l l.tail
      rw [List.map_tail] at zz
      exact zz) (by rw [List.length_zip]; omega) (by
    intro q hq
    have hlt := pair_lt hp q hq
    refine ⟨[some (Cell.val (.int n)), some (.val (.tup (l.map nI))), some (.val (.int q.1)), some (.val (.int q.2))], rfl, rfl, fun _ => ?_, rfl⟩
    have : ((q.1 : Nat) : Int) < (q.2 : Nat) := by omega
    refine mBin_of rfl rfl ?_
    show some (D.bl (decide _)) = _
    rw [decide_eq_true this]) rfl
  rw [filter_all] at k1 k2
  unfold fn_is_lot b_is_lot
  have hi : initV 4 [.int n, .tup (l.map nI)] = s := rfl
  have e1 : mExpr (mCallV fn_check_size (mCons (mFrz (mVar 0)) mNil)) s = some (.nx s) := by simp [fnV, fnW, initV, initW, mSeq, mIfS, mTest, mBin, mIx, mVar, mC, peek, peeks, seqD, asI, asB, onI, mAsg, mFrz, frz, mTupNew, mCons, mNil, fDm, gTupD, gsCons, gsNil, gSubD, gPut, put, ownAt, mRet, toRet, port0, mSkip, mCS, mCL, fI1, fI2, mSet, mPar, mPar3, Dm.plain, mTup, mLst, vals, mTupOf, fTup, fLen, mIf, mIfS, mNotT, mChain, mTyIs, tyD, noFrz, mIxK, mAndT, mOrT, mAndV, mOrV, mNotV, mExpr, mCallV, mCallW, rOf, mUn, fNeg, fList, fRg1, fRg2, fRg3, mRng, mSeqI, mYes, wipeS, mRep, cs, s]
  have e2 : mIfS (mTest (mTyIs "tuple" true (mVar 1))) (mRet (mC (.bl false))) mSkip s = some (.nx s) := by simp [s, fnV, fnW, initV, initW, mSeq, mIfS, mTest, mBin, mIx, mVar, mC, peek, peeks, seqD, asI, asB, onI, mAsg, mFrz, frz, mTupNew, mCons, mNil, fDm, gTupD, gsCons, gsNil, gSubD, gPut, put, ownAt, mRet, toRet, port0, mSkip, mCS, mCL, fI1, fI2, mSet, mPar, mPar3, Dm.plain, mTup, mLst, vals, mTupOf, fTup, fLen, mIf, mIfS, mNotT, mChain, mTyIs, tyD, noFrz, mIxK, mAndT, mOrT, mAndV, mOrV, mNotV, mExpr, mCallV, mCallW, rOf, mUn, fNeg, fList, fRg1, fRg2, fRg3, mRng, mSeqI, mYes, wipeS, mRep, mTyIs, noFrz, tyD]
  have e3 : mCS fAll (mCons (mLc [2] (mSeqI (mVar 1)) (gPut 2) mYes (mCallV fn_is_whole_from (mCons (mFrz (mVar 2)) (mCons (mFrz (mC (.int 0))) (mCons (mFrz (mBin fSub (mVar 0) (mC (.int 1)))) mNil))))) mNil) s = some (.val (.bl true), s) := by
    simp only [mCS, mCons, k1, mNil, Option.bind_some, peeks, peek, fAll, bools_all, all_true]
  have e4 : mIfS (mNotT (mTest (mCS fAll (mCons (mLc [2] (mSeqI (mVar 1)) (gPut 2) mYes (mCallV fn_is_whole_from (mCons (mFrz (mVar 2)) (mCons (mFrz (mC (.int 0))) (mCons (mFrz (mBin fSub (mVar 0) (mC (.int 1)))) mNil))))) mNil)))) (mRet (mC (.bl false))) mSkip s = some (.nx s) := by
    unfold mIfS mNotT mTest
    simp only [e3, Option.bind_some, peek, asB]
    rfl
  have e5 : mRet (mCS fAll (mCons (mLc [2, 3] (mZip (mCons (mFrz (mVar 1)) (mCons (mFrz (mSlT (mVar 1) (mPart (mC (.int 1))) mNo)) mNil))) (gTupD 2 (gsCons (gPut 2) (gsCons (gPut 3) gsNil))) mYes (mBin fLt (mVar 2) (mVar 3))) mNil)) s = some (.rt (.val (.bl true)) s) := by
    simp only [mRet, mCS, mCons, k2, mNil, Option.bind_some, peeks, peek, fAll, bools_all, all_true, toRet]
  obtain ⟨r, e, rfl⟩ := fnV_ws (np := 2) (nv := 4) (ds := [.int n, .tup (l.map nI)]) (P := fun r => r = .val (.bl true)) (ws_step e1 (ws_step e2 (ws_step e4 (ws_rt e5 ⟨_, _, rfl, rfl⟩))))
  exact e
theorem full_ok {n : Nat} (h : 2 ≤ n) (h2 : n ≤ 12) {l : List Nat} (hl : ∀ j ∈ l, j < n) (hp : l.Pairwise (· < ·)) (hlen : l.length ≤ 1000) (h0 : l ≠ []) : fn_check_full_lot [.int n, .tup (l.map nI)] = some (.val .non) := by
  have il := is_lot_ok h h2 hl hp hlen
  have eq := fEq_tup0 (l := l) (fun j hj => by have := hl j hj; omega)
  rw [decide_eq_false h0] at eq
  simp [fn_check_full_lot, b_check_full_lot, fnV, fnW, initV, initW, mSeq, mIfS, mTest, mBin, mIx, mVar, mC, peek, peeks, seqD, asI, asB, onI, mAsg, mFrz, frz, mTupNew, mCons, mNil, fDm, gTupD, gsCons, gsNil, gSubD, gPut, put, ownAt, mRet, toRet, port0, mSkip, mCS, mCL, fI1, fI2, mSet, mPar, mPar3, Dm.plain, mTup, mLst, vals, mTupOf, fTup, fLen, mIf, mIfS, mNotT, mChain, mTyIs, tyD, noFrz, mIxK, mAndT, mOrT, mAndV, mOrV, mNotV, mExpr, mCallV, mCallW, rOf, mUn, fNeg, fList, fRg1, fRg2, fRg3, mRng, mSeqI, mYes, wipeS, mRep, il, eq]
theorem steps_ok {n : Nat} (h : 2 ≤ n) (h2 : n ≤ 12) {l : List Nat} (hl : ∀ j ∈ l, j < n) (hp : l.Pairwise (· < ·)) (hlen : l.length ≤ 1000) (h0 : l ≠ []) : fn_zero_steps [.int n, .tup (l.map nI)] = some (.val (.tup ((zs n l).map nI))) := by
  have cs := check_size_ok h h2
  have cf := full_ok h h2 hl hp hlen h0
  let s : S := [some (Cell.val (.int n)), some (.val (.tup (l.map nI))), none]
  have k1 := mlc_pure (vs := [2]) (mi := mRng fRg1 (mCons (mVar 0) mNil)) (g := gPut 2) (t := mTest (mCallV fn_is_zero_step (mCons (mFrz (mVar 0)) (mCons (mFrz (mVar 1)) (mCons (mFrz (mVar 2)) mNil))))) (m := mVar 2) nI (fun i => decide (Zn.Zx n (X n l i))) nI (List.range n) (s := s) (s1 := s) (s2 := s) (rng1_of (i := (n : Int)) (rs := [.val (.int n)]) n rfl rfl rfl (by omega)) (by simp; omega) (by
    intro j hj
    have w := zero_ok h h2 hl (List.mem_range.1 hj)
    exact ⟨[some (Cell.val (.int n)), some (.val (.tup (l.map nI))), some (.val (.int j))], rfl, by simp [fnV, fnW, initV, initW, mSeq, mIfS, mTest, mBin, mIx, mVar, mC, peek, peeks, seqD, asI, asB, onI, mAsg, mFrz, frz, mTupNew, mCons, mNil, fDm, gTupD, gsCons, gsNil, gSubD, gPut, put, ownAt, mRet, toRet, port0, mSkip, mCS, mCL, fI1, fI2, mSet, mPar, mPar3, Dm.plain, mTup, mLst, vals, mTupOf, fTup, fLen, mIf, mIfS, mNotT, mChain, mTyIs, tyD, noFrz, mIxK, mAndT, mOrT, mAndV, mOrV, mNotV, mExpr, mCallV, mCallW, rOf, mUn, fNeg, fList, fRg1, fRg2, fRg3, mRng, mSeqI, mYes, wipeS, mRep, w], fun _ => rfl, rfl⟩) rfl
  have e1 : mExpr (mCallV fn_check_size (mCons (mFrz (mVar 0)) mNil)) s = some (.nx s) := by simp [fnV, fnW, initV, initW, mSeq, mIfS, mTest, mBin, mIx, mVar, mC, peek, peeks, seqD, asI, asB, onI, mAsg, mFrz, frz, mTupNew, mCons, mNil, fDm, gTupD, gsCons, gsNil, gSubD, gPut, put, ownAt, mRet, toRet, port0, mSkip, mCS, mCL, fI1, fI2, mSet, mPar, mPar3, Dm.plain, mTup, mLst, vals, mTupOf, fTup, fLen, mIf, mIfS, mNotT, mChain, mTyIs, tyD, noFrz, mIxK, mAndT, mOrT, mAndV, mOrV, mNotV, mExpr, mCallV, mCallW, rOf, mUn, fNeg, fList, fRg1, fRg2, fRg3, mRng, mSeqI, mYes, wipeS, mRep, cs, s]
  have e2 : mExpr (mCallV fn_check_full_lot (mCons (mFrz (mVar 0)) (mCons (mFrz (mVar 1)) mNil))) s = some (.nx s) := by simp [fnV, fnW, initV, initW, mSeq, mIfS, mTest, mBin, mIx, mVar, mC, peek, peeks, seqD, asI, asB, onI, mAsg, mFrz, frz, mTupNew, mCons, mNil, fDm, gTupD, gsCons, gsNil, gSubD, gPut, put, ownAt, mRet, toRet, port0, mSkip, mCS, mCL, fI1, fI2, mSet, mPar, mPar3, Dm.plain, mTup, mLst, vals, mTupOf, fTup, fLen, mIf, mIfS, mNotT, mChain, mTyIs, tyD, noFrz, mIxK, mAndT, mOrT, mAndV, mOrV, mNotV, mExpr, mCallV, mCallW, rOf, mUn, fNeg, fList, fRg1, fRg2, fRg3, mRng, mSeqI, mYes, wipeS, mRep, cf, s]
  have e3 : mRet (mTupOf (mCons (mLc [2] (mRng fRg1 (mCons (mVar 0) mNil)) (gPut 2) (mTest (mCallV fn_is_zero_step (mCons (mFrz (mVar 0)) (mCons (mFrz (mVar 1)) (mCons (mFrz (mVar 2)) mNil))))) (mVar 2)) mNil)) s = some (.rt (.val (.tup ((zs n l).map nI))) s) := by
    simp only [mRet, mTupOf, mCons, k1, mNil, Option.bind_some, peeks, peek, fTup, seqD, toRet]
    rfl
  obtain ⟨r, e, rfl⟩ := fnV_ws (np := 2) (nv := 3) (ds := [.int n, .tup (l.map nI)]) (P := fun r => r = .val (.tup ((zs n l).map nI))) (ws_step e1 (ws_step e2 (ws_rt e3 ⟨_, _, rfl, rfl⟩)))
  exact e
end K41
set_option Elab.async false
set_option linter.all false
set_option maxRecDepth 100000
set_option maxHeartbeats 4000000
namespace K41
open PySem PySem.Spec L2 Dm
set_option autoImplicit false
theorem lift_nI {n : Nat} : ∀ {out : List D}, (∀ d ∈ out, ∃ x ∈ List.range n, d = nI x) → ∃ lo : List Nat, out = lo.map nI ∧ ∀ j ∈ lo, j < n
  | [], _ => ⟨[], rfl, fun _ h => nomatch h⟩
  | d :: out, h => by
    obtain ⟨x, hx, rfl⟩ := h d (by simp)
    obtain ⟨lo, rfl, hl⟩ := lift_nI (out := out) fun d hd => h d (List.mem_cons_of_mem _ hd)
    exact ⟨x :: lo, rfl, fun j hj => by rcases List.mem_cons.1 hj with rfl | hj; exact List.mem_range.1 hx; exact hl j hj⟩
/-- a comprehension over range(n) whose keeping is drawn -/
theorem drawn_lc {n : Nat} (hn : n ≤ 12) {w : Int} (h0 : 0 < w) (h1 : w < 1073741824) {f : D → D → Option D} {b : Nat → Bool} (hf : ∀ r : Nat, f (.int r) (.int 0) = some (.bl (b r))) {sp : List D} (hs : Spr sp) {c2 c3 c4 c5 c6 c7 c8 c9 c10 : Option Cell} :
    ∃ (lo : List Nat) (sp' : List D), mLc [11] (mRng fRg1 (mCons (mVar 1) mNil)) (gPut 11) (mTest (mBin f (mCallW fn__law_draw (mVar 0) (mCons (mFrz (mC (.int w))) mNil)) (mC (.int 0)))) (mVar 11) [some (.own true sp), some (.val (.int n)), c2, c3, c4, c5, c6, c7, c8, c9, c10, none, none, none]
      = some (.own (lo.map nI), [some (.own true sp'), some (.val (.int n)), c2, c3, c4, c5, c6, c7, c8, c9, c10, none, none, none]) ∧ Spr sp' ∧ ∀ j ∈ lo, j < n := by
  obtain ⟨out, s', e, ⟨sp', hs', rfl⟩, -, hv⟩ := lc_some (g := gPut 11) (t := (mTest (mBin f (mCallW fn__law_draw (mVar 0) (mCons (mFrz (mC (.int w))) mNil)) (mC (.int 0))))) (m := mVar 11) nI [11] (fun s => ∃ sp', Spr sp' ∧ s = [some (.own true sp'), some (.val (.int n)), c2, c3, c4, c5, c6, c7, c8, c9, c10, none, none, none]) (fun x d => d = nI x)
    (List.range n) _ [] ⟨sp, hs, rfl⟩ (by simp; omega) (by
    rintro x s ⟨sp, hs, rfl⟩ hx
    obtain ⟨r, sp', e, hs', -⟩ := draw_ok hs h0 h1
    have hf' := hf r
    exact ⟨[some (.own true sp), some (.val (.int n)), c2, c3, c4, c5, c6, c7, c8, c9, c10, some (.val (.int x)), none, none], rfl, b r, [some (.own true sp'), some (.val (.int n)), c2, c3, c4, c5, c6, c7, c8, c9, c10, some (.val (.int x)), none, none],
      by simp [fnV, fnW, initV, initW, mSeq, mIfS, mTest, mBin, mIx, mVar, mC, peek, peeks, seqD, asI, asB, onI, mAsg, mFrz, frz, mTupNew, mCons, mNil, fDm, gTupD, gsCons, gsNil, gSubD, gPut, put, ownAt, mRet, toRet, port0, mSkip, mCS, mCL, fI1, fI2, mSet, mPar, mPar3, Dm.plain, mTup, mLst, vals, mTupOf, fTup, fLen, mIf, mIfS, mNotT, mChain, mTyIs, tyD, noFrz, mIxK, mAndT, mOrT, mAndV, mOrV, mNotV, mExpr, mCallV, mCallW, rOf, mUn, fNeg, fList, fRg1, fRg2, fRg3, mRng, mSeqI, mYes, wipeS, mRep, e, hf'], fun _ => ⟨_, _, rfl, _, _, rfl, rfl, sp', hs', rfl⟩, fun _ => ⟨sp', hs', rfl⟩⟩)
  obtain ⟨lo, rfl, hl⟩ := lift_nI hv
  refine ⟨lo, sp', ?_, hs', hl⟩
  have hr : mRng fRg1 (mCons (mVar 1) mNil) [some (.own true sp), some (.val (.int n)), c2, c3, c4, c5, c6, c7, c8, c9, c10, none, none, none] = some ((List.range n).map nI, [some (.own true sp), some (.val (.int n)), c2, c3, c4, c5, c6, c7, c8, c9, c10, none, none, none]) :=
    rng1_of (i := (n : Int)) (rs := [.val (.int n)]) n rfl rfl rfl (by omega)
  unfold mLc
  rw [hr]
  show (lcLoop _ _ _ _ _ [some (Cell.own true sp), some (.val (.int n)), c2, c3, c4, c5, c6, c7, c8, c9, c10, none, none, none] []).bind _ = _
  rw [e]
  rfl
/-- a comprehension over range(n) by a test that changes nothing -/
theorem pure_lc {n : Nat} (hn : n ≤ 12) {t : MT} {p : Nat → Bool} {sp : List D} {c2 c3 c4 c5 c6 c7 c8 c9 c10 : Option Cell}
    (ht : ∀ x < n, t [some (.own true sp), some (.val (.int n)), c2, c3, c4, c5, c6, c7, c8, c9, c10, some (.val (.int x)), none, none] = some (p x, [some (.own true sp), some (.val (.int n)), c2, c3, c4, c5, c6, c7, c8, c9, c10, some (.val (.int x)), none, none])) :
    mLc [11] (mRng fRg1 (mCons (mVar 1) mNil)) (gPut 11) t (mVar 11) [some (.own true sp), some (.val (.int n)), c2, c3, c4, c5, c6, c7, c8, c9, c10, none, none, none]
      = some (.own (((List.range n).filter p).map nI), [some (.own true sp), some (.val (.int n)), c2, c3, c4, c5, c6, c7, c8, c9, c10, none, none, none]) :=
  mlc_pure nI p nI (List.range n) (rng1_of (i := (n : Int)) (rs := [.val (.int n)]) n rfl rfl rfl (by omega)) (by simp; omega) (fun x hx =>
    ⟨[some (.own true sp), some (.val (.int n)), c2, c3, c4, c5, c6, c7, c8, c9, c10, some (.val (.int x)), none, none], rfl, ht x (List.mem_range.1 hx), fun _ => rfl, rfl⟩) rfl
theorem lot_ok {sp : List D} (hs : Spr sp) {n : Nat} (h : 2 ≤ n) (h2 : n ≤ 12) :
    ∃ r ys, fn__law_lot sp [.int n] = some (r, ys) ∧ ∃ l : List Nat, r = .val (.tup (l.map nI)) ∧ Spr ys ∧ (∀ j ∈ l, j < n) ∧ l.Pairwise (· < ·) ∧ l ≠ [] := by
  refine fnW_ws (np := 2) (nv := 14) (b := b__law_lot) ?_
  obtain ⟨k, sp1, e1, hs1, -⟩ := draw_ok hs (w := 6) (by decide) (by decide)
  obtain ⟨lo2, sp2, e2, hs2, hl2⟩ := drawn_lc h2 (w := 2) (by decide) (by decide) (f := fEq) (b := fun r => decide (r = 0)) (fun r => by rw [fEq_int]; congr 2; simp) hs1 (c2 := some (.val (.int k))) (c3 := none) (c4 := none) (c5 := none) (c6 := none) (c7 := none) (c8 := none) (c9 := none) (c10 := none)
  unfold b__law_lot
  refine ws_step (s1 := [some (.own true sp1), some (.val (.int n)), some (.val (.int k)), none, none, none, none, none, none, none, none, none, none, none]) (by simp [fnV, fnW, initV, initW, mSeq, mIfS, mTest, mBin, mIx, mVar, mC, peek, peeks, seqD, asI, asB, onI, mAsg, mFrz, frz, mTupNew, mCons, mNil, fDm, gTupD, gsCons, gsNil, gSubD, gPut, put, ownAt, mRet, toRet, port0, mSkip, mCS, mCL, fI1, fI2, mSet, mPar, mPar3, Dm.plain, mTup, mLst, vals, mTupOf, fTup, fLen, mIf, mIfS, mNotT, mChain, mTyIs, tyD, noFrz, mIxK, mAndT, mOrT, mAndV, mOrV, mNotV, mExpr, mCallV, mCallW, rOf, mUn, fNeg, fList, fRg1, fRg2, fRg3, mRng, mSeqI, mYes, wipeS, mRep, e1]) ?_
  refine ws_step (s1 := [some (.own true sp2), some (.val (.int n)), some (.val (.int k)), some (.own false (lo2.map nI)), none, none, none, none, none, none, none, none, none, none]) ?_ ?_
  · unfold mSet
    rw [e2]
    rfl
  -- a stretch
  refine ws_seq (WS.mono (Q := fun o => ∃ s1, o = .nx s1 ∧ ∃ (sp : List D) (lo : List Nat) (c4 c5 : Option Cell), s1 = [some (.own true sp), some (.val (.int n)), some (.val (.int k)), some (.own false (lo.map nI)), c4, c5, none, none, none, none, none, none, none, none] ∧ Spr sp ∧ (∀ j ∈ lo, j < n) ∧ Fr c4 = true ∧ Fr c5 = true) ?_ ?_)
  · by_cases hk : (k : Int) = 1
    · obtain ⟨r, sp3, e3, hs3, -⟩ := draw_ok hs2 (w := n) (by omega) (by omega)
      obtain ⟨q, sp4, e4, hs4, -⟩ := draw_ok hs3 (w := n) (by omega) (by omega)
      refine ws_ifT (s1 := [some (.own true sp2), some (.val (.int n)), some (.val (.int k)), some (.own false (lo2.map nI)), none, none, none, none, none, none, none, none, none, none]) (by simp [fnV, fnW, initV, initW, mSeq, mIfS, mTest, mBin, mIx, mVar, mC, peek, peeks, seqD, asI, asB, onI, mAsg, mFrz, frz, mTupNew, mCons, mNil, fDm, gTupD, gsCons, gsNil, gSubD, gPut, put, ownAt, mRet, toRet, port0, mSkip, mCS, mCL, fI1, fI2, mSet, mPar, mPar3, Dm.plain, mTup, mLst, vals, mTupOf, fTup, fLen, mIf, mIfS, mNotT, mChain, mTyIs, tyD, noFrz, mIxK, mAndT, mOrT, mAndV, mOrV, mNotV, mExpr, mCallV, mCallW, rOf, mUn, fNeg, fList, fRg1, fRg2, fRg3, mRng, mSeqI, mYes, wipeS, mRep, fEq_int, hk]) ?_
      refine ws_step (s1 := [some (.own true sp4), some (.val (.int n)), some (.val (.int k)), some (.own false (lo2.map nI)), some (.val (.int r)), some (.val (.int (1 + q))), none, none, none, none, none, none, none, none]) (by simp [fnV, fnW, initV, initW, mSeq, mIfS, mTest, mBin, mIx, mVar, mC, peek, peeks, seqD, asI, asB, onI, mAsg, mFrz, frz, mTupNew, mCons, mNil, fDm, gTupD, gsCons, gsNil, gSubD, gPut, put, ownAt, mRet, toRet, port0, mSkip, mCS, mCL, fI1, fI2, mSet, mPar, mPar3, Dm.plain, mTup, mLst, vals, mTupOf, fTup, fLen, mIf, mIfS, mNotT, mChain, mTyIs, tyD, noFrz, mIxK, mAndT, mOrT, mAndV, mOrV, mNotV, mExpr, mCallV, mCallW, rOf, mUn, fNeg, fList, fRg1, fRg2, fRg3, mRng, mSeqI, mYes, wipeS, mRep, e3, e4]) ?_
      have pl := pure_lc h2 (t := (mTest (mBin fLt (mBin fMod (mCS (fI1 fun i => i) (mCons (mBin fSub (mVar 11) (mVar 4)) mNil)) (mVar 1)) (mVar 5)))) (p := fun x => decide (((x : Int) - r).fmod n < 1 + q)) (sp := sp4) (c2 := some (.val (.int k))) (c3 := some (.own false (lo2.map nI))) (c4 := some (.val (.int r))) (c5 := some (.val (.int (1 + q)))) (c6 := none) (c7 := none) (c8 := none) (c9 := none) (c10 := none) (by
        intro x hx
        have n0 : (n : Int) ≠ 0 := by omega
        have n1 : n ≠ 0 := by omega
        have hb := mBin_of (f := fLt) (s := [some (.own true sp4), some (.val (.int n)), some (.val (.int k)), some (.own false (lo2.map nI)), some (.val (.int r)), some (.val (.int (1 + q))), none, none, none, none, none, some (.val (.int x)), none, none]) (mb := mVar 5) (mBin_of (f := fMod) (mb := mVar 1) (mInt_of (mBin_of (f := fSub) (ma := mVar 11) (mb := mVar 4) rfl rfl rfl)) rfl (show (if (n : Int) ≠ 0 then some (D.int (((x : Int) - r).fmod n)) else none) = _ by rw [if_pos n0])) rfl rfl
        unfold mTest
        rw [hb]
        rfl)
      exact ws_nx (set_of pl rfl) ⟨_, rfl, sp4, _, _, _, rfl, hs4, fun j hj => List.mem_range.1 (List.mem_filter.1 hj).1, rfl, rfl⟩
    · refine ws_ifF (s1 := [some (.own true sp2), some (.val (.int n)), some (.val (.int k)), some (.own false (lo2.map nI)), none, none, none, none, none, none, none, none, none, none]) (by simp [fnV, fnW, initV, initW, mSeq, mIfS, mTest, mBin, mIx, mVar, mC, peek, peeks, seqD, asI, asB, onI, mAsg, mFrz, frz, mTupNew, mCons, mNil, fDm, gTupD, gsCons, gsNil, gSubD, gPut, put, ownAt, mRet, toRet, port0, mSkip, mCS, mCL, fI1, fI2, mSet, mPar, mPar3, Dm.plain, mTup, mLst, vals, mTupOf, fTup, fLen, mIf, mIfS, mNotT, mChain, mTyIs, tyD, noFrz, mIxK, mAndT, mOrT, mAndV, mOrV, mNotV, mExpr, mCallV, mCallW, rOf, mUn, fNeg, fList, fRg1, fRg2, fRg3, mRng, mSeqI, mYes, wipeS, mRep, fEq_int]; omega) ?_
      exact ws_skip ⟨_, rfl, sp2, lo2, none, none, rfl, hs2, hl2, rfl, rfl⟩
  rintro o ⟨s1, rfl, sp5, lo5, c4, c5, rfl, hs5, hl5, h4, h5⟩
  refine ⟨_, rfl, ?_⟩
  -- rests of a divisor
  refine ws_seq (WS.mono (Q := fun o => ∃ s1, o = .nx s1 ∧ ∃ (sp : List D) (lo : List Nat) (c4 c5 c6 c7 : Option Cell), s1 = [some (.own true sp), some (.val (.int n)), some (.val (.int k)), some (.own false (lo.map nI)), c4, c5, c6, c7, none, none, none, none, none, none] ∧ Spr sp ∧ (∀ j ∈ lo, j < n)) ?_ ?_)
  · by_cases hk : (k : Int) = 2 ∨ (k : Int) = 3
    · refine ws_ifT (s1 := [some (.own true sp5), some (.val (.int n)), some (.val (.int k)), some (.own false (lo5.map nI)), c4, c5, none, none, none, none, none, none, none, none]) ?_ ?_
      · by_cases hk2 : (k : Int) = 2
        · simp [fnV, fnW, initV, initW, mSeq, mIfS, mTest, mBin, mIx, mVar, mC, peek, peeks, seqD, asI, asB, onI, mAsg, mFrz, frz, mTupNew, mCons, mNil, fDm, gTupD, gsCons, gsNil, gSubD, gPut, put, ownAt, mRet, toRet, port0, mSkip, mCS, mCL, fI1, fI2, mSet, mPar, mPar3, Dm.plain, mTup, mLst, vals, mTupOf, fTup, fLen, mIf, mIfS, mNotT, mChain, mTyIs, tyD, noFrz, mIxK, mAndT, mOrT, mAndV, mOrV, mNotV, mExpr, mCallV, mCallW, rOf, mUn, fNeg, fList, fRg1, fRg2, fRg3, mRng, mSeqI, mYes, wipeS, mRep, fEq_int, hk2]
        · have hk3 : (k : Int) = 3 := by omega
          simp [fnV, fnW, initV, initW, mSeq, mIfS, mTest, mBin, mIx, mVar, mC, peek, peeks, seqD, asI, asB, onI, mAsg, mFrz, frz, mTupNew, mCons, mNil, fDm, gTupD, gsCons, gsNil, gSubD, gPut, put, ownAt, mRet, toRet, port0, mSkip, mCS, mCL, fI1, fI2, mSet, mPar, mPar3, Dm.plain, mTup, mLst, vals, mTupOf, fTup, fLen, mIf, mIfS, mNotT, mChain, mTyIs, tyD, noFrz, mIxK, mAndT, mOrT, mAndV, mOrV, mNotV, mExpr, mCallV, mCallW, rOf, mUn, fNeg, fList, fRg1, fRg2, fRg3, mRng, mSeqI, mYes, wipeS, mRep, fEq_int, hk3]
      have hdv : mLc [13] (mRng fRg2 (mCons (mC (.int 1)) (mCons (mBin fAdd (mVar 1) (mC (.int 1))) mNil))) (gPut 13) (mTest (mBin fEq (mBin fMod (mCS (fI1 fun i => i) (mCons (mVar 1) mNil)) (mVar 13)) (mC (.int 0)))) (mVar 13) [some (.own true sp5), some (.val (.int n)), some (.val (.int k)), some (.own false (lo5.map nI)), c4, c5, none, none, none, none, none, none, none, none] =
          some (.own (((List.range n).filter fun i => decide (n % (1 + i) = 0)).map fun i => nI (1 + i)), [some (.own true sp5), some (.val (.int n)), some (.val (.int k)), some (.own false (lo5.map nI)), c4, c5, none, none, none, none, none, none, none, none]) := by
        refine mlc_pure (fun i => nI (1 + i)) (fun i => decide (n % (1 + i) = 0)) (fun i => nI (1 + i)) (List.range n) (s1 := [some (.own true sp5), some (.val (.int n)), some (.val (.int k)), some (.own false (lo5.map nI)), c4, c5, none, none, none, none, none, none, none, none]) ?_ (by simp; omega) (fun x hx => ?_) rfl
        · exact rng2_of (i := (1 : Int)) (j := (n : Int) + 1) (rs := [.val (.int 1), .val (.int ((n : Int) + 1))]) 1 (n + 1) rfl rfl rfl (by omega) (by omega) (by omega)
        · refine ⟨[some (.own true sp5), some (.val (.int n)), some (.val (.int k)), some (.own false (lo5.map nI)), c4, c5, none, none, none, none, none, none, none, some (.val (nI (1 + x)))], rfl, mTest_of (mBin_of (mBin_of (mInt_of rfl) rfl (fMod_nat (by omega))) rfl ?_), fun _ => rfl, rfl⟩
          rw [fEq_int]
          generalize n % (1 + x) = z
          congr 2
          simp
      have hne : (((List.range n).filter fun i => decide (n % (1 + i) = 0)).map fun i => nI (1 + i)) ≠ [] := by
        intro hc
        have : 0 ∈ (List.range n).filter fun i => decide (n % (1 + i) = 0) := List.mem_filter.2 ⟨List.mem_range.2 (by omega), by simp [Nat.mod_one]⟩
        rw [List.map_eq_nil_iff] at hc
        rw [hc] at this
        cases this
      obtain ⟨x, sp6, e6, hs6, hx⟩ := one_ok hs5 hne (by
        rw [List.length_map]
        exact Nat.lt_of_le_of_lt (List.length_filter_le _ _) (by simp; omega))
      obtain ⟨i, hi, rfl⟩ := List.mem_map.1 hx
      have hin : i < n := List.mem_range.1 (List.mem_filter.1 hi).1
      refine ws_step (s1 := [some (.own true sp6), some (.val (.int n)), some (.val (.int k)), some (.own false (lo5.map nI)), c4, c5, some (.val (.int ((1 + i : Nat) : Int))), none, none, none, none, none, none, none]) ?_ ?_
      · refine set_of (r := .val (nI (1 + i))) (s1 := [some (.own true sp6), some (.val (.int n)), some (.val (.int k)), some (.own false (lo5.map nI)), c4, c5, none, none, none, none, none, none, none, none]) ?_ rfl
        have hms := cons_of (ms := mNil) (frz_of hdv) rfl
        exact callW_of (k := 0) (p := true) (xs := sp5) rfl hms rfl rfl e6 rfl
      generalize hd : 1 + i = d
      have hd0 : 0 < d := by omega
      have hd1 : d ≤ 12 := by omega
      obtain ⟨r, sp7, e7, hs7, hr⟩ := draw_ok hs6 (w := 2) (by decide) (by decide)
      have hr2 : r < 2 := by omega
      obtain ⟨out, s', e8, ⟨sp8, hs8, rfl⟩, -, hv⟩ := lc_some (g := gPut 12) (t := mYes) (m := mCallW fn__law_draw (mVar 0) (mCons (mFrz (mVar 6)) mNil)) nI [12] (fun s => ∃ sp', Spr sp' ∧ s = [some (.own true sp'), some (.val (.int n)), some (.val (.int k)), some (.own false (lo5.map nI)), c4, c5, some (.val (.int d)), none, none, none, none, none, none, none]) (fun x y => ∃ q : Nat, y = nI q)
        (List.range (1 + r)) _ [] ⟨sp7, hs7, rfl⟩ (by simp; omega) (by
        rintro x s ⟨sp, hs, rfl⟩ hx
        obtain ⟨q, sp', e, hs', -⟩ := draw_ok hs (w := d) (by omega) (by omega)
        refine ⟨[some (.own true sp), some (.val (.int n)), some (.val (.int k)), some (.own false (lo5.map nI)), c4, c5, some (.val (.int d)), none, none, none, none, none, some (.val (.int x)), none], rfl, true, _, rfl, fun _ => ⟨.val (nI q), [some (.own true sp'), some (.val (.int n)), some (.val (.int k)), some (.own false (lo5.map nI)), c4, c5, some (.val (.int d)), none, none, none, none, none, some (.val (.int x)), none], ?_, _, _, rfl, ⟨q, rfl⟩, sp', hs', rfl⟩, fun e => by cases e⟩
        exact callW_of (k := 0) (p := true) (xs := sp) rfl (ds := [.int d]) (rs := [.val (.int d)]) rfl rfl rfl e rfl)
      have hleft : ∃ left : List Nat, out = left.map nI := by
        clear e8
        induction out with
        | nil => exact ⟨[], rfl⟩
        | cons y out ih =>
          obtain ⟨_, _, q, rfl⟩ := hv y (by simp)
          obtain ⟨lf, rfl⟩ := ih fun d hd => hv d (List.mem_cons_of_mem _ hd)
          exact ⟨q :: lf, rfl⟩
      obtain ⟨left, rfl⟩ := hleft
      refine ws_step (s1 := [some (.own true sp8), some (.val (.int n)), some (.val (.int k)), some (.own false (lo5.map nI)), c4, c5, some (.val (.int d)), some (.own false (left.map nI)), none, none, none, none, none, none]) ?_ ?_
      · refine set_of (r := .own (left.map nI)) (s1 := [some (.own true sp8), some (.val (.int n)), some (.val (.int k)), some (.own false (lo5.map nI)), c4, c5, some (.val (.int d)), none, none, none, none, none, none, none]) ?_ rfl
        have hr : mRng fRg1 (mCons (mBin fAdd (mC (.int 1)) (mCallW fn__law_draw (mVar 0) (mCons (mFrz (mC (.int 2))) mNil))) mNil) [some (.own true sp6), some (.val (.int n)), some (.val (.int k)), some (.own false (lo5.map nI)), c4, c5, some (.val (.int d)), none, none, none, none, none, none, none] = some ((List.range (1 + r)).map nI, [some (.own true sp7), some (.val (.int n)), some (.val (.int k)), some (.own false (lo5.map nI)), c4, c5, some (.val (.int d)), none, none, none, none, none, none, none]) :=
          rng1_of (i := 1 + (r : Int)) (rs := [.val (.int (1 + (r : Int)))]) (1 + r) (by simp [fnV, fnW, initV, initW, mSeq, mIfS, mTest, mBin, mIx, mVar, mC, peek, peeks, seqD, asI, asB, onI, mAsg, mFrz, frz, mTupNew, mCons, mNil, fDm, gTupD, gsCons, gsNil, gSubD, gPut, put, ownAt, mRet, toRet, port0, mSkip, mCS, mCL, fI1, fI2, mSet, mPar, mPar3, Dm.plain, mTup, mLst, vals, mTupOf, fTup, fLen, mIf, mIfS, mNotT, mChain, mTyIs, tyD, noFrz, mIxK, mAndT, mOrT, mAndV, mOrV, mNotV, mExpr, mCallV, mCallW, rOf, mUn, fNeg, fList, fRg1, fRg2, fRg3, mRng, mSeqI, mYes, wipeS, mRep, e7]) rfl (by omega) (by omega)
        unfold mLc
        rw [hr]
        show (lcLoop _ _ _ _ _ [some (.own true sp7), some (.val (.int n)), some (.val (.int k)), some (.own false (lo5.map nI)), c4, c5, some (.val (.int d)), none, none, none, none, none, none, none] []).bind _ = _
        rw [e8]
        rfl
      have pl := pure_lc h2 (t := (mTest (mBin (fIn false) (mBin fMod (mCS (fI1 fun i => i) (mCons (mVar 11) mNil)) (mVar 6)) (mVar 7)))) (p := fun x => decide (x % d ∈ left)) (sp := sp8) (c2 := some (.val (.int k))) (c3 := some (.own false (lo5.map nI))) (c4 := c4) (c5 := c5) (c6 := some (.val (.int d))) (c7 := some (.own false (left.map nI))) (c8 := none) (c9 := none) (c10 := none) (fun x hx =>
        mTest_of (mBin_of2 (mBin_of (mInt_of rfl) rfl (fMod_nat (by omega))) rfl rfl rfl (fIn_lst false _ _)))
      exact ws_nx (set_of pl rfl) ⟨_, rfl, sp8, _, c4, c5, _, _, rfl, hs8, fun j hj => List.mem_range.1 (List.mem_filter.1 hj).1⟩
    · refine ws_ifF (s1 := [some (.own true sp5), some (.val (.int n)), some (.val (.int k)), some (.own false (lo5.map nI)), c4, c5, none, none, none, none, none, none, none, none]) ?_ ?_
      · have hk2 : ¬ (k : Int) = 2 := fun e => hk (.inl e)
        have hk3 : ¬ (k : Int) = 3 := fun e => hk (.inr e)
        simp [fnV, fnW, initV, initW, mSeq, mIfS, mTest, mBin, mIx, mVar, mC, peek, peeks, seqD, asI, asB, onI, mAsg, mFrz, frz, mTupNew, mCons, mNil, fDm, gTupD, gsCons, gsNil, gSubD, gPut, put, ownAt, mRet, toRet, port0, mSkip, mCS, mCL, fI1, fI2, mSet, mPar, mPar3, Dm.plain, mTup, mLst, vals, mTupOf, fTup, fLen, mIf, mIfS, mNotT, mChain, mTyIs, tyD, noFrz, mIxK, mAndT, mOrT, mAndV, mOrV, mNotV, mExpr, mCallV, mCallW, rOf, mUn, fNeg, fList, fRg1, fRg2, fRg3, mRng, mSeqI, mYes, wipeS, mRep, fEq_int, hk2, hk3]
      exact ws_skip ⟨_, rfl, sp5, lo5, c4, c5, none, none, rfl, hs5, hl5⟩
  rintro o ⟨s1, rfl, sp9, lo9, c4, c5, c6, c7, rfl, hs9, hl9⟩
  refine ⟨_, rfl, ?_⟩
  -- a parallelogram
  refine ws_seq (WS.mono (Q := fun o => ∃ s1, o = .nx s1 ∧ ∃ (sp : List D) (lo : List Nat) (c4 c5 c6 c7 c8 c9 c10 : Option Cell), s1 = [some (.own true sp), some (.val (.int n)), some (.val (.int k)), some (.own false (lo.map nI)), c4, c5, c6, c7, c8, c9, c10, none, none, none] ∧ Spr sp ∧ (∀ j ∈ lo, j < n)) ?_ ?_)
  · by_cases hk : (k : Int) = 4
    · obtain ⟨a, sp10, e10, hs10, ha⟩ := draw_ok hs9 (w := n) (by omega) (by omega)
      obtain ⟨b, sp11, e11, hs11, hb⟩ := draw_ok hs10 (w := n) (by omega) (by omega)
      obtain ⟨c, sp12, e12, hs12, hc⟩ := draw_ok hs11 (w := n) (by omega) (by omega)
      refine ws_ifT (s1 := [some (.own true sp9), some (.val (.int n)), some (.val (.int k)), some (.own false (lo9.map nI)), c4, c5, c6, c7, none, none, none, none, none, none]) (by simp [fnV, fnW, initV, initW, mSeq, mIfS, mTest, mBin, mIx, mVar, mC, peek, peeks, seqD, asI, asB, onI, mAsg, mFrz, frz, mTupNew, mCons, mNil, fDm, gTupD, gsCons, gsNil, gSubD, gPut, put, ownAt, mRet, toRet, port0, mSkip, mCS, mCL, fI1, fI2, mSet, mPar, mPar3, Dm.plain, mTup, mLst, vals, mTupOf, fTup, fLen, mIf, mIfS, mNotT, mChain, mTyIs, tyD, noFrz, mIxK, mAndT, mOrT, mAndV, mOrV, mNotV, mExpr, mCallV, mCallW, rOf, mUn, fNeg, fList, fRg1, fRg2, fRg3, mRng, mSeqI, mYes, wipeS, mRep, fEq_int, hk]) ?_
      refine ws_step (s1 := [some (.own true sp12), some (.val (.int n)), some (.val (.int k)), some (.own false (lo9.map nI)), c4, c5, c6, c7, some (.val (.int a)), some (.val (.int b)), some (.val (.int c)), none, none, none]) (by simp [fnV, fnW, initV, initW, mSeq, mIfS, mTest, mBin, mIx, mVar, mC, peek, peeks, seqD, asI, asB, onI, mAsg, mFrz, frz, mTupNew, mCons, mNil, fDm, gTupD, gsCons, gsNil, gSubD, gPut, put, ownAt, mRet, toRet, port0, mSkip, mCS, mCL, fI1, fI2, mSet, mPar, mPar3, Dm.plain, mTup, mLst, vals, mTupOf, fTup, fLen, mIf, mIfS, mNotT, mChain, mTyIs, tyD, noFrz, mIxK, mAndT, mOrT, mAndV, mOrV, mNotV, mExpr, mCallV, mCallW, rOf, mUn, fNeg, fList, fRg1, fRg2, fRg3, mRng, mSeqI, mYes, wipeS, mRep, e10, e11, e12]) ?_
      have fa : ∀ x y : Nat, fAdd (.int x) (.int y) = some (.int ((x + y : Nat) : Int)) := fun x y => by rw [Int.natCast_add]; rfl
      have n1 : n ≠ 0 := by omega
      have q2 := mBin_of (s := [some (.own true sp12), some (.val (.int n)), some (.val (.int k)), some (.own false (lo9.map nI)), c4, c5, c6, c7, some (.val (.int a)), some (.val (.int b)), some (.val (.int c)), none, none, none]) (mb := mVar 1) (mInt_of (mBin_of (ma := mVar 8) (mb := mVar 9) rfl rfl (fa a b))) rfl (fMod_nat (n := n) n1)
      have q3 := mBin_of (s := [some (.own true sp12), some (.val (.int n)), some (.val (.int k)), some (.own false (lo9.map nI)), c4, c5, c6, c7, some (.val (.int a)), some (.val (.int b)), some (.val (.int c)), none, none, none]) (mb := mVar 1) (mInt_of (mBin_of (ma := mVar 8) (mb := mVar 10) rfl rfl (fa a c))) rfl (fMod_nat (n := n) n1)
      have q4 := mBin_of (s := [some (.own true sp12), some (.val (.int n)), some (.val (.int k)), some (.own false (lo9.map nI)), c4, c5, c6, c7, some (.val (.int a)), some (.val (.int b)), some (.val (.int c)), none, none, none]) (mb := mVar 1) (mInt_of (mBin_of (mb := mVar 10) (mBin_of (ma := mVar 8) (mb := mVar 9) rfl rfl (fa a b)) rfl (fa (a + b) c))) rfl (fMod_nat (n := n) n1)
      refine ws_nx (set_of (r := .own ([a, (a + b) % n, (a + c) % n, (a + b + c) % n].map nI)) (s1 := [some (.own true sp12), some (.val (.int n)), some (.val (.int k)), some (.own false (lo9.map nI)), c4, c5, c6, c7, some (.val (.int a)), some (.val (.int b)), some (.val (.int c)), none, none, none]) ?_ rfl) ⟨_, rfl, sp12, [a, (a + b) % n, (a + c) % n, (a + b + c) % n], c4, c5, c6, c7, _, _, _, rfl, hs12, fun j hj => ?_⟩
      · have v8 : mVar 8 [some (.own true sp12), some (.val (.int n)), some (.val (.int k)), some (.own false (lo9.map nI)), c4, c5, c6, c7, some (.val (.int a)), some (.val (.int b)), some (.val (.int c)), none, none, none] = some (.val (.int a), [some (.own true sp12), some (.val (.int n)), some (.val (.int k)), some (.own false (lo9.map nI)), c4, c5, c6, c7, some (.val (.int a)), some (.val (.int b)), some (.val (.int c)), none, none, none]) := rfl
        exact lst_of (cons_of (frzV_of v8) (cons_of (frzV_of q2) (cons_of (frzV_of q3) (cons_of (frzV_of q4) rfl)))) rfl (by simp)
      · have := Nat.mod_lt (a + b) (show 0 < n by omega)
        have := Nat.mod_lt (a + c) (show 0 < n by omega)
        have := Nat.mod_lt (a + b + c) (show 0 < n by omega)
        simp only [List.mem_cons, List.not_mem_nil, or_false] at hj
        rcases hj with rfl | rfl | rfl | rfl <;> omega
    · refine ws_ifF (s1 := [some (.own true sp9), some (.val (.int n)), some (.val (.int k)), some (.own false (lo9.map nI)), c4, c5, c6, c7, none, none, none, none, none, none]) (by simp [fnV, fnW, initV, initW, mSeq, mIfS, mTest, mBin, mIx, mVar, mC, peek, peeks, seqD, asI, asB, onI, mAsg, mFrz, frz, mTupNew, mCons, mNil, fDm, gTupD, gsCons, gsNil, gSubD, gPut, put, ownAt, mRet, toRet, port0, mSkip, mCS, mCL, fI1, fI2, mSet, mPar, mPar3, Dm.plain, mTup, mLst, vals, mTupOf, fTup, fLen, mIf, mIfS, mNotT, mChain, mTyIs, tyD, noFrz, mIxK, mAndT, mOrT, mAndV, mOrV, mNotV, mExpr, mCallV, mCallW, rOf, mUn, fNeg, fList, fRg1, fRg2, fRg3, mRng, mSeqI, mYes, wipeS, mRep, fEq_int]; omega) ?_
      exact ws_skip ⟨_, rfl, sp9, lo9, c4, c5, c6, c7, none, none, none, rfl, hs9, hl9⟩
  rintro o ⟨s1, rfl, sp13, lo13, c4, c5, c6, c7, c8, c9, c10, rfl, hs13, hl13⟩
  refine ⟨_, rfl, ?_⟩
  -- most of them
  refine ws_seq (WS.mono (Q := fun o => ∃ s1, o = .nx s1 ∧ ∃ (sp : List D) (lo : List Nat), s1 = [some (.own true sp), some (.val (.int n)), some (.val (.int k)), some (.own false (lo.map nI)), c4, c5, c6, c7, c8, c9, c10, none, none, none] ∧ Spr sp ∧ (∀ j ∈ lo, j < n)) ?_ ?_)
  · by_cases hk : (k : Int) = 5
    · obtain ⟨lo14, sp14, e14, hs14, hl14⟩ := drawn_lc h2 (w := 4) (by decide) (by decide) (f := fGt) (b := fun r => decide (0 < r)) (fun r => by show some (D.bl (decide _)) = _; congr 2; simp) hs13 (c2 := some (.val (.int k))) (c3 := some (.own false (lo13.map nI))) (c4 := c4) (c5 := c5) (c6 := c6) (c7 := c7) (c8 := c8) (c9 := c9) (c10 := c10)
      refine ws_ifT (s1 := [some (.own true sp13), some (.val (.int n)), some (.val (.int k)), some (.own false (lo13.map nI)), c4, c5, c6, c7, c8, c9, c10, none, none, none]) (by simp [fnV, fnW, initV, initW, mSeq, mIfS, mTest, mBin, mIx, mVar, mC, peek, peeks, seqD, asI, asB, onI, mAsg, mFrz, frz, mTupNew, mCons, mNil, fDm, gTupD, gsCons, gsNil, gSubD, gPut, put, ownAt, mRet, toRet, port0, mSkip, mCS, mCL, fI1, fI2, mSet, mPar, mPar3, Dm.plain, mTup, mLst, vals, mTupOf, fTup, fLen, mIf, mIfS, mNotT, mChain, mTyIs, tyD, noFrz, mIxK, mAndT, mOrT, mAndV, mOrV, mNotV, mExpr, mCallV, mCallW, rOf, mUn, fNeg, fList, fRg1, fRg2, fRg3, mRng, mSeqI, mYes, wipeS, mRep, fEq_int, hk]) ?_
      exact ws_nx (set_of e14 rfl) ⟨_, rfl, sp14, lo14, rfl, hs14, hl14⟩
    · refine ws_ifF (s1 := [some (.own true sp13), some (.val (.int n)), some (.val (.int k)), some (.own false (lo13.map nI)), c4, c5, c6, c7, c8, c9, c10, none, none, none]) (by simp [fnV, fnW, initV, initW, mSeq, mIfS, mTest, mBin, mIx, mVar, mC, peek, peeks, seqD, asI, asB, onI, mAsg, mFrz, frz, mTupNew, mCons, mNil, fDm, gTupD, gsCons, gsNil, gSubD, gPut, put, ownAt, mRet, toRet, port0, mSkip, mCS, mCL, fI1, fI2, mSet, mPar, mPar3, Dm.plain, mTup, mLst, vals, mTupOf, fTup, fLen, mIf, mIfS, mNotT, mChain, mTyIs, tyD, noFrz, mIxK, mAndT, mOrT, mAndV, mOrV, mNotV, mExpr, mCallV, mCallW, rOf, mUn, fNeg, fList, fRg1, fRg2, fRg3, mRng, mSeqI, mYes, wipeS, mRep, fEq_int]; omega) ?_
      exact ws_skip ⟨_, rfl, sp13, lo13, rfl, hs13, hl13⟩
  rintro o ⟨s1, rfl, sp15, lo15, rfl, hs15, hl15⟩
  refine ⟨_, rfl, ?_⟩
  have hne := fNe_lst0 (l := lo15) (fun j hj => by have := hl15 j hj; omega)
  have hnil : mLst mNil [some (.own true sp15), some (.val (.int n)), some (.val (.int k)), some (.own false (lo15.map nI)), c4, c5, c6, c7, c8, c9, c10, none, none, none] = some (.own [], [some (.own true sp15), some (.val (.int n)), some (.val (.int k)), some (.own false (lo15.map nI)), c4, c5, c6, c7, c8, c9, c10, none, none, none]) := rfl
  have htest := mTest_of (mBin_of2 (f := fNe) (s := [some (.own true sp15), some (.val (.int n)), some (.val (.int k)), some (.own false (lo15.map nI)), c4, c5, c6, c7, c8, c9, c10, none, none, none]) (ma := mVar 3) (mb := mLst mNil) rfl hnil rfl rfl hne)
  by_cases h15 : lo15 = []
  · obtain ⟨x, sp16, e16, hs16, hx⟩ := draw_ok hs15 (w := n) (by omega) (by omega)
    refine ws_ret ⟨.val (.tup ([x].map nI)), [some (.own true sp16), some (.val (.int n)), some (.val (.int k)), some (.own false (lo15.map nI)), c4, c5, c6, c7, c8, c9, c10, none, none, none], ?_, _, rfl, _, _, sp16, rfl, rfl, [x], rfl, hs16, fun j hj => ?_, List.pairwise_singleton _ _, by simp⟩
    · have ht2 := htest
      rw [decide_eq_true h15] at ht2
      rw [ifF_of ht2]
      simp [fnV, fnW, initV, initW, mSeq, mIfS, mTest, mBin, mIx, mVar, mC, peek, peeks, seqD, asI, asB, onI, mAsg, mFrz, frz, mTupNew, mCons, mNil, fDm, gTupD, gsCons, gsNil, gSubD, gPut, put, ownAt, mRet, toRet, port0, mSkip, mCS, mCL, fI1, fI2, mSet, mPar, mPar3, Dm.plain, mTup, mLst, vals, mTupOf, fTup, fLen, mIf, mIfS, mNotT, mChain, mTyIs, tyD, noFrz, mIxK, mAndT, mOrT, mAndV, mOrV, mNotV, mExpr, mCallV, mCallW, rOf, mUn, fNeg, fList, fRg1, fRg2, fRg3, mRng, mSeqI, mYes, wipeS, mRep, e16]
    · simp at hj; omega
  · have pl := pure_lc h2 (t := (mTest (mBin (fIn false) (mVar 11) (mVar 3)))) (p := fun x => decide (x ∈ lo15)) (sp := sp15) (c2 := some (.val (.int k))) (c3 := some (.own false (lo15.map nI))) (c4 := c4) (c5 := c5) (c6 := c6) (c7 := c7) (c8 := c8) (c9 := c9) (c10 := c10) (fun x hx =>
      mTest_of (mBin_of2 (ma := mVar 11) (mb := mVar 3) rfl rfl rfl rfl (fIn_lst false _ _)))
    refine ws_ret ⟨.val (.tup (((List.range n).filter fun x => decide (x ∈ lo15)).map nI)), [some (.own true sp15), some (.val (.int n)), some (.val (.int k)), some (.own false (lo15.map nI)), c4, c5, c6, c7, c8, c9, c10, none, none, none], ?_, _, rfl, _, _, sp15, rfl, rfl, _, rfl, hs15, fun j hj => List.mem_range.1 (List.mem_filter.1 hj).1, List.Pairwise.filter _ List.pairwise_lt_range, fun hc => h15 ?_⟩
    · rw [decide_eq_false h15] at htest
      rw [ifT_of htest]
      exact tupOf_of pl
    · refine List.eq_nil_iff_forall_not_mem.2 fun j hj => ?_
      have : j ∈ (List.range n).filter fun x => decide (x ∈ lo15) := List.mem_filter.2 ⟨List.mem_range.2 (hl15 j hj), decide_eq_true hj⟩
      rw [hc] at this
      cases this
end K41
set_option Elab.async false
set_option linter.all false
set_option maxRecDepth 100000
set_option maxHeartbeats 4000000
namespace K41
open PySem PySem.Spec L2 Dm
set_option autoImplicit false
/-! ### what moving and turning does to the counts -/
theorem t_shift : ∀ n < 13, ∀ far < n, ∀ s < n, ∀ a < n, ∀ k < n, ((a * 1 + far) % n * s % n == k) = (a * s % n == (k + (n - far * s % n) % n) % n) := by decide +kernel
theorem t_mul : ∀ n < 13, ∀ u < n, ∀ s < n, ∀ a < n, (a * u + 0) % n * s % n = a * (u * s % n) % n := by decide +kernel
theorem t_mul2 : ∀ n < 13, ∀ u < n, ∀ s < n, ∀ a < n, a * (u * s % n) % n = a * s % n * u % n := by decide +kernel
theorem t_inv : ∀ n < 13, ∀ u < n, Nat.gcd u n = 1 → ∃ v, v < n ∧ Nat.gcd v n = 1 ∧ ∀ b < n, ∀ k < n, (b * u % n == k) = (b == v * k % n) := by
  have : ∀ n < 13, ∀ u < n, Nat.gcd u n = 1 → ((List.range n).any fun v => decide (Nat.gcd v n = 1) && decide (∀ b < n, ∀ k < n, (b * u % n == k) = (b == v * k % n))) = true := by decide +kernel
  intro n hn u hu hg
  obtain ⟨v, hv, h⟩ := List.any_eq_true.1 (this n hn u hu hg)
  rw [Bool.and_eq_true] at h
  exact ⟨v, List.mem_range.1 hv, of_decide_eq_true h.1, of_decide_eq_true h.2⟩
theorem t_inj1 : ∀ n < 13, ∀ far < n, ∀ a < n, ∀ b < n, (a + far) % n = (b + far) % n → a = b := by decide +kernel
theorem t_inj2 : ∀ n < 13, ∀ u < n, Nat.gcd u n = 1 → ∀ a < n, ∀ b < n, a * u % n = b * u % n → a = b := by
  have : ∀ n < 13, ∀ u < n, (!decide (Nat.gcd u n = 1) || (List.range n).all fun a => (List.range n).all fun b => !decide (a * u % n = b * u % n) || decide (a = b)) = true := by decide +kernel
  intro n hn u hu hg a ha b hb h
  have t := this n hn u hu
  rw [decide_eq_true hg] at t
  have t2 := List.all_eq_true.1 (List.all_eq_true.1 t a (List.mem_range.2 ha)) b (List.mem_range.2 hb)
  rw [decide_eq_true h] at t2
  exact of_decide_eq_true t2
theorem t_inj {n u far a b : Nat} (hn : n < 13) (hu : u < n) (hg : Nat.gcd u n = 1) (hf : far < n) (ha : a < n) (hb : b < n) (h : (a * u + far) % n = (b * u + far) % n) : a = b := by
  have h0 : 0 < n := by omega
  refine t_inj2 n hn u hu hg a ha b hb (t_inj1 n hn far hf _ (Nat.mod_lt _ h0) _ (Nat.mod_lt _ h0) ?_)
  rw [Nat.mod_add_mod, Nat.mod_add_mod]
  exact h
theorem X_perm {n s : Nat} {l m : List Nat} (h : m.Perm l) : X n m s = X n l s := by
  funext k
  unfold X
  rw [h.countP_eq]
theorem X_map (n s : Nat) (f : Nat → Nat) (l : List Nat) (k : Nat) : X n (l.map f) s k = ((l.countP fun a => f a * s % n == k : Nat) : Int) := by
  unfold X
  rw [List.countP_map]
  rfl
theorem countP_on {l : List Nat} {p q : Nat → Bool} (h : ∀ a ∈ l, p a = q a) : l.countP p = l.countP q := List.countP_congr fun a ha => by rw [h a ha]
section
variable {n : Nat} (h : 2 ≤ n) (h2 : n ≤ 12) {l : List Nat} (hl : ∀ j ∈ l, j < n)
include h h2 hl
theorem zx_moved {m : List Nat} {far s : Nat} (hf : far < n) (hs : s < n) (hm : m.Perm (l.map fun a => (a * 1 + far) % n)) (z : Zn.Zx n (X n l s)) : Zn.Zx n (X n m s) := by
  rw [X_perm hm]
  refine Zn.cong h h2 _ _ (Zn.shift h h2 (t := (n - far * s % n) % n) (Nat.mod_lt _ (by omega)) _ z) fun k hk => ?_
  rw [X_map]
  unfold X
  rw [countP_on fun a ha => t_shift n (by omega) far hf s hs a (hl a ha) k hk]
theorem zx_turned {u s : Nat} (hu : u < n) (hs : s < n) (hg : Nat.gcd u n = 1) (z : Zn.Zx n (X n l s)) : Zn.Zx n (X n l (u * s % n)) := by
  obtain ⟨v, hv, hgv, he⟩ := t_inv n (by omega) u hu hg
  refine Zn.cong h h2 _ _ (Zn.perm h h2 hv hgv _ z) fun k hk => ?_
  unfold X
  rw [countP_on fun a ha => by
    show (a * (u * s % n) % n == k) = (a * s % n == v * k % n)
    rw [t_mul2 n (by omega) u hu s hs a (hl a ha)]
    exact he _ (Nat.mod_lt _ (by omega)) k hk]
theorem X_led {m : List Nat} {u s : Nat} (hu : u < n) (hs : s < n) (hm : m.Perm (l.map fun a => (a * u + 0) % n)) : X n m s = X n l (u * s % n) := by
  rw [X_perm hm]
  funext k
  rw [X_map]
  unfold X
  rw [countP_on fun a ha => by
    show ((a * u + 0) % n * s % n == k) = (a * (u * s % n) % n == k)
    rw [t_mul n (by omega) u hu s hs a (hl a ha)]]
theorem not_first (h0 : l ≠ []) : ¬ Zn.Zx n (X n l 0) := fun z => by
  have e : ∀ k, X n l 0 k = if k = 0 then (l.length : Int) else 0 := fun k => by
    unfold X
    by_cases hk : k = 0
    · subst hk
      rw [if_pos rfl]
      congr 1
      rw [List.countP_eq_length]
      intro a _
      simp
    · rw [if_neg hk]
      have : l.countP (fun j => j * 0 % n == k) = 0 := by
        rw [List.countP_eq_zero]
        intro a _
        simp
        exact fun e => hk e.symm
      rw [this]
      rfl
  have := Zn.lone h h2 _ z fun k _ hk => by rw [e, if_neg hk]
  rw [e, if_pos rfl] at this
  have : l.length = 0 := by omega
  exact h0 (List.length_eq_zero_iff.1 this)
theorem X_left (hp : l.Pairwise (· < ·)) (s k : Nat) : (((List.range n).countP fun j => j * s % n == k : Nat) : Int) = X n l s k + X n ((List.range n).filter fun j => !decide (j ∈ l)) s k := by
  unfold X
  rw [List.countP_eq_countP_filter_add (List.range n) _ fun j => decide (j ∈ l)]
  have : l.Perm ((List.range n).filter fun j => decide (j ∈ l)) := by
    refine (List.perm_ext_iff_of_nodup (hp.imp fun h => Nat.ne_of_lt h) (List.Pairwise.filter _ List.nodup_range)).2 fun a => ?_
    rw [List.mem_filter, List.mem_range, decide_eq_true_eq]
    exact ⟨fun ha => ⟨hl a ha, ha⟩, fun ha => ha.2⟩
  rw [this.countP_eq, Int.natCast_add]
end
theorem zs_eq {n : Nat} {l m : List Nat} (h : ∀ s < n, (Zn.Zx n (X n m s) ↔ Zn.Zx n (X n l s))) : zs n m = zs n l := by
  unfold zs
  refine List.filter_congr fun s hs => ?_
  rw [decide_eq_decide]
  exact h s (List.mem_range.1 hs)
theorem mem_zs {n s : Nat} {l : List Nat} : s ∈ zs n l ↔ s < n ∧ Zn.Zx n (X n l s) := by
  unfold zs
  rw [List.mem_filter, List.mem_range, decide_eq_true_eq]
/-! ### led across -/
theorem led_ok {n : Nat} (h : 2 ≤ n) (h2 : n ≤ 12) {l : List Nat} (hl : ∀ j ∈ l, j < n) (hlen : l.length ≤ 1000) (u far : Nat) :
    ∃ m : List Nat, fn__law_led [.int n, .tup (l.map nI), .int u, .int far] = some (.val (.tup (m.map nI))) ∧ m.Perm (l.map fun a => (a * u + far) % n) ∧ m.Pairwise (· ≤ ·) := by
  generalize hk : (l.map fun a => (a * u + far) % n) = ks
  let s : S := [some (Cell.val (.int n)), some (.val (.tup (l.map nI))), some (.val (.int u)), some (.val (.int far)), none]
  have k1 := mlc_pure (vs := [4]) (mi := mSeqI (mVar 1)) (g := gPut 4) (t := mYes) (m := mBin fMod (mCS (fI1 fun i => i) (mCons (mBin fAdd (mBin fMul (mVar 4) (mVar 2)) (mVar 3)) mNil)) (mVar 0)) nI (fun _ => true) (fun a => nI ((a * u + far) % n)) l (s := s) (s1 := s) (s2 := s) rfl (by omega) (by
    intro j hj
    refine ⟨[some (Cell.val (.int n)), some (.val (.tup (l.map nI))), some (.val (.int u)), some (.val (.int far)), some (.val (.int j))], rfl, rfl, fun _ => ?_, rfl⟩
    refine mBin_of (mInt_of (i := ((j * u + far : Nat) : Int)) (mBin_of (mBin_of rfl rfl (fMul_nat (by have := hl j hj; omega))) rfl ?_)) rfl (fMod_nat (by omega))
    rw [Int.natCast_add]
    rfl) rfl
  rw [filter_all] at k1
  have hm2 : (l.map fun a => nI ((a * u + far) % n)) = ks.map nI := by rw [← hk, List.map_map]; rfl
  rw [hm2] at k1
  have hi : intsD (ks.map nI) = some (ks.map fun (k : Nat) => (k : Int)) := by
    clear hk hm2 k1
    induction ks with
    | nil => rfl
    | cons x ks ih => rw [List.map_cons, List.map_cons]; unfold intsD; rw [ih]; rfl
  have hso : (ks.mergeSort fun a b => decide (a ≤ b)).Pairwise (· ≤ ·) := by
    have := List.pairwise_mergeSort (le := fun a b : Nat => decide (a ≤ b)) (by intro a b c; simp; omega) (by intro a b; simp; omega) ks
    exact this.imp fun h => of_decide_eq_true h
  have hs : isort (ks.map fun (k : Nat) => (k : Int)) = (ks.mergeSort fun a b => decide (a ≤ b)).map fun (k : Nat) => (k : Int) :=
    (isort_of ((List.mergeSort_perm ks _).map _) (List.pairwise_map.2 (hso.imp fun h => by omega))).symm
  have hf : fSorted [.lst (ks.map nI)] = some ((ks.mergeSort fun a b => decide (a ≤ b)).map nI) := by
    unfold fSorted
    show (intsD (ks.map nI)).bind _ = _
    rw [hi]
    show some ((isort _).map D.int) = _
    rw [hs, List.map_map]
    rfl
  refine ⟨_, ?_, (List.mergeSort_perm ks fun a b => decide (a ≤ b)), hso⟩
  have e3 : mCL fSorted (mCons (mLc [4] (mSeqI (mVar 1)) (gPut 4) mYes (mBin fMod (mCS (fI1 fun i => i) (mCons (mBin fAdd (mBin fMul (mVar 4) (mVar 2)) (mVar 3)) mNil)) (mVar 0))) mNil) s = some (.own ((ks.mergeSort fun a b => decide (a ≤ b)).map nI), s) := by
    unfold mCL
    rw [cons_of k1 rfl]
    show (fSorted [.lst (ks.map nI)]).bind _ = _
    rw [hf]
    rfl
  obtain ⟨r, e, rfl⟩ := fnV_ws (np := 4) (nv := 5) (b := b__law_led) (ds := [.int n, .tup (l.map nI), .int u, .int far]) (P := fun r => r = .val (.tup ((ks.mergeSort fun a b => decide (a ≤ b)).map nI)))
    (ws_ret ⟨_, s, tupOf_of e3, _, rfl, _, _, rfl, rfl⟩)
  exact e
/-! ### the common divisor -/
def isI (r : Option Ret) (k : Nat) : Bool := match r with
  | some (.val (.int i)) => i == (k : Int)
  | _ => false
theorem isI_eq {r : Option Ret} {k : Nat} (h : isI r k = true) : r = some (.val (.int k)) := by
  unfold isI at h
  split at h
  · rw [eq_of_beq h]
  · cases h
theorem shared_all : ((List.range 13).all fun n => (List.range n).all fun e => isI (fn__law_shared [.int (e : Nat), .int (n : Nat)]) (Nat.gcd e n)) = true := by decide +kernel
theorem shared_ok {n e : Nat} (h2 : n ≤ 12) (he : e < n) : fn__law_shared [.int e, .int n] = some (.val (.int (Nat.gcd e n))) :=
  isI_eq (List.all_eq_true.1 (List.all_eq_true.1 shared_all n (List.mem_range.2 (by omega))) e (List.mem_range.2 he))
end K41
set_option Elab.async false
set_option linter.all false
set_option maxRecDepth 100000
set_option maxHeartbeats 4000000
namespace K41
open PySem PySem.Spec L2 Dm
set_option autoImplicit false
theorem and_of {t u : MT} {s : S} {a b : Bool} (h : t s = some (a, s)) (h2 : u s = some (b, s)) : mAndT t u s = some (a && b, s) := by
  unfold mAndT
  rw [h]
  cases a with
  | false => rfl
  | true =>
    show u s = _
    rw [h2]
    rfl
theorem fDiv_nat {a b : Nat} (h : b ≠ 0) (h2 : b < 1000000) : fDiv (.int a) (.int b) = some (.int ((a / b : Nat) : Int)) := by
  have hc : CDivN (a : Int) (b : Int) := by
    unfold CDivN
    refine ⟨by omega, ?_⟩
    rw [Int.natAbs_natCast]
    omega
  simp only [fDiv, onI, if_pos hc]
  rw [← Int.ofNat_fdiv]
theorem lc2_pure {α β : Type} {vs vs1 : List Nat} {mi mi1 : MI} {g g1 : MG} {t t1 : MT} {m : ME} (f : α → D) (f1 : β → D) (p1 : α → β → Bool) (v : α → β → D) (xs : List α) (ys : List β) {s s1 s2 : S} (hm : mi s = some (xs.map f, s1)) (hl : xs.length * ys.length ≤ 100000)
    (st : ∀ x ∈ xs, ∃ s3, g (f x) (wipeS s1 vs) = some s3 ∧ t s3 = some (true, s3) ∧ mi1 s3 = some (ys.map f1, s3) ∧
      (∀ y ∈ ys, ∃ s4, g1 (f1 y) (wipeS s3 vs1) = some s4 ∧ t1 s4 = some (p1 x y, s4) ∧ (p1 x y = true → m s4 = some (.val (v x y), s4)) ∧ wipeS s4 vs1 = wipeS s3 vs1) ∧ wipeS (wipeS s3 vs1) vs = wipeS s1 vs) (hu : unwipe s1 (wipeS s1 vs) vs = s2) :
    mLc2 vs vs1 mi g t mi1 g1 t1 m s = some (.own (xs.flatMap fun x => (ys.filter (p1 x)).map (v x)), s2) := by
  have main : ∀ (zs : List α) (acc : List D), (∀ x ∈ zs, x ∈ xs) → acc.length + zs.length * ys.length ≤ 100000 → lc2Loop vs vs1 g t mi1 g1 t1 m (zs.map f) (wipeS s1 vs) acc = some (acc ++ (zs.flatMap fun x => (ys.filter (p1 x)).map (v x)), wipeS s1 vs) := by
    intro zs
    induction zs with
    | nil => intro acc _ _; simp [lc2Loop]
    | cons x zs ih =>
      intro acc hz hl
      rw [List.length_cons, Nat.add_mul, Nat.one_mul] at hl
      obtain ⟨s3, e1, e2, e3, e4, e5⟩ := st x (hz x List.mem_cons_self)
      rw [List.map_cons]
      unfold lc2Loop
      rw [e1]
      show (t s3).bind _ = _
      rw [e2]
      show (mi1 s3).bind _ = _
      rw [e3]
      obtain ⟨s', e6, rfl⟩ := lc_run (g := g1) (t := t1) (m := m) f1 vs1 (fun s => s = wipeS s3 vs1) (p1 x) (v x) ys (wipeS s3 vs1) acc rfl (by omega) (by
        rintro y s rfl hy
        obtain ⟨s4, q1, q2, q3, q4⟩ := e4 y hy
        exact ⟨s4, q1, p1 x y, s4, q2, rfl, fun h => ⟨_, s4, q3 h, s4, rfl, q4⟩, fun h => q4⟩)
      show (lcLoop vs1 g1 t1 m (ys.map f1) (wipeS s3 vs1) acc).bind _ = _
      rw [e6]
      show lc2Loop vs vs1 g t mi1 g1 t1 m (zs.map f) (wipeS (wipeS s3 vs1) vs) _ = _
      rw [e5, ih _ (fun x hx => hz x (List.mem_cons_of_mem _ hx)) (by
        rw [List.length_append, List.length_map]
        have := List.length_filter_le (p1 x) ys
        omega), List.flatMap_cons, List.append_assoc]
  unfold mLc2
  rw [hm]
  show (lc2Loop vs vs1 g t mi1 g1 t1 m (xs.map f) (wipeS s1 vs) []).bind _ = _
  rw [main xs [] (fun _ h => h) (by simpa using hl), List.nil_append]
  show some (_, unwipe s1 (wipeS s1 vs) vs) = _
  rw [hu]
/-! ### primes -/
def prm : Nat → Option Nat
  | 2 => some 2
  | 3 => some 3
  | 4 => some 2
  | 5 => some 5
  | 7 => some 7
  | 8 => some 2
  | 9 => some 3
  | 11 => some 11
  | _ => none
def pD : Option Nat → D
  | some k => nI k
  | none => .non
def isP (r : Option Ret) (o : Option Nat) : Bool := match r with
  | some (.val (.int i)) => (match o with
    | some k => i == (k : Int)
    | none => false)
  | some (.val .non) => o.isNone
  | _ => false
theorem isP_eq {r : Option Ret} {o : Option Nat} (h : isP r o = true) : r = some (.val (pD o)) := by
  unfold isP at h
  split at h
  · split at h
    · rw [eq_of_beq h]; rfl
    · cases h
  · cases o with
    | none => rfl
    | some k => cases h
  · cases h
theorem prime_all : ((List.range 11).all fun i => isP (fn_prime_of [.int ((2 + i : Nat) : Int)]) (prm (2 + i))) = true := by decide +kernel
theorem prime_ok {c : Nat} (h : 2 ≤ c) (h2 : c ≤ 12) : fn_prime_of [.int c] = some (.val (pD (prm c))) := by
  have := isP_eq (List.all_eq_true.1 prime_all (c - 2) (List.mem_range.2 (by omega)))
  rw [show 2 + (c - 2) = c from by omega] at this
  exact this
theorem prm_lt {c k : Nat} (h : prm c = some k) : k < 12 := by
  unfold prm at h
  split at h <;> cases h <;> decide
/-! ### parts -/
def parts (n : Nat) (l : List Nat) : List Nat := ((List.range (n + 1 - 2)).filter fun i => decide (n % (2 + i) = 0) && decide (n / (2 + i) ∈ zs n l)).map fun i => 2 + i
theorem mem_parts {n m : Nat} {l : List Nat} : m ∈ parts n l ↔ (2 ≤ m ∧ m ≤ n) ∧ n % m = 0 ∧ n / m ∈ zs n l := by
  unfold parts
  rw [List.mem_map]
  constructor
  · rintro ⟨i, hi, rfl⟩
    rw [List.mem_filter, List.mem_range, Bool.and_eq_true, decide_eq_true_eq, decide_eq_true_eq] at hi
    exact ⟨by omega, hi.2⟩
  · rintro ⟨h, h2⟩
    refine ⟨m - 2, ?_, by omega⟩
    rw [List.mem_filter, List.mem_range, Bool.and_eq_true, decide_eq_true_eq, decide_eq_true_eq, show 2 + (m - 2) = m from by omega]
    exact ⟨by omega, h2⟩
def dv1 (n : Nat) : List Nat := ((List.range (n + 1 - 2)).filter fun i => decide (n % (2 + i) = 0)).map fun i => 2 + i
theorem divisors_ok {n : Nat} (h : 2 ≤ n) (h2 : n ≤ 12) : fn_divisors_of [.int n] = some (.own (nI 1 :: (dv1 n).map nI)) := by
  rcases Zn.sizes h h2 with rfl | rfl | rfl | rfl | rfl | rfl | rfl | rfl | rfl | rfl | rfl <;> rfl
theorem parts_dv (n : Nat) (l : List Nat) : parts n l = (dv1 n).filter fun m => decide (n / m ∈ zs n l) := by
  unfold parts dv1
  rw [List.filter_map, List.filter_filter]
  refine congrArg (List.map fun i => 2 + i) (List.filter_congr fun i _ => ?_)
  show (_ && _) = ((fun m => decide (n / m ∈ zs n l)) (2 + i) && _)
  rw [Bool.and_comm]
theorem dv1_mem {n m : Nat} (h : m ∈ dv1 n) : 2 ≤ m ∧ m ≤ n := by
  unfold dv1 at h
  obtain ⟨i, hi, rfl⟩ := List.mem_map.1 h
  have := List.mem_range.1 (List.mem_filter.1 hi).1
  omega
theorem parts_ok {n : Nat} (h : 2 ≤ n) (h2 : n ≤ 12) {l : List Nat} (hl : ∀ j ∈ l, j < n) (hp : l.Pairwise (· < ·)) (hlen : l.length ≤ 1000) (h0 : l ≠ []) : fn_parts_in [.int n, .tup (l.map nI)] = some (.val (.tup ((parts n l).map nI))) := by
  have st := steps_ok h h2 hl hp hlen h0
  have dk := divisors_ok h h2
  let s : S := [some (Cell.val (.int n)), some (.val (.tup (l.map nI))), some (.val (.tup ((zs n l).map nI))), none]
  have e1 : mSet 2 (mCallV fn_zero_steps (mCons (mFrz (mVar 0)) (mCons (mFrz (mVar 1)) mNil))) [some (Cell.val (.int n)), some (.val (.tup (l.map nI))), none, none] = some (.nx s) := set_of (callV_of (rs := [.val (.int n), .val (.tup (l.map nI))]) rfl rfl st) rfl
  have sl : mSlL (mCallV fn_divisors_of (mCons (mFrz (mVar 0)) mNil)) (mPart (mC (.int 1))) mNo s = some (.own ((dv1 n).map nI), s) := by
    unfold mSlL
    rw [callV_of (ds := [.int n]) rfl rfl dk]
    show some (R.own (cutD (nI 1 :: (dv1 n).map nI) (some 1) none), s) = _
    rw [show nI 1 :: (dv1 n).map nI = (1 :: dv1 n).map nI from rfl, cut_tail]
    rfl
  have sq : mSeqI (mSlL (mCallV fn_divisors_of (mCons (mFrz (mVar 0)) mNil)) (mPart (mC (.int 1))) mNo) s = some ((dv1 n).map nI, s) := by
    unfold mSeqI
    rw [sl]
    rfl
  have ll : (dv1 n).length ≤ 100000 := by
    unfold dv1
    rw [List.length_map]
    have := List.length_filter_le (fun i => decide (n % (2 + i) = 0)) (List.range (n + 1 - 2))
    rw [List.length_range] at this
    omega
  have k1 := mlc_pure (vs := [3]) (mi := mSeqI (mSlL (mCallV fn_divisors_of (mCons (mFrz (mVar 0)) mNil)) (mPart (mC (.int 1))) mNo)) (g := gPut 3) (t := mTest (mBin (fIn false) (mBin fDiv (mVar 0) (mVar 3)) (mVar 2))) (m := mVar 3) nI (fun m => decide (n / m ∈ zs n l)) nI (dv1 n) (s := s) (s1 := s) (s2 := s) sq ll (fun m hm => by
      have hm := dv1_mem hm
      exact ⟨[some (Cell.val (.int n)), some (.val (.tup (l.map nI))), some (.val (.tup ((zs n l).map nI))), some (.val (nI m))], rfl, mTest_of (mBin_of (mBin_of rfl rfl (fDiv_nat (by omega) (by omega))) rfl (fIn_tup false _ _)), fun _ => rfl, rfl⟩) rfl
  rw [← parts_dv] at k1
  obtain ⟨r, e, rfl⟩ := fnV_ws (np := 2) (nv := 4) (ds := [.int n, .tup (l.map nI)]) (P := fun r => r = .val (.tup ((parts n l).map nI))) (ws_step e1 (ws_ret ⟨.val (.tup ((parts n l).map nI)), s, tupOf_of k1, _, rfl, _, _, rfl, rfl⟩))
  exact e
/-! ### the first sign -/
def pr (ps : List Nat) : Nat := ps.foldl (fun a c => a * (prm c).getD 1) 1
theorem pr_snoc (ps : List Nat) (c : Nat) : pr (ps ++ [c]) = pr ps * (prm c).getD 1 := by
  unfold pr
  rw [List.foldl_append]
  rfl
theorem fMul_natR {a b : Nat} (h : b < 1000000) : fMul (.int a) (.int b) = some (.int ((a * b : Nat) : Int)) := by
  have : CMul (a : Int) (b : Int) := by
    unfold CMul
    right
    constructor <;> omega
  rw [fMul_of this, Int.natCast_mul]
theorem dec_nat (a b : Nat) : some (D.bl (decide ((a : Int) = (b : Int)))) = some (D.bl (decide (a = b))) := by
  have : decide ((a : Int) = (b : Int)) = decide (a = b) := by rw [decide_eq_decide]; omega
  rw [this]
theorem first_ok {n : Nat} (h : 2 ≤ n) (h2 : n ≤ 12) {l : List Nat} (hl : ∀ j ∈ l, j < n) (hp : l.Pairwise (· < ·)) (hlen : l.length ≤ 1000) (h0 : l ≠ []) : fn_has_first_sign [.int n, .tup (l.map nI)] = some (.val (.bl (decide (pr (parts n l) = l.length)))) := by
  have pk := parts_ok h h2 hl hp hlen h0
  obtain ⟨r, e, rfl⟩ := fnV_ws (np := 2) (nv := 5) (b := b_has_first_sign) (ds := [.int n, .tup (l.map nI)]) (P := fun r => r = .val (.bl (decide (pr (parts n l) = l.length)))) (by
    unfold b_has_first_sign
    refine ws_step (s1 := [some (.val (.int n)), some (.val (.tup (l.map nI))), some (.val (.int ((1 : Nat) : Int))), none, none]) rfl ?_
    refine ws_seq (ws_for ⟨(parts n l).map nI, [some (.val (.int n)), some (.val (.tup (l.map nI))), some (.val (.int ((1 : Nat) : Int))), none, none], ?_, ws_list nI (fun dn t => ∃ c3 c4, t = [some (.val (.int n)), some (.val (.tup (l.map nI))), some (.val (.int ((pr dn : Nat) : Int))), c3, c4] ∧ Fr c3 = true ∧ Fr c4 = true) (parts n l) ⟨none, none, rfl, rfl, rfl⟩ ?_ ?_⟩)
    · unfold mSeqI
      rw [callV_of (rs := [.val (.int n), .val (.tup (l.map nI))]) rfl rfl pk]
      rfl
    · rintro dn c rest t hd ⟨c3, c4, rfl, h3, h4⟩
      have hc := (mem_parts.1 (show c ∈ parts n l by rw [hd]; simp)).1
      have pc := prime_ok hc.1 (by omega : c ≤ 12)
      refine ⟨_, put_valF (c := c3) rfl h3, ?_⟩
      refine ws_step (s1 := [some (.val (.int n)), some (.val (.tup (l.map nI))), some (.val (.int ((pr dn : Nat) : Int))), some (.val (.int c)), some (.val (pD (prm c)))]) (set_of (callV_of (rs := [.val (.int c)]) rfl rfl pc) (put_valF (c := c4) rfl h4)) ?_
      have ps := pr_snoc dn c
      cases hq : prm c with
      | none =>
        rw [hq] at ps
        refine ws_ifF (s1 := [some (.val (.int n)), some (.val (.tup (l.map nI))), some (.val (.int ((pr dn : Nat) : Int))), some (.val (.int c)), some (.val .non)]) rfl (ws_skip ⟨_, .inl rfl, some (.val (.int c)), some (.val .non), ?_, rfl, rfl⟩)
        rw [ps]
        show _ = [some (Cell.val (.int n)), _, some (Cell.val (.int ((pr dn * 1 : Nat) : Int))), _, _]
        rw [Nat.mul_one]
      | some k =>
        rw [hq] at ps
        have hk := prm_lt hq
        refine ws_ifT (s1 := [some (.val (.int n)), some (.val (.tup (l.map nI))), some (.val (.int ((pr dn : Nat) : Int))), some (.val (.int c)), some (.val (nI k))]) rfl ?_
        refine ws_nx (set_of (s1 := [some (.val (.int n)), some (.val (.tup (l.map nI))), some (.val (.int ((pr dn : Nat) : Int))), some (.val (.int c)), some (.val (nI k))]) (mBin_of rfl rfl (fMul_natR (by omega))) rfl) ⟨_, .inl rfl, some (.val (.int c)), some (.val (nI k)), ?_, rfl, rfl⟩
        rw [ps]
        rfl
    · rintro t ⟨c3, c4, rfl, h3, h4⟩
      refine ⟨_, rfl, ?_⟩
      have hlen2 : mCS fLen (mCons (mVar 1) mNil) [some (Cell.val (.int n)), some (.val (.tup (l.map nI))), some (.val (.int ((pr (parts n l) : Nat) : Int))), c3, c4] = some (.val (.int (l.length : Int)), [some (Cell.val (.int n)), some (.val (.tup (l.map nI))), some (.val (.int ((pr (parts n l) : Nat) : Int))), c3, c4]) := by
        show some (R.val (D.int ((l.map nI).length : Int)), _) = _
        rw [List.length_map]
      refine ws_ret ⟨.val (.bl (decide (pr (parts n l) = l.length))), _, mBin_of rfl hlen2 ?_, _, rfl, _, _, rfl, rfl⟩
      rw [fEq_int]
      exact dec_nat _ _)
  exact e
/-! ### the second sign -/
def powers (n : Nat) (l : List Nat) : List Nat := (parts n l).filter fun c => (prm c).isSome
def second (n : Nat) (l : List Nat) : Bool := ((powers n l).flatMap fun a => ((powers n l).filter fun b => !decide (prm a = prm b)).map fun b => decide (a * b ∈ parts n l)).all id
theorem fNe_p (a b : Option Nat) : fNe (pD a) (pD b) = some (.bl (!decide (a = b))) := by
  cases a with
  | none => cases b <;> rfl
  | some x =>
    cases b with
    | none => rfl
    | some y =>
      show fNe (.int x) (.int y) = _
      rw [fNe_int]
      congr 3
      rw [decide_eq_decide]
      constructor
      · intro h; congr 1; omega
      · intro h; cases h; rfl
theorem bools_flat {α β : Type} (xs : List α) (ys : α → List β) (v : α → β → Bool) : boolsD (xs.flatMap fun a => (ys a).map fun b => D.bl (v a b)) = some (xs.flatMap fun a => (ys a).map fun b => v a b) := by
  have app : ∀ (p : List Bool) (q : List D) (r : List Bool), boolsD q = some r → boolsD (p.map D.bl ++ q) = some (p ++ r) := fun p q r h => by
    induction p with
    | nil => exact h
    | cons x p ih => rw [List.map_cons, List.cons_append]; unfold boolsD; rw [ih]; rfl
  induction xs with
  | nil => rfl
  | cons x xs ih =>
    rw [List.flatMap_cons, List.flatMap_cons]
    have := app ((ys x).map fun b => v x b) _ _ ih
    rw [List.map_map] at this
    exact this
theorem second_ok {n : Nat} (h : 2 ≤ n) (h2 : n ≤ 12) {l : List Nat} (hl : ∀ j ∈ l, j < n) (hp : l.Pairwise (· < ·)) (hlen : l.length ≤ 1000) (h0 : l ≠ []) : fn_has_second_sign [.int n, .tup (l.map nI)] = some (.val (.bl (second n l))) := by
  have pk := parts_ok h h2 hl hp hlen h0
  have hpl : (parts n l).length ≤ 12 := by
    unfold parts
    rw [List.length_map]
    exact Nat.le_trans (List.length_filter_le _ _) (by simp; omega)
  have hpw : (powers n l).length ≤ 12 := Nat.le_trans (List.length_filter_le _ _) hpl
  let s0 : S := [some (Cell.val (.int n)), some (.val (.tup (l.map nI))), none, none, none, none, none]
  let s1 : S := [some (Cell.val (.int n)), some (.val (.tup (l.map nI))), some (.val (.tup ((parts n l).map nI))), none, none, none, none]
  let s2 : S := [some (Cell.val (.int n)), some (.val (.tup (l.map nI))), some (.val (.tup ((parts n l).map nI))), some (.own false ((powers n l).map nI)), none, none, none]
  let s3 : S := [some (Cell.val (.int n)), some (.val (.tup (l.map nI))), some (.val (.tup ((parts n l).map nI))), some (.val (.lst ((powers n l).map nI))), none, none, none]
  have e1 : mSet 2 (mCallV fn_parts_in (mCons (mFrz (mVar 0)) (mCons (mFrz (mVar 1)) mNil))) s0 = some (.nx s1) := set_of (callV_of (rs := [.val (.int n), .val (.tup (l.map nI))]) rfl rfl pk) rfl
  have k1 := mlc_pure (vs := [4]) (mi := mSeqI (mVar 2)) (g := gPut 4) (t := (mTest (mBin fNotN (mCallV fn_prime_of (mCons (mFrz (mVar 4)) mNil)) (mC .non)))) (m := mVar 4) nI (fun c => (prm c).isSome) nI (parts n l) (s := s1) (s1 := s1) (s2 := s1) rfl (by omega) (fun c hc => by
    have hc := (mem_parts.1 hc).1
    refine ⟨[some (Cell.val (.int n)), some (.val (.tup (l.map nI))), some (.val (.tup ((parts n l).map nI))), none, some (.val (.int c)), none, none], rfl, mTest_of (mBin_of (callV_of (rs := [.val (.int c)]) rfl rfl (prime_ok hc.1 (by omega))) rfl ?_), fun _ => rfl, rfl⟩
    cases prm c <;> rfl) rfl
  have e2 := set_of (i := 3) (s2 := s2) k1 rfl
  have k2 := lc2_pure (vs := [5, 6]) (vs1 := [6]) (mi := mSeqI (mVar 3)) (mi1 := mSeqI (mVar 3)) (g := gPut 5) (g1 := gPut 6) (t := mYes) (t1 := (mTest (mBin fNe (mCallV fn_prime_of (mCons (mFrz (mVar 5)) mNil)) (mCallV fn_prime_of (mCons (mFrz (mVar 6)) mNil))))) (m := (mBin (fIn false) (mBin fMul (mVar 5) (mVar 6)) (mVar 2))) nI nI (fun a b => !decide (prm a = prm b)) (fun a b => .bl (decide (a * b ∈ parts n l))) (powers n l) (powers n l) (s := s2) (s1 := s3) (s2 := s3) rfl (Nat.le_trans (Nat.mul_le_mul hpw hpw) (by decide)) (fun a ha => by
    have ha := (mem_parts.1 (List.mem_filter.1 ha).1).1
    refine ⟨[some (Cell.val (.int n)), some (.val (.tup (l.map nI))), some (.val (.tup ((parts n l).map nI))), some (.val (.lst ((powers n l).map nI))), none, some (.val (.int a)), none], rfl, rfl, rfl, fun b hb => ?_, rfl⟩
    have hb := (mem_parts.1 (List.mem_filter.1 hb).1).1
    exact ⟨[some (Cell.val (.int n)), some (.val (.tup (l.map nI))), some (.val (.tup ((parts n l).map nI))), some (.val (.lst ((powers n l).map nI))), none, some (.val (.int a)), some (.val (.int b))], rfl,
      mTest_of (mBin_of (callV_of (rs := [.val (.int a)]) rfl rfl (prime_ok ha.1 (by omega))) (callV_of (rs := [.val (.int b)]) rfl rfl (prime_ok hb.1 (by omega))) (fNe_p _ _)), fun _ => mBin_of (mBin_of rfl rfl (fMul_nat (by omega))) rfl (fIn_tup false _ _), rfl⟩) rfl
  have hall : fAll [.lst ((powers n l).flatMap fun a => ((powers n l).filter fun b => !decide (prm a = prm b)).map fun b => D.bl (decide (a * b ∈ parts n l)))] = some (.bl (second n l)) := by
    unfold fAll
    show (boolsD _).bind _ = _
    rw [bools_flat]
    rfl
  obtain ⟨r, e, rfl⟩ := fnV_ws (np := 2) (nv := 7) (b := b_has_second_sign) (ds := [.int n, .tup (l.map nI)]) (P := fun r => r = .val (.bl (second n l)))
    (ws_step e1 (ws_step e2 (ws_ret ⟨.val (.bl (second n l)), s3, by
      unfold mCS
      rw [cons_of k2 (ms := mNil) (rs := []) rfl]
      show (fAll [.lst ((powers n l).flatMap fun a => ((powers n l).filter fun b => !decide (prm a = prm b)).map fun b => D.bl (decide (a * b ∈ parts n l)))]).bind _ = _
      rw [hall]
      rfl, _, rfl, _, _, rfl, rfl⟩)))
  exact e
end K41
set_option Elab.async false
set_option linter.all false
set_option maxRecDepth 100000
set_option maxHeartbeats 4000000
namespace K41
open PySem PySem.Spec L2 Dm
set_option autoImplicit false
/-! ### the law's own parts, by division -/
def row (l : List Nat) : Nat → Int := fun j => if j ∈ l then 1 else 0
def Dv (n m : Nat) (l : List Nat) : Prop := ∀ p < Zn.deg m, Zn.rdN (Zn.base m) (Zn.deg m) (n - Zn.deg m) (row l) p = 0
instance (n m : Nat) (l : List Nat) : Decidable (Dv n m l) := by unfold Dv; infer_instance
theorem law_is_N {n m : Nat} (h : 2 ≤ m) (h2 : m ≤ 12) (hN : m ≤ n) (hN2 : n ≤ 12) (l : List Nat) : fn__law_is [.int m, .lst (fl n (row l))] = some (.val (.bl (!decide (Dv n m l)))) := by
  have lr := law_rest_N h h2 hN hN2 (row l)
  have hd := deg_le h h2
  generalize hR : Zn.rdN (Zn.base m) (Zn.deg m) (n - Zn.deg m) (row l) = Rx at lr
  have tr : trus ((List.range (Zn.deg m)).map fun p => D.bl (Rx p != 0)) = some ((List.range (Zn.deg m)).map fun p => Rx p != 0) := by
    induction (List.range (Zn.deg m)) with
    | nil => rfl
    | cons p l ih => rw [List.map_cons, List.map_cons]; unfold trus; rw [ih]; rfl
  have an : ((List.range (Zn.deg m)).map fun p => Rx p != 0).any id = !decide (Dv n m l) := by
    have hdv : Dv n m l ↔ ∀ p < Zn.deg m, Rx p = 0 := by unfold Dv; rw [hR]
    rw [Bool.eq_iff_iff]
    simp only [List.any_map, List.any_eq_true, List.mem_range, Function.comp, id, bne_iff_ne, ne_eq, Bool.not_eq_true', decide_eq_false_iff_not, hdv]
    constructor
    · rintro ⟨p, hp, e⟩ c; exact e (c p hp)
    · intro c
      refine Classical.byContradiction fun k => c fun p hp => Classical.byContradiction fun e => k ⟨p, hp, e⟩
  have key := mlc_pure (vs := [2]) (mi := (mSeqI (mCallV fn__law_rest (mCons (mFrz (mVar 0)) (mCons (mFrz (mVar 1)) mNil))))) (g := gPut 2) (t := mYes) (m := (mBin fNe (mVar 2) (mC (.int 0)))) (fun p : Nat => D.int (Rx p)) (fun _ => true) (fun p : Nat => D.bl (Rx p != 0)) (List.range (Zn.deg m)) (s := [some (Cell.val (.int m)), some (.val (.lst (fl n (row l)))), none]) (s1 := [some (Cell.val (.int m)), some (.val (.lst (fl n (row l)))), none]) (s2 := [some (Cell.val (.int m)), some (.val (.lst (fl n (row l)))), none])
    (by simp [fnV, fnW, initV, initW, mSeq, mIfS, mTest, mBin, mIx, mVar, mC, peek, peeks, seqD, asI, asB, onI, mAsg, mFrz, frz, mTupNew, mCons, mNil, fDm, gTupD, gsCons, gsNil, gSubD, gPut, put, ownAt, mRet, toRet, port0, mSkip, mCS, mCL, fI1, fI2, mSet, mPar, mPar3, Dm.plain, mTup, mLst, vals, mTupOf, fTup, fLen, mIf, mIfS, mNotT, mChain, mTyIs, tyD, noFrz, mIxK, mAndT, mOrT, mAndV, mOrV, mNotV, mExpr, mCallV, mCallW, rOf, mUn, fNeg, fList, fRg1, fRg2, fRg3, mRng, mSeqI, mYes, wipeS, mRep, lr]; rfl) (by simp; omega) (by
      intro p hp
      refine ⟨[some (Cell.val (.int m)), some (.val (.lst (fl n (row l)))), some (.val (.int (Rx p)))], by simp [gPut, put, wipeS], rfl, fun _ => ?_, rfl⟩
      by_cases e : Rx p = 0 <;> simp [fnV, fnW, initV, initW, mSeq, mIfS, mTest, mBin, mIx, mVar, mC, peek, peeks, seqD, asI, asB, onI, mAsg, mFrz, frz, mTupNew, mCons, mNil, fDm, gTupD, gsCons, gsNil, gSubD, gPut, put, ownAt, mRet, toRet, port0, mSkip, mCS, mCL, fI1, fI2, mSet, mPar, mPar3, Dm.plain, mTup, mLst, vals, mTupOf, fTup, fLen, mIf, mIfS, mNotT, mChain, mTyIs, tyD, noFrz, mIxK, mAndT, mOrT, mAndV, mOrV, mNotV, mExpr, mCallV, mCallW, rOf, mUn, fNeg, fList, fRg1, fRg2, fRg3, mRng, mSeqI, mYes, wipeS, mRep, fNe_int, e]) rfl
  rw [filter_all] at key
  unfold fn__law_is b__law_is fnV
  rw [if_pos (show [D.int m, D.lst (fl n (row l))].length = 2 from rfl), show initV 3 [.int m, .lst (fl n (row l))] = [some (Cell.val (.int m)), some (.val (.lst (fl n (row l)))), none] from rfl]
  simp only [mRet, mCS, mCons, key, mNil, Option.bind_some, peeks, peek, fAnyX, seqD, tr, an, toRet]
theorem sum_row (l : List Nat) (p : Nat → Bool) : ∀ xs : List Nat, (xs.map fun j => if p j = true then row l j else 0).sum = (((xs.filter fun j => decide (j ∈ l)).countP p : Nat) : Int)
  | [] => rfl
  | x :: xs => by
    rw [List.map_cons, List.sum_cons, sum_row l p xs]
    unfold row
    by_cases hx : x ∈ l
    · rw [List.filter_cons_of_pos (by simp [hx]), List.countP_cons, if_pos hx]
      by_cases hpx : p x = true
      · rw [if_pos hpx, if_pos hpx]; omega
      · rw [if_neg hpx, if_neg hpx]; omega
    · rw [List.filter_cons_of_neg (by simp [hx]), if_neg hx, ite_self]; omega
theorem S_row {n : Nat} {l : List Nat} (hl : ∀ j ∈ l, j < n) (hp : l.Pairwise (· < ·)) (s k : Nat) : Zn.S n s (row l) k = X n l s k := by
  have : l.Perm ((List.range n).filter fun j => decide (j ∈ l)) := by
    refine (List.perm_ext_iff_of_nodup (hp.imp fun h => Nat.ne_of_lt h) (List.Pairwise.filter _ List.nodup_range)).2 fun a => ?_
    rw [List.mem_filter, List.mem_range, decide_eq_true_eq]
    exact ⟨fun ha => ⟨hl a ha, ha⟩, fun ha => ha.2⟩
  unfold X Zn.S
  rw [this.countP_eq, ← sum_row]
  congr 1
  refine List.map_congr_left fun j _ => ?_
  by_cases e : j * s % n = k
  · rw [if_pos e, if_pos (by simp [e])]
  · rw [if_neg e, if_neg (by simp [e])]
theorem dv_iff {n m : Nat} (h : 2 ≤ n) (h2 : n ≤ 12) (hm : 2 ≤ m) (hmn : m ≤ n) (hd : n % m = 0) {l : List Nat} (hl : ∀ j ∈ l, j < n) (hp : l.Pairwise (· < ·)) : Dv n m l ↔ n / m ∈ zs n l := by
  have pi := Zn.part_iff h h2 hm hd (row l)
  have e : Zn.S n (n / m) (row l) = X n l (n / m) := funext fun k => S_row hl hp _ k
  rw [e] at pi
  rw [mem_zs]
  have : n / m < n := Nat.div_lt_self (by omega) (by omega)
  exact ⟨fun d => ⟨this, pi.1 d⟩, fun d => pi.2 d.2⟩
/-! ### the law's own signs -/
def PK : List Key := [2, 3, 4, 5, 7, 8, 9, 11].map Sum.inl
def PV : List D := [.int 2, .int 3, .int 2, .int 5, .int 7, .int 2, .int 3, .int 11]
theorem look_pr {m : Nat} (h : 2 ≤ m) (h2 : m ≤ 12) : lookD PK PV (.inl (m : Int)) = (prm m).map nI := by
  rcases Zn.sizes h h2 with rfl | rfl | rfl | rfl | rfl | rfl | rfl | rfl | rfl | rfl | rfl <;> rfl
def clash (ps : List Nat) (a b : Nat) : Bool := (prm a).isSome && ((prm b).isSome && (!decide (prm a = prm b) && !decide (a * b ∈ ps)))
def St (n : Nat) (l : List Nat) (c2 c4 c5 c6 c7 : Option Cell) : S := [some (.val (.int n)), some (.val (.tup (l.map nI))), c2, some (.val (.dic PK PV)), c4, c5, c6, c7, none]
theorem own_ok {n : Nat} (h : 2 ≤ n) (h2 : n ≤ 12) {l : List Nat} (hl : ∀ j ∈ l, j < n) (hp : l.Pairwise (· < ·)) :
    fn__law_own [.int n, .tup (l.map nI)] = some (.val (.tup [.tup ((parts n l).map nI), .bl (decide (pr (parts n l) = l.length)), .bl (!((parts n l).any fun a => (parts n l).any fun b => clash (parts n l) a b))])) := by
  have hpl : (parts n l).length ≤ 12 := by
    unfold parts
    rw [List.length_map]
    exact Nat.le_trans (List.length_filter_le _ _) (by simp; omega)
  obtain ⟨r, e, rfl⟩ := fnV_ws (np := 2) (nv := 9) (b := b__law_own) (ds := [.int n, .tup (l.map nI)]) (P := fun r => r = .val (.tup [.tup ((parts n l).map nI), .bl (decide (pr (parts n l) = l.length)), .bl (!((parts n l).any fun a => (parts n l).any fun b => clash (parts n l) a b))])) (by
    unfold b__law_own
    refine ws_step (s1 := St n l (some (.own false [])) none none none none) rfl ?_
    -- the parts
    refine ws_seq (ws_for ⟨(List.range (n + 1 - 2)).map fun i => nI (2 + i), St n l (some (.own false [])) none none none none, ?_, ws_rng (fun i t => ∃ c4, t = St n l (some (.own false ((((List.range i).filter fun i => decide (n % (2 + i) = 0) && decide (n / (2 + i) ∈ zs n l)).map fun i => 2 + i).map nI))) c4 none none none ∧ Fr c4 = true) (n + 1 - 2) ⟨none, rfl, rfl⟩ ?_ ?_⟩)
    · exact rng2_of (i := (2 : Int)) (j := (n : Int) + 1) (rs := [.val (.int 2), .val (.int ((n : Int) + 1))]) 2 (n + 1) rfl rfl rfl (by omega) (by omega) (by omega)
    · rintro i t hi ⟨c4, rfl, h4⟩
      generalize hf : (((List.range i).filter fun i => decide (n % (2 + i) = 0) && decide (n / (2 + i) ∈ zs n l)).map fun i => 2 + i).map nI = found
      have hfl : found.length ≤ i := by
        rw [← hf, List.length_map, List.length_map]
        exact Nat.le_trans (List.length_filter_le _ _) (by simp)
      have hnext : ((((List.range (i + 1)).filter fun i => decide (n % (2 + i) = 0) && decide (n / (2 + i) ∈ zs n l)).map fun i => 2 + i).map nI) = if (decide (n % (2 + i) = 0) && decide (n / (2 + i) ∈ zs n l)) = true then found ++ [nI (2 + i)] else found := by
        rw [List.range_succ, List.filter_append, List.map_append, List.map_append, hf]
        by_cases hc : (decide (n % (2 + i) = 0) && decide (n / (2 + i) ∈ zs n l)) = true
        · rw [if_pos hc, List.filter_cons_of_pos (p := fun i => decide (n % (2 + i) = 0) && decide (n / (2 + i) ∈ zs n l)) hc]; rfl
        · rw [if_neg hc, List.filter_cons_of_neg (p := fun i => decide (n % (2 + i) = 0) && decide (n / (2 + i) ∈ zs n l)) hc]; simp
      refine ⟨_, put_valF (c := c4) rfl h4, ?_⟩
      have klc := mlc_pure (vs := [8]) (mi := (mRng fRg1 (mCons (mVar 0) mNil))) (g := gPut 8) (t := mYes) (m := (mIf (mTest (mBin (fIn false) (mVar 8) (mVar 1))) (mC (.int 1)) (mC (.int 0)))) nI (fun _ => true) (fun j => .int (row l j)) (List.range n) (s := St n l (some (.own false found)) (some (.val (nI (2 + i)))) none none none) (s1 := St n l (some (.own false found)) (some (.val (nI (2 + i)))) none none none) (s2 := St n l (some (.own false found)) (some (.val (nI (2 + i)))) none none none)
        (rng1_of (i := (n : Int)) (rs := [.val (.int n)]) n rfl rfl rfl (by omega)) (by simp; omega) (fun j hj => by
          refine ⟨[some (.val (.int n)), some (.val (.tup (l.map nI))), some (.own false found), some (.val (.dic PK PV)), some (.val (nI (2 + i))), none, none, none, some (.val (.int j))], rfl, rfl, fun _ => ?_, rfl⟩
          have ht := mTest_of (mBin_of (s := [some (.val (.int n)), some (.val (.tup (l.map nI))), some (.own false found), some (.val (.dic PK PV)), some (.val (nI (2 + i))), none, none, none, some (.val (.int j))]) (ma := mVar 8) (mb := mVar 1) rfl rfl (fIn_tup false j l))
          unfold row
          by_cases hjl : j ∈ l
          · rw [decide_eq_true hjl] at ht
            rw [ifT_of ht, if_pos hjl]
            rfl
          · rw [decide_eq_false hjl] at ht
            rw [ifF_of ht, if_neg hjl]
            rfl) rfl
      rw [filter_all] at klc
      have hrow : ((List.range n).map fun j => D.int (row l j)) = fl n (row l) := rfl
      rw [hrow] at klc
      have t1 : mTest (mBin fEq (mBin fMod (mCS (fI1 fun i => i) (mCons (mVar 0) mNil)) (mVar 4)) (mC (.int 0))) (St n l (some (.own false found)) (some (.val (nI (2 + i)))) none none none) = some (decide (n % (2 + i) = 0), St n l (some (.own false found)) (some (.val (nI (2 + i)))) none none none) := by
        refine mTest_of (mBin_of (mBin_of (mInt_of rfl) rfl (fMod_nat (by omega))) rfl ?_)
        rw [fEq_int]
        exact dec_nat _ 0
      by_cases hdm : n % (2 + i) = 0
      · have hle : 2 + i ≤ n := Nat.le_of_dvd (by omega) (Nat.dvd_of_mod_eq_zero hdm)
        have li := law_is_N (n := n) (m := 2 + i) (by omega) (by omega) hle h2 l
        have t2 : mNotT (mTest (mCallV fn__law_is (mCons (mFrz (mVar 4)) (mCons (mFrz (mLc [8] (mRng fRg1 (mCons (mVar 0) mNil)) (gPut 8) mYes (mIf (mTest (mBin (fIn false) (mVar 8) (mVar 1))) (mC (.int 1)) (mC (.int 0))))) mNil)))) (St n l (some (.own false found)) (some (.val (nI (2 + i)))) none none none) = some (decide (n / (2 + i) ∈ zs n l), St n l (some (.own false found)) (some (.val (nI (2 + i)))) none none none) := by
          have q := mTest_of (callV_of (cons_of (m := mFrz (mVar 4)) (s := St n l (some (.own false found)) (some (.val (nI (2 + i)))) none none none) (r := .val (nI (2 + i))) rfl (cons_of (ms := mNil) (rs := []) (frz_of klc) rfl)) rfl li)
          unfold mNotT
          rw [q]
          show some (!(!decide (Dv n (2 + i) l)), _) = _
          rw [Bool.not_not]
          have : decide (Dv n (2 + i) l) = decide (n / (2 + i) ∈ zs n l) := by
            rw [decide_eq_decide]
            exact dv_iff h h2 (by omega) hle hdm hl hp
          rw [this]
        have tt := and_of t1 t2
        rw [decide_eq_true hdm, Bool.true_and] at tt
        rw [decide_eq_true hdm, Bool.true_and] at hnext
        by_cases hz : n / (2 + i) ∈ zs n l
        · rw [decide_eq_true hz] at tt
          rw [decide_eq_true hz, if_pos rfl] at hnext
          have hlt : found.length < 100000 := by omega
          refine ws_ifT tt (ws_nx (s1 := St n l (some (.own false (found ++ [nI (2 + i)]))) (some (.val (nI (2 + i)))) none none none) ?_ ⟨_, .inl rfl, some (.val (nI (2 + i))), ?_, rfl⟩)
          · simp [fnV, fnW, initV, initW, mSeq, mIfS, mTest, mBin, mIx, mVar, mC, peek, peeks, seqD, asI, asB, onI, mAsg, mFrz, frz, mTupNew, mCons, mNil, fDm, gTupD, gsCons, gsNil, gSubD, gPut, put, ownAt, mRet, toRet, port0, mSkip, mCS, mCL, fI1, fI2, mSet, mPar, mPar3, Dm.plain, mTup, mLst, vals, mTupOf, fTup, fLen, mIf, mIfS, mNotT, mChain, mTyIs, tyD, noFrz, mIxK, mAndT, mOrT, mAndV, mOrV, mNotV, mExpr, mCallV, mCallW, rOf, mUn, fNeg, fList, fRg1, fRg2, fRg3, mRng, mSeqI, mYes, wipeS, mRep, mApp, hlt, St]
          · rw [hnext]
        · rw [decide_eq_false hz] at tt
          rw [decide_eq_false hz, if_neg Bool.false_ne_true] at hnext
          refine ws_ifF tt (ws_skip ⟨_, .inl rfl, some (.val (nI (2 + i))), ?_, rfl⟩)
          rw [hnext]
      · have tt : mAndT (mTest (mBin fEq (mBin fMod (mCS (fI1 fun i => i) (mCons (mVar 0) mNil)) (mVar 4)) (mC (.int 0)))) (mNotT (mTest (mCallV fn__law_is (mCons (mFrz (mVar 4)) (mCons (mFrz (mLc [8] (mRng fRg1 (mCons (mVar 0) mNil)) (gPut 8) mYes (mIf (mTest (mBin (fIn false) (mVar 8) (mVar 1))) (mC (.int 1)) (mC (.int 0))))) mNil))))) (St n l (some (.own false found)) (some (.val (nI (2 + i)))) none none none) = some (false, St n l (some (.own false found)) (some (.val (nI (2 + i)))) none none none) := by
          rw [decide_eq_false hdm] at t1
          unfold mAndT
          rw [t1]
          rfl
        rw [decide_eq_false hdm, Bool.false_and, if_neg Bool.false_ne_true] at hnext
        refine ws_ifF tt (ws_skip ⟨_, .inl rfl, some (.val (nI (2 + i))), ?_, rfl⟩)
        rw [hnext]
    rintro t ⟨c4, rfl, h4⟩
    refine ⟨_, rfl, ?_⟩
    have hP : (((List.range (n + 1 - 2)).filter fun i => decide (n % (2 + i) = 0) && decide (n / (2 + i) ∈ zs n l)).map fun i => 2 + i) = parts n l := rfl
    rw [hP]
    generalize hps : parts n l = ps at hpl
    have hpb : ∀ m ∈ ps, 2 ≤ m ∧ m ≤ 12 := fun m hm => by
      rw [← hps] at hm
      have := (mem_parts.1 hm).1
      omega
    refine ws_step (s1 := St n l (some (.own false (ps.map nI))) c4 (some (.val (.int ((1 : Nat) : Int)))) (some (.val (.bl true))) none) rfl ?_
    refine ws_seq (ws_for ⟨ps.map nI, St n l (some (.val (.lst (ps.map nI)))) c4 (some (.val (.int ((1 : Nat) : Int)))) (some (.val (.bl true))) none, rfl, ws_list nI (fun dn t => ∃ c4 c7, t = St n l (some (.val (.lst (ps.map nI)))) c4 (some (.val (.int ((pr dn : Nat) : Int)))) (some (.val (.bl (!(dn.any fun a => ps.any fun b => clash ps a b))))) c7 ∧ Fr c4 = true ∧ Fr c7 = true) ps ⟨c4, none, rfl, h4, rfl⟩ ?_ ?_⟩)
    · rintro dn a rest t hd ⟨c4, c7, rfl, h4, h7⟩
      have ha := hpb a (by rw [hd]; simp)
      have la := look_pr ha.1 ha.2
      refine ⟨_, put_valF (c := c4) rfl h4, ?_⟩
      generalize hb0 : (!(dn.any fun a => ps.any fun b => clash ps a b)) = b0
      have hg : mGet2 (mVar 3) (mVar 4) (mC (.int 1)) (St n l (some (.val (.lst (ps.map nI)))) (some (.val (.int a))) (some (.val (.int ((pr dn : Nat) : Int)))) (some (.val (.bl b0))) c7) = some (.val (.int (((prm a).getD 1 : Nat) : Int)), St n l (some (.val (.lst (ps.map nI)))) (some (.val (.int a))) (some (.val (.int ((pr dn : Nat) : Int)))) (some (.val (.bl b0))) c7) := by
        show some (R.val ((lookD PK PV (.inl (a : Int))).getD (.int 1)), _) = _
        rw [la]
        cases prm a <;> rfl
      have hsm : (prm a).getD 1 < 1000000 := by
        cases hq : prm a with
        | none => decide
        | some k => have := prm_lt hq; show k < 1000000; omega
      refine ws_step (s1 := St n l (some (.val (.lst (ps.map nI)))) (some (.val (.int a))) (some (.val (.int ((pr (dn ++ [a]) : Nat) : Int)))) (some (.val (.bl b0))) c7) ?_ ?_
      · rw [pr_snoc]
        exact set_of (mBin_of rfl hg (fMul_natR hsm)) rfl
      refine ws_for ⟨ps.map nI, _, rfl, ws_list nI (fun dm t => ∃ c7, t = St n l (some (.val (.lst (ps.map nI)))) (some (.val (.int a))) (some (.val (.int ((pr (dn ++ [a]) : Nat) : Int)))) (some (.val (.bl (b0 && !(dm.any fun b => clash ps a b))))) c7 ∧ Fr c7 = true) ps ⟨c7, by simp, h7⟩ ?_ ?_⟩
      · rintro dm b rest2 t hd2 ⟨c7, rfl, h7⟩
        have hb := hpb b (by rw [hd2]; simp)
        have lb := look_pr hb.1 hb.2
        refine ⟨_, put_valF (c := c7) rfl h7, ?_⟩
        generalize hb1 : (b0 && !(dm.any fun b => clash ps a b)) = b1
        have hn1 : (b0 && !((dm ++ [b]).any fun b => clash ps a b)) = (b1 && !clash ps a b) := by
          rw [List.any_append, ← hb1]
          cases b0 <;> cases (dm.any fun b => clash ps a b) <;> simp
        have ss : ∃ s, s = St n l (some (.val (.lst (ps.map nI)))) (some (.val (.int a))) (some (.val (.int ((pr (dn ++ [a]) : Nat) : Int)))) (some (.val (.bl b1))) (some (.val (.int b))) := ⟨_, rfl⟩
        obtain ⟨s, hs⟩ := ss
        have i1 : mTest (mInD false (mVar 4) (mVar 3)) s = some ((prm a).isSome, s) := by
          subst hs
          show some ((lookD PK PV (.inl (a : Int))).isSome, _) = _
          rw [la]
          cases prm a <;> rfl
        have i2 : mTest (mInD false (mVar 7) (mVar 3)) s = some ((prm b).isSome, s) := by
          subst hs
          show some ((lookD PK PV (.inl (b : Int))).isSome, _) = _
          rw [lb]
          cases prm b <;> rfl
        have i4 : mTest (mBin (fIn true) (mBin fMul (mVar 4) (mVar 7)) (mVar 2)) s = some (!decide (a * b ∈ ps), s) := by
          subst hs
          exact mTest_of (mBin_of (mBin_of rfl rfl (fMul_nat (by omega))) rfl (fIn_lst true (a * b) ps))
        have tt : mAndT (mTest (mInD false (mVar 4) (mVar 3))) (mAndT (mTest (mInD false (mVar 7) (mVar 3))) (mAndT (mTest (mBin fNe (mIxD (mVar 3) (mVar 4)) (mIxD (mVar 3) (mVar 7)))) (mTest (mBin (fIn true) (mBin fMul (mVar 4) (mVar 7)) (mVar 2))))) s = some (clash ps a b, s) := by
          unfold clash
          cases hqa : prm a with
          | none =>
            rw [hqa] at i1
            unfold mAndT
            rw [i1]
            rfl
          | some x =>
            cases hqb : prm b with
            | none =>
              rw [hqb] at i2
              rw [hqa] at i1
              unfold mAndT
              rw [i1]
              show ((mTest (mInD false (mVar 7) (mVar 3)) s).bind _) = _
              rw [i2]
              rfl
            | some y =>
              have i3 : mTest (mBin fNe (mIxD (mVar 3) (mVar 4)) (mIxD (mVar 3) (mVar 7))) s = some (!decide (some x = some y), s) := by
                have f1 : mIxD (mVar 3) (mVar 4) s = some (.val (nI x), s) := by
                  subst hs
                  show (lookD PK PV (.inl (a : Int))).bind _ = _
                  rw [la, hqa]
                  rfl
                have f2 : mIxD (mVar 3) (mVar 7) s = some (.val (nI y), s) := by
                  subst hs
                  show (lookD PK PV (.inl (b : Int))).bind _ = _
                  rw [lb, hqb]
                  rfl
                exact mTest_of (mBin_of f1 f2 (fNe_p (some x) (some y)))
              rw [hqa] at i1
              rw [hqb] at i2
              exact and_of i1 (and_of i2 (and_of i3 i4))
        subst hs
        by_cases hc : clash ps a b = true
        · rw [hc] at tt
          refine ws_ifT tt (ws_nx (s1 := St n l (some (.val (.lst (ps.map nI)))) (some (.val (.int a))) (some (.val (.int ((pr (dn ++ [a]) : Nat) : Int)))) (some (.val (.bl false))) (some (.val (.int b)))) rfl ⟨_, .inl rfl, some (.val (.int b)), ?_, rfl⟩)
          rw [hn1, hc]
          simp
        · have hc : clash ps a b = false := by simpa using hc
          rw [hc] at tt
          refine ws_ifF tt (ws_skip ⟨_, .inl rfl, some (.val (.int b)), ?_, rfl⟩)
          rw [hn1, hc]
          simp
      · rintro t ⟨c7, rfl, h7⟩
        refine ⟨_, .inl rfl, some (.val (.int a)), c7, ?_, rfl, h7⟩
        rw [List.any_append, ← hb0]
        cases (dn.any fun a => ps.any fun b => clash ps a b) <;> simp
    · rintro t ⟨c4, c7, rfl, h4, h7⟩
      refine ⟨_, rfl, ?_⟩
      generalize (!(ps.any fun a => ps.any fun b => clash ps a b)) = sec
      have hlen2 : mCS fLen (mCons (mVar 1) mNil) (St n l (some (.val (.lst (ps.map nI)))) c4 (some (.val (.int ((pr ps : Nat) : Int)))) (some (.val (.bl sec))) c7) = some (.val (.int (l.length : Int)), St n l (some (.val (.lst (ps.map nI)))) c4 (some (.val (.int ((pr ps : Nat) : Int)))) (some (.val (.bl sec))) c7) := by
        show some (R.val (D.int ((l.map nI).length : Int)), _) = _
        rw [List.length_map]
      have q2 := mBin_of (f := fEq) (ma := mVar 5) (z := .bl (decide (pr ps = l.length))) rfl hlen2 (by rw [fEq_int]; exact dec_nat _ _)
      exact ws_ret ⟨.val (.tup [.tup (ps.map nI), .bl (decide (pr ps = l.length)), .bl sec]), _, tup_of (cons_of (frzV_of rfl) (cons_of (frzV_of q2) (cons_of (frzV_of rfl) rfl))) rfl (by simp), _, rfl, _, _, rfl, rfl⟩)
  exact e
end K41
set_option Elab.async false
set_option linter.all false
set_option maxRecDepth 100000
set_option maxHeartbeats 4000000
namespace K41
open PySem PySem.Spec L2 Dm
set_option autoImplicit false
theorem or_of {t u : MT} {s s1 s2 : S} (h : t s = some (false, s1)) (h2 : u s1 = some (false, s2)) : mOrT t u s = some (false, s2) := by
  unfold mOrT
  rw [h]
  exact h2
theorem mBin_ofS {f : D → D → Option D} {ma mb : ME} {s s1 s2 : S} {ra rb : R} {d e z : D} (ha : ma s = some (ra, s1)) (hb : mb s1 = some (rb, s2)) (pa : peek ra s2 = some d) (pb : peek rb s2 = some e) (hf : f d e = some z) : mBin f ma mb s = some (.val z, s2) := by
  unfold mBin
  rw [ha]
  show (mb s1).bind _ = _
  rw [hb]
  show (peek ra s2).bind _ = _
  rw [pa]
  show (peek rb s2).bind _ = _
  rw [pb]
  show (f d e).bind _ = _
  rw [hf]
  rfl
theorem mTest_ofS {m : ME} {s s1 : S} {b : Bool} (h : m s = some (.val (.bl b), s1)) : mTest m s = some (b, s1) := by
  unfold mTest
  rw [h]
  rfl
theorem dec_one (g : Nat) : some (D.bl (decide ((g : Int) = 1))) = some (D.bl (decide (g = 1))) := by
  have : decide ((g : Int) = 1) = decide (g = 1) := by rw [decide_eq_decide]; omega
  rw [this]
theorem len_le {n : Nat} {l : List Nat} (hl : ∀ j ∈ l, j < n) (hp : l.Pairwise (· < ·)) : l.length ≤ n := by
  have : l.Perm ((List.range n).filter fun j => decide (j ∈ l)) := by
    refine (List.perm_ext_iff_of_nodup (hp.imp fun h => Nat.ne_of_lt h) (List.Pairwise.filter _ List.nodup_range)).2 fun a => ?_
    rw [List.mem_filter, List.mem_range, decide_eq_true_eq]
    exact ⟨fun ha => ⟨hl a ha, ha⟩, fun ha => ha.2⟩
  rw [this.length_eq]
  exact Nat.le_trans (List.length_filter_le _ _) (by simp)
theorem led_good {n : Nat} (h : 2 ≤ n) (h2 : n ≤ 12) {l : List Nat} (hl : ∀ j ∈ l, j < n) (hp : l.Pairwise (· < ·)) (h0 : l ≠ []) {u far : Nat} (hu : u < n) (hg : Nat.gcd u n = 1) (hf : far < n) :
    ∃ m : List Nat, fn__law_led [.int n, .tup (l.map nI), .int u, .int far] = some (.val (.tup (m.map nI))) ∧ m.Perm (l.map fun a => (a * u + far) % n) ∧ m.Pairwise (· < ·) ∧ (∀ j ∈ m, j < n) ∧ m ≠ [] := by
  have hlen := len_le hl hp
  obtain ⟨m, e, pm, so⟩ := led_ok h h2 hl (by omega) u far
  refine ⟨m, e, pm, ?_, fun j hj => ?_, fun hc => ?_⟩
  · have nd : m.Nodup := by
      rw [pm.nodup_iff]
      refine List.pairwise_map.2 (hp.imp_of_mem fun {a b} ha hb hab e => ?_)
      exact Nat.ne_of_lt hab (t_inj (by omega) hu hg hf (hl a ha) (hl b hb) e)
    exact (List.pairwise_and_iff.2 ⟨so, nd⟩).imp fun h => Nat.lt_of_le_of_ne h.1 h.2
  · obtain ⟨a, -, rfl⟩ := List.mem_map.1 (pm.mem_iff.1 hj)
    exact Nat.mod_lt _ (by omega)
  · subst hc
    have := pm.length_eq
    rw [List.length_map] at this
    exact h0 (List.length_eq_zero_iff.1 this.symm)


theorem second_is (n : Nat) (l : List Nat) : second n l = !((parts n l).any fun a => (parts n l).any fun b => clash (parts n l) a b) := by
  rw [Bool.eq_iff_iff]
  unfold second
  rw [List.all_eq_true, Bool.not_eq_true', List.any_eq_false]
  constructor
  · intro h a ha hc
    obtain ⟨b, hb, hc⟩ := List.any_eq_true.1 hc
    unfold clash at hc
    rw [Bool.and_eq_true, Bool.and_eq_true, Bool.and_eq_true] at hc
    obtain ⟨c1, c2, c3, c4⟩ := hc
    have := h (decide (a * b ∈ parts n l)) (List.mem_flatMap.2 ⟨a, List.mem_filter.2 ⟨ha, c1⟩, List.mem_map.2 ⟨b, List.mem_filter.2 ⟨List.mem_filter.2 ⟨hb, c2⟩, c3⟩, rfl⟩⟩)
    simp only [id] at this
    rw [this] at c4
    cases c4
  · intro h x hx
    obtain ⟨a, ha, hx⟩ := List.mem_flatMap.1 hx
    obtain ⟨b, hb, rfl⟩ := List.mem_map.1 hx
    obtain ⟨ha, a1⟩ := List.mem_filter.1 ha
    obtain ⟨hb, b2⟩ := List.mem_filter.1 hb
    obtain ⟨hb, b1⟩ := List.mem_filter.1 hb
    show decide (a * b ∈ parts n l) = true
    refine Classical.byContradiction fun hn => h a ha (List.any_eq_true.2 ⟨b, hb, ?_⟩)
    have hn : decide (a * b ∈ parts n l) = false := by simpa using hn
    unfold clash
    rw [hn, b2]
    show ((prm a).isSome && ((prm b).isSome && true)) = true
    rw [a1, b1]
    rfl
def DT (n : Nat) (l : List Nat) : D := .tup [.tup ((parts n l).map nI), .bl (decide (pr (parts n l) = l.length)), .bl (second n l)]
def BS (b : Bool) : Str := (toP (.bl b)).shown
theorem repr_bl (b : Bool) : fRepr [.bl b] = some (.str (BS b)) := by
  refine repr_tame rfl ?_ ?_
  · show PyData.depth (.bool b) ≤ 60
    simp [PyData.depth]
  · show PyData.bulk (.bool b) ≤ _
    simp [PyData.bulk]
theorem eq_BS (b : Bool) : fEq (.str (BS b)) (.str (BS b)) = some (.bl true) := by
  have hs : shp (.str (BS b)) = true := shp_str (tame_tm (.bl b) rfl).so
  unfold fEq
  rw [hs]
  show some (D.bl (BS b == BS b)) = _
  rw [show (BS b == BS b) = true from by simp]
theorem andV_true {a b : ME} {s : S} (h : a s = some (.val (.bl true), s)) : mAndV a b s = b s := by
  unfold mAndV
  rw [h]
  rfl
theorem parts_small {n : Nat} (h2 : n ≤ 12) (l : List Nat) : (∀ j ∈ parts n l, j < 200) ∧ (parts n l).length ≤ 1000000 := by
  refine ⟨fun j hj => ?_, ?_⟩
  · have := (mem_parts.1 hj).1
    omega
  · unfold parts
    rw [List.length_map]
    exact Nat.le_trans (List.length_filter_le _ _) (by simp; omega)
theorem told_ok {n : Nat} (h : 2 ≤ n) (h2 : n ≤ 12) {m l : List Nat} (hm : ∀ j ∈ m, j < n) (hp : m.Pairwise (· < ·)) (h0 : m ≠ []) (he : parts n m = parts n l) (hlen : m.length = l.length) : fn__law_told [.int n, .tup (m.map nI), DT n l] = some (.val (.bl true)) := by
  have hl := len_le hm hp
  have pk := parts_ok h h2 hm hp (by omega) h0
  have fk := first_ok h h2 hm hp (by omega) h0
  have sk := second_ok h h2 hm hp (by omega) h0
  have hs : second n m = second n l := by rw [second_is, second_is, he]
  rw [he] at pk
  rw [he, hlen] at fk
  rw [hs] at sk
  obtain ⟨b1, b2⟩ := parts_small h2 l
  let s : S := [some (Cell.val (.int n)), some (.val (.tup (m.map nI))), some (.val (DT n l))]
  have t1 : mTest (mBin fNe (mCS fRepr (mCons (mCallV fn_parts_in (mCons (mFrz (mVar 0)) (mCons (mFrz (mVar 1)) mNil))) mNil)) (mCS fRepr (mCons (mIx (mVar 2) (mC (.int 0))) mNil))) s = some (false, s) :=
    mTest_of (mBin_of (repr_of (callV_of (rs := [.val (.int n), .val (.tup (m.map nI))]) rfl rfl pk) rfl (repr_tup b1 b2)) (repr_of (r := .val (.tup ((parts n l).map nI))) rfl rfl (repr_tup b1 b2)) (ne_RS b1))
  have q1 : mBin fEq (mCS fRepr (mCons (mCallV fn_has_first_sign (mCons (mFrz (mVar 0)) (mCons (mFrz (mVar 1)) mNil))) mNil)) (mCS fRepr (mCons (mIx (mVar 2) (mC (.int 1))) mNil)) s = some (.val (.bl true), s) :=
    mBin_of (repr_of (callV_of (rs := [.val (.int n), .val (.tup (m.map nI))]) rfl rfl fk) rfl (repr_bl _)) (repr_of (r := .val (.bl (decide (pr (parts n l) = l.length)))) rfl rfl (repr_bl _)) (eq_BS _)
  have q2 : mBin fEq (mCS fRepr (mCons (mCallV fn_has_second_sign (mCons (mFrz (mVar 0)) (mCons (mFrz (mVar 1)) mNil))) mNil)) (mCS fRepr (mCons (mIx (mVar 2) (mC (.int 2))) mNil)) s = some (.val (.bl true), s) :=
    mBin_of (repr_of (callV_of (rs := [.val (.int n), .val (.tup (m.map nI))]) rfl rfl sk) rfl (repr_bl _)) (repr_of (r := .val (.bl (second n l))) rfl rfl (repr_bl _)) (eq_BS _)
  have e1 : mIfS (mTest (mBin fNe (mCS fRepr (mCons (mCallV fn_parts_in (mCons (mFrz (mVar 0)) (mCons (mFrz (mVar 1)) mNil))) mNil)) (mCS fRepr (mCons (mIx (mVar 2) (mC (.int 0))) mNil)))) (mRet (mC (.bl false))) mSkip s = some (.nx s) := by
    unfold mIfS
    rw [t1]
    rfl
  obtain ⟨r, e, rfl⟩ := fnV_ws (np := 3) (nv := 3) (b := b__law_told) (ds := [.int n, .tup (m.map nI), DT n l]) (P := fun r => r = .val (.bl true)) (ws_step e1 (ws_ret ⟨.val (.bl true), s, (andV_true q1).trans q2, _, rfl, _, _, rfl, rfl⟩))
  exact e
section
variable {n : Nat} (h : 2 ≤ n) (h2 : n ≤ 12) {l : List Nat} (hl : ∀ j ∈ l, j < n)
include h h2 hl
theorem moved_iff {m : List Nat} {far s : Nat} (hf : far < n) (hs : s < n) (hm : m.Perm (l.map fun a => (a * 1 + far) % n)) : Zn.Zx n (X n m s) ↔ Zn.Zx n (X n l s) := by
  have hmn : ∀ j ∈ m, j < n := fun j hj => by
    obtain ⟨a, -, rfl⟩ := List.mem_map.1 (hm.mem_iff.1 hj)
    exact Nat.mod_lt _ (by omega)
  refine ⟨fun z => ?_, fun z => zx_moved h h2 hl hf hs hm z⟩
  have := zx_moved h h2 (l := m) hmn (m := (m.map fun a => (a * 1 + (n - far) % n) % n)) (Nat.mod_lt _ (by omega)) hs (List.Perm.refl _) z
  refine (congrArg (Zn.Zx n) (X_perm (l := l) ?_)).mp this
  refine (hm.map _).trans (List.Perm.of_eq ?_)
  rw [List.map_map]
  refine (List.map_congr_left fun a ha => ?_).trans (List.map_id l)
  have := hl a ha
  show ((a * 1 + far) % n * 1 + (n - far) % n) % n = a
  rw [Nat.mul_one, Nat.mul_one, ← Nat.add_mod, show a + far + (n - far) = a + n from by omega, Nat.add_mod_right, Nat.mod_eq_of_lt this]
theorem turned_iff {u s : Nat} (hu : u < n) (hs : s < n) (hg : Nat.gcd u n = 1) : Zn.Zx n (X n l (u * s % n)) ↔ Zn.Zx n (X n l s) := by
  refine ⟨fun z => ?_, fun z => zx_turned h h2 hl hu hs hg z⟩
  obtain ⟨v, hv, hgv, he⟩ := t_inv n (by omega) u hu hg
  have e := he s hs (s * u % n) (Nat.mod_lt _ (by omega))
  rw [show (s * u % n == s * u % n) = true from by simp] at e
  have e : s = v * (s * u % n) % n := by simpa using e.symm
  have := zx_turned h h2 hl hv (s := u * s % n) (Nat.mod_lt _ (by omega)) hgv z
  rw [Nat.mul_comm u s, ← e] at this
  exact this
theorem led_iff {m : List Nat} {u far s : Nat} (hu : u < n) (hg : Nat.gcd u n = 1) (hf : far < n) (hs : s < n) (hm : m.Perm (l.map fun a => (a * u + far) % n)) : Zn.Zx n (X n m s) ↔ Zn.Zx n (X n l s) := by
  have h1 : ∀ j ∈ (l.map fun a => (a * u + 0) % n), j < n := fun j hj => by
    obtain ⟨a, -, rfl⟩ := List.mem_map.1 hj
    exact Nat.mod_lt _ (by omega)
  have hm2 : m.Perm ((l.map fun a => (a * u + 0) % n).map fun a => (a * 1 + far) % n) := by
    refine hm.trans (List.Perm.of_eq ?_)
    rw [List.map_map]
    refine List.map_congr_left fun a _ => ?_
    show (a * u + far) % n = ((a * u + 0) % n * 1 + far) % n
    rw [Nat.mul_one, Nat.add_zero, Nat.mod_add_mod]
  rw [moved_iff h h2 h1 hf hs hm2, X_led h h2 hl hu hs (List.Perm.refl _)]
  exact turned_iff h h2 hl hu hs hg
theorem parts_led {m : List Nat} {u far : Nat} (hu : u < n) (hg : Nat.gcd u n = 1) (hf : far < n) (hm : m.Perm (l.map fun a => (a * u + far) % n)) : parts n m = parts n l := by
  have : zs n m = zs n l := zs_eq fun s hs => led_iff h h2 hl hu hg hf hs hm
  unfold parts
  rw [this]
end
theorem own_is {n : Nat} (h : 2 ≤ n) (h2 : n ≤ 12) {l : List Nat} (hl : ∀ j ∈ l, j < n) (hp : l.Pairwise (· < ·)) : fn__law_own [.int n, .tup (l.map nI)] = some (.val (DT n l)) := by
  rw [own_ok h h2 hl hp]
  unfold DT
  rw [second_is]
theorem right_ok {sp : List D} (hs : Spr sp) : ∃ r ys, fn__law_right sp [] = some (r, ys) ∧ r = .val (.bl true) := by
  refine fnW_ws (np := 1) (nv := 8) (b := b__law_right) ?_
  unfold b__law_right
  obtain ⟨x, sp1, e1, hs1, hx⟩ := one_ok hs (xs := [2, 3, 4, 4, 5, 6, 6, 6, 7, 8, 8, 9, 9, 10, 10, 11, 12, 12, 12, 12, 12].map nI) (by simp) (by simp)
  obtain ⟨n, hn, rfl⟩ := List.mem_map.1 hx
  have h : 2 ≤ n ∧ n ≤ 12 := by
    simp only [List.mem_cons, List.not_mem_nil, or_false] at hn
    omega
  obtain ⟨h, h2⟩ := h
  clear hx hn
  refine ws_step (s1 := [some (.own true sp1), some (.val (.int n)), none, none, none, none, none, none]) ?_ ?_
  · refine set_of (s1 := [some (.own true sp1), none, none, none, none, none, none, none]) (r := .val (nI n)) ?_ rfl
    exact callW_of (k := 0) (p := true) (xs := sp) rfl (cons_of (frz_of (lst_of rfl rfl (by simp))) rfl) rfl rfl e1 rfl
  obtain ⟨r, sp2, e2, l, rfl, hs2, hl, hp, h0⟩ := lot_ok hs1 h h2
  have hlen := len_le hl hp
  refine ws_step (s1 := [some (.own true sp2), some (.val (.int n)), some (.val (.tup (l.map nI))), none, none, none, none, none]) ?_ ?_
  · refine set_of (s1 := [some (.own true sp2), some (.val (.int n)), none, none, none, none, none, none]) (r := .val (.tup (l.map nI))) ?_ rfl
    exact callW_of (k := 0) (p := true) (xs := sp1) rfl (rs := [.val (.int n)]) rfl rfl rfl e2 rfl
  have ow := own_is h h2 hl hp
  have sto := steps_ok h h2 hl hp (by omega) h0
  have q1 := callV_of (s := [some (.own true sp2), some (.val (.int n)), some (.val (.tup (l.map nI))), none, none, none, none, none]) (s1 := [some (.own true sp2), some (.val (.int n)), some (.val (.tup (l.map nI))), none, none, none, none, none]) (ms := (mCons (mFrz (mVar 1)) (mCons (mFrz (mVar 2)) mNil))) (rs := [.val (.int n), .val (.tup (l.map nI))]) rfl rfl ow
  have q2 := callV_of (s := [some (.own true sp2), some (.val (.int n)), some (.val (.tup (l.map nI))), none, none, none, none, none]) (s1 := [some (.own true sp2), some (.val (.int n)), some (.val (.tup (l.map nI))), none, none, none, none, none]) (ms := (mCons (mFrz (mVar 1)) (mCons (mFrz (mVar 2)) mNil))) (rs := [.val (.int n), .val (.tup (l.map nI))]) rfl rfl sto
  refine ws_step (s1 := [some (.own true sp2), some (.val (.int n)), some (.val (.tup (l.map nI))), some (.val (DT n l)), some (.val (.tup ((zs n l).map nI))), none, none, none]) ?_ ?_
  · have q3 := frzV_of (tup_of (ds := [DT n l, .tup ((zs n l).map nI)]) (cons_of (frzV_of q1) (cons_of (ms := mNil) (rs := []) (frzV_of q2) rfl)) rfl (by simp))
    unfold mAsg
    rw [q3]
    rfl
  obtain ⟨b1, b2⟩ := parts_small h2 l
  have tk := told_ok h h2 hl hp h0 rfl rfl
  have pk := parts_ok h h2 hl hp (by omega) h0
  refine ws_step (s1 := [some (.own true sp2), some (.val (.int n)), some (.val (.tup (l.map nI))), some (.val (DT n l)), some (.val (.tup ((zs n l).map nI))), none, none, none]) ?_ ?_
  · have t1 := mTest_of (callV_of (s := [some (.own true sp2), some (.val (.int n)), some (.val (.tup (l.map nI))), some (.val (DT n l)), some (.val (.tup ((zs n l).map nI))), none, none, none]) (s1 := [some (.own true sp2), some (.val (.int n)), some (.val (.tup (l.map nI))), some (.val (DT n l)), some (.val (.tup ((zs n l).map nI))), none, none, none]) (ms := (mCons (mFrz (mVar 1)) (mCons (mFrz (mVar 2)) (mCons (mFrz (mVar 3)) mNil)))) (rs := [.val (.int n), .val (.tup (l.map nI)), .val (DT n l)]) rfl rfl tk)
    have t2 : mTest (mBin fNe (mCS fRepr (mCons (mCallV fn_parts_in (mCons (mFrz (mVar 1)) (mCons (mFrz (mVar 2)) mNil))) mNil)) (mCS fRepr (mCons (mIx (mVar 3) (mC (.int 0))) mNil))) [some (.own true sp2), some (.val (.int n)), some (.val (.tup (l.map nI))), some (.val (DT n l)), some (.val (.tup ((zs n l).map nI))), none, none, none] = some (false, [some (.own true sp2), some (.val (.int n)), some (.val (.tup (l.map nI))), some (.val (DT n l)), some (.val (.tup ((zs n l).map nI))), none, none, none]) :=
      mTest_of (mBin_of (repr_of (callV_of (rs := [.val (.int n), .val (.tup (l.map nI))]) rfl rfl pk) rfl (repr_tup b1 b2)) (repr_of (r := .val (.tup ((parts n l).map nI))) rfl rfl (repr_tup b1 b2)) (ne_RS b1))
    have t3 : mNotT (mTest (mCallV fn__law_told (mCons (mFrz (mVar 1)) (mCons (mFrz (mVar 2)) (mCons (mFrz (mVar 3)) mNil))))) [some (.own true sp2), some (.val (.int n)), some (.val (.tup (l.map nI))), some (.val (DT n l)), some (.val (.tup ((zs n l).map nI))), none, none, none] = some (false, [some (.own true sp2), some (.val (.int n)), some (.val (.tup (l.map nI))), some (.val (DT n l)), some (.val (.tup ((zs n l).map nI))), none, none, none]) := by
      unfold mNotT
      rw [t1]
      rfl
    have t4 := or_of t3 t2
    unfold mIfS
    rw [t4]
    rfl
  refine ws_step (s1 := [some (.own true sp2), some (.val (.int n)), some (.val (.tup (l.map nI))), some (.val (DT n l)), some (.val (.tup ((zs n l).map nI))), none, none, none]) ?_ ?_
  · have hlc := mlc_pure (vs := [6]) (mi := mRng fRg2 (mCons (mC (.int 2)) (mCons (mBin fAdd (mVar 1) (mC (.int 1))) mNil))) (g := gPut 6) (t := (mAndT (mTest (mBin fEq (mBin fMod (mCS (fI1 fun i => i) (mCons (mVar 1) mNil)) (mVar 6)) (mC (.int 0)))) (mTest (mBin fNe (mBin (fIn false) (mBin fDiv (mVar 1) (mVar 6)) (mVar 4)) (mBin (fIn false) (mVar 6) (mIx (mVar 3) (mC (.int 0)))))))) (m := mVar 6) (fun i => nI (2 + i)) (fun _ => false) (fun i => nI (2 + i)) (List.range (n + 1 - 2)) (s := [some (.own true sp2), some (.val (.int n)), some (.val (.tup (l.map nI))), some (.val (DT n l)), some (.val (.tup ((zs n l).map nI))), none, none, none]) (s1 := [some (.own true sp2), some (.val (.int n)), some (.val (.tup (l.map nI))), some (.val (DT n l)), some (.val (.tup ((zs n l).map nI))), none, none, none]) (s2 := [some (.own true sp2), some (.val (.int n)), some (.val (.tup (l.map nI))), some (.val (DT n l)), some (.val (.tup ((zs n l).map nI))), none, none, none])
      (rng2_of (i := (2 : Int)) (j := (n : Int) + 1) (rs := [.val (.int 2), .val (.int ((n : Int) + 1))]) 2 (n + 1) rfl rfl rfl (by omega) (by omega) (by omega)) (by simp; omega) (fun i hi => by
        have hi := List.mem_range.1 hi
        have c1 : mTest (mBin fEq (mBin fMod (mCS (fI1 fun i => i) (mCons (mVar 1) mNil)) (mVar 6)) (mC (.int 0))) [some (.own true sp2), some (.val (.int n)), some (.val (.tup (l.map nI))), some (.val (DT n l)), some (.val (.tup ((zs n l).map nI))), none, some (.val (nI (2 + i))), none] = some (decide (n % (2 + i) = 0), [some (.own true sp2), some (.val (.int n)), some (.val (.tup (l.map nI))), some (.val (DT n l)), some (.val (.tup ((zs n l).map nI))), none, some (.val (nI (2 + i))), none]) := by
          refine mTest_of (mBin_of (mBin_of (mInt_of rfl) rfl (fMod_nat (by omega))) rfl ?_)
          rw [fEq_int]
          exact dec_nat _ 0
        have c2 : mTest (mBin fNe (mBin (fIn false) (mBin fDiv (mVar 1) (mVar 6)) (mVar 4)) (mBin (fIn false) (mVar 6) (mIx (mVar 3) (mC (.int 0))))) [some (.own true sp2), some (.val (.int n)), some (.val (.tup (l.map nI))), some (.val (DT n l)), some (.val (.tup ((zs n l).map nI))), none, some (.val (nI (2 + i))), none] = some (!(decide (n / (2 + i) ∈ zs n l) == decide (2 + i ∈ parts n l)), [some (.own true sp2), some (.val (.int n)), some (.val (.tup (l.map nI))), some (.val (DT n l)), some (.val (.tup ((zs n l).map nI))), none, some (.val (nI (2 + i))), none]) := by
          refine mTest_of (mBin_of (mBin_of (mBin_of rfl rfl (fDiv_nat (by omega) (by omega))) rfl (fIn_tup false _ _)) (mBin_of rfl rfl (fIn_tup false _ _)) ?_)
          rfl
        have c3 := and_of c1 c2
        have c4 : (decide (n % (2 + i) = 0) && !(decide (n / (2 + i) ∈ zs n l) == decide (2 + i ∈ parts n l))) = false := by
          by_cases hd : n % (2 + i) = 0
          · have : decide (n / (2 + i) ∈ zs n l) = decide (2 + i ∈ parts n l) := by
              rw [decide_eq_decide, mem_parts]
              exact ⟨fun z => ⟨by omega, hd, z⟩, fun z => z.2.2⟩
            rw [this]
            simp
          · rw [decide_eq_false hd]
            rfl
        rw [c4] at c3
        exact ⟨_, rfl, c3, (fun e => by cases e), rfl⟩) rfl
    have ef : (List.range (n + 1 - 2)).filter (fun _ => false) = [] := List.filter_eq_nil_iff.2 fun _ _ => by simp
    rw [ef] at hlc
    have t1 := mTest_ofS (mBin_ofS hlc (mb := mLst mNil) rfl rfl rfl (show fNe (.lst []) (.lst []) = some (.bl false) from fNe_lst0 (l := []) fun _ h => nomatch h))
    unfold mIfS
    rw [t1]
    rfl
  generalize hcop : ((List.range (n - 1)).filter fun i => decide (Nat.gcd (1 + i) n = 1)).map (fun i => 1 + i) = cop
  have hcm : ∀ u ∈ cop, u < n ∧ Nat.gcd u n = 1 := by
    intro u hu
    rw [← hcop] at hu
    obtain ⟨i, hi, rfl⟩ := List.mem_map.1 hu
    obtain ⟨hi, hg⟩ := List.mem_filter.1 hi
    have := List.mem_range.1 hi
    exact ⟨by omega, of_decide_eq_true hg⟩
  have hcn : cop ≠ [] := by
    intro hc
    have : 1 ∈ cop := by
      rw [← hcop]
      exact List.mem_map.2 ⟨0, List.mem_filter.2 ⟨List.mem_range.2 (by omega), by simp⟩, rfl⟩
    rw [hc] at this
    cases this
  have hcl : cop.length ≤ 12 := by
    rw [← hcop, List.length_map]
    exact Nat.le_trans (List.length_filter_le _ _) (by simp; omega)
  have hlc := mlc_pure (vs := [7]) (mi := mRng fRg2 (mCons (mC (.int 1)) (mCons (mVar 1) mNil))) (g := gPut 7) (t := mTest (mBin fEq (mCallV fn__law_shared (mCons (mFrz (mVar 7)) (mCons (mFrz (mVar 1)) mNil))) (mC (.int 1)))) (m := mVar 7) (fun i => nI (1 + i)) (fun i => decide (Nat.gcd (1 + i) n = 1)) (fun i => nI (1 + i)) (List.range (n - 1)) (s := [some (.own true sp2), some (.val (.int n)), some (.val (.tup (l.map nI))), some (.val (DT n l)), some (.val (.tup ((zs n l).map nI))), none, none, none]) (s1 := [some (.own true sp2), some (.val (.int n)), some (.val (.tup (l.map nI))), some (.val (DT n l)), some (.val (.tup ((zs n l).map nI))), none, none, none]) (s2 := [some (.own true sp2), some (.val (.int n)), some (.val (.tup (l.map nI))), some (.val (DT n l)), some (.val (.tup ((zs n l).map nI))), none, none, none])
    (rng2_of (i := (1 : Int)) (j := (n : Int)) (rs := [.val (.int 1), .val (.int n)]) 1 n rfl rfl rfl rfl (by omega) (by omega)) (by simp; omega) (fun i hi => by
      have hi := List.mem_range.1 hi
      refine ⟨[some (.own true sp2), some (.val (.int n)), some (.val (.tup (l.map nI))), some (.val (DT n l)), some (.val (.tup ((zs n l).map nI))), none, none, some (.val (nI (1 + i)))], rfl, mTest_of (mBin_of (callV_of (rs := [.val (nI (1 + i)), .val (.int n)]) rfl rfl (shared_ok h2 (by omega))) rfl ?_), fun _ => rfl, rfl⟩
      rw [fEq_int]
      exact dec_one _) rfl
  have em : (((List.range (n - 1)).filter fun i => decide (Nat.gcd (1 + i) n = 1)).map fun i => nI (1 + i)) = cop.map nI := by rw [← hcop, List.map_map]; rfl
  rw [em] at hlc
  obtain ⟨y, sp3, e3, hs3, hy⟩ := one_ok hs2 (xs := cop.map nI) (by simpa using hcn) (by rw [List.length_map]; omega)
  obtain ⟨u, hu, rfl⟩ := List.mem_map.1 hy
  obtain ⟨hun, hug⟩ := hcm u hu
  refine ws_step (s1 := [some (.own true sp3), some (.val (.int n)), some (.val (.tup (l.map nI))), some (.val (DT n l)), some (.val (.tup ((zs n l).map nI))), some (.val (.int u)), none, none]) ?_ ?_
  · refine set_of (s1 := [some (.own true sp3), some (.val (.int n)), some (.val (.tup (l.map nI))), some (.val (DT n l)), some (.val (.tup ((zs n l).map nI))), none, none, none]) (r := .val (nI u)) ?_ rfl
    exact callW_of (k := 0) (p := true) (xs := sp2) rfl (cons_of (ms := mNil) (rs := []) (frz_of hlc) rfl) rfl rfl e3 rfl
  obtain ⟨far, sp4, e4, hs4, hfar⟩ := draw_ok hs3 (w := n) (by omega) (by omega)
  have hfn : far < n := by omega
  obtain ⟨m2, e6, pm2, hp2, hl2, h02⟩ := led_good h h2 hl hp h0 hun hug hfn
  have tk2 := told_ok h h2 hl2 hp2 h02 (parts_led h h2 hl hun hug hfn pm2) (by rw [pm2.length_eq, List.length_map])
  have d1 : mCallW fn__law_draw (mVar 0) (mCons (mFrz (mVar 1)) mNil) [some (.own true sp3), some (.val (.int n)), some (.val (.tup (l.map nI))), some (.val (DT n l)), some (.val (.tup ((zs n l).map nI))), some (.val (.int u)), none, none] = some (.val (.int far), [some (.own true sp4), some (.val (.int n)), some (.val (.tup (l.map nI))), some (.val (DT n l)), some (.val (.tup ((zs n l).map nI))), some (.val (.int u)), none, none]) := callW_of (k := 0) (p := true) (xs := sp3) rfl (rs := [.val (.int n)]) rfl rfl rfl e4 rfl
  have d2 := callV_of (cons_of (s := [some (.own true sp3), some (.val (.int n)), some (.val (.tup (l.map nI))), some (.val (DT n l)), some (.val (.tup ((zs n l).map nI))), some (.val (.int u)), none, none]) (m := mFrz (mVar 1)) (r := .val (.int n)) rfl (cons_of (s := [some (.own true sp3), some (.val (.int n)), some (.val (.tup (l.map nI))), some (.val (DT n l)), some (.val (.tup ((zs n l).map nI))), some (.val (.int u)), none, none]) (m := mFrz (mVar 2)) (r := .val (.tup (l.map nI))) rfl (cons_of (s := [some (.own true sp3), some (.val (.int n)), some (.val (.tup (l.map nI))), some (.val (DT n l)), some (.val (.tup ((zs n l).map nI))), some (.val (.int u)), none, none]) (m := mFrz (mVar 5)) (r := .val (.int u)) rfl (cons_of (ms := mNil) (rs := []) (frzV_of d1) rfl)))) rfl e6
  have d3 := callV_of (cons_of (s := [some (.own true sp3), some (.val (.int n)), some (.val (.tup (l.map nI))), some (.val (DT n l)), some (.val (.tup ((zs n l).map nI))), some (.val (.int u)), none, none]) (m := mFrz (mVar 1)) (r := .val (.int n)) rfl (cons_of (frzV_of d2) (cons_of (m := mFrz (mVar 3)) (r := .val (DT n l)) (ms := mNil) (rs := []) rfl rfl))) rfl tk2
  exact ws_ret ⟨.val (.bl true), [some (.own true sp4), some (.val (.int n)), some (.val (.tup (l.map nI))), some (.val (DT n l)), some (.val (.tup ((zs n l).map nI))), some (.val (.int u)), none, none], d3, _, rfl, _, _, sp4, rfl, rfl, rfl⟩
end K41
set_option Elab.async false
set_option linter.all false
set_option maxRecDepth 100000
set_option maxHeartbeats 4000000
namespace K41
open PySem PySem.Spec L2 Dm
set_option autoImplicit false
theorem callWn_of {f : FnW} {mo : ME} {ms : MA} {s s1 s2 : S} {xs ys ds : List D} {rs : List R} {r : Ret} (ho : mo s = some (.own xs, s1)) (hm : ms s1 = some (rs, s2)) (hv : vals rs = some ds) (hf : f xs ds = some (r, ys)) : mCallW f mo ms s = some (rOf r, s2) := by
  unfold mCallW
  rw [ho]
  show (ms s1).bind _ = _
  rw [hm]
  show (vals rs).bind _ = _
  rw [hv]
  show (f xs ds).bind _ = _
  rw [hf]
  rfl
theorem cs_of {f : List D → Option D} {ms : MA} {s s1 : S} {rs : List R} {ds : List D} {z : D} (h : ms s = some (rs, s1)) (hp : peeks rs s1 = some ds) (hf : f ds = some z) : mCS f ms s = some (.val z, s1) := by
  unfold mCS
  rw [h]
  show (peeks rs s1).bind _ = _
  rw [hp]
  show (f ds).bind _ = _
  rw [hf]
  rfl
theorem law_ok (ns : List Int) : fn_law [.lst (ns.map D.int)] = some (.val (.bl true)) := by
  obtain ⟨K, hK, hK2⟩ : ∃ K : Nat, gMax 1 (gMin (ns.length : Int) 4) = (K : Int) ∧ K ≤ 4 := by
    have hm : 0 ≤ gMin (ns.length : Int) 4 ∧ gMin (ns.length : Int) 4 ≤ 4 := by
      show 0 ≤ (if (4 : Int) < (ns.length : Int) then (4 : Int) else (ns.length : Int)) ∧ (if (4 : Int) < (ns.length : Int) then (4 : Int) else (ns.length : Int)) ≤ 4
      split <;> omega
    generalize gMin (ns.length : Int) 4 = m at hm
    have hx : 0 ≤ gMax 1 m ∧ gMax 1 m ≤ 4 := by
      show 0 ≤ (if m > 1 then m else 1) ∧ (if m > 1 then m else 1) ≤ 4
      split <;> omega
    exact ⟨(gMax 1 m).toNat, by omega, by omega⟩
  let s : S := [some (Cell.val (.lst (ns.map D.int))), none]
  have hm : mRng fRg1 (mCons (mCS (fI2 gMax) (mCons (mC (.int 1)) (mCons (mCS (fI2 gMin) (mCons (mCS fLen (mCons (mVar 0) mNil)) (mCons (mC (.int 4)) mNil))) mNil))) mNil) s = some ((List.range K).map nI, s) := by
    refine rng1_of (i := gMax 1 (gMin (ns.length : Int) 4)) (rs := [.val (.int (gMax 1 (gMin (ns.length : Int) 4)))]) K ?_ rfl hK (by omega)
    have hlen : mCS fLen (mCons (mVar 0) mNil) s = some (.val (.int (ns.length : Int)), s) := by
      show some (R.val (D.int ((ns.map D.int).length : Int)), s) = _
      rw [List.length_map]
    have h1 : mCS (fI2 gMin) (mCons (mCS fLen (mCons (mVar 0) mNil)) (mCons (mC (.int 4)) mNil)) s = some (.val (.int (gMin (ns.length : Int) 4)), s) := by
      have e := cons_of hlen (ms := mCons (mC (.int 4)) mNil) (rs := [.val (.int 4)]) (s2 := s) rfl
      unfold mCS at e ⊢
      rw [e]
      rfl
    have h2 : mCS (fI2 gMax) (mCons (mC (.int 1)) (mCons (mCS (fI2 gMin) (mCons (mCS fLen (mCons (mVar 0) mNil)) (mCons (mC (.int 4)) mNil))) mNil)) s = some (.val (.int (gMax 1 (gMin (ns.length : Int) 4))), s) := by
      have e := cons_of (m := mC (.int 1)) (s := s) (s1 := s) (r := .val (.int 1)) rfl (cons_of h1 (ms := mNil) (rs := []) rfl)
      unfold mCS at e ⊢
      rw [e]
      rfl
    exact cons_of h2 rfl
  have hlc := mlc_pure (vs := [1]) (g := gPut 1) (t := mYes) (m := mCallW fn__law_right (mCallV fn__law_spring (mCons (mFrz (mVar 0)) (mCons (mFrz (mVar 1)) mNil))) mNil) nI (fun _ => true) (fun _ => .bl true) (List.range K) (s2 := s) hm (by simp; omega) (fun i hi => by
    have hi := List.mem_range.1 hi
    obtain ⟨sp, e1, hs⟩ := spring_ok ns i (by omega)
    obtain ⟨r, ys, e2, rfl⟩ := right_ok hs
    refine ⟨[some (Cell.val (.lst (ns.map D.int))), some (.val (.int i))], rfl, rfl, fun _ => ?_, rfl⟩
    have q1 := callV_of (s := [some (Cell.val (.lst (ns.map D.int))), some (.val (.int i))]) (ms := mCons (mFrz (mVar 0)) (mCons (mFrz (mVar 1)) mNil)) (rs := [.val (.lst (ns.map D.int)), .val (.int i)]) (s1 := [some (Cell.val (.lst (ns.map D.int))), some (.val (.int i))]) rfl rfl e1
    exact callWn_of q1 (rs := []) rfl rfl e2) rfl
  rw [filter_all] at hlc
  have hfa : fAll [.lst ((List.range K).map fun _ => D.bl true)] = some (.bl true) := by
    unfold fAll
    show (boolsD ((List.range K).map fun _ => D.bl true)).bind _ = _
    rw [bools_all]
    show some (D.bl (((List.range K).map fun _ => true).all id)) = _
    rw [all_true]
  obtain ⟨r, e, rfl⟩ := fnV_ws (np := 1) (nv := 2) (b := b_law) (ds := [.lst (ns.map D.int)]) (P := fun r => r = .val (.bl true))
    (ws_ret ⟨.val (.bl true), s, cs_of (cons_of hlc (ms := mNil) (rs := []) rfl) rfl hfa, _, rfl, _, _, rfl, rfl⟩)
  exact e
end K41
set_option Elab.async false
set_option linter.all false
set_option maxRecDepth 100000
set_option maxHeartbeats 4000000
namespace K41
open PySem PySem.Spec L2 Dm
theorem lk_pairs {K : PySem.W.Frag} {vs : List (Int × V)} {ds : List (Int × D)} (h : Paired (fun (p : Int × V) (q : Int × D) => p.1 = q.1 ∧ ∀ M, At K M p.2 q.2) vs ds) : ∀ (M : Hp) (i : Int) (z : D), ds.lookup i = some z → ∃ v, vs.lookup i = some v ∧ At K M v z := by
  induction h with
  | nil => intro M i z e; cases e
  | @cons p q ps qs h t ih =>
    obtain ⟨k, x⟩ := p
    obtain ⟨k', y⟩ := q
    obtain ⟨h1, h2⟩ := h
    have h1 : k = k' := h1
    subst h1
    intro M i z e
    rw [List.lookup_cons] at e ⊢
    by_cases hik : i = k
    · subst hik
      simp at e ⊢
      subst e
      exact h2 M
    · have hne : (i == k) = false := by simpa using hik
      rw [hne] at e ⊢
      exact ih M i z e
theorem at_tup {K : PySem.W.Frag} {r : Addr} {od : Option Addr} {its : Array Value} {m : Nat} {sl : Array (Option Value)} {vs : List V} {ds : List D} (lk : K.lookup r = some ⟨.type "tuple", od, .seq its m, sl⟩) (hv : Vals vs its.toList) (hs : its.size ≤ sizeLine) (ha : ∀ M, Ats K M vs ds) : ∀ M, At K M (.ref r) (.tup ds) := fun M =>
  .tup (.inr ⟨_, its, m, lk, rfl, rfl, hs, hv⟩) (ha M)
theorem all_mk {l : PySem.W.OpenLaw} {w : World} {K : PySem.W.Frag} {h : Heap} {mg : Str → Option Value} {fa : Addr} (X : K.In h) (G : h.Ns mainGlobals mg) (hfa : mg "law" = some (.ref fa))
    {f0 : Addr} {od0 an0 : Option Addr} {sl0 : Array (Option Value)} {oc0 kV0 dc0 pm0 cd0 ct0 : Value}
    {f1 : Addr} {od1 an1 : Option Addr} {sl1 : Array (Option Value)} {oc1 kV1 dc1 pm1 cd1 ct1 : Value}
    {f2 : Addr} {od2 an2 : Option Addr} {sl2 : Array (Option Value)} {oc2 kV2 dc2 pm2 cd2 ct2 : Value}
    {f3 : Addr} {od3 an3 : Option Addr} {sl3 : Array (Option Value)} {oc3 kV3 dc3 pm3 cd3 ct3 : Value}
    {f4 : Addr} {od4 an4 : Option Addr} {sl4 : Array (Option Value)} {oc4 kV4 dc4 pm4 cd4 ct4 : Value}
    {f5 : Addr} {od5 an5 : Option Addr} {sl5 : Array (Option Value)} {oc5 kV5 dc5 pm5 cd5 ct5 : Value}
    {f6 : Addr} {od6 an6 : Option Addr} {sl6 : Array (Option Value)} {oc6 kV6 dc6 pm6 cd6 ct6 : Value}
    {f7 : Addr} {od7 an7 : Option Addr} {sl7 : Array (Option Value)} {oc7 kV7 dc7 pm7 cd7 ct7 : Value}
    {f8 : Addr} {od8 an8 : Option Addr} {sl8 : Array (Option Value)} {oc8 kV8 dc8 pm8 cd8 ct8 : Value}
    {f9 : Addr} {od9 an9 : Option Addr} {sl9 : Array (Option Value)} {oc9 kV9 dc9 pm9 cd9 ct9 : Value}
    {f10 : Addr} {od10 an10 : Option Addr} {sl10 : Array (Option Value)} {oc10 kV10 dc10 pm10 cd10 ct10 : Value}
    {f11 : Addr} {od11 an11 : Option Addr} {sl11 : Array (Option Value)} {oc11 kV11 dc11 pm11 cd11 ct11 : Value}
    {f12 : Addr} {od12 an12 : Option Addr} {sl12 : Array (Option Value)} {oc12 kV12 dc12 pm12 cd12 ct12 : Value}
    {f13 : Addr} {od13 an13 : Option Addr} {sl13 : Array (Option Value)} {oc13 kV13 dc13 pm13 cd13 ct13 : Value}
    {f14 : Addr} {od14 an14 : Option Addr} {sl14 : Array (Option Value)} {oc14 kV14 dc14 pm14 cd14 ct14 : Value}
    {f15 : Addr} {od15 an15 : Option Addr} {sl15 : Array (Option Value)} {oc15 kV15 dc15 pm15 cd15 ct15 : Value}
    {f16 : Addr} {od16 an16 : Option Addr} {sl16 : Array (Option Value)} {oc16 kV16 dc16 pm16 cd16 ct16 : Value}
    {f17 : Addr} {od17 an17 : Option Addr} {sl17 : Array (Option Value)} {oc17 kV17 dc17 pm17 cd17 ct17 : Value}
    {f18 : Addr} {od18 an18 : Option Addr} {sl18 : Array (Option Value)} {oc18 kV18 dc18 pm18 cd18 ct18 : Value}
    {f19 : Addr} {od19 an19 : Option Addr} {sl19 : Array (Option Value)} {oc19 kV19 dc19 pm19 cd19 ct19 : Value}
    {f20 : Addr} {od20 an20 : Option Addr} {sl20 : Array (Option Value)} {oc20 kV20 dc20 pm20 cd20 ct20 : Value}
    {f21 : Addr} {od21 an21 : Option Addr} {sl21 : Array (Option Value)} {oc21 kV21 dc21 pm21 cd21 ct21 : Value}
    {f22 : Addr} {od22 an22 : Option Addr} {sl22 : Array (Option Value)} {oc22 kV22 dc22 pm22 cd22 ct22 : Value}
    {f23 : Addr} {od23 an23 : Option Addr} {sl23 : Array (Option Value)} {oc23 kV23 dc23 pm23 cd23 ct23 : Value}
    {f24 : Addr} {od24 an24 : Option Addr} {sl24 : Array (Option Value)} {oc24 kV24 dc24 pm24 cd24 ct24 : Value}
    {f25 : Addr} {od25 an25 : Option Addr} {sl25 : Array (Option Value)} {oc25 kV25 dc25 pm25 cd25 ct25 : Value}
    {tk_GREATEST_SIZE : Tok}
    {tk_LEAST_SIZE : Tok}
    {g_ROUND_POLYNOMIALS n_ROUND_POLYNOMIALS : Nat} {t_ROUND_POLYNOMIALS_0 t_ROUND_POLYNOMIALS_1 t_ROUND_POLYNOMIALS_2 t_ROUND_POLYNOMIALS_3 t_ROUND_POLYNOMIALS_4 t_ROUND_POLYNOMIALS_5 t_ROUND_POLYNOMIALS_6 t_ROUND_POLYNOMIALS_7 t_ROUND_POLYNOMIALS_8 t_ROUND_POLYNOMIALS_9 t_ROUND_POLYNOMIALS_10 : Tok}
    {r_ROUND_POLYNOMIALS_0 r_ROUND_POLYNOMIALS_1 r_ROUND_POLYNOMIALS_2 r_ROUND_POLYNOMIALS_3 r_ROUND_POLYNOMIALS_4 r_ROUND_POLYNOMIALS_5 r_ROUND_POLYNOMIALS_6 r_ROUND_POLYNOMIALS_7 r_ROUND_POLYNOMIALS_8 r_ROUND_POLYNOMIALS_9 r_ROUND_POLYNOMIALS_10 : Addr}
    {o_ROUND_POLYNOMIALS_0 : Option Addr} {m_ROUND_POLYNOMIALS_0 : Nat} {sl_ROUND_POLYNOMIALS_0 : Array (Option Value)} {u_ROUND_POLYNOMIALS_0_0 u_ROUND_POLYNOMIALS_0_1 : Tok}
    {o_ROUND_POLYNOMIALS_1 : Option Addr} {m_ROUND_POLYNOMIALS_1 : Nat} {sl_ROUND_POLYNOMIALS_1 : Array (Option Value)} {u_ROUND_POLYNOMIALS_1_0 u_ROUND_POLYNOMIALS_1_1 u_ROUND_POLYNOMIALS_1_2 : Tok}
    {o_ROUND_POLYNOMIALS_2 : Option Addr} {m_ROUND_POLYNOMIALS_2 : Nat} {sl_ROUND_POLYNOMIALS_2 : Array (Option Value)} {u_ROUND_POLYNOMIALS_2_0 u_ROUND_POLYNOMIALS_2_1 u_ROUND_POLYNOMIALS_2_2 : Tok}
    {o_ROUND_POLYNOMIALS_3 : Option Addr} {m_ROUND_POLYNOMIALS_3 : Nat} {sl_ROUND_POLYNOMIALS_3 : Array (Option Value)} {u_ROUND_POLYNOMIALS_3_0 u_ROUND_POLYNOMIALS_3_1 u_ROUND_POLYNOMIALS_3_2 u_ROUND_POLYNOMIALS_3_3 u_ROUND_POLYNOMIALS_3_4 : Tok}
    {o_ROUND_POLYNOMIALS_4 : Option Addr} {m_ROUND_POLYNOMIALS_4 : Nat} {sl_ROUND_POLYNOMIALS_4 : Array (Option Value)} {u_ROUND_POLYNOMIALS_4_0 u_ROUND_POLYNOMIALS_4_1 u_ROUND_POLYNOMIALS_4_2 : Tok}
    {o_ROUND_POLYNOMIALS_5 : Option Addr} {m_ROUND_POLYNOMIALS_5 : Nat} {sl_ROUND_POLYNOMIALS_5 : Array (Option Value)} {u_ROUND_POLYNOMIALS_5_0 u_ROUND_POLYNOMIALS_5_1 u_ROUND_POLYNOMIALS_5_2 u_ROUND_POLYNOMIALS_5_3 u_ROUND_POLYNOMIALS_5_4 u_ROUND_POLYNOMIALS_5_5 u_ROUND_POLYNOMIALS_5_6 : Tok}
    {o_ROUND_POLYNOMIALS_6 : Option Addr} {m_ROUND_POLYNOMIALS_6 : Nat} {sl_ROUND_POLYNOMIALS_6 : Array (Option Value)} {u_ROUND_POLYNOMIALS_6_0 u_ROUND_POLYNOMIALS_6_1 u_ROUND_POLYNOMIALS_6_2 u_ROUND_POLYNOMIALS_6_3 u_ROUND_POLYNOMIALS_6_4 : Tok}
    {o_ROUND_POLYNOMIALS_7 : Option Addr} {m_ROUND_POLYNOMIALS_7 : Nat} {sl_ROUND_POLYNOMIALS_7 : Array (Option Value)} {u_ROUND_POLYNOMIALS_7_0 u_ROUND_POLYNOMIALS_7_1 u_ROUND_POLYNOMIALS_7_2 u_ROUND_POLYNOMIALS_7_3 u_ROUND_POLYNOMIALS_7_4 u_ROUND_POLYNOMIALS_7_5 u_ROUND_POLYNOMIALS_7_6 : Tok}
    {o_ROUND_POLYNOMIALS_8 : Option Addr} {m_ROUND_POLYNOMIALS_8 : Nat} {sl_ROUND_POLYNOMIALS_8 : Array (Option Value)} {u_ROUND_POLYNOMIALS_8_0 u_ROUND_POLYNOMIALS_8_1 u_ROUND_POLYNOMIALS_8_2 u_ROUND_POLYNOMIALS_8_3 u_ROUND_POLYNOMIALS_8_4 : Tok}
    {o_ROUND_POLYNOMIALS_9 : Option Addr} {m_ROUND_POLYNOMIALS_9 : Nat} {sl_ROUND_POLYNOMIALS_9 : Array (Option Value)} {u_ROUND_POLYNOMIALS_9_0 u_ROUND_POLYNOMIALS_9_1 u_ROUND_POLYNOMIALS_9_2 u_ROUND_POLYNOMIALS_9_3 u_ROUND_POLYNOMIALS_9_4 u_ROUND_POLYNOMIALS_9_5 u_ROUND_POLYNOMIALS_9_6 u_ROUND_POLYNOMIALS_9_7 u_ROUND_POLYNOMIALS_9_8 u_ROUND_POLYNOMIALS_9_9 u_ROUND_POLYNOMIALS_9_10 : Tok}
    {o_ROUND_POLYNOMIALS_10 : Option Addr} {m_ROUND_POLYNOMIALS_10 : Nat} {sl_ROUND_POLYNOMIALS_10 : Array (Option Value)} {u_ROUND_POLYNOMIALS_10_0 u_ROUND_POLYNOMIALS_10_1 u_ROUND_POLYNOMIALS_10_2 u_ROUND_POLYNOMIALS_10_3 u_ROUND_POLYNOMIALS_10_4 : Tok}
    (a0 : PySem.W.nsIn K mainGlobals "rest_by_round" = some (some (.ref f0))) (l0 : K.lookup f0 = some ⟨oc0, od0, .func (PySem.W.fnOf "rest_by_round" "rest_by_round" (defArgs s_rest_by_round) (defBody s_rest_by_round) (defScope s_rest_by_round) .none kV0 dc0 pm0 an0 cd0 ct0), sl0⟩) (c0 : PySem.W.codeIn K cd0 "rest_by_round" = true) (k0 : PySem.W.keepIn K (.ref f0) = true)
    (a1 : PySem.W.nsIn K mainGlobals "is_whole_from" = some (some (.ref f1))) (l1 : K.lookup f1 = some ⟨oc1, od1, .func (PySem.W.fnOf "is_whole_from" "is_whole_from" (defArgs s_is_whole_from) (defBody s_is_whole_from) (defScope s_is_whole_from) .none kV1 dc1 pm1 an1 cd1 ct1), sl1⟩) (c1 : PySem.W.codeIn K cd1 "is_whole_from" = true) (k1 : PySem.W.keepIn K (.ref f1) = true)
    (a2 : PySem.W.nsIn K mainGlobals "is_size" = some (some (.ref f2))) (l2 : K.lookup f2 = some ⟨oc2, od2, .func (PySem.W.fnOf "is_size" "is_size" (defArgs s_is_size) (defBody s_is_size) (defScope s_is_size) .none kV2 dc2 pm2 an2 cd2 ct2), sl2⟩) (c2 : PySem.W.codeIn K cd2 "is_size" = true) (k2 : PySem.W.keepIn K (.ref f2) = true)
    (a3 : PySem.W.nsIn K mainGlobals "check_size" = some (some (.ref f3))) (l3 : K.lookup f3 = some ⟨oc3, od3, .func (PySem.W.fnOf "check_size" "check_size" (defArgs s_check_size) (defBody s_check_size) (defScope s_check_size) .none kV3 dc3 pm3 an3 cd3 ct3), sl3⟩) (c3 : PySem.W.codeIn K cd3 "check_size" = true) (k3 : PySem.W.keepIn K (.ref f3) = true)
    (a4 : PySem.W.nsIn K mainGlobals "divisors_of" = some (some (.ref f4))) (l4 : K.lookup f4 = some ⟨oc4, od4, .func (PySem.W.fnOf "divisors_of" "divisors_of" (defArgs s_divisors_of) (defBody s_divisors_of) (defScope s_divisors_of) .none kV4 dc4 pm4 an4 cd4 ct4), sl4⟩) (c4 : PySem.W.codeIn K cd4 "divisors_of" = true) (k4 : PySem.W.keepIn K (.ref f4) = true)
    (a5 : PySem.W.nsIn K mainGlobals "prime_of" = some (some (.ref f5))) (l5 : K.lookup f5 = some ⟨oc5, od5, .func (PySem.W.fnOf "prime_of" "prime_of" (defArgs s_prime_of) (defBody s_prime_of) (defScope s_prime_of) .none kV5 dc5 pm5 an5 cd5 ct5), sl5⟩) (c5 : PySem.W.codeIn K cd5 "prime_of" = true) (k5 : PySem.W.keepIn K (.ref f5) = true)
    (a6 : PySem.W.nsIn K mainGlobals "is_lot" = some (some (.ref f6))) (l6 : K.lookup f6 = some ⟨oc6, od6, .func (PySem.W.fnOf "is_lot" "is_lot" (defArgs s_is_lot) (defBody s_is_lot) (defScope s_is_lot) .none kV6 dc6 pm6 an6 cd6 ct6), sl6⟩) (c6 : PySem.W.codeIn K cd6 "is_lot" = true) (k6 : PySem.W.keepIn K (.ref f6) = true)
    (a7 : PySem.W.nsIn K mainGlobals "check_full_lot" = some (some (.ref f7))) (l7 : K.lookup f7 = some ⟨oc7, od7, .func (PySem.W.fnOf "check_full_lot" "check_full_lot" (defArgs s_check_full_lot) (defBody s_check_full_lot) (defScope s_check_full_lot) .none kV7 dc7 pm7 an7 cd7 ct7), sl7⟩) (c7 : PySem.W.codeIn K cd7 "check_full_lot" = true) (k7 : PySem.W.keepIn K (.ref f7) = true)
    (a8 : PySem.W.nsIn K mainGlobals "is_zero_step" = some (some (.ref f8))) (l8 : K.lookup f8 = some ⟨oc8, od8, .func (PySem.W.fnOf "is_zero_step" "is_zero_step" (defArgs s_is_zero_step) (defBody s_is_zero_step) (defScope s_is_zero_step) .none kV8 dc8 pm8 an8 cd8 ct8), sl8⟩) (c8 : PySem.W.codeIn K cd8 "is_zero_step" = true) (k8 : PySem.W.keepIn K (.ref f8) = true)
    (a9 : PySem.W.nsIn K mainGlobals "zero_steps" = some (some (.ref f9))) (l9 : K.lookup f9 = some ⟨oc9, od9, .func (PySem.W.fnOf "zero_steps" "zero_steps" (defArgs s_zero_steps) (defBody s_zero_steps) (defScope s_zero_steps) .none kV9 dc9 pm9 an9 cd9 ct9), sl9⟩) (c9 : PySem.W.codeIn K cd9 "zero_steps" = true) (k9 : PySem.W.keepIn K (.ref f9) = true)
    (a10 : PySem.W.nsIn K mainGlobals "parts_in" = some (some (.ref f10))) (l10 : K.lookup f10 = some ⟨oc10, od10, .func (PySem.W.fnOf "parts_in" "parts_in" (defArgs s_parts_in) (defBody s_parts_in) (defScope s_parts_in) .none kV10 dc10 pm10 an10 cd10 ct10), sl10⟩) (c10 : PySem.W.codeIn K cd10 "parts_in" = true) (k10 : PySem.W.keepIn K (.ref f10) = true)
    (a11 : PySem.W.nsIn K mainGlobals "has_first_sign" = some (some (.ref f11))) (l11 : K.lookup f11 = some ⟨oc11, od11, .func (PySem.W.fnOf "has_first_sign" "has_first_sign" (defArgs s_has_first_sign) (defBody s_has_first_sign) (defScope s_has_first_sign) .none kV11 dc11 pm11 an11 cd11 ct11), sl11⟩) (c11 : PySem.W.codeIn K cd11 "has_first_sign" = true) (k11 : PySem.W.keepIn K (.ref f11) = true)
    (a12 : PySem.W.nsIn K mainGlobals "has_second_sign" = some (some (.ref f12))) (l12 : K.lookup f12 = some ⟨oc12, od12, .func (PySem.W.fnOf "has_second_sign" "has_second_sign" (defArgs s_has_second_sign) (defBody s_has_second_sign) (defScope s_has_second_sign) .none kV12 dc12 pm12 an12 cd12 ct12), sl12⟩) (c12 : PySem.W.codeIn K cd12 "has_second_sign" = true) (k12 : PySem.W.keepIn K (.ref f12) = true)
    (a13 : PySem.W.nsIn K mainGlobals "_law_spring" = some (some (.ref f13))) (l13 : K.lookup f13 = some ⟨oc13, od13, .func (PySem.W.fnOf "_law_spring" "_law_spring" (defArgs s__law_spring) (defBody s__law_spring) (defScope s__law_spring) .none kV13 dc13 pm13 an13 cd13 ct13), sl13⟩) (c13 : PySem.W.codeIn K cd13 "_law_spring" = true) (k13 : PySem.W.keepIn K (.ref f13) = true)
    (a14 : PySem.W.nsIn K mainGlobals "_law_draw" = some (some (.ref f14))) (l14 : K.lookup f14 = some ⟨oc14, od14, .func (PySem.W.fnOf "_law_draw" "_law_draw" (defArgs s__law_draw) (defBody s__law_draw) (defScope s__law_draw) .none kV14 dc14 pm14 an14 cd14 ct14), sl14⟩) (c14 : PySem.W.codeIn K cd14 "_law_draw" = true) (k14 : PySem.W.keepIn K (.ref f14) = true)
    (a15 : PySem.W.nsIn K mainGlobals "_law_one" = some (some (.ref f15))) (l15 : K.lookup f15 = some ⟨oc15, od15, .func (PySem.W.fnOf "_law_one" "_law_one" (defArgs s__law_one) (defBody s__law_one) (defScope s__law_one) .none kV15 dc15 pm15 an15 cd15 ct15), sl15⟩) (c15 : PySem.W.codeIn K cd15 "_law_one" = true) (k15 : PySem.W.keepIn K (.ref f15) = true)
    (a16 : PySem.W.nsIn K mainGlobals "_law_shared" = some (some (.ref f16))) (l16 : K.lookup f16 = some ⟨oc16, od16, .func (PySem.W.fnOf "_law_shared" "_law_shared" (defArgs s__law_shared) (defBody s__law_shared) (defScope s__law_shared) .none kV16 dc16 pm16 an16 cd16 ct16), sl16⟩) (c16 : PySem.W.codeIn K cd16 "_law_shared" = true) (k16 : PySem.W.keepIn K (.ref f16) = true)
    (a17 : PySem.W.nsIn K mainGlobals "_law_base" = some (some (.ref f17))) (l17 : K.lookup f17 = some ⟨oc17, od17, .func (PySem.W.fnOf "_law_base" "_law_base" (defArgs s__law_base) (defBody s__law_base) (defScope s__law_base) .none kV17 dc17 pm17 an17 cd17 ct17), sl17⟩) (c17 : PySem.W.codeIn K cd17 "_law_base" = true) (k17 : PySem.W.keepIn K (.ref f17) = true)
    (a18 : PySem.W.nsIn K mainGlobals "_law_rest" = some (some (.ref f18))) (l18 : K.lookup f18 = some ⟨oc18, od18, .func (PySem.W.fnOf "_law_rest" "_law_rest" (defArgs s__law_rest) (defBody s__law_rest) (defScope s__law_rest) .none kV18 dc18 pm18 an18 cd18 ct18), sl18⟩) (c18 : PySem.W.codeIn K cd18 "_law_rest" = true) (k18 : PySem.W.keepIn K (.ref f18) = true)
    (a19 : PySem.W.nsIn K mainGlobals "_law_is" = some (some (.ref f19))) (l19 : K.lookup f19 = some ⟨oc19, od19, .func (PySem.W.fnOf "_law_is" "_law_is" (defArgs s__law_is) (defBody s__law_is) (defScope s__law_is) .none kV19 dc19 pm19 an19 cd19 ct19), sl19⟩) (c19 : PySem.W.codeIn K cd19 "_law_is" = true) (k19 : PySem.W.keepIn K (.ref f19) = true)
    (a20 : PySem.W.nsIn K mainGlobals "_law_lot" = some (some (.ref f20))) (l20 : K.lookup f20 = some ⟨oc20, od20, .func (PySem.W.fnOf "_law_lot" "_law_lot" (defArgs s__law_lot) (defBody s__law_lot) (defScope s__law_lot) .none kV20 dc20 pm20 an20 cd20 ct20), sl20⟩) (c20 : PySem.W.codeIn K cd20 "_law_lot" = true) (k20 : PySem.W.keepIn K (.ref f20) = true)
    (a21 : PySem.W.nsIn K mainGlobals "_law_led" = some (some (.ref f21))) (l21 : K.lookup f21 = some ⟨oc21, od21, .func (PySem.W.fnOf "_law_led" "_law_led" (defArgs s__law_led) (defBody s__law_led) (defScope s__law_led) .none kV21 dc21 pm21 an21 cd21 ct21), sl21⟩) (c21 : PySem.W.codeIn K cd21 "_law_led" = true) (k21 : PySem.W.keepIn K (.ref f21) = true)
    (a22 : PySem.W.nsIn K mainGlobals "_law_own" = some (some (.ref f22))) (l22 : K.lookup f22 = some ⟨oc22, od22, .func (PySem.W.fnOf "_law_own" "_law_own" (defArgs s__law_own) (defBody s__law_own) (defScope s__law_own) .none kV22 dc22 pm22 an22 cd22 ct22), sl22⟩) (c22 : PySem.W.codeIn K cd22 "_law_own" = true) (k22 : PySem.W.keepIn K (.ref f22) = true)
    (a23 : PySem.W.nsIn K mainGlobals "_law_told" = some (some (.ref f23))) (l23 : K.lookup f23 = some ⟨oc23, od23, .func (PySem.W.fnOf "_law_told" "_law_told" (defArgs s__law_told) (defBody s__law_told) (defScope s__law_told) .none kV23 dc23 pm23 an23 cd23 ct23), sl23⟩) (c23 : PySem.W.codeIn K cd23 "_law_told" = true) (k23 : PySem.W.keepIn K (.ref f23) = true)
    (a24 : PySem.W.nsIn K mainGlobals "_law_right" = some (some (.ref f24))) (l24 : K.lookup f24 = some ⟨oc24, od24, .func (PySem.W.fnOf "_law_right" "_law_right" (defArgs s__law_right) (defBody s__law_right) (defScope s__law_right) .none kV24 dc24 pm24 an24 cd24 ct24), sl24⟩) (c24 : PySem.W.codeIn K cd24 "_law_right" = true) (k24 : PySem.W.keepIn K (.ref f24) = true)
    (a25 : PySem.W.nsIn K mainGlobals "law" = some (some (.ref f25))) (l25 : K.lookup f25 = some ⟨oc25, od25, .func (PySem.W.fnOf "law" "law" (defArgs s_law) (defBody s_law) (defScope s_law) .none kV25 dc25 pm25 an25 cd25 ct25), sl25⟩) (c25 : PySem.W.codeIn K cd25 "law" = true) (k25 : PySem.W.keepIn K (.ref f25) = true)
    (z_abs : PySem.W.nsIn K mainGlobals "abs" = some none)
    (z_all : PySem.W.nsIn K mainGlobals "all" = some none)
    (z_any : PySem.W.nsIn K mainGlobals "any" = some none)
    (z_divmod : PySem.W.nsIn K mainGlobals "divmod" = some none)
    (z_enumerate : PySem.W.nsIn K mainGlobals "enumerate" = some none)
    (z_int : PySem.W.nsIn K mainGlobals "int" = some none)
    (z_len : PySem.W.nsIn K mainGlobals "len" = some none)
    (z_list : PySem.W.nsIn K mainGlobals "list" = some none)
    (z_max : PySem.W.nsIn K mainGlobals "max" = some none)
    (z_min : PySem.W.nsIn K mainGlobals "min" = some none)
    (z_range : PySem.W.nsIn K mainGlobals "range" = some none)
    (z_repr : PySem.W.nsIn K mainGlobals "repr" = some none)
    (z_sorted : PySem.W.nsIn K mainGlobals "sorted" = some none)
    (z_tuple : PySem.W.nsIn K mainGlobals "tuple" = some none)
    (z_type : PySem.W.nsIn K mainGlobals "type" = some none)
    (z_zip : PySem.W.nsIn K mainGlobals "zip" = some none)
    (c_GREATEST_SIZE : PySem.W.nsIn K mainGlobals "GREATEST_SIZE" = some (some (.int 12 tk_GREATEST_SIZE)))
    (c_LEAST_SIZE : PySem.W.nsIn K mainGlobals "LEAST_SIZE" = some (some (.int 2 tk_LEAST_SIZE)))
    (m_ROUND_POLYNOMIALS : PySem.W.nsIn K mainGlobals "ROUND_POLYNOMIALS" = some (some (.ref g_ROUND_POLYNOMIALS)))
    (d_ROUND_POLYNOMIALS : K.lookup g_ROUND_POLYNOMIALS = some ⟨.type "dict", none, .dict #[⟨hashInt 2, .int 2 t_ROUND_POLYNOMIALS_0, .ref r_ROUND_POLYNOMIALS_0⟩, ⟨hashInt 3, .int 3 t_ROUND_POLYNOMIALS_1, .ref r_ROUND_POLYNOMIALS_1⟩, ⟨hashInt 4, .int 4 t_ROUND_POLYNOMIALS_2, .ref r_ROUND_POLYNOMIALS_2⟩, ⟨hashInt 5, .int 5 t_ROUND_POLYNOMIALS_3, .ref r_ROUND_POLYNOMIALS_3⟩, ⟨hashInt 6, .int 6 t_ROUND_POLYNOMIALS_4, .ref r_ROUND_POLYNOMIALS_4⟩, ⟨hashInt 7, .int 7 t_ROUND_POLYNOMIALS_5, .ref r_ROUND_POLYNOMIALS_5⟩, ⟨hashInt 8, .int 8 t_ROUND_POLYNOMIALS_6, .ref r_ROUND_POLYNOMIALS_6⟩, ⟨hashInt 9, .int 9 t_ROUND_POLYNOMIALS_7, .ref r_ROUND_POLYNOMIALS_7⟩, ⟨hashInt 10, .int 10 t_ROUND_POLYNOMIALS_8, .ref r_ROUND_POLYNOMIALS_8⟩, ⟨hashInt 11, .int 11 t_ROUND_POLYNOMIALS_9, .ref r_ROUND_POLYNOMIALS_9⟩, ⟨hashInt 12, .int 12 t_ROUND_POLYNOMIALS_10, .ref r_ROUND_POLYNOMIALS_10⟩] n_ROUND_POLYNOMIALS, #[]⟩)
    (e_ROUND_POLYNOMIALS_0 : K.lookup r_ROUND_POLYNOMIALS_0 = some ⟨.type "tuple", o_ROUND_POLYNOMIALS_0, .seq #[.int (1) u_ROUND_POLYNOMIALS_0_0, .int (1) u_ROUND_POLYNOMIALS_0_1] m_ROUND_POLYNOMIALS_0, sl_ROUND_POLYNOMIALS_0⟩)
    (e_ROUND_POLYNOMIALS_1 : K.lookup r_ROUND_POLYNOMIALS_1 = some ⟨.type "tuple", o_ROUND_POLYNOMIALS_1, .seq #[.int (1) u_ROUND_POLYNOMIALS_1_0, .int (1) u_ROUND_POLYNOMIALS_1_1, .int (1) u_ROUND_POLYNOMIALS_1_2] m_ROUND_POLYNOMIALS_1, sl_ROUND_POLYNOMIALS_1⟩)
    (e_ROUND_POLYNOMIALS_2 : K.lookup r_ROUND_POLYNOMIALS_2 = some ⟨.type "tuple", o_ROUND_POLYNOMIALS_2, .seq #[.int (1) u_ROUND_POLYNOMIALS_2_0, .int (0) u_ROUND_POLYNOMIALS_2_1, .int (1) u_ROUND_POLYNOMIALS_2_2] m_ROUND_POLYNOMIALS_2, sl_ROUND_POLYNOMIALS_2⟩)
    (e_ROUND_POLYNOMIALS_3 : K.lookup r_ROUND_POLYNOMIALS_3 = some ⟨.type "tuple", o_ROUND_POLYNOMIALS_3, .seq #[.int (1) u_ROUND_POLYNOMIALS_3_0, .int (1) u_ROUND_POLYNOMIALS_3_1, .int (1) u_ROUND_POLYNOMIALS_3_2, .int (1) u_ROUND_POLYNOMIALS_3_3, .int (1) u_ROUND_POLYNOMIALS_3_4] m_ROUND_POLYNOMIALS_3, sl_ROUND_POLYNOMIALS_3⟩)
    (e_ROUND_POLYNOMIALS_4 : K.lookup r_ROUND_POLYNOMIALS_4 = some ⟨.type "tuple", o_ROUND_POLYNOMIALS_4, .seq #[.int (1) u_ROUND_POLYNOMIALS_4_0, .int (-1) u_ROUND_POLYNOMIALS_4_1, .int (1) u_ROUND_POLYNOMIALS_4_2] m_ROUND_POLYNOMIALS_4, sl_ROUND_POLYNOMIALS_4⟩)
    (e_ROUND_POLYNOMIALS_5 : K.lookup r_ROUND_POLYNOMIALS_5 = some ⟨.type "tuple", o_ROUND_POLYNOMIALS_5, .seq #[.int (1) u_ROUND_POLYNOMIALS_5_0, .int (1) u_ROUND_POLYNOMIALS_5_1, .int (1) u_ROUND_POLYNOMIALS_5_2, .int (1) u_ROUND_POLYNOMIALS_5_3, .int (1) u_ROUND_POLYNOMIALS_5_4, .int (1) u_ROUND_POLYNOMIALS_5_5, .int (1) u_ROUND_POLYNOMIALS_5_6] m_ROUND_POLYNOMIALS_5, sl_ROUND_POLYNOMIALS_5⟩)
    (e_ROUND_POLYNOMIALS_6 : K.lookup r_ROUND_POLYNOMIALS_6 = some ⟨.type "tuple", o_ROUND_POLYNOMIALS_6, .seq #[.int (1) u_ROUND_POLYNOMIALS_6_0, .int (0) u_ROUND_POLYNOMIALS_6_1, .int (0) u_ROUND_POLYNOMIALS_6_2, .int (0) u_ROUND_POLYNOMIALS_6_3, .int (1) u_ROUND_POLYNOMIALS_6_4] m_ROUND_POLYNOMIALS_6, sl_ROUND_POLYNOMIALS_6⟩)
    (e_ROUND_POLYNOMIALS_7 : K.lookup r_ROUND_POLYNOMIALS_7 = some ⟨.type "tuple", o_ROUND_POLYNOMIALS_7, .seq #[.int (1) u_ROUND_POLYNOMIALS_7_0, .int (0) u_ROUND_POLYNOMIALS_7_1, .int (0) u_ROUND_POLYNOMIALS_7_2, .int (1) u_ROUND_POLYNOMIALS_7_3, .int (0) u_ROUND_POLYNOMIALS_7_4, .int (0) u_ROUND_POLYNOMIALS_7_5, .int (1) u_ROUND_POLYNOMIALS_7_6] m_ROUND_POLYNOMIALS_7, sl_ROUND_POLYNOMIALS_7⟩)
    (e_ROUND_POLYNOMIALS_8 : K.lookup r_ROUND_POLYNOMIALS_8 = some ⟨.type "tuple", o_ROUND_POLYNOMIALS_8, .seq #[.int (1) u_ROUND_POLYNOMIALS_8_0, .int (-1) u_ROUND_POLYNOMIALS_8_1, .int (1) u_ROUND_POLYNOMIALS_8_2, .int (-1) u_ROUND_POLYNOMIALS_8_3, .int (1) u_ROUND_POLYNOMIALS_8_4] m_ROUND_POLYNOMIALS_8, sl_ROUND_POLYNOMIALS_8⟩)
    (e_ROUND_POLYNOMIALS_9 : K.lookup r_ROUND_POLYNOMIALS_9 = some ⟨.type "tuple", o_ROUND_POLYNOMIALS_9, .seq #[.int (1) u_ROUND_POLYNOMIALS_9_0, .int (1) u_ROUND_POLYNOMIALS_9_1, .int (1) u_ROUND_POLYNOMIALS_9_2, .int (1) u_ROUND_POLYNOMIALS_9_3, .int (1) u_ROUND_POLYNOMIALS_9_4, .int (1) u_ROUND_POLYNOMIALS_9_5, .int (1) u_ROUND_POLYNOMIALS_9_6, .int (1) u_ROUND_POLYNOMIALS_9_7, .int (1) u_ROUND_POLYNOMIALS_9_8, .int (1) u_ROUND_POLYNOMIALS_9_9, .int (1) u_ROUND_POLYNOMIALS_9_10] m_ROUND_POLYNOMIALS_9, sl_ROUND_POLYNOMIALS_9⟩)
    (e_ROUND_POLYNOMIALS_10 : K.lookup r_ROUND_POLYNOMIALS_10 = some ⟨.type "tuple", o_ROUND_POLYNOMIALS_10, .seq #[.int (1) u_ROUND_POLYNOMIALS_10_0, .int (0) u_ROUND_POLYNOMIALS_10_1, .int (-1) u_ROUND_POLYNOMIALS_10_2, .int (0) u_ROUND_POLYNOMIALS_10_3, .int (1) u_ROUND_POLYNOMIALS_10_4] m_ROUND_POLYNOMIALS_10, sl_ROUND_POLYNOMIALS_10⟩) :
    ∃ fd : FuncData, (∀ (s : Shared) (v : Value), BindsTo s fd ⟨[v], []⟩ [("script", v)]) ∧ ∀ base : Heap, K.In base → base.Ns mainGlobals mg → FnG l.prog w K mg base CX0 11 fa fd ["script"] (spV K 1 fn_law) := by
  have e : f25 = fa := by have e := hfa.symm.trans (PySem.W.mg_of X G a25); cases e; rfl
  subst e
  let T : Txt K mg := {
    f_rest_by_round := f0,
    fd_rest_by_round := PySem.W.fnOf "rest_by_round" "rest_by_round" (defArgs s_rest_by_round) (defBody s_rest_by_round) (defScope s_rest_by_round) .none kV0 dc0 pm0 an0 cd0 ct0,
    F_rest_by_round := (fun_mk (st := s_rest_by_round) l0 c0 k0),
    b_rest_by_round := (fun_mk (st := s_rest_by_round) l0 c0 k0).binds (ps := p_rest_by_round) fun _ _ _ _ _ _ us hl => match us, hl with | [_, _], _ => rfl,
    m_rest_by_round := PySem.W.mg_of X G a0,
    f_is_whole_from := f1,
    fd_is_whole_from := PySem.W.fnOf "is_whole_from" "is_whole_from" (defArgs s_is_whole_from) (defBody s_is_whole_from) (defScope s_is_whole_from) .none kV1 dc1 pm1 an1 cd1 ct1,
    F_is_whole_from := (fun_mk (st := s_is_whole_from) l1 c1 k1),
    b_is_whole_from := (fun_mk (st := s_is_whole_from) l1 c1 k1).binds (ps := p_is_whole_from) fun _ _ _ _ _ _ us hl => match us, hl with | [_, _, _], _ => rfl,
    m_is_whole_from := PySem.W.mg_of X G a1,
    f_is_size := f2,
    fd_is_size := PySem.W.fnOf "is_size" "is_size" (defArgs s_is_size) (defBody s_is_size) (defScope s_is_size) .none kV2 dc2 pm2 an2 cd2 ct2,
    F_is_size := (fun_mk (st := s_is_size) l2 c2 k2),
    b_is_size := (fun_mk (st := s_is_size) l2 c2 k2).binds (ps := p_is_size) fun _ _ _ _ _ _ us hl => match us, hl with | [_], _ => rfl,
    m_is_size := PySem.W.mg_of X G a2,
    f_check_size := f3,
    fd_check_size := PySem.W.fnOf "check_size" "check_size" (defArgs s_check_size) (defBody s_check_size) (defScope s_check_size) .none kV3 dc3 pm3 an3 cd3 ct3,
    F_check_size := (fun_mk (st := s_check_size) l3 c3 k3),
    b_check_size := (fun_mk (st := s_check_size) l3 c3 k3).binds (ps := p_check_size) fun _ _ _ _ _ _ us hl => match us, hl with | [_], _ => rfl,
    m_check_size := PySem.W.mg_of X G a3,
    f_divisors_of := f4,
    fd_divisors_of := PySem.W.fnOf "divisors_of" "divisors_of" (defArgs s_divisors_of) (defBody s_divisors_of) (defScope s_divisors_of) .none kV4 dc4 pm4 an4 cd4 ct4,
    F_divisors_of := (fun_mk (st := s_divisors_of) l4 c4 k4),
    b_divisors_of := (fun_mk (st := s_divisors_of) l4 c4 k4).binds (ps := p_divisors_of) fun _ _ _ _ _ _ us hl => match us, hl with | [_], _ => rfl,
    m_divisors_of := PySem.W.mg_of X G a4,
    f_prime_of := f5,
    fd_prime_of := PySem.W.fnOf "prime_of" "prime_of" (defArgs s_prime_of) (defBody s_prime_of) (defScope s_prime_of) .none kV5 dc5 pm5 an5 cd5 ct5,
    F_prime_of := (fun_mk (st := s_prime_of) l5 c5 k5),
    b_prime_of := (fun_mk (st := s_prime_of) l5 c5 k5).binds (ps := p_prime_of) fun _ _ _ _ _ _ us hl => match us, hl with | [_], _ => rfl,
    m_prime_of := PySem.W.mg_of X G a5,
    f_is_lot := f6,
    fd_is_lot := PySem.W.fnOf "is_lot" "is_lot" (defArgs s_is_lot) (defBody s_is_lot) (defScope s_is_lot) .none kV6 dc6 pm6 an6 cd6 ct6,
    F_is_lot := (fun_mk (st := s_is_lot) l6 c6 k6),
    b_is_lot := (fun_mk (st := s_is_lot) l6 c6 k6).binds (ps := p_is_lot) fun _ _ _ _ _ _ us hl => match us, hl with | [_, _], _ => rfl,
    m_is_lot := PySem.W.mg_of X G a6,
    f_check_full_lot := f7,
    fd_check_full_lot := PySem.W.fnOf "check_full_lot" "check_full_lot" (defArgs s_check_full_lot) (defBody s_check_full_lot) (defScope s_check_full_lot) .none kV7 dc7 pm7 an7 cd7 ct7,
    F_check_full_lot := (fun_mk (st := s_check_full_lot) l7 c7 k7),
    b_check_full_lot := (fun_mk (st := s_check_full_lot) l7 c7 k7).binds (ps := p_check_full_lot) fun _ _ _ _ _ _ us hl => match us, hl with | [_, _], _ => rfl,
    m_check_full_lot := PySem.W.mg_of X G a7,
    f_is_zero_step := f8,
    fd_is_zero_step := PySem.W.fnOf "is_zero_step" "is_zero_step" (defArgs s_is_zero_step) (defBody s_is_zero_step) (defScope s_is_zero_step) .none kV8 dc8 pm8 an8 cd8 ct8,
    F_is_zero_step := (fun_mk (st := s_is_zero_step) l8 c8 k8),
    b_is_zero_step := (fun_mk (st := s_is_zero_step) l8 c8 k8).binds (ps := p_is_zero_step) fun _ _ _ _ _ _ us hl => match us, hl with | [_, _, _], _ => rfl,
    m_is_zero_step := PySem.W.mg_of X G a8,
    f_zero_steps := f9,
    fd_zero_steps := PySem.W.fnOf "zero_steps" "zero_steps" (defArgs s_zero_steps) (defBody s_zero_steps) (defScope s_zero_steps) .none kV9 dc9 pm9 an9 cd9 ct9,
    F_zero_steps := (fun_mk (st := s_zero_steps) l9 c9 k9),
    b_zero_steps := (fun_mk (st := s_zero_steps) l9 c9 k9).binds (ps := p_zero_steps) fun _ _ _ _ _ _ us hl => match us, hl with | [_, _], _ => rfl,
    m_zero_steps := PySem.W.mg_of X G a9,
    f_parts_in := f10,
    fd_parts_in := PySem.W.fnOf "parts_in" "parts_in" (defArgs s_parts_in) (defBody s_parts_in) (defScope s_parts_in) .none kV10 dc10 pm10 an10 cd10 ct10,
    F_parts_in := (fun_mk (st := s_parts_in) l10 c10 k10),
    b_parts_in := (fun_mk (st := s_parts_in) l10 c10 k10).binds (ps := p_parts_in) fun _ _ _ _ _ _ us hl => match us, hl with | [_, _], _ => rfl,
    m_parts_in := PySem.W.mg_of X G a10,
    q_parts_in := fun s ws hl => match ws, hl with | [_, _], _ => .of_eq rfl,
    f_has_first_sign := f11,
    fd_has_first_sign := PySem.W.fnOf "has_first_sign" "has_first_sign" (defArgs s_has_first_sign) (defBody s_has_first_sign) (defScope s_has_first_sign) .none kV11 dc11 pm11 an11 cd11 ct11,
    F_has_first_sign := (fun_mk (st := s_has_first_sign) l11 c11 k11),
    b_has_first_sign := (fun_mk (st := s_has_first_sign) l11 c11 k11).binds (ps := p_has_first_sign) fun _ _ _ _ _ _ us hl => match us, hl with | [_, _], _ => rfl,
    m_has_first_sign := PySem.W.mg_of X G a11,
    f_has_second_sign := f12,
    fd_has_second_sign := PySem.W.fnOf "has_second_sign" "has_second_sign" (defArgs s_has_second_sign) (defBody s_has_second_sign) (defScope s_has_second_sign) .none kV12 dc12 pm12 an12 cd12 ct12,
    F_has_second_sign := (fun_mk (st := s_has_second_sign) l12 c12 k12),
    b_has_second_sign := (fun_mk (st := s_has_second_sign) l12 c12 k12).binds (ps := p_has_second_sign) fun _ _ _ _ _ _ us hl => match us, hl with | [_, _], _ => rfl,
    m_has_second_sign := PySem.W.mg_of X G a12,
    f__law_spring := f13,
    fd__law_spring := PySem.W.fnOf "_law_spring" "_law_spring" (defArgs s__law_spring) (defBody s__law_spring) (defScope s__law_spring) .none kV13 dc13 pm13 an13 cd13 ct13,
    F__law_spring := (fun_mk (st := s__law_spring) l13 c13 k13),
    b__law_spring := (fun_mk (st := s__law_spring) l13 c13 k13).binds (ps := p__law_spring) fun _ _ _ _ _ _ us hl => match us, hl with | [_, _], _ => rfl,
    m__law_spring := PySem.W.mg_of X G a13,
    f__law_draw := f14,
    fd__law_draw := PySem.W.fnOf "_law_draw" "_law_draw" (defArgs s__law_draw) (defBody s__law_draw) (defScope s__law_draw) .none kV14 dc14 pm14 an14 cd14 ct14,
    F__law_draw := (fun_mk (st := s__law_draw) l14 c14 k14),
    b__law_draw := (fun_mk (st := s__law_draw) l14 c14 k14).binds (ps := p__law_draw) fun _ _ _ _ _ _ us hl => match us, hl with | [_, _], _ => rfl,
    m__law_draw := PySem.W.mg_of X G a14,
    f__law_one := f15,
    fd__law_one := PySem.W.fnOf "_law_one" "_law_one" (defArgs s__law_one) (defBody s__law_one) (defScope s__law_one) .none kV15 dc15 pm15 an15 cd15 ct15,
    F__law_one := (fun_mk (st := s__law_one) l15 c15 k15),
    b__law_one := (fun_mk (st := s__law_one) l15 c15 k15).binds (ps := p__law_one) fun _ _ _ _ _ _ us hl => match us, hl with | [_, _], _ => rfl,
    m__law_one := PySem.W.mg_of X G a15,
    f__law_shared := f16,
    fd__law_shared := PySem.W.fnOf "_law_shared" "_law_shared" (defArgs s__law_shared) (defBody s__law_shared) (defScope s__law_shared) .none kV16 dc16 pm16 an16 cd16 ct16,
    F__law_shared := (fun_mk (st := s__law_shared) l16 c16 k16),
    b__law_shared := (fun_mk (st := s__law_shared) l16 c16 k16).binds (ps := p__law_shared) fun _ _ _ _ _ _ us hl => match us, hl with | [_, _], _ => rfl,
    m__law_shared := PySem.W.mg_of X G a16,
    f__law_base := f17,
    fd__law_base := PySem.W.fnOf "_law_base" "_law_base" (defArgs s__law_base) (defBody s__law_base) (defScope s__law_base) .none kV17 dc17 pm17 an17 cd17 ct17,
    F__law_base := (fun_mk (st := s__law_base) l17 c17 k17),
    b__law_base := (fun_mk (st := s__law_base) l17 c17 k17).binds (ps := p__law_base) fun _ _ _ _ _ _ us hl => match us, hl with | [_], _ => rfl,
    m__law_base := PySem.W.mg_of X G a17,
    f__law_rest := f18,
    fd__law_rest := PySem.W.fnOf "_law_rest" "_law_rest" (defArgs s__law_rest) (defBody s__law_rest) (defScope s__law_rest) .none kV18 dc18 pm18 an18 cd18 ct18,
    F__law_rest := (fun_mk (st := s__law_rest) l18 c18 k18),
    b__law_rest := (fun_mk (st := s__law_rest) l18 c18 k18).binds (ps := p__law_rest) fun _ _ _ _ _ _ us hl => match us, hl with | [_, _], _ => rfl,
    m__law_rest := PySem.W.mg_of X G a18,
    f__law_is := f19,
    fd__law_is := PySem.W.fnOf "_law_is" "_law_is" (defArgs s__law_is) (defBody s__law_is) (defScope s__law_is) .none kV19 dc19 pm19 an19 cd19 ct19,
    F__law_is := (fun_mk (st := s__law_is) l19 c19 k19),
    b__law_is := (fun_mk (st := s__law_is) l19 c19 k19).binds (ps := p__law_is) fun _ _ _ _ _ _ us hl => match us, hl with | [_, _], _ => rfl,
    m__law_is := PySem.W.mg_of X G a19,
    f__law_lot := f20,
    fd__law_lot := PySem.W.fnOf "_law_lot" "_law_lot" (defArgs s__law_lot) (defBody s__law_lot) (defScope s__law_lot) .none kV20 dc20 pm20 an20 cd20 ct20,
    F__law_lot := (fun_mk (st := s__law_lot) l20 c20 k20),
    b__law_lot := (fun_mk (st := s__law_lot) l20 c20 k20).binds (ps := p__law_lot) fun _ _ _ _ _ _ us hl => match us, hl with | [_, _], _ => rfl,
    m__law_lot := PySem.W.mg_of X G a20,
    f__law_led := f21,
    fd__law_led := PySem.W.fnOf "_law_led" "_law_led" (defArgs s__law_led) (defBody s__law_led) (defScope s__law_led) .none kV21 dc21 pm21 an21 cd21 ct21,
    F__law_led := (fun_mk (st := s__law_led) l21 c21 k21),
    b__law_led := (fun_mk (st := s__law_led) l21 c21 k21).binds (ps := p__law_led) fun _ _ _ _ _ _ us hl => match us, hl with | [_, _, _, _], _ => rfl,
    m__law_led := PySem.W.mg_of X G a21,
    f__law_own := f22,
    fd__law_own := PySem.W.fnOf "_law_own" "_law_own" (defArgs s__law_own) (defBody s__law_own) (defScope s__law_own) .none kV22 dc22 pm22 an22 cd22 ct22,
    F__law_own := (fun_mk (st := s__law_own) l22 c22 k22),
    b__law_own := (fun_mk (st := s__law_own) l22 c22 k22).binds (ps := p__law_own) fun _ _ _ _ _ _ us hl => match us, hl with | [_, _], _ => rfl,
    m__law_own := PySem.W.mg_of X G a22,
    f__law_told := f23,
    fd__law_told := PySem.W.fnOf "_law_told" "_law_told" (defArgs s__law_told) (defBody s__law_told) (defScope s__law_told) .none kV23 dc23 pm23 an23 cd23 ct23,
    F__law_told := (fun_mk (st := s__law_told) l23 c23 k23),
    b__law_told := (fun_mk (st := s__law_told) l23 c23 k23).binds (ps := p__law_told) fun _ _ _ _ _ _ us hl => match us, hl with | [_, _, _], _ => rfl,
    m__law_told := PySem.W.mg_of X G a23,
    f__law_right := f24,
    fd__law_right := PySem.W.fnOf "_law_right" "_law_right" (defArgs s__law_right) (defBody s__law_right) (defScope s__law_right) .none kV24 dc24 pm24 an24 cd24 ct24,
    F__law_right := (fun_mk (st := s__law_right) l24 c24 k24),
    b__law_right := (fun_mk (st := s__law_right) l24 c24 k24).binds (ps := p__law_right) fun _ _ _ _ _ _ us hl => match us, hl with | [_], _ => rfl,
    m__law_right := PySem.W.mg_of X G a24,
    f_law := f25,
    fd_law := PySem.W.fnOf "law" "law" (defArgs s_law) (defBody s_law) (defScope s_law) .none kV25 dc25 pm25 an25 cd25 ct25,
    F_law := (fun_mk (st := s_law) l25 c25 k25),
    b_law := (fun_mk (st := s_law) l25 c25 k25).binds (ps := p_law) fun _ _ _ _ _ _ us hl => match us, hl with | [_], _ => rfl,
    m_law := PySem.W.mg_of X G a25,
    z_abs := PySem.W.mg_none_of X G z_abs,
    z_all := PySem.W.mg_none_of X G z_all,
    z_any := PySem.W.mg_none_of X G z_any,
    z_divmod := PySem.W.mg_none_of X G z_divmod,
    z_enumerate := PySem.W.mg_none_of X G z_enumerate,
    z_int := PySem.W.mg_none_of X G z_int,
    z_len := PySem.W.mg_none_of X G z_len,
    z_list := PySem.W.mg_none_of X G z_list,
    z_max := PySem.W.mg_none_of X G z_max,
    z_min := PySem.W.mg_none_of X G z_min,
    z_range := PySem.W.mg_none_of X G z_range,
    z_repr := PySem.W.mg_none_of X G z_repr,
    z_sorted := PySem.W.mg_none_of X G z_sorted,
    z_tuple := PySem.W.mg_none_of X G z_tuple,
    z_type := PySem.W.mg_none_of X G z_type,
    z_zip := PySem.W.mg_none_of X G z_zip,
    c_GREATEST_SIZE := ⟨tk_GREATEST_SIZE, PySem.W.mg_of X G c_GREATEST_SIZE⟩,
    c_LEAST_SIZE := ⟨tk_LEAST_SIZE, PySem.W.mg_of X G c_LEAST_SIZE⟩,
    g_ROUND_POLYNOMIALS := g_ROUND_POLYNOMIALS,
    v_ROUND_POLYNOMIALS := [(2, .ref r_ROUND_POLYNOMIALS_0), (3, .ref r_ROUND_POLYNOMIALS_1), (4, .ref r_ROUND_POLYNOMIALS_2), (5, .ref r_ROUND_POLYNOMIALS_3), (6, .ref r_ROUND_POLYNOMIALS_4), (7, .ref r_ROUND_POLYNOMIALS_5), (8, .ref r_ROUND_POLYNOMIALS_6), (9, .ref r_ROUND_POLYNOMIALS_7), (10, .ref r_ROUND_POLYNOMIALS_8), (11, .ref r_ROUND_POLYNOMIALS_9), (12, .ref r_ROUND_POLYNOMIALS_10)],
    k_ROUND_POLYNOMIALS := ⟨⟨_, _, [(2, t_ROUND_POLYNOMIALS_0, .ref r_ROUND_POLYNOMIALS_0), (3, t_ROUND_POLYNOMIALS_1, .ref r_ROUND_POLYNOMIALS_1), (4, t_ROUND_POLYNOMIALS_2, .ref r_ROUND_POLYNOMIALS_2), (5, t_ROUND_POLYNOMIALS_3, .ref r_ROUND_POLYNOMIALS_3), (6, t_ROUND_POLYNOMIALS_4, .ref r_ROUND_POLYNOMIALS_4), (7, t_ROUND_POLYNOMIALS_5, .ref r_ROUND_POLYNOMIALS_5), (8, t_ROUND_POLYNOMIALS_6, .ref r_ROUND_POLYNOMIALS_6), (9, t_ROUND_POLYNOMIALS_7, .ref r_ROUND_POLYNOMIALS_7), (10, t_ROUND_POLYNOMIALS_8, .ref r_ROUND_POLYNOMIALS_8), (11, t_ROUND_POLYNOMIALS_9, .ref r_ROUND_POLYNOMIALS_9), (12, t_ROUND_POLYNOMIALS_10, .ref r_ROUND_POLYNOMIALS_10)], d_ROUND_POLYNOMIALS, rfl, (.cons ⟨rfl, rfl⟩ (.cons ⟨rfl, rfl⟩ (.cons ⟨rfl, rfl⟩ (.cons ⟨rfl, rfl⟩ (.cons ⟨rfl, rfl⟩ (.cons ⟨rfl, rfl⟩ (.cons ⟨rfl, rfl⟩ (.cons ⟨rfl, rfl⟩ (.cons ⟨rfl, rfl⟩ (.cons ⟨rfl, rfl⟩ (.cons ⟨rfl, rfl⟩ .nil))))))))))), (show ([2, 3, 4, 5, 6, 7, 8, 9, 10, 11, 12] : List Int).Nodup by decide)⟩⟩,
    d_ROUND_POLYNOMIALS := lk_pairs (ds := kd_ROUND_POLYNOMIALS) (.cons ⟨rfl, at_tup (vs := [V.int (1), V.int (1)]) e_ROUND_POLYNOMIALS_0 (.cons ⟨_, rfl⟩ (.cons ⟨_, rfl⟩ .nil)) (show 2 ≤ sizeLine by decide) (fun M => (.cons (.int (1)) (.cons (.int (1)) .nil)))⟩ (.cons ⟨rfl, at_tup (vs := [V.int (1), V.int (1), V.int (1)]) e_ROUND_POLYNOMIALS_1 (.cons ⟨_, rfl⟩ (.cons ⟨_, rfl⟩ (.cons ⟨_, rfl⟩ .nil))) (show 3 ≤ sizeLine by decide) (fun M => (.cons (.int (1)) (.cons (.int (1)) (.cons (.int (1)) .nil))))⟩ (.cons ⟨rfl, at_tup (vs := [V.int (1), V.int (0), V.int (1)]) e_ROUND_POLYNOMIALS_2 (.cons ⟨_, rfl⟩ (.cons ⟨_, rfl⟩ (.cons ⟨_, rfl⟩ .nil))) (show 3 ≤ sizeLine by decide) (fun M => (.cons (.int (1)) (.cons (.int (0)) (.cons (.int (1)) .nil))))⟩ (.cons ⟨rfl, at_tup (vs := [V.int (1), V.int (1), V.int (1), V.int (1), V.int (1)]) e_ROUND_POLYNOMIALS_3 (.cons ⟨_, rfl⟩ (.cons ⟨_, rfl⟩ (.cons ⟨_, rfl⟩ (.cons ⟨_, rfl⟩ (.cons ⟨_, rfl⟩ .nil))))) (show 5 ≤ sizeLine by decide) (fun M => (.cons (.int (1)) (.cons (.int (1)) (.cons (.int (1)) (.cons (.int (1)) (.cons (.int (1)) .nil))))))⟩ (.cons ⟨rfl, at_tup (vs := [V.int (1), V.int (-1), V.int (1)]) e_ROUND_POLYNOMIALS_4 (.cons ⟨_, rfl⟩ (.cons ⟨_, rfl⟩ (.cons ⟨_, rfl⟩ .nil))) (show 3 ≤ sizeLine by decide) (fun M => (.cons (.int (1)) (.cons (.int (-1)) (.cons (.int (1)) .nil))))⟩ (.cons ⟨rfl, at_tup (vs := [V.int (1), V.int (1), V.int (1), V.int (1), V.int (1), V.int (1), V.int (1)]) e_ROUND_POLYNOMIALS_5 (.cons ⟨_, rfl⟩ (.cons ⟨_, rfl⟩ (.cons ⟨_, rfl⟩ (.cons ⟨_, rfl⟩ (.cons ⟨_, rfl⟩ (.cons ⟨_, rfl⟩ (.cons ⟨_, rfl⟩ .nil))))))) (show 7 ≤ sizeLine by decide) (fun M => (.cons (.int (1)) (.cons (.int (1)) (.cons (.int (1)) (.cons (.int (1)) (.cons (.int (1)) (.cons (.int (1)) (.cons (.int (1)) .nil))))))))⟩ (.cons ⟨rfl, at_tup (vs := [V.int (1), V.int (0), V.int (0), V.int (0), V.int (1)]) e_ROUND_POLYNOMIALS_6 (.cons ⟨_, rfl⟩ (.cons ⟨_, rfl⟩ (.cons ⟨_, rfl⟩ (.cons ⟨_, rfl⟩ (.cons ⟨_, rfl⟩ .nil))))) (show 5 ≤ sizeLine by decide) (fun M => (.cons (.int (1)) (.cons (.int (0)) (.cons (.int (0)) (.cons (.int (0)) (.cons (.int (1)) .nil))))))⟩ (.cons ⟨rfl, at_tup (vs := [V.int (1), V.int (0), V.int (0), V.int (1), V.int (0), V.int (0), V.int (1)]) e_ROUND_POLYNOMIALS_7 (.cons ⟨_, rfl⟩ (.cons ⟨_, rfl⟩ (.cons ⟨_, rfl⟩ (.cons ⟨_, rfl⟩ (.cons ⟨_, rfl⟩ (.cons ⟨_, rfl⟩ (.cons ⟨_, rfl⟩ .nil))))))) (show 7 ≤ sizeLine by decide) (fun M => (.cons (.int (1)) (.cons (.int (0)) (.cons (.int (0)) (.cons (.int (1)) (.cons (.int (0)) (.cons (.int (0)) (.cons (.int (1)) .nil))))))))⟩ (.cons ⟨rfl, at_tup (vs := [V.int (1), V.int (-1), V.int (1), V.int (-1), V.int (1)]) e_ROUND_POLYNOMIALS_8 (.cons ⟨_, rfl⟩ (.cons ⟨_, rfl⟩ (.cons ⟨_, rfl⟩ (.cons ⟨_, rfl⟩ (.cons ⟨_, rfl⟩ .nil))))) (show 5 ≤ sizeLine by decide) (fun M => (.cons (.int (1)) (.cons (.int (-1)) (.cons (.int (1)) (.cons (.int (-1)) (.cons (.int (1)) .nil))))))⟩ (.cons ⟨rfl, at_tup (vs := [V.int (1), V.int (1), V.int (1), V.int (1), V.int (1), V.int (1), V.int (1), V.int (1), V.int (1), V.int (1), V.int (1)]) e_ROUND_POLYNOMIALS_9 (.cons ⟨_, rfl⟩ (.cons ⟨_, rfl⟩ (.cons ⟨_, rfl⟩ (.cons ⟨_, rfl⟩ (.cons ⟨_, rfl⟩ (.cons ⟨_, rfl⟩ (.cons ⟨_, rfl⟩ (.cons ⟨_, rfl⟩ (.cons ⟨_, rfl⟩ (.cons ⟨_, rfl⟩ (.cons ⟨_, rfl⟩ .nil))))))))))) (show 11 ≤ sizeLine by decide) (fun M => (.cons (.int (1)) (.cons (.int (1)) (.cons (.int (1)) (.cons (.int (1)) (.cons (.int (1)) (.cons (.int (1)) (.cons (.int (1)) (.cons (.int (1)) (.cons (.int (1)) (.cons (.int (1)) (.cons (.int (1)) .nil))))))))))))⟩ (.cons ⟨rfl, at_tup (vs := [V.int (1), V.int (0), V.int (-1), V.int (0), V.int (1)]) e_ROUND_POLYNOMIALS_10 (.cons ⟨_, rfl⟩ (.cons ⟨_, rfl⟩ (.cons ⟨_, rfl⟩ (.cons ⟨_, rfl⟩ (.cons ⟨_, rfl⟩ .nil))))) (show 5 ≤ sizeLine by decide) (fun M => (.cons (.int (1)) (.cons (.int (0)) (.cons (.int (-1)) (.cons (.int (0)) (.cons (.int (1)) .nil))))))⟩ .nil))))))))))),
    m_ROUND_POLYNOMIALS := PySem.W.mg_of X G m_ROUND_POLYNOMIALS }
  exact ⟨T.fd_law, fun s v => .of_eq rfl, fun base _ _ => ok_law T⟩
end K41
open PyProof.Rows PySem.W PySem
set_option maxHeartbeats 0 in
theorem PySem.Challenge.cw_wavespots_k41_whole_parts_by_own_divisio_holds : PySem.Challenge.rw_wavespots_k41_whole_parts_by_own_divisio.Holds := by
  w_on
  o_law
  k_head
  case hw => w_witness2
  k_fill
  refine Dm.walk_G (l := PySem.Challenge.rw_wavespots_k41_whole_parts_by_own_divisio) (n := 63) (k := 11) (x := "script") rfl (by decide) rfl ⟨rfl, by decide, by decide⟩ (fun w h Y => PySem.W.kIn_of Y) ?F (fun ns _ => K41.law_ok ns)
  case F =>
    intro w mg fa h KX G hmg
    refine' K41.all_mk KX G hmg ?a0 ?l0 ?c0 ?k0 ?a1 ?l1 ?c1 ?k1 ?a2 ?l2 ?c2 ?k2 ?a3 ?l3 ?c3 ?k3 ?a4 ?l4 ?c4 ?k4 ?a5 ?l5 ?c5 ?k5 ?a6 ?l6 ?c6 ?k6 ?a7 ?l7 ?c7 ?k7 ?a8 ?l8 ?c8 ?k8 ?a9 ?l9 ?c9 ?k9 ?a10 ?l10 ?c10 ?k10 ?a11 ?l11 ?c11 ?k11 ?a12 ?l12 ?c12 ?k12 ?a13 ?l13 ?c13 ?k13 ?a14 ?l14 ?c14 ?k14 ?a15 ?l15 ?c15 ?k15 ?a16 ?l16 ?c16 ?k16 ?a17 ?l17 ?c17 ?k17 ?a18 ?l18 ?c18 ?k18 ?a19 ?l19 ?c19 ?k19 ?a20 ?l20 ?c20 ?k20 ?a21 ?l21 ?c21 ?k21 ?a22 ?l22 ?c22 ?k22 ?a23 ?l23 ?c23 ?k23 ?a24 ?l24 ?c24 ?k24 ?a25 ?l25 ?c25 ?k25 ?z_abs ?z_all ?z_any ?z_divmod ?z_enumerate ?z_int ?z_len ?z_list ?z_max ?z_min ?z_range ?z_repr ?z_sorted ?z_tuple ?z_type ?z_zip ?c_GREATEST_SIZE ?c_LEAST_SIZE ?m_ROUND_POLYNOMIALS ?d_ROUND_POLYNOMIALS ?e_ROUND_POLYNOMIALS_0 ?e_ROUND_POLYNOMIALS_1 ?e_ROUND_POLYNOMIALS_2 ?e_ROUND_POLYNOMIALS_3 ?e_ROUND_POLYNOMIALS_4 ?e_ROUND_POLYNOMIALS_5 ?e_ROUND_POLYNOMIALS_6 ?e_ROUND_POLYNOMIALS_7 ?e_ROUND_POLYNOMIALS_8 ?e_ROUND_POLYNOMIALS_9 ?e_ROUND_POLYNOMIALS_10
    (case a0 => k_is)
    (case l0 => k_is)
    (case c0 => k_is)
    (case k0 => k_is)
    (case a1 => k_is)
    (case l1 => k_is)
    (case c1 => k_is)
    (case k1 => k_is)
    (case a2 => k_is)
    (case l2 => k_is)
    (case c2 => k_is)
    (case k2 => k_is)
    (case a3 => k_is)
    (case l3 => k_is)
    (case c3 => k_is)
    (case k3 => k_is)
    (case a4 => k_is)
    (case l4 => k_is)
    (case c4 => k_is)
    (case k4 => k_is)
    (case a5 => k_is)
    (case l5 => k_is)
    (case c5 => k_is)
    (case k5 => k_is)
    (case a6 => k_is)
    (case l6 => k_is)
    (case c6 => k_is)
    (case k6 => k_is)
    (case a7 => k_is)
    (case l7 => k_is)
    (case c7 => k_is)
    (case k7 => k_is)
    (case a8 => k_is)
    (case l8 => k_is)
    (case c8 => k_is)
    (case k8 => k_is)
    (case a9 => k_is)
    (case l9 => k_is)
    (case c9 => k_is)
    (case k9 => k_is)
    (case a10 => k_is)
    (case l10 => k_is)
    (case c10 => k_is)
    (case k10 => k_is)
    (case a11 => k_is)
    (case l11 => k_is)
    (case c11 => k_is)
    (case k11 => k_is)
    (case a12 => k_is)
    (case l12 => k_is)
    (case c12 => k_is)
    (case k12 => k_is)
    (case a13 => k_is)
    (case l13 => k_is)
    (case c13 => k_is)
    (case k13 => k_is)
    (case a14 => k_is)
    (case l14 => k_is)
    (case c14 => k_is)
    (case k14 => k_is)
    (case a15 => k_is)
    (case l15 => k_is)
    (case c15 => k_is)
    (case k15 => k_is)
    (case a16 => k_is)
    (case l16 => k_is)
    (case c16 => k_is)
    (case k16 => k_is)
    (case a17 => k_is)
    (case l17 => k_is)
    (case c17 => k_is)
    (case k17 => k_is)
    (case a18 => k_is)
    (case l18 => k_is)
    (case c18 => k_is)
    (case k18 => k_is)
    (case a19 => k_is)
    (case l19 => k_is)
    (case c19 => k_is)
    (case k19 => k_is)
    (case a20 => k_is)
    (case l20 => k_is)
    (case c20 => k_is)
    (case k20 => k_is)
    (case a21 => k_is)
    (case l21 => k_is)
    (case c21 => k_is)
    (case k21 => k_is)
    (case a22 => k_is)
    (case l22 => k_is)
    (case c22 => k_is)
    (case k22 => k_is)
    (case a23 => k_is)
    (case l23 => k_is)
    (case c23 => k_is)
    (case k23 => k_is)
    (case a24 => k_is)
    (case l24 => k_is)
    (case c24 => k_is)
    (case k24 => k_is)
    (case a25 => k_is)
    (case l25 => k_is)
    (case c25 => k_is)
    (case k25 => k_is)
    (case z_abs => k_is)
    (case z_all => k_is)
    (case z_any => k_is)
    (case z_divmod => k_is)
    (case z_enumerate => k_is)
    (case z_int => k_is)
    (case z_len => k_is)
    (case z_list => k_is)
    (case z_max => k_is)
    (case z_min => k_is)
    (case z_range => k_is)
    (case z_repr => k_is)
    (case z_sorted => k_is)
    (case z_tuple => k_is)
    (case z_type => k_is)
    (case z_zip => k_is)
    (case c_GREATEST_SIZE => k_is)
    (case c_LEAST_SIZE => k_is)
    (case m_ROUND_POLYNOMIALS => k_is)
    (case d_ROUND_POLYNOMIALS => k_is)
    (case e_ROUND_POLYNOMIALS_0 => k_is)
    (case e_ROUND_POLYNOMIALS_1 => k_is)
    (case e_ROUND_POLYNOMIALS_2 => k_is)
    (case e_ROUND_POLYNOMIALS_3 => k_is)
    (case e_ROUND_POLYNOMIALS_4 => k_is)
    (case e_ROUND_POLYNOMIALS_5 => k_is)
    (case e_ROUND_POLYNOMIALS_6 => k_is)
    (case e_ROUND_POLYNOMIALS_7 => k_is)
    (case e_ROUND_POLYNOMIALS_8 => k_is)
    (case e_ROUND_POLYNOMIALS_9 => k_is)
    (case e_ROUND_POLYNOMIALS_10 => k_is)
