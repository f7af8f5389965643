import PyProof.Rows.All
import Wide.All
import OpenK.AllK
import Wide.FinOn
import HandS.ForMost
import HandS.SortInts
import HandS.WideBits
import HandS.Conv
import HandS.Zip
import HandS.TupAny
import HandS.TupMul
import HandS.More
import HandS.Dict
import HandS.Style
import HandS.Gcd
import HandS.Wide
import KE.KMathGC
import PyProof.Rows.EnumMeets
import PyProof.ListNew
import KE.KDictZip
import HandS.Rev
import PySem.Challenge.RW_wavespots_k08_whole_moved_and_turned
set_option Elab.async false
set_option linter.all false
set_option maxRecDepth 100000
set_option maxHeartbeats 4000000
/-! Dm: values of a program as plain data; what an expression, a statement, a def gives as a function of plain data. -/
namespace Dm
open PySem PySem.Spec L2
set_option autoImplicit false

/-- plain data: what a value is, deep -/
inductive D where
  | non | bl (b : Bool) | int (i : Int) | str (x : Str) | tup (xs : List D) | lst (xs : List D) | dic (ks : List Key) (vs : List D)
  deriving Inhabited

mutual
inductive At (K : PySem.W.Frag) (H : Hp) : V → D → Prop
  | non : At K H .non .non
  | bl (b : Bool) : At K H (.bl b) (.bl b)
  | int (i : Int) : At K H (.int i) (.int i)
  | str (x : Str) : At K H (.str x) (.str x)
  | lst {a : Addr} {xs : List V} {ds : List D} : SqL K H a xs → Ats K H xs ds → At K H (.ref a) (.lst ds)
  | tup {a : Addr} {xs : List V} {ds : List D} : SqT K H a xs → Ats K H xs ds → At K H (.ref a) (.tup ds)
  | dic {a : Addr} {kvs : List (Key × V)} {ds : List D} : Rd H a (.dK kvs) → Ats K H (kvs.map (·.2)) ds → At K H (.ref a) (.dic (kvs.map (·.1)) ds)
inductive Ats (K : PySem.W.Frag) (H : Hp) : List V → List D → Prop
  | nil : Ats K H [] []
  | cons {v : V} {vs : List V} {d : D} {ds : List D} : At K H v d → Ats K H vs ds → Ats K H (v :: vs) (d :: ds)
end

/-- all that M tells, H tells -/
def Le (M H : Hp) : Prop := ∀ a o, M a = some o → H a = some o
theorem Le.refl (H : Hp) : Le H H := fun _ _ h => h
theorem Le.trans {A B C : Hp} (x : Le A B) (y : Le B C) : Le A C := fun a o h => y a o (x a o h)
theorem Le.rd {M H : Hp} (e : Le M H) {a : Addr} {u : HO} (h : Rd M a u) : Rd H a u := by
  rcases h with h | ⟨o, h⟩
  · exact .inl (e a _ h)
  · exact .inr ⟨o, e a _ h⟩
theorem Le.sqL {K : PySem.W.Frag} {M H : Hp} (e : Le M H) {a : Addr} {xs : List V} (h : SqL K M a xs) : SqL K H a xs := by
  rcases h with h | h
  · exact .inl (e.rd h)
  · exact .inr h
theorem Le.sqT {K : PySem.W.Frag} {M H : Hp} (e : Le M H) {a : Addr} {xs : List V} (h : SqT K M a xs) : SqT K H a xs := by
  rcases h with h | h
  · exact .inl (e.rd h)
  · exact .inr h
mutual
theorem At.mono {K : PySem.W.Frag} {M H : Hp} (e : Le M H) : ∀ {v : V} {d : D}, At K M v d → At K H v d
  | _, _, .non => .non
  | _, _, .bl b => .bl b
  | _, _, .int i => .int i
  | _, _, .str x => .str x
  | _, _, .lst h q => .lst (e.sqL h) (Ats.mono e q)
  | _, _, .tup h q => .tup (e.sqT h) (Ats.mono e q)
  | _, _, .dic h q => .dic (e.rd h) (Ats.mono e q)
theorem Ats.mono {K : PySem.W.Frag} {M H : Hp} (e : Le M H) : ∀ {vs : List V} {ds : List D}, Ats K M vs ds → Ats K H vs ds
  | _, _, .nil => .nil
  | _, _, .cons h q => .cons (At.mono e h) (Ats.mono e q)
end
section
variable {K : PySem.W.Frag} {M H : Hp}
theorem Ats.length : ∀ {vs : List V} {ds : List D}, Ats K H vs ds → vs.length = ds.length
  | _, _, .nil => rfl
  | _, _, .cons _ q => congrArg (· + 1) (Ats.length q)
theorem Ats.get : ∀ {vs : List V} {ds : List D} {i : Nat} {d : D}, Ats K H vs ds → ds[i]? = some d → ∃ v, vs[i]? = some v ∧ At K H v d
  | _, _, _, _, .nil, e => by simp at e
  | _, _, 0, _, .cons h _, e => by simp at e; subst e; exact ⟨_, rfl, h⟩
  | _, _, i + 1, _, .cons _ q, e => by
    obtain ⟨v, h1, h2⟩ := Ats.get (i := i) q (by simpa using e)
    exact ⟨v, by simpa using h1, h2⟩
theorem Ats.getV : ∀ {vs : List V} {ds : List D} {i : Nat} {v : V}, Ats K H vs ds → vs[i]? = some v → ∃ d, ds[i]? = some d ∧ At K H v d
  | _, _, _, _, .nil, e => by simp at e
  | _, _, 0, _, .cons h _, e => by simp at e; subst e; exact ⟨_, rfl, h⟩
  | _, _, i + 1, _, .cons _ q, e => by
    obtain ⟨v, h1, h2⟩ := Ats.getV (i := i) q (by simpa using e)
    exact ⟨v, by simpa using h1, h2⟩
theorem Ats.append : ∀ {vs ws : List V} {ds es : List D}, Ats K H vs ds → Ats K H ws es → Ats K H (vs ++ ws) (ds ++ es)
  | _, _, _, _, .nil, q => q
  | _, _, _, _, .cons h t, q => .cons h (Ats.append t q)
theorem Ats.one {v : V} {d : D} (h : At K H v d) : Ats K H [v] [d] := .cons h .nil
theorem Ats.set {v : V} {d : D} (h : At K H v d) : ∀ {vs : List V} {ds : List D} (i : Nat), Ats K H vs ds → Ats K H (vs.set i v) (ds.set i d)
  | _, _, _, .nil => .nil
  | _, _, 0, .cons _ t => .cons h t
  | _, _, i + 1, .cons q t => .cons q (Ats.set h i t)
theorem Ats.take : ∀ {vs : List V} {ds : List D} (n : Nat), Ats K H vs ds → Ats K H (vs.take n) (ds.take n)
  | _, _, 0, _ => .nil
  | _, _, _ + 1, .nil => .nil
  | _, _, n + 1, .cons q t => .cons q (Ats.take n t)
theorem Ats.drop : ∀ {vs : List V} {ds : List D} (n : Nat), Ats K H vs ds → Ats K H (vs.drop n) (ds.drop n)
  | _, _, 0, q => q
  | _, _, _ + 1, .nil => .nil
  | _, _, n + 1, .cons _ t => Ats.drop n t
theorem Ats.dropLast {vs : List V} {ds : List D} (h : Ats K H vs ds) : Ats K H vs.dropLast ds.dropLast := by
  rw [List.dropLast_eq_take, List.dropLast_eq_take, h.length]
  exact h.take _
theorem Ats.reverse : ∀ {vs : List V} {ds : List D}, Ats K H vs ds → Ats K H vs.reverse ds.reverse
  | _, _, .nil => .nil
  | _, _, .cons q t => by
    rw [List.reverse_cons, List.reverse_cons]
    exact (Ats.reverse t).append (.one q)
theorem Ats.rep {vs : List V} {ds : List D} (h : Ats K H vs ds) : ∀ k : Nat, Ats K H (List.replicate k vs).flatten (List.replicate k ds).flatten
  | 0 => .nil
  | k + 1 => by
    rw [List.replicate_succ, List.replicate_succ, List.flatten_cons, List.flatten_cons]
    exact h.append (Ats.rep h k)
end

/-- a slot: nothing, data that stays, a list of this def's own (true: handed in to be changed) -/
inductive Cell where
  | val (d : D) | own (p : Bool) (xs : List D)
abbrev S := List (Option Cell)
/-- a result: data that stays; a new list; the list at a slot -/
inductive R where
  | val (d : D) | own (xs : List D) | slot (i : Nat)
/-- what a def hands back -/
inductive Ret where
  | val (d : D) | own (xs : List D)

def Owned (σ : St) (s : S) (a : Addr) : Prop := ∃ (i : Nat) (p : Bool) (xs : List D), s[i]? = some (some (Cell.own p xs)) ∧ σ[i]? = some (some (V.ref a))

structure Rel (K : PySem.W.Frag) (M H : Hp) (σ : St) (s : S) : Prop where
  len : s.length = σ.length
  le : Le M H
  val : ∀ (i : Nat) (d : D), s[i]? = some (some (Cell.val d)) → ∃ v, σ[i]? = some (some v) ∧ At K M v d
  own : ∀ (i : Nat) (p : Bool) (xs : List D), s[i]? = some (some (Cell.own p xs)) → ∃ l vs, σ[i]? = some (some (V.ref l)) ∧ H l = some (.lst vs) ∧ M l = none ∧ Ats K M vs xs
  inj : ∀ (i j : Nat) (p q : Bool) (xs ys : List D) (l : Addr), s[i]? = some (some (Cell.own p xs)) → s[j]? = some (some (Cell.own q ys)) → σ[i]? = some (some (V.ref l)) → σ[j]? = some (some (V.ref l)) → i = j

structure Go (σ : St) (s : S) (M H : Hp) (σ' : St) (s' : S) (M' H' : Hp) : Prop where
  up : Le M M'
  keep : ∀ a o, H a = some o → ¬ Owned σ s a → H' a = some o ∧ (M a = none → M' a = none)
  there : ∀ a o, H a = some o → ∃ o', H' a = some o'
  own : ∀ (i : Nat) (p : Bool) (xs : List D) (l : Addr), s'[i]? = some (some (Cell.own p xs)) → σ'[i]? = some (some (V.ref l)) → (H l = none ∧ p = false) ∨ (∃ (j : Nat) (ys : List D), s[j]? = some (some (Cell.own p ys)) ∧ σ[j]? = some (some (V.ref l)))
  port : ∀ (i : Nat) (xs : List D), s[i]? = some (some (Cell.own true xs)) → ∃ ys, s'[i]? = some (some (Cell.own true ys)) ∧ σ'[i]? = σ[i]?

theorem Go.refl {σ : St} {s : S} {M H : Hp} : Go σ s M H σ s M H :=
  ⟨Le.refl _, fun _ _ h _ => ⟨h, fun z => z⟩, fun _ o h => ⟨o, h⟩, fun i p xs l h1 h2 => .inr ⟨i, xs, h1, h2⟩, fun _ xs h => ⟨xs, h, rfl⟩⟩
theorem Go.trans {σ σ1 σ2 : St} {s s1 s2 : S} {M H M1 H1 M2 H2 : Hp} (a : Go σ s M H σ1 s1 M1 H1) (b : Go σ1 s1 M1 H1 σ2 s2 M2 H2) : Go σ s M H σ2 s2 M2 H2 where
  up := a.up.trans b.up
  keep := fun x o h n => by
    obtain ⟨h1, m1⟩ := a.keep x o h n
    have n1 : ¬ Owned σ1 s1 x := fun ⟨i, p, xs, e1, e2⟩ => by
      rcases a.own i p xs x e1 e2 with ⟨z, _⟩ | ⟨j, ys, z1, z2⟩
      · rw [h] at z; cases z
      · exact n ⟨j, p, ys, z1, z2⟩
    obtain ⟨h2, m2⟩ := b.keep x o h1 n1
    exact ⟨h2, fun z => m2 (m1 z)⟩
  there := fun x o h => by
    obtain ⟨o1, h1⟩ := a.there x o h
    exact b.there x o1 h1
  own := fun i p xs l e1 e2 => by
    rcases b.own i p xs l e1 e2 with ⟨z, hp⟩ | ⟨j, ys, z1, z2⟩
    · refine .inl ⟨?_, hp⟩
      cases q : H l with
      | none => rfl
      | some o =>
        obtain ⟨o', h'⟩ := a.there l o q
        rw [z] at h'; cases h'
    · exact a.own j p ys l z1 z2
  port := fun i xs h => by
    obtain ⟨ys, e1, e2⟩ := a.port i xs h
    obtain ⟨zs, e3, e4⟩ := b.port i ys e1
    exact ⟨zs, e3, e4.trans e2⟩
/-- nothing but new things -/
theorem Go.grow {σ : St} {s : S} {M H M' H' : Hp} (u : Le M M') (h : Le H H') (f : ∀ a o, H a = some o → M a = none → M' a = none) : Go σ s M H σ s M' H' :=
  ⟨u, fun a o e _ => ⟨h a o e, f a o e⟩, fun a o e => ⟨o, h a o e⟩, fun i p xs l h1 h2 => .inr ⟨i, xs, h1, h2⟩, fun _ xs e => ⟨xs, e, rfl⟩⟩
theorem Go.free {σ σ' : St} {s s' : S} {M H M' H' : Hp} (g : Go σ s M H σ' s' M' H') {l : Addr} (h : H' l = none) : H l = none := by
  cases q : H l with
  | none => rfl
  | some o =>
    obtain ⟨o', h'⟩ := g.there l o q
    rw [h] at h'; cases h'
theorem le_none {M H : Hp} (e : Le M H) {a : Addr} (h : H a = none) : M a = none := by
  cases q : M a with
  | none => rfl
  | some o => rw [e a o q] at h; cases h
theorem le_upd {H : Hp} {p : Addr} {o : HO} (h : H p = none) : Le H (upd H p o) := fun a u e => by
  rw [upd_ne (ne_of_none e h)]; exact e
theorem le_upd2 {M H : Hp} {p : Addr} {o : HO} (e : Le M H) : Le (upd M p o) (upd H p o) := fun a u h => by
  by_cases q : a = p
  · subst q; rw [upd_same] at h ⊢; exact h
  · rw [upd_ne q] at h ⊢; exact e a u h
theorem le_updr {M H : Hp} {p : Addr} {o : HO} (e : Le M H) (h : M p = none) : Le M (upd H p o) := fun a u q => by
  rw [upd_ne (ne_of_none q h)]; exact e a u q

section
variable {K : PySem.W.Frag} {M H M' H' : Hp} {σ : St} {s : S}
/-- the relation over more heap -/
theorem Rel.grow (r : Rel K M H σ s) (u : Le M M') (h : Le H H') (e : Le M' H') (f : ∀ a o, H a = some o → M a = none → M' a = none) : Rel K M' H' σ s where
  len := r.len
  le := e
  val := fun i d q => let ⟨v, a, b⟩ := r.val i d q; ⟨v, a, b.mono u⟩
  own := fun i p xs q => by
    obtain ⟨l, vs, a, b, c, d⟩ := r.own i p xs q
    exact ⟨l, vs, a, h l _ b, f l _ b c, d.mono u⟩
  inj := r.inj
theorem Rel.owned_some (r : Rel K M H σ s) {a : Addr} (o : Owned σ s a) : ∃ vs, H a = some (.lst vs) ∧ M a = none := by
  obtain ⟨i, p, xs, e1, e2⟩ := o
  obtain ⟨l, vs, a1, b, c, _⟩ := r.own i p xs e1
  rw [e2] at a1
  cases a1
  exact ⟨vs, b, c⟩
theorem Rel.not_owned (r : Rel K M H σ s) {a : Addr} (h : H a = none) : ¬ Owned σ s a := fun o => by
  obtain ⟨vs, q, _⟩ := r.owned_some o
  rw [h] at q; cases q
end

/-- what a result is -/
def Held (K : PySem.W.Frag) (M H : Hp) (σ : St) (s : S) (v : V) : R → Prop
  | .val d => At K M v d
  | .own xs => ∃ l vs, v = .ref l ∧ H l = some (.lst vs) ∧ M l = none ∧ ¬ Owned σ s l ∧ Ats K M vs xs
  | .slot i => σ[i]? = some (some v)
/-- a new result: a list that was not there -/
def New (H : Hp) (v : V) : R → Prop
  | .own _ => ∃ l, v = .ref l ∧ H l = none
  | _ => True
theorem Held.go {K : PySem.W.Frag} {M H M' H' : Hp} {σ : St} {s s' : S} {v : V} {r : R} (h : Held K M H σ s v r) (g : Go σ s M H σ s' M' H') (_ : Rel K M' H' σ s') : Held K M' H' σ s' v r := by
  cases r with
  | val d => exact At.mono g.up h
  | own xs =>
    obtain ⟨l, vs, e, h1, h2, h3, h4⟩ := h
    obtain ⟨k1, k2⟩ := g.keep l _ h1 h3
    refine ⟨l, vs, e, k1, k2 h2, fun ⟨i, p, ys, e1, e2⟩ => ?_, h4.mono g.up⟩
    rcases g.own i p ys l e1 e2 with ⟨z, _⟩ | ⟨j, zs, z1, z2⟩
    · rw [h1] at z; cases z
    · exact h3 ⟨j, p, zs, z1, z2⟩
  | slot i => exact h
/-- the data of a result, as it stands -/
def peek (r : R) (s : S) : Option D := match r with
  | .val d => some d
  | .own xs => some (.lst xs)
  | .slot i => match s[i]? with
    | some (some (Cell.own _ xs)) => some (.lst xs)
    | some (some (Cell.val d)) => some d
    | _ => none
theorem Held.peek {K : PySem.W.Frag} {M H : Hp} {σ : St} {s : S} {v : V} {r : R} {d : D} (h : Held K M H σ s v r) (rel : Rel K M H σ s) (e : peek r s = some d) :
    At K M v d ∨ ∃ l vs xs, v = .ref l ∧ H l = some (.lst vs) ∧ M l = none ∧ Ats K M vs xs ∧ d = .lst xs := by
  cases r with
  | val d' => cases e; exact .inl h
  | own xs =>
    cases e
    obtain ⟨l, vs, e, h1, h2, _, h4⟩ := h
    exact .inr ⟨l, vs, xs, e, h1, h2, h4, rfl⟩
  | slot i =>
    have h' : σ[i]? = some (some v) := h
    unfold Dm.peek at e
    simp only at e
    split at e
    · rename_i p xs q
      cases e
      obtain ⟨l, vs, a, b, c, d⟩ := rel.own i p xs q
      rw [h'] at a
      cases a
      exact .inr ⟨l, vs, xs, rfl, b, c, d, rfl⟩
    · rename_i d' q
      cases e
      obtain ⟨v', a, b⟩ := rel.val i _ q
      rw [h'] at a
      cases a
      exact .inl b
    · cases e
/-- at the heap itself -/
theorem Held.at {K : PySem.W.Frag} {M H : Hp} {σ : St} {s : S} {v : V} {r : R} {d : D} (h : Held K M H σ s v r) (rel : Rel K M H σ s) (e : Dm.peek r s = some d) : At K H v d := by
  rcases h.peek rel e with q | ⟨l, vs, xs, rfl, h1, _, h4, rfl⟩
  · exact q.mono rel.le
  · exact .lst (SqL.of h1) (h4.mono rel.le)
/-- a list as it stands: its items stay -/
theorem Held.list {K : PySem.W.Frag} {M H : Hp} {σ : St} {s : S} {v : V} {r : R} {xs : List D} (h : Held K M H σ s v r) (rel : Rel K M H σ s) (e : Dm.peek r s = some (.lst xs)) : ∃ l vs, v = .ref l ∧ SqL K H l vs ∧ Ats K M vs xs := by
  rcases h.peek rel e with q | ⟨l, vs, xs', rfl, h1, _, h4, e2⟩
  · cases q with
    | lst a b => exact ⟨_, _, rfl, rel.le.sqL a, b⟩
  · cases e2
    exact ⟨l, vs, rfl, SqL.of h1, h4⟩
theorem Held.tuple {K : PySem.W.Frag} {M H : Hp} {σ : St} {s : S} {v : V} {r : R} {xs : List D} (h : Held K M H σ s v r) (rel : Rel K M H σ s) (e : Dm.peek r s = some (.tup xs)) : ∃ l vs, v = .ref l ∧ SqT K H l vs ∧ Ats K M vs xs := by
  rcases h.peek rel e with q | ⟨l, vs, xs', rfl, h1, _, h4, e2⟩
  · cases q with
    | tup a b => exact ⟨_, _, rfl, rel.le.sqT a, b⟩
  · cases e2
theorem Held.scal {K : PySem.W.Frag} {M H : Hp} {σ : St} {s : S} {v : V} {r : R} {d : D} (h : Held K M H σ s v r) (rel : Rel K M H σ s) (e : Dm.peek r s = some d) : (∀ i, d = .int i → v = .int i) ∧ (∀ b, d = .bl b → v = .bl b) ∧ (∀ x, d = .str x → v = .str x) ∧ (d = .non → v = .non) := by
  have q := h.at rel e
  refine ⟨fun i z => ?_, fun b z => ?_, fun x z => ?_, fun z => ?_⟩ <;> (subst z; cases q; rfl)
end Dm
set_option Elab.async false
set_option linter.all false
set_option maxRecDepth 100000
set_option maxHeartbeats 4000000
namespace Dm
open PySem PySem.Spec L2
set_option autoImplicit false

/-- no name twice, as a test -/
def ndB : List Str → Bool
  | [] => true
  | x :: xs => !(xs.any fun y => decide (x = y)) && ndB xs
theorem ndOf : ∀ {xs : List Str}, ndB xs = true → xs.Nodup
  | [], _ => .nil
  | x :: xs, h => by
    unfold ndB at h
    rw [Bool.and_eq_true] at h
    refine List.nodup_cons.2 ⟨fun m => ?_, ndOf h.2⟩
    have := h.1
    rw [Bool.not_eq_true', List.any_eq_false] at this
    exact this x m (by simp)
/-- what the rules ask of where one stands -/
structure Cd where
  P : Program
  w : World
  K : PySem.W.Frag
  mg : Str → Option Value
  base : Heap
  N : List Str
  sc : Scope
  k : Nat
  top : Bool
structure Fits (c : Cd) (X : Cx) : Prop where
  P : X.prog = c.P
  w : X.w = c.w
  K : X.K = c.K
  mg : X.mg = c.mg
  base : X.base = c.base
  N : X.N = c.N
  sc : X.env.scope = c.sc
  calm : X.calm = true
  room : Room c.k X.A
  own : PassesOwn (model X.prog X.w) X.A X.env X.xe
  fn : c.top = true → ∀ x, X.fn x = true
  guards : X.A.guards = some []

structure Ok (K : PySem.W.Frag) (σ : L2.St) (s : S) (M H : Hp) (r : R) (s' : S) (v : V) (M' H' : Hp) : Prop where
  go : Go σ s M H σ s' M' H'
  rel : Rel K M' H' σ s'
  held : Held K M' H' σ s' v r
  new : New H v r

abbrev ME := S → Option (R × S)
def Sound (K : PySem.W.Frag) (t : TE) (m : ME) : Prop :=
  ∀ (σ : L2.St) (s : S) (M H : Hp) (r : R) (s' : S), m s = some (r, s') → Rel K M H σ s → ∀ Q : VK, (∀ v M' H', Ok K σ s M H r s' v M' H' → Q v H') → t σ H Q
def SE (c : Cd) (e : Expr) (m : ME) : Prop := ∃ t : TE, (∀ X, Fits c X → PE X e t) ∧ Sound c.K t m

section basics
variable {c : Cd} {e : Expr}
def mVar (i : Nat) : ME := fun s => match s[i]? with
  | some (some (.val d)) => some (.val d, s)
  | some (some (.own _ _)) => some (.slot i, s)
  | _ => none
def mC (d : D) : ME := fun s => some (.val d, s)

theorem Ok.same {K : PySem.W.Frag} {σ : L2.St} {s : S} {M H : Hp} {r : R} {v : V} (rel : Rel K M H σ s) (h : Held K M H σ s v r) (n : New H v r) : Ok K σ s M H r s v M H := ⟨Go.refl, rel, h, n⟩
theorem sound_c {K : PySem.W.Frag} {v : V} {d : D} (h : ∀ M, At K M v d) : Sound K (tC v) (mC d) := fun σ s M H r s' e rel Q q => by
  cases e
  exact q v M H (.same rel (h M) trivial)
theorem sound_var {K : PySem.W.Frag} {i : Nat} : Sound K (tVar i) (mVar i) := fun σ s M H r s' e rel Q q => by
  unfold mVar at e
  split at e
  · rename_i d h
    cases e
    obtain ⟨v, a, b⟩ := rel.val i d h
    exact ⟨v, a, q v M H (.same rel b trivial)⟩
  · rename_i p xs h
    cases e
    obtain ⟨l, vs, a, b, c, d⟩ := rel.own i p xs h
    exact ⟨.ref l, a, q _ M H (.same rel a trivial)⟩
  · cases e
theorem se_var (i : Nat) {x : Str} {pos : Pos} (hN : c.N[i]? = some x := by rfl) (hv : Vis c.sc x := by first | exact Or.inl rfl | exact Or.inr (Or.inl rfl) | exact Or.inr (Or.inr rfl))
    (hd : (x == ("__debug__" : Str)) = false := by decide) (hcd : (x == ("__classdict__" : Str)) = false := by decide) : SE c (.Name x pos) (mVar i) :=
  ⟨_, fun X h => pe_var (by rw [h.N]; exact hN) (by rw [h.sc]; exact hv) hd hcd, sound_var⟩
theorem se_int {i : Int} {j : Nat} {pos : Pos} : SE c (.Constant (.int i) j pos) (mC (.int i)) := ⟨_, fun _ _ => pe_int, sound_c fun _ => .int i⟩
theorem se_bl {b : Bool} {j : Nat} {pos : Pos} : SE c (.Constant (.bool b) j pos) (mC (.bl b)) := ⟨_, fun _ _ => pe_bl, sound_c fun _ => .bl b⟩
theorem se_non {j : Nat} {pos : Pos} : SE c (.Constant .none j pos) (mC .non) := ⟨_, fun _ _ => pe_non, sound_c fun _ => .non⟩
theorem se_str {x : Str} {j : Nat} {pos : Pos} : SE c (.Constant (.str x) j pos) (mC (.str x)) := ⟨_, fun _ _ => pe_str, sound_c fun _ => .str x⟩
/-- a module's constant -/
theorem se_glob {x : Str} {v : V} {u : Value} {d : D} {pos : Pos} (hg : (c.sc.names.lookup x).getD .globalImplicit = .globalImplicit) (hk : ∀ X, Fits c X → Gl X x) (hm : c.mg x = some u) (r : RelV v u) (h : ∀ M, At c.K M v d) (hd : (x == ("__debug__" : Str)) = false := by decide) :
    SE c (.Name x pos) (mC d) := ⟨_, fun X f => pe_glob (hk X f) (by rw [f.mg]; exact hm) r hd, sound_c h⟩

/-- to data that stays -/
def frz (r : R) (s : S) : Option (D × S) := match r with
  | .val d => some (d, s)
  | .own xs => some (.lst xs, s)
  | .slot i => match s[i]? with
    | some (some (.own false xs)) => some (.lst xs, s.set i (some (.val (.lst xs))))
    | some (some (.val d)) => some (d, s)
    | _ => none
theorem set_get {α : Type} {s : List α} {i j : Nat} {x : α} {y : α} (h : (s.set i x)[j]? = some y) : (j = i ∧ y = x) ∨ (j ≠ i ∧ s[j]? = some y) := by
  by_cases e : i = j
  · subst e
    rw [List.getElem?_set_self'] at h
    cases q : s[i]? with
    | none => rw [q] at h; cases h
    | some z => rw [q] at h; simp at h; exact .inl ⟨rfl, h.symm⟩
  · rw [List.getElem?_set_ne e] at h
    exact .inr ⟨fun z => e z.symm, h⟩
theorem frz_ok {K : PySem.W.Frag} {σ : L2.St} {s : S} {M H : Hp} {r : R} {s' s'' : S} {v : V} {M' H' : Hp} {d : D} (o : Ok K σ s M H r s' v M' H') (e : frz r s' = some (d, s'')) :
    ∃ M'', Ok K σ s M H (.val d) s'' v M'' H' := by
  obtain ⟨go, rel, held, new⟩ := o
  cases r with
  | val d' => cases e; exact ⟨M', go, rel, held, trivial⟩
  | own xs =>
    cases e
    obtain ⟨l, vs, rfl, h1, h2, h3, h4⟩ := held
    obtain ⟨l', e', hn⟩ := new
    cases e'
    have up : Le M' (upd M' l (.lst vs)) := le_upd h2
    refine ⟨upd M' l (.lst vs), ⟨go.up.trans up, fun a o ha hna => ?_, go.there, go.own, go.port⟩, ⟨rel.len, fun a o q => ?_, fun i d q => ?_, fun i p ys q => ?_, rel.inj⟩, .lst (SqL.of upd_same) (h4.mono up), trivial⟩
    · obtain ⟨k1, k2⟩ := go.keep a o ha hna
      exact ⟨k1, fun z => by rw [upd_ne (ne_of_none ha hn)]; exact k2 z⟩
    · by_cases z : a = l
      · subst z; rw [upd_same] at q; rw [h1]; exact q
      · rw [upd_ne z] at q; exact rel.le a o q
    · obtain ⟨v, a, b⟩ := rel.val i d q
      exact ⟨v, a, b.mono up⟩
    · obtain ⟨l2, ws, a, b, c, f⟩ := rel.own i p ys q
      exact ⟨l2, ws, a, b, by rw [upd_ne (fun z => h3 ⟨i, p, ys, q, by rw [← z]; exact a⟩)]; exact c, f.mono up⟩
  | slot i =>
    unfold frz at e
    simp only at e
    split at e
    · rename_i xs q
      cases e
      obtain ⟨l, vs, a, b, c, f⟩ := rel.own i false xs q
      have hv : σ[i]? = some (some v) := held
      rw [a] at hv
      cases hv
      have up : Le M' (upd M' l (.lst vs)) := le_upd c
      refine ⟨upd M' l (.lst vs), ⟨go.up.trans up, fun a' o ha hna => ?_, go.there, fun j p ys l2 h1 h2 => ?_, fun j ys h => ?_⟩, ⟨by rw [List.length_set]; exact rel.len, fun a' o q' => ?_, fun j d q' => ?_, fun j p ys q' => ?_, fun j k p p' ys zs l2 h1 h2 h3 h4 => ?_⟩, .lst (SqL.of upd_same) (f.mono up), trivial⟩
      · obtain ⟨k1, k2⟩ := go.keep a' o ha hna
        refine ⟨k1, fun z => ?_⟩
        rw [upd_ne ?_]
        · exact k2 z
        · intro e'
          subst e'
          rcases go.own i false xs a' q a with ⟨z', _⟩ | ⟨j, ys, z1, z2⟩
          · rw [ha] at z'; cases z'
          · exact hna ⟨j, false, ys, z1, z2⟩
      · rcases set_get h1 with ⟨_, z⟩ | ⟨_, z⟩
        · cases z
        · exact go.own j p ys l2 z h2
      · obtain ⟨zs, z1, z2⟩ := go.port j ys h
        have hji : j ≠ i := fun z => by subst z; rw [q] at z1; cases z1
        exact ⟨zs, by rw [List.getElem?_set_ne (fun z => hji z.symm)]; exact z1, z2⟩
      · by_cases z : a' = l
        · subst z; rw [upd_same] at q'; rw [b]; exact q'
        · rw [upd_ne z] at q'; exact rel.le a' o q'
      · rcases set_get q' with ⟨e1, z⟩ | ⟨_, z⟩
        · subst e1
          cases z
          exact ⟨_, a, .lst (SqL.of upd_same) (f.mono up)⟩
        · obtain ⟨v, a1, b1⟩ := rel.val j d z
          exact ⟨v, a1, b1.mono up⟩
      · rcases set_get q' with ⟨_, z⟩ | ⟨hj, z⟩
        · cases z
        · obtain ⟨l2, ws, a1, b1, c1, f1⟩ := rel.own j p ys z
          refine ⟨l2, ws, a1, b1, ?_, f1.mono up⟩
          rw [upd_ne ?_]
          · exact c1
          · intro e'
            subst e'
            exact hj (rel.inj j i p false ys xs l2 z q a1 a)
      · rcases set_get h1 with ⟨_, z⟩ | ⟨_, z1⟩
        · cases z
        · rcases set_get h2 with ⟨_, z⟩ | ⟨_, z2⟩
          · cases z
          · exact rel.inj j k p p' ys zs l2 z1 z2 h3 h4
    · rename_i d' q
      cases e
      obtain ⟨v', a, b⟩ := rel.val i _ q
      have hv : σ[i]? = some (some v) := held
      rw [a] at hv
      cases hv
      exact ⟨M', go, rel, b, trivial⟩
    · cases e
theorem bd {α β : Type} {x : Option α} {f : α → Option β} {b : β} (h : x.bind f = some b) : ∃ a, x = some a ∧ f a = some b := Option.bind_eq_some_iff.mp h
def mFrz (m : ME) : ME := fun s => (m s).bind fun p => (frz p.1 p.2).bind fun q => some (.val q.1, q.2)
theorem sound_frz {K : PySem.W.Frag} {t : TE} {m : ME} (h : Sound K t m) : Sound K t (mFrz m) := fun σ s M H r s' e rel Q q => by
  obtain ⟨⟨r1, s1⟩, e1, e⟩ := bd e
  obtain ⟨⟨d, s2⟩, e2, e⟩ := bd e
  cases e
  refine h σ s M H r1 s1 e1 rel Q fun v M' H' o => ?_
  obtain ⟨M'', o'⟩ := frz_ok o e2
  exact q v M'' H' o'
theorem se_frz {m : ME} (h : SE c e m) : SE c e (mFrz m) := let ⟨t, a, b⟩ := h; ⟨t, a, sound_frz b⟩
end basics

/-! ### after one another -/
theorem Ok.then {K : PySem.W.Frag} {σ : L2.St} {s s1 s2 : S} {M H M1 H1 M2 H2 : Hp} {r1 r2 : R} {v1 v2 : V} (a : Ok K σ s M H r1 s1 v1 M1 H1) (b : Ok K σ s1 M1 H1 r2 s2 v2 M2 H2) :
    Go σ s M H σ s2 M2 H2 ∧ Held K M2 H2 σ s2 v1 r1 := ⟨a.go.trans b.go, a.held.go b.go b.rel⟩
theorem New.back {H H1 : Hp} {v : V} {r : R} (n : New H1 v r) (f : ∀ l, H1 l = none → H l = none) : New H v r := by
  cases r with
  | own xs => obtain ⟨l, e, h⟩ := n; exact ⟨l, e, f l h⟩
  | val d => trivial
  | slot i => trivial

/-! ### two-place operations on what the operands are -/
/-- the answer is a scalar: nothing is made -/
def Sc2 (K : PySem.W.Frag) (r2 : R2) (f : D → D → Option D) : Prop := ∀ (H : Hp) (v w : V) (d e z : D), At K H v d → At K H w e → f d e = some z → ∃ u, (∀ M, At K M u z) ∧ ∀ Q : VK, Q u H → r2 v w H Q
def mBin (f : D → D → Option D) (ma mb : ME) : ME := fun s => (ma s).bind fun p => (mb p.2).bind fun q => (peek p.1 q.2).bind fun d => (peek q.1 q.2).bind fun e => (f d e).bind fun z => some (.val z, q.2)
theorem sound_bin {K : PySem.W.Frag} {r2 : R2} {f : D → D → Option D} {ta tb : TE} {ma mb : ME} (h : Sc2 K r2 f) (ha : Sound K ta ma) (hb : Sound K tb mb) : Sound K (tOp r2 ta tb) (mBin f ma mb) := fun σ s M H r s' e rel Q q => by
  obtain ⟨⟨r1, s1⟩, e1, e⟩ := bd e
  obtain ⟨⟨r3, s2⟩, e2, e⟩ := bd e
  obtain ⟨d1, p1, e⟩ := bd e
  obtain ⟨d2, p2, e⟩ := bd e
  obtain ⟨z, e3, e⟩ := bd e
  cases e
  refine ha σ s M H r1 s1 e1 rel _ fun v M1 H1 o1 => hb σ s1 M1 H1 r3 _ e2 o1.rel _ fun w M2 H2 o2 => ?_
  obtain ⟨g, hd⟩ := o1.then o2
  obtain ⟨u, hu, k⟩ := h H2 v w d1 d2 z (hd.at o2.rel p1) (o2.held.at o2.rel p2) e3
  exact k _ (q u M2 H2 ⟨g, o2.rel, hu M2, trivial⟩)
theorem se_bin {c : Cd} {a b : Expr} {pos : Pos} {op : Operator} {r2 : PySem.W.Frag → R2} {f : D → D → Option D} {ma mb : ME} (ho : ∀ X : Cx, OpR X (binaryOp op) (r2 X.K)) (h : Sc2 c.K (r2 c.K) f) (ha : SE c a ma) (hb : SE c b mb) : SE c (.BinOp a op b pos) (mBin f ma mb) := by
  obtain ⟨ta, pa, sa⟩ := ha
  obtain ⟨tb, pb, sb⟩ := hb
  exact ⟨_, fun X g => by have := ho X; rw [g.K] at this; exact pe_op this (pa X g) (pb X g), sound_bin h sa sb⟩
theorem se_cmp {c : Cd} {a b : Expr} {pos : Pos} {op : CmpOp} {r2 : PySem.W.Frag → R2} {f : D → D → Option D} {ma mb : ME} (ho : ∀ X : Cx, Fits c X → OpR X (compareOp op) (r2 X.K)) (h : Sc2 c.K (r2 c.K) f) (hm : behindInMarks op b = false) (ha : SE c a ma) (hb : SE c b mb) : SE c (.Compare a [op] [b] pos) (mBin f ma mb) := by
  obtain ⟨ta, pa, sa⟩ := ha
  obtain ⟨tb, pb, sb⟩ := hb
  exact ⟨_, fun X g => by have := ho X g; rw [g.K] at this; exact pe_cmpR this (pa X g) (pb X g) hm, sound_bin h sa sb⟩
/-- on whole numbers -/
def onI (g : Int → Int → Option D) : D → D → Option D := fun d e => match d, e with
  | .int i, .int j => g i j
  | _, _ => none
theorem sc_I {K : PySem.W.Frag} {C : Int → Int → Prop} [∀ i j, Decidable (C i j)] {g : Int → Int → V} {gd : Int → Int → D} (h : ∀ i j M, At K M (g i j) (gd i j)) : Sc2 K (rI C g) (onI fun i j => if C i j then some (gd i j) else none) := fun H v w d e z hv hw q => by
  cases hv <;> cases hw <;> try (cases q; done)
  rename_i i j
  unfold onI at q
  simp only at q
  split at q
  · rename_i hc
    cases q
    exact ⟨g i j, h i j, fun Q k => ⟨i, j, rfl, rfl, hc, k⟩⟩
  · cases q
theorem sc_I0 {K : PySem.W.Frag} {g : Int → Int → V} {gd : Int → Int → D} (h : ∀ i j M, At K M (g i j) (gd i j)) : Sc2 K (rI0 g) (onI fun i j => some (gd i j)) := fun H v w d e z hv hw q => by
  cases hv <;> cases hw <;> try (cases q; done)
  rename_i i j
  cases q
  exact ⟨g i j, h i j, fun Q k => ⟨i, j, rfl, rfl, k⟩⟩
abbrev fAdd : D → D → Option D := onI fun i j => some (.int (i + j))
abbrev fSub : D → D → Option D := onI fun i j => some (.int (i - j))
instance (i j : Int) : Decidable (CMul i j) := by unfold CMul; infer_instance
instance (i j : Int) : Decidable (CDivN i j) := by unfold CDivN; infer_instance
instance (i j : Int) : Decidable (CPow i j) := by unfold CPow; infer_instance
abbrev fMul : D → D → Option D := onI fun i j => if CMul i j then some (.int (i * j)) else none
abbrev fDiv : D → D → Option D := onI fun i j => if CDivN i j then some (.int (i.fdiv j)) else none
abbrev fMod : D → D → Option D := onI fun i j => if j ≠ 0 then some (.int (i.fmod j)) else none
abbrev fPow : D → D → Option D := onI fun i j => if CPow i j then some (.int (i ^ j.toNat)) else none
abbrev fLt : D → D → Option D := onI fun i j => some (.bl (decide (i < j)))
abbrev fLe : D → D → Option D := onI fun i j => some (.bl (decide (i ≤ j)))
abbrev fGt : D → D → Option D := onI fun i j => some (.bl (decide (j < i)))
abbrev fGe : D → D → Option D := onI fun i j => some (.bl (decide (j ≤ i)))
section
variable {c : Cd} {a b : Expr} {pos : Pos} {ma mb : ME}
theorem se_add (ha : SE c a ma) (hb : SE c b mb) : SE c (.BinOp a .Add b pos) (mBin fAdd ma mb) := se_bin (r2 := fun _ => _) (fun _ => op_add) (sc_I0 fun _ _ _ => .int _) ha hb
theorem se_sub (ha : SE c a ma) (hb : SE c b mb) : SE c (.BinOp a .Sub b pos) (mBin fSub ma mb) := se_bin (r2 := fun _ => _) (fun _ => op_sub) (sc_I0 fun _ _ _ => .int _) ha hb
theorem se_mul (ha : SE c a ma) (hb : SE c b mb) : SE c (.BinOp a .Mult b pos) (mBin fMul ma mb) := se_bin (r2 := fun _ => _) (fun _ => op_mul) (sc_I fun _ _ _ => .int _) ha hb
theorem se_div (ha : SE c a ma) (hb : SE c b mb) : SE c (.BinOp a .FloorDiv b pos) (mBin fDiv ma mb) := se_bin (r2 := fun _ => _) (fun _ => op_fdivN) (sc_I fun _ _ _ => .int _) ha hb
theorem se_mod (ha : SE c a ma) (hb : SE c b mb) : SE c (.BinOp a .Mod b pos) (mBin fMod ma mb) := se_bin (r2 := fun _ => _) (fun _ => op_modN) (sc_I fun _ _ _ => .int _) ha hb
theorem se_pow (ha : SE c a ma) (hb : SE c b mb) : SE c (.BinOp a .Pow b pos) (mBin fPow ma mb) := se_bin (r2 := fun _ => _) (fun _ => op_pow) (sc_I fun _ _ _ => .int _) ha hb
theorem se_lt (ha : SE c a ma) (hb : SE c b mb) : SE c (.Compare a [.Lt] [b] pos) (mBin fLt ma mb) := se_cmp (r2 := fun _ => _) (fun _ _ => op_lt) (sc_I0 fun _ _ _ => .bl _) (nomark _) ha hb
theorem se_le (ha : SE c a ma) (hb : SE c b mb) : SE c (.Compare a [.LtE] [b] pos) (mBin fLe ma mb) := se_cmp (r2 := fun _ => _) (fun _ _ => op_le) (sc_I0 fun _ _ _ => .bl _) (nomark _) ha hb
theorem se_gt (ha : SE c a ma) (hb : SE c b mb) : SE c (.Compare a [.Gt] [b] pos) (mBin fGt ma mb) := se_cmp (r2 := fun _ => _) (fun _ _ => op_gt) (sc_I0 fun _ _ _ => .bl _) (nomark _) ha hb
theorem se_ge (ha : SE c a ma) (hb : SE c b mb) : SE c (.Compare a [.GtE] [b] pos) (mBin fGe ma mb) := se_cmp (r2 := fun _ => _) (fun _ _ => op_ge) (sc_I0 fun _ _ _ => .bl _) (nomark _) ha hb
end
end Dm
set_option Elab.async false
set_option linter.all false
set_option maxRecDepth 100000
set_option maxHeartbeats 4000000
namespace Dm
open PySem PySem.Spec L2
set_option autoImplicit false

/-! ### tests -/
abbrev MT := S → Option (Bool × S)
structure OkT (K : PySem.W.Frag) (σ : L2.St) (s : S) (M H : Hp) (s' : S) (M' H' : Hp) : Prop where
  go : Go σ s M H σ s' M' H'
  rel : Rel K M' H' σ s'
theorem Ok.t {K : PySem.W.Frag} {σ : L2.St} {s : S} {M H : Hp} {r : R} {s' : S} {v : V} {M' H' : Hp} (o : Ok K σ s M H r s' v M' H') : OkT K σ s M H s' M' H' := ⟨o.go, o.rel⟩
theorem OkT.refl {K : PySem.W.Frag} {σ : L2.St} {s : S} {M H : Hp} (r : Rel K M H σ s) : OkT K σ s M H s M H := ⟨Go.refl, r⟩
theorem OkT.trans {K : PySem.W.Frag} {σ : L2.St} {s s1 s2 : S} {M H M1 H1 M2 H2 : Hp} (a : OkT K σ s M H s1 M1 H1) (b : OkT K σ s1 M1 H1 s2 M2 H2) : OkT K σ s M H s2 M2 H2 := ⟨a.go.trans b.go, b.rel⟩
/-- an answer behind other steps -/
theorem Ok.behind {K : PySem.W.Frag} {σ : L2.St} {s s1 s2 : S} {M H M1 H1 M2 H2 : Hp} {r : R} {v : V} (a : OkT K σ s M H s1 M1 H1) (b : Ok K σ s1 M1 H1 r s2 v M2 H2) : Ok K σ s M H r s2 v M2 H2 :=
  ⟨a.go.trans b.go, b.rel, b.held, b.new.back fun l h => a.go.free h⟩
def SoundT (K : PySem.W.Frag) (t : TT) (m : MT) : Prop :=
  ∀ (σ : L2.St) (s : S) (M H : Hp) (b : Bool) (s' : S), m s = some (b, s') → Rel K M H σ s → ∀ Q : Bool → Hp → Prop, (∀ M' H', OkT K σ s M H s' M' H' → Q b H') → t σ H Q
def ST (c : Cd) (e : Expr) (m : MT) : Prop := ∃ t : TT, (∀ X, Fits c X → PT X e t) ∧ SoundT c.K t m
def SW (c : Cd) (e : Expr) (m : MT) : Prop := ∃ t : TT, (∀ X, Fits c X → PW X e t) ∧ SoundT c.K t m
def asB : D → Option Bool
  | .bl b => some b
  | _ => none
def mTest (m : ME) : MT := fun s => (m s).bind fun p => (peek p.1 p.2).bind fun d => (asB d).bind fun b => some (b, p.2)
theorem asB_at {K : PySem.W.Frag} {H : Hp} {v : V} {d : D} {b : Bool} (h : At K H v d) (e : asB d = some b) : v = .bl b := by
  cases h <;> try (cases e; done)
  cases e; rfl
theorem sound_test {K : PySem.W.Frag} {t : TE} {m : ME} (h : Sound K t m) : SoundT K (tTest t) (mTest m) := fun σ s M H b s' e rel Q q => by
  obtain ⟨⟨r, s1⟩, e1, e⟩ := bd e
  obtain ⟨d, p1, e⟩ := bd e
  obtain ⟨b', e2, e⟩ := bd e
  cases e
  exact h σ s M H r _ e1 rel _ fun v M' H' o => ⟨b, asB_at (o.held.at o.rel p1) e2, q M' H' o.t⟩
theorem sound_B {K : PySem.W.Frag} {t : TE} {m : ME} (h : Sound K t m) : SoundT K (tB t) (mTest m) := fun σ s M H b s' e rel Q q => by
  obtain ⟨⟨r, s1⟩, e1, e⟩ := bd e
  obtain ⟨d, p1, e⟩ := bd e
  obtain ⟨b', e2, e⟩ := bd e
  cases e
  exact h σ s M H r _ e1 rel _ fun v M' H' o => ⟨b, asB_at (o.held.at o.rel p1) e2, q M' H' o.t⟩
section
variable {c : Cd} {e a b : Expr} {rest : List Expr} {pos : Pos} {m ma mb : ME} {t u : MT}
/-- a value that is True or False -/
theorem st_val (h : SE c e m) (he : ∀ (env : Env) (whole : Sem Value), isTrue e env whole = (do let v ← whole; standAt e.pos; holding [v] (truthy v)) := by intro _ _; rfl) : ST c e (mTest m) := by
  obtain ⟨te, p, sd⟩ := h
  exact ⟨_, fun X g => pt_val (p X g) (fun w => he X.env w), sound_B sd⟩
theorem st_cmp {op : CmpOp} {r2 : PySem.W.Frag → R2} {f : D → D → Option D} (ho : ∀ X : Cx, Fits c X → OpR X (compareOp op) (r2 X.K)) (h : Sc2 c.K (r2 c.K) f) (hm : behindInMarks op b = false) (ha : SE c a ma) (hb : SE c b mb) : ST c (.Compare a [op] [b] pos) (mTest (mBin f ma mb)) := by
  obtain ⟨ta, pa, sa⟩ := ha
  obtain ⟨tb, pb, sb⟩ := hb
  exact ⟨_, fun X g => by have := ho X g; rw [g.K] at this; exact pt_cmpR this (pa X g) (pb X g) hm, sound_test (sound_bin h sa sb)⟩
theorem st_lt (ha : SE c a ma) (hb : SE c b mb) : ST c (.Compare a [.Lt] [b] pos) (mTest (mBin fLt ma mb)) := st_cmp (r2 := fun _ => _) (fun _ _ => op_lt) (sc_I0 fun _ _ _ => .bl _) (nomark _) ha hb
theorem st_le (ha : SE c a ma) (hb : SE c b mb) : ST c (.Compare a [.LtE] [b] pos) (mTest (mBin fLe ma mb)) := st_cmp (r2 := fun _ => _) (fun _ _ => op_le) (sc_I0 fun _ _ _ => .bl _) (nomark _) ha hb
theorem st_gt (ha : SE c a ma) (hb : SE c b mb) : ST c (.Compare a [.Gt] [b] pos) (mTest (mBin fGt ma mb)) := st_cmp (r2 := fun _ => _) (fun _ _ => op_gt) (sc_I0 fun _ _ _ => .bl _) (nomark _) ha hb
theorem st_ge (ha : SE c a ma) (hb : SE c b mb) : ST c (.Compare a [.GtE] [b] pos) (mTest (mBin fGe ma mb)) := st_cmp (r2 := fun _ => _) (fun _ _ => op_ge) (sc_I0 fun _ _ _ => .bl _) (nomark _) ha hb
def mNotT (t : MT) : MT := fun s => (t s).bind fun p => some (!p.1, p.2)
theorem sound_notT {K : PySem.W.Frag} {t : TT} {m : MT} (h : SoundT K t m) : SoundT K (tNot t) (mNotT m) := fun σ s M H b s' e rel Q q => by
  obtain ⟨⟨r, s1⟩, e1, e⟩ := bd e
  cases e
  exact h σ s M H r _ e1 rel _ fun M' H' o => q M' H' o
theorem st_not (h : ST c a t) : ST c (.UnaryOp .Not a pos) (mNotT t) := by
  obtain ⟨te, p, sd⟩ := h
  exact ⟨_, fun X g => pt_not (p X g), sound_notT sd⟩
def mAndT (t u : MT) : MT := fun s => (t s).bind fun p => if p.1 then u p.2 else some (false, p.2)
def mOrT (t u : MT) : MT := fun s => (t s).bind fun p => if p.1 then some (true, p.2) else u p.2
theorem sound_andT {K : PySem.W.Frag} {t t' : TT} {m m' : MT} (h : SoundT K t m) (h' : SoundT K t' m') : SoundT K (tAnd t t') (mAndT m m') := fun σ s M H b s' e rel Q q => by
  obtain ⟨⟨r, s1⟩, e1, e⟩ := bd e
  refine h σ s M H r _ e1 rel _ fun M' H' o => ?_
  cases r with
  | true => exact h' σ s1 M' H' b s' e o.rel _ fun M2 H2 o2 => q M2 H2 (o.trans o2)
  | false => cases e; exact q M' H' o
theorem sound_orT {K : PySem.W.Frag} {t t' : TT} {m m' : MT} (h : SoundT K t m) (h' : SoundT K t' m') : SoundT K (tOr t t') (mOrT m m') := fun σ s M H b s' e rel Q q => by
  obtain ⟨⟨r, s1⟩, e1, e⟩ := bd e
  refine h σ s M H r _ e1 rel _ fun M' H' o => ?_
  cases r with
  | false => exact h' σ s1 M' H' b s' e o.rel _ fun M2 H2 o2 => q M2 H2 (o.trans o2)
  | true => cases e; exact q M' H' o
theorem sw_and1 (h : ST c a t) : SW c (.BoolOp .And [a] pos) t := by
  obtain ⟨te, p, sd⟩ := h
  exact ⟨te, fun X g => pw_and1 (p X g), sd⟩
theorem sw_or1 (h : ST c a t) : SW c (.BoolOp .Or [a] pos) t := by
  obtain ⟨te, p, sd⟩ := h
  exact ⟨te, fun X g => pw_or1 (p X g), sd⟩
theorem sw_and (h : ST c a t) (h' : SW c (.BoolOp .And (b :: rest) pos) u) : SW c (.BoolOp .And (a :: b :: rest) pos) (mAndT t u) := by
  obtain ⟨te, p, sd⟩ := h
  obtain ⟨te', p', sd'⟩ := h'
  exact ⟨_, fun X g => pw_and (p X g) (p' X g), sound_andT sd sd'⟩
theorem sw_or (h : ST c a t) (h' : SW c (.BoolOp .Or (b :: rest) pos) u) : SW c (.BoolOp .Or (a :: b :: rest) pos) (mOrT t u) := by
  obtain ⟨te, p, sd⟩ := h
  obtain ⟨te', p', sd'⟩ := h'
  exact ⟨_, fun X g => pw_or (p X g) (p' X g), sound_orT sd sd'⟩
theorem st_w (h : SW c e t) : ST c e t := by
  obtain ⟨te, p, sd⟩ := h
  exact ⟨te, fun X g => (p X g).pt, sd⟩
/-! ### and, or, not, if as values -/
def mAndV (ma mb : ME) : ME := fun s => (ma s).bind fun p => (peek p.1 p.2).bind fun d => (asB d).bind fun k => if k then mb p.2 else some (.val (.bl false), p.2)
def mOrV (ma mb : ME) : ME := fun s => (ma s).bind fun p => (peek p.1 p.2).bind fun d => (asB d).bind fun k => if k then some (.val (.bl true), p.2) else mb p.2
def mNotV (ma : ME) : ME := fun s => (ma s).bind fun p => (peek p.1 p.2).bind fun d => (asB d).bind fun k => some (.val (.bl (!k)), p.2)
theorem sound_andV {K : PySem.W.Frag} {ta tb : TE} {ma mb : ME} (ha : Sound K ta ma) (hb : Sound K tb mb) : Sound K (tAndV ta tb) (mAndV ma mb) := fun σ s M H r s' e rel Q q => by
  obtain ⟨⟨r1, s1⟩, e1, e⟩ := bd e
  obtain ⟨d, p1, e⟩ := bd e
  obtain ⟨k, e2, e⟩ := bd e
  refine ha σ s M H r1 s1 e1 rel _ fun v M1 H1 o => ⟨k, asB_at (o.held.at o.rel p1) e2, ?_⟩
  cases k with
  | true => exact hb σ s1 M1 H1 r s' e o.rel _ fun w M2 H2 o2 => q w M2 H2 (.behind o.t o2)
  | false => cases e; exact q _ M1 H1 (.behind o.t (.same o.rel (.bl false) trivial))
theorem sound_orV {K : PySem.W.Frag} {ta tb : TE} {ma mb : ME} (ha : Sound K ta ma) (hb : Sound K tb mb) : Sound K (tOrV ta tb) (mOrV ma mb) := fun σ s M H r s' e rel Q q => by
  obtain ⟨⟨r1, s1⟩, e1, e⟩ := bd e
  obtain ⟨d, p1, e⟩ := bd e
  obtain ⟨k, e2, e⟩ := bd e
  refine ha σ s M H r1 s1 e1 rel _ fun v M1 H1 o => ⟨k, asB_at (o.held.at o.rel p1) e2, ?_⟩
  cases k with
  | false => exact hb σ s1 M1 H1 r s' e o.rel _ fun w M2 H2 o2 => q w M2 H2 (.behind o.t o2)
  | true => cases e; exact q _ M1 H1 (.behind o.t (.same o.rel (.bl true) trivial))
theorem sound_notV {K : PySem.W.Frag} {ta : TE} {ma : ME} (ha : Sound K ta ma) : Sound K (tNotV ta) (mNotV ma) := fun σ s M H r s' e rel Q q => by
  obtain ⟨⟨r1, s1⟩, e1, e⟩ := bd e
  obtain ⟨d, p1, e⟩ := bd e
  obtain ⟨k, e2, e⟩ := bd e
  cases e
  exact ha σ s M H r1 _ e1 rel _ fun v M1 H1 o => ⟨k, asB_at (o.held.at o.rel p1) e2, q _ M1 H1 ⟨o.go, o.rel, .bl _, trivial⟩⟩
theorem se_one {op : BoolOp} (h : SE c a m) : SE c (.BoolOp op [a] pos) m := by
  obtain ⟨te, p, sd⟩ := h
  exact ⟨te, fun X g => pe_one (p X g), sd⟩
theorem se_and (ha : SE c a ma) (hb : SE c (.BoolOp .And (b :: rest) pos) mb) : SE c (.BoolOp .And (a :: b :: rest) pos) (mAndV ma mb) := by
  obtain ⟨ta, pa, sa⟩ := ha
  obtain ⟨tb, pb, sb⟩ := hb
  exact ⟨_, fun X g => pe_and (pa X g) (pb X g), sound_andV sa sb⟩
theorem se_or (ha : SE c a ma) (hb : SE c (.BoolOp .Or (b :: rest) pos) mb) : SE c (.BoolOp .Or (a :: b :: rest) pos) (mOrV ma mb) := by
  obtain ⟨ta, pa, sa⟩ := ha
  obtain ⟨tb, pb, sb⟩ := hb
  exact ⟨_, fun X g => pe_or (pa X g) (pb X g), sound_orV sa sb⟩
theorem se_not (ha : SE c a ma) : SE c (.UnaryOp .Not a pos) (mNotV ma) := by
  obtain ⟨ta, pa, sa⟩ := ha
  exact ⟨_, fun X g => pe_not (pa X g), sound_notV sa⟩
def mIf (t : MT) (ma mb : ME) : ME := fun s => (t s).bind fun p => if p.1 then ma p.2 else mb p.2
theorem sound_if {K : PySem.W.Frag} {tt : TT} {ta tb : TE} {t : MT} {ma mb : ME} (ht : SoundT K tt t) (ha : Sound K ta ma) (hb : Sound K tb mb) : Sound K (tIf tt ta tb) (mIf t ma mb) := fun σ s M H r s' e rel Q q => by
  obtain ⟨⟨k, s1⟩, e1, e⟩ := bd e
  refine ht σ s M H k s1 e1 rel _ fun M1 H1 o => ?_
  cases k with
  | true => exact ha σ s1 M1 H1 r s' e o.rel _ fun w M2 H2 o2 => q w M2 H2 (.behind o o2)
  | false => exact hb σ s1 M1 H1 r s' e o.rel _ fun w M2 H2 o2 => q w M2 H2 (.behind o o2)
theorem se_ifExp {cc : Expr} (ht : ST c cc t) (ha : SE c a ma) (hb : SE c b mb) : SE c (.IfExp cc a b pos) (mIf t ma mb) := by
  obtain ⟨tt, pt, st⟩ := ht
  obtain ⟨ta, pa, sa⟩ := ha
  obtain ⟨tb, pb, sb⟩ := hb
  exact ⟨_, fun X g => pe_ifExp (pt X g) (pa X g) (pb X g), sound_if st sa sb⟩
/-! ### one-place operations -/
def mUn (f : D → Option D) (ma : ME) : ME := fun s => (ma s).bind fun p => (peek p.1 p.2).bind fun d => (f d).bind fun z => some (.val z, p.2)
def fNeg : D → Option D
  | .int i => some (.int (-i))
  | _ => none
theorem se_neg (ha : SE c a ma) : SE c (.UnaryOp .USub a pos) (mUn fNeg ma) := by
  obtain ⟨ta, pa, sa⟩ := ha
  refine ⟨_, fun X g => pe_un un_neg (pa X g), fun σ s M H r s' e rel Q q => ?_⟩
  obtain ⟨⟨r1, s1⟩, e1, e⟩ := bd e
  obtain ⟨d, p1, e⟩ := bd e
  obtain ⟨z, e2, e⟩ := bd e
  cases e
  refine sa σ s M H r1 _ e1 rel _ fun v M1 H1 o => ?_
  have hv := o.held.at o.rel p1
  cases hv <;> try (cases e2; done)
  rename_i i
  cases e2
  exact ⟨i, rfl, q _ M1 H1 ⟨o.go, o.rel, .int _, trivial⟩⟩
/-! ### a op b op' c -/
def mChain (f g : D → D → Option D) (ma mb mc : ME) : ME := fun s => (ma s).bind fun p => (mb p.2).bind fun q => (peek p.1 q.2).bind fun d => (peek q.1 q.2).bind fun e => (f d e).bind fun z => (asB z).bind fun k =>
  if k then (mc q.2).bind fun r => (peek q.1 r.2).bind fun e' => (peek r.1 r.2).bind fun h => (g e' h).bind fun y => some (.val y, r.2) else some (.val (.bl false), q.2)
theorem se_chain {e3 : Expr} {mc : ME} {op op' : CmpOp} {r2 r3 : PySem.W.Frag → R2} {f g : D → D → Option D} (ho : ∀ X : Cx, OpR X (compareOp op) (r2 X.K)) (ho' : ∀ X : Cx, OpR X (compareOp op') (r3 X.K)) (h : Sc2 c.K (r2 c.K) f) (h' : Sc2 c.K (r3 c.K) g)
    (ha : SE c a ma) (hb : SE c b mb) (hc : SE c e3 mc) (hm : lastMarks [op, op'] [b, e3] = false := by with_unfolding_all rfl) : SE c (.Compare a [op, op'] [b, e3] pos) (mChain f g ma mb mc) := by
  obtain ⟨ta, pa, sa⟩ := ha
  obtain ⟨tb, pb, sb⟩ := hb
  obtain ⟨tc, pc, sc⟩ := hc
  refine ⟨_, fun X k => by
    have q1 := ho X
    have q2 := ho' X
    rw [k.K] at q1 q2
    exact pe_chain q1 q2 (pa X k) (pb X k) (pc X k) hm, fun σ s M H r s' e rel Q q => ?_⟩
  obtain ⟨⟨r1, s1⟩, e1, e⟩ := bd e
  obtain ⟨⟨r3, s2⟩, e2, e⟩ := bd e
  obtain ⟨d1, p1, e⟩ := bd e
  obtain ⟨d2, p2, e⟩ := bd e
  obtain ⟨z, e3, e⟩ := bd e
  obtain ⟨k, e4, e⟩ := bd e
  refine sa σ s M H r1 s1 e1 rel _ fun v M1 H1 o1 => sb σ s1 M1 H1 r3 s2 e2 o1.rel _ fun w M2 H2 o2 => ?_
  obtain ⟨go, hd⟩ := o1.then o2
  obtain ⟨u, hu, kk⟩ := h H2 v w d1 d2 z (hd.at o2.rel p1) (o2.held.at o2.rel p2) e3
  refine kk _ ⟨k, asB_at (hu M2) e4, ?_⟩
  have ot : OkT c.K σ s M H s2 M2 H2 := ⟨go, o2.rel⟩
  cases k with
  | true =>
    obtain ⟨⟨r4, s3⟩, e5, e⟩ := bd e
    obtain ⟨d3, p3, e⟩ := bd e
    obtain ⟨d4, p4, e⟩ := bd e
    obtain ⟨y, e6, e⟩ := bd e
    cases e
    refine sc σ s2 M2 H2 r4 _ e5 o2.rel _ fun x M3 H3 o3 => ?_
    obtain ⟨go3, hd3⟩ := o2.then o3
    obtain ⟨u', hu', kk'⟩ := h' H3 w x d3 d4 y (hd3.at o3.rel p3) (o3.held.at o3.rel p4) e6
    exact kk' _ (q u' M3 H3 (.behind ot ⟨o3.go, o3.rel, hu' M3, trivial⟩))
  | false =>
    cases e
    exact q _ M2 H2 (.behind ot (.same o2.rel (.bl false) trivial))
end
end Dm
set_option Elab.async false
set_option linter.all false
set_option maxRecDepth 100000
set_option maxHeartbeats 4000000
namespace Dm
open PySem PySem.Spec L2
set_option autoImplicit false

/-! ### argument lists -/
abbrev MA := S → Option (List R × S)
inductive Helds (K : PySem.W.Frag) (M H : Hp) (σ : L2.St) (s : S) : List V → List R → Prop
  | nil : Helds K M H σ s [] []
  | cons {v : V} {vs : List V} {r : R} {rs : List R} : Held K M H σ s v r → Helds K M H σ s vs rs → Helds K M H σ s (v :: vs) (r :: rs)
inductive News (H : Hp) : List V → List R → Prop
  | nil : News H [] []
  | cons {v : V} {vs : List V} {r : R} {rs : List R} : New H v r → News H vs rs → News H (v :: vs) (r :: rs)
structure OkA (K : PySem.W.Frag) (σ : L2.St) (s : S) (M H : Hp) (rs : List R) (s' : S) (vs : List V) (M' H' : Hp) : Prop where
  go : Go σ s M H σ s' M' H'
  rel : Rel K M' H' σ s'
  held : Helds K M' H' σ s' vs rs
  new : News H vs rs
def SoundA (K : PySem.W.Frag) (t : TA) (m : MA) : Prop :=
  ∀ (σ : L2.St) (s : S) (M H : Hp) (rs : List R) (s' : S), m s = some (rs, s') → Rel K M H σ s → ∀ Q : List V → Hp → Prop, (∀ vs M' H', OkA K σ s M H rs s' vs M' H' → Q vs H') → t σ H Q
def SA (c : Cd) (es : List Expr) (m : MA) : Prop := ∃ t : TA, (∀ X, Fits c X → PA X es t) ∧ SoundA c.K t m
def mNil : MA := fun s => some ([], s)
def mCons (m : ME) (ms : MA) : MA := fun s => (m s).bind fun p => (ms p.2).bind fun q => some (p.1 :: q.1, q.2)
theorem News.back {H H1 : Hp} {vs : List V} {rs : List R} (n : News H1 vs rs) (f : ∀ l, H1 l = none → H l = none) : News H vs rs := by
  induction n with
  | nil => exact .nil
  | cons h _ ih => exact .cons (h.back f) ih
section
variable {c : Cd} {e : Expr} {es : List Expr} {m : ME} {ms : MA}
theorem sa_nil : SA c [] mNil := ⟨_, fun _ _ => pa_nil, fun σ s M H rs s' e rel Q q => by cases e; exact q [] M H ⟨Go.refl, rel, .nil, .nil⟩⟩
theorem sa_cons (h : SE c e m) (hr : SA c es ms) (hs : ∀ env, starEach (e :: es) env = (false, eval e env) :: starEach es env := by intro _; rfl) : SA c (e :: es) (mCons m ms) := by
  obtain ⟨t, p, sd⟩ := h
  obtain ⟨ts, ps, sds⟩ := hr
  refine ⟨_, fun X g => pa_cons (p X g) (ps X g) (hs X.env), fun σ s M H rs s' e rel Q q => ?_⟩
  obtain ⟨⟨r1, s1⟩, e1, e⟩ := bd e
  obtain ⟨⟨r2, s2⟩, e2, e⟩ := bd e
  cases e
  refine sd σ s M H r1 s1 e1 rel _ fun v M1 H1 o1 => sds σ s1 M1 H1 r2 _ e2 o1.rel _ fun vs M2 H2 o2 => ?_
  exact q _ M2 H2 ⟨o1.go.trans o2.go, o2.rel, .cons (o1.held.go o2.go o2.rel) o2.held, .cons o1.new (o2.new.back fun l h => o1.go.free h)⟩
end
/-- all of them data that stays -/
def vals : List R → Option (List D)
  | [] => some []
  | .val d :: rs => (vals rs).bind fun ds => some (d :: ds)
  | _ :: _ => none
theorem vals_ats {K : PySem.W.Frag} {M H : Hp} {σ : L2.St} {s : S} : ∀ {vs : List V} {rs : List R} {ds : List D}, Helds K M H σ s vs rs → vals rs = some ds → Ats K M vs ds
  | _, _, _, .nil, e => by cases e; exact .nil
  | _, _, _, .cons (r := r) h t, e => by
    cases r with
    | val d =>
      obtain ⟨ds, e1, e⟩ := bd e
      cases e
      exact .cons h (vals_ats t e1)
    | own xs => cases e
    | slot i => cases e
/-! ### new things -/
section
variable {K : PySem.W.Frag} {σ : L2.St} {s : S} {M H : Hp} {p : Addr} {o : HO}
/-- something new that stays -/
theorem ok_new {ds : List D} {vs : List V} {d : D} (rel : Rel K M H σ s) (hp : H p = none) (h : At K (upd M p o) (.ref p) d) : Ok K σ s M H (.val d) s (.ref p) (upd M p o) (upd H p o) :=
  ⟨Go.grow (le_upd (le_none rel.le hp)) (le_upd hp) fun a u q z => by rw [upd_ne (ne_of_none q hp)]; exact z,
    rel.grow (le_upd (le_none rel.le hp)) (le_upd hp) (le_upd2 rel.le) fun a u q z => by rw [upd_ne (ne_of_none q hp)]; exact z, h, trivial⟩
theorem ok_tup {ds : List D} {vs : List V} (rel : Rel K M H σ s) (hp : H p = none) (h : Ats K M vs ds) : Ok K σ s M H (.val (.tup ds)) s (.ref p) (upd M p (.tup vs)) (upd H p (.tup vs)) :=
  ok_new (ds := []) (vs := []) rel hp (.tup (SqT.of upd_same) (h.mono (le_upd (le_none rel.le hp))))
/-- a new list -/
theorem ok_lst {ds : List D} {vs : List V} (rel : Rel K M H σ s) (hp : H p = none) (h : Ats K M vs ds) : Ok K σ s M H (.own ds) s (.ref p) M (upd H p (.lst vs)) := by
  refine ⟨Go.grow (Le.refl _) (le_upd hp) fun a u q z => z, rel.grow (Le.refl _) (le_upd hp) (le_updr rel.le (le_none rel.le hp)) fun a u q z => z, ⟨p, vs, rfl, upd_same, le_none rel.le hp, rel.not_owned hp, h⟩, ⟨p, rfl, hp⟩⟩
end
theorem OkA.t {K : PySem.W.Frag} {σ : L2.St} {s : S} {M H : Hp} {rs : List R} {s' : S} {vs : List V} {M' H' : Hp} (o : OkA K σ s M H rs s' vs M' H') : OkT K σ s M H s' M' H' := ⟨o.go, o.rel⟩
def mTup (ms : MA) : ME := fun s => (ms s).bind fun p => (vals p.1).bind fun ds => if ds.length ≤ 100000 then some (.val (.tup ds), p.2) else none
def mLst (ms : MA) : ME := fun s => (ms s).bind fun p => (vals p.1).bind fun ds => if ds.length ≤ 100000 then some (.own ds, p.2) else none
theorem sz_of {n : Nat} (h : n ≤ 100000) : n ≤ sizeLine := Nat.le_trans h (by decide)
section
variable {c : Cd} {e a b : Expr} {es : List Expr} {pos : Pos} {m ma mb : ME} {ms : MA}
theorem se_tup {x1 : _} (h : SA c es ms) : SE c (.Tuple es x1 pos) (mTup ms) := by
  obtain ⟨t, p, sd⟩ := h
  refine ⟨_, fun X g => pe_tup (p X g), fun σ s M H r s' e rel Q q => ?_⟩
  obtain ⟨⟨rs, s1⟩, e1, e⟩ := bd e
  obtain ⟨ds, e2, e⟩ := bd e
  split at e
  · rename_i hl
    cases e
    refine sd σ s M H rs _ e1 rel _ fun vs M1 H1 o => ?_
    have ha := vals_ats o.held e2
    exact ⟨sz_of (by rw [ha.length]; exact hl), fun p hp => q _ _ _ (.behind o.t (ok_tup o.rel hp ha))⟩
  · cases e
theorem se_lst (h : SA c es ms) : SE c (.List es pos) (mLst ms) := by
  obtain ⟨t, p, sd⟩ := h
  refine ⟨_, fun X g => pe_lst (p X g), fun σ s M H r s' e rel Q q => ?_⟩
  obtain ⟨⟨rs, s1⟩, e1, e⟩ := bd e
  obtain ⟨ds, e2, e⟩ := bd e
  split at e
  · rename_i hl
    cases e
    refine sd σ s M H rs _ e1 rel _ fun vs M1 H1 o => ?_
    have ha := vals_ats o.held e2
    exact ⟨sz_of (by rw [ha.length]; exact hl), fun p hp => q _ _ _ (.behind o.t (ok_lst o.rel hp ha))⟩
  · cases e
/-! ### subscripts, slices -/
def seqD : D → Option (List D)
  | .tup xs => some xs
  | .lst xs => some xs
  | _ => none
def asI : D → Option Int
  | .int i => some i
  | _ => none
theorem asI_at {K : PySem.W.Frag} {H : Hp} {v : V} {d : D} {i : Int} (h : At K H v d) (e : asI d = some i) : v = .int i := by
  cases h <;> try (cases e; done)
  cases e; rfl
theorem Held.seq {K : PySem.W.Frag} {M H : Hp} {σ : L2.St} {s : S} {v : V} {r : R} {d : D} {xs : List D} (h : Held K M H σ s v r) (rel : Rel K M H σ s) (e : Dm.peek r s = some d) (e2 : seqD d = some xs) :
    ∃ l vs, v = .ref l ∧ (SqL K H l vs ∨ SqT K H l vs) ∧ Ats K M vs xs := by
  cases d <;> try (cases e2; done)
  · cases e2
    obtain ⟨l, vs, a, b, c⟩ := h.tuple rel e
    exact ⟨l, vs, a, .inr b, c⟩
  · cases e2
    obtain ⟨l, vs, a, b, c⟩ := h.list rel e
    exact ⟨l, vs, a, .inl b, c⟩
def mIx (ma mb : ME) : ME := fun s => (ma s).bind fun p => (mb p.2).bind fun q => (peek p.1 q.2).bind fun d => (seqD d).bind fun xs => (peek q.1 q.2).bind fun e => (asI e).bind fun i => (atI xs i).bind fun z => some (.val z, q.2)
theorem ats_ix {K : PySem.W.Frag} {H : Hp} {vs : List V} {ds : List D} {i : Int} {z : D} (h : Ats K H vs ds) (e : atI ds i = some z) : ∃ v, atI vs i = some v ∧ At K H v z := by
  unfold atI at e ⊢
  rw [h.length]
  obtain ⟨j, e1, e2⟩ := bd e
  obtain ⟨v, a, b⟩ := h.get e2
  exact ⟨v, by rw [e1]; exact a, b⟩
theorem se_ix (ha : SE c a ma) (hb : SE c b mb) (hs : PlainIx b := by exact fun _ _ => rfl) : SE c (.Subscript a b pos) (mIx ma mb) := by
  obtain ⟨ta, pa, sa⟩ := ha
  obtain ⟨tb, pb, sb⟩ := hb
  refine ⟨tOp (rIx c.K) ta tb, fun X g => by have := ix_seq (X := X); rw [g.K] at this; exact pe_ix this (pa X g) (pb X g) hs, fun σ s M H r s' e rel Q q => ?_⟩
  obtain ⟨⟨r1, s1⟩, e1, e⟩ := bd e
  obtain ⟨⟨r3, s2⟩, e2, e⟩ := bd e
  obtain ⟨d1, p1, e⟩ := bd e
  obtain ⟨xs, p3, e⟩ := bd e
  obtain ⟨d2, p2, e⟩ := bd e
  obtain ⟨i, p4, e⟩ := bd e
  obtain ⟨z, p5, e⟩ := bd e
  cases e
  refine sa σ s M H r1 s1 e1 rel _ fun v M1 H1 o1 => sb σ s1 M1 H1 r3 _ e2 o1.rel _ fun w M2 H2 o2 => ?_
  obtain ⟨g, hd⟩ := o1.then o2
  obtain ⟨l, vs, rfl, hsq, hats⟩ := hd.seq o2.rel p1 p3
  have hw := asI_at (o2.held.at o2.rel p2) p4
  subst hw
  obtain ⟨u, hu, hat⟩ := ats_ix hats p5
  have fin := q u M2 H2 ⟨g, o2.rel, hat, trivial⟩
  rcases hsq with h | h
  · exact .inl ⟨l, vs, i, u, rfl, rfl, h, hu, fin⟩
  · exact .inr (.inl ⟨l, vs, i, u, rfl, rfl, h, hu, fin⟩)
abbrev MO := S → Option (Option Int × S)
def SO (c : Cd) (e : Option Expr) (m : MO) : Prop := ∃ t : TO, (∀ X, Fits c X → PO X e t) ∧ ∀ (σ : L2.St) (s : S) (M H : Hp) (o : Option Int) (s' : S), m s = some (o, s') → Rel c.K M H σ s → ∀ Q : Option Int → Hp → Prop, (∀ M' H', OkT c.K σ s M H s' M' H' → Q o H') → t σ H Q
def mNo : MO := fun s => some (none, s)
def mPart (m : ME) : MO := fun s => (m s).bind fun p => (peek p.1 p.2).bind fun d => (asI d).bind fun i => some (some i, p.2)
theorem so_none : SO c none mNo := ⟨_, fun _ _ => po_none, fun σ s M H o s' e rel Q q => by cases e; exact q M H (.refl rel)⟩
theorem so_some (h : SE c e m) : SO c (some e) (mPart m) := by
  obtain ⟨t, p, sd⟩ := h
  refine ⟨_, fun X g => po_some (p X g), fun σ s M H o s' e rel Q q => ?_⟩
  obtain ⟨⟨r1, s1⟩, e1, e⟩ := bd e
  obtain ⟨d1, p1, e⟩ := bd e
  obtain ⟨i, p2, e⟩ := bd e
  cases e
  exact sd σ s M H r1 _ e1 rel _ fun v M1 H1 o1 => ⟨i, asI_at (o1.held.at o1.rel p1) p2, q M1 H1 o1.t⟩
def cutD (xs : List D) (lo hi : Option Int) : List D := (xs.drop (HT.sIx xs.length 0 lo)).take (HT.sIx xs.length xs.length hi - HT.sIx xs.length 0 lo)
theorem ats_cut {K : PySem.W.Frag} {H : Hp} {vs : List V} {ds : List D} (h : Ats K H vs ds) (lo hi : Option Int) : Ats K H (cutV vs lo hi) (cutD ds lo hi) := by
  unfold cutV cutD
  rw [h.length]
  exact (h.drop _).take _
def mSlL (ma : ME) (ml mh : MO) : ME := fun s => (ma s).bind fun p => (ml p.2).bind fun l => (mh l.2).bind fun h => (peek p.1 h.2).bind fun d => match d with
  | .lst xs => some (.own (cutD xs l.1 h.1), h.2)
  | _ => none
theorem se_slL {lo hi : Option Expr} {p2 : Pos} {ml mh : MO} (ha : SE c a ma) (hl : SO c lo ml) (hh : SO c hi mh) : SE c (.Subscript a (.Slice lo hi none p2) pos) (mSlL ma ml mh) := by
  obtain ⟨ta, pa, sa⟩ := ha
  obtain ⟨tl, pl, sl⟩ := hl
  obtain ⟨th, ph, sh⟩ := hh
  refine ⟨tSl (rSlL c.K) ta tl th, fun X g => by have := sl_list (X := X); rw [g.K] at this; exact pe_slice this (pa X g) (pl X g) (ph X g), fun σ s M H r s' e rel Q q => ?_⟩
  obtain ⟨⟨r1, s1⟩, e1, e⟩ := bd e
  obtain ⟨⟨o2, s2⟩, e2, e⟩ := bd e
  obtain ⟨⟨o3, s3⟩, e3, e⟩ := bd e
  obtain ⟨d1, p1, e⟩ := bd e
  cases d1 <;> try (cases e; done)
  rename_i xs
  cases e
  refine sa σ s M H r1 s1 e1 rel _ fun v M1 H1 k1 => sl σ s1 M1 H1 o2 s2 e2 k1.rel _ fun M2 H2 k2 => sh σ s2 M2 H2 o3 _ e3 k2.rel _ fun M3 H3 k3 => ?_
  have hd := k1.held.go (k2.go.trans k3.go) k3.rel
  obtain ⟨l, vs, rfl, hsq, hats⟩ := hd.list k3.rel p1
  exact ⟨l, vs, rfl, hsq, fun p hp => q _ _ _ (.behind (k1.t.trans (k2.trans k3)) (ok_lst k3.rel hp (ats_cut hats _ _)))⟩
end
end Dm
set_option Elab.async false
set_option linter.all false
set_option maxRecDepth 100000
set_option maxHeartbeats 4000000
namespace Dm
open PySem PySem.Spec L2
set_option autoImplicit false

/-! ### built-in functions by what the arguments are -/
def peeks : List R → S → Option (List D)
  | [], _ => some []
  | r :: rs, s => (peek r s).bind fun d => (peeks rs s).bind fun ds => some (d :: ds)
theorem Helds.ats {K : PySem.W.Frag} {M H : Hp} {σ : L2.St} {s : S} : ∀ {vs : List V} {rs : List R} {ds : List D}, Helds K M H σ s vs rs → Rel K M H σ s → peeks rs s = some ds → Ats K H vs ds
  | _, _, _, .nil, _, e => by cases e; exact .nil
  | _, _, _, .cons h t, rel, e => by
    obtain ⟨d, e1, e⟩ := bd e
    obtain ⟨ds, e2, e⟩ := bd e
    cases e
    exact .cons (h.at rel e1) (Helds.ats t rel e2)
abbrev RC := List V → Hp → VK → Prop
/-- the answer is a scalar -/
def Sc1 (K : PySem.W.Frag) (r : RC) (f : List D → Option D) : Prop := ∀ (H : Hp) (vs : List V) (ds : List D) (z : D), Ats K H vs ds → f ds = some z → ∃ u, (∀ M, At K M u z) ∧ ∀ Q : VK, Q u H → r vs H Q
def mCS (f : List D → Option D) (ms : MA) : ME := fun s => (ms s).bind fun p => (peeks p.1 p.2).bind fun ds => (f ds).bind fun z => some (.val z, p.2)
theorem sound_cs {K : PySem.W.Frag} {r : RC} {f : List D → Option D} {ta : TA} {ms : MA} (h : Sc1 K r f) (ha : SoundA K ta ms) : Sound K (tCB r ta) (mCS f ms) := fun σ s M H r' s' e rel Q q => by
  obtain ⟨⟨rs, s1⟩, e1, e⟩ := bd e
  obtain ⟨ds, e2, e⟩ := bd e
  obtain ⟨z, e3, e⟩ := bd e
  cases e
  refine ha σ s M H rs _ e1 rel _ fun vs M1 H1 o => ?_
  obtain ⟨u, hu, k⟩ := h H1 vs ds z (o.held.ats o.rel e2) e3
  exact k _ (q u M1 H1 ⟨o.go, o.rel, hu M1, trivial⟩)
/-- the answer is a new list (a new tuple) of what stays -/
def SL1 (K : PySem.W.Frag) (r : RC) (f : List D → Option (List D)) : Prop := ∀ (M H : Hp) (σ : L2.St) (s : S) (vs : List V) (rs : List R) (ds : List D) (zs : List D), Rel K M H σ s → Helds K M H σ s vs rs → peeks rs s = some ds → f ds = some zs →
  ∀ Q : VK, (∀ p ws, H p = none → Ats K M ws zs → Q (.ref p) (upd H p (.lst ws))) → r vs H Q
def mCL (f : List D → Option (List D)) (ms : MA) : ME := fun s => (ms s).bind fun p => (peeks p.1 p.2).bind fun ds => (f ds).bind fun z => some (.own z, p.2)
theorem sound_cl {K : PySem.W.Frag} {r : RC} {f : List D → Option (List D)} {ta : TA} {ms : MA} (h : SL1 K r f) (ha : SoundA K ta ms) : Sound K (tCB r ta) (mCL f ms) := fun σ s M H r' s' e rel Q q => by
  obtain ⟨⟨rs, s1⟩, e1, e⟩ := bd e
  obtain ⟨ds, e2, e⟩ := bd e
  obtain ⟨z, e3, e⟩ := bd e
  cases e
  refine ha σ s M H rs _ e1 rel _ fun vs M1 H1 o => ?_
  exact h M1 H1 σ _ vs rs ds _ o.rel o.held e2 e3 _ fun p ws hp hw => q _ _ _ (.behind o.t (ok_lst o.rel hp hw))
section
variable {c : Cd} {e a b : Expr} {es : List Expr} {p pos : Pos} {ms : MA}
/-- f is a built-in that no name of the module hides -/
theorem se_callB {x : Str} {id : String} {r : PySem.W.Frag → RC} {f : List D → Option D} (hc : ∀ X : Cx, Fits c X → CallR X (.builtin id) (r X.K)) (h : Sc1 c.K (r c.K) f) (hg : ∀ X : Cx, Fits c X → Gl X x) (hm : c.mg x = none) (hv : bootBuiltins x = some (.builtin id))
    (ha : SA c (e :: es) ms) (hn : x ≠ "__name__" := by decide) (hdb : (x == ("__debug__" : Str)) = false := by decide)
    (he : ∀ env, starEach (e :: es) env = (false, eval e env) :: starEach es env := by intro _; rfl) (hpl : ∀ env, (backTo pos (starEach es env)).any (·.1) = false := by intro _; rfl) : SE c (.Call (.Name x p) (e :: es) [] pos) (mCS f ms) := by
  obtain ⟨ta, pa, sa⟩ := ha
  refine ⟨_, fun X g => by have := hc X g; rw [g.K] at this; exact pe_callB this (hg X g) (by rw [g.mg]; exact hm) hv (pa X g) hn hdb (he X.env) (hpl X.env), sound_cs h sa⟩
theorem se_callTy {x : Str} {T : String} {r : PySem.W.Frag → RC} {f : List D → Option D} (hc : ∀ X : Cx, Fits c X → CallR X (.type T) (r X.K)) (h : Sc1 c.K (r c.K) f) (hg : ∀ X : Cx, Fits c X → Gl X x) (hm : c.mg x = none) (hv : bootBuiltins x = some (.type T))
    (ha : SA c (e :: es) ms) (hn : x ≠ "__name__" := by decide) (hdb : (x == ("__debug__" : Str)) = false := by decide)
    (he : ∀ env, starEach (e :: es) env = (false, eval e env) :: starEach es env := by intro _; rfl) (hpl : ∀ env, (backTo pos (starEach es env)).any (·.1) = false := by intro _; rfl) : SE c (.Call (.Name x p) (e :: es) [] pos) (mCS f ms) := by
  obtain ⟨ta, pa, sa⟩ := ha
  refine ⟨_, fun X g => by have := hc X g; rw [g.K] at this; exact pe_callTy this (hg X g) (by rw [g.mg]; exact hm) hv (pa X g) hn hdb (he X.env) (hpl X.env), sound_cs h sa⟩
theorem se_callBL {x : Str} {id : String} {r : PySem.W.Frag → RC} {f : List D → Option (List D)} (hc : ∀ X : Cx, Fits c X → CallR X (.builtin id) (r X.K)) (h : SL1 c.K (r c.K) f) (hg : ∀ X : Cx, Fits c X → Gl X x) (hm : c.mg x = none) (hv : bootBuiltins x = some (.builtin id))
    (ha : SA c (e :: es) ms) (hn : x ≠ "__name__" := by decide) (hdb : (x == ("__debug__" : Str)) = false := by decide)
    (he : ∀ env, starEach (e :: es) env = (false, eval e env) :: starEach es env := by intro _; rfl) (hpl : ∀ env, (backTo pos (starEach es env)).any (·.1) = false := by intro _; rfl) : SE c (.Call (.Name x p) (e :: es) [] pos) (mCL f ms) := by
  obtain ⟨ta, pa, sa⟩ := ha
  refine ⟨_, fun X g => by have := hc X g; rw [g.K] at this; exact pe_callB this (hg X g) (by rw [g.mg]; exact hm) hv (pa X g) hn hdb (he X.env) (hpl X.env), sound_cl h sa⟩
theorem se_callTyL {x : Str} {T : String} {r : PySem.W.Frag → RC} {f : List D → Option (List D)} (hc : ∀ X : Cx, Fits c X → CallR X (.type T) (r X.K)) (h : SL1 c.K (r c.K) f) (hg : ∀ X : Cx, Fits c X → Gl X x) (hm : c.mg x = none) (hv : bootBuiltins x = some (.type T))
    (ha : SA c (e :: es) ms) (hn : x ≠ "__name__" := by decide) (hdb : (x == ("__debug__" : Str)) = false := by decide)
    (he : ∀ env, starEach (e :: es) env = (false, eval e env) :: starEach es env := by intro _; rfl) (hpl : ∀ env, (backTo pos (starEach es env)).any (·.1) = false := by intro _; rfl) : SE c (.Call (.Name x p) (e :: es) [] pos) (mCL f ms) := by
  obtain ⟨ta, pa, sa⟩ := ha
  refine ⟨_, fun X g => by have := hc X g; rw [g.K] at this; exact pe_callTy this (hg X g) (by rw [g.mg]; exact hm) hv (pa X g) hn hdb (he X.env) (hpl X.env), sound_cl h sa⟩
end
/-! ### the single ones -/
section
variable {K : PySem.W.Frag}
def fLen : List D → Option D
  | [d] => (seqD d).bind fun xs => some (.int xs.length)
  | _ => none
theorem At.seq {H : Hp} {v : V} {d : D} {xs : List D} (h : At K H v d) (e : seqD d = some xs) : ∃ l vs, v = .ref l ∧ (SqL K H l vs ∨ SqT K H l vs) ∧ Ats K H vs xs := by
  cases h <;> try (cases e; done)
  · rename_i h1 h2; cases e; exact ⟨_, _, rfl, .inl h1, h2⟩
  · rename_i h1 h2; cases e; exact ⟨_, _, rfl, .inr h1, h2⟩
theorem ats1 {H : Hp} {vs : List V} {d : D} (h : Ats K H vs [d]) : ∃ v, vs = [v] ∧ At K H v d := by
  cases h with
  | cons a b => cases b; exact ⟨_, rfl, a⟩
theorem ats2 {H : Hp} {vs : List V} {d e : D} (h : Ats K H vs [d, e]) : ∃ v w, vs = [v, w] ∧ At K H v d ∧ At K H w e := by
  cases h with
  | cons a b =>
    cases b with
    | cons b c => cases c; exact ⟨_, _, rfl, a, b⟩
abbrev rLen (K : PySem.W.Frag) : RC := fun xs H Q => ∃ p ys, xs = [V.ref p] ∧ (SqL K H p ys ∨ SqT K H p ys) ∧ Q (.int ys.length) H
theorem sc_len : Sc1 K (rLen K) fLen := fun H vs ds z h e => by
  unfold fLen at e
  split at e
  · rename_i d
    obtain ⟨xs, e1, e⟩ := bd e
    cases e
    obtain ⟨v, rfl, ha⟩ := ats1 h
    obtain ⟨l, ws, rfl, hs, hw⟩ := ha.seq e1
    exact ⟨.int xs.length, fun _ => .int _, fun Q q => ⟨l, ws, rfl, hs, by rw [hw.length]; exact q⟩⟩
  · cases e
def fI1 (g : Int → Int) : List D → Option D
  | [.int i] => some (.int (g i))
  | _ => none
def fI2 (g : Int → Int → Int) : List D → Option D
  | [.int i, .int j] => some (.int (g i j))
  | _ => none
theorem atsI1 {H : Hp} {vs : List V} {i : Int} (h : Ats K H vs [.int i]) : vs = [.int i] := by
  obtain ⟨v, rfl, ha⟩ := ats1 h
  cases ha; rfl
theorem atsI2 {H : Hp} {vs : List V} {i j : Int} (h : Ats K H vs [.int i, .int j]) : vs = [.int i, .int j] := by
  obtain ⟨v, w, rfl, ha, hb⟩ := ats2 h
  cases ha; cases hb; rfl
abbrev gAbs : Int → Int := fun i => if i < 0 then -i else i
abbrev rAbs (K : PySem.W.Frag) : RC := fun xs H Q => ∃ i, xs = [V.int i] ∧ Q (.int (if i < 0 then -i else i)) H
theorem sc_abs : Sc1 K (rAbs K) (fI1 gAbs) := fun H vs ds z h e => by
  unfold fI1 at e
  split at e
  · cases e
    exact ⟨_, fun _ => .int _, fun Q q => ⟨_, atsI1 h, q⟩⟩
  · cases e
abbrev rInt1 (K : PySem.W.Frag) : RC := fun xs H Q => (∃ i, xs = [V.int i] ∧ Q (V.int i) H) ∨ ∃ k, xs = [V.bl k] ∧ Q (.int (if k then 1 else 0)) H
theorem sc_int : Sc1 K (rInt1 K) (fI1 fun i => i) := fun H vs ds z h e => by
  unfold fI1 at e
  split at e
  · cases e
    exact ⟨_, fun _ => .int _, fun Q q => .inl ⟨_, atsI1 h, q⟩⟩
  · cases e
abbrev gMax : Int → Int → Int := fun i j => if j > i then j else i
abbrev gMin : Int → Int → Int := fun i j => if j < i then j else i
abbrev rMax2 (K : PySem.W.Frag) : RC := fun xs H Q => ∃ i j, xs = [V.int i, .int j] ∧ Q (.int (if j > i then j else i)) H
theorem sc_max : Sc1 K (rMax2 K) (fI2 gMax) := fun H vs ds z h e => by
  unfold fI2 at e
  split at e
  · cases e
    exact ⟨_, fun _ => .int _, fun Q q => ⟨_, _, atsI2 h, q⟩⟩
  · cases e
abbrev rMin2 (K : PySem.W.Frag) : RC := fun xs H Q => ∃ i j, xs = [V.int i, .int j] ∧ Q (.int (if j < i then j else i)) H
theorem sc_min : Sc1 K (rMin2 K) (fI2 gMin) := fun H vs ds z h e => by
  unfold fI2 at e
  split at e
  · cases e
    exact ⟨_, fun _ => .int _, fun Q q => ⟨_, _, atsI2 h, q⟩⟩
  · cases e
/-- all of them truth values, whole numbers -/
def boolsD : List D → Option (List Bool)
  | [] => some []
  | d :: ds => (asB d).bind fun b => (boolsD ds).bind fun bs => some (b :: bs)
def intsD : List D → Option (List Int)
  | [] => some []
  | d :: ds => (asI d).bind fun b => (intsD ds).bind fun bs => some (b :: bs)
theorem bools_at {H : Hp} : ∀ {vs : List V} {ds : List D} {bs : List Bool}, Ats K H vs ds → boolsD ds = some bs → vs = bs.map V.bl
  | _, _, _, .nil, e => by cases e; rfl
  | _, _, _, .cons h t, e => by
    obtain ⟨b, e1, e⟩ := bd e
    obtain ⟨bs, e2, e⟩ := bd e
    cases e
    rw [asB_at h e1, bools_at t e2]; rfl
theorem ints_at {H : Hp} : ∀ {vs : List V} {ds : List D} {bs : List Int}, Ats K H vs ds → intsD ds = some bs → vs = bs.map V.int
  | _, _, _, .nil, e => by cases e; rfl
  | _, _, _, .cons h t, e => by
    obtain ⟨b, e1, e⟩ := bd e
    obtain ⟨bs, e2, e⟩ := bd e
    cases e
    rw [asI_at h e1, ints_at t e2]; rfl
theorem ats_ints {H : Hp} : ∀ ns : List Int, Ats K H (ns.map V.int) (ns.map D.int)
  | [] => .nil
  | n :: ns => .cons (.int n) (ats_ints ns)
theorem ints_map : ∀ ns : List Int, intsD (ns.map D.int) = some ns
  | [] => rfl
  | n :: ns => by
    show (asI (.int n)).bind (fun b => (intsD (ns.map D.int)).bind fun bs => some (b :: bs)) = _
    rw [ints_map ns]; rfl
def fAll : List D → Option D
  | [.lst xs] => (boolsD xs).bind fun bs => some (.bl (bs.all id))
  | _ => none
def fAny : List D → Option D
  | [.lst xs] => (boolsD xs).bind fun bs => some (.bl (bs.any id))
  | _ => none
theorem sc_all : Sc1 K (rAll K) fAll := fun H vs ds z h e => by
  unfold fAll at e
  split at e
  · obtain ⟨bs, e1, e⟩ := bd e
    cases e
    obtain ⟨v, rfl, ha⟩ := ats1 h
    cases ha with
    | lst h1 h2 =>
      rw [bools_at h2 e1] at h1
      exact ⟨_, fun _ => .bl _, fun Q q => ⟨_, bs, rfl, h1, q⟩⟩
  · cases e
theorem sc_any : Sc1 K (rAny K) fAny := fun H vs ds z h e => by
  unfold fAny at e
  split at e
  · obtain ⟨bs, e1, e⟩ := bd e
    cases e
    obtain ⟨v, rfl, ha⟩ := ats1 h
    cases ha with
    | lst h1 h2 =>
      rw [bools_at h2 e1] at h1
      exact ⟨_, fun _ => .bl _, fun Q q => ⟨_, bs, rfl, h1, q⟩⟩
  · cases e
/-! list(x), sorted(x), tuple(x) -/
def fList : List D → Option (List D)
  | [d] => seqD d
  | _ => none
theorem helds1 {M H : Hp} {σ : L2.St} {s : S} {vs : List V} {rs : List R} {d : D} (h : Helds K M H σ s vs rs) (e : peeks rs s = some [d]) : ∃ v r, vs = [v] ∧ Held K M H σ s v r ∧ peek r s = some d := by
  cases h with
  | nil => cases e
  | cons h t =>
    obtain ⟨d', e1, e⟩ := bd e
    obtain ⟨ds, e2, e⟩ := bd e
    cases e
    cases t with
    | nil => exact ⟨_, _, rfl, h, e1⟩
    | cons _ _ =>
      obtain ⟨_, _, e2⟩ := bd e2
      obtain ⟨_, _, e2⟩ := bd e2
      cases e2
abbrev rList1 (K : PySem.W.Frag) : RC := fun xs H Q => ∃ p ys, xs = [V.ref p] ∧ (SqL K H p ys ∨ SqT K H p ys) ∧ ∀ l, H l = none → Q (.ref l) (upd H l (.lst ys))
theorem sl_list1 : SL1 K (rList1 K) fList := fun M H σ s vs rs ds zs rel h e e2 Q q => by
  unfold fList at e2
  split at e2
  · obtain ⟨v, r, rfl, hv, hp⟩ := helds1 h e
    obtain ⟨l, ws, rfl, hs, hw⟩ := hv.seq rel hp e2
    exact ⟨l, ws, rfl, hs, fun l' hl => q l' ws hl hw⟩
  · cases e2
/-- the whole numbers in order -/
def isort : List Int → List Int := fun ns => ns.mergeSort (fun a b => decide (a ≤ b))
def fSorted : List D → Option (List D)
  | [.lst xs] => (intsD xs).bind fun ns => some ((isort ns).map D.int)
  | _ => none
theorem isort_of {ns ms : List Int} (p : ms.Perm ns) (o : ms.Pairwise (· ≤ ·)) : ms = isort ns := by
  unfold isort
  have p2 : ms.Perm (ns.mergeSort (fun a b => decide (a ≤ b))) := p.trans (List.mergeSort_perm ns _).symm
  have o2 : (ns.mergeSort (fun a b => decide (a ≤ b))).Pairwise (· ≤ ·) := by
    have := List.pairwise_mergeSort (le := fun a b : Int => decide (a ≤ b)) (by intro a b c; simp; omega) (by intro a b; simp; omega) ns
    exact this.imp (by intro a b h; simpa using h)
  exact List.Perm.eq_of_pairwise (fun a b _ _ h1 h2 => Int.le_antisymm h1 h2) o o2 p2
theorem sl_sorted : SL1 K (rSortedI K) fSorted := fun M H σ s vs rs ds zs rel h e e2 Q q => by
  unfold fSorted at e2
  split at e2
  · obtain ⟨ns, e3, e2⟩ := bd e2
    cases e2
    obtain ⟨v, r, rfl, hv, hp⟩ := helds1 h e
    obtain ⟨l, ws, rfl, hs, hw⟩ := hv.list rel hp
    rw [ints_at hw e3] at hs
    refine ⟨l, ns, rfl, hs, fun ns' p pm od hn => q p _ hn ?_⟩
    rw [isort_of pm od]
    exact ats_ints _
  · cases e2
def fTup : List D → Option (List D)
  | [d] => seqD d
  | _ => none
end
section
variable {c : Cd} {e a b : Expr} {es : List Expr} {p pos : Pos} {ms : MA}
/-- tuple(x): of a list a new tuple, of a tuple itself -/
def mTupOf (ms : MA) : ME := fun s => (ms s).bind fun p => (peeks p.1 p.2).bind fun ds => (fTup ds).bind fun z => some (.val (.tup z), p.2)
theorem se_tupOf (hg : ∀ X : Cx, Fits c X → Gl X "tuple") (hm : c.mg "tuple" = none) (ha : SA c (e :: es) ms)
    (he : ∀ env, starEach (e :: es) env = (false, eval e env) :: starEach es env := by intro _; rfl) (hpl : ∀ env, (backTo pos (starEach es env)).any (·.1) = false := by intro _; rfl) : SE c (.Call (.Name "tuple" p) (e :: es) [] pos) (mTupOf ms) := by
  obtain ⟨ta, pa, sa⟩ := ha
  refine ⟨_, fun X g => by have := call_tuple_of (X := X); rw [g.K] at this; exact pe_callTy this (hg X g) (by rw [g.mg]; exact hm) (by decide +kernel) (pa X g) (by decide) (by decide) (he X.env) (hpl X.env), fun σ s M H r' s' e rel Q q => ?_⟩
  obtain ⟨⟨rs, s1⟩, e1, e⟩ := bd e
  obtain ⟨ds, e2, e⟩ := bd e
  obtain ⟨z, e3, e⟩ := bd e
  cases e
  refine sa σ s M H rs _ e1 rel _ fun vs M1 H1 o => ?_
  unfold fTup at e3
  split at e3
  · rename_i d
    obtain ⟨v, r, rfl, hv, hp⟩ := helds1 o.held e2
    cases d <;> try (cases e3; done)
    · cases e3
      rcases hv.peek o.rel hp with q1 | ⟨l, ws, xs, rfl, h1, h2, h3, h4⟩
      · cases q1 with
        | tup h1 h2 => exact ⟨_, _, rfl, .inr ⟨o.rel.le.sqT h1, q _ M1 H1 ⟨o.go, o.rel, .tup h1 h2, trivial⟩⟩⟩
      · cases h4
    · cases e3
      obtain ⟨l, ws, rfl, hs, hw⟩ := hv.list o.rel hp
      exact ⟨l, ws, rfl, .inl ⟨hs, fun p hp => q _ _ _ (.behind o.t (ok_tup o.rel hp hw))⟩⟩
  · cases e3
/-- divmod(i, j) -/
instance (i j : Int) : Decidable (CDiv i j) := by unfold CDiv; infer_instance
def fDm : List D → Option (List D)
  | [.int i, .int j] => if CDiv i j then some [.int (i / j), .int (i % j)] else none
  | _ => none
def mTupNew (f : List D → Option (List D)) (ms : MA) : ME := fun s => (ms s).bind fun p => (peeks p.1 p.2).bind fun ds => (f ds).bind fun z => some (.val (.tup z), p.2)
theorem se_divmod (hg : ∀ X : Cx, Fits c X → Gl X "divmod") (hm : c.mg "divmod" = none) (ha : SA c (e :: es) ms)
    (he : ∀ env, starEach (e :: es) env = (false, eval e env) :: starEach es env := by intro _; rfl) (hpl : ∀ env, (backTo pos (starEach es env)).any (·.1) = false := by intro _; rfl) : SE c (.Call (.Name "divmod" p) (e :: es) [] pos) (mTupNew fDm ms) := by
  obtain ⟨ta, pa, sa⟩ := ha
  refine ⟨_, fun X g => pe_callB (call_divmod) (hg X g) (by rw [g.mg]; exact hm) (by decide +kernel) (pa X g) (by decide) (by decide) (he X.env) (hpl X.env), fun σ s M H r' s' e rel Q q => ?_⟩
  obtain ⟨⟨rs, s1⟩, e1, e⟩ := bd e
  obtain ⟨ds, e2, e⟩ := bd e
  obtain ⟨z, e3, e⟩ := bd e
  cases e
  refine sa σ s M H rs _ e1 rel _ fun vs M1 H1 o => ?_
  unfold fDm at e3
  split at e3
  · rename_i i j
    split at e3
    · rename_i hc
      cases e3
      exact ⟨i, j, atsI2 (o.held.ats o.rel e2), hc, fun p hp => q _ _ _ (.behind o.t (ok_tup o.rel hp (.cons (.int _) (.cons (.int _) .nil))))⟩
    · cases e3
  · cases e3
end
end Dm
set_option Elab.async false
set_option linter.all false
set_option maxRecDepth 100000
set_option maxHeartbeats 4000000
namespace Dm
open PySem PySem.Spec L2
set_option autoImplicit false

/-! ### statements -/
inductive O where
  | nx (s : S) | rt (r : Ret) (s : S) | bk (s : S) | ct (s : S)
abbrev MS := S → Option O
structure OkS (K : PySem.W.Frag) (σ : L2.St) (s : S) (M H : Hp) (σ' : L2.St) (s' : S) (M' H' : Hp) : Prop where
  go : Go σ s M H σ' s' M' H'
  rel : Rel K M' H' σ' s'
theorem OkS.refl {K : PySem.W.Frag} {σ : L2.St} {s : S} {M H : Hp} (r : Rel K M H σ s) : OkS K σ s M H σ s M H := ⟨Go.refl, r⟩
theorem OkS.trans {K : PySem.W.Frag} {σ σ1 σ2 : L2.St} {s s1 s2 : S} {M H M1 H1 M2 H2 : Hp} (a : OkS K σ s M H σ1 s1 M1 H1) (b : OkS K σ1 s1 M1 H1 σ2 s2 M2 H2) : OkS K σ s M H σ2 s2 M2 H2 := ⟨a.go.trans b.go, b.rel⟩
theorem OkT.s {K : PySem.W.Frag} {σ : L2.St} {s s' : S} {M H M' H' : Hp} (o : OkT K σ s M H s' M' H') : OkS K σ s M H σ s' M' H' := ⟨o.go, o.rel⟩
def RetOk (K : PySem.W.Frag) (σ : L2.St) (s : S) (H M' H' : Hp) (v : V) : Ret → Prop
  | .val d => At K M' v d
  | .own xs => ∃ l vs, v = .ref l ∧ H' l = some (.lst vs) ∧ M' l = none ∧ Ats K M' vs xs ∧ (H l = none ∨ ∃ (j : Nat) (ys : List D), s[j]? = some (some (Cell.own false ys)) ∧ σ[j]? = some (some (V.ref l)))
def End (K : PySem.W.Frag) (σ : L2.St) (s : S) (M H : Hp) (E : Ends) : O → Prop
  | .nx s' => ∀ σ' M' H', OkS K σ s M H σ' s' M' H' → E.nx σ' H'
  | .bk s' => ∀ σ' M' H', OkS K σ s M H σ' s' M' H' → E.bk σ' H'
  | .ct s' => ∀ σ' M' H', OkS K σ s M H σ' s' M' H' → E.ct σ' H'
  | .rt r s' => ∀ v σ' M' H', OkS K σ s M H σ' s' M' H' → RetOk K σ s H M' H' v r → E.rt v H'
theorem RetOk.go {K : PySem.W.Frag} {σ σ1 : L2.St} {s s1 : S} {M H M1 H1 M' H' : Hp} {v : V} {r : Ret} (g : Go σ s M H σ1 s1 M1 H1) (h : RetOk K σ1 s1 H1 M' H' v r) : RetOk K σ s H M' H' v r := by
  cases r with
  | val d => exact h
  | own xs =>
    obtain ⟨l, vs, e, h1, h2, h3, h4⟩ := h
    refine ⟨l, vs, e, h1, h2, h3, ?_⟩
    rcases h4 with h4 | ⟨j, ys, a, b⟩
    · exact .inl (g.free h4)
    · rcases g.own j false ys l a b with ⟨z, _⟩ | ⟨k, zs, z1, z2⟩
      · exact .inl z
      · exact .inr ⟨k, zs, z1, z2⟩
theorem End.go {K : PySem.W.Frag} {σ σ1 : L2.St} {s s1 : S} {M H M1 H1 : Hp} {E : Ends} {o : O} (h : End K σ s M H E o) (g : OkS K σ s M H σ1 s1 M1 H1) : End K σ1 s1 M1 H1 E o := by
  cases o with
  | nx s' => exact fun σ' M' H' k => h σ' M' H' (g.trans k)
  | bk s' => exact fun σ' M' H' k => h σ' M' H' (g.trans k)
  | ct s' => exact fun σ' M' H' k => h σ' M' H' (g.trans k)
  | rt r s' => exact fun v σ' M' H' k q => h v σ' M' H' (g.trans k) (q.go g.go)
def SoundS (K : PySem.W.Frag) (t : TS) (m : MS) : Prop := ∀ (σ : L2.St) (s : S) (M H : Hp) (o : O), m s = some o → Rel K M H σ s → ∀ E : Ends, End K σ s M H E o → t E σ H
def SS (c : Cd) (st : Stmt) (m : MS) : Prop := ∃ t : TS, (∀ X, Fits c X → PS X st t) ∧ SoundS c.K t m
def SSs (c : Cd) (sts : List Stmt) (m : MS) : Prop := ∃ t : TS, (∀ X, Fits c X → PSs X sts t) ∧ SoundS c.K t m

def mSkip : MS := fun s => some (.nx s)
def mSeq (a b : MS) : MS := fun s => (a s).bind fun o => match o with
  | .nx s1 => b s1
  | o => some o
def mDie : MS := fun _ => none
def mBreak : MS := fun s => some (.bk s)
def mCont : MS := fun s => some (.ct s)
theorem sound_skip {K : PySem.W.Frag} : SoundS K tNext mSkip := fun σ s M H o e rel E h => by cases e; exact h σ M H (.refl rel)
theorem sound_seq {K : PySem.W.Frag} {t u : TS} {a b : MS} (ha : SoundS K t a) (hb : SoundS K u b) : SoundS K (tSeq t u) (mSeq a b) := fun σ s M H o e rel E h => by
  obtain ⟨o1, e1, e⟩ := bd e
  cases o1 with
  | nx s1 => exact ha σ s M H _ e1 rel _ fun σ1 M1 H1 k => hb σ1 s1 M1 H1 o e k.rel E (h.go k)
  | bk s1 => cases e; exact ha σ s M H _ e1 rel _ h
  | ct s1 => cases e; exact ha σ s M H _ e1 rel _ h
  | rt r s1 => cases e; exact ha σ s M H _ e1 rel _ h
section
variable {c : Cd} {st : Stmt} {sts : List Stmt} {a b : MS} {e : Expr} {m : ME} {t : MT} {pos : Pos}
theorem ss_nil : SSs c [] mSkip := ⟨_, fun _ _ => pss_nil, sound_skip⟩
theorem ss_cons (h : SS c st a) (h' : SSs c sts b) : SSs c (st :: sts) (mSeq a b) := by
  obtain ⟨ta, pa, sa⟩ := h
  obtain ⟨tb, pb, sb⟩ := h'
  exact ⟨_, fun X g => pss_cons (pa X g) (pb X g), sound_seq sa sb⟩
theorem ss_one (h : SS c st a) : SSs c [st] a := by
  obtain ⟨ta, pa, sa⟩ := h
  exact ⟨_, fun X g => pss_one (pa X g), sa⟩
theorem ss_pass : SS c (.Pass pos) mSkip := ⟨_, fun _ _ => ps_pass, sound_skip⟩
theorem ss_break : SS c (.Break pos) mBreak := ⟨_, fun _ _ => ps_break, fun σ s M H o e rel E h => by cases e; exact h σ M H (.refl rel)⟩
theorem ss_cont : SS c (.Continue pos) mCont := ⟨_, fun _ _ => ps_continue, fun σ s M H o e rel E h => by cases e; exact h σ M H (.refl rel)⟩
/-- a statement that no good way reaches -/
theorem ss_die : SS c st mDie := ⟨_, fun _ _ => ps_never, fun σ s M H o e rel E h => by cases e⟩
def mExpr (m : ME) : MS := fun s => (m s).bind fun p => some (.nx p.2)
theorem ss_expr (h : SE c e m) (hs : ∀ env, swapsWith e none pos.line env = pure false := by intro _; rfl) : SS c (.Expr e pos) (mExpr m) := by
  obtain ⟨ta, pa, sa⟩ := h
  refine ⟨_, fun X g => ps_expr (pa X g) (hs X.env), fun σ s M H o e rel E h => ?_⟩
  obtain ⟨⟨r, s1⟩, e1, e⟩ := bd e
  cases e
  exact sa σ s M H r _ e1 rel _ fun v M1 H1 k => h σ M1 H1 k.t.s
def mIfS (t : MT) (a b : MS) : MS := fun s => (t s).bind fun p => if p.1 then a p.2 else b p.2
theorem ss_if {ss1 ss2 : List Stmt} (ht : ST c e t) (h : SSs c ss1 a) (h' : SSs c ss2 b) : SS c (.If e ss1 ss2 pos) (mIfS t a b) := by
  obtain ⟨tt, pt, st⟩ := ht
  obtain ⟨ta, pa, sa⟩ := h
  obtain ⟨tb, pb, sb⟩ := h'
  refine ⟨_, fun X g => ps_if (pt X g) (pa X g) (pb X g), fun σ s M H o e rel E h => ?_⟩
  obtain ⟨⟨k, s1⟩, e1, e⟩ := bd e
  refine st σ s M H k s1 e1 rel _ fun M1 H1 g => ?_
  cases k with
  | true => exact sa σ s1 M1 H1 o e g.rel E (h.go g.s)
  | false => exact sb σ s1 M1 H1 o e g.rel E (h.go g.s)
/-! ### return -/
def toRet (r : R) (s : S) : Option Ret := match r with
  | .val d => some (.val d)
  | .own xs => some (.own xs)
  | .slot i => match s[i]? with
    | some (some (.own false xs)) => some (.own xs)
    | some (some (.val d)) => some (.val d)
    | _ => none
theorem toRet_ok {K : PySem.W.Frag} {σ : L2.St} {s s' : S} {M H M' H' : Hp} {v : V} {r : R} {r' : Ret} (o : Ok K σ s M H r s' v M' H') (e : toRet r s' = some r') : RetOk K σ s H M' H' v r' := by
  obtain ⟨go, rel, held, new⟩ := o
  cases r with
  | val d => cases e; exact held
  | own xs =>
    cases e
    obtain ⟨l, vs, rfl, h1, h2, h3, h4⟩ := held
    obtain ⟨l', e', hn⟩ := new
    cases e'
    exact ⟨l, vs, rfl, h1, h2, h4, .inl hn⟩
  | slot i =>
    unfold toRet at e
    simp only at e
    have hv : σ[i]? = some (some v) := held
    split at e
    · rename_i xs q
      cases e
      obtain ⟨l, vs, a, b, c, f⟩ := rel.own i false xs q
      rw [hv] at a
      cases a
      refine ⟨l, vs, rfl, b, c, f, ?_⟩
      rcases go.own i false xs l q hv with ⟨z, _⟩ | z
      · exact .inl z
      · exact .inr z
    · rename_i d q
      cases e
      obtain ⟨v', a, b⟩ := rel.val i d q
      rw [hv] at a
      cases a
      exact b
    · cases e
def mRet (m : ME) : MS := fun s => (m s).bind fun p => (toRet p.1 p.2).bind fun r => some (.rt r p.2)
theorem ss_ret (h : SE c e m) : SS c (.Return (some e) pos) (mRet m) := by
  obtain ⟨ta, pa, sa⟩ := h
  refine ⟨_, fun X g => ps_ret (pa X g), fun σ s M H o e rel E h => ?_⟩
  obtain ⟨⟨r, s1⟩, e1, e⟩ := bd e
  obtain ⟨r', e2, e⟩ := bd e
  cases e
  exact sa σ s M H r _ e1 rel _ fun v M1 H1 k => h v σ M1 H1 k.t.s (toRet_ok k e2)
def mRetN : MS := fun s => some (.rt (.val .non) s)
theorem ss_retN : SS c (.Return none pos) mRetN := ⟨_, fun _ _ => ps_retN, fun σ s M H o e rel E h => by cases e; exact h .non σ M H (.refl rel) .non⟩
/-! ### x = e -/
def put (i : Nat) (r : R) (s : S) : Option S := match s[i]? with
  | none => none
  | some (some (.own true _)) => none
  | _ => match r with
    | .val d => some (s.set i (some (.val d)))
    | .own xs => some (s.set i (some (.own false xs)))
    | .slot j => (frz (.slot j) s).bind fun p => some (p.2.set i (some (.val p.1)))
theorem put_val {K : PySem.W.Frag} {σ : L2.St} {s : S} {M H : Hp} {i : Nat} {d : D} {v : V} (rel : Rel K M H σ s) (hv : At K M v d) (hi : i < s.length) (hp : ∀ xs, s[i]? ≠ some (some (Cell.own true xs))) : OkS K σ s M H (σ.set i (some v)) (s.set i (some (.val d))) M H := by
  have hi' : i < σ.length := by rw [← rel.len]; exact hi
  refine ⟨⟨Le.refl _, fun a o h _ => ⟨h, fun z => z⟩, fun a o h => ⟨o, h⟩, fun j p xs l h1 h2 => ?_, fun j xs h => ?_⟩, ⟨by rw [List.length_set, List.length_set]; exact rel.len, rel.le, fun j d' q => ?_, fun j p xs q => ?_, fun j k p q xs ys l h1 h2 h3 h4 => ?_⟩⟩
  · rcases set_get h1 with ⟨_, z⟩ | ⟨hj, z⟩
    · cases z
    · rw [List.getElem?_set_ne (fun e => hj e.symm)] at h2
      exact .inr ⟨j, xs, z, h2⟩
  · have hj : j ≠ i := fun e => by subst e; exact hp xs h
    exact ⟨xs, by rw [List.getElem?_set_ne (fun e => hj e.symm)]; exact h, List.getElem?_set_ne (fun e => hj e.symm)⟩
  · rcases set_get q with ⟨rfl, z⟩ | ⟨hj, z⟩
    · cases z
      exact ⟨v, List.getElem?_set_self hi', hv⟩
    · obtain ⟨w, a, b⟩ := rel.val j d' z
      exact ⟨w, by rw [List.getElem?_set_ne (fun e => hj e.symm)]; exact a, b⟩
  · rcases set_get q with ⟨_, z⟩ | ⟨hj, z⟩
    · cases z
    · obtain ⟨l, vs, a, b⟩ := rel.own j p xs z
      exact ⟨l, vs, by rw [List.getElem?_set_ne (fun e => hj e.symm)]; exact a, b⟩
  · rcases set_get h1 with ⟨_, z⟩ | ⟨hj, z1⟩
    · cases z
    · rcases set_get h2 with ⟨_, z⟩ | ⟨hk, z2⟩
      · cases z
      · rw [List.getElem?_set_ne (fun e => hj e.symm)] at h3
        rw [List.getElem?_set_ne (fun e => hk e.symm)] at h4
        exact rel.inj j k p q xs ys l z1 z2 h3 h4
theorem put_own {K : PySem.W.Frag} {σ : L2.St} {s : S} {M H : Hp} {i : Nat} {xs : List D} {v : V} (rel : Rel K M H σ s) (hv : Held K M H σ s v (.own xs)) (hi : i < s.length) (hp : ∀ xs, s[i]? ≠ some (some (Cell.own true xs))) :
    Rel K M H (σ.set i (some v)) (s.set i (some (.own false xs))) ∧ (∀ a o, H a = some o → ¬ Owned σ s a → (M a = none → M a = none)) := by
  have hi' : i < σ.length := by rw [← rel.len]; exact hi
  obtain ⟨l, vs, rfl, h1, h2, h3, h4⟩ := hv
  refine ⟨⟨by rw [List.length_set, List.length_set]; exact rel.len, rel.le, fun j d' q => ?_, fun j p ys q => ?_, fun j k p q ys zs l2 g1 g2 g3 g4 => ?_⟩, fun _ _ _ _ z => z⟩
  · rcases set_get q with ⟨_, z⟩ | ⟨hj, z⟩
    · cases z
    · obtain ⟨w, a, b⟩ := rel.val j d' z
      exact ⟨w, by rw [List.getElem?_set_ne (fun e => hj e.symm)]; exact a, b⟩
  · rcases set_get q with ⟨rfl, z⟩ | ⟨hj, z⟩
    · cases z
      exact ⟨l, vs, List.getElem?_set_self hi', h1, h2, h4⟩
    · obtain ⟨l', vs', a, b⟩ := rel.own j p ys z
      exact ⟨l', vs', by rw [List.getElem?_set_ne (fun e => hj e.symm)]; exact a, b⟩
  · rcases set_get g1 with ⟨rfl, z1⟩ | ⟨hj, z1⟩
    · rcases set_get g2 with ⟨rfl, z2⟩ | ⟨hk, z2⟩
      · rfl
      · rw [List.getElem?_set_self hi'] at g3
        cases g3
        rw [List.getElem?_set_ne (fun e => hk e.symm)] at g4
        exact (h3 ⟨k, q, zs, z2, g4⟩).elim
    · rw [List.getElem?_set_ne (fun e => hj e.symm)] at g3
      rcases set_get g2 with ⟨rfl, z2⟩ | ⟨hk, z2⟩
      · rw [List.getElem?_set_self hi'] at g4
        cases g4
        exact (h3 ⟨j, p, ys, z1, g3⟩).elim
      · rw [List.getElem?_set_ne (fun e => hk e.symm)] at g4
        exact rel.inj j k p q ys zs l2 z1 z2 g3 g4
theorem put_ok {K : PySem.W.Frag} {σ : L2.St} {s s1 s2 : S} {M H M1 H1 : Hp} {i : Nat} {r : R} {v : V} (o : Ok K σ s M H r s1 v M1 H1) (e : put i r s1 = some s2) : ∃ M2, OkS K σ s M H (σ.set i (some v)) s2 M2 H1 := by
  unfold put at e
  split at e
  · cases e
  · cases e
  · rename_i x q0 q1
    have hi : i < s1.length := by
      have : s1[i]? ≠ none := q0
      rcases Nat.lt_or_ge i s1.length with h | h
      · exact h
      · exact absurd (List.getElem?_eq_none h) this
    have hp : ∀ xs, s1[i]? ≠ some (some (Cell.own true xs)) := fun xs z => q1 xs z
    cases r with
    | val d =>
      cases e
      exact ⟨M1, o.t.s.trans (put_val o.rel o.held hi hp)⟩
    | own xs =>
      cases e
      obtain ⟨l, e', hn⟩ := o.new
      subst e'
      obtain ⟨rel', _⟩ := put_own o.rel o.held hi hp
      have hi' : i < σ.length := by rw [← o.rel.len]; exact hi
      refine ⟨M1, ⟨o.go.up, o.go.keep, o.go.there, fun j p ys l2 h1 h2 => ?_, fun j ys h => ?_⟩, rel'⟩
      · rcases set_get h1 with ⟨rfl, z⟩ | ⟨hj, z⟩
        · cases z
          rw [List.getElem?_set_self hi'] at h2
          cases h2
          exact .inl ⟨hn, rfl⟩
        · rw [List.getElem?_set_ne (fun e => hj e.symm)] at h2
          exact o.go.own j p ys l2 z h2
      · obtain ⟨zs, z1, z2⟩ := o.go.port j ys h
        have hj : j ≠ i := fun e => by subst e; exact hp zs z1
        exact ⟨zs, by rw [List.getElem?_set_ne (fun e => hj e.symm)]; exact z1, List.getElem?_set_ne (fun e => hj e.symm)⟩
    | slot j =>
      obtain ⟨⟨d, s3⟩, e3, e⟩ := bd e
      cases e
      obtain ⟨M2, o2⟩ := frz_ok o e3
      have hl : s3.length = s1.length := by rw [o2.rel.len, o.rel.len]
      refine ⟨M2, o2.t.s.trans (put_val o2.rel o2.held (by rw [hl]; exact hi) fun xs z => ?_)⟩
      -- a port is not made by freezing
      have key : s3[i]? = s1[i]? ∨ ∃ d, s3[i]? = some (some (Cell.val d)) := by
        unfold frz at e3
        simp only at e3
        split at e3
        · rename_i ys q
          cases e3
          by_cases hji : j = i
          · subst hji; exact .inr ⟨_, List.getElem?_set_self hi⟩
          · exact .inl (List.getElem?_set_ne hji)
        · cases e3; exact .inl rfl
        · cases e3
      rcases key with k | ⟨d', k⟩
      · rw [k] at z; exact hp xs z
      · rw [k] at z; cases z
def mSet (i : Nat) (m : ME) : MS := fun s => (m s).bind fun p => (put i p.1 p.2).bind fun s2 => some (.nx s2)
theorem ss_set (i : Nat) {x : Str} {pos' : Pos} (h : SE c e m) (hN : ndB c.N = true := by rfl) (hi : c.N[i]? = some x := by rfl) (hx : Loc c.sc x := by first | exact .inl rfl | exact .inr rfl)
    (hf : c.top = true ∨ c.sc.names.lookup x = some .local := by first | exact .inr rfl | exact .inl rfl) (hs : ∀ env, swapsWith e (some (.Name x pos')) pos.line env = pure false := by intro _; rfl) : SS c (.Assign [.Name x pos'] e pos) (mSet i m) := by
  obtain ⟨ta, pa, sa⟩ := h
  refine ⟨tAsg ta (gName i), fun X g => ps_set (i := i) (by rw [g.N]; exact ndOf hN) (by rw [g.N]; exact hi) (by rw [g.sc]; exact hx) (pa X g) (hs X.env) ?_, fun σ s M H o e rel E h => ?_⟩
  · rcases hf with k | k
    · exact .inl (g.fn k x)
    · exact .inr (by rw [g.sc]; exact k)
  obtain ⟨⟨r, s1⟩, e1, e⟩ := bd e
  obtain ⟨s2, e2, e⟩ := bd e
  cases e
  refine sa σ s M H r _ e1 rel _ fun v M1 H1 k => ?_
  obtain ⟨M2, k2⟩ := put_ok k e2
  exact h _ M2 H1 k2
end
end Dm
set_option Elab.async false
set_option linter.all false
set_option maxRecDepth 100000
set_option maxHeartbeats 4000000
namespace Dm
open PySem PySem.Spec L2
set_option autoImplicit false

/-! ### targets -/
abbrev MG := D → S → Option S
def Off (ts : List Nat) (σ σ' : L2.St) : Prop := σ'.length = σ.length ∧ ∀ j, j ∉ ts → σ'[j]? = σ[j]?
theorem Off.refl {ts : List Nat} {σ : L2.St} : Off ts σ σ := ⟨rfl, fun _ _ => rfl⟩
theorem Off.trans {ts us : List Nat} {σ σ1 σ2 : L2.St} (a : Off ts σ σ1) (b : Off us σ1 σ2) : Off (ts ++ us) σ σ2 := ⟨b.1.trans a.1, fun j h => by
  rw [List.mem_append, not_or] at h
  exact (b.2 j h.2).trans (a.2 j h.1)⟩
def SoundG (K : PySem.W.Frag) (ts : List Nat) (t : TG) (g : MG) : Prop := ∀ (d : D) (v : V) (σ : L2.St) (s : S) (M H : Hp) (s' : S), g d s = some s' → Rel K M H σ s → At K M v d → ∀ Q : L2.St → Hp → Prop,
  (∀ σ' M' H', OkS K σ s M H σ' s' M' H' → Off ts σ σ' → Q σ' H') → t v σ H Q
def SG (c : Cd) (e : Expr) (ts : List Nat) (g : MG) : Prop := ∃ t : TG, (∀ X, Fits c X → PG X e t) ∧ SoundG c.K ts t g
def SoundGs (K : PySem.W.Frag) (ts : List Nat) (t : TGs) (g : List D → S → Option S) : Prop := ∀ (ds : List D) (vs : List V) (σ : L2.St) (s : S) (M H : Hp) (s' : S), g ds s = some s' → Rel K M H σ s → Ats K M vs ds → ∀ Q : L2.St → Hp → Prop,
  (∀ σ' M' H', OkS K σ s M H σ' s' M' H' → Off ts σ σ' → Q σ' H') → t vs σ H Q
def SGs (c : Cd) (es : List Expr) (ts : List Nat) (g : List D → S → Option S) : Prop := ∃ t : TGs, (∀ X, Fits c X → PGs X es t) ∧ SoundGs c.K ts t g
def gPut (i : Nat) : MG := fun d s => put i (.val d) s
def gsNil : List D → S → Option S := fun ds s => match ds with
  | [] => some s
  | _ => none
def gsCons (g : MG) (gs : List D → S → Option S) : List D → S → Option S := fun ds s => match ds with
  | d :: ds => (g d s).bind fun s1 => gs ds s1
  | [] => none
def gTupD (n : Nat) (gs : List D → S → Option S) : MG := fun d s => match d with
  | .tup ds => if ds.length = n then gs ds s else none
  | _ => none
section
variable {c : Cd} {e : Expr} {es : List Expr} {pos : Pos} {ts us : List Nat} {g : MG} {gs : List D → S → Option S}
theorem sg_name (i : Nat) {x : Str} (hN : ndB c.N = true := by rfl) (hi : c.N[i]? = some x := by rfl) (hx : Loc c.sc x := by first | exact .inl rfl | exact .inr rfl)
    (hf : c.top = true ∨ c.sc.names.lookup x = some .local := by first | exact .inr rfl | exact .inl rfl) : SG c (.Name x pos) [i] (gPut i) := by
  refine ⟨gName i, fun X g => pg_name (by rw [g.N]; exact ndOf hN) (by rw [g.N]; exact hi) (by rw [g.sc]; exact hx) ?_, fun d v σ s M H s' e rel hv Q q => ?_⟩
  · rcases hf with k | k
    · exact .inl (g.fn k x)
    · exact .inr (by rw [g.sc]; exact k)
  obtain ⟨M2, k⟩ := put_ok (σ := σ) (M := M) (H := H) (M1 := M) (H1 := H) (v := v) (.same (r := .val d) rel hv trivial) e
  exact q _ M2 H k ⟨List.length_set, fun j hj => List.getElem?_set_ne (fun z => hj (by rw [z]; exact List.mem_singleton.mpr rfl))⟩
theorem sgs_nil : SGs c [] [] gsNil := ⟨_, fun _ _ => pgs_nil, fun ds vs σ s M H s' e rel hv Q q => by
  cases hv with
  | nil => cases e; exact ⟨rfl, q σ M H (.refl rel) .refl⟩
  | cons _ _ => cases e⟩
theorem sgs_cons (h : SG c e ts g) (h' : SGs c es us gs) (hs : ∀ env, (assignEach (e :: es) env).map (·.2) = assign e env :: (assignEach es env).map (·.2) := by intro _; rfl) : SGs c (e :: es) (ts ++ us) (gsCons g gs) := by
  obtain ⟨t, p, sd⟩ := h
  obtain ⟨t', p', sd'⟩ := h'
  refine ⟨_, fun X g => pgs_cons (p X g) (p' X g) (hs X.env), fun ds vs σ s M H s' e rel hv Q q => ?_⟩
  cases hv with
  | nil => cases e
  | cons a b =>
    obtain ⟨s1, e1, e⟩ := bd e
    exact ⟨_, _, rfl, sd _ _ σ s M H s1 e1 rel a _ fun σ1 M1 H1 k1 o1 => sd' _ _ σ1 s1 M1 H1 s' e k1.rel (b.mono k1.go.up) _ fun σ2 M2 H2 k2 o2 => q σ2 M2 H2 (k1.trans k2) (o1.trans o2)⟩
theorem sg_tup {n k : Nat} (h : SGs c es ts gs) (hn : ∀ env, (assignEach es env).length = n := by intro _; rfl) (hst : ∀ env, (assignEach es env).findIdx? (·.1) = none := by intro _; rfl) : SG c (.Tuple es k pos) ts (gTupD n gs) := by
  obtain ⟨t, p, sd⟩ := h
  refine ⟨gTup c.K n t, fun X g => by have := pg_tup (X := X) (pos := pos) (k := k) g.calm (p X g) (hn X.env) (hst X.env); rw [g.K] at this; exact this, fun d v σ s M H s' e rel hv Q q => ?_⟩
  cases hv <;> try (cases e; done)
  rename_i a xs ds h1 h2
  unfold gTupD at e
  simp only at e
  split at e
  · rename_i hl
    exact ⟨a, xs, rfl, rel.le.sqT h1, by rw [h2.length]; exact hl, sd ds xs σ s M H s' e rel h2 Q q⟩
  · cases e
end
/-! ### a list of one's own is changed -/
theorem own_upd {K : PySem.W.Frag} {M H : Hp} {σ : L2.St} {s : S} {k : Nat} {p : Bool} {xs zs : List D} {l : Addr} {ws : List V} (rel : Rel K M H σ s) (h : s[k]? = some (some (Cell.own p xs))) (hl : σ[k]? = some (some (V.ref l))) (hw : Ats K M ws zs) :
    OkT K σ s M H (s.set k (some (.own p zs))) M (upd H l (.lst ws)) := by
  obtain ⟨l', vs, a, b, c, d⟩ := rel.own k p xs h
  rw [hl] at a
  cases a
  have hk : k < s.length := by
    rcases Nat.lt_or_ge k s.length with q | q
    · exact q
    · rw [List.getElem?_eq_none q] at h; cases h
  have ne : ∀ j q ys l2, j ≠ k → s[j]? = some (some (Cell.own q ys)) → σ[j]? = some (some (V.ref l2)) → l2 ≠ l := fun j q ys l2 hj h1 h2 e => by
    subst e
    exact hj (rel.inj j k q p ys xs l2 h1 h h2 hl)
  refine ⟨⟨Le.refl _, fun a o ha hn => ⟨?_, fun z => z⟩, fun a o ha => ?_, fun j q ys l2 h1 h2 => ?_, fun j ys hj => ?_⟩, ⟨by rw [List.length_set]; exact rel.len, le_updr rel.le c, fun j d' q => ?_, fun j q ys h1 => ?_, fun i j q q' ys zs' l2 h1 h2 h3 h4 => ?_⟩⟩
  · rw [upd_ne (fun e => hn ⟨k, p, xs, h, by rw [e]; exact hl⟩)]; exact ha
  · by_cases e : a = l
    · subst e; exact ⟨_, upd_same⟩
    · exact ⟨o, by rw [upd_ne e]; exact ha⟩
  · rcases set_get h1 with ⟨rfl, z⟩ | ⟨hj, z⟩
    · cases z; exact .inr ⟨j, xs, h, h2⟩
    · exact .inr ⟨j, ys, z, h2⟩
  · by_cases e : k = j
    · subst e
      rw [h] at hj
      cases hj
      exact ⟨zs, List.getElem?_set_self hk, rfl⟩
    · exact ⟨ys, by rw [List.getElem?_set_ne e]; exact hj, rfl⟩
  · rcases set_get q with ⟨_, z⟩ | ⟨hj, z⟩
    · cases z
    · exact rel.val j d' z
  · rcases set_get h1 with ⟨rfl, z⟩ | ⟨hj, z⟩
    · cases z
      exact ⟨l, ws, hl, upd_same, c, hw⟩
    · obtain ⟨l2, vs2, a2, b2, c2, d2⟩ := rel.own j q ys z
      exact ⟨l2, vs2, a2, by rw [upd_ne (ne j q ys l2 hj z a2)]; exact b2, c2, d2⟩
  · have get : ∀ m r us, (s.set k (some (Cell.own p zs)))[m]? = some (some (Cell.own r us)) → ∃ r' us', s[m]? = some (some (Cell.own r' us')) := fun m r us hm => by
      rcases set_get hm with ⟨rfl, _⟩ | ⟨_, z⟩
      · exact ⟨p, xs, h⟩
      · exact ⟨r, us, z⟩
    obtain ⟨r1, u1, g1⟩ := get i q ys h1
    obtain ⟨r2, u2, g2⟩ := get j q' zs' h2
    exact rel.inj i j r1 r2 u1 u2 l2 g1 g2 h3 h4
def ownAt (r : R) (s : S) : Option (Nat × Bool × List D) := match r with
  | .slot k => match s[k]? with
    | some (some (.own p xs)) => some (k, p, xs)
    | _ => none
  | _ => none
theorem ownAt_ok {K : PySem.W.Frag} {M H : Hp} {σ : L2.St} {s : S} {v : V} {r : R} {k : Nat} {p : Bool} {xs : List D} (rel : Rel K M H σ s) (h : Held K M H σ s v r) (e : ownAt r s = some (k, p, xs)) :
    s[k]? = some (some (Cell.own p xs)) ∧ ∃ l vs, v = .ref l ∧ σ[k]? = some (some (V.ref l)) ∧ H l = some (.lst vs) ∧ M l = none ∧ Ats K M vs xs := by
  unfold ownAt at e
  cases r with
  | val d => cases e
  | own xs => cases e
  | slot i =>
    simp only at e
    split at e
    · rename_i p' xs' q
      cases e
      obtain ⟨l, vs, a, b, c, d⟩ := rel.own k p xs q
      have hv : σ[k]? = some (some v) := h
      rw [a] at hv
      cases hv
      exact ⟨q, l, vs, rfl, a, b, c, d⟩
    · cases e
/-- x[i] = .. -/
def gSubD (mo mi : ME) : MG := fun d s => (mo s).bind fun p => (mi p.2).bind fun q => (ownAt p.1 q.2).bind fun o => (peek q.1 q.2).bind fun e => (asI e).bind fun i => (ixN o.2.2.length i).bind fun j => some (q.2.set o.1 (some (.own o.2.1 (o.2.2.set j d))))
section
variable {c : Cd} {o i e : Expr} {es : List Expr} {pos : Pos} {mo mi m : ME} {g : MG}
theorem sg_sub (ho : SE c o mo) (hi : SE c i mi) (ha : ∀ (env : Env) (v : Value), assign (.Subscript o i pos) env v = (do
      let ov ← holding [v] (eval o env)
      let iv ← holding [v, ov] (eval i env)
      standAt pos
      holding [v, ov, iv] (setItem ov iv v)
      release [v, ov, iv] []) := by intro _ _; rfl) : SG c (.Subscript o i pos) [] (gSubD mo mi) := by
  obtain ⟨to, po, so⟩ := ho
  obtain ⟨ti, pi, si⟩ := hi
  refine ⟨_, fun X g => pg_sub (po X g) (pi X g) set_list (ha X.env), fun d v σ s M H s' e rel hv Q q => ?_⟩
  obtain ⟨⟨r1, s1⟩, e1, e⟩ := bd e
  obtain ⟨⟨r2, s2⟩, e2, e⟩ := bd e
  obtain ⟨⟨k, p, xs⟩, e3, e⟩ := bd e
  obtain ⟨di, e4, e⟩ := bd e
  obtain ⟨ii, e5, e⟩ := bd e
  obtain ⟨j, e6, e⟩ := bd e
  cases e
  refine so σ s M H r1 s1 e1 rel _ fun w1 M1 H1 o1 => si σ s1 M1 H1 r2 s2 e2 o1.rel _ fun w2 M2 H2 o2 => ?_
  obtain ⟨go, hd⟩ := o1.then o2
  obtain ⟨hk, l, vs, rfl, hl, hH, hM, hats⟩ := ownAt_ok o2.rel hd e3
  have hw := asI_at (o2.held.at o2.rel e4) e5
  subst hw
  refine ⟨l, vs, ii, j, rfl, rfl, hH, by rw [hats.length]; exact e6, ?_⟩
  have fin := own_upd o2.rel hk hl (Ats.set (hv.mono go.up) j hats)
  exact q σ M2 _ (OkS.trans ⟨go, o2.rel⟩ fin.s) .refl
/-- target = e, e data that stays -/
def mAsg (m : ME) (g : MG) : MS := fun s => (m s).bind fun p => match p.1 with
  | .val d => (g d p.2).bind fun s2 => some (.nx s2)
  | _ => none
/-- swapped stores depend on the scope alone -/
theorem sw_scope {ts : List Expr} {v : Expr} {a b : Env} (h : a.scope = b.scope) : swappedStores ts v a = swappedStores ts v b := by
  cases a
  cases b
  have h : _ = _ := h
  simp only at h
  subst h
  rfl
def envAt (sc : Scope) : Env := { scope := sc, locals := 0, globals := 0, builtins := 0, cells := [], qual := "" }
theorem ss_asg {tg : Expr} {ts : List Nat} (h : SE c e m) (hg : SG c tg ts g) (hs : ∀ env, swapsWithSole [tg] e pos.line env = pure false := by intro _; rfl) (hw : swappedStores [tg] e (envAt c.sc) = pure none := by rfl)
    (h1 : ∀ env, (assignEach [tg] env).map (·.2) = [assign tg env] := by intro _; rfl) : SS c (.Assign [tg] e pos) (mAsg m g) := by
  obtain ⟨t, p, sd⟩ := h
  obtain ⟨tg', pg, sg⟩ := hg
  refine ⟨_, fun X g => ps_asg (p X g) (pg X g) (hs X.env) ((sw_scope (b := envAt c.sc) g.sc).trans hw) (h1 X.env), fun σ s M H o e rel E h => ?_⟩
  obtain ⟨⟨r, s1⟩, e1, e⟩ := bd e
  cases r with
  | own xs => cases e
  | slot i => cases e
  | val d =>
    obtain ⟨s2, e2, e⟩ := bd e
    cases e
    exact sd σ s M H _ s1 e1 rel _ fun v M1 H1 k1 => sg d v σ s1 M1 H1 s2 e2 k1.rel k1.held _ fun σ2 M2 H2 k2 _ => h σ2 M2 H2 (k1.t.s.trans k2)
/-- a, b = e, f (two local names) -/
def plain : R → Bool
  | .slot _ => false
  | _ => true
def mPar (i j : Nat) (ms : MA) : MS := fun s => (ms s).bind fun p => match p.1 with
  | [.val d, r] => if plain r then (put i (.val d) p.2).bind fun s2 => (put j r s2).bind fun s3 => some (.nx s3) else none
  | _ => none
theorem Held.put {K : PySem.W.Frag} {M H : Hp} {σ : L2.St} {s : S} {v w : V} {r : R} {d : D} {i : Nat} (h : Held K M H σ s v r) (hs : plain r = true) : Held K M H (σ.set i (some w)) (s.set i (some (.val d))) v r := by
  cases r with
  | val d => exact h
  | own xs =>
    obtain ⟨l, vs, e, h1, h2, h3, h4⟩ := h
    refine ⟨l, vs, e, h1, h2, fun ⟨j, p, ys, e1, e2⟩ => ?_, h4⟩
    rcases set_get e1 with ⟨_, z⟩ | ⟨hj, z⟩
    · cases z
    · rw [List.getElem?_set_ne (fun e => hj e.symm)] at e2
      exact h3 ⟨j, p, ys, z, e2⟩
  | slot k => cases hs
theorem put_in {i : Nat} {r : R} {s s2 : S} (e : put i r s = some s2) : i < s.length ∧ ∀ xs, s[i]? ≠ some (some (Cell.own true xs)) := by
  unfold Dm.put at e
  split at e
  · cases e
  · cases e
  · rename_i x' q0 q1'
    refine ⟨?_, fun xs z => q1' xs z⟩
    rcases Nat.lt_or_ge i s.length with hh | hh
    · exact hh
    · exact absurd (List.getElem?_eq_none hh) q0
theorem put_eq {i : Nat} {r : R} {s s2 : S} (e : put i r s = some s2) : (∀ d, r = .val d → s2 = s.set i (some (.val d))) ∧ (∀ xs, r = .own xs → s2 = s.set i (some (.own false xs))) := by
  unfold Dm.put at e
  split at e
  · cases e
  · cases e
  · refine ⟨fun d h => ?_, fun xs h => ?_⟩ <;> (subst h; cases e; rfl)
/-- put, behind other stores -/
theorem put_ok2 {K : PySem.W.Frag} {σ σ1 : L2.St} {s s1 s2 : S} {M H M1 H1 : Hp} {i : Nat} {r : R} {v : V} (k : OkS K σ s M H σ1 s1 M1 H1) (h : Held K M1 H1 σ1 s1 v r) (n : New H v r) (hr : plain r = true) (e : put i r s1 = some s2) : OkS K σ s M H (σ1.set i (some v)) s2 M1 H1 := by
  obtain ⟨hi, hp⟩ := put_in e
  obtain ⟨e1, e2⟩ := put_eq e
  cases r with
  | slot j => cases hr
  | val d =>
    rw [e1 d rfl]
    exact k.trans (put_val k.rel h hi hp)
  | own xs =>
    rw [e2 xs rfl]
    obtain ⟨rel', _⟩ := put_own k.rel h hi hp
    have hi' : i < σ1.length := by rw [← k.rel.len]; exact hi
    obtain ⟨l, e', hn⟩ := n
    subst e'
    refine ⟨⟨k.go.up, k.go.keep, k.go.there, fun j p ys l2 h1 h2 => ?_, fun j ys h => ?_⟩, rel'⟩
    · rcases set_get h1 with ⟨rfl, z⟩ | ⟨hj, z⟩
      · cases z
        rw [List.getElem?_set_self hi'] at h2
        cases h2
        exact .inl ⟨hn, rfl⟩
      · rw [List.getElem?_set_ne (fun e => hj e.symm)] at h2
        exact k.go.own j p ys l2 z h2
    · obtain ⟨zs, z1, z2⟩ := k.go.port j ys h
      have hj : j ≠ i := fun e => by subst e; exact hp zs z1
      exact ⟨zs, by rw [List.getElem?_set_ne (fun e => hj e.symm)]; exact z1, by rw [List.getElem?_set_ne (fun e => hj e.symm)]; exact z2⟩
theorem sound_par {K : PySem.W.Frag} {i j : Nat} {t : TA} {ms : MA} (sd : SoundA K t ms) : SoundS K (tPar i j t) (mPar i j ms) := fun σ s M H o e rel E h => by
  obtain ⟨⟨rs, s1⟩, e1, e⟩ := bd e
  refine sd σ s M H rs s1 e1 rel _ fun vs M1 H1 k => ?_
  simp only at e
  split at e
  · rename_i rs' d r
    split at e
    · rename_i hpl
      obtain ⟨s2, e2, e⟩ := bd e
      obtain ⟨s3, e3, e⟩ := bd e
      cases e
      obtain ⟨kg, kr, kh, kn⟩ := k
      cases kh with
      | cons h1 kh =>
        cases kh with
        | cons h2 kh =>
          cases kh
          cases kn with
          | cons n1 kn =>
            cases kn with
            | cons n2 kn =>
              rename_i v w
              refine ⟨v, w, rfl, ?_⟩
              have k1 := put_ok2 (v := v) ⟨kg, kr⟩ h1 n1 rfl e2
              have hd := (put_eq e2).1 d rfl
              subst hd
              exact h _ M1 H1 (put_ok2 k1 (h2.put hpl) n2 hpl e3)
    · cases e
  · cases e
theorem ss_par (i j : Nat) {x y : Str} {a b : Expr} {px py pt : Pos} {kt k2 : Nat} {pt2 : Pos} {ms : MA} (ha : SA c [a, b] ms)
    (hp : ∀ X : Cx, Fits c X → ∀ ta, PA X [a, b] ta → PS X (.Assign [.Tuple [.Name x px, .Name y py] kt pt] (.Tuple [a, b] k2 pt2) pos) (tPar i j ta)) :
    SS c (.Assign [.Tuple [.Name x px, .Name y py] kt pt] (.Tuple [a, b] k2 pt2) pos) (mPar i j ms) := by
  obtain ⟨t, p, sd⟩ := ha
  exact ⟨tPar i j t, fun X g => hp X g t (p X g), sound_par sd⟩
/-! ### x.append(e), x.extend(e), x.pop() -/
theorem sz_lt {n : Nat} (h : n < 100000) : n < sizeLine := Nat.lt_of_lt_of_le h (by decide)
def mApp (mo m : ME) : ME := fun s => (mo s).bind fun p => (ownAt p.1 p.2).bind fun _ => (m p.2).bind fun q => (ownAt p.1 q.2).bind fun o => match q.1 with
  | .val d => if o.2.2.length < 100000 then some (.val .non, q.2.set o.1 (some (.own o.2.1 (o.2.2 ++ [d])))) else none
  | _ => none
theorem sound_app {K : PySem.W.Frag} {to te : TE} {mo m : ME} (so : Sound K to mo) (sd : Sound K te m) : Sound K (tBM K "list" rAppend to (tCons te tNil)) (mApp mo m) := fun σ s M H r s' e rel Q q => by
  obtain ⟨⟨r1, s1⟩, e1, e⟩ := bd e
  obtain ⟨⟨k0, b0, xs0⟩, e0, e⟩ := bd e
  obtain ⟨⟨r2, s2⟩, e2, e⟩ := bd e
  obtain ⟨⟨k, b, xs⟩, e3, e⟩ := bd e
  cases r2 with
  | own xs => cases e
  | slot i => cases e
  | val d =>
    simp only at e
    split at e
    · rename_i hlen
      cases e
      refine so σ s M H r1 s1 e1 rel _ fun w1 M1 H1 o1 => ?_
      obtain ⟨_, l0, vs0, hw0, _, hH0, _, _⟩ := ownAt_ok o1.rel o1.held e0
      subst hw0
      refine ⟨Or.inl ⟨rfl, vs0, SqL.of hH0⟩, sd σ s1 M1 H1 _ s2 e2 o1.rel _ fun w2 M2 H2 o2 => ?_⟩
      obtain ⟨go, hd⟩ := o1.then o2
      obtain ⟨hk, l, vs, hw, hl, hH, hM, hats⟩ := ownAt_ok o2.rel hd e3
      cases hw
      have hd2 : At K M2 w2 d := o2.held
      refine ⟨l0, vs, w2, rfl, rfl, hH, sz_lt (by rw [hats.length]; exact hlen), ?_⟩
      have fin := own_upd o2.rel hk hl (hats.append (.one hd2))
      exact q _ M2 _ (.behind ⟨go, o2.rel⟩ ⟨fin.go, fin.rel, .non, trivial⟩)
    · cases e
theorem se_app {ob : Expr} {apos : Pos} (ho : SE c ob mo) (h : SE c e m)
    (hx : ∀ X : Cx, Fits c X → ∀ to ta, PE X ob to → PA X [e] ta → PE X (.Call (.Attribute ob "append" apos) [e] [] pos) (tBM X.K "list" rAppend to ta) := by exact fun X _ to ta p q => pe_bm PySem.F.plainAttrs_list PySem.F.slot_list_append PySem.F.type_list_append mt_append p q)
    (hs : ∀ env, starEach [e] env = (false, eval e env) :: starEach [] env := by intro _; rfl) : SE c (.Call (.Attribute ob "append" apos) [e] [] pos) (mApp mo m) := by
  obtain ⟨to, po, so⟩ := ho
  obtain ⟨t, p, sd⟩ := h
  exact ⟨tBM c.K "list" rAppend to (tCons t tNil), fun X g => by have := hx X g _ _ (po X g) (pa_cons (p X g) pa_nil (hs X.env)); rw [g.K] at this; exact this, sound_app so sd⟩
/-- x.pop() -/
def mPop (mo : ME) : ME := fun s => (mo s).bind fun p => (ownAt p.1 p.2).bind fun o => (o.2.2[o.2.2.length - 1]?).bind fun d => some (.val d, p.2.set o.1 (some (.own o.2.1 o.2.2.dropLast)))
theorem sound_pop {K : PySem.W.Frag} {to : TE} {mo : ME} (so : Sound K to mo) : Sound K (tBM0 K "list" rPop to) (mPop mo) := fun σ s M H r s' e rel Q q => by
  obtain ⟨⟨r1, s1⟩, e1, e⟩ := bd e
  obtain ⟨⟨k, b, xs⟩, e3, e⟩ := bd e
  obtain ⟨d, e4, e⟩ := bd e
  cases e
  refine so σ s M H r1 s1 e1 rel _ fun w1 M1 H1 o1 => ?_
  obtain ⟨hk, l, vs, hw, hl, hH, hM, hats⟩ := ownAt_ok o1.rel o1.held e3
  subst hw
  obtain ⟨y, hy, hya⟩ := hats.get e4
  refine ⟨Or.inl ⟨rfl, vs, SqL.of hH⟩, l, vs, y, rfl, rfl, hH, by rw [hats.length]; exact hy, ?_⟩
  have fin := own_upd o1.rel hk hl hats.dropLast
  exact q _ M1 _ (.behind o1.t ⟨fin.go, fin.rel, hya, trivial⟩)
theorem se_pop {ob : Expr} {apos : Pos} (ho : SE c ob mo)
    (hx : ∀ X : Cx, Fits c X → ∀ to, PE X ob to → PE X (.Call (.Attribute ob "pop" apos) [] [] pos) (tBM0 X.K "list" rPop to) := by exact fun X _ to p => pe_bm0 PySem.F.plainAttrs_list PySem.F.slot_list_pop PySem.F.type_list_pop mt_pop p) : SE c (.Call (.Attribute ob "pop" apos) [] [] pos) (mPop mo) := by
  obtain ⟨to, po, so⟩ := ho
  exact ⟨tBM0 c.K "list" rPop to, fun X g => by have := hx X g _ (po X g); rw [g.K] at this; exact this, sound_pop so⟩
/-- x.extend(e), e a new list -/
def mExt (mo m : ME) : ME := fun s => (mo s).bind fun p => (ownAt p.1 p.2).bind fun _ => (m p.2).bind fun q => (ownAt p.1 q.2).bind fun o => match q.1 with
  | .own ys => if o.2.2.length + ys.length ≤ 100000 then some (.val .non, q.2.set o.1 (some (.own o.2.1 (o.2.2 ++ ys)))) else none
  | _ => none
theorem sound_ext {K : PySem.W.Frag} {to te : TE} {mo m : ME} (so : Sound K to mo) (sd : Sound K te m) : Sound K (tBM K "list" rExtend to (tCons te tNil)) (mExt mo m) := fun σ s M H r s' e rel Q q => by
  obtain ⟨⟨r1, s1⟩, e1, e⟩ := bd e
  obtain ⟨⟨k0, b0, xs0⟩, e0, e⟩ := bd e
  obtain ⟨⟨r2, s2⟩, e2, e⟩ := bd e
  obtain ⟨⟨k, b, xs⟩, e3, e⟩ := bd e
  cases r2 with
  | val xs => cases e
  | slot i => cases e
  | own ys =>
    simp only at e
    split at e
    · rename_i hlen
      cases e
      refine so σ s M H r1 s1 e1 rel _ fun w1 M1 H1 o1 => ?_
      obtain ⟨_, l0, vs0, hw0, _, hH0, _, _⟩ := ownAt_ok o1.rel o1.held e0
      subst hw0
      refine ⟨Or.inl ⟨rfl, vs0, SqL.of hH0⟩, sd σ s1 M1 H1 _ s2 e2 o1.rel _ fun w2 M2 H2 o2 => ?_⟩
      obtain ⟨go, hd⟩ := o1.then o2
      obtain ⟨hk, l, vs, hw, hl, hH, hM, hats⟩ := ownAt_ok o2.rel hd e3
      cases hw
      obtain ⟨l2, ws, rfl, g1, g2, g3, g4⟩ := o2.held
      refine ⟨l0, l2, vs, ws, rfl, rfl, hH, g1, sz_of (by rw [hats.length, g4.length]; exact hlen), ?_⟩
      have fin := own_upd o2.rel hk hl (hats.append g4)
      exact q _ M2 _ (.behind ⟨go, o2.rel⟩ ⟨fin.go, fin.rel, .non, trivial⟩)
    · cases e
theorem se_ext {ob : Expr} {apos : Pos} (ho : SE c ob mo) (h : SE c e m)
    (hx : ∀ X : Cx, Fits c X → ∀ to ta, PE X ob to → PA X [e] ta → PE X (.Call (.Attribute ob "extend" apos) [e] [] pos) (tBM X.K "list" rExtend to ta) := by exact fun X _ to ta p q => pe_bm PySem.F.plainAttrs_list PySem.F.slot_list_extend PySem.F.type_list_extend mt_extend p q)
    (hs : ∀ env, starEach [e] env = (false, eval e env) :: starEach [] env := by intro _; rfl) : SE c (.Call (.Attribute ob "extend" apos) [e] [] pos) (mExt mo m) := by
  obtain ⟨to, po, so⟩ := ho
  obtain ⟨t, p, sd⟩ := h
  exact ⟨tBM c.K "list" rExtend to (tCons t tNil), fun X g => by have := hx X g _ _ (po X g) (pa_cons (p X g) pa_nil (hs X.env)); rw [g.K] at this; exact this, sound_ext so sd⟩
/-! ### x += e, x[i] += e -/
def ipD (f : Int → Int → Int) : D → D → Option D := onI fun i j => some (.int (f i j))
def mAug (i : Nat) (f : Int → Int → Int) (m : ME) : MS := fun s => match s[i]? with
  | some (some (.val (.int a))) => (m s).bind fun p => (peek p.1 p.2).bind fun d => (asI d).bind fun b => (put i (.val (.int (f a b))) p.2).bind fun s2 => some (.nx s2)
  | _ => none
theorem ss_aug (i : Nat) {x : Str} {op : Operator} {f : Int → Int → Int} {pos' : Pos} (h : SE c e m) (ho : ∀ X : Cx, PIp X op (ipI f)) (hN : ndB c.N = true := by rfl) (hi : c.N[i]? = some x := by rfl) (hx : Loc c.sc x := by first | exact .inl rfl | exact .inr rfl)
    (hf : c.top = true ∨ c.sc.names.lookup x = some .local := by first | exact .inr rfl | exact .inl rfl) : SS c (.AugAssign (.Name x pos') op e pos) (mAug i f m) := by
  obtain ⟨t, p, sd⟩ := h
  refine ⟨tAug i t (ipI f), fun X g => ps_aug (i := i) (by rw [g.N]; exact ndOf hN) (by rw [g.N]; exact hi) (by rw [g.sc]; exact hx) (p X g) (ho X) ?_, fun σ s M H o e rel E h => ?_⟩
  · rcases hf with k | k
    · exact .inl (g.fn k x)
    · exact .inr (by rw [g.sc]; exact k)
  unfold mAug at e
  split at e
  · rename_i a ha
    obtain ⟨⟨r, s1⟩, e1, e⟩ := bd e
    obtain ⟨d, e2, e⟩ := bd e
    obtain ⟨b, e3, e⟩ := bd e
    obtain ⟨s2, e4, e⟩ := bd e
    cases e
    obtain ⟨v, hv, hat⟩ := rel.val i _ ha
    cases hat
    refine ⟨.int a, hv, sd σ s M H r s1 e1 rel _ fun w M1 H1 k => ?_⟩
    refine ⟨a, b, rfl, asI_at (k.held.at k.rel e2) e3, ?_⟩
    obtain ⟨M2, k2⟩ := put_ok (v := .int (f a b)) (.behind k.t (.same (r := .val (.int (f a b))) k.rel (.int _) trivial)) e4
    exact h _ M2 H1 k2
  · cases e
theorem get_list {X : Cx} : PGet X (rIxL X.K) := fun pins s σ H o i ov iv Q I ro ri h => by
  obtain ⟨p, xs, i, z, rfl, rfl, hq, he, q⟩ := h
  cases ro
  obtain ⟨t, rfl⟩ := ri
  obtain ⟨its, r, pl, hz⟩ := I.list hq
  obtain ⟨j, h1, h2, h3, h4, h5⟩ := atI_get he
  obtain ⟨w, ew, rw'⟩ := r.get h2
  have hl := r.length
  have hn := line63
  have fin : EP X pins σ Q w s := ⟨z, H, I, rw', q⟩
  by_cases h0 : 0 ≤ i
  · have hj : i.toNat = j := by
      rw [seqIndex_of h0 h5] at h1
      exact Option.some.inj h1
    exact wpAny_getItem_list pl.isList h0 (by omega) (by rw [hj]; simpa using ew) fin
  · have hj : (i + (its.toArray.size : Int)).toNat = j := by
      rw [seqIndex_neg (by omega) h4] at h1
      rw [List.size_toArray, ← hl]
      exact Option.some.inj h1
    exact wpAny_getItem_list_neg pl.isList (by omega) (by rw [List.size_toArray] <;> omega) (by omega) (by rw [hj]; simpa using ew) fin
/-- x[i] op= e, x a list of one's own -/
def mAugS (f : Int → Int → Int) (mo mi m : ME) : MS := fun s => (mo s).bind fun p => (mi p.2).bind fun q => (ownAt p.1 q.2).bind fun o => (peek q.1 q.2).bind fun d => (asI d).bind fun i => (atI o.2.2 i).bind fun old => (asI old).bind fun a =>
  (m q.2).bind fun r => (peek r.1 r.2).bind fun e => (asI e).bind fun b => (ownAt p.1 r.2).bind fun o2 => (ixN o2.2.2.length i).bind fun j => some (.nx (r.2.set o2.1 (some (.own o2.2.1 (o2.2.2.set j (.int (f a b)))))))
theorem sound_augS {K : PySem.W.Frag} {f : Int → Int → Int} {to ti te : TE} {mo mi m : ME} (so : Sound K to mo) (si : Sound K ti mi) (sd : Sound K te m) : SoundS K (tAugS to ti te (rIxL K) (ipI f) rSetL) (mAugS f mo mi m) := fun σ s M H o e rel E h => by
  obtain ⟨⟨r1, s1⟩, e1, e⟩ := bd e
  obtain ⟨⟨r2, s2⟩, e2, e⟩ := bd e
  obtain ⟨⟨k, b, xs⟩, e3, e⟩ := bd e
  obtain ⟨d, e4, e⟩ := bd e
  obtain ⟨i, e5, e⟩ := bd e
  obtain ⟨old, e6, e⟩ := bd e
  obtain ⟨a, e7, e⟩ := bd e
  obtain ⟨⟨r3, s3⟩, e8, e⟩ := bd e
  obtain ⟨d3, e9, e⟩ := bd e
  obtain ⟨b3, e10, e⟩ := bd e
  obtain ⟨⟨k', b', xs'⟩, e11, e⟩ := bd e
  obtain ⟨j, e12, e⟩ := bd e
  cases e
  refine so σ s M H r1 s1 e1 rel _ fun w1 M1 H1 o1 => si σ s1 M1 H1 r2 s2 e2 o1.rel _ fun w2 M2 H2 o2 => ?_
  obtain ⟨go, hd⟩ := o1.then o2
  obtain ⟨hk, l, vs, rfl, hl, hH, hM, hats⟩ := ownAt_ok o2.rel hd e3
  have hw := asI_at (o2.held.at o2.rel e4) e5
  subst hw
  obtain ⟨u, hu, hua⟩ := ats_ix hats e6
  have hu2 := asI_at hua e7
  subst hu2
  refine ⟨l, vs, i, _, rfl, rfl, SqL.of hH, hu, sd σ s2 M2 H2 r3 s3 e8 o2.rel _ fun w3 M3 H3 o3 => ?_⟩
  have hw3 := asI_at (o3.held.at o3.rel e9) e10
  subst hw3
  have hd3 := hd.go o3.go o3.rel
  obtain ⟨hk', l', vs', hw', hl', hH', hM', hats'⟩ := ownAt_ok o3.rel hd3 e11
  cases hw'
  refine ⟨a, b3, rfl, rfl, l, vs', i, j, rfl, rfl, hH', by rw [hats'.length]; exact e12, ?_⟩
  have fin := own_upd o3.rel hk' hl' (Ats.set (.int (f a b3)) j hats')
  exact h σ M3 _ (OkS.trans ⟨go.trans o3.go, o3.rel⟩ fin.s)
theorem ss_augS {op : Operator} {f : Int → Int → Int} {tpos : Pos} {mo mi : ME} (hso : SE c o mo) (hsi : SE c i mi) (h : SE c e m) (ho : ∀ X : Cx, PIp X op (ipI f))
    (ha : ∀ ov iv new, augStore i ov iv new = (do holding [new, ov, iv] (setItem ov iv new); release [new, ov, iv] []; pure .next) := by intros; rfl) : SS c (.AugAssign (.Subscript o i tpos) op e pos) (mAugS f mo mi m) := by
  obtain ⟨to, po, so⟩ := hso
  obtain ⟨ti, pi, si⟩ := hsi
  obtain ⟨t, p, sd⟩ := h
  exact ⟨_, fun X g => by have := get_list (X := X); rw [g.K] at this; exact ps_augS (po X g) (pi X g) this (p X g) (ho X) set_list ha, sound_augS so si sd⟩
end
end Dm
set_option Elab.async false
set_option linter.all false
set_option maxRecDepth 100000
set_option maxHeartbeats 4000000
namespace Dm
open PySem PySem.Spec L2
set_option autoImplicit false

/-! ### what is walked -/
/-- an item of a walk: as it stands, or a new tuple of what stands -/
def Yl (K : PySem.W.Frag) (M H : Hp) (x : V) (H' : Hp) (d : D) : Prop :=
  (H' = H ∧ At K M x d) ∨ (∃ T vs ds, x = V.ref T ∧ H T = none ∧ H' = upd H T (.tup vs) ∧ d = D.tup ds ∧ Ats K M vs ds)
structure Walk (K : PySem.W.Frag) (M : Hp) (J : It) (xs : List D) : Prop where
  go : ∀ i H, Le M H → i < xs.length → J.go i H
  yld : ∀ i H x H', Le M H → i < xs.length → J.yld i H x H' → ∃ d, xs[i]? = some d ∧ Yl K M H x H' d
  stop : ∀ i H, Le M H → xs.length ≤ i → J.stop i H
abbrev MI := S → Option (List D × S)
def SoundI (K : PySem.W.Frag) (wi : TI) (m : MI) : Prop := ∀ (σ : L2.St) (s : S) (M H : Hp) (xs : List D) (s' : S), m s = some (xs, s') → Rel K M H σ s → ∀ R : It → Hp → Prop, (∀ J M' H', OkT K σ s M H s' M' H' → Walk K M' J xs → R J H') → wi σ H R
def SI (c : Cd) (tg e : Expr) (m : MI) : Prop := ∃ t : TI, (∀ X, Fits c X → PI X tg e t) ∧ SoundI c.K t m
/-- the item taken -/
theorem yl_ok {K : PySem.W.Frag} {M0 M H H' : Hp} {σ : L2.St} {s : S} {x : V} {d : D} (rel : Rel K M H σ s) (h0 : Le M0 M) (y : Yl K M0 H x H' d) : ∃ M', OkT K σ s M H s M' H' ∧ At K M' x d := by
  rcases y with ⟨rfl, h⟩ | ⟨T, vs, ds, rfl, hT, rfl, rfl, h⟩
  · exact ⟨M, .refl rel, h.mono h0⟩
  · have o := ok_tup rel hT (h.mono h0)
    exact ⟨_, o.t, o.held⟩
/-! lists, tuples -/
def iSeq (K : PySem.W.Frag) (tl : TE) : TI := fun σ H R => tl σ H fun x H1 => ∃ a, x = V.ref a ∧ (((∃ xs, SqL K H1 a xs) ∧ R (Itl K a) H1) ∨ ((∃ xs, SqT K H1 a xs) ∧ R (Itt K a) H1))
theorem pi_seq {X : Cx} {tg l : Expr} {tl : TE} (hl : PE X l tl) : PI X tg l (iSeq X.K tl) := by
  refine ⟨fun pins s σ H R I h => ?_⟩
  refine thn (hl.run pins s σ H _ I h) fun v s1 ⟨x, H1, I1, r1, q1⟩ => ?_
  obtain ⟨a, e, q1⟩ := q1
  subst e
  cases r1
  rcases q1 with ⟨⟨xs, hq⟩, q⟩ | ⟨⟨xs, hq⟩, q⟩
  · obtain ⟨its, rv, p, hz⟩ := I1.list hq
    refine wpAny_pyIter_list p.isList ?_
    refine ⟨s1.heap.objs.size, [s1.heap.objs.size], _, _, H1, rfl, I1.kept (t' := s1.toks) fun b o e => Heap.get?_push_of_some _ e, turn_list a _, ⟨_, Heap.get?_push_size _ rfl, rfl, rfl⟩, fun b hb => ?_, q⟩
    have e : b = s1.heap.objs.size := by simpa using hb
    subst e
    exact I1.fpOk (Nat.le_refl _) (I1.hok.fresh (Nat.le_refl _))
  · obtain ⟨its, rv, p, hz⟩ := I1.tuple hq
    refine wpAny_pyIter_tuple (show s1.heap.IsTuple a its.toArray from p) ?_
    refine ⟨s1.heap.objs.size, [s1.heap.objs.size], _, _, H1, rfl, I1.kept (t' := s1.toks) fun b o e => Heap.get?_push_of_some _ e, turn_tuple a _, ⟨_, Heap.get?_push_size _ rfl, rfl, rfl⟩, fun b hb => ?_, q⟩
    have e : b = s1.heap.objs.size := by simpa using hb
    subst e
    exact I1.fpOk (Nat.le_refl _) (I1.hok.fresh (Nat.le_refl _))
theorem walk_list {K : PySem.W.Frag} {M : Hp} {a : Addr} {vs : List V} {xs : List D} (h : SqL K M a vs) (q : Ats K M vs xs) : Walk K M (Itl K a) xs where
  go := fun i H le hi => ⟨vs, vs[i]'(by rw [q.length]; exact hi), le.sqL h, List.getElem?_eq_getElem _⟩
  yld := fun i H x H' le hi y => by
    obtain ⟨e, y⟩ := y
    obtain ⟨d, a1, a2⟩ := q.getV (y vs (le.sqL h))
    exact ⟨d, a1, .inl ⟨e, a2⟩⟩
  stop := fun i H le hi => ⟨vs, le.sqL h, by rw [q.length]; exact hi⟩
theorem walk_tup {K : PySem.W.Frag} {M : Hp} {a : Addr} {vs : List V} {xs : List D} (h : SqT K M a vs) (q : Ats K M vs xs) : Walk K M (Itt K a) xs where
  go := fun i H le hi => ⟨vs, vs[i]'(by rw [q.length]; exact hi), le.sqT h, List.getElem?_eq_getElem _⟩
  yld := fun i H x H' le hi y => by
    obtain ⟨e, y⟩ := y
    obtain ⟨d, a1, a2⟩ := q.getV (y vs (le.sqT h))
    exact ⟨d, a1, .inl ⟨e, a2⟩⟩
  stop := fun i H le hi => ⟨vs, le.sqT h, by rw [q.length]; exact hi⟩
/-- over data that stays -/
def mSeqI (m : ME) : MI := fun s => (m s).bind fun p => (frz p.1 p.2).bind fun q => (seqD q.1).bind fun xs => some (xs, q.2)
section
variable {c : Cd} {tg e a b : Expr} {es : List Expr} {p pos : Pos} {m : ME} {ms : MA}
theorem si_seq (h : SE c e m) : SI c tg e (mSeqI m) := by
  obtain ⟨t, p, sd⟩ := h
  refine ⟨iSeq c.K t, fun X g => by have := pi_seq (tg := tg) (p X g); rw [g.K] at this; exact this, fun σ s M H xs s' e rel R q => ?_⟩
  obtain ⟨⟨r1, s1⟩, e1, e⟩ := bd e
  obtain ⟨⟨d, s2⟩, e2, e⟩ := bd e
  obtain ⟨zs, e3, e⟩ := bd e
  cases e
  refine sd σ s M H r1 s1 e1 rel _ fun v M1 H1 k => ?_
  obtain ⟨M2, k2⟩ := frz_ok k e2
  have ha : At c.K M2 v d := k2.held
  cases d <;> try (cases e3; done)
  · cases e3
    cases ha with
    | tup h1 h2 => exact ⟨_, rfl, .inr ⟨⟨_, k2.rel.le.sqT h1⟩, q _ M2 H1 k2.t (walk_tup h1 h2)⟩⟩
  · cases e3
    cases ha with
    | lst h1 h2 => exact ⟨_, rfl, .inl ⟨⟨_, k2.rel.le.sqL h1⟩, q _ M2 H1 k2.t (walk_list h1 h2)⟩⟩
/-! ranges -/
def rgD (lo : Int) (n : Nat) (c : Int) : List D := (List.range n).map fun i => D.int (lo + (i : Nat) * c)
theorem rgD_length (lo c : Int) (n : Nat) : (rgD lo n c).length = n := by unfold rgD; rw [List.length_map, List.length_range]
theorem rgD_get (lo c : Int) (n i : Nat) (h : i < n) : (rgD lo n c)[i]? = some (D.int (lo + (i : Nat) * c)) := by
  unfold rgD
  rw [List.getElem?_map, List.getElem?_range h]; rfl
theorem walk_r {K : PySem.W.Frag} {M : Hp} {lo : Int} {n : Nat} : Walk K M (Itr lo n) (rgD lo n 1) where
  go := fun i H le hi => by rw [rgD_length] at hi; exact hi
  yld := fun i H x H' le hi y => by
    rw [rgD_length] at hi
    obtain ⟨e, y⟩ := y
    subst y
    exact ⟨_, rgD_get lo 1 n i hi, .inl ⟨e, by rw [Int.mul_one]; exact .int _⟩⟩
  stop := fun i H le hi => by rw [rgD_length] at hi; exact hi
theorem walk_c {K : PySem.W.Frag} {M : Hp} {lo c : Int} {n : Nat} : Walk K M (Itc lo c n) (rgD lo n c) where
  go := fun i H le hi => by rw [rgD_length] at hi; exact hi
  yld := fun i H x H' le hi y => by
    rw [rgD_length] at hi
    obtain ⟨e, y⟩ := y
    subst y
    exact ⟨_, rgD_get lo c n i hi, .inl ⟨e, .int _⟩⟩
  stop := fun i H le hi => by rw [rgD_length] at hi; exact hi
def small (i : Int) : Bool := decide (-1000000000 ≤ i) && decide (i ≤ 1000000000)
theorem small_ok {i : Int} (h : small i = true) : -(2 ^ 62) ≤ i ∧ i < 2 ^ 62 := by
  unfold small at h
  rw [Bool.and_eq_true, decide_eq_true_eq, decide_eq_true_eq] at h
  omega
abbrev FR := List D → Option (Int × Nat × Int)
def fRg1 : FR
  | [.int j] => if small j then some (0, j.toNat, 1) else none
  | _ => none
def fRg2 : FR
  | [.int i, .int j] => if small i && small j then some (i, (j - i).toNat, 1) else none
  | _ => none
/-- down by one -/
def fRg3 : FR
  | [.int i, .int j, .int c] => if small i && small j && decide (c = -1) then some (i, (i - j).toNat, -1) else none
  | _ => none
def mRng (f : FR) (ms : MA) : MI := fun s => (ms s).bind fun p => (peeks p.1 p.2).bind fun ds => (f ds).bind fun r => some (rgD r.1 r.2.1 r.2.2, p.2)
theorem sound_rng1 {K : PySem.W.Frag} {ta : TA} (sa : SoundA K ta ms) : SoundI K (iRng1 ta) (mRng fRg1 ms) := fun σ s M H xs s' e rel RR q => by
  obtain ⟨⟨rs, s1⟩, e1, e⟩ := bd e
  obtain ⟨ds, e2, e⟩ := bd e
  obtain ⟨z, e3, e⟩ := bd e
  cases e
  refine sa σ s M H rs _ e1 rel _ fun vs M1 H1 o => ?_
  have hats := o.held.ats o.rel e2
  unfold fRg1 at e3
  split at e3
  · split at e3
    · rename_i j hs
      cases e3
      obtain ⟨b1, b2⟩ := small_ok hs
      exact ⟨_, atsI1 hats, b1, b2, q _ M1 H1 o.t walk_r⟩
    · cases e3
  · cases e3
theorem sound_rng2 {K : PySem.W.Frag} {ta : TA} (sa : SoundA K ta ms) : SoundI K (iRng2 ta) (mRng fRg2 ms) := fun σ s M H xs s' e rel RR q => by
  obtain ⟨⟨rs, s1⟩, e1, e⟩ := bd e
  obtain ⟨ds, e2, e⟩ := bd e
  obtain ⟨z, e3, e⟩ := bd e
  cases e
  refine sa σ s M H rs _ e1 rel _ fun vs M1 H1 o => ?_
  have hats := o.held.ats o.rel e2
  unfold fRg2 at e3
  split at e3
  · split at e3
    · rename_i i j hs
      cases e3
      rw [Bool.and_eq_true] at hs
      obtain ⟨b1, b2⟩ := small_ok hs.1
      obtain ⟨b3, b4⟩ := small_ok hs.2
      exact ⟨_, _, atsI2 hats, ⟨b1, b2, b3, b4⟩, q _ M1 H1 o.t walk_r⟩
    · cases e3
  · cases e3
theorem atsI3 {K : PySem.W.Frag} {H : Hp} {vs : List V} {i j k : Int} (h : Ats K H vs [.int i, .int j, .int k]) : vs = [.int i, .int j, .int k] := by
  cases h with
  | cons a b =>
    cases a
    rw [atsI2 b]
theorem sound_rng3 {K : PySem.W.Frag} {ta : TA} (sa : SoundA K ta ms) : SoundI K (iRng3 ta) (mRng fRg3 ms) := fun σ s M H xs s' e rel RR q => by
  obtain ⟨⟨rs, s1⟩, e1, e⟩ := bd e
  obtain ⟨ds, e2, e⟩ := bd e
  obtain ⟨z, e3, e⟩ := bd e
  cases e
  refine sa σ s M H rs _ e1 rel _ fun vs M1 H1 o => ?_
  have hats := o.held.ats o.rel e2
  unfold fRg3 at e3
  split at e3
  · split at e3
    · rename_i i j k hs
      cases e3
      rw [Bool.and_eq_true, Bool.and_eq_true, decide_eq_true_eq] at hs
      obtain ⟨b1, b2⟩ := small_ok hs.1.1
      obtain ⟨b3, b4⟩ := small_ok hs.1.2
      have hk := hs.2
      subst hk
      exact ⟨_, _, _, _, atsI3 hats, RgC.neg b1 b2 b3 b4, q _ M1 H1 o.t walk_c⟩
    · cases e3
  · cases e3
theorem si_rng1 (hg : ∀ X : Cx, Fits c X → Gl X "range") (hm : c.mg "range" = none) (ha : SA c [a] ms) (hs : ∀ env, starEach [a] env = [(false, eval a env)] := by intro _; rfl) : SI c tg (.Call (.Name "range" p) [a] [] pos) (mRng fRg1 ms) := by
  obtain ⟨t, pa, sd⟩ := ha
  exact ⟨_, fun X g => pi_range1 (hg X g) (by rw [g.mg]; exact hm) (pa X g) (hs X.env), sound_rng1 sd⟩
theorem si_rng2 (hg : ∀ X : Cx, Fits c X → Gl X "range") (hm : c.mg "range" = none) (ha : SA c [a, b] ms) (hs : ∀ env, starEach [a, b] env = [(false, eval a env), (false, eval b env)] := by intro _; rfl) (hs2 : ∀ env, starEach [b] env = [(false, eval b env)] := by intro _; rfl) :
    SI c tg (.Call (.Name "range" p) [a, b] [] pos) (mRng fRg2 ms) := by
  obtain ⟨t, pa, sd⟩ := ha
  exact ⟨_, fun X g => pi_range2 (hg X g) (by rw [g.mg]; exact hm) (pa X g) (hs X.env) (hs2 X.env), sound_rng2 sd⟩
theorem si_rng3 {a3 : Expr} (hg : ∀ X : Cx, Fits c X → Gl X "range") (hm : c.mg "range" = none) (ha : SA c [a, b, a3] ms) (hs : ∀ env, starEach [a, b, a3] env = (false, eval a env) :: starEach [b, a3] env := by intro _; rfl) (hpl : ∀ env, (backTo pos (starEach [b, a3] env)).any (·.1) = false := by intro _; rfl) :
    SI c tg (.Call (.Name "range" p) [a, b, a3] [] pos) (mRng fRg3 ms) := by
  obtain ⟨t, pa, sd⟩ := ha
  exact ⟨_, fun X g => pi_range3 (hg X g) (by rw [g.mg]; exact hm) (pa X g) (hs X.env) (hpl X.env), sound_rng3 sd⟩
/-! enumerate(list that stays), zip -/
def enD (xs : List D) : List D := (List.range xs.length).map fun i => D.tup [.int (i : Nat), xs.getD i .non]
theorem enD_length (xs : List D) : (enD xs).length = xs.length := by unfold enD; rw [List.length_map, List.length_range]
theorem walk_en {K : PySem.W.Frag} {M : Hp} {a : Addr} {vs : List V} {xs : List D} (h : SqL K M a vs) (q : Ats K M vs xs) : Walk K M (Ite K a) (enD xs) where
  go := fun i H le hi => ⟨vs, vs[i]'(by rw [q.length]; rw [enD_length] at hi; exact hi), le.sqL h, List.getElem?_eq_getElem _⟩
  yld := fun i H x H' le hi y => by
    rw [enD_length] at hi
    obtain ⟨T, z, e1, e2, e3, y⟩ := y
    obtain ⟨d, a1, a2⟩ := q.getV (y vs (le.sqL h))
    refine ⟨.tup [.int (i : Nat), d], ?_, .inr ⟨T, _, _, e1, e2, e3, rfl, .cons (.int _) (.cons a2 .nil)⟩⟩
    unfold enD
    rw [List.getElem?_map, List.getElem?_range hi]
    show some (D.tup [.int (i : Nat), xs.getD i .non]) = _
    rw [List.getD_eq_getElem?_getD, a1]; rfl
  stop := fun i H le hi => ⟨vs, le.sqL h, by rw [q.length]; rw [enD_length] at hi; exact hi⟩
def mEnum (m : ME) : MI := fun s => (m s).bind fun p => (frz p.1 p.2).bind fun q => match q.1 with
  | .lst xs => some (enD xs, q.2)
  | _ => none
theorem si_enum {elts : List Expr} {kk : Nat} {tpos : Pos} (hg : ∀ X : Cx, Fits c X → Gl X "enumerate") (hm : c.mg "enumerate" = none) (h : SE c e m) (hs : ∀ env, starEach [e] env = [(false, eval e env)] := by intro _; rfl) (hs1 : ∀ env, starEach [e] env = (false, eval e env) :: starEach [] env := by intro _; rfl) :
    SI c (.Tuple elts kk tpos) (.Call (.Name "enumerate" p) [e] [] pos) (mEnum m) := by
  obtain ⟨t, pe, sd⟩ := h
  refine ⟨iEnum c.K (tCons t tNil), fun X g => by have := pi_enum (X := X) (elts := elts) (kk := kk) (tpos := tpos) (p := p) (pos := pos) (hg X g) (by rw [g.mg]; exact hm) (pa_cons (pe X g) pa_nil (hs1 X.env)) (hs X.env); rw [g.K] at this; exact this, fun σ s M H xs s' e rel RR q => ?_⟩
  obtain ⟨⟨r1, s1⟩, e1, e⟩ := bd e
  obtain ⟨⟨d, s2⟩, e2, e⟩ := bd e
  cases d <;> try (cases e; done)
  rename_i zs
  cases e
  refine sd σ s M H r1 s1 e1 rel _ fun v M1 H1 k => ?_
  obtain ⟨M2, k2⟩ := frz_ok k e2
  have ha : At c.K M2 v (.lst zs) := k2.held
  cases ha with
  | lst h1 h2 => exact ⟨_, _, rfl, k2.rel.le.sqL h1, q _ M2 H1 k2.t (walk_en h1 h2)⟩
/-- the pairs, as many as the shorter one has -/
def zpD (xs ys : List D) : List D := List.zipWith (fun x y => D.tup [x, y]) xs ys
theorem zpD_get {xs ys : List D} {i : Nat} {x y : D} (h1 : xs[i]? = some x) (h2 : ys[i]? = some y) : (zpD xs ys)[i]? = some (.tup [x, y]) := by
  unfold zpD
  rw [List.getElem?_zipWith, h1, h2]
theorem zpD_length (xs ys : List D) : (zpD xs ys).length = min xs.length ys.length := by unfold zpD; rw [List.length_zipWith]
theorem walk_zpT {K : PySem.W.Frag} {M : Hp} {a b : Addr} {vs ws : List V} {xs ys : List D} (h : SqT K M a vs) (h' : SqT K M b ws) (q : Ats K M vs xs) (q' : Ats K M ws ys) : Walk K M (RZ.ItzT K a b) (zpD xs ys) where
  go := fun i H le hi => by
    rw [zpD_length, Nat.lt_min] at hi
    exact ⟨vs, ws, vs[i]'(by rw [q.length]; exact hi.1), ws[i]'(by rw [q'.length]; exact hi.2), le.sqT h, le.sqT h', List.getElem?_eq_getElem _, List.getElem?_eq_getElem _⟩
  yld := fun i H x H' le hi y => by
    obtain ⟨T, z, z', e1, e2, e3, y1, y2⟩ := y
    obtain ⟨d, a1, a2⟩ := q.getV (y1 vs (le.sqT h))
    obtain ⟨d', b1, b2⟩ := q'.getV (y2 ws (le.sqT h'))
    exact ⟨_, zpD_get a1 b1, .inr ⟨T, _, _, e1, e2, e3, rfl, .cons a2 (.cons b2 .nil)⟩⟩
  stop := fun i H le hi => ⟨vs, ws, le.sqT h, le.sqT h', by rw [q.length, q'.length]; rw [zpD_length] at hi; omega⟩
theorem walk_zpL {K : PySem.W.Frag} {M : Hp} {a b : Addr} {vs ws : List V} {xs ys : List D} (h : SqL K M a vs) (h' : SqL K M b ws) (q : Ats K M vs xs) (q' : Ats K M ws ys) : Walk K M (Itz K a b) (zpD xs ys) where
  go := fun i H le hi => by
    rw [zpD_length, Nat.lt_min] at hi
    exact ⟨vs, ws, vs[i]'(by rw [q.length]; exact hi.1), ws[i]'(by rw [q'.length]; exact hi.2), le.sqL h, le.sqL h', List.getElem?_eq_getElem _, List.getElem?_eq_getElem _⟩
  yld := fun i H x H' le hi y => by
    obtain ⟨T, z, z', e1, e2, e3, y1, y2⟩ := y
    obtain ⟨d, a1, a2⟩ := q.getV (y1 vs (le.sqL h))
    obtain ⟨d', b1, b2⟩ := q'.getV (y2 ws (le.sqL h'))
    exact ⟨_, zpD_get a1 b1, .inr ⟨T, _, _, e1, e2, e3, rfl, .cons a2 (.cons b2 .nil)⟩⟩
  stop := fun i H le hi => ⟨vs, ws, le.sqL h, le.sqL h', by rw [q.length, q'.length]; rw [zpD_length] at hi; omega⟩
/-- both arguments data that stays (se_frz) -/
def mZip (ms : MA) : MI := fun s => (ms s).bind fun p => match p.1 with
  | [.val (.tup xs), .val (.tup ys)] => some (zpD xs ys, p.2)
  | [.val (.lst xs), .val (.lst ys)] => some (zpD xs ys, p.2)
  | _ => none
theorem si_zip {elts : List Expr} {kk : Nat} {tpos : Pos} (hg : ∀ X : Cx, Fits c X → Gl X "zip") (hm : c.mg "zip" = none) (ha : SA c [a, b] ms)
    (hs : ∀ env, starEach [a, b] env = (false, eval a env) :: starEach [b] env := by intro _; rfl) (hpl : ∀ env, (backTo pos (starEach [b] env)).any (·.1) = false := by intro _; rfl) :
    SI c (.Tuple elts kk tpos) (.Call (.Name "zip" p) [a, b] [] pos) (mZip ms) := by
  obtain ⟨t, pa, sd⟩ := ha
  refine ⟨RZ.iZipA c.K t, fun X g => by have := RZ.pi_zipA (X := X) (elts := elts) (kk := kk) (tpos := tpos) (p := p) (pos := pos) (hg X g) (by rw [g.mg]; exact hm) (pa X g) (hs X.env) (hpl X.env); rw [g.K] at this; exact this, fun σ s M H xs s' e rel RR q => ?_⟩
  obtain ⟨⟨rs, s1⟩, e1, e⟩ := bd e
  refine sd σ s M H rs s1 e1 rel _ fun vs M1 H1 k => ?_
  simp only at e
  split at e
  · cases e
    obtain ⟨kg, kr, kh, kn⟩ := k
    cases kh with
    | cons h1 kh =>
      cases kh with
      | cons h2 kh =>
        cases kh
        cases h1 with
        | tup a1 a2 =>
          cases h2 with
          | tup b1 b2 => exact ⟨_, _, _, _, rfl, .inr ⟨kr.le.sqT a1, kr.le.sqT b1, q _ M1 H1 ⟨kg, kr⟩ (walk_zpT a1 b1 a2 b2)⟩⟩
  · cases e
    obtain ⟨kg, kr, kh, kn⟩ := k
    cases kh with
    | cons h1 kh =>
      cases kh with
      | cons h2 kh =>
        cases kh
        cases h1 with
        | lst a1 a2 =>
          cases h2 with
          | lst b1 b2 => exact ⟨_, _, _, _, rfl, .inl ⟨kr.le.sqL a1, kr.le.sqL b1, q _ M1 H1 ⟨kg, kr⟩ (walk_zpL a1 b1 a2 b2)⟩⟩
  · cases e
end
end Dm
set_option Elab.async false
set_option linter.all false
set_option maxRecDepth 100000
set_option maxHeartbeats 4000000
namespace Dm
open PySem PySem.Spec L2
set_option autoImplicit false

/-! ### for, while -/
def loop (g : MG) (b : MS) : List D → S → Option O
  | [], s => some (.nx s)
  | d :: ds, s => (g d s).bind fun s1 => (b s1).bind fun o => match o with
    | .nx s2 => loop g b ds s2
    | .ct s2 => loop g b ds s2
    | .bk s2 => some (.nx s2)
    | .rt r s2 => some (.rt r s2)
def mFor (mi : MI) (g : MG) (b : MS) : MS := fun s => (mi s).bind fun p => loop g b p.1 p.2
theorem sound_for {K : PySem.W.Frag} {wi : TI} {tg : TG} {tb : TS} {mi : MI} {ts : List Nat} {g : MG} {b : MS} (hi : SoundI K wi mi) (hg : SoundG K ts tg g) (hb : SoundS K tb b) : SoundS K (tFor wi tg tb) (mFor mi g b) := fun σ s M H o e rel E h => by
  obtain ⟨⟨xs, s1⟩, e1, e⟩ := bd e
  refine hi σ s M H xs s1 e1 rel _ fun J M1 H1 k1 W => ?_
  refine ⟨fun i m σ2 H2 => m = xs.length - i ∧ i ≤ xs.length ∧ ∃ s2 M2, OkS K σ s M H σ2 s2 M2 H2 ∧ Le M1 M2 ∧ loop g b (xs.drop i) s2 = some o, ⟨xs.length, by simp, Nat.zero_le _, s1, M1, k1.s, Le.refl _, by simpa using e⟩, fun i m σ2 H2 hw => ?_⟩
  obtain ⟨rfl, hil, s2, M2, k2, le2, e2⟩ := hw
  by_cases hlt : i < xs.length
  · refine .inr ⟨W.go i H2 (le2.trans k2.rel.le) hlt, fun σ' H' => ∃ s3 M3, OkS K σ s M H σ' s3 M3 H' ∧ Le M1 M3 ∧ loop g b (xs.drop (i + 1)) s3 = some o, fun σ' H' hn => ⟨xs.length - (i + 1), by omega, rfl, by omega, hn⟩, fun x H' hy => ?_⟩
    obtain ⟨d, hd, y⟩ := W.yld i H2 x H' (le2.trans k2.rel.le) hlt hy
    rw [List.drop_eq_getElem_cons hlt] at e2
    have hd' : xs[i] = d := by rw [List.getElem?_eq_getElem hlt] at hd; exact Option.some.inj hd
    rw [hd'] at e2
    obtain ⟨s3, e3, e2⟩ := bd e2
    obtain ⟨o3, e4, e2⟩ := bd e2
    obtain ⟨M3, k3, hat⟩ := yl_ok k2.rel le2 y
    have k23 := k2.trans k3.s
    refine hg d x σ2 s2 M3 H' s3 e3 k3.rel hat _ fun σ4 M4 H4 k4 _ => ?_
    have k24 := k23.trans k4
    have le4 : Le M1 M4 := le2.trans (k3.go.up.trans k4.go.up)
    refine hb σ4 s3 M4 H4 o3 e4 k4.rel _ ?_
    cases o3 with
    | nx s5 => exact fun σ5 M5 H5 k5 => ⟨s5, M5, k24.trans k5, le4.trans k5.go.up, e2⟩
    | ct s5 => exact fun σ5 M5 H5 k5 => ⟨s5, M5, k24.trans k5, le4.trans k5.go.up, e2⟩
    | bk s5 => cases e2; exact fun σ5 M5 H5 k5 => h σ5 M5 H5 (k24.trans k5)
    | rt r s5 => cases e2; exact fun v σ5 M5 H5 k5 q => h v σ5 M5 H5 (k24.trans k5) (q.go k24.go)
  · have ei : xs.drop i = [] := List.drop_eq_nil_of_le (by omega)
    rw [ei] at e2
    cases e2
    exact .inl ⟨W.stop i H2 (le2.trans k2.rel.le) (by omega), h σ2 M2 H2 k2⟩
section
variable {c : Cd} {tg e : Expr} {pos : Pos} {mi : MI} {ts : List Nat} {g : MG} {b : MS} {t : MT} {body : List Stmt}
theorem ss_for (hi : SI c tg e mi) (hg : SG c tg ts g) (hb : SSs c body b) (hs : ∀ env x, foldedSetIterable e env x = pure x := by intro _ _; rfl) : SS c (.For tg e body [] pos) (mFor mi g b) := by
  obtain ⟨ti, pi, si⟩ := hi
  obtain ⟨tg', pg, sg⟩ := hg
  obtain ⟨tb, pb, sb⟩ := hb
  exact ⟨_, fun X g => ps_for g.own g.calm (pi X g) (pg X g) (pb X g) (hs X.env), sound_for si sg sb⟩
def whil (t : MT) (b : MS) : Nat → S → Option O
  | 0, _ => none
  | n + 1, s => (t s).bind fun p => if p.1 then (b p.2).bind fun o => match o with
      | .nx s2 => whil t b n s2
      | .ct s2 => whil t b n s2
      | .bk s2 => some (.nx s2)
      | .rt r s2 => some (.rt r s2)
    else some (.nx p.2)
def mWhile (f : S → Nat) (t : MT) (b : MS) : MS := fun s => whil t b (f s) s
theorem sound_while {K : PySem.W.Frag} {tc : TT} {tb : TS} {f : S → Nat} {t : MT} {b : MS} (ht : SoundT K tc t) (hb : SoundS K tb b) : SoundS K (tWhile tc tb) (mWhile f t b) := fun σ s M H o e rel E h => by
  refine ⟨fun m σ2 H2 => ∃ s2 M2, OkS K σ s M H σ2 s2 M2 H2 ∧ whil t b m s2 = some o, ⟨f s, s, M, .refl rel, e⟩, fun m σ2 H2 hw => ?_⟩
  obtain ⟨s2, M2, k2, e2⟩ := hw
  cases m with
  | zero => cases e2
  | succ m =>
    obtain ⟨⟨k, s3⟩, e3, e2⟩ := bd e2
    refine ht σ2 s2 M2 H2 k s3 e3 k2.rel _ fun M3 H3 k3 => ?_
    have k23 := k2.trans k3.s
    cases k with
    | true =>
      obtain ⟨o3, e4, e2⟩ := bd e2
      refine ⟨fun σ' H' => ∃ s4 M4, OkS K σ s M H σ' s4 M4 H' ∧ whil t b m s4 = some o, fun σ' H' hn => ⟨m, Nat.lt_succ_self _, hn⟩, hb σ2 s3 M3 H3 o3 e4 k3.rel _ ?_⟩
      cases o3 with
      | nx s5 => exact fun σ5 M5 H5 k5 => ⟨s5, M5, k23.trans k5, e2⟩
      | ct s5 => exact fun σ5 M5 H5 k5 => ⟨s5, M5, k23.trans k5, e2⟩
      | bk s5 => cases e2; exact fun σ5 M5 H5 k5 => h σ5 M5 H5 (k23.trans k5)
      | rt r s5 => cases e2; exact fun v σ5 M5 H5 k5 q => h v σ5 M5 H5 (k23.trans k5) (q.go k23.go)
    | false =>
      cases e2
      exact h σ2 M3 H3 k23
theorem ss_while (f : S → Nat) (ht : ST c e t) (hb : SSs c body b) : SS c (.While e body [] pos) (mWhile f t b) := by
  obtain ⟨tt, pt, st⟩ := ht
  obtain ⟨tb, pb, sb⟩ := hb
  exact ⟨_, fun X g => ps_while g.own (pt X g) (pb X g), sound_while st sb⟩
end

/-! ### [e for x in xs if t] -/
def wipeS (s : S) : List Nat → S
  | [] => s
  | v :: vs => (wipeS s vs).set v none
theorem wipeS_length (s : S) : ∀ vs : List Nat, (wipeS s vs).length = s.length
  | [] => rfl
  | v :: vs => by unfold wipeS; rw [List.length_set, wipeS_length s vs]
theorem wipeS_get (s : S) (i : Nat) : ∀ vs : List Nat, i ∉ vs → (wipeS s vs)[i]? = s[i]?
  | [], _ => rfl
  | v :: vs, h => by
    rw [List.mem_cons, not_or] at h
    unfold wipeS
    rw [List.getElem?_set_ne (fun e => h.1 e.symm), wipeS_get s i vs h.2]
theorem wipeS_mem (s : S) (i : Nat) : ∀ vs : List Nat, i ∈ vs → ∀ cl, (wipeS s vs)[i]? ≠ some (some cl)
  | [], h, _ => by cases h
  | v :: vs, h, cl => by
    unfold wipeS
    intro q
    rcases set_get q with ⟨_, z⟩ | ⟨hn, z⟩
    · cases z
    · rcases List.mem_cons.mp h with e | e
      · exact hn e
      · exact wipeS_mem s i vs e cl z
theorem wipe_get (σ : L2.St) (i : Nat) : ∀ vs : List Nat, i ∉ vs → (wipe σ vs)[i]? = σ[i]?
  | [], _ => rfl
  | v :: vs, h => by
    rw [List.mem_cons, not_or] at h
    unfold wipe
    rw [List.getElem?_set_ne (fun e => h.1 e.symm), wipe_get σ i vs h.2]
theorem wipe_in (σ : L2.St) (i : Nat) (hi : i < σ.length) : ∀ vs : List Nat, i ∈ vs → (wipe σ vs)[i]? = some none
  | [], h => by cases h
  | v :: vs, h => by
    unfold wipe
    by_cases e : v = i
    · subst e
      exact List.getElem?_set_self (by rw [wipe_length]; exact hi)
    · rw [List.getElem?_set_ne e]
      rcases List.mem_cons.mp h with z | z
      · exact absurd z.symm e
      · exact wipe_in σ i hi vs z
theorem wipe_off {ts vs : List Nat} {σ σ2 : L2.St} (h : Off ts (wipe σ vs) σ2) (hs : ∀ i ∈ ts, i ∈ vs) : wipe σ2 vs = wipe σ vs := by
  apply List.ext_getElem?
  intro i
  have hl : σ2.length = σ.length := by rw [h.1, wipe_length]
  by_cases hv : i ∈ vs
  · by_cases hi : i < σ.length
    · rw [wipe_in σ2 i (by rw [hl]; exact hi) vs hv, wipe_in σ i hi vs hv]
    · rw [List.getElem?_eq_none (by rw [wipe_length, hl]; omega), List.getElem?_eq_none (by rw [wipe_length]; omega)]
  · rw [wipe_get σ2 i vs hv, h.2 i (fun z => hv (hs i z))]
/-- back to what the slots were -/
def unwipe (s0 s1 : S) (vs : List Nat) : S := s1.zipIdx.map fun p => if p.2 ∈ vs then (s0[p.2]?).getD none else p.1
theorem unwipe_length (s0 s1 : S) (vs : List Nat) : (unwipe s0 s1 vs).length = s1.length := by unfold unwipe; rw [List.length_map, List.length_zipIdx]
theorem unwipe_get (s0 s1 : S) (vs : List Nat) (i : Nat) (h : i ∉ vs) : (unwipe s0 s1 vs)[i]? = s1[i]? := by
  unfold unwipe
  rw [List.getElem?_map, List.getElem?_zipIdx]
  cases q : s1[i]? with
  | none => rfl
  | some x => simp [h]
theorem unwipe_in (s0 s1 : S) (vs : List Nat) (i : Nat) (h : i ∈ vs) {cl : Cell} (e : (unwipe s0 s1 vs)[i]? = some (some cl)) : s0[i]? = some (some cl) := by
  unfold unwipe at e
  rw [List.getElem?_map, List.getElem?_zipIdx] at e
  cases q : s1[i]? with
  | none => rw [q] at e; cases e
  | some x =>
    rw [q] at e
    simp [h] at e
    cases q2 : s0[i]? with
    | none => rw [q2] at e; cases e
    | some y => rw [q2] at e; simp at e; rw [e]
theorem unwipe_out (s0 s1 : S) (vs : List Nat) (i : Nat) (h : i ∈ vs) (hl : s0.length = s1.length) {cl : Cell} (e : s0[i]? = some (some cl)) : (unwipe s0 s1 vs)[i]? = some (some cl) := by
  have hi : i < s1.length := by
    rcases Nat.lt_or_ge i s1.length with q | q
    · exact q
    · rw [List.getElem?_eq_none (by omega)] at e; cases e
  unfold unwipe
  rw [List.getElem?_map, List.getElem?_zipIdx, List.getElem?_eq_getElem hi]
  simp [h, e]
/-- into the block -/
theorem rel_wipe {K : PySem.W.Frag} {M H : Hp} {σ : L2.St} {s : S} (vs : List Nat) (rel : Rel K M H σ s) : Rel K M H (wipe σ vs) (wipeS s vs) ∧ (∀ a, Owned (wipe σ vs) (wipeS s vs) a → Owned σ s a) := by
  have nv : ∀ {i : Nat} {cl : Cell}, (wipeS s vs)[i]? = some (some cl) → i ∉ vs ∧ s[i]? = some (some cl) := fun {i cl} h => by
    by_cases hv : i ∈ vs
    · exact (wipeS_mem s i vs hv cl h).elim
    · exact ⟨hv, by rw [wipeS_get s i vs hv] at h; exact h⟩
  refine ⟨⟨by rw [wipeS_length, wipe_length]; exact rel.len, rel.le, fun i d h => ?_, fun i p xs h => ?_, fun i j p q xs ys l h1 h2 h3 h4 => ?_⟩, fun a ⟨i, p, xs, h1, h2⟩ => ?_⟩
  · obtain ⟨hv, h⟩ := nv h
    obtain ⟨v, a, b⟩ := rel.val i d h
    exact ⟨v, by rw [wipe_get σ i vs hv]; exact a, b⟩
  · obtain ⟨hv, h⟩ := nv h
    obtain ⟨l, ws, a, b⟩ := rel.own i p xs h
    exact ⟨l, ws, by rw [wipe_get σ i vs hv]; exact a, b⟩
  · obtain ⟨v1, h1⟩ := nv h1
    obtain ⟨v2, h2⟩ := nv h2
    rw [wipe_get σ i vs v1] at h3
    rw [wipe_get σ j vs v2] at h4
    exact rel.inj i j p q xs ys l h1 h2 h3 h4
  · obtain ⟨hv, h1⟩ := nv h1
    rw [wipe_get σ i vs hv] at h2
    exact ⟨i, p, xs, h1, h2⟩
/-- the next turn begins: the target's slots are forgotten -/
theorem oks_wipe {K : PySem.W.Frag} {M H M' H' : Hp} {σ σ2 : L2.St} {s s2 : S} {vs : List Nat} (k : OkS K (wipe σ vs) s M H σ2 s2 M' H') (hn : ∀ i ∈ vs, ∀ cl, s[i]? ≠ some (some cl)) (hw : wipe σ2 vs = wipe σ vs) : OkS K (wipe σ vs) s M H (wipe σ vs) (wipeS s2 vs) M' H' := by
  obtain ⟨rel', own'⟩ := rel_wipe vs k.rel
  rw [hw] at rel' own'
  have nv : ∀ {i : Nat} {cl : Cell}, (wipeS s2 vs)[i]? = some (some cl) → i ∉ vs ∧ s2[i]? = some (some cl) := fun {i cl} h => by
    by_cases hv : i ∈ vs
    · exact (wipeS_mem s2 i vs hv cl h).elim
    · exact ⟨hv, by rw [wipeS_get s2 i vs hv] at h; exact h⟩
  have same : ∀ i, i ∉ vs → (wipe σ vs)[i]? = σ2[i]? := fun i hv => by rw [← hw, wipe_get σ2 i vs hv]
  refine ⟨⟨k.go.up, k.go.keep, k.go.there, fun i p xs l h1 h2 => ?_, fun i xs h => ?_⟩, rel'⟩
  · obtain ⟨hv, h1⟩ := nv h1
    rw [same i hv] at h2
    exact k.go.own i p xs l h1 h2
  · have hv : i ∉ vs := fun hv => hn i hv _ h
    obtain ⟨ys, a, b⟩ := k.go.port i xs h
    exact ⟨ys, by rw [wipeS_get s2 i vs hv]; exact a, rfl⟩
def lcLoop (vs : List Nat) (g : MG) (t : MT) (m : ME) : List D → S → List D → Option (List D × S)
  | [], s, acc => some (acc, s)
  | d :: ds, s, acc => (g d s).bind fun s1 => (t s1).bind fun p => if p.1 then (m p.2).bind fun q => (frz q.1 q.2).bind fun r => if acc.length < 100000 then lcLoop vs g t m ds (wipeS r.2 vs) (acc ++ [r.1]) else none
    else lcLoop vs g t m ds (wipeS p.2 vs) acc
def mLc (vs : List Nat) (mi : MI) (g : MG) (t : MT) (m : ME) : ME := fun s => (mi s).bind fun p => (lcLoop vs g t m p.1 (wipeS p.2 vs) []).bind fun q => some (.own q.1, unwipe p.2 q.2 vs)
theorem Owned.of {K : PySem.W.Frag} {M H : Hp} {σ : L2.St} {s : S} {a : Addr} (rel : Rel K M H σ s) (h : Owned σ s a) : H a ≠ none := by
  obtain ⟨vs, q, _⟩ := rel.owned_some h
  rw [q]; exact fun z => nomatch z
theorem sound_lc {K : PySem.W.Frag} {wi : TI} {tg : TG} {tt : TT} {te : TE} {vs ts : List Nat} {mi : MI} {g : MG} {t : MT} {m : ME} (hi : SoundI K wi mi) (hg : SoundG K ts tg g) (ht : SoundT K tt t) (hm : Sound K te m) (hts : ∀ i ∈ ts, i ∈ vs) :
    Sound K (tLc wi tg tt te vs) (mLc vs mi g t m) := fun σ s M H r s' e rel Q q => by
  obtain ⟨⟨xs, s0⟩, e1, e⟩ := bd e
  obtain ⟨⟨res, sf⟩, e2, e⟩ := bd e
  cases e
  refine hi σ s M H xs s0 e1 rel _ fun J M0 H0 k0 W Da hD => ?_
  obtain ⟨relW, ownW⟩ := rel_wipe vs k0.rel
  have hnone : ∀ i ∈ vs, ∀ cl, (wipeS s0 vs)[i]? ≠ some (some cl) := fun i hv cl => wipeS_mem s0 i vs hv cl
  -- the new list, beside
  have relD : Rel K M0 (upd H0 Da (.lst [])) (wipe σ vs) (wipeS s0 vs) := relW.grow (Le.refl _) (le_upd hD) (le_updr relW.le (le_none relW.le hD)) fun _ _ _ z => z
  have nD : ¬ Owned (wipe σ vs) (wipeS s0 vs) Da := fun z => Owned.of k0.rel (ownW Da z) hD
  refine ⟨fun i m' H2 => m' = xs.length - i ∧ i ≤ xs.length ∧ ∃ s2 M2 acc ws, OkS K (wipe σ vs) (wipeS s0 vs) M0 H0 (wipe σ vs) s2 M2 H2 ∧ (∀ j ∈ vs, ∀ cl, s2[j]? ≠ some (some cl)) ∧ H2 Da = some (.lst ws) ∧ M2 Da = none ∧ ¬ Owned (wipe σ vs) s2 Da ∧ Ats K M2 ws acc ∧ lcLoop vs g t m (xs.drop i) s2 acc = some (res, sf),
    ⟨xs.length, by simp, Nat.zero_le _, wipeS s0 vs, M0, [], [], ⟨Go.grow (Le.refl _) (le_upd hD) fun _ _ _ z => z, relD⟩, hnone, upd_same, le_none relW.le hD, nD, .nil, by simpa using e2⟩, fun i m' H2 hw => ?_⟩
  obtain ⟨rfl, hil, s2, M2, acc, ws, k2, hn2, hD2, hM2, nD2, hac, e3⟩ := hw
  have le2 : Le M0 M2 := k2.go.up
  by_cases hlt : i < xs.length
  · refine .inr ⟨W.go i H2 (le2.trans k2.rel.le) hlt, fun H' => ∃ s3 M3 acc ws, OkS K (wipe σ vs) (wipeS s0 vs) M0 H0 (wipe σ vs) s3 M3 H' ∧ (∀ j ∈ vs, ∀ cl, s3[j]? ≠ some (some cl)) ∧ H' Da = some (.lst ws) ∧ M3 Da = none ∧ ¬ Owned (wipe σ vs) s3 Da ∧ Ats K M3 ws acc ∧ lcLoop vs g t m (xs.drop (i + 1)) s3 acc = some (res, sf),
      fun H' hn => ⟨xs.length - (i + 1), by omega, rfl, by omega, hn⟩, fun x H' hy => ?_⟩
    obtain ⟨d, hd, y⟩ := W.yld i H2 x H' (le2.trans k2.rel.le) hlt hy
    rw [List.drop_eq_getElem_cons hlt] at e3
    have hd' : xs[i] = d := by rw [List.getElem?_eq_getElem hlt] at hd; exact Option.some.inj hd
    rw [hd'] at e3
    obtain ⟨s3, e4, e3⟩ := bd e3
    obtain ⟨⟨kb, s4⟩, e5, e3⟩ := bd e3
    obtain ⟨M3, k3, hat⟩ := yl_ok k2.rel le2 y
    refine hg d x (wipe σ vs) s2 M3 H' s3 e4 k3.rel hat _ fun σ4 M4 H4 k4 off => ?_
    have hw := wipe_off off hts
    refine ⟨hw, ht σ4 s3 M4 H4 kb s4 e5 k4.rel _ fun M5 H5 k5 => ?_⟩
    -- D through these steps
    have kk := (k3.s.trans k4).trans k5.s
    obtain ⟨d5, m5⟩ := kk.go.keep Da _ hD2 nD2
    have own5 : ∀ {s6 : S} {M6 H6 : Hp}, OkS K (wipe σ vs) s2 M2 H2 σ4 s6 M6 H6 → ¬ Owned σ4 s6 Da := fun {s6 M6 H6} kx ⟨j, p, ys, a, b⟩ => by
      rcases kx.go.own j p ys Da a b with ⟨z, _⟩ | ⟨j', zs, z1, z2⟩
      · rw [hD2] at z; cases z
      · exact nD2 ⟨j', p, zs, z1, z2⟩
    have fin : ∀ {s6 : S} {M6 H6 : Hp}, OkS K (wipe σ vs) s2 M2 H2 σ4 s6 M6 H6 → OkS K (wipe σ vs) (wipeS s0 vs) M0 H0 (wipe σ vs) (wipeS s6 vs) M6 H6 ∧ (∀ j ∈ vs, ∀ cl, (wipeS s6 vs)[j]? ≠ some (some cl)) ∧ ¬ Owned (wipe σ vs) (wipeS s6 vs) Da := fun {s6 M6 H6} kx => by
      have k6 := oks_wipe kx hn2 hw
      refine ⟨k2.trans k6, fun j hv cl => wipeS_mem s6 j vs hv cl, fun z => own5 kx ?_⟩
      have := (rel_wipe vs kx.rel).2 Da
      rw [hw] at this
      exact this z
    cases kb with
    | false =>
      obtain ⟨f1, f2, f3⟩ := fin kk
      exact ⟨_, M5, acc, ws, f1, f2, d5, m5 hM2, f3, hac.mono kk.go.up, e3⟩
    | true =>
      obtain ⟨⟨r6, s6⟩, e6, e3⟩ := bd e3
      obtain ⟨⟨d7, s7⟩, e7, e3⟩ := bd e3
      show te σ4 H5 _
      refine hm σ4 s4 M5 H5 r6 s6 e6 k5.rel _ fun yv M6 H6 o6 => ?_
      obtain ⟨M7, o7⟩ := frz_ok o6 e7
      split at e3
      · rename_i hlen
        have kz := kk.trans o7.t.s
        obtain ⟨d7', m7⟩ := kz.go.keep Da _ hD2 nD2
        have hac7 := hac.mono kz.go.up
        refine ⟨ws, d7', sz_lt (by rw [hac.length]; exact hlen), ?_⟩
        obtain ⟨f1, f2, f3⟩ := fin kz
        have hM7 := m7 hM2
        have hDn : M0 Da = none := le_none k0.rel.le hD
        -- the list grows
        refine ⟨_, M7, acc ++ [d7], ws ++ [yv], ⟨⟨f1.go.up, fun a o ha hna => ?_, fun a o ha => ?_, f1.go.own, f1.go.port⟩, ?_⟩, f2, upd_same, hM7, f3, hac7.append (.one o7.held), e3⟩
        · have hne : a ≠ Da := fun z => by subst z; rw [hD] at ha; cases ha
          rw [upd_ne hne]
          exact f1.go.keep a o ha hna
        · by_cases z : a = Da
          · subst z; exact ⟨_, upd_same⟩
          · rw [upd_ne z]; exact f1.go.there a o ha
        · refine ⟨f1.rel.len, le_updr f1.rel.le hM7, f1.rel.val, fun j p ys h1 => ?_, f1.rel.inj⟩
          obtain ⟨l, us, a1, b1, c1, dd1⟩ := f1.rel.own j p ys h1
          refine ⟨l, us, a1, ?_, c1, dd1⟩
          rw [upd_ne (fun z => f3 ⟨j, p, ys, h1, by rw [← z]; exact a1⟩)]
          exact b1
      · cases e3
  · have ei : xs.drop i = [] := List.drop_eq_nil_of_le (by omega)
    rw [ei] at e3
    obtain ⟨e5, e6⟩ := Prod.mk.inj (Option.some.inj e3)
    subst e5
    subst e6
    refine .inl ⟨W.stop i H2 (le2.trans k2.rel.le) (by omega), q _ M2 H2 ?_⟩
    -- back in the def
    have hlen : s0.length = s2.length := by rw [k0.rel.len, ← wipe_length σ vs, k2.rel.len]
    have keepW : ∀ a o, H0 a = some o → ¬ Owned σ s0 a → H2 a = some o ∧ (M0 a = none → M2 a = none) := fun a o ha hna => k2.go.keep a o ha fun z => hna (ownW a z)
    -- an address owned at a slot that was forgotten
    have hid : ∀ (j : Nat) (p : Bool) (ys : List D) (l : Addr), j ∈ vs → s0[j]? = some (some (Cell.own p ys)) → σ[j]? = some (some (V.ref l)) → ¬ Owned (wipe σ vs) (wipeS s0 vs) l := fun j p ys l hv h1 h2 ⟨j2, p2, zs, z1, z2⟩ => by
      have hv2 : j2 ∉ vs := fun hv2 => wipeS_mem s0 j2 vs hv2 _ z1
      rw [wipeS_get s0 j2 vs hv2] at z1
      rw [wipe_get σ j2 vs hv2] at z2
      exact hv2 (by rw [← k0.rel.inj j j2 p p2 ys zs l h1 z1 h2 z2]; exact hv)
    have rel' : Rel K M2 H2 σ (unwipe s0 s2 vs) := by
      refine ⟨by rw [unwipe_length, ← hlen]; exact k0.rel.len, k2.rel.le, fun j d h => ?_, fun j p ys h => ?_, fun j1 j2 p1 p2 xs1 xs2 l h1 h2 h3 h4 => ?_⟩
      · by_cases hv : j ∈ vs
        · obtain ⟨v, a, b⟩ := k0.rel.val j d (unwipe_in s0 s2 vs j hv h)
          exact ⟨v, a, b.mono k2.go.up⟩
        · rw [unwipe_get s0 s2 vs j hv] at h
          obtain ⟨v, a, b⟩ := k2.rel.val j d h
          rw [wipe_get σ j vs hv] at a
          exact ⟨v, a, b⟩
      · by_cases hv : j ∈ vs
        · have h0 := unwipe_in s0 s2 vs j hv h
          obtain ⟨l, us, a, b, c, d⟩ := k0.rel.own j p ys h0
          obtain ⟨z1, z2⟩ := k2.go.keep l _ b (hid j p ys l hv h0 a)
          exact ⟨l, us, a, z1, z2 c, d.mono k2.go.up⟩
        · rw [unwipe_get s0 s2 vs j hv] at h
          obtain ⟨l, us, a, b⟩ := k2.rel.own j p ys h
          rw [wipe_get σ j vs hv] at a
          exact ⟨l, us, a, b⟩
      · -- an own list of the block at j was one before, at the same place, or is new
        have back : ∀ (j : Nat) (p : Bool) (ys : List D), j ∉ vs → s2[j]? = some (some (Cell.own p ys)) → σ[j]? = some (some (V.ref l)) → H0 l = none ∨ ∃ j' zs, j' ∉ vs ∧ s0[j']? = some (some (Cell.own p zs)) ∧ σ[j']? = some (some (V.ref l)) := fun j p ys hv h1 h2 => by
          rcases k2.go.own j p ys l h1 (by rw [wipe_get σ j vs hv]; exact h2) with ⟨z, _⟩ | ⟨j', zs, z1, z2⟩
          · exact .inl z
          · have hv' : j' ∉ vs := fun hv' => wipeS_mem s0 j' vs hv' _ z1
            rw [wipeS_get s0 j' vs hv'] at z1
            rw [wipe_get σ j' vs hv'] at z2
            exact .inr ⟨j', zs, hv', z1, z2⟩
        have mix : ∀ (i j : Nat) (p p' : Bool) (ys zs : List D), i ∈ vs → j ∉ vs → s0[i]? = some (some (Cell.own p ys)) → s2[j]? = some (some (Cell.own p' zs)) → σ[i]? = some (some (V.ref l)) → σ[j]? = some (some (V.ref l)) → False := fun i j p p' ys zs hv hv' a1 a2 a3 a4 => by
          obtain ⟨l', us, b1, b2, _⟩ := k0.rel.own i p ys a1
          rw [a3] at b1
          cases b1
          rcases back j p' zs hv' a2 a4 with z | ⟨j', ws', c1, c2, c3⟩
          · rw [b2] at z; cases z
          · exact c1 (by rw [← k0.rel.inj i j' p p' ys ws' l a1 c2 a3 c3]; exact hv)
        by_cases hv1 : j1 ∈ vs
        · have g1 := unwipe_in s0 s2 vs j1 hv1 h1
          by_cases hv2 : j2 ∈ vs
          · exact k0.rel.inj j1 j2 p1 p2 xs1 xs2 l g1 (unwipe_in s0 s2 vs j2 hv2 h2) h3 h4
          · rw [unwipe_get s0 s2 vs j2 hv2] at h2
            exact (mix j1 j2 p1 p2 xs1 xs2 hv1 hv2 g1 h2 h3 h4).elim
        · rw [unwipe_get s0 s2 vs j1 hv1] at h1
          by_cases hv2 : j2 ∈ vs
          · exact (mix j2 j1 p2 p1 xs2 xs1 hv2 hv1 (unwipe_in s0 s2 vs j2 hv2 h2) h1 h4 h3).elim
          · rw [unwipe_get s0 s2 vs j2 hv2] at h2
            exact k2.rel.inj j1 j2 p1 p2 xs1 xs2 l h1 h2 (by rw [wipe_get σ j1 vs hv1]; exact h3) (by rw [wipe_get σ j2 vs hv2]; exact h4)
    have ownO : ∀ (j : Nat) (p : Bool) (ys : List D) (l : Addr), (unwipe s0 s2 vs)[j]? = some (some (Cell.own p ys)) → σ[j]? = some (some (V.ref l)) → (H0 l = none ∧ p = false) ∨ ∃ (j' : Nat) (zs : List D), s0[j']? = some (some (Cell.own p zs)) ∧ σ[j']? = some (some (V.ref l)) := fun j p ys l h1 h2 => by
      by_cases hv : j ∈ vs
      · exact .inr ⟨j, ys, unwipe_in s0 s2 vs j hv h1, h2⟩
      · rw [unwipe_get s0 s2 vs j hv] at h1
        rcases k2.go.own j p ys l h1 (by rw [wipe_get σ j vs hv]; exact h2) with z | ⟨j', zs, z1, z2⟩
        · exact .inl z
        · have hv' : j' ∉ vs := fun hv' => wipeS_mem s0 j' vs hv' _ z1
          rw [wipeS_get s0 j' vs hv'] at z1
          rw [wipe_get σ j' vs hv'] at z2
          exact .inr ⟨j', zs, z1, z2⟩
    have kB : OkS K σ s0 M0 H0 σ (unwipe s0 s2 vs) M2 H2 := by
      refine ⟨⟨k2.go.up, keepW, k2.go.there, ownO, fun j ys h => ?_⟩, rel'⟩
      by_cases hv : j ∈ vs
      · exact ⟨ys, unwipe_out s0 s2 vs j hv hlen h, rfl⟩
      · obtain ⟨zs, z1, _⟩ := k2.go.port j ys (by rw [wipeS_get s0 j vs hv]; exact h)
        exact ⟨zs, by rw [unwipe_get s0 s2 vs j hv]; exact z1, rfl⟩
    have kO := k0.s.trans kB
    refine ⟨kO.go, kO.rel, ⟨Da, ws, rfl, hD2, hM2, fun ⟨j, p, ys, a, b⟩ => ?_, hac⟩, ⟨Da, rfl, k0.go.free hD⟩⟩
    by_cases hv : j ∈ vs
    · obtain ⟨l', us, b1, b2, _⟩ := k0.rel.own j p ys (unwipe_in s0 s2 vs j hv a)
      rw [b] at b1
      cases b1
      rw [hD] at b2; cases b2
    · rw [unwipe_get s0 s2 vs j hv] at a
      exact nD2 ⟨j, p, ys, a, by rw [wipe_get σ j vs hv]; exact b⟩
end Dm
set_option Elab.async false
set_option linter.all false
set_option maxRecDepth 100000
set_option maxHeartbeats 4000000
namespace Dm
open PySem PySem.Spec L2
set_option autoImplicit false

/-! ### a promise of a def where no display is under way (repr asks that) -/
structure FnG (P : Program) (w : World) (K : PySem.W.Frag) (mg : Str → Option Value) (base : Heap) (CX : CXT) (k : Nat) (f : Addr) (fd : FuncData) (ps : List Str) (sp : Sp) : Prop where
  len : ∀ vs H Q E, sp vs H Q E → vs.length = ps.length
  run : ∀ (A : Around) (outer : List Env) (s : Shared) (H : Hp) (args : Args) (us : List Value) (vs : List V) (Q : VK) (E : XK), Room k A → A.guards = some [] → Env0 P w K mg base A outer s H → BindsTo s fd args (ps.zip us) → Vals vs us →
    sp vs H Q E → codeAny (model P w) A (.call (.ref f) args) (CR CX outer P w H s Q E) s
section
variable {P : Program} {w : World} {K : PySem.W.Frag} {mg : Str → Option Value} {base : Heap} {CX : CXT}
theorem FnG.imp {k : Nat} {f : Addr} {fd : FuncData} {ps : List Str} {sp sp' : Sp} (F : FnG P w K mg base CX k f fd ps sp) (h : ∀ vs H Q E, sp' vs H Q E → sp vs H Q E) : FnG P w K mg base CX k f fd ps sp' where
  len := fun vs H Q E q => F.len vs H Q E (h _ _ _ _ q)
  run := fun A outer s H args us vs Q E a b c d e q => F.run A outer s H args us vs Q E a b c d e (h _ _ _ _ q)
/-- the rule for a def's body -/
theorem fun_G {x qual : Str} {st : Stmt} {f : Addr} {fd : FuncData} {N ps : List Str} {k : Nat} {sp : Sp} (F : Fun K x qual st f fd) (S : FnScope N ps (defScope st)) (len : ∀ vs H Q E, sp vs H Q E → vs.length = ps.length)
    (body : ∀ (cdv : Value) (A : Around) (outer : List Env) (s : Shared) (H : Hp) (vs : List V) (Q : VK) (E : XK), Room k (A.deeper (PyProof.Rows.envOfC qual (defScope st) s.heap.objs.size f cdv)) → A.guards = some [] → sp vs H Q E →
      ∃ t, PSs (cxOf CX P w K mg base N qual (defScope st) f cdv A outer s H E) (defBody st) t ∧ t { nx := fun _ H' => Q .non H', rt := Q } (L2.start N vs) H) : FnG P w K mg base CX (k + 1) f fd ps sp := by
  obtain ⟨oc, od, kV, doc, pm, an, cdv, ct, osl, rfl, lk, hcd⟩ := F.ex
  refine ⟨len, ?_⟩
  intro A outer s H args us vs Q E room gd e0 binds rel want
  have n := len vs H Q E want
  have kin : K.In s.heap := e0.mod.kin.keeps (fun b o z => (e0.bs b o z).1)
  have nol : s.heap.NoLimit := e0.mod.nolimit.keeps (fun b o z => (e0.bs b o z).1)
  have kinds : ∀ y ∈ ps.zip us, (defScope st).names.lookup y.1 = some .local ∨ ((defScope st).names.lookup y.1 = some .cell ∧ ((cellsFrom (s.heap.objs.size + 1) (defScope st).names []).lookup y.1).isSome = true) := by
    rintro ⟨nm, v⟩ hy
    rcases S.par nm (List.of_mem_zip hy).1 with z | z
    · exact Or.inl z
    · exact Or.inr ⟨z, PySem.W.cellsFrom_some _ _ _ (Or.inl z)⟩
  apply codeAny_call_function room.depth (kin _ _ lk) rfl S.co S.gen rfl (PySem.W.codeRec_of kin hcd)
  apply binds
  apply wpAny_newFunctionEnv_cells S.kind kinds
  rintro env rfl s1 made
  refine ⟨nol.keeps made.toInCall.keep, codeAny_func ?_⟩
  obtain ⟨t, pt, ht⟩ := body cdv A outer s H vs Q E (room.deeper _) gd want
  have inv : Inv (cxOf CX P w K mg base N qual (defScope st) f cdv A outer s H E) [] (L2.start N vs) H s1 := inv_start S room.hd e0 n rel made
  apply wpAny_mono (pt.run [] s1 _ H _ inv ht)
  · rintro (_ | _ | _ | u) s' q
    · obtain ⟨σ', H', J, q⟩ := q
      exact ⟨V.non, H', J.os, J.bare, J.base, J.hok, rfl, q⟩
    · obtain ⟨_, _, _, q⟩ := q
      exact q.elim
    · obtain ⟨_, _, _, q⟩ := q
      exact q.elim
    · obtain ⟨v, σ', H', J, rv, q⟩ := q
      exact ⟨v, H', J.os, J.bare, J.base, J.hok, rv, q⟩
  · exact fun _ _ q => q
end
section
variable {X : Cx} {CX : CXT} {k : Nat} {f : Addr} {fd : FuncData} {ps : List Str} {sp : Sp} {E : XK} {x : Str} {p pos : Pos} {e : Expr} {es : List Expr} {t tk : TA} {kws : List Keyword}
theorem enter_G {pins : List (Addr × Obj)} {σ : L2.St} {H : Hp} {s : Shared} {Q : VK} {args : Args} {us : List Value} {vs : List V} (F : FnG X.prog X.w X.K X.mg X.base CX k f fd ps sp) (room : Room k X.A) (gd : X.A.guards = some []) (hb : BindsTo s fd args (ps.zip us))
    (hx : Passes CX X E) (I : Inv X pins σ H s) (r : Vals vs us) (h : sp vs H Q E) : codeAny (model X.prog X.w) X.A (.call (.ref f) args) (fun r s' => match r with | .ok (.ret u) => EP X pins σ Q u s' | .ok _ => False | .error e => X.xe e s') s := by
  apply codeAny_mono (F.run X.A X.stack s H args us vs Q E room gd I.env0 hb r h)
  rintro (z | (_ | _ | _ | u)) s' q
  · exact hx pins σ H s z s' I q
  · exact q.elim
  · exact q.elim
  · exact q.elim
  · exact I.after q
theorem pe_callG (F : FnG X.prog X.w X.K X.mg X.base CX k f fd ps sp) (room : Room k X.A) (gd : X.A.guards = some []) (hg : Gl X x) (hm : X.mg x = some (.ref f)) (hk : PySem.W.keepIn X.K (.ref f) = true) (hb : Binds X.K fd ps []) (hx : Passes CX X E)
    (ha : PA X (e :: es) t) (hdb : (x == ("__debug__" : Str)) = false) (he : starEach (e :: es) X.env = (false, eval e X.env) :: starEach es X.env) (hpl : (backTo pos (starEach es X.env)).any (·.1) = false) : PE X (.Call (.Name x p) (e :: es) [] pos) (tCall sp [] E t) where
  run := fun pins s σ H Q I h => wpAny_Call_Name_kw (ld_glob I hg hm (PySem.W.callWith_K (h₀ := X.base) I.ok.mod.kin hk (thn (ha.run pos pins s σ H _ I h) fun us s1 ⟨vs, H1, I1, r, q⟩ => ⟨I1.kIn, by
    have n : (us ++ []).length = ps.length := by
      rw [List.append_nil, ← r.length]
      exact F.len _ _ _ _ (by simpa using q)
    have bt := hb s1 us I1.kIn n
    rw [List.append_nil] at bt
    refine wpAny_call (codeAny_mono (enter_G F room gd bt hx I1 r (by simpa using q)) ?_)
    rintro (z | (_ | _ | _ | u)) s' q2
    · exact q2
    · exact q2.elim
    · exact q2.elim
    · exact q2.elim
    · exact q2⟩) he hpl) hdb)
/-- f(k = v, ..): every parameter by its name, in order -/
theorem pe_callGK (F : FnG X.prog X.w X.K X.mg X.base CX k f fd ps sp) (room : Room k X.A) (gd : X.A.guards = some []) (hg : Gl X x) (hm : X.mg x = some (.ref f)) (hk : PySem.W.keepIn X.K (.ref f) = true)
    (hb : ∀ (s : Shared) (ws : List Value), ws.length = ps.length → BindsTo s fd ⟨[], ps.zip ws⟩ (ps.zip ws)) (hx : Passes CX X E)
    (hkw : PK X kws t) (hall : (backToKw pos (keywordEach kws X.env)).all (·.1.isSome) = true) (hks : (backToKw pos (keywordEach kws X.env)).filterMap (·.1) = ps)
    (hdb : (x == ("__debug__" : Str)) = false) (hpl : ((backTo pos (starEach [] X.env)).any (·.1) || (backToKw pos (keywordEach kws X.env)).any (·.1.isNone)) = false) : PE X (.Call (.Name x p) [] kws pos) (tCall sp [] E t) where
  run := fun pins s σ H Q I h => wpAny_Call_Name_kw (ld_glob I hg hm (PySem.W.callWith_KW0 (h₀ := X.base) I.ok.mod.kin hk hall (thn (hkw.run pos pins s σ H _ I h) fun us s1 ⟨vs, H1, I1, r, q⟩ => ⟨I1.kIn, by
    rw [hks]
    have n : us.length = ps.length := by
      rw [← r.length]
      exact F.len _ _ _ _ (by simpa using q)
    refine wpAny_call (codeAny_mono (enter_G F room gd (hb s1 us n) hx I1 r (by simpa using q)) ?_)
    rintro (z | (_ | _ | _ | u)) s' q2
    · exact q2
    · exact q2.elim
    · exact q2.elim
    · exact q2.elim
    · exact q2⟩) hpl) hdb)
end
end Dm
set_option Elab.async false
set_option linter.all false
set_option maxRecDepth 100000
set_option maxHeartbeats 4000000
namespace Dm
open PySem PySem.Spec L2
set_option autoImplicit false

/-! ### comprehensions in their place -/
abbrev Cd.blk (c : Cd) (scope : Scope) : Cd := { c with sc := relS scope c.sc, top := false }
theorem fits_blk {c : Cd} {X : Cx} (g : Fits c X) (s : Shared) (H : Hp) (scope : Scope) (C : Addr) (cl : List (Str × Addr)) (fp : List Addr) : Fits (c.blk scope) (X.blk s H scope (compEnvC scope cl C X.env) fp) where
  P := g.P
  w := g.w
  K := g.K
  mg := g.mg
  base := g.base
  N := g.N
  sc := by
    show relS scope X.env.scope = relS scope c.sc
    rw [g.sc]
  calm := g.calm
  room := g.room
  own := PassesOwn.never
  fn := fun h => nomatch h
  guards := g.guards
def STs (c : Cd) (ifs : List Expr) (m : MT) : Prop := ∃ t : TT, (∀ X, Fits c X → PTs X ifs t) ∧ SoundT c.K t m
def mYes : MT := fun s => some (true, s)
section
variable {c : Cd} {e elt tg iter : Expr} {ifs : List Expr} {scope : Scope} {pos : Pos} {t : MT} {m : ME} {g : MG} {mi : MI} {ts : List Nat}
theorem sts_nil : STs c [] mYes := ⟨_, fun _ _ => pts_nil, fun σ s M H b s' e rel Q q => by cases e; exact q M H (.refl rel)⟩
theorem sts_one (h : ST c e t) : STs c [e] t := by
  obtain ⟨tt, p, sd⟩ := h
  exact ⟨tt, fun X g => pts_one (p X g), sd⟩
theorem se_lc (own : List (Str × Nat)) (hi : SI c tg iter mi) (hg : SG (c.blk scope) tg ts g) (ht : STs (c.blk scope) ifs t) (he : SE (c.blk scope) elt m)
    (hts : ∀ i ∈ ts, i ∈ own.map (·.2) := by decide) (hN : ndB c.N = true := by rfl) (ok : blkC c.N c.sc scope own = true := by rfl) (hs : ∀ env x, foldedSetIterable iter env x = pure x := by intro _ _; rfl) :
    SE c (.ListComp elt [⟨tg, iter, ifs, 0⟩] scope pos) (mLc (own.map (·.2)) mi g t m) := by
  obtain ⟨ti, pi, si⟩ := hi
  obtain ⟨tg', pg, sg⟩ := hg
  obtain ⟨tt, pt, st⟩ := ht
  obtain ⟨te, pe, se⟩ := he
  exact ⟨_, fun X k => pe_lc (own := own) k.calm (by rw [k.N]; exact ndOf hN) (pi X k) (by rw [k.N, k.sc]; exact blkOk_by ok) (fun s H C cl fp => pg _ (fits_blk k s H scope C cl fp)) (fun s H C cl fp => pt _ (fits_blk k s H scope C cl fp))
    (fun s H C cl fp => pe _ (fits_blk k s H scope C cl fp)) (hs X.env), sound_lc si sg st se hts⟩
/-- y = [..] on one line, y a local -/
theorem ss_setLc (i : Nat) {y : Str} {py spos : Pos} (own : List (Str × Nat)) (hi : SI c tg iter mi) (hg : SG (c.blk scope) tg ts g) (ht : STs (c.blk scope) ifs t) (he : SE (c.blk scope) elt m) (hy : c.N[i]? = some y := by rfl) (hyl : c.sc.names.lookup y = some .local := by rfl)
    (hsw : ∀ X : Cx, Fits c X → swapsWith (.ListComp elt [⟨tg, iter, ifs, 0⟩] scope pos) (some (.Name y py)) spos.line X.env = pure true)
    (hts : ∀ i ∈ ts, i ∈ own.map (·.2) := by decide) (hN : ndB c.N = true := by rfl) (ok : blkC c.N c.sc scope own = true := by rfl) (hs : ∀ env x, foldedSetIterable iter env x = pure x := by intro _ _; rfl) :
    SS c (.Assign [.Name y py] (.ListComp elt [⟨tg, iter, ifs, 0⟩] scope pos) spos) (mSet i (mLc (own.map (·.2)) mi g t m)) := by
  obtain ⟨ti, pi, si⟩ := hi
  obtain ⟨tg', pg, sg⟩ := hg
  obtain ⟨tt, pt, st⟩ := ht
  obtain ⟨te, pe, se⟩ := he
  refine ⟨_, fun X k => ps_setLc (i := i) (own := own) k.calm (by rw [k.N]; exact ndOf hN) (by rw [k.N]; exact hy) (by rw [k.sc]; exact hyl) (hsw X k) (pi X k) (by rw [k.N, k.sc]; exact blkOk_by ok) (fun s H C cl fp => pg _ (fits_blk k s H scope C cl fp)) (fun s H C cl fp => pt _ (fits_blk k s H scope C cl fp))
    (fun s H C cl fp => pe _ (fits_blk k s H scope C cl fp)) (hs X.env), fun σ s M H o e rel E h => ?_⟩
  obtain ⟨⟨r, s1⟩, e1, e⟩ := bd e
  obtain ⟨s2, e2, e⟩ := bd e
  cases e
  refine sound_lc si sg st se hts σ s M H r _ e1 rel _ fun v M1 H1 k => ?_
  obtain ⟨M2, k2⟩ := put_ok k e2
  exact h _ M2 H1 k2
end

/-! ### defs -/
/-- a def that changes none of its arguments -/
abbrev FnV := List D → Option Ret
/-- a def that may change the list that is its first argument -/
abbrev FnW := List D → List D → Option (Ret × List D)
structure GoF (M H M' H' : Hp) (L : Addr → Prop) : Prop where
  up : Le M M'
  le : Le M' H'
  keep : ∀ a o, H a = some o → ¬ L a → H' a = some o ∧ (M a = none → M' a = none)
  there : ∀ a o, H a = some o → ∃ o', H' a = some o'
def RetF (K : PySem.W.Frag) (H M' H' : Hp) (v : V) : Ret → Prop
  | .val d => At K M' v d
  | .own xs => ∃ l vs, v = V.ref l ∧ H l = none ∧ H' l = some (.lst vs) ∧ M' l = none ∧ Ats K M' vs xs
def spV (K : PySem.W.Frag) (n : Nat) (f : FnV) : Sp := fun vs H Q _ => vs.length = n ∧ ∃ M ds r, f ds = some r ∧ Le M H ∧ Ats K M vs ds ∧ ∀ v M' H', GoF M H M' H' (fun _ => False) → RetF K H M' H' v r → Q v H'
def spW (K : PySem.W.Frag) (n : Nat) (f : FnW) : Sp := fun vs H Q _ => vs.length = n ∧ ∃ M l ws vs' xs ds r xs', vs = V.ref l :: vs' ∧ H l = some (.lst ws) ∧ M l = none ∧ Ats K M ws xs ∧ Ats K M vs' ds ∧ f xs ds = some (r, xs') ∧ Le M H ∧
  ∀ v M' H' ws', GoF M H M' H' (fun a => a = l) → H' l = some (.lst ws') → M' l = none → Ats K M' ws' xs' → RetF K H M' H' v r → Q v H'
theorem spV_len {K : PySem.W.Frag} {n : Nat} {f : FnV} : ∀ vs H Q E, spV K n f vs H Q E → vs.length = n := fun _ _ _ _ h => h.1
theorem spW_len {K : PySem.W.Frag} {n : Nat} {f : FnW} : ∀ vs H Q E, spW K n f vs H Q E → vs.length = n := fun _ _ _ _ h => h.1
/-- the slots at the entry -/
def initV (n : Nat) (ds : List D) : S := ds.map (fun d => some (Cell.val d)) ++ List.replicate (n - ds.length) none
def initW (n : Nat) (xs ds : List D) : S := some (Cell.own true xs) :: (ds.map (fun d => some (Cell.val d)) ++ List.replicate (n - (ds.length + 1)) none)
/-- a def's function by its body; nv: names in all, np: parameters -/
def fnV (nv np : Nat) (b : MS) : FnV := fun ds => if ds.length = np then (b (initV nv ds)).bind fun o => match o with
    | .nx _ => some (.val .non)
    | .rt r _ => some r
    | _ => none
  else none
def port0 (s : S) : Option (List D) := match (s[0]? : Option (Option Cell)) with
  | some (some (Cell.own true ys)) => some ys
  | _ => none
def fnW (nv np : Nat) (b : MS) : FnW := fun xs ds => if ds.length + 1 = np then (b (initW nv xs ds)).bind fun o => match o with
    | .nx s => (port0 s).bind fun ys => some (.val .non, ys)
    | .rt r s => (port0 s).bind fun ys => some (r, ys)
    | _ => none
  else none
theorem port0_ok {s : S} {ys : List D} (h : port0 s = some ys) : s[0]? = some (some (Cell.own true ys)) := by
  unfold port0 at h
  split at h
  · rename_i q; cases h; exact q
  · cases h
theorem start_get {N : List Str} {vs : List V} {i : Nat} {v : V} (h : vs[i]? = some v) : (L2.start N vs)[i]? = some (some v) := by
  unfold L2.start
  have hi : i < vs.length := by
    rcases Nat.lt_or_ge i vs.length with q | q
    · exact q
    · rw [List.getElem?_eq_none q] at h; cases h
  rw [List.getElem?_append_left (by rw [List.length_map]; exact hi), List.getElem?_map, h]; rfl
theorem start_len {N : List Str} {vs : List V} (h : vs.length ≤ N.length) : (L2.start N vs).length = N.length := by
  unfold L2.start
  rw [List.length_append, List.length_map, List.length_replicate]; omega
theorem initV_get {n : Nat} {ds : List D} {i : Nat} {cl : Cell} (h : (initV n ds)[i]? = some (some cl)) : ∃ d, ds[i]? = some d ∧ cl = .val d := by
  unfold initV at h
  by_cases hi : i < ds.length
  · rw [List.getElem?_append_left (by rw [List.length_map]; exact hi), List.getElem?_map] at h
    cases q : ds[i]? with
    | none => rw [q] at h; cases h
    | some d => rw [q] at h; cases h; exact ⟨d, rfl, rfl⟩
  · rw [List.getElem?_append_right (by rw [List.length_map]; omega)] at h
    rw [List.getElem?_replicate] at h
    split at h <;> cases h
theorem rel_initV {K : PySem.W.Frag} {M H : Hp} {N : List Str} {vs : List V} {ds : List D} (le : Le M H) (h : Ats K M vs ds) (hn : vs.length ≤ N.length) : Rel K M H (L2.start N vs) (initV N.length ds) where
  len := by
    rw [start_len hn]
    unfold initV
    rw [List.length_append, List.length_map, List.length_replicate, ← h.length]; omega
  le := le
  val := fun i d q => by
    obtain ⟨d', a, b⟩ := initV_get q
    cases b
    obtain ⟨v, c1, c2⟩ := h.get a
    exact ⟨v, start_get c1, c2⟩
  own := fun i p xs q => by
    obtain ⟨d', _, b⟩ := initV_get q
    cases b
  inj := fun i j p q xs ys l h1 => by
    obtain ⟨d', _, b⟩ := initV_get h1
    cases b
theorem initW_get {n : Nat} {xs ds : List D} {i : Nat} {cl : Cell} (h : (initW n xs ds)[i]? = some (some cl)) : (i = 0 ∧ cl = .own true xs) ∨ ∃ j d, i = j + 1 ∧ ds[j]? = some d ∧ cl = .val d := by
  cases i with
  | zero => unfold initW at h; simp at h; exact .inl ⟨rfl, h.symm⟩
  | succ j =>
    unfold initW at h
    rw [List.getElem?_cons_succ] at h
    by_cases hj : j < ds.length
    · rw [List.getElem?_append_left (by rw [List.length_map]; exact hj), List.getElem?_map] at h
      cases q : ds[j]? with
      | none => rw [q] at h; cases h
      | some d => rw [q] at h; cases h; exact .inr ⟨j, d, rfl, q, rfl⟩
    · rw [List.getElem?_append_right (by rw [List.length_map]; omega)] at h
      rw [List.getElem?_replicate] at h
      split at h <;> cases h
theorem rel_initW {K : PySem.W.Frag} {M H : Hp} {N : List Str} {vs : List V} {l : Addr} {ws : List V} {xs ds : List D} (le : Le M H) (hl : H l = some (.lst ws)) (hm : M l = none) (hw : Ats K M ws xs) (h : Ats K M vs ds) (hn : vs.length + 1 ≤ N.length) :
    Rel K M H (L2.start N (V.ref l :: vs)) (initW N.length xs ds) where
  len := by
    rw [start_len (by rw [List.length_cons]; exact hn)]
    unfold initW
    rw [List.length_cons, List.length_append, List.length_map, List.length_replicate, ← h.length]; omega
  le := le
  val := fun i d q => by
    rcases initW_get q with ⟨_, b⟩ | ⟨j, d', rfl, a, b⟩
    · cases b
    · cases b
      obtain ⟨v, c1, c2⟩ := h.get a
      exact ⟨v, start_get (by rw [List.getElem?_cons_succ]; exact c1), c2⟩
  own := fun i p ys q => by
    rcases initW_get q with ⟨rfl, b⟩ | ⟨j, d', rfl, a, b⟩
    · cases b
      exact ⟨l, ws, start_get rfl, hl, hm, hw⟩
    · cases b
  inj := fun i j p q ys zs l' h1 h2 => by
    rcases initW_get h1 with ⟨rfl, b⟩ | ⟨j, d', rfl, a, b⟩
    · rcases initW_get h2 with ⟨rfl, b⟩ | ⟨j, d', rfl, a, b⟩
      · intro _ _; rfl
      · cases b
    · cases b
section
variable {P : Program} {w : World} {K : PySem.W.Frag} {mg : Str → Option Value} {base : Heap}
/-- the description of a def's body -/
abbrev cdOf (P : Program) (w : World) (K : PySem.W.Frag) (mg : Str → Option Value) (base : Heap) (N : List Str) (st : Stmt) (k : Nat) : Cd := ⟨P, w, K, mg, base, N, defScope st, k, true⟩
theorem fits_def {x qual : Str} {st : Stmt} {f : Addr} {N : List Str} {k : Nat} {cdv : Value} {A : Around} {outer : List Env} {s : Shared} {H : Hp} {E : XK} (hr : Room k (A.deeper (PyProof.Rows.envOfC qual (defScope st) s.heap.objs.size f cdv))) (hgd : A.guards = some []) :
    Fits (cdOf P w K mg base N st k) (cxOf CX0 P w K mg base N qual (defScope st) f cdv A outer s H E).nox where
  P := rfl
  w := rfl
  K := rfl
  mg := rfl
  base := rfl
  N := rfl
  sc := rfl
  calm := rfl
  room := hr
  own := PassesOwn.never
  fn := fun _ _ => rfl
  guards := hgd
theorem fn_okV {x qual : Str} {st : Stmt} {f : Addr} {fd : FuncData} {N ps : List Str} {k : Nat} {b : MS} (F : Fun K x qual st f fd) (sc : FnScope N ps (defScope st)) (hb : SSs (cdOf P w K mg base N st k) (defBody st) b) (hn : ps.length ≤ N.length := by decide) :
    FnG P w K mg base CX0 (k + 1) f fd ps (spV K ps.length (fnV N.length ps.length b)) := by
  obtain ⟨t, pt, st'⟩ := hb
  refine fun_G F sc spV_len fun cdv A outer s H vs Q E hr hgd h => ?_
  obtain ⟨hl, M, ds, r, e, le, ha, q⟩ := h
  refine ⟨t, (pt _ (fits_def (x := x) hr hgd)).nox, ?_⟩
  unfold fnV at e
  rw [if_pos (by rw [← ha.length]; exact hl)] at e
  obtain ⟨o, e1, e⟩ := bd e
  have rel := rel_initV (N := N) le ha (by rw [hl]; exact hn)
  have noOwn : ∀ a, ¬ Owned (L2.start N vs) (initV N.length ds) a := fun a ⟨i, p, xs, h1, _⟩ => by
    obtain ⟨d', _, b⟩ := initV_get h1
    cases b
  have gf : ∀ {σ' : L2.St} {s' : S} {M' H' : Hp}, OkS K (L2.start N vs) (initV N.length ds) M H σ' s' M' H' → GoF M H M' H' (fun _ => False) := fun k => ⟨k.go.up, k.rel.le, fun a o h _ => k.go.keep a o h (noOwn a), k.go.there⟩
  refine st' _ _ M H o e1 rel _ ?_
  cases o with
  | nx s' => cases e; exact fun σ' M' H' k => q _ M' H' (gf k) .non
  | bk s' => cases e
  | ct s' => cases e
  | rt r' s' =>
    cases e
    refine fun v σ' M' H' k hr => q v M' H' (gf k) ?_
    cases r with
    | val d => exact hr
    | own xs =>
      obtain ⟨l, us, h0, h1, h2, h3, h4⟩ := hr
      rcases h4 with h4 | ⟨j, ys, z, _⟩
      · exact ⟨l, us, h0, h4, h1, h2, h3⟩
      · obtain ⟨d', _, b⟩ := initV_get z
        cases b
theorem fn_okW {x qual : Str} {st : Stmt} {f : Addr} {fd : FuncData} {N ps : List Str} {k : Nat} {b : MS} (F : Fun K x qual st f fd) (sc : FnScope N ps (defScope st)) (hb : SSs (cdOf P w K mg base N st k) (defBody st) b) (hn : ps.length ≤ N.length := by decide) :
    FnG P w K mg base CX0 (k + 1) f fd ps (spW K ps.length (fnW N.length ps.length b)) := by
  obtain ⟨t, pt, st'⟩ := hb
  refine fun_G F sc spW_len fun cdv A outer s H vs Q E hr hgd h => ?_
  obtain ⟨hl, M, l, ws, vs', xs, ds, r, xs', rfl, h1, h2, h3, h4, e, le, q⟩ := h
  refine ⟨t, (pt _ (fits_def (x := x) hr hgd)).nox, ?_⟩
  rw [List.length_cons] at hl
  unfold fnW at e
  rw [if_pos (by rw [← h4.length]; exact hl)] at e
  obtain ⟨o, e1, e⟩ := bd e
  have rel := rel_initW (N := N) le h1 h2 h3 h4 (by rw [hl]; exact hn)
  have hl0 : (L2.start N (V.ref l :: vs'))[0]? = some (some (V.ref l)) := start_get rfl
  have h00 : (initW N.length xs ds)[0]? = some (some (Cell.own true xs)) := rfl
  have ownL : ∀ a, Owned (L2.start N (V.ref l :: vs')) (initW N.length xs ds) a → a = l := fun a ⟨i, p, ys, z1, z2⟩ => by
    rcases initW_get z1 with ⟨rfl, _⟩ | ⟨j, d', rfl, _, b⟩
    · rw [hl0] at z2; cases z2; rfl
    · cases b
  have gf : ∀ {σ' : L2.St} {s' : S} {M' H' : Hp}, OkS K (L2.start N (V.ref l :: vs')) (initW N.length xs ds) M H σ' s' M' H' → GoF M H M' H' (fun a => a = l) := fun k => ⟨k.go.up, k.rel.le, fun a o h na => k.go.keep a o h (fun z => na (ownL a z)), k.go.there⟩
  -- the list at the end
  have fin : ∀ {σ' : L2.St} {s' : S} {M' H' : Hp} {ys : List D}, OkS K (L2.start N (V.ref l :: vs')) (initW N.length xs ds) M H σ' s' M' H' → s'[0]? = some (some (Cell.own true ys)) → ∃ ws', H' l = some (.lst ws') ∧ M' l = none ∧ Ats K M' ws' ys := fun {σ' s' M' H' ys} k z => by
    obtain ⟨zs, z1, z2⟩ := k.go.port 0 xs h00
    obtain ⟨l', us, a1, a2, a3, a4⟩ := k.rel.own 0 true ys z
    rw [z2, hl0] at a1
    cases a1
    exact ⟨us, a2, a3, a4⟩
  refine st' _ _ M H o e1 rel _ ?_
  cases o with
  | nx s' =>
    obtain ⟨ys, z, e⟩ := bd e
    cases e
    intro σ' M' H' k
    obtain ⟨ws', b1, b2, b3⟩ := fin k (port0_ok z)
    exact q _ M' H' ws' (gf k) b1 b2 b3 .non
  | bk s' => cases e
  | ct s' => cases e
  | rt r' s' =>
    obtain ⟨ys, z, e⟩ := bd e
    cases e
    intro v σ' M' H' k hr
    obtain ⟨ws', b1, b2, b3⟩ := fin k (port0_ok z)
    refine q v M' H' ws' (gf k) b1 b2 b3 ?_
    cases r with
    | val d => exact hr
    | own ys =>
      obtain ⟨l2, us, g0, g1, g2, g3, g4⟩ := hr
      rcases g4 with g4 | ⟨j, ys', z1, _⟩
      · exact ⟨l2, us, g0, g4, g1, g2, g3⟩
      · rcases initW_get z1 with ⟨_, b⟩ | ⟨j', d', _, _, b⟩
        · cases b
        · cases b
end
/-! ### calls -/
def rOf : Ret → R
  | .val d => .val d
  | .own xs => .own xs
theorem ok_ret {K : PySem.W.Frag} {σ : L2.St} {s : S} {M H M' H' : Hp} {v : V} {r : Ret} (rel : Rel K M H σ s) (g : GoF M H M' H' (fun _ => False)) (h : RetF K H M' H' v r) : Ok K σ s M H (rOf r) s v M' H' := by
  have rel' : Rel K M' H' σ s := ⟨rel.len, g.le, fun i d q => let ⟨v, a, b⟩ := rel.val i d q; ⟨v, a, b.mono g.up⟩, fun i p xs q => by
    obtain ⟨l, vs, a, b, c, d⟩ := rel.own i p xs q
    obtain ⟨k1, k2⟩ := g.keep l _ b (fun z => z)
    exact ⟨l, vs, a, k1, k2 c, d.mono g.up⟩, rel.inj⟩
  refine ⟨⟨g.up, fun a o ha _ => g.keep a o ha (fun z => z), g.there, fun i p xs l h1 h2 => .inr ⟨i, xs, h1, h2⟩, fun i xs h => ⟨xs, h, rfl⟩⟩, rel', ?_, ?_⟩
  · cases r with
    | val d => exact h
    | own xs =>
      obtain ⟨l, vs, e, h0, h1, h2, h3⟩ := h
      exact ⟨l, vs, e, h1, h2, rel.not_owned h0, h3⟩
  · cases r with
    | val d => trivial
    | own xs =>
      obtain ⟨l, vs, e, h0, _⟩ := h
      exact ⟨l, e, h0⟩
/-- f(..), f a def that changes nothing; the arguments data that stays (se_frz) -/
def mCallV (f : FnV) (ms : MA) : ME := fun s => (ms s).bind fun p => (vals p.1).bind fun ds => (f ds).bind fun r => some (rOf r, p.2)
theorem sound_callV {K : PySem.W.Frag} {n : Nat} {f : FnV} {E : XK} {ta : TA} {ms : MA} (hn : ∀ ds r, f ds = some r → ds.length = n) (ha : SoundA K ta ms) : Sound K (tCall (spV K n f) [] E ta) (mCallV f ms) := fun σ s M H r s' e rel Q q => by
  obtain ⟨⟨rs, s1⟩, e1, e⟩ := bd e
  obtain ⟨ds, e2, e⟩ := bd e
  obtain ⟨r', e3, e⟩ := bd e
  cases e
  refine ha σ s M H rs _ e1 rel _ fun vs M1 H1 o => ?_
  have hv := vals_ats o.held e2
  rw [List.append_nil]
  exact ⟨by rw [hv.length]; exact hn _ _ e3, M1, ds, r', e3, o.rel.le, hv, fun v M' H' g h => q v M' H' (.behind o.t (ok_ret o.rel g h))⟩
theorem fnV_n {nv np : Nat} {b : MS} : ∀ ds r, fnV nv np b ds = some r → ds.length = np := fun ds r e => by
  unfold fnV at e
  split at e
  · assumption
  · cases e
theorem fnW_n {nv np : Nat} {b : MS} : ∀ xs ds r, fnW nv np b xs ds = some r → ds.length + 1 = np := fun xs ds r e => by
  unfold fnW at e
  split at e
  · assumption
  · cases e
/-- f(x, ..), f may change the list x, one of one's own -/
def mCallW (f : FnW) (mo : ME) (ms : MA) : ME := fun s => (mo s).bind fun p => (ms p.2).bind fun q => (vals q.1).bind fun ds => match p.1 with
  | .slot k => (ownAt (.slot k) q.2).bind fun o => (f o.2.2 ds).bind fun r => some (rOf r.1, q.2.set k (some (.own o.2.1 r.2)))
  | .own xs => (f xs ds).bind fun r => some (rOf r.1, q.2)
  | .val _ => none
theorem sound_callW {K : PySem.W.Frag} {n : Nat} {f : FnW} {E : XK} {te : TE} {ta : TA} {mo : ME} {ms : MA} (hn : ∀ xs ds r, f xs ds = some r → ds.length + 1 = n) (ho : Sound K te mo) (ha : SoundA K ta ms) : Sound K (tCall (spW K n f) [] E (tCons te ta)) (mCallW f mo ms) := fun σ s M H r s' e rel Q q => by
  obtain ⟨⟨r1, s1⟩, e1, e⟩ := bd e
  obtain ⟨⟨rs, s2⟩, e2, e⟩ := bd e
  obtain ⟨ds, e3, e⟩ := bd e
  refine ho σ s M H r1 s1 e1 rel _ fun v0 M1 H1 o1 => ha σ s1 M1 H1 rs s2 e2 o1.rel _ fun vs M2 H2 o2 => ?_
  have hv := vals_ats o2.held e3
  have hd := o1.held.go o2.go o2.rel
  have k12 := o1.t.trans o2.t
  show spW K n f ((v0 :: vs) ++ []) H2 Q E
  rw [List.append_nil]
  cases r1 with
  | val d => cases e
  | slot k =>
    obtain ⟨⟨k', p, xs⟩, e4, e⟩ := bd e
    obtain ⟨⟨rr, ys⟩, e5, e⟩ := bd e
    cases e
    obtain ⟨hk, l, ws, rfl, hl, hH, hM, hats⟩ := ownAt_ok o2.rel hd e4
    have hkk : k' = k := by
      unfold ownAt at e4
      simp only at e4
      split at e4
      · cases e4; rfl
      · cases e4
    subst hkk
    refine ⟨by rw [List.length_cons, hv.length]; exact hn _ _ _ e5, M2, l, ws, vs, xs, ds, rr, ys, rfl, hH, hM, hats, hv, e5, o2.rel.le, fun v M' H' ws' g hH' hM' hats' hret => q v M' H' (.behind k12 ?_)⟩
    have hkl : k' < s2.length := by
      rcases Nat.lt_or_ge k' s2.length with z | z
      · exact z
      · rw [List.getElem?_eq_none z] at hk; cases hk
    have ne : ∀ j q ys l2, j ≠ k' → s2[j]? = some (some (Cell.own q ys)) → σ[j]? = some (some (V.ref l2)) → l2 ≠ l := fun j q ys l2 hj h1 h2 e => by
      subst e
      exact hj (o2.rel.inj j k' q p ys xs l2 h1 hk h2 hl)
    have notO : ∀ {l2}, H2 l2 = none → ¬ Owned σ (s2.set k' (some (Cell.own p ys))) l2 := fun {l2} hz ⟨j, p2, zs, z1, z2⟩ => by
      rcases set_get z1 with ⟨rfl, _⟩ | ⟨_, z⟩
      · rw [hl] at z2; cases z2; rw [hH] at hz; cases hz
      · exact o2.rel.not_owned hz ⟨j, p2, zs, z, z2⟩
    refine ⟨⟨g.up, fun a o ha' hna => g.keep a o ha' fun z => hna ⟨k', p, xs, hk, by rw [z]; exact hl⟩, g.there, fun j p2 zs l2 h1 h2 => ?_, fun j zs h => ?_⟩, ⟨by rw [List.length_set]; exact o2.rel.len, g.le, fun j d h => ?_, fun j p2 zs h => ?_, fun j1 j2 p1 p2 zs1 zs2 l2 h1 h2 h3 h4 => ?_⟩, ?_, ?_⟩
    · rcases set_get h1 with ⟨rfl, z⟩ | ⟨_, z⟩
      · cases z; exact .inr ⟨j, xs, hk, h2⟩
      · exact .inr ⟨j, zs, z, h2⟩
    · by_cases e : k' = j
      · subst e
        rw [hk] at h
        cases h
        exact ⟨ys, List.getElem?_set_self hkl, rfl⟩
      · exact ⟨zs, by rw [List.getElem?_set_ne e]; exact h, rfl⟩
    · rcases set_get h with ⟨_, z⟩ | ⟨_, z⟩
      · cases z
      · obtain ⟨v, a, b⟩ := o2.rel.val j d z
        exact ⟨v, a, b.mono g.up⟩
    · rcases set_get h with ⟨rfl, z⟩ | ⟨hj, z⟩
      · cases z
        exact ⟨l, ws', hl, hH', hM', hats'⟩
      · obtain ⟨l2, us, a, b, cc, d⟩ := o2.rel.own j p2 zs z
        obtain ⟨k1, k2⟩ := g.keep l2 _ b (ne j p2 zs l2 hj z a)
        exact ⟨l2, us, a, k1, k2 cc, d.mono g.up⟩
    · have get : ∀ m r us, (s2.set k' (some (Cell.own p ys)))[m]? = some (some (Cell.own r us)) → ∃ r' us', s2[m]? = some (some (Cell.own r' us')) := fun m r us hm => by
        rcases set_get hm with ⟨rfl, _⟩ | ⟨_, z⟩
        · exact ⟨p, xs, hk⟩
        · exact ⟨r, us, z⟩
      obtain ⟨r1, u1, g1⟩ := get j1 p1 zs1 h1
      obtain ⟨r2, u2, g2⟩ := get j2 p2 zs2 h2
      exact o2.rel.inj j1 j2 r1 r2 u1 u2 l2 g1 g2 h3 h4
    · cases rr with
      | val d => exact hret
      | own zs =>
        obtain ⟨l2, us, e, h0, h1, h2, h3⟩ := hret
        exact ⟨l2, us, e, h1, h2, notO h0, h3⟩
    · cases rr with
      | val d => trivial
      | own zs =>
        obtain ⟨l2, us, e, h0, _⟩ := hret
        exact ⟨l2, e, h0⟩
  | own xs =>
    obtain ⟨⟨rr, ys⟩, e5, e⟩ := bd e
    cases e
    obtain ⟨l, ws, rfl, hH, hM, hno, hats⟩ := hd
    refine ⟨by rw [List.length_cons, hv.length]; exact hn _ _ _ e5, M2, l, ws, vs, xs, ds, rr, ys, rfl, hH, hM, hats, hv, e5, o2.rel.le, fun v M' H' ws' g hH' hM' hats' hret => q v M' H' ?_⟩
    -- the list was new: the caller's caller does not know it
    obtain ⟨l', e', hnew⟩ := o1.new
    cases e'
    have neO : ∀ j q zs l2, s2[j]? = some (some (Cell.own q zs)) → σ[j]? = some (some (V.ref l2)) → l2 ≠ l := fun j q zs l2 h1 h2 e => by
      subst e
      exact hno ⟨j, q, zs, h1, h2⟩
    refine ⟨⟨k12.go.up.trans g.up, fun a o ha' hna => ?_, fun a o ha' => ?_, k12.go.own, k12.go.port⟩, ⟨o2.rel.len, g.le, fun j d h => ?_, fun j p2 zs h => ?_, o2.rel.inj⟩, ?_, ?_⟩
    · obtain ⟨x1, x2⟩ := k12.go.keep a o ha' hna
      obtain ⟨y1, y2⟩ := g.keep a o x1 (fun z => by subst z; rw [hnew] at ha'; cases ha')
      exact ⟨y1, fun z => y2 (x2 z)⟩
    · obtain ⟨o', x1⟩ := k12.go.there a o ha'
      exact g.there a o' x1
    · obtain ⟨v, a, b⟩ := o2.rel.val j d h
      exact ⟨v, a, b.mono g.up⟩
    · obtain ⟨l2, us, a, b, cc, d⟩ := o2.rel.own j p2 zs h
      obtain ⟨k1, k2⟩ := g.keep l2 _ b (neO j p2 zs l2 h a)
      exact ⟨l2, us, a, k1, k2 cc, d.mono g.up⟩
    · cases rr with
      | val d => exact hret
      | own zs =>
        obtain ⟨l2, us, e, h0, h1, h2, h3⟩ := hret
        exact ⟨l2, us, e, h1, h2, fun ⟨j, p2, us', z1, z2⟩ => o2.rel.not_owned h0 ⟨j, p2, us', z1, z2⟩, h3⟩
    · cases rr with
      | val d => trivial
      | own zs =>
        obtain ⟨l2, us, e, h0, _⟩ := hret
        exact ⟨l2, e, k12.go.free h0⟩
section
variable {c : Cd} {e : Expr} {es : List Expr} {p pos : Pos} {ms : MA} {mo : ME} {x : Str} {f : Addr} {fd : FuncData} {ps : List Str} {k n : Nat}
theorem Fits.fnOk {X : Cx} {sp : Sp} (g : Fits c X) (F : FnG c.P c.w c.K c.mg c.base CX0 k f fd ps sp) : FnG X.prog X.w X.K X.mg X.base CX0 k f fd ps sp := by
  rw [g.P, g.w, g.K, g.mg, g.base]; exact F
theorem se_callV {fn : FnV} (F : FnG c.P c.w c.K c.mg c.base CX0 k f fd ps (spV c.K n fn)) (hn : ∀ ds r, fn ds = some r → ds.length = n) (hk : k ≤ c.k) (hg : ∀ X : Cx, Fits c X → Gl X x) (hm : c.mg x = some (.ref f)) (kp : PySem.W.keepIn c.K (.ref f) = true) (hb : Binds c.K fd ps [])
    (ha : SA c (e :: es) ms) (hdb : (x == ("__debug__" : Str)) = false := by decide) (he : ∀ env, starEach (e :: es) env = (false, eval e env) :: starEach es env := by intro _; rfl) (hpl : ∀ env, (backTo pos (starEach es env)).any (·.1) = false := by intro _; rfl) : SE c (.Call (.Name x p) (e :: es) [] pos) (mCallV fn ms) := by
  obtain ⟨ta, pa, sa⟩ := ha
  exact ⟨tCall (spV c.K n fn) [] E0 ta, fun X g => pe_callG (g.fnOk F) (g.room.mono hk) g.guards (hg X g) (by rw [g.mg]; exact hm) (by rw [g.K]; exact kp) (by rw [g.K]; exact hb) pass0 (pa X g) hdb (he X.env) (hpl X.env), sound_callV hn sa⟩
theorem se_callW {fn : FnW} (F : FnG c.P c.w c.K c.mg c.base CX0 k f fd ps (spW c.K n fn)) (hn : ∀ xs ds r, fn xs ds = some r → ds.length + 1 = n) (hk : k ≤ c.k) (hg : ∀ X : Cx, Fits c X → Gl X x) (hm : c.mg x = some (.ref f)) (kp : PySem.W.keepIn c.K (.ref f) = true) (hb : Binds c.K fd ps [])
    (ho : SE c e mo) (ha : SA c es ms) (hdb : (x == ("__debug__" : Str)) = false := by decide) (he : ∀ env, starEach (e :: es) env = (false, eval e env) :: starEach es env := by intro _; rfl) (hpl : ∀ env, (backTo pos (starEach es env)).any (·.1) = false := by intro _; rfl) : SE c (.Call (.Name x p) (e :: es) [] pos) (mCallW fn mo ms) := by
  obtain ⟨te, pe, se⟩ := ho
  obtain ⟨ta, pa, sa⟩ := ha
  exact ⟨tCall (spW c.K n fn) [] E0 (tCons te ta), fun X g => pe_callG (g.fnOk F) (g.room.mono hk) g.guards (hg X g) (by rw [g.mg]; exact hm) (by rw [g.K]; exact kp) (by rw [g.K]; exact hb) pass0 (pa_cons (pe X g) (pa X g) (he X.env)) hdb (he X.env) (hpl X.env), sound_callW hn se sa⟩
/-! keywords -/
def SK (c : Cd) (kws : List Keyword) (m : MA) : Prop := ∃ t : TA, (∀ X, Fits c X → PK X kws t) ∧ SoundA c.K t m
theorem sk_nil : SK c [] mNil := ⟨_, fun _ _ => pk_nil, fun σ s M H rs s' e rel Q q => by cases e; exact q [] M H ⟨Go.refl, rel, .nil, .nil⟩⟩
theorem sk_cons {kws : List Keyword} {nm : Option Str} {kpos : Pos} {m : ME} {ms : MA} (h : SE c e m) (hr : SK c kws ms) : SK c (⟨nm, e, kpos⟩ :: kws) (mCons m ms) := by
  obtain ⟨t, p, sd⟩ := h
  obtain ⟨ts, ps, sds⟩ := hr
  refine ⟨_, fun X g => pk_cons (p X g) (ps X g), fun σ s M H rs s' e rel Q q => ?_⟩
  obtain ⟨⟨r1, s1⟩, e1, e⟩ := bd e
  obtain ⟨⟨r2, s2⟩, e2, e⟩ := bd e
  cases e
  refine sd σ s M H r1 s1 e1 rel _ fun v M1 H1 o1 => sds σ s1 M1 H1 r2 _ e2 o1.rel _ fun vs M2 H2 o2 => ?_
  exact q _ M2 H2 ⟨o1.go.trans o2.go, o2.rel, .cons (o1.held.go o2.go o2.rel) o2.held, .cons o1.new (o2.new.back fun l h => o1.go.free h)⟩
theorem se_callVK {fn : FnV} {kws : List Keyword} (F : FnG c.P c.w c.K c.mg c.base CX0 k f fd ps (spV c.K n fn)) (hn : ∀ ds r, fn ds = some r → ds.length = n) (hk : k ≤ c.k) (hg : ∀ X : Cx, Fits c X → Gl X x) (hm : c.mg x = some (.ref f)) (kp : PySem.W.keepIn c.K (.ref f) = true)
    (hb : ∀ (s : Shared) (ws : List Value), ws.length = ps.length → BindsTo s fd ⟨[], ps.zip ws⟩ (ps.zip ws)) (ha : SK c kws ms) (hall : ∀ env, (backToKw pos (keywordEach kws env)).all (·.1.isSome) = true := by intro _; rfl) (hks : ∀ env, (backToKw pos (keywordEach kws env)).filterMap (·.1) = ps := by intro _; rfl)
    (hdb : (x == ("__debug__" : Str)) = false := by decide) (hpl : ∀ env, ((backTo pos (starEach [] env)).any (·.1) || (backToKw pos (keywordEach kws env)).any (·.1.isNone)) = false := by intro _; rfl) : SE c (.Call (.Name x p) [] kws pos) (mCallV fn ms) := by
  obtain ⟨ta, pa, sa⟩ := ha
  exact ⟨tCall (spV c.K n fn) [] E0 ta, fun X g => pe_callGK (g.fnOk F) (g.room.mono hk) g.guards (hg X g) (by rw [g.mg]; exact hm) (by rw [g.K]; exact kp) hb pass0 (pa X g) (hall X.env) (hks X.env) hdb (hpl X.env), sound_callV hn sa⟩
/-- a global name that is none of the def's own -/
theorem gl_of {X : Cx} (g : Fits c X) (h : c.sc.names.lookup x = some .globalImplicit) : Gl X x := by
  show X.env.kindOf x = some .globalImplicit
  unfold Env.kindOf
  rw [g.sc]; exact h
end
end Dm
set_option Elab.async false
set_option linter.all false
set_option maxRecDepth 100000
set_option maxHeartbeats 4000000
namespace Dm
open PySem PySem.Spec L2
set_option autoImplicit false

/-! ### ==, != -/
mutual
def toP : D → PyData
  | .non => .none
  | .bl b => .bool b
  | .int i => .int i
  | .str x => .str x
  | .tup xs => .tuple (toPs xs)
  | .lst xs => .list (toPs xs)
  | .dic _ _ => .none
def toPs : List D → List PyData
  | [] => []
  | x :: xs => toP x :: toPs xs
end
mutual
/-- no dict in it -/
def noDic : D → Bool
  | .tup xs => noDics xs
  | .lst xs => noDics xs
  | .dic _ _ => false
  | _ => true
def noDics : List D → Bool
  | [] => true
  | x :: xs => noDic x && noDics xs
end
mutual
theorem At.dp {K : PySem.W.Frag} {H : Hp} : ∀ {v : V} {d : D}, At K H v d → noDic d = true → Dp K H v (toP d)
  | _, _, .non, _ => .non
  | _, _, .bl b, _ => .bl b
  | _, _, .int i, _ => .int i
  | _, _, .str x, _ => .str x
  | _, _, .lst h q, e => .lst h (Ats.dp q e)
  | _, _, .tup h q, e => .tup h (Ats.dp q e)
  | _, _, .dic _ _, e => by cases e
theorem Ats.dp {K : PySem.W.Frag} {H : Hp} : ∀ {vs : List V} {ds : List D}, Ats K H vs ds → noDics ds = true → DpAll K H vs (toPs ds)
  | _, _, .nil, _ => .nil
  | _, _, .cons h q, e => by
    have e' : (noDic _ && noDics _) = true := e
    rw [Bool.and_eq_true] at e'
    exact .cons (At.dp h e'.1) (Ats.dp q e'.2)
end
def shp (d : D) : Bool := noDic d && SeqAt.shaped (toP d)
def fEq : D → D → Option D := fun d e => if shp d && shp e then some (.bl (PyData.eqv (toP d) (toP e))) else none
def fNe : D → D → Option D := fun d e => if shp d && shp e then some (.bl (!PyData.eqv (toP d) (toP e))) else none
theorem shp_ok {d : D} (h : shp d = true) : noDic d = true ∧ SeqAt.shaped (toP d) = true := by
  unfold shp at h
  rw [Bool.and_eq_true] at h
  exact h
theorem sc_eq {K : PySem.W.Frag} : Sc2 K (rEqD K) fEq := fun H v w d e z hv hw q => by
  unfold fEq at q
  split at q
  · rename_i hs
    rw [Bool.and_eq_true] at hs
    cases q
    obtain ⟨a1, a2⟩ := shp_ok hs.1
    obtain ⟨b1, b2⟩ := shp_ok hs.2
    exact ⟨_, fun _ => .bl _, fun Q k => ⟨_, _, hv.dp a1, hw.dp b1, a2, b2, k⟩⟩
  · cases q
theorem sc_ne {K : PySem.W.Frag} : Sc2 K (rNeD K) fNe := fun H v w d e z hv hw q => by
  unfold fNe at q
  split at q
  · rename_i hs
    rw [Bool.and_eq_true] at hs
    cases q
    obtain ⟨a1, a2⟩ := shp_ok hs.1
    obtain ⟨b1, b2⟩ := shp_ok hs.2
    exact ⟨_, fun _ => .bl _, fun Q k => ⟨_, _, hv.dp a1, hw.dp b1, a2, b2, k⟩⟩
  · cases q
/-! ### in, not in: flat things -/
def flatD : D → Bool
  | .non => true
  | .bl _ => true
  | .int _ => true
  | .str _ => true
  | _ => false
def eqF : D → D → Bool
  | .non, .non => true
  | .bl a, .bl b => a == b
  | .bl a, .int b => (if a then 1 else 0) == b
  | .int a, .bl b => a == (if b then 1 else 0)
  | .int a, .int b => a == b
  | .str a, .str b => a == b
  | _, _ => false
def inD (x : D) (xs : List D) : Bool := xs.any fun y => eqF y x
theorem flat_at {K : PySem.W.Frag} {H : Hp} {v : V} {d : D} (h : At K H v d) (e : flatD d = true) : flatV v = true := by
  cases h <;> first | rfl | cases e
theorem flats_at {K : PySem.W.Frag} {H : Hp} : ∀ {vs : List V} {ds : List D}, Ats K H vs ds → ds.all flatD = true → vs.all flatV = true
  | _, _, .nil, _ => rfl
  | _, _, .cons h t, e => by
    rw [List.all_cons, Bool.and_eq_true] at e ⊢
    exact ⟨flat_at h e.1, flats_at t e.2⟩
theorem eqF_at {K : PySem.W.Frag} {H : Hp} {v w : V} {d e : D} (h : At K H v d) (h' : At K H w e) : eqV v w = eqF d e := by
  cases h <;> cases h' <;> rfl
theorem inD_at {K : PySem.W.Frag} {H : Hp} {v : V} {d : D} (h : At K H v d) : ∀ {vs : List V} {ds : List D}, Ats K H vs ds → inV v vs = inD d ds
  | _, _, .nil => rfl
  | _, _, .cons a t => by
    unfold inV inD
    rw [List.any_cons, List.any_cons, eqF_at a h]
    have := inD_at h t
    unfold inV inD at this
    rw [this]
def fIn (neg : Bool) : D → D → Option D := fun d e => (seqD e).bind fun xs => if flatD d && xs.all flatD then some (.bl (if neg then !inD d xs else inD d xs)) else none
theorem sc_in {K : PySem.W.Frag} (neg : Bool) : Sc2 K (rIn K neg) (fIn neg) := fun H v w d e z hv hw q => by
  obtain ⟨xs, e1, q⟩ := bd q
  split at q
  · rename_i hf
    rw [Bool.and_eq_true] at hf
    cases q
    obtain ⟨l, ws, rfl, hs, ha⟩ := hw.seq e1
    refine ⟨.bl (if neg then !inV v ws else inV v ws), fun M => ?_, fun Q k => ⟨l, ws, rfl, hs, flat_at hv hf.1, flats_at ha hf.2, k⟩⟩
    rw [inD_at hv ha]
    exact .bl _
  · cases q
/-! ### is None -/
def fIsN : D → D → Option D := fun d e => match e with
  | .non => some (.bl (match d with | .non => true | _ => false))
  | _ => none
def fNotN : D → D → Option D := fun d e => match e with
  | .non => some (.bl (match d with | .non => false | _ => true))
  | _ => none
theorem sc_isN {K : PySem.W.Frag} : Sc2 K (fun x y H Q => y = .non ∧ Q (.bl (decide (x = .non))) H) fIsN := fun H v w d e z hv hw q => by
  cases hw <;> try (cases q; done)
  cases q
  refine ⟨.bl (decide (v = .non)), fun M => ?_, fun Q k => ⟨rfl, k⟩⟩
  cases hv <;> exact .bl _
theorem sc_notN {K : PySem.W.Frag} : Sc2 K (fun x y H Q => y = .non ∧ Q (.bl (!decide (x = .non))) H) fNotN := fun H v w d e z hv hw q => by
  cases hw <;> try (cases q; done)
  cases q
  refine ⟨.bl (!decide (v = .non)), fun M => ?_, fun Q k => ⟨rfl, k⟩⟩
  cases hv <;> exact .bl _
section
variable {c : Cd} {a b : Expr} {pos : Pos} {ma mb : ME}
theorem se_eq (ha : SE c a ma) (hb : SE c b mb) : SE c (.Compare a [.Eq] [b] pos) (mBin fEq ma mb) := se_cmp (r2 := rEqD) (fun X g => op_eqD g.room.units) sc_eq (nomark _) ha hb
theorem se_ne (ha : SE c a ma) (hb : SE c b mb) : SE c (.Compare a [.NotEq] [b] pos) (mBin fNe ma mb) := se_cmp (r2 := rNeD) (fun X g => op_neD g.room.units) sc_ne (nomark _) ha hb
theorem st_eq (ha : SE c a ma) (hb : SE c b mb) : ST c (.Compare a [.Eq] [b] pos) (mTest (mBin fEq ma mb)) := st_cmp (r2 := rEqD) (fun X g => op_eqD g.room.units) sc_eq (nomark _) ha hb
theorem st_ne (ha : SE c a ma) (hb : SE c b mb) : ST c (.Compare a [.NotEq] [b] pos) (mTest (mBin fNe ma mb)) := st_cmp (r2 := rNeD) (fun X g => op_neD g.room.units) sc_ne (nomark _) ha hb
theorem se_in (ha : SE c a ma) (hb : SE c b mb) (hm : behindInMarks .In b = false := by rfl) : SE c (.Compare a [.In] [b] pos) (mBin (fIn false) ma mb) := se_cmp (r2 := fun K => rIn K false) (fun X g => op_in_seq) (sc_in false) hm ha hb
theorem se_nin (ha : SE c a ma) (hb : SE c b mb) (hm : behindInMarks .NotIn b = false := by rfl) : SE c (.Compare a [.NotIn] [b] pos) (mBin (fIn true) ma mb) := se_cmp (r2 := fun K => rIn K true) (fun X g => op_notIn_seq) (sc_in true) hm ha hb
theorem st_in (ha : SE c a ma) (hb : SE c b mb) (hm : behindInMarks .In b = false := by rfl) : ST c (.Compare a [.In] [b] pos) (mTest (mBin (fIn false) ma mb)) := st_cmp (r2 := fun K => rIn K false) (fun X g => op_in_seq) (sc_in false) hm ha hb
theorem st_nin (ha : SE c a ma) (hb : SE c b mb) (hm : behindInMarks .NotIn b = false := by rfl) : ST c (.Compare a [.NotIn] [b] pos) (mTest (mBin (fIn true) ma mb)) := st_cmp (r2 := fun K => rIn K true) (fun X g => op_notIn_seq) (sc_in true) hm ha hb
theorem se_isN (ha : SE c a ma) (hb : SE c b mb) : SE c (.Compare a [.Is] [b] pos) (mBin fIsN ma mb) := se_cmp (r2 := fun _ => _) (fun _ _ => op_isN) sc_isN (nomark _) ha hb
theorem se_notN (ha : SE c a ma) (hb : SE c b mb) : SE c (.Compare a [.IsNot] [b] pos) (mBin fNotN ma mb) := se_cmp (r2 := fun _ => _) (fun _ _ => op_notN) sc_notN (nomark _) ha hb
theorem st_isN (ha : SE c a ma) (hb : SE c b mb) : ST c (.Compare a [.Is] [b] pos) (mTest (mBin fIsN ma mb)) := st_cmp (r2 := fun _ => _) (fun _ _ => op_isN) sc_isN (nomark _) ha hb
theorem st_notN (ha : SE c a ma) (hb : SE c b mb) : ST c (.Compare a [.IsNot] [b] pos) (mTest (mBin fNotN ma mb)) := st_cmp (r2 := fun _ => _) (fun _ _ => op_notN) sc_notN (nomark _) ha hb
end
/-! ### repr -/
def okR (d : PyData) : Bool := d.showable && !d.hasDict && decide (d.depth ≤ 60) && decide (d.shown.length ≤ 16000000)
def fRepr : List D → Option D
  | [d] => if noDic d && okR (toP d) then some (.str (toP d).shown) else none
  | _ => none
theorem sixteen : (16000000 : Nat) ≤ sizeLine := by decide
def rRepr (K : PySem.W.Frag) : RC := fun vs H Q => ∃ v d, vs = [v] ∧ Dp K H v d ∧ okR d = true ∧ Q (.str d.shown) H
theorem call_reprD {X : Cx} (gd : X.A.guards = some []) (hu : X.A.units + 64 < cLine) : CallR X (.builtin "repr") (rRepr X.K) := by
  intro pins s σ H vs us Q I r h
  obtain ⟨v, d, rfl, hd, ok, q⟩ := h
  obtain ⟨u, rfl, ru⟩ := vals1 r
  unfold okR at ok
  simp only [Bool.and_eq_true, decide_eq_true_eq, Bool.not_eq_true'] at ok
  obtain ⟨⟨⟨o1, o2⟩, o3⟩, o4⟩ := ok
  have o5 : d.shown.length ≤ sizeLine := Nat.le_trans o4 sixteen
  have byref : ∀ a, u = .ref a → wpAny (model X.prog X.w) X.A (call (.builtin "repr") [u]) (EP X pins σ Q) X.xe s := fun a e => by
    subst e
    obtain ⟨as, rd⟩ := Dp.reads I d v (.ref a) hd ru
    exact repr_of_reads' rd o1 (fun z => by rw [o2] at z; cases z) gd (by omega) (fun _ _ z => z) (fun h' t tk hk => ⟨.str d.shown, H, I.kept hk, ⟨t, rfl⟩, q⟩) o5
  cases hd with
  | non => cases ru; exact PySem.P.repr_of_none ⟨.str _, H, I.tok _, ⟨_, rfl⟩, q⟩
  | bl b =>
    cases ru
    exact PySem.P.repr_of_bool ⟨.str _, H, I.tok _, ⟨_, rfl⟩, by cases b <;> exact q⟩
  | int i =>
    obtain ⟨t, rfl⟩ := ru
    exact PySem.P.repr_of_int (by simpa [PyData.showable] using o1) ⟨.str _, H, I.tok _, ⟨_, rfl⟩, q⟩
  | str x =>
    obtain ⟨t, rfl⟩ := ru
    exact PySem.P.repr_of_str ⟨.str _, H, I.tok _, ⟨_, rfl⟩, q⟩ o5
  | lst h1 h2 => exact byref _ ru
  | tup h1 h2 => exact byref _ ru
theorem sc_repr {K : PySem.W.Frag} : Sc1 K (rRepr K) fRepr := fun H vs ds z h e => by
  unfold fRepr at e
  split at e
  · split at e
    · rename_i hs
      rw [Bool.and_eq_true] at hs
      cases e
      obtain ⟨v, rfl, ha⟩ := ats1 h
      exact ⟨_, fun _ => .str _, fun Q q => ⟨v, _, rfl, ha.dp hs.1, hs.2, q⟩⟩
    · cases e
  · cases e
section
variable {c : Cd} {e a b : Expr} {es : List Expr} {p pos : Pos} {ms : MA} {m ma mb : ME}
theorem se_repr (hg : ∀ X : Cx, Fits c X → Gl X "repr") (hm : c.mg "repr" = none) (ha : SA c (e :: es) ms) (he : ∀ env, starEach (e :: es) env = (false, eval e env) :: starEach es env := by intro _; rfl) (hpl : ∀ env, (backTo pos (starEach es env)).any (·.1) = false := by intro _; rfl) :
    SE c (.Call (.Name "repr" p) (e :: es) [] pos) (mCS fRepr ms) := se_callB (r := rRepr) (fun X g => call_reprD g.guards g.room.units) sc_repr hg hm (by decide +kernel) ha (by decide) (by decide) he hpl
/-! ### lists and tuples: times, plus, slices -/
/-- [..] * n, of a list of one's own -/
def mRep (ma mb : ME) : ME := fun s => (ma s).bind fun p => (mb p.2).bind fun q => (peek q.1 q.2).bind fun e => (asI e).bind fun k => match p.1 with
  | .own xs => if xs.length * k.toNat ≤ 100000 ∧ small k = true then some (.own (List.replicate k.toNat xs).flatten, q.2) else none
  | _ => none
theorem se_rep (ha : SE c a ma) (hb : SE c b mb) : SE c (.BinOp a .Mult b pos) (mRep ma mb) := by
  obtain ⟨ta, pa, sa⟩ := ha
  obtain ⟨tb, pb, sb⟩ := hb
  refine ⟨tOp rRep ta tb, fun X g => pe_op op_rep (pa X g) (pb X g), fun σ s M H r s' e rel Q q => ?_⟩
  obtain ⟨⟨r1, s1⟩, e1, e⟩ := bd e
  obtain ⟨⟨r2, s2⟩, e2, e⟩ := bd e
  obtain ⟨d, e3, e⟩ := bd e
  obtain ⟨k, e4, e⟩ := bd e
  cases r1 with
  | val d => cases e
  | slot i => cases e
  | own xs =>
    simp only at e
    split at e
    · rename_i hc
      cases e
      refine sa σ s M H _ s1 e1 rel _ fun v M1 H1 o1 => sb σ s1 M1 H1 r2 _ e2 o1.rel _ fun w M2 H2 o2 => ?_
      obtain ⟨g, hd⟩ := o1.then o2
      obtain ⟨l, vs, rfl, h1, h2, h3, h4⟩ := hd
      have hw := asI_at (o2.held.at o2.rel e3) e4
      subst hw
      obtain ⟨b1, b2⟩ := small_ok hc.2
      exact ⟨l, k, vs, rfl, rfl, h1, by omega, by omega, sz_of (by rw [h4.length]; exact hc.1), fun p hp => q _ _ _ (.behind ⟨g, o2.rel⟩ (ok_lst o2.rel hp (h4.rep k.toNat)))⟩
    · cases e
/-- t + u, tuples that stay -/
def mCatT (ma mb : ME) : ME := fun s => (ma s).bind fun p => (mb p.2).bind fun q => match p.1, q.1 with
  | .val (.tup xs), .val (.tup ys) => if xs.length + ys.length ≤ 100000 then some (.val (.tup (xs ++ ys)), q.2) else none
  | _, _ => none
/-- t[i:j], a tuple that stays -/
def mSlT (ma : ME) (ml mh : MO) : ME := fun s => (ma s).bind fun p => (ml p.2).bind fun l => (mh l.2).bind fun h => (peek p.1 h.2).bind fun d => match d with
  | .tup xs => some (.val (.tup (cutD xs l.1 h.1)), h.2)
  | _ => none
end
end Dm
set_option Elab.async false
set_option linter.all false
set_option maxRecDepth 100000
set_option maxHeartbeats 4000000
namespace Dm
open PySem PySem.Spec L2
set_option autoImplicit false

section
variable {c : Cd} {e a b : Expr} {es : List Expr} {p p2 pos : Pos} {ms : MA} {m ma mb : ME}
theorem se_catT (ha : SE c a ma) (hb : SE c b mb) : SE c (.BinOp a .Add b pos) (mCatT ma mb) := by
  obtain ⟨ta, pa, sa⟩ := ha
  obtain ⟨tb, pb, sb⟩ := hb
  refine ⟨tOp (rCatA c.K) ta tb, fun X g => by have := op_catA (X := X); rw [g.K] at this; exact pe_op this (pa X g) (pb X g), fun σ s M H r s' e rel Q q => ?_⟩
  obtain ⟨⟨r1, s1⟩, e1, e⟩ := bd e
  obtain ⟨⟨r2, s2⟩, e2, e⟩ := bd e
  simp only at e
  split at e
  · split at e
    · rename_i xs ys hl
      cases e
      refine sa σ s M H _ s1 e1 rel _ fun v M1 H1 o1 => sb σ s1 M1 H1 _ _ e2 o1.rel _ fun w M2 H2 o2 => ?_
      obtain ⟨g, hd⟩ := o1.then o2
      have hv : At c.K M2 v (.tup _) := hd
      have hw : At c.K M2 w (.tup _) := o2.held
      have hv0 := hv
      have hw0 := hw
      cases hv with
      | tup h1 h2 =>
        cases hw with
        | tup h3 h4 =>
          refine ⟨_, _, _, _, rfl, rfl, o2.rel.le.sqT h1, o2.rel.le.sqT h3, sz_of (by rw [h2.length, h4.length]; exact hl), fun z => ?_, fun _ z => ?_, fun _ _ p hp => q _ _ _ (.behind ⟨g, o2.rel⟩ (ok_tup o2.rel hp (h2.append h4)))⟩
          · subst z
            cases h2
            exact q _ M2 H2 (.behind ⟨g, o2.rel⟩ (.same (r := .val _) o2.rel hw0 trivial))
          · subst z
            cases h4
            rw [List.append_nil] at q
            exact q _ M2 H2 (.behind ⟨g, o2.rel⟩ (.same (r := .val _) o2.rel hv0 trivial))
    · cases e
  · cases e
theorem se_slT {lo hi : Option Expr} {ml mh : MO} (ha : SE c a ma) (hl : SO c lo ml) (hh : SO c hi mh) : SE c (.Subscript a (.Slice lo hi none p2) pos) (mSlT ma ml mh) := by
  obtain ⟨ta, pa, sa⟩ := ha
  obtain ⟨tl, pl, sl⟩ := hl
  obtain ⟨th, ph, sh⟩ := hh
  refine ⟨tSl (rSlA c.K) ta tl th, fun X g => by have := sl_tupA (X := X); rw [g.K] at this; exact pe_slice this (pa X g) (pl X g) (ph X g), fun σ s M H r s' e rel Q q => ?_⟩
  obtain ⟨⟨r1, s1⟩, e1, e⟩ := bd e
  obtain ⟨⟨o2, s2⟩, e2, e⟩ := bd e
  obtain ⟨⟨o3, s3⟩, e3, e⟩ := bd e
  obtain ⟨d1, p1, e⟩ := bd e
  cases d1 <;> try (cases e; done)
  rename_i xs
  cases e
  refine sa σ s M H r1 s1 e1 rel _ fun v M1 H1 k1 => sl σ s1 M1 H1 o2 s2 e2 k1.rel _ fun M2 H2 k2 => sh σ s2 M2 H2 o3 _ e3 k2.rel _ fun M3 H3 k3 => ?_
  have hd := k1.held.go (k2.go.trans k3.go) k3.rel
  have hk := k1.t.trans (k2.trans k3)
  rcases hd.peek k3.rel p1 with z | ⟨_, _, _, _, _, _, _, z⟩
  · have z0 := z
    cases z with
    | tup h1 h2 =>
      refine ⟨_, _, rfl, k3.rel.le.sqT h1, fun w => ?_, fun _ p hp => q _ _ _ (.behind hk (ok_tup k3.rel hp (ats_cut h2 _ _)))⟩
      have : cutD xs o2 o3 = xs := by
        unfold cutD
        rw [h2.length] at w
        rw [w.1, w.2]
        simp
      rw [this] at q
      exact q _ M3 H3 (.behind hk (.same (r := .val _) k3.rel z0 trivial))
  · cases z
/-! t * n -/
def mRepT (ma mb : ME) : ME := fun s => (ma s).bind fun p => (mb p.2).bind fun q => (peek q.1 q.2).bind fun e => (asI e).bind fun k => match p.1 with
  | .val (.tup xs) => if 0 < xs.length ∧ xs.length ≤ 1000 ∧ 2 ≤ k ∧ k ≤ 1000 then some (.val (.tup (List.replicate k.toNat xs).flatten), q.2) else none
  | _ => none
theorem se_repT (ha : SE c a ma) (hb : SE c b mb) : SE c (.BinOp a .Mult b pos) (mRepT ma mb) := by
  obtain ⟨ta, pa, sa⟩ := ha
  obtain ⟨tb, pb, sb⟩ := hb
  refine ⟨tOp (rRepT c.K) ta tb, fun X g => by have := op_repT (X := X); rw [g.K] at this; exact pe_op this (pa X g) (pb X g), fun σ s M H r s' e rel Q q => ?_⟩
  obtain ⟨⟨r1, s1⟩, e1, e⟩ := bd e
  obtain ⟨⟨r2, s2⟩, e2, e⟩ := bd e
  obtain ⟨d, e3, e⟩ := bd e
  obtain ⟨k, e4, e⟩ := bd e
  simp only at e
  split at e
  · split at e
    · rename_i xs hc
      cases e
      refine sa σ s M H _ s1 e1 rel _ fun v M1 H1 o1 => sb σ s1 M1 H1 r2 _ e2 o1.rel _ fun w M2 H2 o2 => ?_
      obtain ⟨g, hd⟩ := o1.then o2
      have hv : At c.K M2 v (.tup _) := hd
      have hw := asI_at (o2.held.at o2.rel e3) e4
      subst hw
      cases hv with
      | tup h1 h2 =>
        have hl := h2.length
        refine ⟨_, k, _, rfl, rfl, o2.rel.le.sqT h1, fun z => ?_, hc.2.2.1, hc.2.2.2, by rw [hl]; exact hc.2.1, fun p hp => q _ _ _ (.behind ⟨g, o2.rel⟩ (ok_tup o2.rel hp (h2.rep k.toNat)))⟩
        rw [z] at hl
        have := hc.1
        rw [← hl] at this
        exact absurd this (by decide)
    · cases e
  · cases e
/-! n.bit_length() -/
def fBits : D → Option D
  | .int i => some (.int (Builtin.Int.intBits i : Nat))
  | _ => none
theorem se_bits {o : Expr} {apos : Pos} {mo : ME} (ho : SE c o mo) (hx : ∀ X : Cx, Fits c X → ∀ to, PE X o to → PE X (.Call (.Attribute o "bit_length" apos) [] [] pos) (tBits to) := by exact fun X _ to p => pe_bits p) : SE c (.Call (.Attribute o "bit_length" apos) [] [] pos) (mUn fBits mo) := by
  obtain ⟨to, po, so⟩ := ho
  refine ⟨tBits to, fun X g => hx X g to (po X g), fun σ s M H r s' e rel Q q => ?_⟩
  obtain ⟨⟨r1, s1⟩, e1, e⟩ := bd e
  obtain ⟨d, p1, e⟩ := bd e
  obtain ⟨z, e2, e⟩ := bd e
  cases e
  refine so σ s M H r1 _ e1 rel _ fun v M1 H1 k => ?_
  have hv := k.held.at k.rel p1
  cases hv <;> try (cases e2; done)
  cases e2
  exact ⟨_, rfl, q _ M1 H1 ⟨k.go, k.rel, .int _, trivial⟩⟩
/-! type(x) is T -/
def tyD : D → String
  | .non => "NoneType"
  | .bl _ => "bool"
  | .int _ => "int"
  | .str _ => "str"
  | .tup _ => "tuple"
  | .lst _ => "list"
  | .dic _ _ => "dict"
def noFrz : D → Bool
  | .dic _ _ => false
  | _ => true
theorem At.ty {K : PySem.W.Frag} {H : Hp} {v : V} {d : D} (h : At K H v d) (e : noFrz d = true) : TyB K H v (tyD d) := by
  cases h with
  | non => exact .non
  | bl b => exact .bl b
  | int i => exact .int i
  | str x => exact .str x
  | lst h _ => exact .lst h
  | tup h _ => exact .tup h
  | dic _ _ => cases e
def mTyIs (T : String) (neg : Bool) (m : ME) : ME := fun s => (m s).bind fun p => (peek p.1 p.2).bind fun d => if noFrz d then some (.val (.bl (if neg then !decide (tyD d = T) else decide (tyD d = T))), p.2) else none
theorem sound_tyIs {K : PySem.W.Frag} {T : String} {te : TE} (sd : Sound K te m) : Sound K (tOp (fun x y H Q => ∃ a b, x = .ty a ∧ y = .ty b ∧ Q (.bl (decide (a = b))) H) (tCB (rTyp K) (tCons te tNil)) (tC (.ty T))) (mTyIs T false m) := fun σ s M H r s' e rel Q q => by
  obtain ⟨⟨r1, s1⟩, e1, e⟩ := bd e
  obtain ⟨d, p1, e⟩ := bd e
  split at e
  · rename_i hf
    cases e
    refine sd σ s M H r1 _ e1 rel _ fun v M1 H1 k => ?_
    exact ⟨v, tyD d, rfl, (k.held.at k.rel p1).ty hf, tyD d, T, rfl, rfl, q _ M1 H1 ⟨k.go, k.rel, .bl _, trivial⟩⟩
  · cases e
theorem sound_tyNot {K : PySem.W.Frag} {T : String} {te : TE} (sd : Sound K te m) : Sound K (tOp rNT (tCB (rTyp K) (tCons te tNil)) (tC (.ty T))) (mTyIs T true m) := fun σ s M H r s' e rel Q q => by
  obtain ⟨⟨r1, s1⟩, e1, e⟩ := bd e
  obtain ⟨d, p1, e⟩ := bd e
  split at e
  · rename_i hf
    cases e
    refine sd σ s M H r1 _ e1 rel _ fun v M1 H1 k => ?_
    exact ⟨v, tyD d, rfl, (k.held.at k.rel p1).ty hf, tyD d, T, rfl, rfl, q _ M1 H1 ⟨k.go, k.rel, .bl _, trivial⟩⟩
  · cases e
theorem se_tyIs {x : Str} (T : String) (h : SE c e m) (hg : ∀ X : Cx, Fits c X → Gl X "type") (hm : c.mg "type" = none) (hg2 : ∀ X : Cx, Fits c X → Gl X x) (hm2 : c.mg x = none) (hv : bootBuiltins x = some (.type T)) (hn : x ≠ "__name__" := by decide) (hd : (x == ("__debug__" : Str)) = false := by decide)
    (hs : ∀ env, starEach [e] env = (false, eval e env) :: starEach [] env := by intro _; rfl) (hpl : ∀ env, (backTo pos (starEach [] env)).any (·.1) = false := by intro _; rfl) {p3 : Pos} : SE c (.Compare (.Call (.Name "type" p) [e] [] pos) [.Is] [.Name x p2] p3) (mTyIs T false m) := by
  obtain ⟨te, pe, sd⟩ := h
  refine ⟨_, fun X g => by
    have := call_type1 (X := X)
    rw [g.K] at this
    exact pe_cmpR op_isTyB (pe_callTy this (hg X g) (by rw [g.mg]; exact hm) (by decide +kernel) (pa_cons (pe X g) pa_nil (hs X.env)) (by decide) (by decide) (hs X.env) (hpl X.env)) (pe_bltn (hg2 X g) (by rw [g.mg]; exact hm2) hv rfl hn hd) (nomark _), sound_tyIs sd⟩
theorem se_tyNot {x : Str} (T : String) (h : SE c e m) (hg : ∀ X : Cx, Fits c X → Gl X "type") (hm : c.mg "type" = none) (hg2 : ∀ X : Cx, Fits c X → Gl X x) (hm2 : c.mg x = none) (hv : bootBuiltins x = some (.type T)) (hn : x ≠ "__name__" := by decide) (hd : (x == ("__debug__" : Str)) = false := by decide)
    (hs : ∀ env, starEach [e] env = (false, eval e env) :: starEach [] env := by intro _; rfl) (hpl : ∀ env, (backTo pos (starEach [] env)).any (·.1) = false := by intro _; rfl) {p3 : Pos} : SE c (.Compare (.Call (.Name "type" p) [e] [] pos) [.IsNot] [.Name x p2] p3) (mTyIs T true m) := by
  obtain ⟨te, pe, sd⟩ := h
  refine ⟨_, fun X g => by
    have := call_type1 (X := X)
    rw [g.K] at this
    exact pe_cmpR op_notTyB (pe_callTy this (hg X g) (by rw [g.mg]; exact hm) (by decide +kernel) (pa_cons (pe X g) pa_nil (hs X.env)) (by decide) (by decide) (hs X.env) (hpl X.env)) (pe_bltn (hg2 X g) (by rw [g.mg]; exact hm2) hv rfl hn hd) (nomark _), sound_tyNot sd⟩
theorem st_tyIs {x : Str} (T : String) (h : SE c e m) (hg : ∀ X : Cx, Fits c X → Gl X "type") (hm : c.mg "type" = none) (hg2 : ∀ X : Cx, Fits c X → Gl X x) (hm2 : c.mg x = none) (hv : bootBuiltins x = some (.type T)) (hn : x ≠ "__name__" := by decide) (hd : (x == ("__debug__" : Str)) = false := by decide)
    (hs : ∀ env, starEach [e] env = (false, eval e env) :: starEach [] env := by intro _; rfl) (hpl : ∀ env, (backTo pos (starEach [] env)).any (·.1) = false := by intro _; rfl) {p3 : Pos} : ST c (.Compare (.Call (.Name "type" p) [e] [] pos) [.Is] [.Name x p2] p3) (mTest (mTyIs T false m)) := by
  obtain ⟨te, pe, sd⟩ := h
  refine ⟨_, fun X g => by
    have := call_type1 (X := X)
    rw [g.K] at this
    exact pt_cmpR op_isTyB (pe_callTy this (hg X g) (by rw [g.mg]; exact hm) (by decide +kernel) (pa_cons (pe X g) pa_nil (hs X.env)) (by decide) (by decide) (hs X.env) (hpl X.env)) (pe_bltn (hg2 X g) (by rw [g.mg]; exact hm2) hv rfl hn hd) (nomark _), sound_test (sound_tyIs sd)⟩
theorem st_tyNot {x : Str} (T : String) (h : SE c e m) (hg : ∀ X : Cx, Fits c X → Gl X "type") (hm : c.mg "type" = none) (hg2 : ∀ X : Cx, Fits c X → Gl X x) (hm2 : c.mg x = none) (hv : bootBuiltins x = some (.type T)) (hn : x ≠ "__name__" := by decide) (hd : (x == ("__debug__" : Str)) = false := by decide)
    (hs : ∀ env, starEach [e] env = (false, eval e env) :: starEach [] env := by intro _; rfl) (hpl : ∀ env, (backTo pos (starEach [] env)).any (·.1) = false := by intro _; rfl) {p3 : Pos} : ST c (.Compare (.Call (.Name "type" p) [e] [] pos) [.IsNot] [.Name x p2] p3) (mTest (mTyIs T true m)) := by
  obtain ⟨te, pe, sd⟩ := h
  refine ⟨_, fun X g => by
    have := call_type1 (X := X)
    rw [g.K] at this
    exact pt_cmpR op_notTyB (pe_callTy this (hg X g) (by rw [g.mg]; exact hm) (by decide +kernel) (pa_cons (pe X g) pa_nil (hs X.env)) (by decide) (by decide) (hs X.env) (hpl X.env)) (pe_bltn (hg2 X g) (by rw [g.mg]; exact hm2) hv rfl hn hd) (nomark _), sound_test (sound_tyNot sd)⟩
/-! any(t) of whole numbers and truth values -/
def truD : D → Option Bool
  | .bl b => some b
  | .int i => some (i != 0)
  | _ => none
def trus : List D → Option (List Bool)
  | [] => some []
  | d :: ds => (truD d).bind fun b => (trus ds).bind fun bs => some (b :: bs)
def truV : V → Option Bool
  | .bl b => some b
  | .int i => some (i != 0)
  | _ => none
inductive Trus : List V → List Bool → Prop
  | nil : Trus [] []
  | cons {v : V} {b : Bool} {vs : List V} {bs : List Bool} : truV v = some b → Trus vs bs → Trus (v :: vs) (b :: bs)
theorem trus_at {K : PySem.W.Frag} {H : Hp} : ∀ {vs : List V} {ds : List D} {bs : List Bool}, Ats K H vs ds → trus ds = some bs → Trus vs bs
  | _, _, _, .nil, e => by cases e; exact .nil
  | _, _, _, .cons h t, e => by
    obtain ⟨b, e1, e⟩ := bd e
    obtain ⟨bs, e2, e⟩ := bd e
    cases e
    refine .cons ?_ (trus_at t e2)
    cases h <;> first | exact e1 | cases e1
theorem Trus.length : ∀ {vs : List V} {bs : List Bool}, Trus vs bs → vs.length = bs.length
  | _, _, .nil => rfl
  | _, _, .cons _ t => congrArg (· + 1) t.length
theorem Trus.get : ∀ {vs : List V} {bs : List Bool} {i : Nat} {v : V}, Trus vs bs → vs[i]? = some v → ∃ b, bs[i]? = some b ∧ truV v = some b
  | _, _, _, _, .nil, e => by simp at e
  | _, _, 0, _, .cons h _, e => by simp at e; subst e; exact ⟨_, rfl, h⟩
  | _, _, i + 1, _, .cons _ q, e => by
    obtain ⟨b, h1, h2⟩ := Trus.get (i := i) q (by simpa using e)
    exact ⟨b, by simpa using h1, h2⟩
theorem truth_of {prog : Program} {w : World} {A : Around} {vs : List V} {its : List Value} {bs : List Bool} (r : Vals vs its) (t : Trus vs bs) : TruthOf prog w A (fun i v => its.toArray[i]? = some v) (fun i => bs.getD i false) := fun i v s Q E hv hq => by
  have hv' : its[i]? = some v := by simpa using hv
  have hi : i < vs.length := by
    rw [r.length]
    rcases Nat.lt_or_ge i its.length with z | z
    · exact z
    · rw [List.getElem?_eq_none z] at hv'; cases hv'
  obtain ⟨u, hu, ru⟩ := r.get (List.getElem?_eq_getElem hi)
  rw [hv'] at hu
  cases hu
  obtain ⟨b, hb, tb⟩ := t.get (List.getElem?_eq_getElem hi)
  have hg : bs.getD i false = b := by rw [List.getD_eq_getElem?_getD, hb] <;> rfl
  have hq' : Q (bs.getD i false) s := hq
  rw [hg] at hq'
  cases hx : vs[i] with
  | bl k =>
    rw [hx] at ru tb
    cases tb
    cases ru
    exact wpAny_truthy_bool hq'
  | int k =>
    rw [hx] at ru tb
    cases tb
    obtain ⟨t, rfl⟩ := ru
    exact PySem.P.truthy_int hq'
  | _ => rw [hx] at tb; cases tb
def rAnyX (K : PySem.W.Frag) : RC := fun vs H Q => ∃ (a : Addr) (xs : List V) (bs : List Bool), vs = [V.ref a] ∧ (SqL K H a xs ∨ SqT K H a xs) ∧ Trus xs bs ∧ Q (.bl (bs.any id)) H
theorem call_anyX {X : Cx} (hc : X.calm = true) : CallR X (.builtin "any") (rAnyX X.K) := by
  intro pins s σ H vs us Q I r h
  obtain ⟨a, xs, bs, rfl, hs, tr, q⟩ := h
  have e0 := Vals.ref1 r
  subst e0
  have fin : ∀ {its : List Value} {h' : Heap} {tk : Nat}, Vals xs its → (∀ b o, b ∉ [s.heap.objs.size] → (s.heap.push { cls := .type "list_iterator", data := .fields #[.ref a, .int 0 0] }).get? b = some o → h'.get? b = some o) → True := fun _ _ => trivial
  rcases hs with hs | hs
  · obtain ⟨its, rv, hl, _⟩ := I.list hs
    refine call_any_walk (iter_any hl.isList fun s₂ e2 st hne => ?_)
    subst e2
    refine ⟨_, _, _, _, _, _, _, rfl, Walks.list (A := X.A.in1) (I.ok.hd hc) _ a hne its.toArray, st, truth_of rv tr, fun h' tk hk => ?_⟩
    refine ⟨.bl _, H, I.kept fun b o eo => hk b o (fun hmem => ?_) (Heap.get?_push_of_some _ eo), ?_, q⟩
    · rcases List.mem_cons.mp hmem with e1 | hmem
      · exact absurd (e1 ▸ Heap.lt_size eo) (Nat.lt_irrefl _)
      · cases hmem
    · show Value.bool _ = Value.bool _
      rw [← any_range, List.size_toArray, ← rv.length, tr.length]
  · obtain ⟨its, rv, hl, _⟩ := I.tuple hs
    have hl' : s.heap.IsTuple a its.toArray := hl
    have hlt : a < s.heap.objs.size := by obtain ⟨_, e, _⟩ := hl'; exact Heap.lt_size e
    refine call_any_walk (wpAny_pyIter_tuple hl' ?_)
    refine ⟨_, _, _, _, _, _, _, rfl, Walks.tuple (A := X.A.in1) (I.ok.hd hc) _ a (Nat.ne_of_lt hlt) its.toArray, ⟨⟨_, Heap.get?_push_size _ rfl, rfl, rfl⟩, hl'.push _⟩, truth_of rv tr, fun h' tk hk => ?_⟩
    refine ⟨.bl _, H, I.kept fun b o eo => hk b o (fun hmem => ?_) (Heap.get?_push_of_some _ eo), ?_, q⟩
    · rcases List.mem_cons.mp hmem with e1 | hmem
      · exact absurd (e1 ▸ Heap.lt_size eo) (Nat.lt_irrefl _)
      · cases hmem
    · show Value.bool _ = Value.bool _
      rw [← any_range, List.size_toArray, ← rv.length, tr.length]
def fAnyX : List D → Option D
  | [d] => (seqD d).bind fun xs => (trus xs).bind fun bs => some (.bl (bs.any id))
  | _ => none
theorem sc_anyX {K : PySem.W.Frag} : Sc1 K (rAnyX K) fAnyX := fun H vs ds z h e => by
  unfold fAnyX at e
  split at e
  · obtain ⟨xs, e1, e⟩ := bd e
    obtain ⟨bs, e2, e⟩ := bd e
    cases e
    obtain ⟨v, rfl, ha⟩ := ats1 h
    obtain ⟨l, ws, rfl, hs, hw⟩ := ha.seq e1
    exact ⟨_, fun _ => .bl _, fun Q q => ⟨l, ws, bs, rfl, hs, trus_at hw e2, q⟩⟩
  · cases e
/-! a module's dict by whole numbers, d[i] -/
structure KInt (K : PySem.W.Frag) (a : Addr) (kvs : List (Int × V)) : Prop where
  ex : ∃ es n vs, K.lookup a = some ⟨.type "dict", none, .dict es n, #[]⟩ ∧ es.toList = vs.map (fun kv : (Int × Tok × Value) => (⟨hashInt kv.1, .int kv.1 kv.2.1, kv.2.2⟩ : DictEntry)) ∧ Paired (fun (p : Int × V) (q : Int × Tok × Value) => p.1 = q.1 ∧ RelV p.2 q.2.2) kvs vs ∧ (kvs.map (·.1)).Nodup
def rIxK (K : PySem.W.Frag) : R2 := fun x y H Q => ∃ a i v kvs, x = V.ref a ∧ y = V.int i ∧ KInt K a kvs ∧ kvs.lookup i = some v ∧ Q v H
theorem kint_find {P : Program} {w : World} {kvs : List (Int × V)} {vs : List (Int × Tok × Value)} (h : Paired (fun (p : Int × V) (q : Int × Tok × Value) => p.1 = q.1 ∧ RelV p.2 q.2.2) kvs vs) : ∀ {i : Int} {v : V}, kvs.lookup i = some v →
    ∃ u, RelV v u ∧ valueAt (vs.map fun q => (q.1, q.2.2)) i = some u := by
  induction h with
  | nil => intro i v e; cases e
  | @cons p q ps qs h t ih =>
    obtain ⟨k, x⟩ := p
    obtain ⟨k', tk, u⟩ := q
    obtain ⟨h1, h2⟩ := h
    have h1 : k = k' := h1
    subst h1
    intro i v e
    rw [List.lookup_cons] at e
    unfold valueAt
    rw [List.map_cons, List.find?_cons]
    by_cases hik : i = k
    · subst hik
      simp at e
      subst e
      exact ⟨u, h2, by simp⟩
    · have hne : (i == k) = false := by simpa using hik
      rw [hne] at e
      have hne2 : ¬ k = i := fun z => hik z.symm
      simp [hne2]
      obtain ⟨u', a1, a2⟩ := ih e
      refine ⟨u', a1, ?_⟩
      unfold valueAt at a2
      simpa using a2
theorem ix_K {X : Cx} : IxR X (rIxK X.K) := by
  intro value slice pins s σ H x y v u Q I rx ry h hs
  obtain ⟨a, i, z, kvs, rfl, rfl, ⟨es, n, vs, hl, he, hp, hn⟩, hf, q⟩ := h
  obtain rfl : v = Value.ref a := rx
  obtain ⟨t, rfl⟩ := ry
  have hobj := I.kIn a _ hl
  have hk : (vs.map (·.1)) = kvs.map (·.1) := by
    clear hl he hn hf
    induction hp with
    | nil => rfl
    | cons h _ ih => rw [List.map_cons, List.map_cons, ih, h.1]
  have dict : s.heap.DictOf (intKind X.prog X.w) a (vs.map fun q => (q.1, q.2.2)) := by
    refine ⟨_, es, n, hobj, ⟨rfl, rfl, rfl⟩, rfl, ?_, ?_, ?_⟩
    · intro d hd
      have hd' : d ∈ es.toList := by simpa using hd
      rw [he] at hd'
      obtain ⟨q, _, rfl⟩ := List.mem_map.mp hd'
      exact ⟨q.1, by simp [intKind, Value.isInt], rfl⟩
    · rw [he]
      clear hl he hp hn hf hobj hk
      induction vs with
      | nil => exact .nil
      | cons q qs ih => exact .cons (by simp [intKind, Value.isInt]) rfl ih
    · rw [List.map_map]
      show (vs.map (·.1)).Nodup
      rw [hk]; exact hn
  obtain ⟨w', rw', hv⟩ := kint_find (P := X.prog) (w := X.w) hp hf
  exact PyProof.Rows.tail_any dict.mapOf.typeIs PySem.F.slot_dict_getitem.lookup (wpAny_getItem_of (by simp [intKind, Value.isInt]) dict.mapOf hv ⟨z, H, I.tok _, rw', q⟩) hs
def mIxK (kds : List (Int × D)) (m : ME) : ME := fun s => (m s).bind fun p => (peek p.1 p.2).bind fun d => (asI d).bind fun i => (kds.lookup i).bind fun z => some (.val z, p.2)
theorem se_ixK {x : Str} {g : Addr} {kvs : List (Int × V)} (kds : List (Int × D)) (hk : KInt c.K g kvs) (hd : ∀ M i z, kds.lookup i = some z → ∃ v, kvs.lookup i = some v ∧ At c.K M v z) (hgl : ∀ X : Cx, Fits c X → Gl X x) (hm : c.mg x = some (.ref g)) (hdb : (x == ("__debug__" : Str)) = false := by decide)
    (h : SE c e m) (hs : PlainIx e := by exact fun _ _ => rfl) : SE c (.Subscript (.Name x p) e pos) (mIxK kds m) := by
  obtain ⟨te, pe, sd⟩ := h
  refine ⟨tOp (rIxK c.K) (tC (.ref g)) te, fun X k => by have := ix_K (X := X); rw [k.K] at this; exact pe_ix this (pe_glob (hgl X k) (by rw [k.mg]; exact hm) rfl hdb) (pe X k) hs, fun σ s M H r s' e rel Q q => ?_⟩
  obtain ⟨⟨r1, s1⟩, e1, e⟩ := bd e
  obtain ⟨d, p1, e⟩ := bd e
  obtain ⟨i, e2, e⟩ := bd e
  obtain ⟨z, e3, e⟩ := bd e
  cases e
  refine sd σ s M H r1 _ e1 rel _ fun v M1 H1 k => ?_
  obtain ⟨v', hv', hat⟩ := hd M1 i z e3
  exact ⟨g, i, v', kvs, rfl, asI_at (k.held.at k.rel p1) e2, hk, hv', q _ M1 H1 ⟨k.go, k.rel, hat, trivial⟩⟩
end
end Dm
set_option Elab.async false
set_option linter.all false
set_option maxRecDepth 100000
set_option maxHeartbeats 4000000
namespace Dm
open PySem PySem.Spec L2
set_option autoImplicit false

/-! ### {k: v, ..}[i], keys written whole numbers -/
def SPs (c : Cd) (keys : List (Option Expr)) (values : List Expr) (ks : List Int) (ms : S → Option (List D × S)) : Prop := ∃ trs, (∀ X pos, Fits c X → PPs X pos keys values trs) ∧ ∀ (σ : L2.St) (s : S) (M H : Hp) (ds : List D) (s' : S), ms s = some (ds, s') → Rel c.K M H σ s →
  ∀ Q : List (V × V) → Hp → Prop, (∀ ws M' H', OkT c.K σ s M H s' M' H' → Ats c.K M' ws ds → ws.length = ks.length → Q ((ks.zip ws).map fun p => (V.int p.1, p.2)) H') → tPairs trs σ H Q
def mPNil : S → Option (List D × S) := fun s => some ([], s)
def mPCons (m : ME) (ms : S → Option (List D × S)) : S → Option (List D × S) := fun s => (m s).bind fun p => match p.1 with
  | .val d => (ms p.2).bind fun q => some (d :: q.1, q.2)
  | _ => none
section
variable {c : Cd} {e v : Expr} {keys : List (Option Expr)} {values : List Expr} {ks : List Int} {m : ME} {ms : S → Option (List D × S)} {pos p2 : Pos}
theorem sps_nil : SPs c [] [] [] mPNil := ⟨[], fun _ _ _ => pps_nil, fun σ s M H ds s' e rel Q q => by cases e; exact q [] M H (.refl rel) .nil rfl⟩
theorem sps_cons {i : Int} {j : Nat} {kp : Pos} (h : SE c v m) (hr : SPs c keys values ks ms) : SPs c (some (.Constant (.int i) j kp) :: keys) (v :: values) (i :: ks) (mPCons m ms) := by
  obtain ⟨t, p, sd⟩ := h
  obtain ⟨ts, ps, sds⟩ := hr
  refine ⟨(tC (.int i), t) :: ts, fun X pos g => pps_cons pe_int (p X g) (ps X pos g), fun σ s M H ds s' e rel Q q => ?_⟩
  obtain ⟨⟨r, s1⟩, e1, e⟩ := bd e
  cases r with
  | own xs => cases e
  | slot k => cases e
  | val d =>
    obtain ⟨⟨es, s2⟩, e2, e⟩ := bd e
    cases e
    show t σ H _
    refine sd σ s M H _ s1 e1 rel _ fun w M1 H1 o1 => sds σ s1 M1 H1 es _ e2 o1.rel _ fun ws M2 H2 o2 ha hl => ?_
    exact q (w :: ws) M2 H2 (o1.t.trans o2) (.cons (At.mono o2.go.up o1.held) ha) (by rw [List.length_cons, List.length_cons, hl])
/-- the last one at the key -/
def lastAt {α : Type} : List Int → List α → Int → Option α
  | [], _, _ => none
  | k :: ks, ds, i => match ds with
    | [] => none
    | d :: ds => (lastAt ks ds i).or (if i = k then some d else none)
def mDisp (ks : List Int) (ms : S → Option (List D × S)) (m : ME) : ME := fun s => (ms s).bind fun p => (m p.2).bind fun q => (peek q.1 q.2).bind fun d => (asI d).bind fun i => (lastAt ks p.1 i).bind fun z => some (.val z, q.2)
theorem valV_merge (i : Int) : ∀ (ks : List Int) (ws : List V) (acc : List (Key × V)), valV (mergeK acc ((ks.zip ws).map fun p => ((Sum.inl p.1 : Key), p.2))) (Sum.inl i) = (lastAt ks ws i).or (valV acc (Sum.inl i))
  | [], ws, acc => by simp [mergeK, lastAt]
  | k :: ks, [], acc => by simp [mergeK, lastAt]
  | k :: ks, w :: ws, acc => by
    have ih := valV_merge i ks ws (putK acc (Sum.inl k) w)
    have e : mergeK acc (((k :: ks).zip (w :: ws)).map fun p => ((Sum.inl p.1 : Key), p.2)) = mergeK (putK acc (Sum.inl k) w) ((ks.zip ws).map fun p => ((Sum.inl p.1 : Key), p.2)) := rfl
    rw [e, ih, valV_put]
    show _ = ((lastAt ks ws i).or (if i = k then some w else none)).or _
    cases lastAt ks ws i with
    | some z => rfl
    | none =>
      by_cases h : i = k
      · subst h; simp
      · have h2 : ¬ (Sum.inl i : Key) = Sum.inl k := fun z => h (Sum.inl.inj z)
        rw [if_neg h2, if_neg h]; rfl
theorem last_at {K : PySem.W.Frag} {M : Hp} {i : Int} : ∀ (ks : List Int) {ws : List V} {ds : List D}, Ats K M ws ds → (∀ z, lastAt ks ds i = some z → ∃ v, lastAt ks ws i = some v ∧ At K M v z) ∧ (lastAt ks ds i = none → lastAt ks ws i = none)
  | [], ws, ds, h => ⟨fun z e => (nomatch e), fun _ => rfl⟩
  | k :: ks, _, _, .nil => ⟨fun z e => (nomatch e), fun _ => rfl⟩
  | k :: ks, w :: ws, _, .cons (d := d) (ds := ds) a t => by
    obtain ⟨h1, h2⟩ := last_at (i := i) ks t
    show (∀ z, (lastAt ks ds i).or (if i = k then some d else none) = some z → ∃ v, (lastAt ks ws i).or (if i = k then some w else none) = some v ∧ At K M v z) ∧ ((lastAt ks ds i).or (if i = k then some d else none) = none → (lastAt ks ws i).or (if i = k then some w else none) = none)
    cases hq : lastAt ks ds i with
    | some y =>
      obtain ⟨v, g1, g2⟩ := h1 _ hq
      rw [g1]
      exact ⟨fun z e => by cases e; exact ⟨v, rfl, g2⟩, fun e => by cases e⟩
    | none =>
      rw [h2 hq]
      by_cases hk : i = k
      · rw [if_pos hk, if_pos hk]
        exact ⟨fun z e => by cases e; exact ⟨w, rfl, a⟩, fun e => by cases e⟩
      · rw [if_neg hk, if_neg hk]
        exact ⟨fun z e => (by cases e), fun _ => rfl⟩
theorem se_dispIx (h : SPs c keys values ks ms) (he : SE c e m) (hs : NoSl e := by exact fun _ _ => rfl) (hall : keys.all (·.isSome) = true := by rfl) (hl : keys.length = values.length := by rfl) (h0 : keys ≠ [] := by intro z; cases z) (h15 : keys.length ≤ 15 := by decide) (hks : ks.length ≤ 15 := by decide) :
    SE c (.Subscript (.Dict keys values p2) e pos) (mDisp ks ms m) := by
  obtain ⟨trs, pp, sp⟩ := h
  obtain ⟨te, pe, sd⟩ := he
  refine ⟨tDGet (tDisp trs) te, fun X g => pe_dget (by have := g.room.units; omega) (pe_disp (pp X p2 g) hall hl h0 h15) (pe X g) hs, fun σ s M H r s' e rel Q q => ?_⟩
  obtain ⟨⟨ds, s1⟩, e1, e⟩ := bd e
  obtain ⟨⟨r1, s2⟩, e2, e⟩ := bd e
  obtain ⟨d, e3, e⟩ := bd e
  obtain ⟨i, e4, e⟩ := bd e
  obtain ⟨z, e5, e⟩ := bd e
  cases e
  show tDisp trs σ H _
  intro p hp
  have r0 : Rel c.K M (upd H p (.dK [])) σ s := rel.grow (Le.refl _) (le_upd hp) (le_updr rel.le (le_none rel.le hp)) fun _ _ _ z => z
  have g0 : Go σ s M H σ s M (upd H p (.dK [])) := Go.grow (Le.refl _) (le_upd hp) fun _ _ _ z => z
  refine sp σ s M _ ds s1 e1 r0 _ fun ws M1 H1 o1 ha hlw => ?_
  have no : ¬ Owned σ s p := rel.not_owned hp
  obtain ⟨k1, k2⟩ := o1.go.keep p _ upd_same no
  have hM1 : M1 p = none := k2 (le_none rel.le hp)
  refine ⟨k1, (ks.zip ws).map fun q => ((Sum.inl q.1 : Key), q.2), by rw [List.map_map]; rfl, ?_, ?_⟩
  · rw [List.length_map, List.length_zip]
    have := Nat.min_le_left ks.length ws.length
    omega
  -- the dict filled
  generalize hkv : mergeK [] ((ks.zip ws).map fun q => ((Sum.inl q.1 : Key), q.2)) = kvs
  have nO1 : ¬ Owned σ s1 p := fun zz => by
    obtain ⟨vs, q1, _⟩ := o1.rel.owned_some zz
    rw [k1] at q1; cases q1
  have r1' : Rel c.K M1 (upd H1 p (.dK kvs)) σ s1 := ⟨o1.rel.len, le_updr o1.rel.le hM1, o1.rel.val, fun j pp xs hj => by
    obtain ⟨l, us, a1, b1, c1, d1⟩ := o1.rel.own j pp xs hj
    exact ⟨l, us, a1, by rw [upd_ne (fun zz => nO1 ⟨j, pp, xs, hj, by rw [← zz]; exact a1⟩)]; exact b1, c1, d1⟩, o1.rel.inj⟩
  have g1 : Go σ s M H σ s1 M1 (upd H1 p (.dK kvs)) := by
    have gg := g0.trans o1.go
    refine ⟨gg.up, fun a o hao hna => ?_, fun a o hao => ?_, gg.own, gg.port⟩
    · have hne : a ≠ p := fun zz => by subst zz; rw [hp] at hao; cases hao
      rw [upd_ne hne]
      exact gg.keep a o hao hna
    · by_cases zz : a = p
      · subst zz; exact ⟨_, upd_same⟩
      · rw [upd_ne zz]; exact gg.there a o hao
  refine sd σ s1 M1 _ r1 _ e2 r1' _ fun w M2 H2 o2 => ?_
  obtain ⟨k3, _⟩ := o2.go.keep p _ upd_same nO1
  have hw := asI_at (o2.held.at o2.rel e3) e4
  subst hw
  obtain ⟨v, h1, h2⟩ := (last_at ks ha).1 _ e5
  refine ⟨p, v, rfl, .inl ⟨kvs, Sum.inl i, .inl k3, rfl, ?_⟩, q v M2 H2 ⟨g1.trans o2.go, o2.rel, h2.mono o2.go.up, trivial⟩⟩
  rw [← hkv, valV_merge, h1]
  rfl
end

/-! ### the law's end -/
theorem run_law {P : Program} {w : World} {K : PySem.W.Frag} {mg mb : Str → Option Value} {k : Nat} {fa a : Addr} {fd : FuncData} {x : Str} {fn : FnV} {s₁ : Shared} {vs : List Value} {ns : List Int}
    (kin : K.In s₁.heap) (glob : s₁.heap.Ns mainGlobals mg) (blt : s₁.heap.Ns builtinsNs mb) (hbb : ∀ x : Str, x ≠ "__name__" → mb x = bootBuiltins x) (nol : s₁.heap.NoLimit) (gens : s₁.gens = #[])
    (here : s₁.heap.get? a = some { cls := .type "list", data := .seq vs.toArray }) (hi : PyProof.Rows.IntsAre vs ns) (hl : ns.length ≤ sizeLine) (room : Room k callerA)
    (F : ∀ base : Heap, K.In base → base.Ns mainGlobals mg → FnG P w K mg base CX0 k fa fd [x] (spV K 1 fn)) (bind : ∀ (s : Shared) (u : Value), BindsTo s fd ⟨[u], []⟩ [(x, u)])
    (holds : fn [.lst (ns.map D.int)] = some (.val (.bl true))) :
    codeAny (model P w) callerA (.call (.ref fa) ⟨[.ref a], []⟩) (fun r s' => r = .ok (.ret (.bool true)) ∧ OldK s₁.heap s'.heap ∧ s'.os = s₁.os ∧ PyProof.Rows.AllBare s'.gens) s₁ := by
  have rel : Vals (ns.map V.int) vs := vals_of_ints hi
  have long : vs.toArray.size ≤ sizeLine := by
    rw [List.size_toArray, ← rel.length, List.length_map]; exact hl
  -- what is tracked: the script, if it is no object of the module
  have go : ∀ H : Hp, (∀ b u, H b = some u → b = a ∧ K.lookup a = none ∧ u = .frz { cls := .type "list", data := .seq vs.toArray } (.lst (ns.map V.int))) → SqL K H a (ns.map V.int) →
      codeAny (model P w) callerA (.call (.ref fa) ⟨[.ref a], []⟩) (fun r s' => r = .ok (.ret (.bool true)) ∧ OldK s₁.heap s'.heap ∧ s'.os = s₁.os ∧ PyProof.Rows.AllBare s'.gens) s₁ := by
    intro H only sq
    have ok : HOk P w H s₁.heap := by
      intro b u hb
      obtain ⟨rfl, _, rfl⟩ := only b u hb
      exact ⟨here, by rw [List.length_map]; exact hl, vs, _, rel, here⟩
    have dicts : ∀ {b : Addr} {o : Obj} {es : Array DictEntry} {ep : Nat}, s₁.heap.get? b = some o → o.data = .dict es ep → H b = none := by
      intro b o es ep hb hd
      cases hu : H b with
      | none => rfl
      | some u =>
        obtain ⟨rfl, _, _⟩ := only b u hu
        rw [here] at hb
        cases hb
        cases (show Data.seq vs.toArray _ = Data.dict es ep from hd)
    have names : ∀ {b : Addr} {m : Str → Option Value}, s₁.heap.Ns b m → (hidT s₁.heap H).Ns b m := by
      rintro b m ⟨o, es, ep, h1, h2, h3⟩
      exact ⟨o, es, ep, hidT_get h1 (dicts h1 h2), h2, h3⟩
    have kin' : K.In (hidT s₁.heap H) := by
      intro b o hb
      refine hidT_get (kin b o hb) ?_
      cases hu : H b with
      | none => rfl
      | some u =>
        obtain ⟨rfl, hk, _⟩ := only b u hu
        rw [hk] at hb
        cases hb
    obtain ⟨mc, n1, n2⟩ := nol
    have env : Env0 P w K mg (hidT s₁.heap H) callerA [] s₁ H :=
      ⟨rfl, ⟨kin', names glob, ⟨mb, names blt, hbb⟩, ⟨mc, names n1, n2⟩⟩, fun b o => of_hidT, Nat.le_of_eq (hidT_size _ _), trivial, fun b hb => absurd (show b ∈ ([] : List Addr) from hb) (by simp), ok, .of_eq gens⟩
    have want : spV K 1 fn [V.ref a] H (fun v H' => v = .bl true ∧ ∀ b u, H b = some u → H' b = some u) (fun _ _ _ => False) := by
      refine ⟨rfl, H, [.lst (ns.map D.int)], _, holds, Le.refl _, .cons (.lst sq (ats_ints ns)) .nil, ?_⟩
      intro v M' H' g h
      have h : At K M' v (.bl true) := h
      refine ⟨by cases h; rfl, fun b u hu => (g.keep b u hu (fun z => z)).1⟩
    apply codeAny_mono ((F _ kin' (names glob)).run callerA [] s₁ H ⟨[.ref a], []⟩ [.ref a] [V.ref a] _ _ room rfl env (bind s₁ (.ref a)) (.cons rfl .nil) want)
    rintro (z | (_ | _ | _ | u)) s' q
    · exact q.elim
    · exact q.elim
    · exact q.elim
    · exact q.elim
    · obtain ⟨v, H', os, bare, un, ok', rv, rfl, stay⟩ := q
      obtain rfl : u = Value.bool true := rv
      refine ⟨rfl, OldK.of_keep ?_, os, bare⟩
      intro b o hb
      cases hu : H b with
      | none => exact un.keep b o hb hu (by intro z; exact absurd (show b ∈ ([] : List Addr) from z) (by simp)) (by simp)
      | some u =>
        obtain ⟨rfl, _, rfl⟩ := only b u hu
        rw [here] at hb
        cases hb
        exact (ok' b _ (stay b _ hu)).1
  cases hk : K.lookup a with
  | some o =>
    have same := kin a o hk
    rw [here] at same
    cases same
    exact go (fun _ => none) (fun b u z => nomatch z) (.inr ⟨_, vs.toArray, _, hk, rfl, rfl, rfl, long, by simpa using rel⟩)
  | none =>
    refine go (fun b => if b = a then some (.frz { cls := .type "list", data := .seq vs.toArray } (.lst (ns.map V.int))) else none) ?_ (.inl (.inr ⟨_, if_pos rfl⟩))
    intro b u z
    by_cases hb : b = a
    · have z' := (if_pos hb).symm.trans z
      cases z'
      exact ⟨hb, hk, rfl⟩
    · have z' := (if_neg hb).symm.trans z
      cases z'
theorem walk_G {l : PySem.W.OpenLaw} {n k : Nat} {q : Program} {loose : List Str} {XP : (Str → Option Value) → Heap → Prop} {YP : World → Heap → Prop} {d : DefRec} {K : Params → PySem.W.Frag} {x : Str} {fn : FnV}
    (hn : l.most = some n) (hn2 : n ≤ sizeLine) (hdf : d.params.defaults = []) (room : Room k callerA) (hY : ∀ (w : World) (h : Heap), YP w h → (K w.params).In h)
    (F : ∀ (w : World) (mg : Str → Option Value) (fa : Addr) (h : Heap), (K w.params).In h → h.Ns mainGlobals mg → mg d.name = some (.ref fa) →
      ∃ fd : FuncData, (∀ (s : Shared) (u : Value), BindsTo s fd ⟨[u], []⟩ [(x, u)]) ∧ ∀ base : Heap, (K w.params).In base → base.Ns mainGlobals mg → FnG l.prog w (K w.params) mg base CX0 k fa fd [x] (spV (K w.params) 1 fn))
    (holds : ∀ ns : List Int, ns.length ≤ n → fn [.lst (ns.map D.int)] = some (.val (.bl true))) : PySem.W.WalkO q loose XP YP l.row.toRowW d [] (fun f vs => PySem.call f vs) := by
  apply Att.attach_call hn hdf
  intro w s₀ s₁ mg mb fa o pm cd doc a vs ns G Y ho hd hcd hmg hobj hints hlen hg
  obtain ⟨fd, hb, hF⟩ := F w mg fa _ (hY w _ Y) G.T.g hmg
  exact run_law (hY w _ Y) G.T.g G.T.b G.T.builtins G.T.nolimit hg hobj hints (Nat.le_trans hlen hn2) room hF hb (holds ns hlen)
end Dm
set_option Elab.async false
set_option linter.all false
set_option maxRecDepth 100000
set_option maxHeartbeats 4000000
namespace Dm
open PySem PySem.Spec L2
set_option autoImplicit false

theorem kind_of {c : Cd} {X : Cx} (g : Fits c X) (x : Str) : X.env.kindOf x = c.sc.names.lookup x := by
  unfold Env.kindOf
  rw [g.sc]
theorem block_of {c : Cd} {X : Cx} (g : Fits c X) (h : c.sc.kind = .function) : X.env.blockKind = .function := by
  unfold Env.blockKind
  rw [g.sc, h]
  rfl
theorem sw_cell {c : Cd} {X : Cx} (g : Fits c X) {elt : Expr} {gens : List Comprehension} {scope : Scope} {pos tpos : Pos} {t : Str} {line : Nat} (h : c.sc.names.lookup t = some .cell) :
    swapsWith (.ListComp elt gens scope pos) (some (.Name t tpos)) line X.env = pure false := by
  unfold swapsWith
  have k := (kind_of g t).trans h
  simp only [k, show (some NameKind.cell == some NameKind.local) = false from by decide, Bool.and_false, Bool.false_and]
section
variable {c : Cd} {e elt tg iter : Expr} {ifs : List Expr} {scope : Scope} {pos : Pos} {t : MT} {m : ME} {g : MG} {mi : MI} {ts : List Nat}
theorem se_globI {x : Str} {i : Int} (hk : ∀ X, Fits c X → Gl X x) (hm : ∃ tk, c.mg x = some (.int i tk)) (hd : (x == ("__debug__" : Str)) = false := by decide) : SE c (.Name x pos) (mC (.int i)) := by
  obtain ⟨tk, hm⟩ := hm
  exact ⟨tC (.int i), fun X f => pe_glob (hk X f) (by rw [f.mg]; exact hm) ⟨tk, rfl⟩ hd, sound_c fun _ => .int i⟩
/-- y = [..], y a name that an inner block reads -/
theorem ss_setC (i : Nat) {y : Str} {py spos : Pos} {gens : List Comprehension} (h : SE c (.ListComp elt gens scope pos) m) (hN : ndB c.N = true := by rfl) (hi : c.N[i]? = some y := by rfl) (hx : c.sc.names.lookup y = some .cell := by rfl) (ht : c.top = true := by rfl) :
    SS c (.Assign [.Name y py] (.ListComp elt gens scope pos) spos) (mSet i m) := by
  obtain ⟨ta, pa, sa⟩ := h
  refine ⟨tAsg ta (gName i), fun X g => ps_set (i := i) (by rw [g.N]; exact ndOf hN) (by rw [g.N]; exact hi) (by rw [g.sc]; exact .inr hx) (pa X g) (sw_cell g hx) (.inl (g.fn ht y)), fun σ s M H o e rel E h => ?_⟩
  obtain ⟨⟨r, s1⟩, e1, e⟩ := bd e
  obtain ⟨s2, e2, e⟩ := bd e
  cases e
  refine sa σ s M H r _ e1 rel _ fun v M1 H1 k => ?_
  obtain ⟨M2, k2⟩ := put_ok k e2
  exact h _ M2 H1 k2
theorem ss_setL (i : Nat) {y : Str} {py spos : Pos} (own : List (Str × Nat)) (hi : SI c tg iter mi) (hg : SG (c.blk scope) tg ts g) (ht : STs (c.blk scope) ifs t) (he : SE (c.blk scope) elt m) (hy : c.N[i]? = some y := by rfl) (hyl : c.sc.names.lookup y = some .local := by rfl)
    (hkind : c.sc.kind = .function := by rfl) (hline : (py.line == pos.line) = true := by rfl) (hno : (scope.names.any fun (n, k) => n == y && (k == .local || k == .cell)) = false := by decide +kernel) (hpl : (pos.line == spos.line) = true := by rfl)
    (hts : ∀ i ∈ ts, i ∈ own.map (·.2) := by decide) (hN : ndB c.N = true := by rfl) (ok : blkC c.N c.sc scope own = true := by rfl) (hs : ∀ env x, foldedSetIterable iter env x = pure x := by intro _ _; rfl) :
    SS c (.Assign [.Name y py] (.ListComp elt [⟨tg, iter, ifs, 0⟩] scope pos) spos) (mSet i (mLc (own.map (·.2)) mi g t m)) :=
  ss_setLc i own hi hg ht he hy hyl (fun X g => sw_true (by rw [g.sc]; exact hkind) (by rw [g.sc]; exact hyl) hline hno) hts hN ok hs
theorem ss_par2 (i j : Nat) {x y : Str} {a b : Expr} {px py pt : Pos} {kt k2 : _} {pt2 : Pos} {ms : MA} (ha : SA c [a, b] ms) (hN : ndB c.N = true := by rfl) (hi : c.N[i]? = some x := by rfl) (hj : c.N[j]? = some y := by rfl) (hij : i ≠ j := by decide)
    (hx : c.sc.names.lookup x = some .local := by rfl) (hy : c.sc.names.lookup y = some .local := by rfl) (hw : swappedStores [.Tuple [.Name x px, .Name y py] kt pt] (.Tuple [a, b] k2 pt2) (envAt c.sc) = pure (some [x, y]) := by rfl) :
    SS c (.Assign [.Tuple [.Name x px, .Name y py] kt pt] (.Tuple [a, b] k2 pt2) pos) (mPar i j ms) :=
  ss_par i j ha fun X g ta pa => ps_par g.calm (by rw [g.N]; exact ndOf hN) (by rw [g.N]; exact hi) (by rw [g.N]; exact hj) hij (by rw [g.sc]; exact hx) (by rw [g.sc]; exact hy) pa ((sw_scope (b := envAt c.sc) g.sc).trans hw)
/-- three names, each value data that stays -/
def mPar3 (i j l : Nat) (ms : MA) : MS := fun s => (ms s).bind fun p => match p.1 with
  | [.val d, .val e, .val f] => (put i (.val d) p.2).bind fun s2 => (put j (.val e) s2).bind fun s3 => (put l (.val f) s3).bind fun s4 => some (.nx s4)
  | _ => none
theorem ss_par3 (i j l : Nat) {x y z : Str} {a b d : Expr} {px py pz pt : Pos} {kt k2 : _} {pt2 : Pos} {ms : MA} (ha : SA c [a, b, d] ms) (hN : ndB c.N = true := by rfl) (hi : c.N[i]? = some x := by rfl) (hj : c.N[j]? = some y := by rfl) (hl : c.N[l]? = some z := by rfl) (hij : i ≠ j := by decide) (hil : i ≠ l := by decide) (hjl : j ≠ l := by decide)
    (hx : c.sc.names.lookup x = some .local := by rfl) (hy : c.sc.names.lookup y = some .local := by rfl) (hz : c.sc.names.lookup z = some .local := by rfl)
    (hw : swappedStores [.Tuple [.Name x px, .Name y py, .Name z pz] kt pt] (.Tuple [a, b, d] k2 pt2) (envAt c.sc) = pure (some [x, y, z]) := by rfl) :
    SS c (.Assign [.Tuple [.Name x px, .Name y py, .Name z pz] kt pt] (.Tuple [a, b, d] k2 pt2) pos) (mPar3 i j l ms) := by
  obtain ⟨t, pa, sd⟩ := ha
  refine ⟨_, fun X g => ps_par3 g.calm (by rw [g.N]; exact ndOf hN) (by rw [g.N]; exact hi) (by rw [g.N]; exact hj) (by rw [g.N]; exact hl) hij hil hjl (by rw [g.sc]; exact hx) (by rw [g.sc]; exact hy) (by rw [g.sc]; exact hz) (pa X g) ((sw_scope (b := envAt c.sc) g.sc).trans hw), fun σ s M H o e rel E h => ?_⟩
  obtain ⟨⟨rs, s1⟩, e1, e⟩ := bd e
  refine sd σ s M H rs s1 e1 rel _ fun vs M1 H1 k => ?_
  simp only at e
  split at e
  · obtain ⟨s2, e2, e⟩ := bd e
    obtain ⟨s3, e3, e⟩ := bd e
    obtain ⟨s4, e4, e⟩ := bd e
    cases e
    obtain ⟨kg, kr, kh, kn⟩ := k
    cases kh with
    | cons h1 kh =>
      cases kh with
      | cons h2 kh =>
        cases kh with
        | cons h3 kh =>
          cases kh
          refine ⟨_, _, _, rfl, ?_⟩
          have k1 := put_ok2 (r := .val _) ⟨kg, kr⟩ h1 trivial rfl e2
          have k2 := put_ok2 (r := .val _) k1 h2 trivial rfl e3
          exact h _ M1 H1 (put_ok2 (r := .val _) k2 h3 trivial rfl e4)
  · cases e
end
end Dm
set_option Elab.async false
set_option linter.all false
set_option maxRecDepth 100000
set_option maxHeartbeats 4000000
namespace Dm
open PySem PySem.Spec L2
set_option autoImplicit false
/-! what a program over plain data reaches -/
def WE (m : ME) (s : S) (Q : R → S → Prop) : Prop := ∃ r s', m s = some (r, s') ∧ Q r s'
def WT (t : MT) (s : S) (Q : Bool → S → Prop) : Prop := ∃ b s', t s = some (b, s') ∧ Q b s'
def WS (b : MS) (s : S) (Q : O → Prop) : Prop := ∃ o, b s = some o ∧ Q o
section
variable {a b : MS} {m mo : ME} {t : MT} {g : MG} {mi : MI} {s : S} {Q : O → Prop}
theorem ws_seq (h : WS a s fun o => ∃ s1, o = .nx s1 ∧ WS b s1 Q) : WS (mSeq a b) s Q := by
  obtain ⟨o, e, s1, rfl, o2, e2, q⟩ := h
  refine ⟨o2, ?_, q⟩
  unfold mSeq
  rw [e]
  exact e2
/-- a return behind the first -/
theorem ws_seqR (h : WS a s fun o => ∃ r s1, o = .rt r s1 ∧ Q o) : WS (mSeq a b) s Q := by
  obtain ⟨o, e, r, s1, rfl, q⟩ := h
  refine ⟨_, ?_, q⟩
  unfold mSeq
  rw [e]
  rfl
theorem ws_set {i : Nat} (h : WE m s fun r s1 => ∃ s2, put i r s1 = some s2 ∧ Q (.nx s2)) : WS (mSet i m) s Q := by
  obtain ⟨r, s1, e, s2, e2, q⟩ := h
  refine ⟨_, ?_, q⟩
  unfold mSet
  rw [e]
  show (put i r s1).bind _ = _
  rw [e2]
  rfl
theorem ws_if {c d : MS} (h : WT t s fun k s1 => if k then WS c s1 Q else WS d s1 Q) : WS (mIfS t c d) s Q := by
  obtain ⟨k, s1, e, q⟩ := h
  cases k with
  | true =>
    rw [if_pos rfl] at q
    obtain ⟨o, e2, q⟩ := q
    refine ⟨o, ?_, q⟩
    unfold mIfS
    rw [e]
    exact e2
  | false =>
    rw [if_neg Bool.false_ne_true] at q
    obtain ⟨o, e2, q⟩ := q
    refine ⟨o, ?_, q⟩
    unfold mIfS
    rw [e]
    exact e2
theorem ws_ret (h : WE m s fun r s1 => ∃ r', toRet r s1 = some r' ∧ Q (.rt r' s1)) : WS (mRet m) s Q := by
  obtain ⟨r, s1, e, r', e2, q⟩ := h
  refine ⟨_, ?_, q⟩
  unfold mRet
  rw [e]
  show (toRet r s1).bind _ = _
  rw [e2]
  rfl
theorem ws_for (h : ∃ ds s1, mi s = some (ds, s1) ∧ WS (loop g b ds) s1 Q) : WS (mFor mi g b) s Q := by
  obtain ⟨ds, s1, e, o, e2, q⟩ := h
  refine ⟨o, ?_, q⟩
  unfold mFor
  rw [e]
  exact e2
theorem WS.mono {Q' : O → Prop} (h : WS b s Q) (f : ∀ o, Q o → Q' o) : WS b s Q' := by
  obtain ⟨o, e, q⟩ := h
  exact ⟨o, e, f o q⟩
/-- a loop that runs to its end -/
theorem loop_run {α : Type} (f : α → D) (I : List α → S → Prop) : ∀ (xs done : List α) (s : S), I done s →
    (∀ (done : List α) (x : α) (s : S), I done s → x ∈ xs → ∃ s1, g (f x) s = some s1 ∧ WS b s1 fun o => ∃ s2, (o = .nx s2 ∨ o = .ct s2) ∧ I (done ++ [x]) s2) →
    ∃ s', loop g b (xs.map f) s = some (.nx s') ∧ I (done ++ xs) s'
  | [], done, s, h, _ => ⟨s, rfl, by rw [List.append_nil]; exact h⟩
  | x :: xs, done, s, h, st => by
    obtain ⟨s1, e1, o, e2, s2, ho, i2⟩ := st done x s h List.mem_cons_self
    obtain ⟨s', e3, i3⟩ := loop_run f I xs (done ++ [x]) s2 i2 fun dn y t it hy => st dn y t it (List.mem_cons_of_mem _ hy)
    refine ⟨s', ?_, by rw [List.append_assoc] at i3; exact i3⟩
    rw [List.map_cons]
    unfold loop
    rw [e1]
    show (b s1).bind _ = _
    rw [e2]
    rcases ho with rfl | rfl <;> exact e3
/-- the same, with the done part a whole prefix of the list -/
theorem loop_pre {α : Type} (f : α → D) (I : List α → S → Prop) (xs : List α) (s : S) (h : I [] s)
    (st : ∀ (done : List α) (x : α) (rest : List α) (s : S), xs = done ++ x :: rest → I done s → ∃ s1, g (f x) s = some s1 ∧ WS b s1 fun o => ∃ s2, (o = .nx s2 ∨ o = .ct s2) ∧ I (done ++ [x]) s2) :
    ∃ s', loop g b (xs.map f) s = some (.nx s') ∧ I xs s' := by
  suffices H : ∀ (ys done : List α) (s : S), xs = done ++ ys → I done s → ∃ s', loop g b (ys.map f) s = some (.nx s') ∧ I xs s' from H xs [] s rfl h
  intro ys
  induction ys with
  | nil => intro done s e i; rw [List.append_nil] at e; subst e; exact ⟨s, rfl, i⟩
  | cons y ys ih =>
    intro done s e i
    obtain ⟨s1, e1, o, e2, s2, ho, i2⟩ := st done y ys s e i
    obtain ⟨s', e3, i3⟩ := ih (done ++ [y]) s2 (by rw [e, List.append_assoc]; rfl) i2
    refine ⟨s', ?_, i3⟩
    rw [List.map_cons]
    unfold loop
    rw [e1]
    show (b s1).bind _ = _
    rw [e2]
    rcases ho with rfl | rfl <;> exact e3
/-- a comprehension: what is kept and what it is, told by the element -/
theorem lc_run {α : Type} (f : α → D) (vs : List Nat) (I : S → Prop) (p : α → Bool) (v : α → D) : ∀ (xs : List α) (s : S) (acc : List D), I s → acc.length + xs.length ≤ 100000 →
    (∀ (x : α) (s : S), I s → x ∈ xs → ∃ s1, g (f x) s = some s1 ∧ WT t s1 fun k s2 => k = p x ∧ (p x = true → WE m s2 fun r s3 => ∃ s4, frz r s3 = some (v x, s4) ∧ I (wipeS s4 vs)) ∧ (p x = false → I (wipeS s2 vs))) →
    ∃ s', lcLoop vs g t m (xs.map f) s acc = some (acc ++ (xs.filter p).map v, s') ∧ I s'
  | [], s, acc, i, _, _ => ⟨s, by simp [lcLoop], i⟩
  | x :: xs, s, acc, i, hl, st => by
    obtain ⟨s1, e1, k, s2, e2, rfl, h3, h4⟩ := st x s i List.mem_cons_self
    rw [List.length_cons] at hl
    rw [List.map_cons]
    unfold lcLoop
    rw [e1]
    show ∃ s', ((t s1).bind _ = _) ∧ _
    rw [e2]
    show ∃ s', ((if p x = true then _ else _) = _) ∧ _
    by_cases hp : p x = true
    · rw [if_pos hp]
      obtain ⟨r, s3, e3, s4, e4, i4⟩ := h3 hp
      rw [e3]
      show ∃ s', ((frz r s3).bind _ = _) ∧ _
      rw [e4]
      show ∃ s', ((if acc.length < 100000 then _ else _) = _) ∧ _
      rw [if_pos (by omega)]
      obtain ⟨s', e5, i5⟩ := lc_run f vs I p v xs _ (acc ++ [v x]) i4 (by rw [List.length_append, List.length_singleton]; omega) fun y s iy hy => st y s iy (List.mem_cons_of_mem _ hy)
      refine ⟨s', ?_, i5⟩
      rw [e5, List.filter_cons_of_pos hp, List.map_cons, List.append_assoc]
      rfl
    · have hp' : p x = false := by cases q : p x <;> simp_all
      rw [if_neg hp]
      obtain ⟨s', e5, i5⟩ := lc_run f vs I p v xs _ acc (h4 hp') (by omega) fun y s iy hy => st y s iy (List.mem_cons_of_mem _ hy)
      refine ⟨s', ?_, i5⟩
      rw [e5, List.filter_cons_of_neg hp]
/-- a comprehension whose keeping hangs on the state: each kept one is one of the given -/
theorem lc_some {α : Type} (f : α → D) (vs : List Nat) (I : S → Prop) (v : α → D → Prop) : ∀ (xs : List α) (s : S) (acc : List D), I s → acc.length + xs.length ≤ 100000 →
    (∀ (x : α) (s : S), I s → x ∈ xs → ∃ s1, g (f x) s = some s1 ∧ WT t s1 fun k s2 => (k = true → WE m s2 fun r s3 => ∃ d s4, frz r s3 = some (d, s4) ∧ v x d ∧ I (wipeS s4 vs)) ∧ (k = false → I (wipeS s2 vs))) →
    ∃ out s', lcLoop vs g t m (xs.map f) s acc = some (acc ++ out, s') ∧ I s' ∧ out.length ≤ xs.length ∧ ∀ d ∈ out, ∃ x ∈ xs, v x d
  | [], s, acc, i, _, _ => ⟨[], s, by rw [List.append_nil]; rfl, i, Nat.le_refl _, fun _ h => nomatch h⟩
  | x :: xs, s, acc, i, hl, st => by
    obtain ⟨s1, e1, k, s2, e2, h3, h4⟩ := st x s i List.mem_cons_self
    rw [List.length_cons] at hl
    rw [List.map_cons]
    unfold lcLoop
    rw [e1]
    show ∃ out s', ((t s1).bind _ = _) ∧ _
    rw [e2]
    show ∃ out s', ((if k = true then _ else _) = _) ∧ _
    cases k with
    | true =>
      rw [if_pos rfl]
      obtain ⟨r, s3, e3, d, s4, e4, hv, i4⟩ := h3 rfl
      rw [e3]
      show ∃ out s', ((frz r s3).bind _ = _) ∧ _
      rw [e4]
      show ∃ out s', ((if acc.length < 100000 then _ else _) = _) ∧ _
      rw [if_pos (by omega)]
      obtain ⟨out, s', e5, i5, l5, m5⟩ := lc_some f vs I v xs _ (acc ++ [d]) i4 (by rw [List.length_append, List.length_singleton]; omega) fun y s iy hy => st y s iy (List.mem_cons_of_mem _ hy)
      refine ⟨d :: out, s', ?_, i5, by rw [List.length_cons, List.length_cons]; omega, fun y hy => ?_⟩
      · rw [e5, List.append_assoc]; rfl
      · rcases List.mem_cons.1 hy with rfl | hy
        · exact ⟨x, List.mem_cons_self, hv⟩
        · obtain ⟨z, hz, q⟩ := m5 y hy
          exact ⟨z, List.mem_cons_of_mem _ hz, q⟩
    | false =>
      rw [if_neg Bool.false_ne_true]
      obtain ⟨out, s', e5, i5, l5, m5⟩ := lc_some f vs I v xs _ acc (h4 rfl) (by omega) fun y s iy hy => st y s iy (List.mem_cons_of_mem _ hy)
      refine ⟨out, s', e5, i5, by rw [List.length_cons]; omega, fun y hy => ?_⟩
      obtain ⟨z, hz, q⟩ := m5 y hy
      exact ⟨z, List.mem_cons_of_mem _ hz, q⟩
theorem we_lc {vs : List Nat} {P : R → S → Prop} (h : ∃ ds s1, mi s = some (ds, s1) ∧ ∃ out s2, lcLoop vs g t m ds (wipeS s1 vs) [] = some (out, s2) ∧ P (.own out) (unwipe s1 s2 vs)) : WE (mLc vs mi g t m) s P := by
  obtain ⟨ds, s1, e1, out, s2, e2, p⟩ := h
  refine ⟨_, _, ?_, p⟩
  unfold mLc
  rw [e1]
  show (lcLoop vs g t m ds (wipeS s1 vs) []).bind _ = _
  rw [e2]
  rfl
end
section
variable {a b : MS} {s s1 : S} {Q : O → Prop} {nv np : Nat} {ds xs : List D}
theorem ws_step (e : a s = some (.nx s1)) (h : WS b s1 Q) : WS (mSeq a b) s Q := ws_seq ⟨_, e, s1, rfl, h⟩
theorem fnV_ws {P : Ret → Prop} (W : WS b (initV nv ds) fun o => ∃ r s, o = .rt r s ∧ P r) (hl : ds.length = np := by rfl) : ∃ r, fnV nv np b ds = some r ∧ P r := by
  obtain ⟨o, e, r, s, rfl, p⟩ := W
  refine ⟨r, ?_, p⟩
  unfold fnV
  rw [if_pos hl, e]
  rfl
theorem fnV_nx (W : WS b (initV nv ds) fun o => ∃ s, o = .nx s) (hl : ds.length = np := by rfl) : fnV nv np b ds = some (.val .non) := by
  obtain ⟨o, e, s, rfl⟩ := W
  unfold fnV
  rw [if_pos hl, e]
  rfl
theorem fnW_ws {P : Ret → List D → Prop} (W : WS b (initW nv xs ds) fun o => ∃ r s ys, o = .rt r s ∧ port0 s = some ys ∧ P r ys) (hl : ds.length + 1 = np := by rfl) : ∃ r ys, fnW nv np b xs ds = some (r, ys) ∧ P r ys := by
  obtain ⟨o, e, r, s, ys, rfl, e2, p⟩ := W
  refine ⟨r, ys, ?_, p⟩
  unfold fnW
  rw [if_pos hl, e]
  show (port0 s).bind _ = _
  rw [e2]
  rfl
end
abbrev nI : Nat → D := fun k => .int k
theorem rgD_map (n : Nat) : rgD 0 n 1 = (List.range n).map nI := by
  unfold rgD
  refine List.map_congr_left fun i _ => ?_
  show D.int _ = D.int _
  congr 1
  omega
theorem rgD_map2 (lo : Nat) (n : Nat) : rgD lo n 1 = (List.range n).map fun i => nI (lo + i) := by
  unfold rgD
  refine List.map_congr_left fun i _ => ?_
  show D.int _ = D.int _
  congr 1
  omega
end Dm
set_option Elab.async false
set_option linter.all false
set_option maxRecDepth 100000
set_option maxHeartbeats 4000000
namespace Dm
open PySem PySem.Spec L2
set_option autoImplicit false
/-! ### data that shows and compares -/
def tinyI (i : Int) : Bool := decide (i.natAbs < 200)
mutual
def tame : D → Bool
  | .non => true
  | .bl _ => true
  | .int i => tinyI i
  | .str _ => false
  | .tup xs => tames xs
  | .lst xs => tames xs
  | .dic _ _ => false
def tames : List D → Bool
  | [] => true
  | x :: xs => tame x && tames xs
end
theorem strOk_app (x y : Str) (h : PyData.strOk x = true) (k : PyData.strOk y = true) : PyData.strOk (x ++ y) = true := by
  unfold PyData.strOk at *
  show (x.cps ++ y.cps).all _ = true
  rw [Array.all_append, h, k]
  rfl
theorem strOk_join (sep : Str) (hs : PyData.strOk sep = true) : ∀ ts : List Str, (∀ t ∈ ts, PyData.strOk t = true) → PyData.strOk (Str.join sep ts) = true
  | [], _ => (by decide +kernel : PyData.strOk Str.empty = true)
  | [x], h => h x (by simp)
  | x :: y :: r, h => by
    show PyData.strOk (x ++ sep ++ Str.join sep (y :: r)) = true
    exact strOk_app _ _ (strOk_app _ _ (h x (by simp)) hs) (strOk_join sep hs (y :: r) fun t ht => h t (List.mem_cons_of_mem _ ht))
theorem strOk_from : ∀ (ts : List Str) (k : Nat) (acc : Str), PyData.strOk acc = true → (∀ t ∈ ts, PyData.strOk t = true) → PyData.strOk (textFrom k acc ts) = true
  | [], k, acc, h, _ => h
  | t :: r, k, acc, h, ht => by
    refine strOk_from r (k + 1) _ (strOk_app _ _ (strOk_app _ _ h ?_) (ht t (by simp))) fun u hu => ht u (List.mem_cons_of_mem _ hu)
    by_cases h0 : k > 0
    · rw [if_pos h0]; decide +kernel
    · rw [if_neg h0]; decide +kernel
theorem tiny_str : ∀ k < 200, PyData.strOk (PyData.shown (.int (k : Nat))) = true ∧ PyData.strOk (PyData.shown (.int (-(k : Nat)))) = true := by decide +kernel
theorem tinyI_str {i : Int} (h : tinyI i = true) : PyData.strOk (PyData.shown (.int i)) = true := by
  unfold tinyI at h
  rw [decide_eq_true_eq] at h
  rcases Int.natAbs_eq i with e | e
  · rw [e]; exact (tiny_str _ h).1
  · rw [e]; exact (tiny_str _ h).2
structure Tm (d : D) : Prop where
  nd : noDic d = true
  sh : (toP d).showable = true
  hd : (toP d).hasDict = false
  lv : (toP d).leavesShort 13 = true
  so : PyData.strOk (toP d).shown = true
  cl : (toP d).canLay0 = true
structure Tms (ds : List D) : Prop where
  nd : noDics ds = true
  sh : PyData.showableAll (toPs ds) = true
  hd : PyData.hasDictAll (toPs ds) = false
  lv : PyData.leavesShortAll 13 (toPs ds) = true
  so : ∀ t ∈ PyData.shownAll (toPs ds), PyData.strOk t = true
  cl : PyData.canLayAll0 (toPs ds) = true
mutual
theorem tame_tm : ∀ d : D, tame d = true → Tm d
  | .non, _ => ⟨rfl, rfl, rfl, rfl, by decide +kernel, rfl⟩
  | .bl true, _ => ⟨rfl, rfl, rfl, rfl, by decide +kernel, rfl⟩
  | .bl false, _ => ⟨rfl, rfl, rfl, rfl, by decide +kernel, rfl⟩
  | .int i, h => by
    have h : tinyI i = true := by simpa only [tame] using h
    refine ⟨rfl, ?_, rfl, ?_, tinyI_str h, rfl⟩
    · unfold tinyI at h
      rw [decide_eq_true_eq] at h
      show PyData.showable (.int i) = true
      simp only [PyData.showable, decide_eq_true_eq]
      refine Nat.lt_of_le_of_lt (Nat.log2_le_self _) (by omega)
    · unfold tinyI at h
      rw [decide_eq_true_eq] at h
      show PyData.leavesShort 13 (.int i) = true
      simp only [PyData.leavesShort, decide_eq_true_eq]
      exact PyData.shown_int_le (by omega)
  | .str _, h => by simp [tame] at h
  | .dic _ _, h => by simp [tame] at h
  | .tup xs, h => by
    have t := tames_tm xs (by simpa only [tame] using h)
    exact ⟨t.nd, t.sh, t.hd, t.lv, by
      show PyData.strOk (tupleText (PyData.shownAll (toPs xs))) = true
      unfold tupleText
      refine strOk_app _ _ (strOk_app _ _ (by decide +kernel) (strOk_join _ (by decide +kernel) _ t.so)) ?_
      split <;> decide +kernel, t.cl⟩
  | .lst xs, h => by
    have t := tames_tm xs (by simpa only [tame] using h)
    exact ⟨t.nd, t.sh, t.hd, t.lv, by
      show PyData.strOk (listText (PyData.shownAll (toPs xs))) = true
      unfold listText
      exact strOk_app _ _ (strOk_from _ _ _ (by decide +kernel) t.so) (by decide +kernel), t.cl⟩
theorem tames_tm : ∀ ds : List D, tames ds = true → Tms ds
  | [], _ => ⟨rfl, rfl, rfl, rfl, (fun _ h => nomatch h), rfl⟩
  | x :: xs, h => by
    have h : (tame x && tames xs) = true := by simpa only [tames] using h
    rw [Bool.and_eq_true] at h
    have a := tame_tm x h.1
    have b := tames_tm xs h.2
    refine ⟨?_, ?_, ?_, ?_, ?_, ?_⟩
    · show (noDic x && noDics xs) = true
      rw [a.nd, b.nd]; rfl
    · show (PyData.showable (toP x) && PyData.showableAll (toPs xs)) = true
      rw [a.sh, b.sh]; rfl
    · show (PyData.hasDict (toP x) || PyData.hasDictAll (toPs xs)) = false
      rw [a.hd, b.hd]; rfl
    · show (PyData.leavesShort 13 (toP x) && PyData.leavesShortAll 13 (toPs xs)) = true
      rw [a.lv, b.lv]; rfl
    · intro t ht
      have ht : t ∈ (toP x).shown :: PyData.shownAll (toPs xs) := ht
      rcases List.mem_cons.1 ht with rfl | ht
      · exact a.so
      · exact b.so t ht
    · show (PyData.canLay0 (toP x) && PyData.canLayAll0 (toPs xs)) = true
      rw [a.cl, b.cl]; rfl
end
/-- repr of tame data, its depth and bulk told -/
theorem repr_tame {d : D} (h : tame d = true) (hp : (toP d).depth ≤ 60) (hb : (toP d).bulk ≤ 1000000) : fRepr [d] = some (.str (toP d).shown) := by
  have t := tame_tm d h
  have l := PyData.shown_le_bulk 13 (by decide) (toP d) t.lv
  unfold fRepr
  have ok : okR (toP d) = true := by
    unfold okR
    rw [t.sh, t.hd, decide_eq_true hp, decide_eq_true (by omega)]
    rfl
  simp only [t.nd, ok, Bool.and_self, if_true]
theorem shp_str {x : Str} (h : PyData.strOk x = true) : shp (.str x) = true := by
  unfold shp
  show (true && _) = true
  rw [Bool.true_and]
  show (PyData.canLay0 (.str x) && decide (PyData.depth (.str x) ≤ 64)) = true
  simp only [PyData.canLay0, h, PyData.depth]
  rfl
theorem shp_tame {d : D} (h : tame d = true) (hp : (toP d).depth ≤ 64) : shp d = true := by
  have t := tame_tm d h
  unfold shp
  rw [t.nd]
  show (true && ((toP d).canLay0 && decide ((toP d).depth ≤ 64))) = true
  rw [t.cl, decide_eq_true hp]
  rfl
/-! lists of small whole numbers -/
theorem toPs_nI (l : List Nat) : toPs (l.map nI) = l.map fun (k : Nat) => PyData.int (k : Int) := by
  induction l with
  | nil => rfl
  | cons x l ih => show PyData.int _ :: toPs _ = _; rw [ih]; rfl
theorem tames_nI {l : List Nat} (h : ∀ j ∈ l, j < 200) : tames (l.map nI) = true := by
  induction l with
  | nil => rfl
  | cons x l ih =>
    show (tinyI (x : Nat) && tames _) = true
    rw [ih fun j hj => h j (List.mem_cons_of_mem _ hj)]
    have := h x List.mem_cons_self
    unfold tinyI
    rw [decide_eq_true (by omega)]
    rfl
theorem depth_nI (l : List Nat) : PyData.depthAll (toPs (l.map nI)) = 0 := by
  induction l with
  | nil => rfl
  | cons x l ih => show max (PyData.depth (.int _)) (PyData.depthAll (toPs _)) = 0; rw [ih]; rfl
theorem bulk_nI (l : List Nat) : PyData.bulkAll (toPs (l.map nI)) = l.length := by
  induction l with
  | nil => rfl
  | cons x l ih => show PyData.bulk (.int _) + 1 + PyData.bulkAll (toPs _) = _; rw [ih, List.length_cons]; show 0 + 1 + _ = _; omega
theorem eqvAll_nI : ∀ l m : List Nat, PyData.eqvAll (toPs (l.map nI)) (toPs (m.map nI)) = decide (l = m)
  | [], [] => rfl
  | [], _ :: _ => rfl
  | _ :: _, [] => rfl
  | x :: l, y :: m => by
    show (PyData.eqv (.int x) (.int y) && PyData.eqvAll (toPs _) (toPs _)) = _
    rw [eqvAll_nI l m]
    have : PyData.eqv (.int x) (.int y) = decide (x = y) := by
      show ((x : Int) == (y : Int)) = _
      by_cases h : x = y
      · subst h; simp
      · rw [decide_eq_false h]; simp; omega
    rw [this]
    simp
/-- the text of a tuple of such -/
def RS (l : List Nat) : Str := (toP (.tup (l.map nI))).shown
theorem repr_tup {l : List Nat} (h : ∀ j ∈ l, j < 200) (hl : l.length ≤ 1000000) : fRepr [.tup (l.map nI)] = some (.str (RS l)) := by
  refine repr_tame (by show tames _ = true; exact tames_nI h) ?_ ?_
  · show PyData.depthAll (toPs (l.map nI)) + 1 ≤ 60
    rw [depth_nI]; decide
  · show PyData.bulkAll (toPs (l.map nI)) ≤ _
    rw [bulk_nI]; exact hl
theorem shp_RS {l : List Nat} (h : ∀ j ∈ l, j < 200) : shp (.str (RS l)) = true :=
  shp_str (tame_tm _ (show tame (.tup (l.map nI)) = true from tames_nI h)).so
theorem ne_RS {l : List Nat} (h : ∀ j ∈ l, j < 200) : fNe (.str (RS l)) (.str (RS l)) = some (.bl false) := by
  unfold fNe
  rw [shp_RS h]
  show some (D.bl (!(RS l == RS l))) = _
  rw [show (RS l == RS l) = true from by simp]
  rfl
theorem eq_RS {l : List Nat} (h : ∀ j ∈ l, j < 200) : fEq (.str (RS l)) (.str (RS l)) = some (.bl true) := by
  unfold fEq
  rw [shp_RS h]
  show some (D.bl (RS l == RS l)) = _
  rw [show (RS l == RS l) = true from by simp]
theorem shp_lst {l : List Nat} (h : ∀ j ∈ l, j < 200) : shp (.lst (l.map nI)) = true :=
  shp_tame (show tames _ = true from tames_nI h) (by show PyData.depthAll (toPs (l.map nI)) + 1 ≤ 64; rw [depth_nI]; decide)
theorem shp_tup {l : List Nat} (h : ∀ j ∈ l, j < 200) : shp (.tup (l.map nI)) = true :=
  shp_tame (show tames _ = true from tames_nI h) (by show PyData.depthAll (toPs (l.map nI)) + 1 ≤ 64; rw [depth_nI]; decide)
theorem shp_lst0 : shp (.lst []) = true := by decide
theorem shp_tup0 : shp (.tup []) = true := by decide
theorem shp_int (i : Int) : shp (.int i) = true := rfl
theorem fEq_int (i j : Int) : fEq (.int i) (.int j) = some (.bl (decide (i = j))) := by
  show some (D.bl (i == j)) = _
  congr 2
theorem fNe_int (i j : Int) : fNe (.int i) (.int j) = some (.bl (!decide (i = j))) := by
  show some (D.bl (!(i == j))) = _
  congr 2
theorem fNe_lst0 {l : List Nat} (h : ∀ j ∈ l, j < 200) : fNe (.lst (l.map nI)) (.lst []) = some (.bl (!decide (l = []))) := by
  unfold fNe
  rw [shp_lst h, shp_lst0]
  show some (D.bl (!PyData.eqvAll (toPs (l.map nI)) (toPs (([] : List Nat).map nI)))) = _
  rw [eqvAll_nI]
theorem fNe_tup0 {l : List Nat} (h : ∀ j ∈ l, j < 200) : fNe (.tup (l.map nI)) (.tup []) = some (.bl (!decide (l = []))) := by
  unfold fNe
  rw [shp_tup h, shp_tup0]
  show some (D.bl (!PyData.eqvAll (toPs (l.map nI)) (toPs (([] : List Nat).map nI)))) = _
  rw [eqvAll_nI]
theorem fEq_tup0 {l : List Nat} (h : ∀ j ∈ l, j < 200) : fEq (.tup (l.map nI)) (.tup []) = some (.bl (decide (l = []))) := by
  unfold fEq
  rw [shp_tup h, shp_tup0]
  show some (D.bl (PyData.eqvAll (toPs (l.map nI)) (toPs (([] : List Nat).map nI)))) = _
  rw [eqvAll_nI]
theorem inD_nI (j : Nat) (l : List Nat) : inD (nI j) (l.map nI) = decide (j ∈ l) := by
  unfold inD
  induction l with
  | nil => rfl
  | cons x l ih =>
    rw [List.map_cons, List.any_cons, ih]
    have : eqF (nI x) (nI j) = decide (x = j) := by
      show ((x : Int) == (j : Int)) = _
      by_cases h : x = j
      · subst h; simp
      · rw [decide_eq_false h]; simp; omega
    rw [this]
    by_cases h : x = j
    · subst h; simp
    · simp [h, Ne.symm h]
theorem flat_nI (l : List Nat) : (l.map nI).all flatD = true := by simp [flatD]
theorem fIn_lst (neg : Bool) (j : Nat) (l : List Nat) : fIn neg (.int j) (.lst (l.map nI)) = some (.bl (if neg then !decide (j ∈ l) else decide (j ∈ l))) := by
  unfold fIn
  show (if (flatD (nI j) && (l.map nI).all flatD) = true then _ else _) = _
  rw [flat_nI]
  show some _ = _
  rw [inD_nI]
theorem fIn_tup (neg : Bool) (j : Nat) (l : List Nat) : fIn neg (.int j) (.tup (l.map nI)) = some (.bl (if neg then !decide (j ∈ l) else decide (j ∈ l))) := fIn_lst neg j l
theorem fm_nat (a b : Nat) : ((a : Int)).fmod (b : Int) = ((a % b : Nat) : Int) := (Int.ofNat_fmod a b).symm
/-! a slot that may be written -/
def Fr : Option Cell → Bool
  | some (.own true _) => false
  | _ => true
theorem put_valF {s : S} {i : Nat} {c : Option Cell} {d : D} (h : s[i]? = some c) (hc : Fr c = true) : put i (.val d) s = some (s.set i (some (.val d))) := by
  unfold put
  rw [h]
  split
  · rename_i q; cases q
  · rename_i q; cases q; cases hc
  · rfl
theorem put_ownF {s : S} {i : Nat} {c : Option Cell} {xs : List D} (h : s[i]? = some c) (hc : Fr c = true) : put i (.own xs) s = some (s.set i (some (.own false xs))) := by
  unfold put
  rw [h]
  split
  · rename_i q; cases q
  · rename_i q; cases q; cases hc
  · rfl
end Dm
set_option Elab.async false
set_option linter.all false
set_option maxRecDepth 100000
set_option maxHeartbeats 4000000
namespace Dm
open PySem PySem.Spec L2
set_option autoImplicit false
/-! ### lists of whole numbers, as functions of the place -/
def fl (m : Nat) (x : Nat → Int) : List D := (List.range m).map fun p => D.int (x p)
theorem fl_len (m : Nat) (x : Nat → Int) : (fl m x).length = m := by unfold fl; rw [List.length_map, List.length_range]
theorem fl_get {m p : Nat} (x : Nat → Int) (h : p < m) : (fl m x)[p]? = some (.int (x p)) := by
  unfold fl
  rw [List.getElem?_map, List.getElem?_range h]; rfl
theorem fl_congr {m : Nat} {x y : Nat → Int} (h : ∀ p < m, x p = y p) : fl m x = fl m y :=
  List.map_congr_left fun p hp => by rw [h p (List.mem_range.1 hp)]
theorem fl_set {m p : Nat} (x : Nat → Int) (v : Int) (h : p < m) : (fl m x).set p (.int v) = fl m fun q => if q = p then v else x q := by
  refine List.ext_getElem? fun q => ?_
  rw [List.getElem?_set]
  by_cases hq : q < m
  · rw [fl_get x hq, fl_len]
    by_cases e : p = q
    · subst e; rw [fl_get _ h, if_pos rfl, if_pos h, if_pos rfl]
    · rw [fl_get _ hq, if_neg e, if_neg (Ne.symm e)]
  · have e1 : (fl m fun q => if q = p then v else x q)[q]? = none := List.getElem?_eq_none (by rw [fl_len]; omega)
    have e2 : (fl m x)[q]? = none := List.getElem?_eq_none (by rw [fl_len]; omega)
    rw [e1, e2, if_neg (by omega)]
theorem fl_drop (m : Nat) (x : Nat → Int) : (fl (m + 1) x).dropLast = fl m x := by
  unfold fl
  rw [List.range_succ, List.map_append, List.map_singleton, List.dropLast_concat]
theorem fl_take {m k : Nat} (x : Nat → Int) (h : k ≤ m) : (fl m x).take k = fl k x := by
  unfold fl
  rw [← List.map_take, List.take_range, Nat.min_eq_left h]
theorem fl_of (l : List Int) : l.map D.int = fl l.length fun p => l.getD p 0 := by
  refine List.ext_getElem? fun q => ?_
  by_cases hq : q < l.length
  · rw [fl_get _ hq]; simp [hq, List.getD]
  · rw [List.getElem?_eq_none (by simpa using hq), List.getElem?_eq_none (by rw [fl_len]; omega)]
theorem ixN_nat {n j : Nat} (h : j < n) : ixN n (j : Int) = some j := by
  unfold ixN
  rw [if_pos (by omega), if_pos (by omega)]
  rfl
theorem ixN_of {n j : Nat} {i : Int} (e : i = j) (h : j < n) : ixN n i = some j := by subst e; exact ixN_nat h
theorem atI_of {α : Type} {xs : List α} {j : Nat} {i : Int} {z : α} (e : i = j) (h : xs[j]? = some z) : atI xs i = some z := by
  have hl : j < xs.length := by
    rcases Nat.lt_or_ge j xs.length with h1 | h1
    · exact h1
    · rw [List.getElem?_eq_none h1] at h; cases h
  unfold atI
  rw [ixN_of e hl]
  exact h
theorem atI_fl {m j : Nat} {i : Int} (x : Nat → Int) (e : i = j) (h : j < m) : atI (fl m x) i = some (.int (x j)) := atI_of e (fl_get x h)
theorem ixN_fl {m j : Nat} {i : Int} (x : Nat → Int) (e : i = j) (h : j < m) : ixN (fl m x).length i = some j := ixN_of e (by rw [fl_len]; exact h)
theorem small_nat {n : Nat} (h : n ≤ 1000000000) : small (n : Int) = true := by
  unfold small
  rw [decide_eq_true (by omega), decide_eq_true (by omega)]
  rfl
theorem small_int {i : Int} (h : -1000000000 ≤ i) (h2 : i ≤ 1000000000) : small i = true := by
  unfold small
  rw [decide_eq_true h, decide_eq_true h2]
  rfl
theorem rgD_down (lo : Nat) (n : Nat) (h : n ≤ lo + 1) : rgD lo n (-1) = (List.range n).map fun i => nI (lo - i) := by
  unfold rgD
  refine List.map_congr_left fun i hi => ?_
  have := List.mem_range.1 hi
  show D.int _ = D.int _
  congr 1
  omega
section
variable {b : MS} {g : MG} {s : S}
theorem loop_rng {f : Nat → D} (I : Nat → S → Prop) (K : Nat) (h : I 0 s)
    (st : ∀ i s, i < K → I i s → ∃ s1, g (f i) s = some s1 ∧ WS b s1 fun o => ∃ s2, (o = .nx s2 ∨ o = .ct s2) ∧ I (i + 1) s2) :
    ∃ s', loop g b ((List.range K).map f) s = some (.nx s') ∧ I K s' := by
  obtain ⟨s', e, i⟩ := loop_pre f (fun dn s => I dn.length s) (List.range K) s h fun dn x rest s e i => by
    have hx : (List.range K)[dn.length]? = some x := by rw [e]; simp
    have hl : dn.length < K := by
      rcases Nat.lt_or_ge dn.length K with h1 | h1
      · exact h1
      · rw [List.getElem?_eq_none (by simpa using h1)] at hx; cases hx
    rw [List.getElem?_range hl] at hx
    cases hx
    obtain ⟨s1, a, o, c, s2, ho, i2⟩ := st _ s hl i
    exact ⟨s1, a, o, c, s2, ho, by rw [List.length_append]; exact i2⟩
  exact ⟨s', e, by simpa using i⟩
end
theorem ws_ifT {t : MT} {c d : MS} {s s1 : S} {Q : O → Prop} (e : t s = some (true, s1)) (h : WS c s1 Q) : WS (mIfS t c d) s Q := ws_if ⟨true, s1, e, h⟩
theorem ws_ifF {t : MT} {c d : MS} {s s1 : S} {Q : O → Prop} (e : t s = some (false, s1)) (h : WS d s1 Q) : WS (mIfS t c d) s Q := ws_if ⟨false, s1, e, h⟩
theorem ws_skip {s : S} {Q : O → Prop} (q : Q (.nx s)) : WS mSkip s Q := ⟨_, rfl, q⟩
theorem ws_nx {a : MS} {s s1 : S} {Q : O → Prop} (e : a s = some (.nx s1)) (q : Q (.nx s1)) : WS a s Q := ⟨_, e, q⟩
theorem ws_rt {a : MS} {s s1 : S} {r : Ret} {Q : O → Prop} (e : a s = some (.rt r s1)) (q : Q (.rt r s1)) : WS a s Q := ⟨_, e, q⟩
theorem ws_rng {b : MS} {g : MG} {s : S} {Q : O → Prop} {f : Nat → D} (I : Nat → S → Prop) (K : Nat) (h : I 0 s)
    (st : ∀ i s, i < K → I i s → ∃ s1, g (f i) s = some s1 ∧ WS b s1 fun o => ∃ s2, (o = .nx s2 ∨ o = .ct s2) ∧ I (i + 1) s2) (fin : ∀ s', I K s' → Q (.nx s')) : WS (loop g b ((List.range K).map f)) s Q := by
  obtain ⟨s', e, i⟩ := loop_rng I K h st
  exact ⟨_, e, fin s' i⟩
theorem ws_list {b : MS} {g : MG} {s : S} {Q : O → Prop} {α : Type} (f : α → D) (I : List α → S → Prop) (xs : List α) (h : I [] s)
    (st : ∀ (done : List α) (x : α) (rest : List α) (s : S), xs = done ++ x :: rest → I done s → ∃ s1, g (f x) s = some s1 ∧ WS b s1 fun o => ∃ s2, (o = .nx s2 ∨ o = .ct s2) ∧ I (done ++ [x]) s2) (fin : ∀ s', I xs s' → Q (.nx s')) : WS (loop g b (xs.map f)) s Q := by
  obtain ⟨s', e, i⟩ := loop_pre f I xs s h st
  exact ⟨_, e, fin s' i⟩
theorem rng1_of {ms : MA} {s s1 : S} {rs : List R} {i : Int} (k : Nat) (h : ms s = some (rs, s1)) (hp : peeks rs s1 = some [.int i]) (hi : i = k) (hk : k ≤ 1000000000) : mRng fRg1 ms s = some ((List.range k).map nI, s1) := by
  subst hi
  have hs := small_nat hk
  unfold mRng
  rw [h]
  show (peeks rs s1).bind _ = _
  rw [hp]
  show (fRg1 [.int k]).bind _ = _
  have : fRg1 [.int k] = some (0, k, 1) := by
    unfold fRg1
    show (if small k = true then _ else _) = _
    rw [if_pos hs]
    rfl
  rw [this]
  show some (rgD 0 k 1, s1) = _
  rw [rgD_map]
theorem rng2_of {ms : MA} {s s1 : S} {rs : List R} {i j : Int} (a b : Nat) (h : ms s = some (rs, s1)) (hp : peeks rs s1 = some [.int i, .int j]) (hi : i = a) (hj : j = b) (ha : a ≤ 1000000000) (hb : b ≤ 1000000000) : mRng fRg2 ms s = some ((List.range (b - a)).map fun i => nI (a + i), s1) := by
  subst hi
  subst hj
  have hs := small_nat ha
  have hs2 := small_nat hb
  unfold mRng
  rw [h]
  show (peeks rs s1).bind _ = _
  rw [hp]
  show (fRg2 [.int a, .int b]).bind _ = _
  have : fRg2 [.int a, .int b] = some ((a : Int), b - a, 1) := by
    unfold fRg2
    show (if (small a && small b) = true then _ else _) = _
    rw [hs, hs2]
    show some ((a : Int), ((b : Int) - a).toNat, (1 : Int)) = _
    rw [show ((b : Int) - a).toNat = b - a from by omega]
  rw [this]
  show some (rgD a (b - a) 1, s1) = _
  rw [rgD_map2]
theorem mBin_of {f : D → D → Option D} {ma mb : ME} {s : S} {d e z : D} (ha : ma s = some (.val d, s)) (hb : mb s = some (.val e, s)) (hf : f d e = some z) : mBin f ma mb s = some (.val z, s) := by
  unfold mBin
  rw [ha]
  show (mb s).bind _ = _
  rw [hb]
  show (f d e).bind _ = _
  rw [hf]
  rfl
theorem mBin_of2 {f : D → D → Option D} {ma mb : ME} {s : S} {ra rb : R} {d e z : D} (ha : ma s = some (ra, s)) (hb : mb s = some (rb, s)) (pa : peek ra s = some d) (pb : peek rb s = some e) (hf : f d e = some z) : mBin f ma mb s = some (.val z, s) := by
  unfold mBin
  rw [ha]
  show (mb s).bind _ = _
  rw [hb]
  show (peek ra s).bind _ = _
  rw [pa]
  show (peek rb s).bind _ = _
  rw [pb]
  show (f d e).bind _ = _
  rw [hf]
  rfl
theorem mTest_of {m : ME} {s : S} {b : Bool} (h : m s = some (.val (.bl b), s)) : mTest m s = some (b, s) := by
  unfold mTest
  rw [h]
  rfl
theorem set_of {m : ME} {s s1 s2 : S} {r : R} {i : Nat} (h : m s = some (r, s1)) (h2 : put i r s1 = some s2) : mSet i m s = some (.nx s2) := by
  unfold mSet
  rw [h]
  show (put i r s1).bind _ = _
  rw [h2]
  rfl
theorem callW_of {f : FnW} {mo : ME} {ms : MA} {s s1 : S} {k : Nat} {p : Bool} {xs ys ds : List D} {rs : List R} {d : D} {s2 : S} (ho : mo s = some (.slot k, s)) (hm : ms s = some (rs, s1)) (hv : vals rs = some ds) (hk : s1[k]? = some (some (.own p xs))) (hf : f xs ds = some (.val d, ys)) (h2 : s1.set k (some (.own p ys)) = s2) : mCallW f mo ms s = some (.val d, s2) := by
  have ho' : ownAt (.slot k) s1 = some (k, p, xs) := by unfold ownAt; simp only; rw [hk]
  subst h2
  unfold mCallW
  rw [ho]
  show (ms s).bind _ = _
  rw [hm]
  show (vals rs).bind _ = _
  rw [hv]
  show (ownAt (.slot k) s1).bind _ = _
  rw [ho']
  show (f xs ds).bind _ = _
  rw [hf]
  rfl
theorem cons_of {m : ME} {ms : MA} {s s1 s2 : S} {r : R} {rs : List R} (h : m s = some (r, s1)) (h2 : ms s1 = some (rs, s2)) : mCons m ms s = some (r :: rs, s2) := by
  unfold mCons
  rw [h]
  show (ms s1).bind _ = _
  rw [h2]
  rfl
theorem frz_of {m : ME} {s s1 : S} {xs : List D} (h : m s = some (.own xs, s1)) : mFrz m s = some (.val (.lst xs), s1) := by
  unfold mFrz
  rw [h]
  rfl
theorem frzV_of {m : ME} {s s1 : S} {d : D} (h : m s = some (.val d, s1)) : mFrz m s = some (.val d, s1) := by
  unfold mFrz
  rw [h]
  rfl
theorem lst_of {ms : MA} {s s1 : S} {rs : List R} {ds : List D} (h : ms s = some (rs, s1)) (hv : vals rs = some ds) (hl : ds.length ≤ 100000) : mLst ms s = some (.own ds, s1) := by
  unfold mLst
  rw [h]
  show (vals rs).bind _ = _
  rw [hv]
  show (if ds.length ≤ 100000 then _ else _) = _
  rw [if_pos hl]
theorem tup_of {ms : MA} {s s1 : S} {rs : List R} {ds : List D} (h : ms s = some (rs, s1)) (hv : vals rs = some ds) (hl : ds.length ≤ 100000) : mTup ms s = some (.val (.tup ds), s1) := by
  unfold mTup
  rw [h]
  show (vals rs).bind _ = _
  rw [hv]
  show (if ds.length ≤ 100000 then _ else _) = _
  rw [if_pos hl]
theorem tupOf_of {m : ME} {s s1 : S} {xs : List D} (h : m s = some (.own xs, s1)) : mTupOf (mCons m mNil) s = some (.val (.tup xs), s1) := by
  unfold mTupOf
  rw [cons_of h rfl]
  rfl
theorem callV_of {f : FnV} {ms : MA} {s s1 : S} {rs : List R} {ds : List D} {r : Ret} (h : ms s = some (rs, s1)) (hv : vals rs = some ds) (hf : f ds = some r) : mCallV f ms s = some (rOf r, s1) := by
  unfold mCallV
  rw [h]
  show (vals rs).bind _ = _
  rw [hv]
  show (f ds).bind _ = _
  rw [hf]
  rfl
theorem ifT_of {t : MT} {a b : ME} {s s1 : S} (h : t s = some (true, s1)) : mIf t a b s = a s1 := by
  unfold mIf
  rw [h]
  rfl
theorem ifF_of {t : MT} {a b : ME} {s s1 : S} (h : t s = some (false, s1)) : mIf t a b s = b s1 := by
  unfold mIf
  rw [h]
  rfl
theorem repr_of {m : ME} {s s1 : S} {r : R} {d z : D} (h : m s = some (r, s1)) (hp : peek r s1 = some d) (hf : fRepr [d] = some z) : mCS fRepr (mCons m mNil) s = some (.val z, s1) := by
  unfold mCS
  rw [cons_of h rfl]
  show ((peek r s1).bind _ |>.bind _) = _
  rw [hp]
  show (fRepr [d]).bind _ = _
  rw [hf]
  rfl
theorem mInt_of {m : ME} {s : S} {i : Int} (h : m s = some (.val (.int i), s)) : mCS (fI1 fun i => i) (mCons m mNil) s = some (.val (.int i), s) := by
  unfold mCS mCons
  rw [h]
  rfl
theorem cmul_nat {a : Nat} (h : a < 1000000) (j : Int) : CMul (a : Int) j := by
  unfold CMul
  left
  constructor <;> omega
theorem fMul_of {i j : Int} (h : CMul i j) : fMul (.int i) (.int j) = some (.int (i * j)) := by
  simp only [fMul, onI, if_pos h]
theorem fMul_nat {a b : Nat} (h : a < 1000000) : fMul (.int a) (.int b) = some (.int ((a * b : Nat) : Int)) := by
  rw [fMul_of (cmul_nat h _), Int.natCast_mul]
theorem fMod_nat {a n : Nat} (h : n ≠ 0) : fMod (.int a) (.int n) = some (.int ((a % n : Nat) : Int)) := by
  show (if (n : Int) ≠ 0 then some (D.int ((a : Int).fmod n)) else none) = _
  rw [if_pos (by omega), fm_nat]
theorem mVar_val {s : S} {i : Nat} {d : D} (h : s[i]? = some (some (.val d))) : mVar i s = some (.val d, s) := by
  unfold mVar
  rw [h]
theorem augS_of {f : Int → Int → Int} {mo mi m : ME} {s : S} {k j : Nat} {p : Bool} {xs : List D} {i a b : Int} (ho : mo s = some (.slot k, s)) (hi : mi s = some (.val (.int i), s)) (hs : s[k]? = some (some (.own p xs))) (ha : atI xs i = some (.int a))
    (hm : m s = some (.val (.int b), s)) (hj : ixN xs.length i = some j) : mAugS f mo mi m s = some (.nx (s.set k (some (.own p (xs.set j (.int (f a b))))))) := by
  have ho' : ownAt (.slot k) s = some (k, p, xs) := by unfold ownAt; simp only; rw [hs]
  unfold mAugS
  rw [ho]
  show (mi s).bind _ = _
  rw [hi]
  show (ownAt (.slot k) s).bind _ = _
  rw [ho']
  show (atI xs i).bind _ = _
  rw [ha]
  show (m s).bind _ = _
  rw [hm]
  show (ownAt (.slot k) s).bind _ = _
  rw [ho']
  show (ixN xs.length i).bind _ = _
  rw [hj]
  rfl
/-- a comprehension that leaves all as it was -/
theorem mlc_pure {α : Type} {vs : List Nat} {mi : MI} {g : MG} {t : MT} {m : ME} (f : α → D) (p : α → Bool) (v : α → D) (xs : List α) {s s1 s2 : S} (hm : mi s = some (xs.map f, s1)) (hl : xs.length ≤ 100000)
    (st : ∀ x ∈ xs, ∃ s3, g (f x) (wipeS s1 vs) = some s3 ∧ t s3 = some (p x, s3) ∧ (p x = true → m s3 = some (.val (v x), s3)) ∧ wipeS s3 vs = wipeS s1 vs) (hu : unwipe s1 (wipeS s1 vs) vs = s2) :
    mLc vs mi g t m s = some (.own ((xs.filter p).map v), s2) := by
  obtain ⟨s', e, rfl⟩ := lc_run (g := g) (t := t) (m := m) f vs (fun s => s = wipeS s1 vs) p v xs (wipeS s1 vs) [] rfl (by rw [List.length_nil]; omega) (by
    rintro x s rfl hx
    obtain ⟨s3, e1, e2, e3, e4⟩ := st x hx
    exact ⟨s3, e1, p x, s3, e2, rfl, fun h => ⟨_, s3, e3 h, s3, rfl, e4⟩, fun h => e4⟩)
  unfold mLc
  rw [hm]
  show (lcLoop vs g t m (xs.map f) (wipeS s1 vs) []).bind _ = _
  rw [e, List.nil_append]
  show some (_, unwipe s1 (wipeS s1 vs) vs) = _
  rw [hu]
theorem filter_all {α : Type} (xs : List α) : xs.filter (fun _ => true) = xs := List.filter_eq_self.2 fun _ _ => rfl
/-- a while loop that runs down a number -/
theorem whil_run {t : MT} {b : MS} (I : Nat → S → Prop) (J : S → Prop) : ∀ (k n : Nat) (s : S), k < n → I k s →
    (∀ k s, I (k + 1) s → WT t s fun c s1 => c = true ∧ WS b s1 fun o => ∃ s2, (o = .nx s2 ∨ o = .ct s2) ∧ I k s2) →
    (∀ s, I 0 s → WT t s fun c s1 => c = false ∧ J s1) → ∃ s', whil t b n s = some (.nx s') ∧ J s'
  | _, 0, _, h, _, _, _ => absurd h (Nat.not_lt_zero _)
  | 0, n + 1, s, _, i, _, f => by
    obtain ⟨c, s1, e, rfl, j⟩ := f s i
    refine ⟨s1, ?_, j⟩
    unfold whil
    rw [e]
    rfl
  | k + 1, n + 1, s, h, i, st, f => by
    obtain ⟨c, s1, e, rfl, o, e2, s2, ho, i2⟩ := st k s i
    obtain ⟨s', e3, j⟩ := whil_run I J k n s2 (by omega) i2 st f
    refine ⟨s', ?_, j⟩
    unfold whil
    rw [e]
    show (b s1).bind _ = _
    rw [e2]
    rcases ho with rfl | rfl <;> exact e3
end Dm
set_option Elab.async false
set_option linter.all false
set_option maxRecDepth 100000
set_option maxHeartbeats 4000000
namespace Dm
open PySem PySem.Spec L2
set_option autoImplicit false
/-! ### comprehensions of two clauses -/
/-- out of the block again: the new list, the slots as before -/
theorem lc_back {K : PySem.W.Frag} {σ : L2.St} {s s0 s2 : S} {M H M0 H0 M2 H2 : Hp} {vs : List Nat} {Da : Addr} {ws : List V} {acc : List D} (k0 : OkT K σ s M H s0 M0 H0) (hD : H0 Da = none)
    (k2 : OkS K (wipe σ vs) (wipeS s0 vs) M0 H0 (wipe σ vs) s2 M2 H2) (hD2 : H2 Da = some (.lst ws)) (hM2 : M2 Da = none) (nD2 : ¬ Owned (wipe σ vs) s2 Da) (hac : Ats K M2 ws acc) : Ok K σ s M H (.own acc) (unwipe s0 s2 vs) (.ref Da) M2 H2 := by
    have ownW := (rel_wipe vs k0.rel).2
    -- back in the def
    have hlen : s0.length = s2.length := by rw [k0.rel.len, ← wipe_length σ vs, k2.rel.len]
    have keepW : ∀ a o, H0 a = some o → ¬ Owned σ s0 a → H2 a = some o ∧ (M0 a = none → M2 a = none) := fun a o ha hna => k2.go.keep a o ha fun z => hna (ownW a z)
    -- an address owned at a slot that was forgotten
    have hid : ∀ (j : Nat) (p : Bool) (ys : List D) (l : Addr), j ∈ vs → s0[j]? = some (some (Cell.own p ys)) → σ[j]? = some (some (V.ref l)) → ¬ Owned (wipe σ vs) (wipeS s0 vs) l := fun j p ys l hv h1 h2 ⟨j2, p2, zs, z1, z2⟩ => by
      have hv2 : j2 ∉ vs := fun hv2 => wipeS_mem s0 j2 vs hv2 _ z1
      rw [wipeS_get s0 j2 vs hv2] at z1
      rw [wipe_get σ j2 vs hv2] at z2
      exact hv2 (by rw [← k0.rel.inj j j2 p p2 ys zs l h1 z1 h2 z2]; exact hv)
    have rel' : Rel K M2 H2 σ (unwipe s0 s2 vs) := by
      refine ⟨by rw [unwipe_length, ← hlen]; exact k0.rel.len, k2.rel.le, fun j d h => ?_, fun j p ys h => ?_, fun j1 j2 p1 p2 xs1 xs2 l h1 h2 h3 h4 => ?_⟩
      · by_cases hv : j ∈ vs
        · obtain ⟨v, a, b⟩ := k0.rel.val j d (unwipe_in s0 s2 vs j hv h)
          exact ⟨v, a, b.mono k2.go.up⟩
        · rw [unwipe_get s0 s2 vs j hv] at h
          obtain ⟨v, a, b⟩ := k2.rel.val j d h
          rw [wipe_get σ j vs hv] at a
          exact ⟨v, a, b⟩
      · by_cases hv : j ∈ vs
        · have h0 := unwipe_in s0 s2 vs j hv h
          obtain ⟨l, us, a, b, c, d⟩ := k0.rel.own j p ys h0
          obtain ⟨z1, z2⟩ := k2.go.keep l _ b (hid j p ys l hv h0 a)
          exact ⟨l, us, a, z1, z2 c, d.mono k2.go.up⟩
        · rw [unwipe_get s0 s2 vs j hv] at h
          obtain ⟨l, us, a, b⟩ := k2.rel.own j p ys h
          rw [wipe_get σ j vs hv] at a
          exact ⟨l, us, a, b⟩
      · -- an own list of the block at j was one before, at the same place, or is new
        have back : ∀ (j : Nat) (p : Bool) (ys : List D), j ∉ vs → s2[j]? = some (some (Cell.own p ys)) → σ[j]? = some (some (V.ref l)) → H0 l = none ∨ ∃ j' zs, j' ∉ vs ∧ s0[j']? = some (some (Cell.own p zs)) ∧ σ[j']? = some (some (V.ref l)) := fun j p ys hv h1 h2 => by
          rcases k2.go.own j p ys l h1 (by rw [wipe_get σ j vs hv]; exact h2) with ⟨z, _⟩ | ⟨j', zs, z1, z2⟩
          · exact .inl z
          · have hv' : j' ∉ vs := fun hv' => wipeS_mem s0 j' vs hv' _ z1
            rw [wipeS_get s0 j' vs hv'] at z1
            rw [wipe_get σ j' vs hv'] at z2
            exact .inr ⟨j', zs, hv', z1, z2⟩
        have mix : ∀ (i j : Nat) (p p' : Bool) (ys zs : List D), i ∈ vs → j ∉ vs → s0[i]? = some (some (Cell.own p ys)) → s2[j]? = some (some (Cell.own p' zs)) → σ[i]? = some (some (V.ref l)) → σ[j]? = some (some (V.ref l)) → False := fun i j p p' ys zs hv hv' a1 a2 a3 a4 => by
          obtain ⟨l', us, b1, b2, _⟩ := k0.rel.own i p ys a1
          rw [a3] at b1
          cases b1
          rcases back j p' zs hv' a2 a4 with z | ⟨j', ws', c1, c2, c3⟩
          · rw [b2] at z; cases z
          · exact c1 (by rw [← k0.rel.inj i j' p p' ys ws' l a1 c2 a3 c3]; exact hv)
        by_cases hv1 : j1 ∈ vs
        · have g1 := unwipe_in s0 s2 vs j1 hv1 h1
          by_cases hv2 : j2 ∈ vs
          · exact k0.rel.inj j1 j2 p1 p2 xs1 xs2 l g1 (unwipe_in s0 s2 vs j2 hv2 h2) h3 h4
          · rw [unwipe_get s0 s2 vs j2 hv2] at h2
            exact (mix j1 j2 p1 p2 xs1 xs2 hv1 hv2 g1 h2 h3 h4).elim
        · rw [unwipe_get s0 s2 vs j1 hv1] at h1
          by_cases hv2 : j2 ∈ vs
          · exact (mix j2 j1 p2 p1 xs2 xs1 hv2 hv1 (unwipe_in s0 s2 vs j2 hv2 h2) h1 h4 h3).elim
          · rw [unwipe_get s0 s2 vs j2 hv2] at h2
            exact k2.rel.inj j1 j2 p1 p2 xs1 xs2 l h1 h2 (by rw [wipe_get σ j1 vs hv1]; exact h3) (by rw [wipe_get σ j2 vs hv2]; exact h4)
    have ownO : ∀ (j : Nat) (p : Bool) (ys : List D) (l : Addr), (unwipe s0 s2 vs)[j]? = some (some (Cell.own p ys)) → σ[j]? = some (some (V.ref l)) → (H0 l = none ∧ p = false) ∨ ∃ (j' : Nat) (zs : List D), s0[j']? = some (some (Cell.own p zs)) ∧ σ[j']? = some (some (V.ref l)) := fun j p ys l h1 h2 => by
      by_cases hv : j ∈ vs
      · exact .inr ⟨j, ys, unwipe_in s0 s2 vs j hv h1, h2⟩
      · rw [unwipe_get s0 s2 vs j hv] at h1
        rcases k2.go.own j p ys l h1 (by rw [wipe_get σ j vs hv]; exact h2) with z | ⟨j', zs, z1, z2⟩
        · exact .inl z
        · have hv' : j' ∉ vs := fun hv' => wipeS_mem s0 j' vs hv' _ z1
          rw [wipeS_get s0 j' vs hv'] at z1
          rw [wipe_get σ j' vs hv'] at z2
          exact .inr ⟨j', zs, z1, z2⟩
    have kB : OkS K σ s0 M0 H0 σ (unwipe s0 s2 vs) M2 H2 := by
      refine ⟨⟨k2.go.up, keepW, k2.go.there, ownO, fun j ys h => ?_⟩, rel'⟩
      by_cases hv : j ∈ vs
      · exact ⟨ys, unwipe_out s0 s2 vs j hv hlen h, rfl⟩
      · obtain ⟨zs, z1, _⟩ := k2.go.port j ys (by rw [wipeS_get s0 j vs hv]; exact h)
        exact ⟨zs, by rw [unwipe_get s0 s2 vs j hv]; exact z1, rfl⟩
    have kO := k0.s.trans kB
    refine ⟨kO.go, kO.rel, ⟨Da, ws, rfl, hD2, hM2, fun ⟨j, p, ys, a, b⟩ => ?_, hac⟩, ⟨Da, rfl, k0.go.free hD⟩⟩
    by_cases hv : j ∈ vs
    · obtain ⟨l', us, b1, b2, _⟩ := k0.rel.own j p ys (unwipe_in s0 s2 vs j hv a)
      rw [b] at b1
      cases b1
      rw [hD] at b2; cases b2
    · rw [unwipe_get s0 s2 vs j hv] at a
      exact nD2 ⟨j, p, ys, a, by rw [wipe_get σ j vs hv]; exact b⟩
/-- what the walk keeps: the base, and the new list beside -/
structure InD (K : PySem.W.Frag) (σb : L2.St) (sb : S) (Mb Hb : Hp) (Da : Addr) (σ : L2.St) (s : S) (M H : Hp) (acc : List D) : Prop where
  k : OkS K σb sb Mb Hb σ s M H
  ls : ∃ ws, H Da = some (.lst ws) ∧ Ats K M ws acc
  mn : M Da = none
  no : ¬ Owned σ s Da
section
variable {K : PySem.W.Frag} {σb σ σ' : L2.St} {sb s s' : S} {Mb Hb M H M' H' : Hp} {Da : Addr} {acc : List D} {vs : List Nat}
theorem InD.step (d : InD K σb sb Mb Hb Da σ s M H acc) (k : OkS K σ s M H σ' s' M' H') : InD K σb sb Mb Hb Da σ' s' M' H' acc := by
  obtain ⟨ws, h1, h2⟩ := d.ls
  obtain ⟨a, b⟩ := k.go.keep Da _ h1 d.no
  refine ⟨d.k.trans k, ⟨ws, a, h2.mono k.go.up⟩, b d.mn, fun ⟨j, p, ys, x, y⟩ => ?_⟩
  rcases k.go.own j p ys Da x y with ⟨z, _⟩ | ⟨j', zs, z1, z2⟩
  · rw [h1] at z; cases z
  · exact d.no ⟨j', p, zs, z1, z2⟩
theorem InD.wipe (d : InD K σb sb Mb Hb Da σ s M H acc) (hn : ∀ i ∈ vs, ∀ cl, sb[i]? ≠ some (some cl)) : InD K σb sb Mb Hb Da (L2.wipe σ vs) (wipeS s vs) M H acc := by
  obtain ⟨rel', own'⟩ := rel_wipe vs d.k.rel
  have nv : ∀ {i : Nat} {cl : Cell}, (wipeS s vs)[i]? = some (some cl) → i ∉ vs ∧ s[i]? = some (some cl) := fun {i cl} h => by
    by_cases hv : i ∈ vs
    · exact (wipeS_mem s i vs hv cl h).elim
    · exact ⟨hv, by rw [wipeS_get s i vs hv] at h; exact h⟩
  refine ⟨⟨⟨d.k.go.up, d.k.go.keep, d.k.go.there, fun i p xs l h1 h2 => ?_, fun i xs h => ?_⟩, rel'⟩, d.ls, d.mn, fun z => d.no (own' Da z)⟩
  · obtain ⟨hv, h1⟩ := nv h1
    rw [wipe_get σ i vs hv] at h2
    exact d.k.go.own i p xs l h1 h2
  · have hv : i ∉ vs := fun hv => hn i hv _ h
    obtain ⟨ys, a, b⟩ := d.k.go.port i xs h
    exact ⟨ys, by rw [wipeS_get s i vs hv]; exact a, by rw [wipe_get σ i vs hv]; exact b⟩
theorem InD.grow {x : V} {d : D} (z : InD K σb sb Mb Hb Da σ s M H acc) (hb : Hb Da = none) (hx : At K M x d) : ∃ ws, H Da = some (.lst ws) ∧ ws.length = acc.length ∧ InD K σb sb Mb Hb Da σ s M (upd H Da (.lst (ws ++ [x]))) (acc ++ [d]) := by
  obtain ⟨ws, h1, h2⟩ := z.ls
  refine ⟨ws, h1, h2.length, ⟨⟨z.k.go.up, fun a o ha hna => ?_, fun a o ha => ?_, z.k.go.own, z.k.go.port⟩, ?_⟩, ⟨_, upd_same, h2.append (.one hx)⟩, z.mn, z.no⟩
  · have hne : a ≠ Da := fun q => by subst q; rw [hb] at ha; cases ha
    rw [upd_ne hne]
    exact z.k.go.keep a o ha hna
  · by_cases q : a = Da
    · subst q; exact ⟨_, upd_same⟩
    · rw [upd_ne q]; exact z.k.go.there a o ha
  · refine ⟨z.k.rel.len, le_updr z.k.rel.le z.mn, z.k.rel.val, fun j p ys h => ?_, z.k.rel.inj⟩
    obtain ⟨l, us, a1, b1, c1⟩ := z.k.rel.own j p ys h
    refine ⟨l, us, a1, ?_, c1⟩
    rw [upd_ne (fun q => z.no ⟨j, p, ys, h, by rw [← q]; exact a1⟩)]
    exact b1
end
theorem wipe_wipe {vs vs1 : List Nat} (σ : L2.St) (h : ∀ i ∈ vs1, i ∈ vs) : wipe (wipe σ vs1) vs = wipe σ vs := by
  apply List.ext_getElem?
  intro i
  by_cases hv : i ∈ vs
  · by_cases hi : i < σ.length
    · rw [wipe_in _ i (by rw [wipe_length]; exact hi) vs hv, wipe_in σ i hi vs hv]
    · rw [List.getElem?_eq_none (by rw [wipe_length, wipe_length]; omega), List.getElem?_eq_none (by rw [wipe_length]; omega)]
  · rw [wipe_get _ i vs hv, wipe_get σ i vs hv, wipe_get σ i vs1 fun z => hv (h i z)]
/-- the inner walk -/
theorem walk_in {K : PySem.W.Frag} {tg : TG} {tt : TT} {te : TE} {vs ts : List Nat} {g : MG} {t : MT} {m : ME} (hg : SoundG K ts tg g) (ht : SoundT K tt t) (hm : Sound K te m) (hts : ∀ i ∈ ts, i ∈ vs)
    {σb σ2 : L2.St} {sb s2 sf : S} {Mb Hb M2 H2 : Hp} {Da : Addr} {acc res : List D} {J : It} {xs : List D} (hn : ∀ i ∈ vs, ∀ cl, sb[i]? ≠ some (some cl)) (hb : Hb Da = none) (z : InD K σb sb Mb Hb Da (wipe σ2 vs) s2 M2 H2 acc) (W : Walk K M2 J xs)
    (e : lcLoop vs g t m xs s2 acc = some (res, sf)) (Post : Hp → Prop) (post : ∀ M H, InD K σb sb Mb Hb Da (wipe σ2 vs) sf M H res → Le M2 M → Post H) :
    ∃ W1 : Nat → Nat → Hp → Prop, (∃ k, W1 0 k H2) ∧ ∀ j k H, W1 j k H → (J.stop j H ∧ Post H) ∨ (J.go j H ∧ ∃ Nx1 : Hp → Prop, (∀ H', Nx1 H' → ∃ k', k' < k ∧ W1 (j + 1) k' H') ∧ ∀ x H', J.yld j H x H' → tg x (wipe σ2 vs) H' fun σ3 H5 => wipe σ3 vs = wipe σ2 vs ∧ tt σ3 H5 fun b H6 =>
        if b = true then te σ3 H6 fun y H7 => ∃ acc, H7 Da = some (.lst acc) ∧ acc.length < sizeLine ∧ Nx1 (upd H7 Da (.lst (acc ++ [y]))) else Nx1 H6) := by
  refine ⟨fun i k H => k = xs.length - i ∧ i ≤ xs.length ∧ ∃ s M acc, InD K σb sb Mb Hb Da (wipe σ2 vs) s M H acc ∧ Le M2 M ∧ lcLoop vs g t m (xs.drop i) s acc = some (res, sf), ⟨_, rfl, Nat.zero_le _, s2, M2, acc, z, Le.refl _, e⟩, ?_⟩
  rintro i k H ⟨rfl, hil, s, M, acc, d, le, e⟩
  by_cases hlt : i < xs.length
  · refine .inr ⟨W.go i H (le.trans d.k.rel.le) hlt, fun H' => ∃ s M acc, InD K σb sb Mb Hb Da (wipe σ2 vs) s M H' acc ∧ Le M2 M ∧ lcLoop vs g t m (xs.drop (i + 1)) s acc = some (res, sf), fun H' hh => ⟨xs.length - (i + 1), by omega, rfl, by omega, hh⟩, fun x H' hy => ?_⟩
    obtain ⟨dd, hd, y⟩ := W.yld i H x H' (le.trans d.k.rel.le) hlt hy
    rw [List.drop_eq_getElem_cons hlt] at e
    have hd' : xs[i] = dd := by rw [List.getElem?_eq_getElem hlt] at hd; exact Option.some.inj hd
    rw [hd'] at e
    obtain ⟨s3, e4, e⟩ := bd e
    obtain ⟨⟨kb, s4⟩, e5, e⟩ := bd e
    obtain ⟨M3, k3, hat⟩ := yl_ok d.k.rel le y
    have d3 := d.step k3.s
    refine hg dd x (wipe σ2 vs) s M3 H' s3 e4 k3.rel hat _ fun σ4 M4 H4 k4 off => ?_
    have d4 := d3.step k4
    have hw := wipe_off off hts
    refine ⟨hw, ht σ4 s3 M4 H4 kb s4 e5 k4.rel _ fun M5 H5 k5 => ?_⟩
    have d5 := d4.step k5.s
    have le5 : Le M2 M5 := ((le.trans k3.s.go.up).trans k4.go.up).trans k5.s.go.up
    cases kb with
    | false =>
      have d6 := d5.wipe hn
      rw [hw] at d6
      exact ⟨_, M5, acc, d6, le5, e⟩
    | true =>
      obtain ⟨⟨r6, s6⟩, e6, e⟩ := bd e
      obtain ⟨⟨d7, s7⟩, e7, e⟩ := bd e
      show te σ4 H5 _
      refine hm σ4 s4 M5 H5 r6 s6 e6 k5.rel _ fun yv M6 H6 o6 => ?_
      obtain ⟨M7, o7⟩ := frz_ok o6 e7
      split at e
      · rename_i hlen
        have d7 := d5.step o7.t.s
        obtain ⟨ws, h1, hl, d8⟩ := d7.grow hb o7.held
        have d9 := d8.wipe hn
        rw [hw] at d9
        exact ⟨ws, h1, sz_lt (by rw [hl]; exact hlen), _, M7, _, d9, le5.trans o7.t.s.go.up, e⟩
      · cases e
  · have ei : xs.drop i = [] := List.drop_eq_nil_of_le (by omega)
    rw [ei] at e
    obtain ⟨e5, e6⟩ := Prod.mk.inj (Option.some.inj e)
    subst e5
    subst e6
    exact .inl ⟨W.stop i H (le.trans d.k.rel.le) (by omega), post M H d le⟩
def lc2Loop (vs vs1 : List Nat) (g : MG) (t : MT) (mi1 : MI) (g1 : MG) (t1 : MT) (m : ME) : List D → S → List D → Option (List D × S)
  | [], s, acc => some (acc, s)
  | d :: ds, s, acc => (g d s).bind fun s1 => (t s1).bind fun p => if p.1 then (mi1 p.2).bind fun q => (lcLoop vs1 g1 t1 m q.1 (wipeS q.2 vs1) acc).bind fun r => lc2Loop vs vs1 g t mi1 g1 t1 m ds (wipeS r.2 vs) r.1
    else lc2Loop vs vs1 g t mi1 g1 t1 m ds (wipeS p.2 vs) acc
def mLc2 (vs vs1 : List Nat) (mi : MI) (g : MG) (t : MT) (mi1 : MI) (g1 : MG) (t1 : MT) (m : ME) : ME := fun s => (mi s).bind fun p => (lc2Loop vs vs1 g t mi1 g1 t1 m p.1 (wipeS p.2 vs) []).bind fun q => some (.own q.1, unwipe p.2 q.2 vs)
theorem sound_lc2 {K : PySem.W.Frag} {wi wi1 : TI} {tg tg1 : TG} {tt tt1 : TT} {te : TE} {vs vs1 ts ts1 : List Nat} {mi mi1 : MI} {g g1 : MG} {t t1 : MT} {m : ME} (hi : SoundI K wi mi) (hg : SoundG K ts tg g) (ht : SoundT K tt t) (hi1 : SoundI K wi1 mi1) (hg1 : SoundG K ts1 tg1 g1) (ht1 : SoundT K tt1 t1) (hm : Sound K te m)
    (hts : ∀ i ∈ ts, i ∈ vs) (hts1 : ∀ i ∈ ts1, i ∈ vs1) (hvs : ∀ i ∈ vs1, i ∈ vs) : Sound K (tLc2 wi tg tt wi1 tg1 tt1 te vs vs1) (mLc2 vs vs1 mi g t mi1 g1 t1 m) := fun σ s M H r s' e rel Q q => by
  obtain ⟨⟨xs, s0⟩, e1, e⟩ := bd e
  obtain ⟨⟨res, sf⟩, e2, e⟩ := bd e
  cases e
  refine hi σ s M H xs s0 e1 rel _ fun J M0 H0 k0 W Da hD => ?_
  obtain ⟨relW, ownW⟩ := rel_wipe vs k0.rel
  have hnone : ∀ i ∈ vs, ∀ cl, (wipeS s0 vs)[i]? ≠ some (some cl) := fun i hv cl => wipeS_mem s0 i vs hv cl
  have relD : Rel K M0 (upd H0 Da (.lst [])) (wipe σ vs) (wipeS s0 vs) := relW.grow (Le.refl _) (le_upd hD) (le_updr relW.le (le_none relW.le hD)) fun _ _ _ z => z
  have nD : ¬ Owned (wipe σ vs) (wipeS s0 vs) Da := fun z => Owned.of k0.rel (ownW Da z) hD
  have d0 : InD K (wipe σ vs) (wipeS s0 vs) M0 H0 Da (wipe σ vs) (wipeS s0 vs) M0 (upd H0 Da (.lst [])) [] := ⟨⟨Go.grow (Le.refl _) (le_upd hD) fun _ _ _ z => z, relD⟩, ⟨[], upd_same, .nil⟩, le_none relW.le hD, nD⟩
  refine ⟨fun i k H => k = xs.length - i ∧ i ≤ xs.length ∧ ∃ s M acc, InD K (wipe σ vs) (wipeS s0 vs) M0 H0 Da (wipe σ vs) s M H acc ∧ lc2Loop vs vs1 g t mi1 g1 t1 m (xs.drop i) s acc = some (res, sf), ⟨_, rfl, Nat.zero_le _, _, _, _, d0, e2⟩, ?_⟩
  rintro i k H ⟨rfl, hil, s2, M2, acc, d, e⟩
  have le : Le M0 M2 := d.k.go.up
  by_cases hlt : i < xs.length
  · refine .inr ⟨W.go i H (le.trans d.k.rel.le) hlt, fun H' => ∃ s M acc, InD K (wipe σ vs) (wipeS s0 vs) M0 H0 Da (wipe σ vs) s M H' acc ∧ lc2Loop vs vs1 g t mi1 g1 t1 m (xs.drop (i + 1)) s acc = some (res, sf), fun H' hh => ⟨xs.length - (i + 1), by omega, rfl, by omega, hh⟩, fun x H' hy => ?_⟩
    obtain ⟨dd, hd, y⟩ := W.yld i H x H' (le.trans d.k.rel.le) hlt hy
    rw [List.drop_eq_getElem_cons hlt] at e
    have hd' : xs[i] = dd := by rw [List.getElem?_eq_getElem hlt] at hd; exact Option.some.inj hd
    rw [hd'] at e
    obtain ⟨s3, e4, e⟩ := bd e
    obtain ⟨⟨kb, s4⟩, e5, e⟩ := bd e
    obtain ⟨M3, k3, hat⟩ := yl_ok d.k.rel le y
    have d3 := d.step k3.s
    refine hg dd x (wipe σ vs) s2 M3 H' s3 e4 k3.rel hat _ fun σ4 M4 H4 k4 off => ?_
    have d4 := d3.step k4
    have hw := wipe_off off hts
    refine ⟨hw, ht σ4 s3 M4 H4 kb s4 e5 k4.rel _ fun M5 H5 k5 => ?_⟩
    have d5 := d4.step k5.s
    cases kb with
    | false =>
      have d6 := d5.wipe hnone
      rw [hw] at d6
      exact ⟨_, M5, acc, d6, e⟩
    | true =>
      obtain ⟨⟨xs1, s6⟩, e6, e⟩ := bd e
      obtain ⟨⟨res1, sf1⟩, e7, e⟩ := bd e
      show wi1 σ4 H5 _
      refine hi1 σ4 s4 M5 H5 xs1 s6 e6 k5.rel _ fun J1 M6 H6 k6 W1 => ?_
      have d6 := (d5.step k6.s).wipe (vs := vs1) fun i hv => hnone i (hvs i hv)
      refine walk_in hg1 ht1 hm hts1 (fun i hv => hnone i (hvs i hv)) hD d6 W1 e7 _ fun M7 H7 d7 _ => ?_
      have d8 := d7.wipe hnone
      rw [wipe_wipe σ4 hvs, hw] at d8
      exact ⟨_, M7, res1, d8, e⟩
  · have ei : xs.drop i = [] := List.drop_eq_nil_of_le (by omega)
    rw [ei] at e
    obtain ⟨e5, e6⟩ := Prod.mk.inj (Option.some.inj e)
    subst e5
    subst e6
    obtain ⟨ws, h1, h2⟩ := d.ls
    exact .inl ⟨W.stop i H (le.trans d.k.rel.le) (by omega), q _ M2 H (lc_back k0 hD d.k h1 d.mn d.no h2)⟩
theorem se_lc2 {c : Cd} {elt tg iter tg1 iter1 : Expr} {ifs ifs1 : List Expr} {scope : Scope} {pos : Pos} {t t1 : MT} {m : ME} {g g1 : MG} {mi mi1 : MI} {ts ts1 : List Nat} (own : List (Str × Nat)) (vs1 : List Nat) (hi : SI c tg iter mi) (hg : SG (c.blk scope) tg ts g) (ht : STs (c.blk scope) ifs t) (hi1 : SI (c.blk scope) tg1 iter1 mi1) (hg1 : SG (c.blk scope) tg1 ts1 g1) (ht1 : STs (c.blk scope) ifs1 t1) (he : SE (c.blk scope) elt m)
    (hts : ∀ i ∈ ts, i ∈ own.map (·.2) := by decide) (hts1 : ∀ i ∈ ts1, i ∈ vs1 := by decide) (hvs : ∀ i ∈ vs1, i ∈ own.map (·.2) := by decide) (hN : ndB c.N = true := by rfl) (ok : blkC c.N c.sc scope own = true := by rfl) (hs : ∀ env x, foldedSetIterable iter env x = pure x := by intro _ _; rfl) (hs1 : ∀ env x, foldedSetIterable iter1 env x = pure x := by intro _ _; rfl) :
    SE c (.ListComp elt [⟨tg, iter, ifs, 0⟩, ⟨tg1, iter1, ifs1, 0⟩] scope pos) (mLc2 (own.map (·.2)) vs1 mi g t mi1 g1 t1 m) := by
  obtain ⟨ti, pi, si⟩ := hi
  obtain ⟨tg', pg, sg⟩ := hg
  obtain ⟨tt, pt, st⟩ := ht
  obtain ⟨ti1, pi1, si1⟩ := hi1
  obtain ⟨tg1', pg1, sg1⟩ := hg1
  obtain ⟨tt1, pt1, st1⟩ := ht1
  obtain ⟨te, pe, se⟩ := he
  exact ⟨_, fun X k => pe_lc2 (own := own) (vs1 := vs1) k.calm (by rw [k.N]; exact ndOf hN) (pi X k) (by rw [k.N, k.sc]; exact blkOk_by ok) hvs (fun s H C cl fp => pg _ (fits_blk k s H scope C cl fp)) (fun s H C cl fp => pt _ (fits_blk k s H scope C cl fp))
    (fun s H C cl fp => pi1 _ (fits_blk k s H scope C cl fp)) (fun s H C cl fp => pg1 _ (fits_blk k s H scope C cl fp)) (fun s H C cl fp => pt1 _ (fits_blk k s H scope C cl fp)) (fun s H C cl fp => pe _ (fits_blk k s H scope C cl fp)) (hs X.env) hs1, sound_lc2 si sg st si1 sg1 st1 se hts hts1 hvs⟩
/-! ### min of a list -/
def minI : Int → List Int → Int
  | m, [] => m
  | m, x :: xs => minI (if x < m then x else m) xs
def fMinL : List D → Option D
  | [.lst xs] => (intsD xs).bind fun ns => match ns with
    | [] => none
    | n :: ns => some (.int (minI n ns))
  | _ => none
theorem minI_is : ∀ (xs : List Int) (m : Int), (minI m xs = m ∨ minI m xs ∈ xs) ∧ minI m xs ≤ m ∧ ∀ y ∈ xs, minI m xs ≤ y
  | [], m => ⟨.inl rfl, Int.le_refl _, fun _ h => nomatch h⟩
  | x :: xs, m => by
    obtain ⟨a, b, c⟩ := minI_is xs (if x < m then x else m)
    unfold minI
    by_cases h : x < m
    · rw [if_pos h] at a b c ⊢
      refine ⟨.inr ?_, by omega, fun y hy => ?_⟩
      · rcases a with a | a
        · rw [a]; exact List.mem_cons_self
        · exact List.mem_cons_of_mem _ a
      · rcases List.mem_cons.1 hy with rfl | hy
        · exact b
        · exact c y hy
    · rw [if_neg h] at a b c ⊢
      refine ⟨?_, b, fun y hy => ?_⟩
      · rcases a with a | a
        · exact .inl a
        · exact .inr (List.mem_cons_of_mem _ a)
      · rcases List.mem_cons.1 hy with rfl | hy
        · omega
        · exact c y hy
theorem sc_minL {K : PySem.W.Frag} : Sc1 K (rMin K) fMinL := fun H vs ds z h e => by
  unfold fMinL at e
  split at e
  · rename_i xs
    obtain ⟨ns, e1, e⟩ := bd e
    split at e
    · cases e
    · rename_i n ns
      cases e
      obtain ⟨v, rfl, ha⟩ := ats1 h
      cases ha with
      | lst hs hw =>
        have hz := ints_at hw e1
        subst hz
        refine ⟨_, fun _ => .int _, fun Q q => ⟨_, n :: ns, rfl, hs, by simp, fun m hm hmin => ?_⟩⟩
        obtain ⟨a, b, c⟩ := minI_is ns n
        have : m = minI n ns := by
          have h1 : minI n ns ∈ n :: ns := by
            rcases a with a | a
            · rw [a]; exact List.mem_cons_self
            · exact List.mem_cons_of_mem _ a
          have h1 := hmin _ h1
          have h2 : minI n ns ≤ m := by
            rcases List.mem_cons.1 hm with rfl | hm
            · exact b
            · exact c m hm
          omega
        rw [this]
        exact q
  · cases e
end Dm
set_option Elab.async false
set_option linter.all false
set_option maxRecDepth 100000
set_option maxHeartbeats 4000000
namespace Dm
open PySem PySem.Spec L2
set_option autoImplicit false
/-! ### dicts of one's own that stay as they were made -/
def lookD : List Key → List D → Key → Option D
  | k :: ks, ds, q => match ds with
    | d :: ds => if k = q then some d else lookD ks ds q
    | [] => none
  | [], _, _ => none
def asKey : D → Option Key
  | .int i => some (.inl i)
  | .str x => some (.inr x)
  | _ => none
theorem asKey_at {K : PySem.W.Frag} {H : Hp} {v : V} {d : D} {k : Key} (h : At K H v d) (e : asKey d = some k) : v = kV k := by
  cases h <;> try (cases e; done)
  · cases e; rfl
  · cases e; rfl
theorem look_at {K : PySem.W.Frag} {H : Hp} (q : Key) : ∀ {kvs : List (Key × V)} {ds : List D}, Ats K H (kvs.map (·.2)) ds → (∀ d, lookD (kvs.map (·.1)) ds q = some d → ∃ v, valV kvs q = some v ∧ At K H v d) ∧ (lookD (kvs.map (·.1)) ds q = none → valV kvs q = none)
  | [], ds, _ => ⟨fun d e => (nomatch e), fun _ => rfl⟩
  | (k, v) :: kvs, ds, h => by
    cases h with
    | @cons _ _ d ds h t =>
      obtain ⟨a, b⟩ := look_at q t
      show (∀ d', (if k = q then some d else lookD (kvs.map (·.1)) ds q) = some d' → _) ∧ ((if k = q then some d else lookD (kvs.map (·.1)) ds q) = none → _)
      by_cases e : k = q
      · rw [if_pos e, valV_pos e]
        exact ⟨fun d' z => ⟨v, rfl, by cases z; exact h⟩, fun z => (nomatch z)⟩
      · rw [if_neg e, valV_neg e]
        exact ⟨a, b⟩
/-- the dict that a result is -/
def dicR (r : R) : Option (List Key × List D) := match r with
  | .val (.dic ks ds) => some (ks, ds)
  | _ => none
theorem dicR_at {K : PySem.W.Frag} {M H : Hp} {σ : L2.St} {s : S} {v : V} {r : R} {ks : List Key} {ds : List D} (h : Held K M H σ s v r) (e : dicR r = some (ks, ds)) : ∃ a kvs, v = .ref a ∧ Rd M a (.dK kvs) ∧ Ats K M (kvs.map (·.2)) ds ∧ kvs.map (·.1) = ks := by
  unfold dicR at e
  split at e
  · cases e
    have h : At K M v (.dic ks ds) := h
    cases h with
    | dic h1 h2 => exact ⟨_, _, rfl, h1, h2, rfl⟩
  · cases e
theorem rd_mono {M H : Hp} {a : Addr} {u : HO} (h : Rd M a u) (le : Le M H) : Rd H a u := by
  rcases h with h | ⟨o, h⟩
  · exact .inl (le _ _ h)
  · exact .inr ⟨o, le _ _ h⟩
/-- d[k] -/
def mIxD (md mi : ME) : ME := fun s => (md s).bind fun p => (dicR p.1).bind fun z => (mi p.2).bind fun q => (peek q.1 q.2).bind fun e => (asKey e).bind fun k => (lookD z.1 z.2 k).bind fun d => some (.val d, q.2)
/-- k in d -/
def mInD (neg : Bool) (mi md : ME) : ME := fun s => (mi s).bind fun p => (peek p.1 p.2).bind fun e => (asKey e).bind fun k => (md p.2).bind fun q => (dicR q.1).bind fun z => some (.val (.bl (if neg then !(lookD z.1 z.2 k).isSome else (lookD z.1 z.2 k).isSome)), q.2)
/-- d.get(k, x) -/
def mGet2 (md mi mx : ME) : ME := fun s => (md s).bind fun p => (dicR p.1).bind fun z => (mi p.2).bind fun q => (peek q.1 q.2).bind fun e => (asKey e).bind fun k => (mx q.2).bind fun r => match r.1 with
  | .val x => some (.val ((lookD z.1 z.2 k).getD x), r.2)
  | _ => none
section
variable {c : Cd} {o i x : Expr} {pos : Pos} {md mi mx : ME}
theorem se_ixD (hd : SE c o md) (hi : SE c i mi) (hs : NoSl i := by exact fun _ _ => rfl) : SE c (.Subscript o i pos) (mIxD md mi) := by
  obtain ⟨td, pd, sd⟩ := hd
  obtain ⟨ti, pi, si⟩ := hi
  refine ⟨tDGet td ti, fun X g => pe_dget (by have := g.room.units; omega) (pd X g) (pi X g) hs, fun σ s M H r s' e rel Q q => ?_⟩
  obtain ⟨⟨r1, s1⟩, e1, e⟩ := bd e
  obtain ⟨⟨ks, ds⟩, ez, e⟩ := bd e
  obtain ⟨⟨r2, s2⟩, e2, e⟩ := bd e
  obtain ⟨d2, p2, e⟩ := bd e
  obtain ⟨k, ek, e⟩ := bd e
  obtain ⟨d, el, e⟩ := bd e
  cases e
  refine sd σ s M H r1 s1 e1 rel _ fun v M1 H1 k1 => ?_
  obtain ⟨a, kvs, rfl, hr, ha, hk⟩ := dicR_at k1.held ez
  refine si σ s1 M1 H1 r2 _ e2 k1.rel _ fun w M2 H2 k2 => ?_
  have hw := asKey_at (k2.held.at k2.rel p2) ek
  subst hw
  have ha2 := ha.mono k2.go.up
  rw [← hk] at el
  obtain ⟨u, h1, h2⟩ := (look_at k ha2).1 d el
  exact ⟨a, u, rfl, .inl ⟨kvs, k, rd_mono (rd_mono hr k2.go.up) k2.rel.le, rfl, h1.symm⟩, q u M2 H2 ⟨k1.go.trans k2.go, k2.rel, h2, trivial⟩⟩
theorem sound_inD {K : PySem.W.Frag} {ti td : TE} (neg : Bool) (si : Sound K ti mi) (sd : Sound K td md) : Sound K (if neg then tDNotIn ti td else tDIn ti td) (mInD neg mi md) := fun σ s M H r s' e rel Q q => by
  obtain ⟨⟨r1, s1⟩, e1, e⟩ := bd e
  obtain ⟨d1, p1, e⟩ := bd e
  obtain ⟨k, ek, e⟩ := bd e
  obtain ⟨⟨r2, s2⟩, e2, e⟩ := bd e
  obtain ⟨⟨ks, ds⟩, ez, e⟩ := bd e
  cases e
  have main : ∀ b : Bool, b = (lookD ks ds k).isSome → ∀ w M2 H2, Ok K σ s M H r2 s2 w M2 H2 → ∃ a o, w = .ref a ∧ DGet H2 a (kV k) o ∧ o.isSome = b := fun b hb w M2 H2 k2 => by
    obtain ⟨a, kvs, rfl, hr, ha, hk⟩ := dicR_at k2.held ez
    subst hk
    obtain ⟨f1, f2⟩ := look_at k ha
    refine ⟨a, valV kvs k, rfl, .inl ⟨kvs, k, rd_mono hr k2.rel.le, rfl, rfl⟩, ?_⟩
    rw [hb]
    cases hl : lookD (kvs.map (·.1)) ds k with
    | none => rw [f2 hl]; rfl
    | some d =>
      obtain ⟨v, h1, _⟩ := f1 d hl
      rw [h1]; rfl
  cases neg with
  | false =>
    refine si σ s M H r1 s1 e1 rel _ fun v M1 H1 k1 => ?_
    have hv := asKey_at (k1.held.at k1.rel p1) ek
    subst hv
    refine sd σ s1 M1 H1 r2 _ e2 k1.rel _ fun w M2 H2 k2 => ?_
    obtain ⟨a, o, rfl, h1, h2⟩ := main _ rfl w M2 H2 (.behind k1.t k2)
    refine ⟨a, o, rfl, h1, ?_⟩
    rw [h2]
    exact q _ M2 H2 ⟨k1.go.trans k2.go, k2.rel, .bl _, trivial⟩
  | true =>
    refine si σ s M H r1 s1 e1 rel _ fun v M1 H1 k1 => ?_
    have hv := asKey_at (k1.held.at k1.rel p1) ek
    subst hv
    refine sd σ s1 M1 H1 r2 _ e2 k1.rel _ fun w M2 H2 k2 => ?_
    obtain ⟨a, o, rfl, h1, h2⟩ := main _ rfl w M2 H2 (.behind k1.t k2)
    refine ⟨a, o, rfl, h1, ?_⟩
    rw [h2]
    exact q _ M2 H2 ⟨k1.go.trans k2.go, k2.rel, .bl _, trivial⟩
theorem se_inD (hi : SE c i mi) (hd : SE c o md) (hm : behindInMarks .In o = false := by rfl) : SE c (.Compare i [.In] [o] pos) (mInD false mi md) := by
  obtain ⟨td, pd, sd⟩ := hd
  obtain ⟨ti, pi, si⟩ := hi
  exact ⟨_, fun X g => pe_cmp (pc_din (by have := g.room.units; omega) (pi X g) (pd X g)) hm, sound_inD false si sd⟩
theorem se_ninD (hi : SE c i mi) (hd : SE c o md) (hm : behindInMarks .NotIn o = false := by rfl) : SE c (.Compare i [.NotIn] [o] pos) (mInD true mi md) := by
  obtain ⟨td, pd, sd⟩ := hd
  obtain ⟨ti, pi, si⟩ := hi
  exact ⟨_, fun X g => pe_cmp (pc_dnotin (by have := g.room.units; omega) (pi X g) (pd X g)) hm, sound_inD true si sd⟩
theorem st_inD (hi : SE c i mi) (hd : SE c o md) (hm : behindInMarks .In o = false := by rfl) : ST c (.Compare i [.In] [o] pos) (mTest (mInD false mi md)) := by
  obtain ⟨td, pd, sd⟩ := hd
  obtain ⟨ti, pi, si⟩ := hi
  exact ⟨_, fun X g => pt_cmp (pc_din (by have := g.room.units; omega) (pi X g) (pd X g)) hm, sound_B (sound_inD false si sd)⟩
theorem st_ninD (hi : SE c i mi) (hd : SE c o md) (hm : behindInMarks .NotIn o = false := by rfl) : ST c (.Compare i [.NotIn] [o] pos) (mTest (mInD true mi md)) := by
  obtain ⟨td, pd, sd⟩ := hd
  obtain ⟨ti, pi, si⟩ := hi
  exact ⟨_, fun X g => pt_cmp (pc_dnotin (by have := g.room.units; omega) (pi X g) (pd X g)) hm, sound_B (sound_inD true si sd)⟩
theorem se_get2 {apos : Pos} (hd : SE c o md) (hi : SE c i mi) (hx : SE c x mx) (hm : ∀ X : Cx, Fits c X → M2 X o "get" apos i x pos := by exact fun X g => ⟨rfl, rfl, rfl, rfl⟩) : SE c (.Call (.Attribute o "get" apos) [i, x] [] pos) (mGet2 md mi mx) := by
  obtain ⟨td, pd, sd⟩ := hd
  obtain ⟨ti, pi, si⟩ := hi
  obtain ⟨tx, px, sx⟩ := hx
  refine ⟨tDGet2 td ti tx, fun X g => pe_dget2 (by have := g.room.units; omega) (pd X g) (pi X g) (px X g) (hm X g), fun σ s M H r s' e rel Q q => ?_⟩
  obtain ⟨⟨r1, s1⟩, e1, e⟩ := bd e
  obtain ⟨⟨ks, ds⟩, ez, e⟩ := bd e
  obtain ⟨⟨r2, s2⟩, e2, e⟩ := bd e
  obtain ⟨d2, p2, e⟩ := bd e
  obtain ⟨k, ek, e⟩ := bd e
  obtain ⟨⟨r3, s3⟩, e3, e⟩ := bd e
  refine sd σ s M H r1 s1 e1 rel _ fun v M1 H1 k1 => ?_
  obtain ⟨a, kvs, rfl, hr, ha, hk⟩ := dicR_at k1.held ez
  subst hk
  refine ⟨a, rfl, .inl ⟨kvs, rd_mono hr k1.rel.le⟩, ?_⟩
  refine si σ s1 M1 H1 r2 _ e2 k1.rel _ fun w M2 H2 k2 => ?_
  have hw := asKey_at (k2.held.at k2.rel p2) ek
  subst hw
  refine sx σ s2 M2 H2 r3 _ e3 k2.rel _ fun y M3 H3 k3 => ?_
  cases r3 with
  | own xs => cases e
  | slot j => cases e
  | val xd =>
    cases e
    have up := k2.go.up.trans k3.go.up
    have ha3 := ha.mono up
    obtain ⟨f1, f2⟩ := look_at k ha3
    have gg := (k1.go.trans k2.go).trans k3.go
    refine ⟨valV kvs k, .inl ⟨kvs, k, rd_mono (rd_mono hr up) k3.rel.le, rfl, rfl⟩, ?_⟩
    cases hl : lookD (kvs.map (·.1)) ds k with
    | none =>
      rw [f2 hl]
      exact q y M3 H3 ⟨gg, k3.rel, (show At c.K M3 y ((lookD (kvs.map (·.1)) ds k).getD xd) by rw [hl]; exact k3.held), trivial⟩
    | some d =>
      obtain ⟨u, h1, h2⟩ := f1 d hl
      rw [h1]
      exact q u M3 H3 ⟨gg, k3.rel, (show At c.K M3 u ((lookD (kvs.map (·.1)) ds k).getD xd) by rw [hl]; exact h2), trivial⟩
end
/-! the display itself -/
theorem merge_new : ∀ (more acc : List (Key × V)), (more.map (·.1)).Nodup → (∀ k ∈ more.map (·.1), k ∉ acc.map (·.1)) → mergeK acc more = acc ++ more
  | [], acc, _, _ => by show acc = _; rw [List.append_nil]
  | (k, v) :: more, acc, hn, hd => by
    have hk : (acc.any fun kv => decide (kv.1 = k)) = false := by
      rw [List.any_eq_false]
      intro kv hkv he
      have : kv.1 = k := of_decide_eq_true he
      exact hd k (by simp) (by rw [← this]; exact List.mem_map.2 ⟨kv, hkv, rfl⟩)
    have e : putK acc k v = acc ++ [(k, v)] := by
      unfold putK
      rw [hk]
      rfl
    show mergeK (putK acc k v) more = _
    rw [List.map_cons, List.nodup_cons] at hn
    rw [e, merge_new more _ hn.2 (fun q hq hm => ?_), List.append_assoc]
    · rfl
    · rw [List.map_append, List.mem_append] at hm
      rcases hm with hm | hm
      · exact hd q (List.mem_cons_of_mem _ hq) hm
      · simp at hm
        exact hn.1 (by rw [← hm]; exact hq)
def mDicV (ks : List Int) (ms : S → Option (List D × S)) : ME := fun s => (ms s).bind fun p => some (.val (.dic (ks.map Sum.inl) p.1), p.2)
theorem se_dic {c : Cd} {keys : List (Option Expr)} {values : List Expr} {ks : List Int} {ms : S → Option (List D × S)} {pos : Pos} (h : SPs c keys values ks ms) (hall : keys.all (·.isSome) = true := by rfl) (hl : keys.length = values.length := by rfl) (h0 : keys ≠ [] := by intro z; cases z) (h15 : keys.length ≤ 15 := by decide) (hks : ks.length ≤ 15 := by decide) (hnd : ks.Nodup := by decide) :
    SE c (.Dict keys values pos) (mDicV ks ms) := by
  obtain ⟨trs, pp, sp⟩ := h
  refine ⟨tDisp trs, fun X g => pe_disp (pp X pos g) hall hl h0 h15, fun σ s M H r s' e rel Q q => ?_⟩
  obtain ⟨⟨ds, s1⟩, e1, e⟩ := bd e
  cases e
  intro p hp
  have r0 : Rel c.K M (upd H p (.dK [])) σ s := rel.grow (Le.refl _) (le_upd hp) (le_updr rel.le (le_none rel.le hp)) fun _ _ _ z => z
  have g0 : Go σ s M H σ s M (upd H p (.dK [])) := Go.grow (Le.refl _) (le_upd hp) fun _ _ _ z => z
  refine sp σ s M _ ds _ e1 r0 _ fun ws M1 H1 o1 ha hlw => ?_
  have no : ¬ Owned σ s p := rel.not_owned hp
  obtain ⟨k1, k2⟩ := o1.go.keep p _ upd_same no
  have hM1 : M1 p = none := k2 (le_none rel.le hp)
  have hz1 : ((ks.zip ws).map fun q => ((Sum.inl q.1 : Key), q.2)).map (·.1) = ks.map Sum.inl := by
    rw [List.map_map]
    show (ks.zip ws).map (Sum.inl ∘ Prod.fst) = _
    rw [← List.map_map, List.map_fst_zip (by omega)]
  have hz2 : ((ks.zip ws).map fun q => ((Sum.inl q.1 : Key), q.2)).map (·.2) = ws := by
    rw [List.map_map]
    show (ks.zip ws).map Prod.snd = _
    rw [List.map_snd_zip (by omega)]
  have hmg : mergeK [] ((ks.zip ws).map fun q => ((Sum.inl q.1 : Key), q.2)) = (ks.zip ws).map fun q => ((Sum.inl q.1 : Key), q.2) := by
    refine merge_new _ _ ?_ fun k _ hm => by cases hm
    rw [hz1]
    refine List.pairwise_map.2 (hnd.imp fun hab he => hab ?_)
    cases he
    rfl
  refine ⟨k1, (ks.zip ws).map fun q => ((Sum.inl q.1 : Key), q.2), by rw [List.map_map]; rfl, ?_, ?_⟩
  · rw [List.length_map, List.length_zip]
    have := Nat.min_le_left ks.length ws.length
    omega
  rw [hmg]
  generalize hkv : ((ks.zip ws).map fun q => ((Sum.inl q.1 : Key), q.2)) = kvs at hz1 hz2
  have nO1 : ¬ Owned σ s1 p := fun zz => by
    obtain ⟨vs, q1, _⟩ := o1.rel.owned_some zz
    rw [k1] at q1; cases q1
  have leM : Le M1 (upd M1 p (.dK kvs)) := le_upd hM1
  refine q (.ref p) (upd M1 p (.dK kvs)) _ ⟨⟨(g0.trans o1.go).up.trans leM, fun a o hao hna => ?_, fun a o hao => ?_, (g0.trans o1.go).own, (g0.trans o1.go).port⟩, ⟨o1.rel.len, fun a o hao => ?_, fun i d hi => ?_, fun j pp xs hj => ?_, o1.rel.inj⟩, ?_, trivial⟩
  · have hne : a ≠ p := fun zz => by subst zz; rw [hp] at hao; cases hao
    rw [upd_ne hne, upd_ne hne]
    exact (g0.trans o1.go).keep a o hao hna
  · by_cases zz : a = p
    · subst zz; exact ⟨_, upd_same⟩
    · rw [upd_ne zz]; exact (g0.trans o1.go).there a o hao
  · by_cases zz : a = p
    · subst zz
      rw [upd_same] at hao ⊢
      exact hao
    · rw [upd_ne zz] at hao ⊢
      exact o1.rel.le a o hao
  · obtain ⟨v, a1, b1⟩ := o1.rel.val i d hi
    exact ⟨v, a1, b1.mono leM⟩
  · obtain ⟨l, us, a1, b1, c1, d1⟩ := o1.rel.own j pp xs hj
    have hne : l ≠ p := fun zz => nO1 ⟨j, pp, xs, hj, by rw [← zz]; exact a1⟩
    exact ⟨l, us, a1, by rw [upd_ne hne]; exact b1, by rw [upd_ne hne]; exact c1, d1.mono leM⟩
  · show At c.K _ (.ref p) (.dic (ks.map Sum.inl) ds)
    rw [← hz1]
    exact .dic (.inl upd_same) (by rw [hz2]; exact ha.mono leM)
end Dm
set_option Elab.async false
set_option linter.all false
set_option maxRecDepth 100000
set_option maxHeartbeats 4000000
namespace Dm
open PySem PySem.Spec L2
set_option autoImplicit false
/-! ### x, y = [..], e -/
def mParO (i j : Nat) (ms : MA) : MS := fun s => (ms s).bind fun p => match p.1 with
  | [.own xs, .val d] => (put i (.own xs) p.2).bind fun s2 => (put j (.val d) s2).bind fun s3 => some (.nx s3)
  | _ => none
theorem sound_parO {K : PySem.W.Frag} {i j : Nat} {t : TA} {ms : MA} (sd : SoundA K t ms) : SoundS K (tPar i j t) (mParO i j ms) := fun σ s M H o e rel E h => by
  obtain ⟨⟨rs, s1⟩, e1, e⟩ := bd e
  refine sd σ s M H rs s1 e1 rel _ fun vs M1 H1 k => ?_
  simp only at e
  split at e
  · rename_i rs' xs d
    obtain ⟨s2, e2, e⟩ := bd e
    obtain ⟨s3, e3, e⟩ := bd e
    cases e
    obtain ⟨kg, kr, kh, kn⟩ := k
    cases kh with
    | cons h1 kh =>
      cases kh with
      | cons h2 kh =>
        cases kh
        cases kn with
        | cons n1 kn =>
          cases kn with
          | cons n2 kn =>
            rename_i v w
            refine ⟨v, w, rfl, ?_⟩
            have k1 := put_ok2 (v := v) ⟨kg, kr⟩ h1 n1 rfl e2
            have h2' : At K M1 w d := h2
            exact h _ M1 H1 (put_ok2 (r := .val d) k1 h2' trivial rfl e3)
  · cases e
section
variable {c : Cd} {pos : Pos}
theorem ss_parO (i j : Nat) {x y : Str} {a b : Expr} {px py pt : Pos} {kt k2 : _} {pt2 : Pos} {ms : MA} (ha : SA c [a, b] ms) (hN : ndB c.N = true := by rfl) (hi : c.N[i]? = some x := by rfl) (hj : c.N[j]? = some y := by rfl) (hij : i ≠ j := by decide)
    (hx : c.sc.names.lookup x = some .local := by rfl) (hy : c.sc.names.lookup y = some .local := by rfl) (hw : swappedStores [.Tuple [.Name x px, .Name y py] kt pt] (.Tuple [a, b] k2 pt2) (envAt c.sc) = pure (some [x, y]) := by rfl) :
    SS c (.Assign [.Tuple [.Name x px, .Name y py] kt pt] (.Tuple [a, b] k2 pt2) pos) (mParO i j ms) := by
  obtain ⟨t, pa, sd⟩ := ha
  exact ⟨tPar i j t, fun X g => ps_par g.calm (by rw [g.N]; exact ndOf hN) (by rw [g.N]; exact hi) (by rw [g.N]; exact hj) hij (by rw [g.sc]; exact hx) (by rw [g.sc]; exact hy) (pa X g) ((sw_scope (b := envAt c.sc) g.sc).trans hw), sound_parO sd⟩
end
end Dm
set_option Elab.async false
set_option linter.all false
set_option maxRecDepth 100000
set_option maxHeartbeats 4000000
namespace Dm
open PySem PySem.Spec L2
set_option autoImplicit false
/-! ### gcd, lcm, sum -/
section
variable {c : Cd} {e a b : Expr} {es : List Expr} {p pos : Pos} {ms : MA} {ma mb : ME}
/-- a module's name for a built-in function -/
theorem se_bfun {x : Str} {id : String} {r : PySem.W.Frag → RC} {f : List D → Option D} (hc : ∀ X : Cx, Fits c X → CallR X (.builtin id) (r X.K)) (h : Sc1 c.K (r c.K) f) (hg : ∀ X : Cx, Fits c X → Gl X x) (hm : c.mg x = some (.builtin id)) (ha : SA c (e :: es) ms)
    (hdb : (x == ("__debug__" : Str)) = false := by decide) (he : ∀ env, starEach (e :: es) env = (false, eval e env) :: starEach es env := by intro _; rfl) (hpl : ∀ env, (backTo pos (starEach es env)).any (·.1) = false := by intro _; rfl) : SE c (.Call (.Name x p) (e :: es) [] pos) (mCS f ms) := by
  obtain ⟨ta, pa, sa⟩ := ha
  exact ⟨_, fun X g => by have := hc X g; rw [g.K] at this; exact pe_callBfun this (hg X g) (by rw [g.mg]; exact hm) (pa X g) hdb (he X.env) (hpl X.env), sound_cs h sa⟩
def fGcd : List D → Option D
  | [.int i, .int j] => some (.int ((Nat.gcd i.natAbs j.natAbs : Nat) : Int))
  | _ => none
theorem sc_gcd {K : PySem.W.Frag} : Sc1 K ((fun _ => rGcd) K) fGcd := fun H vs ds z h e => by
  unfold fGcd at e
  split at e
  · rename_i i j
    cases e
    have hv := atsI2 h
    exact ⟨_, fun _ => .int _, fun Q q => ⟨i, j, hv, q⟩⟩
  · cases e
theorem se_gcd (hg : ∀ X : Cx, Fits c X → Gl X "gcd") (hm : c.mg "gcd" = some (.builtin "math.gcd")) (ha : SA c (e :: es) ms) (he : ∀ env, starEach (e :: es) env = (false, eval e env) :: starEach es env := by intro _; rfl) (hpl : ∀ env, (backTo pos (starEach es env)).any (·.1) = false := by intro _; rfl) : SE c (.Call (.Name "gcd" p) (e :: es) [] pos) (mCS fGcd ms) :=
  se_bfun (r := fun _ => rGcd) (fun _ _ => cr_gcd) sc_gcd hg hm ha (by decide) he hpl
/-- below 2 ^ 64 -/
def okL (i : Int) : Bool := decide (i.natAbs < 2 ^ 64)
theorem okL_of {i : Int} (h : i.natAbs < 2 ^ 64) : okL i = true := decide_eq_true h
def rLcm : List V → Hp → VK → Prop := fun vs H Q => ∃ i j : Int, vs = [.int i, .int j] ∧ i.natAbs < 2 ^ 64 ∧ j.natAbs < 2 ^ 64 ∧ Q (.int ((Nat.lcm i.natAbs j.natAbs : Nat) : Int)) H
theorem cr_lcm {X : Cx} : CallR X (.builtin "math.lcm") rLcm := fun pins s σ H vs us Q I r h => by
  obtain ⟨i, j, hv, h1, h2, q⟩ := h
  subst hv
  obtain ⟨t, u, hu⟩ := Vals.int2 r
  subst hu
  exact PySem.W.mc_lcm h1 h2 fun _ => ⟨.int _, H, I.tok _, ⟨_, rfl⟩, q⟩
def fLcm : List D → Option D
  | [.int i, .int j] => if okL i && okL j then some (.int ((Nat.lcm i.natAbs j.natAbs : Nat) : Int)) else none
  | _ => none
theorem sc_lcm {K : PySem.W.Frag} : Sc1 K ((fun _ => rLcm) K) fLcm := fun H vs ds z h e => by
  unfold fLcm at e
  split at e
  · rename_i i j
    split at e
    · rename_i hs
      rw [Bool.and_eq_true] at hs
      cases e
      have hv := atsI2 h
      exact ⟨_, fun _ => .int _, fun Q q => ⟨i, j, hv, of_decide_eq_true hs.1, of_decide_eq_true hs.2, q⟩⟩
    · cases e
  · cases e
theorem se_lcm (hg : ∀ X : Cx, Fits c X → Gl X "lcm") (hm : c.mg "lcm" = some (.builtin "math.lcm")) (ha : SA c (e :: es) ms) (he : ∀ env, starEach (e :: es) env = (false, eval e env) :: starEach es env := by intro _; rfl) (hpl : ∀ env, (backTo pos (starEach es env)).any (·.1) = false := by intro _; rfl) : SE c (.Call (.Name "lcm" p) (e :: es) [] pos) (mCS fLcm ms) :=
  se_bfun (r := fun _ => rLcm) (fun _ _ => cr_lcm) sc_lcm hg hm ha (by decide) he hpl
def fSum : List D → Option D
  | [.lst ds] => (intsD ds).map fun ns => .int ns.sum
  | _ => none
theorem sc_sum {K : PySem.W.Frag} : Sc1 K (rSum K) fSum := fun H vs ds z h e => by
  unfold fSum at e
  split at e
  · rw [Option.map_eq_some_iff] at e
    obtain ⟨ns, e1, e2⟩ := e
    subst e2
    obtain ⟨v, hv, ha⟩ := ats1 h
    subst hv
    cases ha with
    | lst h1 h2 =>
      have := ints_at h2 e1
      subst this
      exact ⟨_, fun _ => .int _, fun Q q => ⟨_, ns, rfl, h1, q⟩⟩
  · cases e
/-! ### * and // of great numbers -/
def okM (i : Int) : Bool := decide (i.natAbs < 2 ^ 4096)
theorem okM_of {i : Int} (h : i.natAbs < 2 ^ 4096) : okM i = true := decide_eq_true h
def CMulA (i j : Int) : Prop := CMul i j ∨ (okM i = true ∧ okM j = true)
instance (i j : Int) : Decidable (CMulA i j) := by unfold CMulA; infer_instance
theorem CMulA.l {i : Int} (j : Int) (h : -(2 ^ 64) < i) (h2 : i < 2 ^ 64) : CMulA i j := .inl (.inl ⟨h, h2⟩)
theorem CMulA.r (i : Int) {j : Int} (h : -(2 ^ 64) < j) (h2 : j < 2 ^ 64) : CMulA i j := .inl (.inr ⟨h, h2⟩)
def CDivA (i j : Int) : Prop := CDivN i j ∨ (0 < j ∧ okM j = true)
instance (i j : Int) : Decidable (CDivA i j) := by unfold CDivA; infer_instance
abbrev fMulA : D → D → Option D := onI fun i j => if CMulA i j then some (.int (i * j)) else none
abbrev fDivA : D → D → Option D := onI fun i j => if CDivA i j then some (.int (i.fdiv j)) else none
theorem op_mulA {X : Cx} : OpR X (binaryOp .Mult) (rI CMulA fun i j => .int (i * j)) := fun pins s σ H v w x y Q I hv hw q => by
  obtain ⟨i, j, e1, e2, hc, q⟩ := q
  rcases hc with hc | ⟨h1, h2⟩
  · exact op_mul pins s σ H v w x y Q I hv hw ⟨i, j, e1, e2, hc, q⟩
  · exact op_mulX pins s σ H v w x y Q I hv hw ⟨i, j, e1, e2, mulx_ok (of_decide_eq_true h1) (of_decide_eq_true h2) (by decide), q⟩
theorem op_divA {X : Cx} : OpR X (binaryOp .FloorDiv) (rI CDivA fun i j => .int (i.fdiv j)) := fun pins s σ H v w x y Q I hv hw q => by
  obtain ⟨i, j, e1, e2, hc, q⟩ := q
  rcases hc with hc | ⟨h1, h2⟩
  · exact op_fdivN pins s σ H v w x y Q I hv hw ⟨i, j, e1, e2, hc, q⟩
  · refine op_fdivW pins s σ H v w x y Q I hv hw ⟨i, j, e1, e2, wide_div h1 (of_decide_eq_true h2) (by decide) (by decide), ?_⟩
    show Q (V.int (i / j)) H
    rw [← Int.fdiv_eq_ediv_of_nonneg i (show 0 ≤ j by omega)]
    exact q
theorem se_mulA (ha : SE c a ma) (hb : SE c b mb) : SE c (.BinOp a .Mult b pos) (mBin fMulA ma mb) := se_bin (r2 := fun _ => _) (fun _ => op_mulA) (sc_I fun _ _ _ => .int _) ha hb
theorem se_divA (ha : SE c a ma) (hb : SE c b mb) : SE c (.BinOp a .FloorDiv b pos) (mBin fDivA ma mb) := se_bin (r2 := fun _ => _) (fun _ => op_divA) (sc_I fun _ _ _ => .int _) ha hb
end
/-! ### f(k = v, ..) in another order -/
/-- those at the told places -/
def permL {α : Type} (pi : List Nat) (xs : List α) : List α := pi.filterMap fun i => xs[i]?
theorem permL_ats {K : PySem.W.Frag} {H : Hp} {vs : List V} {ds : List D} (h : Ats K H vs ds) : ∀ pi : List Nat, Ats K H (permL pi vs) (permL pi ds)
  | [] => .nil
  | i :: pi => by
    have ih := permL_ats h pi
    unfold permL at ih ⊢
    cases q : ds[i]? with
    | none =>
      have q2 : vs[i]? = none := by
        rw [List.getElem?_eq_none_iff] at q ⊢
        rw [h.length]; exact q
      rw [List.filterMap_cons_none q, List.filterMap_cons_none q2]
      exact ih
    | some d =>
      obtain ⟨v, e1, e2⟩ := h.get q
      rw [List.filterMap_cons_some q, List.filterMap_cons_some e1]
      exact .cons e2 ih
theorem permL_vals {vs : List V} {us : List Value} (h : Vals vs us) : ∀ pi : List Nat, Vals (permL pi vs) (permL pi us)
  | [] => .nil
  | i :: pi => by
    have ih := permL_vals h pi
    unfold permL at ih ⊢
    cases q : vs[i]? with
    | none =>
      have q2 : us[i]? = none := by
        rw [List.getElem?_eq_none_iff] at q ⊢
        rw [← h.length]; exact q
      rw [List.filterMap_cons_none q, List.filterMap_cons_none q2]
      exact ih
    | some d =>
      obtain ⟨v, e1, e2⟩ := h.get q
      rw [List.filterMap_cons_some q, List.filterMap_cons_some e1]
      exact .cons e2 ih
def spP (pi : List Nat) (m : Nat) (sp : Sp) : Sp := fun vs H Q E => vs.length = m ∧ sp (permL pi vs) H Q E
section
variable {X : Cx} {CX : CXT} {k : Nat} {f : Addr} {fd : FuncData} {ps ks : List Str} {sp : Sp} {E : XK} {x : Str} {p pos : Pos} {t : TA} {kws : List Keyword}
theorem pe_callGP (pi : List Nat) (F : FnG X.prog X.w X.K X.mg X.base CX k f fd ps sp) (room : Room k X.A) (gd : X.A.guards = some []) (hg : Gl X x) (hm : X.mg x = some (.ref f)) (hk : PySem.W.keepIn X.K (.ref f) = true)
    (hb : ∀ (s : Shared) (ws : List Value), ws.length = ks.length → BindsTo s fd ⟨[], ks.zip ws⟩ (ps.zip (permL pi ws))) (hx : Passes CX X E)
    (hkw : PK X kws t) (hall : (backToKw pos (keywordEach kws X.env)).all (·.1.isSome) = true) (hks : (backToKw pos (keywordEach kws X.env)).filterMap (·.1) = ks)
    (hdb : (x == ("__debug__" : Str)) = false) (hpl : ((backTo pos (starEach [] X.env)).any (·.1) || (backToKw pos (keywordEach kws X.env)).any (·.1.isNone)) = false) : PE X (.Call (.Name x p) [] kws pos) (tCall (spP pi ks.length sp) [] E t) where
  run := fun pins s σ H Q I h => wpAny_Call_Name_kw (ld_glob I hg hm (PySem.W.callWith_KW0 (h₀ := X.base) I.ok.mod.kin hk hall (thn (hkw.run pos pins s σ H _ I h) fun us s1 ⟨vs, H1, I1, r, q⟩ => ⟨I1.kIn, by
    rw [hks]
    obtain ⟨ql, q⟩ : spP pi ks.length sp vs H1 Q E := by simpa using q
    have n : us.length = ks.length := r.length.symm.trans ql
    refine wpAny_call (codeAny_mono (enter_G F room gd (hb s1 us n) hx I1 (permL_vals r pi) q) ?_)
    rintro (z | (_ | _ | _ | u)) s' q2
    · exact q2
    · exact q2.elim
    · exact q2.elim
    · exact q2.elim
    · exact q2⟩) hpl) hdb)
end
/-- a def's function with its arguments in another order -/
def fnP (pi : List Nat) (m : Nat) (fn : FnV) : FnV := fun ds => if ds.length = m then fn (permL pi ds) else none
theorem fnP_n {pi : List Nat} {m : Nat} {fn : FnV} : ∀ ds r, fnP pi m fn ds = some r → ds.length = m := fun ds r e => by
  unfold fnP at e
  split at e
  · assumption
  · cases e
section
variable {c : Cd} {p pos : Pos} {ms : MA} {x : Str} {f : Addr} {fd : FuncData} {ps : List Str} {k n : Nat}
theorem se_callVP (ks : List Str) (pi : List Nat) {fn : FnV} {kws : List Keyword} (F : FnG c.P c.w c.K c.mg c.base CX0 k f fd ps (spV c.K n fn)) (hn : ∀ ds r, fn ds = some r → ds.length = n) (hk : k ≤ c.k) (hg : ∀ X : Cx, Fits c X → Gl X x) (hm : c.mg x = some (.ref f)) (kp : PySem.W.keepIn c.K (.ref f) = true)
    (hb : ∀ (s : Shared) (ws : List Value), ws.length = ks.length → BindsTo s fd ⟨[], ks.zip ws⟩ (ps.zip (permL pi ws))) (ha : SK c kws ms) (hall : ∀ env, (backToKw pos (keywordEach kws env)).all (·.1.isSome) = true := by intro _; rfl) (hks : ∀ env, (backToKw pos (keywordEach kws env)).filterMap (·.1) = ks := by intro _; rfl)
    (hdb : (x == ("__debug__" : Str)) = false := by decide) (hpl : ∀ env, ((backTo pos (starEach [] env)).any (·.1) || (backToKw pos (keywordEach kws env)).any (·.1.isNone)) = false := by intro _; rfl) : SE c (.Call (.Name x p) [] kws pos) (mCallV (fnP pi ks.length fn) ms) := by
  obtain ⟨ta, pa, sa⟩ := ha
  refine ⟨tCall (spP pi ks.length (spV c.K n fn)) [] E0 ta, fun X g => pe_callGP pi (g.fnOk F) (g.room.mono hk) g.guards (hg X g) (by rw [g.mg]; exact hm) (by rw [g.K]; exact kp) hb pass0 (pa X g) (hall X.env) (hks X.env) hdb (hpl X.env), fun σ s M H r s' e rel Q q => ?_⟩
  obtain ⟨⟨rs, s1⟩, e1, e⟩ := bd e
  obtain ⟨ds, e2, e⟩ := bd e
  obtain ⟨r', e3, e⟩ := bd e
  cases e
  refine sa σ s M H rs _ e1 rel _ fun vs M1 H1 o => ?_
  have hv := vals_ats o.held e2
  have hl := fnP_n _ _ e3
  unfold fnP at e3
  rw [if_pos hl] at e3
  have hp := permL_ats hv pi
  rw [List.append_nil]
  exact ⟨hv.length.trans hl, by rw [hp.length]; exact hn _ _ e3, M1, _, r', e3, o.rel.le, hp, fun v M' H' g h => q v M' H' (.behind o.t (ok_ret o.rel g h))⟩
end
end Dm
set_option Elab.async false
set_option linter.all false
set_option maxRecDepth 100000
set_option maxHeartbeats 4000000
/-! enumerate(tuple) -/
namespace RE
open PySem
open PySem.Sem (wp)
open AutoSeq1 (wpAny_loadPart')
section
variable {prog : Program} {w : World} {A : Around} {E : Value → Shared → Prop} {s : Shared}
theorem subE : isSubtype (.type "enumerate") (.type "enumerate") = pure true := sub_enumerate
/-- a turn: the next item in a new pair -/
theorem nextE {en ite tu : Addr} {i : Nat} {xs : Array Value} {x was : Value} {Q : Value → Shared → Prop} (k0 : IsEnum s.heap en ite i was) (t0 : s.heap.IsTupleIter ite tu i) (hl : s.heap.IsTuple tu xs) (hx : xs[i]? = some x) (ne : en ≠ ite)
    (fin : ∀ hp, IsEnumOut hp en ite ((i : Int) + 1) x s.heap.objs.size → hp.IsTupleIter ite tu (i + 1) → hp.get? s.heap.objs.size = some { cls := .type "tuple", data := .seq #[.int i s.toks, x] } → hp.objs.size = s.heap.objs.size + 1 →
      (∀ b o, b ≠ en → b ≠ ite → s.heap.get? b = some o → hp.get? b = some o) → Q (.ref s.heap.objs.size) { s with heap := hp, toks := s.toks + 1 }) :
    wpAny (model prog w) A (Builtin.«enumerate.__next__» ⟨[.ref en], []⟩) (fun r s' => ∃ v, r = .done (.ret v) ∧ Q v s') E s := by
  obtain ⟨p0, g, d, tk, os⟩ := s
  show wpAny _ _ (field (.ref en) 2 >>= _) _ _ _
  refine wpAny_bind (wpAny_field k0 rfl (x := .ref ite) rfl ?_)
  refine wpAny_bind (RZ.nextOf_tuple_item t0 hl hx fun p1 t1 u1 => ?_)
  replace u1 : Heap.SameBut ite p0 p1 := u1
  have k1 : IsEnum p1 en ite i was := (u1.2 en ne).trans k0
  show wpAny _ _ (field (.ref en) 3 >>= _) _ _ ⟨p1, g, d, tk, os⟩
  refine wpAny_bind (wpAny_field k1 rfl (x := rawInt i) rfl ?_)
  show wpAny _ _ (field (.ref en) 4 >>= _) _ _ ⟨p1, g, d, tk, os⟩
  refine wpAny_bind (wpAny_field k1 rfl (x := .none) rfl ?_)
  show wpAny _ _ (mkInt i >>= _) _ _ ⟨p1, g, d, tk, os⟩
  refine wpAny_bind (wpAny_mkInt ?_)
  show wpAny _ _ (setField (.ref en) 3 (rawInt ((i : Int) + 1)) >>= _) _ _ ⟨p1, g, d, tk + 1, os⟩
  refine wpAny_bind (wpAny_setField_rec k1 (by simp) fun p2 k2 u2 => ?_)
  replace u2 : Heap.SameBut en p1 p2 := u2
  replace k2 : IsEnum p2 en ite ((i : Int) + 1) was := k2
  show wpAny _ _ (setField (.ref en) 4 .none >>= _) _ _ ⟨p2, g, d, tk + 1, os⟩
  refine wpAny_bind (wpAny_setField_rec k2 (by simp) fun p3 k3 u3 => ?_)
  replace u3 : Heap.SameBut en p2 p3 := u3
  replace k3 : IsEnum p3 en ite ((i : Int) + 1) was := k3
  show wpAny _ _ (newTuple [.int i tk, x] >>= _) _ _ ⟨p3, g, d, tk + 1, os⟩
  refine wpAny_bind (wpAny_newTuple ?_)
  have k4 : IsEnum (p3.push { cls := .type "tuple", data := .seq #[.int i tk, x] }) en ite ((i : Int) + 1) was := Heap.get?_push_of_some _ k3
  generalize hp4 : p3.push { cls := .type "tuple", data := .seq #[.int i tk, x] } = p4 at k4
  have sz : p3.objs.size = p0.objs.size := by rw [u3.1, u2.1, u1.1]
  have lt : en < p0.objs.size := Heap.lt_size k0
  have tu4 : p4.get? p0.objs.size = some { cls := .type "tuple", data := .seq #[.int i tk, x] } := by rw [← hp4, ← sz]; exact Heap.get?_push_size _ rfl
  have sz4 : p4.objs.size = p0.objs.size + 1 := by rw [← hp4, Heap.size_push, sz]
  have up4 : ∀ b o, b ≠ en → b ≠ ite → p0.get? b = some o → p4.get? b = some o := fun b o n1 n2 q => by
    rw [← hp4]; exact Heap.get?_push_of_some _ (u3.extBut b o n1 (u2.extBut b o n1 (u1.extBut b o n2 q)))
  have t4 : p4.IsTupleIter ite tu (i + 1) := by
    rw [← hp4]
    obtain ⟨o, ho, r⟩ := (t1.extBut u2.extBut (Ne.symm ne)).extBut u3.extBut (Ne.symm ne)
    exact ⟨o, Heap.get?_push_of_some _ ho, r⟩
  show wpAny _ _ (Builtin.SmallTypes.ownedTupleIsFree (.ref en) >>= _) _ _ ⟨p4, g, d, tk + 1, os⟩
  rw [sz]
  clear hp4 k3 u3 k2 u2 k1 u1 t1 sz p3 p2 p1
  refine wpAny_bind ?_
  · unfold Builtin.SmallTypes.ownedTupleIsFree
    refine wpAny_bind (wpAny_field k4 rfl (x := .none) rfl (wpAny_pure ?_))
    simp only [if_true]
    refine wpAny_bind (wpAny_rule ?_)
    refine wpAny_bind (wpAny_field k4 rfl (x := was) rfl ?_)
    refine wpAny_bind (wpAny_setField_rec k4 (by simp) fun p5 k5 u5 => ?_)
    replace u5 : Heap.SameBut en p4 p5 := u5
    replace k5 : IsEnum p5 en ite ((i : Int) + 1) x := k5
    show wpAny _ _ (Builtin.SmallTypes.ownedTupleHandOut (.ref en) (.ref p0.objs.size) >>= _) _ _ ⟨p5, g, d, tk + 1, os⟩
    refine wpAny_bind ?_
    · unfold Builtin.SmallTypes.ownedTupleHandOut
      refine wpAny_bind (wpAny_setField_rec k5 (by simp) fun p6 k6 u6 => ?_)
      replace u6 : Heap.SameBut en p5 p6 := u6
      replace k6 : IsEnumOut p6 en ite ((i : Int) + 1) x p0.objs.size := k6
      refine wpAny_setField_rec k6 (by simp) fun p7 k7 u7 => ?_
      replace u7 : Heap.SameBut en p6 p7 := u7
      replace k7 : IsEnumOut p7 en ite ((i : Int) + 1) x p0.objs.size := k7
      have ap : p0.objs.size ≠ en := Nat.ne_of_gt lt
      refine wpAny_bind (wpAny_letGo (wpAny_pure ⟨_, rfl, fin p7 k7 (((t4.extBut u5.extBut (Ne.symm ne)).extBut u6.extBut (Ne.symm ne)).extBut u7.extBut (Ne.symm ne)) ?_ ?_ ?_⟩))
      · exact u7.extBut _ _ ap (u6.extBut _ _ ap (u5.extBut _ _ ap tu4))
      · rw [u7.1, u6.1, u5.1, sz4]
      · exact fun b o n1 n2 q => u7.extBut b o n1 (u6.extBut b o n1 (u5.extBut b o n1 (up4 b o n1 n2 q)))
theorem pyE_item {en ite tu : Addr} {i : Nat} {xs : Array Value} {x was : Value} {Q : Option Value → Shared → Prop} (k0 : IsEnum s.heap en ite i was) (t0 : s.heap.IsTupleIter ite tu i) (hl : s.heap.IsTuple tu xs) (hx : xs[i]? = some x) (ne : en ≠ ite)
    (fin : ∀ hp, IsEnumOut hp en ite ((i : Int) + 1) x s.heap.objs.size → hp.IsTupleIter ite tu (i + 1) → hp.get? s.heap.objs.size = some { cls := .type "tuple", data := .seq #[.int i s.toks, x] } → hp.objs.size = s.heap.objs.size + 1 →
      (∀ b o, b ≠ en → b ≠ ite → s.heap.get? b = some o → hp.get? b = some o) → Q (some (.ref s.heap.objs.size)) { s with heap := hp, toks := s.toks + 1 }) : wpAny (model prog w) A (pyNext (.ref en)) Q E s := by
  have ty : s.TypeIs (.ref en) "enumerate" := ⟨_, k0, rfl⟩
  unfold pyNext
  refine wpAny_bind (wpAny_attempt (wpAny_callSpecial?_slot (name := Str.ofString "__next__") ty F.slot_enumerate_next (wpAny_call_entry F.slot_enumerate_next ty F.entry_enumerate_next ?_ (F.args_enumerate_next_1 _))))
  exact nextE k0 t0 hl hx ne fun hp a b c d k => wpAny_pure (fin hp a b c d k)
theorem pyE_end {en ite tu : Addr} {i : Nat} {xs : Array Value} {was : Value} {Q : Option Value → Shared → Prop} (hh : A.handled = none) (k0 : IsEnum s.heap en ite i was) (t0 : s.heap.IsTupleIter ite tu i) (hl : s.heap.IsTuple tu xs) (hx : xs[i]? = none)
    (fin : ∀ hp, Heap.ExtBut ite s.heap hp → Q none { s with heap := hp }) : wpAny (model prog w) A (pyNext (.ref en)) Q E s := by
  have ty : s.TypeIs (.ref en) "enumerate" := ⟨_, k0, rfl⟩
  unfold pyNext
  refine wpAny_bind (wpAny_attempt (wpAny_callSpecial?_slot (name := Str.ofString "__next__") ty F.slot_enumerate_next (wpAny_call_entry F.slot_enumerate_next ty F.entry_enumerate_next ?_ (F.args_enumerate_next_1 _))))
  show wpAny _ _ (field (.ref en) 2 >>= _) _ _ _
  refine wpAny_bind (wpAny_field k0 rfl (x := .ref ite) rfl ?_)
  refine wpAny_bind (RZ.nextOf_tuple_end hh t0 hl hx fun hp st up hst => ?_)
  obtain ⟨o, ho, hc⟩ := hst
  exact wpAny_bind (wpAny_isInstance (T := "StopIteration") (b := true) ⟨o, ho, hc⟩ isSubtype_stop (wpAny_pure (fin _ up)))
set_option maxHeartbeats 4000000 in
theorem madeE (tu : Addr) (xs : Array Value) (n : Nat) (dct : Option Addr) (sl : Array (Option Value)) :
    Meets (Builtin.«enumerate.__new__» ⟨[.type "enumerate", .ref tu], []⟩) (fun _ R s => s.heap.get? tu = some { cls := .type "tuple", dict := dct, data := .seq xs n, slots := sl } ∧
      R (.ok (.ret (.ref (s.heap.push { cls := .type "tuple_iterator", data := .fields #[.ref tu, .int 0 0] }).objs.size)))
        { s with heap := (s.heap.push { cls := .type "tuple_iterator", data := .fields #[.ref tu, .int 0 0] }).push { cls := .type "enumerate", data := .fields #[.none, .bool false, .ref s.heap.objs.size, rawInt 0, .none, .none] } }) :=
  .of_wp fun prog w A R s h => by
    obtain ⟨hp, g, d, tk, os⟩ := s
    obtain ⟨hl, h⟩ := h
    have hsub := subE
    have hT : Heap.IsTuple (Shared.heap ⟨hp, g, d, tk, os⟩) tu xs := ⟨_, hl, rfl, n, rfl⟩
    wp_walk using wpAny_loadPart' hl
    refine wpAny_stack_any fun st => wpAny_pure ?_
    split
    · rename_i c _ _ _ _ _
      cases (c == Value.type "enumerate")
      · wp_walk using wpAny_loadPart' hl, wpAny_pyIter_tuple hT
        exact ⟨_, rfl, h⟩
      · wp_walk using wpAny_loadPart' hl, wpAny_pyIter_tuple hT
        exact ⟨_, rfl, h⟩
    · wp_walk using wpAny_loadPart' hl, wpAny_pyIter_tuple hT
      exact ⟨_, rfl, h⟩
theorem callE {tu : Addr} {xs : Array Value} {Q : Value → Shared → Prop} (hT : s.heap.IsTuple tu xs)
    (fin : ∀ hp, IsEnum hp (s.heap.objs.size + 1) s.heap.objs.size 0 .none → hp.IsTupleIter s.heap.objs.size tu 0 → hp.objs.size = s.heap.objs.size + 2 → (∀ b o, s.heap.get? b = some o → hp.get? b = some o) → Q (.ref (s.heap.objs.size + 1)) { s with heap := hp }) :
    wpAny (model prog w) A (call (.type "enumerate") [.ref tu]) Q E s := by
  obtain ⟨⟨c, dct, dt, sl⟩, hl, hc, n, hd⟩ := hT
  replace hc : c = .type "tuple" := hc
  replace hd : dt = .seq xs n := hd
  subst hc hd
  refine callType_new F.called_enumerate (by decide) (F.typeCall_enumerate_1 _) (F.newCall_enumerate_1 _) (fun ob => F.args_object_init_2 ob _) F.entry_enumerate_new (madeE tu xs n dct sl) ⟨hl, ?_⟩
  generalize hp1 : s.heap.push { cls := .type "tuple_iterator", data := .fields #[.ref tu, .int 0 0] } = p1
  have sz : p1.objs.size = s.heap.objs.size + 1 := by rw [← hp1]; exact Heap.size_push ..
  have it1 : p1.get? s.heap.objs.size = some { cls := .type "tuple_iterator", data := .fields #[.ref tu, .int 0 0] } := by rw [← hp1]; exact Heap.get?_push_size _ rfl
  have up1 : ∀ b o, s.heap.get? b = some o → p1.get? b = some o := fun b o q => by rw [← hp1]; exact Heap.get?_push_of_some _ q
  show _ ∧ _
  rw [sz]
  have he := Heap.get?_push_size p1 (o := { cls := .type "enumerate", data := .fields #[.none, .bool false, .ref s.heap.objs.size, rawInt 0, .none, .none] }) rfl
  rw [sz] at he
  exact ⟨⟨_, he, rfl⟩, fin _ he ⟨_, Heap.get?_push_of_some _ it1, rfl, rfl⟩ (by rw [Heap.size_push, sz]) fun b o q => Heap.get?_push_of_some _ (up1 b o q)⟩
end
end RE
namespace RE
open PySem PySem.Spec PyProof.Rows L2
/-- the tuple at a as it stands at each turn, each item in a new pair -/
def IteT (K : PySem.W.Frag) (a : Addr) : It where
  go := fun i H => ∃ (xs : List V) (x : V), SqT K H a xs ∧ xs[i]? = some x
  yld := fun i H v H' => ∃ T x, v = .ref T ∧ H T = none ∧ H' = upd H T (.tup [.int (i : Nat), x]) ∧ ∀ xs, SqT K H a xs → xs[i]? = some x
  stop := fun i H => ∃ xs : List V, SqT K H a xs ∧ xs.length ≤ i
theorem turnE {P : Program} {w : World} {K : PySem.W.Frag} {elts : List Expr} {kk : Nat} {tpos : Pos} (tu en ite : Addr) :
    Turn P w K (.Tuple elts kk tpos) (IteT K tu) [en, ite] en (fun i h => (∃ was, IsEnum h en ite ((i : Nat) : Int) was) ∧ h.IsTupleIter ite tu i ∧ en ≠ ite) where
  mem := List.mem_cons_self
  obj := fun i h st b hb => by
    obtain ⟨⟨was, k0⟩, ⟨o, ho, hc, hd⟩, _⟩ := st
    rcases List.mem_cons.1 hb with z | z
    · subst z; exact ⟨_, k0, fun v q => nomatch q⟩
    · have z := List.mem_singleton.1 z
      subst z
      exact ⟨o, ho, fun v q => by rw [hd] at q; cases q⟩
  keep := fun i h h' st k => by
    obtain ⟨⟨was, k0⟩, t0, ne⟩ := st
    exact ⟨⟨was, k en (by simp) _ k0⟩, t0.at fun o q => k ite (by simp) o q, ne⟩
  item := by
    intro X hP hw hK hc i pins s σ H E I hf st hg
    subst hP hw hK
    obtain ⟨⟨was, k0⟩, t0, ne⟩ := st
    obtain ⟨xs, x, hq, hx⟩ := hg
    obtain ⟨vs, rv, p, hz⟩ := I.tuple hq
    obtain ⟨u, hu, ru⟩ := rv.get hx
    have l1 : en < s.heap.objs.size := Heap.lt_size k0
    have l2 : ite < s.heap.objs.size := by obtain ⟨_, q, _⟩ := t0; exact Heap.lt_size q
    refine pyE_item k0 t0 p (x := u) (by simpa using hu) ne fun hp ko ti hT sz up => ?_
    refine ⟨_, rfl, wpAny_letOwnedTupleGo_enum (s := { s with heap := hp, toks := s.toks + 1 }) ko fun hp2 ke sb => ?_⟩
    have hT2 : hp2.get? s.heap.objs.size = some { cls := .type "tuple", data := .seq #[.int i s.toks, u] } := (sb.2 _ (Nat.ne_of_gt l1)).trans hT
    have made : ObjOk X.prog X.w (upd H s.heap.objs.size (.tup [.int (i : Nat), x])) hp2 s.heap.objs.size (.tup [.int (i : Nat), x]) := ⟨by show 2 ≤ sizeLine; decide, [.int i s.toks, u], .cons ⟨_, rfl⟩ (.cons ru .nil), ⟨_, hT2, rfl, _, rfl⟩⟩
    have I1 : Inv X pins σ (upd H s.heap.objs.size (.tup [.int (i : Nat), x])) { s with heap := hp2, toks := s.toks + 1 } :=
      I.turnedNew (ch := [en, ite]) (fun b ob nb q => (sb.2 b (fun z => nb (by simp [z]))).trans (up b ob (fun z => nb (by simp [z])) (fun z => nb (by simp [z])) q)) hf (Nat.le_refl _) made
    refine ⟨.ref s.heap.objs.size, _, I1, rfl, ⟨_, x, rfl, I.hok.fresh (Nat.le_refl _), rfl, fun ys hy => by rw [I.tuple_inj hy hq]; exact hx⟩, ⟨⟨u, ?_⟩, ti.at fun o q => (sb.2 ite (Ne.symm ne)).trans q, ne⟩, fun b hb => ?_⟩
    · rw [show ((i + 1 : Nat) : Int) = (i : Int) + 1 by omega]; exact ke
    · have lb : b < s.heap.objs.size := by
        rcases List.mem_cons.1 hb with z | z
        · rw [z]; exact l1
        · rw [List.mem_singleton.1 z]; exact l2
      rw [upd_ne (Nat.ne_of_lt lb)]
      exact (hf b hb).1
  done := by
    intro X hP hw hK hc i pins s σ H E I hf st hg
    subst hP hw hK
    obtain ⟨⟨was, k0⟩, t0, ne⟩ := st
    obtain ⟨xs, hq, hx⟩ := hg
    obtain ⟨vs, rv, p, hz⟩ := I.tuple hq
    obtain ⟨f0, f1, f2, f3, f4, f5⟩ := hf ite (by simp)
    have hl := rv.length
    exact pyE_end (I.ok.hd hc) k0 t0 p (by simp; omega) fun hp up => ⟨rfl, I.turned (t' := s.toks) (fun b o nb q => up b o nb q) f0 f1 f3 f4 f5⟩
  self := fun A i s Q E st h => by
    obtain ⟨⟨_, k0⟩, _⟩ := st
    exact wpAny_pyIter_enum k0 h
/-- a list or a tuple -/
def iEnA (K : PySem.W.Frag) (ta : TA) : TI := fun σ H R => ta σ H fun vs H1 => ∃ a xs, vs = [V.ref a] ∧ ((SqL K H1 a xs ∧ R (Ite K a) H1) ∨ (SqT K H1 a xs ∧ R (IteT K a) H1))
theorem pi_enA {X : Cx} {e : Expr} {ta : TA} {p pos tpos : Pos} {elts : List Expr} {kk : Nat} (hg : Gl X "enumerate") (hm : X.mg "enumerate" = none) (ha : PA X [e] ta) (hs : starEach [e] X.env = [(false, eval e X.env)]) :
    PI X (.Tuple elts kk tpos) (.Call (.Name "enumerate" p) [e] [] pos) (iEnA X.K ta) := by
  refine ⟨fun pins s σ H R I h => ?_⟩
  refine Call_ (ld_blt I hg hm boot_enumerate (PyProof.Rows.callWith_type1 (thn (ha.run pos pins s σ H _ I h) fun us s1 ⟨vs, H1, I1, r1, q1⟩ => ?_) hs rfl))
  obtain ⟨a, xs, ex, q1⟩ := q1
  subst ex
  cases r1 with
  | cons r rr =>
    cases rr
    cases r
    have new2 : ∀ b, b ∈ [s1.heap.objs.size + 1, s1.heap.objs.size] → FpOk X pins H1 b := fun b hb => by
      have hle : s1.heap.objs.size ≤ b := by
        rcases List.mem_cons.1 hb with z | z
        · rw [z]; exact Nat.le_add_right _ _
        · rw [List.mem_singleton.1 z]; exact Nat.le_refl _
      exact I1.fpOk hle (I1.hok.fresh hle)
    rcases q1 with ⟨hq, q⟩ | ⟨hq, q⟩
    · obtain ⟨its, rv, p', hz⟩ := I1.list hq
      refine call_enumerate_list p'.isList fun hp ke ti sz up => wpAny_pyIter_enum ke ?_
      have I2 : Inv X pins σ H1 { s1 with heap := hp } := I1.kept (t' := s1.toks) up
      exact ⟨s1.heap.objs.size + 1, _, _, _, H1, rfl, I2, turn_enum a (s1.heap.objs.size + 1) s1.heap.objs.size, ⟨⟨.none, ke⟩, ti, Nat.succ_ne_self _⟩, new2, q⟩
    · obtain ⟨its, rv, p', hz⟩ := I1.tuple hq
      refine callE (show s1.heap.IsTuple a its.toArray from p') fun hp ke ti sz up => wpAny_pyIter_enum ke ?_
      have I2 : Inv X pins σ H1 { s1 with heap := hp } := I1.kept (t' := s1.toks) up
      exact ⟨s1.heap.objs.size + 1, _, _, _, H1, rfl, I2, turnE a (s1.heap.objs.size + 1) s1.heap.objs.size, ⟨⟨.none, ke⟩, ti, Nat.succ_ne_self _⟩, new2, q⟩
end RE
namespace Dm
open PySem PySem.Spec L2
theorem walk_enT {K : PySem.W.Frag} {M : Hp} {a : Addr} {vs : List V} {xs : List D} (h : SqT K M a vs) (q : Ats K M vs xs) : Walk K M (RE.IteT K a) (enD xs) where
  go := fun i H le hi => ⟨vs, vs[i]'(by rw [q.length]; rw [enD_length] at hi; exact hi), le.sqT h, List.getElem?_eq_getElem _⟩
  yld := fun i H x H' le hi y => by
    rw [enD_length] at hi
    obtain ⟨T, z, e1, e2, e3, y⟩ := y
    obtain ⟨d, a1, a2⟩ := q.getV (y vs (le.sqT h))
    refine ⟨.tup [.int (i : Nat), d], ?_, .inr ⟨T, _, _, e1, e2, e3, rfl, .cons (.int _) (.cons a2 .nil)⟩⟩
    unfold enD
    rw [List.getElem?_map, List.getElem?_range hi]
    show some (D.tup [.int (i : Nat), xs.getD i .non]) = _
    rw [List.getD_eq_getElem?_getD, a1]; rfl
  stop := fun i H le hi => ⟨vs, le.sqT h, by rw [q.length]; rw [enD_length] at hi; exact hi⟩
def mEnA (m : ME) : MI := fun s => (m s).bind fun p => (frz p.1 p.2).bind fun q => (seqD q.1).bind fun xs => some (enD xs, q.2)
theorem si_enA {c : Cd} {e : Expr} {p pos : Pos} {m : ME} {elts : List Expr} {kk : Nat} {tpos : Pos} (hg : ∀ X : Cx, Fits c X → Gl X "enumerate") (hm : c.mg "enumerate" = none) (h : SE c e m) (hs : ∀ env, starEach [e] env = [(false, eval e env)] := by intro _; rfl) (hs1 : ∀ env, starEach [e] env = (false, eval e env) :: starEach [] env := by intro _; rfl) :
    SI c (.Tuple elts kk tpos) (.Call (.Name "enumerate" p) [e] [] pos) (mEnA m) := by
  obtain ⟨t, pe, sd⟩ := h
  refine ⟨RE.iEnA c.K (tCons t tNil), fun X g => by have := RE.pi_enA (X := X) (elts := elts) (kk := kk) (tpos := tpos) (p := p) (pos := pos) (hg X g) (by rw [g.mg]; exact hm) (pa_cons (pe X g) pa_nil (hs1 X.env)) (hs X.env); rw [g.K] at this; exact this, fun σ s M H xs s' e rel RR q => ?_⟩
  obtain ⟨⟨r1, s1⟩, e1, e⟩ := bd e
  obtain ⟨⟨d, s2⟩, e2, e⟩ := bd e
  obtain ⟨zs, e3, e⟩ := bd e
  cases e
  refine sd σ s M H r1 s1 e1 rel _ fun v M1 H1 k => ?_
  obtain ⟨M2, k2⟩ := frz_ok k e2
  have ha : At c.K M2 v d := k2.held
  cases d <;> try (cases e3; done)
  · cases e3
    cases ha with
    | tup h1 h2 => exact ⟨_, _, rfl, .inr ⟨k2.rel.le.sqT h1, q _ M2 H1 k2.t (walk_enT h1 h2)⟩⟩
  · cases e3
    cases ha with
    | lst h1 h2 => exact ⟨_, _, rfl, .inl ⟨k2.rel.le.sqL h1, q _ M2 H1 k2.t (walk_en h1 h2)⟩⟩
end Dm
set_option Elab.async false
set_option linter.all false
set_option maxRecDepth 100000
set_option maxHeartbeats 4000000
namespace Dm
open PySem PySem.Spec L2
set_option autoImplicit false
/-! ### x, y = e, [..], where a comprehension sees one of the names -/
theorem sound_parC {K : PySem.W.Frag} {i j : Nat} {t : TA} {ms : MA} (sd : SoundA K t ms) : SoundS K (tAsg (tTup t) (gTup K 2 (gCons (gName i) (gCons (gName j) gNil)))) (mPar i j ms) := fun σ s M H o e rel E h => by
  obtain ⟨⟨rs, s1⟩, e1, e⟩ := bd e
  refine sd σ s M H rs s1 e1 rel _ fun vs M1 H1 k => ?_
  simp only at e
  split at e
  · rename_i rs' d r
    split at e
    · rename_i hpl
      obtain ⟨s2, e2, e⟩ := bd e
      obtain ⟨s3, e3, e⟩ := bd e
      cases e
      obtain ⟨kg, kr, kh, kn⟩ := k
      cases kh with
      | cons h1 kh =>
        cases kh with
        | cons h2 kh =>
          cases kh
          cases kn with
          | cons n1 kn =>
            cases kn with
            | cons n2 kn =>
              rename_i v w
              refine ⟨by show 2 ≤ sizeLine; decide, fun p hp => ⟨p, [v, w], rfl, SqT.of upd_same, rfl, v, [w], rfl, w, [], rfl, rfl, ?_⟩⟩
              have up := le_upd (o := HO.tup [v, w]) hp
              have g : Go σ s1 M1 H1 σ s1 M1 (upd H1 p (.tup [v, w])) := Go.grow (Le.refl _) up fun a o _ z => z
              have r2 : Rel K M1 (upd H1 p (.tup [v, w])) σ s1 := kr.grow (Le.refl _) up (kr.le.trans up) fun a o _ z => z
              have k1 := put_ok2 (v := v) ⟨kg.trans g, r2⟩ (h1.go g r2) n1 rfl e2
              have hd := (put_eq e2).1 d rfl
              subst hd
              exact h _ M1 _ (put_ok2 k1 ((h2.go g r2).put hpl) n2 hpl e3)
    · cases e
  · cases e
section
variable {c : Cd} {pos : Pos}
theorem ss_parC (i j : Nat) {x y : Str} {a b : Expr} {px py pt : Pos} {kt k2 : Nat} {pt2 : Pos} {ms : MA} (ha : SA c [a, b] ms) (hN : ndB c.N = true := by rfl) (hi : c.N[i]? = some x := by rfl) (hj : c.N[j]? = some y := by rfl)
    (hx : Loc c.sc x := by first | exact .inl rfl | exact .inr rfl) (hy : Loc c.sc y := by first | exact .inl rfl | exact .inr rfl) (ht : c.top = true := by rfl) (hw : swappedStores [.Tuple [.Name x px, .Name y py] kt pt] (.Tuple [a, b] k2 pt2) (envAt c.sc) = pure none := by rfl)
    (hs : ∀ env, swapsWithSole [.Tuple [.Name x px, .Name y py] kt pt] (.Tuple [a, b] k2 pt2) pos.line env = pure false := by intro _; rfl) (h1 : ∀ env, (assignEach [.Tuple [.Name x px, .Name y py] kt pt] env).map (·.2) = [assign (.Tuple [.Name x px, .Name y py] kt pt) env] := by intro _; rfl) :
    SS c (.Assign [.Tuple [.Name x px, .Name y py] kt pt] (.Tuple [a, b] k2 pt2) pos) (mPar i j ms) := by
  obtain ⟨t, pa, sd⟩ := ha
  refine ⟨_, fun X g => ps_asg (pe_tup (pa X g)) ?_ (hs X.env) ((sw_scope (b := envAt c.sc) g.sc).trans hw) (h1 X.env), sound_parC sd⟩
  have nm : ∀ {z : Str} {q : Nat} {pz : Pos}, c.N[q]? = some z → Loc c.sc z → PG X (.Name z pz) (gName q) := fun hq hz => pg_name (by rw [g.N]; exact ndOf hN) (by rw [g.N]; exact hq) (by rw [g.sc]; exact hz) (.inl (g.fn ht _))
  have := pg_tup (X := X) (pos := pt) (k := kt) (n := 2) g.calm (pgs_cons (nm (pz := px) hi hx) (pgs_cons (nm (pz := py) hj hy) pgs_nil rfl) rfl) rfl rfl
  rw [g.K] at this
  exact this
end
/-! ### list + list, whatever the lists are -/
def rCatL (K : PySem.W.Frag) : R2 := fun x y H Q => ∃ a b xs ys, x = .ref a ∧ y = .ref b ∧ SqL K H a xs ∧ SqL K H b ys ∧ xs.length + ys.length ≤ sizeLine ∧ ∀ p, H p = none → Q (.ref p) (upd H p (.lst (xs ++ ys)))
theorem op_catL {X : Cx} : OpR X (binaryOp .Add) (rCatL X.K) := fun pins s σ H x y v u Q I rx ry h => by
  obtain ⟨a, b, xs, ys, ex, ey, ha, hb, hz, q⟩ := h
  subst ex ey
  cases rx
  cases ry
  obtain ⟨vs, r1, p1, _⟩ := I.list ha
  obtain ⟨us, r2, p2, _⟩ := I.list hb
  obtain ⟨⟨c1, d1, t1, l1⟩, n1, ho1, hc1, hd1, ht1⟩ := p1
  obtain ⟨⟨c2, d2, t2, l2⟩, n2, ho2, hc2, hd2, ht2⟩ := p2
  simp only at hc1 hd1 ht1 hc2 hd2 ht2
  subst hc1 hd1 ht1 hc2 hd2 ht2
  have sz : vs.toArray.size + us.toArray.size ≤ sizeLine := by rw [List.size_toArray, List.size_toArray, ← r1.length, ← r2.length]; exact hz
  refine PySem.concat_meets ⟨_, ho1, rfl⟩ ⟨_, ho2, rfl⟩ PySem.noFill_list_add PySem.seq_list_add PySem.F.slot_list_add PySem.F.entry_list_add (PySem.F.args_list_add_2 _ _) (PyProof.Rows.list_addW a b vs.toArray us.toArray n1 n2 none none l1 l2 sz) ⟨ho1, ho2, ?_⟩
  rw [show vs.toArray ++ us.toArray = (vs ++ us).toArray by simp]
  exact ⟨.ref _, _, I.lnew (t' := s.toks) (r1.append r2) (by rw [List.length_append]; exact hz), rfl, q _ I.fresh⟩
/-- the items of a list as it stands, with the slots -/
def mCatL (ma mb : ME) : ME := fun s => (ma s).bind fun p => (mb p.2).bind fun q => (peek p.1 q.2).bind fun d => (peek q.1 q.2).bind fun e => match d, e with
  | .lst xs, .lst ys => if xs.length + ys.length ≤ 100000 then some (.own (xs ++ ys), q.2) else none
  | _, _ => none
theorem se_catL {c : Cd} {a b : Expr} {pos : Pos} {ma mb : ME} (ha : SE c a ma) (hb : SE c b mb) : SE c (.BinOp a .Add b pos) (mCatL ma mb) := by
  obtain ⟨ta, pa, sa⟩ := ha
  obtain ⟨tb, pb, sb⟩ := hb
  refine ⟨tOp (rCatL c.K) ta tb, fun X g => by have := op_catL (X := X); rw [g.K] at this; exact pe_op this (pa X g) (pb X g), fun σ s M H r s' e rel Q q => ?_⟩
  obtain ⟨⟨r1, s1⟩, e1, e⟩ := bd e
  obtain ⟨⟨r2, s2⟩, e2, e⟩ := bd e
  obtain ⟨d, e3, e⟩ := bd e
  obtain ⟨d', e4, e⟩ := bd e
  simp only at e
  split at e
  · rename_i xs ys
    split at e
    · rename_i hc
      cases e
      refine sa σ s M H r1 s1 e1 rel _ fun v M1 H1 o1 => sb σ s1 M1 H1 r2 _ e2 o1.rel _ fun w M2 H2 o2 => ?_
      obtain ⟨g, hd⟩ := o1.then o2
      obtain ⟨l, vs, hv, h1, h2⟩ := hd.list o2.rel e3
      obtain ⟨l', ws, hw, h3, h4⟩ := o2.held.list o2.rel e4
      exact ⟨l, l', vs, ws, hv, hw, h1, h3, sz_of (by rw [h2.length, h4.length]; exact hc), fun p hp => q _ _ _ (.behind ⟨g, o2.rel⟩ (ok_lst o2.rel hp (h2.append h4)))⟩
    · cases e
  · cases e
/-! ### int(x) of a truth -/
def fIntB : List D → Option D
  | [.bl k] => some (.int (if k then 1 else 0))
  | _ => none
theorem sc_intB {K : PySem.W.Frag} : Sc1 K (rInt1 K) fIntB := fun H vs ds z h e => by
  unfold fIntB at e
  split at e
  · rename_i k
    cases e
    obtain ⟨v, hv, ha⟩ := ats1 h
    subst hv
    cases ha
    exact ⟨_, fun _ => .int _, fun Q q => .inr ⟨k, rfl, q⟩⟩
  · cases e
/-! ### range(i, j, c), c above 0 -/
def fRg3p : FR
  | [.int i, .int j, .int c] => if small i && small j && small c && decide (0 < c) then some (i, ((j - i + c - 1) / c).toNat, c) else none
  | _ => none
end Dm
set_option Elab.async false
set_option linter.all false
set_option maxRecDepth 100000
set_option maxHeartbeats 4000000
namespace Dm
open PySem PySem.Spec L2
set_option autoImplicit false
/-! ### range(i, j, c), c above 0 -/
def fRgP : FR
  | [.int i, .int j, .int c] => if small i && small j && small c && decide (0 < c) then some (i, (Builtin.Range.rangeSize i j c).toNat, c) else none
  | _ => none
theorem rgp_nn (a b c : Int) (hc : 0 < c) : 0 ≤ Builtin.Range.rangeSize a b c ∧ Builtin.Range.rangeSize a b c ≤ (((b - a).toNat + (a - b).toNat : Nat) : Int) := by
  unfold Builtin.Range.rangeSize
  rw [if_pos (by omega)]
  split
  · have h1 := Int.ediv_le_self c (show (0 : Int) ≤ b - a - 1 by omega)
    have h2 := Int.ediv_nonneg (a := b - a - 1) (b := c) (by omega) (by omega)
    omega
  · omega
theorem RgC.pos {i j c : Int} (hi : small i = true) (hj : small j = true) (hs : small c = true) (hc : 0 < c) : RgC i j c (Builtin.Range.rangeSize i j c).toNat := by
  obtain ⟨b1, b2⟩ := rgp_nn i j c hc
  have q1 : -1000000000 ≤ i ∧ i ≤ 1000000000 := by unfold small at hi; rw [Bool.and_eq_true, decide_eq_true_eq, decide_eq_true_eq] at hi; exact hi
  have q2 : -1000000000 ≤ j ∧ j ≤ 1000000000 := by unfold small at hj; rw [Bool.and_eq_true, decide_eq_true_eq, decide_eq_true_eq] at hj; exact hj
  have q3 : -1000000000 ≤ c ∧ c ≤ 1000000000 := by unfold small at hs; rw [Bool.and_eq_true, decide_eq_true_eq, decide_eq_true_eq] at hs; exact hs
  refine ⟨by omega, by omega, ?_, by omega⟩
  unfold Builtin.Range.small
  generalize Builtin.Range.rangeSize i j c = n at *
  simp only [Builtin.Range.rangeFitsLong, Bool.and_eq_true, Bool.or_eq_true, decide_eq_true_eq, beq_iff_eq, show c > 0 from hc, if_true]
  omega
section
variable {c : Cd} {tg e a b : Expr} {es : List Expr} {p pos : Pos} {m : ME} {ms : MA}
theorem sound_rngP {K : PySem.W.Frag} {ta : TA} {ms : MA} (sa : SoundA K ta ms) : SoundI K (iRng3 ta) (mRng fRgP ms) := fun σ s M H xs s' e rel RR q => by
  obtain ⟨⟨rs, s1⟩, e1, e⟩ := bd e
  obtain ⟨ds, e2, e⟩ := bd e
  obtain ⟨z, e3, e⟩ := bd e
  cases e
  refine sa σ s M H rs _ e1 rel _ fun vs M1 H1 o => ?_
  have hats := o.held.ats o.rel e2
  unfold fRgP at e3
  split at e3
  · split at e3
    · rename_i i j k hs
      cases e3
      rw [Bool.and_eq_true, Bool.and_eq_true, Bool.and_eq_true, decide_eq_true_eq] at hs
      exact ⟨_, _, _, _, atsI3 hats, RgC.pos hs.1.1.1 hs.1.1.2 hs.1.2 hs.2, q _ M1 H1 o.t walk_c⟩
    · cases e3
  · cases e3
theorem si_rngP {a3 : Expr} (hg : ∀ X : Cx, Fits c X → Gl X "range") (hm : c.mg "range" = none) (ha : SA c [a, b, a3] ms) (hs : ∀ env, starEach [a, b, a3] env = (false, eval a env) :: starEach [b, a3] env := by intro _; rfl) (hpl : ∀ env, (backTo pos (starEach [b, a3] env)).any (·.1) = false := by intro _; rfl) :
    SI c tg (.Call (.Name "range" p) [a, b, a3] [] pos) (mRng fRgP ms) := by
  obtain ⟨t, pa, sd⟩ := ha
  exact ⟨_, fun X g => pi_range3 (hg X g) (by rw [g.mg]; exact hm) (pa X g) (hs X.env) (hpl X.env), sound_rngP sd⟩
end
end Dm
set_option Elab.async false
set_option linter.all false
set_option maxRecDepth 100000
set_option maxHeartbeats 4000000
namespace Dm
open PySem PySem.Spec L2 PyProof.Rows
set_option autoImplicit false
/-! ### t * n, n from 1 on -/
theorem tuple_mul1 (l : Addr) (items : Array Value) (n : Nat) (dd : Option Addr) (sl : Array (Option Value)) (u : Tok) :
    Meets (Builtin.«tuple.__mul__» ⟨[.ref l, .int 1 u], []⟩) (fun _ R s => s.heap.get? l = some { cls := .type "tuple", dict := dd, data := .seq items n, slots := sl } ∧ R (.ok (.ret (.ref l))) s) :=
  .of_wp fun prog w A R s h => by
    obtain ⟨hp, g, d, tk, os⟩ := s
    obtain ⟨hl, h⟩ := h
    have f1 := AutoSeq1.idx_int
    have c0 : (decide ((1 : Int) < -(2 ^ 63)) || decide ((1 : Int) ≥ 2 ^ 63)) = false := by decide
    have c1 : (items.isEmpty || (1 : Int) == 1) = true := by rw [show ((1 : Int) == 1) = true from rfl, Bool.or_true]
    wp_walk using wpAny_loadPart' hl
    repeat (first
      | (refine wpAny_ite_false (decide_eq_false (by rw [c0]; exact Bool.false_ne_true)) ?_; wp_walk using wpAny_loadPart' hl)
      | (refine wpAny_ite_true (decide_eq_true (by rw [c1])) ?_; wp_walk using wpAny_loadPart' hl))
    exact ⟨_, rfl, h⟩
def rRepTA (K : PySem.W.Frag) : R2 := fun x y H Q => ∃ l k xs, x = .ref l ∧ y = .int k ∧ SqT K H l xs ∧ ((k = 1 ∧ Q (.ref l) H) ∨ (xs ≠ [] ∧ 2 ≤ k ∧ k ≤ 1000 ∧ xs.length ≤ 1000 ∧ ∀ p, H p = none → Q (.ref p) (upd H p (.tup (List.replicate k.toNat xs).flatten))))
theorem op_repTA {X : Cx} : OpR X (binaryOp .Mult) (rRepTA X.K) := by
  intro pins s σ H x y v u Q I rx ry h
  obtain ⟨l, k, xs, rfl, rfl, hT, ⟨rfl, q⟩ | ⟨hne, h1, h2, hz, q⟩⟩ := h
  · cases rx
    obtain ⟨t, rfl⟩ := ry
    obtain ⟨its, r, ⟨⟨cls, dd, data, sl⟩, ho, hc, n, hd⟩, hs⟩ := I.tuple hT
    simp only at hc hd
    subst hc hd
    refine wpAny_binaryOp_repeat_ref (T := "tuple") (U := "int") (by decide) ⟨_, ho, rfl⟩ (fun s' => typeIs_int s' 1 t) noFill_tuple_mul F.fills_int_mul F.slot_int_rmul repeat_tuple F.slot_int_index.lookup
      (call_meets F.slot_int_rmul (typeIs_int s 1 t) F.entry_int_rmul (F.args_int_rmul_2 _ _) (int_rmul_tuple 1 t l its.toArray n dd sl)
        ⟨ho, rfl, ⟨_, ho, rfl⟩, call_meets F.slot_tuple_mul ⟨_, ho, rfl⟩ F.entry_tuple_mul (F.args_tuple_mul_2 _ _) (tuple_mul1 l its.toArray n dd sl t) ⟨ho, ?_⟩⟩)
    exact ⟨.ref l, H, I, rfl, q⟩
  · exact op_repT pins s σ H (.ref l) (.int k) v u Q I rx ry ⟨l, k, xs, rfl, rfl, hT, hne, h1, h2, hz, q⟩
section
variable {c : Cd} {a b : Expr} {pos : Pos} {ma mb : ME}
def mRepTA (ma mb : ME) : ME := fun s => (ma s).bind fun p => (mb p.2).bind fun q => (peek q.1 q.2).bind fun e => (asI e).bind fun k => match p.1 with
  | .val (.tup xs) => if k = 1 then some (.val (.tup xs), q.2) else if 0 < xs.length ∧ xs.length ≤ 1000 ∧ 2 ≤ k ∧ k ≤ 1000 then some (.val (.tup (List.replicate k.toNat xs).flatten), q.2) else none
  | _ => none
theorem se_repTA (ha : SE c a ma) (hb : SE c b mb) : SE c (.BinOp a .Mult b pos) (mRepTA ma mb) := by
  obtain ⟨ta, pa, sa⟩ := ha
  obtain ⟨tb, pb, sb⟩ := hb
  refine ⟨tOp (rRepTA c.K) ta tb, fun X g => by have := op_repTA (X := X); rw [g.K] at this; exact pe_op this (pa X g) (pb X g), fun σ s M H r s' e rel Q q => ?_⟩
  obtain ⟨⟨r1, s1⟩, e1, e⟩ := bd e
  obtain ⟨⟨r2, s2⟩, e2, e⟩ := bd e
  obtain ⟨d, e3, e⟩ := bd e
  obtain ⟨k, e4, e⟩ := bd e
  simp only at e
  split at e
  · refine sa σ s M H _ s1 e1 rel _ fun v M1 H1 o1 => sb σ s1 M1 H1 r2 _ e2 o1.rel _ fun w M2 H2 o2 => ?_
    obtain ⟨g, hd⟩ := o1.then o2
    have hv : At c.K M2 v (.tup _) := hd
    have hw := asI_at (o2.held.at o2.rel e3) e4
    subst hw
    split at e
    · rename_i xs hk
      cases e
      have z0 := hv
      cases hv with
      | tup h1 h2 => exact ⟨_, k, _, rfl, rfl, o2.rel.le.sqT h1, .inl ⟨hk, q _ M2 H2 (.behind ⟨g, o2.rel⟩ (.same (r := .val _) o2.rel z0 trivial))⟩⟩
    · split at e
      · rename_i xs hk hc
        cases e
        cases hv with
        | tup h1 h2 =>
          have hl := h2.length
          refine ⟨_, k, _, rfl, rfl, o2.rel.le.sqT h1, .inr ⟨fun z => ?_, hc.2.2.1, hc.2.2.2, by rw [hl]; exact hc.2.1, fun p hp => q _ _ _ (.behind ⟨g, o2.rel⟩ (ok_tup o2.rel hp (h2.rep k.toNat)))⟩⟩
          rw [z] at hl
          have := hc.1
          rw [← hl] at this
          exact absurd this (by decide)
      · cases e
  · cases e
end
end Dm
set_option Elab.async false
set_option linter.all false
set_option maxRecDepth 100000
set_option maxHeartbeats 4000000
namespace Dm
open PySem PySem.Spec L2 PyProof.Rows
set_option autoImplicit false
/-! ### list(range(..)), tuple(range(..)) -/
abbrev TRg := L2.St → Hp → (Int → Int → Nat → Hp → Prop) → Prop
/-- an expression that makes a range: its start, step and length -/
def PRc (X : Cx) (e : Expr) (t : TRg) : Prop :=
  ∀ (pins : List (Addr × Obj)) (s : Shared) (σ : L2.St) (H : Hp) (Q : Int → Int → Nat → Hp → Prop), Inv X pins σ H s → t σ H Q →
    wpAny (model X.prog X.w) X.A (eval e X.env) (fun x s' => ∃ r a b c t u v n H', x = .ref r ∧ IsRange s'.heap r a b c t u v ∧ RgC a b c n ∧ n ≤ 2 ^ 24 ∧ Inv X pins σ H' s' ∧ Q a c n H') X.xe s
def tRc1 (ta : TA) : TRg := fun σ H Q => ta σ H fun vs H1 => ∃ j n, vs = [.int j] ∧ RgC 0 j 1 n ∧ n ≤ 2 ^ 24 ∧ Q 0 1 n H1
def tRc2 (ta : TA) : TRg := fun σ H Q => ta σ H fun vs H1 => ∃ i j n, vs = [.int i, .int j] ∧ RgC i j 1 n ∧ n ≤ 2 ^ 24 ∧ Q i 1 n H1
def tRc3 (ta : TA) : TRg := fun σ H Q => ta σ H fun vs H1 => ∃ i j c n, vs = [.int i, .int j, .int c] ∧ RgC i j c n ∧ n ≤ 2 ^ 24 ∧ Q i c n H1
section
variable {X : Cx}
theorem prc_1 {a : Expr} {ta : TA} {p pos : Pos} (hg : Gl X "range") (hm : X.mg "range" = none) (ha : PA X [a] ta) (hs : starEach [a] X.env = [(false, eval a X.env)] := by rfl) : PRc X (.Call (.Name "range" p) [a] [] pos) (tRc1 ta) := by
  intro pins s σ H Q I h
  refine Call_ (ld_blt I hg hm boot_range (PyProof.Rows.callWith_type1 (thn (ha.run pos pins s σ H _ I h) fun us s1 ⟨vs, H1, I1, r1, q1⟩ => ?_) hs))
  obtain ⟨j, n, e, rc, hn, q⟩ := q1
  subst e
  cases r1 with
  | cons r rr =>
    cases rr
    obtain ⟨t, rfl⟩ := r
    exact call_range_1 ⟨_, 0, j, 1, _, _, _, n, H1, rfl, IsRange.new _ _ _ _ _ _ _, rc, hn, I1.kept fun b u e => Heap.get?_push_of_some _ e, q⟩
theorem prc_2 {a b : Expr} {ta : TA} {p pos : Pos} (hg : Gl X "range") (hm : X.mg "range" = none) (ha : PA X [a, b] ta) (hs : starEach [a, b] X.env = (false, eval a X.env) :: starEach [b] X.env := by rfl) (hpl : (backTo pos (starEach [b] X.env)).any (·.1) = false := by rfl) : PRc X (.Call (.Name "range" p) [a, b] [] pos) (tRc2 ta) := by
  intro pins s σ H Q I h
  refine Call_ (ld_blt I hg hm boot_range (PyProof.Rows.callWith_type1 (thn (ha.run pos pins s σ H _ I h) fun us s1 ⟨vs, H1, I1, r1, q1⟩ => ?_) hs hpl))
  obtain ⟨i, j, n, e, rc, hn, q⟩ := q1
  subst e
  cases r1 with
  | cons r rr =>
    cases rr with
    | cons r' rr =>
      cases rr
      obtain ⟨t, rfl⟩ := r
      obtain ⟨t', rfl⟩ := r'
      exact call_range_2 ⟨_, i, j, 1, _, _, _, n, H1, rfl, IsRange.new _ _ _ _ _ _ _, rc, hn, I1.kept fun b u e => Heap.get?_push_of_some _ e, q⟩
theorem prc_3 {a b c : Expr} {ta : TA} {p pos : Pos} (hg : Gl X "range") (hm : X.mg "range" = none) (ha : PA X [a, b, c] ta) (hs : starEach [a, b, c] X.env = (false, eval a X.env) :: starEach [b, c] X.env := by rfl) (hpl : (backTo pos (starEach [b, c] X.env)).any (·.1) = false := by rfl) : PRc X (.Call (.Name "range" p) [a, b, c] [] pos) (tRc3 ta) := by
  intro pins s σ H Q I h
  refine Call_ (ld_blt I hg hm boot_range (PyProof.Rows.callWith_type1 (thn (ha.run pos pins s σ H _ I h) fun us s1 ⟨vs, H1, I1, r1, q1⟩ => ?_) hs hpl))
  obtain ⟨i, j, k, n, e, rc, hn, q⟩ := q1
  subst e
  cases r1 with
  | cons r rr =>
    cases rr with
    | cons r' rr =>
      cases rr with
      | cons r'' rr =>
        cases rr
        obtain ⟨t, rfl⟩ := r
        obtain ⟨t', rfl⟩ := r'
        obtain ⟨t'', rfl⟩ := r''
        exact call_range_3 rc.1 ⟨_, i, j, k, _, _, _, n, H1, rfl, IsRange.new _ _ _ _ _ _ _, rc, hn, I1.kept fun b u e => Heap.get?_push_of_some _ e, q⟩ (.inl (PyProof.noPylong_small rc.2.1))
def rcV (a c : Int) (n : Nat) : List V := (List.range n).map fun i => V.int (a + (i : Nat) * c)
theorem rcV_length (a c : Int) (n : Nat) : (rcV a c n).length = n := by unfold rcV; rw [List.length_map, List.length_range]
theorem vals_rc {a c : Int} {n : Nat} {acc : Array Value} (h : ItemsOf (fun i v => ∃ t, v = .int (a + i * c) t) acc n) : Vals (rcV a c n) acc.toList := by
  have e : acc.toList.length = n := by rw [Array.length_toList]; exact h.1
  unfold rcV
  rw [← e]
  refine vals_of_get acc.toList _ fun j u hj => ?_
  obtain ⟨t, rfl⟩ := h.2 j u (by rw [← hj, Array.getElem?_toList])
  exact ⟨t, rfl⟩
variable {e : Expr} {te : TRg}
def tLstC (te : TRg) : TE := fun σ H Q => te σ H fun a c n H1 => ∀ q, H1 q = none → Q (.ref q) (upd H1 q (.lst (rcV a c n)))
def tTupC (te : TRg) : TE := fun σ H Q => te σ H fun a c n H1 => ∀ q, H1 q = none → Q (.ref q) (upd H1 q (.tup (rcV a c n)))
theorem pe_listC {p pos : Pos} (hc : X.calm = true) (hg : Gl X "list") (hm : X.mg "list" = none) (he : PRc X e te) (na : starEach [e] X.env = (false, eval e X.env) :: starEach [] X.env := by rfl) : PE X (.Call (.Name "list" p) [e] [] pos) (tLstC te) := by
  refine ⟨fun pins s σ H Q I h => ?_⟩
  refine Call_ (ld_blt I hg hm boot_list (PyProof.Rows.callWith_type1 (args_cons (thn (he pins s σ H _ I h) fun x s1 ⟨r, a, b, c, t, u, v, n, H1, ex, hr, rc, hn, I1, q⟩ => args_nil ?_) na) na))
  subst ex
  obtain ⟨c0, c1, c2, c3⟩ := rc
  refine call_list_range (n := n) (I1.ok.hd hc) hr c2 c3 hn fun h' tk acc c' hk e' hi => ?_
  refine ⟨.ref s1.heap.objs.size, upd H1 s1.heap.objs.size (.lst (rcV a c n)), I1.laid hk (Nat.le_refl _) (show ObjOk X.prog X.w _ _ _ (.lst (rcV a c n)) from ⟨?_, acc.toList, c', vals_rc hi, ?_⟩), rfl, q _ (I1.hok.fresh (Nat.le_refl _))⟩
  · rw [rcV_length, sizeLine_eq]; omega
  · rw [Array.toArray_toList]; exact e'
theorem pe_tupC {p pos : Pos} (hc : X.calm = true) (hg : Gl X "tuple") (hm : X.mg "tuple" = none) (he : PRc X e te) (na : starEach [e] X.env = (false, eval e X.env) :: starEach [] X.env := by rfl) : PE X (.Call (.Name "tuple" p) [e] [] pos) (tTupC te) := by
  refine ⟨fun pins s σ H Q I h => ?_⟩
  refine Call_ (ld_blt I hg hm boot_tuple (PyProof.Rows.callWith_type1 (args_cons (thn (he pins s σ H _ I h) fun x s1 ⟨r, a, b, c, t, u, v, n, H1, ex, hr, rc, hn, I1, q⟩ => args_nil ?_) na) na))
  subst ex
  obtain ⟨c0, c1, c2, c3⟩ := rc
  refine call_tuple_range (n := n) (I1.ok.hd hc) hr c2 c3 hn fun h' tk acc hk hi => ?_
  have I2 : Inv X pins σ H1 { s1 with heap := h', toks := tk } := I1.kept hk
  refine ⟨.ref h'.objs.size, upd H1 h'.objs.size (.tup (rcV a c n)), I2.laid (t' := tk) (fun c o e => Heap.get?_push_of_some _ e) (Nat.le_refl _) (show ObjOk X.prog X.w _ _ _ (.tup (rcV a c n)) from ⟨?_, acc.toList, vals_rc hi, ?_⟩), rfl, q _ (I2.hok.fresh (Nat.le_refl _))⟩
  · rw [rcV_length, sizeLine_eq]; omega
  · rw [Array.toArray_toList]; exact IsTup.new _ _
end
/-! in the layer -/
abbrev MR := S → Option ((Int × Nat × Int) × S)
def SoundR (K : PySem.W.Frag) (t : TRg) (m : MR) : Prop :=
  ∀ (σ : L2.St) (s : S) (M H : Hp) (r : Int × Nat × Int) (s' : S), m s = some (r, s') → Rel K M H σ s → ∀ Q : Int → Int → Nat → Hp → Prop, (∀ M' H', OkT K σ s M H s' M' H' → Q r.1 r.2.2 r.2.1 H') → t σ H Q
def SR (c : Cd) (e : Expr) (m : MR) : Prop := ∃ t : TRg, (∀ X, Fits c X → PRc X e t) ∧ SoundR c.K t m
def mRc (f : FR) (ms : MA) : MR := fun s => (ms s).bind fun p => (peeks p.1 p.2).bind fun ds => (f ds).bind fun r => if r.2.1 ≤ 100000 then some (r, p.2) else none
theorem RgC.one {i j : Int} (ha : small i = true) (hb : small j = true) : RgC i j 1 (j - i).toNat := by
  obtain ⟨b1, b2⟩ := small_ok ha
  obtain ⟨b3, b4⟩ := small_ok hb
  exact ⟨by decide, by decide, small_one b1 b2 b3 b4, rangeSize_nat i j⟩
section
variable {c : Cd} {a b : Expr} {p pos : Pos} {ms : MA}
theorem sr_rng1 (hg : ∀ X : Cx, Fits c X → Gl X "range") (hm : c.mg "range" = none) (ha : SA c [a] ms) (hs : ∀ env, starEach [a] env = [(false, eval a env)] := by intro _; rfl) : SR c (.Call (.Name "range" p) [a] [] pos) (mRc fRg1 ms) := by
  obtain ⟨t, pa, sa⟩ := ha
  refine ⟨_, fun X g => prc_1 (hg X g) (by rw [g.mg]; exact hm) (pa X g) (hs X.env), fun σ s M H r s' e rel Q q => ?_⟩
  obtain ⟨⟨rs, s1⟩, e1, e⟩ := bd e
  obtain ⟨ds, e2, e⟩ := bd e
  obtain ⟨z, e3, e⟩ := bd e
  split at e
  · rename_i hz
    cases e
    refine sa σ s M H rs _ e1 rel _ fun vs M1 H1 o => ?_
    have hats := o.held.ats o.rel e2
    unfold fRg1 at e3
    split at e3
    · split at e3
      · rename_i j hs
        cases e3
        have rc := RgC.one (i := 0) (j := j) (by decide) hs
        rw [Int.sub_zero] at rc
        exact ⟨_, _, atsI1 hats, rc, by simp only at hz; omega, q M1 H1 o.t⟩
      · cases e3
    · cases e3
  · cases e
theorem sr_rng2 (hg : ∀ X : Cx, Fits c X → Gl X "range") (hm : c.mg "range" = none) (ha : SA c [a, b] ms) (hs : ∀ env, starEach [a, b] env = (false, eval a env) :: starEach [b] env := by intro _; rfl) (hpl : ∀ env, (backTo pos (starEach [b] env)).any (·.1) = false := by intro _; rfl) : SR c (.Call (.Name "range" p) [a, b] [] pos) (mRc fRg2 ms) := by
  obtain ⟨t, pa, sa⟩ := ha
  refine ⟨_, fun X g => prc_2 (hg X g) (by rw [g.mg]; exact hm) (pa X g) (hs X.env) (hpl X.env), fun σ s M H r s' e rel Q q => ?_⟩
  obtain ⟨⟨rs, s1⟩, e1, e⟩ := bd e
  obtain ⟨ds, e2, e⟩ := bd e
  obtain ⟨z, e3, e⟩ := bd e
  split at e
  · rename_i hz
    cases e
    refine sa σ s M H rs _ e1 rel _ fun vs M1 H1 o => ?_
    have hats := o.held.ats o.rel e2
    unfold fRg2 at e3
    split at e3
    · split at e3
      · rename_i i j hs
        cases e3
        rw [Bool.and_eq_true] at hs
        exact ⟨_, _, _, atsI2 hats, RgC.one hs.1 hs.2, by simp only at hz; omega, q M1 H1 o.t⟩
      · cases e3
    · cases e3
  · cases e
theorem sr_rngP {a3 : Expr} (hg : ∀ X : Cx, Fits c X → Gl X "range") (hm : c.mg "range" = none) (ha : SA c [a, b, a3] ms) (hs : ∀ env, starEach [a, b, a3] env = (false, eval a env) :: starEach [b, a3] env := by intro _; rfl) (hpl : ∀ env, (backTo pos (starEach [b, a3] env)).any (·.1) = false := by intro _; rfl) : SR c (.Call (.Name "range" p) [a, b, a3] [] pos) (mRc fRgP ms) := by
  obtain ⟨t, pa, sa⟩ := ha
  refine ⟨_, fun X g => prc_3 (hg X g) (by rw [g.mg]; exact hm) (pa X g) (hs X.env) (hpl X.env), fun σ s M H r s' e rel Q q => ?_⟩
  obtain ⟨⟨rs, s1⟩, e1, e⟩ := bd e
  obtain ⟨ds, e2, e⟩ := bd e
  obtain ⟨z, e3, e⟩ := bd e
  split at e
  · rename_i hz
    cases e
    refine sa σ s M H rs _ e1 rel _ fun vs M1 H1 o => ?_
    have hats := o.held.ats o.rel e2
    unfold fRgP at e3
    split at e3
    · split at e3
      · rename_i i j k hs
        cases e3
        rw [Bool.and_eq_true, Bool.and_eq_true, Bool.and_eq_true, decide_eq_true_eq] at hs
        exact ⟨_, _, _, _, atsI3 hats, RgC.pos hs.1.1.1 hs.1.1.2 hs.1.2 hs.2, by simp only at hz; omega, q M1 H1 o.t⟩
      · cases e3
    · cases e3
  · cases e
theorem ats_rc {K : PySem.W.Frag} (M : Hp) (lo c : Int) (n : Nat) : Ats K M (rcV lo c n) (rgD lo n c) := by
  unfold rcV rgD
  induction List.range n with
  | nil => exact .nil
  | cons i l ih => exact .cons (.int _) ih
def mLstR (m : MR) : ME := fun s => (m s).bind fun p => some (.own (rgD p.1.1 p.1.2.1 p.1.2.2), p.2)
def mTupR (m : MR) : ME := fun s => (m s).bind fun p => some (.val (.tup (rgD p.1.1 p.1.2.1 p.1.2.2)), p.2)
variable {e : Expr} {m : MR}
theorem se_listR (hg : ∀ X : Cx, Fits c X → Gl X "list") (hm : c.mg "list" = none) (h : SR c e m) (na : ∀ env, starEach [e] env = (false, eval e env) :: starEach [] env := by intro _; rfl) : SE c (.Call (.Name "list" p) [e] [] pos) (mLstR m) := by
  obtain ⟨t, pa, sd⟩ := h
  refine ⟨_, fun X g => pe_listC g.calm (hg X g) (by rw [g.mg]; exact hm) (pa X g) (na X.env), fun σ s M H r s' e rel Q q => ?_⟩
  obtain ⟨⟨z, s1⟩, e1, e⟩ := bd e
  cases e
  exact sd σ s M H z _ e1 rel _ fun M1 H1 o p hp => q _ _ _ (.behind o (ok_lst o.rel hp (ats_rc M1 _ _ _)))
theorem se_tupR (hg : ∀ X : Cx, Fits c X → Gl X "tuple") (hm : c.mg "tuple" = none) (h : SR c e m) (na : ∀ env, starEach [e] env = (false, eval e env) :: starEach [] env := by intro _; rfl) : SE c (.Call (.Name "tuple" p) [e] [] pos) (mTupR m) := by
  obtain ⟨t, pa, sd⟩ := h
  refine ⟨_, fun X g => pe_tupC g.calm (hg X g) (by rw [g.mg]; exact hm) (pa X g) (na X.env), fun σ s M H r s' e rel Q q => ?_⟩
  obtain ⟨⟨z, s1⟩, e1, e⟩ := bd e
  cases e
  exact sd σ s M H z _ e1 rel _ fun M1 H1 o p hp => q _ _ _ (.behind o (ok_tup o.rel hp (ats_rc M1 _ _ _)))
end
end Dm
set_option Elab.async false
set_option linter.all false
set_option maxRecDepth 100000
set_option maxHeartbeats 4000000
namespace Dm
open PySem PySem.Spec PySem.W L2 PyProof.Rows
set_option autoImplicit false
/-! ### list(zip(a, b)), a and b lists: the pairs given out stay, so each is a new one -/
theorem zip_no_len : typeLookup (.type "zip") "__len__" = pure none := by rw [typeLookup_type, builtinLookup_eq_fast]; kernel_rfl
theorem zip_no_hint : typeLookup (.type "zip") "__length_hint__" = pure none := by rw [typeLookup_type, builtinLookup_eq_fast]; kernel_rfl
section
variable {prog : Program} {w : World} {A : Around} {s : Shared} {R : Result → Shared → Prop}
theorem init_zip {z TI TO S : Addr} (hz : IsZip s.heap z TI TO .none) (hS : s.heap.get? S = some { cls := .type "list", data := .seq #[] }) (hSz : S ≠ z)
    (key : ∀ h' c', (∀ c o, c ≠ S → s.heap.get? c = some o → h'.get? c = some o) → h'.get? S = some { cls := .type "list", dict := none, data := .seq #[] c', slots := #[] } →
      codeAny (model prog w) A (.builtin "list.extend.loop" ⟨[.ref S, .ref z, .none], []⟩) R { s with heap := h' }) :
    wpAny (model prog w) A.in1 (Builtin.«list.__init__» ⟨[.ref S, .ref z], []⟩)
      (fun fin s' => match fin with | .done f => R (.ok f) s' | .again c' => c'.quiet = true ∧ codeAny (model prog w) A c' R s') (fun e s' => R (.error e) s') s := by
  show wpAny _ A.in1 (do let old ← Builtin.List.listItems (.ref S); Builtin.List.listUpdate (.ref S) (fun _ => #[]); letGo old.toList.reverse; Builtin.List.listExtendWith (.ref S) (.ref z) .none) _ _ s
  refine wpAny_bind ?_
  unfold Builtin.List.listItems
  refine wpAny_bind (wpAny_seqItems hS rfl (wpAny_pure ?_))
  show wpAny _ A.in1 (updateSeq S (fun _ => #[]) >>= fun _ => letGo (#[] : Array Value).toList.reverse >>= fun _ => Builtin.List.listExtendWith (.ref S) (.ref z) .none) _ _ s
  refine wpAny_bind (wpAny_updateSeq hS rfl ?_)
  have hS₂ := Heap.get?_update_self (Obj.mapSeq (fun _ => (#[] : Array Value))) hS rfl
  have oth : ∀ b o, b ≠ S → s.heap.get? b = some o → (s.heap.update S (Obj.mapSeq (fun _ => (#[] : Array Value)))).get? b = some o :=
    fun b o hb e => (Heap.get?_update_other _ _ (Ne.symm hb)).trans e
  refine wpAny_bind (wpAny_letGo ?_)
  have hz2 := oth z _ (Ne.symm hSz) hz
  unfold Builtin.List.listExtendWith
  refine wpAny_bind (wpAny_typeOf (T := "zip") ⟨_, hz2, rfl⟩ ?_)
  have h1 : Builtin.List.listSameRef (.ref S) (.ref z) = false := by simp [Builtin.List.listSameRef, hSz]
  have h2 : (Value.type "zip" == Value.type "list") = false := by decide
  have h3 : (Value.type "zip" == Value.type "tuple") = false := by decide
  simp only [h1, h2, h3, Bool.or_false, Bool.false_eq_true, if_false]
  refine wpAny_bind (wpAny_pyIter_zip hz2 ?_)
  refine wpAny_bind (wpAny_holding ?_)
  unfold Builtin.List.listLengthHint
  refine wpAny_bind (wpAny_specialOf (T := "zip") ⟨_, hz2, rfl⟩ zip_no_len ?_)
  show wpAny _ A.in1 (specialOf (Value.ref z) (Str.ofString "__length_hint__") >>= _) _ _ _
  refine wpAny_bind (wpAny_specialOf (T := "zip") ⟨_, hz2, rfl⟩ zip_no_hint ?_)
  refine wpAny_pure ?_
  show wpAny _ A.in1 (rule "list.extend.makes-room" >>= fun _ => Builtin.List.listTouch (.ref S) >>= fun _ =>
    again (.builtin "list.extend.loop" ⟨[.ref S, .ref z, .none], []⟩)) _ _ _
  refine wpAny_bind (wpAny_rule ?_)
  refine wpAny_bind ?_
  show wpAny _ A.in1 (updateSeq S (·.push .none) >>= fun _ => updateSeq S (·.pop)) _ _ _
  refine wpAny_bind (wpAny_updateSeq hS₂ rfl ?_)
  have hS₃ := Heap.get?_update_self (Obj.mapSeq (·.push Value.none)) hS₂ rfl
  refine wpAny_updateSeq (hz := by seq_fits) hS₃ rfl ?_
  have hS₄ := Heap.get?_update_self (Obj.mapSeq (·.pop)) hS₃ rfl
  exact wpAny_pure ⟨plainId_quiet F.plain_extend_loop _, key _ _ (fun b o hb e => (Heap.get?_update_other _ _ (Ne.symm hb)).trans ((Heap.get?_update_other _ _ (Ne.symm hb)).trans (oth b o hb e))) hS₄⟩
end
/-- the zip ahead of its turn i -/
def ZSt (z TI TO i1 i2 a b S : Addr) (i : Nat) (h : Heap) : Prop :=
  IsPair h TI (.ref i1) (.ref i2) ∧ h.IsListIter i1 a i ∧ h.IsListIter i2 b i ∧ ((IsZip h z TI TO .none ∧ ∃ x y, IsPair h TO x y) ∨ ∃ T f oT, IsZipHeld h z TI TO T f ∧ h.get? T = some oT ∧ T ≠ z ∧ T ≠ i1 ∧ T ≠ i2 ∧ T ≠ S)
theorem ZSt.keep {z TI TO i1 i2 a b S : Addr} {i : Nat} {h h' : Heap} (hS : S ≠ z ∧ S ≠ TI ∧ S ≠ TO ∧ S ≠ i1 ∧ S ≠ i2) (st : ZSt z TI TO i1 i2 a b S i h) (k : ∀ c o, c ≠ S → h.get? c = some o → h'.get? c = some o) : ZSt z TI TO i1 i2 a b S i h' := by
  obtain ⟨hTI, h1, h2, hz⟩ := st
  obtain ⟨s1, s2, s3, s4, s5⟩ := hS
  refine ⟨k _ _ (Ne.symm s2) hTI, h1.at fun o e => k _ o (Ne.symm s4) e, h2.at fun o e => k _ o (Ne.symm s5) e, ?_⟩
  rcases hz with ⟨hz, x, y, hTO⟩ | ⟨T, f, oT, hz, hT, r1, r2, r3, r4⟩
  · exact .inl ⟨k _ _ (Ne.symm s1) hz, x, y, k _ _ (Ne.symm s3) hTO⟩
  · exact .inr ⟨T, f, oT, k _ _ (Ne.symm s1) hz, k _ _ r4 hT, r1, r2, r3, r4⟩
/-- pairs laid one behind the other -/
inductive TG (xs ys : List V) (H : Hp) : List Addr → Hp → Prop
  | nil : TG xs ys H [] H
  | snoc {bs : List Addr} {Hx : Hp} {T : Addr} {x y : V} : TG xs ys H bs Hx → Hx T = none → xs[bs.length]? = some x → ys[bs.length]? = some y → TG xs ys H (bs ++ [T]) (upd Hx T (.tup [x, y]))
theorem upd_upd {H : Hp} {a b : Addr} {o u v : HO} (h : a ≠ b) : upd (upd (upd H b u) a o) b v = upd (upd H a o) b v := by
  funext c
  unfold upd
  split
  · rfl
  · split <;> rfl
theorem zip_loop {X : Cx} {pins : List (Addr × Obj)} {σ : L2.St} {A : Around} (hh : A.in1.handled = none) {R : Result → Shared → Prop} {z TI TO i1 i2 a b S : Addr} (D : ZipApart z TI TO i1 i2 a b) (hS : S ≠ z ∧ S ≠ TI ∧ S ≠ TO ∧ S ≠ i1 ∧ S ≠ i2) (hSa : S ≠ a) (hSb : S ≠ b)
    {xs ys : List V} {us ws : List Value} (vx : Vals xs us) (vy : Vals ys ws) (hn : us.length ≤ 100000) {H₀ : Hp} :
    ∀ (k i : Nat) (s : Shared) (Hx : Hp) (bs : List Addr), min us.length ws.length - i = k → i ≤ min us.length ws.length → Inv X pins σ (upd Hx S (.lst (bs.map V.ref))) s → Hx S = none → s.heap.IsList a us.toArray → s.heap.IsList b ws.toArray → ZSt z TI TO i1 i2 a b S i s.heap →
      (∀ c ∈ [z, TI, TO, i1, i2], FpOk X pins (upd Hx S (.lst (bs.map V.ref))) c) → (∀ c ∈ [z, TI, TO, i1, i2], c < s.heap.objs.size) → bs.length = i → TG xs ys H₀ bs Hx →
      (∀ s' Hx' bs', Inv X pins σ (upd Hx' S (.lst (bs'.map V.ref))) s' → Hx' S = none → bs'.length = min us.length ws.length → TG xs ys H₀ bs' Hx' → R (.ok (.ret .none)) s') →
      codeAny (model X.prog X.w) A (.builtin "list.extend.loop" ⟨[.ref S, .ref z, .none], []⟩) R s := by
  intro k
  induction k with
  | zero =>
    intro i s Hx bs hk hi I hxS hl1 hl2 st hf hlo hb tg hR
    have hin : i = min us.length ws.length := by omega
    refine codeAny_builtin F.entry_extend_loop ?_
    rw [Around.under_plainId F.plain_extend_loop _]
    show wpAny _ A.in1 (pyNext (.ref z) >>= _) _ _ s
    obtain ⟨hTI, h1, h2, hz⟩ := st
    have hend : us.toArray[i]? = none ∨ ws.toArray[i]? = none := by
      rcases Nat.le_total us.length ws.length with h | h
      · exact .inl (by simp; omega)
      · exact .inr (by simp; omega)
    have fin : ∀ h', (∀ c o, c ≠ z → c ≠ TO → c ≠ i1 → c ≠ i2 → s.heap.get? c = some o → h'.get? c = some o) → R (.ok (.ret .none)) { s with heap := h' } := fun h' hk =>
      hR _ Hx bs (I.turnedL (t' := s.toks) (ch := [z, TI, TO, i1, i2]) (fun c o hc e => hk c o (fun x => hc (by simp [x])) (fun x => hc (by simp [x])) (fun x => hc (by simp [x])) (fun x => hc (by simp [x])) e) hf) hxS (by omega) tg
    rcases hz with ⟨hz, x, y, hTO⟩ | ⟨T, f, oT, hz, hT, r1, r2, r3, r4⟩
    · exact wpAny_bind (wpAny_pyNext_zip_end hh D hz hTI hTO h1 h2 hl1 hl2 hend fun h' hk => wpAny_pure (fin h' fun c o c1 c2 c3 c4 e => hk c o c1 c2 c3 c4 e))
    · exact wpAny_bind (wpAny_pyNext_zip_end_held hh D hz hT hTI h1 h2 hl1 hl2 hend fun h' hk => wpAny_pure (fin h' fun c o c1 c2 c3 c4 e => hk c o c1 c3 c4 e))
  | succ k ih =>
    intro i s Hx bs hk hi I hxS hl1 hl2 st hf hlo hb tg hR
    have hlt : i < min us.length ws.length := by omega
    refine codeAny_builtin F.entry_extend_loop ?_
    rw [Around.under_plainId F.plain_extend_loop _]
    show wpAny _ A.in1 (pyNext (.ref z) >>= _) _ _ s
    have st0 := st
    obtain ⟨hTI, h1, h2, hz⟩ := st
    obtain ⟨u, hu⟩ : ∃ u, us[i]? = some u := ⟨us[i], List.getElem?_eq_getElem (by omega)⟩
    obtain ⟨v, hv⟩ : ∃ v, ws[i]? = some v := ⟨ws[i], List.getElem?_eq_getElem (by omega)⟩
    obtain ⟨x, hx⟩ : ∃ x, xs[i]? = some x := ⟨xs[i]'(by rw [vx.length]; omega), List.getElem?_eq_getElem _⟩
    obtain ⟨y, hy⟩ : ∃ y, ys[i]? = some y := ⟨ys[i]'(by rw [vy.length]; omega), List.getElem?_eq_getElem _⟩
    obtain ⟨u', hu', ru⟩ := vx.get hx
    obtain ⟨v', hv', rv⟩ := vy.get hy
    rw [hu] at hu'
    cases hu'
    rw [hv] at hv'
    cases hv'
    have hSo : ∃ its n, Vals (bs.map V.ref) its ∧ s.heap.get? S = some { cls := .type "list", data := .seq its.toArray n } := by
      obtain ⟨_, its, n, r, e⟩ := I.hok S _ upd_same
      exact ⟨its, n, r, e⟩
    obtain ⟨its, nn, rS, hSo⟩ := hSo
    have lits : its.length = i := by rw [← rS.length, List.length_map, hb]
    have hSlt : S < s.heap.objs.size := Heap.lt_size hSo
    have next : ∀ h', h'.objs.size = s.heap.objs.size + 1 → h'.IsListIter i1 a (i + 1) → h'.IsListIter i2 b (i + 1) → IsPair h' s.heap.objs.size u v → (∀ c o, c ≠ z → c ≠ TO → c ≠ i1 → c ≠ i2 → s.heap.get? c = some o → h'.get? c = some o) →
        ((IsZip h' z TI TO .none ∧ ∃ x y, IsPair h' TO x y) ∨ ∃ T f oT, IsZipHeld h' z TI TO T f ∧ h'.get? T = some oT ∧ T ≠ z ∧ T ≠ i1 ∧ T ≠ i2 ∧ T ≠ S) →
        wpAny (model X.prog X.w) A.in1 (updateSeq S (·.push (.ref s.heap.objs.size)) >>= fun _ => again (.builtin "list.extend.loop" ⟨[.ref S, .ref z, .none], []⟩)) (fun fin s' => match fin with | .done f => R (.ok f) s' | .again c' => c'.quiet = true ∧ codeAny (model X.prog X.w) A c' R s') (fun e s' => R (.error e) s') { s with heap := h' } := fun h' hsz b1 b2 hp hk hz' => by
      have hS' := hk S _ hS.1 hS.2.2.1 hS.2.2.2.1 hS.2.2.2.2 hSo
      have new : ObjOk X.prog X.w (upd (upd Hx S (.lst (bs.map V.ref))) s.heap.objs.size (.tup [x, y])) h' s.heap.objs.size (.tup [x, y]) :=
        ⟨by show 2 ≤ sizeLine; decide, [u, v], .cons ru (.cons rv .nil), ⟨_, hp, rfl, _, rfl⟩⟩
      have I1 : Inv X pins σ (upd (upd Hx S (.lst (bs.map V.ref))) s.heap.objs.size (.tup [x, y])) { s with heap := h' } :=
        I.turnedNew (t' := s.toks) (ch := [z, TI, TO, i1, i2]) (fun c o hc e => hk c o (fun x => hc (by simp [x])) (fun x => hc (by simp [x])) (fun x => hc (by simp [x])) (fun x => hc (by simp [x])) e) hf (Nat.le_refl _) new
      refine wpAny_bind ?_
      refine wpAny_updateSeq hS' rfl (wpAny_pure ⟨plainId_quiet F.plain_extend_loop _, ?main⟩) ?za ?zb
      case za =>
        rw [List.size_toArray, lits, sizeLine_eq]
        omega
      case zb =>
        show (its.toArray.push _).size ≤ sizeLine + 1
        rw [Array.size_push, List.size_toArray, lits, sizeLine_eq]
        omega
      have hS₂ := Heap.get?_update_self (Obj.mapSeq (·.push (Value.ref s.heap.objs.size))) hS' rfl
      have oth : ∀ b o, b ≠ S → h'.get? b = some o → (h'.update S (Obj.mapSeq (·.push (Value.ref s.heap.objs.size)))).get? b = some o := fun b o hb e => (Heap.get?_update_other _ _ (Ne.symm hb)).trans e
      have nT : s.heap.objs.size ≠ S := Nat.ne_of_gt hSlt
      have I2 := I1.write (x := S) (e := S) (t' := s.toks) (o := .lst ((bs ++ [s.heap.objs.size]).map V.ref)) (by rw [upd_ne (Ne.symm nT), upd_same]; trivial) (.inl rfl) oth ⟨_, hS₂⟩ ⟨by rw [List.length_map, List.length_append, hb, sizeLine_eq]; simp; omega, its ++ [.ref s.heap.objs.size], nn + 1, by rw [List.map_append]; exact rS.append (.cons rfl .nil), by rw [hS₂]; simp [Obj.mapSeq]⟩
      rw [upd_upd nT] at I2
      have hxT : Hx s.heap.objs.size = none := by
        have := I.hok.fresh (Nat.le_refl s.heap.objs.size)
        rw [upd_ne nT] at this
        exact this
      refine ih (i + 1) _ (upd Hx s.heap.objs.size (.tup [x, y])) (bs ++ [s.heap.objs.size]) (by omega) hlt I2 (by rw [upd_ne (Ne.symm nT)]; exact hxS) ((hl1.at fun o e => hk _ o D.l1z D.l1TO D.l1i1 D.l1i2 e).at fun o e => oth _ o (Ne.symm hSa) e) ((hl2.at fun o e => hk _ o D.l2z D.l2TO D.l2i1 D.l2i2 e).at fun o e => oth _ o (Ne.symm hSb) e)
        (ZSt.keep hS ⟨hk _ _ D.TIz D.TITO D.TIi1 D.TIi2 hTI, b1, b2, hz'⟩ oth) (fun c hc => ?_) (fun c hc => ?_) (by simp [hb]) (.snoc tg hxT (by rw [hb]; exact hx) (by rw [hb]; exact hy)) hR
      · have f := hf c hc
        have nc : c ≠ s.heap.objs.size := Nat.ne_of_lt (hlo c hc)
        have nS : c ≠ S := by
          simp only [List.mem_cons, List.not_mem_nil, or_false] at hc
          rcases hc with rfl | rfl | rfl | rfl | rfl
          · exact Ne.symm hS.1
          · exact Ne.symm hS.2.1
          · exact Ne.symm hS.2.2.1
          · exact Ne.symm hS.2.2.2.1
          · exact Ne.symm hS.2.2.2.2
        refine ⟨?_, f.2⟩
        rw [upd_ne nS, upd_ne nc]
        have := f.1
        rw [upd_ne nS] at this
        exact this
      · show c < (h'.update S (Obj.mapSeq (·.push (Value.ref s.heap.objs.size)))).objs.size
        have e1 : (h'.update S (Obj.mapSeq (·.push (Value.ref s.heap.objs.size)))).objs.size = h'.objs.size := (Heap.SameBut.update ..).1
        rw [e1, hsz]
        exact Nat.lt_succ_of_lt (hlo c hc)
    have lt : ∀ {c o}, s.heap.get? c = some o → s.heap.objs.size ≠ c := fun e => Nat.ne_of_gt (Heap.lt_size e)
    have n1 : s.heap.objs.size ≠ i1 := let ⟨_, e, _⟩ := h1; lt e
    have n2 : s.heap.objs.size ≠ i2 := let ⟨_, e, _⟩ := h2; lt e
    rcases hz with ⟨hz, xx, yy, hTO⟩ | ⟨T, f, oT, hz, hT, r1, r2, r3, r4⟩
    · refine wpAny_bind (wpAny_pyNext_zip_item D hz hTI hTO h1 h2 hl1 hl2 (x := u) (y := v) (by simpa using hu) (by simpa using hv) fun h' a1 a2 a3 a4 a5 a6 hk => ?_)
      exact next h' a6 a3 a4 a5 hk (.inr ⟨s.heap.objs.size, false, _, a1, a5, lt hz, n1, n2, Nat.ne_of_gt hSlt⟩)
    · refine wpAny_bind (wpAny_pyNext_zip_item_held D hz hT hTI h1 h2 hl1 hl2 (x := u) (y := v) (by simpa using hu) (by simpa using hv) fun h' a1 a3 a4 a5 a6 hk => ?_)
      exact next h' a6 a3 a4 a5 (fun c o c1 c2 c3 c4 e => hk c o c1 c3 c4 e) (.inr ⟨T, true, oT, a1, hk _ _ r1 r2 r3 hT, r1, r2, r3, r4⟩)
/-- list(zip(e, e2)), both lists -/
def tLstZ (K : PySem.W.Frag) (ta : TA) : TE := fun σ H Q => ta σ H fun vs H1 => ∃ a b xs ys, vs = [.ref a, .ref b] ∧ SqL K H1 a xs ∧ SqL K H1 b ys ∧ xs.length ≤ 100000 ∧
  ∀ q bs Hx, Hx q = none → TG xs ys H1 bs Hx → bs.length = min xs.length ys.length → Q (.ref q) (upd Hx q (.lst (bs.map V.ref)))
theorem pe_listZ {X : Cx} {e e2 : Expr} {ta : TA} {p p2 pos pos2 : Pos} (hc : X.calm = true) (hg : Gl X "list") (hm : X.mg "list" = none) (hgz : Gl X "zip") (hmz : X.mg "zip" = none) (ha : PA X [e, e2] ta)
    (na : starEach [.Call (.Name "zip" p2) [e, e2] [] pos2] X.env = (false, eval (.Call (.Name "zip" p2) [e, e2] [] pos2) X.env) :: starEach [] X.env := by rfl)
    (hs : starEach [e, e2] X.env = (false, eval e X.env) :: starEach [e2] X.env := by rfl) (hpl : (backTo pos2 (starEach [e2] X.env)).any (·.1) = false := by rfl) :
    PE X (.Call (.Name "list" p) [.Call (.Name "zip" p2) [e, e2] [] pos2] [] pos) (tLstZ X.K ta) := by
  refine ⟨fun pins s σ H Q I h => ?_⟩
  have zipE : wpAny (model X.prog X.w) X.A (eval (.Call (.Name "zip" p2) [e, e2] [] pos2) X.env) (fun x s2 => ∃ (z TI TO i1 i2 a b : Addr) (xs ys : List V) (us ws : List Value) (H1 : Hp), x = .ref z ∧ ZipApart z TI TO i1 i2 a b ∧ IsZip s2.heap z TI TO .none ∧ IsPair s2.heap TI (.ref i1) (.ref i2) ∧ IsPair s2.heap TO .none .none ∧ s2.heap.IsListIter i1 a 0 ∧ s2.heap.IsListIter i2 b 0 ∧
      s2.heap.IsList a us.toArray ∧ s2.heap.IsList b ws.toArray ∧ Vals xs us ∧ Vals ys ws ∧ xs.length ≤ 100000 ∧ Inv X pins σ H1 s2 ∧ (∀ c ∈ [z, TI, TO, i1, i2], FpOk X pins H1 c ∧ c < s2.heap.objs.size) ∧
      ∀ q bs Hx, Hx q = none → TG xs ys H1 bs Hx → bs.length = min xs.length ys.length → Q (.ref q) (upd Hx q (.lst (bs.map V.ref)))) X.xe s := by
    refine Call_ (ld_blt I hgz hmz PyProof.Rows.boot_zip (PyProof.Rows.callWith_type1 (thn (ha.run pos2 pins s σ H _ I h) fun us s1 ⟨vs, H1, I1, r1, q1⟩ => ?_) hs hpl))
    obtain ⟨a, b, xs, ys, ex, hqx, hqy, hl, q⟩ := q1
    subst ex
    cases r1 with
    | cons r rr =>
      cases rr with
      | cons r' rr =>
        cases rr
        cases r
        cases r'
        obtain ⟨its, rv, p1, _⟩ := I1.list hqx
        obtain ⟨its2, rv2, p2, _⟩ := I1.list hqy
        refine call_zip_2 p1.isList p2.isList fun h' hz hTI hTO h1 h2 hsz hk => ?_
        have I2 : Inv X pins σ H1 { s1 with heap := h' } := I1.kept (t' := s1.toks) hk
        refine ⟨s1.heap.objs.size + 4, s1.heap.objs.size + 2, s1.heap.objs.size + 3, s1.heap.objs.size, s1.heap.objs.size + 1, a, b, xs, ys, its, its2, H1, rfl, PySem.W.ktu_apart s1.heap.objs.size a b p1.lt p2.lt, hz, hTI, hTO, h1, h2, p1.isList.at fun o e => hk _ o e, p2.isList.at fun o e => hk _ o e, rv, rv2, hl, I2, fun c hcm => ?_, q⟩
        have e' : c = s1.heap.objs.size + 4 ∨ c = s1.heap.objs.size + 2 ∨ c = s1.heap.objs.size + 3 ∨ c = s1.heap.objs.size ∨ c = s1.heap.objs.size + 1 := by simpa using hcm
        have hle : s1.heap.objs.size ≤ c ∧ c < h'.objs.size := by
          rw [hsz]
          rcases e' with z | z | z | z | z
          · rw [z]; exact ⟨Nat.le_add_right _ _, Nat.add_lt_add_left (by decide) _⟩
          · rw [z]; exact ⟨Nat.le_add_right _ _, Nat.add_lt_add_left (by decide) _⟩
          · rw [z]; exact ⟨Nat.le_add_right _ _, Nat.add_lt_add_left (by decide) _⟩
          · rw [z]; exact ⟨Nat.le_refl _, Nat.lt_add_of_pos_right (by decide)⟩
          · rw [z]; exact ⟨Nat.le_add_right _ _, Nat.add_lt_add_left (by decide) _⟩
        exact ⟨I1.fpOk hle.1 (I1.hok.fresh hle.1), hle.2⟩
  refine Call_ (ld_blt I hg hm boot_list (PyProof.Rows.callWith_type1 (args_cons (thn zipE fun x s2 ⟨z, TI, TO, i1, i2, a, b, xs, ys, us, ws, H1, ex, D, hz, hTI, hTO, h1, h2, hl1, hl2, vx, vy, hl, I1, hfp, q⟩ => args_nil ?_) na) na))
  subst ex
  have hh : X.A.handled = none := I1.ok.hd hc
  refine callType_codes (Q₁ := fun obj s₁ => obj = .ref s2.heap.objs.size ∧ s₁ = { s2 with heap := s2.heap.push { cls := .type "list", data := .seq #[] } }) F.called_list (F.typeCall_list_1 _) F.entry_list_init
    (code_list_new _ ⟨rfl, rfl⟩) fun obj s₁ h₁ => ?_
  obtain ⟨rfl, rfl⟩ := h₁
  have hS : (s2.heap.push { cls := .type "list", data := .seq #[] }).get? s2.heap.objs.size = some { cls := .type "list", data := .seq #[] } := Heap.get?_push_size _ rfl
  have up : ∀ c o, s2.heap.get? c = some o → (s2.heap.push { cls := .type "list", data := .seq #[] }).get? c = some o := fun c o e => Heap.get?_push_of_some _ e
  have lt : ∀ {c o}, s2.heap.get? c = some o → s2.heap.objs.size ≠ c := fun e => Nat.ne_of_gt (Heap.lt_size e)
  have na : s2.heap.objs.size ≠ a := let ⟨_, e, _⟩ := hl1; lt e
  have nb : s2.heap.objs.size ≠ b := let ⟨_, e, _⟩ := hl2; lt e
  have nS : s2.heap.objs.size ≠ z ∧ s2.heap.objs.size ≠ TI ∧ s2.heap.objs.size ≠ TO ∧ s2.heap.objs.size ≠ i1 ∧ s2.heap.objs.size ≠ i2 := ⟨lt hz, lt hTI, lt hTO, let ⟨_, e, _⟩ := h1; lt e, let ⟨_, e, _⟩ := h2; lt e⟩
  refine ⟨⟨_, hS, rfl⟩, F.args_list_init_2 _ _, init_zip (A := X.A.in1) (up _ _ hz) hS nS.1 fun h' c' k e => ?_⟩
  have kp : ∀ c o, s2.heap.get? c = some o → h'.get? c = some o := fun c o x => k c o (Ne.symm (lt x)) (up c o x)
  have I2 : Inv X pins σ (upd H1 s2.heap.objs.size (.lst (([] : List Addr).map V.ref))) { s2 with heap := h' } :=
    I1.laid (t' := s2.toks) kp (Nat.le_refl _) ⟨Nat.zero_le _, [], c', .nil, e⟩
  have fr := I1.hok.fresh (Nat.le_refl s2.heap.objs.size)
  have sz : s2.heap.objs.size < h'.objs.size := Heap.lt_size e
  refine zip_loop (A := X.A.in1) hh D nS na nb vx vy (by rw [← vx.length]; exact hl) _ 0 _ H1 [] rfl (Nat.zero_le _) I2 fr (hl1.at fun o x => kp _ o x) (hl2.at fun o x => kp _ o x) ⟨kp _ _ hTI, h1.at fun o x => kp _ o x, h2.at fun o x => kp _ o x, .inl ⟨kp _ _ hz, _, _, kp _ _ hTO⟩⟩ (fun c hcm => ?_) (fun c hcm => Nat.lt_trans (hfp c hcm).2 sz) rfl .nil fun s' Hx' bs' I' hx' hb' tg => ?_
  · refine ⟨?_, (hfp c hcm).1.2⟩
    rw [upd_ne (Nat.ne_of_lt (hfp c hcm).2)]
    exact (hfp c hcm).1.1
  · exact ⟨rfl, .ref s2.heap.objs.size, _, I', rfl, q _ bs' Hx' hx' tg (by rw [hb', vx.length, vy.length])⟩
/-- both arguments data that stays -/
def mLstZ (ms : MA) : ME := fun s => (ms s).bind fun p => match p.1 with
  | [.val (.lst xs), .val (.lst ys)] => if xs.length ≤ 100000 then some (.own (zpD xs ys), p.2) else none
  | _ => none
theorem tg_ok {K : PySem.W.Frag} {σ : L2.St} {s : S} {M H : Hp} {vs ws : List V} {xs ys : List D} (a2 : Ats K M vs xs) (b2 : Ats K M ws ys) (rel : Rel K M H σ s) {bs : List Addr} {Hx : Hp} (tg : TG vs ws H bs Hx) :
    ∃ Mx, OkT K σ s M H s Mx Hx ∧ Le M Mx ∧ Ats K Mx (bs.map V.ref) ((zpD xs ys).take bs.length) := by
  induction tg with
  | nil => exact ⟨M, .refl rel, Le.refl _, .nil⟩
  | @snoc bs Hx T x y tg hT hx hy ih =>
    obtain ⟨Mx, o, le, ats⟩ := ih
    obtain ⟨dx, e1, c1⟩ := a2.getV hx
    obtain ⟨dy, e2, c2⟩ := b2.getV hy
    have new := ok_tup (ds := [dx, dy]) (vs := [x, y]) o.rel hT (.cons (c1.mono le) (.cons (c2.mono le) .nil))
    have leT : Le Mx (upd Mx T (.tup [x, y])) := le_upd (le_none o.rel.le hT)
    refine ⟨_, o.trans new.t, le.trans leT, ?_⟩
    have ht : (zpD xs ys).take (bs ++ [T]).length = (zpD xs ys).take bs.length ++ [D.tup [dx, dy]] := by
      rw [List.length_append, List.length_singleton, List.take_succ, zpD_get e1 e2]
      rfl
    rw [ht, List.map_append]
    have hTm : At K (upd Mx T (.tup [x, y])) (.ref T) (.tup [dx, dy]) := new.held
    exact (ats.mono leT).append (.cons hTm .nil)
section
variable {c : Cd} {a b : Expr} {p p2 pos pos2 : Pos} {ms : MA}
theorem se_listZ (hg : ∀ X : Cx, Fits c X → Gl X "list") (hm : c.mg "list" = none) (hgz : ∀ X : Cx, Fits c X → Gl X "zip") (hmz : c.mg "zip" = none) (ha : SA c [a, b] ms)
    (na : ∀ env, starEach [.Call (.Name "zip" p2) [a, b] [] pos2] env = (false, eval (.Call (.Name "zip" p2) [a, b] [] pos2) env) :: starEach [] env := by intro _; rfl)
    (hs : ∀ env, starEach [a, b] env = (false, eval a env) :: starEach [b] env := by intro _; rfl) (hpl : ∀ env, (backTo pos2 (starEach [b] env)).any (·.1) = false := by intro _; rfl) :
    SE c (.Call (.Name "list" p) [.Call (.Name "zip" p2) [a, b] [] pos2] [] pos) (mLstZ ms) := by
  obtain ⟨t, pa, sd⟩ := ha
  refine ⟨tLstZ c.K t, fun X g => by have := pe_listZ (X := X) (p := p) (p2 := p2) (pos := pos) (pos2 := pos2) g.calm (hg X g) (by rw [g.mg]; exact hm) (hgz X g) (by rw [g.mg]; exact hmz) (pa X g) (na X.env) (hs X.env) (hpl X.env); rw [g.K] at this; exact this, fun σ s M H r s' e rel Q q => ?_⟩
  obtain ⟨⟨rs, s1⟩, e1, e⟩ := bd e
  refine sd σ s M H rs s1 e1 rel _ fun vs M1 H1 k => ?_
  simp only at e
  split at e
  · rename_i rs' xs ys
    split at e
    · rename_i hl
      cases e
      obtain ⟨kg, kr, kh, kn⟩ := k
      cases kh with
      | cons h1 kh =>
        cases kh with
        | cons h2 kh =>
          cases kh
          cases h1 with
          | lst a1 a2 =>
            cases h2 with
            | lst b1 b2 =>
              refine ⟨_, _, _, _, rfl, kr.le.sqL a1, kr.le.sqL b1, by rw [a2.length]; exact hl, fun q' bs Hx hq tg hb => ?_⟩
              obtain ⟨Mx, o, le, ats⟩ := tg_ok a2 b2 kr tg
              rw [List.take_of_length_le (by rw [zpD_length, hb, a2.length, b2.length]; exact Nat.le_refl _)] at ats
              exact q _ _ _ (.behind (.trans ⟨kg, kr⟩ o) (ok_lst o.rel hq ats))
    · cases e
  · cases e
end
end Dm
set_option Elab.async false
set_option linter.all false
set_option maxRecDepth 100000
set_option maxHeartbeats 4000000
namespace Dm
open PySem PySem.Spec L2
set_option autoImplicit false
/-! ### max of a list -/
def maxI : Int → List Int → Int
  | m, [] => m
  | m, x :: xs => maxI (if m < x then x else m) xs
def fMaxL : List D → Option D
  | [.lst xs] => (intsD xs).bind fun ns => match ns with
    | [] => none
    | n :: ns => some (.int (maxI n ns))
  | _ => none
theorem maxI_is : ∀ (xs : List Int) (m : Int), (maxI m xs = m ∨ maxI m xs ∈ xs) ∧ m ≤ maxI m xs ∧ ∀ y ∈ xs, y ≤ maxI m xs
  | [], m => ⟨.inl rfl, Int.le_refl _, fun _ h => nomatch h⟩
  | x :: xs, m => by
    obtain ⟨a, b, c⟩ := maxI_is xs (if m < x then x else m)
    unfold maxI
    by_cases h : m < x
    · rw [if_pos h] at a b c ⊢
      refine ⟨.inr ?_, by omega, fun y hy => ?_⟩
      · rcases a with a | a
        · rw [a]; exact List.mem_cons_self
        · exact List.mem_cons_of_mem _ a
      · rcases List.mem_cons.1 hy with rfl | hy
        · exact b
        · exact c y hy
    · rw [if_neg h] at a b c ⊢
      refine ⟨?_, b, fun y hy => ?_⟩
      · rcases a with a | a
        · exact .inl a
        · exact .inr (List.mem_cons_of_mem _ a)
      · rcases List.mem_cons.1 hy with rfl | hy
        · omega
        · exact c y hy
theorem sc_maxL {K : PySem.W.Frag} : Sc1 K (rMax K) fMaxL := fun H vs ds z h e => by
  unfold fMaxL at e
  split at e
  · rename_i xs
    obtain ⟨ns, e1, e⟩ := bd e
    split at e
    · cases e
    · rename_i n ns
      cases e
      obtain ⟨v, rfl, ha⟩ := ats1 h
      cases ha with
      | lst hs hw =>
        have hz := ints_at hw e1
        subst hz
        refine ⟨_, fun _ => .int _, fun Q q => ⟨_, n :: ns, rfl, hs, by simp, fun m hm hmax => ?_⟩⟩
        obtain ⟨a, b, c⟩ := maxI_is ns n
        have : m = maxI n ns := by
          have h1 : maxI n ns ∈ n :: ns := by
            rcases a with a | a
            · rw [a]; exact List.mem_cons_self
            · exact List.mem_cons_of_mem _ a
          have h1 := hmax _ h1
          have h2 : m ≤ maxI n ns := by
            rcases List.mem_cons.1 hm with rfl | hm
            · exact b
            · exact c m hm
          omega
        rw [this]
        exact q
  · cases e
end Dm
set_option Elab.async false
set_option linter.all false
set_option maxRecDepth 100000
set_option maxHeartbeats 4000000
namespace Dm
open PySem PySem.Spec L2
set_option autoImplicit false
/-! ### reversed(x), x data that stays -/
theorem walk_revL {K : PySem.W.Frag} {M : Hp} {a : Addr} {vs : List V} {xs : List D} (h : SqL K M a vs) (q : Ats K M vs xs) : Walk K M (Itv K a vs.length) xs.reverse where
  go := fun i H le hi => by
    have hl := q.length
    rw [List.length_reverse] at hi
    exact ⟨by omega, vs, vs[vs.length - 1 - i]'(by omega), le.sqL h, List.getElem?_eq_getElem _⟩
  yld := fun i H x H' le hi y => by
    have hl := q.length
    rw [List.length_reverse] at hi
    obtain ⟨e, y⟩ := y
    obtain ⟨d, a1, a2⟩ := q.getV (y vs (le.sqL h))
    exact ⟨d, by rw [List.getElem?_reverse hi, ← hl]; exact a1, .inl ⟨e, a2⟩⟩
  stop := fun i H le hi => by
    have hl := q.length
    rw [List.length_reverse] at hi
    show vs.length ≤ i
    omega
theorem walk_revT {K : PySem.W.Frag} {M : Hp} {a : Addr} {vs : List V} {xs : List D} (h : SqT K M a vs) (q : Ats K M vs xs) : Walk K M (RT.ItvT K a vs.length) xs.reverse where
  go := fun i H le hi => by
    have hl := q.length
    rw [List.length_reverse] at hi
    exact ⟨by omega, vs, vs[vs.length - 1 - i]'(by omega), le.sqT h, List.getElem?_eq_getElem _⟩
  yld := fun i H x H' le hi y => by
    have hl := q.length
    rw [List.length_reverse] at hi
    obtain ⟨e, y⟩ := y
    obtain ⟨d, a1, a2⟩ := q.getV (y vs (le.sqT h))
    exact ⟨d, by rw [List.getElem?_reverse hi, ← hl]; exact a1, .inl ⟨e, a2⟩⟩
  stop := fun i H le hi => by
    have hl := q.length
    rw [List.length_reverse] at hi
    show vs.length ≤ i
    omega
def mRevI (m : ME) : MI := fun s => (m s).bind fun p => (frz p.1 p.2).bind fun q => (seqD q.1).bind fun xs => some (xs.reverse, q.2)
theorem si_rev {c : Cd} {tg e : Expr} {p pos : Pos} {m : ME} (hg : ∀ X : Cx, Fits c X → Gl X "reversed") (hm : c.mg "reversed" = none) (h : SE c e m) (hs : ∀ env, starEach [e] env = (false, eval e env) :: starEach [] env := by intro _; rfl) : SI c tg (.Call (.Name "reversed" p) [e] [] pos) (mRevI m) := by
  obtain ⟨t, pe, sd⟩ := h
  refine ⟨RT.iRevA c.K t, fun X g => by have := RT.pi_revA (X := X) (tg := tg) (p := p) (pos := pos) (hg X g) (by rw [g.mg]; exact hm) (pe X g) (hs X.env); rw [g.K] at this; exact this, fun σ s M H xs s' e rel R q => ?_⟩
  obtain ⟨⟨r1, s1⟩, e1, e⟩ := bd e
  obtain ⟨⟨d, s2⟩, e2, e⟩ := bd e
  obtain ⟨zs, e3, e⟩ := bd e
  cases e
  refine sd σ s M H r1 s1 e1 rel _ fun v M1 H1 k => ?_
  obtain ⟨M2, k2⟩ := frz_ok k e2
  have ha : At c.K M2 v d := k2.held
  cases d <;> try (cases e3; done)
  · cases e3
    cases ha with
    | tup h1 h2 => exact ⟨_, _, rfl, .inr ⟨k2.rel.le.sqT h1, q _ M2 H1 k2.t (walk_revT h1 h2)⟩⟩
  · cases e3
    cases ha with
    | lst h1 h2 => exact ⟨_, _, rfl, .inl ⟨k2.rel.le.sqL h1, q _ M2 H1 k2.t (walk_revL h1 h2)⟩⟩
end Dm
set_option Elab.async false
set_option linter.all false
set_option maxRecDepth 100000
set_option maxHeartbeats 4000000
namespace Dm
open PySem PySem.Spec L2
set_option autoImplicit false
/-! ### loops that run down a measure -/
/-- as many turns as the whole number at slot 1, and one -/
def fuel1 (s : S) : Nat := match (s[1]? : Option (Option Cell)) with
  | some (some (.val (.int i))) => i.toNat + 1
  | _ => 0
theorem whil_meas {t : MT} {b : MS} (I : Nat → S → Prop) (J : S → Prop) : ∀ (n k : Nat) (s : S), k < n → I k s →
    (∀ k s, I k s → WT t s fun c s1 => (c = false ∧ J s1) ∨ (c = true ∧ WS b s1 fun o => ∃ k' s2, k' < k ∧ (o = .nx s2 ∨ o = .ct s2) ∧ I k' s2)) → ∃ s', whil t b n s = some (.nx s') ∧ J s'
  | 0, _, _, h, _, _ => absurd h (Nat.not_lt_zero _)
  | n + 1, k, s, h, i, st => by
    obtain ⟨c, s1, e, q⟩ := st k s i
    rcases q with ⟨hc, j⟩ | ⟨hc, o, e2, k', s2, lt, ho, i2⟩
    · subst hc
      refine ⟨s1, ?_, j⟩
      unfold whil
      rw [e]
      rfl
    · subst hc
      obtain ⟨s', e3, j⟩ := whil_meas I J n k' s2 (by omega) i2 st
      refine ⟨s', ?_, j⟩
      unfold whil
      rw [e]
      show (b s1).bind _ = _
      rw [e2]
      rcases ho with rfl | rfl <;> exact e3
/-- a comprehension that leaves all as it was, whatever its elements are -/
theorem mlc_gen {α : Type} {vs : List Nat} {mi : MI} {g : MG} {t : MT} {m : ME} (f : α → D) (p : α → Bool) (v : α → D) (xs : List α) {s s1 s2 : S} (hm : mi s = some (xs.map f, s1)) (hl : xs.length ≤ 100000)
    (st : ∀ x ∈ xs, ∃ s3, g (f x) (wipeS s1 vs) = some s3 ∧ t s3 = some (p x, s3) ∧ (p x = true → ∃ r, m s3 = some (r, s3) ∧ frz r s3 = some (v x, s3)) ∧ wipeS s3 vs = wipeS s1 vs) (hu : unwipe s1 (wipeS s1 vs) vs = s2) :
    mLc vs mi g t m s = some (.own ((xs.filter p).map v), s2) := by
  obtain ⟨s', e, rfl⟩ := lc_run (g := g) (t := t) (m := m) f vs (fun s => s = wipeS s1 vs) p v xs (wipeS s1 vs) [] rfl (by rw [List.length_nil]; omega) (by
    rintro x s rfl hx
    obtain ⟨s3, e1, e2, e3, e4⟩ := st x hx
    refine ⟨s3, e1, p x, s3, e2, rfl, fun h => ?_, fun h => e4⟩
    obtain ⟨r, a, b⟩ := e3 h
    exact ⟨_, s3, a, s3, b, e4⟩)
  unfold mLc
  rw [hm]
  show (lcLoop vs g t m (xs.map f) (wipeS s1 vs) []).bind _ = _
  rw [e, List.nil_append]
  show some (_, unwipe s1 (wipeS s1 vs) vs) = _
  rw [hu]
/-- all elements kept -/
theorem mlc_all {α : Type} {vs : List Nat} {mi : MI} {g : MG} {m : ME} (f : α → D) (v : α → D) (xs : List α) {s s1 s2 : S} (hm : mi s = some (xs.map f, s1)) (hl : xs.length ≤ 100000)
    (st : ∀ x ∈ xs, ∃ s3 r, g (f x) (wipeS s1 vs) = some s3 ∧ m s3 = some (r, s3) ∧ frz r s3 = some (v x, s3) ∧ wipeS s3 vs = wipeS s1 vs) (hu : unwipe s1 (wipeS s1 vs) vs = s2) :
    mLc vs mi g mYes m s = some (.own (xs.map v), s2) := by
  have := mlc_gen (t := mYes) (m := m) f (fun _ => true) v xs hm hl (fun x hx => by
    obtain ⟨s3, r, e1, e2, e3, e4⟩ := st x hx
    exact ⟨s3, e1, rfl, fun _ => ⟨r, e2, e3⟩, e4⟩) hu
  rw [filter_all] at this
  exact this
/-! ### data with numbers of up to eighty figures shows and compares -/
def midI (i : Int) : Bool := decide (i.natAbs < 10 ^ 80)
theorem midI_of {i : Int} (h : i.natAbs < 10 ^ 80) : midI i = true := decide_eq_true h
mutual
def mid : D → Bool
  | .non => true
  | .bl _ => true
  | .int i => midI i
  | .str _ => false
  | .tup xs => mids xs
  | .lst xs => mids xs
  | .dic _ _ => false
def mids : List D → Bool
  | [] => true
  | x :: xs => mid x && mids xs
end
theorem ofStr_ok (s : String) : PyData.strOk (Str.ofString s) = true := by
  unfold PyData.strOk
  rw [Str.ofString_eq_toList, List.all_toArray, List.all_eq_true]
  intro x hx
  obtain ⟨c, -, rfl⟩ := List.mem_map.1 hx
  have h := c.valid
  refine decide_eq_true ?_
  show c.val.toNat < 1114112
  unfold UInt32.isValidChar Nat.isValidChar at h
  omega
theorem mid_log {i : Int} (h : i.natAbs < 10 ^ 80) : i.natAbs.log2 < 1920 := by
  rcases Nat.eq_zero_or_pos i.natAbs with e | e
  · rw [e]; decide
  · rw [Nat.log2_lt (by omega)]
    exact Nat.lt_trans h (by decide +kernel)
theorem mid_len {i : Int} (h : i.natAbs < 10 ^ 80) : (PyData.shown (.int i)).length ≤ 81 := by
  have e := int_text_length_le10 (k := 80) (by decide) h
  show (Str.ofString (toString i)).length ≤ 81
  rw [ofString_length]
  exact e
structure Wm (d : D) : Prop where
  nd : noDic d = true
  sh : (toP d).showable = true
  hd : (toP d).hasDict = false
  lv : (toP d).leavesShort 81 = true
  so : PyData.strOk (toP d).shown = true
  cl : (toP d).canLay0 = true
structure Wms (ds : List D) : Prop where
  nd : noDics ds = true
  sh : PyData.showableAll (toPs ds) = true
  hd : PyData.hasDictAll (toPs ds) = false
  lv : PyData.leavesShortAll 81 (toPs ds) = true
  so : ∀ t ∈ PyData.shownAll (toPs ds), PyData.strOk t = true
  cl : PyData.canLayAll0 (toPs ds) = true
mutual
theorem mid_wm : ∀ d : D, mid d = true → Wm d
  | .non, _ => ⟨rfl, rfl, rfl, rfl, by decide +kernel, rfl⟩
  | .bl true, _ => ⟨rfl, rfl, rfl, rfl, by decide +kernel, rfl⟩
  | .bl false, _ => ⟨rfl, rfl, rfl, rfl, by decide +kernel, rfl⟩
  | .int i, h => by
    have h : midI i = true := by simpa only [mid] using h
    refine ⟨rfl, ?_, rfl, ?_, ofStr_ok _, rfl⟩
    · unfold midI at h
      rw [decide_eq_true_eq] at h
      show PyData.showable (.int i) = true
      simp only [PyData.showable, decide_eq_true_eq]
      exact mid_log h
    · unfold midI at h
      rw [decide_eq_true_eq] at h
      show PyData.leavesShort 81 (.int i) = true
      simp only [PyData.leavesShort, decide_eq_true_eq]
      exact mid_len h
  | .str _, h => by simp [mid] at h
  | .dic _ _, h => by simp [mid] at h
  | .tup xs, h => by
    have t := mids_wm xs (by simpa only [mid] using h)
    exact ⟨t.nd, t.sh, t.hd, t.lv, by
      show PyData.strOk (tupleText (PyData.shownAll (toPs xs))) = true
      unfold tupleText
      refine strOk_app _ _ (strOk_app _ _ (by decide +kernel) (strOk_join _ (by decide +kernel) _ t.so)) ?_
      split <;> decide +kernel, t.cl⟩
  | .lst xs, h => by
    have t := mids_wm xs (by simpa only [mid] using h)
    exact ⟨t.nd, t.sh, t.hd, t.lv, by
      show PyData.strOk (listText (PyData.shownAll (toPs xs))) = true
      unfold listText
      exact strOk_app _ _ (strOk_from _ _ _ (by decide +kernel) t.so) (by decide +kernel), t.cl⟩
theorem mids_wm : ∀ ds : List D, mids ds = true → Wms ds
  | [], _ => ⟨rfl, rfl, rfl, rfl, (fun _ h => nomatch h), rfl⟩
  | x :: xs, h => by
    have h : (mid x && mids xs) = true := by simpa only [mids] using h
    rw [Bool.and_eq_true] at h
    have a := mid_wm x h.1
    have b := mids_wm xs h.2
    refine ⟨?_, ?_, ?_, ?_, ?_, ?_⟩
    · show (noDic x && noDics xs) = true
      rw [a.nd, b.nd]; rfl
    · show (PyData.showable (toP x) && PyData.showableAll (toPs xs)) = true
      rw [a.sh, b.sh]; rfl
    · show (PyData.hasDict (toP x) || PyData.hasDictAll (toPs xs)) = false
      rw [a.hd, b.hd]; rfl
    · show (PyData.leavesShort 81 (toP x) && PyData.leavesShortAll 81 (toPs xs)) = true
      rw [a.lv, b.lv]; rfl
    · intro t ht
      have ht : t ∈ (toP x).shown :: PyData.shownAll (toPs xs) := ht
      rcases List.mem_cons.1 ht with rfl | ht
      · exact a.so
      · exact b.so t ht
    · show (PyData.canLay0 (toP x) && PyData.canLayAll0 (toPs xs)) = true
      rw [a.cl, b.cl]; rfl
end
/-- repr of such data, its depth and bulk told -/
theorem repr_mid {d : D} (h : mid d = true) (hp : (toP d).depth ≤ 60) (hb : (toP d).bulk ≤ 20000) : fRepr [d] = some (.str (toP d).shown) := by
  have t := mid_wm d h
  have l := PyData.shown_le_bulk 81 (by decide) (toP d) t.lv
  unfold fRepr
  have ok : okR (toP d) = true := by
    unfold okR
    rw [t.sh, t.hd, decide_eq_true hp, decide_eq_true (by omega)]
    rfl
  simp only [t.nd, ok, Bool.and_self, if_true]
theorem shp_mid {d : D} (h : mid d = true) (hp : (toP d).depth ≤ 64) : shp d = true := by
  have t := mid_wm d h
  unfold shp
  rw [t.nd]
  show (true && ((toP d).canLay0 && decide ((toP d).depth ≤ 64))) = true
  rw [t.cl, decide_eq_true hp]
  rfl
/-! lists of small whole numbers -/
end Dm
set_option Elab.async false
set_option linter.all false
set_option maxRecDepth 100000
set_option maxHeartbeats 4000000
/-! Numbers of a size: whole sums of roots of one. -/
namespace Nz
open Lean.Grind (CommRing)
set_option autoImplicit false
/-! ### sums -/
def Sm {α : Type} [CommRing α] : Nat → (Nat → α) → α
  | 0, _ => 0
  | n + 1, f => Sm n f + f n
section
variable {α : Type} [CommRing α]
theorem Sm_zero (f : Nat → α) : Sm 0 f = 0 := rfl
theorem Sm_succ (n : Nat) (f : Nat → α) : Sm (n + 1) f = Sm n f + f n := rfl
theorem Sm_congr {n : Nat} {f g : Nat → α} (h : ∀ i, i < n → f i = g i) : Sm n f = Sm n g := by
  induction n with
  | zero => rfl
  | succ n ih => rw [Sm_succ, Sm_succ, ih fun i hi => h i (by omega), h n (by omega)]
theorem Sm_none (n : Nat) : Sm n (fun _ => (0 : α)) = 0 := by
  induction n with
  | zero => rfl
  | succ n ih => rw [Sm_succ, ih]; grind
theorem Sm_of_zero {n : Nat} {f : Nat → α} (h : ∀ i, i < n → f i = 0) : Sm n f = 0 := by rw [Sm_congr h, Sm_none]
theorem Sm_plus (n : Nat) (f g : Nat → α) : Sm n (fun i => f i + g i) = Sm n f + Sm n g := by
  induction n with
  | zero => rw [Sm_zero, Sm_zero, Sm_zero]; grind
  | succ n ih => rw [Sm_succ, Sm_succ, Sm_succ, ih]; grind
theorem Sm_sub (n : Nat) (f g : Nat → α) : Sm n (fun i => f i - g i) = Sm n f - Sm n g := by
  induction n with
  | zero => rw [Sm_zero, Sm_zero, Sm_zero]; grind
  | succ n ih => rw [Sm_succ, Sm_succ, Sm_succ, ih]; grind
theorem Sm_mul (c : α) (n : Nat) (f : Nat → α) : c * Sm n f = Sm n fun i => c * f i := by
  induction n with
  | zero => rw [Sm_zero, Sm_zero]; grind
  | succ n ih => rw [Sm_succ, Sm_succ, ← ih]; grind
theorem mul_Sm (c : α) (n : Nat) (f : Nat → α) : Sm n f * c = Sm n fun i => f i * c := by
  induction n with
  | zero => rw [Sm_zero, Sm_zero]; grind
  | succ n ih => rw [Sm_succ, Sm_succ, ← ih]; grind
theorem Sm_comm (n m : Nat) (f : Nat → Nat → α) : Sm n (fun i => Sm m fun j => f i j) = Sm m fun j => Sm n fun i => f i j := by
  induction n with
  | zero => rw [Sm_zero]; exact (Sm_none m).symm
  | succ n ih => rw [Sm_succ, ih, ← Sm_plus]; exact Sm_congr fun j _ => (Sm_succ n _).symm
theorem Sm_one {n p : Nat} (h : p < n) (f : Nat → α) : Sm n (fun i => if i = p then f i else 0) = f p := by
  induction n with
  | zero => omega
  | succ n ih =>
    rw [Sm_succ]
    by_cases e : p = n
    · subst e
      rw [Sm_of_zero fun i hi => if_neg (by omega), if_pos rfl]
      grind
    · rw [ih (by omega), if_neg fun z => e z.symm]
      grind
theorem Sm_add_len (n m : Nat) (f : Nat → α) : Sm (n + m) f = Sm n f + Sm m fun i => f (n + i) := by
  induction m with
  | zero => rw [Sm_zero, Nat.add_zero]; grind
  | succ m ih => rw [← Nat.add_assoc, Sm_succ, ih, Sm_succ]; grind
end
/-! ### the tables -/
def tab : Nat → List (List Int)
  | 2 => [[1], [-1]]
  | 3 => [[1, 0], [0, 1], [-1, -1]]
  | 4 => [[1, 0], [0, 1], [-1, 0], [0, -1]]
  | 5 => [[1, 0, 0, 0], [0, 1, 0, 0], [0, 0, 1, 0], [0, 0, 0, 1], [-1, -1, -1, -1]]
  | 6 => [[1, 0], [0, 1], [-1, 1], [-1, 0], [0, -1], [1, -1]]
  | 7 => [[1, 0, 0, 0, 0, 0], [0, 1, 0, 0, 0, 0], [0, 0, 1, 0, 0, 0], [0, 0, 0, 1, 0, 0], [0, 0, 0, 0, 1, 0], [0, 0, 0, 0, 0, 1], [-1, -1, -1, -1, -1, -1]]
  | 8 => [[1, 0, 0, 0], [0, 1, 0, 0], [0, 0, 1, 0], [0, 0, 0, 1], [-1, 0, 0, 0], [0, -1, 0, 0], [0, 0, -1, 0], [0, 0, 0, -1]]
  | 9 => [[1, 0, 0, 0, 0, 0], [0, 1, 0, 0, 0, 0], [0, 0, 1, 0, 0, 0], [0, 0, 0, 1, 0, 0], [0, 0, 0, 0, 1, 0], [0, 0, 0, 0, 0, 1], [-1, 0, 0, -1, 0, 0], [0, -1, 0, 0, -1, 0], [0, 0, -1, 0, 0, -1]]
  | 10 => [[1, 0, 0, 0], [0, 1, 0, 0], [0, 0, 1, 0], [0, 0, 0, 1], [-1, 1, -1, 1], [-1, 0, 0, 0], [0, -1, 0, 0], [0, 0, -1, 0], [0, 0, 0, -1], [1, -1, 1, -1]]
  | 11 => [[1, 0, 0, 0, 0, 0, 0, 0, 0, 0], [0, 1, 0, 0, 0, 0, 0, 0, 0, 0], [0, 0, 1, 0, 0, 0, 0, 0, 0, 0], [0, 0, 0, 1, 0, 0, 0, 0, 0, 0], [0, 0, 0, 0, 1, 0, 0, 0, 0, 0], [0, 0, 0, 0, 0, 1, 0, 0, 0, 0], [0, 0, 0, 0, 0, 0, 1, 0, 0, 0], [0, 0, 0, 0, 0, 0, 0, 1, 0, 0], [0, 0, 0, 0, 0, 0, 0, 0, 1, 0], [0, 0, 0, 0, 0, 0, 0, 0, 0, 1], [-1, -1, -1, -1, -1, -1, -1, -1, -1, -1]]
  | 12 => [[1, 0, 0, 0], [0, 1, 0, 0], [0, 0, 1, 0], [0, 0, 0, 1], [-1, 0, 1, 0], [0, -1, 0, 1], [-1, 0, 0, 0], [0, -1, 0, 0], [0, 0, -1, 0], [0, 0, 0, -1], [1, 0, -1, 0], [0, 1, 0, -1]]
  | _ => []
def bs : Nat → List Int
  | 2 => [1, 1]
  | 3 => [1, 1, 1]
  | 4 => [1, 0, 1]
  | 5 => [1, 1, 1, 1, 1]
  | 6 => [1, -1, 1]
  | 7 => [1, 1, 1, 1, 1, 1, 1]
  | 8 => [1, 0, 0, 0, 1]
  | 9 => [1, 0, 0, 1, 0, 0, 1]
  | 10 => [1, -1, 1, -1, 1]
  | 11 => [1, 1, 1, 1, 1, 1, 1, 1, 1, 1, 1]
  | 12 => [1, 0, -1, 0, 1]
  | _ => []
def dg (n : Nat) : Nat := (bs n).length - 1
/-- the power of the root that has this step, at a place -/
def row (n r k : Nat) : Int := ((tab n).getD r []).getD k 0
def sg (n : Nat) (e : Int) (k : Nat) : Int := row n (e % (n : Int)).toNat k
theorem sizes {n : Nat} (h : 2 ≤ n) (h2 : n ≤ 12) : n = 2 ∨ n = 3 ∨ n = 4 ∨ n = 5 ∨ n = 6 ∨ n = 7 ∨ n = 8 ∨ n = 9 ∨ n = 10 ∨ n = 11 ∨ n = 12 := by omega
theorem dg_else {n : Nat} (h : ¬ (2 ≤ n ∧ n ≤ 12)) : dg n = 0 := by
  unfold dg bs
  split <;> first | rfl | omega
/-! looks by reckoning -/
def allN (n : Nat) (p : Nat → Bool) : Bool := (List.range n).all p
theorem allN_of {n : Nat} {p : Nat → Bool} (h : allN n p = true) {i : Nat} (hi : i < n) : p i = true := List.all_eq_true.1 h i (List.mem_range.2 hi)
def ss : Nat → (Nat → Int) → Int
  | 0, _ => 0
  | n + 1, f => ss n f + f n
theorem ss_eq (n : Nat) (f : Nat → Int) : ss n f = Sm n f := by
  induction n with
  | zero => rfl
  | succ n ih => unfold ss; rw [ih]; rfl
def lookE (n : Nat) : Bool := allN n fun q => allN n fun p => allN (dg n) fun k => decide (ss (dg n) (fun i => row n q i * row n ((i + p) % n) k) = row n ((q + p) % n) k)
def lookI (n : Nat) : Bool := allN (dg n) fun i => allN (dg n) fun k => decide (row n i k = if i = k then 1 else 0)
def lookB (n : Nat) : Bool := allN n fun q => allN (dg n) fun k => decide (ss (dg n + 1) (fun i => (bs n).getD i 0 * row n ((q + i) % n) k) = 0)
def lookS (n : Nat) : Bool := allN n fun t => allN (dg n) fun q => decide (t = 0 ∨ ss n (fun k => row n (t * k % n) q) = 0)
def lookL (n : Nat) : Bool := allN n fun t => allN (dg n) fun q => decide (-1 ≤ row n t q ∧ row n t q ≤ 1)
def lookO (n : Nat) : Bool := (tab n).all fun r => r.length == dg n
theorem look_2 : (lookE 2 && lookI 2 && lookB 2 && lookS 2 && lookL 2 && lookO 2) = true := by decide +kernel
theorem look_3 : (lookE 3 && lookI 3 && lookB 3 && lookS 3 && lookL 3 && lookO 3) = true := by decide +kernel
theorem look_4 : (lookE 4 && lookI 4 && lookB 4 && lookS 4 && lookL 4 && lookO 4) = true := by decide +kernel
theorem look_5 : (lookE 5 && lookI 5 && lookB 5 && lookS 5 && lookL 5 && lookO 5) = true := by decide +kernel
theorem look_6 : (lookE 6 && lookI 6 && lookB 6 && lookS 6 && lookL 6 && lookO 6) = true := by decide +kernel
theorem look_7 : (lookE 7 && lookI 7 && lookB 7 && lookS 7 && lookL 7 && lookO 7) = true := by decide +kernel
theorem look_8 : (lookE 8 && lookI 8 && lookB 8 && lookS 8 && lookL 8 && lookO 8) = true := by decide +kernel
theorem look_9 : (lookE 9 && lookI 9 && lookB 9 && lookS 9 && lookL 9 && lookO 9) = true := by decide +kernel
theorem look_10 : (lookE 10 && lookI 10 && lookB 10 && lookS 10 && lookL 10 && lookO 10) = true := by decide +kernel
theorem look_11 : (lookE 11 && lookI 11 && lookB 11 && lookS 11 && lookL 11 && lookO 11) = true := by decide +kernel
theorem look_12 : (lookE 12 && lookI 12 && lookB 12 && lookS 12 && lookL 12 && lookO 12) = true := by decide +kernel
theorem look {n : Nat} (h : 2 ≤ n) (h2 : n ≤ 12) : lookE n = true ∧ lookI n = true ∧ lookB n = true ∧ lookS n = true ∧ lookL n = true ∧ lookO n = true := by
  have e : (lookE n && lookI n && lookB n && lookS n && lookL n && lookO n) = true := by
    rcases sizes h h2 with rfl | rfl | rfl | rfl | rfl | rfl | rfl | rfl | rfl | rfl | rfl
    · exact look_2
    · exact look_3
    · exact look_4
    · exact look_5
    · exact look_6
    · exact look_7
    · exact look_8
    · exact look_9
    · exact look_10
    · exact look_11
    · exact look_12
  simpa only [Bool.and_eq_true, and_assoc] using e
theorem dg_pos {n : Nat} (h : 2 ≤ n) (h2 : n ≤ 12) : 1 ≤ dg n ∧ dg n < n := by
  rcases sizes h h2 with rfl | rfl | rfl | rfl | rfl | rfl | rfl | rfl | rfl | rfl | rfl <;> decide
theorem ok_of {n k : Nat} (h : k < dg n) : 2 ≤ n ∧ n ≤ 12 := by
  by_cases q : 2 ≤ n ∧ n ≤ 12
  · exact q
  · rw [dg_else q] at h; omega
theorem sg_nat (n e k : Nat) : sg n (e : Int) k = row n (e % n) k := by
  unfold sg
  rw [show ((e : Int) % (n : Int)).toNat = e % n from by omega]
theorem sg_mod (n : Nat) (e : Int) (k : Nat) : sg n (e % (n : Int)) k = sg n e k := by
  unfold sg
  rw [Int.emod_emod_of_dvd _ (Int.dvd_refl _)]
theorem sg_per (n : Nat) (e t : Int) (k : Nat) : sg n (e + n * t) k = sg n e k := by
  unfold sg
  rw [Int.add_mul_emod_self_left]
theorem sg_congr {n : Nat} {a b : Int} (h : a % (n : Int) = b % (n : Int)) (k : Nat) : sg n a k = sg n b k := by unfold sg; rw [h]
/-- the step as a whole number below the size -/
theorem step_of {n : Nat} (h : 2 ≤ n) (e : Int) : ∃ q : Nat, q < n ∧ e % (n : Int) = q ∧ ∀ k, sg n e k = row n q k := by
  refine ⟨(e % (n : Int)).toNat, ?_, ?_, fun k => rfl⟩
  · have := Int.emod_lt_of_pos e (show (0 : Int) < n by omega); have := Int.emod_nonneg e (show (n : Int) ≠ 0 by omega); omega
  · have := Int.emod_nonneg e (show (n : Int) ≠ 0 by omega); omega
theorem sg_E {n k : Nat} (hk : k < dg n) (q p : Int) : Sm (dg n) (fun i => sg n q i * sg n (i + p) k) = sg n (q + p) k := by
  obtain ⟨h, h2⟩ := ok_of hk
  obtain ⟨a, ha, ea, fa⟩ := step_of h q
  obtain ⟨b, hb, eb, fb⟩ := step_of h p
  have z := of_decide_eq_true (allN_of (allN_of (allN_of (look h h2).1 ha) hb) hk)
  rw [ss_eq] at z
  have e1 : sg n (q + p) k = row n ((a + b) % n) k := by
    rw [← sg_nat]
    refine sg_congr ?_ k
    rw [Int.natCast_add, ← ea, ← eb, ← Int.add_emod]
  rw [e1, ← z]
  refine Sm_congr fun i _ => ?_
  rw [fa i]
  have e2 : sg n (i + p) k = row n ((i + b) % n) k := by
    rw [← sg_nat]
    refine sg_congr ?_ k
    rw [Int.natCast_add, ← eb, Int.add_emod_emod]
  rw [e2]
theorem sg_I {n i k : Nat} (hi : i < dg n) (hk : k < dg n) : sg n i k = if i = k then 1 else 0 := by
  obtain ⟨h, h2⟩ := ok_of hk
  rw [sg_nat, Nat.mod_eq_of_lt (by have := dg_pos h h2; omega)]
  exact of_decide_eq_true (allN_of (allN_of (look h h2).2.1 hi) hk)
theorem sg_B {n k : Nat} (hk : k < dg n) (q : Int) : Sm (dg n + 1) (fun i => (bs n).getD i 0 * sg n (q + i) k) = 0 := by
  obtain ⟨h, h2⟩ := ok_of hk
  obtain ⟨a, ha, ea, fa⟩ := step_of h q
  have z := of_decide_eq_true (allN_of (allN_of (look h h2).2.2.1 ha) hk)
  rw [ss_eq] at z
  refine Eq.trans (Sm_congr fun i _ => ?_) z
  congr 1
  rw [← sg_nat]
  refine sg_congr ?_ k
  rw [Int.natCast_add, ← ea, Int.emod_add_emod]
theorem sg_S {n q : Nat} (hq : q < dg n) {t : Int} (ht : t % (n : Int) ≠ 0) : Sm n (fun k => sg n (t * k) q) = 0 := by
  obtain ⟨h, h2⟩ := ok_of hq
  obtain ⟨a, ha, ea, fa⟩ := step_of h t
  have z := of_decide_eq_true (allN_of (allN_of (look h h2).2.2.2.1 ha) hq)
  rcases z with z | z
  · rw [ea, z] at ht; exact absurd rfl ht
  · rw [ss_eq] at z
    rw [← z]
    refine Sm_congr fun i _ => ?_
    rw [← sg_nat]
    refine sg_congr ?_ q
    rw [Int.natCast_mul, ← ea, Int.mul_emod t, Int.mul_emod (t % (n : Int)) i, Int.emod_emod_of_dvd _ (Int.dvd_refl _)]
theorem sg_out {n k : Nat} (hk : dg n ≤ k) (e : Int) : sg n e k = 0 := by
  by_cases q : 2 ≤ n ∧ n ≤ 12
  · obtain ⟨a, ha, ea, fa⟩ := step_of q.1 e
    rw [fa]
    unfold row
    have z := (look q.1 q.2).2.2.2.2.2
    rw [lookO, List.all_eq_true] at z
    rw [List.getD_eq_getElem?_getD (l := (tab n).getD a [])]
    cases u : (tab n)[a]? with
    | none => rw [List.getD_eq_getElem?_getD, u]; rfl
    | some r =>
      have := z r (List.mem_of_getElem? u)
      rw [List.getD_eq_getElem?_getD, u]
      show r[k]?.getD 0 = 0
      rw [List.getElem?_eq_none (by have := beq_iff_eq.1 this; omega)]
      rfl
  · unfold sg row
    have : tab n = [] := by unfold tab; split <;> first | rfl | omega
    rw [this]
    rfl
theorem sg_L (n : Nat) (e : Int) (k : Nat) : -1 ≤ sg n e k ∧ sg n e k ≤ 1 := by
  by_cases hk : k < dg n
  · obtain ⟨h, h2⟩ := ok_of hk
    obtain ⟨a, ha, ea, fa⟩ := step_of h e
    rw [fa]
    exact of_decide_eq_true (allN_of (allN_of (look h h2).2.2.2.2.1 ha) hk)
  · rw [sg_out (by omega)]
    omega
/-! ### the numbers -/
structure Z (n : Nat) where
  f : Nat → Int
  h : ∀ k, dg n ≤ k → f k = 0
theorem Z.ext {n : Nat} {x y : Z n} (e : ∀ k, k < dg n → x.f k = y.f k) : x = y := by
  obtain ⟨f, h⟩ := x
  obtain ⟨g, h'⟩ := y
  have : f = g := by
    funext k
    by_cases q : k < dg n
    · exact e k q
    · rw [h k (by omega), h' k (by omega)]
  subst this
  rfl
section
variable {n : Nat}
def Z.mk0 (n : Nat) (f : Nat → Int) : Z n := ⟨fun k => if k < dg n then f k else 0, fun k hk => if_neg (by omega)⟩
theorem Z.mk0_f {f : Nat → Int} {k : Nat} (hk : k < dg n) : (Z.mk0 n f).f k = f k := if_pos hk
def w (n : Nat) (e : Int) : Z n := ⟨sg n e, fun k hk => sg_out hk e⟩
def cst (n : Nat) (c : Int) : Z n := Z.mk0 n fun k => if k = 0 then c else 0
def mulZ (x y : Z n) : Z n := Z.mk0 n fun k => Sm (dg n) fun i => Sm (dg n) fun j => x.f i * y.f j * sg n ((i : Int) + j) k
instance : Add (Z n) := ⟨fun x y => Z.mk0 n fun k => x.f k + y.f k⟩
instance : Neg (Z n) := ⟨fun x => Z.mk0 n fun k => - x.f k⟩
instance : Sub (Z n) := ⟨fun x y => Z.mk0 n fun k => x.f k - y.f k⟩
instance : Mul (Z n) := ⟨mulZ⟩
instance : NatCast (Z n) := ⟨fun c => cst n c⟩
instance : IntCast (Z n) := ⟨fun c => cst n c⟩
instance (c : Nat) : OfNat (Z n) c := ⟨cst n c⟩
instance : SMul Nat (Z n) := ⟨fun c x => (c : Z n) * x⟩
instance : SMul Int (Z n) := ⟨fun c x => (c : Z n) * x⟩
def powZ (x : Z n) : Nat → Z n
  | 0 => cst n 1
  | k + 1 => powZ x k * x
instance : HPow (Z n) Nat (Z n) := ⟨powZ⟩
theorem add_f (x y : Z n) (k : Nat) : (x + y).f k = x.f k + y.f k := by
  show (if k < dg n then x.f k + y.f k else 0) = _
  split
  · rfl
  · rw [x.h k (by omega), y.h k (by omega)]; rfl
theorem sub_f (x y : Z n) (k : Nat) : (x - y).f k = x.f k - y.f k := by
  show (if k < dg n then x.f k - y.f k else 0) = _
  split
  · rfl
  · rw [x.h k (by omega), y.h k (by omega)]; rfl
theorem neg_f (x : Z n) (k : Nat) : (- x).f k = - x.f k := by
  show (if k < dg n then - x.f k else 0) = _
  split
  · rfl
  · rw [x.h k (by omega)]; rfl
theorem mul_f (x y : Z n) {k : Nat} (hk : k < dg n) : (x * y).f k = Sm (dg n) fun i => Sm (dg n) fun j => x.f i * y.f j * sg n ((i : Int) + j) k := if_pos hk
theorem cst_f {c : Int} {k : Nat} (hk : k < dg n) : (cst n c).f k = if k = 0 then c else 0 := if_pos hk
/-- a number is the sum of its parts times powers -/
theorem parts_f (x : Z n) {k : Nat} (hk : k < dg n) : Sm (dg n) (fun i => x.f i * sg n (i : Int) k) = x.f k := by
  rw [← Sm_one hk x.f]
  refine Sm_congr fun i hi => ?_
  rw [sg_I hi hk]
  split <;> simp
theorem mul_commZ (x y : Z n) : x * y = y * x := Z.ext fun k hk => by
  rw [mul_f _ _ hk, mul_f _ _ hk, Sm_comm]
  refine Sm_congr fun i _ => Sm_congr fun j _ => ?_
  rw [Int.mul_comm (x.f j), Int.add_comm (j : Int)]
/-- the product of three, in one -/
theorem mul3_f (x y z : Z n) {k : Nat} (hk : k < dg n) : ((x * y) * z).f k = Sm (dg n) fun a => Sm (dg n) fun b => Sm (dg n) fun j => x.f a * y.f b * z.f j * sg n ((a : Int) + b + j) k := by
  rw [mul_f _ _ hk]
  have e1 : ∀ l, l < dg n → Sm (dg n) (fun j => (x * y).f l * z.f j * sg n ((l : Int) + j) k) = Sm (dg n) fun a => Sm (dg n) fun b => Sm (dg n) fun j => x.f a * y.f b * z.f j * (sg n ((a : Int) + b) l * sg n ((l : Int) + j) k) := fun l hl => by
    rw [mul_f _ _ hl]
    have e2 : (fun j => Sm (dg n) (fun i => Sm (dg n) fun j => x.f i * y.f j * sg n ((i : Int) + j) l) * z.f j * sg n ((l : Int) + j) k) = fun j => Sm (dg n) fun a => Sm (dg n) fun b => x.f a * y.f b * z.f j * (sg n ((a : Int) + b) l * sg n ((l : Int) + j) k) := by
      funext j
      rw [mul_Sm, mul_Sm]
      refine Sm_congr fun a _ => ?_
      rw [mul_Sm, mul_Sm]
      refine Sm_congr fun b _ => ?_
      grind
    rw [e2, Sm_comm]
    refine Sm_congr fun a _ => ?_
    rw [Sm_comm]
  rw [Sm_congr e1, Sm_comm]
  refine Sm_congr fun a _ => ?_
  rw [Sm_comm]
  refine Sm_congr fun b _ => ?_
  rw [Sm_comm]
  refine Sm_congr fun j _ => ?_
  rw [← Sm_mul, sg_E hk]
theorem mul_assocZ (x y z : Z n) : x * y * z = x * (y * z) := Z.ext fun k hk => by
  rw [mul_commZ x (y * z), mul3_f _ _ _ hk, mul3_f _ _ _ hk]
  rw [Sm_comm]
  refine Sm_congr fun b _ => ?_
  rw [Sm_comm]
  refine Sm_congr fun j _ => Sm_congr fun a _ => ?_
  rw [show (a : Int) + b + j = b + j + a by omega]
  grind
theorem one_mulZ (x : Z n) : cst n 1 * x = x := Z.ext fun k hk => by
  have h0 : 0 < dg n := by omega
  rw [mul_f _ _ hk]
  refine Eq.trans (Sm_congr fun i hi => ?_) ((Sm_one h0 fun i => Sm (dg n) fun j => x.f j * sg n ((i : Int) + j) k).trans ?_)
  · show Sm (dg n) (fun j => (cst n 1).f i * x.f j * sg n ((i : Int) + j) k) = if i = 0 then Sm (dg n) (fun j => x.f j * sg n ((i : Int) + j) k) else 0
    rw [cst_f hi]
    split
    · refine Sm_congr fun j _ => ?_
      rw [Int.one_mul]
    · refine Sm_of_zero fun j _ => ?_
      rw [Int.zero_mul, Int.zero_mul]
  · show Sm (dg n) (fun j => x.f j * sg n (((0 : Nat) : Int) + j) k) = x.f k
    rw [← parts_f x hk]
    refine Sm_congr fun j _ => ?_
    rw [show ((0 : Nat) : Int) + j = j by omega]
theorem cst_mul (c : Int) (x : Z n) (k : Nat) : (cst n c * x).f k = c * x.f k := by
  by_cases hk : k < dg n
  · rw [mul_f _ _ hk]
    have e := one_mulZ x
    have e2 : (cst n 1 * x).f k = x.f k := by rw [e]
    rw [mul_f _ _ hk] at e2
    rw [← e2, Sm_mul]
    refine Sm_congr fun i hi => ?_
    rw [Sm_mul]
    refine Sm_congr fun j _ => ?_
    rw [cst_f hi, cst_f hi]
    split <;> grind
  · rw [(cst n c * x).h k (by omega), x.h k (by omega), Int.mul_zero]
theorem add_mulZ (x y z : Z n) : (x + y) * z = x * z + y * z := Z.ext fun k hk => by
  rw [add_f, mul_f _ _ hk, mul_f _ _ hk, mul_f _ _ hk, ← Sm_plus]
  refine Sm_congr fun i _ => ?_
  rw [← Sm_plus]
  refine Sm_congr fun j _ => ?_
  rw [add_f]
  grind
instance : Lean.Grind.CommRing (Z n) where
  add_zero x := Z.ext fun k hk => by
    rw [add_f]
    show x.f k + (cst n (0 : Nat)).f k = _
    rw [cst_f hk]
    split <;> simp
  add_comm x y := Z.ext fun k hk => by rw [add_f, add_f, Int.add_comm]
  add_assoc x y z := Z.ext fun k hk => by rw [add_f, add_f, add_f, add_f, Int.add_assoc]
  mul_assoc := mul_assocZ
  mul_one x := (mul_commZ _ _).trans (one_mulZ x)
  one_mul := one_mulZ
  left_distrib x y z := by rw [mul_commZ, add_mulZ, mul_commZ y, mul_commZ z]
  right_distrib := add_mulZ
  zero_mul x := Z.ext fun k hk => by
    show (cst n ((0 : Nat) : Int) * x).f k = (cst n ((0 : Nat) : Int)).f k
    rw [cst_mul, cst_f hk]
    split <;> simp
  mul_zero x := Z.ext fun k hk => by
    rw [mul_commZ]
    show (cst n ((0 : Nat) : Int) * x).f k = (cst n ((0 : Nat) : Int)).f k
    rw [cst_mul, cst_f hk]
    split <;> simp
  pow_zero x := rfl
  pow_succ x k := rfl
  ofNat_succ a := Z.ext fun k hk => by
    rw [add_f]
    show (cst n ((a + 1 : Nat) : Int)).f k = (cst n (a : Int)).f k + (cst n ((1 : Nat) : Int)).f k
    rw [cst_f hk, cst_f hk, cst_f hk]
    split <;> simp
  neg_add_cancel x := Z.ext fun k hk => by
    rw [add_f, neg_f]
    show _ = (cst n ((0 : Nat) : Int)).f k
    rw [cst_f hk]
    split <;> omega
  sub_eq_add_neg x y := Z.ext fun k hk => by rw [sub_f, add_f, neg_f]; rfl
  neg_zsmul i x := Z.ext fun k hk => by
    rw [neg_f]
    show (cst n (-i) * x).f k = - (cst n i * x).f k
    rw [cst_mul, cst_mul, Int.neg_mul]
  intCast_neg i := Z.ext fun k hk => by
    rw [neg_f]
    show (cst n (-i)).f k = - (cst n i).f k
    rw [cst_f hk, cst_f hk]
    split <;> omega
  mul_comm := mul_commZ
theorem icast_f (c : Int) (x : Z n) (k : Nat) : ((c : Z n) * x).f k = c * x.f k := cst_mul c x k
theorem ncast_f (c : Nat) (x : Z n) (k : Nat) : ((c : Z n) * x).f k = c * x.f k := cst_mul c x k
theorem zero_f (k : Nat) : (0 : Z n).f k = 0 := by
  show (cst n ((0 : Nat) : Int)).f k = 0
  by_cases hk : k < dg n
  · rw [cst_f hk]; split <;> rfl
  · exact (cst n 0).h k (by omega)
theorem Sm_f (m : Nat) (x : Nat → Z n) (k : Nat) : (Sm m x).f k = Sm m fun i => (x i).f k := by
  induction m with
  | zero => exact zero_f k
  | succ m ih => rw [Sm_succ, Sm_succ, add_f, ih]
theorem w_f (e : Int) (k : Nat) : (w n e).f k = sg n e k := rfl
theorem w_zero : w n 0 = 1 := Z.ext fun k hk => by
  show sg n ((0 : Nat) : Int) k = (cst n ((1 : Nat) : Int)).f k
  rw [sg_I (by omega) hk, cst_f hk]
  by_cases e : k = 0
  · rw [if_pos e, if_pos e.symm]; rfl
  · rw [if_neg e, if_neg fun z => e z.symm]
theorem w_add (a b : Int) : w n (a + b) = w n a * w n b := Z.ext fun k hk => by
  rw [mul_f _ _ hk]
  show sg n (a + b) k = Sm (dg n) fun i => Sm (dg n) fun j => sg n a i * sg n b j * sg n ((i : Int) + j) k
  rw [Sm_comm, Int.add_comm a b, ← sg_E hk b a]
  refine Sm_congr fun j _ => ?_
  rw [Int.add_comm (j : Int) a, ← sg_E hk a j, Sm_mul]
  refine Sm_congr fun i _ => ?_
  grind
theorem w_congr {a b : Int} (h : a % (n : Int) = b % (n : Int)) : w n a = w n b := Z.ext fun k _ => sg_congr h k
theorem w_per (e t : Int) : w n (e + n * t) = w n e := Z.ext fun k _ => sg_per n e t k
/-- the powers round the ring -/
theorem w_sum {t : Int} (ht : t % (n : Int) ≠ 0) : Sm n (fun k => w n (t * k)) = 0 := Z.ext fun q hq => by
  rw [Sm_f, zero_f]
  exact sg_S hq ht
/-- a number as the sum of its parts -/
theorem Z.sum (x : Z n) : Sm (dg n) (fun i => (x.f i : Z n) * w n i) = x := Z.ext fun k hk => by
  rw [Sm_f]
  refine Eq.trans (Sm_congr fun i _ => ?_) (parts_f x hk)
  rw [icast_f]
  rfl
theorem Sm_constZ (m : Nat) (c : Z n) : Sm m (fun _ => c) = (m : Z n) * c := by
  induction m with
  | zero =>
    rw [Sm_zero]
    refine Z.ext fun k _ => ?_
    rw [ncast_f, zero_f]
    simp
  | succ m ih =>
    rw [Sm_succ, ih]
    refine Z.ext fun k _ => ?_
    rw [add_f, ncast_f, ncast_f]
    rw [show ((m + 1 : Nat) : Int) = (m : Int) + 1 by omega, Int.add_mul, Int.one_mul]
end
end Nz
set_option Elab.async false
set_option linter.all false
set_option maxRecDepth 100000
set_option maxHeartbeats 4000000
namespace Nb
open PySem PySem.Spec L2 Dm Nz
set_option autoImplicit false
/-! ### fractions in lowest terms -/
def gc (a b : Int) : Int := ((Nat.gcd a.natAbs b.natAbs : Nat) : Int)
def nu (a b : Int) : Int := a / gc a b
def de (a b : Int) : Int := b / gc a b
def fr (a b : Int) : D := .tup [.int (nu a b), .int (de a b)]
theorem gc_eq (a b : Int) : gc a b = (Int.gcd a b : Int) := rfl
section
variable {a b : Int}
theorem gc_pos (h : 0 < b) : 0 < gc a b := by
  rw [gc_eq]
  have := Int.gcd_pos_of_ne_zero_right a (show b ≠ 0 by omega)
  omega
theorem gc_le (h : 0 < b) : gc a b ≤ b := by
  rw [gc_eq]
  have := Int.le_of_dvd h (Int.gcd_dvd_right a b)
  exact this
theorem nu_gc (a b : Int) : nu a b * gc a b = a := Int.ediv_mul_cancel (Int.gcd_dvd_left a b)
theorem de_gc (a b : Int) : de a b * gc a b = b := Int.ediv_mul_cancel (Int.gcd_dvd_right a b)
theorem de_pos (h : 0 < b) : 0 < de a b := by
  have h1 := de_gc a b
  have h2 := gc_pos (a := a) h
  rcases Int.lt_or_le 0 (de a b) with q | q
  · exact q
  · have := Int.mul_le_mul_of_nonneg_right q (Int.le_of_lt h2)
    omega
theorem de_dvd (a b : Int) : de a b ∣ b := ⟨gc a b, (de_gc a b).symm⟩
theorem nu_abs (h : 0 < b) : (nu a b).natAbs ≤ a.natAbs := by
  have h1 := nu_gc a b
  have h2 := gc_pos (a := a) h
  have e : a.natAbs = (nu a b).natAbs * (gc a b).natAbs := by rw [← Int.natAbs_mul, h1]
  rw [e]
  exact Nat.le_mul_of_pos_right _ (by omega)
theorem cop (h : 0 < b) : Nat.gcd (nu a b).natAbs (de a b).natAbs = 1 := by
  have h2 := gc_pos (a := a) h
  have := Int.gcd_ediv_gcd_ediv_gcd (i := a) (j := b) (by rw [gc_eq] at h2; omega)
  exact this
theorem fr_scale {t : Int} (ht : 0 < t) (h : 0 < b) : fr (t * a) (t * b) = fr a b := by
  have g : gc (t * a) (t * b) = t * gc a b := by
    rw [gc_eq, gc_eq, Int.gcd_mul_left]
    rw [Int.natCast_mul]
    congr 1
    omega
  unfold fr nu de
  rw [g, Int.mul_ediv_mul_of_pos _ _ ht, Int.mul_ediv_mul_of_pos _ _ ht]
theorem fr_eq {a' b' : Int} (h : 0 < b) (h' : 0 < b') (e : a * b' = a' * b) : fr a b = fr a' b' := by
  rw [← fr_scale h' h, ← fr_scale h h', show b' * a = b * a' by rw [Int.mul_comm, e, Int.mul_comm], Int.mul_comm b' b]
theorem fr_inj {a' b' : Int} (e : fr a b = fr a' b') : a * b' = a' * b := by
  unfold fr at e
  simp only [D.tup.injEq, List.cons.injEq, D.int.injEq, and_true] at e
  obtain ⟨e1, e2⟩ := e
  have h1 := nu_gc a b
  have h2 := de_gc a b
  have h3 := nu_gc a' b'
  have h4 := de_gc a' b'
  rw [e1] at h1
  rw [e2] at h2
  generalize nu a' b' = p at *
  generalize de a' b' = q at *
  generalize gc a b = g at *
  generalize gc a' b' = g' at *
  subst h1 h2 h3 h4
  grind
end
/-! ### wholes and numbers as data -/
section
variable {n : Nat}
/-- a row of fractions over one -/
def fs (m : Nat) (x : Nat → Int) (b : Int) : List D := (List.range m).map fun k => fr (x k) b
def nm (x : Z n) (b : Int) : D := .tup (fs (dg n) x.f b)
def wl (x : Z n) : D := .tup (fl (dg n) x.f)
def wL (x : Z n) : D := .lst (fl (dg n) x.f)
theorem fs_len (m : Nat) (x : Nat → Int) (b : Int) : (fs m x b).length = m := by unfold fs; rw [List.length_map, List.length_range]
theorem fs_congr {m : Nat} {x y : Nat → Int} {a b : Int} (h : ∀ k, k < m → fr (x k) a = fr (y k) b) : fs m x a = fs m y b := List.map_congr_left fun k hk => h k (List.mem_range.1 hk)
theorem nm_eq {x y : Z n} {a b : Int} (ha : 0 < a) (hb : 0 < b) (e : (b : Z n) * x = (a : Z n) * y) : nm x a = nm y b := by
  unfold nm
  refine congrArg D.tup (fs_congr fun k hk => fr_eq ha hb ?_)
  have := congrArg (fun z : Z n => z.f k) e
  simp only [icast_f] at this
  rw [Int.mul_comm, this, Int.mul_comm]
theorem fs_inj {m : Nat} {x y : Nat → Int} {a b : Int} (e : fs m x a = fs m y b) : ∀ k, k < m → x k * b = y k * a := fun k hk => by
  have h1 : (fs m x a)[k]? = some (fr (x k) a) := by unfold fs; rw [List.getElem?_map, List.getElem?_range hk]; rfl
  have h2 : (fs m y b)[k]? = some (fr (y k) b) := by unfold fs; rw [List.getElem?_map, List.getElem?_range hk]; rfl
  rw [e, h2] at h1
  exact fr_inj (Option.some.inj h1).symm
theorem nm_inj {x y : Z n} {a b : Int} (e : nm x a = nm y b) : (b : Z n) * x = (a : Z n) * y := Z.ext fun k hk => by
  unfold nm at e
  have := fs_inj (D.tup.inj e) k hk
  rw [icast_f, icast_f, Int.mul_comm, this, Int.mul_comm]
end
end Nb
set_option Elab.async false
set_option linter.all false
set_option maxRecDepth 100000
set_option maxHeartbeats 4000000
namespace Nb
open PySem PySem.Spec L2 Dm
set_option autoImplicit false
def kd_ROUND_POLYNOMIALS : List (Int × D) := [(2, .tup [.int 1, .int 1]), (3, .tup [.int 1, .int 1, .int 1]), (4, .tup [.int 1, .int 0, .int 1]), (5, .tup [.int 1, .int 1, .int 1, .int 1, .int 1]), (6, .tup [.int 1, .int (-1), .int 1]), (7, .tup [.int 1, .int 1, .int 1, .int 1, .int 1, .int 1, .int 1]), (8, .tup [.int 1, .int 0, .int 0, .int 0, .int 1]), (9, .tup [.int 1, .int 0, .int 0, .int 1, .int 0, .int 0, .int 1]), (10, .tup [.int 1, .int (-1), .int 1, .int (-1), .int 1]), (11, .tup [.int 1, .int 1, .int 1, .int 1, .int 1, .int 1, .int 1, .int 1, .int 1, .int 1, .int 1]), (12, .tup [.int 1, .int 0, .int (-1), .int 0, .int 1])]
/-! ### the programs -/
def b_fraction_of : MS :=
  (mSeq (mSet 2 (mCS fGcd (mCons (mVar 0) (mCons (mVar 1) mNil))))
  (mSeq (mIfS (mTest (mBin fLt (mVar 1) (mC (.int 0)))) (mSet 2 (mUn fNeg (mVar 2))) mSkip)
  (mRet (mTup (mCons (mFrz (mBin fDivA (mVar 0) (mVar 2))) (mCons (mFrz (mBin fDivA (mVar 1) (mVar 2))) mNil))))))
def fn_fraction_of : FnV := fnV 3 2 b_fraction_of
def b_number_of : MS :=
  (mRet (mTupOf (mCons (mLc [2] (mSeqI (mVar 0)) (gPut 2) mYes (mCallV fn_fraction_of (mCons (mFrz (mVar 2)) (mCons (mFrz (mVar 1)) mNil)))) mNil)))
def fn_number_of : FnV := fnV 3 2 b_number_of
def b_whole_row : MS :=
  (mSeq (mSet 1 (mC (.int 1)))
  (mSeq (mFor (mSeqI (mVar 0)) (gPut 2) (mFor (mSeqI (mVar 2)) (gTupD 2 (gsCons (gPut 3) (gsCons (gPut 4) gsNil))) (mSet 1 (mCS fLcm (mCons (mVar 1) (mCons (mVar 4) mNil))))))
  (mSeq (mSet 5 (mLc [2] (mSeqI (mVar 0)) (gPut 2) mYes (mTupOf (mCons (mLc [6, 4] (mSeqI (mVar 2)) (gTupD 2 (gsCons (gPut 6) (gsCons (gPut 4) gsNil))) mYes (mBin fMulA (mVar 6) (mBin fDivA (mVar 1) (mVar 4)))) mNil))))
  (mRet (mTup (mCons (mFrz (mVar 5)) (mCons (mFrz (mVar 1)) mNil)))))))
def fn_whole_row : FnV := fnV 7 1 b_whole_row
def b_whole_over : MS :=
  (mSeq (mAsg (mFrz (mCallV fn_whole_row (mCons (mFrz (mTup (mCons (mFrz (mVar 0)) mNil))) mNil))) (gTupD 2 (gsCons (gPut 1) (gsCons (gPut 2) gsNil))))
  (mRet (mTup (mCons (mFrz (mIx (mVar 1) (mC (.int 0)))) (mCons (mFrz (mVar 2)) mNil)))))
def fn_whole_over : FnV := fnV 3 1 b_whole_over
def b_rest_by_round : MS :=
  (mSeq (mSet 2 (mIxK kd_ROUND_POLYNOMIALS (mVar 0)))
  (mSeq (mSet 3 (mBin fSub (mCS fLen (mCons (mVar 2) mNil)) (mC (.int 1))))
  (mSeq (mSet 4 (mCL fList (mCons (mVar 1) mNil)))
  (mSeq (mWhile (fun _ => 100) (mTest (mBin fGt (mCS fLen (mCons (mVar 4) mNil)) (mVar 3))) (mSeq (mSet 5 (mPop (mVar 4)))
  (mIfS (mTest (mBin fNe (mVar 5) (mC (.int 0)))) (mSeq (mSet 6 (mBin fSub (mCS fLen (mCons (mVar 4) mNil)) (mVar 3)))
  (mFor (mRng fRg1 (mCons (mVar 3) mNil)) (gPut 7) (mAugS (fun i j => i - j) (mVar 4) (mBin fAdd (mVar 6) (mVar 7)) (mBin fMulA (mVar 5) (mIx (mVar 2) (mVar 7)))))) mSkip)))
  (mRet (mTupOf (mCons (mVar 4) mNil)))))))
def fn_rest_by_round : FnV := fnV 8 2 b_rest_by_round
def b_sum_of : MS :=
  (mRet (mTupOf (mCons (mLc [2, 3] (mZip (mCons (mFrz (mVar 0)) (mCons (mFrz (mVar 1)) mNil))) (gTupD 2 (gsCons (gPut 2) (gsCons (gPut 3) gsNil))) mYes (mBin fAdd (mVar 2) (mVar 3))) mNil)))
def fn_sum_of : FnV := fnV 4 2 b_sum_of
def b_times_root : MS :=
  (mSeq (mSet 3 (mRep (mLst (mCons (mFrz (mC (.int 0))) mNil)) (mVar 0)))
  (mSeq (mFor (mEnA (mVar 1)) (gTupD 2 (gsCons (gPut 4) (gsCons (gPut 5) gsNil))) (mAugS (fun i j => i + j) (mVar 3) (mBin fMod (mBin fAdd (mVar 4) (mVar 2)) (mVar 0)) (mVar 5)))
  (mRet (mCallV fn_rest_by_round (mCons (mFrz (mVar 0)) (mCons (mFrz (mVar 3)) mNil))))))
def fn_times_root : FnV := fnV 6 3 b_times_root
def b_whole_root : MS :=
  (mRet (mCallV fn_times_root (mCons (mFrz (mVar 0)) (mCons (mFrz (mTup (mCons (mFrz (mC (.int 1))) mNil))) (mCons (mFrz (mVar 1)) mNil)))))
def fn_whole_root : FnV := fnV 2 2 b_whole_root
def b_product_of : MS :=
  (mSeq (mSet 3 (mRep (mLst (mCons (mFrz (mC (.int 0))) mNil)) (mBin fSub (mBin fMulA (mC (.int 2)) (mCS fLen (mCons (mVar 1) mNil))) (mC (.int 1)))))
  (mSeq (mFor (mEnA (mVar 1)) (gTupD 2 (gsCons (gPut 4) (gsCons (gPut 5) gsNil))) (mIfS (mTest (mBin fNe (mVar 5) (mC (.int 0)))) (mFor (mEnA (mVar 2)) (gTupD 2 (gsCons (gPut 6) (gsCons (gPut 7) gsNil))) (mAugS (fun i j => i + j) (mVar 3) (mBin fAdd (mVar 4) (mVar 6)) (mBin fMulA (mVar 5) (mVar 7)))) mSkip))
  (mRet (mCallV fn_rest_by_round (mCons (mFrz (mVar 0)) (mCons (mFrz (mVar 3)) mNil))))))
def fn_product_of : FnV := fnV 8 3 b_product_of
def b_is_whole_from : MS :=
  (mRet (mAndV (mTyIs "int" false (mVar 0)) (mChain fLe fLe (mVar 1) (mVar 0) (mVar 2))))
def fn_is_whole_from : FnV := fnV 3 3 b_is_whole_from
def b_is_size : MS :=
  (mRet (mCallV fn_is_whole_from (mCons (mFrz (mVar 0)) (mCons (mFrz (mC (.int 2))) (mCons (mFrz (mC (.int 12))) mNil)))))
def fn_is_size : FnV := fnV 1 1 b_is_size
def b_check_size : MS :=
  (mIfS (mNotT (mTest (mCallV fn_is_size (mCons (mFrz (mVar 0)) mNil)))) mDie mSkip)
def fn_check_size : FnV := fnV 1 1 b_check_size
def b_check_index : MS :=
  (mIfS (mNotT (mTest (mCallV fn_is_whole_from (mCons (mFrz (mVar 0)) (mCons (mFrz (mC (.int 0))) (mCons (mFrz (mBin fSub (mVar 1) (mC (.int 1)))) mNil)))))) mDie mSkip)
def fn_check_index : FnV := fnV 2 2 b_check_index
def b_round_polynomial : MS :=
  (mSeq (mExpr (mCallV fn_check_size (mCons (mFrz (mVar 0)) mNil)))
  (mRet (mIxK kd_ROUND_POLYNOMIALS (mVar 0))))
def fn_round_polynomial : FnV := fnV 1 1 b_round_polynomial
def b_degree_of : MS :=
  (mRet (mBin fSub (mCS fLen (mCons (mCallV fn_round_polynomial (mCons (mFrz (mVar 0)) mNil)) mNil)) (mC (.int 1))))
def fn_degree_of : FnV := fnV 1 1 b_degree_of
def b_is_fraction : MS :=
  (mSeq (mIfS (mOrT (mTest (mTyIs "tuple" true (mVar 0))) (mTest (mBin fNe (mCS fLen (mCons (mVar 0) mNil)) (mC (.int 2))))) (mRet (mC (.bl false))) mSkip)
  (mSeq (mAsg (mFrz (mVar 0)) (gTupD 2 (gsCons (gPut 1) (gsCons (gPut 2) gsNil))))
  (mSeq (mIfS (mOrT (mTest (mTyIs "int" true (mVar 1))) (mTest (mTyIs "int" true (mVar 2)))) (mRet (mC (.bl false))) mSkip)
  (mRet (mAndV (mBin fGt (mVar 2) (mC (.int 0))) (mBin fEq (mCS fGcd (mCons (mVar 1) (mCons (mVar 2) mNil))) (mC (.int 1))))))))
def fn_is_fraction : FnV := fnV 3 1 b_is_fraction
def b_is_number : MS :=
  (mSeq (mSet 2 (mCallV fn_degree_of (mCons (mFrz (mVar 0)) mNil)))
  (mSeq (mIfS (mOrT (mTest (mTyIs "tuple" true (mVar 1))) (mTest (mBin fNe (mCS fLen (mCons (mVar 1) mNil)) (mVar 2)))) (mRet (mC (.bl false))) mSkip)
  (mRet (mCS fAll (mCons (mLc [3] (mSeqI (mVar 1)) (gPut 3) mYes (mCallV fn_is_fraction (mCons (mFrz (mVar 3)) mNil))) mNil)))))
def fn_is_number : FnV := fnV 4 2 b_is_number
def b_check_number : MS :=
  (mIfS (mNotT (mTest (mCallV fn_is_number (mCons (mFrz (mVar 0)) (mCons (mFrz (mVar 1)) mNil))))) mDie mSkip)
def fn_check_number : FnV := fnV 2 2 b_check_number
def b_check_turns : MS :=
  (mSeq (mIfS (mOrT (mTest (mTyIs "tuple" true (mVar 1))) (mTest (mBin fNe (mCS fLen (mCons (mVar 1) mNil)) (mVar 0)))) mDie mSkip)
  (mFor (mEnA (mVar 1)) (gTupD 2 (gsCons (gPut 2) (gsCons (gPut 3) gsNil))) (mIfS (mNotT (mTest (mCallV fn_is_fraction (mCons (mFrz (mVar 3)) mNil)))) mDie mSkip)))
def fn_check_turns : FnV := fnV 4 2 b_check_turns
def b_root : MS :=
  (mSeq (mExpr (mCallV fn_check_size (mCons (mFrz (mVar 0)) mNil)))
  (mSeq (mExpr (mCallV fn_check_index (mCons (mFrz (mVar 1)) (mCons (mFrz (mVar 0)) mNil))))
  (mRet (mCallV fn_number_of (mCons (mFrz (mCallV fn_whole_root (mCons (mFrz (mVar 0)) (mCons (mFrz (mVar 1)) mNil)))) (mCons (mFrz (mC (.int 1))) mNil))))))
def fn_root : FnV := fnV 2 2 b_root
def b_number_from : MS :=
  (mSeq (mExpr (mCallV fn_check_size (mCons (mFrz (mVar 0)) mNil)))
  (mSeq (mExpr (mCallV fn_check_turns (mCons (mFrz (mVar 0)) (mCons (mFrz (mVar 1)) mNil))))
  (mSeq (mAsg (mFrz (mCallV fn_whole_over (mCons (mFrz (mVar 1)) mNil))) (gTupD 2 (gsCons (gPut 2) (gsCons (gPut 3) gsNil))))
  (mRet (mCallV fn_number_of (mCons (mFrz (mCallV fn_rest_by_round (mCons (mFrz (mVar 0)) (mCons (mFrz (mVar 2)) mNil)))) (mCons (mFrz (mVar 3)) mNil)))))))
def fn_number_from : FnV := fnV 4 2 b_number_from
def b_check_two : MS :=
  (mSeq (mExpr (mCallV fn_check_size (mCons (mFrz (mVar 0)) mNil)))
  (mSeq (mExpr (mCallV fn_check_number (mCons (mFrz (mVar 0)) (mCons (mFrz (mVar 1)) mNil))))
  (mExpr (mCallV fn_check_number (mCons (mFrz (mVar 0)) (mCons (mFrz (mVar 2)) mNil))))))
def fn_check_two : FnV := fnV 3 3 b_check_two
def b_plus : MS :=
  (mSeq (mExpr (mCallV fn_check_two (mCons (mFrz (mVar 0)) (mCons (mFrz (mVar 1)) (mCons (mFrz (mVar 2)) mNil)))))
  (mSeq (mAsg (mFrz (mCallV fn_whole_row (mCons (mFrz (mTup (mCons (mFrz (mVar 1)) (mCons (mFrz (mVar 2)) mNil)))) mNil))) (gTupD 2 (gsCons (gPut 3) (gsCons (gPut 4) gsNil))))
  (mRet (mCallV fn_number_of (mCons (mFrz (mCallV fn_sum_of (mCons (mFrz (mIx (mVar 3) (mC (.int 0)))) (mCons (mFrz (mIx (mVar 3) (mC (.int 1)))) mNil)))) (mCons (mFrz (mVar 4)) mNil))))))
def fn_plus : FnV := fnV 5 3 b_plus
def b_times : MS :=
  (mSeq (mExpr (mCallV fn_check_two (mCons (mFrz (mVar 0)) (mCons (mFrz (mVar 1)) (mCons (mFrz (mVar 2)) mNil)))))
  (mSeq (mAsg (mFrz (mCallV fn_whole_over (mCons (mFrz (mVar 1)) mNil))) (gTupD 2 (gsCons (gPut 3) (gsCons (gPut 4) gsNil))))
  (mSeq (mAsg (mFrz (mCallV fn_whole_over (mCons (mFrz (mVar 2)) mNil))) (gTupD 2 (gsCons (gPut 5) (gsCons (gPut 6) gsNil))))
  (mRet (mCallV fn_number_of (mCons (mFrz (mCallV fn_product_of (mCons (mFrz (mVar 0)) (mCons (mFrz (mVar 3)) (mCons (mFrz (mVar 5)) mNil))))) (mCons (mFrz (mBin fMulA (mVar 4) (mVar 6))) mNil)))))))
def fn_times : FnV := fnV 7 3 b_times
def b__law_next : MS :=
  (mSeq (mIfS (mTest (mBin fGt (mIx (mVar 0) (mC (.int 0))) (mC (.int 0)))) (mSeq (mAsg (mFrz (mTupNew fDm (mCons (mIx (mVar 0) (mC (.int 0))) (mCons (mVar 1) mNil)))) (gTupD 2 (gsCons (gSubD (mVar 0) (mC (.int 0))) (gsCons (gPut 2) gsNil))))
  (mRet (mVar 2))) mSkip)
  (mSeq (mAsg (mFrz (mBin fAdd (mIx (mVar 0) (mC (.int 2))) (mC (.int 1)))) (gSubD (mVar 0) (mC (.int 2))))
  (mSeq (mAsg (mFrz (mBin fMod (mCS (fI1 fun i => i) (mCons (mBin fAdd (mBin fAdd (mBin fMulA (mIx (mVar 0) (mC (.int 1))) (mBin fAdd (mC (.int 48271)) (mBin fMulA (mC (.int 2)) (mIx (mVar 0) (mC (.int 2)))))) (mBin fMulA (mC (.int 10007)) (mIx (mVar 0) (mC (.int 2))))) (mC (.int 3))) mNil)) (mC (.int 2147483629)))) (gSubD (mVar 0) (mC (.int 1))))
  (mRet (mBin fMod (mCS (fI1 fun i => i) (mCons (mBin fDivA (mIx (mVar 0) (mC (.int 1))) (mC (.int 331))) mNil)) (mVar 1))))))
def fn__law_next : FnW := fnW 3 2 b__law_next
def b__law_pick : MS :=
  (mRet (mIx (mVar 1) (mCallW fn__law_next (mVar 0) (mCons (mFrz (mCS fLen (mCons (mVar 1) mNil))) mNil))))
def fn__law_pick : FnW := fnW 2 2 b__law_pick
def b__law_gcd : MS :=
  (mSeq (mWhile fuel1 (mTest (mBin fGt (mVar 1) (mC (.int 0)))) (mPar 0 1 (mCons (mFrz (mVar 1)) (mCons (mFrz (mBin fMod (mCS (fI1 fun i => i) (mCons (mVar 0) mNil)) (mVar 1))) mNil))))
  (mRet (mVar 0)))
def fn__law_gcd : FnV := fnV 2 2 b__law_gcd
def b__law_fraction : MS :=
  (mSeq (mSet 2 (mCallV fn__law_gcd (mCons (mFrz (mCS (fI1 gAbs) (mCons (mVar 0) mNil))) (mCons (mFrz (mVar 1)) mNil))))
  (mRet (mTup (mCons (mFrz (mBin fDivA (mVar 0) (mVar 2))) (mCons (mFrz (mBin fDivA (mVar 1) (mVar 2))) mNil)))))
def fn__law_fraction : FnV := fnV 3 2 b__law_fraction
def b__law_number : MS :=
  (mRet (mTupOf (mCons (mLc [2] (mSeqI (mVar 0)) (gPut 2) mYes (mCallV fn__law_fraction (mCons (mFrz (mVar 2)) (mCons (mFrz (mVar 1)) mNil)))) mNil)))
def fn__law_number : FnV := fnV 3 2 b__law_number
def b__law_ring : MS :=
  (mSeq (mSet 1 (mDicV [2, 3, 4, 5, 6, 7, 8, 9, 10, 11, 12] (mPCons (mFrz (mLst (mCons (mFrz (mC (.int 1))) mNil))) (mPCons (mFrz (mLst (mCons (mFrz (mC (.int 1))) (mCons (mFrz (mC (.int 1))) mNil)))) (mPCons (mFrz (mLst (mCons (mFrz (mC (.int 1))) (mCons (mFrz (mC (.int 0))) mNil)))) (mPCons (mFrz (mLst (mCons (mFrz (mC (.int 1))) (mCons (mFrz (mC (.int 1))) (mCons (mFrz (mC (.int 1))) (mCons (mFrz (mC (.int 1))) mNil)))))) (mPCons (mFrz (mLst (mCons (mFrz (mC (.int 1))) (mCons (mFrz (mUn fNeg (mC (.int 1)))) mNil)))) (mPCons (mFrz (mRep (mLst (mCons (mFrz (mC (.int 1))) mNil)) (mC (.int 6)))) (mPCons (mFrz (mLst (mCons (mFrz (mC (.int 1))) (mCons (mFrz (mC (.int 0))) (mCons (mFrz (mC (.int 0))) (mCons (mFrz (mC (.int 0))) mNil)))))) (mPCons (mFrz (mLst (mCons (mFrz (mC (.int 1))) (mCons (mFrz (mC (.int 0))) (mCons (mFrz (mC (.int 0))) (mCons (mFrz (mC (.int 1))) (mCons (mFrz (mC (.int 0))) (mCons (mFrz (mC (.int 0))) mNil)))))))) (mPCons (mFrz (mLst (mCons (mFrz (mC (.int 1))) (mCons (mFrz (mUn fNeg (mC (.int 1)))) (mCons (mFrz (mC (.int 1))) (mCons (mFrz (mUn fNeg (mC (.int 1)))) mNil)))))) (mPCons (mFrz (mRep (mLst (mCons (mFrz (mC (.int 1))) mNil)) (mC (.int 10)))) (mPCons (mFrz (mLst (mCons (mFrz (mC (.int 1))) (mCons (mFrz (mC (.int 0))) (mCons (mFrz (mUn fNeg (mC (.int 1)))) (mCons (mFrz (mC (.int 0))) mNil)))))) mPNil)))))))))))))
  (mSeq (mPar 2 3 (mCons (mFrz (mIxD (mVar 1) (mVar 0))) (mCons (mLst mNil) mNil)))
  (mSeq (mSet 4 (mCatL (mLst (mCons (mFrz (mC (.int 1))) mNil)) (mRep (mLst (mCons (mFrz (mC (.int 0))) mNil)) (mBin fSub (mCS fLen (mCons (mVar 2) mNil)) (mC (.int 1))))))
  (mSeq (mFor (mRng fRg1 (mCons (mVar 0) mNil)) (gPut 5) (mSeq (mExpr (mApp (mVar 3) (mFrz (mVar 4))))
  (mSeq (mSet 6 (mIx (mVar 4) (mBin fSub (mCS fLen (mCons (mVar 2) mNil)) (mC (.int 1)))))
  (mSet 4 (mLc [7] (mRng fRg1 (mCons (mCS fLen (mCons (mVar 2) mNil)) mNil)) (gPut 7) mYes (mBin fSub (mIf (mTest (mBin fGt (mVar 7) (mC (.int 0)))) (mIx (mVar 4) (mBin fSub (mVar 7) (mC (.int 1)))) (mC (.int 0))) (mBin fMulA (mVar 6) (mIx (mVar 2) (mVar 7)))))))))
  (mRet (mVar 3))))))
def fn__law_ring : FnV := fnV 8 1 b__law_ring
def b__law_lowered : MS :=
  (mSeq (mSet 2 (mRep (mLst (mCons (mFrz (mC (.int 0))) mNil)) (mCS fLen (mCons (mIx (mVar 0) (mC (.int 0))) mNil))))
  (mSeq (mFor (mRng fRg1 (mCons (mCS fLen (mCons (mVar 1) mNil)) mNil)) (gPut 3) (mIfS (mTest (mBin fNe (mIx (mVar 1) (mVar 3)) (mC (.int 0)))) (mSet 2 (mLc [4] (mRng fRg1 (mCons (mCS fLen (mCons (mVar 2) mNil)) mNil)) (gPut 4) mYes (mBin fAdd (mIx (mVar 2) (mVar 4)) (mBin fMulA (mIx (mVar 1) (mVar 3)) (mIx (mIx (mVar 0) (mVar 3)) (mVar 4)))))) mSkip))
  (mRet (mVar 2))))
def fn__law_lowered : FnV := fnV 5 2 b__law_lowered
def b__law_times : MS :=
  (mSeq (mSet 3 (mRep (mLst (mCons (mFrz (mC (.int 0))) mNil)) (mCS fLen (mCons (mVar 0) mNil))))
  (mSeq (mFor (mRng fRg1 (mCons (mCS fLen (mCons (mVar 1) mNil)) mNil)) (gPut 4) (mFor (mRng fRg1 (mCons (mCS fLen (mCons (mVar 2) mNil)) mNil)) (gPut 5) (mSeq (mSet 6 (mBin fMod (mCS (fI1 fun i => i) (mCons (mBin fAdd (mVar 4) (mVar 5)) mNil)) (mCS fLen (mCons (mVar 0) mNil))))
  (mAsg (mFrz (mBin fAdd (mIx (mVar 3) (mVar 6)) (mBin fMulA (mIx (mVar 1) (mVar 4)) (mIx (mVar 2) (mVar 5))))) (gSubD (mVar 3) (mVar 6))))))
  (mRet (mCallV fn__law_lowered (mCons (mFrz (mVar 0)) (mCons (mFrz (mVar 3)) mNil))))))
def fn__law_times : FnV := fnV 7 3 b__law_times
def b__law_some : MS :=
  (mSeq (mPar 2 3 (mCons (mFrz (mCallW fn__law_next (mVar 0) (mCons (mFrz (mC (.int 5))) mNil))) (mCons (mLst mNil) mNil)))
  (mSeq (mFor (mRng fRg1 (mCons (mVar 1) mNil)) (gPut 4) (mSeq (mSet 5 (mBin fSub (mCallW fn__law_next (mVar 0) (mCons (mFrz (mC (.int 9))) mNil)) (mC (.int 4))))
  (mExpr (mApp (mVar 3) (mFrz (mIf (mTest (mBin fEq (mVar 2) (mC (.int 0)))) (mBin fMulA (mVar 5) (mBin fAdd (mBin fPow (mC (.int 10)) (mC (.int 11))) (mCallW fn__law_next (mVar 0) (mCons (mFrz (mBin fPow (mC (.int 10)) (mC (.int 9)))) mNil)))) (mVar 5)))))))
  (mSeq (mIfS (mTest (mBin fEq (mVar 2) (mC (.int 1)))) (mSeq (mSet 6 (mCallW fn__law_next (mVar 0) (mCons (mFrz (mVar 1)) mNil)))
  (mSet 3 (mLc [7] (mRng fRg1 (mCons (mVar 1) mNil)) (gPut 7) mYes (mIf (mTest (mBin fEq (mVar 7) (mVar 6))) (mIx (mVar 3) (mVar 7)) (mC (.int 0)))))) mSkip)
  (mRet (mVar 3)))))
def fn__law_some : FnW := fnW 8 2 b__law_some
def b__law_rest : MS :=
  (mSeq (mSet 2 (mCL fList (mCons (mVar 0) mNil)))
  (mSeq (mFor (mRng fRg3 (mCons (mBin fSub (mCS fLen (mCons (mVar 2) mNil)) (mCS fLen (mCons (mVar 1) mNil))) (mCons (mUn fNeg (mC (.int 1))) (mCons (mUn fNeg (mC (.int 1))) mNil)))) (gPut 3) (mSeq (mSet 4 (mIx (mVar 2) (mBin fSub (mBin fAdd (mVar 3) (mCS fLen (mCons (mVar 1) mNil))) (mC (.int 1)))))
  (mFor (mRng fRg1 (mCons (mCS fLen (mCons (mVar 1) mNil)) mNil)) (gPut 5) (mAsg (mFrz (mBin fSub (mIx (mVar 2) (mBin fAdd (mVar 3) (mVar 5))) (mBin fMulA (mVar 4) (mIx (mVar 1) (mVar 5))))) (gSubD (mVar 2) (mBin fAdd (mVar 3) (mVar 5)))))))
  (mRet (mSlL (mVar 2) mNo (mPart (mBin fSub (mCS fLen (mCons (mVar 1) mNil)) (mC (.int 1))))))))
def fn__law_rest : FnV := fnV 6 2 b__law_rest
def b_sums_of_turns : MS :=
  (mSeq (mSet 3 (mLst mNil))
  (mSeq (mFor (mRng fRg1 (mCons (mVar 0) mNil)) (gPut 4) (mSeq (mSet 5 (mRep (mLst (mCons (mFrz (mC (.int 0))) mNil)) (mVar 0)))
  (mSeq (mFor (mEnA (mVar 1)) (gTupD 2 (gsCons (gPut 6) (gsCons (gPut 7) gsNil))) (mFor (mEnA (mVar 7)) (gTupD 2 (gsCons (gPut 8) (gsCons (gPut 9) gsNil))) (mAugS (fun i j => i + j) (mVar 5) (mBin fMod (mBin fAdd (mVar 8) (mBin fMulA (mBin fMulA (mVar 2) (mVar 6)) (mVar 4))) (mVar 0)) (mVar 9))))
  (mExpr (mApp (mVar 3) (mFrz (mCallV fn_rest_by_round (mCons (mFrz (mVar 0)) (mCons (mFrz (mVar 5)) mNil)))))))))
  (mRet (mVar 3))))
def fn_sums_of_turns : FnV := fnV 10 3 b_sums_of_turns
def b_first_no_number : MS :=
  (mSeq (mFor (mEnA (mVar 1)) (gTupD 2 (gsCons (gPut 2) (gsCons (gPut 3) gsNil))) (mIfS (mNotT (mTest (mCallV fn_is_number (mCons (mFrz (mVar 0)) (mCons (mFrz (mVar 3)) mNil))))) (mRet (mVar 2)) mSkip))
  (mRet (mC .non)))
def fn_first_no_number : FnV := fnV 4 2 b_first_no_number
def b_check_signal : MS :=
  (mSeq (mIfS (mOrT (mTest (mTyIs "tuple" true (mVar 1))) (mTest (mBin fNe (mCS fLen (mCons (mVar 1) mNil)) (mVar 0)))) mDie mSkip)
  (mSeq (mSet 2 (mCallV fn_first_no_number (mCons (mFrz (mVar 0)) (mCons (mFrz (mVar 1)) mNil))))
  (mIfS (mTest (mBin fNotN (mVar 2) (mC .non))) mDie mSkip)))
def fn_check_signal : FnV := fnV 3 2 b_check_signal
def b_parts_of : MS :=
  (mSeq (mExpr (mCallV fn_check_size (mCons (mFrz (mVar 0)) mNil)))
  (mSeq (mExpr (mCallV fn_check_signal (mCons (mFrz (mVar 0)) (mCons (mFrz (mVar 1)) mNil))))
  (mSeq (mAsg (mFrz (mCallV fn_whole_row (mCons (mFrz (mVar 1)) mNil))) (gTupD 2 (gsCons (gPut 2) (gsCons (gPut 3) gsNil))))
  (mRet (mTupOf (mCons (mLc [4] (mSeqI (mCallV fn_sums_of_turns (mCons (mFrz (mVar 0)) (mCons (mFrz (mVar 2)) (mCons (mFrz (mUn fNeg (mC (.int 1)))) mNil))))) (gPut 4) mYes (mCallV fn_number_of (mCons (mFrz (mVar 4)) (mCons (mFrz (mBin fMulA (mVar 3) (mVar 0))) mNil)))) mNil))))))
def fn_parts_of : FnV := fnV 5 2 b_parts_of
def b_signal_from : MS :=
  (mSeq (mExpr (mCallV fn_check_size (mCons (mFrz (mVar 0)) mNil)))
  (mSeq (mExpr (mCallV fn_check_signal (mCons (mFrz (mVar 0)) (mCons (mFrz (mVar 1)) mNil))))
  (mSeq (mAsg (mFrz (mCallV fn_whole_row (mCons (mFrz (mVar 1)) mNil))) (gTupD 2 (gsCons (gPut 2) (gsCons (gPut 3) gsNil))))
  (mRet (mTupOf (mCons (mLc [4] (mSeqI (mCallV fn_sums_of_turns (mCons (mFrz (mVar 0)) (mCons (mFrz (mVar 2)) (mCons (mFrz (mC (.int 1))) mNil))))) (gPut 4) mYes (mCallV fn_number_of (mCons (mFrz (mVar 4)) (mCons (mFrz (mVar 3)) mNil)))) mNil))))))
def fn_signal_from : FnV := fnV 5 2 b_signal_from
def b_wave : MS :=
  (mSeq (mExpr (mCallV fn_check_size (mCons (mFrz (mVar 0)) mNil)))
  (mSeq (mExpr (mCallV fn_check_index (mCons (mFrz (mVar 1)) (mCons (mFrz (mVar 0)) mNil))))
  (mRet (mTupOf (mCons (mLc [2] (mRng fRg1 (mCons (mVar 0) mNil)) (gPut 2) mYes (mCallV fn_root (mCons (mFrz (mVar 0)) (mCons (mFrz (mBin fMod (mBin fMulA (mVar 1) (mVar 2)) (mVar 0))) mNil)))) mNil)))))
def fn_wave : FnV := fnV 3 2 b_wave
def b__law_size : MS :=
  (mRet (mCallW fn__law_pick (mVar 0) (mCons (mFrz (mIf (mTest (mBin fEq (mCallW fn__law_next (mVar 0) (mCons (mFrz (mC (.int 10))) mNil)) (mC (.int 0)))) (mVar 1) (mLst (mCons (mFrz (mC (.int 2))) (mCons (mFrz (mC (.int 3))) (mCons (mFrz (mC (.int 4))) (mCons (mFrz (mC (.int 5))) (mCons (mFrz (mC (.int 6))) (mCons (mFrz (mC (.int 3))) (mCons (mFrz (mC (.int 4))) (mCons (mFrz (mC (.int 6))) (mCons (mFrz (mC (.int 4))) (mCons (mFrz (mC (.int 6))) mNil))))))))))))) mNil)))
def fn__law_size : FnW := fnW 2 2 b__law_size
def b__law_told : MS :=
  (mRet (mTupOf (mCons (mLc [2] (mSeqI (mVar 0)) (gPut 2) mYes (mCallV fn__law_number (mCons (mFrz (mVar 2)) (mCons (mFrz (mVar 1)) mNil)))) mNil)))
def fn__law_told : FnV := fnV 3 2 b__law_told
def b__law_sum : MS :=
  (mSeq (mSet 3 (mRep (mLst (mCons (mFrz (mC (.int 0))) mNil)) (mCS fLen (mCons (mVar 0) mNil))))
  (mSeq (mFor (mRng fRg1 (mCons (mCS fLen (mCons (mVar 1) mNil)) mNil)) (gPut 4) (mFor (mRng fRg1 (mCons (mCS fLen (mCons (mIx (mVar 1) (mVar 4)) mNil)) mNil)) (gPut 5) (mSeq (mSet 6 (mBin fMod (mCS (fI1 fun i => i) (mCons (mBin fAdd (mVar 5) (mBin fMulA (mVar 4) (mVar 2))) mNil)) (mCS fLen (mCons (mVar 0) mNil))))
  (mAsg (mFrz (mBin fAdd (mIx (mVar 3) (mVar 6)) (mIx (mIx (mVar 1) (mVar 4)) (mVar 5)))) (gSubD (mVar 3) (mVar 6))))))
  (mRet (mCallV fn__law_lowered (mCons (mFrz (mVar 0)) (mCons (mFrz (mVar 3)) mNil))))))
def fn__law_sum : FnV := fnV 7 3 b__law_sum
def b__law_rows : MS :=
  (mSeq (mPar 2 3 (mCons (mFrz (mCallW fn__law_next (mVar 0) (mCons (mFrz (mC (.int 3))) mNil))) (mCons (mLst mNil) mNil)))
  (mSeq (mFor (mRng fRg1 (mCons (mCS fLen (mCons (mVar 1) mNil)) mNil)) (gPut 4) (mSeq (mSet 5 (mCallW fn__law_some (mVar 0) (mCons (mFrz (mCS fLen (mCons (mIx (mVar 1) (mC (.int 0))) mNil))) mNil)))
  (mExpr (mApp (mVar 3) (mFrz (mIf (mAndT (mTest (mBin fEq (mVar 2) (mC (.int 0)))) (mTest (mBin fGt (mCallW fn__law_next (mVar 0) (mCons (mFrz (mC (.int 4))) mNil)) (mC (.int 0))))) (mRep (mLst (mCons (mFrz (mC (.int 0))) mNil)) (mCS fLen (mCons (mVar 5) mNil))) (mVar 5)))))))
  (mRet (mVar 3))))
def fn__law_rows : FnW := fnW 6 2 b__law_rows
def b_moved : MS :=
  (mSeq (mExpr (mCallV fn_check_size (mCons (mFrz (mVar 0)) mNil)))
  (mSeq (mExpr (mCallV fn_check_signal (mCons (mFrz (mVar 0)) (mCons (mFrz (mVar 1)) mNil))))
  (mSeq (mExpr (mCallV fn_check_index (mCons (mFrz (mVar 2)) (mCons (mFrz (mVar 0)) mNil))))
  (mRet (mTupOf (mCons (mLc [3] (mRng fRg1 (mCons (mVar 0) mNil)) (gPut 3) mYes (mIx (mVar 1) (mBin fMod (mBin fSub (mVar 3) (mVar 2)) (mVar 0)))) mNil))))))
def fn_moved : FnV := fnV 4 3 b_moved
def b_turned : MS :=
  (mSeq (mExpr (mCallV fn_check_size (mCons (mFrz (mVar 0)) mNil)))
  (mSeq (mExpr (mCallV fn_check_signal (mCons (mFrz (mVar 0)) (mCons (mFrz (mVar 1)) mNil))))
  (mSeq (mExpr (mCallV fn_check_index (mCons (mFrz (mVar 2)) (mCons (mFrz (mVar 0)) mNil))))
  (mRet (mTupOf (mCons (mLc [3, 4] (mZip (mCons (mFrz (mVar 1)) (mCons (mFrz (mCallV fn_wave (mCons (mFrz (mVar 0)) (mCons (mFrz (mVar 2)) mNil)))) mNil))) (gTupD 2 (gsCons (gPut 3) (gsCons (gPut 4) gsNil))) mYes (mCallV fn_times (mCons (mFrz (mVar 0)) (mCons (mFrz (mVar 3)) (mCons (mFrz (mVar 4)) mNil))))) mNil))))))
def fn_turned : FnV := fnV 5 3 b_turned
def b_round_product : MS :=
  (mSeq (mExpr (mCallV fn_check_size (mCons (mFrz (mVar 0)) mNil)))
  (mSeq (mExpr (mCallV fn_check_signal (mCons (mFrz (mVar 0)) (mCons (mFrz (mVar 1)) mNil))))
  (mSeq (mExpr (mCallV fn_check_signal (mCons (mFrz (mVar 0)) (mCons (mFrz (mVar 2)) mNil))))
  (mSeq (mAsg (mFrz (mCallV fn_whole_row (mCons (mFrz (mVar 1)) mNil))) (gTupD 2 (gsCons (gPut 3) (gsCons (gPut 4) gsNil))))
  (mSeq (mAsg (mFrz (mCallV fn_whole_row (mCons (mFrz (mVar 2)) mNil))) (gTupD 2 (gsCons (gPut 5) (gsCons (gPut 6) gsNil))))
  (mSeq (mSet 7 (mLstZ (mCons (mFrz (mCallV fn_sums_of_turns (mCons (mFrz (mVar 0)) (mCons (mFrz (mVar 3)) (mCons (mFrz (mUn fNeg (mC (.int 1)))) mNil))))) (mCons (mFrz (mCallV fn_sums_of_turns (mCons (mFrz (mVar 0)) (mCons (mFrz (mVar 5)) (mCons (mFrz (mUn fNeg (mC (.int 1)))) mNil))))) mNil))))
  (mSeq (mSet 8 (mLc [9, 10] (mSeqI (mVar 7)) (gTupD 2 (gsCons (gPut 9) (gsCons (gPut 10) gsNil))) mYes (mCallV fn_product_of (mCons (mFrz (mVar 0)) (mCons (mFrz (mVar 9)) (mCons (mFrz (mVar 10)) mNil))))))
  (mRet (mTupOf (mCons (mLc [9] (mSeqI (mCallV fn_sums_of_turns (mCons (mFrz (mVar 0)) (mCons (mFrz (mVar 8)) (mCons (mFrz (mC (.int 1))) mNil))))) (gPut 9) mYes (mCallV fn_number_of (mCons (mFrz (mVar 9)) (mCons (mFrz (mBin fMulA (mBin fMulA (mVar 4) (mVar 6)) (mVar 0))) mNil)))) mNil))))))))))
def fn_round_product : FnV := fnV 11 3 b_round_product
def b__law_mixed : MS :=
  (mSeq (mSet 3 (mLst mNil))
  (mSeq (mFor (mRng fRg1 (mCons (mCS fLen (mCons (mVar 0) mNil)) mNil)) (gPut 4) (mSeq (mSet 5 (mRep (mLst (mCons (mFrz (mC (.int 0))) mNil)) (mCS fLen (mCons (mIx (mVar 0) (mC (.int 0))) mNil))))
  (mSeq (mFor (mRng fRg1 (mCons (mCS fLen (mCons (mVar 0) mNil)) mNil)) (gPut 6) (mIfS (mTest (mCS fAnyX (mCons (mIx (mVar 1) (mVar 6)) mNil))) (mSeq (mSet 7 (mCallV fn__law_times (mCons (mFrz (mVar 0)) (mCons (mFrz (mIx (mVar 1) (mVar 6))) (mCons (mFrz (mIx (mVar 2) (mBin fMod (mCS (fI1 fun i => i) (mCons (mBin fSub (mVar 4) (mVar 6)) mNil)) (mCS fLen (mCons (mVar 0) mNil))))) mNil)))))
  (mSet 5 (mLc [8, 9] (mZip (mCons (mFrz (mVar 5)) (mCons (mFrz (mVar 7)) mNil))) (gTupD 2 (gsCons (gPut 8) (gsCons (gPut 9) gsNil))) mYes (mBin fAdd (mVar 8) (mVar 9))))) mSkip))
  (mExpr (mApp (mVar 3) (mFrz (mVar 5)))))))
  (mRet (mVar 3))))
def fn__law_mixed : FnV := fnV 10 3 b__law_mixed
def b_scaled : MS :=
  (mRet (mTupOf (mCons (mLc [2] (mSeqI (mVar 0)) (gPut 2) mYes (mBin fMulA (mVar 1) (mVar 2))) mNil)))
def fn_scaled : FnV := fnV 3 2 b_scaled
def b_sum_of_products : MS :=
  (mSeq (mSet 3 (mCallV fn_scaled (mCons (mFrz (mCallV fn_whole_root (mCons (mFrz (mVar 0)) (mCons (mFrz (mC (.int 0))) mNil)))) (mCons (mFrz (mC (.int 0))) mNil))))
  (mSeq (mFor (mZip (mCons (mFrz (mVar 1)) (mCons (mFrz (mVar 2)) mNil))) (gTupD 2 (gsCons (gPut 4) (gsCons (gPut 5) gsNil))) (mSet 3 (mCallV fn_sum_of (mCons (mFrz (mVar 3)) (mCons (mFrz (mCallV fn_product_of (mCons (mFrz (mVar 0)) (mCons (mFrz (mVar 4)) (mCons (mFrz (mVar 5)) mNil))))) mNil)))))
  (mRet (mVar 3))))
def fn_sum_of_products : FnV := fnV 6 3 b_sum_of_products
def b_conjugated : MS :=
  (mSeq (mSet 3 (mRep (mLst (mCons (mFrz (mC (.int 0))) mNil)) (mVar 0)))
  (mSeq (mFor (mEnA (mVar 1)) (gTupD 2 (gsCons (gPut 4) (gsCons (gPut 5) gsNil))) (mAugS (fun i j => i + j) (mVar 3) (mBin fMod (mBin fMulA (mVar 4) (mVar 2)) (mVar 0)) (mVar 5)))
  (mRet (mCallV fn_rest_by_round (mCons (mFrz (mVar 0)) (mCons (mFrz (mVar 3)) mNil))))))
def fn_conjugated : FnV := fnV 6 3 b_conjugated
def b_energy : MS :=
  (mSeq (mExpr (mCallV fn_check_size (mCons (mFrz (mVar 0)) mNil)))
  (mSeq (mExpr (mCallV fn_check_signal (mCons (mFrz (mVar 0)) (mCons (mFrz (mVar 1)) mNil))))
  (mSeq (mAsg (mFrz (mCallV fn_whole_row (mCons (mFrz (mVar 1)) mNil))) (gTupD 2 (gsCons (gPut 2) (gsCons (gPut 3) gsNil))))
  (mSeq (mSet 4 (mLc [5] (mSeqI (mVar 2)) (gPut 5) mYes (mCallV fn_conjugated (mCons (mFrz (mVar 0)) (mCons (mFrz (mVar 5)) (mCons (mFrz (mBin fSub (mVar 0) (mC (.int 1)))) mNil))))))
  (mRet (mCallV fn_number_of (mCons (mFrz (mCallV fn_sum_of_products (mCons (mFrz (mVar 0)) (mCons (mFrz (mVar 2)) (mCons (mFrz (mVar 4)) mNil))))) (mCons (mFrz (mBin fMulA (mVar 3) (mVar 3))) mNil))))))))
def fn_energy : FnV := fnV 6 2 b_energy
def b__law_mirrored : MS :=
  (mSeq (mSet 2 (mRep (mLst (mCons (mFrz (mC (.int 0))) mNil)) (mCS fLen (mCons (mVar 0) mNil))))
  (mSeq (mFor (mRng fRg1 (mCons (mCS fLen (mCons (mVar 1) mNil)) mNil)) (gPut 3) (mAsg (mFrz (mIx (mVar 1) (mVar 3))) (gSubD (mVar 2) (mBin fMod (mCS (fI1 fun i => i) (mCons (mBin fSub (mC (.int 0)) (mVar 3)) mNil)) (mCS fLen (mCons (mVar 0) mNil))))))
  (mRet (mCallV fn__law_lowered (mCons (mFrz (mVar 0)) (mCons (mFrz (mVar 2)) mNil))))))
def fn__law_mirrored : FnV := fnV 4 2 b__law_mirrored
def b__law_energy : MS :=
  (mSeq (mSet 2 (mRep (mLst (mCons (mFrz (mC (.int 0))) mNil)) (mCS fLen (mCons (mIx (mVar 0) (mC (.int 0))) mNil))))
  (mSeq (mFor (mSeqI (mVar 1)) (gPut 3) (mIfS (mTest (mCS fAnyX (mCons (mVar 3) mNil))) (mSet 2 (mLc [4, 5] (mZip (mCons (mFrz (mVar 2)) (mCons (mFrz (mCallV fn__law_times (mCons (mFrz (mVar 0)) (mCons (mFrz (mVar 3)) (mCons (mFrz (mCallV fn__law_mirrored (mCons (mFrz (mVar 0)) (mCons (mFrz (mVar 3)) mNil)))) mNil))))) mNil))) (gTupD 2 (gsCons (gPut 4) (gsCons (gPut 5) gsNil))) mYes (mBin fAdd (mVar 4) (mVar 5)))) mSkip))
  (mRet (mVar 2))))
def fn__law_energy : FnV := fnV 6 2 b__law_energy
def b_nought : MS :=
  (mRet (mCallV fn_number_of (mCons (mFrz (mRepTA (mTup (mCons (mFrz (mC (.int 0))) mNil)) (mCallV fn_degree_of (mCons (mFrz (mVar 0)) mNil)))) (mCons (mFrz (mC (.int 1))) mNil))))
def fn_nought : FnV := fnV 1 1 b_nought
def b_places_of : MS :=
  (mSeq (mExpr (mCallV fn_check_size (mCons (mFrz (mVar 0)) mNil)))
  (mSeq (mExpr (mCallV fn_check_signal (mCons (mFrz (mVar 0)) (mCons (mFrz (mVar 1)) mNil))))
  (mSeq (mSet 2 (mCallV fn_nought (mCons (mFrz (mVar 0)) mNil)))
  (mRet (mTupOf (mCons (mLc [3] (mRng fRg1 (mCons (mVar 0) mNil)) (gPut 3) (mTest (mBin fNe (mIx (mVar 1) (mVar 3)) (mVar 2))) (mVar 3)) mNil))))))
def fn_places_of : FnV := fnV 4 2 b_places_of
def b_waves_of : MS :=
  (mRet (mCallV fn_places_of (mCons (mFrz (mVar 0)) (mCons (mFrz (mCallV fn_parts_of (mCons (mFrz (mVar 0)) (mCons (mFrz (mVar 1)) mNil)))) mNil))))
def fn_waves_of : FnV := fnV 2 2 b_waves_of
def b__law_combed : MS :=
  (mSeq (mSet 2 (mLc [10] (mSeqI (mVar 1)) (gPut 10) mYes (mRep (mLst (mCons (mFrz (mC (.int 0))) mNil)) (mCS fLen (mCons (mIx (mVar 1) (mC (.int 0))) mNil)))))
  (mSeq (mFor (mRng fRg1 (mCons (mC (.int 2)) mNil)) (gPut 3) (mSeq (mSet 4 (mCallW fn__law_pick (mVar 0) (mCons (mFrz (mLc [11] (mRng fRg2 (mCons (mC (.int 1)) (mCons (mBin fAdd (mCS fLen (mCons (mVar 1) mNil)) (mC (.int 1))) mNil))) (gPut 11) (mTest (mBin fEq (mBin fMod (mCS (fI1 fun i => i) (mCons (mCS fLen (mCons (mVar 1) mNil)) mNil)) (mVar 11)) (mC (.int 0)))) (mVar 11))) mNil)))
  (mSeq (mAsg (mFrz (mTup (mCons (mFrz (mCallW fn__law_next (mVar 0) (mCons (mFrz (mVar 4)) mNil))) (mCons (mFrz (mCallW fn__law_next (mVar 0) (mCons (mFrz (mCS fLen (mCons (mVar 1) mNil))) mNil))) (mCons (mFrz (mBin fSub (mCallW fn__law_next (mVar 0) (mCons (mFrz (mC (.int 5))) mNil)) (mC (.int 2)))) mNil))))) (gTupD 3 (gsCons (gPut 5) (gsCons (gPut 6) (gsCons (gPut 7) gsNil)))))
  (mFor (mRng fRgP (mCons (mVar 5) (mCons (mCS fLen (mCons (mVar 1) mNil)) (mCons (mVar 4) mNil)))) (gPut 8) (mSeq (mSet 9 (mIx (mVar 1) (mBin fMod (mCS (fI1 fun i => i) (mCons (mBin fMulA (mVar 8) (mVar 6)) mNil)) (mCS fLen (mCons (mVar 1) mNil)))))
  (mAsg (mFrz (mLc [12, 13] (mZip (mCons (mFrz (mIx (mVar 2) (mVar 8))) (mCons (mFrz (mVar 9)) mNil))) (gTupD 2 (gsCons (gPut 12) (gsCons (gPut 13) gsNil))) mYes (mBin fAdd (mVar 12) (mBin fMulA (mVar 7) (mVar 13))))) (gSubD (mVar 2) (mVar 8))))))))
  (mRet (mVar 2))))
def fn__law_combed : FnW := fnW 14 2 b__law_combed
def b_cofactor : MS :=
  (mSeq (mSet 2 (mCallV fn_whole_root (mCons (mFrz (mVar 0)) (mCons (mFrz (mC (.int 0))) mNil))))
  (mSeq (mFor (mRng fRg2 (mCons (mC (.int 2)) (mCons (mVar 0) mNil))) (gPut 3) (mIfS (mTest (mBin fEq (mCS fGcd (mCons (mVar 3) (mCons (mVar 0) mNil))) (mC (.int 1)))) (mSet 2 (mCallV fn_product_of (mCons (mFrz (mVar 0)) (mCons (mFrz (mVar 2)) (mCons (mFrz (mCallV fn_conjugated (mCons (mFrz (mVar 0)) (mCons (mFrz (mVar 1)) (mCons (mFrz (mVar 3)) mNil))))) mNil))))) mSkip))
  (mRet (mVar 2))))
def fn_cofactor : FnV := fnV 4 2 b_cofactor
def b_mirrored : MS :=
  (mSeq (mExpr (mCallV fn_check_size (mCons (mFrz (mVar 0)) mNil)))
  (mSeq (mExpr (mCallV fn_check_number (mCons (mFrz (mVar 0)) (mCons (mFrz (mVar 1)) mNil))))
  (mSeq (mAsg (mFrz (mCallV fn_whole_over (mCons (mFrz (mVar 1)) mNil))) (gTupD 2 (gsCons (gPut 2) (gsCons (gPut 3) gsNil))))
  (mRet (mCallV fn_number_of (mCons (mFrz (mCallV fn_conjugated (mCons (mFrz (mVar 0)) (mCons (mFrz (mVar 2)) (mCons (mFrz (mBin fSub (mVar 0) (mC (.int 1)))) mNil))))) (mCons (mFrz (mVar 3)) mNil)))))))
def fn_mirrored : FnV := fnV 4 2 b_mirrored
def b_over : MS :=
  (mSeq (mExpr (mCallV fn_check_two (mCons (mFrz (mVar 0)) (mCons (mFrz (mVar 1)) (mCons (mFrz (mVar 2)) mNil)))))
  (mSeq (mIfS (mTest (mBin fEq (mVar 2) (mCallV fn_nought (mCons (mFrz (mVar 0)) mNil)))) mDie mSkip)
  (mSeq (mAsg (mFrz (mCallV fn_whole_over (mCons (mFrz (mVar 1)) mNil))) (gTupD 2 (gsCons (gPut 3) (gsCons (gPut 4) gsNil))))
  (mSeq (mAsg (mFrz (mCallV fn_whole_over (mCons (mFrz (mVar 2)) mNil))) (gTupD 2 (gsCons (gPut 5) (gsCons (gPut 6) gsNil))))
  (mSeq (mSet 7 (mCallV fn_cofactor (mCons (mFrz (mVar 0)) (mCons (mFrz (mVar 5)) mNil))))
  (mSeq (mSet 8 (mIx (mCallV fn_product_of (mCons (mFrz (mVar 0)) (mCons (mFrz (mVar 5)) (mCons (mFrz (mVar 7)) mNil)))) (mC (.int 0))))
  (mRet (mCallV fn_number_of (mCons (mFrz (mCallV fn_scaled (mCons (mFrz (mCallV fn_product_of (mCons (mFrz (mVar 0)) (mCons (mFrz (mVar 3)) (mCons (mFrz (mVar 7)) mNil))))) (mCons (mFrz (mVar 6)) mNil)))) (mCons (mFrz (mBin fMulA (mVar 4) (mVar 8))) mNil))))))))))
def fn_over : FnV := fnV 9 3 b_over
def b__law_over_one : MS :=
  (mSeq (mSet 1 (mC (.int 1)))
  (mSeq (mFor (mSeqI (mVar 0)) (gPut 2) (mFor (mSeqI (mVar 2)) (gPut 3) (mSet 1 (mBin fMulA (mBin fDivA (mVar 1) (mCallV fn__law_gcd (mCons (mFrz (mVar 1)) (mCons (mFrz (mIx (mVar 3) (mC (.int 1)))) mNil)))) (mIx (mVar 3) (mC (.int 1)))))))
  (mRet (mLst (mCons (mFrz (mLc [2] (mSeqI (mVar 0)) (gPut 2) mYes (mLc [3] (mSeqI (mVar 2)) (gPut 3) mYes (mBin fMulA (mIx (mVar 3) (mC (.int 0))) (mBin fDivA (mVar 1) (mIx (mVar 3) (mC (.int 1)))))))) (mCons (mFrz (mVar 1)) mNil))))))
def fn__law_over_one : FnV := fnV 4 1 b__law_over_one
end Nb
set_option Elab.async false
set_option linter.all false
set_option maxRecDepth 100000
set_option maxHeartbeats 4000000
namespace Nb
open PySem PySem.Spec L2 Dm Nz
set_option autoImplicit false
/-! ### what is refused -/
theorem iwf_ok {i lo hi : Int} (h : lo ≤ i) (h2 : i ≤ hi) : fn_is_whole_from [.int i, .int lo, .int hi] = some (.val (.bl true)) := by
  simp [fn_is_whole_from, b_is_whole_from, fnV, fnW, initV, initW, mSeq, mIfS, mTest, mBin, mIx, mVar, mC, peek, peeks, seqD, asI, asB, atI, ixN, onI, mAsg, mFrz, frz, mTupNew, mCons, mNil, fDm, gTupD, gsCons, gsNil, gSubD, gPut, put, ownAt, mRet, toRet, port0, mSkip, mCS, mCL, fI1, fI2, mSet, mPar, mPar3, Dm.plain, mTup, mLst, vals, mTupOf, fTup, fLen, mIf, mIfS, mNotT, mChain, mTyIs, tyD, noFrz, mIxK, mAndT, mOrT, mAndV, mOrV, mNotV, mExpr, mCallV, mCallW, rOf, mUn, fNeg, fList, fRg1, fRg2, fRg3, mRng, mSeqI, mYes, wipeS, mRep, h, h2]
theorem is_size_ok {n : Nat} (h : 2 ≤ n) (h2 : n ≤ 12) : fn_is_size [.int n] = some (.val (.bl true)) := by
  have := iwf_ok (i := n) (lo := 2) (hi := 12) (by omega) (by omega)
  simp [fn_is_size, b_is_size, fnV, fnW, initV, initW, mSeq, mIfS, mTest, mBin, mIx, mVar, mC, peek, peeks, seqD, asI, asB, atI, ixN, onI, mAsg, mFrz, frz, mTupNew, mCons, mNil, fDm, gTupD, gsCons, gsNil, gSubD, gPut, put, ownAt, mRet, toRet, port0, mSkip, mCS, mCL, fI1, fI2, mSet, mPar, mPar3, Dm.plain, mTup, mLst, vals, mTupOf, fTup, fLen, mIf, mIfS, mNotT, mChain, mTyIs, tyD, noFrz, mIxK, mAndT, mOrT, mAndV, mOrV, mNotV, mExpr, mCallV, mCallW, rOf, mUn, fNeg, fList, fRg1, fRg2, fRg3, mRng, mSeqI, mYes, wipeS, mRep, this]
theorem check_size_ok {n : Nat} (h : 2 ≤ n) (h2 : n ≤ 12) : fn_check_size [.int n] = some (.val .non) := by
  simp [fn_check_size, b_check_size, fnV, fnW, initV, initW, mSeq, mIfS, mTest, mBin, mIx, mVar, mC, peek, peeks, seqD, asI, asB, atI, ixN, onI, mAsg, mFrz, frz, mTupNew, mCons, mNil, fDm, gTupD, gsCons, gsNil, gSubD, gPut, put, ownAt, mRet, toRet, port0, mSkip, mCS, mCL, fI1, fI2, mSet, mPar, mPar3, Dm.plain, mTup, mLst, vals, mTupOf, fTup, fLen, mIf, mIfS, mNotT, mChain, mTyIs, tyD, noFrz, mIxK, mAndT, mOrT, mAndV, mOrV, mNotV, mExpr, mCallV, mCallW, rOf, mUn, fNeg, fList, fRg1, fRg2, fRg3, mRng, mSeqI, mYes, wipeS, mRep, is_size_ok h h2]
theorem check_index_ok {i b : Int} (h : 0 ≤ i) (h2 : i < b) : fn_check_index [.int i, .int b] = some (.val .non) := by
  have := iwf_ok (i := i) (lo := 0) (hi := b - 1) h (by omega)
  simp [fn_check_index, b_check_index, fnV, fnW, initV, initW, mSeq, mIfS, mTest, mBin, mIx, mVar, mC, peek, peeks, seqD, asI, asB, atI, ixN, onI, mAsg, mFrz, frz, mTupNew, mCons, mNil, fDm, gTupD, gsCons, gsNil, gSubD, gPut, put, ownAt, mRet, toRet, port0, mSkip, mCS, mCL, fI1, fI2, mSet, mPar, mPar3, Dm.plain, mTup, mLst, vals, mTupOf, fTup, fLen, mIf, mIfS, mNotT, mChain, mTyIs, tyD, noFrz, mIxK, mAndT, mOrT, mAndV, mOrV, mNotV, mExpr, mCallV, mCallW, rOf, mUn, fNeg, fList, fRg1, fRg2, fRg3, mRng, mSeqI, mYes, wipeS, mRep, this]
theorem bs_len {n : Nat} (h : 2 ≤ n) (h2 : n ≤ 12) : (bs n).length = dg n + 1 := by
  rcases Nz.sizes h h2 with rfl | rfl | rfl | rfl | rfl | rfl | rfl | rfl | rfl | rfl | rfl <;> rfl
def bN (n i : Nat) : Int := (bs n).getD i 0
theorem rp_lookup {n : Nat} (h : 2 ≤ n) (h2 : n ≤ 12) : kd_ROUND_POLYNOMIALS.lookup (n : Int) = some (.tup (fl (dg n + 1) (bN n))) := by
  rcases Nz.sizes h h2 with rfl | rfl | rfl | rfl | rfl | rfl | rfl | rfl | rfl | rfl | rfl <;> rfl
theorem round_polynomial_ok {n : Nat} (h : 2 ≤ n) (h2 : n ≤ 12) : fn_round_polynomial [.int n] = some (.val (.tup (fl (dg n + 1) (bN n)))) := by
  simp [fn_round_polynomial, b_round_polynomial, fnV, fnW, initV, initW, mSeq, mIfS, mTest, mBin, mIx, mVar, mC, peek, peeks, seqD, asI, asB, atI, ixN, onI, mAsg, mFrz, frz, mTupNew, mCons, mNil, fDm, gTupD, gsCons, gsNil, gSubD, gPut, put, ownAt, mRet, toRet, port0, mSkip, mCS, mCL, fI1, fI2, mSet, mPar, mPar3, Dm.plain, mTup, mLst, vals, mTupOf, fTup, fLen, mIf, mIfS, mNotT, mChain, mTyIs, tyD, noFrz, mIxK, mAndT, mOrT, mAndV, mOrV, mNotV, mExpr, mCallV, mCallW, rOf, mUn, fNeg, fList, fRg1, fRg2, fRg3, mRng, mSeqI, mYes, wipeS, mRep, check_size_ok h h2, rp_lookup h h2]
theorem degree_of_ok {n : Nat} (h : 2 ≤ n) (h2 : n ≤ 12) : fn_degree_of [.int n] = some (.val (.int (dg n))) := by
  simp [fn_degree_of, b_degree_of, fnV, fnW, initV, initW, mSeq, mIfS, mTest, mBin, mIx, mVar, mC, peek, peeks, seqD, asI, asB, atI, ixN, onI, mAsg, mFrz, frz, mTupNew, mCons, mNil, fDm, gTupD, gsCons, gsNil, gSubD, gPut, put, ownAt, mRet, toRet, port0, mSkip, mCS, mCL, fI1, fI2, mSet, mPar, mPar3, Dm.plain, mTup, mLst, vals, mTupOf, fTup, fLen, mIf, mIfS, mNotT, mChain, mTyIs, tyD, noFrz, mIxK, mAndT, mOrT, mAndV, mOrV, mNotV, mExpr, mCallV, mCallW, rOf, mUn, fNeg, fList, fRg1, fRg2, fRg3, mRng, mSeqI, mYes, wipeS, mRep, round_polynomial_ok h h2, fl_len]
/-! ### fractions -/
theorem fdiv_gc {a b : Int} (h : 0 < b) : a.fdiv (gc a b) = nu a b := Int.fdiv_eq_ediv_of_nonneg a (by have := gc_pos (a := a) h; omega)
theorem fdiv_gc2 {a b : Int} (h : 0 < b) : b.fdiv (gc a b) = de a b := Int.fdiv_eq_ediv_of_nonneg b (by have := gc_pos (a := a) h; omega)
theorem cdivA {i j : Int} (h : 0 < j) (h2 : okM j = true) : CDivA i j := .inr ⟨h, h2⟩
theorem okM_le {i j : Int} (h : 0 ≤ i) (h2 : i ≤ j) (hj : okM j = true) : okM i = true := by
  refine okM_of ?_
  have := of_decide_eq_true hj
  omega
theorem fraction_of_ok {a b : Int} (h : 0 < b) (hb : okM b = true) : fn_fraction_of [.int a, .int b] = some (.val (fr a b)) := by
  have g0 := gc_pos (a := a) h
  have gM := okM_le (by omega) (gc_le (a := a) h) hb
  have c1 : CDivA a (gc a b) := cdivA g0 gM
  have c2 : CDivA b (gc a b) := cdivA g0 gM
  have hn : ¬ b < 0 := by omega
  have e : fGcd [.int a, .int b] = some (.int (gc a b)) := rfl
  simp [fn_fraction_of, b_fraction_of, fnV, fnW, initV, initW, mSeq, mIfS, mTest, mBin, mIx, mVar, mC, peek, peeks, seqD, asI, asB, atI, ixN, onI, mAsg, mFrz, frz, mTupNew, mCons, mNil, fDm, gTupD, gsCons, gsNil, gSubD, gPut, put, ownAt, mRet, toRet, port0, mSkip, mCS, mCL, fI1, fI2, mSet, mPar, mPar3, Dm.plain, mTup, mLst, vals, mTupOf, fTup, fLen, mIf, mIfS, mNotT, mChain, mTyIs, tyD, noFrz, mIxK, mAndT, mOrT, mAndV, mOrV, mNotV, mExpr, mCallV, mCallW, rOf, mUn, fNeg, fList, fRg1, fRg2, fRg3, mRng, mSeqI, mYes, wipeS, mRep, e, hn, c1, c2, fdiv_gc h, fdiv_gc2 h]
  rfl
theorem is_fraction_ok {a b : Int} (h : 0 < b) : fn_is_fraction [fr a b] = some (.val (.bl true)) := by
  have g : fGcd [.int (nu a b), .int (de a b)] = some (.int 1) := by
    show some (D.int ((Nat.gcd (nu a b).natAbs (de a b).natAbs : Nat) : Int)) = _
    rw [cop h]
    rfl
  have p := de_pos (a := a) h
  have e2 : fNe (.int 2) (.int 2) = some (.bl false) := by rw [fNe_int]; rfl
  have e3 : fEq (.int 1) (.int 1) = some (.bl true) := by rw [fEq_int]; rfl
  simp [fn_is_fraction, b_is_fraction, fnV, fnW, initV, initW, mSeq, mIfS, mTest, mBin, mIx, mVar, mC, peek, peeks, seqD, asI, asB, atI, ixN, onI, mAsg, mFrz, frz, mTupNew, mCons, mNil, fDm, gTupD, gsCons, gsNil, gSubD, gPut, put, ownAt, mRet, toRet, port0, mSkip, mCS, mCL, fI1, fI2, mSet, mPar, mPar3, Dm.plain, mTup, mLst, vals, mTupOf, fTup, fLen, mIf, mIfS, mNotT, mChain, mTyIs, tyD, noFrz, mIxK, mAndT, mOrT, mAndV, mOrV, mNotV, mExpr, mCallV, mCallW, rOf, mUn, fNeg, fList, fRg1, fRg2, fRg3, mRng, mSeqI, mYes, wipeS, mRep, fr, g, p, e2, e3]
theorem number_of_ok {m : Nat} (hm : m ≤ 1000) (x : Nat → Int) {b : Int} (h : 0 < b) (hb : okM b = true) : fn_number_of [.tup (fl m x), .int b] = some (.val (.tup (fs m x b))) := by
  have key := mlc_all (vs := [2]) (mi := mSeqI (mVar 0)) (g := gPut 2) (m := mCallV fn_fraction_of (mCons (mFrz (mVar 2)) (mCons (mFrz (mVar 1)) mNil)))
    (fun k : Nat => D.int (x k)) (fun k => fr (x k) b) (List.range m) (s := initV 3 [.tup (fl m x), .int b]) (s1 := initV 3 [.tup (fl m x), .int b]) (s2 := initV 3 [.tup (fl m x), .int b]) (by simp [fnV, fnW, initV, initW, mSeq, mIfS, mTest, mBin, mIx, mVar, mC, peek, peeks, seqD, asI, asB, atI, ixN, onI, mAsg, mFrz, frz, mTupNew, mCons, mNil, fDm, gTupD, gsCons, gsNil, gSubD, gPut, put, ownAt, mRet, toRet, port0, mSkip, mCS, mCL, fI1, fI2, mSet, mPar, mPar3, Dm.plain, mTup, mLst, vals, mTupOf, fTup, fLen, mIf, mIfS, mNotT, mChain, mTyIs, tyD, noFrz, mIxK, mAndT, mOrT, mAndV, mOrV, mNotV, mExpr, mCallV, mCallW, rOf, mUn, fNeg, fList, fRg1, fRg2, fRg3, mRng, mSeqI, mYes, wipeS, mRep]; rfl) (by simp; omega) (fun k _ => by
      have := fraction_of_ok (a := x k) h hb
      exact ⟨[some (.val (.tup (fl m x))), some (.val (.int b)), some (.val (.int (x k)))], .val (fr (x k) b), by simp [fnV, fnW, initV, initW, mSeq, mIfS, mTest, mBin, mIx, mVar, mC, peek, peeks, seqD, asI, asB, atI, ixN, onI, mAsg, mFrz, frz, mTupNew, mCons, mNil, fDm, gTupD, gsCons, gsNil, gSubD, gPut, put, ownAt, mRet, toRet, port0, mSkip, mCS, mCL, fI1, fI2, mSet, mPar, mPar3, Dm.plain, mTup, mLst, vals, mTupOf, fTup, fLen, mIf, mIfS, mNotT, mChain, mTyIs, tyD, noFrz, mIxK, mAndT, mOrT, mAndV, mOrV, mNotV, mExpr, mCallV, mCallW, rOf, mUn, fNeg, fList, fRg1, fRg2, fRg3, mRng, mSeqI, mYes, wipeS, mRep], by simp [fnV, fnW, initV, initW, mSeq, mIfS, mTest, mBin, mIx, mVar, mC, peek, peeks, seqD, asI, asB, atI, ixN, onI, mAsg, mFrz, frz, mTupNew, mCons, mNil, fDm, gTupD, gsCons, gsNil, gSubD, gPut, put, ownAt, mRet, toRet, port0, mSkip, mCS, mCL, fI1, fI2, mSet, mPar, mPar3, Dm.plain, mTup, mLst, vals, mTupOf, fTup, fLen, mIf, mIfS, mNotT, mChain, mTyIs, tyD, noFrz, mIxK, mAndT, mOrT, mAndV, mOrV, mNotV, mExpr, mCallV, mCallW, rOf, mUn, fNeg, fList, fRg1, fRg2, fRg3, mRng, mSeqI, mYes, wipeS, mRep, this], rfl, rfl⟩) rfl
  simp only [fn_number_of, b_number_of, fnV, List.length_cons, List.length_nil, if_pos, mRet]
  rw [tupOf_of key]
  rfl
end Nb
set_option Elab.async false
set_option linter.all false
set_option maxRecDepth 100000
set_option maxHeartbeats 4000000
namespace Nb
open PySem PySem.Spec L2 Dm Nz
set_option autoImplicit false
theorem all_true (m : Nat) : fAll [.lst ((List.range m).map fun _ => D.bl true)] = some (.bl true) := by
  have key : ∀ l : List Nat, boolsD (l.map fun _ => D.bl true) = some (l.map fun _ => true) := fun l => by
    induction l with
    | nil => rfl
    | cons a l ih =>
      show (boolsD (l.map fun _ => D.bl true)).bind _ = _
      rw [ih]; rfl
  unfold fAll
  simp [key]
theorem is_number_ok {n : Nat} (h : 2 ≤ n) (h2 : n ≤ 12) (x : Z n) {b : Int} (hb : 0 < b) : fn_is_number [.int n, nm x b] = some (.val (.bl true)) := by
  have hd := dg_pos h h2
  have e1 : ∀ m : Nat, fNe (.int m) (.int m) = some (.bl false) := fun m => by rw [fNe_int]; simp
  have key := mlc_all (vs := [3]) (mi := mSeqI (mVar 1)) (g := gPut 3) (m := mCallV fn_is_fraction (mCons (mFrz (mVar 3)) mNil))
    (fun k : Nat => fr (x.f k) b) (fun _ => D.bl true) (List.range (dg n)) (s := [some (.val (.int n)), some (.val (nm x b)), some (.val (.int (dg n))), none]) (s1 := [some (.val (.int n)), some (.val (nm x b)), some (.val (.int (dg n))), none]) (s2 := [some (.val (.int n)), some (.val (nm x b)), some (.val (.int (dg n))), none]) (by simp [fnV, fnW, initV, initW, mSeq, mIfS, mTest, mBin, mIx, mVar, mC, peek, peeks, seqD, asI, asB, atI, ixN, onI, mAsg, mFrz, frz, mTupNew, mCons, mNil, fDm, gTupD, gsCons, gsNil, gSubD, gPut, put, ownAt, mRet, toRet, port0, mSkip, mCS, mCL, fI1, fI2, mSet, mPar, mPar3, Dm.plain, mTup, mLst, vals, mTupOf, fTup, fLen, mIf, mIfS, mNotT, mChain, mTyIs, tyD, noFrz, mIxK, mAndT, mOrT, mAndV, mOrV, mNotV, mExpr, mCallV, mCallW, rOf, mUn, fNeg, fList, fRg1, fRg2, fRg3, mRng, mSeqI, mYes, wipeS, mRep, nm]; rfl) (by simp; omega) (fun k _ => by
      have := is_fraction_ok (a := x.f k) hb
      exact ⟨[some (.val (.int n)), some (.val (nm x b)), some (.val (.int (dg n))), some (.val (fr (x.f k) b))], .val (.bl true), by simp [fnV, fnW, initV, initW, mSeq, mIfS, mTest, mBin, mIx, mVar, mC, peek, peeks, seqD, asI, asB, atI, ixN, onI, mAsg, mFrz, frz, mTupNew, mCons, mNil, fDm, gTupD, gsCons, gsNil, gSubD, gPut, put, ownAt, mRet, toRet, port0, mSkip, mCS, mCL, fI1, fI2, mSet, mPar, mPar3, Dm.plain, mTup, mLst, vals, mTupOf, fTup, fLen, mIf, mIfS, mNotT, mChain, mTyIs, tyD, noFrz, mIxK, mAndT, mOrT, mAndV, mOrV, mNotV, mExpr, mCallV, mCallW, rOf, mUn, fNeg, fList, fRg1, fRg2, fRg3, mRng, mSeqI, mYes, wipeS, mRep], by simp [fnV, fnW, initV, initW, mSeq, mIfS, mTest, mBin, mIx, mVar, mC, peek, peeks, seqD, asI, asB, atI, ixN, onI, mAsg, mFrz, frz, mTupNew, mCons, mNil, fDm, gTupD, gsCons, gsNil, gSubD, gPut, put, ownAt, mRet, toRet, port0, mSkip, mCS, mCL, fI1, fI2, mSet, mPar, mPar3, Dm.plain, mTup, mLst, vals, mTupOf, fTup, fLen, mIf, mIfS, mNotT, mChain, mTyIs, tyD, noFrz, mIxK, mAndT, mOrT, mAndV, mOrV, mNotV, mExpr, mCallV, mCallW, rOf, mUn, fNeg, fList, fRg1, fRg2, fRg3, mRng, mSeqI, mYes, wipeS, mRep, this], rfl, rfl⟩) rfl
  have e2 : mCS fAll (mCons (mLc [3] (mSeqI (mVar 1)) (gPut 3) mYes (mCallV fn_is_fraction (mCons (mFrz (mVar 3)) mNil))) mNil) [some (.val (.int n)), some (.val (nm x b)), some (.val (.int (dg n))), none] = some (.val (.bl true), [some (.val (.int n)), some (.val (nm x b)), some (.val (.int (dg n))), none]) := by
    unfold mCS
    rw [cons_of key rfl]
    show (fAll [.lst ((List.range (dg n)).map fun _ => D.bl true)]).bind _ = _
    rw [all_true]
    rfl
  have key2 : WS b_is_number (initV 4 [.int n, nm x b]) fun o => ∃ r s', o = .rt r s' ∧ r = .val (.bl true) := by
    unfold b_is_number
    refine ws_step (s1 := [some (.val (.int n)), some (.val (nm x b)), some (.val (.int (dg n))), none]) (by simp [fnV, fnW, initV, initW, mSeq, mIfS, mTest, mBin, mIx, mVar, mC, peek, peeks, seqD, asI, asB, atI, ixN, onI, mAsg, mFrz, frz, mTupNew, mCons, mNil, fDm, gTupD, gsCons, gsNil, gSubD, gPut, put, ownAt, mRet, toRet, port0, mSkip, mCS, mCL, fI1, fI2, mSet, mPar, mPar3, Dm.plain, mTup, mLst, vals, mTupOf, fTup, fLen, mIf, mIfS, mNotT, mChain, mTyIs, tyD, noFrz, mIxK, mAndT, mOrT, mAndV, mOrV, mNotV, mExpr, mCallV, mCallW, rOf, mUn, fNeg, fList, fRg1, fRg2, fRg3, mRng, mSeqI, mYes, wipeS, mRep, degree_of_ok h h2]) ?_
    refine ws_step (s1 := [some (.val (.int n)), some (.val (nm x b)), some (.val (.int (dg n))), none]) (by simp [fnV, fnW, initV, initW, mSeq, mIfS, mTest, mBin, mIx, mVar, mC, peek, peeks, seqD, asI, asB, atI, ixN, onI, mAsg, mFrz, frz, mTupNew, mCons, mNil, fDm, gTupD, gsCons, gsNil, gSubD, gPut, put, ownAt, mRet, toRet, port0, mSkip, mCS, mCL, fI1, fI2, mSet, mPar, mPar3, Dm.plain, mTup, mLst, vals, mTupOf, fTup, fLen, mIf, mIfS, mNotT, mChain, mTyIs, tyD, noFrz, mIxK, mAndT, mOrT, mAndV, mOrV, mNotV, mExpr, mCallV, mCallW, rOf, mUn, fNeg, fList, fRg1, fRg2, fRg3, mRng, mSeqI, mYes, wipeS, mRep, nm, fs_len, e1]) ?_
    refine ws_ret ⟨_, _, e2, _, rfl, _, _, rfl, rfl⟩
  obtain ⟨r, e, rfl⟩ := fnV_ws (np := 2) key2
  exact e
theorem check_number_ok {n : Nat} (h : 2 ≤ n) (h2 : n ≤ 12) (x : Z n) {b : Int} (hb : 0 < b) : fn_check_number [.int n, nm x b] = some (.val .non) := by
  simp [fn_check_number, b_check_number, fnV, fnW, initV, initW, mSeq, mIfS, mTest, mBin, mIx, mVar, mC, peek, peeks, seqD, asI, asB, atI, ixN, onI, mAsg, mFrz, frz, mTupNew, mCons, mNil, fDm, gTupD, gsCons, gsNil, gSubD, gPut, put, ownAt, mRet, toRet, port0, mSkip, mCS, mCL, fI1, fI2, mSet, mPar, mPar3, Dm.plain, mTup, mLst, vals, mTupOf, fTup, fLen, mIf, mIfS, mNotT, mChain, mTyIs, tyD, noFrz, mIxK, mAndT, mOrT, mAndV, mOrV, mNotV, mExpr, mCallV, mCallW, rOf, mUn, fNeg, fList, fRg1, fRg2, fRg3, mRng, mSeqI, mYes, wipeS, mRep, is_number_ok h h2 x hb]
theorem check_two_ok {n : Nat} (h : 2 ≤ n) (h2 : n ≤ 12) (x y : Z n) {a b : Int} (ha : 0 < a) (hb : 0 < b) : fn_check_two [.int n, nm x a, nm y b] = some (.val .non) := by
  simp [fn_check_two, b_check_two, fnV, fnW, initV, initW, mSeq, mIfS, mTest, mBin, mIx, mVar, mC, peek, peeks, seqD, asI, asB, atI, ixN, onI, mAsg, mFrz, frz, mTupNew, mCons, mNil, fDm, gTupD, gsCons, gsNil, gSubD, gPut, put, ownAt, mRet, toRet, port0, mSkip, mCS, mCL, fI1, fI2, mSet, mPar, mPar3, Dm.plain, mTup, mLst, vals, mTupOf, fTup, fLen, mIf, mIfS, mNotT, mChain, mTyIs, tyD, noFrz, mIxK, mAndT, mOrT, mAndV, mOrV, mNotV, mExpr, mCallV, mCallW, rOf, mUn, fNeg, fList, fRg1, fRg2, fRg3, mRng, mSeqI, mYes, wipeS, mRep, mExpr, check_size_ok h h2, check_number_ok h h2 x ha, check_number_ok h h2 y hb]
/-! ### rows -/
/-- numbers in a row, each over its own -/
def rw (n : Nat) (N : Nat) (x : Nat → Z n) (b : Nat → Int) : List D := (List.range N).map fun j => nm (x j) (b j)
theorem rw_len {n N : Nat} (x : Nat → Z n) (b : Nat → Int) : (rw n N x b).length = N := by unfold rw; rw [List.length_map, List.length_range]
theorem rw_get {n N : Nat} (x : Nat → Z n) (b : Nat → Int) {j : Nat} (h : j < N) : (rw n N x b)[j]? = some (nm (x j) (b j)) := by
  unfold rw
  rw [List.getElem?_map, List.getElem?_range h]; rfl
theorem enD_range {N : Nat} (f : Nat → D) : enD ((List.range N).map f) = (List.range N).map fun i => D.tup [.int (i : Nat), f i] := by
  unfold enD
  rw [List.length_map, List.length_range]
  refine List.map_congr_left fun i hi => ?_
  have := List.mem_range.1 hi
  simp [List.getD, this]
theorem first_no_number_ok {n : Nat} (h : 2 ≤ n) (h2 : n ≤ 12) {N : Nat} (x : Nat → Z n) {b : Nat → Int} (hb : ∀ j, j < N → 0 < b j) : fn_first_no_number [.int n, .tup (rw n N x b)] = some (.val .non) := by
  have key : WS b_first_no_number (initV 4 [.int n, .tup (rw n N x b)]) fun o => ∃ r s', o = .rt r s' ∧ r = .val .non := by
    unfold b_first_no_number
    refine ws_seq (ws_for ⟨(List.range N).map fun i => D.tup [.int (i : Nat), nm (x i) (b i)], [some (.val (.int n)), some (.val (.tup (rw n N x b))), none, none], ?_, ws_rng (fun i s => ∃ c2 c3, s = [some (.val (.int n)), some (.val (.tup (rw n N x b))), c2, c3] ∧ Fr c2 = true ∧ Fr c3 = true) N ⟨none, none, rfl, rfl, rfl⟩ ?_ ?_⟩)
    · simp [fnV, fnW, initV, initW, mSeq, mIfS, mTest, mBin, mIx, mVar, mC, peek, peeks, seqD, asI, asB, atI, ixN, onI, mAsg, mFrz, frz, mTupNew, mCons, mNil, fDm, gTupD, gsCons, gsNil, gSubD, gPut, put, ownAt, mRet, toRet, port0, mSkip, mCS, mCL, fI1, fI2, mSet, mPar, mPar3, Dm.plain, mTup, mLst, vals, mTupOf, fTup, fLen, mIf, mIfS, mNotT, mChain, mTyIs, tyD, noFrz, mIxK, mAndT, mOrT, mAndV, mOrV, mNotV, mExpr, mCallV, mCallW, rOf, mUn, fNeg, fList, fRg1, fRg2, fRg3, mRng, mSeqI, mYes, wipeS, mRep, mEnA]
      exact enD_range _
    · rintro i s hi ⟨c2, c3, rfl, f2, f3⟩
      refine ⟨[some (.val (.int n)), some (.val (.tup (rw n N x b))), some (.val (.int i)), some (.val (nm (x i) (b i)))], ?_, ?_⟩
      · have p2 := put_valF (s := [some (.val (.int n)), some (.val (.tup (rw n N x b))), c2, c3]) (i := 2) (c := c2) (d := .int i) rfl f2
        have p3 := put_valF (s := [some (.val (.int n)), some (.val (.tup (rw n N x b))), some (.val (.int i)), c3]) (i := 3) (c := c3) (d := nm (x i) (b i)) rfl f3
        simp [gTupD, gsCons, gsNil, gPut, p2, p3]
      · refine ws_ifF (s1 := [some (.val (.int n)), some (.val (.tup (rw n N x b))), some (.val (.int i)), some (.val (nm (x i) (b i)))]) (by simp [fnV, fnW, initV, initW, mSeq, mIfS, mTest, mBin, mIx, mVar, mC, peek, peeks, seqD, asI, asB, atI, ixN, onI, mAsg, mFrz, frz, mTupNew, mCons, mNil, fDm, gTupD, gsCons, gsNil, gSubD, gPut, put, ownAt, mRet, toRet, port0, mSkip, mCS, mCL, fI1, fI2, mSet, mPar, mPar3, Dm.plain, mTup, mLst, vals, mTupOf, fTup, fLen, mIf, mIfS, mNotT, mChain, mTyIs, tyD, noFrz, mIxK, mAndT, mOrT, mAndV, mOrV, mNotV, mExpr, mCallV, mCallW, rOf, mUn, fNeg, fList, fRg1, fRg2, fRg3, mRng, mSeqI, mYes, wipeS, mRep, is_number_ok h h2 (x i) (hb i hi)]) ?_
        exact ws_skip ⟨_, .inl rfl, _, _, rfl, rfl, rfl⟩
    · rintro s ⟨c2, c3, rfl, f2, f3⟩
      refine ⟨_, rfl, ?_⟩
      exact ws_ret ⟨_, _, rfl, _, rfl, _, _, rfl, rfl⟩
  obtain ⟨r, e, rfl⟩ := fnV_ws (np := 2) key
  exact e
theorem check_signal_ok {n : Nat} (h : 2 ≤ n) (h2 : n ≤ 12) (x : Nat → Z n) {b : Nat → Int} (hb : ∀ j, j < n → 0 < b j) : fn_check_signal [.int n, .tup (rw n n x b)] = some (.val .non) := by
  have e1 : fNe (.int n) (.int n) = some (.bl false) := by rw [fNe_int]; simp
  simp [fn_check_signal, b_check_signal, fnV, fnW, initV, initW, mSeq, mIfS, mTest, mBin, mIx, mVar, mC, peek, peeks, seqD, asI, asB, atI, ixN, onI, mAsg, mFrz, frz, mTupNew, mCons, mNil, fDm, gTupD, gsCons, gsNil, gSubD, gPut, put, ownAt, mRet, toRet, port0, mSkip, mCS, mCL, fI1, fI2, mSet, mPar, mPar3, Dm.plain, mTup, mLst, vals, mTupOf, fTup, fLen, mIf, mIfS, mNotT, mChain, mTyIs, tyD, noFrz, mIxK, mAndT, mOrT, mAndV, mOrV, mNotV, mExpr, mCallV, mCallW, rOf, mUn, fNeg, fList, fRg1, fRg2, fRg3, mRng, mSeqI, mYes, wipeS, mRep, mExpr, rw_len, e1, first_no_number_ok h h2 x hb, fNotN]
end Nb
set_option Elab.async false
set_option linter.all false
set_option maxRecDepth 100000
set_option maxHeartbeats 4000000
namespace Nb
open PySem PySem.Spec L2 Dm Nz
set_option autoImplicit false
/-- rows of fractions -/
def rf (N M : Nat) (x : Nat → Nat → Int) (b : Nat → Int) : List D := (List.range N).map fun j => D.tup (fs M (x j) (b j))
theorem rw_rf {n : Nat} (N : Nat) (x : Nat → Z n) (b : Nat → Int) : rw n N x b = rf N (dg n) (fun j => (x j).f) b := rfl
theorem lcm_step {c d B : Int} (hc : 0 < c) (hd : 0 < d) (h1 : c ∣ B) (h2 : d ∣ B) (hB : 0 < B) (hB2 : B < 2 ^ 64) : ∃ L : Int, fLcm [.int c, .int d] = some (.int L) ∧ 0 < L ∧ L ∣ B ∧ c ∣ L ∧ d ∣ L := by
  have l1 := Int.le_of_dvd hB h1
  have l2 := Int.le_of_dvd hB h2
  have o1 : okL c = true := okL_of (by omega)
  have o2 : okL d = true := okL_of (by omega)
  refine ⟨(Int.lcm c d : Int), ?_, ?_, ?_, ?_, ?_⟩
  · unfold fLcm
    simp only [o1, o2, Bool.and_self, if_true]
    rfl
  · have := Int.lcm_pos (m := c) (n := d) (by omega) (by omega)
    omega
  · exact Int.coe_lcm_dvd h1 h2
  · exact Int.dvd_lcm_left c d
  · exact Int.dvd_lcm_right c d
theorem part_step {a b c : Int} (hb : 0 < b) (hc : 0 < c) (hd : de a b ∣ c) : nu a b * (c / de a b) * b = a * c := by
  obtain ⟨q, e⟩ := hd
  have h1 := nu_gc a b
  have h2 := de_gc a b
  have h3 := de_pos (a := a) hb
  have e2 : c / de a b = q := by rw [e]; exact Int.mul_ediv_cancel_left _ (by omega)
  rw [e2, e]
  generalize nu a b = p at *
  generalize de a b = d at *
  generalize gc a b = g at *
  subst h1 h2
  grind
theorem whole_row_ok {N M : Nat} (hN : N ≤ 1000) (hM : M ≤ 1000) (x : Nat → Nat → Int) {b : Nat → Int} {B : Int} (hB : 0 < B) (hB2 : B < 2 ^ 64) (hb : ∀ j, j < N → 0 < b j ∧ b j ∣ B) :
    ∃ (X : Nat → Nat → Int) (c : Int), fn_whole_row [.tup (rf N M x b)] = some (.val (.tup [.lst ((List.range N).map fun j => D.tup (fl M (X j))), .int c])) ∧ 0 < c ∧ c ∣ B ∧ ∀ j, j < N → ∀ k, k < M → X j k * b j = x j k * c := by
  have inner : ∀ (j : Nat), j < N → ∀ (c : Int) (c3 c4 : Option Cell), 0 < c → c ∣ B → Fr c3 = true → Fr c4 = true →
      WS (mFor (mSeqI (mVar 2)) (gTupD 2 (gsCons (gPut 3) (gsCons (gPut 4) gsNil))) (mSet 1 (mCS fLcm (mCons (mVar 1) (mCons (mVar 4) mNil))))) [some (.val (.tup (rf N M x b))), some (.val (.int c)), some (.val (.tup (fs M (x j) (b j)))), c3, c4, none, none]
      fun o => ∃ (c' : Int) (c3 c4 : Option Cell), o = .nx [some (.val (.tup (rf N M x b))), some (.val (.int c')), some (.val (.tup (fs M (x j) (b j)))), c3, c4, none, none] ∧ 0 < c' ∧ c' ∣ B ∧ c ∣ c' ∧ Fr c3 = true ∧ Fr c4 = true ∧ ∀ k, k < M → de (x j k) (b j) ∣ c' := by
    intro j hj c c3 c4 hc hcB f3 f4
    refine ws_for ⟨(List.range M).map fun k => fr (x j k) (b j), _, rfl, ws_rng (fun k s => ∃ (c' : Int) (c3 c4 : Option Cell), s = [some (.val (.tup (rf N M x b))), some (.val (.int c')), some (.val (.tup (fs M (x j) (b j)))), c3, c4, none, none] ∧ 0 < c' ∧ c' ∣ B ∧ c ∣ c' ∧ Fr c3 = true ∧ Fr c4 = true ∧ ∀ q, q < k → de (x j q) (b j) ∣ c') M ⟨c, c3, c4, rfl, hc, hcB, Int.dvd_refl _, f3, f4, fun q hq => by omega⟩ ?_ ?_⟩
    · rintro k s hk ⟨c', c3, c4, rfl, h1, h3, h2, f3, f4, hq⟩
      obtain ⟨L, eL, l1, l2, l3, l4⟩ := lcm_step h1 (de_pos (a := x j k) (hb j hj).1) h3 (Int.dvd_trans (de_dvd _ _) (hb j hj).2) hB hB2
      refine ⟨[some (.val (.tup (rf N M x b))), some (.val (.int c')), some (.val (.tup (fs M (x j) (b j)))), some (.val (.int (nu (x j k) (b j)))), some (.val (.int (de (x j k) (b j)))), none, none], ?_, ?_⟩
      · have p2 := put_valF (s := [some (.val (.tup (rf N M x b))), some (.val (.int c')), some (.val (.tup (fs M (x j) (b j)))), c3, c4, none, none]) (i := 3) (c := c3) (d := .int (nu (x j k) (b j))) rfl f3
        have p3 := put_valF (s := [some (.val (.tup (rf N M x b))), some (.val (.int c')), some (.val (.tup (fs M (x j) (b j)))), some (.val (.int (nu (x j k) (b j)))), c4, none, none]) (i := 4) (c := c4) (d := .int (de (x j k) (b j))) rfl f4
        simp [fr, gTupD, gsCons, gsNil, gPut, p2, p3]
      · refine ws_nx (s1 := [some (.val (.tup (rf N M x b))), some (.val (.int L)), some (.val (.tup (fs M (x j) (b j)))), some (.val (.int (nu (x j k) (b j)))), some (.val (.int (de (x j k) (b j)))), none, none]) (by simp [fnV, fnW, initV, initW, mSeq, mIfS, mTest, mBin, mIx, mVar, mC, peek, peeks, seqD, asI, asB, atI, ixN, onI, mAsg, mFrz, frz, mTupNew, mCons, mNil, fDm, gTupD, gsCons, gsNil, gSubD, gPut, put, ownAt, mRet, toRet, port0, mSkip, mCS, mCL, fI1, fI2, mSet, mPar, mPar3, Dm.plain, mTup, mLst, vals, mTupOf, fTup, fLen, mIf, mIfS, mNotT, mChain, mTyIs, tyD, noFrz, mIxK, mAndT, mOrT, mAndV, mOrV, mNotV, mExpr, mCallV, mCallW, rOf, mUn, fNeg, fList, fRg1, fRg2, fRg3, mRng, mSeqI, mYes, wipeS, mRep, eL]) ⟨_, .inl rfl, L, _, _, rfl, l1, l2, Int.dvd_trans h2 l3, rfl, rfl, fun q hq2 => ?_⟩
        rcases Nat.lt_succ_iff_lt_or_eq.1 hq2 with q1 | q1
        · exact Int.dvd_trans (hq q q1) l3
        · subst q1; exact l4
    · rintro s ⟨c', c3, c4, rfl, h1, h3, h2, f3, f4, hq⟩
      exact ⟨c', c3, c4, rfl, h1, h3, h2, f3, f4, hq⟩
  have key : WS b_whole_row (initV 7 [.tup (rf N M x b)]) fun o => ∃ r s', o = .rt r s' ∧ ∃ (X : Nat → Nat → Int) (c : Int), r = .val (.tup [.lst ((List.range N).map fun j => D.tup (fl M (X j))), .int c]) ∧ 0 < c ∧ c ∣ B ∧ ∀ j, j < N → ∀ k, k < M → X j k * b j = x j k * c := by
    unfold b_whole_row
    refine ws_step (s1 := [some (.val (.tup (rf N M x b))), some (.val (.int 1)), none, none, none, none, none]) (by simp [fnV, fnW, initV, initW, mSeq, mIfS, mTest, mBin, mIx, mVar, mC, peek, peeks, seqD, asI, asB, atI, ixN, onI, mAsg, mFrz, frz, mTupNew, mCons, mNil, fDm, gTupD, gsCons, gsNil, gSubD, gPut, put, ownAt, mRet, toRet, port0, mSkip, mCS, mCL, fI1, fI2, mSet, mPar, mPar3, Dm.plain, mTup, mLst, vals, mTupOf, fTup, fLen, mIf, mIfS, mNotT, mChain, mTyIs, tyD, noFrz, mIxK, mAndT, mOrT, mAndV, mOrV, mNotV, mExpr, mCallV, mCallW, rOf, mUn, fNeg, fList, fRg1, fRg2, fRg3, mRng, mSeqI, mYes, wipeS, mRep]) ?_
    refine ws_seq (ws_for ⟨(List.range N).map fun j => D.tup (fs M (x j) (b j)), _, rfl, ws_rng (fun j s => ∃ (c : Int) (c2 c3 c4 : Option Cell), s = [some (.val (.tup (rf N M x b))), some (.val (.int c)), c2, c3, c4, none, none] ∧ 0 < c ∧ c ∣ B ∧ Fr c2 = true ∧ Fr c3 = true ∧ Fr c4 = true ∧ ∀ i, i < j → ∀ q, q < M → de (x i q) (b i) ∣ c) N ⟨1, none, none, none, rfl, by decide, Int.one_dvd _, rfl, rfl, rfl, fun i hi => by omega⟩ ?_ ?_⟩)
    · rintro j s hj ⟨c, c2, c3, c4, rfl, h1, h3, f2, f3, f4, hq⟩
      refine ⟨[some (.val (.tup (rf N M x b))), some (.val (.int c)), some (.val (.tup (fs M (x j) (b j)))), c3, c4, none, none], put_valF (c := c2) rfl f2, ?_⟩
      obtain ⟨o, eo, c', d3, d4, rfl, g1, g2, g3, g4, g5, g6⟩ := inner j hj c c3 c4 h1 h3 f3 f4
      refine ⟨_, eo, _, .inl rfl, c', _, d3, d4, rfl, g1, g2, rfl, g4, g5, fun i hi q hq2 => ?_⟩
      rcases Nat.lt_succ_iff_lt_or_eq.1 hi with q1 | q1
      · exact Int.dvd_trans (hq i q1 q hq2) g3
      · subst q1; exact g6 q hq2
    · rintro s ⟨c, c2, c3, c4, rfl, h1, h3, f2, f3, f4, hq⟩
      refine ⟨_, rfl, ?_⟩
      have cB := Int.le_of_dvd hB h3
      have oc : okM c = true := okM_of (by omega)
      have in2 : ∀ j, j < N → mLc [6, 4] (mSeqI (mVar 2)) (gTupD 2 (gsCons (gPut 6) (gsCons (gPut 4) gsNil))) mYes (mBin fMulA (mVar 6) (mBin fDivA (mVar 1) (mVar 4))) [some (.val (.tup (rf N M x b))), some (.val (.int c)), some (.val (.tup (fs M (x j) (b j)))), c3, c4, none, none] = some (.own ((List.range M).map fun k => D.int (nu (x j k) (b j) * (c / de (x j k) (b j)))), [some (.val (.tup (rf N M x b))), some (.val (.int c)), some (.val (.tup (fs M (x j) (b j)))), c3, c4, none, none]) := fun j hj => by
        refine mlc_all (fun k : Nat => fr (x j k) (b j)) (fun k => D.int (nu (x j k) (b j) * (c / de (x j k) (b j)))) (List.range M) (s1 := [some (.val (.tup (rf N M x b))), some (.val (.int c)), some (.val (.tup (fs M (x j) (b j)))), c3, c4, none, none]) rfl (by simp; omega) (fun k hk => ?_) rfl
        have dp := de_pos (a := x j k) (hb j hj).1
        have dB := Int.le_of_dvd hB (Int.dvd_trans (de_dvd (x j k) (b j)) (hb j hj).2)
        have cd : CDivA c (de (x j k) (b j)) := cdivA dp (okM_of (by omega))
        have q0 : 0 ≤ c / de (x j k) (b j) := Int.ediv_nonneg (by omega) (by omega)
        have q1 : c / de (x j k) (b j) ≤ c := Int.ediv_le_self _ (by omega)
        have cm : CMulA (nu (x j k) (b j)) (c / de (x j k) (b j)) := CMulA.r _ (by omega) (by omega)
        have fd : c.fdiv (de (x j k) (b j)) = c / de (x j k) (b j) := Int.fdiv_eq_ediv_of_nonneg _ (by omega)
        refine ⟨[some (.val (.tup (rf N M x b))), some (.val (.int c)), some (.val (.tup (fs M (x j) (b j)))), c3, some (.val (.int (de (x j k) (b j)))), none, some (.val (.int (nu (x j k) (b j))))], .val (.int (nu (x j k) (b j) * (c / de (x j k) (b j)))), by simp [fr, fnV, fnW, initV, initW, mSeq, mIfS, mTest, mBin, mIx, mVar, mC, peek, peeks, seqD, asI, asB, atI, ixN, onI, mAsg, mFrz, frz, mTupNew, mCons, mNil, fDm, gTupD, gsCons, gsNil, gSubD, gPut, put, ownAt, mRet, toRet, port0, mSkip, mCS, mCL, fI1, fI2, mSet, mPar, mPar3, Dm.plain, mTup, mLst, vals, mTupOf, fTup, fLen, mIf, mIfS, mNotT, mChain, mTyIs, tyD, noFrz, mIxK, mAndT, mOrT, mAndV, mOrV, mNotV, mExpr, mCallV, mCallW, rOf, mUn, fNeg, fList, fRg1, fRg2, fRg3, mRng, mSeqI, mYes, wipeS, mRep], by simp [fnV, fnW, initV, initW, mSeq, mIfS, mTest, mBin, mIx, mVar, mC, peek, peeks, seqD, asI, asB, atI, ixN, onI, mAsg, mFrz, frz, mTupNew, mCons, mNil, fDm, gTupD, gsCons, gsNil, gSubD, gPut, put, ownAt, mRet, toRet, port0, mSkip, mCS, mCL, fI1, fI2, mSet, mPar, mPar3, Dm.plain, mTup, mLst, vals, mTupOf, fTup, fLen, mIf, mIfS, mNotT, mChain, mTyIs, tyD, noFrz, mIxK, mAndT, mOrT, mAndV, mOrV, mNotV, mExpr, mCallV, mCallW, rOf, mUn, fNeg, fList, fRg1, fRg2, fRg3, mRng, mSeqI, mYes, wipeS, mRep, cd, fd, cm], rfl, rfl⟩
      refine ws_step (s1 := [some (.val (.tup (rf N M x b))), some (.val (.int c)), c2, c3, c4, some (.own false ((List.range N).map fun j => D.tup (fl M fun k => nu (x j k) (b j) * (c / de (x j k) (b j))))), none]) ?_ ?_
      · have e := mlc_all (vs := [2]) (mi := mSeqI (mVar 0)) (g := gPut 2) (m := mTupOf (mCons (mLc [6, 4] (mSeqI (mVar 2)) (gTupD 2 (gsCons (gPut 6) (gsCons (gPut 4) gsNil))) mYes (mBin fMulA (mVar 6) (mBin fDivA (mVar 1) (mVar 4)))) mNil)) (fun j : Nat => D.tup (fs M (x j) (b j))) (fun j => D.tup (fl M fun k => nu (x j k) (b j) * (c / de (x j k) (b j)))) (List.range N) (s := [some (.val (.tup (rf N M x b))), some (.val (.int c)), c2, c3, c4, none, none]) (s1 := [some (.val (.tup (rf N M x b))), some (.val (.int c)), c2, c3, c4, none, none]) (s2 := [some (.val (.tup (rf N M x b))), some (.val (.int c)), c2, c3, c4, none, none]) rfl (by simp; omega) (fun j hj => by
          exact ⟨[some (.val (.tup (rf N M x b))), some (.val (.int c)), some (.val (.tup (fs M (x j) (b j)))), c3, c4, none, none], _, rfl, tupOf_of (in2 j (List.mem_range.1 hj)), rfl, rfl⟩) rfl
        exact set_of e (put_ownF (c := none) rfl rfl)
      · refine ws_ret ⟨_, _, by simp [fnV, fnW, initV, initW, mSeq, mIfS, mTest, mBin, mIx, mVar, mC, peek, peeks, seqD, asI, asB, atI, ixN, onI, mAsg, mFrz, frz, mTupNew, mCons, mNil, fDm, gTupD, gsCons, gsNil, gSubD, gPut, put, ownAt, mRet, toRet, port0, mSkip, mCS, mCL, fI1, fI2, mSet, mPar, mPar3, Dm.plain, mTup, mLst, vals, mTupOf, fTup, fLen, mIf, mIfS, mNotT, mChain, mTyIs, tyD, noFrz, mIxK, mAndT, mOrT, mAndV, mOrV, mNotV, mExpr, mCallV, mCallW, rOf, mUn, fNeg, fList, fRg1, fRg2, fRg3, mRng, mSeqI, mYes, wipeS, mRep]; exact ⟨rfl, rfl⟩, _, rfl, _, _, rfl, fun j k => nu (x j k) (b j) * (c / de (x j k) (b j)), c, rfl, h1, h3, fun j hj k hk => part_step (hb j hj).1 h1 (hq j hj k hk)⟩
  obtain ⟨r, e, X, c, rfl, h1, h2, h3⟩ := fnV_ws (np := 1) key
  exact ⟨X, c, e, h1, h2, h3⟩
end Nb
set_option Elab.async false
set_option linter.all false
set_option maxRecDepth 100000
set_option maxHeartbeats 4000000
namespace Nb
open PySem PySem.Spec L2 Dm Nz
set_option autoImplicit false
theorem check_turns_ok {n : Nat} (hn : n ≤ 1000) (x : Nat → Int) {b : Int} (hb : 0 < b) : fn_check_turns [.int n, .tup (fs n x b)] = some (.val .non) := by
  have e1 : fNe (.int n) (.int n) = some (.bl false) := by rw [fNe_int]; simp
  refine fnV_nx (np := 2) ?_
  unfold b_check_turns
  refine ws_step (s1 := [some (.val (.int n)), some (.val (.tup (fs n x b))), none, none]) (by simp [fnV, fnW, initV, initW, mSeq, mIfS, mTest, mBin, mIx, mVar, mC, peek, peeks, seqD, asI, asB, atI, ixN, onI, mAsg, mFrz, frz, mTupNew, mCons, mNil, fDm, gTupD, gsCons, gsNil, gSubD, gPut, put, ownAt, mRet, toRet, port0, mSkip, mCS, mCL, fI1, fI2, mSet, mPar, mPar3, Dm.plain, mTup, mLst, vals, mTupOf, fTup, fLen, mIf, mIfS, mNotT, mChain, mTyIs, tyD, noFrz, mIxK, mAndT, mOrT, mAndV, mOrV, mNotV, mExpr, mCallV, mCallW, rOf, mUn, fNeg, fList, fRg1, fRg2, fRg3, mRng, mSeqI, mYes, wipeS, mRep, fs_len, e1]) ?_
  refine ws_for ⟨(List.range n).map fun i => D.tup [.int (i : Nat), fr (x i) b], [some (.val (.int n)), some (.val (.tup (fs n x b))), none, none], ?_, ws_rng (fun i s => ∃ c2 c3, s = [some (.val (.int n)), some (.val (.tup (fs n x b))), c2, c3] ∧ Fr c2 = true ∧ Fr c3 = true) n ⟨none, none, rfl, rfl, rfl⟩ ?_ ?_⟩
  · simp [fnV, fnW, initV, initW, mSeq, mIfS, mTest, mBin, mIx, mVar, mC, peek, peeks, seqD, asI, asB, atI, ixN, onI, mAsg, mFrz, frz, mTupNew, mCons, mNil, fDm, gTupD, gsCons, gsNil, gSubD, gPut, put, ownAt, mRet, toRet, port0, mSkip, mCS, mCL, fI1, fI2, mSet, mPar, mPar3, Dm.plain, mTup, mLst, vals, mTupOf, fTup, fLen, mIf, mIfS, mNotT, mChain, mTyIs, tyD, noFrz, mIxK, mAndT, mOrT, mAndV, mOrV, mNotV, mExpr, mCallV, mCallW, rOf, mUn, fNeg, fList, fRg1, fRg2, fRg3, mRng, mSeqI, mYes, wipeS, mRep, mEnA]
    exact enD_range _
  · rintro i s hi ⟨c2, c3, rfl, f2, f3⟩
    refine ⟨[some (.val (.int n)), some (.val (.tup (fs n x b))), some (.val (.int i)), some (.val (fr (x i) b))], ?_, ?_⟩
    · have p2 := put_valF (s := [some (.val (.int n)), some (.val (.tup (fs n x b))), c2, c3]) (i := 2) (c := c2) (d := .int i) rfl f2
      have p3 := put_valF (s := [some (.val (.int n)), some (.val (.tup (fs n x b))), some (.val (.int i)), c3]) (i := 3) (c := c3) (d := fr (x i) b) rfl f3
      simp [gTupD, gsCons, gsNil, gPut, p2, p3]
    · refine ws_ifF (s1 := [some (.val (.int n)), some (.val (.tup (fs n x b))), some (.val (.int i)), some (.val (fr (x i) b))]) (by simp [fnV, fnW, initV, initW, mSeq, mIfS, mTest, mBin, mIx, mVar, mC, peek, peeks, seqD, asI, asB, atI, ixN, onI, mAsg, mFrz, frz, mTupNew, mCons, mNil, fDm, gTupD, gsCons, gsNil, gSubD, gPut, put, ownAt, mRet, toRet, port0, mSkip, mCS, mCL, fI1, fI2, mSet, mPar, mPar3, Dm.plain, mTup, mLst, vals, mTupOf, fTup, fLen, mIf, mIfS, mNotT, mChain, mTyIs, tyD, noFrz, mIxK, mAndT, mOrT, mAndV, mOrV, mNotV, mExpr, mCallV, mCallW, rOf, mUn, fNeg, fList, fRg1, fRg2, fRg3, mRng, mSeqI, mYes, wipeS, mRep, is_fraction_ok (a := x i) hb]) ?_
      exact ws_skip ⟨_, .inl rfl, _, _, rfl, rfl, rfl⟩
  · rintro s ⟨c2, c3, rfl, f2, f3⟩
    exact ⟨_, rfl⟩
/-! ### the rest by the round polynomial -/
theorem look_b {n : Nat} (h : 2 ≤ n) (h2 : n ≤ 12) : (allN (dg n + 1) fun i => decide (-1 ≤ bN n i ∧ bN n i ≤ 1)) = true ∧ bN n (dg n) = 1 := by
  rcases Nz.sizes h h2 with rfl | rfl | rfl | rfl | rfl | rfl | rfl | rfl | rfl | rfl | rfl <;> exact ⟨by decide, by decide⟩
theorem b_sum {n : Nat} (h : 2 ≤ n) (h2 : n ≤ 12) (k : Int) : Sm (dg n) (fun i => ((bN n i : Int) : Z n) * w n (k + i)) = - w n (k + dg n) := by
  refine Z.ext fun q hq => ?_
  have e : Sm (dg n + 1) (fun i => bN n i * sg n (k + i) q) = 0 := sg_B hq k
  rw [Sm_succ, (look_b h h2).2] at e
  rw [Sm_f, neg_f]
  show Sm (dg n) (fun i => (((bN n i : Int) : Z n) * w n (k + i)).f q) = - sg n (k + dg n) q
  have e2 : (fun i : Nat => (((bN n i : Int) : Z n) * w n (k + i)).f q) = fun i => bN n i * sg n (k + i) q := by
    funext i
    rw [icast_f]
    rfl
  rw [e2]
  omega
/-- a row of whole numbers as the sum of powers -/
def sv (n N : Nat) (x : Nat → Int) : Z n := Sm N fun p => (x p : Z n) * w n p
theorem sv_congr {n N : Nat} {x y : Nat → Int} (h : ∀ p, p < N → x p = y p) : sv n N x = sv n N y := Sm_congr fun p hp => by rw [h p hp]
theorem sv_dg {n : Nat} (x : Z n) : sv n (dg n) x.f = x := Z.sum x
theorem sv_f {n : Nat} (x : Nat → Int) {k : Nat} (hk : k < dg n) : (sv n (dg n) x).f k = x k := by
  unfold sv
  rw [Sm_f, ← Sm_one hk x]
  refine Sm_congr fun i hi => ?_
  rw [icast_f]
  show x i * sg n i k = _
  rw [sg_I hi hk]
  split <;> simp
theorem zcast_sub {n : Nat} (a b : Int) : ((a - b : Int) : Z n) = (a : Z n) - (b : Z n) := Z.ext fun k hk => by
  rw [sub_f]
  show (cst n (a - b)).f k = (cst n a).f k - (cst n b).f k
  rw [cst_f hk, cst_f hk, cst_f hk]
  split <;> omega
theorem zcast_add {n : Nat} (a b : Int) : ((a + b : Int) : Z n) = (a : Z n) + (b : Z n) := Z.ext fun k hk => by
  rw [add_f]
  show (cst n (a + b)).f k = (cst n a).f k + (cst n b).f k
  rw [cst_f hk, cst_f hk, cst_f hk]
  split <;> omega
theorem zcast_mul {n : Nat} (a b : Int) : ((a * b : Int) : Z n) = (a : Z n) * (b : Z n) := Z.ext fun k hk => by
  rw [icast_f]
  show (cst n (a * b)).f k = a * (cst n b).f k
  rw [cst_f hk, cst_f hk]
  split <;> simp
theorem sv_cut {n : Nat} (h : 2 ≤ n) (h2 : n ≤ 12) (k : Nat) (z : Nat → Int) : sv n (k + dg n) (fun p => if k ≤ p ∧ p < k + dg n then z p - z (k + dg n) * bN n (p - k) else z p) = sv n (k + dg n + 1) z := by
  unfold sv
  rw [Sm_succ, Sm_add_len, Sm_add_len]
  have e1 : Sm k (fun p => ((if k ≤ p ∧ p < k + dg n then z p - z (k + dg n) * bN n (p - k) else z p : Int) : Z n) * w n p) = Sm k fun p => (z p : Z n) * w n p := Sm_congr fun p hp => by rw [if_neg (by omega)]
  have e2 : Sm (dg n) (fun i => ((if k ≤ k + i ∧ k + i < k + dg n then z (k + i) - z (k + dg n) * bN n (k + i - k) else z (k + i) : Int) : Z n) * w n ((k + i : Nat) : Int)) = Sm (dg n) fun i => (z (k + i) : Z n) * w n ((k + i : Nat) : Int) - (z (k + dg n) : Z n) * (((bN n i : Int) : Z n) * w n (k + i)) := Sm_congr fun i hi => by
    rw [if_pos (by omega), show k + i - k = i by omega, zcast_sub, zcast_mul, show ((k + i : Nat) : Int) = (k : Int) + i by omega]
    grind
  rw [e1, e2, Sm_sub, ← Sm_mul, b_sum h h2, show ((k + dg n : Nat) : Int) = (k : Int) + dg n by omega]
  grind
theorem rest_by_round_ok {n : Nat} (h : 2 ≤ n) (h2 : n ≤ 12) {N : Nat} (hN : dg n ≤ N) (hN2 : N ≤ 90) (x : Nat → Int) {q : D} (hq : q = .lst (fl N x) ∨ q = .tup (fl N x)) : fn_rest_by_round [.int n, q] = some (.val (wl (sv n N x))) := by
  have hd := dg_pos h h2
  obtain ⟨lb, ltop⟩ := look_b h h2
  have key : WS b_rest_by_round (initV 8 [.int n, q]) fun o => ∃ r s', o = .rt r s' ∧ r = .val (wl (sv n N x)) := by
    unfold b_rest_by_round
    generalize hbd : D.tup (fl (dg n + 1) (bN n)) = bd
    have rl := rp_lookup h h2
    rw [hbd] at rl
    refine ws_step (s1 := [some (.val (.int n)), some (.val q), some (.val bd), none, none, none, none, none]) (by simp [fnV, fnW, initV, initW, mSeq, mIfS, mTest, mBin, mIx, mVar, mC, peek, peeks, seqD, asI, asB, atI, ixN, onI, mAsg, mFrz, frz, mTupNew, mCons, mNil, fDm, gTupD, gsCons, gsNil, gSubD, gPut, put, ownAt, mRet, toRet, port0, mSkip, mCS, mCL, fI1, fI2, mSet, mPar, mPar3, Dm.plain, mTup, mLst, vals, mTupOf, fTup, fLen, mIf, mIfS, mNotT, mChain, mTyIs, tyD, noFrz, mIxK, mAndT, mOrT, mAndV, mOrV, mNotV, mExpr, mCallV, mCallW, rOf, mUn, fNeg, fList, fRg1, fRg2, fRg3, mRng, mSeqI, mYes, wipeS, mRep, rl]) ?_
    refine ws_step (s1 := [some (.val (.int n)), some (.val q), some (.val bd), some (.val (.int (dg n))), none, none, none, none]) (by subst hbd; simp [fnV, fnW, initV, initW, mSeq, mIfS, mTest, mBin, mIx, mVar, mC, peek, peeks, seqD, asI, asB, atI, ixN, onI, mAsg, mFrz, frz, mTupNew, mCons, mNil, fDm, gTupD, gsCons, gsNil, gSubD, gPut, put, ownAt, mRet, toRet, port0, mSkip, mCS, mCL, fI1, fI2, mSet, mPar, mPar3, Dm.plain, mTup, mLst, vals, mTupOf, fTup, fLen, mIf, mIfS, mNotT, mChain, mTyIs, tyD, noFrz, mIxK, mAndT, mOrT, mAndV, mOrV, mNotV, mExpr, mCallV, mCallW, rOf, mUn, fNeg, fList, fRg1, fRg2, fRg3, mRng, mSeqI, mYes, wipeS, mRep, fl_len]) ?_
    refine ws_step (s1 := [some (.val (.int n)), some (.val q), some (.val bd), some (.val (.int (dg n))), some (.own false (fl N x)), none, none, none]) (by rcases hq with rfl | rfl <;> simp [fnV, fnW, initV, initW, mSeq, mIfS, mTest, mBin, mIx, mVar, mC, peek, peeks, seqD, asI, asB, atI, ixN, onI, mAsg, mFrz, frz, mTupNew, mCons, mNil, fDm, gTupD, gsCons, gsNil, gSubD, gPut, put, ownAt, mRet, toRet, port0, mSkip, mCS, mCL, fI1, fI2, mSet, mPar, mPar3, Dm.plain, mTup, mLst, vals, mTupOf, fTup, fLen, mIf, mIfS, mNotT, mChain, mTyIs, tyD, noFrz, mIxK, mAndT, mOrT, mAndV, mOrV, mNotV, mExpr, mCallV, mCallW, rOf, mUn, fNeg, fList, fRg1, fRg2, fRg3, mRng, mSeqI, mYes, wipeS, mRep]) ?_
    refine ws_seq ?_
    have W := whil_meas (t := mTest (mBin fGt (mCS fLen (mCons (mVar 4) mNil)) (mVar 3))) (b := (mSeq (mSet 5 (mPop (mVar 4)))
  (mIfS (mTest (mBin fNe (mVar 5) (mC (.int 0)))) (mSeq (mSet 6 (mBin fSub (mCS fLen (mCons (mVar 4) mNil)) (mVar 3)))
  (mFor (mRng fRg1 (mCons (mVar 3) mNil)) (gPut 7) (mAugS (fun i j => i - j) (mVar 4) (mBin fAdd (mVar 6) (mVar 7)) (mBin fMulA (mVar 5) (mIx (mVar 2) (mVar 7)))))) mSkip)))
      (fun k s => ∃ (z : Nat → Int) (c5 c6 c7 : Option Cell), s = [some (.val (.int n)), some (.val q), some (.val bd), some (.val (.int (dg n))), some (.own false (fl (k + dg n) z)), c5, c6, c7] ∧ Fr c5 = true ∧ Fr c6 = true ∧ Fr c7 = true ∧ k ≤ 90 ∧ sv n (k + dg n) z = sv n N x)
      (fun s => ∃ (z : Nat → Int) (c5 c6 c7 : Option Cell), s = [some (.val (.int n)), some (.val q), some (.val bd), some (.val (.int (dg n))), some (.own false (fl (dg n) z)), c5, c6, c7] ∧ sv n (dg n) z = sv n N x) 100 (N - dg n)
      [some (.val (.int n)), some (.val q), some (.val bd), some (.val (.int (dg n))), some (.own false (fl N x)), none, none, none] (by omega)
      ⟨x, none, none, none, by rw [show N - dg n + dg n = N by omega], rfl, rfl, rfl, by omega, by rw [show N - dg n + dg n = N by omega]⟩ (by
      rintro k s ⟨z, c5, c6, c7, rfl, f5, f6, f7, hk, hz⟩
      cases k with
      | zero =>
        refine ⟨false, [some (.val (.int n)), some (.val q), some (.val bd), some (.val (.int (dg n))), some (.own false (fl (0 + dg n) z)), c5, c6, c7], by simp [fnV, fnW, initV, initW, mSeq, mIfS, mTest, mBin, mIx, mVar, mC, peek, peeks, seqD, asI, asB, atI, ixN, onI, mAsg, mFrz, frz, mTupNew, mCons, mNil, fDm, gTupD, gsCons, gsNil, gSubD, gPut, put, ownAt, mRet, toRet, port0, mSkip, mCS, mCL, fI1, fI2, mSet, mPar, mPar3, Dm.plain, mTup, mLst, vals, mTupOf, fTup, fLen, mIf, mIfS, mNotT, mChain, mTyIs, tyD, noFrz, mIxK, mAndT, mOrT, mAndV, mOrV, mNotV, mExpr, mCallV, mCallW, rOf, mUn, fNeg, fList, fRg1, fRg2, fRg3, mRng, mSeqI, mYes, wipeS, mRep, fl_len], .inl ⟨rfl, z, c5, c6, c7, by rw [Nat.zero_add], by rw [Nat.zero_add] at hz; exact hz⟩⟩
      | succ k =>
        have el : k + 1 + dg n = k + dg n + 1 := by omega
        rw [el] at hz ⊢
        refine ⟨true, [some (.val (.int n)), some (.val q), some (.val bd), some (.val (.int (dg n))), some (.own false (fl (k + dg n + 1) z)), c5, c6, c7], by simp [fnV, fnW, initV, initW, mSeq, mIfS, mTest, mBin, mIx, mVar, mC, peek, peeks, seqD, asI, asB, atI, ixN, onI, mAsg, mFrz, frz, mTupNew, mCons, mNil, fDm, gTupD, gsCons, gsNil, gSubD, gPut, put, ownAt, mRet, toRet, port0, mSkip, mCS, mCL, fI1, fI2, mSet, mPar, mPar3, Dm.plain, mTup, mLst, vals, mTupOf, fTup, fLen, mIf, mIfS, mNotT, mChain, mTyIs, tyD, noFrz, mIxK, mAndT, mOrT, mAndV, mOrV, mNotV, mExpr, mCallV, mCallW, rOf, mUn, fNeg, fList, fRg1, fRg2, fRg3, mRng, mSeqI, mYes, wipeS, mRep, fl_len]; omega, .inr ⟨rfl, ?_⟩⟩
        have lastE : (fl (k + dg n + 1) z)[(fl (k + dg n + 1) z).length - 1]? = some (.int (z (k + dg n))) := by rw [fl_len]; exact fl_get z (by omega)
        refine ws_step (s1 := [some (.val (.int n)), some (.val q), some (.val bd), some (.val (.int (dg n))), some (.own false (fl (k + dg n) z)), some (.val (.int (z (k + dg n)))), c6, c7]) ?_ ?_
        · have e1 : mPop (mVar 4) [some (.val (.int n)), some (.val q), some (.val bd), some (.val (.int (dg n))), some (.own false (fl (k + dg n + 1) z)), c5, c6, c7] = some (.val (.int (z (k + dg n))), [some (.val (.int n)), some (.val q), some (.val bd), some (.val (.int (dg n))), some (.own false (fl (k + dg n) z)), c5, c6, c7]) := by
            unfold mPop
            show ((fl (k + dg n + 1) z)[(fl (k + dg n + 1) z).length - 1]?).bind _ = _
            rw [lastE]
            show some (_, List.set _ 4 (some (Cell.own false (fl (k + dg n + 1) z).dropLast))) = _
            rw [fl_drop]
            rfl
          exact set_of e1 (put_valF (c := c5) rfl f5)
        by_cases h0 : z (k + dg n) = 0
        · refine ws_ifF (s1 := [some (.val (.int n)), some (.val q), some (.val bd), some (.val (.int (dg n))), some (.own false (fl (k + dg n) z)), some (.val (.int (z (k + dg n)))), c6, c7]) (by simp [fnV, fnW, initV, initW, mSeq, mIfS, mTest, mBin, mIx, mVar, mC, peek, peeks, seqD, asI, asB, atI, ixN, onI, mAsg, mFrz, frz, mTupNew, mCons, mNil, fDm, gTupD, gsCons, gsNil, gSubD, gPut, put, ownAt, mRet, toRet, port0, mSkip, mCS, mCL, fI1, fI2, mSet, mPar, mPar3, Dm.plain, mTup, mLst, vals, mTupOf, fTup, fLen, mIf, mIfS, mNotT, mChain, mTyIs, tyD, noFrz, mIxK, mAndT, mOrT, mAndV, mOrV, mNotV, mExpr, mCallV, mCallW, rOf, mUn, fNeg, fList, fRg1, fRg2, fRg3, mRng, mSeqI, mYes, wipeS, mRep, fNe_int, h0]) ?_
          refine ws_skip ⟨k, _, Nat.lt_succ_self k, .inl rfl, z, _, c6, c7, rfl, rfl, f6, f7, by omega, ?_⟩
          rw [← hz]
          unfold sv
          rw [Sm_succ, h0]
          refine Z.ext fun u _ => ?_
          rw [add_f, icast_f]
          omega
        · refine ws_ifT (s1 := [some (.val (.int n)), some (.val q), some (.val bd), some (.val (.int (dg n))), some (.own false (fl (k + dg n) z)), some (.val (.int (z (k + dg n)))), c6, c7]) (by simp [fnV, fnW, initV, initW, mSeq, mIfS, mTest, mBin, mIx, mVar, mC, peek, peeks, seqD, asI, asB, atI, ixN, onI, mAsg, mFrz, frz, mTupNew, mCons, mNil, fDm, gTupD, gsCons, gsNil, gSubD, gPut, put, ownAt, mRet, toRet, port0, mSkip, mCS, mCL, fI1, fI2, mSet, mPar, mPar3, Dm.plain, mTup, mLst, vals, mTupOf, fTup, fLen, mIf, mIfS, mNotT, mChain, mTyIs, tyD, noFrz, mIxK, mAndT, mOrT, mAndV, mOrV, mNotV, mExpr, mCallV, mCallW, rOf, mUn, fNeg, fList, fRg1, fRg2, fRg3, mRng, mSeqI, mYes, wipeS, mRep, fNe_int, h0]) ?_
          refine ws_step (s1 := [some (.val (.int n)), some (.val q), some (.val bd), some (.val (.int (dg n))), some (.own false (fl (k + dg n) z)), some (.val (.int (z (k + dg n)))), some (.val (.int k)), c7]) ?_ ?_
          · refine set_of (s1 := [some (.val (.int n)), some (.val q), some (.val bd), some (.val (.int (dg n))), some (.own false (fl (k + dg n) z)), some (.val (.int (z (k + dg n)))), c6, c7]) (r := .val (.int k)) ?_ (put_valF (c := c6) rfl f6)
            simp [fnV, fnW, initV, initW, mSeq, mIfS, mTest, mBin, mIx, mVar, mC, peek, peeks, seqD, asI, asB, atI, ixN, onI, mAsg, mFrz, frz, mTupNew, mCons, mNil, fDm, gTupD, gsCons, gsNil, gSubD, gPut, put, ownAt, mRet, toRet, port0, mSkip, mCS, mCL, fI1, fI2, mSet, mPar, mPar3, Dm.plain, mTup, mLst, vals, mTupOf, fTup, fLen, mIf, mIfS, mNotT, mChain, mTyIs, tyD, noFrz, mIxK, mAndT, mOrT, mAndV, mOrV, mNotV, mExpr, mCallV, mCallW, rOf, mUn, fNeg, fList, fRg1, fRg2, fRg3, mRng, mSeqI, mYes, wipeS, mRep, fl_len]
          refine ws_for ⟨(List.range (dg n)).map nI, _, rng1_of (dg n) rfl rfl rfl (by omega), ws_rng (fun i s => ∃ (c7 : Option Cell), s = [some (.val (.int n)), some (.val q), some (.val bd), some (.val (.int (dg n))), some (.own false (fl (k + dg n) (fun p => if k ≤ p ∧ p < k + i then z p - z (k + dg n) * bN n (p - k) else z p))), some (.val (.int (z (k + dg n)))), some (.val (.int k)), c7] ∧ Fr c7 = true) (dg n) ⟨c7, ?_, f7⟩ ?_ ?_⟩
          · rw [show (fun p => if k ≤ p ∧ p < k + 0 then z p - z (k + dg n) * bN n (p - k) else z p) = z from by funext p; rw [if_neg (by omega)]]
          · rintro i s hi ⟨c7, rfl, f7⟩
            generalize hF : (fun p => if k ≤ p ∧ p < k + i then z p - z (k + dg n) * bN n (p - k) else z p) = F
            have Fk : F (k + i) = z (k + i) := by rw [← hF]; exact if_neg (by omega)
            refine ⟨_, put_valF (c := c7) rfl f7, ?_⟩
            have a1 := atI_fl F (i := (k : Int) + i) (j := k + i) (by omega) (m := k + dg n) (by omega)
            have a2 := atI_fl (bN n) (i := (i : Int)) (j := i) rfl (show i < dg n + 1 by omega)
            have a3 := ixN_fl F (i := (k : Int) + i) (j := k + i) (by omega) (m := k + dg n) (by omega)
            have lbi := of_decide_eq_true (allN_of lb (show i < dg n + 1 by omega))
            have mm : CMulA (z (k + dg n)) (bN n i) := CMulA.r _ (by omega) (by omega)
            have a4 := fl_set (m := k + dg n) (p := k + i) F (F (k + i) - z (k + dg n) * bN n i) (by omega)
            subst hbd
            refine ⟨_, augS_of (k := 4) (i := (k : Int) + i) (a := F (k + i)) (b := z (k + dg n) * bN n i) rfl (by simp [fnV, fnW, initV, initW, mSeq, mIfS, mTest, mBin, mIx, mVar, mC, peek, peeks, seqD, asI, asB, atI, ixN, onI, mAsg, mFrz, frz, mTupNew, mCons, mNil, fDm, gTupD, gsCons, gsNil, gSubD, gPut, put, ownAt, mRet, toRet, port0, mSkip, mCS, mCL, fI1, fI2, mSet, mPar, mPar3, Dm.plain, mTup, mLst, vals, mTupOf, fTup, fLen, mIf, mIfS, mNotT, mChain, mTyIs, tyD, noFrz, mIxK, mAndT, mOrT, mAndV, mOrV, mNotV, mExpr, mCallV, mCallW, rOf, mUn, fNeg, fList, fRg1, fRg2, fRg3, mRng, mSeqI, mYes, wipeS, mRep]) rfl a1 (by simp [fnV, fnW, initV, initW, mSeq, mIfS, mTest, mBin, mIx, mVar, mC, peek, peeks, seqD, asI, asB, onI, mAsg, mFrz, frz, mTupNew, mCons, mNil, fDm, gTupD, gsCons, gsNil, gSubD, gPut, put, ownAt, mRet, toRet, port0, mSkip, mCS, mCL, fI1, fI2, mSet, mPar, mPar3, Dm.plain, mTup, mLst, vals, mTupOf, fTup, fLen, mIf, mIfS, mNotT, mChain, mTyIs, tyD, noFrz, mIxK, mAndT, mOrT, mAndV, mOrV, mNotV, mExpr, mCallV, mCallW, rOf, mUn, fNeg, fList, fRg1, fRg2, fRg3, mRng, mSeqI, mYes, wipeS, mRep, a2, mm]) a3, _, .inl rfl, some (.val (.int i)), ?_, rfl⟩
            show List.set _ 4 (some (Cell.own false ((fl (k + dg n) F).set (k + i) (.int (F (k + i) - z (k + dg n) * bN n i))))) = _
            rw [a4]
            refine congrArg (fun u => [_, _, _, _, some (Cell.own false u), _, _, _]) ?_
            refine fl_congr fun p hp => ?_
            by_cases e : p = k + i
            · subst e
              rw [if_pos rfl, if_pos (by omega), show k + i - k = i from by omega, Fk]
            · rw [if_neg e, ← hF]
              by_cases e2 : k ≤ p ∧ p < k + i
              · show (if _ then _ else _) = _
                rw [if_pos e2, if_pos (by omega)]
              · show (if _ then _ else _) = _
                rw [if_neg e2, if_neg (by omega)]
          · rintro s ⟨c7, rfl, f7⟩
            refine ⟨k, _, Nat.lt_succ_self k, .inl rfl, _, _, _, c7, rfl, rfl, rfl, f7, by omega, ?_⟩
            rw [sv_cut h h2 k z, hz])
    obtain ⟨s', e, J⟩ := W
    · obtain ⟨z, c5, c6, c7, rfl, hz⟩ := J
      refine ⟨_, e, _, rfl, ?_⟩
      refine ws_ret ⟨.val (.tup (fl (dg n) z)), _, by simp [fnV, fnW, initV, initW, mSeq, mIfS, mTest, mBin, mIx, mVar, mC, peek, peeks, seqD, asI, asB, atI, ixN, onI, mAsg, mFrz, frz, mTupNew, mCons, mNil, fDm, gTupD, gsCons, gsNil, gSubD, gPut, put, ownAt, mRet, toRet, port0, mSkip, mCS, mCL, fI1, fI2, mSet, mPar, mPar3, Dm.plain, mTup, mLst, vals, mTupOf, fTup, fLen, mIf, mIfS, mNotT, mChain, mTyIs, tyD, noFrz, mIxK, mAndT, mOrT, mAndV, mOrV, mNotV, mExpr, mCallV, mCallW, rOf, mUn, fNeg, fList, fRg1, fRg2, fRg3, mRng, mSeqI, mYes, wipeS, mRep]; rfl, _, rfl, _, _, rfl, ?_⟩
      unfold wl
      refine congrArg (fun u => Ret.val (D.tup u)) (fl_congr fun k hk => ?_)
      rw [← hz, sv_f z hk]
  obtain ⟨r, e, rfl⟩ := fnV_ws (np := 2) key
  exact e
end Nb
set_option Elab.async false
set_option linter.all false
set_option maxRecDepth 100000
set_option maxHeartbeats 4000000
namespace Nb
open PySem PySem.Spec L2 Dm Nz
set_option autoImplicit false
/-! ### arrays that add up -/
def md (n : Nat) (e : Int) : Nat := (e % (n : Int)).toNat
theorem md_cast {n : Nat} (h : 2 ≤ n) (e : Int) : ((md n e : Nat) : Int) = e % (n : Int) := by
  have := Int.emod_nonneg e (show (n : Int) ≠ 0 by omega)
  unfold md
  omega
theorem md_lt {n : Nat} (h : 2 ≤ n) (e : Int) : md n e < n := by
  have := Int.emod_lt_of_pos e (show (0 : Int) < n by omega)
  have := md_cast h e
  omega
theorem fmod_md {n : Nat} (h : 2 ≤ n) (e : Int) : e.fmod (n : Int) = ((md n e : Nat) : Int) := by
  rw [md_cast h, Int.fmod_eq_emod_of_nonneg e (by omega)]
theorem w_md {n : Nat} (h : 2 ≤ n) (e : Int) : w n ((md n e : Nat) : Int) = w n e := by
  refine w_congr ?_
  rw [md_cast h, Int.emod_emod_of_dvd _ (Int.dvd_refl _)]
theorem fMod_n {n : Nat} (h : 2 ≤ n) (e : Int) : fMod (.int e) (.int n) = some (.int ((md n e : Nat) : Int)) := by
  show (if (n : Int) ≠ 0 then some (D.int (e.fmod n)) else none) = _
  rw [if_pos (by omega), fmod_md h]
theorem fMulA_of {i j : Int} (h : CMulA i j) : fMulA (.int i) (.int j) = some (.int (i * j)) := by
  simp only [fMulA, onI, if_pos h]
theorem mIx_of {ma mb : ME} {s : S} {ra : R} {d : D} {xs : List D} {i : Int} {z : D} (ha : ma s = some (ra, s)) (hb : mb s = some (.val (.int i), s)) (pa : peek ra s = some d) (hd : seqD d = some xs) (h : atI xs i = some z) : mIx ma mb s = some (.val z, s) := by
  unfold mIx
  rw [ha]
  show (mb s).bind _ = _
  rw [hb]
  show (peek ra s).bind _ = _
  rw [pa]
  show (seqD d).bind _ = _
  rw [hd]
  show (atI xs i).bind _ = _
  rw [h]
  rfl
theorem sv_aug {n N p : Nat} (hp : p < N) (z : Nat → Int) (v : Int) : sv n N (fun q => if q = p then z p + v else z q) = sv n N z + (v : Z n) * w n p := by
  unfold sv
  rw [← Sm_one hp fun q => (v : Z n) * w n q, ← Sm_plus]
  refine Sm_congr fun q _ => ?_
  dsimp only
  by_cases e : q = p
  · subst e
    rw [if_pos rfl, if_pos rfl, zcast_add]
    grind
  · rw [if_neg e, if_neg e]
    grind
theorem sv_none {n : Nat} (N : Nat) : sv n N (fun _ => 0) = 0 := Sm_of_zero fun i _ => by
  refine Z.ext fun k _ => ?_
  rw [icast_f, zero_f, Int.zero_mul]
theorem mul_sum {n : Nat} (x y : Z n) : x * y = Sm (dg n) fun i => Sm (dg n) fun j => ((x.f i * y.f j : Int) : Z n) * w n ((i : Int) + j) := Z.ext fun k hk => by
  rw [mul_f _ _ hk, Sm_f]
  refine Sm_congr fun i _ => ?_
  rw [Sm_f]
  refine Sm_congr fun j _ => ?_
  rw [icast_f]
  rfl
theorem rep0 {s : S} {m : Nat} (h : m ≤ 1000) {mb : ME} (hv : mb s = some (.val (.int m), s)) : mRep (mLst (mCons (mFrz (mC (.int 0))) mNil)) mb s = some (.own (fl m fun _ => 0), s) := by
  have e : mLst (mCons (mFrz (mC (.int 0))) mNil) s = some (.own [.int 0], s) := rfl
  have e2 : (List.replicate m [D.int 0]).flatten = fl m fun _ => 0 := by
    unfold fl
    clear hv h
    induction m with
    | zero => rfl
    | succ n ih => rw [List.replicate_succ', List.flatten_append, ih, List.range_succ, List.map_append]; rfl
  unfold mRep
  rw [e]
  show (mb s).bind _ = _
  rw [hv]
  show (if [D.int 0].length * ((m : Int)).toNat ≤ 100000 ∧ small m = true then _ else _) = _
  rw [if_pos ⟨by rw [Int.toNat_natCast]; simp; omega, small_nat (by omega)⟩, Int.toNat_natCast, e2]
/-- x[i] += v -/
theorem augAdd {mo mi m : ME} {s : S} {k N p : Nat} {z : Nat → Int} {v : Int} (hp : p < N) (ho : mo s = some (.slot k, s)) (hi : mi s = some (.val (.int (p : Nat)), s)) (hs : s[k]? = some (some (.own false (fl N z)))) (hm : m s = some (.val (.int v), s)) :
    mAugS (fun i j => i + j) mo mi m s = some (.nx (s.set k (some (.own false (fl N fun q => if q = p then z p + v else z q))))) := by
  have a := augS_of (f := fun i j => i + j) (k := k) ho hi hs (atI_fl z rfl hp) hm (ixN_fl z rfl hp)
  rw [a, fl_set z _ hp]
theorem put2 {s : S} {i j : Nat} {ci cj : Option Cell} {d e : D} {s1 : S} (hi : s[i]? = some ci) (fi : Fr ci = true) (e1 : s.set i (some (.val d)) = s1) (hj : s1[j]? = some cj) (fj : Fr cj = true) : gTupD 2 (gsCons (gPut i) (gsCons (gPut j) gsNil)) (.tup [d, e]) s = some (s1.set j (some (.val e))) := by
  have p1 := put_valF (d := d) hi fi
  rw [e1] at p1
  have p2 := put_valF (d := e) hj fj
  show (if [d, e].length = 2 then (gPut i d s).bind (fun s1 => (gPut j e s1).bind fun s2 => some s2) else none) = _
  rw [if_pos (show [d, e].length = 2 from rfl)]
  show (put i (.val d) s).bind _ = _
  rw [p1]
  show (put j (.val e) s1).bind _ = _
  rw [p2]
  rfl
/-- a whole times a power -/
theorem times_root_ok {n : Nat} (h : 2 ≤ n) (h2 : n ≤ 12) {m : Nat} (hm : m ≤ 20) (x : Nat → Int) (st : Int) : fn_times_root [.int n, .tup (fl m x), .int st] = some (.val (wl (Sm m fun i => (x i : Z n) * w n ((i : Int) + st)))) := by
  have hd := dg_pos h h2
  have key : WS b_times_root (initV 6 [.int n, .tup (fl m x), .int st]) fun o => ∃ r s', o = .rt r s' ∧ r = .val (wl (Sm m fun i => (x i : Z n) * w n ((i : Int) + st))) := by
    unfold b_times_root
    refine ws_step (s1 := [some (.val (.int n)), some (.val (.tup (fl m x))), some (.val (.int st)), some (.own false (fl n fun _ => 0)), none, none]) (set_of (rep0 (m := n) (by omega) rfl) (put_ownF (c := none) rfl rfl)) ?_
    refine ws_seq (ws_for ⟨(List.range m).map fun i => D.tup [.int (i : Nat), .int (x i)], [some (.val (.int n)), some (.val (.tup (fl m x))), some (.val (.int st)), some (.own false (fl n fun _ => 0)), none, none], ?_, ws_rng (fun i s => ∃ (z : Nat → Int) (c4 c5 : Option Cell), s = [some (.val (.int n)), some (.val (.tup (fl m x))), some (.val (.int st)), some (.own false (fl n z)), c4, c5] ∧ Fr c4 = true ∧ Fr c5 = true ∧ sv n n z = Sm i fun i => (x i : Z n) * w n ((i : Int) + st)) m ⟨fun _ => 0, none, none, rfl, rfl, rfl, sv_none n⟩ ?_ ?_⟩)
    · show some (enD (fl m x), _) = _
      rw [show enD (fl m x) = _ from enD_range _]
    · rintro i s hi ⟨z, c4, c5, rfl, f4, f5, hz⟩
      refine ⟨[some (.val (.int n)), some (.val (.tup (fl m x))), some (.val (.int st)), some (.own false (fl n z)), some (.val (.int i)), some (.val (.int (x i)))], put2 (ci := c4) (cj := c5) rfl f4 rfl rfl f5, ?_⟩
      refine ⟨_, augAdd (k := 3) (p := md n ((i : Int) + st)) (v := x i) (md_lt h _) rfl ?_ rfl rfl, _, .inl rfl, _, _, _, rfl, rfl, rfl, ?_⟩
      · exact mBin_of (mBin_of rfl rfl rfl) rfl (fMod_n h _)
      · rw [sv_aug (md_lt h _), hz, Sm_succ, w_md h]
    · rintro s ⟨z, c4, c5, rfl, f4, f5, hz⟩
      refine ⟨_, rfl, ?_⟩
      have rr := rest_by_round_ok h h2 (N := n) (by omega) (by omega) z (.inl rfl)
      rw [hz] at rr
      refine ws_ret ⟨.val (wl (Sm m fun i => (x i : Z n) * w n ((i : Int) + st))), [some (.val (.int n)), some (.val (.tup (fl m x))), some (.val (.int st)), some (.val (.lst (fl n z))), c4, c5], by simp [fnV, fnW, initV, initW, mSeq, mIfS, mTest, mBin, mIx, mVar, mC, peek, peeks, seqD, asI, asB, atI, ixN, onI, mAsg, mFrz, frz, mTupNew, mCons, mNil, fDm, gTupD, gsCons, gsNil, gSubD, gPut, put, ownAt, mRet, toRet, port0, mSkip, mCS, mCL, fI1, fI2, mSet, mPar, mPar3, Dm.plain, mTup, mLst, vals, mTupOf, fTup, fLen, mIf, mIfS, mNotT, mChain, mTyIs, tyD, noFrz, mIxK, mAndT, mOrT, mAndV, mOrV, mNotV, mExpr, mCallV, mCallW, rOf, mUn, fNeg, fList, fRg1, fRg2, fRg3, mRng, mSeqI, mYes, wipeS, mRep, rr], _, rfl, _, _, rfl, rfl⟩
  obtain ⟨r, e, rfl⟩ := fnV_ws (np := 3) key
  exact e
theorem sm1 {n : Nat} (f : Nat → Z n) : Sm 1 f = f 0 := by
  rw [Sm_succ, Sm_zero]
  grind
theorem one_mul_cast {n : Nat} (x : Z n) : ((1 : Int) : Z n) * x = x := Z.ext fun k _ => by rw [icast_f, Int.one_mul]
theorem whole_root_ok {n : Nat} (h : 2 ≤ n) (h2 : n ≤ 12) (st : Int) : fn_whole_root [.int n, .int st] = some (.val (wl (w n st))) := by
  have e := times_root_ok h h2 (m := 1) (by omega) (fun _ => 1) st
  rw [sm1, one_mul_cast, show ((0 : Nat) : Int) + st = st by omega] at e
  have e2 : fl 1 (fun _ => 1) = [D.int 1] := rfl
  rw [e2] at e
  simp [fn_whole_root, b_whole_root, fnV, fnW, initV, initW, mSeq, mIfS, mTest, mBin, mIx, mVar, mC, peek, peeks, seqD, asI, asB, atI, ixN, onI, mAsg, mFrz, frz, mTupNew, mCons, mNil, fDm, gTupD, gsCons, gsNil, gSubD, gPut, put, ownAt, mRet, toRet, port0, mSkip, mCS, mCL, fI1, fI2, mSet, mPar, mPar3, Dm.plain, mTup, mLst, vals, mTupOf, fTup, fLen, mIf, mIfS, mNotT, mChain, mTyIs, tyD, noFrz, mIxK, mAndT, mOrT, mAndV, mOrV, mNotV, mExpr, mCallV, mCallW, rOf, mUn, fNeg, fList, fRg1, fRg2, fRg3, mRng, mSeqI, mYes, wipeS, mRep, e]
theorem root_ok {n : Nat} (h : 2 ≤ n) (h2 : n ≤ 12) {st : Int} (h0 : 0 ≤ st) (h1 : st < n) : fn_root [.int n, .int st] = some (.val (nm (w n st) 1)) := by
  have hd := dg_pos h h2
  have e := whole_root_ok h h2 st
  have e2 := number_of_ok (m := dg n) (by omega) (w n st).f (b := 1) (by decide) (okM_of (by decide))
  simp [fn_root, b_root, fnV, fnW, initV, initW, mSeq, mIfS, mTest, mBin, mIx, mVar, mC, peek, peeks, seqD, asI, asB, atI, ixN, onI, mAsg, mFrz, frz, mTupNew, mCons, mNil, fDm, gTupD, gsCons, gsNil, gSubD, gPut, put, ownAt, mRet, toRet, port0, mSkip, mCS, mCL, fI1, fI2, mSet, mPar, mPar3, Dm.plain, mTup, mLst, vals, mTupOf, fTup, fLen, mIf, mIfS, mNotT, mChain, mTyIs, tyD, noFrz, mIxK, mAndT, mOrT, mAndV, mOrV, mNotV, mExpr, mCallV, mCallW, rOf, mUn, fNeg, fList, fRg1, fRg2, fRg3, mRng, mSeqI, mYes, wipeS, mRep, mExpr, check_size_ok h h2, check_index_ok h0 h1, e, wl, e2, nm]
end Nb
set_option Elab.async false
set_option linter.all false
set_option maxRecDepth 100000
set_option maxHeartbeats 4000000
namespace Nb
open PySem PySem.Spec L2 Dm Nz
set_option autoImplicit false
theorem okM_64 {i : Int} (h : i.natAbs < 2 ^ 64) : okM i = true := okM_of (Nat.lt_of_lt_of_le h (Nat.pow_le_pow_right (by decide) (by decide)))
/-- a wholes' product may be reckoned -/
def Ml {n : Nat} (x y : Z n) : Prop := ∀ i j, CMulA (x.f i) (y.f j)
theorem mulZ_cast {n : Nat} (a b : Int) (x : Z n) : ((a * b : Int) : Z n) * x = (a : Z n) * ((b : Z n) * x) := by
  rw [zcast_mul]
  grind
theorem product_of_ok {n : Nat} (h : 2 ≤ n) (h2 : n ≤ 12) (x y : Z n) (hM : Ml x y) : fn_product_of [.int n, wl x, wl y] = some (.val (wl (x * y))) := by
  have hd := dg_pos h h2
  generalize hdn : dg n = d at hd
  have two : CMulA 2 (d : Int) := CMulA.l _ (by decide) (by decide)
  have key : WS b_product_of (initV 8 [.int n, .tup (fl d x.f), .tup (fl d y.f)]) fun o => ∃ r s', o = .rt r s' ∧ r = .val (wl (x * y)) := by
    unfold b_product_of
    refine ws_step (s1 := [some (.val (.int n)), some (.val (.tup (fl d x.f))), some (.val (.tup (fl d y.f))), some (.own false (fl (2 * d - 1) fun _ => 0)), none, none, none, none]) (set_of (rep0 (m := 2 * d - 1) (by omega) ?_) (put_ownF (c := none) rfl rfl)) ?_
    · have : (2 : Int) * d - 1 = ((2 * d - 1 : Nat) : Int) := by omega
      simp [fnV, fnW, initV, initW, mSeq, mIfS, mTest, mBin, mIx, mVar, mC, peek, peeks, seqD, asI, asB, atI, ixN, onI, mAsg, mFrz, frz, mTupNew, mCons, mNil, fDm, gTupD, gsCons, gsNil, gSubD, gPut, put, ownAt, mRet, toRet, port0, mSkip, mCS, mCL, fI1, fI2, mSet, mPar, mPar3, Dm.plain, mTup, mLst, vals, mTupOf, fTup, fLen, mIf, mIfS, mNotT, mChain, mTyIs, tyD, noFrz, mIxK, mAndT, mOrT, mAndV, mOrV, mNotV, mExpr, mCallV, mCallW, rOf, mUn, fNeg, fList, fRg1, fRg2, fRg3, mRng, mSeqI, mYes, wipeS, mRep, initV, fl_len, two, this]
    have inner : ∀ (i : Nat) (z : Nat → Int) (c6 c7 : Option Cell), i < d → Fr c6 = true → Fr c7 = true →
        WS (mFor (mEnA (mVar 2)) (gTupD 2 (gsCons (gPut 6) (gsCons (gPut 7) gsNil))) (mAugS (fun i j => i + j) (mVar 3) (mBin fAdd (mVar 4) (mVar 6)) (mBin fMulA (mVar 5) (mVar 7)))) [some (.val (.int n)), some (.val (.tup (fl d x.f))), some (.val (.tup (fl d y.f))), some (.own false (fl (2 * d - 1) z)), some (.val (.int i)), some (.val (.int (x.f i))), c6, c7]
        fun o => ∃ (z' : Nat → Int) (c6 c7 : Option Cell), o = .nx [some (.val (.int n)), some (.val (.tup (fl d x.f))), some (.val (.tup (fl d y.f))), some (.own false (fl (2 * d - 1) z')), some (.val (.int i)), some (.val (.int (x.f i))), c6, c7] ∧ Fr c6 = true ∧ Fr c7 = true ∧ sv n (2 * d - 1) z' = sv n (2 * d - 1) z + Sm d fun j => ((x.f i * y.f j : Int) : Z n) * w n ((i : Int) + j) := by
      intro i z c6 c7 hi f6 f7
      refine ws_for ⟨(List.range d).map fun j => D.tup [.int (j : Nat), .int (y.f j)], [some (.val (.int n)), some (.val (.tup (fl d x.f))), some (.val (.tup (fl d y.f))), some (.own false (fl (2 * d - 1) z)), some (.val (.int i)), some (.val (.int (x.f i))), c6, c7], ?_, ws_rng (fun j s => ∃ (z' : Nat → Int) (c6 c7 : Option Cell), s = [some (.val (.int n)), some (.val (.tup (fl d x.f))), some (.val (.tup (fl d y.f))), some (.own false (fl (2 * d - 1) z')), some (.val (.int i)), some (.val (.int (x.f i))), c6, c7] ∧ Fr c6 = true ∧ Fr c7 = true ∧ sv n (2 * d - 1) z' = sv n (2 * d - 1) z + Sm j fun j => ((x.f i * y.f j : Int) : Z n) * w n ((i : Int) + j)) d ⟨z, c6, c7, rfl, f6, f7, ?_⟩ ?_ ?_⟩
      · show some (enD (fl d y.f), _) = _
        rw [show enD (fl d y.f) = _ from enD_range _]
      · rw [Sm_zero]
        grind
      · rintro j s hj ⟨z', c6, c7, rfl, f6, f7, hz⟩
        have cm := hM i j
        refine ⟨[some (.val (.int n)), some (.val (.tup (fl d x.f))), some (.val (.tup (fl d y.f))), some (.own false (fl (2 * d - 1) z')), some (.val (.int i)), some (.val (.int (x.f i))), some (.val (.int j)), some (.val (.int (y.f j)))], put2 (ci := c6) (cj := c7) rfl f6 rfl rfl f7, ?_⟩
        refine ⟨_, augAdd (k := 3) (p := i + j) (v := x.f i * y.f j) (N := 2 * d - 1) (by omega) rfl ?_ rfl (by simp [fnV, fnW, initV, initW, mSeq, mIfS, mTest, mBin, mIx, mVar, mC, peek, peeks, seqD, asI, asB, atI, ixN, onI, mAsg, mFrz, frz, mTupNew, mCons, mNil, fDm, gTupD, gsCons, gsNil, gSubD, gPut, put, ownAt, mRet, toRet, port0, mSkip, mCS, mCL, fI1, fI2, mSet, mPar, mPar3, Dm.plain, mTup, mLst, vals, mTupOf, fTup, fLen, mIf, mIfS, mNotT, mChain, mTyIs, tyD, noFrz, mIxK, mAndT, mOrT, mAndV, mOrV, mNotV, mExpr, mCallV, mCallW, rOf, mUn, fNeg, fList, fRg1, fRg2, fRg3, mRng, mSeqI, mYes, wipeS, mRep, cm]), _, .inl rfl, _, _, _, rfl, rfl, rfl, ?_⟩
        · exact mBin_of rfl rfl (by simp [onI])
        · rw [sv_aug (show i + j < 2 * d - 1 by omega), hz, Sm_succ, show ((i + j : Nat) : Int) = (i : Int) + j by omega]
          grind
      · rintro s ⟨z', c6, c7, rfl, f6, f7, hz⟩
        exact ⟨z', c6, c7, rfl, f6, f7, hz⟩
    refine ws_seq (ws_for ⟨(List.range d).map fun i => D.tup [.int (i : Nat), .int (x.f i)], [some (.val (.int n)), some (.val (.tup (fl d x.f))), some (.val (.tup (fl d y.f))), some (.own false (fl (2 * d - 1) fun _ => 0)), none, none, none, none], ?_, ws_rng (fun i s => ∃ (z : Nat → Int) (c4 c5 c6 c7 : Option Cell), s = [some (.val (.int n)), some (.val (.tup (fl d x.f))), some (.val (.tup (fl d y.f))), some (.own false (fl (2 * d - 1) z)), c4, c5, c6, c7] ∧ Fr c4 = true ∧ Fr c5 = true ∧ Fr c6 = true ∧ Fr c7 = true ∧ sv n (2 * d - 1) z = Sm i fun i => Sm d fun j => ((x.f i * y.f j : Int) : Z n) * w n ((i : Int) + j)) d ⟨fun _ => 0, none, none, none, none, rfl, rfl, rfl, rfl, rfl, sv_none _⟩ ?_ ?_⟩)
    · show some (enD (fl d x.f), _) = _
      rw [show enD (fl d x.f) = _ from enD_range _]
    · rintro i s hi ⟨z, c4, c5, c6, c7, rfl, f4, f5, f6, f7, hz⟩
      refine ⟨[some (.val (.int n)), some (.val (.tup (fl d x.f))), some (.val (.tup (fl d y.f))), some (.own false (fl (2 * d - 1) z)), some (.val (.int i)), some (.val (.int (x.f i))), c6, c7], put2 (ci := c4) (cj := c5) rfl f4 rfl rfl f5, ?_⟩
      by_cases h0 : x.f i = 0
      · refine ws_ifF (s1 := [some (.val (.int n)), some (.val (.tup (fl d x.f))), some (.val (.tup (fl d y.f))), some (.own false (fl (2 * d - 1) z)), some (.val (.int i)), some (.val (.int (x.f i))), c6, c7]) (by simp [fnV, fnW, initV, initW, mSeq, mIfS, mTest, mBin, mIx, mVar, mC, peek, peeks, seqD, asI, asB, atI, ixN, onI, mAsg, mFrz, frz, mTupNew, mCons, mNil, fDm, gTupD, gsCons, gsNil, gSubD, gPut, put, ownAt, mRet, toRet, port0, mSkip, mCS, mCL, fI1, fI2, mSet, mPar, mPar3, Dm.plain, mTup, mLst, vals, mTupOf, fTup, fLen, mIf, mIfS, mNotT, mChain, mTyIs, tyD, noFrz, mIxK, mAndT, mOrT, mAndV, mOrV, mNotV, mExpr, mCallV, mCallW, rOf, mUn, fNeg, fList, fRg1, fRg2, fRg3, mRng, mSeqI, mYes, wipeS, mRep, fNe_int, h0]) ?_
        refine ws_skip ⟨_, .inl rfl, z, _, _, c6, c7, rfl, rfl, rfl, f6, f7, ?_⟩
        rw [Sm_succ, hz, Sm_of_zero (n := d) fun j _ => ?_]
        · grind
        · rw [h0, Int.zero_mul]
          refine Z.ext fun k _ => ?_
          rw [icast_f, zero_f, Int.zero_mul]
      · refine ws_ifT (s1 := [some (.val (.int n)), some (.val (.tup (fl d x.f))), some (.val (.tup (fl d y.f))), some (.own false (fl (2 * d - 1) z)), some (.val (.int i)), some (.val (.int (x.f i))), c6, c7]) (by simp [fnV, fnW, initV, initW, mSeq, mIfS, mTest, mBin, mIx, mVar, mC, peek, peeks, seqD, asI, asB, atI, ixN, onI, mAsg, mFrz, frz, mTupNew, mCons, mNil, fDm, gTupD, gsCons, gsNil, gSubD, gPut, put, ownAt, mRet, toRet, port0, mSkip, mCS, mCL, fI1, fI2, mSet, mPar, mPar3, Dm.plain, mTup, mLst, vals, mTupOf, fTup, fLen, mIf, mIfS, mNotT, mChain, mTyIs, tyD, noFrz, mIxK, mAndT, mOrT, mAndV, mOrV, mNotV, mExpr, mCallV, mCallW, rOf, mUn, fNeg, fList, fRg1, fRg2, fRg3, mRng, mSeqI, mYes, wipeS, mRep, fNe_int, h0]) ?_
        obtain ⟨o, eo, z', d6, d7, rfl, g6, g7, hz'⟩ := inner i z c6 c7 hi f6 f7
        refine ⟨_, eo, _, .inl rfl, z', _, _, d6, d7, rfl, rfl, rfl, g6, g7, ?_⟩
        rw [hz', hz, Sm_succ]
    · rintro s ⟨z, c4, c5, c6, c7, rfl, f4, f5, f6, f7, hz⟩
      refine ⟨_, rfl, ?_⟩
      have rr := rest_by_round_ok h h2 (N := 2 * d - 1) (by omega) (by omega) z (.inl rfl)
      rw [hz] at rr
      have ms := mul_sum x y
      rw [hdn] at ms
      rw [← ms] at rr
      refine ws_ret ⟨.val (wl (x * y)), [some (.val (.int n)), some (.val (.tup (fl d x.f))), some (.val (.tup (fl d y.f))), some (.val (.lst (fl (2 * d - 1) z))), c4, c5, c6, c7], by simp [fnV, fnW, initV, initW, mSeq, mIfS, mTest, mBin, mIx, mVar, mC, peek, peeks, seqD, asI, asB, atI, ixN, onI, mAsg, mFrz, frz, mTupNew, mCons, mNil, fDm, gTupD, gsCons, gsNil, gSubD, gPut, put, ownAt, mRet, toRet, port0, mSkip, mCS, mCL, fI1, fI2, mSet, mPar, mPar3, Dm.plain, mTup, mLst, vals, mTupOf, fTup, fLen, mIf, mIfS, mNotT, mChain, mTyIs, tyD, noFrz, mIxK, mAndT, mOrT, mAndV, mOrV, mNotV, mExpr, mCallV, mCallW, rOf, mUn, fNeg, fList, fRg1, fRg2, fRg3, mRng, mSeqI, mYes, wipeS, mRep, rr], _, rfl, _, _, rfl, rfl⟩
  obtain ⟨r, e, rfl⟩ := fnV_ws (np := 3) key
  unfold wl at e ⊢
  rw [hdn] at e ⊢
  exact e
/-- a whole with z^u in the place of z -/
def cj {n : Nat} (u : Int) (x : Z n) : Z n := Sm (dg n) fun i => (x.f i : Z n) * w n ((i : Int) * u)
theorem conjugated_ok {n : Nat} (h : 2 ≤ n) (h2 : n ≤ 12) (x : Z n) {u : Int} (hu : -1000 ≤ u) (hu2 : u ≤ 1000) : fn_conjugated [.int n, wl x, .int u] = some (.val (wl (cj u x))) := by
  have hd := dg_pos h h2
  have key : WS b_conjugated (initV 6 [.int n, wl x, .int u]) fun o => ∃ r s', o = .rt r s' ∧ r = .val (wl (cj u x)) := by
    unfold b_conjugated
    refine ws_step (s1 := [some (.val (.int n)), some (.val (wl x)), some (.val (.int u)), some (.own false (fl n fun _ => 0)), none, none]) (set_of (rep0 (m := n) (by omega) rfl) (put_ownF (c := none) rfl rfl)) ?_
    refine ws_seq (ws_for ⟨(List.range (dg n)).map fun i => D.tup [.int (i : Nat), .int (x.f i)], [some (.val (.int n)), some (.val (wl x)), some (.val (.int u)), some (.own false (fl n fun _ => 0)), none, none], ?_, ws_rng (fun i s => ∃ (z : Nat → Int) (c4 c5 : Option Cell), s = [some (.val (.int n)), some (.val (wl x)), some (.val (.int u)), some (.own false (fl n z)), c4, c5] ∧ Fr c4 = true ∧ Fr c5 = true ∧ sv n n z = Sm i fun i => (x.f i : Z n) * w n ((i : Int) * u)) (dg n) ⟨fun _ => 0, none, none, rfl, rfl, rfl, sv_none n⟩ ?_ ?_⟩)
    · show some (enD (fl (dg n) x.f), _) = _
      rw [show enD (fl (dg n) x.f) = _ from enD_range _]
    · rintro i s hi ⟨z, c4, c5, rfl, f4, f5, hz⟩
      refine ⟨[some (.val (.int n)), some (.val (wl x)), some (.val (.int u)), some (.own false (fl n z)), some (.val (.int i)), some (.val (.int (x.f i)))], put2 (ci := c4) (cj := c5) rfl f4 rfl rfl f5, ?_⟩
      have cm : CMulA (i : Int) u := CMulA.r _ (by omega) (by omega)
      refine ⟨_, augAdd (k := 3) (p := md n ((i : Int) * u)) (v := x.f i) (md_lt h _) rfl ?_ rfl rfl, _, .inl rfl, _, _, _, rfl, rfl, rfl, ?_⟩
      · exact mBin_of (mBin_of rfl rfl (by simp [onI, cm])) rfl (fMod_n h _)
      · rw [sv_aug (md_lt h _), hz, Sm_succ, w_md h]
    · rintro s ⟨z, c4, c5, rfl, f4, f5, hz⟩
      refine ⟨_, rfl, ?_⟩
      have rr := rest_by_round_ok h h2 (N := n) (by omega) (by omega) z (.inl rfl)
      rw [hz] at rr
      refine ws_ret ⟨.val (wl (cj u x)), [some (.val (.int n)), some (.val (wl x)), some (.val (.int u)), some (.val (.lst (fl n z))), c4, c5], by simp [fnV, fnW, initV, initW, mSeq, mIfS, mTest, mBin, mIx, mVar, mC, peek, peeks, seqD, asI, asB, atI, ixN, onI, mAsg, mFrz, frz, mTupNew, mCons, mNil, fDm, gTupD, gsCons, gsNil, gSubD, gPut, put, ownAt, mRet, toRet, port0, mSkip, mCS, mCL, fI1, fI2, mSet, mPar, mPar3, Dm.plain, mTup, mLst, vals, mTupOf, fTup, fLen, mIf, mIfS, mNotT, mChain, mTyIs, tyD, noFrz, mIxK, mAndT, mOrT, mAndV, mOrV, mNotV, mExpr, mCallV, mCallW, rOf, mUn, fNeg, fList, fRg1, fRg2, fRg3, mRng, mSeqI, mYes, wipeS, mRep, rr, cj], _, rfl, _, _, rfl, rfl⟩
  obtain ⟨r, e, rfl⟩ := fnV_ws (np := 3) key
  exact e
theorem scaled_ok {n : Nat} (h : 2 ≤ n) (h2 : n ≤ 12) (x : Z n) (c : Int) (hM : ∀ i, CMulA c (x.f i)) : fn_scaled [wl x, .int c] = some (.val (wl ((c : Z n) * x))) := by
  have hd := dg_pos h h2
  have key := mlc_all (vs := [2]) (mi := mSeqI (mVar 0)) (g := gPut 2) (m := mBin fMulA (mVar 1) (mVar 2))
    (fun k : Nat => D.int (x.f k)) (fun k => D.int (c * x.f k)) (List.range (dg n)) (s := initV 3 [wl x, .int c]) (s1 := initV 3 [wl x, .int c]) (s2 := initV 3 [wl x, .int c]) rfl (by simp; omega) (fun k _ => by
      have := hM k
      exact ⟨[some (.val (wl x)), some (.val (.int c)), some (.val (.int (x.f k)))], .val (.int (c * x.f k)), by simp [fnV, fnW, initV, initW, mSeq, mIfS, mTest, mBin, mIx, mVar, mC, peek, peeks, seqD, asI, asB, atI, ixN, onI, mAsg, mFrz, frz, mTupNew, mCons, mNil, fDm, gTupD, gsCons, gsNil, gSubD, gPut, put, ownAt, mRet, toRet, port0, mSkip, mCS, mCL, fI1, fI2, mSet, mPar, mPar3, Dm.plain, mTup, mLst, vals, mTupOf, fTup, fLen, mIf, mIfS, mNotT, mChain, mTyIs, tyD, noFrz, mIxK, mAndT, mOrT, mAndV, mOrV, mNotV, mExpr, mCallV, mCallW, rOf, mUn, fNeg, fList, fRg1, fRg2, fRg3, mRng, mSeqI, mYes, wipeS, mRep], by simp [fnV, fnW, initV, initW, mSeq, mIfS, mTest, mBin, mIx, mVar, mC, peek, peeks, seqD, asI, asB, atI, ixN, onI, mAsg, mFrz, frz, mTupNew, mCons, mNil, fDm, gTupD, gsCons, gsNil, gSubD, gPut, put, ownAt, mRet, toRet, port0, mSkip, mCS, mCL, fI1, fI2, mSet, mPar, mPar3, Dm.plain, mTup, mLst, vals, mTupOf, fTup, fLen, mIf, mIfS, mNotT, mChain, mTyIs, tyD, noFrz, mIxK, mAndT, mOrT, mAndV, mOrV, mNotV, mExpr, mCallV, mCallW, rOf, mUn, fNeg, fList, fRg1, fRg2, fRg3, mRng, mSeqI, mYes, wipeS, mRep, this], rfl, rfl⟩) rfl
  simp only [fn_scaled, b_scaled, fnV, List.length_cons, List.length_nil, if_pos, mRet]
  rw [tupOf_of key]
  show some (Ret.val (.tup ((List.range (dg n)).map fun k => D.int (c * x.f k)))) = _
  unfold wl
  rw [show (List.range (dg n)).map (fun k => D.int (c * x.f k)) = fl (dg n) ((c : Z n) * x).f from fl_congr (x := fun k => c * x.f k) fun k _ => (icast_f c x k).symm]
theorem zp_fl (m : Nat) (x y : Nat → Int) : zpD (fl m x) (fl m y) = (List.range m).map fun k => D.tup [.int (x k), .int (y k)] := by
  refine List.ext_getElem? fun i => ?_
  by_cases hi : i < m
  · rw [zpD_get (fl_get x hi) (fl_get y hi), List.getElem?_map, List.getElem?_range hi]
    rfl
  · rw [List.getElem?_eq_none (by rw [zpD_length, fl_len, fl_len]; omega), List.getElem?_eq_none (by simp; omega)]
theorem sum_of_ok {n : Nat} (h : 2 ≤ n) (h2 : n ≤ 12) (x y : Z n) : fn_sum_of [wl x, wl y] = some (.val (wl (x + y))) := by
  have hd := dg_pos h h2
  have key := mlc_all (vs := [2, 3]) (mi := mZip (mCons (mFrz (mVar 0)) (mCons (mFrz (mVar 1)) mNil))) (g := gTupD 2 (gsCons (gPut 2) (gsCons (gPut 3) gsNil))) (m := mBin fAdd (mVar 2) (mVar 3))
    (fun k : Nat => D.tup [.int (x.f k), .int (y.f k)]) (fun k => D.int (x.f k + y.f k)) (List.range (dg n)) (s := initV 4 [wl x, wl y]) (s1 := initV 4 [wl x, wl y]) (s2 := initV 4 [wl x, wl y]) (by
      show some (zpD (fl (dg n) x.f) (fl (dg n) y.f), _) = _
      rw [zp_fl]) (by simp; omega) (fun k _ => by
      exact ⟨[some (.val (wl x)), some (.val (wl y)), some (.val (.int (x.f k))), some (.val (.int (y.f k)))], .val (.int (x.f k + y.f k)), put2 (ci := none) (cj := none) rfl rfl rfl rfl rfl, by simp [fnV, fnW, initV, initW, mSeq, mIfS, mTest, mBin, mIx, mVar, mC, peek, peeks, seqD, asI, asB, atI, ixN, onI, mAsg, mFrz, frz, mTupNew, mCons, mNil, fDm, gTupD, gsCons, gsNil, gSubD, gPut, put, ownAt, mRet, toRet, port0, mSkip, mCS, mCL, fI1, fI2, mSet, mPar, mPar3, Dm.plain, mTup, mLst, vals, mTupOf, fTup, fLen, mIf, mIfS, mNotT, mChain, mTyIs, tyD, noFrz, mIxK, mAndT, mOrT, mAndV, mOrV, mNotV, mExpr, mCallV, mCallW, rOf, mUn, fNeg, fList, fRg1, fRg2, fRg3, mRng, mSeqI, mYes, wipeS, mRep], rfl, rfl⟩) rfl
  simp only [fn_sum_of, b_sum_of, fnV, List.length_cons, List.length_nil, if_pos, mRet]
  rw [tupOf_of key]
  show some (Ret.val (.tup ((List.range (dg n)).map fun k => D.int (x.f k + y.f k)))) = _
  unfold wl
  rw [show (List.range (dg n)).map (fun k => D.int (x.f k + y.f k)) = fl (dg n) (x + y).f from fl_congr (x := fun k => x.f k + y.f k) fun k _ => (add_f x y k).symm]
end Nb
set_option Elab.async false
set_option linter.all false
set_option maxRecDepth 100000
set_option maxHeartbeats 4000000
namespace Nb
open PySem PySem.Spec L2 Dm Nz
set_option autoImplicit false
/-! ### wholes of numbers -/
theorem wl_mk0 {n : Nat} (x : Nat → Int) : D.tup (fl (dg n) x) = wl (Z.mk0 n x) := by
  unfold wl
  rw [fl_congr (y := (Z.mk0 n x).f) fun k hk => (Z.mk0_f hk).symm]
theorem rows_ok {n : Nat} (h : 2 ≤ n) (h2 : n ≤ 12) {N : Nat} (hN : N ≤ 1000) (x : Nat → Z n) {b : Nat → Int} {B : Int} (hB : 0 < B) (hB2 : B < 2 ^ 64) (hb : ∀ j, j < N → 0 < b j ∧ b j ∣ B) :
    ∃ (X : Nat → Z n) (c : Int), fn_whole_row [.tup (rw n N x b)] = some (.val (.tup [.lst ((List.range N).map fun j => wl (X j)), .int c])) ∧ 0 < c ∧ c ∣ B ∧ ∀ j, j < N → (b j : Z n) * X j = (c : Z n) * x j := by
  have hd := dg_pos h h2
  obtain ⟨X, c, e, h1, h3, h4⟩ := whole_row_ok hN (M := dg n) (by omega) (fun j => (x j).f) hB hB2 hb
  refine ⟨fun j => Z.mk0 n (X j), c, ?_, h1, h3, fun j hj => Z.ext fun k hk => ?_⟩
  · rw [rw_rf, e]
    simp only [wl_mk0]
  · rw [icast_f, icast_f, Z.mk0_f hk, Int.mul_comm, h4 j hj k hk, Int.mul_comm]
theorem whole_over_fs {m : Nat} (hm : m ≤ 1000) (x : Nat → Int) {b : Int} (hb : 0 < b) (hb2 : b < 2 ^ 64) :
    ∃ (X : Nat → Int) (c : Int), fn_whole_over [.tup (fs m x b)] = some (.val (.tup [.tup (fl m X), .int c])) ∧ 0 < c ∧ c ∣ b ∧ ∀ k, k < m → X k * b = x k * c := by
  obtain ⟨X, c, e, h1, h3, h4⟩ := whole_row_ok (N := 1) (by omega) hm (fun _ => x) (b := fun _ => b) hb hb2 (fun _ _ => ⟨hb, Int.dvd_refl _⟩)
  have e2 : rf 1 m (fun _ => x) (fun _ => b) = [D.tup (fs m x b)] := rfl
  have e3 : (List.range 1).map (fun j => D.tup (fl m (X j))) = [D.tup (fl m (X 0))] := rfl
  rw [e2, e3] at e
  refine ⟨X 0, c, ?_, h1, h3, fun k hk => h4 0 (by omega) k hk⟩
  simp [fn_whole_over, b_whole_over, fnV, fnW, initV, initW, mSeq, mIfS, mTest, mBin, mIx, mVar, mC, peek, peeks, seqD, asI, asB, atI, ixN, onI, mAsg, mFrz, frz, mTupNew, mCons, mNil, fDm, gTupD, gsCons, gsNil, gSubD, gPut, put, ownAt, mRet, toRet, port0, mSkip, mCS, mCL, fI1, fI2, mSet, mPar, mPar3, Dm.plain, mTup, mLst, vals, mTupOf, fTup, fLen, mIf, mIfS, mNotT, mChain, mTyIs, tyD, noFrz, mIxK, mAndT, mOrT, mAndV, mOrV, mNotV, mExpr, mCallV, mCallW, rOf, mUn, fNeg, fList, fRg1, fRg2, fRg3, mRng, mSeqI, mYes, wipeS, mRep, e]
theorem whole_over_ok {n : Nat} (h : 2 ≤ n) (h2 : n ≤ 12) (x : Z n) {b : Int} (hb : 0 < b) (hb2 : b < 2 ^ 64) :
    ∃ (X : Z n) (c : Int), fn_whole_over [nm x b] = some (.val (.tup [wl X, .int c])) ∧ 0 < c ∧ c ∣ b ∧ (b : Z n) * X = (c : Z n) * x := by
  have hd := dg_pos h h2
  obtain ⟨X, c, e, h1, h3, h4⟩ := whole_over_fs (m := dg n) (by omega) x.f hb hb2
  refine ⟨Z.mk0 n X, c, ?_, h1, h3, Z.ext fun k hk => ?_⟩
  · rw [← wl_mk0]
    exact e
  · rw [icast_f, icast_f, Z.mk0_f hk, Int.mul_comm, h4 k hk, Int.mul_comm]
/-- for each k the sum of all X j times powers -/
theorem sums_of_turns_ok {n : Nat} (h : 2 ≤ n) (h2 : n ≤ 12) {N : Nat} (hN : N ≤ 1000) (X : Nat → Z n) {dr : Int} (h0 : -1 ≤ dr) (h1 : dr ≤ 1) :
    fn_sums_of_turns [.int n, .lst ((List.range N).map fun j => wl (X j)), .int dr] = some (.own ((List.range n).map fun (k : Nat) => wl (Sm N fun (j : Nat) => X j * w n (dr * j * k)))) := by
  have hd := dg_pos h h2
  generalize hrow : D.lst ((List.range N).map fun j => wl (X j)) = row
  have inner : ∀ (k j : Nat) (z : Nat → Int) (fd : List D) (c8 c9 : Option Cell), k < n → j < N → Fr c8 = true → Fr c9 = true →
      WS (mFor (mEnA (mVar 7)) (gTupD 2 (gsCons (gPut 8) (gsCons (gPut 9) gsNil))) (mAugS (fun i j => i + j) (mVar 5) (mBin fMod (mBin fAdd (mVar 8) (mBin fMulA (mBin fMulA (mVar 2) (mVar 6)) (mVar 4))) (mVar 0)) (mVar 9))) [some (.val (.int n)), some (.val row), some (.val (.int dr)), some (.own false fd), some (.val (.int k)), some (.own false (fl n z)), some (.val (.int j)), some (.val (wl (X j))), c8, c9]
      fun o => ∃ (z' : Nat → Int) (c8 c9 : Option Cell), o = .nx [some (.val (.int n)), some (.val row), some (.val (.int dr)), some (.own false fd), some (.val (.int k)), some (.own false (fl n z')), some (.val (.int j)), some (.val (wl (X j))), c8, c9] ∧ Fr c8 = true ∧ Fr c9 = true ∧ sv n n z' = sv n n z + X j * w n (dr * j * k) := by
    intro k j z fd c8 c9 hk hj f8 f9
    refine ws_for ⟨(List.range (dg n)).map fun i => D.tup [.int (i : Nat), .int ((X j).f i)], [some (.val (.int n)), some (.val row), some (.val (.int dr)), some (.own false fd), some (.val (.int k)), some (.own false (fl n z)), some (.val (.int j)), some (.val (wl (X j))), c8, c9], ?_, ws_rng (fun i s => ∃ (z' : Nat → Int) (c8 c9 : Option Cell), s = [some (.val (.int n)), some (.val row), some (.val (.int dr)), some (.own false fd), some (.val (.int k)), some (.own false (fl n z')), some (.val (.int j)), some (.val (wl (X j))), c8, c9] ∧ Fr c8 = true ∧ Fr c9 = true ∧ sv n n z' = sv n n z + Sm i fun i => ((X j).f i : Z n) * w n ((i : Int) + dr * j * k)) (dg n) ⟨z, c8, c9, rfl, f8, f9, by rw [Sm_zero]; grind⟩ ?_ ?_⟩
    · show some (enD (fl (dg n) (X j).f), _) = _
      rw [show enD (fl (dg n) (X j).f) = _ from enD_range _]
    · rintro i s hi ⟨z', c8, c9, rfl, f8, f9, hz⟩
      have b1 : -1000 ≤ dr * j ∧ dr * j ≤ 1000 := by
        have e : dr = -1 ∨ dr = 0 ∨ dr = 1 := by omega
        rcases e with e | e | e <;> subst e <;> omega
      have m1 : CMulA dr (j : Int) := CMulA.l _ (by omega) (by omega)
      have m2 : CMulA (dr * j) (k : Int) := CMulA.l _ (by omega) (by omega)
      refine ⟨[some (.val (.int n)), some (.val row), some (.val (.int dr)), some (.own false fd), some (.val (.int k)), some (.own false (fl n z')), some (.val (.int j)), some (.val (wl (X j))), some (.val (.int i)), some (.val (.int ((X j).f i)))], put2 (ci := c8) (cj := c9) rfl f8 rfl rfl f9, ?_⟩
      refine ⟨_, augAdd (k := 5) (p := md n ((i : Int) + dr * j * k)) (v := (X j).f i) (md_lt h _) rfl ?_ rfl rfl, _, .inl rfl, _, _, _, rfl, rfl, rfl, ?_⟩
      · exact mBin_of (mBin_of rfl (mBin_of (mBin_of rfl rfl (by simp [onI, m1]; rfl)) rfl (by simp [onI, m2]; rfl)) rfl) rfl (fMod_n h _)
      · rw [sv_aug (md_lt h _), hz, Sm_succ, w_md h]
        grind
    · rintro s ⟨z', c8, c9, rfl, f8, f9, hz⟩
      refine ⟨z', c8, c9, rfl, f8, f9, ?_⟩
      rw [hz]
      congr 1
      conv => rhs; rw [← Z.sum (X j), mul_Sm]
      refine Sm_congr fun i _ => ?_
      rw [w_add]
      grind
  have key : WS b_sums_of_turns (initV 10 [.int n, row, .int dr]) fun o => ∃ r s', o = .rt r s' ∧ r = .own ((List.range n).map fun (k : Nat) => wl (Sm N fun (j : Nat) => X j * w n (dr * j * k))) := by
    unfold b_sums_of_turns
    refine ws_step (s1 := [some (.val (.int n)), some (.val row), some (.val (.int dr)), some (.own false []), none, none, none, none, none, none]) (by simp [fnV, fnW, initV, initW, mSeq, mIfS, mTest, mBin, mIx, mVar, mC, peek, peeks, seqD, asI, asB, atI, ixN, onI, mAsg, mFrz, frz, mTupNew, mCons, mNil, fDm, gTupD, gsCons, gsNil, gSubD, gPut, put, ownAt, mRet, toRet, port0, mSkip, mCS, mCL, fI1, fI2, mSet, mPar, mPar3, Dm.plain, mTup, mLst, vals, mTupOf, fTup, fLen, mIf, mIfS, mNotT, mChain, mTyIs, tyD, noFrz, mIxK, mAndT, mOrT, mAndV, mOrV, mNotV, mExpr, mCallV, mCallW, rOf, mUn, fNeg, fList, fRg1, fRg2, fRg3, mRng, mSeqI, mYes, wipeS, mRep]) ?_
    refine ws_seq (ws_for ⟨(List.range n).map nI, _, rng1_of n rfl rfl rfl (by omega), ws_rng (fun k s => ∃ (c4 c5 c6 c7 c8 c9 : Option Cell), s = [some (.val (.int n)), some (.val row), some (.val (.int dr)), some (.own false ((List.range k).map fun (k : Nat) => wl (Sm N fun (j : Nat) => X j * w n (dr * j * k)))), c4, c5, c6, c7, c8, c9] ∧ Fr c4 = true ∧ Fr c5 = true ∧ Fr c6 = true ∧ Fr c7 = true ∧ Fr c8 = true ∧ Fr c9 = true) n ⟨none, none, none, none, none, none, rfl, rfl, rfl, rfl, rfl, rfl, rfl⟩ ?_ ?_⟩)
    · rintro k s hk ⟨c4, c5, c6, c7, c8, c9, rfl, f4, f5, f6, f7, f8, f9⟩
      generalize hfd : (List.range k).map (fun (k : Nat) => wl (Sm N fun (j : Nat) => X j * w n (dr * j * k))) = fd
      have lfd : fd.length = k := by rw [← hfd]; simp
      refine ⟨[some (.val (.int n)), some (.val row), some (.val (.int dr)), some (.own false fd), some (.val (.int k)), c5, c6, c7, c8, c9], put_valF (c := c4) rfl f4, ?_⟩
      refine ws_step (s1 := [some (.val (.int n)), some (.val row), some (.val (.int dr)), some (.own false fd), some (.val (.int k)), some (.own false (fl n fun _ => 0)), c6, c7, c8, c9]) (set_of (rep0 (m := n) (by omega) rfl) (put_ownF (c := c5) rfl f5)) ?_
      refine ws_seq (ws_for ⟨(List.range N).map fun j => D.tup [.int (j : Nat), wl (X j)], [some (.val (.int n)), some (.val row), some (.val (.int dr)), some (.own false fd), some (.val (.int k)), some (.own false (fl n fun _ => 0)), c6, c7, c8, c9], ?_, ws_rng (fun j s => ∃ (z : Nat → Int) (c6 c7 c8 c9 : Option Cell), s = [some (.val (.int n)), some (.val row), some (.val (.int dr)), some (.own false fd), some (.val (.int k)), some (.own false (fl n z)), c6, c7, c8, c9] ∧ Fr c6 = true ∧ Fr c7 = true ∧ Fr c8 = true ∧ Fr c9 = true ∧ sv n n z = Sm j fun (j : Nat) => X j * w n (dr * j * k)) N ⟨fun _ => 0, c6, c7, c8, c9, rfl, f6, f7, f8, f9, sv_none n⟩ ?_ ?_⟩)
      · subst hrow
        show some (enD ((List.range N).map fun j => wl (X j)), _) = _
        rw [enD_range]
      · rintro j s hj ⟨z, c6, c7, c8, c9, rfl, f6, f7, f8, f9, hz⟩
        refine ⟨[some (.val (.int n)), some (.val row), some (.val (.int dr)), some (.own false fd), some (.val (.int k)), some (.own false (fl n z)), some (.val (.int j)), some (.val (wl (X j))), c8, c9], put2 (ci := c6) (cj := c7) rfl f6 rfl rfl f7, ?_⟩
        obtain ⟨o, eo, z', d8, d9, rfl, g8, g9, hz'⟩ := inner k j z fd c8 c9 hk hj f8 f9
        exact ⟨_, eo, _, .inl rfl, z', _, _, d8, d9, rfl, rfl, rfl, g8, g9, by rw [hz', hz, Sm_succ]⟩
      · rintro s ⟨z, c6, c7, c8, c9, rfl, f6, f7, f8, f9, hz⟩
        refine ⟨_, rfl, ?_⟩
        have rr := rest_by_round_ok h h2 (N := n) (by omega) (by omega) z (.inl rfl)
        rw [hz] at rr
        have lt : fd.length < 100000 := by omega
        refine ws_nx (s1 := [some (.val (.int n)), some (.val row), some (.val (.int dr)), some (.own false (fd ++ [wl (Sm N fun (j : Nat) => X j * w n (dr * j * k))])), some (.val (.int k)), some (.val (.lst (fl n z))), c6, c7, c8, c9]) (by simp [fnV, fnW, initV, initW, mSeq, mIfS, mTest, mBin, mIx, mVar, mC, peek, peeks, seqD, asI, asB, atI, ixN, onI, mAsg, mFrz, frz, mTupNew, mCons, mNil, fDm, gTupD, gsCons, gsNil, gSubD, gPut, put, ownAt, mRet, toRet, port0, mSkip, mCS, mCL, fI1, fI2, mSet, mPar, mPar3, Dm.plain, mTup, mLst, vals, mTupOf, fTup, fLen, mIf, mIfS, mNotT, mChain, mTyIs, tyD, noFrz, mIxK, mAndT, mOrT, mAndV, mOrV, mNotV, mExpr, mCallV, mCallW, rOf, mUn, fNeg, fList, fRg1, fRg2, fRg3, mRng, mSeqI, mYes, wipeS, mRep, mApp, rr, lt]) ⟨_, .inl rfl, some (.val (.int k)), some (.val (.lst (fl n z))), c6, c7, c8, c9, ?_, rfl, rfl, f6, f7, f8, f9⟩
        rw [← hfd, List.range_succ, List.map_append]
        rfl
    · rintro s ⟨c4, c5, c6, c7, c8, c9, rfl, f4, f5, f6, f7, f8, f9⟩
      refine ⟨_, rfl, ?_⟩
      exact ws_ret ⟨_, _, rfl, _, rfl, _, _, rfl, rfl⟩
  obtain ⟨r, e, rfl⟩ := fnV_ws (np := 3) key
  exact e
end Nb
set_option Elab.async false
set_option linter.all false
set_option maxRecDepth 100000
set_option maxHeartbeats 4000000
namespace Nb
open PySem PySem.Spec L2 Dm Nz
set_option autoImplicit false
/-! ### the functions on numbers -/
theorem num_ok {n : Nat} (h : 2 ≤ n) (h2 : n ≤ 12) (x : Z n) {c : Int} (hc : 0 < c) (hM : okM c = true) : fn_number_of [wl x, .int c] = some (.val (nm x c)) := number_of_ok (m := dg n) (by have := dg_pos h h2; omega) x.f hc hM
/-- entries that may be multiplied -/
def Sb {n : Nat} (x : Z n) : Prop := ∀ i, okM (x.f i) = true
theorem small_part {n : Nat} {x X : Z n} {b c : Int} (hb : 0 < b) (hc : 0 < c) (hd : c ∣ b) (e : (b : Z n) * X = (c : Z n) * x) : ∀ i, (X.f i).natAbs ≤ (x.f i).natAbs := fun i => by
  obtain ⟨t, rfl⟩ := hd
  have h1 := congrArg (fun z : Z n => z.f i) e
  simp only [icast_f] at h1
  rw [Int.mul_assoc] at h1
  have h2 := Int.eq_of_mul_eq_mul_left (show c ≠ 0 by omega) h1
  have ht : 0 < t := by
    rcases Int.lt_or_le 0 t with q | q
    · exact q
    · have := Int.mul_le_mul_of_nonneg_left q (Int.le_of_lt hc)
      omega
  rw [← h2, Int.natAbs_mul]
  exact Nat.le_mul_of_pos_left _ (by omega)
theorem okM_abs {i j : Int} (h : i.natAbs ≤ j.natAbs) (hj : okM j = true) : okM i = true := okM_of (Nat.lt_of_le_of_lt h (of_decide_eq_true hj))
theorem Sb.part {n : Nat} {x X : Z n} (hx : Sb x) {b c : Int} (hb : 0 < b) (hc : 0 < c) (hd : c ∣ b) (e : (b : Z n) * X = (c : Z n) * x) : Sb X := fun i => okM_abs (small_part hb hc hd e i) (hx i)
theorem Sb.ml {n : Nat} {x y : Z n} (hx : Sb x) (hy : Sb y) : Ml x y := fun i j => .inr ⟨hx i, hy j⟩
theorem dvd_64 {b c : Int} (hb : 0 < b) (hb2 : b < 2 ^ 64) (hd : c ∣ b) : c < 2 ^ 64 := Int.lt_of_le_of_lt (Int.le_of_dvd hb hd) hb2
theorem okM_mul {a b : Int} (ha : 0 < a) (ha2 : a < 2 ^ 64) (hb : 0 < b) (hb2 : b < 2 ^ 64) : 0 < a * b ∧ okM (a * b) = true := by
  have h1 : 0 < a * b := Int.mul_pos ha hb
  refine ⟨h1, okM_of ?_⟩
  rw [Int.natAbs_mul]
  have : a.natAbs * b.natAbs < 2 ^ 64 * 2 ^ 64 := Nat.mul_lt_mul'' (by omega) (by omega)
  exact Nat.lt_of_lt_of_le this (by decide)
theorem plus_gen {n : Nat} (h : 2 ≤ n) (h2 : n ≤ 12) (x y : Z n) {a b B : Int} (ha : 0 < a) (hb : 0 < b) (hB : 0 < B) (hB2 : B < 2 ^ 64) (da : a ∣ B) (db : b ∣ B) : fn_plus [.int n, nm x a, nm y b] = some (.val (nm ((b : Z n) * x + (a : Z n) * y) (a * b))) := by
  have p : 0 < a * b := Int.mul_pos ha hb
  obtain ⟨X, c, e, c0, cd, hX⟩ := rows_ok h h2 (N := 2) (by omega) (fun j => if j = 0 then x else y) (b := fun j => if j = 0 then a else b) hB hB2 (fun j _ => by
    split
    · exact ⟨ha, da⟩
    · exact ⟨hb, db⟩)
  have e2 : rw n 2 (fun j => if j = 0 then x else y) (fun j => if j = 0 then a else b) = [nm x a, nm y b] := rfl
  have e3 : (List.range 2).map (fun j => wl (X j)) = [wl (X 0), wl (X 1)] := rfl
  have h0 : (a : Z n) * X 0 = (c : Z n) * x := hX 0 (by omega)
  have h1 : (b : Z n) * X 1 = (c : Z n) * y := hX 1 (by omega)
  rw [e2, e3] at e
  have k1 := num_ok h h2 (X 0 + X 1) c0 (okM_64 (by have := dvd_64 hB hB2 cd; omega))
  have k2 : nm (X 0 + X 1) c = nm ((b : Z n) * x + (a : Z n) * y) (a * b) := nm_eq c0 p (by
    rw [zcast_mul]
    grind)
  simp [fn_plus, b_plus, fnV, fnW, initV, initW, mSeq, mIfS, mTest, mBin, mIx, mVar, mC, peek, peeks, seqD, asI, asB, atI, ixN, onI, mAsg, mFrz, frz, mTupNew, mCons, mNil, fDm, gTupD, gsCons, gsNil, gSubD, gPut, put, ownAt, mRet, toRet, port0, mSkip, mCS, mCL, fI1, fI2, mSet, mPar, mPar3, Dm.plain, mTup, mLst, vals, mTupOf, fTup, fLen, mIf, mIfS, mNotT, mChain, mTyIs, tyD, noFrz, mIxK, mAndT, mOrT, mAndV, mOrV, mNotV, mExpr, mCallV, mCallW, rOf, mUn, fNeg, fList, fRg1, fRg2, fRg3, mRng, mSeqI, mYes, wipeS, mRep, check_two_ok h h2 x y ha hb, e, sum_of_ok h h2, k1, k2]
theorem plus_ok {n : Nat} (h : 2 ≤ n) (h2 : n ≤ 12) (x y : Z n) {a b : Int} (ha : 0 < a) (hb : 0 < b) (hab : a * b < 2 ^ 64) : fn_plus [.int n, nm x a, nm y b] = some (.val (nm ((b : Z n) * x + (a : Z n) * y) (a * b))) :=
  plus_gen h h2 x y ha hb (Int.mul_pos ha hb) hab (Int.dvd_mul_right _ _) (Int.dvd_mul_left _ _)
theorem times_ok {n : Nat} (h : 2 ≤ n) (h2 : n ≤ 12) {x y : Z n} {a b : Int} (ha : 0 < a) (ha2 : a < 2 ^ 64) (hb : 0 < b) (hb2 : b < 2 ^ 64) (hx : Sb x) (hy : Sb y) : fn_times [.int n, nm x a, nm y b] = some (.val (nm (x * y) (a * b))) := by
  obtain ⟨X, c, e, c0, cd, hX⟩ := whole_over_ok h h2 x ha ha2
  obtain ⟨Y, d, e', d0, dd, hY⟩ := whole_over_ok h h2 y hb hb2
  have c2 := dvd_64 ha ha2 cd
  have d2 := dvd_64 hb hb2 dd
  have pr := product_of_ok h h2 X Y (Sb.ml (hx.part ha c0 cd hX) (hy.part hb d0 dd hY))
  obtain ⟨p0, pM⟩ := okM_mul c0 c2 d0 d2
  have k1 := num_ok h h2 (X * Y) p0 pM
  have cm : CMulA c d := CMulA.l _ (by omega) c2
  have k2 : nm (X * Y) (c * d) = nm (x * y) (a * b) := nm_eq p0 (Int.mul_pos ha hb) (by
    rw [zcast_mul, zcast_mul]
    grind)
  simp [fn_times, b_times, fnV, fnW, initV, initW, mSeq, mIfS, mTest, mBin, mIx, mVar, mC, peek, peeks, seqD, asI, asB, atI, ixN, onI, mAsg, mFrz, frz, mTupNew, mCons, mNil, fDm, gTupD, gsCons, gsNil, gSubD, gPut, put, ownAt, mRet, toRet, port0, mSkip, mCS, mCL, fI1, fI2, mSet, mPar, mPar3, Dm.plain, mTup, mLst, vals, mTupOf, fTup, fLen, mIf, mIfS, mNotT, mChain, mTyIs, tyD, noFrz, mIxK, mAndT, mOrT, mAndV, mOrV, mNotV, mExpr, mCallV, mCallW, rOf, mUn, fNeg, fList, fRg1, fRg2, fRg3, mRng, mSeqI, mYes, wipeS, mRep, check_two_ok h h2 x y ha hb, e, e', pr, cm, k1, k2]
theorem number_from_ok {n : Nat} (h : 2 ≤ n) (h2 : n ≤ 12) (m : Nat → Int) {b : Int} (hb : 0 < b) (hb2 : b < 2 ^ 64) : fn_number_from [.int n, .tup (fs n m b)] = some (.val (nm (sv n n m) b)) := by
  have hd := dg_pos h h2
  obtain ⟨X, c, e, c0, cd, hX⟩ := whole_over_fs (m := n) (by omega) m hb hb2
  have rr := rest_by_round_ok h h2 (N := n) (by omega) (by omega) X (.inr rfl)
  have k1 := num_ok h h2 (sv n n X) c0 (okM_64 (by have := dvd_64 hb hb2 cd; omega))
  have k2 : nm (sv n n X) c = nm (sv n n m) b := nm_eq c0 hb (by
    unfold sv
    rw [Sm_mul, Sm_mul]
    refine Sm_congr fun p hp => ?_
    have : ((X p * b : Int) : Z n) = ((m p * c : Int) : Z n) := by rw [hX p hp]
    rw [zcast_mul, zcast_mul] at this
    grind)
  have ct := check_turns_ok (n := n) (by omega) m hb
  simp [fn_number_from, b_number_from, fnV, fnW, initV, initW, mSeq, mIfS, mTest, mBin, mIx, mVar, mC, peek, peeks, seqD, asI, asB, atI, ixN, onI, mAsg, mFrz, frz, mTupNew, mCons, mNil, fDm, gTupD, gsCons, gsNil, gSubD, gPut, put, ownAt, mRet, toRet, port0, mSkip, mCS, mCL, fI1, fI2, mSet, mPar, mPar3, Dm.plain, mTup, mLst, vals, mTupOf, fTup, fLen, mIf, mIfS, mNotT, mChain, mTyIs, tyD, noFrz, mIxK, mAndT, mOrT, mAndV, mOrV, mNotV, mExpr, mCallV, mCallW, rOf, mUn, fNeg, fList, fRg1, fRg2, fRg3, mRng, mSeqI, mYes, wipeS, mRep, check_size_ok h h2, ct, e, rr, k1, k2]
/-! ### the functions on signals -/
abbrev sg1 (n : Nat) (x : Nat → Z n) (b : Int) : D := .tup (rw n n x fun _ => b)
theorem wave_ok {n : Nat} (h : 2 ≤ n) (h2 : n ≤ 12) {st : Int} (h0 : 0 ≤ st) (h1 : st < n) : fn_wave [.int n, .int st] = some (.val (sg1 n (fun j => w n (st * j)) 1)) := by
  have key := mlc_all (vs := [2]) (mi := mRng fRg1 (mCons (mVar 0) mNil)) (g := gPut 2) (m := mCallV fn_root (mCons (mFrz (mVar 0)) (mCons (mFrz (mBin fMod (mBin fMulA (mVar 1) (mVar 2)) (mVar 0))) mNil)))
    nI (fun k => nm (w n (st * k)) 1) (List.range n) (s := [some (.val (.int n)), some (.val (.int st)), none]) (s1 := [some (.val (.int n)), some (.val (.int st)), none]) (s2 := [some (.val (.int n)), some (.val (.int st)), none]) (rng1_of n rfl rfl rfl (by omega)) (by simp; omega) (fun k hk => by
      have cm : CMulA st (k : Int) := CMulA.l _ (by omega) (by omega)
      have rk := root_ok h h2 (st := ((md n (st * k) : Nat) : Int)) (by omega) (by have := md_lt h (st * k); omega)
      rw [w_md h] at rk
      have fm := fMod_n h (st * k)
      refine ⟨[some (.val (.int n)), some (.val (.int st)), some (.val (nI k))], .val (nm (w n (st * k)) 1), by simp [fnV, fnW, initV, initW, mSeq, mIfS, mTest, mBin, mIx, mVar, mC, peek, peeks, seqD, asI, asB, atI, ixN, onI, mAsg, mFrz, frz, mTupNew, mCons, mNil, fDm, gTupD, gsCons, gsNil, gSubD, gPut, put, ownAt, mRet, toRet, port0, mSkip, mCS, mCL, fI1, fI2, mSet, mPar, mPar3, Dm.plain, mTup, mLst, vals, mTupOf, fTup, fLen, mIf, mIfS, mNotT, mChain, mTyIs, tyD, noFrz, mIxK, mAndT, mOrT, mAndV, mOrV, mNotV, mExpr, mCallV, mCallW, rOf, mUn, fNeg, fList, fRg1, fRg2, fRg3, mRng, mSeqI, mYes, wipeS, mRep], ?_, rfl, rfl⟩
      refine callV_of (cons_of rfl (cons_of (frzV_of (mBin_of (mBin_of rfl rfl (fMulA_of cm)) rfl fm)) rfl)) rfl rk) rfl
  have e2 : WS b_wave (initV 3 [.int n, .int st]) fun o => ∃ r s', o = .rt r s' ∧ r = .val (sg1 n (fun j => w n (st * j)) 1) := by
    unfold b_wave
    refine ws_step (s1 := [some (.val (.int n)), some (.val (.int st)), none]) (by simp [fnV, fnW, initV, initW, mSeq, mIfS, mTest, mBin, mIx, mVar, mC, peek, peeks, seqD, asI, asB, atI, ixN, onI, mAsg, mFrz, frz, mTupNew, mCons, mNil, fDm, gTupD, gsCons, gsNil, gSubD, gPut, put, ownAt, mRet, toRet, port0, mSkip, mCS, mCL, fI1, fI2, mSet, mPar, mPar3, Dm.plain, mTup, mLst, vals, mTupOf, fTup, fLen, mIf, mIfS, mNotT, mChain, mTyIs, tyD, noFrz, mIxK, mAndT, mOrT, mAndV, mOrV, mNotV, mExpr, mCallV, mCallW, rOf, mUn, fNeg, fList, fRg1, fRg2, fRg3, mRng, mSeqI, mYes, wipeS, mRep, check_size_ok h h2]) ?_
    refine ws_step (s1 := [some (.val (.int n)), some (.val (.int st)), none]) (by simp [fnV, fnW, initV, initW, mSeq, mIfS, mTest, mBin, mIx, mVar, mC, peek, peeks, seqD, asI, asB, atI, ixN, onI, mAsg, mFrz, frz, mTupNew, mCons, mNil, fDm, gTupD, gsCons, gsNil, gSubD, gPut, put, ownAt, mRet, toRet, port0, mSkip, mCS, mCL, fI1, fI2, mSet, mPar, mPar3, Dm.plain, mTup, mLst, vals, mTupOf, fTup, fLen, mIf, mIfS, mNotT, mChain, mTyIs, tyD, noFrz, mIxK, mAndT, mOrT, mAndV, mOrV, mNotV, mExpr, mCallV, mCallW, rOf, mUn, fNeg, fList, fRg1, fRg2, fRg3, mRng, mSeqI, mYes, wipeS, mRep, check_index_ok h0 h1]) ?_
    exact ws_ret ⟨_, _, tupOf_of key, _, rfl, _, _, rfl, rfl⟩
  obtain ⟨r, e, rfl⟩ := fnV_ws (np := 2) e2
  exact e
theorem moved_ok {n : Nat} (h : 2 ≤ n) (h2 : n ≤ 12) (x : Nat → Z n) {b : Int} (hb : 0 < b) {st : Int} (h0 : 0 ≤ st) (h1 : st < n) : fn_moved [.int n, sg1 n x b, .int st] = some (.val (sg1 n (fun j => x (md n ((j : Int) - st))) b)) := by
  have key := mlc_all (vs := [3]) (mi := mRng fRg1 (mCons (mVar 0) mNil)) (g := gPut 3) (m := mIx (mVar 1) (mBin fMod (mBin fSub (mVar 3) (mVar 2)) (mVar 0)))
    nI (fun k => nm (x (md n ((k : Int) - st))) b) (List.range n) (s := [some (.val (.int n)), some (.val (sg1 n x b)), some (.val (.int st)), none]) (s1 := [some (.val (.int n)), some (.val (sg1 n x b)), some (.val (.int st)), none]) (s2 := [some (.val (.int n)), some (.val (sg1 n x b)), some (.val (.int st)), none]) (rng1_of n rfl rfl rfl (by omega)) (by simp; omega) (fun k hk => by
      have fm := fMod_n h ((k : Int) - st)
      have a := atI_of (i := ((md n ((k : Int) - st) : Nat) : Int)) rfl (rw_get x (fun _ => b) (md_lt h ((k : Int) - st)))
      have m1 := mBin_of (s := [some (.val (.int n)), some (.val (sg1 n x b)), some (.val (.int st)), some (.val (nI k))]) (ma := mBin fSub (mVar 3) (mVar 2)) (mb := mVar 0) rfl rfl fm
      refine ⟨[some (.val (.int n)), some (.val (sg1 n x b)), some (.val (.int st)), some (.val (nI k))], .val (nm (x (md n ((k : Int) - st))) b), by simp [fnV, fnW, initV, initW, mSeq, mIfS, mTest, mBin, mIx, mVar, mC, peek, peeks, seqD, asI, asB, atI, ixN, onI, mAsg, mFrz, frz, mTupNew, mCons, mNil, fDm, gTupD, gsCons, gsNil, gSubD, gPut, put, ownAt, mRet, toRet, port0, mSkip, mCS, mCL, fI1, fI2, mSet, mPar, mPar3, Dm.plain, mTup, mLst, vals, mTupOf, fTup, fLen, mIf, mIfS, mNotT, mChain, mTyIs, tyD, noFrz, mIxK, mAndT, mOrT, mAndV, mOrV, mNotV, mExpr, mCallV, mCallW, rOf, mUn, fNeg, fList, fRg1, fRg2, fRg3, mRng, mSeqI, mYes, wipeS, mRep], ?_, rfl, rfl⟩
      exact mIx_of (d := sg1 n x b) rfl m1 rfl rfl a) rfl
  have e2 : WS b_moved (initV 4 [.int n, sg1 n x b, .int st]) fun o => ∃ r s', o = .rt r s' ∧ r = .val (sg1 n (fun j => x (md n ((j : Int) - st))) b) := by
    unfold b_moved
    refine ws_step (s1 := [some (.val (.int n)), some (.val (sg1 n x b)), some (.val (.int st)), none]) (by simp [fnV, fnW, initV, initW, mSeq, mIfS, mTest, mBin, mIx, mVar, mC, peek, peeks, seqD, asI, asB, atI, ixN, onI, mAsg, mFrz, frz, mTupNew, mCons, mNil, fDm, gTupD, gsCons, gsNil, gSubD, gPut, put, ownAt, mRet, toRet, port0, mSkip, mCS, mCL, fI1, fI2, mSet, mPar, mPar3, Dm.plain, mTup, mLst, vals, mTupOf, fTup, fLen, mIf, mIfS, mNotT, mChain, mTyIs, tyD, noFrz, mIxK, mAndT, mOrT, mAndV, mOrV, mNotV, mExpr, mCallV, mCallW, rOf, mUn, fNeg, fList, fRg1, fRg2, fRg3, mRng, mSeqI, mYes, wipeS, mRep, check_size_ok h h2]) ?_
    refine ws_step (s1 := [some (.val (.int n)), some (.val (sg1 n x b)), some (.val (.int st)), none]) (by simp [fnV, fnW, initV, initW, mSeq, mIfS, mTest, mBin, mIx, mVar, mC, peek, peeks, seqD, asI, asB, atI, ixN, onI, mAsg, mFrz, frz, mTupNew, mCons, mNil, fDm, gTupD, gsCons, gsNil, gSubD, gPut, put, ownAt, mRet, toRet, port0, mSkip, mCS, mCL, fI1, fI2, mSet, mPar, mPar3, Dm.plain, mTup, mLst, vals, mTupOf, fTup, fLen, mIf, mIfS, mNotT, mChain, mTyIs, tyD, noFrz, mIxK, mAndT, mOrT, mAndV, mOrV, mNotV, mExpr, mCallV, mCallW, rOf, mUn, fNeg, fList, fRg1, fRg2, fRg3, mRng, mSeqI, mYes, wipeS, mRep, check_signal_ok h h2 x (b := fun _ => b) fun _ _ => hb]) ?_
    refine ws_step (s1 := [some (.val (.int n)), some (.val (sg1 n x b)), some (.val (.int st)), none]) (by simp [fnV, fnW, initV, initW, mSeq, mIfS, mTest, mBin, mIx, mVar, mC, peek, peeks, seqD, asI, asB, atI, ixN, onI, mAsg, mFrz, frz, mTupNew, mCons, mNil, fDm, gTupD, gsCons, gsNil, gSubD, gPut, put, ownAt, mRet, toRet, port0, mSkip, mCS, mCL, fI1, fI2, mSet, mPar, mPar3, Dm.plain, mTup, mLst, vals, mTupOf, fTup, fLen, mIf, mIfS, mNotT, mChain, mTyIs, tyD, noFrz, mIxK, mAndT, mOrT, mAndV, mOrV, mNotV, mExpr, mCallV, mCallW, rOf, mUn, fNeg, fList, fRg1, fRg2, fRg3, mRng, mSeqI, mYes, wipeS, mRep, check_index_ok h0 h1]) ?_
    exact ws_ret ⟨_, _, tupOf_of key, _, rfl, _, _, rfl, rfl⟩
  obtain ⟨r, e, rfl⟩ := fnV_ws (np := 3) e2
  exact e
theorem zp_rw {n N : Nat} (x y : Nat → Z n) (a b : Nat → Int) : zpD (rw n N x a) (rw n N y b) = (List.range N).map fun j => D.tup [nm (x j) (a j), nm (y j) (b j)] := by
  refine List.ext_getElem? fun i => ?_
  by_cases hi : i < N
  · rw [zpD_get (rw_get x a hi) (rw_get y b hi), List.getElem?_map, List.getElem?_range hi]
    rfl
  · rw [List.getElem?_eq_none (by rw [zpD_length, rw_len, rw_len]; omega), List.getElem?_eq_none (by simp; omega)]
theorem Sb_w {n : Nat} (e : Int) : Sb (w n e) := fun i => okM_64 (by have := sg_L n e i; show (sg n e i).natAbs < _; omega)
theorem turned_ok {n : Nat} (h : 2 ≤ n) (h2 : n ≤ 12) (x : Nat → Z n) {b : Int} (hb : 0 < b) (hb2 : b < 2 ^ 64) (hx : ∀ j, j < n → Sb (x j)) {st : Int} (h0 : 0 ≤ st) (h1 : st < n) : fn_turned [.int n, sg1 n x b, .int st] = some (.val (sg1 n (fun j => x j * w n (st * j)) b)) := by
  have wv := wave_ok h h2 h0 h1
  have key := mlc_all (vs := [3, 4]) (mi := mZip (mCons (mFrz (mVar 1)) (mCons (mFrz (mCallV fn_wave (mCons (mFrz (mVar 0)) (mCons (mFrz (mVar 2)) mNil)))) mNil))) (g := gTupD 2 (gsCons (gPut 3) (gsCons (gPut 4) gsNil))) (m := mCallV fn_times (mCons (mFrz (mVar 0)) (mCons (mFrz (mVar 3)) (mCons (mFrz (mVar 4)) mNil))))
    (fun j : Nat => D.tup [nm (x j) b, nm (w n (st * j)) 1]) (fun j => nm (x j * w n (st * j)) b) (List.range n) (s := [some (.val (.int n)), some (.val (sg1 n x b)), some (.val (.int st)), none, none]) (s1 := [some (.val (.int n)), some (.val (sg1 n x b)), some (.val (.int st)), none, none]) (s2 := [some (.val (.int n)), some (.val (sg1 n x b)), some (.val (.int st)), none, none]) (by
      have : mCallV fn_wave (mCons (mFrz (mVar 0)) (mCons (mFrz (mVar 2)) mNil)) [some (.val (.int n)), some (.val (sg1 n x b)), some (.val (.int st)), none, none] = some (.val (sg1 n (fun j => w n (st * j)) 1), [some (.val (.int n)), some (.val (sg1 n x b)), some (.val (.int st)), none, none]) := callV_of (ds := [.int n, .int st]) rfl rfl wv
      unfold mZip
      rw [cons_of (frzV_of (mVar_val (d := sg1 n x b) rfl)) (cons_of (frzV_of this) rfl)]
      show some (zpD (rw n n x fun _ => b) (rw n n (fun j => w n (st * j)) fun _ => 1), _) = _
      rw [zp_rw]) (by simp; omega) (fun j hj => by
      have t := times_ok h h2 hb hb2 (b := 1) (by decide) (by decide) (hx j (List.mem_range.1 hj)) (Sb_w (n := n) (st * j))
      rw [Int.mul_one] at t
      exact ⟨[some (.val (.int n)), some (.val (sg1 n x b)), some (.val (.int st)), some (.val (nm (x j) b)), some (.val (nm (w n (st * j)) 1))], .val (nm (x j * w n (st * j)) b), put2 (ci := none) (cj := none) rfl rfl rfl rfl rfl, callV_of (ds := [.int n, nm (x j) b, nm (w n (st * j)) 1]) rfl rfl t, rfl, rfl⟩) rfl
  have e2 : WS b_turned (initV 5 [.int n, sg1 n x b, .int st]) fun o => ∃ r s', o = .rt r s' ∧ r = .val (sg1 n (fun j => x j * w n (st * j)) b) := by
    unfold b_turned
    refine ws_step (s1 := [some (.val (.int n)), some (.val (sg1 n x b)), some (.val (.int st)), none, none]) (by simp [fnV, fnW, initV, initW, mSeq, mIfS, mTest, mBin, mIx, mVar, mC, peek, peeks, seqD, asI, asB, atI, ixN, onI, mAsg, mFrz, frz, mTupNew, mCons, mNil, fDm, gTupD, gsCons, gsNil, gSubD, gPut, put, ownAt, mRet, toRet, port0, mSkip, mCS, mCL, fI1, fI2, mSet, mPar, mPar3, Dm.plain, mTup, mLst, vals, mTupOf, fTup, fLen, mIf, mIfS, mNotT, mChain, mTyIs, tyD, noFrz, mIxK, mAndT, mOrT, mAndV, mOrV, mNotV, mExpr, mCallV, mCallW, rOf, mUn, fNeg, fList, fRg1, fRg2, fRg3, mRng, mSeqI, mYes, wipeS, mRep, check_size_ok h h2]) ?_
    refine ws_step (s1 := [some (.val (.int n)), some (.val (sg1 n x b)), some (.val (.int st)), none, none]) (by simp [fnV, fnW, initV, initW, mSeq, mIfS, mTest, mBin, mIx, mVar, mC, peek, peeks, seqD, asI, asB, atI, ixN, onI, mAsg, mFrz, frz, mTupNew, mCons, mNil, fDm, gTupD, gsCons, gsNil, gSubD, gPut, put, ownAt, mRet, toRet, port0, mSkip, mCS, mCL, fI1, fI2, mSet, mPar, mPar3, Dm.plain, mTup, mLst, vals, mTupOf, fTup, fLen, mIf, mIfS, mNotT, mChain, mTyIs, tyD, noFrz, mIxK, mAndT, mOrT, mAndV, mOrV, mNotV, mExpr, mCallV, mCallW, rOf, mUn, fNeg, fList, fRg1, fRg2, fRg3, mRng, mSeqI, mYes, wipeS, mRep, check_signal_ok h h2 x (b := fun _ => b) fun _ _ => hb]) ?_
    refine ws_step (s1 := [some (.val (.int n)), some (.val (sg1 n x b)), some (.val (.int st)), none, none]) (by simp [fnV, fnW, initV, initW, mSeq, mIfS, mTest, mBin, mIx, mVar, mC, peek, peeks, seqD, asI, asB, atI, ixN, onI, mAsg, mFrz, frz, mTupNew, mCons, mNil, fDm, gTupD, gsCons, gsNil, gSubD, gPut, put, ownAt, mRet, toRet, port0, mSkip, mCS, mCL, fI1, fI2, mSet, mPar, mPar3, Dm.plain, mTup, mLst, vals, mTupOf, fTup, fLen, mIf, mIfS, mNotT, mChain, mTyIs, tyD, noFrz, mIxK, mAndT, mOrT, mAndV, mOrV, mNotV, mExpr, mCallV, mCallW, rOf, mUn, fNeg, fList, fRg1, fRg2, fRg3, mRng, mSeqI, mYes, wipeS, mRep, check_index_ok h0 h1]) ?_
    exact ws_ret ⟨_, _, tupOf_of key, _, rfl, _, _, rfl, rfl⟩
  obtain ⟨r, e, rfl⟩ := fnV_ws (np := 3) e2
  exact e
/-- the sums of values times powers, over the size, and the way there -/
def ft {n : Nat} (x : Nat → Z n) (dr : Int) : Nat → Z n := fun k => Sm n fun j => x j * w n (dr * j * k)
theorem parts_of_ok {n : Nat} (h : 2 ≤ n) (h2 : n ≤ 12) (x : Nat → Z n) {b : Int} (hb : 0 < b) (hb2 : b < 2 ^ 60) : fn_parts_of [.int n, sg1 n x b] = some (.val (sg1 n (ft x (-1)) (b * n))) := by
  obtain ⟨X, c, e, c0, cd, hX⟩ := rows_ok h h2 (N := n) (by omega) x (b := fun _ => b) hb (by omega) (fun j _ => ⟨hb, Int.dvd_refl _⟩)
  have c2 := Int.lt_of_le_of_lt (Int.le_of_dvd hb cd) hb2
  have st : fn_sums_of_turns [.int n, .lst ((List.range n).map fun j => wl (X j)), .int (-1)] = some (.own ((List.range n).map fun k => wl (ft X (-1) k))) := sums_of_turns_ok h h2 (N := n) (by omega) X (dr := (-1)) (by omega) (by omega)
  have cn : 0 < c * (n : Int) := Int.mul_pos c0 (by omega)
  have bn : 0 < b * (n : Int) := Int.mul_pos hb (by omega)
  have oM : okM (c * (n : Int)) = true := (okM_mul c0 (by omega) (b := (n : Int)) (by omega) (by omega)).2
  have cm : CMulA c (n : Int) := CMulA.r _ (by omega) (by omega)
  have key := mlc_all (vs := [4]) (mi := mSeqI (mCallV fn_sums_of_turns (mCons (mFrz (mVar 0)) (mCons (mFrz (mVar 2)) (mCons (mFrz (mUn fNeg (mC (.int 1)))) mNil))))) (g := gPut 4) (m := mCallV fn_number_of (mCons (mFrz (mVar 4)) (mCons (mFrz (mBin fMulA (mVar 3) (mVar 0))) mNil)))
    (fun k : Nat => wl (ft X (-1) k)) (fun k => nm (ft x (-1) k) (b * n)) (List.range n) (s := [some (.val (.int n)), some (.val (sg1 n x b)), some (.val (.lst ((List.range n).map fun j => wl (X j)))), some (.val (.int c)), none]) (s1 := [some (.val (.int n)), some (.val (sg1 n x b)), some (.val (.lst ((List.range n).map fun j => wl (X j)))), some (.val (.int c)), none]) (s2 := [some (.val (.int n)), some (.val (sg1 n x b)), some (.val (.lst ((List.range n).map fun j => wl (X j)))), some (.val (.int c)), none]) (by
      simp [fnV, fnW, initV, initW, mSeq, mIfS, mTest, mBin, mIx, mVar, mC, peek, peeks, seqD, asI, asB, atI, ixN, onI, mAsg, mFrz, frz, mTupNew, mCons, mNil, fDm, gTupD, gsCons, gsNil, gSubD, gPut, put, ownAt, mRet, toRet, port0, mSkip, mCS, mCL, fI1, fI2, mSet, mPar, mPar3, Dm.plain, mTup, mLst, vals, mTupOf, fTup, fLen, mIf, mIfS, mNotT, mChain, mTyIs, tyD, noFrz, mIxK, mAndT, mOrT, mAndV, mOrV, mNotV, mExpr, mCallV, mCallW, rOf, mUn, fNeg, fList, fRg1, fRg2, fRg3, mRng, mSeqI, mYes, wipeS, mRep, st]) (by simp; omega) (fun k hk => by
      have k1 := num_ok h h2 (ft X (-1) k) cn oM
      have k2 : nm (ft X (-1) k) (c * n) = nm (ft x (-1) k) (b * n) := nm_eq cn bn (by
        unfold ft
        rw [Sm_mul, Sm_mul, zcast_mul, zcast_mul]
        refine Sm_congr fun j hj => ?_
        have := hX j hj
        grind)
      rw [k2] at k1
      refine ⟨[some (.val (.int n)), some (.val (sg1 n x b)), some (.val (.lst ((List.range n).map fun j => wl (X j)))), some (.val (.int c)), some (.val (wl (ft X (-1) k)))], .val (nm (ft x (-1) k) (b * n)), by simp [fnV, fnW, initV, initW, mSeq, mIfS, mTest, mBin, mIx, mVar, mC, peek, peeks, seqD, asI, asB, atI, ixN, onI, mAsg, mFrz, frz, mTupNew, mCons, mNil, fDm, gTupD, gsCons, gsNil, gSubD, gPut, put, ownAt, mRet, toRet, port0, mSkip, mCS, mCL, fI1, fI2, mSet, mPar, mPar3, Dm.plain, mTup, mLst, vals, mTupOf, fTup, fLen, mIf, mIfS, mNotT, mChain, mTyIs, tyD, noFrz, mIxK, mAndT, mOrT, mAndV, mOrV, mNotV, mExpr, mCallV, mCallW, rOf, mUn, fNeg, fList, fRg1, fRg2, fRg3, mRng, mSeqI, mYes, wipeS, mRep], ?_, rfl, rfl⟩
      exact callV_of (cons_of rfl (cons_of (frzV_of (mBin_of rfl rfl (fMulA_of cm))) rfl)) rfl k1) rfl
  have e2 : WS b_parts_of (initV 5 [.int n, sg1 n x b]) fun o => ∃ r s', o = .rt r s' ∧ r = .val (sg1 n (ft x (-1)) (b * n)) := by
    unfold b_parts_of
    refine ws_step (s1 := [some (.val (.int n)), some (.val (sg1 n x b)), none, none, none]) (by simp [fnV, fnW, initV, initW, mSeq, mIfS, mTest, mBin, mIx, mVar, mC, peek, peeks, seqD, asI, asB, atI, ixN, onI, mAsg, mFrz, frz, mTupNew, mCons, mNil, fDm, gTupD, gsCons, gsNil, gSubD, gPut, put, ownAt, mRet, toRet, port0, mSkip, mCS, mCL, fI1, fI2, mSet, mPar, mPar3, Dm.plain, mTup, mLst, vals, mTupOf, fTup, fLen, mIf, mIfS, mNotT, mChain, mTyIs, tyD, noFrz, mIxK, mAndT, mOrT, mAndV, mOrV, mNotV, mExpr, mCallV, mCallW, rOf, mUn, fNeg, fList, fRg1, fRg2, fRg3, mRng, mSeqI, mYes, wipeS, mRep, check_size_ok h h2]) ?_
    refine ws_step (s1 := [some (.val (.int n)), some (.val (sg1 n x b)), none, none, none]) (by simp [fnV, fnW, initV, initW, mSeq, mIfS, mTest, mBin, mIx, mVar, mC, peek, peeks, seqD, asI, asB, atI, ixN, onI, mAsg, mFrz, frz, mTupNew, mCons, mNil, fDm, gTupD, gsCons, gsNil, gSubD, gPut, put, ownAt, mRet, toRet, port0, mSkip, mCS, mCL, fI1, fI2, mSet, mPar, mPar3, Dm.plain, mTup, mLst, vals, mTupOf, fTup, fLen, mIf, mIfS, mNotT, mChain, mTyIs, tyD, noFrz, mIxK, mAndT, mOrT, mAndV, mOrV, mNotV, mExpr, mCallV, mCallW, rOf, mUn, fNeg, fList, fRg1, fRg2, fRg3, mRng, mSeqI, mYes, wipeS, mRep, check_signal_ok h h2 x (b := fun _ => b) fun _ _ => hb]) ?_
    refine ws_step (s1 := [some (.val (.int n)), some (.val (sg1 n x b)), some (.val (.lst ((List.range n).map fun j => wl (X j)))), some (.val (.int c)), none]) (by simp [fnV, fnW, initV, initW, mSeq, mIfS, mTest, mBin, mIx, mVar, mC, peek, peeks, seqD, asI, asB, atI, ixN, onI, mAsg, mFrz, frz, mTupNew, mCons, mNil, fDm, gTupD, gsCons, gsNil, gSubD, gPut, put, ownAt, mRet, toRet, port0, mSkip, mCS, mCL, fI1, fI2, mSet, mPar, mPar3, Dm.plain, mTup, mLst, vals, mTupOf, fTup, fLen, mIf, mIfS, mNotT, mChain, mTyIs, tyD, noFrz, mIxK, mAndT, mOrT, mAndV, mOrV, mNotV, mExpr, mCallV, mCallW, rOf, mUn, fNeg, fList, fRg1, fRg2, fRg3, mRng, mSeqI, mYes, wipeS, mRep, e]) ?_
    exact ws_ret ⟨_, _, tupOf_of key, _, rfl, _, _, rfl, rfl⟩
  obtain ⟨r, e, rfl⟩ := fnV_ws (np := 2) e2
  exact e
theorem signal_from_ok {n : Nat} (h : 2 ≤ n) (h2 : n ≤ 12) (x : Nat → Z n) {b : Int} (hb : 0 < b) (hb2 : b < 2 ^ 60) : fn_signal_from [.int n, sg1 n x b] = some (.val (sg1 n (ft x 1) b)) := by
  obtain ⟨X, c, e, c0, cd, hX⟩ := rows_ok h h2 (N := n) (by omega) x (b := fun _ => b) hb (by omega) (fun j _ => ⟨hb, Int.dvd_refl _⟩)
  have c2 := Int.lt_of_le_of_lt (Int.le_of_dvd hb cd) hb2
  have st : fn_sums_of_turns [.int n, .lst ((List.range n).map fun j => wl (X j)), .int 1] = some (.own ((List.range n).map fun k => wl (ft X 1 k))) := sums_of_turns_ok h h2 (N := n) (by omega) X (dr := 1) (by omega) (by omega)
  have oM : okM c = true := okM_64 (by omega)
  have key := mlc_all (vs := [4]) (mi := mSeqI (mCallV fn_sums_of_turns (mCons (mFrz (mVar 0)) (mCons (mFrz (mVar 2)) (mCons (mFrz (mC (.int 1))) mNil))))) (g := gPut 4) (m := mCallV fn_number_of (mCons (mFrz (mVar 4)) (mCons (mFrz (mVar 3)) mNil)))
    (fun k : Nat => wl (ft X 1 k)) (fun k => nm (ft x 1 k) b) (List.range n) (s := [some (.val (.int n)), some (.val (sg1 n x b)), some (.val (.lst ((List.range n).map fun j => wl (X j)))), some (.val (.int c)), none]) (s1 := [some (.val (.int n)), some (.val (sg1 n x b)), some (.val (.lst ((List.range n).map fun j => wl (X j)))), some (.val (.int c)), none]) (s2 := [some (.val (.int n)), some (.val (sg1 n x b)), some (.val (.lst ((List.range n).map fun j => wl (X j)))), some (.val (.int c)), none]) (by
      simp [fnV, fnW, initV, initW, mSeq, mIfS, mTest, mBin, mIx, mVar, mC, peek, peeks, seqD, asI, asB, atI, ixN, onI, mAsg, mFrz, frz, mTupNew, mCons, mNil, fDm, gTupD, gsCons, gsNil, gSubD, gPut, put, ownAt, mRet, toRet, port0, mSkip, mCS, mCL, fI1, fI2, mSet, mPar, mPar3, Dm.plain, mTup, mLst, vals, mTupOf, fTup, fLen, mIf, mIfS, mNotT, mChain, mTyIs, tyD, noFrz, mIxK, mAndT, mOrT, mAndV, mOrV, mNotV, mExpr, mCallV, mCallW, rOf, mUn, fNeg, fList, fRg1, fRg2, fRg3, mRng, mSeqI, mYes, wipeS, mRep, st]) (by simp; omega) (fun k hk => by
      have k1 := num_ok h h2 (ft X 1 k) c0 oM
      have k2 : nm (ft X 1 k) c = nm (ft x 1 k) b := nm_eq c0 hb (by
        unfold ft
        rw [Sm_mul, Sm_mul]
        refine Sm_congr fun j hj => ?_
        have := hX j hj
        grind)
      rw [k2] at k1
      refine ⟨[some (.val (.int n)), some (.val (sg1 n x b)), some (.val (.lst ((List.range n).map fun j => wl (X j)))), some (.val (.int c)), some (.val (wl (ft X 1 k)))], .val (nm (ft x 1 k) b), by simp [fnV, fnW, initV, initW, mSeq, mIfS, mTest, mBin, mIx, mVar, mC, peek, peeks, seqD, asI, asB, atI, ixN, onI, mAsg, mFrz, frz, mTupNew, mCons, mNil, fDm, gTupD, gsCons, gsNil, gSubD, gPut, put, ownAt, mRet, toRet, port0, mSkip, mCS, mCL, fI1, fI2, mSet, mPar, mPar3, Dm.plain, mTup, mLst, vals, mTupOf, fTup, fLen, mIf, mIfS, mNotT, mChain, mTyIs, tyD, noFrz, mIxK, mAndT, mOrT, mAndV, mOrV, mNotV, mExpr, mCallV, mCallW, rOf, mUn, fNeg, fList, fRg1, fRg2, fRg3, mRng, mSeqI, mYes, wipeS, mRep], ?_, rfl, rfl⟩
      exact callV_of (ds := [wl (ft X 1 k), .int c]) rfl rfl k1) rfl
  have e2 : WS b_signal_from (initV 5 [.int n, sg1 n x b]) fun o => ∃ r s', o = .rt r s' ∧ r = .val (sg1 n (ft x 1) b) := by
    unfold b_signal_from
    refine ws_step (s1 := [some (.val (.int n)), some (.val (sg1 n x b)), none, none, none]) (by simp [fnV, fnW, initV, initW, mSeq, mIfS, mTest, mBin, mIx, mVar, mC, peek, peeks, seqD, asI, asB, atI, ixN, onI, mAsg, mFrz, frz, mTupNew, mCons, mNil, fDm, gTupD, gsCons, gsNil, gSubD, gPut, put, ownAt, mRet, toRet, port0, mSkip, mCS, mCL, fI1, fI2, mSet, mPar, mPar3, Dm.plain, mTup, mLst, vals, mTupOf, fTup, fLen, mIf, mIfS, mNotT, mChain, mTyIs, tyD, noFrz, mIxK, mAndT, mOrT, mAndV, mOrV, mNotV, mExpr, mCallV, mCallW, rOf, mUn, fNeg, fList, fRg1, fRg2, fRg3, mRng, mSeqI, mYes, wipeS, mRep, check_size_ok h h2]) ?_
    refine ws_step (s1 := [some (.val (.int n)), some (.val (sg1 n x b)), none, none, none]) (by simp [fnV, fnW, initV, initW, mSeq, mIfS, mTest, mBin, mIx, mVar, mC, peek, peeks, seqD, asI, asB, atI, ixN, onI, mAsg, mFrz, frz, mTupNew, mCons, mNil, fDm, gTupD, gsCons, gsNil, gSubD, gPut, put, ownAt, mRet, toRet, port0, mSkip, mCS, mCL, fI1, fI2, mSet, mPar, mPar3, Dm.plain, mTup, mLst, vals, mTupOf, fTup, fLen, mIf, mIfS, mNotT, mChain, mTyIs, tyD, noFrz, mIxK, mAndT, mOrT, mAndV, mOrV, mNotV, mExpr, mCallV, mCallW, rOf, mUn, fNeg, fList, fRg1, fRg2, fRg3, mRng, mSeqI, mYes, wipeS, mRep, check_signal_ok h h2 x (b := fun _ => b) fun _ _ => hb]) ?_
    refine ws_step (s1 := [some (.val (.int n)), some (.val (sg1 n x b)), some (.val (.lst ((List.range n).map fun j => wl (X j)))), some (.val (.int c)), none]) (by simp [fnV, fnW, initV, initW, mSeq, mIfS, mTest, mBin, mIx, mVar, mC, peek, peeks, seqD, asI, asB, atI, ixN, onI, mAsg, mFrz, frz, mTupNew, mCons, mNil, fDm, gTupD, gsCons, gsNil, gSubD, gPut, put, ownAt, mRet, toRet, port0, mSkip, mCS, mCL, fI1, fI2, mSet, mPar, mPar3, Dm.plain, mTup, mLst, vals, mTupOf, fTup, fLen, mIf, mIfS, mNotT, mChain, mTyIs, tyD, noFrz, mIxK, mAndT, mOrT, mAndV, mOrV, mNotV, mExpr, mCallV, mCallW, rOf, mUn, fNeg, fList, fRg1, fRg2, fRg3, mRng, mSeqI, mYes, wipeS, mRep, e]) ?_
    exact ws_ret ⟨_, _, tupOf_of key, _, rfl, _, _, rfl, rfl⟩
  obtain ⟨r, e, rfl⟩ := fnV_ws (np := 2) e2
  exact e
end Nb
set_option Elab.async false
set_option linter.all false
set_option maxRecDepth 100000
set_option maxHeartbeats 4000000
namespace Nb
open PySem PySem.Spec L2 Dm Nz
set_option autoImplicit false
/-! ### the law's own fractions -/
theorem law_gcd_ok (a b : Nat) : fn__law_gcd [.int a, .int b] = some (.val (.int (Nat.gcd a b : Nat))) := by
  have key : WS b__law_gcd (initV 2 [.int a, .int b]) fun o => ∃ r s', o = .rt r s' ∧ r = .val (.int (Nat.gcd a b : Nat)) := by
    unfold b__law_gcd
    refine ws_seq ?_
    have W := whil_meas (t := mTest (mBin fGt (mVar 1) (mC (.int 0)))) (b := mPar 0 1 (mCons (mFrz (mVar 1)) (mCons (mFrz (mBin fMod (mCS (fI1 fun i => i) (mCons (mVar 0) mNil)) (mVar 1))) mNil)))
      (fun k s => ∃ x y : Nat, s = [some (.val (.int x)), some (.val (.int y))] ∧ k = y ∧ Nat.gcd x y = Nat.gcd a b) (fun s => s = [some (.val (.int (Nat.gcd a b : Nat))), some (.val (.int 0))]) (b + 1) b [some (.val (.int a)), some (.val (.int b))] (by omega) ⟨a, b, rfl, rfl, rfl⟩ (by
        rintro k s ⟨x, y, rfl, hk, hg⟩
        subst k
        cases y with
        | zero => exact ⟨false, [some (.val (.int x)), some (.val (.int (0 : Nat)))], by simp [fnV, fnW, initV, initW, mSeq, mIfS, mTest, mBin, mIx, mVar, mC, peek, peeks, seqD, asI, asB, atI, ixN, onI, mAsg, mFrz, frz, mTupNew, mCons, mNil, fDm, gTupD, gsCons, gsNil, gSubD, gPut, put, ownAt, mRet, toRet, port0, mSkip, mCS, mCL, fI1, fI2, mSet, mPar, mPar3, Dm.plain, mTup, mLst, vals, mTupOf, fTup, fLen, mIf, mIfS, mNotT, mChain, mTyIs, tyD, noFrz, mIxK, mAndT, mOrT, mAndV, mOrV, mNotV, mExpr, mCallV, mCallW, rOf, mUn, fNeg, fList, fRg1, fRg2, fRg3, mRng, mSeqI, mYes, wipeS, mRep], .inl ⟨rfl, by rw [← hg, Nat.gcd_zero_right]; rfl⟩⟩
        | succ y =>
          refine ⟨true, [some (.val (.int x)), some (.val (.int (y + 1 : Nat)))], by simp [fnV, fnW, initV, initW, mSeq, mIfS, mTest, mBin, mIx, mVar, mC, peek, peeks, seqD, asI, asB, atI, ixN, onI, mAsg, mFrz, frz, mTupNew, mCons, mNil, fDm, gTupD, gsCons, gsNil, gSubD, gPut, put, ownAt, mRet, toRet, port0, mSkip, mCS, mCL, fI1, fI2, mSet, mPar, mPar3, Dm.plain, mTup, mLst, vals, mTupOf, fTup, fLen, mIf, mIfS, mNotT, mChain, mTyIs, tyD, noFrz, mIxK, mAndT, mOrT, mAndV, mOrV, mNotV, mExpr, mCallV, mCallW, rOf, mUn, fNeg, fList, fRg1, fRg2, fRg3, mRng, mSeqI, mYes, wipeS, mRep], .inr ⟨rfl, ?_⟩⟩
          have fm : fMod (.int x) (.int (y + 1 : Nat)) = some (.int ((x % (y + 1) : Nat) : Int)) := fMod_nat (by omega)
          refine ⟨_, ?_, x % (y + 1), [some (.val (.int (y + 1 : Nat))), some (.val (.int (x % (y + 1) : Nat)))], Nat.mod_lt _ (by omega), .inl rfl, _, _, rfl, rfl, ?_⟩
          · have e : mCons (mFrz (mVar 1)) (mCons (mFrz (mBin fMod (mCS (fI1 fun i => i) (mCons (mVar 0) mNil)) (mVar 1))) mNil) [some (.val (.int x)), some (.val (.int (y + 1 : Nat)))] = some ([.val (.int (y + 1 : Nat)), .val (.int (x % (y + 1) : Nat))], [some (.val (.int x)), some (.val (.int (y + 1 : Nat)))]) :=
              cons_of rfl (cons_of (frzV_of (mBin_of (mInt_of rfl) rfl fm)) rfl)
            unfold mPar
            rw [e]
            rfl
          · rw [← hg, Nat.gcd_comm x, Nat.gcd_rec (y + 1) x, Nat.gcd_comm])
    obtain ⟨s', e, rfl⟩ := W
    refine ⟨_, e, _, rfl, ?_⟩
    exact ws_ret ⟨_, _, rfl, _, rfl, _, _, rfl, rfl⟩
  obtain ⟨r, e, rfl⟩ := fnV_ws (np := 2) key
  exact e
theorem gAbs_nat (a : Int) : gAbs a = ((a.natAbs : Nat) : Int) := by
  unfold gAbs
  split <;> omega
theorem law_fraction_ok {a b : Int} (h : 0 < b) (hb : okM b = true) : fn__law_fraction [.int a, .int b] = some (.val (fr a b)) := by
  have g0 := gc_pos (a := a) h
  have gM := okM_le (by omega) (gc_le (a := a) h) hb
  have c1 : CDivA a (gc a b) := cdivA g0 gM
  have c2 : CDivA b (gc a b) := cdivA g0 gM
  have e := law_gcd_ok a.natAbs b.natAbs
  rw [show ((b.natAbs : Nat) : Int) = b by omega, ← gAbs_nat] at e
  have e2 : fn__law_gcd [.int (gAbs a), .int b] = some (.val (.int (gc a b))) := e
  simp [fn__law_fraction, b__law_fraction, fnV, fnW, initV, initW, mSeq, mIfS, mTest, mBin, mIx, mVar, mC, peek, peeks, seqD, asI, asB, atI, ixN, onI, mAsg, mFrz, frz, mTupNew, mCons, mNil, fDm, gTupD, gsCons, gsNil, gSubD, gPut, put, ownAt, mRet, toRet, port0, mSkip, mCS, mCL, fI1, fI2, mSet, mPar, mPar3, Dm.plain, mTup, mLst, vals, mTupOf, fTup, fLen, mIf, mIfS, mNotT, mChain, mTyIs, tyD, noFrz, mIxK, mAndT, mOrT, mAndV, mOrV, mNotV, mExpr, mCallV, mCallW, rOf, mUn, fNeg, fList, fRg1, fRg2, fRg3, mRng, mSeqI, mYes, wipeS, mRep, e2, c1, c2, fdiv_gc h, fdiv_gc2 h]
  rfl
theorem law_number_ok {m : Nat} (hm : m ≤ 1000) (x : Nat → Int) {b : Int} (h : 0 < b) (hb : okM b = true) : fn__law_number [.lst (fl m x), .int b] = some (.val (.tup (fs m x b))) := by
  have key := mlc_all (vs := [2]) (mi := mSeqI (mVar 0)) (g := gPut 2) (m := mCallV fn__law_fraction (mCons (mFrz (mVar 2)) (mCons (mFrz (mVar 1)) mNil)))
    (fun k : Nat => D.int (x k)) (fun k => fr (x k) b) (List.range m) (s := initV 3 [.lst (fl m x), .int b]) (s1 := initV 3 [.lst (fl m x), .int b]) (s2 := initV 3 [.lst (fl m x), .int b]) (by simp [fnV, fnW, initV, initW, mSeq, mIfS, mTest, mBin, mIx, mVar, mC, peek, peeks, seqD, asI, asB, atI, ixN, onI, mAsg, mFrz, frz, mTupNew, mCons, mNil, fDm, gTupD, gsCons, gsNil, gSubD, gPut, put, ownAt, mRet, toRet, port0, mSkip, mCS, mCL, fI1, fI2, mSet, mPar, mPar3, Dm.plain, mTup, mLst, vals, mTupOf, fTup, fLen, mIf, mIfS, mNotT, mChain, mTyIs, tyD, noFrz, mIxK, mAndT, mOrT, mAndV, mOrV, mNotV, mExpr, mCallV, mCallW, rOf, mUn, fNeg, fList, fRg1, fRg2, fRg3, mRng, mSeqI, mYes, wipeS, mRep]; rfl) (by simp; omega) (fun k _ => by
      have := law_fraction_ok (a := x k) h hb
      exact ⟨[some (.val (.lst (fl m x))), some (.val (.int b)), some (.val (.int (x k)))], .val (fr (x k) b), by simp [fnV, fnW, initV, initW, mSeq, mIfS, mTest, mBin, mIx, mVar, mC, peek, peeks, seqD, asI, asB, atI, ixN, onI, mAsg, mFrz, frz, mTupNew, mCons, mNil, fDm, gTupD, gsCons, gsNil, gSubD, gPut, put, ownAt, mRet, toRet, port0, mSkip, mCS, mCL, fI1, fI2, mSet, mPar, mPar3, Dm.plain, mTup, mLst, vals, mTupOf, fTup, fLen, mIf, mIfS, mNotT, mChain, mTyIs, tyD, noFrz, mIxK, mAndT, mOrT, mAndV, mOrV, mNotV, mExpr, mCallV, mCallW, rOf, mUn, fNeg, fList, fRg1, fRg2, fRg3, mRng, mSeqI, mYes, wipeS, mRep], by simp [fnV, fnW, initV, initW, mSeq, mIfS, mTest, mBin, mIx, mVar, mC, peek, peeks, seqD, asI, asB, atI, ixN, onI, mAsg, mFrz, frz, mTupNew, mCons, mNil, fDm, gTupD, gsCons, gsNil, gSubD, gPut, put, ownAt, mRet, toRet, port0, mSkip, mCS, mCL, fI1, fI2, mSet, mPar, mPar3, Dm.plain, mTup, mLst, vals, mTupOf, fTup, fLen, mIf, mIfS, mNotT, mChain, mTyIs, tyD, noFrz, mIxK, mAndT, mOrT, mAndV, mOrV, mNotV, mExpr, mCallV, mCallW, rOf, mUn, fNeg, fList, fRg1, fRg2, fRg3, mRng, mSeqI, mYes, wipeS, mRep, this], rfl, rfl⟩) rfl
  simp only [fn__law_number, b__law_number, fnV, List.length_cons, List.length_nil, if_pos, mRet]
  rw [tupOf_of key]
  rfl
/-- rows as the law has them -/
def rL (n N : Nat) (x : Nat → Z n) : D := .lst ((List.range N).map fun j => wL (x j))
theorem law_told_ok {n : Nat} (h : 2 ≤ n) (h2 : n ≤ 12) {N : Nat} (hN : N ≤ 1000) (x : Nat → Z n) {b : Int} (hb : 0 < b) (hM : okM b = true) : fn__law_told [rL n N x, .int b] = some (.val (.tup (rw n N x fun _ => b))) := by
  have hd := dg_pos h h2
  have key := mlc_all (vs := [2]) (mi := mSeqI (mVar 0)) (g := gPut 2) (m := mCallV fn__law_number (mCons (mFrz (mVar 2)) (mCons (mFrz (mVar 1)) mNil)))
    (fun k : Nat => wL (x k)) (fun k => nm (x k) b) (List.range N) (s := initV 3 [rL n N x, .int b]) (s1 := initV 3 [rL n N x, .int b]) (s2 := initV 3 [rL n N x, .int b]) (by simp [fnV, fnW, initV, initW, mSeq, mIfS, mTest, mBin, mIx, mVar, mC, peek, peeks, seqD, asI, asB, atI, ixN, onI, mAsg, mFrz, frz, mTupNew, mCons, mNil, fDm, gTupD, gsCons, gsNil, gSubD, gPut, put, ownAt, mRet, toRet, port0, mSkip, mCS, mCL, fI1, fI2, mSet, mPar, mPar3, Dm.plain, mTup, mLst, vals, mTupOf, fTup, fLen, mIf, mIfS, mNotT, mChain, mTyIs, tyD, noFrz, mIxK, mAndT, mOrT, mAndV, mOrV, mNotV, mExpr, mCallV, mCallW, rOf, mUn, fNeg, fList, fRg1, fRg2, fRg3, mRng, mSeqI, mYes, wipeS, mRep, rL]) (by simp; omega) (fun k _ => by
      have := law_number_ok (m := dg n) (by omega) (x k).f hb hM
      exact ⟨[some (.val (rL n N x)), some (.val (.int b)), some (.val (wL (x k)))], .val (nm (x k) b), by simp [fnV, fnW, initV, initW, mSeq, mIfS, mTest, mBin, mIx, mVar, mC, peek, peeks, seqD, asI, asB, atI, ixN, onI, mAsg, mFrz, frz, mTupNew, mCons, mNil, fDm, gTupD, gsCons, gsNil, gSubD, gPut, put, ownAt, mRet, toRet, port0, mSkip, mCS, mCL, fI1, fI2, mSet, mPar, mPar3, Dm.plain, mTup, mLst, vals, mTupOf, fTup, fLen, mIf, mIfS, mNotT, mChain, mTyIs, tyD, noFrz, mIxK, mAndT, mOrT, mAndV, mOrV, mNotV, mExpr, mCallV, mCallW, rOf, mUn, fNeg, fList, fRg1, fRg2, fRg3, mRng, mSeqI, mYes, wipeS, mRep], callV_of (ds := [wL (x k), .int b]) rfl rfl this, rfl, rfl⟩) rfl
  simp only [fn__law_told, b__law_told, fnV, List.length_cons, List.length_nil, if_pos, mRet]
  rw [tupOf_of key]
  rfl
/-! ### the law's own ring -/
def rg (n : Nat) : D := rL n n fun (p : Nat) => w n p
theorem law_ring_ok {n : Nat} (h : 2 ≤ n) (h2 : n ≤ 12) : ∃ xs, fn__law_ring [.int n] = some (.own xs) ∧ D.lst xs = rg n := by
  refine ⟨(List.range n).map fun (p : Nat) => wL (w n p), ?_, rfl⟩
  rcases Nz.sizes h h2 with rfl | rfl | rfl | rfl | rfl | rfl | rfl | rfl | rfl | rfl | rfl <;> rfl
end Nb
set_option Elab.async false
set_option linter.all false
set_option maxRecDepth 100000
set_option maxHeartbeats 4000000
namespace Nb
open PySem PySem.Spec L2 Dm Nz
set_option autoImplicit false
/-- x[i] = v, an own list of whole numbers -/
theorem asgSub {m mo mi : ME} {s : S} {k N p : Nat} {z : Nat → Int} {v : Int} (hp : p < N) (hm : m s = some (.val (.int v), s)) (ho : mo s = some (.slot k, s)) (hi : mi s = some (.val (.int (p : Nat)), s)) (hs : s[k]? = some (some (.own false (fl N z)))) :
    mAsg (mFrz m) (gSubD mo mi) s = some (.nx (s.set k (some (.own false (fl N fun q => if q = p then v else z q))))) := by
  have ho' : ownAt (.slot k) s = some (k, false, fl N z) := by unfold ownAt; simp only; rw [hs]
  unfold mAsg
  rw [frzV_of hm]
  show (gSubD mo mi (.int v) s).bind _ = _
  unfold gSubD
  rw [ho]
  show ((mi s).bind _).bind _ = _
  rw [hi]
  show ((ownAt (.slot k) s).bind _).bind _ = _
  rw [ho']
  show ((ixN (fl N z).length (p : Nat)).bind _).bind _ = _
  rw [ixN_fl z rfl hp]
  show some (O.nx (s.set k (some (.own false ((fl N z).set p (.int v)))))) = _
  rw [fl_set z v hp]
theorem rL_get {n N : Nat} (x : Nat → Z n) {j : Nat} (h : j < N) : ((List.range N).map fun j => wL (x j))[j]? = some (wL (x j)) := by
  rw [List.getElem?_map, List.getElem?_range h]; rfl
theorem len_of {m : ME} {s : S} {r : R} {d : D} {xs : List D} (h : m s = some (r, s)) (hp : peek r s = some d) (hd : d = .lst xs ∨ d = .tup xs) : mCS fLen (mCons m mNil) s = some (.val (.int xs.length), s) := by
  unfold mCS
  rw [cons_of h rfl]
  have : peeks [r] s = some [d] := by
    unfold peeks
    rw [hp]
    rfl
  show (peeks [r] s).bind _ = _
  rw [this]
  rcases hd with rfl | rfl <;> rfl
/-- the law's sums of powers -/
theorem law_lowered_ok {n : Nat} (h : 2 ≤ n) (h2 : n ≤ 12) {N : Nat} (hN : N ≤ n) (m : Nat → Int) : fn__law_lowered [rg n, .lst (fl N m)] = some (.own (fl (dg n) (sv n N m).f)) := by
  have hd := dg_pos h h2
  generalize hr : rg n = r
  have er : r = .lst ((List.range n).map fun (j : Nat) => wL (w n j)) := hr.symm
  have g0 : ∀ {s : S} {i : Nat}, i < n → mVar 0 s = some (.val r, s) → ∀ {mi : ME}, mi s = some (.val (.int i), s) → mIx (mVar 0) mi s = some (.val (wL (w n i)), s) := fun hi h0 mi hm => mIx_of (d := r) h0 hm rfl (by rw [er]; rfl) (atI_of rfl (rL_get (fun j : Nat => w n j) hi))
  have key : WS b__law_lowered (initV 5 [r, .lst (fl N m)]) fun o => ∃ r' s', o = .rt r' s' ∧ r' = .own (fl (dg n) (sv n N m).f) := by
    unfold b__law_lowered
    refine ws_step (s1 := [some (.val r), some (.val (.lst (fl N m))), some (.own false (fl (dg n) fun _ => 0)), none, none]) (set_of (rep0 (m := dg n) (by omega) ?_) (put_ownF (c := none) rfl rfl)) ?_
    · have e1 := g0 (s := initV 5 [r, .lst (fl N m)]) (i := 0) (by omega) rfl (mi := mC (.int 0)) rfl
      have e2 := len_of e1 rfl (.inl rfl)
      rw [fl_len] at e2
      exact e2
    refine ws_seq (ws_for ⟨(List.range N).map nI, [some (.val r), some (.val (.lst (fl N m))), some (.own false (fl (dg n) fun _ => 0)), none, none], ?_, ws_rng (fun i s => ∃ c3 : Option Cell, s = [some (.val r), some (.val (.lst (fl N m))), some (.own false (fl (dg n) (sv n i m).f)), c3, none] ∧ Fr c3 = true) N ⟨none, ?_, rfl⟩ ?_ ?_⟩)
    · refine rng1_of N (cons_of (len_of (d := .lst (fl N m)) rfl rfl (.inl rfl)) rfl) rfl (by rw [fl_len]) (by omega)
    · refine congrArg (fun u => [_, _, some (Cell.own false u), _, _]) (fl_congr fun k hk => ?_)
      exact (zero_f k).symm
    · rintro i s hi ⟨c3, rfl, f3⟩
      refine ⟨[some (.val r), some (.val (.lst (fl N m))), some (.own false (fl (dg n) (sv n i m).f)), some (.val (.int i)), none], put_valF (c := c3) rfl f3, ?_⟩
      have em : ∀ {s : S}, mVar 1 s = some (.val (.lst (fl N m)), s) → mVar 3 s = some (.val (.int i), s) → mIx (mVar 1) (mVar 3) s = some (.val (.int (m i)), s) := fun h1 h3 => mIx_of (d := .lst (fl N m)) h1 h3 rfl rfl (atI_fl m rfl hi)
      have et : mTest (mBin fNe (mIx (mVar 1) (mVar 3)) (mC (.int 0))) [some (.val r), some (.val (.lst (fl N m))), some (.own false (fl (dg n) (sv n i m).f)), some (.val (.int i)), none] = some (!decide (m i = 0), [some (.val r), some (.val (.lst (fl N m))), some (.own false (fl (dg n) (sv n i m).f)), some (.val (.int i)), none]) := mTest_of (mBin_of (em rfl rfl) rfl (fNe_int _ _))
      have next : fl (dg n) (fun k => (sv n i m).f k + m i * (w n i).f k) = fl (dg n) (sv n (i + 1) m).f := fl_congr fun k hk => by
        show _ = (Sm (i + 1) fun p => (m p : Z n) * w n p).f k
        rw [Sm_succ, add_f, icast_f]
        rfl
      by_cases h0 : m i = 0
      · rw [decide_eq_true h0] at et
        refine ws_ifF et ?_
        refine ws_skip ⟨_, .inl rfl, some (.val (.int i)), ?_, rfl⟩
        rw [← next]
        refine congrArg (fun u => [_, _, some (Cell.own false u), _, _]) (fl_congr fun k hk => ?_)
        rw [h0, Int.zero_mul, Int.add_zero]
      · rw [decide_eq_false h0] at et
        refine ws_ifT et ?_
        have key := mlc_all (vs := [4]) (mi := mRng fRg1 (mCons (mCS fLen (mCons (mVar 2) mNil)) mNil)) (g := gPut 4) (m := mBin fAdd (mIx (mVar 2) (mVar 4)) (mBin fMulA (mIx (mVar 1) (mVar 3)) (mIx (mIx (mVar 0) (mVar 3)) (mVar 4))))
          nI (fun k => D.int ((sv n i m).f k + m i * (w n i).f k)) (List.range (dg n)) (s := [some (.val r), some (.val (.lst (fl N m))), some (.own false (fl (dg n) (sv n i m).f)), some (.val (.int i)), none]) (s1 := [some (.val r), some (.val (.lst (fl N m))), some (.own false (fl (dg n) (sv n i m).f)), some (.val (.int i)), none]) (s2 := [some (.val r), some (.val (.lst (fl N m))), some (.own false (fl (dg n) (sv n i m).f)), some (.val (.int i)), none])
          (rng1_of (dg n) (cons_of (len_of (d := .lst (fl (dg n) (sv n i m).f)) rfl rfl (.inl rfl)) rfl) rfl (by rw [fl_len]) (by omega)) (by simp; omega) (fun k hk => by
            have hk := List.mem_range.1 hk
            have lw := sg_L n i k
            have cm : CMulA (m i) ((w n i).f k) := CMulA.r _ (by show _ < sg n i k; omega) (by show sg n i k < _; omega)
            refine ⟨[some (.val r), some (.val (.lst (fl N m))), some (.own false (fl (dg n) (sv n i m).f)), some (.val (.int i)), some (.val (.int k))], .val (.int ((sv n i m).f k + m i * (w n i).f k)), rfl, ?_, rfl, rfl⟩
            refine mBin_of (mIx_of (d := .lst (fl (dg n) (sv n i m).f)) rfl rfl rfl rfl (atI_fl _ rfl hk)) (mBin_of (em rfl rfl) (mIx_of (d := wL (w n i)) (g0 (by omega) rfl rfl) rfl rfl rfl (atI_fl _ rfl hk)) (fMulA_of cm)) rfl) rfl
        refine ⟨_, set_of key (put_ownF (c := some (.own false (fl (dg n) (sv n i m).f))) rfl rfl), _, .inl rfl, some (.val (.int i)), ?_, rfl⟩
        rw [← next]
        rfl
    · rintro s ⟨c3, rfl, f3⟩
      refine ⟨_, rfl, ?_⟩
      exact ws_ret ⟨_, _, rfl, _, rfl, _, _, rfl, rfl⟩
  obtain ⟨r', e, rfl⟩ := fnV_ws (np := 2) key
  exact e
theorem sv_asg {n N p : Nat} (hp : p < N) (z : Nat → Int) (v : Int) : sv n N (fun q => if q = p then z p + v else z q) = sv n N z + (v : Z n) * w n p := sv_aug hp z v
theorem law_times_ok {n : Nat} (h : 2 ≤ n) (h2 : n ≤ 12) (x y : Z n) (hM : Ml x y) : fn__law_times [rg n, wL x, wL y] = some (.own (fl (dg n) (x * y).f)) := by
  have hd := dg_pos h h2
  have lo := fun m : Nat → Int => law_lowered_ok h h2 (N := n) (Nat.le_refl _) m
  generalize hr : rg n = r at lo ⊢
  have er : r = .lst ((List.range n).map fun (j : Nat) => wL (w n j)) := hr.symm
  have key : WS b__law_times (initV 7 [r, wL x, wL y]) fun o => ∃ r' s', o = .rt r' s' ∧ r' = .own (fl (dg n) (x * y).f) := by
    unfold b__law_times
    have l0 : ∀ {s : S}, mVar 0 s = some (.val r, s) → mCS fLen (mCons (mVar 0) mNil) s = some (.val (.int n), s) := fun h0 => by
      have := len_of (d := r) h0 rfl (.inl er)
      rw [List.length_map, List.length_range] at this
      exact this
    refine ws_step (s1 := [some (.val r), some (.val (wL x)), some (.val (wL y)), some (.own false (fl n fun _ => 0)), none, none, none]) (set_of (rep0 (m := n) (by omega) (l0 rfl)) (put_ownF (c := none) rfl rfl)) ?_
    refine ws_seq (ws_for ⟨(List.range (dg n)).map nI, [some (.val r), some (.val (wL x)), some (.val (wL y)), some (.own false (fl n fun _ => 0)), none, none, none], rng1_of (dg n) (cons_of (len_of (d := wL x) rfl rfl (.inl rfl)) rfl) rfl (by rw [fl_len]) (by omega), ws_rng (fun i s => ∃ (z : Nat → Int) (c4 c5 c6 : Option Cell), s = [some (.val r), some (.val (wL x)), some (.val (wL y)), some (.own false (fl n z)), c4, c5, c6] ∧ Fr c4 = true ∧ Fr c5 = true ∧ Fr c6 = true ∧ sv n n z = Sm i fun i => Sm (dg n) fun j => ((x.f i * y.f j : Int) : Z n) * w n ((i : Int) + j)) (dg n) ⟨fun _ => 0, none, none, none, rfl, rfl, rfl, rfl, sv_none _⟩ ?_ ?_⟩)
    · rintro i s hi ⟨z, c4, c5, c6, rfl, f4, f5, f6, hz⟩
      refine ⟨[some (.val r), some (.val (wL x)), some (.val (wL y)), some (.own false (fl n z)), some (.val (.int i)), c5, c6], put_valF (c := c4) rfl f4, ?_⟩
      refine ws_for ⟨(List.range (dg n)).map nI, [some (.val r), some (.val (wL x)), some (.val (wL y)), some (.own false (fl n z)), some (.val (.int i)), c5, c6], rng1_of (dg n) (cons_of (len_of (d := wL y) rfl rfl (.inl rfl)) rfl) rfl (by rw [fl_len]) (by omega), ws_rng (fun j s => ∃ (z' : Nat → Int) (c5 c6 : Option Cell), s = [some (.val r), some (.val (wL x)), some (.val (wL y)), some (.own false (fl n z')), some (.val (.int i)), c5, c6] ∧ Fr c5 = true ∧ Fr c6 = true ∧ sv n n z' = sv n n z + Sm j fun j => ((x.f i * y.f j : Int) : Z n) * w n ((i : Int) + j)) (dg n) ⟨z, c5, c6, rfl, f5, f6, by rw [Sm_zero]; grind⟩ ?_ ?_⟩
      · rintro j s hj ⟨z', c5, c6, rfl, f5, f6, hz'⟩
        have cm := hM i j
        have pl := md_lt h ((i : Int) + j)
        refine ⟨[some (.val r), some (.val (wL x)), some (.val (wL y)), some (.own false (fl n z')), some (.val (.int i)), some (.val (.int j)), c6], put_valF (c := c5) rfl f5, ?_⟩
        refine ws_step (s1 := [some (.val r), some (.val (wL x)), some (.val (wL y)), some (.own false (fl n z')), some (.val (.int i)), some (.val (.int j)), some (.val (.int (md n ((i : Int) + j))))]) (set_of (mBin_of (mInt_of (mBin_of rfl rfl rfl)) (l0 rfl) (fMod_n h _)) (put_valF (c := c6) rfl f6)) ?_
        refine ws_nx (asgSub (k := 3) (p := md n ((i : Int) + j)) (z := z') (v := z' (md n ((i : Int) + j)) + x.f i * y.f j) pl ?_ rfl rfl rfl) ⟨_, .inl rfl, _, _, _, rfl, rfl, rfl, ?_⟩
        · exact mBin_of (mIx_of (d := .lst (fl n z')) rfl rfl rfl rfl (atI_fl z' rfl pl)) (mBin_of (mIx_of (d := wL x) rfl rfl rfl rfl (atI_fl x.f rfl hi)) (mIx_of (d := wL y) rfl rfl rfl rfl (atI_fl y.f rfl hj)) (fMulA_of cm)) rfl
        · rw [sv_asg pl, hz', Sm_succ, w_md h]
          grind
      · rintro s ⟨z', c5, c6, rfl, f5, f6, hz'⟩
        exact ⟨_, .inl rfl, z', _, c5, c6, rfl, rfl, f5, f6, by rw [hz', hz, Sm_succ]⟩
    · rintro s ⟨z, c4, c5, c6, rfl, f4, f5, f6, hz⟩
      refine ⟨_, rfl, ?_⟩
      have rr := lo z
      rw [hz, ← mul_sum] at rr
      refine ws_ret ⟨.own (fl (dg n) (x * y).f), [some (.val r), some (.val (wL x)), some (.val (wL y)), some (.val (.lst (fl n z))), c4, c5, c6], callV_of (ds := [r, .lst (fl n z)]) rfl rfl rr, _, rfl, _, _, rfl, rfl⟩
  obtain ⟨r', e, rfl⟩ := fnV_ws (np := 3) key
  exact e
theorem law_sum_ok {n : Nat} (h : 2 ≤ n) (h2 : n ≤ 12) {N : Nat} (hN : N ≤ 1000) (x : Nat → Z n) {pc : Int} (h0 : -1000 ≤ pc) (h1 : pc ≤ 1000) : fn__law_sum [rg n, rL n N x, .int pc] = some (.own (fl (dg n) (Sm N fun (j : Nat) => x j * w n (j * pc)).f)) := by
  have hd := dg_pos h h2
  have lo := fun m : Nat → Int => law_lowered_ok h h2 (N := n) (Nat.le_refl _) m
  generalize hr : rg n = r at lo ⊢
  have er : r = .lst ((List.range n).map fun (j : Nat) => wL (w n j)) := hr.symm
  generalize ho : rL n N x = o
  have eo : o = .lst ((List.range N).map fun (j : Nat) => wL (x j)) := ho.symm
  have key : WS b__law_sum (initV 7 [r, o, .int pc]) fun o' => ∃ r' s', o' = .rt r' s' ∧ r' = .own (fl (dg n) (Sm N fun (j : Nat) => x j * w n (j * pc)).f) := by
    unfold b__law_sum
    have l0 : ∀ {s : S}, mVar 0 s = some (.val r, s) → mCS fLen (mCons (mVar 0) mNil) s = some (.val (.int n), s) := fun h0 => by
      have := len_of (d := r) h0 rfl (.inl er)
      rw [List.length_map, List.length_range] at this
      exact this
    have ex : ∀ {s : S} {i : Nat}, i < N → mVar 1 s = some (.val o, s) → mVar 4 s = some (.val (.int i), s) → mIx (mVar 1) (mVar 4) s = some (.val (wL (x i)), s) := fun hi h0 hm => mIx_of (d := o) h0 hm rfl (by rw [eo]; rfl) (atI_of rfl (rL_get x hi))
    refine ws_step (s1 := [some (.val r), some (.val o), some (.val (.int pc)), some (.own false (fl n fun _ => 0)), none, none, none]) (set_of (rep0 (m := n) (by omega) (l0 rfl)) (put_ownF (c := none) rfl rfl)) ?_
    refine ws_seq (ws_for ⟨(List.range N).map nI, [some (.val r), some (.val o), some (.val (.int pc)), some (.own false (fl n fun _ => 0)), none, none, none], rng1_of N (cons_of (len_of (d := o) rfl rfl (.inl eo)) rfl) rfl (by simp) (by omega), ws_rng (fun i s => ∃ (z : Nat → Int) (c4 c5 c6 : Option Cell), s = [some (.val r), some (.val o), some (.val (.int pc)), some (.own false (fl n z)), c4, c5, c6] ∧ Fr c4 = true ∧ Fr c5 = true ∧ Fr c6 = true ∧ sv n n z = Sm i fun (i : Nat) => x i * w n (i * pc)) N ⟨fun _ => 0, none, none, none, rfl, rfl, rfl, rfl, sv_none _⟩ ?_ ?_⟩)
    · rintro i s hi ⟨z, c4, c5, c6, rfl, f4, f5, f6, hz⟩
      refine ⟨[some (.val r), some (.val o), some (.val (.int pc)), some (.own false (fl n z)), some (.val (.int i)), c5, c6], put_valF (c := c4) rfl f4, ?_⟩
      refine ws_for ⟨(List.range (dg n)).map nI, [some (.val r), some (.val o), some (.val (.int pc)), some (.own false (fl n z)), some (.val (.int i)), c5, c6], rng1_of (dg n) (cons_of (len_of (d := wL (x i)) (ex hi rfl rfl) rfl (.inl rfl)) rfl) rfl (by rw [fl_len]) (by omega), ws_rng (fun j s => ∃ (z' : Nat → Int) (c5 c6 : Option Cell), s = [some (.val r), some (.val o), some (.val (.int pc)), some (.own false (fl n z')), some (.val (.int i)), c5, c6] ∧ Fr c5 = true ∧ Fr c6 = true ∧ sv n n z' = sv n n z + Sm j fun j => ((x i).f j : Z n) * w n ((j : Int) + i * pc)) (dg n) ⟨z, c5, c6, rfl, f5, f6, by rw [Sm_zero]; grind⟩ ?_ ?_⟩
      · rintro j s hj ⟨z', c5, c6, rfl, f5, f6, hz'⟩
        have cm : CMulA (i : Int) pc := CMulA.r _ (by omega) (by omega)
        have pl := md_lt h ((j : Int) + i * pc)
        refine ⟨[some (.val r), some (.val o), some (.val (.int pc)), some (.own false (fl n z')), some (.val (.int i)), some (.val (.int j)), c6], put_valF (c := c5) rfl f5, ?_⟩
        refine ws_step (s1 := [some (.val r), some (.val o), some (.val (.int pc)), some (.own false (fl n z')), some (.val (.int i)), some (.val (.int j)), some (.val (.int (md n ((j : Int) + i * pc))))]) (set_of (mBin_of (mInt_of (mBin_of rfl (mBin_of rfl rfl (fMulA_of cm)) rfl)) (l0 rfl) (fMod_n h _)) (put_valF (c := c6) rfl f6)) ?_
        refine ws_nx (asgSub (k := 3) (p := md n ((j : Int) + i * pc)) (z := z') (v := z' (md n ((j : Int) + i * pc)) + (x i).f j) pl ?_ rfl rfl rfl) ⟨_, .inl rfl, _, _, _, rfl, rfl, rfl, ?_⟩
        · exact mBin_of (mIx_of (d := .lst (fl n z')) rfl rfl rfl rfl (atI_fl z' rfl pl)) (mIx_of (d := wL (x i)) (ex hi rfl rfl) rfl rfl rfl (atI_fl (x i).f rfl hj)) rfl
        · rw [sv_asg pl, hz', Sm_succ, w_md h]
          grind
      · rintro s ⟨z', c5, c6, rfl, f5, f6, hz'⟩
        refine ⟨_, .inl rfl, z', _, c5, c6, rfl, rfl, f5, f6, ?_⟩
        rw [hz', hz, Sm_succ]
        congr 1
        conv => rhs; rw [← Z.sum (x i), mul_Sm]
        refine Sm_congr fun j _ => ?_
        rw [w_add]
        grind
    · rintro s ⟨z, c4, c5, c6, rfl, f4, f5, f6, hz⟩
      refine ⟨_, rfl, ?_⟩
      have rr := lo z
      rw [hz] at rr
      refine ws_ret ⟨.own (fl (dg n) (Sm N fun (j : Nat) => x j * w n (j * pc)).f), [some (.val r), some (.val o), some (.val (.int pc)), some (.val (.lst (fl n z))), c4, c5, c6], callV_of (ds := [r, .lst (fl n z)]) rfl rfl rr, _, rfl, _, _, rfl, rfl⟩
  obtain ⟨r', e, rfl⟩ := fnV_ws (np := 3) key
  exact e
end Nb
set_option Elab.async false
set_option linter.all false
set_option maxRecDepth 100000
set_option maxHeartbeats 4000000
namespace Nb
open PySem PySem.Spec L2 Dm Nz
set_option autoImplicit false
/-! ### the draws -/
def Wl (sp : List D) : Prop := ∃ a b c : Int, sp = [.int a, .int b, .int c] ∧ 0 ≤ b ∧ b < 2147483629
theorem next_ok {sp : List D} (h : Wl sp) {w : Int} (h0 : 0 < w) (h1 : w < 1073741824) :
    ∃ (k : Nat) (sp' : List D), fn__law_next sp [.int w] = some (.val (.int k), sp') ∧ Wl sp' ∧ (k : Int) < w := by
  obtain ⟨a, b, c, rfl, hb, hb2⟩ := h
  have hC : CDiv a w := ⟨h0, h1⟩
  have hw : w ≠ 0 := by omega
  have m1 : CMulA 2 (c + 1) := CMulA.l _ (by decide) (by decide)
  have m2 : CMulA 10007 (c + 1) := CMulA.l _ (by decide) (by decide)
  have m3 : CMulA b (48271 + 2 * (c + 1)) := CMulA.l _ (by omega) (by omega)
  have hd : CDivA ((b * (48271 + 2 * (c + 1)) + 10007 * (c + 1) + 3).fmod 2147483629) 331 := .inl (by unfold CDivN; decide)
  by_cases h : a > 0
  · refine ⟨(a % w).toNat, [.int (a / w), .int b, .int c], ?_, ⟨_, _, _, rfl, hb, hb2⟩, ?_⟩
    · have e : (((a % w).toNat : Nat) : Int) = a % w := Int.toNat_of_nonneg (Int.emod_nonneg _ hw)
      rw [e]
      simp [fn__law_next, b__law_next, fnV, fnW, initV, initW, mSeq, mIfS, mTest, mBin, mIx, mVar, mC, peek, peeks, seqD, asI, asB, atI, ixN, onI, mAsg, mFrz, frz, mTupNew, mCons, mNil, fDm, gTupD, gsCons, gsNil, gSubD, gPut, put, ownAt, mRet, toRet, port0, mSkip, mCS, mCL, fI1, fI2, mSet, mPar, mPar3, Dm.plain, mTup, mLst, vals, mTupOf, fTup, fLen, mIf, mIfS, mNotT, mChain, mTyIs, tyD, noFrz, mIxK, mAndT, mOrT, mAndV, mOrV, mNotV, mExpr, mCallV, mCallW, rOf, mUn, fNeg, fList, fRg1, fRg2, fRg3, mRng, mSeqI, mYes, wipeS, mRep, h, hC]
    · rw [Int.toNat_of_nonneg (Int.emod_nonneg _ hw)]
      exact Int.emod_lt_of_pos _ h0
  · have nn : 0 ≤ (((b * (48271 + 2 * (c + 1)) + 10007 * (c + 1) + 3).fmod 2147483629).fdiv 331).fmod w := Int.fmod_nonneg_of_pos _ h0
    refine ⟨((((b * (48271 + 2 * (c + 1)) + 10007 * (c + 1) + 3).fmod 2147483629).fdiv 331).fmod w).toNat, [.int a, .int ((b * (48271 + 2 * (c + 1)) + 10007 * (c + 1) + 3).fmod 2147483629), .int (c + 1)], ?_, ⟨_, _, _, rfl, Int.fmod_nonneg_of_pos _ (by decide), Int.fmod_lt_of_pos _ (by decide)⟩, ?_⟩
    · rw [Int.toNat_of_nonneg nn]
      simp [fn__law_next, b__law_next, fnV, fnW, initV, initW, mSeq, mIfS, mTest, mBin, mIx, mVar, mC, peek, peeks, seqD, asI, asB, atI, ixN, onI, mAsg, mFrz, frz, mTupNew, mCons, mNil, fDm, gTupD, gsCons, gsNil, gSubD, gPut, put, ownAt, mRet, toRet, port0, mSkip, mCS, mCL, fI1, fI2, mSet, mPar, mPar3, Dm.plain, mTup, mLst, vals, mTupOf, fTup, fLen, mIf, mIfS, mNotT, mChain, mTyIs, tyD, noFrz, mIxK, mAndT, mOrT, mAndV, mOrV, mNotV, mExpr, mCallV, mCallW, rOf, mUn, fNeg, fList, fRg1, fRg2, fRg3, mRng, mSeqI, mYes, wipeS, mRep, h, m1, m2, m3, hd, hw]
    · rw [Int.toNat_of_nonneg nn]
      exact Int.fmod_lt_of_pos _ h0
theorem pick_ok {sp : List D} (h : Wl sp) {xs : List D} (h0 : xs ≠ []) (h1 : xs.length < 1000000) :
    ∃ (x : D) (sp' : List D), fn__law_pick sp [.lst xs] = some (.val x, sp') ∧ Wl sp' ∧ x ∈ xs := by
  have hl : 0 < xs.length := List.length_pos_iff.2 h0
  obtain ⟨k, sp', e, hs, hk⟩ := next_ok h (w := xs.length) (by omega) (by omega)
  have hk' : k < xs.length := by omega
  refine ⟨xs[k], sp', ?_, hs, List.getElem_mem hk'⟩
  have hix : xs[k]? = some xs[k] := List.getElem?_eq_getElem hk'
  simp [fn__law_pick, b__law_pick, fnV, fnW, initV, initW, mSeq, mIfS, mTest, mBin, mIx, mVar, mC, peek, peeks, seqD, asI, asB, atI, ixN, onI, mAsg, mFrz, frz, mTupNew, mCons, mNil, fDm, gTupD, gsCons, gsNil, gSubD, gPut, put, ownAt, mRet, toRet, port0, mSkip, mCS, mCL, fI1, fI2, mSet, mPar, mPar3, Dm.plain, mTup, mLst, vals, mTupOf, fTup, fLen, mIf, mIfS, mNotT, mChain, mTyIs, tyD, noFrz, mIxK, mAndT, mOrT, mAndV, mOrV, mNotV, mExpr, mCallV, mCallW, rOf, mUn, fNeg, fList, fRg1, fRg2, fRg3, mRng, mSeqI, mYes, wipeS, mRep, e, hk, hix]
/-- one of the told whole numbers -/
theorem pick_int {sp : List D} (h : Wl sp) {l : List Int} (h0 : l ≠ []) (h1 : l.length < 1000000) :
    ∃ (i : Int) (sp' : List D), fn__law_pick sp [.lst (l.map D.int)] = some (.val (.int i), sp') ∧ Wl sp' ∧ i ∈ l := by
  obtain ⟨x, sp', e, hs, hx⟩ := pick_ok h (xs := l.map D.int) (by simpa using h0) (by simpa using h1)
  obtain ⟨i, hi, rfl⟩ := List.mem_map.1 hx
  exact ⟨i, sp', e, hs, hi⟩
theorem app_of {mo m : ME} {s s1 : S} {k : Nat} {xs ys : List D} {p q : Bool} {d : D} (ho : mo s = some (.slot k, s)) (h0 : s[k]? = some (some (.own p xs))) (hm : m s = some (.val d, s1)) (h1 : s1[k]? = some (some (.own q ys))) (hl : ys.length < 100000) :
    mExpr (mApp mo m) s = some (.nx (s1.set k (some (.own q (ys ++ [d]))))) := by
  have o0 : ownAt (.slot k) s = some (k, p, xs) := by unfold ownAt; simp only; rw [h0]
  have o1 : ownAt (.slot k) s1 = some (k, q, ys) := by unfold ownAt; simp only; rw [h1]
  unfold mExpr mApp
  rw [ho]
  show ((ownAt (.slot k) s).bind _).bind _ = _
  rw [o0]
  show ((m s).bind _).bind _ = _
  rw [hm]
  show ((ownAt (.slot k) s1).bind _).bind _ = _
  rw [o1]
  show Option.bind (if ys.length < 100000 then some (R.val .non, s1.set k (some (.own q (ys ++ [d])))) else none) (fun p => some (O.nx p.2)) = _
  rw [if_pos hl]
  rfl
theorem fl_snoc (k : Nat) (x : Nat → Int) (v : Int) : fl k x ++ [D.int v] = fl (k + 1) fun i => if i = k then v else x i := by
  unfold fl
  rw [List.range_succ, List.map_append, List.map_singleton]
  have e1 : (List.range k).map (fun p => D.int (if p = k then v else x p)) = (List.range k).map fun p => D.int (x p) := List.map_congr_left fun i hi => by
    have := List.mem_range.1 hi
    rw [if_neg (by omega)]
  have e2 : [D.int (if k = k then v else x k)] = [D.int v] := by rw [if_pos rfl]
  show _ = (List.range k).map (fun p => D.int (if p = k then v else x p)) ++ [D.int (if k = k then v else x k)]
  rw [e1, e2]
/-- below ten to the twelfth -/
def B12 (x : Nat → Int) : Prop := ∀ i, (x i).natAbs ≤ 10 ^ 12
theorem some_ok {sp : List D} (h : Wl sp) {m : Nat} (hm : 1 ≤ m) (hm2 : m ≤ 100) :
    ∃ (x : Nat → Int) (sp' : List D), fn__law_some sp [.int m] = some (.own (fl m x), sp') ∧ Wl sp' ∧ B12 x := by
  have key : WS b__law_some (initW 8 sp [.int m]) fun o => ∃ r s ys, o = .rt r s ∧ port0 s = some ys ∧ Wl ys ∧ ∃ x, r = .own (fl m x) ∧ B12 x := by
    unfold b__law_some
    obtain ⟨way, sp1, e1, hs1, hway⟩ := next_ok h (w := 5) (by decide) (by decide)
    have p11 : CPow 10 11 := by decide
    have p9 : CPow 10 9 := by decide
    refine ws_step (s1 := [some (.own true sp1), some (.val (.int m)), some (.val (.int way)), some (.own false []), none, none, none, none]) (by simp [fnV, fnW, initV, initW, mSeq, mIfS, mTest, mBin, mIx, mVar, mC, peek, peeks, seqD, asI, asB, atI, ixN, onI, mAsg, mFrz, frz, mTupNew, mCons, mNil, fDm, gTupD, gsCons, gsNil, gSubD, gPut, put, ownAt, mRet, toRet, port0, mSkip, mCS, mCL, fI1, fI2, mSet, mPar, mPar3, Dm.plain, mTup, mLst, vals, mTupOf, fTup, fLen, mIf, mIfS, mNotT, mChain, mTyIs, tyD, noFrz, mIxK, mAndT, mOrT, mAndV, mOrV, mNotV, mExpr, mCallV, mCallW, rOf, mUn, fNeg, fList, fRg1, fRg2, fRg3, mRng, mSeqI, mYes, wipeS, mRep, e1]) ?_
    refine ws_seq (ws_for ⟨(List.range m).map nI, [some (.own true sp1), some (.val (.int m)), some (.val (.int way)), some (.own false []), none, none, none, none], rng1_of m rfl rfl rfl (by omega), ws_rng (fun k s => ∃ (sp2 : List D) (x : Nat → Int) (c4 c5 : Option Cell), s = [some (.own true sp2), some (.val (.int m)), some (.val (.int way)), some (.own false (fl k x)), c4, c5, none, none] ∧ Wl sp2 ∧ Fr c4 = true ∧ Fr c5 = true ∧ B12 x) m ⟨sp1, fun _ => 0, none, none, rfl, hs1, rfl, rfl, fun i => Nat.zero_le _⟩ ?_ ?_⟩)
    · rintro k s hk ⟨sp2, x, c4, c5, rfl, hs2, f4, f5, hx⟩
      refine ⟨[some (.own true sp2), some (.val (.int m)), some (.val (.int way)), some (.own false (fl k x)), some (.val (.int k)), c5, none, none], put_valF (c := c4) rfl f4, ?_⟩
      obtain ⟨q, sp3, e3, hs3, hq⟩ := next_ok hs2 (w := 9) (by decide) (by decide)
      refine ws_step (s1 := [some (.own true sp3), some (.val (.int m)), some (.val (.int way)), some (.own false (fl k x)), some (.val (.int k)), some (.val (.int ((q : Int) - 4))), none, none]) ?_ ?_
      · refine set_of (s1 := [some (.own true sp3), some (.val (.int m)), some (.val (.int way)), some (.own false (fl k x)), some (.val (.int k)), c5, none, none]) (r := .val (.int ((q : Int) - 4))) ?_ (put_valF (c := c5) rfl f5)
        simp [fnV, fnW, initV, initW, mSeq, mIfS, mTest, mBin, mIx, mVar, mC, peek, peeks, seqD, asI, asB, atI, ixN, onI, mAsg, mFrz, frz, mTupNew, mCons, mNil, fDm, gTupD, gsCons, gsNil, gSubD, gPut, put, ownAt, mRet, toRet, port0, mSkip, mCS, mCL, fI1, fI2, mSet, mPar, mPar3, Dm.plain, mTup, mLst, vals, mTupOf, fTup, fLen, mIf, mIfS, mNotT, mChain, mTyIs, tyD, noFrz, mIxK, mAndT, mOrT, mAndV, mOrV, mNotV, mExpr, mCallV, mCallW, rOf, mUn, fNeg, fList, fRg1, fRg2, fRg3, mRng, mSeqI, mYes, wipeS, mRep, e3]
      by_cases hw : way = 0
      · obtain ⟨u, sp4, e4, hs4, hu⟩ := next_ok hs3 (w := 1000000000) (by decide) (by decide)
        have cm : CMulA ((q : Int) - 4) (100000000000 + u) := CMulA.l _ (by omega) (by omega)
        have ev : mFrz (mIf (mTest (mBin fEq (mVar 2) (mC (.int 0)))) (mBin fMulA (mVar 5) (mBin fAdd (mBin fPow (mC (.int 10)) (mC (.int 11))) (mCallW fn__law_next (mVar 0) (mCons (mFrz (mBin fPow (mC (.int 10)) (mC (.int 9)))) mNil)))) (mVar 5)) [some (.own true sp3), some (.val (.int m)), some (.val (.int way)), some (.own false (fl k x)), some (.val (.int k)), some (.val (.int ((q : Int) - 4))), none, none] = some (.val (.int (((q : Int) - 4) * (100000000000 + u))), [some (.own true sp4), some (.val (.int m)), some (.val (.int way)), some (.own false (fl k x)), some (.val (.int k)), some (.val (.int ((q : Int) - 4))), none, none]) := by
          simp [fnV, fnW, initV, initW, mSeq, mIfS, mTest, mBin, mIx, mVar, mC, peek, peeks, seqD, asI, asB, atI, ixN, onI, mAsg, mFrz, frz, mTupNew, mCons, mNil, fDm, gTupD, gsCons, gsNil, gSubD, gPut, put, ownAt, mRet, toRet, port0, mSkip, mCS, mCL, fI1, fI2, mSet, mPar, mPar3, Dm.plain, mTup, mLst, vals, mTupOf, fTup, fLen, mIf, mIfS, mNotT, mChain, mTyIs, tyD, noFrz, mIxK, mAndT, mOrT, mAndV, mOrV, mNotV, mExpr, mCallV, mCallW, rOf, mUn, fNeg, fList, fRg1, fRg2, fRg3, mRng, mSeqI, mYes, wipeS, mRep, fEq_int, hw, p11, p9, e4, cm]
        refine ws_nx (app_of (k := 3) rfl rfl ev rfl (by rw [fl_len]; omega)) ⟨_, .inl rfl, sp4, fun i => if i = k then ((q : Int) - 4) * (100000000000 + u) else x i, some (.val (.int k)), some (.val (.int ((q : Int) - 4))), ?_, hs4, rfl, rfl, fun i => ?_⟩
        · rw [fl_snoc]; rfl
        · dsimp only
          split
          · have b1 : (((q : Int) - 4) * (100000000000 + u)).natAbs = ((q : Int) - 4).natAbs * (100000000000 + u : Int).natAbs := Int.natAbs_mul _ _
            rw [b1]
            have : ((q : Int) - 4).natAbs * (100000000000 + u : Int).natAbs ≤ 4 * 101000000000 := Nat.mul_le_mul (by omega) (by omega)
            omega
          · exact hx i
      · have ev : mFrz (mIf (mTest (mBin fEq (mVar 2) (mC (.int 0)))) (mBin fMulA (mVar 5) (mBin fAdd (mBin fPow (mC (.int 10)) (mC (.int 11))) (mCallW fn__law_next (mVar 0) (mCons (mFrz (mBin fPow (mC (.int 10)) (mC (.int 9)))) mNil)))) (mVar 5)) [some (.own true sp3), some (.val (.int m)), some (.val (.int way)), some (.own false (fl k x)), some (.val (.int k)), some (.val (.int ((q : Int) - 4))), none, none] = some (.val (.int ((q : Int) - 4)), [some (.own true sp3), some (.val (.int m)), some (.val (.int way)), some (.own false (fl k x)), some (.val (.int k)), some (.val (.int ((q : Int) - 4))), none, none]) := by
          simp [fnV, fnW, initV, initW, mSeq, mIfS, mTest, mBin, mIx, mVar, mC, peek, peeks, seqD, asI, asB, atI, ixN, onI, mAsg, mFrz, frz, mTupNew, mCons, mNil, fDm, gTupD, gsCons, gsNil, gSubD, gPut, put, ownAt, mRet, toRet, port0, mSkip, mCS, mCL, fI1, fI2, mSet, mPar, mPar3, Dm.plain, mTup, mLst, vals, mTupOf, fTup, fLen, mIf, mIfS, mNotT, mChain, mTyIs, tyD, noFrz, mIxK, mAndT, mOrT, mAndV, mOrV, mNotV, mExpr, mCallV, mCallW, rOf, mUn, fNeg, fList, fRg1, fRg2, fRg3, mRng, mSeqI, mYes, wipeS, mRep, fEq_int, hw]
        refine ws_nx (app_of (k := 3) rfl rfl ev rfl (by rw [fl_len]; omega)) ⟨_, .inl rfl, sp3, fun i => if i = k then ((q : Int) - 4) else x i, some (.val (.int k)), some (.val (.int ((q : Int) - 4))), ?_, hs3, rfl, rfl, fun i => ?_⟩
        · rw [fl_snoc]; rfl
        · dsimp only
          split
          · omega
          · exact hx i
    · rintro s ⟨sp2, x, c4, c5, rfl, hs2, f4, f5, hx⟩
      refine ⟨_, rfl, ?_⟩
      by_cases hw : way = 1
      · obtain ⟨u, sp4, e4, hs4, hu⟩ := next_ok hs2 (w := m) (by omega) (by omega)
        refine ws_seq (ws_ifT (s1 := [some (.own true sp2), some (.val (.int m)), some (.val (.int way)), some (.own false (fl m x)), c4, c5, none, none]) (by simp [fnV, fnW, initV, initW, mSeq, mIfS, mTest, mBin, mIx, mVar, mC, peek, peeks, seqD, asI, asB, atI, ixN, onI, mAsg, mFrz, frz, mTupNew, mCons, mNil, fDm, gTupD, gsCons, gsNil, gSubD, gPut, put, ownAt, mRet, toRet, port0, mSkip, mCS, mCL, fI1, fI2, mSet, mPar, mPar3, Dm.plain, mTup, mLst, vals, mTupOf, fTup, fLen, mIf, mIfS, mNotT, mChain, mTyIs, tyD, noFrz, mIxK, mAndT, mOrT, mAndV, mOrV, mNotV, mExpr, mCallV, mCallW, rOf, mUn, fNeg, fList, fRg1, fRg2, fRg3, mRng, mSeqI, mYes, wipeS, mRep, fEq_int, hw]) ?_)
        refine ws_step (s1 := [some (.own true sp4), some (.val (.int m)), some (.val (.int way)), some (.own false (fl m x)), c4, c5, some (.val (.int u)), none]) (by simp [fnV, fnW, initV, initW, mSeq, mIfS, mTest, mBin, mIx, mVar, mC, peek, peeks, seqD, asI, asB, atI, ixN, onI, mAsg, mFrz, frz, mTupNew, mCons, mNil, fDm, gTupD, gsCons, gsNil, gSubD, gPut, put, ownAt, mRet, toRet, port0, mSkip, mCS, mCL, fI1, fI2, mSet, mPar, mPar3, Dm.plain, mTup, mLst, vals, mTupOf, fTup, fLen, mIf, mIfS, mNotT, mChain, mTyIs, tyD, noFrz, mIxK, mAndT, mOrT, mAndV, mOrV, mNotV, mExpr, mCallV, mCallW, rOf, mUn, fNeg, fList, fRg1, fRg2, fRg3, mRng, mSeqI, mYes, wipeS, mRep, e4]) ?_
        have lc := mlc_all (vs := [7]) (mi := mRng fRg1 (mCons (mVar 1) mNil)) (g := gPut 7) (m := mIf (mTest (mBin fEq (mVar 7) (mVar 6))) (mIx (mVar 3) (mVar 7)) (mC (.int 0)))
          nI (fun k => D.int (if k = u then x k else 0)) (List.range m) (s := [some (.own true sp4), some (.val (.int m)), some (.val (.int way)), some (.own false (fl m x)), c4, c5, some (.val (.int u)), none]) (s1 := [some (.own true sp4), some (.val (.int m)), some (.val (.int way)), some (.own false (fl m x)), c4, c5, some (.val (.int u)), none]) (s2 := [some (.own true sp4), some (.val (.int m)), some (.val (.int way)), some (.own false (fl m x)), c4, c5, some (.val (.int u)), none]) (rng1_of m rfl rfl rfl (by omega)) (by simp; omega) (fun k hk => by
            have hk := List.mem_range.1 hk
            refine ⟨[some (.own true sp4), some (.val (.int m)), some (.val (.int way)), some (.own false (fl m x)), c4, c5, some (.val (.int u)), some (.val (nI k))], .val (.int (if k = u then x k else 0)), rfl, ?_, rfl, rfl⟩
            by_cases e : k = u
            · have t : mTest (mBin fEq (mVar 7) (mVar 6)) [some (.own true sp4), some (.val (.int m)), some (.val (.int way)), some (.own false (fl m x)), c4, c5, some (.val (.int u)), some (.val (nI k))] = some (true, [some (.own true sp4), some (.val (.int m)), some (.val (.int way)), some (.own false (fl m x)), c4, c5, some (.val (.int u)), some (.val (nI k))]) := mTest_of (mBin_of rfl rfl (by rw [fEq_int]; simp [e]))
              rw [ifT_of t, if_pos e]
              exact mIx_of (d := .lst (fl m x)) rfl rfl rfl rfl (atI_fl x rfl hk)
            · have t : mTest (mBin fEq (mVar 7) (mVar 6)) [some (.own true sp4), some (.val (.int m)), some (.val (.int way)), some (.own false (fl m x)), c4, c5, some (.val (.int u)), some (.val (nI k))] = some (false, [some (.own true sp4), some (.val (.int m)), some (.val (.int way)), some (.own false (fl m x)), c4, c5, some (.val (.int u)), some (.val (nI k))]) := mTest_of (mBin_of rfl rfl (by rw [fEq_int]; simp; omega))
              rw [ifF_of t, if_neg e]
              rfl) rfl
        refine ws_nx (s1 := [some (.own true sp4), some (.val (.int m)), some (.val (.int way)), some (.own false (fl m fun k => if k = u then x k else 0)), c4, c5, some (.val (.int u)), none]) (set_of lc (put_ownF (c := some (.own false (fl m x))) rfl rfl)) ⟨_, rfl, ?_⟩
        refine ws_ret ⟨_, _, rfl, _, rfl, _, _, _, rfl, rfl, hs4, _, rfl, fun i => ?_⟩
        split
        · exact hx i
        · exact Nat.zero_le _
      · refine ws_seq (ws_ifF (s1 := [some (.own true sp2), some (.val (.int m)), some (.val (.int way)), some (.own false (fl m x)), c4, c5, none, none]) (by simp [fnV, fnW, initV, initW, mSeq, mIfS, mTest, mBin, mIx, mVar, mC, peek, peeks, seqD, asI, asB, atI, ixN, onI, mAsg, mFrz, frz, mTupNew, mCons, mNil, fDm, gTupD, gsCons, gsNil, gSubD, gPut, put, ownAt, mRet, toRet, port0, mSkip, mCS, mCL, fI1, fI2, mSet, mPar, mPar3, Dm.plain, mTup, mLst, vals, mTupOf, fTup, fLen, mIf, mIfS, mNotT, mChain, mTyIs, tyD, noFrz, mIxK, mAndT, mOrT, mAndV, mOrV, mNotV, mExpr, mCallV, mCallW, rOf, mUn, fNeg, fList, fRg1, fRg2, fRg3, mRng, mSeqI, mYes, wipeS, mRep, fEq_int]; omega) ?_)
        refine ws_skip ⟨_, rfl, ?_⟩
        exact ws_ret ⟨_, _, rfl, _, rfl, _, _, _, rfl, rfl, hs2, _, rfl, hx⟩
  obtain ⟨o, eo, r, s, ys, rfl, hp, hs, x, rfl, hx⟩ := key
  refine ⟨x, ys, ?_, hs, hx⟩
  unfold fn__law_some fnW
  rw [if_pos (by rfl), eo]
  show (port0 s).bind _ = _
  rw [hp]
  rfl
end Nb
set_option Elab.async false
set_option linter.all false
set_option maxRecDepth 100000
set_option maxHeartbeats 4000000
namespace Nb
open PySem PySem.Spec L2 Dm Nz
set_option autoImplicit false
theorem frz_gen {m : ME} {s s1 s2 : S} {r : R} {d : D} (h : m s = some (r, s1)) (hf : frz r s1 = some (d, s2)) : mFrz m s = some (.val d, s2) := by
  unfold mFrz
  rw [h]
  show (frz r s1).bind _ = _
  rw [hf]
  rfl
theorem fnW_run {nv np : Nat} {b : MS} {xs ds : List D} {P : Ret → List D → Prop} (hl : ds.length + 1 = np) (key : WS b (initW nv xs ds) fun o => ∃ r s ys, o = .rt r s ∧ port0 s = some ys ∧ P r ys) : ∃ r ys, fnW nv np b xs ds = some (r, ys) ∧ P r ys := by
  obtain ⟨o, eo, r, s, ys, rfl, hp, h⟩ := key
  refine ⟨r, ys, ?_, h⟩
  unfold fnW
  rw [if_pos hl, eo]
  show (port0 s).bind _ = _
  rw [hp]
  rfl
/-- entries below ten to the twelfth -/
def Bz {n : Nat} (x : Z n) : Prop := ∀ i, (x.f i).natAbs ≤ 10 ^ 12
theorem Bz.sb {n : Nat} {x : Z n} (h : Bz x) : Sb x := fun i => okM_64 (Nat.lt_of_le_of_lt (h i) (by decide))
theorem wL_mk0 {n : Nat} (x : Nat → Int) : D.lst (fl (dg n) x) = wL (Z.mk0 n x) := by
  unfold wL
  rw [fl_congr (y := (Z.mk0 n x).f) fun k hk => (Z.mk0_f hk).symm]
theorem Bz_mk0 {n : Nat} {x : Nat → Int} (h : B12 x) : Bz (Z.mk0 n x) := fun i => by
  show (if i < dg n then x i else 0).natAbs ≤ _
  split
  · exact h i
  · exact Nat.zero_le _
theorem rows_ok2 {n : Nat} (h : 2 ≤ n) (h2 : n ≤ 12) {sp : List D} (hw : Wl sp) : ∃ (x : Nat → Z n) (sp' : List D), fn__law_rows sp [rg n] = some (.own ((List.range n).map fun j => wL (x j)), sp') ∧ Wl sp' ∧ ∀ j, Bz (x j) := by
  have hd := dg_pos h h2
  generalize hr : rg n = r
  have er : r = .lst ((List.range n).map fun (j : Nat) => wL (w n j)) := hr.symm
  have key : WS b__law_rows (initW 6 sp [r]) fun o => ∃ r' s ys, o = .rt r' s ∧ port0 s = some ys ∧ Wl ys ∧ ∃ x : Nat → Z n, r' = .own ((List.range n).map fun j => wL (x j)) ∧ ∀ j, Bz (x j) := by
    unfold b__law_rows
    obtain ⟨way, sp1, e1, hs1, hway⟩ := next_ok hw (w := 3) (by decide) (by decide)
    have ln : ∀ {s : S}, mVar 1 s = some (.val r, s) → mCS fLen (mCons (mVar 1) mNil) s = some (.val (.int n), s) := fun h0 => by
      have := len_of (d := r) h0 rfl (.inl er)
      rw [List.length_map, List.length_range] at this
      exact this
    have ln0 : ∀ {s : S}, mVar 1 s = some (.val r, s) → mCS fLen (mCons (mIx (mVar 1) (mC (.int 0))) mNil) s = some (.val (.int (dg n)), s) := fun h0 => by
      have e1 := mIx_of (d := r) (mb := mC (.int 0)) h0 rfl rfl (by rw [er]; rfl) (atI_of (j := 0) (i := 0) rfl (rL_get (fun j : Nat => w n j) (show 0 < n by omega)))
      have e2 := len_of e1 rfl (.inl rfl)
      rw [fl_len] at e2
      exact e2
    refine ws_step (s1 := [some (.own true sp1), some (.val r), some (.val (.int way)), some (.own false []), none, none]) (by simp [fnV, fnW, initV, initW, mSeq, mIfS, mTest, mBin, mIx, mVar, mC, peek, peeks, seqD, asI, asB, atI, ixN, onI, mAsg, mFrz, frz, mTupNew, mCons, mNil, fDm, gTupD, gsCons, gsNil, gSubD, gPut, put, ownAt, mRet, toRet, port0, mSkip, mCS, mCL, fI1, fI2, mSet, mPar, mPar3, Dm.plain, mTup, mLst, vals, mTupOf, fTup, fLen, mIf, mIfS, mNotT, mChain, mTyIs, tyD, noFrz, mIxK, mAndT, mOrT, mAndV, mOrV, mNotV, mExpr, mCallV, mCallW, rOf, mUn, fNeg, fList, fRg1, fRg2, fRg3, mRng, mSeqI, mYes, wipeS, mRep, e1]) ?_
    refine ws_seq (ws_for ⟨(List.range n).map nI, [some (.own true sp1), some (.val r), some (.val (.int way)), some (.own false []), none, none], rng1_of n (cons_of (ln rfl) rfl) rfl rfl (by omega), ws_rng (fun k s => ∃ (sp2 : List D) (x : Nat → Z n) (c4 c5 : Option Cell), s = [some (.own true sp2), some (.val r), some (.val (.int way)), some (.own false ((List.range k).map fun j => wL (x j))), c4, c5] ∧ Wl sp2 ∧ Fr c4 = true ∧ Fr c5 = true ∧ ∀ j, Bz (x j)) n ⟨sp1, fun _ => 0, none, none, rfl, hs1, rfl, rfl, fun j i => by rw [zero_f]; exact Nat.zero_le _⟩ ?_ ?_⟩)
    · rintro k s hk ⟨sp2, x, c4, c5, rfl, hs2, f4, f5, hx⟩
      generalize hfd : (List.range k).map (fun j => wL (x j)) = fd
      have lfd : fd.length = k := by rw [← hfd]; simp
      refine ⟨[some (.own true sp2), some (.val r), some (.val (.int way)), some (.own false fd), some (.val (.int k)), c5], put_valF (c := c4) rfl f4, ?_⟩
      obtain ⟨y, sp3, e3, hs3, hy⟩ := some_ok hs2 (m := dg n) (by omega) (by omega)
      have e3' : mCallW fn__law_some (mVar 0) (mCons (mFrz (mCS fLen (mCons (mIx (mVar 1) (mC (.int 0))) mNil))) mNil) [some (.own true sp2), some (.val r), some (.val (.int way)), some (.own false fd), some (.val (.int k)), c5] = some (.own (fl (dg n) y), [some (.own true sp3), some (.val r), some (.val (.int way)), some (.own false fd), some (.val (.int k)), c5]) := by
        unfold mCallW
        show ((mCons (mFrz (mCS fLen (mCons (mIx (mVar 1) (mC (.int 0))) mNil))) mNil) _).bind _ = _
        rw [cons_of (frzV_of (ln0 rfl)) rfl]
        show (fn__law_some sp2 [.int (dg n)]).bind _ = _
        rw [e3]
        rfl
      refine ws_step (s1 := [some (.own true sp3), some (.val r), some (.val (.int way)), some (.own false fd), some (.val (.int k)), some (.own false (fl (dg n) y))]) (set_of e3' (put_ownF (c := c5) rfl f5)) ?_
      -- what is put in
      have fin : ∀ (z : Z n) (sp4 : List D) (c5 : Option Cell), Wl sp4 → Fr c5 = true → Bz z → mFrz (mIf (mAndT (mTest (mBin fEq (mVar 2) (mC (.int 0)))) (mTest (mBin fGt (mCallW fn__law_next (mVar 0) (mCons (mFrz (mC (.int 4))) mNil)) (mC (.int 0))))) (mRep (mLst (mCons (mFrz (mC (.int 0))) mNil)) (mCS fLen (mCons (mVar 5) mNil))) (mVar 5)) [some (.own true sp3), some (.val r), some (.val (.int way)), some (.own false fd), some (.val (.int k)), some (.own false (fl (dg n) y))] = some (.val (wL z), [some (.own true sp4), some (.val r), some (.val (.int way)), some (.own false fd), some (.val (.int k)), c5]) →
          WS (mExpr (mApp (mVar 3) (mFrz (mIf (mAndT (mTest (mBin fEq (mVar 2) (mC (.int 0)))) (mTest (mBin fGt (mCallW fn__law_next (mVar 0) (mCons (mFrz (mC (.int 4))) mNil)) (mC (.int 0))))) (mRep (mLst (mCons (mFrz (mC (.int 0))) mNil)) (mCS fLen (mCons (mVar 5) mNil))) (mVar 5))))) [some (.own true sp3), some (.val r), some (.val (.int way)), some (.own false fd), some (.val (.int k)), some (.own false (fl (dg n) y))] fun o => ∃ s2, (o = .nx s2 ∨ o = .ct s2) ∧ ∃ (sp2 : List D) (x : Nat → Z n) (c4 c5 : Option Cell), s2 = [some (.own true sp2), some (.val r), some (.val (.int way)), some (.own false ((List.range (k + 1)).map fun j => wL (x j))), c4, c5] ∧ Wl sp2 ∧ Fr c4 = true ∧ Fr c5 = true ∧ ∀ j, Bz (x j) := by
        intro z sp4 c5 hs4 f5 hz ev
        refine ws_nx (app_of (k := 3) rfl rfl ev rfl (by omega)) ⟨_, .inl rfl, sp4, fun j => if j = k then z else x j, some (.val (.int k)), c5, ?_, hs4, rfl, f5, fun j => ?_⟩
        · have e1 : (List.range (k + 1)).map (fun j => wL (if j = k then z else x j)) = fd ++ [wL z] := by
            rw [List.range_succ, List.map_append, List.map_singleton, if_pos rfl, ← hfd]
            congr 1
            refine List.map_congr_left fun i hi => ?_
            have := List.mem_range.1 hi
            rw [if_neg (by omega)]
          rw [e1]
          rfl
        · dsimp only
          split
          · exact hz
          · exact hx j
      by_cases hwy : way = 0
      · obtain ⟨u, sp4, e4, hs4, hu⟩ := next_ok hs3 (w := 4) (by decide) (by decide)
        by_cases hu0 : 0 < u
        · refine fin 0 sp4 (some (.own false (fl (dg n) y))) hs4 rfl (fun i => by rw [zero_f]; exact Nat.zero_le _) ?_
          have t : mAndT (mTest (mBin fEq (mVar 2) (mC (.int 0)))) (mTest (mBin fGt (mCallW fn__law_next (mVar 0) (mCons (mFrz (mC (.int 4))) mNil)) (mC (.int 0)))) [some (.own true sp3), some (.val r), some (.val (.int way)), some (.own false fd), some (.val (.int k)), some (.own false (fl (dg n) y))] = some (true, [some (.own true sp4), some (.val r), some (.val (.int way)), some (.own false fd), some (.val (.int k)), some (.own false (fl (dg n) y))]) := by
            simp [fnV, fnW, initV, initW, mSeq, mIfS, mTest, mBin, mIx, mVar, mC, peek, peeks, seqD, asI, asB, atI, ixN, onI, mAsg, mFrz, frz, mTupNew, mCons, mNil, fDm, gTupD, gsCons, gsNil, gSubD, gPut, put, ownAt, mRet, toRet, port0, mSkip, mCS, mCL, fI1, fI2, mSet, mPar, mPar3, Dm.plain, mTup, mLst, vals, mTupOf, fTup, fLen, mIf, mIfS, mNotT, mChain, mTyIs, tyD, noFrz, mIxK, mAndT, mOrT, mAndV, mOrV, mNotV, mExpr, mCallV, mCallW, rOf, mUn, fNeg, fList, fRg1, fRg2, fRg3, mRng, mSeqI, mYes, wipeS, mRep, fEq_int, hwy, e4, hu0]
          have rp := rep0 (s := [some (.own true sp4), some (.val r), some (.val (.int way)), some (.own false fd), some (.val (.int k)), some (.own false (fl (dg n) y))]) (m := dg n) (mb := mCS fLen (mCons (mVar 5) mNil)) (by omega) (by
            have := len_of (m := mVar 5) (s := [some (.own true sp4), some (.val r), some (.val (.int way)), some (.own false fd), some (.val (.int k)), some (.own false (fl (dg n) y))]) (d := .lst (fl (dg n) y)) rfl rfl (.inl rfl)
            rw [fl_len] at this
            exact this)
          have e0 : D.lst (fl (dg n) fun _ => 0) = wL (0 : Z n) := by
            unfold wL
            exact congrArg D.lst (fl_congr fun k _ => (zero_f k).symm)
          have := frz_of ((ifT_of (a := mRep (mLst (mCons (mFrz (mC (.int 0))) mNil)) (mCS fLen (mCons (mVar 5) mNil))) (b := mVar 5) t).trans rp)
          rw [e0] at this
          exact this
        · refine fin (Z.mk0 n y) sp4 (some (.val (.lst (fl (dg n) y)))) hs4 rfl (Bz_mk0 hy) ?_
          have t : mAndT (mTest (mBin fEq (mVar 2) (mC (.int 0)))) (mTest (mBin fGt (mCallW fn__law_next (mVar 0) (mCons (mFrz (mC (.int 4))) mNil)) (mC (.int 0)))) [some (.own true sp3), some (.val r), some (.val (.int way)), some (.own false fd), some (.val (.int k)), some (.own false (fl (dg n) y))] = some (false, [some (.own true sp4), some (.val r), some (.val (.int way)), some (.own false fd), some (.val (.int k)), some (.own false (fl (dg n) y))]) := by
            simp [fnV, fnW, initV, initW, mSeq, mIfS, mTest, mBin, mIx, mVar, mC, peek, peeks, seqD, asI, asB, atI, ixN, onI, mAsg, mFrz, frz, mTupNew, mCons, mNil, fDm, gTupD, gsCons, gsNil, gSubD, gPut, put, ownAt, mRet, toRet, port0, mSkip, mCS, mCL, fI1, fI2, mSet, mPar, mPar3, Dm.plain, mTup, mLst, vals, mTupOf, fTup, fLen, mIf, mIfS, mNotT, mChain, mTyIs, tyD, noFrz, mIxK, mAndT, mOrT, mAndV, mOrV, mNotV, mExpr, mCallV, mCallW, rOf, mUn, fNeg, fList, fRg1, fRg2, fRg3, mRng, mSeqI, mYes, wipeS, mRep, fEq_int, hwy, e4, hu0]
          exact frz_gen (r := .slot 5) (ifF_of t) (by rw [← wL_mk0]; rfl)
      · refine fin (Z.mk0 n y) sp3 (some (.val (.lst (fl (dg n) y)))) hs3 rfl (Bz_mk0 hy) ?_
        have t : mAndT (mTest (mBin fEq (mVar 2) (mC (.int 0)))) (mTest (mBin fGt (mCallW fn__law_next (mVar 0) (mCons (mFrz (mC (.int 4))) mNil)) (mC (.int 0)))) [some (.own true sp3), some (.val r), some (.val (.int way)), some (.own false fd), some (.val (.int k)), some (.own false (fl (dg n) y))] = some (false, [some (.own true sp3), some (.val r), some (.val (.int way)), some (.own false fd), some (.val (.int k)), some (.own false (fl (dg n) y))]) := by
          simp [fnV, fnW, initV, initW, mSeq, mIfS, mTest, mBin, mIx, mVar, mC, peek, peeks, seqD, asI, asB, atI, ixN, onI, mAsg, mFrz, frz, mTupNew, mCons, mNil, fDm, gTupD, gsCons, gsNil, gSubD, gPut, put, ownAt, mRet, toRet, port0, mSkip, mCS, mCL, fI1, fI2, mSet, mPar, mPar3, Dm.plain, mTup, mLst, vals, mTupOf, fTup, fLen, mIf, mIfS, mNotT, mChain, mTyIs, tyD, noFrz, mIxK, mAndT, mOrT, mAndV, mOrV, mNotV, mExpr, mCallV, mCallW, rOf, mUn, fNeg, fList, fRg1, fRg2, fRg3, mRng, mSeqI, mYes, wipeS, mRep, fEq_int]
          omega
        exact frz_gen (r := .slot 5) (ifF_of t) (by rw [← wL_mk0]; rfl)
    · rintro s ⟨sp2, x, c4, c5, rfl, hs2, f4, f5, hx⟩
      refine ⟨_, rfl, ?_⟩
      exact ws_ret ⟨_, _, rfl, _, rfl, _, _, _, rfl, rfl, hs2, x, rfl, hx⟩
  obtain ⟨r', ys, e, hs, x, rfl, hx⟩ := fnW_run (np := 2) rfl key
  exact ⟨x, ys, e, hs, hx⟩
theorem size_ok {sp : List D} (hw : Wl sp) {l : List Int} (h0 : l ≠ []) (h1 : l.length < 1000000) (hl : ∀ i ∈ l, 2 ≤ i ∧ i ≤ 12) : ∃ (n : Nat) (sp' : List D), fn__law_size sp [.lst (l.map D.int)] = some (.val (.int n), sp') ∧ Wl sp' ∧ 2 ≤ n ∧ n ≤ 12 := by
  have key : WS b__law_size (initW 2 sp [.lst (l.map D.int)]) fun o => ∃ r s ys, o = .rt r s ∧ port0 s = some ys ∧ Wl ys ∧ ∃ n : Nat, r = .val (.int n) ∧ 2 ≤ n ∧ n ≤ 12 := by
    unfold b__law_size
    obtain ⟨q, sp1, e1, hs1, hq⟩ := next_ok hw (w := 10) (by decide) (by decide)
    by_cases hz : q = 0
    · obtain ⟨i, sp2, e2, hs2, hi⟩ := pick_int hs1 h0 h1
      obtain ⟨b1, b2⟩ := hl i hi
      refine ws_ret ⟨.val (.int i), [some (.own true sp2), some (.val (.lst (l.map D.int)))], ?_, _, rfl, _, _, sp2, rfl, rfl, hs2, i.toNat, ?_, by omega, by omega⟩
      · simp [fnV, fnW, initV, initW, mSeq, mIfS, mTest, mBin, mIx, mVar, mC, peek, peeks, seqD, asI, asB, atI, ixN, onI, mAsg, mFrz, frz, mTupNew, mCons, mNil, fDm, gTupD, gsCons, gsNil, gSubD, gPut, put, ownAt, mRet, toRet, port0, mSkip, mCS, mCL, fI1, fI2, mSet, mPar, mPar3, Dm.plain, mTup, mLst, vals, mTupOf, fTup, fLen, mIf, mIfS, mNotT, mChain, mTyIs, tyD, noFrz, mIxK, mAndT, mOrT, mAndV, mOrV, mNotV, mExpr, mCallV, mCallW, rOf, mUn, fNeg, fList, fRg1, fRg2, fRg3, mRng, mSeqI, mYes, wipeS, mRep, fEq_int, e1, hz, e2]
      · rw [Int.toNat_of_nonneg (by omega)]
    · obtain ⟨i, sp2, e2, hs2, hi⟩ := pick_int hs1 (l := [2, 3, 4, 5, 6, 3, 4, 6, 4, 6]) (by decide) (by decide)
      have b : 2 ≤ i ∧ i ≤ 12 := (by decide : ∀ i ∈ [2, 3, 4, 5, 6, 3, 4, 6, 4, (6 : Int)], 2 ≤ i ∧ i ≤ 12) i hi
      have e2' : fn__law_pick sp1 [.lst [.int 2, .int 3, .int 4, .int 5, .int 6, .int 3, .int 4, .int 6, .int 4, .int 6]] = some (.val (.int i), sp2) := e2
      refine ws_ret ⟨.val (.int i), [some (.own true sp2), some (.val (.lst (l.map D.int)))], ?_, _, rfl, _, _, sp2, rfl, rfl, hs2, i.toNat, ?_, by omega, by omega⟩
      · have hz' : ¬ ((q : Int) = 0) := by omega
        simp [fnV, fnW, initV, initW, mSeq, mIfS, mTest, mBin, mIx, mVar, mC, peek, peeks, seqD, asI, asB, atI, ixN, onI, mAsg, mFrz, frz, mTupNew, mCons, mNil, fDm, gTupD, gsCons, gsNil, gSubD, gPut, put, ownAt, mRet, toRet, port0, mSkip, mCS, mCL, fI1, fI2, mSet, mPar, mPar3, Dm.plain, mTup, mLst, vals, mTupOf, fTup, fLen, mIf, mIfS, mNotT, mChain, mTyIs, tyD, noFrz, mIxK, mAndT, mOrT, mAndV, mOrV, mNotV, mExpr, mCallV, mCallW, rOf, mUn, fNeg, fList, fRg1, fRg2, fRg3, mRng, mSeqI, mYes, wipeS, mRep, fEq_int, e1, hz, e2', hz']
      · rw [Int.toNat_of_nonneg (by omega)]
  obtain ⟨r, ys, e, hs, n, rfl, h⟩ := fnW_run (np := 2) rfl key
  exact ⟨n, ys, e, hs, h⟩
end Nb
set_option Elab.async false
set_option linter.all false
set_option maxRecDepth 100000
set_option maxHeartbeats 4000000
namespace Nb
open PySem PySem.Spec L2 Dm Nz
set_option autoImplicit false
/-! ### bounds -/
def Bd {n : Nat} (B : Nat) (x : Z n) : Prop := ∀ i, (x.f i).natAbs ≤ B
theorem abs_Sm {B : Nat} : ∀ (m : Nat) (f : Nat → Int), (∀ i, i < m → (f i).natAbs ≤ B) → (Sm m f).natAbs ≤ m * B
  | 0, f, _ => by rw [Sm_zero]; exact Nat.zero_le _
  | m + 1, f, h => by
    rw [Sm_succ, Nat.succ_mul]
    have h1 := abs_Sm m f fun i hi => h i (by omega)
    have h2 := h m (by omega)
    have h3 := Int.natAbs_add_le (Sm m f) (f m)
    omega
section
variable {n : Nat}
theorem Bd.mono {A B : Nat} {x : Z n} (h : Bd A x) (hl : A ≤ B) : Bd B x := fun i => Nat.le_trans (h i) hl
theorem Bz.bd {x : Z n} (h : Bz x) : Bd (10 ^ 12) x := h
theorem Bd_zero (B : Nat) : Bd B (0 : Z n) := fun i => by rw [zero_f]; exact Nat.zero_le _
theorem Bd_w (e : Int) : Bd 1 (w n e) := fun i => by
  have := sg_L n e i
  show (sg n e i).natAbs ≤ 1
  omega
theorem Bd_add {A B : Nat} {x y : Z n} (hx : Bd A x) (hy : Bd B y) : Bd (A + B) (x + y) := fun i => by
  rw [add_f]
  have := hx i
  have := hy i
  omega
theorem Bd_cmul {B : Nat} (c : Int) {x : Z n} (hx : Bd B x) : Bd (c.natAbs * B) ((c : Z n) * x) := fun i => by
  rw [icast_f, Int.natAbs_mul]
  exact Nat.mul_le_mul_left _ (hx i)
theorem Bd_Sm {B m : Nat} {f : Nat → Z n} (h : ∀ j, j < m → Bd B (f j)) : Bd (m * B) (Sm m f) := fun i => by
  rw [Sm_f]
  exact abs_Sm m _ fun j hj => h j hj i
theorem dg_le (n : Nat) : dg n ≤ 10 := by
  by_cases q : 2 ≤ n ∧ n ≤ 12
  · rcases Nz.sizes q.1 q.2 with rfl | rfl | rfl | rfl | rfl | rfl | rfl | rfl | rfl | rfl | rfl <;> decide
  · rw [dg_else q]; decide
theorem Bd_mul {A B : Nat} {x y : Z n} (hx : Bd A x) (hy : Bd B y) : Bd (100 * (A * B)) (x * y) := fun k => by
  by_cases hk : k < dg n
  · rw [mul_f _ _ hk]
    have h1 : ∀ i, i < dg n → (Sm (dg n) fun j => x.f i * y.f j * sg n ((i : Int) + j) k).natAbs ≤ 10 * (A * B) := fun i _ => by
      refine Nat.le_trans (abs_Sm (B := A * B) (dg n) _ fun j _ => ?_) (Nat.mul_le_mul_right _ (dg_le n))
      rw [Int.natAbs_mul, Int.natAbs_mul]
      have := sg_L n ((i : Int) + j) k
      refine Nat.le_trans (Nat.mul_le_mul (Nat.mul_le_mul (hx i) (hy j)) (show (sg n ((i : Int) + j) k).natAbs ≤ 1 by omega)) ?_
      omega
    refine Nat.le_trans (abs_Sm (dg n) _ h1) ?_
    have := Nat.mul_le_mul_right (10 * (A * B)) (dg_le n)
    omega
  · rw [(x * y).h k (by omega)]
    exact Nat.zero_le _
theorem Bd_ft {B : Nat} {x : Nat → Z n} (h : ∀ j, Bd B (x j)) (dr : Int) (k : Nat) : Bd (n * (100 * B)) (ft x dr k) := Bd_Sm fun j _ => ((Bd_mul (h j) (Bd_w (n := n) (dr * j * k))).mono (by omega))
theorem Bd.sb {B : Nat} {x : Z n} (h : Bd B x) (hB : B ≤ 10 ^ 200) : Sb x := fun i => okM_of (Nat.lt_of_le_of_lt (Nat.le_trans (h i) hB) (by decide))
end
/-! ### what is shown -/
structure Sh (e b : Nat) (d : D) : Prop where
  mi : mid d = true
  de : (toP d).depth ≤ e
  bu : (toP d).bulk ≤ b
theorem toPs_map {α : Type} (f : α → D) : ∀ l : List α, toPs (l.map f) = l.map fun a => toP (f a)
  | [] => rfl
  | a :: l => by
    show toP (f a) :: toPs (l.map f) = _
    rw [toPs_map f l]
    rfl
theorem shs_map {α : Type} {e b : Nat} {f : α → D} : ∀ {l : List α}, (∀ a ∈ l, Sh e b (f a)) → mids (l.map f) = true ∧ PyData.depthAll (toPs (l.map f)) ≤ e ∧ PyData.bulkAll (toPs (l.map f)) ≤ (b + 1) * l.length
  | [], _ => ⟨rfl, Nat.zero_le _, Nat.zero_le _⟩
  | a :: l, h => by
    obtain ⟨h1, h2, h3⟩ := h a List.mem_cons_self
    obtain ⟨i1, i2, i3⟩ := shs_map (l := l) fun x hx => h x (List.mem_cons_of_mem _ hx)
    refine ⟨?_, ?_, ?_⟩
    · show (mid (f a) && mids (l.map f)) = true
      rw [h1, i1]; rfl
    · show max (toP (f a)).depth (PyData.depthAll (toPs (l.map f))) ≤ e
      exact Nat.max_le.2 ⟨h2, i2⟩
    · show (toP (f a)).bulk + 1 + PyData.bulkAll (toPs (l.map f)) ≤ (b + 1) * (l.length + 1)
      rw [Nat.mul_succ]
      omega
theorem sh_tup {α : Type} {e b N : Nat} {f : α → D} {l : List α} (h : ∀ a ∈ l, Sh e b (f a)) (hN : l.length ≤ N) : Sh (e + 1) ((b + 1) * N) (.tup (l.map f)) := by
  obtain ⟨i1, i2, i3⟩ := shs_map h
  exact ⟨i1, Nat.succ_le_succ i2, Nat.le_trans i3 (Nat.mul_le_mul_left _ hN)⟩
theorem sh_lst {α : Type} {e b N : Nat} {f : α → D} {l : List α} (h : ∀ a ∈ l, Sh e b (f a)) (hN : l.length ≤ N) : Sh (e + 1) ((b + 1) * N) (.lst (l.map f)) := by
  obtain ⟨i1, i2, i3⟩ := shs_map h
  exact ⟨i1, Nat.succ_le_succ i2, Nat.le_trans i3 (Nat.mul_le_mul_left _ hN)⟩
theorem sh_l2 {e b : Nat} {d d' : D} (h : Sh e b d) (h' : Sh e b d') : Sh (e + 1) ((b + 1) * 2) (.lst [d, d']) := sh_lst (f := id) (l := [d, d']) (N := 2) (fun a ha => by
  rcases List.mem_cons.1 ha with rfl | ha
  · exact h
  · rw [List.mem_singleton.1 ha]; exact h') (Nat.le_refl _)
theorem sh_fr {a b : Int} (hb : 0 < b) (ha : a.natAbs < 10 ^ 80) (hb2 : b < 10 ^ 80) : Sh 1 2 (fr a b) := by
  have h1 := Nat.lt_of_le_of_lt (nu_abs (a := a) hb) ha
  have h3 := de_pos (a := a) hb
  have h4 := Int.le_of_dvd hb (de_dvd a b)
  have m1 : midI (nu a b) = true := midI_of h1
  have m2 : midI (de a b) = true := midI_of (by omega)
  refine ⟨?_, Nat.le_refl _, Nat.le_refl _⟩
  show (midI (nu a b) && (midI (de a b) && true)) = true
  rw [m1, m2]
  rfl
theorem sh_fs {m N : Nat} {x : Nat → Int} {b : Int} (hb : 0 < b) (hx : ∀ k, (x k).natAbs < 10 ^ 80) (hb2 : b < 10 ^ 80) (hN : m ≤ N) : Sh 2 (3 * N) (.tup (fs m x b)) := sh_tup (l := List.range m) (fun k _ => sh_fr hb (hx k) hb2) (by rw [List.length_range]; exact hN)
theorem sh_nm {n : Nat} {x : Z n} {b : Int} {B : Nat} (hb : 0 < b) (hx : Bd B x) (hB : B < 10 ^ 80) (hb2 : b < 10 ^ 80) : Sh 2 30 (nm x b) := sh_fs (N := 10) hb (fun k => Nat.lt_of_le_of_lt (hx k) hB) hb2 (dg_le n)
theorem sh_row {n N : Nat} {x : Nat → Z n} {b : Nat → Int} {B : Nat} (hb : ∀ j, 0 < b j) (hx : ∀ j, Bd B (x j)) (hB : B < 10 ^ 80) (hb2 : ∀ j, b j < 10 ^ 80) (hN : N ≤ 12) : Sh 3 372 (.tup (rw n N x b)) := sh_tup (l := List.range N) (fun k _ => sh_nm (hb k) (hx k) hB (hb2 k)) (by rw [List.length_range]; exact hN)
/-- the text -/
def RD (d : D) : Str := (toP d).shown
theorem sh_repr {e b : Nat} {d : D} (h : Sh e b d) (he : e ≤ 60) (hb : b ≤ 20000) : fRepr [d] = some (.str (RD d)) := repr_mid h.mi (Nat.le_trans h.de he) (Nat.le_trans h.bu hb)
theorem sh_str {e b : Nat} {d : D} (h : Sh e b d) : shp (.str (RD d)) = true := shp_str (mid_wm d h.mi).so
theorem sh_ne {e b : Nat} {d : D} (h : Sh e b d) : fNe (.str (RD d)) (.str (RD d)) = some (.bl false) := by
  unfold fNe
  rw [sh_str h]
  simp [toP, PyData.eqv]
theorem sh_eq {e b : Nat} {d : D} (h : Sh e b d) : fEq (.str (RD d)) (.str (RD d)) = some (.bl true) := by
  unfold fEq
  rw [sh_str h]
  simp [toP, PyData.eqv]
/-- repr(..) of a thing that is made -/
theorem reprOf {m : ME} {s : S} {r : R} {d : D} {e b : Nat} (h : m s = some (r, s)) (hp : peek r s = some d) (hs : Sh e b d) (he : e ≤ 60) (hb : b ≤ 20000) : mCS fRepr (mCons m mNil) s = some (.val (.str (RD d)), s) := repr_of h hp (sh_repr hs he hb)
/-- repr(..) != repr(..): no -/
theorem neOf {m m' : ME} {s : S} {r r' : R} {d : D} {e b : Nat} (h : m s = some (r, s)) (hp : peek r s = some d) (h' : m' s = some (r', s)) (hp' : peek r' s = some d) (hs : Sh e b d) (he : e ≤ 60) (hb : b ≤ 20000) : mBin fNe (mCS fRepr (mCons m mNil)) (mCS fRepr (mCons m' mNil)) s = some (.val (.bl false), s) :=
  mBin_of (reprOf h hp hs he hb) (reprOf h' hp' hs he hb) (sh_ne hs)
theorem eqOf {m m' : ME} {s : S} {r r' : R} {d : D} {e b : Nat} (h : m s = some (r, s)) (hp : peek r s = some d) (h' : m' s = some (r', s)) (hp' : peek r' s = some d) (hs : Sh e b d) (he : e ≤ 60) (hb : b ≤ 20000) : mBin fEq (mCS fRepr (mCons m mNil)) (mCS fRepr (mCons m' mNil)) s = some (.val (.bl true), s) :=
  mBin_of (reprOf h hp hs he hb) (reprOf h' hp' hs he hb) (sh_eq hs)
end Nb
set_option Elab.async false
set_option linter.all false
set_option maxRecDepth 100000
set_option maxHeartbeats 4000000
namespace Nb
open PySem PySem.Spec L2 Dm Nz
set_option autoImplicit false
theorem callWn_of {f : FnW} {mo : ME} {ms : MA} {s s1 s2 : S} {xs ys ds : List D} {rs : List R} {r : Ret} (ho : mo s = some (.own xs, s1)) (hm : ms s1 = some (rs, s2)) (hv : vals rs = some ds) (hf : f xs ds = some (r, ys)) : mCallW f mo ms s = some (rOf r, s2) := by
  unfold mCallW
  rw [ho]
  show (ms s1).bind _ = _
  rw [hm]
  show (vals rs).bind _ = _
  rw [hv]
  show (f xs ds).bind _ = _
  rw [hf]
  rfl
theorem cs_of {f : List D → Option D} {ms : MA} {s s1 : S} {rs : List R} {ds : List D} {z : D} (h : ms s = some (rs, s1)) (hp : peeks rs s1 = some ds) (hf : f ds = some z) : mCS f ms s = some (.val z, s1) := by
  unfold mCS
  rw [h]
  show (peeks rs s1).bind _ = _
  rw [hp]
  show (f ds).bind _ = _
  rw [hf]
  rfl
/-! ### the well, whatever its two numbers -/
def mkwell (A B : Int) : MS :=
  (mSeq (mSet 2 (mIf (mTest (mBin fLt (mVar 1) (mCS fLen (mCons (mVar 0) mNil)))) (mCS (fI1 fun i => i) (mCons (mIx (mVar 0) (mVar 1)) mNil)) (mBin fAdd (mBin fAdd (mBin fMulA (mC (.int 6007)) (mVar 1)) (mC (.int 41))) (mBin fMod (mCS (fI1 fun i => i) (mCons (mCS fSum (mCons (mSlL (mVar 0) mNo (mPart (mC (.int 1)))) mNil)) mNil)) (mC (.int 1000003))))))
  (mSeq (mSet 3 (mBin fAdd (mC (.int A)) (mBin fMulA (mC (.int B)) (mVar 1))))
  (mSeq (mFor (mSeqI (mCatL (mSlL (mVar 0) mNo (mPart (mC (.int 9)))) (mLst (mCons (mFrz (mVar 2)) mNil)))) (gPut 4) (mSet 3 (mBin fMod (mCS (fI1 fun i => i) (mCons (mBin fAdd (mBin fAdd (mBin fMulA (mVar 3) (mC (.int 69069))) (mBin fMulA (mBin fMod (mCS (fI1 fun i => i) (mCons (mVar 4) mNil)) (mC (.int 2147483629))) (mC (.int 30011)))) (mC (.int 19))) mNil)) (mC (.int 2147483629)))))
  (mRet (mLst (mCons (mFrz (mIf (mOrT (mTest (mBin fLt (mVar 2) (mC (.int 0)))) (mTest (mBin fGe (mVar 2) (mBin fPow (mC (.int 10)) (mC (.int 16)))))) (mCS (fI1 gAbs) (mCons (mVar 2) mNil)) (mC (.int 0)))) (mCons (mFrz (mVar 3)) (mCons (mFrz (mC (.int 0))) mNil))))))))
theorem take_cut (xs : List D) (k : Nat) : cutD xs none (some (k : Int)) = xs.take k := by
  unfold cutD
  rw [HT.sIx_none, HT.sIx_nat, List.drop_zero, Nat.sub_zero]
  by_cases h : k ≤ xs.length
  · rw [Nat.min_eq_left h]
  · rw [Nat.min_eq_right (by omega), List.take_of_length_le (Nat.le_refl _), List.take_of_length_le (by omega)]
theorem sl_ok {s : S} {i : Nat} {xs : List D} (k : Nat) {ki : Int} (hk : ki = k) (h : mVar i s = some (.val (.lst xs), s)) : mSlL (mVar i) mNo (mPart (mC (.int ki))) s = some (.own (xs.take k), s) := by
  subst hk
  unfold mSlL
  rw [h]
  show some (R.own (cutD xs none (some (k : Int))), s) = _
  rw [take_cut]
theorem sum_take (ns : List Int) (k : Nat) : fSum [.lst ((ns.map D.int).take k)] = some (.int (ns.take k).sum) := by
  rw [← List.map_take]
  show Option.map (fun ns : List Int => D.int ns.sum) (intsD ((ns.take k).map D.int)) = _
  rw [ints_map]
  rfl
theorem well_gen {A B : Int} (hA : 0 ≤ A) (hA2 : A < 1000000) (hB : 0 ≤ B) (hB2 : B < 100000) (ns : List Int) (t : Nat) (ht : t < 1000) : ∃ sp, fnV 5 2 (mkwell A B) [.lst (ns.map D.int), .int t] = some (.own sp) ∧ Wl sp := by
  have key : WS (mkwell A B) (initV 5 [.lst (ns.map D.int), .int t]) fun o => ∃ r s, o = .rt r s ∧ ∃ sp, r = .own sp ∧ Wl sp := by
    unfold mkwell
    have m0 : CMulA 6007 (t : Int) := CMulA.l _ (by decide) (by decide)
    have m1 : CMulA B (t : Int) := CMulA.l _ (by omega) (by omega)
    have m2 : ∀ x, CMulA x 69069 := fun x => CMulA.r _ (by decide) (by decide)
    have m3 : ∀ x, CMulA x 30011 := fun x => CMulA.r _ (by decide) (by decide)
    have cp : CPow 10 16 := by decide
    generalize hsc : D.lst (ns.map D.int) = sc
    have esc : sc = .lst (ns.map D.int) := hsc.symm
    -- the cell
    have cell : ∃ z : Int, mSet 2 (mIf (mTest (mBin fLt (mVar 1) (mCS fLen (mCons (mVar 0) mNil)))) (mCS (fI1 fun i => i) (mCons (mIx (mVar 0) (mVar 1)) mNil)) (mBin fAdd (mBin fAdd (mBin fMulA (mC (.int 6007)) (mVar 1)) (mC (.int 41))) (mBin fMod (mCS (fI1 fun i => i) (mCons (mCS fSum (mCons (mSlL (mVar 0) mNo (mPart (mC (.int 1)))) mNil)) mNil)) (mC (.int 1000003))))) [some (.val sc), some (.val (.int t)), none, none, none] = some (.nx [some (.val sc), some (.val (.int t)), some (.val (.int z)), none, none]) := by
      have hlen : mCS fLen (mCons (mVar 0) mNil) [some (.val sc), some (.val (.int t)), none, none, none] = some (.val (.int (ns.map D.int).length), [some (.val sc), some (.val (.int t)), none, none, none]) := len_of rfl rfl (.inl esc)
      rw [List.length_map] at hlen
      by_cases hlt : t < ns.length
      · refine ⟨ns[t], set_of (s1 := [some (.val sc), some (.val (.int t)), none, none, none]) (r := .val (.int ns[t])) ?_ rfl⟩
        rw [ifT_of (mTest_of (mBin_of rfl hlen (by simp [onI]; exact hlt)))]
        refine mInt_of (mIx_of (d := sc) (xs := ns.map D.int) rfl rfl rfl (by rw [esc]; rfl) (atI_of rfl ?_))
        rw [List.getElem?_map, List.getElem?_eq_getElem hlt]
        rfl
      · refine ⟨6007 * t + 41 + ((ns.take 1).sum).fmod 1000003, set_of (s1 := [some (.val sc), some (.val (.int t)), none, none, none]) (r := .val (.int (6007 * t + 41 + ((ns.take 1).sum).fmod 1000003))) ?_ rfl⟩
        rw [ifF_of (mTest_of (mBin_of rfl hlen (by simp [onI]; omega)))]
        have sm : mCS fSum (mCons (mSlL (mVar 0) mNo (mPart (mC (.int 1)))) mNil) [some (.val sc), some (.val (.int t)), none, none, none] = some (.val (.int (ns.take 1).sum), [some (.val sc), some (.val (.int t)), none, none, none]) :=
          cs_of (cons_of (sl_ok (xs := ns.map D.int) 1 rfl (by rw [← esc]; rfl)) rfl) rfl (sum_take ns 1)
        have fm : fMod (.int (ns.take 1).sum) (.int 1000003) = some (.int (((ns.take 1).sum).fmod 1000003)) := by simp [onI]
        exact mBin_of (mBin_of (mBin_of rfl rfl (fMulA_of m0)) rfl rfl) (mBin_of (mInt_of sm) rfl fm) rfl
    obtain ⟨z, cell⟩ := cell
    refine ws_step cell ?_
    refine ws_step (s1 := [some (.val sc), some (.val (.int t)), some (.val (.int z)), some (.val (.int (A + B * t))), none]) (by simp [fnV, fnW, initV, initW, mSeq, mIfS, mTest, mBin, mIx, mVar, mC, peek, peeks, seqD, asI, asB, atI, ixN, onI, mAsg, mFrz, frz, mTupNew, mCons, mNil, fDm, gTupD, gsCons, gsNil, gSubD, gPut, put, ownAt, mRet, toRet, port0, mSkip, mCS, mCL, fI1, fI2, mSet, mPar, mPar3, Dm.plain, mTup, mLst, vals, mTupOf, fTup, fLen, mIf, mIfS, mNotT, mChain, mTyIs, tyD, noFrz, mIxK, mAndT, mOrT, mAndV, mOrV, mNotV, mExpr, mCallV, mCallW, rOf, mUn, fNeg, fList, fRg1, fRg2, fRg3, mRng, mSeqI, mYes, wipeS, mRep, m1]) ?_
    have bt : 0 ≤ B * (t : Int) ∧ B * (t : Int) < 100000000 := ⟨Int.mul_nonneg hB (by omega), by
      have := Int.mul_le_mul_of_nonneg_left (show (t : Int) ≤ 999 by omega) hB
      omega⟩
    refine ws_seq (ws_for ⟨((ns.take 9) ++ [z]).map D.int, [some (.val sc), some (.val (.int t)), some (.val (.int z)), some (.val (.int (A + B * t))), none], ?_, ws_list D.int (fun _ s => ∃ (b : Int) (c4 : Option Cell), s = [some (.val sc), some (.val (.int t)), some (.val (.int z)), some (.val (.int b)), c4] ∧ 0 ≤ b ∧ b < 2147483629 ∧ Fr c4 = true) ((ns.take 9) ++ [z]) ⟨A + B * t, none, rfl, by omega, by omega, rfl⟩ ?_ ?_⟩)
    · have e1 : mCatL (mSlL (mVar 0) mNo (mPart (mC (.int 9)))) (mLst (mCons (mFrz (mVar 2)) mNil)) [some (.val sc), some (.val (.int t)), some (.val (.int z)), some (.val (.int (A + B * t))), none] = some (.own (((ns.take 9) ++ [z]).map D.int), [some (.val sc), some (.val (.int t)), some (.val (.int z)), some (.val (.int (A + B * t))), none]) := by
        unfold mCatL
        rw [sl_ok (xs := ns.map D.int) (ki := 9) 9 rfl (by rw [← esc]; rfl)]
        show (if ((ns.map D.int).take 9).length + [D.int z].length ≤ 100000 then _ else _) = _
        rw [if_pos (by simp; omega), ← List.map_take, List.map_append]
        rfl
      unfold mSeqI
      rw [e1]
      rfl
    · rintro dn x rest s hd ⟨b, c4, rfl, h0, h1, f4⟩
      refine ⟨[some (.val sc), some (.val (.int t)), some (.val (.int z)), some (.val (.int b)), some (.val (.int x))], put_valF (c := c4) rfl f4, ?_⟩
      refine ws_nx (s1 := [some (.val sc), some (.val (.int t)), some (.val (.int z)), some (.val (.int ((b * 69069 + x.fmod 2147483629 * 30011 + 19).fmod 2147483629))), some (.val (.int x))]) (by simp [fnV, fnW, initV, initW, mSeq, mIfS, mTest, mBin, mIx, mVar, mC, peek, peeks, seqD, asI, asB, atI, ixN, onI, mAsg, mFrz, frz, mTupNew, mCons, mNil, fDm, gTupD, gsCons, gsNil, gSubD, gPut, put, ownAt, mRet, toRet, port0, mSkip, mCS, mCL, fI1, fI2, mSet, mPar, mPar3, Dm.plain, mTup, mLst, vals, mTupOf, fTup, fLen, mIf, mIfS, mNotT, mChain, mTyIs, tyD, noFrz, mIxK, mAndT, mOrT, mAndV, mOrV, mNotV, mExpr, mCallV, mCallW, rOf, mUn, fNeg, fList, fRg1, fRg2, fRg3, mRng, mSeqI, mYes, wipeS, mRep, m2, m3]) ⟨_, .inl rfl, _, _, rfl, Int.fmod_nonneg_of_pos _ (by decide), Int.fmod_lt_of_pos _ (by decide), rfl⟩
    · rintro s ⟨b, c4, rfl, h0, h1, f4⟩
      refine ⟨_, rfl, ?_⟩
      refine ws_ret ?_
      by_cases hz : z < 0
      · exact ⟨.own [.int (gAbs z), .int b, .int 0], _, by simp [fnV, fnW, initV, initW, mSeq, mIfS, mTest, mBin, mIx, mVar, mC, peek, peeks, seqD, asI, asB, atI, ixN, onI, mAsg, mFrz, frz, mTupNew, mCons, mNil, fDm, gTupD, gsCons, gsNil, gSubD, gPut, put, ownAt, mRet, toRet, port0, mSkip, mCS, mCL, fI1, fI2, mSet, mPar, mPar3, Dm.plain, mTup, mLst, vals, mTupOf, fTup, fLen, mIf, mIfS, mNotT, mChain, mTyIs, tyD, noFrz, mIxK, mAndT, mOrT, mAndV, mOrV, mNotV, mExpr, mCallV, mCallW, rOf, mUn, fNeg, fList, fRg1, fRg2, fRg3, mRng, mSeqI, mYes, wipeS, mRep, cp, hz]; rfl, _, rfl, _, _, rfl, _, rfl, _, _, _, rfl, h0, h1⟩
      · by_cases hz2 : 10000000000000000 ≤ z
        · exact ⟨.own [.int (gAbs z), .int b, .int 0], _, by simp [fnV, fnW, initV, initW, mSeq, mIfS, mTest, mBin, mIx, mVar, mC, peek, peeks, seqD, asI, asB, atI, ixN, onI, mAsg, mFrz, frz, mTupNew, mCons, mNil, fDm, gTupD, gsCons, gsNil, gSubD, gPut, put, ownAt, mRet, toRet, port0, mSkip, mCS, mCL, fI1, fI2, mSet, mPar, mPar3, Dm.plain, mTup, mLst, vals, mTupOf, fTup, fLen, mIf, mIfS, mNotT, mChain, mTyIs, tyD, noFrz, mIxK, mAndT, mOrT, mAndV, mOrV, mNotV, mExpr, mCallV, mCallW, rOf, mUn, fNeg, fList, fRg1, fRg2, fRg3, mRng, mSeqI, mYes, wipeS, mRep, cp, hz, hz2]; rfl, _, rfl, _, _, rfl, _, rfl, _, _, _, rfl, h0, h1⟩
        · exact ⟨.own [.int 0, .int b, .int 0], _, by simp [fnV, fnW, initV, initW, mSeq, mIfS, mTest, mBin, mIx, mVar, mC, peek, peeks, seqD, asI, asB, atI, ixN, onI, mAsg, mFrz, frz, mTupNew, mCons, mNil, fDm, gTupD, gsCons, gsNil, gSubD, gPut, put, ownAt, mRet, toRet, port0, mSkip, mCS, mCL, fI1, fI2, mSet, mPar, mPar3, Dm.plain, mTup, mLst, vals, mTupOf, fTup, fLen, mIf, mIfS, mNotT, mChain, mTyIs, tyD, noFrz, mIxK, mAndT, mOrT, mAndV, mOrV, mNotV, mExpr, mCallV, mCallW, rOf, mUn, fNeg, fList, fRg1, fRg2, fRg3, mRng, mSeqI, mYes, wipeS, mRep, cp, hz, hz2]; rfl, _, rfl, _, _, rfl, _, rfl, _, _, _, rfl, h0, h1⟩
  obtain ⟨r, e, sp, rfl, h⟩ := fnV_ws (np := 2) key
  exact ⟨sp, e, h⟩
/-! ### the law, whatever a turn of it is -/
def mklaw (R : FnW) (W : FnV) : MS :=
  (mRet (mCS fAll (mCons (mLc [1] (mRng fRg1 (mCons (mCS (fI2 gMax) (mCons (mC (.int 2)) (mCons (mCS (fI2 gMin) (mCons (mCS fLen (mCons (mVar 0) mNil)) (mCons (mC (.int 3)) mNil))) mNil))) mNil)) (gPut 1) mYes (mCallW R (mCallV W (mCons (mFrz (mVar 0)) (mCons (mFrz (mVar 1)) mNil))) mNil)) mNil)))
theorem law_gen {R : FnW} {W : FnV} (ns : List Int) (hW : ∀ t : Nat, t < 1000 → ∃ sp, W [.lst (ns.map D.int), .int t] = some (.own sp) ∧ Wl sp) (hR : ∀ sp, Wl sp → ∃ ys, R sp [] = some (.val (.bl true), ys)) : fnV 2 1 (mklaw R W) [.lst (ns.map D.int)] = some (.val (.bl true)) := by
  obtain ⟨K, hK, hK2⟩ : ∃ K : Nat, gMax 2 (gMin (ns.length : Int) 3) = (K : Int) ∧ K ≤ 3 := by
    have hm : 0 ≤ gMin (ns.length : Int) 3 ∧ gMin (ns.length : Int) 3 ≤ 3 := by
      show 0 ≤ (if (3 : Int) < (ns.length : Int) then (3 : Int) else (ns.length : Int)) ∧ (if (3 : Int) < (ns.length : Int) then (3 : Int) else (ns.length : Int)) ≤ 3
      split <;> omega
    generalize gMin (ns.length : Int) 3 = m at hm
    have hx : 0 ≤ gMax 2 m ∧ gMax 2 m ≤ 3 := by
      show 0 ≤ (if m > 2 then m else 2) ∧ (if m > 2 then m else 2) ≤ 3
      split <;> omega
    exact ⟨(gMax 2 m).toNat, by omega, by omega⟩
  generalize hsc : D.lst (ns.map D.int) = sc
  have esc : sc = .lst (ns.map D.int) := hsc.symm
  have hlen : mCS fLen (mCons (mVar 0) mNil) [some (Cell.val sc), none] = some (.val (.int (ns.length : Int)), [some (Cell.val sc), none]) := by
    have := len_of (m := mVar 0) (s := [some (Cell.val sc), none]) rfl rfl (.inl esc)
    rw [List.length_map] at this
    exact this
  have hm : mRng fRg1 (mCons (mCS (fI2 gMax) (mCons (mC (.int 2)) (mCons (mCS (fI2 gMin) (mCons (mCS fLen (mCons (mVar 0) mNil)) (mCons (mC (.int 3)) mNil))) mNil))) mNil) [some (Cell.val sc), none] = some ((List.range K).map nI, [some (Cell.val sc), none]) := by
    have h1 : mCS (fI2 gMin) (mCons (mCS fLen (mCons (mVar 0) mNil)) (mCons (mC (.int 3)) mNil)) [some (Cell.val sc), none] = some (.val (.int (gMin (ns.length : Int) 3)), [some (Cell.val sc), none]) := cs_of (cons_of hlen rfl) rfl rfl
    have h2 : mCS (fI2 gMax) (mCons (mC (.int 2)) (mCons (mCS (fI2 gMin) (mCons (mCS fLen (mCons (mVar 0) mNil)) (mCons (mC (.int 3)) mNil))) mNil)) [some (Cell.val sc), none] = some (.val (.int (gMax 2 (gMin (ns.length : Int) 3))), [some (Cell.val sc), none]) := cs_of (cons_of (m := mC (.int 2)) (r := .val (.int 2)) rfl (cons_of h1 rfl)) rfl rfl
    exact rng1_of K (cons_of h2 rfl) rfl hK (by omega)
  have hlc := mlc_all (vs := [1]) (g := gPut 1) (m := mCallW R (mCallV W (mCons (mFrz (mVar 0)) (mCons (mFrz (mVar 1)) mNil))) mNil) nI (fun _ => D.bl true) (List.range K) (s2 := [some (Cell.val sc), none]) hm (by simp; omega) (fun i hi => by
    have hi := List.mem_range.1 hi
    obtain ⟨sp, e1, hs⟩ := hW i (by omega)
    obtain ⟨ys, e2⟩ := hR sp hs
    rw [hsc] at e1
    have q1 := callV_of (s := [some (Cell.val sc), some (.val (nI i))]) (ms := mCons (mFrz (mVar 0)) (mCons (mFrz (mVar 1)) mNil)) (rs := [.val sc, .val (.int i)]) (s1 := [some (Cell.val sc), some (.val (.int i))]) rfl rfl e1
    exact ⟨[some (Cell.val sc), some (.val (nI i))], .val (.bl true), rfl, callWn_of q1 (rs := []) rfl rfl e2, rfl, rfl⟩) rfl
  obtain ⟨r, e, rfl⟩ := fnV_ws (np := 1) (nv := 2) (b := mklaw R W) (ds := [sc]) (P := fun r => r = .val (.bl true))
    (ws_ret ⟨.val (.bl true), [some (Cell.val sc), none], cs_of (cons_of hlc (ms := mNil) (rs := []) rfl) rfl (all_true K), _, rfl, _, _, rfl, rfl⟩)
  exact e
end Nb
set_option Elab.async false
set_option linter.all false
set_option maxRecDepth 100000
set_option maxHeartbeats 4000000
namespace Nb
open PySem PySem.Spec L2 Dm Nz
set_option autoImplicit false
/-! ### there and back -/
theorem w_line {n : Nat} (h : 2 ≤ n) (t : Int) : Sm n (fun (k : Nat) => w n (t * k)) = if t % (n : Int) = 0 then (n : Z n) else 0 := by
  split
  · rename_i ht
    rw [Sm_congr (g := fun _ => (1 : Z n)) fun k _ => ?_, Sm_constZ]
    · grind
    · rw [← w_zero]
      refine w_congr ?_
      rw [Int.mul_emod, ht, Int.zero_mul]
  · rename_i ht
    exact w_sum ht
theorem near {n : Nat} {i j : Nat} (hi : i < n) (hj : j < n) {d : Int} (hd : d = 1 ∨ d = -1) : (d * ((j : Int) - i)) % (n : Int) = 0 ↔ j = i := by
  constructor
  · intro e
    obtain ⟨q, hq⟩ := Int.dvd_of_emod_eq_zero e
    have q0 : q = 0 := by
      rcases Int.lt_trichotomy q 0 with z | z | z
      · have := Int.mul_le_mul_of_nonneg_left (show q ≤ -1 by omega) (show (0 : Int) ≤ n by omega)
        rcases hd with rfl | rfl <;> omega
      · exact z
      · have := Int.mul_le_mul_of_nonneg_left (show 1 ≤ q by omega) (show (0 : Int) ≤ n by omega)
        rcases hd with rfl | rfl <;> omega
    rw [q0, Int.mul_zero] at hq
    rcases hd with rfl | rfl <;> omega
  · rintro rfl
    rw [Int.sub_self, Int.mul_zero, Int.zero_emod]
theorem ft_inv {n : Nat} (h : 2 ≤ n) (x : Nat → Z n) {d e : Int} (hd : d = 1 ∨ d = -1) (he : e = -d) {i : Nat} (hi : i < n) : ft (ft x d) e i = (n : Z n) * x i := by
  have e1 : ft (ft x d) e i = Sm n fun j => x j * Sm n fun (k : Nat) => w n (d * ((j : Int) - i) * k) := by
    unfold ft
    have : (fun k : Nat => Sm n (fun j : Nat => x j * w n (d * j * k)) * w n (e * k * i)) = fun (k : Nat) => Sm n fun (j : Nat) => x j * w n (d * ((j : Int) - i) * k) := by
      funext k
      rw [mul_Sm]
      refine Sm_congr fun j _ => ?_
      have : w n (d * ((j : Int) - i) * k) = w n (d * j * k) * w n (e * k * i) := by
        rw [← w_add]
        congr 1
        subst he
        grind
      rw [this]
      grind
    rw [this, Sm_comm]
    refine Sm_congr fun j _ => ?_
    rw [Sm_mul]
  rw [e1]
  rw [Sm_congr (g := fun j => if j = i then (n : Z n) * x j else 0) fun j hj => ?_, Sm_one hi]
  rw [w_line h]
  by_cases q : j = i
  · rw [if_pos ((near hi hj hd).2 q), if_pos q]
    grind
  · rw [if_neg (fun z => q ((near hi hj hd).1 z)), if_neg q]
    grind
theorem sg1_congr {n : Nat} {x y : Nat → Z n} {a b : Int} (h : ∀ j, j < n → nm (x j) a = nm (y j) b) : sg1 n x a = sg1 n y b := congrArg D.tup (List.map_congr_left fun j hj => h j (List.mem_range.1 hj))
theorem ncast_int (n : Nat) : (((n : Nat) : Int) : Z n) = (n : Z n) := rfl
/-- the parts of the signal of these parts -/
theorem back_eq {n : Nat} (h : 2 ≤ n) (x : Nat → Z n) {b : Int} (hb : 0 < b) {d e : Int} (hd : d = 1 ∨ d = -1) (he : e = -d) : sg1 n (ft (ft x d) e) (b * n) = sg1 n x b := sg1_congr fun j hj => nm_eq (Int.mul_pos hb (by omega)) hb (by
  rw [ft_inv h x hd he hj, zcast_mul, ncast_int]
  grind)
/-- the parts of a wave -/
theorem wave_parts {n : Nat} (h : 2 ≤ n) {p : Nat} (hp : p < n) : sg1 n (ft (fun (j : Nat) => w n ((p : Int) * j)) (-1)) ((1 : Int) * n) = sg1 n (fun k => if k = p then 1 else 0) 1 := sg1_congr fun k hk => nm_eq (by omega) (by decide) (by
  have e1 : ft (fun (j : Nat) => w n ((p : Int) * j)) (-1) k = Sm n fun (j : Nat) => w n ((1 : Int) * ((p : Int) - k) * j) := by
    unfold ft
    refine Sm_congr fun j _ => ?_
    rw [← w_add]
    congr 1
    grind
  have e2 : (((1 : Int) * n : Int) : Z n) = (n : Z n) := by rw [Int.one_mul]; rfl
  rw [e1, w_line h, e2, one_mul_cast]
  by_cases q : k = p
  · rw [if_pos ((near hk hp (.inl rfl)).2 q.symm), if_pos q]
    grind
  · rw [if_neg (fun z => q ((near hk hp (.inl rfl)).1 z).symm), if_neg q]
    grind)
/-- f(x, ..) with a new list -/
theorem callWo_of {f : FnW} {mo : ME} {ms : MA} {s s1 : S} {k : Nat} {p : Bool} {xs ys ds zs : List D} {rs : List R} {s2 : S} (ho : mo s = some (.slot k, s)) (hm : ms s = some (rs, s1)) (hv : vals rs = some ds) (hk : s1[k]? = some (some (.own p xs))) (hf : f xs ds = some (.own zs, ys)) (h2 : s1.set k (some (.own p ys)) = s2) : mCallW f mo ms s = some (.own zs, s2) := by
  have ho' : ownAt (.slot k) s1 = some (k, p, xs) := by unfold ownAt; simp only; rw [hk]
  subst h2
  unfold mCallW
  rw [ho]
  show (ms s).bind _ = _
  rw [hm]
  show (vals rs).bind _ = _
  rw [hv]
  show (ownAt (.slot k) s1).bind _ = _
  rw [ho']
  show (f xs ds).bind _ = _
  rw [hf]
  rfl
theorem asg_of {m : ME} {g : MG} {s s1 s2 : S} {d : D} (h : m s = some (.val d, s1)) (hg : g d s1 = some s2) : mAsg m g s = some (.nx s2) := by
  unfold mAsg
  rw [h]
  show (g d s1).bind _ = _
  rw [hg]
  rfl
theorem orT_ff {t u : MT} {s s1 s2 : S} (h : t s = some (false, s1)) (h2 : u s1 = some (false, s2)) : mOrT t u s = some (false, s2) := by
  unfold mOrT
  rw [h]
  exact h2
theorem andV_tt {ma mb : ME} {s s1 : S} {x : R × S} (h : ma s = some (.val (.bl true), s1)) (h2 : mb s1 = some x) : mAndV ma mb s = some x := by
  unfold mAndV
  rw [h]
  exact h2
theorem ws_ifF_of {t : MT} {c : MS} {s s1 : S} (e : t s = some (false, s1)) : mIfS t c mSkip s = some (.nx s1) := by
  unfold mIfS
  rw [e]
  rfl
theorem fl_cons (q : Nat) (y : Nat → Int) : fl (q + 1) y = D.int (y 0) :: fl q fun i => y (i + 1) := by
  unfold fl
  rw [List.range_succ_eq_map, List.map_cons, List.map_map]
  rfl
theorem wL_unit {n : Nat} (hd : 1 ≤ dg n) (c : Int) : wL (cst n c) = .lst (D.int c :: fl (dg n - 1) fun _ => 0) := by
  obtain ⟨q, hq⟩ : ∃ q, dg n = q + 1 := ⟨dg n - 1, by omega⟩
  unfold wL
  rw [fl_congr (m := dg n) (y := fun i => if i = 0 then c else 0) fun i hi => cst_f hi, hq, fl_cons]
  rfl
/-- the law's rows of sums -/
theorem sums_lc {n : Nat} (h : 2 ≤ n) (h2 : n ≤ 12) {s : S} {i1 i2 i3 v : Nat} {x : Nat → Z n} {me : ME} (pc : Nat → Int) (hpc : ∀ k, k < n → -1000 ≤ pc k ∧ pc k ≤ 1000) (hn : mVar i1 s = some (.val (.int n), s)) (st : ∀ k, k < n → ∃ s3, gPut v (nI k) (wipeS s [v]) = some s3 ∧ mVar i2 s3 = some (.val (rg n), s3) ∧ mVar i3 s3 = some (.val (rL n n x), s3) ∧ me s3 = some (.val (.int (pc k)), s3) ∧ wipeS s3 [v] = wipeS s [v]) (hu : unwipe s (wipeS s [v]) [v] = s) :
    mLc [v] (mRng fRg1 (mCons (mVar i1) mNil)) (gPut v) mYes (mCallV fn__law_sum (mCons (mFrz (mVar i2)) (mCons (mFrz (mVar i3)) (mCons (mFrz me) mNil)))) s = some (.own ((List.range n).map fun k => wL (Sm n fun (j : Nat) => x j * w n (j * pc k))), s) := by
  refine mlc_all nI (fun k => wL (Sm n fun (j : Nat) => x j * w n (j * pc k))) (List.range n) (s1 := s) (rng1_of n (cons_of hn rfl) rfl rfl (by omega)) (by simp; omega) (fun k hk => ?_) hu
  have hk := List.mem_range.1 hk
  obtain ⟨s3, e1, e2, e3, e4, e5⟩ := st k hk
  have ls := law_sum_ok h h2 (N := n) (by omega) x (hpc k hk).1 (hpc k hk).2
  exact ⟨s3, _, e1, callV_of (cons_of (frzV_of e2) (cons_of (frzV_of e3) (cons_of (frzV_of e4) rfl))) rfl ls, rfl, e5⟩
end Nb
set_option Elab.async false
set_option linter.all false
set_option maxRecDepth 100000
set_option maxHeartbeats 4000000
namespace Nb
open PySem PySem.Spec L2 Dm Nz
set_option autoImplicit false
/-! ### going round -/
theorem md_of {n : Nat} (h : 2 ≤ n) {e : Int} {k : Nat} (hk : k < n) : md n e = k ↔ e % (n : Int) = (k : Int) % (n : Int) := by
  have h1 := md_cast h e
  rw [Int.emod_eq_of_lt (a := (k : Int)) (by omega) (by omega)]
  omega
theorem md_self {n : Nat} (h : 2 ≤ n) {k : Nat} (hk : k < n) : md n (k : Int) = k := (md_of h hk).2 rfl
theorem md_congr {n : Nat} {a b : Int} (e : a % (n : Int) = b % (n : Int)) : md n a = md n b := by unfold md; rw [e]
theorem md_add {n : Nat} (h : 2 ≤ n) (a b : Int) : md n ((md n a : Int) + b) = md n (a + b) := md_congr (by rw [md_cast h, Int.emod_add_emod])
theorem md_sub {n : Nat} (h : 2 ≤ n) (a b : Int) : md n ((md n a : Int) - b) = md n (a - b) := by
  have := md_add h a (-b)
  rw [Int.sub_eq_add_neg, Int.sub_eq_add_neg]
  exact this
theorem md_back {n : Nat} (h : 2 ≤ n) {i j : Nat} (hi : i < n) (hj : j < n) (p : Int) : i = md n ((j : Int) - p) ↔ j = md n ((i : Int) + p) := by
  constructor
  · rintro rfl
    rw [md_add h, show (j : Int) - p + p = j by omega, md_self h hj]
  · rintro rfl
    rw [md_sub h, show (i : Int) + p - p = i by omega, md_self h hi]
theorem Sm_shift {n : Nat} (h : 2 ≤ n) (g : Nat → Z n) (p : Int) : Sm n (fun (j : Nat) => g (md n ((j : Int) - p))) = Sm n g := by
  have e1 : Sm n (fun (j : Nat) => g (md n ((j : Int) - p))) = Sm n fun j => Sm n fun i => if i = md n ((j : Int) - p) then g i else 0 := Sm_congr fun j _ => (Sm_one (md_lt h _) g).symm
  rw [e1, Sm_comm]
  refine Sm_congr fun i hi => ?_
  refine Eq.trans (Sm_congr fun j hj => ?_) (Sm_one (md_lt h ((i : Int) + p)) fun _ => g i)
  by_cases q : i = md n ((j : Int) - p)
  · rw [if_pos q, if_pos ((md_back h hi hj p).1 q)]
  · rw [if_neg q, if_neg fun z => q ((md_back h hi hj p).2 z)]
theorem w_mdm {n : Nat} (h : 2 ≤ n) (a e : Int) : w n (a * (md n e : Int)) = w n (a * e) := w_congr (by rw [md_cast h, Int.mul_emod, Int.emod_emod_of_dvd _ (Int.dvd_refl _), ← Int.mul_emod])
theorem ft_moved {n : Nat} (h : 2 ≤ n) (x : Nat → Z n) (p : Int) (k : Nat) : ft (fun (j : Nat) => x (md n ((j : Int) - p))) (-1) k = ft x (-1) k * w n (-1 * p * k) := by
  unfold ft
  rw [mul_Sm, ← Sm_shift h (fun i => x i * w n (-1 * i * k) * w n (-1 * p * k)) p]
  refine Sm_congr fun j hj => ?_
  have e : w n (-1 * (md n ((j : Int) - p) : Int) * k) = w n (-1 * ((j : Int) - p) * k) := by
    rw [show -1 * (md n ((j : Int) - p) : Int) * k = (-1 * k) * (md n ((j : Int) - p) : Int) by grind, w_mdm h]
    congr 1
    grind
  have e2 : w n (-1 * (j : Int) * k) = w n (-1 * ((j : Int) - p) * k) * w n (-1 * p * k) := by
    rw [← w_add]
    congr 1
    grind
  dsimp only
  rw [e, e2]
  grind
theorem ft_turned {n : Nat} (h : 2 ≤ n) (x : Nat → Z n) (p : Int) (k : Nat) : ft (fun (j : Nat) => x j * w n (p * j)) (-1) k = ft x (-1) (md n ((k : Int) - p)) := by
  unfold ft
  refine Sm_congr fun j hj => ?_
  have e : w n (-1 * (j : Int) * (md n ((k : Int) - p) : Int)) = w n (p * j) * w n (-1 * j * k) := by
    rw [w_mdm h, ← w_add]
    congr 1
    grind
  rw [e]
  grind
/-! ### equal things compare equal -/
mutual
theorem eqv_self : ∀ d : D, mid d = true → PyData.eqv (toP d) (toP d) = true
  | .non, _ => rfl
  | .bl b, _ => by simp [toP, PyData.eqv]
  | .int i, _ => by simp [toP, PyData.eqv]
  | .str _, h => by simp [mid] at h
  | .tup xs, h => eqvs_self xs (by simpa only [mid] using h)
  | .lst xs, h => eqvs_self xs (by simpa only [mid] using h)
  | .dic _ _, h => by simp [mid] at h
theorem eqvs_self : ∀ ds : List D, mids ds = true → PyData.eqvAll (toPs ds) (toPs ds) = true
  | [], _ => rfl
  | x :: xs, h => by
    have h : (mid x && mids xs) = true := by simpa only [mids] using h
    rw [Bool.and_eq_true] at h
    show (PyData.eqv (toP x) (toP x) && PyData.eqvAll (toPs xs) (toPs xs)) = true
    rw [eqv_self x h.1, eqvs_self xs h.2]
    rfl
end
theorem fNe_self {e b : Nat} {d : D} (h : Sh e b d) (he : e ≤ 60) : fNe d d = some (.bl false) := by
  unfold fNe
  rw [shp_mid h.mi (Nat.le_trans h.de (by omega)), eqv_self d h.mi]
  rfl
theorem fEq_self {e b : Nat} {d : D} (h : Sh e b d) (he : e ≤ 60) : fEq d d = some (.bl true) := by
  unfold fEq
  rw [shp_mid h.mi (Nat.le_trans h.de (by omega)), eqv_self d h.mi]
  rfl
theorem sh_int {i : Int} (h : i.natAbs < 10 ^ 80) : Sh 0 0 (.int i) := ⟨by show midI i = true; exact midI_of h, Nat.le_refl _, Nat.le_refl _⟩
theorem sh_wL {n : Nat} {x : Z n} {B : Nat} (h : Bd B x) (hB : B < 10 ^ 80) : Sh 1 10 (wL x) := sh_lst (b := 0) (N := 10) (l := List.range (dg n)) (fun k _ => sh_int (Nat.lt_of_le_of_lt (h k) hB)) (by rw [List.length_range]; exact dg_le n)
theorem sh_rL {n N : Nat} {x : Nat → Z n} {B : Nat} (h : ∀ j, Bd B (x j)) (hB : B < 10 ^ 80) (hN : N ≤ 12) : Sh 2 132 (rL n N x) := sh_lst (N := 12) (l := List.range N) (fun k _ => sh_wL (h k) hB) (by rw [List.length_range]; exact hN)
/-! ### comprehensions over the moments -/
theorem lcR {n : Nat} (h2 : n ≤ 12) {s : S} {i v : Nat} {m : ME} (f : Nat → D) (hn : mVar i s = some (.val (.int n), s)) (st : ∀ k, k < n → ∃ s3 r, gPut v (nI k) (wipeS s [v]) = some s3 ∧ m s3 = some (r, s3) ∧ frz r s3 = some (f k, s3) ∧ wipeS s3 [v] = wipeS s [v]) (hu : unwipe s (wipeS s [v]) [v] = s) :
    mLc [v] (mRng fRg1 (mCons (mVar i) mNil)) (gPut v) mYes m s = some (.own ((List.range n).map f), s) :=
  mlc_all nI f (List.range n) (s1 := s) (rng1_of n (cons_of hn rfl) rfl rfl (by omega)) (by simp; omega) (fun k hk => st k (List.mem_range.1 hk)) hu
/-- rows[e % n] -/
theorem ixMod {n : Nat} (h : 2 ≤ n) {x : Nat → Z n} {s : S} {a i : Nat} {ra : R} {me : ME} {e : Int} (ha : mVar a s = some (ra, s)) (pa : peek ra s = some (rL n n x)) (he : me s = some (.val (.int e), s)) (hn : mVar i s = some (.val (.int n), s)) : mIx (mVar a) (mBin fMod (mCS (fI1 fun i => i) (mCons me mNil)) (mVar i)) s = some (.val (wL (x (md n e))), s) :=
  mIx_of ha (mBin_of (mInt_of he) hn (fMod_n h e)) pa rfl (atI_of rfl (rL_get x (md_lt h e)))
/-- ring[e % n] -/
theorem ixRing {n : Nat} (h : 2 ≤ n) {s : S} {a i : Nat} {me : ME} {e : Int} (ha : mVar a s = some (.val (rg n), s)) (he : me s = some (.val (.int e), s)) (hn : mVar i s = some (.val (.int n), s)) : mIx (mVar a) (mBin fMod (mCS (fI1 fun i => i) (mCons me mNil)) (mVar i)) s = some (.val (wL (w n e)), s) := by
  have := ixMod h (x := fun (p : Nat) => w n p) ha rfl he hn
  rw [w_md h] at this
  exact this
/-- rows[k] -/
theorem ixRow {n : Nat} {x : Nat → Z n} {s : S} {a i k : Nat} {ra : R} (hk : k < n) (ha : mVar a s = some (ra, s)) (pa : peek ra s = some (rL n n x)) (hi : mVar i s = some (.val (.int k), s)) : mIx (mVar a) (mVar i) s = some (.val (wL (x k)), s) :=
  mIx_of ha hi pa rfl (atI_of rfl (rL_get x hk))
/-- times(ring, .., ..) -/
theorem timesL {n : Nat} (h : 2 ≤ n) (h2 : n ≤ 12) {s : S} {a : Nat} {m1 m2 : ME} {x y : Z n} (ha : mVar a s = some (.val (rg n), s)) (e1 : m1 s = some (.val (wL x), s)) (e2 : m2 s = some (.val (wL y), s)) (hM : Ml x y) : mCallV fn__law_times (mCons (mFrz (mVar a)) (mCons (mFrz m1) (mCons (mFrz m2) mNil))) s = some (.own (fl (dg n) (x * y).f), s) :=
  callV_of (cons_of (frzV_of ha) (cons_of (frzV_of e1) (cons_of (frzV_of e2) rfl))) rfl (law_times_ok h h2 x y hM)
theorem Bd.ml {n : Nat} {A B : Nat} {x y : Z n} (hx : Bd A x) (hy : Bd B y) (hA : A ≤ 10 ^ 200) (hB : B ≤ 10 ^ 200) : Ml x y := (hx.sb hA).ml (hy.sb hB)
theorem par_of {i j : Nat} {ms : MA} {s s1 s2 s3 : S} {d e : D} (h : ms s = some ([.val d, .val e], s1)) (h2 : put i (.val d) s1 = some s2) (h3 : put j (.val e) s2 = some s3) : mPar i j ms s = some (.nx s3) := by
  unfold mPar
  rw [h]
  show (if plain (.val e) = true then (put i (.val d) s1).bind fun s2 => (put j (.val e) s2).bind fun s3 => some (O.nx s3) else none) = _
  rw [if_pos (show Dm.plain (R.val e) = true from rfl), h2]
  show (put j (.val e) s2).bind _ = _
  rw [h3]
  rfl
theorem mTest_go {m : ME} {s s1 : S} {b : Bool} (h : m s = some (.val (.bl b), s1)) : mTest m s = some (b, s1) := by
  unfold mTest
  rw [h]
  rfl
theorem par3_of {i j k : Nat} {ms : MA} {s s1 s2 s3 s4 : S} {d e f : D} (h : ms s = some ([.val d, .val e, .val f], s1)) (h2 : put i (.val d) s1 = some s2) (h3 : put j (.val e) s2 = some s3) (h4 : put k (.val f) s3 = some s4) : mPar3 i j k ms s = some (.nx s4) := by
  unfold mPar3
  rw [h]
  simp [h2, h3, h4, Dm.plain]
theorem sv_shift {n : Nat} (h : 2 ≤ n) (m : Nat → Int) (p : Int) : sv n n (fun (k : Nat) => m (md n ((k : Int) - p))) = sv n n m * w n p := by
  unfold sv
  rw [mul_Sm, ← Sm_shift h (fun i => (m i : Z n) * w n i * w n p) p]
  refine Sm_congr fun k _ => ?_
  have e : w n k = w n ((md n ((k : Int) - p) : Nat) : Int) * w n p := by
    rw [w_md h, ← w_add]
    congr 1
    omega
  dsimp only
  rw [e]
  grind
theorem Bd_sv {n : Nat} {B : Nat} {m : Nat → Int} (hm : ∀ i, (m i).natAbs ≤ B) (N : Nat) : Bd (N * (B * 1)) (sv n N m) := Bd_Sm fun j _ => (Bd_cmul (m j) (Bd_w (n := n) j)).mono (Nat.mul_le_mul_right _ (hm j))
/-- a comparison of a new list with what stands -/
theorem mBin_ow {f : D → D → Option D} {ma mb : ME} {s s1 s2 : S} {xs : List D} {rb : R} {d z : D} (ha : ma s = some (.own xs, s1)) (hb : mb s1 = some (rb, s2)) (hd : D.lst xs = d) (pb : peek rb s2 = some d) (hf : f d d = some z) : mBin f ma mb s = some (.val z, s2) := by
  subst hd
  unfold mBin
  rw [ha]
  show (mb s1).bind _ = _
  rw [hb]
  show (peek rb s2).bind _ = _
  rw [pb]
  show (f (.lst xs) (.lst xs)).bind _ = _
  rw [hf]
  rfl
theorem sg1_ext {n : Nat} {x y : Nat → Z n} {b : Int} (h : ∀ j, j < n → x j = y j) : sg1 n x b = sg1 n y b := sg1_congr fun j hj => by rw [h j hj]
theorem rL_ext {n N : Nat} {x y : Nat → Z n} (h : ∀ j, j < N → x j = y j) : rL n N x = rL n N y := congrArg D.lst (List.map_congr_left fun j hj => by rw [h j (List.mem_range.1 hj)])
end Nb
set_option Elab.async false
set_option linter.all false
set_option maxRecDepth 100000
set_option maxHeartbeats 4000000
namespace Nb
open PySem PySem.Spec L2 Dm Nz
set_option autoImplicit false
/-! ### the law's long division -/
theorem law_rest_ok {n : Nat} (h : 2 ≤ n) (h2 : n ≤ 12) {N : Nat} (hN : dg n + 1 ≤ N) (hN2 : N ≤ 90) (x : Nat → Int) : fn__law_rest [.lst (fl N x), .lst (fl (dg n + 1) (bN n))] = some (.own (fl (dg n) (sv n N x).f)) := by
  have hd := dg_pos h h2
  obtain ⟨lb, ltop⟩ := look_b h h2
  generalize hA : D.lst (fl N x) = A
  generalize hB : D.lst (fl (dg n + 1) (bN n)) = B
  have key : WS b__law_rest (initV 6 [A, B]) fun o => ∃ r s', o = .rt r s' ∧ r = .own (fl (dg n) (sv n N x).f) := by
    unfold b__law_rest
    have lB : ∀ {s : S}, mVar 1 s = some (.val B, s) → mCS fLen (mCons (mVar 1) mNil) s = some (.val (.int ((dg n : Int) + 1)), s) := fun h1 => by
      have := len_of (d := B) h1 rfl (.inl hB.symm)
      rw [fl_len] at this
      rw [this]
      rfl
    have l2 : ∀ {s : S} {z : Nat → Int}, mVar 2 s = some (.slot 2, s) → s[2]? = some (some (.own false (fl N z))) → mCS fLen (mCons (mVar 2) mNil) s = some (.val (.int N), s) := fun {s z} h1 h3 => by
      have := len_of (d := .lst (fl N z)) h1 (by unfold peek; simp only; rw [h3]) (.inl rfl)
      rw [fl_len] at this
      exact this
    refine ws_step (s1 := [some (.val A), some (.val B), some (.own false (fl N x)), none, none, none]) (by subst hA; simp [fnV, fnW, initV, initW, mSeq, mIfS, mTest, mBin, mIx, mVar, mC, peek, peeks, seqD, asI, asB, atI, ixN, onI, mAsg, mFrz, frz, mTupNew, mCons, mNil, fDm, gTupD, gsCons, gsNil, gSubD, gPut, put, ownAt, mRet, toRet, port0, mSkip, mCS, mCL, fI1, fI2, mSet, mPar, mPar3, Dm.plain, mTup, mLst, vals, mTupOf, fTup, fLen, mIf, mIfS, mNotT, mChain, mTyIs, tyD, noFrz, mIxK, mAndT, mOrT, mAndV, mOrV, mNotV, mExpr, mCallV, mCallW, rOf, mUn, fNeg, fList, fRg1, fRg2, fRg3, mRng, mSeqI, mYes, wipeS, mRep]) ?_
    refine ws_seq (ws_for ⟨(List.range (N - dg n)).map fun i => nI (N - dg n - 1 - i), [some (.val A), some (.val B), some (.own false (fl N x)), none, none, none], ?_, ws_rng
      (fun i s => ∃ (z : Nat → Int) (c3 c4 c5 : Option Cell), s = [some (.val A), some (.val B), some (.own false (fl N z)), c3, c4, c5] ∧ Fr c3 = true ∧ Fr c4 = true ∧ Fr c5 = true ∧ sv n (N - i) z = sv n N x) (N - dg n) ⟨x, none, none, none, rfl, rfl, rfl, rfl, rfl⟩ ?_ ?_⟩)
    · have e1 : mCons (mBin fSub (mCS fLen (mCons (mVar 2) mNil)) (mCS fLen (mCons (mVar 1) mNil))) (mCons (mUn fNeg (mC (.int 1))) (mCons (mUn fNeg (mC (.int 1))) mNil)) [some (.val A), some (.val B), some (.own false (fl N x)), none, none, none] = some ([.val (.int ((N : Int) - ((dg n : Int) + 1))), .val (.int (-1)), .val (.int (-1))], [some (.val A), some (.val B), some (.own false (fl N x)), none, none, none]) :=
        cons_of (mBin_of (l2 (z := x) rfl rfl) (lB rfl) rfl) (cons_of rfl (cons_of rfl rfl))
      have s1 := small_int (i := (N : Int) - ((dg n : Int) + 1)) (by omega) (by omega)
      have f3 : fRg3 [.int ((N : Int) - ((dg n : Int) + 1)), .int (-1), .int (-1)] = some ((N : Int) - ((dg n : Int) + 1), N - dg n, -1) := by
        unfold fRg3
        have s2 : small (-1) = true := by decide
        simp only [s1, s2, Bool.true_and, decide_true, if_true]
        rw [show ((N : Int) - ((dg n : Int) + 1) - -1).toNat = N - dg n by omega]
      unfold mRng
      rw [e1]
      show (fRg3 [.int ((N : Int) - ((dg n : Int) + 1)), .int (-1), .int (-1)]).bind _ = _
      rw [f3]
      show some (rgD _ _ _, _) = _
      have e2 := rgD_down (N - dg n - 1) (N - dg n) (by omega)
      rw [show ((N : Int) - ((dg n : Int) + 1)) = ((N - dg n - 1 : Nat) : Int) by omega, e2]
    · rintro i s hi ⟨z, c3, c4, c5, rfl, f3, f4, f5, hz⟩
      obtain ⟨k, hk⟩ : ∃ k : Nat, N - dg n - 1 - i = k := ⟨_, rfl⟩
      have eN : N - i = k + dg n + 1 := by omega
      have ek : nI ((N - dg n - 1 : Nat) - (i : Nat)) = nI k := by rw [hk]
      rw [eN] at hz
      refine ⟨[some (.val A), some (.val B), some (.own false (fl N z)), some (.val (.int k)), c4, c5], ?_, ?_⟩
      · rw [show nI (N - dg n - 1 - i) = D.int k by rw [hk]]
        exact put_valF (c := c3) rfl f3
      refine ws_step (s1 := [some (.val A), some (.val B), some (.own false (fl N z)), some (.val (.int k)), some (.val (.int (z (k + dg n)))), c5]) (set_of (mIx_of (d := .lst (fl N z)) rfl (mBin_of (mBin_of rfl (lB rfl) rfl) rfl rfl) rfl rfl (atI_fl z (j := k + dg n) (by omega) (by omega))) (put_valF (c := c4) rfl f4)) ?_
      refine ws_for ⟨(List.range (dg n + 1)).map nI, [some (.val A), some (.val B), some (.own false (fl N z)), some (.val (.int k)), some (.val (.int (z (k + dg n)))), c5], rng1_of (dg n + 1) (cons_of (lB rfl) rfl) rfl (by omega) (by omega), ws_rng (fun q s => ∃ (c5 : Option Cell), s = [some (.val A), some (.val B), some (.own false (fl N (fun p => if k ≤ p ∧ p < k + q then z p - z (k + dg n) * bN n (p - k) else z p))), some (.val (.int k)), some (.val (.int (z (k + dg n)))), c5] ∧ Fr c5 = true) (dg n + 1) ⟨c5, ?_, f5⟩ ?_ ?_⟩
      · rw [show (fun p => if k ≤ p ∧ p < k + 0 then z p - z (k + dg n) * bN n (p - k) else z p) = z from by funext p; rw [if_neg (by omega)]]
      · rintro q s hq ⟨c5, rfl, f5⟩
        generalize hF : (fun p => if k ≤ p ∧ p < k + q then z p - z (k + dg n) * bN n (p - k) else z p) = F
        have Fk : F (k + q) = z (k + q) := by rw [← hF]; exact if_neg (by omega)
        refine ⟨_, put_valF (c := c5) rfl f5, ?_⟩
        have lbi := of_decide_eq_true (allN_of lb (show q < dg n + 1 by omega))
        have mm : CMulA (z (k + dg n)) (bN n q) := CMulA.r _ (by omega) (by omega)
        refine ws_nx (asgSub (k := 2) (p := k + q) (z := F) (v := F (k + q) - z (k + dg n) * bN n q) (N := N) (by omega) ?_ rfl ?_ rfl) ⟨_, .inl rfl, some (.val (.int q)), ?_, rfl⟩
        · exact mBin_of (mIx_of (d := .lst (fl N F)) rfl (mBin_of rfl rfl rfl) rfl rfl (atI_fl F (j := k + q) (by omega) (by omega))) (mBin_of rfl (mIx_of (d := B) rfl rfl rfl (by subst hB; rfl) (atI_fl (bN n) rfl hq)) (fMulA_of mm)) rfl
        · exact mBin_of rfl rfl (by simp [onI])
        · refine congrArg (fun u => [_, _, some (Cell.own false u), _, _, _]) (fl_congr fun p hp => ?_)
          by_cases e : p = k + q
          · subst e
            rw [if_pos rfl, if_pos (by omega), show k + q - k = q from by omega, Fk]
          · rw [if_neg e, ← hF]
            by_cases e2 : k ≤ p ∧ p < k + q
            · show (if _ then _ else _) = _
              rw [if_pos e2, if_pos (by omega)]
            · show (if _ then _ else _) = _
              rw [if_neg e2, if_neg (by omega)]
      · rintro s ⟨c5, rfl, f5⟩
        refine ⟨_, .inl rfl, _, _, _, c5, rfl, rfl, rfl, f5, ?_⟩
        rw [show N - (i + 1) = k + dg n by omega, ← hz, ← sv_cut h h2 k z]
        refine sv_congr fun p hp => ?_
        by_cases e : k ≤ p
        · rw [if_pos ⟨e, by omega⟩, if_pos ⟨e, by omega⟩]
        · rw [if_neg (by omega), if_neg (by omega)]
    · rintro s ⟨z, c3, c4, c5, rfl, f3, f4, f5, hz⟩
      refine ⟨_, rfl, ?_⟩
      rw [show N - (N - dg n) = dg n by omega] at hz
      have e1 : mSlL (mVar 2) mNo (mPart (mBin fSub (mCS fLen (mCons (mVar 1) mNil)) (mC (.int 1)))) [some (.val A), some (.val B), some (.own false (fl N z)), c3, c4, c5] = some (.own (fl (dg n) (sv n N x).f), [some (.val A), some (.val B), some (.own false (fl N z)), c3, c4, c5]) := by
        have e2 : mPart (mBin fSub (mCS fLen (mCons (mVar 1) mNil)) (mC (.int 1))) [some (.val A), some (.val B), some (.own false (fl N z)), c3, c4, c5] = some (some (dg n : Int), [some (.val A), some (.val B), some (.own false (fl N z)), c3, c4, c5]) := by
          unfold mPart
          rw [mBin_of (lB rfl) (mb := mC (.int 1)) rfl rfl]
          show some (some ((dg n : Int) + 1 - 1), _) = _
          rw [show (dg n : Int) + 1 - 1 = dg n by omega]
        unfold mSlL
        show (mPart (mBin fSub (mCS fLen (mCons (mVar 1) mNil)) (mC (.int 1))) _).bind _ = _
        rw [e2]
        show some (R.own (cutD (fl N z) none (some (dg n : Int))), _) = _
        rw [take_cut, fl_take z (by omega)]
        refine congrArg (fun u => some (R.own u, _)) (fl_congr fun k hk => ?_)
        rw [← hz, sv_f z hk]
      exact ws_ret ⟨_, _, e1, _, rfl, _, _, rfl, rfl⟩
  obtain ⟨r, e, rfl⟩ := fnV_ws (np := 2) key
  exact e
/-! ### what is no number twice -/
mutual
/-- whole numbers and tuples alone -/
def plainD : D → Bool
  | .int _ => true
  | .tup xs => plainDs xs
  | _ => false
def plainDs : List D → Bool
  | [] => true
  | x :: xs => plainD x && plainDs xs
end
mutual
theorem eqv_inj : ∀ d e : D, plainD d = true → plainD e = true → PyData.eqv (toP d) (toP e) = true → d = e
  | .int i, .int j, _, _, h => by
    simp [toP, PyData.eqv] at h
    rw [h]
  | .tup xs, .tup ys, h1, h2, h => congrArg D.tup (eqvs_inj xs ys (by simpa only [plainD] using h1) (by simpa only [plainD] using h2) h)
  | .int _, .tup _, _, _, h => by simp [toP, PyData.eqv] at h
  | .tup _, .int _, _, _, h => by simp [toP, PyData.eqv] at h
  | .non, _, h1, _, _ => by simp [plainD] at h1
  | .bl _, _, h1, _, _ => by simp [plainD] at h1
  | .str _, _, h1, _, _ => by simp [plainD] at h1
  | .lst _, _, h1, _, _ => by simp [plainD] at h1
  | .dic _ _, _, h1, _, _ => by simp [plainD] at h1
  | .int _, .non, _, h2, _ => by simp [plainD] at h2
  | .int _, .bl _, _, h2, _ => by simp [plainD] at h2
  | .int _, .str _, _, h2, _ => by simp [plainD] at h2
  | .int _, .lst _, _, h2, _ => by simp [plainD] at h2
  | .int _, .dic _ _, _, h2, _ => by simp [plainD] at h2
  | .tup _, .non, _, h2, _ => by simp [plainD] at h2
  | .tup _, .bl _, _, h2, _ => by simp [plainD] at h2
  | .tup _, .str _, _, h2, _ => by simp [plainD] at h2
  | .tup _, .lst _, _, h2, _ => by simp [plainD] at h2
  | .tup _, .dic _ _, _, h2, _ => by simp [plainD] at h2
theorem eqvs_inj : ∀ ds es : List D, plainDs ds = true → plainDs es = true → PyData.eqvAll (toPs ds) (toPs es) = true → ds = es
  | [], [], _, _, _ => rfl
  | x :: xs, y :: ys, h1, h2, h => by
    have h1 : (plainD x && plainDs xs) = true := by simpa only [plainDs] using h1
    have h2 : (plainD y && plainDs ys) = true := by simpa only [plainDs] using h2
    have h : (PyData.eqv (toP x) (toP y) && PyData.eqvAll (toPs xs) (toPs ys)) = true := h
    rw [Bool.and_eq_true] at h1 h2 h
    rw [eqv_inj x y h1.1 h2.1 h.1, eqvs_inj xs ys h1.2 h2.2 h.2]
  | [], _ :: _, _, _, h => by simp [toPs, PyData.eqvAll] at h
  | _ :: _, [], _, _, h => by simp [toPs, PyData.eqvAll] at h
end
end Nb
set_option Elab.async false
set_option linter.all false
set_option maxRecDepth 100000
set_option maxHeartbeats 4000000
namespace Nb
open PySem PySem.Spec L2 Dm Nz
set_option autoImplicit false
theorem plain_map {α : Type} {f : α → D} (h : ∀ a, plainD (f a) = true) : ∀ l : List α, plainDs (l.map f) = true
  | [] => rfl
  | a :: l => by
    show (plainD (f a) && plainDs (l.map f)) = true
    rw [h a, plain_map h l]
    rfl
theorem plain_nm {n : Nat} (x : Z n) (b : Int) : plainD (nm x b) = true := plain_map (f := fun k => fr (x.f k) b) (fun _ => rfl) _
/-- unlike numbers compare unlike -/
theorem fEq_nm {n : Nat} {x y : Z n} {a b : Int} {e e' k k' : Nat} (hx : Sh e k (nm x a)) (hy : Sh e' k' (nm y b)) (he : e ≤ 60) (he' : e' ≤ 60) (h : (b : Z n) * x ≠ (a : Z n) * y) : fEq (nm x a) (nm y b) = some (.bl false) := by
  unfold fEq
  rw [shp_mid hx.mi (Nat.le_trans hx.de (by omega)), shp_mid hy.mi (Nat.le_trans hy.de (by omega))]
  cases q : PyData.eqv (toP (nm x a)) (toP (nm y b)) with
  | false => rfl
  | true => exact (h (nm_inj (eqv_inj _ _ (plain_nm x a) (plain_nm y b) q))).elim
theorem fNe_nm {n : Nat} {x y : Z n} {a b : Int} {e e' k k' : Nat} (hx : Sh e k (nm x a)) (hy : Sh e' k' (nm y b)) (he : e ≤ 60) (he' : e' ≤ 60) (h : (b : Z n) * x ≠ (a : Z n) * y) : fNe (nm x a) (nm y b) = some (.bl true) := by
  unfold fNe
  rw [shp_mid hx.mi (Nat.le_trans hx.de (by omega)), shp_mid hy.mi (Nat.le_trans hy.de (by omega))]
  cases q : PyData.eqv (toP (nm x a)) (toP (nm y b)) with
  | false => rfl
  | true => exact (h (nm_inj (eqv_inj _ _ (plain_nm x a) (plain_nm y b) q))).elim
/-- x[i] = v, where v's making changes other slots -/
theorem asgSub2 {m mo mi : ME} {s s1 : S} {k N p : Nat} {z : Nat → Int} {v : Int} (hp : p < N) (hm : m s = some (.val (.int v), s1)) (ho : mo s1 = some (.slot k, s1)) (hi : mi s1 = some (.val (.int (p : Nat)), s1)) (hs : s1[k]? = some (some (.own false (fl N z)))) :
    mAsg (mFrz m) (gSubD mo mi) s = some (.nx (s1.set k (some (.own false (fl N fun q => if q = p then v else z q))))) := by
  have ho' : ownAt (.slot k) s1 = some (k, false, fl N z) := by unfold ownAt; simp only; rw [hs]
  unfold mAsg
  rw [frzV_of hm]
  show (gSubD mo mi (.int v) s1).bind _ = _
  unfold gSubD
  rw [ho]
  show ((mi s1).bind _).bind _ = _
  rw [hi]
  show ((ownAt (.slot k) s1).bind _).bind _ = _
  rw [ho']
  show ((ixN (fl N z).length (p : Nat)).bind _).bind _ = _
  rw [ixN_fl z rfl hp]
  show some (O.nx (s1.set k (some (.own false ((fl N z).set p (.int v)))))) = _
  rw [fl_set z v hp]
theorem b_zero {n : Nat} (h : 2 ≤ n) (h2 : n ≤ 12) (e : Int) : Sm (dg n + 1) (fun k => ((bN n k : Int) : Z n) * w n (e + k)) = 0 := by
  rw [Sm_succ, (look_b h h2).2, b_sum h h2, one_mul_cast]
  grind
theorem b_ones {n : Nat} (h : 2 ≤ n) (h2 : n ≤ 12) {k : Nat} (hk : k < dg n + 1) : -1 ≤ bN n k ∧ bN n k ≤ 1 := of_decide_eq_true (allN_of (look_b h h2).1 hk)
theorem lookP {n p : Nat} (h : 2 ≤ n) (h2 : n ≤ 12) (hp : p = 2 ∨ p = 3 ∨ p = 5 ∨ p = 7 ∨ p = 11) (hd : n % p = 0) : (allN (dg n) fun k => decide (ss p (fun t => row n (t * (n / p) % n) k) = 0)) = true := by
  rcases Nz.sizes h h2 with rfl | rfl | rfl | rfl | rfl | rfl | rfl | rfl | rfl | rfl | rfl <;> rcases hp with rfl | rfl | rfl | rfl | rfl <;> first | (exact absurd hd (by decide)) | decide +kernel
/-- the roots alike round the ring by a prime -/
theorem w_prime {n p : Nat} (h : 2 ≤ n) (h2 : n ≤ 12) (hp : p = 2 ∨ p = 3 ∨ p = 5 ∨ p = 7 ∨ p = 11) (hd : n % p = 0) : Sm p (fun t => w n ((t * (n / p) : Nat) : Int)) = 0 := Z.ext fun k hk => by
  rw [Sm_f, zero_f]
  have e := of_decide_eq_true (allN_of (lookP h h2 hp hd) hk)
  rw [ss_eq] at e
  refine Eq.trans (Sm_congr fun t _ => ?_) e
  exact sg_nat n _ k
theorem trus_fl (m : Nat) (x : Nat → Int) : trus (fl m x) = some ((List.range m).map fun p => x p != 0) := by
  unfold fl
  induction (List.range m) with
  | nil => rfl
  | cons p l ih => rw [List.map_cons, List.map_cons]; unfold trus; rw [ih]; rfl
open Classical in
theorem any_fl {d : D} {m : Nat} {x : Nat → Int} (hd : d = .lst (fl m x) ∨ d = .tup (fl m x)) : fAnyX [d] = some (.bl (decide (∃ k, k < m ∧ x k ≠ 0))) := by
  have e : fAnyX [d] = some (.bl (((List.range m).map fun p => x p != 0).any id)) := by
    unfold fAnyX
    rcases hd with rfl | rfl <;> (show (trus (fl m x)).bind _ = _; rw [trus_fl]; rfl)
  rw [e]
  refine congrArg (fun u => some (D.bl u)) ?_
  rw [Bool.eq_iff_iff, decide_eq_true_eq]
  simp only [List.any_map, List.any_eq_true, List.mem_range, Function.comp, id, bne_iff_ne, ne_eq]
theorem any_fl0 (m : Nat) : fAnyX [.lst (fl m fun _ => 0)] = some (.bl false) := by
  have e : fAnyX [.lst (fl m fun _ => 0)] = some (.bl (((List.range m).map fun p => (0 : Int) != 0).any id)) := by
    unfold fAnyX
    show (trus (fl m fun _ => 0)).bind _ = _
    rw [trus_fl]
    rfl
  rw [e]
  refine congrArg (fun u => some (D.bl u)) ?_
  rw [List.any_eq_false]
  intro b hb
  obtain ⟨k, -, rfl⟩ := List.mem_map.1 hb
  simp
theorem parO_of {i j : Nat} {ms : MA} {s s1 s2 s3 : S} {xs : List D} {e : D} (h : ms s = some ([.own xs, .val e], s1)) (h2 : put i (.own xs) s1 = some s2) (h3 : put j (.val e) s2 = some s3) : mParO i j ms s = some (.nx s3) := by
  unfold mParO
  rw [h]
  show (put i (.own xs) s1).bind _ = _
  rw [h2]
  show (put j (.val e) s2).bind _ = _
  rw [h3]
  rfl
/-- the right side changes other slots -/
theorem mBin_go {f : D → D → Option D} {ma mb : ME} {s s1 : S} {d e z : D} (ha : ma s = some (.val d, s)) (hb : mb s = some (.val e, s1)) (hf : f d e = some z) : mBin f ma mb s = some (.val z, s1) := by
  unfold mBin
  rw [ha]
  show (mb s).bind _ = _
  rw [hb]
  show (f d e).bind _ = _
  rw [hf]
  rfl
theorem cancel {n : Nat} {x y : Z n} {b : Int} (hb : b ≠ 0) (e : (b : Z n) * x = (b : Z n) * y) : x = y := Z.ext fun k _ => by
  have := congrArg (fun z : Z n => z.f k) e
  simp only [icast_f] at this
  exact Int.eq_of_mul_eq_mul_left hb this
/-- a multiple of a power is not nought -/
theorem w_ne {n : Nat} (h : 2 ≤ n) (h2 : n ≤ 12) {c : Int} (hc : c ≠ 0) (e : Int) : (c : Z n) * w n e ≠ 0 := fun z => by
  have e1 : (c : Z n) * (w n e * w n (-e)) = 0 := by
    have : (c : Z n) * (w n e * w n (-e)) = ((c : Z n) * w n e) * w n (-e) := by grind
    rw [this, z]
    grind
  rw [← w_add, show e + -e = 0 by omega] at e1
  have e2 := congrArg (fun y : Z n => y.f 0) e1
  simp only [icast_f, zero_f] at e2
  have e3 : (w n 0).f 0 = 1 := by
    show sg n ((0 : Nat) : Int) 0 = 1
    have hd := dg_pos h h2
    rw [sg_I (by omega) (by omega), if_pos rfl]
  rw [e3] at e2
  omega
end Nb
set_option Elab.async false
set_option linter.all false
set_option maxRecDepth 100000
set_option maxHeartbeats 4000000
namespace K08
open PySem PySem.Spec L2 Dm Nb
set_option autoImplicit false
/-! ### the text -/
def topS (i : Nat) : Stmt := PySem.Challenge.pw_wavespots_k08_whole_moved_and_turned.main.body.getD i (.Pass ⟨0, 0, 0, 0⟩)
abbrev s_fraction_of : Stmt := topS 9
abbrev N_fraction_of : List Str := ["above", "below", "common"]
abbrev p_fraction_of : List Str := ["above", "below"]
theorem sc_fraction_of : FnScope N_fraction_of p_fraction_of (defScope s_fraction_of) := ⟨rfl, rfl, rfl, by decide +kernel, rfl, by decide +kernel, by decide +kernel⟩
abbrev s_number_of : Stmt := topS 10
abbrev N_number_of : List Str := ["whole", "below", "above"]
abbrev p_number_of : List Str := ["whole", "below"]
theorem sc_number_of : FnScope N_number_of p_number_of (defScope s_number_of) := ⟨rfl, rfl, rfl, by decide +kernel, rfl, by decide +kernel, by decide +kernel⟩
abbrev s_whole_row : Stmt := topS 11
abbrev N_whole_row : List Str := ["row", "common", "number", "_", "below", "wholes", "above"]
abbrev p_whole_row : List Str := ["row"]
theorem sc_whole_row : FnScope N_whole_row p_whole_row (defScope s_whole_row) := ⟨rfl, rfl, rfl, by decide +kernel, rfl, by decide +kernel, by decide +kernel⟩
abbrev s_whole_over : Stmt := topS 12
abbrev N_whole_over : List Str := ["number", "wholes", "common"]
abbrev p_whole_over : List Str := ["number"]
theorem sc_whole_over : FnScope N_whole_over p_whole_over (defScope s_whole_over) := ⟨rfl, rfl, rfl, by decide +kernel, rfl, by decide +kernel, by decide +kernel⟩
abbrev s_rest_by_round : Stmt := topS 13
abbrev N_rest_by_round : List Str := ["size", "coefficients", "divisor", "degree", "rest", "lead", "low", "at"]
abbrev p_rest_by_round : List Str := ["size", "coefficients"]
theorem sc_rest_by_round : FnScope N_rest_by_round p_rest_by_round (defScope s_rest_by_round) := ⟨rfl, rfl, rfl, by decide +kernel, rfl, by decide +kernel, by decide +kernel⟩
abbrev s_times_root : Stmt := topS 14
abbrev N_times_root : List Str := ["size", "whole", "step", "turns", "at", "part"]
abbrev p_times_root : List Str := ["size", "whole", "step"]
theorem sc_times_root : FnScope N_times_root p_times_root (defScope s_times_root) := ⟨rfl, rfl, rfl, by decide +kernel, rfl, by decide +kernel, by decide +kernel⟩
abbrev s_whole_root : Stmt := topS 15
abbrev N_whole_root : List Str := ["size", "step"]
abbrev p_whole_root : List Str := ["size", "step"]
theorem sc_whole_root : FnScope N_whole_root p_whole_root (defScope s_whole_root) := ⟨rfl, rfl, rfl, by decide +kernel, rfl, by decide +kernel, by decide +kernel⟩
abbrev s_product_of : Stmt := topS 16
abbrev N_product_of : List Str := ["size", "whole", "other", "sums", "low", "factor", "at", "part"]
abbrev p_product_of : List Str := ["size", "whole", "other"]
theorem sc_product_of : FnScope N_product_of p_product_of (defScope s_product_of) := ⟨rfl, rfl, rfl, by decide +kernel, rfl, by decide +kernel, by decide +kernel⟩
abbrev s_sums_of_turns : Stmt := topS 17
abbrev N_sums_of_turns : List Str := ["size", "row", "direction", "found", "k", "turns", "j", "whole", "at", "part"]
abbrev p_sums_of_turns : List Str := ["size", "row", "direction"]
theorem sc_sums_of_turns : FnScope N_sums_of_turns p_sums_of_turns (defScope s_sums_of_turns) := ⟨rfl, rfl, rfl, by decide +kernel, rfl, by decide +kernel, by decide +kernel⟩
abbrev s_is_whole_from : Stmt := topS 21
abbrev N_is_whole_from : List Str := ["value", "low", "high"]
abbrev p_is_whole_from : List Str := ["value", "low", "high"]
theorem sc_is_whole_from : FnScope N_is_whole_from p_is_whole_from (defScope s_is_whole_from) := ⟨rfl, rfl, rfl, by decide +kernel, rfl, by decide +kernel, by decide +kernel⟩
abbrev s_is_size : Stmt := topS 22
abbrev N_is_size : List Str := ["value"]
abbrev p_is_size : List Str := ["value"]
theorem sc_is_size : FnScope N_is_size p_is_size (defScope s_is_size) := ⟨rfl, rfl, rfl, by decide +kernel, rfl, by decide +kernel, by decide +kernel⟩
abbrev s_check_size : Stmt := topS 23
abbrev N_check_size : List Str := ["size"]
abbrev p_check_size : List Str := ["size"]
theorem sc_check_size : FnScope N_check_size p_check_size (defScope s_check_size) := ⟨rfl, rfl, rfl, by decide +kernel, rfl, by decide +kernel, by decide +kernel⟩
abbrev s_check_index : Stmt := topS 24
abbrev N_check_index : List Str := ["index", "bound"]
abbrev p_check_index : List Str := ["index", "bound"]
theorem sc_check_index : FnScope N_check_index p_check_index (defScope s_check_index) := ⟨rfl, rfl, rfl, by decide +kernel, rfl, by decide +kernel, by decide +kernel⟩
abbrev s_round_polynomial : Stmt := topS 25
abbrev N_round_polynomial : List Str := ["size"]
abbrev p_round_polynomial : List Str := ["size"]
theorem sc_round_polynomial : FnScope N_round_polynomial p_round_polynomial (defScope s_round_polynomial) := ⟨rfl, rfl, rfl, by decide +kernel, rfl, by decide +kernel, by decide +kernel⟩
abbrev s_degree_of : Stmt := topS 26
abbrev N_degree_of : List Str := ["size"]
abbrev p_degree_of : List Str := ["size"]
theorem sc_degree_of : FnScope N_degree_of p_degree_of (defScope s_degree_of) := ⟨rfl, rfl, rfl, by decide +kernel, rfl, by decide +kernel, by decide +kernel⟩
abbrev s_is_fraction : Stmt := topS 27
abbrev N_is_fraction : List Str := ["value", "above", "below"]
abbrev p_is_fraction : List Str := ["value"]
theorem sc_is_fraction : FnScope N_is_fraction p_is_fraction (defScope s_is_fraction) := ⟨rfl, rfl, rfl, by decide +kernel, rfl, by decide +kernel, by decide +kernel⟩
abbrev s_is_number : Stmt := topS 28
abbrev N_is_number : List Str := ["size", "value", "degree", "part"]
abbrev p_is_number : List Str := ["size", "value"]
theorem sc_is_number : FnScope N_is_number p_is_number (defScope s_is_number) := ⟨rfl, rfl, rfl, by decide +kernel, rfl, by decide +kernel, by decide +kernel⟩
abbrev s_check_number : Stmt := topS 29
abbrev N_check_number : List Str := ["size", "number"]
abbrev p_check_number : List Str := ["size", "number"]
theorem sc_check_number : FnScope N_check_number p_check_number (defScope s_check_number) := ⟨rfl, rfl, rfl, by decide +kernel, rfl, by decide +kernel, by decide +kernel⟩
abbrev s_first_no_number : Stmt := topS 30
abbrev N_first_no_number : List Str := ["size", "row", "index", "value"]
abbrev p_first_no_number : List Str := ["size", "row"]
theorem sc_first_no_number : FnScope N_first_no_number p_first_no_number (defScope s_first_no_number) := ⟨rfl, rfl, rfl, by decide +kernel, rfl, by decide +kernel, by decide +kernel⟩
abbrev s_root : Stmt := topS 31
abbrev N_root : List Str := ["size", "step"]
abbrev p_root : List Str := ["size", "step"]
theorem sc_root : FnScope N_root p_root (defScope s_root) := ⟨rfl, rfl, rfl, by decide +kernel, rfl, by decide +kernel, by decide +kernel⟩
abbrev s_check_two : Stmt := topS 32
abbrev N_check_two : List Str := ["size", "number", "other"]
abbrev p_check_two : List Str := ["size", "number", "other"]
theorem sc_check_two : FnScope N_check_two p_check_two (defScope s_check_two) := ⟨rfl, rfl, rfl, by decide +kernel, rfl, by decide +kernel, by decide +kernel⟩
abbrev s_times : Stmt := topS 33
abbrev N_times : List Str := ["size", "number", "other", "whole", "below", "factor", "under"]
abbrev p_times : List Str := ["size", "number", "other"]
theorem sc_times : FnScope N_times p_times (defScope s_times) := ⟨rfl, rfl, rfl, by decide +kernel, rfl, by decide +kernel, by decide +kernel⟩
abbrev s_check_signal : Stmt := topS 35
abbrev N_check_signal : List Str := ["size", "signal", "index"]
abbrev p_check_signal : List Str := ["size", "signal"]
theorem sc_check_signal : FnScope N_check_signal p_check_signal (defScope s_check_signal) := ⟨rfl, rfl, rfl, by decide +kernel, rfl, by decide +kernel, by decide +kernel⟩
abbrev s_parts_of : Stmt := topS 36
abbrev N_parts_of : List Str := ["size", "signal", "row", "below", "whole"]
abbrev p_parts_of : List Str := ["size", "signal"]
theorem sc_parts_of : FnScope N_parts_of p_parts_of (defScope s_parts_of) := ⟨rfl, rfl, rfl, by decide +kernel, rfl, by decide +kernel, by decide +kernel⟩
abbrev s_wave : Stmt := topS 37
abbrev N_wave : List Str := ["size", "step", "moment"]
abbrev p_wave : List Str := ["size", "step"]
theorem sc_wave : FnScope N_wave p_wave (defScope s_wave) := ⟨rfl, rfl, rfl, by decide +kernel, rfl, by decide +kernel, by decide +kernel⟩
abbrev s_moved : Stmt := topS 38
abbrev N_moved : List Str := ["size", "signal", "step", "moment"]
abbrev p_moved : List Str := ["size", "signal", "step"]
theorem sc_moved : FnScope N_moved p_moved (defScope s_moved) := ⟨rfl, rfl, rfl, by decide +kernel, rfl, by decide +kernel, by decide +kernel⟩
abbrev s_turned : Stmt := topS 39
abbrev N_turned : List Str := ["size", "signal", "step", "value", "by"]
abbrev p_turned : List Str := ["size", "signal", "step"]
theorem sc_turned : FnScope N_turned p_turned (defScope s_turned) := ⟨rfl, rfl, rfl, by decide +kernel, rfl, by decide +kernel, by decide +kernel⟩
abbrev s__law_well : Stmt := topS 41
abbrev N__law_well : List Str := ["script", "turn", "cell", "stir", "each"]
abbrev p__law_well : List Str := ["script", "turn"]
theorem sc__law_well : FnScope N__law_well p__law_well (defScope s__law_well) := ⟨rfl, rfl, rfl, by decide +kernel, rfl, by decide +kernel, by decide +kernel⟩
abbrev s__law_next : Stmt := topS 42
abbrev N__law_next : List Str := ["well", "top", "digit"]
abbrev p__law_next : List Str := ["well", "top"]
theorem sc__law_next : FnScope N__law_next p__law_next (defScope s__law_next) := ⟨rfl, rfl, rfl, by decide +kernel, rfl, by decide +kernel, by decide +kernel⟩
abbrev s__law_pick : Stmt := topS 43
abbrev N__law_pick : List Str := ["well", "some"]
abbrev p__law_pick : List Str := ["well", "some"]
theorem sc__law_pick : FnScope N__law_pick p__law_pick (defScope s__law_pick) := ⟨rfl, rfl, rfl, by decide +kernel, rfl, by decide +kernel, by decide +kernel⟩
abbrev s__law_size : Stmt := topS 44
abbrev N__law_size : List Str := ["well", "big"]
abbrev p__law_size : List Str := ["well", "big"]
theorem sc__law_size : FnScope N__law_size p__law_size (defScope s__law_size) := ⟨rfl, rfl, rfl, by decide +kernel, rfl, by decide +kernel, by decide +kernel⟩
abbrev s__law_gcd : Stmt := topS 45
abbrev N__law_gcd : List Str := ["one", "two"]
abbrev p__law_gcd : List Str := ["one", "two"]
theorem sc__law_gcd : FnScope N__law_gcd p__law_gcd (defScope s__law_gcd) := ⟨rfl, rfl, rfl, by decide +kernel, rfl, by decide +kernel, by decide +kernel⟩
abbrev s__law_fraction : Stmt := topS 46
abbrev N__law_fraction : List Str := ["top", "low", "both"]
abbrev p__law_fraction : List Str := ["top", "low"]
theorem sc__law_fraction : FnScope N__law_fraction p__law_fraction (defScope s__law_fraction) := ⟨rfl, rfl, rfl, by decide +kernel, rfl, by decide +kernel, by decide +kernel⟩
abbrev s__law_number : Stmt := topS 47
abbrev N__law_number : List Str := ["ints", "low", "each"]
abbrev p__law_number : List Str := ["ints", "low"]
theorem sc__law_number : FnScope N__law_number p__law_number (defScope s__law_number) := ⟨rfl, rfl, rfl, by decide +kernel, rfl, by decide +kernel, by decide +kernel⟩
abbrev s__law_told : Stmt := topS 48
abbrev N__law_told : List Str := ["rows", "low", "each"]
abbrev p__law_told : List Str := ["rows", "low"]
theorem sc__law_told : FnScope N__law_told p__law_told (defScope s__law_told) := ⟨rfl, rfl, rfl, by decide +kernel, rfl, by decide +kernel, by decide +kernel⟩
abbrev s__law_ring : Stmt := topS 49
abbrev N__law_ring : List Str := ["rim", "lows", "low", "found", "row", "turn", "lead", "k"]
abbrev p__law_ring : List Str := ["rim"]
theorem sc__law_ring : FnScope N__law_ring p__law_ring (defScope s__law_ring) := ⟨rfl, rfl, rfl, by decide +kernel, rfl, by decide +kernel, by decide +kernel⟩
abbrev s__law_lowered : Stmt := topS 50
abbrev N__law_lowered : List Str := ["ring", "masses", "found", "power", "k"]
abbrev p__law_lowered : List Str := ["ring", "masses"]
theorem sc__law_lowered : FnScope N__law_lowered p__law_lowered (defScope s__law_lowered) := ⟨rfl, rfl, rfl, by decide +kernel, rfl, by decide +kernel, by decide +kernel⟩
abbrev s__law_sum : Stmt := topS 51
abbrev N__law_sum : List Str := ["ring", "rows", "pace", "masses", "at", "k", "power"]
abbrev p__law_sum : List Str := ["ring", "rows", "pace"]
theorem sc__law_sum : FnScope N__law_sum p__law_sum (defScope s__law_sum) := ⟨rfl, rfl, rfl, by decide +kernel, rfl, by decide +kernel, by decide +kernel⟩
abbrev s__law_times : Stmt := topS 52
abbrev N__law_times : List Str := ["ring", "one", "two", "masses", "i", "k", "power"]
abbrev p__law_times : List Str := ["ring", "one", "two"]
theorem sc__law_times : FnScope N__law_times p__law_times (defScope s__law_times) := ⟨rfl, rfl, rfl, by decide +kernel, rfl, by decide +kernel, by decide +kernel⟩
abbrev s__law_some : Stmt := topS 53
abbrev N__law_some : List Str := ["well", "many", "way", "found", "turn", "each", "spot", "k"]
abbrev p__law_some : List Str := ["well", "many"]
theorem sc__law_some : FnScope N__law_some p__law_some (defScope s__law_some) := ⟨rfl, rfl, rfl, by decide +kernel, rfl, by decide +kernel, by decide +kernel⟩
abbrev s__law_rows : Stmt := topS 54
abbrev N__law_rows : List Str := ["well", "ring", "way", "found", "turn", "row"]
abbrev p__law_rows : List Str := ["well", "ring"]
theorem sc__law_rows : FnScope N__law_rows p__law_rows (defScope s__law_rows) := ⟨rfl, rfl, rfl, by decide +kernel, rfl, by decide +kernel, by decide +kernel⟩
abbrev s__law_right : Stmt := topS 55
abbrev N__law_right : List Str := ["well", "rim", "ring", "rows", "low", "tune", "one", "two", "late", "spun", "moved_due", "turned_due", "sums", "due", "back", "both", "after", "j", "k", "each"]
abbrev p__law_right : List Str := ["well"]
theorem sc__law_right : FnScope N__law_right p__law_right (defScope s__law_right) := ⟨rfl, rfl, rfl, by decide +kernel, rfl, by decide +kernel, by decide +kernel⟩
abbrev s_law : Stmt := topS 56
abbrev N_law : List Str := ["script", "turn"]
abbrev p_law : List Str := ["script"]
theorem sc_law : FnScope N_law p_law (defScope s_law) := ⟨rfl, rfl, rfl, by decide +kernel, rfl, by decide +kernel, by decide +kernel⟩
/-! ### the programs -/
def b__law_well : MS :=
  (mSeq (mSet 2 (mIf (mTest (mBin fLt (mVar 1) (mCS fLen (mCons (mVar 0) mNil)))) (mCS (fI1 fun i => i) (mCons (mIx (mVar 0) (mVar 1)) mNil)) (mBin fAdd (mBin fAdd (mBin fMulA (mC (.int 6007)) (mVar 1)) (mC (.int 41))) (mBin fMod (mCS (fI1 fun i => i) (mCons (mCS fSum (mCons (mSlL (mVar 0) mNo (mPart (mC (.int 1)))) mNil)) mNil)) (mC (.int 1000003))))))
  (mSeq (mSet 3 (mBin fAdd (mC (.int 53049)) (mBin fMulA (mC (.int 1101)) (mVar 1))))
  (mSeq (mFor (mSeqI (mCatL (mSlL (mVar 0) mNo (mPart (mC (.int 9)))) (mLst (mCons (mFrz (mVar 2)) mNil)))) (gPut 4) (mSet 3 (mBin fMod (mCS (fI1 fun i => i) (mCons (mBin fAdd (mBin fAdd (mBin fMulA (mVar 3) (mC (.int 69069))) (mBin fMulA (mBin fMod (mCS (fI1 fun i => i) (mCons (mVar 4) mNil)) (mC (.int 2147483629))) (mC (.int 30011)))) (mC (.int 19))) mNil)) (mC (.int 2147483629)))))
  (mRet (mLst (mCons (mFrz (mIf (mOrT (mTest (mBin fLt (mVar 2) (mC (.int 0)))) (mTest (mBin fGe (mVar 2) (mBin fPow (mC (.int 10)) (mC (.int 16)))))) (mCS (fI1 gAbs) (mCons (mVar 2) mNil)) (mC (.int 0)))) (mCons (mFrz (mVar 3)) (mCons (mFrz (mC (.int 0))) mNil))))))))
def fn__law_well : FnV := fnV 5 2 b__law_well
def b__law_right : MS :=
  (mSeq (mSet 1 (mCallW fn__law_size (mVar 0) (mCons (mFrz (mLst (mCons (mFrz (mC (.int 7))) (mCons (mFrz (mC (.int 8))) (mCons (mFrz (mC (.int 8))) (mCons (mFrz (mC (.int 9))) (mCons (mFrz (mC (.int 10))) (mCons (mFrz (mC (.int 12))) mNil)))))))) mNil)))
  (mSeq (mSet 2 (mCallV fn__law_ring (mCons (mFrz (mVar 1)) mNil)))
  (mSeq (mAsg (mFrz (mTup (mCons (mFrz (mCallW fn__law_rows (mVar 0) (mCons (mFrz (mVar 2)) mNil))) (mCons (mFrz (mCallW fn__law_pick (mVar 0) (mCons (mFrz (mLst (mCons (mFrz (mC (.int 1))) (mCons (mFrz (mC (.int 2))) (mCons (mFrz (mC (.int 6))) (mCons (mFrz (mC (.int 35))) (mCons (mFrz (mBin fAdd (mBin fPow (mC (.int 10)) (mC (.int 9))) (mC (.int 7)))) mNil))))))) mNil))) mNil)))) (gTupD 2 (gsCons (gPut 3) (gsCons (gPut 4) gsNil))))
  (mSeq (mAsg (mFrz (mTup (mCons (mFrz (mCallV fn__law_told (mCons (mFrz (mVar 3)) (mCons (mFrz (mVar 4)) mNil)))) (mCons (mFrz (mCallW fn__law_next (mVar 0) (mCons (mFrz (mVar 1)) mNil))) (mCons (mFrz (mCallW fn__law_next (mVar 0) (mCons (mFrz (mVar 1)) mNil))) mNil))))) (gTupD 3 (gsCons (gPut 5) (gsCons (gPut 6) (gsCons (gPut 7) gsNil)))))
  (mSeq (mSet 8 (mLc [17] (mRng fRg1 (mCons (mVar 1) mNil)) (gPut 17) mYes (mIx (mVar 3) (mBin fMod (mCS (fI1 fun i => i) (mCons (mBin fSub (mVar 17) (mVar 6)) mNil)) (mVar 1)))))
  (mSeq (mSet 9 (mLc [17] (mRng fRg1 (mCons (mVar 1) mNil)) (gPut 17) mYes (mCallV fn__law_times (mCons (mFrz (mVar 2)) (mCons (mFrz (mIx (mVar 3) (mVar 17))) (mCons (mFrz (mIx (mVar 2) (mBin fMod (mCS (fI1 fun i => i) (mCons (mBin fMulA (mVar 17) (mVar 7)) mNil)) (mVar 1)))) mNil))))))
  (mSeq (mPar 10 11 (mCons (mFrz (mCallV fn__law_told (mCons (mFrz (mVar 8)) (mCons (mFrz (mVar 4)) mNil)))) (mCons (mFrz (mCallV fn__law_told (mCons (mFrz (mVar 9)) (mCons (mFrz (mVar 4)) mNil)))) mNil)))
  (mSeq (mIfS (mTest (mBin fNe (mCS fRepr (mCons (mLst (mCons (mFrz (mCallV fn_moved (mCons (mFrz (mVar 1)) (mCons (mFrz (mVar 5)) (mCons (mFrz (mVar 6)) mNil))))) (mCons (mFrz (mCallV (fnP [2, 1, 0] 3 fn_moved) (mCons (mFrz (mVar 6)) (mCons (mFrz (mVar 5)) (mCons (mFrz (mVar 1)) mNil))))) mNil))) mNil)) (mCS fRepr (mCons (mLst (mCons (mFrz (mVar 10)) (mCons (mFrz (mVar 10)) mNil))) mNil)))) (mRet (mC (.bl false))) mSkip)
  (mSeq (mIfS (mTest (mBin fNe (mCS fRepr (mCons (mLst (mCons (mFrz (mCallV fn_turned (mCons (mFrz (mVar 1)) (mCons (mFrz (mVar 5)) (mCons (mFrz (mVar 7)) mNil))))) (mCons (mFrz (mCallV (fnP [2, 1, 0] 3 fn_turned) (mCons (mFrz (mVar 7)) (mCons (mFrz (mVar 5)) (mCons (mFrz (mVar 1)) mNil))))) mNil))) mNil)) (mCS fRepr (mCons (mLst (mCons (mFrz (mVar 11)) (mCons (mFrz (mVar 11)) mNil))) mNil)))) (mRet (mC (.bl false))) mSkip)
  (mSeq (mSet 12 (mLc [18] (mRng fRg1 (mCons (mVar 1) mNil)) (gPut 18) mYes (mCallV fn__law_sum (mCons (mFrz (mVar 2)) (mCons (mFrz (mVar 3)) (mCons (mFrz (mBin fSub (mC (.int 0)) (mVar 18))) mNil))))))
  (mSeq (mSet 13 (mCallV fn__law_told (mCons (mFrz (mLc [18] (mRng fRg1 (mCons (mVar 1) mNil)) (gPut 18) mYes (mCallV fn__law_times (mCons (mFrz (mVar 2)) (mCons (mFrz (mIx (mVar 12) (mVar 18))) (mCons (mFrz (mIx (mVar 2) (mBin fMod (mCS (fI1 fun i => i) (mCons (mBin fSub (mC (.int 0)) (mBin fMulA (mVar 6) (mVar 18))) mNil)) (mVar 1)))) mNil)))))) (mCons (mFrz (mBin fMulA (mVar 4) (mVar 1))) mNil))))
  (mSeq (mIfS (mTest (mBin fNe (mCS fRepr (mCons (mCallV fn_parts_of (mCons (mFrz (mVar 1)) (mCons (mFrz (mVar 10)) mNil))) mNil)) (mCS fRepr (mCons (mVar 13) mNil)))) (mRet (mC (.bl false))) mSkip)
  (mSeq (mSet 13 (mCallV fn__law_told (mCons (mFrz (mLc [18] (mRng fRg1 (mCons (mVar 1) mNil)) (gPut 18) mYes (mIx (mVar 12) (mBin fMod (mCS (fI1 fun i => i) (mCons (mBin fSub (mVar 18) (mVar 7)) mNil)) (mVar 1))))) (mCons (mFrz (mBin fMulA (mVar 4) (mVar 1))) mNil))))
  (mSeq (mIfS (mTest (mBin fNe (mCS fRepr (mCons (mCallV fn_parts_of (mCons (mFrz (mVar 1)) (mCons (mFrz (mVar 11)) mNil))) mNil)) (mCS fRepr (mCons (mVar 13) mNil)))) (mRet (mC (.bl false))) mSkip)
  (mSeq (mSet 14 (mLst (mCons (mFrz (mCallV fn_moved (mCons (mFrz (mVar 1)) (mCons (mFrz (mVar 10)) (mCons (mFrz (mBin fMod (mCS (fI1 fun i => i) (mCons (mBin fSub (mC (.int 0)) (mVar 6)) mNil)) (mVar 1))) mNil))))) (mCons (mFrz (mCallV fn_turned (mCons (mFrz (mVar 1)) (mCons (mFrz (mVar 11)) (mCons (mFrz (mBin fMod (mCS (fI1 fun i => i) (mCons (mBin fSub (mC (.int 0)) (mVar 7)) mNil)) (mVar 1))) mNil))))) mNil))))
  (mSeq (mIfS (mTest (mBin fNe (mCS fRepr (mCons (mVar 14) mNil)) (mCS fRepr (mCons (mLst (mCons (mFrz (mVar 5)) (mCons (mFrz (mVar 5)) mNil))) mNil)))) (mRet (mC (.bl false))) mSkip)
  (mSeq (mSet 15 (mLc [17] (mRng fRg1 (mCons (mVar 1) mNil)) (gPut 17) mYes (mCallV fn__law_times (mCons (mFrz (mVar 2)) (mCons (mFrz (mIx (mVar 8) (mVar 17))) (mCons (mFrz (mIx (mVar 2) (mBin fMod (mCS (fI1 fun i => i) (mCons (mBin fMulA (mVar 17) (mVar 7)) mNil)) (mVar 1)))) mNil))))))
  (mSeq (mSet 16 (mLc [17] (mRng fRg1 (mCons (mVar 1) mNil)) (gPut 17) mYes (mIx (mVar 9) (mBin fMod (mCS (fI1 fun i => i) (mCons (mBin fSub (mVar 17) (mVar 6)) mNil)) (mVar 1)))))
  (mSeq (mIfS (mTest (mBin fNe (mLc [19] (mSeqI (mVar 16)) (gPut 19) mYes (mCallV fn__law_times (mCons (mFrz (mVar 2)) (mCons (mFrz (mVar 19)) (mCons (mFrz (mIx (mVar 2) (mBin fMod (mCS (fI1 fun i => i) (mCons (mBin fMulA (mVar 6) (mVar 7)) mNil)) (mVar 1)))) mNil))))) (mVar 15))) (mRet (mC (.bl false))) mSkip)
  (mSeq (mSet 13 (mLst (mCons (mFrz (mCallV fn__law_told (mCons (mFrz (mVar 15)) (mCons (mFrz (mVar 4)) mNil)))) (mCons (mFrz (mCallV fn__law_told (mCons (mFrz (mVar 16)) (mCons (mFrz (mVar 4)) mNil)))) mNil))))
  (mRet (mBin fEq (mCS fRepr (mCons (mLst (mCons (mFrz (mCallV fn_turned (mCons (mFrz (mVar 1)) (mCons (mFrz (mVar 10)) (mCons (mFrz (mVar 7)) mNil))))) (mCons (mFrz (mCallV fn_moved (mCons (mFrz (mVar 1)) (mCons (mFrz (mVar 11)) (mCons (mFrz (mVar 6)) mNil))))) mNil))) mNil)) (mCS fRepr (mCons (mVar 13) mNil))))))))))))))))))))))))
def fn__law_right : FnW := fnW 20 1 b__law_right
def b_law : MS :=
  (mRet (mCS fAll (mCons (mLc [1] (mRng fRg1 (mCons (mCS (fI2 gMax) (mCons (mC (.int 2)) (mCons (mCS (fI2 gMin) (mCons (mCS fLen (mCons (mVar 0) mNil)) (mCons (mC (.int 3)) mNil))) mNil))) mNil)) (gPut 1) mYes (mCallW fn__law_right (mCallV fn__law_well (mCons (mFrz (mVar 0)) (mCons (mFrz (mVar 1)) mNil))) mNil)) mNil)))
def fn_law : FnV := fnV 2 1 b_law
/-! ### what the top has written -/
structure Txt (K : PySem.W.Frag) (mg : Str → Option Value) where
  f_fraction_of : Addr
  fd_fraction_of : FuncData
  F_fraction_of : Fun K "fraction_of" "fraction_of" s_fraction_of f_fraction_of fd_fraction_of
  b_fraction_of : Binds K fd_fraction_of p_fraction_of []
  m_fraction_of : mg "fraction_of" = some (.ref f_fraction_of)
  f_number_of : Addr
  fd_number_of : FuncData
  F_number_of : Fun K "number_of" "number_of" s_number_of f_number_of fd_number_of
  b_number_of : Binds K fd_number_of p_number_of []
  m_number_of : mg "number_of" = some (.ref f_number_of)
  f_whole_row : Addr
  fd_whole_row : FuncData
  F_whole_row : Fun K "whole_row" "whole_row" s_whole_row f_whole_row fd_whole_row
  b_whole_row : Binds K fd_whole_row p_whole_row []
  m_whole_row : mg "whole_row" = some (.ref f_whole_row)
  f_whole_over : Addr
  fd_whole_over : FuncData
  F_whole_over : Fun K "whole_over" "whole_over" s_whole_over f_whole_over fd_whole_over
  b_whole_over : Binds K fd_whole_over p_whole_over []
  m_whole_over : mg "whole_over" = some (.ref f_whole_over)
  f_rest_by_round : Addr
  fd_rest_by_round : FuncData
  F_rest_by_round : Fun K "rest_by_round" "rest_by_round" s_rest_by_round f_rest_by_round fd_rest_by_round
  b_rest_by_round : Binds K fd_rest_by_round p_rest_by_round []
  m_rest_by_round : mg "rest_by_round" = some (.ref f_rest_by_round)
  f_times_root : Addr
  fd_times_root : FuncData
  F_times_root : Fun K "times_root" "times_root" s_times_root f_times_root fd_times_root
  b_times_root : Binds K fd_times_root p_times_root []
  m_times_root : mg "times_root" = some (.ref f_times_root)
  f_whole_root : Addr
  fd_whole_root : FuncData
  F_whole_root : Fun K "whole_root" "whole_root" s_whole_root f_whole_root fd_whole_root
  b_whole_root : Binds K fd_whole_root p_whole_root []
  m_whole_root : mg "whole_root" = some (.ref f_whole_root)
  f_product_of : Addr
  fd_product_of : FuncData
  F_product_of : Fun K "product_of" "product_of" s_product_of f_product_of fd_product_of
  b_product_of : Binds K fd_product_of p_product_of []
  m_product_of : mg "product_of" = some (.ref f_product_of)
  f_sums_of_turns : Addr
  fd_sums_of_turns : FuncData
  F_sums_of_turns : Fun K "sums_of_turns" "sums_of_turns" s_sums_of_turns f_sums_of_turns fd_sums_of_turns
  b_sums_of_turns : Binds K fd_sums_of_turns p_sums_of_turns []
  m_sums_of_turns : mg "sums_of_turns" = some (.ref f_sums_of_turns)
  f_is_whole_from : Addr
  fd_is_whole_from : FuncData
  F_is_whole_from : Fun K "is_whole_from" "is_whole_from" s_is_whole_from f_is_whole_from fd_is_whole_from
  b_is_whole_from : Binds K fd_is_whole_from p_is_whole_from []
  m_is_whole_from : mg "is_whole_from" = some (.ref f_is_whole_from)
  f_is_size : Addr
  fd_is_size : FuncData
  F_is_size : Fun K "is_size" "is_size" s_is_size f_is_size fd_is_size
  b_is_size : Binds K fd_is_size p_is_size []
  m_is_size : mg "is_size" = some (.ref f_is_size)
  f_check_size : Addr
  fd_check_size : FuncData
  F_check_size : Fun K "check_size" "check_size" s_check_size f_check_size fd_check_size
  b_check_size : Binds K fd_check_size p_check_size []
  m_check_size : mg "check_size" = some (.ref f_check_size)
  f_check_index : Addr
  fd_check_index : FuncData
  F_check_index : Fun K "check_index" "check_index" s_check_index f_check_index fd_check_index
  b_check_index : Binds K fd_check_index p_check_index []
  m_check_index : mg "check_index" = some (.ref f_check_index)
  f_round_polynomial : Addr
  fd_round_polynomial : FuncData
  F_round_polynomial : Fun K "round_polynomial" "round_polynomial" s_round_polynomial f_round_polynomial fd_round_polynomial
  b_round_polynomial : Binds K fd_round_polynomial p_round_polynomial []
  m_round_polynomial : mg "round_polynomial" = some (.ref f_round_polynomial)
  f_degree_of : Addr
  fd_degree_of : FuncData
  F_degree_of : Fun K "degree_of" "degree_of" s_degree_of f_degree_of fd_degree_of
  b_degree_of : Binds K fd_degree_of p_degree_of []
  m_degree_of : mg "degree_of" = some (.ref f_degree_of)
  f_is_fraction : Addr
  fd_is_fraction : FuncData
  F_is_fraction : Fun K "is_fraction" "is_fraction" s_is_fraction f_is_fraction fd_is_fraction
  b_is_fraction : Binds K fd_is_fraction p_is_fraction []
  m_is_fraction : mg "is_fraction" = some (.ref f_is_fraction)
  f_is_number : Addr
  fd_is_number : FuncData
  F_is_number : Fun K "is_number" "is_number" s_is_number f_is_number fd_is_number
  b_is_number : Binds K fd_is_number p_is_number []
  m_is_number : mg "is_number" = some (.ref f_is_number)
  f_check_number : Addr
  fd_check_number : FuncData
  F_check_number : Fun K "check_number" "check_number" s_check_number f_check_number fd_check_number
  b_check_number : Binds K fd_check_number p_check_number []
  m_check_number : mg "check_number" = some (.ref f_check_number)
  f_first_no_number : Addr
  fd_first_no_number : FuncData
  F_first_no_number : Fun K "first_no_number" "first_no_number" s_first_no_number f_first_no_number fd_first_no_number
  b_first_no_number : Binds K fd_first_no_number p_first_no_number []
  m_first_no_number : mg "first_no_number" = some (.ref f_first_no_number)
  f_root : Addr
  fd_root : FuncData
  F_root : Fun K "root" "root" s_root f_root fd_root
  b_root : Binds K fd_root p_root []
  m_root : mg "root" = some (.ref f_root)
  f_check_two : Addr
  fd_check_two : FuncData
  F_check_two : Fun K "check_two" "check_two" s_check_two f_check_two fd_check_two
  b_check_two : Binds K fd_check_two p_check_two []
  m_check_two : mg "check_two" = some (.ref f_check_two)
  f_times : Addr
  fd_times : FuncData
  F_times : Fun K "times" "times" s_times f_times fd_times
  b_times : Binds K fd_times p_times []
  m_times : mg "times" = some (.ref f_times)
  f_check_signal : Addr
  fd_check_signal : FuncData
  F_check_signal : Fun K "check_signal" "check_signal" s_check_signal f_check_signal fd_check_signal
  b_check_signal : Binds K fd_check_signal p_check_signal []
  m_check_signal : mg "check_signal" = some (.ref f_check_signal)
  f_parts_of : Addr
  fd_parts_of : FuncData
  F_parts_of : Fun K "parts_of" "parts_of" s_parts_of f_parts_of fd_parts_of
  b_parts_of : Binds K fd_parts_of p_parts_of []
  m_parts_of : mg "parts_of" = some (.ref f_parts_of)
  f_wave : Addr
  fd_wave : FuncData
  F_wave : Fun K "wave" "wave" s_wave f_wave fd_wave
  b_wave : Binds K fd_wave p_wave []
  m_wave : mg "wave" = some (.ref f_wave)
  f_moved : Addr
  fd_moved : FuncData
  F_moved : Fun K "moved" "moved" s_moved f_moved fd_moved
  b_moved : Binds K fd_moved p_moved []
  m_moved : mg "moved" = some (.ref f_moved)
  f_turned : Addr
  fd_turned : FuncData
  F_turned : Fun K "turned" "turned" s_turned f_turned fd_turned
  b_turned : Binds K fd_turned p_turned []
  m_turned : mg "turned" = some (.ref f_turned)
  f__law_well : Addr
  fd__law_well : FuncData
  F__law_well : Fun K "_law_well" "_law_well" s__law_well f__law_well fd__law_well
  b__law_well : Binds K fd__law_well p__law_well []
  m__law_well : mg "_law_well" = some (.ref f__law_well)
  f__law_next : Addr
  fd__law_next : FuncData
  F__law_next : Fun K "_law_next" "_law_next" s__law_next f__law_next fd__law_next
  b__law_next : Binds K fd__law_next p__law_next []
  m__law_next : mg "_law_next" = some (.ref f__law_next)
  f__law_pick : Addr
  fd__law_pick : FuncData
  F__law_pick : Fun K "_law_pick" "_law_pick" s__law_pick f__law_pick fd__law_pick
  b__law_pick : Binds K fd__law_pick p__law_pick []
  m__law_pick : mg "_law_pick" = some (.ref f__law_pick)
  f__law_size : Addr
  fd__law_size : FuncData
  F__law_size : Fun K "_law_size" "_law_size" s__law_size f__law_size fd__law_size
  b__law_size : Binds K fd__law_size p__law_size []
  m__law_size : mg "_law_size" = some (.ref f__law_size)
  f__law_gcd : Addr
  fd__law_gcd : FuncData
  F__law_gcd : Fun K "_law_gcd" "_law_gcd" s__law_gcd f__law_gcd fd__law_gcd
  b__law_gcd : Binds K fd__law_gcd p__law_gcd []
  m__law_gcd : mg "_law_gcd" = some (.ref f__law_gcd)
  f__law_fraction : Addr
  fd__law_fraction : FuncData
  F__law_fraction : Fun K "_law_fraction" "_law_fraction" s__law_fraction f__law_fraction fd__law_fraction
  b__law_fraction : Binds K fd__law_fraction p__law_fraction []
  m__law_fraction : mg "_law_fraction" = some (.ref f__law_fraction)
  f__law_number : Addr
  fd__law_number : FuncData
  F__law_number : Fun K "_law_number" "_law_number" s__law_number f__law_number fd__law_number
  b__law_number : Binds K fd__law_number p__law_number []
  m__law_number : mg "_law_number" = some (.ref f__law_number)
  f__law_told : Addr
  fd__law_told : FuncData
  F__law_told : Fun K "_law_told" "_law_told" s__law_told f__law_told fd__law_told
  b__law_told : Binds K fd__law_told p__law_told []
  m__law_told : mg "_law_told" = some (.ref f__law_told)
  f__law_ring : Addr
  fd__law_ring : FuncData
  F__law_ring : Fun K "_law_ring" "_law_ring" s__law_ring f__law_ring fd__law_ring
  b__law_ring : Binds K fd__law_ring p__law_ring []
  m__law_ring : mg "_law_ring" = some (.ref f__law_ring)
  f__law_lowered : Addr
  fd__law_lowered : FuncData
  F__law_lowered : Fun K "_law_lowered" "_law_lowered" s__law_lowered f__law_lowered fd__law_lowered
  b__law_lowered : Binds K fd__law_lowered p__law_lowered []
  m__law_lowered : mg "_law_lowered" = some (.ref f__law_lowered)
  f__law_sum : Addr
  fd__law_sum : FuncData
  F__law_sum : Fun K "_law_sum" "_law_sum" s__law_sum f__law_sum fd__law_sum
  b__law_sum : Binds K fd__law_sum p__law_sum []
  m__law_sum : mg "_law_sum" = some (.ref f__law_sum)
  f__law_times : Addr
  fd__law_times : FuncData
  F__law_times : Fun K "_law_times" "_law_times" s__law_times f__law_times fd__law_times
  b__law_times : Binds K fd__law_times p__law_times []
  m__law_times : mg "_law_times" = some (.ref f__law_times)
  f__law_some : Addr
  fd__law_some : FuncData
  F__law_some : Fun K "_law_some" "_law_some" s__law_some f__law_some fd__law_some
  b__law_some : Binds K fd__law_some p__law_some []
  m__law_some : mg "_law_some" = some (.ref f__law_some)
  f__law_rows : Addr
  fd__law_rows : FuncData
  F__law_rows : Fun K "_law_rows" "_law_rows" s__law_rows f__law_rows fd__law_rows
  b__law_rows : Binds K fd__law_rows p__law_rows []
  m__law_rows : mg "_law_rows" = some (.ref f__law_rows)
  f__law_right : Addr
  fd__law_right : FuncData
  F__law_right : Fun K "_law_right" "_law_right" s__law_right f__law_right fd__law_right
  b__law_right : Binds K fd__law_right p__law_right []
  m__law_right : mg "_law_right" = some (.ref f__law_right)
  f_law : Addr
  fd_law : FuncData
  F_law : Fun K "law" "law" s_law f_law fd_law
  b_law : Binds K fd_law p_law []
  m_law : mg "law" = some (.ref f_law)
  r_moved_2_1_0 : ∀ (s : Shared) (ws : List Value), ws.length = (["step", "signal", "size"] : List Str).length → BindsTo s fd_moved ⟨[], (["step", "signal", "size"] : List Str).zip ws⟩ ((p_moved).zip (permL [2, 1, 0] ws))
  r_turned_2_1_0 : ∀ (s : Shared) (ws : List Value), ws.length = (["step", "signal", "size"] : List Str).length → BindsTo s fd_turned ⟨[], (["step", "signal", "size"] : List Str).zip ws⟩ ((p_turned).zip (permL [2, 1, 0] ws))
  h_gcd : mg "gcd" = some (.builtin "math.gcd")
  h_lcm : mg "lcm" = some (.builtin "math.lcm")
  z_abs : mg "abs" = none
  z_all : mg "all" = none
  z_divmod : mg "divmod" = none
  z_enumerate : mg "enumerate" = none
  z_int : mg "int" = none
  z_len : mg "len" = none
  z_list : mg "list" = none
  z_max : mg "max" = none
  z_min : mg "min" = none
  z_range : mg "range" = none
  z_repr : mg "repr" = none
  z_sum : mg "sum" = none
  z_tuple : mg "tuple" = none
  z_type : mg "type" = none
  z_zip : mg "zip" = none
  c_GREATEST_SIZE : ∃ tk, mg "GREATEST_SIZE" = some (.int 12 tk)
  c_LEAST_SIZE : ∃ tk, mg "LEAST_SIZE" = some (.int 2 tk)
  g_ROUND_POLYNOMIALS : Addr
  v_ROUND_POLYNOMIALS : List (Int × V)
  k_ROUND_POLYNOMIALS : KInt K g_ROUND_POLYNOMIALS v_ROUND_POLYNOMIALS
  d_ROUND_POLYNOMIALS : ∀ M i z, kd_ROUND_POLYNOMIALS.lookup i = some z → ∃ v, v_ROUND_POLYNOMIALS.lookup i = some v ∧ At K M v z
  m_ROUND_POLYNOMIALS : mg "ROUND_POLYNOMIALS" = some (.ref g_ROUND_POLYNOMIALS)
/-! ### the defs keep them -/
section
variable {P : Program} {w : World} {K : PySem.W.Frag} {mg : Str → Option Value} {base : Heap}
theorem ss_fraction_of (T : Txt K mg) : SSs (cdOf P w K mg base N_fraction_of s_fraction_of 0) (defBody s_fraction_of) b_fraction_of :=
  (ss_cons (ss_set 2 (se_gcd (fun X g => gl_of g (by rfl)) T.h_gcd (sa_cons (se_var 0) (sa_cons (se_var 1) sa_nil))))
  (ss_cons (ss_if (st_lt (se_var 1) se_int) (ss_one (ss_set 2 (se_neg (se_var 2)))) ss_nil)
  (ss_one (ss_ret (se_tup (sa_cons (se_frz (se_divA (se_var 0) (se_var 2))) (sa_cons (se_frz (se_divA (se_var 1) (se_var 2))) sa_nil)))))))
theorem ok_fraction_of (T : Txt K mg) : FnG P w K mg base CX0 1 T.f_fraction_of T.fd_fraction_of p_fraction_of (spV K 2 fn_fraction_of) := fn_okV T.F_fraction_of sc_fraction_of (ss_fraction_of T)
theorem ss_number_of (T : Txt K mg) : SSs (cdOf P w K mg base N_number_of s_number_of 1) (defBody s_number_of) b_number_of :=
  (ss_one (ss_ret (se_tupOf (fun X g => gl_of g (by rfl)) T.z_tuple (sa_cons (se_lc [("above", 2)] (si_seq (se_var 0)) (sg_name 2) sts_nil (se_callV (ok_fraction_of T) fnV_n (show 1 ≤ 1 by decide) (fun X g => gl_of g (by rfl)) T.m_fraction_of T.F_fraction_of.kp T.b_fraction_of (sa_cons (se_frz (se_var 2)) (sa_cons (se_frz (se_var 1)) sa_nil)))) sa_nil))))
theorem ok_number_of (T : Txt K mg) : FnG P w K mg base CX0 2 T.f_number_of T.fd_number_of p_number_of (spV K 2 fn_number_of) := fn_okV T.F_number_of sc_number_of (ss_number_of T)
theorem ss_whole_row (T : Txt K mg) : SSs (cdOf P w K mg base N_whole_row s_whole_row 0) (defBody s_whole_row) b_whole_row :=
  (ss_cons (ss_set 1 se_int)
  (ss_cons (ss_for (si_seq (se_var 0)) (sg_name 2) (ss_one (ss_for (si_seq (se_var 2)) (sg_tup (sgs_cons (sg_name 3) (sgs_cons (sg_name 4) sgs_nil))) (ss_one (ss_set 1 (se_lcm (fun X g => gl_of g (by rfl)) T.h_lcm (sa_cons (se_var 1) (sa_cons (se_var 4) sa_nil))))))))
  (ss_cons (ss_setL 5 [("number", 2)] (si_seq (se_var 0)) (sg_name 2) sts_nil (se_tupOf (fun X g => gl_of g (by rfl)) T.z_tuple (sa_cons (se_lc [("above", 6), ("below", 4)] (si_seq (se_var 2)) (sg_tup (sgs_cons (sg_name 6) (sgs_cons (sg_name 4) sgs_nil))) sts_nil (se_mulA (se_var 6) (se_divA (se_var 1) (se_var 4)))) sa_nil)))
  (ss_one (ss_ret (se_tup (sa_cons (se_frz (se_var 5)) (sa_cons (se_frz (se_var 1)) sa_nil))))))))
theorem ok_whole_row (T : Txt K mg) : FnG P w K mg base CX0 1 T.f_whole_row T.fd_whole_row p_whole_row (spV K 1 fn_whole_row) := fn_okV T.F_whole_row sc_whole_row (ss_whole_row T)
theorem ss_whole_over (T : Txt K mg) : SSs (cdOf P w K mg base N_whole_over s_whole_over 1) (defBody s_whole_over) b_whole_over :=
  (ss_cons (ss_asg (se_frz (se_callV (ok_whole_row T) fnV_n (show 1 ≤ 1 by decide) (fun X g => gl_of g (by rfl)) T.m_whole_row T.F_whole_row.kp T.b_whole_row (sa_cons (se_frz (se_tup (sa_cons (se_frz (se_var 0)) sa_nil))) sa_nil))) (sg_tup (sgs_cons (sg_name 1) (sgs_cons (sg_name 2) sgs_nil))))
  (ss_one (ss_ret (se_tup (sa_cons (se_frz (se_ix (se_var 1) se_int)) (sa_cons (se_frz (se_var 2)) sa_nil))))))
theorem ok_whole_over (T : Txt K mg) : FnG P w K mg base CX0 2 T.f_whole_over T.fd_whole_over p_whole_over (spV K 1 fn_whole_over) := fn_okV T.F_whole_over sc_whole_over (ss_whole_over T)
theorem ss_rest_by_round (T : Txt K mg) : SSs (cdOf P w K mg base N_rest_by_round s_rest_by_round 0) (defBody s_rest_by_round) b_rest_by_round :=
  (ss_cons (ss_set 2 (se_ixK kd_ROUND_POLYNOMIALS T.k_ROUND_POLYNOMIALS T.d_ROUND_POLYNOMIALS (fun X g => gl_of g (by rfl)) T.m_ROUND_POLYNOMIALS (by decide) (se_var 0)))
  (ss_cons (ss_set 3 (se_sub (se_callB (r := Dm.rLen) (fun X g => call_len_seq) sc_len (fun X g => gl_of g (by rfl)) T.z_len (by rfl) (sa_cons (se_var 2) sa_nil)) se_int))
  (ss_cons (ss_set 4 (se_callTyL (r := rList1) (fun X g => call_list_of) sl_list1 (fun X g => gl_of g (by rfl)) T.z_list (by rfl) (sa_cons (se_var 1) sa_nil)))
  (ss_cons (ss_while (fun _ => 100) (st_gt (se_callB (r := Dm.rLen) (fun X g => call_len_seq) sc_len (fun X g => gl_of g (by rfl)) T.z_len (by rfl) (sa_cons (se_var 4) sa_nil)) (se_var 3)) (ss_cons (ss_set 5 (se_pop (se_var 4)))
  (ss_one (ss_if (st_ne (se_var 5) se_int) (ss_cons (ss_set 6 (se_sub (se_callB (r := Dm.rLen) (fun X g => call_len_seq) sc_len (fun X g => gl_of g (by rfl)) T.z_len (by rfl) (sa_cons (se_var 4) sa_nil)) (se_var 3)))
  (ss_one (ss_for (si_rng1 (fun X g => gl_of g (by rfl)) T.z_range (sa_cons (se_var 3) sa_nil)) (sg_name 7) (ss_one (ss_augS (se_var 4) (se_add (se_var 6) (se_var 7)) (se_mulA (se_var 5) (se_ix (se_var 2) (se_var 7))) (fun _ => ip_sub)))))) ss_nil))))
  (ss_one (ss_ret (se_tupOf (fun X g => gl_of g (by rfl)) T.z_tuple (sa_cons (se_var 4) sa_nil))))))))
theorem ok_rest_by_round (T : Txt K mg) : FnG P w K mg base CX0 1 T.f_rest_by_round T.fd_rest_by_round p_rest_by_round (spV K 2 fn_rest_by_round) := fn_okV T.F_rest_by_round sc_rest_by_round (ss_rest_by_round T)
theorem ss_times_root (T : Txt K mg) : SSs (cdOf P w K mg base N_times_root s_times_root 1) (defBody s_times_root) b_times_root :=
  (ss_cons (ss_set 3 (se_rep (se_lst (sa_cons (se_frz se_int) sa_nil)) (se_var 0)))
  (ss_cons (ss_for (si_enA (fun X g => gl_of g (by rfl)) T.z_enumerate (se_var 1)) (sg_tup (sgs_cons (sg_name 4) (sgs_cons (sg_name 5) sgs_nil))) (ss_one (ss_augS (se_var 3) (se_mod (se_add (se_var 4) (se_var 2)) (se_var 0)) (se_var 5) (fun _ => ip_add))))
  (ss_one (ss_ret (se_callV (ok_rest_by_round T) fnV_n (show 1 ≤ 1 by decide) (fun X g => gl_of g (by rfl)) T.m_rest_by_round T.F_rest_by_round.kp T.b_rest_by_round (sa_cons (se_frz (se_var 0)) (sa_cons (se_frz (se_var 3)) sa_nil)))))))
theorem ok_times_root (T : Txt K mg) : FnG P w K mg base CX0 2 T.f_times_root T.fd_times_root p_times_root (spV K 3 fn_times_root) := fn_okV T.F_times_root sc_times_root (ss_times_root T)
theorem ss_whole_root (T : Txt K mg) : SSs (cdOf P w K mg base N_whole_root s_whole_root 2) (defBody s_whole_root) b_whole_root :=
  (ss_one (ss_ret (se_callV (ok_times_root T) fnV_n (show 2 ≤ 2 by decide) (fun X g => gl_of g (by rfl)) T.m_times_root T.F_times_root.kp T.b_times_root (sa_cons (se_frz (se_var 0)) (sa_cons (se_frz (se_tup (sa_cons (se_frz se_int) sa_nil))) (sa_cons (se_frz (se_var 1)) sa_nil))))))
theorem ok_whole_root (T : Txt K mg) : FnG P w K mg base CX0 3 T.f_whole_root T.fd_whole_root p_whole_root (spV K 2 fn_whole_root) := fn_okV T.F_whole_root sc_whole_root (ss_whole_root T)
theorem ss_product_of (T : Txt K mg) : SSs (cdOf P w K mg base N_product_of s_product_of 1) (defBody s_product_of) b_product_of :=
  (ss_cons (ss_set 3 (se_rep (se_lst (sa_cons (se_frz se_int) sa_nil)) (se_sub (se_mulA se_int (se_callB (r := Dm.rLen) (fun X g => call_len_seq) sc_len (fun X g => gl_of g (by rfl)) T.z_len (by rfl) (sa_cons (se_var 1) sa_nil))) se_int)))
  (ss_cons (ss_for (si_enA (fun X g => gl_of g (by rfl)) T.z_enumerate (se_var 1)) (sg_tup (sgs_cons (sg_name 4) (sgs_cons (sg_name 5) sgs_nil))) (ss_one (ss_if (st_ne (se_var 5) se_int) (ss_one (ss_for (si_enA (fun X g => gl_of g (by rfl)) T.z_enumerate (se_var 2)) (sg_tup (sgs_cons (sg_name 6) (sgs_cons (sg_name 7) sgs_nil))) (ss_one (ss_augS (se_var 3) (se_add (se_var 4) (se_var 6)) (se_mulA (se_var 5) (se_var 7)) (fun _ => ip_add))))) ss_nil)))
  (ss_one (ss_ret (se_callV (ok_rest_by_round T) fnV_n (show 1 ≤ 1 by decide) (fun X g => gl_of g (by rfl)) T.m_rest_by_round T.F_rest_by_round.kp T.b_rest_by_round (sa_cons (se_frz (se_var 0)) (sa_cons (se_frz (se_var 3)) sa_nil)))))))
theorem ok_product_of (T : Txt K mg) : FnG P w K mg base CX0 2 T.f_product_of T.fd_product_of p_product_of (spV K 3 fn_product_of) := fn_okV T.F_product_of sc_product_of (ss_product_of T)
theorem ss_sums_of_turns (T : Txt K mg) : SSs (cdOf P w K mg base N_sums_of_turns s_sums_of_turns 1) (defBody s_sums_of_turns) b_sums_of_turns :=
  (ss_cons (ss_set 3 (se_lst sa_nil))
  (ss_cons (ss_for (si_rng1 (fun X g => gl_of g (by rfl)) T.z_range (sa_cons (se_var 0) sa_nil)) (sg_name 4) (ss_cons (ss_set 5 (se_rep (se_lst (sa_cons (se_frz se_int) sa_nil)) (se_var 0)))
  (ss_cons (ss_for (si_enA (fun X g => gl_of g (by rfl)) T.z_enumerate (se_var 1)) (sg_tup (sgs_cons (sg_name 6) (sgs_cons (sg_name 7) sgs_nil))) (ss_one (ss_for (si_enA (fun X g => gl_of g (by rfl)) T.z_enumerate (se_var 7)) (sg_tup (sgs_cons (sg_name 8) (sgs_cons (sg_name 9) sgs_nil))) (ss_one (ss_augS (se_var 5) (se_mod (se_add (se_var 8) (se_mulA (se_mulA (se_var 2) (se_var 6)) (se_var 4))) (se_var 0)) (se_var 9) (fun _ => ip_add))))))
  (ss_one (ss_expr (se_app (se_var 3) (se_frz (se_callV (ok_rest_by_round T) fnV_n (show 1 ≤ 1 by decide) (fun X g => gl_of g (by rfl)) T.m_rest_by_round T.F_rest_by_round.kp T.b_rest_by_round (sa_cons (se_frz (se_var 0)) (sa_cons (se_frz (se_var 5)) sa_nil))))))))))
  (ss_one (ss_ret (se_var 3)))))
theorem ok_sums_of_turns (T : Txt K mg) : FnG P w K mg base CX0 2 T.f_sums_of_turns T.fd_sums_of_turns p_sums_of_turns (spV K 3 fn_sums_of_turns) := fn_okV T.F_sums_of_turns sc_sums_of_turns (ss_sums_of_turns T)
theorem ss_is_whole_from (T : Txt K mg) : SSs (cdOf P w K mg base N_is_whole_from s_is_whole_from 0) (defBody s_is_whole_from) b_is_whole_from :=
  (ss_one (ss_ret (se_and (se_tyIs "int" (se_var 0) (fun X g => gl_of g (by rfl)) T.z_type (fun X g => gl_of g (by rfl)) T.z_int (by rfl)) (se_one (se_chain (r2 := fun _ => _) (r3 := fun _ => _) (fun _ => op_le) (fun _ => op_le) (sc_I0 fun _ _ _ => .bl _) (sc_I0 fun _ _ _ => .bl _) (se_var 1) (se_var 0) (se_var 2))))))
theorem ok_is_whole_from (T : Txt K mg) : FnG P w K mg base CX0 1 T.f_is_whole_from T.fd_is_whole_from p_is_whole_from (spV K 3 fn_is_whole_from) := fn_okV T.F_is_whole_from sc_is_whole_from (ss_is_whole_from T)
theorem ss_is_size (T : Txt K mg) : SSs (cdOf P w K mg base N_is_size s_is_size 1) (defBody s_is_size) b_is_size :=
  (ss_one (ss_ret (se_callV (ok_is_whole_from T) fnV_n (show 1 ≤ 1 by decide) (fun X g => gl_of g (by rfl)) T.m_is_whole_from T.F_is_whole_from.kp T.b_is_whole_from (sa_cons (se_frz (se_var 0)) (sa_cons (se_frz (se_globI (fun X g => gl_of g (by rfl)) T.c_LEAST_SIZE)) (sa_cons (se_frz (se_globI (fun X g => gl_of g (by rfl)) T.c_GREATEST_SIZE)) sa_nil))))))
theorem ok_is_size (T : Txt K mg) : FnG P w K mg base CX0 2 T.f_is_size T.fd_is_size p_is_size (spV K 1 fn_is_size) := fn_okV T.F_is_size sc_is_size (ss_is_size T)
theorem ss_check_size (T : Txt K mg) : SSs (cdOf P w K mg base N_check_size s_check_size 2) (defBody s_check_size) b_check_size :=
  (ss_one (ss_if (st_not (st_val (se_callV (ok_is_size T) fnV_n (show 2 ≤ 2 by decide) (fun X g => gl_of g (by rfl)) T.m_is_size T.F_is_size.kp T.b_is_size (sa_cons (se_frz (se_var 0)) sa_nil)))) (ss_one ss_die) ss_nil))
theorem ok_check_size (T : Txt K mg) : FnG P w K mg base CX0 3 T.f_check_size T.fd_check_size p_check_size (spV K 1 fn_check_size) := fn_okV T.F_check_size sc_check_size (ss_check_size T)
theorem ss_check_index (T : Txt K mg) : SSs (cdOf P w K mg base N_check_index s_check_index 1) (defBody s_check_index) b_check_index :=
  (ss_one (ss_if (st_not (st_val (se_callV (ok_is_whole_from T) fnV_n (show 1 ≤ 1 by decide) (fun X g => gl_of g (by rfl)) T.m_is_whole_from T.F_is_whole_from.kp T.b_is_whole_from (sa_cons (se_frz (se_var 0)) (sa_cons (se_frz se_int) (sa_cons (se_frz (se_sub (se_var 1) se_int)) sa_nil)))))) (ss_one ss_die) ss_nil))
theorem ok_check_index (T : Txt K mg) : FnG P w K mg base CX0 2 T.f_check_index T.fd_check_index p_check_index (spV K 2 fn_check_index) := fn_okV T.F_check_index sc_check_index (ss_check_index T)
theorem ss_round_polynomial (T : Txt K mg) : SSs (cdOf P w K mg base N_round_polynomial s_round_polynomial 3) (defBody s_round_polynomial) b_round_polynomial :=
  (ss_cons (ss_expr (se_callV (ok_check_size T) fnV_n (show 3 ≤ 3 by decide) (fun X g => gl_of g (by rfl)) T.m_check_size T.F_check_size.kp T.b_check_size (sa_cons (se_frz (se_var 0)) sa_nil)))
  (ss_one (ss_ret (se_ixK kd_ROUND_POLYNOMIALS T.k_ROUND_POLYNOMIALS T.d_ROUND_POLYNOMIALS (fun X g => gl_of g (by rfl)) T.m_ROUND_POLYNOMIALS (by decide) (se_var 0)))))
theorem ok_round_polynomial (T : Txt K mg) : FnG P w K mg base CX0 4 T.f_round_polynomial T.fd_round_polynomial p_round_polynomial (spV K 1 fn_round_polynomial) := fn_okV T.F_round_polynomial sc_round_polynomial (ss_round_polynomial T)
theorem ss_degree_of (T : Txt K mg) : SSs (cdOf P w K mg base N_degree_of s_degree_of 4) (defBody s_degree_of) b_degree_of :=
  (ss_one (ss_ret (se_sub (se_callB (r := Dm.rLen) (fun X g => call_len_seq) sc_len (fun X g => gl_of g (by rfl)) T.z_len (by rfl) (sa_cons (se_callV (ok_round_polynomial T) fnV_n (show 4 ≤ 4 by decide) (fun X g => gl_of g (by rfl)) T.m_round_polynomial T.F_round_polynomial.kp T.b_round_polynomial (sa_cons (se_frz (se_var 0)) sa_nil)) sa_nil)) se_int)))
theorem ok_degree_of (T : Txt K mg) : FnG P w K mg base CX0 5 T.f_degree_of T.fd_degree_of p_degree_of (spV K 1 fn_degree_of) := fn_okV T.F_degree_of sc_degree_of (ss_degree_of T)
theorem ss_is_fraction (T : Txt K mg) : SSs (cdOf P w K mg base N_is_fraction s_is_fraction 0) (defBody s_is_fraction) b_is_fraction :=
  (ss_cons (ss_if (st_w (sw_or (st_tyNot "tuple" (se_var 0) (fun X g => gl_of g (by rfl)) T.z_type (fun X g => gl_of g (by rfl)) T.z_tuple (by rfl)) (sw_or1 (st_ne (se_callB (r := Dm.rLen) (fun X g => call_len_seq) sc_len (fun X g => gl_of g (by rfl)) T.z_len (by rfl) (sa_cons (se_var 0) sa_nil)) se_int)))) (ss_one (ss_ret se_bl)) ss_nil)
  (ss_cons (ss_asg (se_frz (se_var 0)) (sg_tup (sgs_cons (sg_name 1) (sgs_cons (sg_name 2) sgs_nil))))
  (ss_cons (ss_if (st_w (sw_or (st_tyNot "int" (se_var 1) (fun X g => gl_of g (by rfl)) T.z_type (fun X g => gl_of g (by rfl)) T.z_int (by rfl)) (sw_or1 (st_tyNot "int" (se_var 2) (fun X g => gl_of g (by rfl)) T.z_type (fun X g => gl_of g (by rfl)) T.z_int (by rfl))))) (ss_one (ss_ret se_bl)) ss_nil)
  (ss_one (ss_ret (se_and (se_gt (se_var 2) se_int) (se_one (se_eq (se_gcd (fun X g => gl_of g (by rfl)) T.h_gcd (sa_cons (se_var 1) (sa_cons (se_var 2) sa_nil))) se_int))))))))
theorem ok_is_fraction (T : Txt K mg) : FnG P w K mg base CX0 1 T.f_is_fraction T.fd_is_fraction p_is_fraction (spV K 1 fn_is_fraction) := fn_okV T.F_is_fraction sc_is_fraction (ss_is_fraction T)
theorem ss_is_number (T : Txt K mg) : SSs (cdOf P w K mg base N_is_number s_is_number 5) (defBody s_is_number) b_is_number :=
  (ss_cons (ss_set 2 (se_callV (ok_degree_of T) fnV_n (show 5 ≤ 5 by decide) (fun X g => gl_of g (by rfl)) T.m_degree_of T.F_degree_of.kp T.b_degree_of (sa_cons (se_frz (se_var 0)) sa_nil)))
  (ss_cons (ss_if (st_w (sw_or (st_tyNot "tuple" (se_var 1) (fun X g => gl_of g (by rfl)) T.z_type (fun X g => gl_of g (by rfl)) T.z_tuple (by rfl)) (sw_or1 (st_ne (se_callB (r := Dm.rLen) (fun X g => call_len_seq) sc_len (fun X g => gl_of g (by rfl)) T.z_len (by rfl) (sa_cons (se_var 1) sa_nil)) (se_var 2))))) (ss_one (ss_ret se_bl)) ss_nil)
  (ss_one (ss_ret (se_callB (r := rAll) (fun X g => cr_all g.calm) sc_all (fun X g => gl_of g (by rfl)) T.z_all (by rfl) (sa_cons (se_lc [("part", 3)] (si_seq (se_var 1)) (sg_name 3) sts_nil (se_callV (ok_is_fraction T) fnV_n (show 1 ≤ 5 by decide) (fun X g => gl_of g (by rfl)) T.m_is_fraction T.F_is_fraction.kp T.b_is_fraction (sa_cons (se_frz (se_var 3)) sa_nil))) sa_nil))))))
theorem ok_is_number (T : Txt K mg) : FnG P w K mg base CX0 6 T.f_is_number T.fd_is_number p_is_number (spV K 2 fn_is_number) := fn_okV T.F_is_number sc_is_number (ss_is_number T)
theorem ss_check_number (T : Txt K mg) : SSs (cdOf P w K mg base N_check_number s_check_number 6) (defBody s_check_number) b_check_number :=
  (ss_one (ss_if (st_not (st_val (se_callV (ok_is_number T) fnV_n (show 6 ≤ 6 by decide) (fun X g => gl_of g (by rfl)) T.m_is_number T.F_is_number.kp T.b_is_number (sa_cons (se_frz (se_var 0)) (sa_cons (se_frz (se_var 1)) sa_nil))))) (ss_one ss_die) ss_nil))
theorem ok_check_number (T : Txt K mg) : FnG P w K mg base CX0 7 T.f_check_number T.fd_check_number p_check_number (spV K 2 fn_check_number) := fn_okV T.F_check_number sc_check_number (ss_check_number T)
theorem ss_first_no_number (T : Txt K mg) : SSs (cdOf P w K mg base N_first_no_number s_first_no_number 6) (defBody s_first_no_number) b_first_no_number :=
  (ss_cons (ss_for (si_enA (fun X g => gl_of g (by rfl)) T.z_enumerate (se_var 1)) (sg_tup (sgs_cons (sg_name 2) (sgs_cons (sg_name 3) sgs_nil))) (ss_one (ss_if (st_not (st_val (se_callV (ok_is_number T) fnV_n (show 6 ≤ 6 by decide) (fun X g => gl_of g (by rfl)) T.m_is_number T.F_is_number.kp T.b_is_number (sa_cons (se_frz (se_var 0)) (sa_cons (se_frz (se_var 3)) sa_nil))))) (ss_one (ss_ret (se_var 2))) ss_nil)))
  (ss_one (ss_ret se_non)))
theorem ok_first_no_number (T : Txt K mg) : FnG P w K mg base CX0 7 T.f_first_no_number T.fd_first_no_number p_first_no_number (spV K 2 fn_first_no_number) := fn_okV T.F_first_no_number sc_first_no_number (ss_first_no_number T)
theorem ss_root (T : Txt K mg) : SSs (cdOf P w K mg base N_root s_root 3) (defBody s_root) b_root :=
  (ss_cons (ss_expr (se_callV (ok_check_size T) fnV_n (show 3 ≤ 3 by decide) (fun X g => gl_of g (by rfl)) T.m_check_size T.F_check_size.kp T.b_check_size (sa_cons (se_frz (se_var 0)) sa_nil)))
  (ss_cons (ss_expr (se_callV (ok_check_index T) fnV_n (show 2 ≤ 3 by decide) (fun X g => gl_of g (by rfl)) T.m_check_index T.F_check_index.kp T.b_check_index (sa_cons (se_frz (se_var 1)) (sa_cons (se_frz (se_var 0)) sa_nil))))
  (ss_one (ss_ret (se_callV (ok_number_of T) fnV_n (show 2 ≤ 3 by decide) (fun X g => gl_of g (by rfl)) T.m_number_of T.F_number_of.kp T.b_number_of (sa_cons (se_frz (se_callV (ok_whole_root T) fnV_n (show 3 ≤ 3 by decide) (fun X g => gl_of g (by rfl)) T.m_whole_root T.F_whole_root.kp T.b_whole_root (sa_cons (se_frz (se_var 0)) (sa_cons (se_frz (se_var 1)) sa_nil)))) (sa_cons (se_frz se_int) sa_nil)))))))
theorem ok_root (T : Txt K mg) : FnG P w K mg base CX0 4 T.f_root T.fd_root p_root (spV K 2 fn_root) := fn_okV T.F_root sc_root (ss_root T)
theorem ss_check_two (T : Txt K mg) : SSs (cdOf P w K mg base N_check_two s_check_two 7) (defBody s_check_two) b_check_two :=
  (ss_cons (ss_expr (se_callV (ok_check_size T) fnV_n (show 3 ≤ 7 by decide) (fun X g => gl_of g (by rfl)) T.m_check_size T.F_check_size.kp T.b_check_size (sa_cons (se_frz (se_var 0)) sa_nil)))
  (ss_cons (ss_expr (se_callV (ok_check_number T) fnV_n (show 7 ≤ 7 by decide) (fun X g => gl_of g (by rfl)) T.m_check_number T.F_check_number.kp T.b_check_number (sa_cons (se_frz (se_var 0)) (sa_cons (se_frz (se_var 1)) sa_nil))))
  (ss_one (ss_expr (se_callV (ok_check_number T) fnV_n (show 7 ≤ 7 by decide) (fun X g => gl_of g (by rfl)) T.m_check_number T.F_check_number.kp T.b_check_number (sa_cons (se_frz (se_var 0)) (sa_cons (se_frz (se_var 2)) sa_nil)))))))
theorem ok_check_two (T : Txt K mg) : FnG P w K mg base CX0 8 T.f_check_two T.fd_check_two p_check_two (spV K 3 fn_check_two) := fn_okV T.F_check_two sc_check_two (ss_check_two T)
theorem ss_times (T : Txt K mg) : SSs (cdOf P w K mg base N_times s_times 8) (defBody s_times) b_times :=
  (ss_cons (ss_expr (se_callV (ok_check_two T) fnV_n (show 8 ≤ 8 by decide) (fun X g => gl_of g (by rfl)) T.m_check_two T.F_check_two.kp T.b_check_two (sa_cons (se_frz (se_var 0)) (sa_cons (se_frz (se_var 1)) (sa_cons (se_frz (se_var 2)) sa_nil)))))
  (ss_cons (ss_asg (se_frz (se_callV (ok_whole_over T) fnV_n (show 2 ≤ 8 by decide) (fun X g => gl_of g (by rfl)) T.m_whole_over T.F_whole_over.kp T.b_whole_over (sa_cons (se_frz (se_var 1)) sa_nil))) (sg_tup (sgs_cons (sg_name 3) (sgs_cons (sg_name 4) sgs_nil))))
  (ss_cons (ss_asg (se_frz (se_callV (ok_whole_over T) fnV_n (show 2 ≤ 8 by decide) (fun X g => gl_of g (by rfl)) T.m_whole_over T.F_whole_over.kp T.b_whole_over (sa_cons (se_frz (se_var 2)) sa_nil))) (sg_tup (sgs_cons (sg_name 5) (sgs_cons (sg_name 6) sgs_nil))))
  (ss_one (ss_ret (se_callV (ok_number_of T) fnV_n (show 2 ≤ 8 by decide) (fun X g => gl_of g (by rfl)) T.m_number_of T.F_number_of.kp T.b_number_of (sa_cons (se_frz (se_callV (ok_product_of T) fnV_n (show 2 ≤ 8 by decide) (fun X g => gl_of g (by rfl)) T.m_product_of T.F_product_of.kp T.b_product_of (sa_cons (se_frz (se_var 0)) (sa_cons (se_frz (se_var 3)) (sa_cons (se_frz (se_var 5)) sa_nil))))) (sa_cons (se_frz (se_mulA (se_var 4) (se_var 6))) sa_nil))))))))
theorem ok_times (T : Txt K mg) : FnG P w K mg base CX0 9 T.f_times T.fd_times p_times (spV K 3 fn_times) := fn_okV T.F_times sc_times (ss_times T)
theorem ss_check_signal (T : Txt K mg) : SSs (cdOf P w K mg base N_check_signal s_check_signal 7) (defBody s_check_signal) b_check_signal :=
  (ss_cons (ss_if (st_w (sw_or (st_tyNot "tuple" (se_var 1) (fun X g => gl_of g (by rfl)) T.z_type (fun X g => gl_of g (by rfl)) T.z_tuple (by rfl)) (sw_or1 (st_ne (se_callB (r := Dm.rLen) (fun X g => call_len_seq) sc_len (fun X g => gl_of g (by rfl)) T.z_len (by rfl) (sa_cons (se_var 1) sa_nil)) (se_var 0))))) (ss_one ss_die) ss_nil)
  (ss_cons (ss_set 2 (se_callV (ok_first_no_number T) fnV_n (show 7 ≤ 7 by decide) (fun X g => gl_of g (by rfl)) T.m_first_no_number T.F_first_no_number.kp T.b_first_no_number (sa_cons (se_frz (se_var 0)) (sa_cons (se_frz (se_var 1)) sa_nil))))
  (ss_one (ss_if (st_notN (se_var 2) se_non) (ss_one ss_die) ss_nil))))
theorem ok_check_signal (T : Txt K mg) : FnG P w K mg base CX0 8 T.f_check_signal T.fd_check_signal p_check_signal (spV K 2 fn_check_signal) := fn_okV T.F_check_signal sc_check_signal (ss_check_signal T)
theorem ss_parts_of (T : Txt K mg) : SSs (cdOf P w K mg base N_parts_of s_parts_of 8) (defBody s_parts_of) b_parts_of :=
  (ss_cons (ss_expr (se_callV (ok_check_size T) fnV_n (show 3 ≤ 8 by decide) (fun X g => gl_of g (by rfl)) T.m_check_size T.F_check_size.kp T.b_check_size (sa_cons (se_frz (se_var 0)) sa_nil)))
  (ss_cons (ss_expr (se_callV (ok_check_signal T) fnV_n (show 8 ≤ 8 by decide) (fun X g => gl_of g (by rfl)) T.m_check_signal T.F_check_signal.kp T.b_check_signal (sa_cons (se_frz (se_var 0)) (sa_cons (se_frz (se_var 1)) sa_nil))))
  (ss_cons (ss_asg (se_frz (se_callV (ok_whole_row T) fnV_n (show 1 ≤ 8 by decide) (fun X g => gl_of g (by rfl)) T.m_whole_row T.F_whole_row.kp T.b_whole_row (sa_cons (se_frz (se_var 1)) sa_nil))) (sg_tup (sgs_cons (sg_name 2) (sgs_cons (sg_name 3) sgs_nil))))
  (ss_one (ss_ret (se_tupOf (fun X g => gl_of g (by rfl)) T.z_tuple (sa_cons (se_lc [("whole", 4)] (si_seq (se_callV (ok_sums_of_turns T) fnV_n (show 2 ≤ 8 by decide) (fun X g => gl_of g (by rfl)) T.m_sums_of_turns T.F_sums_of_turns.kp T.b_sums_of_turns (sa_cons (se_frz (se_var 0)) (sa_cons (se_frz (se_var 2)) (sa_cons (se_frz (se_neg se_int)) sa_nil))))) (sg_name 4) sts_nil (se_callV (ok_number_of T) fnV_n (show 2 ≤ 8 by decide) (fun X g => gl_of g (by rfl)) T.m_number_of T.F_number_of.kp T.b_number_of (sa_cons (se_frz (se_var 4)) (sa_cons (se_frz (se_mulA (se_var 3) (se_var 0))) sa_nil)))) sa_nil)))))))
theorem ok_parts_of (T : Txt K mg) : FnG P w K mg base CX0 9 T.f_parts_of T.fd_parts_of p_parts_of (spV K 2 fn_parts_of) := fn_okV T.F_parts_of sc_parts_of (ss_parts_of T)
theorem ss_wave (T : Txt K mg) : SSs (cdOf P w K mg base N_wave s_wave 4) (defBody s_wave) b_wave :=
  (ss_cons (ss_expr (se_callV (ok_check_size T) fnV_n (show 3 ≤ 4 by decide) (fun X g => gl_of g (by rfl)) T.m_check_size T.F_check_size.kp T.b_check_size (sa_cons (se_frz (se_var 0)) sa_nil)))
  (ss_cons (ss_expr (se_callV (ok_check_index T) fnV_n (show 2 ≤ 4 by decide) (fun X g => gl_of g (by rfl)) T.m_check_index T.F_check_index.kp T.b_check_index (sa_cons (se_frz (se_var 1)) (sa_cons (se_frz (se_var 0)) sa_nil))))
  (ss_one (ss_ret (se_tupOf (fun X g => gl_of g (by rfl)) T.z_tuple (sa_cons (se_lc [("moment", 2)] (si_rng1 (fun X g => gl_of g (by rfl)) T.z_range (sa_cons (se_var 0) sa_nil)) (sg_name 2) sts_nil (se_callV (ok_root T) fnV_n (show 4 ≤ 4 by decide) (fun X g => gl_of g (by rfl)) T.m_root T.F_root.kp T.b_root (sa_cons (se_frz (se_var 0)) (sa_cons (se_frz (se_mod (se_mulA (se_var 1) (se_var 2)) (se_var 0))) sa_nil)))) sa_nil))))))
theorem ok_wave (T : Txt K mg) : FnG P w K mg base CX0 5 T.f_wave T.fd_wave p_wave (spV K 2 fn_wave) := fn_okV T.F_wave sc_wave (ss_wave T)
theorem ss_moved (T : Txt K mg) : SSs (cdOf P w K mg base N_moved s_moved 8) (defBody s_moved) b_moved :=
  (ss_cons (ss_expr (se_callV (ok_check_size T) fnV_n (show 3 ≤ 8 by decide) (fun X g => gl_of g (by rfl)) T.m_check_size T.F_check_size.kp T.b_check_size (sa_cons (se_frz (se_var 0)) sa_nil)))
  (ss_cons (ss_expr (se_callV (ok_check_signal T) fnV_n (show 8 ≤ 8 by decide) (fun X g => gl_of g (by rfl)) T.m_check_signal T.F_check_signal.kp T.b_check_signal (sa_cons (se_frz (se_var 0)) (sa_cons (se_frz (se_var 1)) sa_nil))))
  (ss_cons (ss_expr (se_callV (ok_check_index T) fnV_n (show 2 ≤ 8 by decide) (fun X g => gl_of g (by rfl)) T.m_check_index T.F_check_index.kp T.b_check_index (sa_cons (se_frz (se_var 2)) (sa_cons (se_frz (se_var 0)) sa_nil))))
  (ss_one (ss_ret (se_tupOf (fun X g => gl_of g (by rfl)) T.z_tuple (sa_cons (se_lc [("moment", 3)] (si_rng1 (fun X g => gl_of g (by rfl)) T.z_range (sa_cons (se_var 0) sa_nil)) (sg_name 3) sts_nil (se_ix (se_var 1) (se_mod (se_sub (se_var 3) (se_var 2)) (se_var 0)))) sa_nil)))))))
theorem ok_moved (T : Txt K mg) : FnG P w K mg base CX0 9 T.f_moved T.fd_moved p_moved (spV K 3 fn_moved) := fn_okV T.F_moved sc_moved (ss_moved T)
theorem ss_turned (T : Txt K mg) : SSs (cdOf P w K mg base N_turned s_turned 9) (defBody s_turned) b_turned :=
  (ss_cons (ss_expr (se_callV (ok_check_size T) fnV_n (show 3 ≤ 9 by decide) (fun X g => gl_of g (by rfl)) T.m_check_size T.F_check_size.kp T.b_check_size (sa_cons (se_frz (se_var 0)) sa_nil)))
  (ss_cons (ss_expr (se_callV (ok_check_signal T) fnV_n (show 8 ≤ 9 by decide) (fun X g => gl_of g (by rfl)) T.m_check_signal T.F_check_signal.kp T.b_check_signal (sa_cons (se_frz (se_var 0)) (sa_cons (se_frz (se_var 1)) sa_nil))))
  (ss_cons (ss_expr (se_callV (ok_check_index T) fnV_n (show 2 ≤ 9 by decide) (fun X g => gl_of g (by rfl)) T.m_check_index T.F_check_index.kp T.b_check_index (sa_cons (se_frz (se_var 2)) (sa_cons (se_frz (se_var 0)) sa_nil))))
  (ss_one (ss_ret (se_tupOf (fun X g => gl_of g (by rfl)) T.z_tuple (sa_cons (se_lc [("value", 3), ("by", 4)] (si_zip (fun X g => gl_of g (by rfl)) T.z_zip (sa_cons (se_frz (se_var 1)) (sa_cons (se_frz (se_callV (ok_wave T) fnV_n (show 5 ≤ 9 by decide) (fun X g => gl_of g (by rfl)) T.m_wave T.F_wave.kp T.b_wave (sa_cons (se_frz (se_var 0)) (sa_cons (se_frz (se_var 2)) sa_nil)))) sa_nil))) (sg_tup (sgs_cons (sg_name 3) (sgs_cons (sg_name 4) sgs_nil))) sts_nil (se_callV (ok_times T) fnV_n (show 9 ≤ 9 by decide) (fun X g => gl_of g (by rfl)) T.m_times T.F_times.kp T.b_times (sa_cons (se_frz (se_var 0)) (sa_cons (se_frz (se_var 3)) (sa_cons (se_frz (se_var 4)) sa_nil))))) sa_nil)))))))
theorem ok_turned (T : Txt K mg) : FnG P w K mg base CX0 10 T.f_turned T.fd_turned p_turned (spV K 3 fn_turned) := fn_okV T.F_turned sc_turned (ss_turned T)
theorem ss__law_well (T : Txt K mg) : SSs (cdOf P w K mg base N__law_well s__law_well 0) (defBody s__law_well) b__law_well :=
  (ss_cons (ss_set 2 (se_ifExp (st_lt (se_var 1) (se_callB (r := Dm.rLen) (fun X g => call_len_seq) sc_len (fun X g => gl_of g (by rfl)) T.z_len (by rfl) (sa_cons (se_var 0) sa_nil))) (se_callTy (r := rInt1) (fun X g => call_int1) sc_int (fun X g => gl_of g (by rfl)) T.z_int (by rfl) (sa_cons (se_ix (se_var 0) (se_var 1)) sa_nil)) (se_add (se_add (se_mulA se_int (se_var 1)) se_int) (se_mod (se_callTy (r := rInt1) (fun X g => call_int1) sc_int (fun X g => gl_of g (by rfl)) T.z_int (by rfl) (sa_cons (se_callB (r := rSum) (fun X g => cr_sum g.calm) sc_sum (fun X g => gl_of g (by rfl)) T.z_sum (by rfl) (sa_cons (se_slL (se_var 0) so_none (so_some se_int)) sa_nil)) sa_nil)) se_int))))
  (ss_cons (ss_set 3 (se_add se_int (se_mulA se_int (se_var 1))))
  (ss_cons (ss_for (si_seq (se_catL (se_slL (se_var 0) so_none (so_some se_int)) (se_lst (sa_cons (se_frz (se_var 2)) sa_nil)))) (sg_name 4) (ss_one (ss_set 3 (se_mod (se_callTy (r := rInt1) (fun X g => call_int1) sc_int (fun X g => gl_of g (by rfl)) T.z_int (by rfl) (sa_cons (se_add (se_add (se_mulA (se_var 3) se_int) (se_mulA (se_mod (se_callTy (r := rInt1) (fun X g => call_int1) sc_int (fun X g => gl_of g (by rfl)) T.z_int (by rfl) (sa_cons (se_var 4) sa_nil)) se_int) se_int)) se_int) sa_nil)) se_int))))
  (ss_one (ss_ret (se_lst (sa_cons (se_frz (se_ifExp (st_w (sw_or (st_lt (se_var 2) se_int) (sw_or1 (st_ge (se_var 2) (se_pow se_int se_int))))) (se_callB (r := rAbs) (fun X g => call_abs) sc_abs (fun X g => gl_of g (by rfl)) T.z_abs (by rfl) (sa_cons (se_var 2) sa_nil)) se_int)) (sa_cons (se_frz (se_var 3)) (sa_cons (se_frz se_int) sa_nil)))))))))
theorem ok__law_well (T : Txt K mg) : FnG P w K mg base CX0 1 T.f__law_well T.fd__law_well p__law_well (spV K 2 fn__law_well) := fn_okV T.F__law_well sc__law_well (ss__law_well T)
theorem ss__law_next (T : Txt K mg) : SSs (cdOf P w K mg base N__law_next s__law_next 0) (defBody s__law_next) b__law_next :=
  (ss_cons (ss_if (st_gt (se_ix (se_var 0) se_int) se_int) (ss_cons (ss_asg (se_frz (se_divmod (fun X g => gl_of g (by rfl)) T.z_divmod (sa_cons (se_ix (se_var 0) se_int) (sa_cons (se_var 1) sa_nil)))) (sg_tup (sgs_cons (sg_sub (se_var 0) se_int) (sgs_cons (sg_name 2) sgs_nil))))
  (ss_one (ss_ret (se_var 2)))) ss_nil)
  (ss_cons (ss_asg (se_frz (se_add (se_ix (se_var 0) se_int) se_int)) (sg_sub (se_var 0) se_int))
  (ss_cons (ss_asg (se_frz (se_mod (se_callTy (r := rInt1) (fun X g => call_int1) sc_int (fun X g => gl_of g (by rfl)) T.z_int (by rfl) (sa_cons (se_add (se_add (se_mulA (se_ix (se_var 0) se_int) (se_add se_int (se_mulA se_int (se_ix (se_var 0) se_int)))) (se_mulA se_int (se_ix (se_var 0) se_int))) se_int) sa_nil)) se_int)) (sg_sub (se_var 0) se_int))
  (ss_one (ss_ret (se_mod (se_callTy (r := rInt1) (fun X g => call_int1) sc_int (fun X g => gl_of g (by rfl)) T.z_int (by rfl) (sa_cons (se_divA (se_ix (se_var 0) se_int) se_int) sa_nil)) (se_var 1)))))))
theorem ok__law_next (T : Txt K mg) : FnG P w K mg base CX0 1 T.f__law_next T.fd__law_next p__law_next (spW K 2 fn__law_next) := fn_okW T.F__law_next sc__law_next (ss__law_next T)
theorem ss__law_pick (T : Txt K mg) : SSs (cdOf P w K mg base N__law_pick s__law_pick 1) (defBody s__law_pick) b__law_pick :=
  (ss_one (ss_ret (se_ix (se_var 1) (se_callW (ok__law_next T) fnW_n (show 1 ≤ 1 by decide) (fun X g => gl_of g (by rfl)) T.m__law_next T.F__law_next.kp T.b__law_next (se_var 0) (sa_cons (se_frz (se_callB (r := Dm.rLen) (fun X g => call_len_seq) sc_len (fun X g => gl_of g (by rfl)) T.z_len (by rfl) (sa_cons (se_var 1) sa_nil))) sa_nil)))))
theorem ok__law_pick (T : Txt K mg) : FnG P w K mg base CX0 2 T.f__law_pick T.fd__law_pick p__law_pick (spW K 2 fn__law_pick) := fn_okW T.F__law_pick sc__law_pick (ss__law_pick T)
theorem ss__law_size (T : Txt K mg) : SSs (cdOf P w K mg base N__law_size s__law_size 2) (defBody s__law_size) b__law_size :=
  (ss_one (ss_ret (se_callW (ok__law_pick T) fnW_n (show 2 ≤ 2 by decide) (fun X g => gl_of g (by rfl)) T.m__law_pick T.F__law_pick.kp T.b__law_pick (se_var 0) (sa_cons (se_frz (se_ifExp (st_eq (se_callW (ok__law_next T) fnW_n (show 1 ≤ 2 by decide) (fun X g => gl_of g (by rfl)) T.m__law_next T.F__law_next.kp T.b__law_next (se_var 0) (sa_cons (se_frz se_int) sa_nil)) se_int) (se_var 1) (se_lst (sa_cons (se_frz se_int) (sa_cons (se_frz se_int) (sa_cons (se_frz se_int) (sa_cons (se_frz se_int) (sa_cons (se_frz se_int) (sa_cons (se_frz se_int) (sa_cons (se_frz se_int) (sa_cons (se_frz se_int) (sa_cons (se_frz se_int) (sa_cons (se_frz se_int) sa_nil))))))))))))) sa_nil))))
theorem ok__law_size (T : Txt K mg) : FnG P w K mg base CX0 3 T.f__law_size T.fd__law_size p__law_size (spW K 2 fn__law_size) := fn_okW T.F__law_size sc__law_size (ss__law_size T)
theorem ss__law_gcd (T : Txt K mg) : SSs (cdOf P w K mg base N__law_gcd s__law_gcd 0) (defBody s__law_gcd) b__law_gcd :=
  (ss_cons (ss_while fuel1 (st_gt (se_var 1) se_int) (ss_one (ss_par2 0 1 (sa_cons (se_frz (se_var 1)) (sa_cons (se_frz (se_mod (se_callTy (r := rInt1) (fun X g => call_int1) sc_int (fun X g => gl_of g (by rfl)) T.z_int (by rfl) (sa_cons (se_var 0) sa_nil)) (se_var 1))) sa_nil)))))
  (ss_one (ss_ret (se_var 0))))
theorem ok__law_gcd (T : Txt K mg) : FnG P w K mg base CX0 1 T.f__law_gcd T.fd__law_gcd p__law_gcd (spV K 2 fn__law_gcd) := fn_okV T.F__law_gcd sc__law_gcd (ss__law_gcd T)
theorem ss__law_fraction (T : Txt K mg) : SSs (cdOf P w K mg base N__law_fraction s__law_fraction 1) (defBody s__law_fraction) b__law_fraction :=
  (ss_cons (ss_set 2 (se_callV (ok__law_gcd T) fnV_n (show 1 ≤ 1 by decide) (fun X g => gl_of g (by rfl)) T.m__law_gcd T.F__law_gcd.kp T.b__law_gcd (sa_cons (se_frz (se_callB (r := rAbs) (fun X g => call_abs) sc_abs (fun X g => gl_of g (by rfl)) T.z_abs (by rfl) (sa_cons (se_var 0) sa_nil))) (sa_cons (se_frz (se_var 1)) sa_nil))))
  (ss_one (ss_ret (se_tup (sa_cons (se_frz (se_divA (se_var 0) (se_var 2))) (sa_cons (se_frz (se_divA (se_var 1) (se_var 2))) sa_nil))))))
theorem ok__law_fraction (T : Txt K mg) : FnG P w K mg base CX0 2 T.f__law_fraction T.fd__law_fraction p__law_fraction (spV K 2 fn__law_fraction) := fn_okV T.F__law_fraction sc__law_fraction (ss__law_fraction T)
theorem ss__law_number (T : Txt K mg) : SSs (cdOf P w K mg base N__law_number s__law_number 2) (defBody s__law_number) b__law_number :=
  (ss_one (ss_ret (se_tupOf (fun X g => gl_of g (by rfl)) T.z_tuple (sa_cons (se_lc [("each", 2)] (si_seq (se_var 0)) (sg_name 2) sts_nil (se_callV (ok__law_fraction T) fnV_n (show 2 ≤ 2 by decide) (fun X g => gl_of g (by rfl)) T.m__law_fraction T.F__law_fraction.kp T.b__law_fraction (sa_cons (se_frz (se_var 2)) (sa_cons (se_frz (se_var 1)) sa_nil)))) sa_nil))))
theorem ok__law_number (T : Txt K mg) : FnG P w K mg base CX0 3 T.f__law_number T.fd__law_number p__law_number (spV K 2 fn__law_number) := fn_okV T.F__law_number sc__law_number (ss__law_number T)
theorem ss__law_told (T : Txt K mg) : SSs (cdOf P w K mg base N__law_told s__law_told 3) (defBody s__law_told) b__law_told :=
  (ss_one (ss_ret (se_tupOf (fun X g => gl_of g (by rfl)) T.z_tuple (sa_cons (se_lc [("each", 2)] (si_seq (se_var 0)) (sg_name 2) sts_nil (se_callV (ok__law_number T) fnV_n (show 3 ≤ 3 by decide) (fun X g => gl_of g (by rfl)) T.m__law_number T.F__law_number.kp T.b__law_number (sa_cons (se_frz (se_var 2)) (sa_cons (se_frz (se_var 1)) sa_nil)))) sa_nil))))
theorem ok__law_told (T : Txt K mg) : FnG P w K mg base CX0 4 T.f__law_told T.fd__law_told p__law_told (spV K 2 fn__law_told) := fn_okV T.F__law_told sc__law_told (ss__law_told T)
theorem ss__law_ring (T : Txt K mg) : SSs (cdOf P w K mg base N__law_ring s__law_ring 0) (defBody s__law_ring) b__law_ring :=
  (ss_cons (ss_set 1 (se_dic (sps_cons (se_frz (se_lst (sa_cons (se_frz se_int) sa_nil))) (sps_cons (se_frz (se_lst (sa_cons (se_frz se_int) (sa_cons (se_frz se_int) sa_nil)))) (sps_cons (se_frz (se_lst (sa_cons (se_frz se_int) (sa_cons (se_frz se_int) sa_nil)))) (sps_cons (se_frz (se_lst (sa_cons (se_frz se_int) (sa_cons (se_frz se_int) (sa_cons (se_frz se_int) (sa_cons (se_frz se_int) sa_nil)))))) (sps_cons (se_frz (se_lst (sa_cons (se_frz se_int) (sa_cons (se_frz (se_neg se_int)) sa_nil)))) (sps_cons (se_frz (se_rep (se_lst (sa_cons (se_frz se_int) sa_nil)) se_int)) (sps_cons (se_frz (se_lst (sa_cons (se_frz se_int) (sa_cons (se_frz se_int) (sa_cons (se_frz se_int) (sa_cons (se_frz se_int) sa_nil)))))) (sps_cons (se_frz (se_lst (sa_cons (se_frz se_int) (sa_cons (se_frz se_int) (sa_cons (se_frz se_int) (sa_cons (se_frz se_int) (sa_cons (se_frz se_int) (sa_cons (se_frz se_int) sa_nil)))))))) (sps_cons (se_frz (se_lst (sa_cons (se_frz se_int) (sa_cons (se_frz (se_neg se_int)) (sa_cons (se_frz se_int) (sa_cons (se_frz (se_neg se_int)) sa_nil)))))) (sps_cons (se_frz (se_rep (se_lst (sa_cons (se_frz se_int) sa_nil)) se_int)) (sps_cons (se_frz (se_lst (sa_cons (se_frz se_int) (sa_cons (se_frz se_int) (sa_cons (se_frz (se_neg se_int)) (sa_cons (se_frz se_int) sa_nil)))))) sps_nil)))))))))))))
  (ss_cons (ss_parC 2 3 (sa_cons (se_frz (se_ixD (se_var 1) (se_var 0))) (sa_cons (se_lst sa_nil) sa_nil)))
  (ss_cons (ss_set 4 (se_catL (se_lst (sa_cons (se_frz se_int) sa_nil)) (se_rep (se_lst (sa_cons (se_frz se_int) sa_nil)) (se_sub (se_callB (r := Dm.rLen) (fun X g => call_len_seq) sc_len (fun X g => gl_of g (by rfl)) T.z_len (by rfl) (sa_cons (se_var 2) sa_nil)) se_int))))
  (ss_cons (ss_for (si_rng1 (fun X g => gl_of g (by rfl)) T.z_range (sa_cons (se_var 0) sa_nil)) (sg_name 5) (ss_cons (ss_expr (se_app (se_var 3) (se_frz (se_var 4))))
  (ss_cons (ss_set 6 (se_ix (se_var 4) (se_sub (se_callB (r := Dm.rLen) (fun X g => call_len_seq) sc_len (fun X g => gl_of g (by rfl)) T.z_len (by rfl) (sa_cons (se_var 2) sa_nil)) se_int)))
  (ss_one (ss_setC 4 (se_lc [("k", 7)] (si_rng1 (fun X g => gl_of g (by rfl)) T.z_range (sa_cons (se_callB (r := Dm.rLen) (fun X g => call_len_seq) sc_len (fun X g => gl_of g (by rfl)) T.z_len (by rfl) (sa_cons (se_var 2) sa_nil)) sa_nil)) (sg_name 7) sts_nil (se_sub (se_ifExp (st_gt (se_var 7) se_int) (se_ix (se_var 4) (se_sub (se_var 7) se_int)) se_int) (se_mulA (se_var 6) (se_ix (se_var 2) (se_var 7))))))))))
  (ss_one (ss_ret (se_var 3)))))))
theorem ok__law_ring (T : Txt K mg) : FnG P w K mg base CX0 1 T.f__law_ring T.fd__law_ring p__law_ring (spV K 1 fn__law_ring) := fn_okV T.F__law_ring sc__law_ring (ss__law_ring T)
theorem ss__law_lowered (T : Txt K mg) : SSs (cdOf P w K mg base N__law_lowered s__law_lowered 0) (defBody s__law_lowered) b__law_lowered :=
  (ss_cons (ss_set 2 (se_rep (se_lst (sa_cons (se_frz se_int) sa_nil)) (se_callB (r := Dm.rLen) (fun X g => call_len_seq) sc_len (fun X g => gl_of g (by rfl)) T.z_len (by rfl) (sa_cons (se_ix (se_var 0) se_int) sa_nil))))
  (ss_cons (ss_for (si_rng1 (fun X g => gl_of g (by rfl)) T.z_range (sa_cons (se_callB (r := Dm.rLen) (fun X g => call_len_seq) sc_len (fun X g => gl_of g (by rfl)) T.z_len (by rfl) (sa_cons (se_var 1) sa_nil)) sa_nil)) (sg_name 3) (ss_one (ss_if (st_ne (se_ix (se_var 1) (se_var 3)) se_int) (ss_one (ss_setC 2 (se_lc [("k", 4)] (si_rng1 (fun X g => gl_of g (by rfl)) T.z_range (sa_cons (se_callB (r := Dm.rLen) (fun X g => call_len_seq) sc_len (fun X g => gl_of g (by rfl)) T.z_len (by rfl) (sa_cons (se_var 2) sa_nil)) sa_nil)) (sg_name 4) sts_nil (se_add (se_ix (se_var 2) (se_var 4)) (se_mulA (se_ix (se_var 1) (se_var 3)) (se_ix (se_ix (se_var 0) (se_var 3)) (se_var 4))))))) ss_nil)))
  (ss_one (ss_ret (se_var 2)))))
theorem ok__law_lowered (T : Txt K mg) : FnG P w K mg base CX0 1 T.f__law_lowered T.fd__law_lowered p__law_lowered (spV K 2 fn__law_lowered) := fn_okV T.F__law_lowered sc__law_lowered (ss__law_lowered T)
theorem ss__law_sum (T : Txt K mg) : SSs (cdOf P w K mg base N__law_sum s__law_sum 1) (defBody s__law_sum) b__law_sum :=
  (ss_cons (ss_set 3 (se_rep (se_lst (sa_cons (se_frz se_int) sa_nil)) (se_callB (r := Dm.rLen) (fun X g => call_len_seq) sc_len (fun X g => gl_of g (by rfl)) T.z_len (by rfl) (sa_cons (se_var 0) sa_nil))))
  (ss_cons (ss_for (si_rng1 (fun X g => gl_of g (by rfl)) T.z_range (sa_cons (se_callB (r := Dm.rLen) (fun X g => call_len_seq) sc_len (fun X g => gl_of g (by rfl)) T.z_len (by rfl) (sa_cons (se_var 1) sa_nil)) sa_nil)) (sg_name 4) (ss_one (ss_for (si_rng1 (fun X g => gl_of g (by rfl)) T.z_range (sa_cons (se_callB (r := Dm.rLen) (fun X g => call_len_seq) sc_len (fun X g => gl_of g (by rfl)) T.z_len (by rfl) (sa_cons (se_ix (se_var 1) (se_var 4)) sa_nil)) sa_nil)) (sg_name 5) (ss_cons (ss_set 6 (se_mod (se_callTy (r := rInt1) (fun X g => call_int1) sc_int (fun X g => gl_of g (by rfl)) T.z_int (by rfl) (sa_cons (se_add (se_var 5) (se_mulA (se_var 4) (se_var 2))) sa_nil)) (se_callB (r := Dm.rLen) (fun X g => call_len_seq) sc_len (fun X g => gl_of g (by rfl)) T.z_len (by rfl) (sa_cons (se_var 0) sa_nil))))
  (ss_one (ss_asg (se_frz (se_add (se_ix (se_var 3) (se_var 6)) (se_ix (se_ix (se_var 1) (se_var 4)) (se_var 5)))) (sg_sub (se_var 3) (se_var 6))))))))
  (ss_one (ss_ret (se_callV (ok__law_lowered T) fnV_n (show 1 ≤ 1 by decide) (fun X g => gl_of g (by rfl)) T.m__law_lowered T.F__law_lowered.kp T.b__law_lowered (sa_cons (se_frz (se_var 0)) (sa_cons (se_frz (se_var 3)) sa_nil)))))))
theorem ok__law_sum (T : Txt K mg) : FnG P w K mg base CX0 2 T.f__law_sum T.fd__law_sum p__law_sum (spV K 3 fn__law_sum) := fn_okV T.F__law_sum sc__law_sum (ss__law_sum T)
theorem ss__law_times (T : Txt K mg) : SSs (cdOf P w K mg base N__law_times s__law_times 1) (defBody s__law_times) b__law_times :=
  (ss_cons (ss_set 3 (se_rep (se_lst (sa_cons (se_frz se_int) sa_nil)) (se_callB (r := Dm.rLen) (fun X g => call_len_seq) sc_len (fun X g => gl_of g (by rfl)) T.z_len (by rfl) (sa_cons (se_var 0) sa_nil))))
  (ss_cons (ss_for (si_rng1 (fun X g => gl_of g (by rfl)) T.z_range (sa_cons (se_callB (r := Dm.rLen) (fun X g => call_len_seq) sc_len (fun X g => gl_of g (by rfl)) T.z_len (by rfl) (sa_cons (se_var 1) sa_nil)) sa_nil)) (sg_name 4) (ss_one (ss_for (si_rng1 (fun X g => gl_of g (by rfl)) T.z_range (sa_cons (se_callB (r := Dm.rLen) (fun X g => call_len_seq) sc_len (fun X g => gl_of g (by rfl)) T.z_len (by rfl) (sa_cons (se_var 2) sa_nil)) sa_nil)) (sg_name 5) (ss_cons (ss_set 6 (se_mod (se_callTy (r := rInt1) (fun X g => call_int1) sc_int (fun X g => gl_of g (by rfl)) T.z_int (by rfl) (sa_cons (se_add (se_var 4) (se_var 5)) sa_nil)) (se_callB (r := Dm.rLen) (fun X g => call_len_seq) sc_len (fun X g => gl_of g (by rfl)) T.z_len (by rfl) (sa_cons (se_var 0) sa_nil))))
  (ss_one (ss_asg (se_frz (se_add (se_ix (se_var 3) (se_var 6)) (se_mulA (se_ix (se_var 1) (se_var 4)) (se_ix (se_var 2) (se_var 5))))) (sg_sub (se_var 3) (se_var 6))))))))
  (ss_one (ss_ret (se_callV (ok__law_lowered T) fnV_n (show 1 ≤ 1 by decide) (fun X g => gl_of g (by rfl)) T.m__law_lowered T.F__law_lowered.kp T.b__law_lowered (sa_cons (se_frz (se_var 0)) (sa_cons (se_frz (se_var 3)) sa_nil)))))))
theorem ok__law_times (T : Txt K mg) : FnG P w K mg base CX0 2 T.f__law_times T.fd__law_times p__law_times (spV K 3 fn__law_times) := fn_okV T.F__law_times sc__law_times (ss__law_times T)
theorem ss__law_some (T : Txt K mg) : SSs (cdOf P w K mg base N__law_some s__law_some 1) (defBody s__law_some) b__law_some :=
  (ss_cons (ss_parC 2 3 (sa_cons (se_frz (se_callW (ok__law_next T) fnW_n (show 1 ≤ 1 by decide) (fun X g => gl_of g (by rfl)) T.m__law_next T.F__law_next.kp T.b__law_next (se_var 0) (sa_cons (se_frz se_int) sa_nil))) (sa_cons (se_lst sa_nil) sa_nil)))
  (ss_cons (ss_for (si_rng1 (fun X g => gl_of g (by rfl)) T.z_range (sa_cons (se_var 1) sa_nil)) (sg_name 4) (ss_cons (ss_set 5 (se_sub (se_callW (ok__law_next T) fnW_n (show 1 ≤ 1 by decide) (fun X g => gl_of g (by rfl)) T.m__law_next T.F__law_next.kp T.b__law_next (se_var 0) (sa_cons (se_frz se_int) sa_nil)) se_int))
  (ss_one (ss_expr (se_app (se_var 3) (se_frz (se_ifExp (st_eq (se_var 2) se_int) (se_mulA (se_var 5) (se_add (se_pow se_int se_int) (se_callW (ok__law_next T) fnW_n (show 1 ≤ 1 by decide) (fun X g => gl_of g (by rfl)) T.m__law_next T.F__law_next.kp T.b__law_next (se_var 0) (sa_cons (se_frz (se_pow se_int se_int)) sa_nil)))) (se_var 5))))))))
  (ss_cons (ss_if (st_eq (se_var 2) se_int) (ss_cons (ss_set 6 (se_callW (ok__law_next T) fnW_n (show 1 ≤ 1 by decide) (fun X g => gl_of g (by rfl)) T.m__law_next T.F__law_next.kp T.b__law_next (se_var 0) (sa_cons (se_frz (se_var 1)) sa_nil)))
  (ss_one (ss_setC 3 (se_lc [("k", 7)] (si_rng1 (fun X g => gl_of g (by rfl)) T.z_range (sa_cons (se_var 1) sa_nil)) (sg_name 7) sts_nil (se_ifExp (st_eq (se_var 7) (se_var 6)) (se_ix (se_var 3) (se_var 7)) se_int))))) ss_nil)
  (ss_one (ss_ret (se_var 3))))))
theorem ok__law_some (T : Txt K mg) : FnG P w K mg base CX0 2 T.f__law_some T.fd__law_some p__law_some (spW K 2 fn__law_some) := fn_okW T.F__law_some sc__law_some (ss__law_some T)
theorem ss__law_rows (T : Txt K mg) : SSs (cdOf P w K mg base N__law_rows s__law_rows 2) (defBody s__law_rows) b__law_rows :=
  (ss_cons (ss_par2 2 3 (sa_cons (se_frz (se_callW (ok__law_next T) fnW_n (show 1 ≤ 2 by decide) (fun X g => gl_of g (by rfl)) T.m__law_next T.F__law_next.kp T.b__law_next (se_var 0) (sa_cons (se_frz se_int) sa_nil))) (sa_cons (se_lst sa_nil) sa_nil)))
  (ss_cons (ss_for (si_rng1 (fun X g => gl_of g (by rfl)) T.z_range (sa_cons (se_callB (r := Dm.rLen) (fun X g => call_len_seq) sc_len (fun X g => gl_of g (by rfl)) T.z_len (by rfl) (sa_cons (se_var 1) sa_nil)) sa_nil)) (sg_name 4) (ss_cons (ss_set 5 (se_callW (ok__law_some T) fnW_n (show 2 ≤ 2 by decide) (fun X g => gl_of g (by rfl)) T.m__law_some T.F__law_some.kp T.b__law_some (se_var 0) (sa_cons (se_frz (se_callB (r := Dm.rLen) (fun X g => call_len_seq) sc_len (fun X g => gl_of g (by rfl)) T.z_len (by rfl) (sa_cons (se_ix (se_var 1) se_int) sa_nil))) sa_nil)))
  (ss_one (ss_expr (se_app (se_var 3) (se_frz (se_ifExp (st_w (sw_and (st_eq (se_var 2) se_int) (sw_and1 (st_gt (se_callW (ok__law_next T) fnW_n (show 1 ≤ 2 by decide) (fun X g => gl_of g (by rfl)) T.m__law_next T.F__law_next.kp T.b__law_next (se_var 0) (sa_cons (se_frz se_int) sa_nil)) se_int)))) (se_rep (se_lst (sa_cons (se_frz se_int) sa_nil)) (se_callB (r := Dm.rLen) (fun X g => call_len_seq) sc_len (fun X g => gl_of g (by rfl)) T.z_len (by rfl) (sa_cons (se_var 5) sa_nil))) (se_var 5))))))))
  (ss_one (ss_ret (se_var 3)))))
theorem ok__law_rows (T : Txt K mg) : FnG P w K mg base CX0 3 T.f__law_rows T.fd__law_rows p__law_rows (spW K 2 fn__law_rows) := fn_okW T.F__law_rows sc__law_rows (ss__law_rows T)
theorem ss__law_right (T : Txt K mg) : SSs (cdOf P w K mg base N__law_right s__law_right 10) (defBody s__law_right) b__law_right :=
  (ss_cons (ss_set 1 (se_callW (ok__law_size T) fnW_n (show 3 ≤ 10 by decide) (fun X g => gl_of g (by rfl)) T.m__law_size T.F__law_size.kp T.b__law_size (se_var 0) (sa_cons (se_frz (se_lst (sa_cons (se_frz se_int) (sa_cons (se_frz se_int) (sa_cons (se_frz se_int) (sa_cons (se_frz se_int) (sa_cons (se_frz se_int) (sa_cons (se_frz se_int) sa_nil)))))))) sa_nil)))
  (ss_cons (ss_set 2 (se_callV (ok__law_ring T) fnV_n (show 1 ≤ 10 by decide) (fun X g => gl_of g (by rfl)) T.m__law_ring T.F__law_ring.kp T.b__law_ring (sa_cons (se_frz (se_var 1)) sa_nil)))
  (ss_cons (ss_asg (se_frz (se_tup (sa_cons (se_frz (se_callW (ok__law_rows T) fnW_n (show 3 ≤ 10 by decide) (fun X g => gl_of g (by rfl)) T.m__law_rows T.F__law_rows.kp T.b__law_rows (se_var 0) (sa_cons (se_frz (se_var 2)) sa_nil))) (sa_cons (se_frz (se_callW (ok__law_pick T) fnW_n (show 2 ≤ 10 by decide) (fun X g => gl_of g (by rfl)) T.m__law_pick T.F__law_pick.kp T.b__law_pick (se_var 0) (sa_cons (se_frz (se_lst (sa_cons (se_frz se_int) (sa_cons (se_frz se_int) (sa_cons (se_frz se_int) (sa_cons (se_frz se_int) (sa_cons (se_frz (se_add (se_pow se_int se_int) se_int)) sa_nil))))))) sa_nil))) sa_nil)))) (sg_tup (sgs_cons (sg_name 3) (sgs_cons (sg_name 4) sgs_nil))))
  (ss_cons (ss_asg (se_frz (se_tup (sa_cons (se_frz (se_callV (ok__law_told T) fnV_n (show 4 ≤ 10 by decide) (fun X g => gl_of g (by rfl)) T.m__law_told T.F__law_told.kp T.b__law_told (sa_cons (se_frz (se_var 3)) (sa_cons (se_frz (se_var 4)) sa_nil)))) (sa_cons (se_frz (se_callW (ok__law_next T) fnW_n (show 1 ≤ 10 by decide) (fun X g => gl_of g (by rfl)) T.m__law_next T.F__law_next.kp T.b__law_next (se_var 0) (sa_cons (se_frz (se_var 1)) sa_nil))) (sa_cons (se_frz (se_callW (ok__law_next T) fnW_n (show 1 ≤ 10 by decide) (fun X g => gl_of g (by rfl)) T.m__law_next T.F__law_next.kp T.b__law_next (se_var 0) (sa_cons (se_frz (se_var 1)) sa_nil))) sa_nil))))) (sg_tup (sgs_cons (sg_name 5) (sgs_cons (sg_name 6) (sgs_cons (sg_name 7) sgs_nil)))))
  (ss_cons (ss_setC 8 (se_lc [("j", 17)] (si_rng1 (fun X g => gl_of g (by rfl)) T.z_range (sa_cons (se_var 1) sa_nil)) (sg_name 17) sts_nil (se_ix (se_var 3) (se_mod (se_callTy (r := rInt1) (fun X g => call_int1) sc_int (fun X g => gl_of g (by rfl)) T.z_int (by rfl) (sa_cons (se_sub (se_var 17) (se_var 6)) sa_nil)) (se_var 1)))))
  (ss_cons (ss_setC 9 (se_lc [("j", 17)] (si_rng1 (fun X g => gl_of g (by rfl)) T.z_range (sa_cons (se_var 1) sa_nil)) (sg_name 17) sts_nil (se_callV (ok__law_times T) fnV_n (show 2 ≤ 10 by decide) (fun X g => gl_of g (by rfl)) T.m__law_times T.F__law_times.kp T.b__law_times (sa_cons (se_frz (se_var 2)) (sa_cons (se_frz (se_ix (se_var 3) (se_var 17))) (sa_cons (se_frz (se_ix (se_var 2) (se_mod (se_callTy (r := rInt1) (fun X g => call_int1) sc_int (fun X g => gl_of g (by rfl)) T.z_int (by rfl) (sa_cons (se_mulA (se_var 17) (se_var 7)) sa_nil)) (se_var 1)))) sa_nil))))))
  (ss_cons (ss_par2 10 11 (sa_cons (se_frz (se_callV (ok__law_told T) fnV_n (show 4 ≤ 10 by decide) (fun X g => gl_of g (by rfl)) T.m__law_told T.F__law_told.kp T.b__law_told (sa_cons (se_frz (se_var 8)) (sa_cons (se_frz (se_var 4)) sa_nil)))) (sa_cons (se_frz (se_callV (ok__law_told T) fnV_n (show 4 ≤ 10 by decide) (fun X g => gl_of g (by rfl)) T.m__law_told T.F__law_told.kp T.b__law_told (sa_cons (se_frz (se_var 9)) (sa_cons (se_frz (se_var 4)) sa_nil)))) sa_nil)))
  (ss_cons (ss_if (st_ne (se_repr (fun X g => gl_of g (by rfl)) T.z_repr (sa_cons (se_lst (sa_cons (se_frz (se_callV (ok_moved T) fnV_n (show 9 ≤ 10 by decide) (fun X g => gl_of g (by rfl)) T.m_moved T.F_moved.kp T.b_moved (sa_cons (se_frz (se_var 1)) (sa_cons (se_frz (se_var 5)) (sa_cons (se_frz (se_var 6)) sa_nil))))) (sa_cons (se_frz (se_callVP ["step", "signal", "size"] [2, 1, 0] (ok_moved T) fnV_n (show 9 ≤ 10 by decide) (fun X g => gl_of g (by rfl)) T.m_moved T.F_moved.kp T.r_moved_2_1_0 (sk_cons (se_frz (se_var 6)) (sk_cons (se_frz (se_var 5)) (sk_cons (se_frz (se_var 1)) sk_nil))))) sa_nil))) sa_nil)) (se_repr (fun X g => gl_of g (by rfl)) T.z_repr (sa_cons (se_lst (sa_cons (se_frz (se_var 10)) (sa_cons (se_frz (se_var 10)) sa_nil))) sa_nil))) (ss_one (ss_ret se_bl)) ss_nil)
  (ss_cons (ss_if (st_ne (se_repr (fun X g => gl_of g (by rfl)) T.z_repr (sa_cons (se_lst (sa_cons (se_frz (se_callV (ok_turned T) fnV_n (show 10 ≤ 10 by decide) (fun X g => gl_of g (by rfl)) T.m_turned T.F_turned.kp T.b_turned (sa_cons (se_frz (se_var 1)) (sa_cons (se_frz (se_var 5)) (sa_cons (se_frz (se_var 7)) sa_nil))))) (sa_cons (se_frz (se_callVP ["step", "signal", "size"] [2, 1, 0] (ok_turned T) fnV_n (show 10 ≤ 10 by decide) (fun X g => gl_of g (by rfl)) T.m_turned T.F_turned.kp T.r_turned_2_1_0 (sk_cons (se_frz (se_var 7)) (sk_cons (se_frz (se_var 5)) (sk_cons (se_frz (se_var 1)) sk_nil))))) sa_nil))) sa_nil)) (se_repr (fun X g => gl_of g (by rfl)) T.z_repr (sa_cons (se_lst (sa_cons (se_frz (se_var 11)) (sa_cons (se_frz (se_var 11)) sa_nil))) sa_nil))) (ss_one (ss_ret se_bl)) ss_nil)
  (ss_cons (ss_setC 12 (se_lc [("k", 18)] (si_rng1 (fun X g => gl_of g (by rfl)) T.z_range (sa_cons (se_var 1) sa_nil)) (sg_name 18) sts_nil (se_callV (ok__law_sum T) fnV_n (show 2 ≤ 10 by decide) (fun X g => gl_of g (by rfl)) T.m__law_sum T.F__law_sum.kp T.b__law_sum (sa_cons (se_frz (se_var 2)) (sa_cons (se_frz (se_var 3)) (sa_cons (se_frz (se_sub se_int (se_var 18))) sa_nil))))))
  (ss_cons (ss_set 13 (se_callV (ok__law_told T) fnV_n (show 4 ≤ 10 by decide) (fun X g => gl_of g (by rfl)) T.m__law_told T.F__law_told.kp T.b__law_told (sa_cons (se_frz (se_lc [("k", 18)] (si_rng1 (fun X g => gl_of g (by rfl)) T.z_range (sa_cons (se_var 1) sa_nil)) (sg_name 18) sts_nil (se_callV (ok__law_times T) fnV_n (show 2 ≤ 10 by decide) (fun X g => gl_of g (by rfl)) T.m__law_times T.F__law_times.kp T.b__law_times (sa_cons (se_frz (se_var 2)) (sa_cons (se_frz (se_ix (se_var 12) (se_var 18))) (sa_cons (se_frz (se_ix (se_var 2) (se_mod (se_callTy (r := rInt1) (fun X g => call_int1) sc_int (fun X g => gl_of g (by rfl)) T.z_int (by rfl) (sa_cons (se_sub se_int (se_mulA (se_var 6) (se_var 18))) sa_nil)) (se_var 1)))) sa_nil)))))) (sa_cons (se_frz (se_mulA (se_var 4) (se_var 1))) sa_nil))))
  (ss_cons (ss_if (st_ne (se_repr (fun X g => gl_of g (by rfl)) T.z_repr (sa_cons (se_callV (ok_parts_of T) fnV_n (show 9 ≤ 10 by decide) (fun X g => gl_of g (by rfl)) T.m_parts_of T.F_parts_of.kp T.b_parts_of (sa_cons (se_frz (se_var 1)) (sa_cons (se_frz (se_var 10)) sa_nil))) sa_nil)) (se_repr (fun X g => gl_of g (by rfl)) T.z_repr (sa_cons (se_var 13) sa_nil))) (ss_one (ss_ret se_bl)) ss_nil)
  (ss_cons (ss_set 13 (se_callV (ok__law_told T) fnV_n (show 4 ≤ 10 by decide) (fun X g => gl_of g (by rfl)) T.m__law_told T.F__law_told.kp T.b__law_told (sa_cons (se_frz (se_lc [("k", 18)] (si_rng1 (fun X g => gl_of g (by rfl)) T.z_range (sa_cons (se_var 1) sa_nil)) (sg_name 18) sts_nil (se_ix (se_var 12) (se_mod (se_callTy (r := rInt1) (fun X g => call_int1) sc_int (fun X g => gl_of g (by rfl)) T.z_int (by rfl) (sa_cons (se_sub (se_var 18) (se_var 7)) sa_nil)) (se_var 1))))) (sa_cons (se_frz (se_mulA (se_var 4) (se_var 1))) sa_nil))))
  (ss_cons (ss_if (st_ne (se_repr (fun X g => gl_of g (by rfl)) T.z_repr (sa_cons (se_callV (ok_parts_of T) fnV_n (show 9 ≤ 10 by decide) (fun X g => gl_of g (by rfl)) T.m_parts_of T.F_parts_of.kp T.b_parts_of (sa_cons (se_frz (se_var 1)) (sa_cons (se_frz (se_var 11)) sa_nil))) sa_nil)) (se_repr (fun X g => gl_of g (by rfl)) T.z_repr (sa_cons (se_var 13) sa_nil))) (ss_one (ss_ret se_bl)) ss_nil)
  (ss_cons (ss_set 14 (se_lst (sa_cons (se_frz (se_callV (ok_moved T) fnV_n (show 9 ≤ 10 by decide) (fun X g => gl_of g (by rfl)) T.m_moved T.F_moved.kp T.b_moved (sa_cons (se_frz (se_var 1)) (sa_cons (se_frz (se_var 10)) (sa_cons (se_frz (se_mod (se_callTy (r := rInt1) (fun X g => call_int1) sc_int (fun X g => gl_of g (by rfl)) T.z_int (by rfl) (sa_cons (se_sub se_int (se_var 6)) sa_nil)) (se_var 1))) sa_nil))))) (sa_cons (se_frz (se_callV (ok_turned T) fnV_n (show 10 ≤ 10 by decide) (fun X g => gl_of g (by rfl)) T.m_turned T.F_turned.kp T.b_turned (sa_cons (se_frz (se_var 1)) (sa_cons (se_frz (se_var 11)) (sa_cons (se_frz (se_mod (se_callTy (r := rInt1) (fun X g => call_int1) sc_int (fun X g => gl_of g (by rfl)) T.z_int (by rfl) (sa_cons (se_sub se_int (se_var 7)) sa_nil)) (se_var 1))) sa_nil))))) sa_nil))))
  (ss_cons (ss_if (st_ne (se_repr (fun X g => gl_of g (by rfl)) T.z_repr (sa_cons (se_var 14) sa_nil)) (se_repr (fun X g => gl_of g (by rfl)) T.z_repr (sa_cons (se_lst (sa_cons (se_frz (se_var 5)) (sa_cons (se_frz (se_var 5)) sa_nil))) sa_nil))) (ss_one (ss_ret se_bl)) ss_nil)
  (ss_cons (ss_setL 15 [("j", 17)] (si_rng1 (fun X g => gl_of g (by rfl)) T.z_range (sa_cons (se_var 1) sa_nil)) (sg_name 17) sts_nil (se_callV (ok__law_times T) fnV_n (show 2 ≤ 10 by decide) (fun X g => gl_of g (by rfl)) T.m__law_times T.F__law_times.kp T.b__law_times (sa_cons (se_frz (se_var 2)) (sa_cons (se_frz (se_ix (se_var 8) (se_var 17))) (sa_cons (se_frz (se_ix (se_var 2) (se_mod (se_callTy (r := rInt1) (fun X g => call_int1) sc_int (fun X g => gl_of g (by rfl)) T.z_int (by rfl) (sa_cons (se_mulA (se_var 17) (se_var 7)) sa_nil)) (se_var 1)))) sa_nil)))))
  (ss_cons (ss_setL 16 [("j", 17)] (si_rng1 (fun X g => gl_of g (by rfl)) T.z_range (sa_cons (se_var 1) sa_nil)) (sg_name 17) sts_nil (se_ix (se_var 9) (se_mod (se_callTy (r := rInt1) (fun X g => call_int1) sc_int (fun X g => gl_of g (by rfl)) T.z_int (by rfl) (sa_cons (se_sub (se_var 17) (se_var 6)) sa_nil)) (se_var 1))))
  (ss_cons (ss_if (st_ne (se_lc [("each", 19)] (si_seq (se_var 16)) (sg_name 19) sts_nil (se_callV (ok__law_times T) fnV_n (show 2 ≤ 10 by decide) (fun X g => gl_of g (by rfl)) T.m__law_times T.F__law_times.kp T.b__law_times (sa_cons (se_frz (se_var 2)) (sa_cons (se_frz (se_var 19)) (sa_cons (se_frz (se_ix (se_var 2) (se_mod (se_callTy (r := rInt1) (fun X g => call_int1) sc_int (fun X g => gl_of g (by rfl)) T.z_int (by rfl) (sa_cons (se_mulA (se_var 6) (se_var 7)) sa_nil)) (se_var 1)))) sa_nil))))) (se_var 15)) (ss_one (ss_ret se_bl)) ss_nil)
  (ss_cons (ss_set 13 (se_lst (sa_cons (se_frz (se_callV (ok__law_told T) fnV_n (show 4 ≤ 10 by decide) (fun X g => gl_of g (by rfl)) T.m__law_told T.F__law_told.kp T.b__law_told (sa_cons (se_frz (se_var 15)) (sa_cons (se_frz (se_var 4)) sa_nil)))) (sa_cons (se_frz (se_callV (ok__law_told T) fnV_n (show 4 ≤ 10 by decide) (fun X g => gl_of g (by rfl)) T.m__law_told T.F__law_told.kp T.b__law_told (sa_cons (se_frz (se_var 16)) (sa_cons (se_frz (se_var 4)) sa_nil)))) sa_nil))))
  (ss_one (ss_ret (se_eq (se_repr (fun X g => gl_of g (by rfl)) T.z_repr (sa_cons (se_lst (sa_cons (se_frz (se_callV (ok_turned T) fnV_n (show 10 ≤ 10 by decide) (fun X g => gl_of g (by rfl)) T.m_turned T.F_turned.kp T.b_turned (sa_cons (se_frz (se_var 1)) (sa_cons (se_frz (se_var 10)) (sa_cons (se_frz (se_var 7)) sa_nil))))) (sa_cons (se_frz (se_callV (ok_moved T) fnV_n (show 9 ≤ 10 by decide) (fun X g => gl_of g (by rfl)) T.m_moved T.F_moved.kp T.b_moved (sa_cons (se_frz (se_var 1)) (sa_cons (se_frz (se_var 11)) (sa_cons (se_frz (se_var 6)) sa_nil))))) sa_nil))) sa_nil)) (se_repr (fun X g => gl_of g (by rfl)) T.z_repr (sa_cons (se_var 13) sa_nil)))))))))))))))))))))))))
theorem ok__law_right (T : Txt K mg) : FnG P w K mg base CX0 11 T.f__law_right T.fd__law_right p__law_right (spW K 1 fn__law_right) := fn_okW T.F__law_right sc__law_right (ss__law_right T)
theorem ss_law (T : Txt K mg) : SSs (cdOf P w K mg base N_law s_law 11) (defBody s_law) b_law :=
  (ss_one (ss_ret (se_callB (r := rAll) (fun X g => cr_all g.calm) sc_all (fun X g => gl_of g (by rfl)) T.z_all (by rfl) (sa_cons (se_lc [("turn", 1)] (si_rng1 (fun X g => gl_of g (by rfl)) T.z_range (sa_cons (se_callB (r := rMax2) (fun X g => call_max2 g.calm) sc_max (fun X g => gl_of g (by rfl)) T.z_max (by rfl) (sa_cons se_int (sa_cons (se_callB (r := rMin2) (fun X g => call_min2 g.calm) sc_min (fun X g => gl_of g (by rfl)) T.z_min (by rfl) (sa_cons (se_callB (r := Dm.rLen) (fun X g => call_len_seq) sc_len (fun X g => gl_of g (by rfl)) T.z_len (by rfl) (sa_cons (se_var 0) sa_nil)) (sa_cons se_int sa_nil))) sa_nil))) sa_nil)) (sg_name 1) sts_nil (se_callW (ok__law_right T) fnW_n (show 11 ≤ 11 by decide) (fun X g => gl_of g (by rfl)) T.m__law_right T.F__law_right.kp T.b__law_right (se_callV (ok__law_well T) fnV_n (show 1 ≤ 11 by decide) (fun X g => gl_of g (by rfl)) T.m__law_well T.F__law_well.kp T.b__law_well (sa_cons (se_frz (se_var 0)) (sa_cons (se_frz (se_var 1)) sa_nil))) sa_nil)) sa_nil))))
theorem ok_law (T : Txt K mg) : FnG P w K mg base CX0 12 T.f_law T.fd_law p_law (spV K 1 fn_law) := fn_okV T.F_law sc_law (ss_law T)
end
end K08
set_option Elab.async false
set_option linter.all false
set_option maxRecDepth 100000
set_option maxHeartbeats 4000000
namespace K08
open PySem PySem.Spec L2 Dm Nz Nb
set_option autoImplicit false
theorem right_ok (sp : List D) (hw : Wl sp) : ∃ ys, fn__law_right sp [] = some (.val (.bl true), ys) := by
  have key : WS b__law_right (initW 20 sp []) fun o => ∃ r s ys, o = .rt r s ∧ port0 s = some ys ∧ r = .val (.bl true) := by
    unfold b__law_right
    obtain ⟨n, sp1, e1, hs1, h, h2⟩ := size_ok hw (l := [7, 8, 8, 9, 10, 12]) (by decide) (by decide) (by decide)
    have hd := dg_pos h h2
    have e1' : fn__law_size sp [.lst [.int 7, .int 8, .int 8, .int 9, .int 10, .int 12]] = some (.val (.int n), sp1) := e1
    refine ws_step (s1 := [some (.own true sp1), some (.val (.int n)), none, none, none, none, none, none, none, none, none, none, none, none, none, none, none, none, none, none]) (by simp [fnV, fnW, initV, initW, mSeq, mIfS, mTest, mBin, mIx, mVar, mC, peek, peeks, seqD, asI, asB, atI, ixN, onI, mAsg, mFrz, frz, mTupNew, mCons, mNil, fDm, gTupD, gsCons, gsNil, gSubD, gPut, put, ownAt, mRet, toRet, port0, mSkip, mCS, mCL, fI1, fI2, mSet, mPar, mPar3, Dm.plain, mTup, mLst, vals, mTupOf, fTup, fLen, mIf, mIfS, mNotT, mChain, mTyIs, tyD, noFrz, mIxK, mAndT, mOrT, mAndV, mOrV, mNotV, mExpr, mCallV, mCallW, rOf, mUn, fNeg, fList, fRg1, fRg2, fRg3, mRng, mSeqI, mYes, wipeS, mRep, e1']) ?_
    obtain ⟨ring, e2, er⟩ := law_ring_ok h h2
    refine ws_step (s1 := [some (.own true sp1), some (.val (.int n)), some (.own false (ring)), none, none, none, none, none, none, none, none, none, none, none, none, none, none, none, none, none]) (by simp [fnV, fnW, initV, initW, mSeq, mIfS, mTest, mBin, mIx, mVar, mC, peek, peeks, seqD, asI, asB, atI, ixN, onI, mAsg, mFrz, frz, mTupNew, mCons, mNil, fDm, gTupD, gsCons, gsNil, gSubD, gPut, put, ownAt, mRet, toRet, port0, mSkip, mCS, mCL, fI1, fI2, mSet, mPar, mPar3, Dm.plain, mTup, mLst, vals, mTupOf, fTup, fLen, mIf, mIfS, mNotT, mChain, mTyIs, tyD, noFrz, mIxK, mAndT, mOrT, mAndV, mOrV, mNotV, mExpr, mCallV, mCallW, rOf, mUn, fNeg, fList, fRg1, fRg2, fRg3, mRng, mSeqI, mYes, wipeS, mRep, e2]) ?_
    obtain ⟨x, sp2, e3, hs2, hx⟩ := rows_ok2 h h2 hs1
    have er2 : (.lst ring : D) = rg n := er
    obtain ⟨b, sp3, e4, hs3, hb⟩ := pick_int hs2 (l := [1, 2, 6, 35, 1000000007]) (by decide) (by decide)
    have bb : 1 ≤ b ∧ b ≤ 1000000007 := (by decide : ∀ i ∈ [1, 2, 6, 35, (1000000007 : Int)], 1 ≤ i ∧ i ≤ 1000000007) b hb
    have b0 : 0 < b := by omega
    have bM : okM b = true := okM_64 (by omega)
    have bn0 : 0 < b * (n : Int) := Int.mul_pos b0 (by omega)
    have bnU : b * (n : Int) ≤ 1000000007 * 12 := Int.mul_le_mul bb.2 (by omega) (by omega) (by omega)
    have bnM : okM (b * (n : Int)) = true := okM_64 (by omega)
    have p9 : CPow 10 9 := by decide
    have cbn : CMulA b (n : Int) := CMulA.l _ (by omega) (by omega)
    refine ws_step (s1 := [some (.own true sp3), some (.val (.int n)), some (.val (rg n)), some (.val (rL n n x)), some (.val (.int b)), none, none, none, none, none, none, none, none, none, none, none, none, none, none, none]) (asg_of (d := .tup [rL n n x, .int b]) (s1 := [some (.own true sp3), some (.val (.int n)), some (.val (rg n)), none, none, none, none, none, none, none, none, none, none, none, none, none, none, none, none, none]) ?_ ?_) ?_
    · refine frzV_of (tup_of (rs := [.val (rL n n x), .val (.int b)]) (cons_of (s1 := [some (.own true sp2), some (.val (.int n)), some (.val (rg n)), none, none, none, none, none, none, none, none, none, none, none, none, none, none, none, none, none]) (frz_of (callWo_of (k := 0) (p := true) (xs := sp1) (ys := sp2) (ds := [rg n]) (s1 := [some (.own true sp1), some (.val (.int n)), some (.val (rg n)), none, none, none, none, none, none, none, none, none, none, none, none, none, none, none, none, none]) rfl (cons_of (frz_gen (r := .slot 2) rfl ?_) rfl) rfl rfl e3 rfl)) (cons_of (s1 := [some (.own true sp3), some (.val (.int n)), some (.val (rg n)), none, none, none, none, none, none, none, none, none, none, none, none, none, none, none, none, none]) (frzV_of (callW_of (k := 0) (p := true) (xs := sp2) (ys := sp3) (ds := [.lst ([1, 2, 6, 35, 1000000007].map D.int)]) rfl (cons_of (s1 := [some (.own true sp2), some (.val (.int n)), some (.val (rg n)), none, none, none, none, none, none, none, none, none, none, none, none, none, none, none, none, none]) (r := .val (.lst ([1, 2, 6, 35, 1000000007].map D.int))) ?_ rfl) rfl rfl e4 rfl)) rfl)) rfl (by simp))
      · rw [← er2]; rfl
      · simp [fnV, fnW, initV, initW, mSeq, mIfS, mTest, mBin, mIx, mVar, mC, peek, peeks, seqD, asI, asB, atI, ixN, onI, mAsg, mFrz, frz, mTupNew, mCons, mNil, fDm, gTupD, gsCons, gsNil, gSubD, gPut, put, ownAt, mRet, toRet, port0, mSkip, mCS, mCL, fI1, fI2, mSet, mPar, mPar3, Dm.plain, mTup, mLst, vals, mTupOf, fTup, fLen, mIf, mIfS, mNotT, mChain, mTyIs, tyD, noFrz, mIxK, mAndT, mOrT, mAndV, mOrV, mNotV, mExpr, mCallV, mCallW, rOf, mUn, fNeg, fList, fRg1, fRg2, fRg3, mRng, mSeqI, mYes, wipeS, mRep, p9]
    · simp [gTupD, gsCons, gsNil, gPut, put]
    have told1 := law_told_ok h h2 (N := n) (by omega) x b0 bM
    obtain ⟨p, sp4, e5, hs4, hp⟩ := next_ok hs3 (w := n) (by omega) (by omega)
    obtain ⟨q, sp5, e6, hs5, hq⟩ := next_ok hs4 (w := n) (by omega) (by omega)
    refine ws_step (s1 := [some (.own true sp5), some (.val (.int n)), some (.val (rg n)), some (.val (rL n n x)), some (.val (.int b)), some (.val (sg1 n x b)), some (.val (.int p)), some (.val (.int q)), none, none, none, none, none, none, none, none, none, none, none, none]) (asg_of (d := .tup [sg1 n x b, .int p, .int q]) (s1 := [some (.own true sp5), some (.val (.int n)), some (.val (rg n)), some (.val (rL n n x)), some (.val (.int b)), none, none, none, none, none, none, none, none, none, none, none, none, none, none, none]) (frzV_of (tup_of (cons_of (frzV_of (callV_of (ds := [rL n n x, .int b]) rfl rfl told1)) (cons_of (s1 := [some (.own true sp4), some (.val (.int n)), some (.val (rg n)), some (.val (rL n n x)), some (.val (.int b)), none, none, none, none, none, none, none, none, none, none, none, none, none, none, none]) (frzV_of (callW_of (k := 0) (p := true) (xs := sp3) (ys := sp4) (ds := [.int n]) rfl rfl rfl rfl e5 rfl)) (cons_of (s1 := [some (.own true sp5), some (.val (.int n)), some (.val (rg n)), some (.val (rL n n x)), some (.val (.int b)), none, none, none, none, none, none, none, none, none, none, none, none, none, none, none]) (frzV_of (callW_of (k := 0) (p := true) (xs := sp4) (ys := sp5) (ds := [.int n]) rfl rfl rfl rfl e6 rfl)) rfl))) rfl (by simp))) (by simp [gTupD, gsCons, gsNil, gPut, put])) ?_
    have bx : ∀ j, Bd (10 ^ 12) (x j) := fun j => (hx j).bd
    have bl : ∀ j : Nat, Bd (10 ^ 12) (x (md n ((j : Int) - p))) := fun j => bx _
    have bs : ∀ j : Nat, Bd (100 * (10 ^ 12 * 1)) (x j * w n ((q : Int) * j)) := fun j => Bd_mul (bx j) (Bd_w _)
    refine ws_step (s1 := [some (.own true sp5), some (.val (.int n)), some (.val (rg n)), some (.val (rL n n x)), some (.val (.int b)), some (.val (sg1 n x b)), some (.val (.int p)), some (.val (.int q)), some (.own false ((List.range n).map fun (k : Nat) => wL (x (md n ((k : Int) - p))))), none, none, none, none, none, none, none, none, none, none, none]) (set_of (lcR h2 (i := 1) (v := 17) (s := [some (.own true sp5), some (.val (.int n)), some (.val (rg n)), some (.val (rL n n x)), some (.val (.int b)), some (.val (sg1 n x b)), some (.val (.int p)), some (.val (.int q)), none, none, none, none, none, none, none, none, none, none, none, none]) (fun k => wL (x (md n ((k : Int) - p)))) rfl (fun k hk => ⟨[some (.own true sp5), some (.val (.int n)), some (.val (rg n)), some (.val (rL n n x)), some (.val (.int b)), some (.val (sg1 n x b)), some (.val (.int p)), some (.val (.int q)), none, none, none, none, none, none, none, none, none, some (.val (.int k)), none, none], .val (wL (x (md n ((k : Int) - p)))), rfl, ixMod h rfl rfl (mBin_of rfl rfl rfl) rfl, rfl, rfl⟩) rfl) rfl) ?_
    have cq : ∀ k : Nat, CMulA (k : Int) (q : Int) := fun k => CMulA.r _ (by omega) (by omega)
    have cp : ∀ k : Nat, CMulA (p : Int) (k : Int) := fun k => CMulA.l _ (by omega) (by omega)
    have ml1 : ∀ (k : Nat) (e : Int), Ml (x k) (w n e) := fun k e => (bx k).ml (Bd_w e) (by decide) (by decide)
    refine ws_step (s1 := [some (.own true sp5), some (.val (.int n)), some (.val (rg n)), some (.val (rL n n x)), some (.val (.int b)), some (.val (sg1 n x b)), some (.val (.int p)), some (.val (.int q)), some (.own false ((List.range n).map fun (k : Nat) => wL (x (md n ((k : Int) - p))))), some (.own false ((List.range n).map fun (k : Nat) => wL (x k * w n ((k : Int) * q)))), none, none, none, none, none, none, none, none, none, none]) (set_of (lcR h2 (i := 1) (v := 17) (s := [some (.own true sp5), some (.val (.int n)), some (.val (rg n)), some (.val (rL n n x)), some (.val (.int b)), some (.val (sg1 n x b)), some (.val (.int p)), some (.val (.int q)), some (.own false ((List.range n).map fun (k : Nat) => wL (x (md n ((k : Int) - p))))), none, none, none, none, none, none, none, none, none, none, none]) (fun k => wL (x k * w n ((k : Int) * q))) rfl (fun k hk => ⟨[some (.own true sp5), some (.val (.int n)), some (.val (rg n)), some (.val (rL n n x)), some (.val (.int b)), some (.val (sg1 n x b)), some (.val (.int p)), some (.val (.int q)), some (.own false ((List.range n).map fun (k : Nat) => wL (x (md n ((k : Int) - p))))), none, none, none, none, none, none, none, none, some (.val (.int k)), none, none], .own (fl (dg n) (x k * w n ((k : Int) * q)).f), rfl, timesL h h2 rfl (ixRow hk rfl rfl rfl) (ixRing h rfl (mBin_of rfl rfl (fMulA_of (cq k))) rfl) (ml1 k _), rfl, rfl⟩) rfl) rfl) ?_
    have spE : rL n n (fun (k : Nat) => x k * w n ((k : Int) * q)) = rL n n (fun (j : Nat) => x j * w n ((q : Int) * j)) := rL_ext fun j _ => by rw [Int.mul_comm]
    have told2 := law_told_ok h h2 (N := n) (by omega) (fun (j : Nat) => x (md n ((j : Int) - p))) b0 bM
    have told3 := law_told_ok h h2 (N := n) (by omega) (fun (j : Nat) => x j * w n ((q : Int) * j)) b0 bM
    have f8 : frz (.slot 8) [some (.own true sp5), some (.val (.int n)), some (.val (rg n)), some (.val (rL n n x)), some (.val (.int b)), some (.val (sg1 n x b)), some (.val (.int p)), some (.val (.int q)), some (.own false ((List.range n).map fun (k : Nat) => wL (x (md n ((k : Int) - p))))), some (.own false ((List.range n).map fun (k : Nat) => wL (x k * w n ((k : Int) * q)))), none, none, none, none, none, none, none, none, none, none] = some (rL n n (fun (j : Nat) => x (md n ((j : Int) - p))), [some (.own true sp5), some (.val (.int n)), some (.val (rg n)), some (.val (rL n n x)), some (.val (.int b)), some (.val (sg1 n x b)), some (.val (.int p)), some (.val (.int q)), some (.val (rL n n (fun (j : Nat) => x (md n ((j : Int) - p))))), some (.own false ((List.range n).map fun (k : Nat) => wL (x k * w n ((k : Int) * q)))), none, none, none, none, none, none, none, none, none, none]) := rfl
    have f9 : frz (.slot 9) [some (.own true sp5), some (.val (.int n)), some (.val (rg n)), some (.val (rL n n x)), some (.val (.int b)), some (.val (sg1 n x b)), some (.val (.int p)), some (.val (.int q)), some (.val (rL n n (fun (j : Nat) => x (md n ((j : Int) - p))))), some (.own false ((List.range n).map fun (k : Nat) => wL (x k * w n ((k : Int) * q)))), none, none, none, none, none, none, none, none, none, none] = some (rL n n (fun (j : Nat) => x j * w n ((q : Int) * j)), [some (.own true sp5), some (.val (.int n)), some (.val (rg n)), some (.val (rL n n x)), some (.val (.int b)), some (.val (sg1 n x b)), some (.val (.int p)), some (.val (.int q)), some (.val (rL n n (fun (j : Nat) => x (md n ((j : Int) - p))))), some (.val (rL n n (fun (j : Nat) => x j * w n ((q : Int) * j)))), none, none, none, none, none, none, none, none, none, none]) := by rw [← spE]; rfl
    have par : mCons (mFrz (mCallV fn__law_told (mCons (mFrz (mVar 8)) (mCons (mFrz (mVar 4)) mNil)))) (mCons (mFrz (mCallV fn__law_told (mCons (mFrz (mVar 9)) (mCons (mFrz (mVar 4)) mNil)))) mNil) [some (.own true sp5), some (.val (.int n)), some (.val (rg n)), some (.val (rL n n x)), some (.val (.int b)), some (.val (sg1 n x b)), some (.val (.int p)), some (.val (.int q)), some (.own false ((List.range n).map fun (k : Nat) => wL (x (md n ((k : Int) - p))))), some (.own false ((List.range n).map fun (k : Nat) => wL (x k * w n ((k : Int) * q)))), none, none, none, none, none, none, none, none, none, none] = some ([.val (sg1 n (fun (j : Nat) => x (md n ((j : Int) - p))) b), .val (sg1 n (fun (j : Nat) => x j * w n ((q : Int) * j)) b)], [some (.own true sp5), some (.val (.int n)), some (.val (rg n)), some (.val (rL n n x)), some (.val (.int b)), some (.val (sg1 n x b)), some (.val (.int p)), some (.val (.int q)), some (.val (rL n n (fun (j : Nat) => x (md n ((j : Int) - p))))), some (.val (rL n n (fun (j : Nat) => x j * w n ((q : Int) * j)))), none, none, none, none, none, none, none, none, none, none]) := cons_of (s1 := [some (.own true sp5), some (.val (.int n)), some (.val (rg n)), some (.val (rL n n x)), some (.val (.int b)), some (.val (sg1 n x b)), some (.val (.int p)), some (.val (.int q)), some (.val (rL n n (fun (j : Nat) => x (md n ((j : Int) - p))))), some (.own false ((List.range n).map fun (k : Nat) => wL (x k * w n ((k : Int) * q)))), none, none, none, none, none, none, none, none, none, none]) (frzV_of (callV_of (ds := [rL n n (fun (j : Nat) => x (md n ((j : Int) - p))), .int b]) (cons_of (frz_gen (r := .slot 8) rfl f8) rfl) rfl told2)) (cons_of (s1 := [some (.own true sp5), some (.val (.int n)), some (.val (rg n)), some (.val (rL n n x)), some (.val (.int b)), some (.val (sg1 n x b)), some (.val (.int p)), some (.val (.int q)), some (.val (rL n n (fun (j : Nat) => x (md n ((j : Int) - p))))), some (.val (rL n n (fun (j : Nat) => x j * w n ((q : Int) * j)))), none, none, none, none, none, none, none, none, none, none]) (frzV_of (callV_of (ds := [rL n n (fun (j : Nat) => x j * w n ((q : Int) * j)), .int b]) (cons_of (frz_gen (r := .slot 9) rfl f9) rfl) rfl told3)) rfl)
    refine ws_step (s1 := [some (.own true sp5), some (.val (.int n)), some (.val (rg n)), some (.val (rL n n x)), some (.val (.int b)), some (.val (sg1 n x b)), some (.val (.int p)), some (.val (.int q)), some (.val (rL n n (fun (j : Nat) => x (md n ((j : Int) - p))))), some (.val (rL n n (fun (j : Nat) => x j * w n ((q : Int) * j)))), some (.val (sg1 n (fun (j : Nat) => x (md n ((j : Int) - p))) b)), some (.val (sg1 n (fun (j : Nat) => x j * w n ((q : Int) * j)) b)), none, none, none, none, none, none, none, none]) (par_of par rfl rfl) ?_
    have shX : Sh 3 372 (sg1 n x b) := sh_row (fun _ => b0) bx (by decide) (fun _ => by omega) h2
    have shL : Sh 3 372 (sg1 n (fun (j : Nat) => x (md n ((j : Int) - p))) b) := sh_row (fun _ => b0) bl (by decide) (fun _ => by omega) h2
    have shS : Sh 3 372 (sg1 n (fun (j : Nat) => x j * w n ((q : Int) * j)) b) := sh_row (fun _ => b0) bs (by decide) (fun _ => by omega) h2
    have mv := moved_ok h h2 x b0 (st := (p : Int)) (by omega) hp
    have tn := turned_ok h h2 x b0 (by omega) (fun j _ => (bx j).sb (by decide)) (st := (q : Int)) (by omega) hq
    have mv' : fnP [2, 1, 0] 3 fn_moved [.int p, sg1 n x b, .int n] = some (.val (sg1 n (fun (j : Nat) => x (md n ((j : Int) - p))) b)) := mv
    have tn' : fnP [2, 1, 0] 3 fn_turned [.int q, sg1 n x b, .int n] = some (.val (sg1 n (fun (j : Nat) => x j * w n ((q : Int) * j)) b)) := tn
    refine ws_step (s1 := [some (.own true sp5), some (.val (.int n)), some (.val (rg n)), some (.val (rL n n x)), some (.val (.int b)), some (.val (sg1 n x b)), some (.val (.int p)), some (.val (.int q)), some (.val (rL n n (fun (j : Nat) => x (md n ((j : Int) - p))))), some (.val (rL n n (fun (j : Nat) => x j * w n ((q : Int) * j)))), some (.val (sg1 n (fun (j : Nat) => x (md n ((j : Int) - p))) b)), some (.val (sg1 n (fun (j : Nat) => x j * w n ((q : Int) * j)) b)), none, none, none, none, none, none, none, none]) (ws_ifF_of (mTest_of (neOf (d := .lst [sg1 n (fun (j : Nat) => x (md n ((j : Int) - p))) b, sg1 n (fun (j : Nat) => x (md n ((j : Int) - p))) b]) (lst_of (cons_of (frzV_of (callV_of (ds := [.int n, sg1 n x b, .int p]) rfl rfl mv)) (cons_of (frzV_of (callV_of (ds := [.int p, sg1 n x b, .int n]) rfl rfl mv')) rfl)) rfl (by simp)) rfl (lst_of (cons_of (frzV_of (mVar_val rfl)) (cons_of (frzV_of (mVar_val rfl)) rfl)) rfl (by simp)) rfl (sh_l2 shL shL) (by omega) (by omega)))) ?_
    refine ws_step (s1 := [some (.own true sp5), some (.val (.int n)), some (.val (rg n)), some (.val (rL n n x)), some (.val (.int b)), some (.val (sg1 n x b)), some (.val (.int p)), some (.val (.int q)), some (.val (rL n n (fun (j : Nat) => x (md n ((j : Int) - p))))), some (.val (rL n n (fun (j : Nat) => x j * w n ((q : Int) * j)))), some (.val (sg1 n (fun (j : Nat) => x (md n ((j : Int) - p))) b)), some (.val (sg1 n (fun (j : Nat) => x j * w n ((q : Int) * j)) b)), none, none, none, none, none, none, none, none]) (ws_ifF_of (mTest_of (neOf (d := .lst [sg1 n (fun (j : Nat) => x j * w n ((q : Int) * j)) b, sg1 n (fun (j : Nat) => x j * w n ((q : Int) * j)) b]) (lst_of (cons_of (frzV_of (callV_of (ds := [.int n, sg1 n x b, .int q]) rfl rfl tn)) (cons_of (frzV_of (callV_of (ds := [.int q, sg1 n x b, .int n]) rfl rfl tn')) rfl)) rfl (by simp)) rfl (lst_of (cons_of (frzV_of (mVar_val rfl)) (cons_of (frzV_of (mVar_val rfl)) rfl)) rfl (by simp)) rfl (sh_l2 shS shS) (by omega) (by omega)))) ?_
    have sh_e : ∀ k : Nat, (Sm n fun (j : Nat) => x j * w n (j * (0 - (k : Int)))) = ft x (-1) k := fun k => Sm_congr fun j _ => by
      congr 2
      grind
    have sums := sums_lc h h2 (s := [some (.own true sp5), some (.val (.int n)), some (.val (rg n)), some (.val (rL n n x)), some (.val (.int b)), some (.val (sg1 n x b)), some (.val (.int p)), some (.val (.int q)), some (.val (rL n n (fun (j : Nat) => x (md n ((j : Int) - p))))), some (.val (rL n n (fun (j : Nat) => x j * w n ((q : Int) * j)))), some (.val (sg1 n (fun (j : Nat) => x (md n ((j : Int) - p))) b)), some (.val (sg1 n (fun (j : Nat) => x j * w n ((q : Int) * j)) b)), none, none, none, none, none, none, none, none]) (i1 := 1) (i2 := 2) (i3 := 3) (v := 18) (x := x) (me := mBin fSub (mC (.int 0)) (mVar 18)) (fun k => 0 - (k : Int)) (fun k hk => by omega) rfl (fun k hk => ⟨[some (.own true sp5), some (.val (.int n)), some (.val (rg n)), some (.val (rL n n x)), some (.val (.int b)), some (.val (sg1 n x b)), some (.val (.int p)), some (.val (.int q)), some (.val (rL n n (fun (j : Nat) => x (md n ((j : Int) - p))))), some (.val (rL n n (fun (j : Nat) => x j * w n ((q : Int) * j)))), some (.val (sg1 n (fun (j : Nat) => x (md n ((j : Int) - p))) b)), some (.val (sg1 n (fun (j : Nat) => x j * w n ((q : Int) * j)) b)), none, none, none, none, none, none, some (.val (.int k)), none], rfl, rfl, rfl, rfl, rfl⟩) rfl
    simp only [sh_e] at sums
    refine ws_step (s1 := [some (.own true sp5), some (.val (.int n)), some (.val (rg n)), some (.val (rL n n x)), some (.val (.int b)), some (.val (sg1 n x b)), some (.val (.int p)), some (.val (.int q)), some (.val (rL n n (fun (j : Nat) => x (md n ((j : Int) - p))))), some (.val (rL n n (fun (j : Nat) => x j * w n ((q : Int) * j)))), some (.val (sg1 n (fun (j : Nat) => x (md n ((j : Int) - p))) b)), some (.val (sg1 n (fun (j : Nat) => x j * w n ((q : Int) * j)) b)), some (.own false ((List.range n).map fun (k : Nat) => wL (ft x (-1) k))), none, none, none, none, none, none, none]) (set_of sums rfl) ?_
    have bf : ∀ j, Bd (12 * (100 * 10 ^ 12)) (ft x (-1) j) := fun j => (Bd_ft bx (-1) j).mono (Nat.mul_le_mul_right _ h2)
    have ml2 : ∀ (k : Nat) (e : Int), Ml (ft x (-1) k) (w n e) := fun k e => (bf k).ml (Bd_w e) (by decide) (by decide)
    have told4 := law_told_ok h h2 (N := n) (by omega) (fun (k : Nat) => ft x (-1) k * w n (-1 * p * k)) bn0 bnM
    have d1E : D.lst ((List.range n).map fun (k : Nat) => wL (ft x (-1) k * w n (0 - (p : Int) * k))) = rL n n (fun (k : Nat) => ft x (-1) k * w n (-1 * p * k)) := rL_ext fun j _ => by
      congr 2
      grind
    refine ws_step (s1 := [some (.own true sp5), some (.val (.int n)), some (.val (rg n)), some (.val (rL n n x)), some (.val (.int b)), some (.val (sg1 n x b)), some (.val (.int p)), some (.val (.int q)), some (.val (rL n n (fun (j : Nat) => x (md n ((j : Int) - p))))), some (.val (rL n n (fun (j : Nat) => x j * w n ((q : Int) * j)))), some (.val (sg1 n (fun (j : Nat) => x (md n ((j : Int) - p))) b)), some (.val (sg1 n (fun (j : Nat) => x j * w n ((q : Int) * j)) b)), some (.own false ((List.range n).map fun (k : Nat) => wL (ft x (-1) k))), some (.val (sg1 n (fun (k : Nat) => ft x (-1) k * w n (-1 * p * k)) (b * n))), none, none, none, none, none, none]) (set_of (callV_of (ds := [rL n n (fun (k : Nat) => ft x (-1) k * w n (-1 * p * k)), .int (b * n)]) (cons_of (frz_gen (r := .own ((List.range n).map fun (k : Nat) => wL (ft x (-1) k * w n (0 - (p : Int) * k)))) (lcR h2 (i := 1) (v := 18) (s := [some (.own true sp5), some (.val (.int n)), some (.val (rg n)), some (.val (rL n n x)), some (.val (.int b)), some (.val (sg1 n x b)), some (.val (.int p)), some (.val (.int q)), some (.val (rL n n (fun (j : Nat) => x (md n ((j : Int) - p))))), some (.val (rL n n (fun (j : Nat) => x j * w n ((q : Int) * j)))), some (.val (sg1 n (fun (j : Nat) => x (md n ((j : Int) - p))) b)), some (.val (sg1 n (fun (j : Nat) => x j * w n ((q : Int) * j)) b)), some (.own false ((List.range n).map fun (k : Nat) => wL (ft x (-1) k))), none, none, none, none, none, none, none]) (fun k => wL (ft x (-1) k * w n (0 - (p : Int) * k))) rfl (fun k hk => ⟨[some (.own true sp5), some (.val (.int n)), some (.val (rg n)), some (.val (rL n n x)), some (.val (.int b)), some (.val (sg1 n x b)), some (.val (.int p)), some (.val (.int q)), some (.val (rL n n (fun (j : Nat) => x (md n ((j : Int) - p))))), some (.val (rL n n (fun (j : Nat) => x j * w n ((q : Int) * j)))), some (.val (sg1 n (fun (j : Nat) => x (md n ((j : Int) - p))) b)), some (.val (sg1 n (fun (j : Nat) => x j * w n ((q : Int) * j)) b)), some (.own false ((List.range n).map fun (k : Nat) => wL (ft x (-1) k))), none, none, none, none, none, some (.val (.int k)), none], .own (fl (dg n) (ft x (-1) k * w n (0 - (p : Int) * k)).f), rfl, timesL h h2 rfl (ixRow (x := ft x (-1)) hk rfl rfl rfl) (ixRing h rfl (mBin_of rfl (mBin_of rfl rfl (fMulA_of (cp k))) rfl) rfl) (ml2 k _), rfl, rfl⟩) rfl) (by rw [← d1E]; rfl)) (cons_of (frzV_of (mBin_of rfl rfl (fMulA_of cbn))) rfl)) rfl told4) rfl) ?_
    have po1 := parts_of_ok h h2 (fun (j : Nat) => x (md n ((j : Int) - p))) b0 (by omega)
    rw [show sg1 n (ft (fun (j : Nat) => x (md n ((j : Int) - p))) (-1)) (b * n) = sg1 n (fun (k : Nat) => ft x (-1) k * w n (-1 * p * k)) (b * n) from sg1_ext fun k _ => ft_moved h x p k] at po1
    have bd1 : ∀ k : Nat, Bd (100 * (12 * (100 * 10 ^ 12) * 1)) (ft x (-1) k * w n (-1 * p * k)) := fun k => Bd_mul (bf k) (Bd_w _)
    have sh1 : Sh 3 372 (sg1 n (fun (k : Nat) => ft x (-1) k * w n (-1 * p * k)) (b * n)) := sh_row (fun _ => bn0) bd1 (by decide) (fun _ => by omega) h2
    refine ws_step (s1 := [some (.own true sp5), some (.val (.int n)), some (.val (rg n)), some (.val (rL n n x)), some (.val (.int b)), some (.val (sg1 n x b)), some (.val (.int p)), some (.val (.int q)), some (.val (rL n n (fun (j : Nat) => x (md n ((j : Int) - p))))), some (.val (rL n n (fun (j : Nat) => x j * w n ((q : Int) * j)))), some (.val (sg1 n (fun (j : Nat) => x (md n ((j : Int) - p))) b)), some (.val (sg1 n (fun (j : Nat) => x j * w n ((q : Int) * j)) b)), some (.own false ((List.range n).map fun (k : Nat) => wL (ft x (-1) k))), some (.val (sg1 n (fun (k : Nat) => ft x (-1) k * w n (-1 * p * k)) (b * n))), none, none, none, none, none, none]) (ws_ifF_of (mTest_of (neOf (callV_of (ds := [.int n, sg1 n (fun (j : Nat) => x (md n ((j : Int) - p))) b]) rfl rfl po1) rfl (m' := mVar 13) rfl rfl sh1 (by omega) (by omega)))) ?_
    have told5 := law_told_ok h h2 (N := n) (by omega) (fun (k : Nat) => ft x (-1) (md n ((k : Int) - q))) bn0 bnM
    refine ws_step (s1 := [some (.own true sp5), some (.val (.int n)), some (.val (rg n)), some (.val (rL n n x)), some (.val (.int b)), some (.val (sg1 n x b)), some (.val (.int p)), some (.val (.int q)), some (.val (rL n n (fun (j : Nat) => x (md n ((j : Int) - p))))), some (.val (rL n n (fun (j : Nat) => x j * w n ((q : Int) * j)))), some (.val (sg1 n (fun (j : Nat) => x (md n ((j : Int) - p))) b)), some (.val (sg1 n (fun (j : Nat) => x j * w n ((q : Int) * j)) b)), some (.own false ((List.range n).map fun (k : Nat) => wL (ft x (-1) k))), some (.val (sg1 n (fun (k : Nat) => ft x (-1) (md n ((k : Int) - q))) (b * n))), none, none, none, none, none, none]) (set_of (callV_of (ds := [rL n n (fun (k : Nat) => ft x (-1) (md n ((k : Int) - q))), .int (b * n)]) (cons_of (frz_of (lcR h2 (i := 1) (v := 18) (s := [some (.own true sp5), some (.val (.int n)), some (.val (rg n)), some (.val (rL n n x)), some (.val (.int b)), some (.val (sg1 n x b)), some (.val (.int p)), some (.val (.int q)), some (.val (rL n n (fun (j : Nat) => x (md n ((j : Int) - p))))), some (.val (rL n n (fun (j : Nat) => x j * w n ((q : Int) * j)))), some (.val (sg1 n (fun (j : Nat) => x (md n ((j : Int) - p))) b)), some (.val (sg1 n (fun (j : Nat) => x j * w n ((q : Int) * j)) b)), some (.own false ((List.range n).map fun (k : Nat) => wL (ft x (-1) k))), some (.val (sg1 n (fun (k : Nat) => ft x (-1) k * w n (-1 * p * k)) (b * n))), none, none, none, none, none, none]) (fun k => wL (ft x (-1) (md n ((k : Int) - q)))) rfl (fun k hk => ⟨[some (.own true sp5), some (.val (.int n)), some (.val (rg n)), some (.val (rL n n x)), some (.val (.int b)), some (.val (sg1 n x b)), some (.val (.int p)), some (.val (.int q)), some (.val (rL n n (fun (j : Nat) => x (md n ((j : Int) - p))))), some (.val (rL n n (fun (j : Nat) => x j * w n ((q : Int) * j)))), some (.val (sg1 n (fun (j : Nat) => x (md n ((j : Int) - p))) b)), some (.val (sg1 n (fun (j : Nat) => x j * w n ((q : Int) * j)) b)), some (.own false ((List.range n).map fun (k : Nat) => wL (ft x (-1) k))), some (.val (sg1 n (fun (k : Nat) => ft x (-1) k * w n (-1 * p * k)) (b * n))), none, none, none, none, some (.val (.int k)), none], .val (wL (ft x (-1) (md n ((k : Int) - q)))), rfl, ixMod h (x := ft x (-1)) rfl rfl (mBin_of rfl rfl rfl) rfl, rfl, rfl⟩) rfl)) (cons_of (frzV_of (mBin_of rfl rfl (fMulA_of cbn))) rfl)) rfl told5) rfl) ?_
    have po2 := parts_of_ok h h2 (fun (j : Nat) => x j * w n ((q : Int) * j)) b0 (by omega)
    rw [show sg1 n (ft (fun (j : Nat) => x j * w n ((q : Int) * j)) (-1)) (b * n) = sg1 n (fun (k : Nat) => ft x (-1) (md n ((k : Int) - q))) (b * n) from sg1_ext fun k _ => ft_turned h x q k] at po2
    have sh2 : Sh 3 372 (sg1 n (fun (k : Nat) => ft x (-1) (md n ((k : Int) - q))) (b * n)) := sh_row (fun _ => bn0) (fun _ => bf _) (by decide) (fun _ => by omega) h2
    refine ws_step (s1 := [some (.own true sp5), some (.val (.int n)), some (.val (rg n)), some (.val (rL n n x)), some (.val (.int b)), some (.val (sg1 n x b)), some (.val (.int p)), some (.val (.int q)), some (.val (rL n n (fun (j : Nat) => x (md n ((j : Int) - p))))), some (.val (rL n n (fun (j : Nat) => x j * w n ((q : Int) * j)))), some (.val (sg1 n (fun (j : Nat) => x (md n ((j : Int) - p))) b)), some (.val (sg1 n (fun (j : Nat) => x j * w n ((q : Int) * j)) b)), some (.own false ((List.range n).map fun (k : Nat) => wL (ft x (-1) k))), some (.val (sg1 n (fun (k : Nat) => ft x (-1) (md n ((k : Int) - q))) (b * n))), none, none, none, none, none, none]) (ws_ifF_of (mTest_of (neOf (callV_of (ds := [.int n, sg1 n (fun (j : Nat) => x j * w n ((q : Int) * j)) b]) rfl rfl po2) rfl (m' := mVar 13) rfl rfl sh2 (by omega) (by omega)))) ?_
    have zp := md_lt h (0 - (p : Int))
    have zq := md_lt h (0 - (q : Int))
    have mb := moved_ok h h2 (fun (j : Nat) => x (md n ((j : Int) - p))) b0 (st := ((md n (0 - (p : Int)) : Nat) : Int)) (by omega) (by omega)
    rw [show sg1 n (fun (j : Nat) => x (md n (((md n ((j : Int) - (md n (0 - (p : Int)) : Nat)) : Nat) : Int) - p))) b = sg1 n x b from sg1_ext fun j hj => by
      rw [md_sub h]
      congr 1
      rw [md_of h hj, show (j : Int) - (md n (0 - (p : Int)) : Nat) - p = (j - p) - (md n (0 - (p : Int)) : Nat) by omega, md_cast h, Int.sub_emod, Int.emod_emod_of_dvd _ (Int.dvd_refl _), ← Int.sub_emod]
      congr 1
      omega] at mb
    have tb := turned_ok h h2 (fun (j : Nat) => x j * w n ((q : Int) * j)) b0 (by omega) (fun j _ => (bs j).sb (by decide)) (st := ((md n (0 - (q : Int)) : Nat) : Int)) (by omega) (by omega)
    rw [show sg1 n (fun (j : Nat) => x j * w n ((q : Int) * j) * w n ((md n (0 - (q : Int)) : Nat) * j)) b = sg1 n x b from sg1_ext fun j hj => by
      have : w n (((md n (0 - (q : Int)) : Nat) : Int) * j) = w n (j * (0 - (q : Int))) := by rw [Int.mul_comm, w_mdm h]
      have e2 : w n ((q : Int) * j) * w n (j * (0 - (q : Int))) = 1 := by
        rw [← w_add, ← w_zero]
        congr 1
        grind
      rw [this]
      grind] at tb
    refine ws_step (s1 := [some (.own true sp5), some (.val (.int n)), some (.val (rg n)), some (.val (rL n n x)), some (.val (.int b)), some (.val (sg1 n x b)), some (.val (.int p)), some (.val (.int q)), some (.val (rL n n (fun (j : Nat) => x (md n ((j : Int) - p))))), some (.val (rL n n (fun (j : Nat) => x j * w n ((q : Int) * j)))), some (.val (sg1 n (fun (j : Nat) => x (md n ((j : Int) - p))) b)), some (.val (sg1 n (fun (j : Nat) => x j * w n ((q : Int) * j)) b)), some (.own false ((List.range n).map fun (k : Nat) => wL (ft x (-1) k))), some (.val (sg1 n (fun (k : Nat) => ft x (-1) (md n ((k : Int) - q))) (b * n))), some (.own false ([sg1 n x b, sg1 n x b])), none, none, none, none, none]) (set_of (lst_of (ds := [sg1 n x b, sg1 n x b]) (cons_of (frzV_of (callV_of (ds := [.int n, sg1 n (fun (j : Nat) => x (md n ((j : Int) - p))) b, .int (md n (0 - (p : Int)) : Nat)]) (cons_of rfl (cons_of rfl (cons_of (frzV_of (mBin_of (mInt_of (mBin_of rfl rfl rfl)) rfl (fMod_n h _))) rfl))) rfl mb)) (cons_of (frzV_of (callV_of (ds := [.int n, sg1 n (fun (j : Nat) => x j * w n ((q : Int) * j)) b, .int (md n (0 - (q : Int)) : Nat)]) (cons_of rfl (cons_of rfl (cons_of (frzV_of (mBin_of (mInt_of (mBin_of rfl rfl rfl)) rfl (fMod_n h _))) rfl))) rfl tb)) rfl)) rfl (by simp)) rfl) ?_
    refine ws_step (s1 := [some (.own true sp5), some (.val (.int n)), some (.val (rg n)), some (.val (rL n n x)), some (.val (.int b)), some (.val (sg1 n x b)), some (.val (.int p)), some (.val (.int q)), some (.val (rL n n (fun (j : Nat) => x (md n ((j : Int) - p))))), some (.val (rL n n (fun (j : Nat) => x j * w n ((q : Int) * j)))), some (.val (sg1 n (fun (j : Nat) => x (md n ((j : Int) - p))) b)), some (.val (sg1 n (fun (j : Nat) => x j * w n ((q : Int) * j)) b)), some (.own false ((List.range n).map fun (k : Nat) => wL (ft x (-1) k))), some (.val (sg1 n (fun (k : Nat) => ft x (-1) (md n ((k : Int) - q))) (b * n))), some (.own false ([sg1 n x b, sg1 n x b])), none, none, none, none, none]) (ws_ifF_of (mTest_of (neOf (d := .lst [sg1 n x b, sg1 n x b]) (m := mVar 14) rfl rfl (lst_of (cons_of (frzV_of (mVar_val rfl)) (cons_of (frzV_of (mVar_val rfl)) rfl)) rfl (by simp)) rfl (sh_l2 shX shX) (by omega) (by omega)))) ?_
    refine ws_step (s1 := [some (.own true sp5), some (.val (.int n)), some (.val (rg n)), some (.val (rL n n x)), some (.val (.int b)), some (.val (sg1 n x b)), some (.val (.int p)), some (.val (.int q)), some (.val (rL n n (fun (j : Nat) => x (md n ((j : Int) - p))))), some (.val (rL n n (fun (j : Nat) => x j * w n ((q : Int) * j)))), some (.val (sg1 n (fun (j : Nat) => x (md n ((j : Int) - p))) b)), some (.val (sg1 n (fun (j : Nat) => x j * w n ((q : Int) * j)) b)), some (.own false ((List.range n).map fun (k : Nat) => wL (ft x (-1) k))), some (.val (sg1 n (fun (k : Nat) => ft x (-1) (md n ((k : Int) - q))) (b * n))), some (.own false ([sg1 n x b, sg1 n x b])), some (.own false ((List.range n).map fun (k : Nat) => wL (x (md n ((k : Int) - p)) * w n ((k : Int) * q)))), none, none, none, none]) (set_of (lcR h2 (i := 1) (v := 17) (s := [some (.own true sp5), some (.val (.int n)), some (.val (rg n)), some (.val (rL n n x)), some (.val (.int b)), some (.val (sg1 n x b)), some (.val (.int p)), some (.val (.int q)), some (.val (rL n n (fun (j : Nat) => x (md n ((j : Int) - p))))), some (.val (rL n n (fun (j : Nat) => x j * w n ((q : Int) * j)))), some (.val (sg1 n (fun (j : Nat) => x (md n ((j : Int) - p))) b)), some (.val (sg1 n (fun (j : Nat) => x j * w n ((q : Int) * j)) b)), some (.own false ((List.range n).map fun (k : Nat) => wL (ft x (-1) k))), some (.val (sg1 n (fun (k : Nat) => ft x (-1) (md n ((k : Int) - q))) (b * n))), some (.own false ([sg1 n x b, sg1 n x b])), none, none, none, none, none]) (fun k => wL (x (md n ((k : Int) - p)) * w n ((k : Int) * q))) rfl (fun k hk => ⟨[some (.own true sp5), some (.val (.int n)), some (.val (rg n)), some (.val (rL n n x)), some (.val (.int b)), some (.val (sg1 n x b)), some (.val (.int p)), some (.val (.int q)), some (.val (rL n n (fun (j : Nat) => x (md n ((j : Int) - p))))), some (.val (rL n n (fun (j : Nat) => x j * w n ((q : Int) * j)))), some (.val (sg1 n (fun (j : Nat) => x (md n ((j : Int) - p))) b)), some (.val (sg1 n (fun (j : Nat) => x j * w n ((q : Int) * j)) b)), some (.own false ((List.range n).map fun (k : Nat) => wL (ft x (-1) k))), some (.val (sg1 n (fun (k : Nat) => ft x (-1) (md n ((k : Int) - q))) (b * n))), some (.own false ([sg1 n x b, sg1 n x b])), none, none, some (.val (.int k)), none, none], .own (fl (dg n) (x (md n ((k : Int) - p)) * w n ((k : Int) * q)).f), rfl, timesL h h2 rfl (ixRow (x := (fun (j : Nat) => x (md n ((j : Int) - p)))) hk rfl rfl rfl) (ixRing h rfl (mBin_of rfl rfl (fMulA_of (cq k))) rfl) (ml1 _ _), rfl, rfl⟩) rfl) rfl) ?_
    refine ws_step (s1 := [some (.own true sp5), some (.val (.int n)), some (.val (rg n)), some (.val (rL n n x)), some (.val (.int b)), some (.val (sg1 n x b)), some (.val (.int p)), some (.val (.int q)), some (.val (rL n n (fun (j : Nat) => x (md n ((j : Int) - p))))), some (.val (rL n n (fun (j : Nat) => x j * w n ((q : Int) * j)))), some (.val (sg1 n (fun (j : Nat) => x (md n ((j : Int) - p))) b)), some (.val (sg1 n (fun (j : Nat) => x j * w n ((q : Int) * j)) b)), some (.own false ((List.range n).map fun (k : Nat) => wL (ft x (-1) k))), some (.val (sg1 n (fun (k : Nat) => ft x (-1) (md n ((k : Int) - q))) (b * n))), some (.own false ([sg1 n x b, sg1 n x b])), some (.own false ((List.range n).map fun (k : Nat) => wL (x (md n ((k : Int) - p)) * w n ((k : Int) * q)))), some (.own false ((List.range n).map fun (k : Nat) => wL (x (md n ((k : Int) - p)) * w n ((q : Int) * (md n ((k : Int) - p) : Nat))))), none, none, none]) (set_of (lcR h2 (i := 1) (v := 17) (s := [some (.own true sp5), some (.val (.int n)), some (.val (rg n)), some (.val (rL n n x)), some (.val (.int b)), some (.val (sg1 n x b)), some (.val (.int p)), some (.val (.int q)), some (.val (rL n n (fun (j : Nat) => x (md n ((j : Int) - p))))), some (.val (rL n n (fun (j : Nat) => x j * w n ((q : Int) * j)))), some (.val (sg1 n (fun (j : Nat) => x (md n ((j : Int) - p))) b)), some (.val (sg1 n (fun (j : Nat) => x j * w n ((q : Int) * j)) b)), some (.own false ((List.range n).map fun (k : Nat) => wL (ft x (-1) k))), some (.val (sg1 n (fun (k : Nat) => ft x (-1) (md n ((k : Int) - q))) (b * n))), some (.own false ([sg1 n x b, sg1 n x b])), some (.own false ((List.range n).map fun (k : Nat) => wL (x (md n ((k : Int) - p)) * w n ((k : Int) * q)))), none, none, none, none]) (fun k => wL (x (md n ((k : Int) - p)) * w n ((q : Int) * (md n ((k : Int) - p) : Nat)))) rfl (fun k hk => ⟨[some (.own true sp5), some (.val (.int n)), some (.val (rg n)), some (.val (rL n n x)), some (.val (.int b)), some (.val (sg1 n x b)), some (.val (.int p)), some (.val (.int q)), some (.val (rL n n (fun (j : Nat) => x (md n ((j : Int) - p))))), some (.val (rL n n (fun (j : Nat) => x j * w n ((q : Int) * j)))), some (.val (sg1 n (fun (j : Nat) => x (md n ((j : Int) - p))) b)), some (.val (sg1 n (fun (j : Nat) => x j * w n ((q : Int) * j)) b)), some (.own false ((List.range n).map fun (k : Nat) => wL (ft x (-1) k))), some (.val (sg1 n (fun (k : Nat) => ft x (-1) (md n ((k : Int) - q))) (b * n))), some (.own false ([sg1 n x b, sg1 n x b])), some (.own false ((List.range n).map fun (k : Nat) => wL (x (md n ((k : Int) - p)) * w n ((k : Int) * q)))), none, some (.val (.int k)), none, none], .val (wL (x (md n ((k : Int) - p)) * w n ((q : Int) * (md n ((k : Int) - p) : Nat)))), rfl, ixMod h (x := (fun (j : Nat) => x j * w n ((q : Int) * j))) rfl rfl (mBin_of rfl rfl rfl) rfl, rfl, rfl⟩) rfl) rfl) ?_
    have bb2 : ∀ j : Nat, Bd (100 * (10 ^ 12 * 1)) (x (md n ((j : Int) - p)) * w n ((j : Int) * q)) := fun j => Bd_mul (bx _) (Bd_w _)
    have ba2 : ∀ j : Nat, Bd (100 * (10 ^ 12 * 1)) (x (md n ((j : Int) - p)) * w n ((q : Int) * (md n ((j : Int) - p) : Nat))) := fun j => Bd_mul (bx _) (Bd_w _)
    have ml3 : ∀ (k : Nat) (e : Int), Ml (x (md n ((k : Int) - p)) * w n ((q : Int) * (md n ((k : Int) - p) : Nat))) (w n e) := fun k e => (ba2 k).ml (Bd_w e) (by decide) (by decide)
    have same : ∀ k : Nat, x (md n ((k : Int) - p)) * w n ((q : Int) * (md n ((k : Int) - p) : Nat)) * w n ((p : Int) * q) = x (md n ((k : Int) - p)) * w n ((k : Int) * q) := fun k => by
      have e1 : w n ((q : Int) * (md n ((k : Int) - p) : Nat)) * w n ((p : Int) * q) = w n ((k : Int) * q) := by
        rw [w_mdm h, ← w_add]
        congr 1
        grind
      rw [← e1]
      grind
    have cpq : CMulA (p : Int) (q : Int) := cp q
    have lcE := mlc_all (vs := [19]) (mi := mSeqI (mVar 16)) (g := gPut 19) (m := mCallV fn__law_times (mCons (mFrz (mVar 2)) (mCons (mFrz (mVar 19)) (mCons (mFrz (mIx (mVar 2) (mBin fMod (mCS (fI1 fun i => i) (mCons (mBin fMulA (mVar 6) (mVar 7)) mNil)) (mVar 1)))) mNil)))) (fun (k : Nat) => wL (x (md n ((k : Int) - p)) * w n ((q : Int) * (md n ((k : Int) - p) : Nat)))) (fun (k : Nat) => wL (x (md n ((k : Int) - p)) * w n ((k : Int) * q))) (List.range n) (s := [some (.own true sp5), some (.val (.int n)), some (.val (rg n)), some (.val (rL n n x)), some (.val (.int b)), some (.val (sg1 n x b)), some (.val (.int p)), some (.val (.int q)), some (.val (rL n n (fun (j : Nat) => x (md n ((j : Int) - p))))), some (.val (rL n n (fun (j : Nat) => x j * w n ((q : Int) * j)))), some (.val (sg1 n (fun (j : Nat) => x (md n ((j : Int) - p))) b)), some (.val (sg1 n (fun (j : Nat) => x j * w n ((q : Int) * j)) b)), some (.own false ((List.range n).map fun (k : Nat) => wL (ft x (-1) k))), some (.val (sg1 n (fun (k : Nat) => ft x (-1) (md n ((k : Int) - q))) (b * n))), some (.own false ([sg1 n x b, sg1 n x b])), some (.own false ((List.range n).map fun (k : Nat) => wL (x (md n ((k : Int) - p)) * w n ((k : Int) * q)))), some (.own false ((List.range n).map fun (k : Nat) => wL (x (md n ((k : Int) - p)) * w n ((q : Int) * (md n ((k : Int) - p) : Nat))))), none, none, none]) (s1 := [some (.own true sp5), some (.val (.int n)), some (.val (rg n)), some (.val (rL n n x)), some (.val (.int b)), some (.val (sg1 n x b)), some (.val (.int p)), some (.val (.int q)), some (.val (rL n n (fun (j : Nat) => x (md n ((j : Int) - p))))), some (.val (rL n n (fun (j : Nat) => x j * w n ((q : Int) * j)))), some (.val (sg1 n (fun (j : Nat) => x (md n ((j : Int) - p))) b)), some (.val (sg1 n (fun (j : Nat) => x j * w n ((q : Int) * j)) b)), some (.own false ((List.range n).map fun (k : Nat) => wL (ft x (-1) k))), some (.val (sg1 n (fun (k : Nat) => ft x (-1) (md n ((k : Int) - q))) (b * n))), some (.own false ([sg1 n x b, sg1 n x b])), some (.own false ((List.range n).map fun (k : Nat) => wL (x (md n ((k : Int) - p)) * w n ((k : Int) * q)))), some (.val (rL n n (fun (j : Nat) => x (md n ((j : Int) - p)) * w n ((q : Int) * (md n ((j : Int) - p) : Nat))))), none, none, none]) (s2 := [some (.own true sp5), some (.val (.int n)), some (.val (rg n)), some (.val (rL n n x)), some (.val (.int b)), some (.val (sg1 n x b)), some (.val (.int p)), some (.val (.int q)), some (.val (rL n n (fun (j : Nat) => x (md n ((j : Int) - p))))), some (.val (rL n n (fun (j : Nat) => x j * w n ((q : Int) * j)))), some (.val (sg1 n (fun (j : Nat) => x (md n ((j : Int) - p))) b)), some (.val (sg1 n (fun (j : Nat) => x j * w n ((q : Int) * j)) b)), some (.own false ((List.range n).map fun (k : Nat) => wL (ft x (-1) k))), some (.val (sg1 n (fun (k : Nat) => ft x (-1) (md n ((k : Int) - q))) (b * n))), some (.own false ([sg1 n x b, sg1 n x b])), some (.own false ((List.range n).map fun (k : Nat) => wL (x (md n ((k : Int) - p)) * w n ((k : Int) * q)))), some (.val (rL n n (fun (j : Nat) => x (md n ((j : Int) - p)) * w n ((q : Int) * (md n ((j : Int) - p) : Nat))))), none, none, none]) rfl (by simp; omega) (fun k hk => ⟨[some (.own true sp5), some (.val (.int n)), some (.val (rg n)), some (.val (rL n n x)), some (.val (.int b)), some (.val (sg1 n x b)), some (.val (.int p)), some (.val (.int q)), some (.val (rL n n (fun (j : Nat) => x (md n ((j : Int) - p))))), some (.val (rL n n (fun (j : Nat) => x j * w n ((q : Int) * j)))), some (.val (sg1 n (fun (j : Nat) => x (md n ((j : Int) - p))) b)), some (.val (sg1 n (fun (j : Nat) => x j * w n ((q : Int) * j)) b)), some (.own false ((List.range n).map fun (k : Nat) => wL (ft x (-1) k))), some (.val (sg1 n (fun (k : Nat) => ft x (-1) (md n ((k : Int) - q))) (b * n))), some (.own false ([sg1 n x b, sg1 n x b])), some (.own false ((List.range n).map fun (k : Nat) => wL (x (md n ((k : Int) - p)) * w n ((k : Int) * q)))), some (.val (rL n n (fun (j : Nat) => x (md n ((j : Int) - p)) * w n ((q : Int) * (md n ((j : Int) - p) : Nat))))), none, none, some (.val (wL (x (md n ((k : Int) - p)) * w n ((q : Int) * (md n ((k : Int) - p) : Nat)))))], .own (fl (dg n) (x (md n ((k : Int) - p)) * w n ((k : Int) * q)).f), rfl, by
      rw [← same k]
      exact timesL h h2 rfl rfl (ixRing h rfl (mBin_of rfl rfl (fMulA_of cpq)) rfl) (ml3 k _), rfl, rfl⟩) rfl
    have shB := sh_rL (n := n) (N := n) (x := (fun (j : Nat) => x (md n ((j : Int) - p)) * w n ((j : Int) * q))) bb2 (by decide) h2
    have fne := fNe_self shB (by omega)
    refine ws_step (s1 := [some (.own true sp5), some (.val (.int n)), some (.val (rg n)), some (.val (rL n n x)), some (.val (.int b)), some (.val (sg1 n x b)), some (.val (.int p)), some (.val (.int q)), some (.val (rL n n (fun (j : Nat) => x (md n ((j : Int) - p))))), some (.val (rL n n (fun (j : Nat) => x j * w n ((q : Int) * j)))), some (.val (sg1 n (fun (j : Nat) => x (md n ((j : Int) - p))) b)), some (.val (sg1 n (fun (j : Nat) => x j * w n ((q : Int) * j)) b)), some (.own false ((List.range n).map fun (k : Nat) => wL (ft x (-1) k))), some (.val (sg1 n (fun (k : Nat) => ft x (-1) (md n ((k : Int) - q))) (b * n))), some (.own false ([sg1 n x b, sg1 n x b])), some (.own false ((List.range n).map fun (k : Nat) => wL (x (md n ((k : Int) - p)) * w n ((k : Int) * q)))), some (.val (rL n n (fun (j : Nat) => x (md n ((j : Int) - p)) * w n ((q : Int) * (md n ((j : Int) - p) : Nat))))), none, none, none]) (ws_ifF_of (mTest_go (mBin_ow lcE (s2 := [some (.own true sp5), some (.val (.int n)), some (.val (rg n)), some (.val (rL n n x)), some (.val (.int b)), some (.val (sg1 n x b)), some (.val (.int p)), some (.val (.int q)), some (.val (rL n n (fun (j : Nat) => x (md n ((j : Int) - p))))), some (.val (rL n n (fun (j : Nat) => x j * w n ((q : Int) * j)))), some (.val (sg1 n (fun (j : Nat) => x (md n ((j : Int) - p))) b)), some (.val (sg1 n (fun (j : Nat) => x j * w n ((q : Int) * j)) b)), some (.own false ((List.range n).map fun (k : Nat) => wL (ft x (-1) k))), some (.val (sg1 n (fun (k : Nat) => ft x (-1) (md n ((k : Int) - q))) (b * n))), some (.own false ([sg1 n x b, sg1 n x b])), some (.own false ((List.range n).map fun (k : Nat) => wL (x (md n ((k : Int) - p)) * w n ((k : Int) * q)))), some (.val (rL n n (fun (j : Nat) => x (md n ((j : Int) - p)) * w n ((q : Int) * (md n ((j : Int) - p) : Nat))))), none, none, none]) rfl rfl rfl fne))) ?_
    have told6 := law_told_ok h h2 (N := n) (by omega) (fun (j : Nat) => x (md n ((j : Int) - p)) * w n ((j : Int) * q)) b0 bM
    have told7 := law_told_ok h h2 (N := n) (by omega) (fun (j : Nat) => x (md n ((j : Int) - p)) * w n ((q : Int) * (md n ((j : Int) - p) : Nat))) b0 bM
    refine ws_step (s1 := [some (.own true sp5), some (.val (.int n)), some (.val (rg n)), some (.val (rL n n x)), some (.val (.int b)), some (.val (sg1 n x b)), some (.val (.int p)), some (.val (.int q)), some (.val (rL n n (fun (j : Nat) => x (md n ((j : Int) - p))))), some (.val (rL n n (fun (j : Nat) => x j * w n ((q : Int) * j)))), some (.val (sg1 n (fun (j : Nat) => x (md n ((j : Int) - p))) b)), some (.val (sg1 n (fun (j : Nat) => x j * w n ((q : Int) * j)) b)), some (.own false ((List.range n).map fun (k : Nat) => wL (ft x (-1) k))), some (.own false ([sg1 n (fun (j : Nat) => x (md n ((j : Int) - p)) * w n ((j : Int) * q)) b, sg1 n (fun (j : Nat) => x (md n ((j : Int) - p)) * w n ((q : Int) * (md n ((j : Int) - p) : Nat))) b])), some (.own false ([sg1 n x b, sg1 n x b])), some (.val (rL n n (fun (j : Nat) => x (md n ((j : Int) - p)) * w n ((j : Int) * q)))), some (.val (rL n n (fun (j : Nat) => x (md n ((j : Int) - p)) * w n ((q : Int) * (md n ((j : Int) - p) : Nat))))), none, none, none]) (set_of (lst_of (ds := [sg1 n (fun (j : Nat) => x (md n ((j : Int) - p)) * w n ((j : Int) * q)) b, sg1 n (fun (j : Nat) => x (md n ((j : Int) - p)) * w n ((q : Int) * (md n ((j : Int) - p) : Nat))) b]) (cons_of (s1 := [some (.own true sp5), some (.val (.int n)), some (.val (rg n)), some (.val (rL n n x)), some (.val (.int b)), some (.val (sg1 n x b)), some (.val (.int p)), some (.val (.int q)), some (.val (rL n n (fun (j : Nat) => x (md n ((j : Int) - p))))), some (.val (rL n n (fun (j : Nat) => x j * w n ((q : Int) * j)))), some (.val (sg1 n (fun (j : Nat) => x (md n ((j : Int) - p))) b)), some (.val (sg1 n (fun (j : Nat) => x j * w n ((q : Int) * j)) b)), some (.own false ((List.range n).map fun (k : Nat) => wL (ft x (-1) k))), some (.val (sg1 n (fun (k : Nat) => ft x (-1) (md n ((k : Int) - q))) (b * n))), some (.own false ([sg1 n x b, sg1 n x b])), some (.val (rL n n (fun (j : Nat) => x (md n ((j : Int) - p)) * w n ((j : Int) * q)))), some (.val (rL n n (fun (j : Nat) => x (md n ((j : Int) - p)) * w n ((q : Int) * (md n ((j : Int) - p) : Nat))))), none, none, none]) (frzV_of (callV_of (ds := [rL n n (fun (j : Nat) => x (md n ((j : Int) - p)) * w n ((j : Int) * q)), .int b]) (cons_of (frz_gen (r := .slot 15) rfl rfl) rfl) rfl told6)) (cons_of (frzV_of (callV_of (ds := [rL n n (fun (j : Nat) => x (md n ((j : Int) - p)) * w n ((q : Int) * (md n ((j : Int) - p) : Nat))), .int b]) rfl rfl told7)) rfl)) rfl (by simp)) rfl) ?_
    have tf := turned_ok h h2 (fun (j : Nat) => x (md n ((j : Int) - p))) b0 (by omega) (fun j _ => (bl j).sb (by decide)) (st := (q : Int)) (by omega) hq
    rw [show sg1 n (fun (j : Nat) => x (md n ((j : Int) - p)) * w n ((q : Int) * j)) b = sg1 n (fun (j : Nat) => x (md n ((j : Int) - p)) * w n ((j : Int) * q)) b from sg1_ext fun j _ => by rw [Int.mul_comm]] at tf
    have mf := moved_ok h h2 (fun (j : Nat) => x j * w n ((q : Int) * j)) b0 (st := (p : Int)) (by omega) hp
    have shB3 : Sh 3 372 (sg1 n (fun (j : Nat) => x (md n ((j : Int) - p)) * w n ((j : Int) * q)) b) := sh_row (fun _ => b0) bb2 (by decide) (fun _ => by omega) h2
    have shA3 : Sh 3 372 (sg1 n (fun (j : Nat) => x (md n ((j : Int) - p)) * w n ((q : Int) * (md n ((j : Int) - p) : Nat))) b) := sh_row (fun _ => b0) ba2 (by decide) (fun _ => by omega) h2
    refine ws_ret ⟨.val (.bl true), [some (.own true sp5), some (.val (.int n)), some (.val (rg n)), some (.val (rL n n x)), some (.val (.int b)), some (.val (sg1 n x b)), some (.val (.int p)), some (.val (.int q)), some (.val (rL n n (fun (j : Nat) => x (md n ((j : Int) - p))))), some (.val (rL n n (fun (j : Nat) => x j * w n ((q : Int) * j)))), some (.val (sg1 n (fun (j : Nat) => x (md n ((j : Int) - p))) b)), some (.val (sg1 n (fun (j : Nat) => x j * w n ((q : Int) * j)) b)), some (.own false ((List.range n).map fun (k : Nat) => wL (ft x (-1) k))), some (.own false ([sg1 n (fun (j : Nat) => x (md n ((j : Int) - p)) * w n ((j : Int) * q)) b, sg1 n (fun (j : Nat) => x (md n ((j : Int) - p)) * w n ((q : Int) * (md n ((j : Int) - p) : Nat))) b])), some (.own false ([sg1 n x b, sg1 n x b])), some (.val (rL n n (fun (j : Nat) => x (md n ((j : Int) - p)) * w n ((j : Int) * q)))), some (.val (rL n n (fun (j : Nat) => x (md n ((j : Int) - p)) * w n ((q : Int) * (md n ((j : Int) - p) : Nat))))), none, none, none], ?_, _, rfl, _, _, sp5, rfl, rfl, rfl⟩
    exact eqOf (d := .lst [sg1 n (fun (j : Nat) => x (md n ((j : Int) - p)) * w n ((j : Int) * q)) b, sg1 n (fun (j : Nat) => x (md n ((j : Int) - p)) * w n ((q : Int) * (md n ((j : Int) - p) : Nat))) b]) (lst_of (cons_of (frzV_of (callV_of (ds := [.int n, sg1 n (fun (j : Nat) => x (md n ((j : Int) - p))) b, .int q]) rfl rfl tf)) (cons_of (frzV_of (callV_of (ds := [.int n, sg1 n (fun (j : Nat) => x j * w n ((q : Int) * j)) b, .int p]) rfl rfl mf)) rfl)) rfl (by simp)) rfl (m' := mVar 13) rfl rfl (sh_l2 shB3 shA3) (by omega) (by omega)
  obtain ⟨r, ys, e, rfl⟩ := fnW_run (np := 1) rfl key
  exact ⟨ys, e⟩
theorem law_ok (ns : List Int) : fn_law [.lst (ns.map D.int)] = some (.val (.bl true)) :=
  law_gen ns (fun t ht => well_gen (A := 53049) (B := 1101) (by decide) (by decide) (by decide) (by decide) ns t ht) right_ok
end K08
set_option Elab.async false
set_option linter.all false
set_option maxRecDepth 100000
set_option maxHeartbeats 4000000
namespace K08
open PySem PySem.Spec L2 Dm Nb
set_option autoImplicit false
theorem lk_pairs {K : PySem.W.Frag} {vs : List (Int × V)} {ds : List (Int × D)} (h : Paired (fun (p : Int × V) (q : Int × D) => p.1 = q.1 ∧ ∀ M, At K M p.2 q.2) vs ds) : ∀ (M : Hp) (i : Int) (z : D), ds.lookup i = some z → ∃ v, vs.lookup i = some v ∧ At K M v z := by
  induction h with
  | nil => intro M i z e; cases e
  | @cons p q ps qs h t ih =>
    obtain ⟨k, x⟩ := p
    obtain ⟨k', y⟩ := q
    obtain ⟨h1, h2⟩ := h
    have h1 : k = k' := h1
    subst h1
    intro M i z e
    rw [List.lookup_cons] at e ⊢
    by_cases hik : i = k
    · subst hik
      simp at e ⊢
      subst e
      exact h2 M
    · have hne : (i == k) = false := by simpa using hik
      rw [hne] at e ⊢
      exact ih M i z e
theorem at_tup {K : PySem.W.Frag} {r : Addr} {od : Option Addr} {its : Array Value} {m : Nat} {sl : Array (Option Value)} {vs : List V} {ds : List D} (lk : K.lookup r = some ⟨.type "tuple", od, .seq its m, sl⟩) (hv : Vals vs its.toList) (hs : its.size ≤ sizeLine) (ha : ∀ M, Ats K M vs ds) : ∀ M, At K M (.ref r) (.tup ds) := fun M =>
  .tup (.inr ⟨_, its, m, lk, rfl, rfl, hs, hv⟩) (ha M)
theorem all_mk {l : PySem.W.OpenLaw} {w : World} {K : PySem.W.Frag} {h : Heap} {mg : Str → Option Value} {fa : Addr} (X : K.In h) (G : h.Ns mainGlobals mg) (hfa : mg "law" = some (.ref fa))
    {f0 : Addr} {od0 an0 : Option Addr} {sl0 : Array (Option Value)} {oc0 kV0 dc0 pm0 cd0 ct0 : Value}
    {f1 : Addr} {od1 an1 : Option Addr} {sl1 : Array (Option Value)} {oc1 kV1 dc1 pm1 cd1 ct1 : Value}
    {f2 : Addr} {od2 an2 : Option Addr} {sl2 : Array (Option Value)} {oc2 kV2 dc2 pm2 cd2 ct2 : Value}
    {f3 : Addr} {od3 an3 : Option Addr} {sl3 : Array (Option Value)} {oc3 kV3 dc3 pm3 cd3 ct3 : Value}
    {f4 : Addr} {od4 an4 : Option Addr} {sl4 : Array (Option Value)} {oc4 kV4 dc4 pm4 cd4 ct4 : Value}
    {f5 : Addr} {od5 an5 : Option Addr} {sl5 : Array (Option Value)} {oc5 kV5 dc5 pm5 cd5 ct5 : Value}
    {f6 : Addr} {od6 an6 : Option Addr} {sl6 : Array (Option Value)} {oc6 kV6 dc6 pm6 cd6 ct6 : Value}
    {f7 : Addr} {od7 an7 : Option Addr} {sl7 : Array (Option Value)} {oc7 kV7 dc7 pm7 cd7 ct7 : Value}
    {f8 : Addr} {od8 an8 : Option Addr} {sl8 : Array (Option Value)} {oc8 kV8 dc8 pm8 cd8 ct8 : Value}
    {f9 : Addr} {od9 an9 : Option Addr} {sl9 : Array (Option Value)} {oc9 kV9 dc9 pm9 cd9 ct9 : Value}
    {f10 : Addr} {od10 an10 : Option Addr} {sl10 : Array (Option Value)} {oc10 kV10 dc10 pm10 cd10 ct10 : Value}
    {f11 : Addr} {od11 an11 : Option Addr} {sl11 : Array (Option Value)} {oc11 kV11 dc11 pm11 cd11 ct11 : Value}
    {f12 : Addr} {od12 an12 : Option Addr} {sl12 : Array (Option Value)} {oc12 kV12 dc12 pm12 cd12 ct12 : Value}
    {f13 : Addr} {od13 an13 : Option Addr} {sl13 : Array (Option Value)} {oc13 kV13 dc13 pm13 cd13 ct13 : Value}
    {f14 : Addr} {od14 an14 : Option Addr} {sl14 : Array (Option Value)} {oc14 kV14 dc14 pm14 cd14 ct14 : Value}
    {f15 : Addr} {od15 an15 : Option Addr} {sl15 : Array (Option Value)} {oc15 kV15 dc15 pm15 cd15 ct15 : Value}
    {f16 : Addr} {od16 an16 : Option Addr} {sl16 : Array (Option Value)} {oc16 kV16 dc16 pm16 cd16 ct16 : Value}
    {f17 : Addr} {od17 an17 : Option Addr} {sl17 : Array (Option Value)} {oc17 kV17 dc17 pm17 cd17 ct17 : Value}
    {f18 : Addr} {od18 an18 : Option Addr} {sl18 : Array (Option Value)} {oc18 kV18 dc18 pm18 cd18 ct18 : Value}
    {f19 : Addr} {od19 an19 : Option Addr} {sl19 : Array (Option Value)} {oc19 kV19 dc19 pm19 cd19 ct19 : Value}
    {f20 : Addr} {od20 an20 : Option Addr} {sl20 : Array (Option Value)} {oc20 kV20 dc20 pm20 cd20 ct20 : Value}
    {f21 : Addr} {od21 an21 : Option Addr} {sl21 : Array (Option Value)} {oc21 kV21 dc21 pm21 cd21 ct21 : Value}
    {f22 : Addr} {od22 an22 : Option Addr} {sl22 : Array (Option Value)} {oc22 kV22 dc22 pm22 cd22 ct22 : Value}
    {f23 : Addr} {od23 an23 : Option Addr} {sl23 : Array (Option Value)} {oc23 kV23 dc23 pm23 cd23 ct23 : Value}
    {f24 : Addr} {od24 an24 : Option Addr} {sl24 : Array (Option Value)} {oc24 kV24 dc24 pm24 cd24 ct24 : Value}
    {f25 : Addr} {od25 an25 : Option Addr} {sl25 : Array (Option Value)} {oc25 kV25 dc25 pm25 cd25 ct25 : Value}
    {f26 : Addr} {od26 an26 : Option Addr} {sl26 : Array (Option Value)} {oc26 kV26 dc26 pm26 cd26 ct26 : Value}
    {f27 : Addr} {od27 an27 : Option Addr} {sl27 : Array (Option Value)} {oc27 kV27 dc27 pm27 cd27 ct27 : Value}
    {f28 : Addr} {od28 an28 : Option Addr} {sl28 : Array (Option Value)} {oc28 kV28 dc28 pm28 cd28 ct28 : Value}
    {f29 : Addr} {od29 an29 : Option Addr} {sl29 : Array (Option Value)} {oc29 kV29 dc29 pm29 cd29 ct29 : Value}
    {f30 : Addr} {od30 an30 : Option Addr} {sl30 : Array (Option Value)} {oc30 kV30 dc30 pm30 cd30 ct30 : Value}
    {f31 : Addr} {od31 an31 : Option Addr} {sl31 : Array (Option Value)} {oc31 kV31 dc31 pm31 cd31 ct31 : Value}
    {f32 : Addr} {od32 an32 : Option Addr} {sl32 : Array (Option Value)} {oc32 kV32 dc32 pm32 cd32 ct32 : Value}
    {f33 : Addr} {od33 an33 : Option Addr} {sl33 : Array (Option Value)} {oc33 kV33 dc33 pm33 cd33 ct33 : Value}
    {f34 : Addr} {od34 an34 : Option Addr} {sl34 : Array (Option Value)} {oc34 kV34 dc34 pm34 cd34 ct34 : Value}
    {f35 : Addr} {od35 an35 : Option Addr} {sl35 : Array (Option Value)} {oc35 kV35 dc35 pm35 cd35 ct35 : Value}
    {f36 : Addr} {od36 an36 : Option Addr} {sl36 : Array (Option Value)} {oc36 kV36 dc36 pm36 cd36 ct36 : Value}
    {f37 : Addr} {od37 an37 : Option Addr} {sl37 : Array (Option Value)} {oc37 kV37 dc37 pm37 cd37 ct37 : Value}
    {f38 : Addr} {od38 an38 : Option Addr} {sl38 : Array (Option Value)} {oc38 kV38 dc38 pm38 cd38 ct38 : Value}
    {f39 : Addr} {od39 an39 : Option Addr} {sl39 : Array (Option Value)} {oc39 kV39 dc39 pm39 cd39 ct39 : Value}
    {f40 : Addr} {od40 an40 : Option Addr} {sl40 : Array (Option Value)} {oc40 kV40 dc40 pm40 cd40 ct40 : Value}
    {f41 : Addr} {od41 an41 : Option Addr} {sl41 : Array (Option Value)} {oc41 kV41 dc41 pm41 cd41 ct41 : Value}
    {f42 : Addr} {od42 an42 : Option Addr} {sl42 : Array (Option Value)} {oc42 kV42 dc42 pm42 cd42 ct42 : Value}
    {tk_GREATEST_SIZE : Tok}
    {tk_LEAST_SIZE : Tok}
    {g_ROUND_POLYNOMIALS n_ROUND_POLYNOMIALS : Nat} {t_ROUND_POLYNOMIALS_0 t_ROUND_POLYNOMIALS_1 t_ROUND_POLYNOMIALS_2 t_ROUND_POLYNOMIALS_3 t_ROUND_POLYNOMIALS_4 t_ROUND_POLYNOMIALS_5 t_ROUND_POLYNOMIALS_6 t_ROUND_POLYNOMIALS_7 t_ROUND_POLYNOMIALS_8 t_ROUND_POLYNOMIALS_9 t_ROUND_POLYNOMIALS_10 : Tok}
    {r_ROUND_POLYNOMIALS_0 r_ROUND_POLYNOMIALS_1 r_ROUND_POLYNOMIALS_2 r_ROUND_POLYNOMIALS_3 r_ROUND_POLYNOMIALS_4 r_ROUND_POLYNOMIALS_5 r_ROUND_POLYNOMIALS_6 r_ROUND_POLYNOMIALS_7 r_ROUND_POLYNOMIALS_8 r_ROUND_POLYNOMIALS_9 r_ROUND_POLYNOMIALS_10 : Addr}
    {o_ROUND_POLYNOMIALS_0 : Option Addr} {m_ROUND_POLYNOMIALS_0 : Nat} {sl_ROUND_POLYNOMIALS_0 : Array (Option Value)} {u_ROUND_POLYNOMIALS_0_0 u_ROUND_POLYNOMIALS_0_1 : Tok}
    {o_ROUND_POLYNOMIALS_1 : Option Addr} {m_ROUND_POLYNOMIALS_1 : Nat} {sl_ROUND_POLYNOMIALS_1 : Array (Option Value)} {u_ROUND_POLYNOMIALS_1_0 u_ROUND_POLYNOMIALS_1_1 u_ROUND_POLYNOMIALS_1_2 : Tok}
    {o_ROUND_POLYNOMIALS_2 : Option Addr} {m_ROUND_POLYNOMIALS_2 : Nat} {sl_ROUND_POLYNOMIALS_2 : Array (Option Value)} {u_ROUND_POLYNOMIALS_2_0 u_ROUND_POLYNOMIALS_2_1 u_ROUND_POLYNOMIALS_2_2 : Tok}
    {o_ROUND_POLYNOMIALS_3 : Option Addr} {m_ROUND_POLYNOMIALS_3 : Nat} {sl_ROUND_POLYNOMIALS_3 : Array (Option Value)} {u_ROUND_POLYNOMIALS_3_0 u_ROUND_POLYNOMIALS_3_1 u_ROUND_POLYNOMIALS_3_2 u_ROUND_POLYNOMIALS_3_3 u_ROUND_POLYNOMIALS_3_4 : Tok}
    {o_ROUND_POLYNOMIALS_4 : Option Addr} {m_ROUND_POLYNOMIALS_4 : Nat} {sl_ROUND_POLYNOMIALS_4 : Array (Option Value)} {u_ROUND_POLYNOMIALS_4_0 u_ROUND_POLYNOMIALS_4_1 u_ROUND_POLYNOMIALS_4_2 : Tok}
    {o_ROUND_POLYNOMIALS_5 : Option Addr} {m_ROUND_POLYNOMIALS_5 : Nat} {sl_ROUND_POLYNOMIALS_5 : Array (Option Value)} {u_ROUND_POLYNOMIALS_5_0 u_ROUND_POLYNOMIALS_5_1 u_ROUND_POLYNOMIALS_5_2 u_ROUND_POLYNOMIALS_5_3 u_ROUND_POLYNOMIALS_5_4 u_ROUND_POLYNOMIALS_5_5 u_ROUND_POLYNOMIALS_5_6 : Tok}
    {o_ROUND_POLYNOMIALS_6 : Option Addr} {m_ROUND_POLYNOMIALS_6 : Nat} {sl_ROUND_POLYNOMIALS_6 : Array (Option Value)} {u_ROUND_POLYNOMIALS_6_0 u_ROUND_POLYNOMIALS_6_1 u_ROUND_POLYNOMIALS_6_2 u_ROUND_POLYNOMIALS_6_3 u_ROUND_POLYNOMIALS_6_4 : Tok}
    {o_ROUND_POLYNOMIALS_7 : Option Addr} {m_ROUND_POLYNOMIALS_7 : Nat} {sl_ROUND_POLYNOMIALS_7 : Array (Option Value)} {u_ROUND_POLYNOMIALS_7_0 u_ROUND_POLYNOMIALS_7_1 u_ROUND_POLYNOMIALS_7_2 u_ROUND_POLYNOMIALS_7_3 u_ROUND_POLYNOMIALS_7_4 u_ROUND_POLYNOMIALS_7_5 u_ROUND_POLYNOMIALS_7_6 : Tok}
    {o_ROUND_POLYNOMIALS_8 : Option Addr} {m_ROUND_POLYNOMIALS_8 : Nat} {sl_ROUND_POLYNOMIALS_8 : Array (Option Value)} {u_ROUND_POLYNOMIALS_8_0 u_ROUND_POLYNOMIALS_8_1 u_ROUND_POLYNOMIALS_8_2 u_ROUND_POLYNOMIALS_8_3 u_ROUND_POLYNOMIALS_8_4 : Tok}
    {o_ROUND_POLYNOMIALS_9 : Option Addr} {m_ROUND_POLYNOMIALS_9 : Nat} {sl_ROUND_POLYNOMIALS_9 : Array (Option Value)} {u_ROUND_POLYNOMIALS_9_0 u_ROUND_POLYNOMIALS_9_1 u_ROUND_POLYNOMIALS_9_2 u_ROUND_POLYNOMIALS_9_3 u_ROUND_POLYNOMIALS_9_4 u_ROUND_POLYNOMIALS_9_5 u_ROUND_POLYNOMIALS_9_6 u_ROUND_POLYNOMIALS_9_7 u_ROUND_POLYNOMIALS_9_8 u_ROUND_POLYNOMIALS_9_9 u_ROUND_POLYNOMIALS_9_10 : Tok}
    {o_ROUND_POLYNOMIALS_10 : Option Addr} {m_ROUND_POLYNOMIALS_10 : Nat} {sl_ROUND_POLYNOMIALS_10 : Array (Option Value)} {u_ROUND_POLYNOMIALS_10_0 u_ROUND_POLYNOMIALS_10_1 u_ROUND_POLYNOMIALS_10_2 u_ROUND_POLYNOMIALS_10_3 u_ROUND_POLYNOMIALS_10_4 : Tok}
    (a0 : PySem.W.nsIn K mainGlobals "fraction_of" = some (some (.ref f0))) (l0 : K.lookup f0 = some ⟨oc0, od0, .func (PySem.W.fnOf "fraction_of" "fraction_of" (defArgs s_fraction_of) (defBody s_fraction_of) (defScope s_fraction_of) .none kV0 dc0 pm0 an0 cd0 ct0), sl0⟩) (c0 : PySem.W.codeIn K cd0 "fraction_of" = true) (k0 : PySem.W.keepIn K (.ref f0) = true)
    (a1 : PySem.W.nsIn K mainGlobals "number_of" = some (some (.ref f1))) (l1 : K.lookup f1 = some ⟨oc1, od1, .func (PySem.W.fnOf "number_of" "number_of" (defArgs s_number_of) (defBody s_number_of) (defScope s_number_of) .none kV1 dc1 pm1 an1 cd1 ct1), sl1⟩) (c1 : PySem.W.codeIn K cd1 "number_of" = true) (k1 : PySem.W.keepIn K (.ref f1) = true)
    (a2 : PySem.W.nsIn K mainGlobals "whole_row" = some (some (.ref f2))) (l2 : K.lookup f2 = some ⟨oc2, od2, .func (PySem.W.fnOf "whole_row" "whole_row" (defArgs s_whole_row) (defBody s_whole_row) (defScope s_whole_row) .none kV2 dc2 pm2 an2 cd2 ct2), sl2⟩) (c2 : PySem.W.codeIn K cd2 "whole_row" = true) (k2 : PySem.W.keepIn K (.ref f2) = true)
    (a3 : PySem.W.nsIn K mainGlobals "whole_over" = some (some (.ref f3))) (l3 : K.lookup f3 = some ⟨oc3, od3, .func (PySem.W.fnOf "whole_over" "whole_over" (defArgs s_whole_over) (defBody s_whole_over) (defScope s_whole_over) .none kV3 dc3 pm3 an3 cd3 ct3), sl3⟩) (c3 : PySem.W.codeIn K cd3 "whole_over" = true) (k3 : PySem.W.keepIn K (.ref f3) = true)
    (a4 : PySem.W.nsIn K mainGlobals "rest_by_round" = some (some (.ref f4))) (l4 : K.lookup f4 = some ⟨oc4, od4, .func (PySem.W.fnOf "rest_by_round" "rest_by_round" (defArgs s_rest_by_round) (defBody s_rest_by_round) (defScope s_rest_by_round) .none kV4 dc4 pm4 an4 cd4 ct4), sl4⟩) (c4 : PySem.W.codeIn K cd4 "rest_by_round" = true) (k4 : PySem.W.keepIn K (.ref f4) = true)
    (a5 : PySem.W.nsIn K mainGlobals "times_root" = some (some (.ref f5))) (l5 : K.lookup f5 = some ⟨oc5, od5, .func (PySem.W.fnOf "times_root" "times_root" (defArgs s_times_root) (defBody s_times_root) (defScope s_times_root) .none kV5 dc5 pm5 an5 cd5 ct5), sl5⟩) (c5 : PySem.W.codeIn K cd5 "times_root" = true) (k5 : PySem.W.keepIn K (.ref f5) = true)
    (a6 : PySem.W.nsIn K mainGlobals "whole_root" = some (some (.ref f6))) (l6 : K.lookup f6 = some ⟨oc6, od6, .func (PySem.W.fnOf "whole_root" "whole_root" (defArgs s_whole_root) (defBody s_whole_root) (defScope s_whole_root) .none kV6 dc6 pm6 an6 cd6 ct6), sl6⟩) (c6 : PySem.W.codeIn K cd6 "whole_root" = true) (k6 : PySem.W.keepIn K (.ref f6) = true)
    (a7 : PySem.W.nsIn K mainGlobals "product_of" = some (some (.ref f7))) (l7 : K.lookup f7 = some ⟨oc7, od7, .func (PySem.W.fnOf "product_of" "product_of" (defArgs s_product_of) (defBody s_product_of) (defScope s_product_of) .none kV7 dc7 pm7 an7 cd7 ct7), sl7⟩) (c7 : PySem.W.codeIn K cd7 "product_of" = true) (k7 : PySem.W.keepIn K (.ref f7) = true)
    (a8 : PySem.W.nsIn K mainGlobals "sums_of_turns" = some (some (.ref f8))) (l8 : K.lookup f8 = some ⟨oc8, od8, .func (PySem.W.fnOf "sums_of_turns" "sums_of_turns" (defArgs s_sums_of_turns) (defBody s_sums_of_turns) (defScope s_sums_of_turns) .none kV8 dc8 pm8 an8 cd8 ct8), sl8⟩) (c8 : PySem.W.codeIn K cd8 "sums_of_turns" = true) (k8 : PySem.W.keepIn K (.ref f8) = true)
    (a9 : PySem.W.nsIn K mainGlobals "is_whole_from" = some (some (.ref f9))) (l9 : K.lookup f9 = some ⟨oc9, od9, .func (PySem.W.fnOf "is_whole_from" "is_whole_from" (defArgs s_is_whole_from) (defBody s_is_whole_from) (defScope s_is_whole_from) .none kV9 dc9 pm9 an9 cd9 ct9), sl9⟩) (c9 : PySem.W.codeIn K cd9 "is_whole_from" = true) (k9 : PySem.W.keepIn K (.ref f9) = true)
    (a10 : PySem.W.nsIn K mainGlobals "is_size" = some (some (.ref f10))) (l10 : K.lookup f10 = some ⟨oc10, od10, .func (PySem.W.fnOf "is_size" "is_size" (defArgs s_is_size) (defBody s_is_size) (defScope s_is_size) .none kV10 dc10 pm10 an10 cd10 ct10), sl10⟩) (c10 : PySem.W.codeIn K cd10 "is_size" = true) (k10 : PySem.W.keepIn K (.ref f10) = true)
    (a11 : PySem.W.nsIn K mainGlobals "check_size" = some (some (.ref f11))) (l11 : K.lookup f11 = some ⟨oc11, od11, .func (PySem.W.fnOf "check_size" "check_size" (defArgs s_check_size) (defBody s_check_size) (defScope s_check_size) .none kV11 dc11 pm11 an11 cd11 ct11), sl11⟩) (c11 : PySem.W.codeIn K cd11 "check_size" = true) (k11 : PySem.W.keepIn K (.ref f11) = true)
    (a12 : PySem.W.nsIn K mainGlobals "check_index" = some (some (.ref f12))) (l12 : K.lookup f12 = some ⟨oc12, od12, .func (PySem.W.fnOf "check_index" "check_index" (defArgs s_check_index) (defBody s_check_index) (defScope s_check_index) .none kV12 dc12 pm12 an12 cd12 ct12), sl12⟩) (c12 : PySem.W.codeIn K cd12 "check_index" = true) (k12 : PySem.W.keepIn K (.ref f12) = true)
    (a13 : PySem.W.nsIn K mainGlobals "round_polynomial" = some (some (.ref f13))) (l13 : K.lookup f13 = some ⟨oc13, od13, .func (PySem.W.fnOf "round_polynomial" "round_polynomial" (defArgs s_round_polynomial) (defBody s_round_polynomial) (defScope s_round_polynomial) .none kV13 dc13 pm13 an13 cd13 ct13), sl13⟩) (c13 : PySem.W.codeIn K cd13 "round_polynomial" = true) (k13 : PySem.W.keepIn K (.ref f13) = true)
    (a14 : PySem.W.nsIn K mainGlobals "degree_of" = some (some (.ref f14))) (l14 : K.lookup f14 = some ⟨oc14, od14, .func (PySem.W.fnOf "degree_of" "degree_of" (defArgs s_degree_of) (defBody s_degree_of) (defScope s_degree_of) .none kV14 dc14 pm14 an14 cd14 ct14), sl14⟩) (c14 : PySem.W.codeIn K cd14 "degree_of" = true) (k14 : PySem.W.keepIn K (.ref f14) = true)
    (a15 : PySem.W.nsIn K mainGlobals "is_fraction" = some (some (.ref f15))) (l15 : K.lookup f15 = some ⟨oc15, od15, .func (PySem.W.fnOf "is_fraction" "is_fraction" (defArgs s_is_fraction) (defBody s_is_fraction) (defScope s_is_fraction) .none kV15 dc15 pm15 an15 cd15 ct15), sl15⟩) (c15 : PySem.W.codeIn K cd15 "is_fraction" = true) (k15 : PySem.W.keepIn K (.ref f15) = true)
    (a16 : PySem.W.nsIn K mainGlobals "is_number" = some (some (.ref f16))) (l16 : K.lookup f16 = some ⟨oc16, od16, .func (PySem.W.fnOf "is_number" "is_number" (defArgs s_is_number) (defBody s_is_number) (defScope s_is_number) .none kV16 dc16 pm16 an16 cd16 ct16), sl16⟩) (c16 : PySem.W.codeIn K cd16 "is_number" = true) (k16 : PySem.W.keepIn K (.ref f16) = true)
    (a17 : PySem.W.nsIn K mainGlobals "check_number" = some (some (.ref f17))) (l17 : K.lookup f17 = some ⟨oc17, od17, .func (PySem.W.fnOf "check_number" "check_number" (defArgs s_check_number) (defBody s_check_number) (defScope s_check_number) .none kV17 dc17 pm17 an17 cd17 ct17), sl17⟩) (c17 : PySem.W.codeIn K cd17 "check_number" = true) (k17 : PySem.W.keepIn K (.ref f17) = true)
    (a18 : PySem.W.nsIn K mainGlobals "first_no_number" = some (some (.ref f18))) (l18 : K.lookup f18 = some ⟨oc18, od18, .func (PySem.W.fnOf "first_no_number" "first_no_number" (defArgs s_first_no_number) (defBody s_first_no_number) (defScope s_first_no_number) .none kV18 dc18 pm18 an18 cd18 ct18), sl18⟩) (c18 : PySem.W.codeIn K cd18 "first_no_number" = true) (k18 : PySem.W.keepIn K (.ref f18) = true)
    (a19 : PySem.W.nsIn K mainGlobals "root" = some (some (.ref f19))) (l19 : K.lookup f19 = some ⟨oc19, od19, .func (PySem.W.fnOf "root" "root" (defArgs s_root) (defBody s_root) (defScope s_root) .none kV19 dc19 pm19 an19 cd19 ct19), sl19⟩) (c19 : PySem.W.codeIn K cd19 "root" = true) (k19 : PySem.W.keepIn K (.ref f19) = true)
    (a20 : PySem.W.nsIn K mainGlobals "check_two" = some (some (.ref f20))) (l20 : K.lookup f20 = some ⟨oc20, od20, .func (PySem.W.fnOf "check_two" "check_two" (defArgs s_check_two) (defBody s_check_two) (defScope s_check_two) .none kV20 dc20 pm20 an20 cd20 ct20), sl20⟩) (c20 : PySem.W.codeIn K cd20 "check_two" = true) (k20 : PySem.W.keepIn K (.ref f20) = true)
    (a21 : PySem.W.nsIn K mainGlobals "times" = some (some (.ref f21))) (l21 : K.lookup f21 = some ⟨oc21, od21, .func (PySem.W.fnOf "times" "times" (defArgs s_times) (defBody s_times) (defScope s_times) .none kV21 dc21 pm21 an21 cd21 ct21), sl21⟩) (c21 : PySem.W.codeIn K cd21 "times" = true) (k21 : PySem.W.keepIn K (.ref f21) = true)
    (a22 : PySem.W.nsIn K mainGlobals "check_signal" = some (some (.ref f22))) (l22 : K.lookup f22 = some ⟨oc22, od22, .func (PySem.W.fnOf "check_signal" "check_signal" (defArgs s_check_signal) (defBody s_check_signal) (defScope s_check_signal) .none kV22 dc22 pm22 an22 cd22 ct22), sl22⟩) (c22 : PySem.W.codeIn K cd22 "check_signal" = true) (k22 : PySem.W.keepIn K (.ref f22) = true)
    (a23 : PySem.W.nsIn K mainGlobals "parts_of" = some (some (.ref f23))) (l23 : K.lookup f23 = some ⟨oc23, od23, .func (PySem.W.fnOf "parts_of" "parts_of" (defArgs s_parts_of) (defBody s_parts_of) (defScope s_parts_of) .none kV23 dc23 pm23 an23 cd23 ct23), sl23⟩) (c23 : PySem.W.codeIn K cd23 "parts_of" = true) (k23 : PySem.W.keepIn K (.ref f23) = true)
    (a24 : PySem.W.nsIn K mainGlobals "wave" = some (some (.ref f24))) (l24 : K.lookup f24 = some ⟨oc24, od24, .func (PySem.W.fnOf "wave" "wave" (defArgs s_wave) (defBody s_wave) (defScope s_wave) .none kV24 dc24 pm24 an24 cd24 ct24), sl24⟩) (c24 : PySem.W.codeIn K cd24 "wave" = true) (k24 : PySem.W.keepIn K (.ref f24) = true)
    (a25 : PySem.W.nsIn K mainGlobals "moved" = some (some (.ref f25))) (l25 : K.lookup f25 = some ⟨oc25, od25, .func (PySem.W.fnOf "moved" "moved" (defArgs s_moved) (defBody s_moved) (defScope s_moved) .none kV25 dc25 pm25 an25 cd25 ct25), sl25⟩) (c25 : PySem.W.codeIn K cd25 "moved" = true) (k25 : PySem.W.keepIn K (.ref f25) = true)
    (a26 : PySem.W.nsIn K mainGlobals "turned" = some (some (.ref f26))) (l26 : K.lookup f26 = some ⟨oc26, od26, .func (PySem.W.fnOf "turned" "turned" (defArgs s_turned) (defBody s_turned) (defScope s_turned) .none kV26 dc26 pm26 an26 cd26 ct26), sl26⟩) (c26 : PySem.W.codeIn K cd26 "turned" = true) (k26 : PySem.W.keepIn K (.ref f26) = true)
    (a27 : PySem.W.nsIn K mainGlobals "_law_well" = some (some (.ref f27))) (l27 : K.lookup f27 = some ⟨oc27, od27, .func (PySem.W.fnOf "_law_well" "_law_well" (defArgs s__law_well) (defBody s__law_well) (defScope s__law_well) .none kV27 dc27 pm27 an27 cd27 ct27), sl27⟩) (c27 : PySem.W.codeIn K cd27 "_law_well" = true) (k27 : PySem.W.keepIn K (.ref f27) = true)
    (a28 : PySem.W.nsIn K mainGlobals "_law_next" = some (some (.ref f28))) (l28 : K.lookup f28 = some ⟨oc28, od28, .func (PySem.W.fnOf "_law_next" "_law_next" (defArgs s__law_next) (defBody s__law_next) (defScope s__law_next) .none kV28 dc28 pm28 an28 cd28 ct28), sl28⟩) (c28 : PySem.W.codeIn K cd28 "_law_next" = true) (k28 : PySem.W.keepIn K (.ref f28) = true)
    (a29 : PySem.W.nsIn K mainGlobals "_law_pick" = some (some (.ref f29))) (l29 : K.lookup f29 = some ⟨oc29, od29, .func (PySem.W.fnOf "_law_pick" "_law_pick" (defArgs s__law_pick) (defBody s__law_pick) (defScope s__law_pick) .none kV29 dc29 pm29 an29 cd29 ct29), sl29⟩) (c29 : PySem.W.codeIn K cd29 "_law_pick" = true) (k29 : PySem.W.keepIn K (.ref f29) = true)
    (a30 : PySem.W.nsIn K mainGlobals "_law_size" = some (some (.ref f30))) (l30 : K.lookup f30 = some ⟨oc30, od30, .func (PySem.W.fnOf "_law_size" "_law_size" (defArgs s__law_size) (defBody s__law_size) (defScope s__law_size) .none kV30 dc30 pm30 an30 cd30 ct30), sl30⟩) (c30 : PySem.W.codeIn K cd30 "_law_size" = true) (k30 : PySem.W.keepIn K (.ref f30) = true)
    (a31 : PySem.W.nsIn K mainGlobals "_law_gcd" = some (some (.ref f31))) (l31 : K.lookup f31 = some ⟨oc31, od31, .func (PySem.W.fnOf "_law_gcd" "_law_gcd" (defArgs s__law_gcd) (defBody s__law_gcd) (defScope s__law_gcd) .none kV31 dc31 pm31 an31 cd31 ct31), sl31⟩) (c31 : PySem.W.codeIn K cd31 "_law_gcd" = true) (k31 : PySem.W.keepIn K (.ref f31) = true)
    (a32 : PySem.W.nsIn K mainGlobals "_law_fraction" = some (some (.ref f32))) (l32 : K.lookup f32 = some ⟨oc32, od32, .func (PySem.W.fnOf "_law_fraction" "_law_fraction" (defArgs s__law_fraction) (defBody s__law_fraction) (defScope s__law_fraction) .none kV32 dc32 pm32 an32 cd32 ct32), sl32⟩) (c32 : PySem.W.codeIn K cd32 "_law_fraction" = true) (k32 : PySem.W.keepIn K (.ref f32) = true)
    (a33 : PySem.W.nsIn K mainGlobals "_law_number" = some (some (.ref f33))) (l33 : K.lookup f33 = some ⟨oc33, od33, .func (PySem.W.fnOf "_law_number" "_law_number" (defArgs s__law_number) (defBody s__law_number) (defScope s__law_number) .none kV33 dc33 pm33 an33 cd33 ct33), sl33⟩) (c33 : PySem.W.codeIn K cd33 "_law_number" = true) (k33 : PySem.W.keepIn K (.ref f33) = true)
    (a34 : PySem.W.nsIn K mainGlobals "_law_told" = some (some (.ref f34))) (l34 : K.lookup f34 = some ⟨oc34, od34, .func (PySem.W.fnOf "_law_told" "_law_told" (defArgs s__law_told) (defBody s__law_told) (defScope s__law_told) .none kV34 dc34 pm34 an34 cd34 ct34), sl34⟩) (c34 : PySem.W.codeIn K cd34 "_law_told" = true) (k34 : PySem.W.keepIn K (.ref f34) = true)
    (a35 : PySem.W.nsIn K mainGlobals "_law_ring" = some (some (.ref f35))) (l35 : K.lookup f35 = some ⟨oc35, od35, .func (PySem.W.fnOf "_law_ring" "_law_ring" (defArgs s__law_ring) (defBody s__law_ring) (defScope s__law_ring) .none kV35 dc35 pm35 an35 cd35 ct35), sl35⟩) (c35 : PySem.W.codeIn K cd35 "_law_ring" = true) (k35 : PySem.W.keepIn K (.ref f35) = true)
    (a36 : PySem.W.nsIn K mainGlobals "_law_lowered" = some (some (.ref f36))) (l36 : K.lookup f36 = some ⟨oc36, od36, .func (PySem.W.fnOf "_law_lowered" "_law_lowered" (defArgs s__law_lowered) (defBody s__law_lowered) (defScope s__law_lowered) .none kV36 dc36 pm36 an36 cd36 ct36), sl36⟩) (c36 : PySem.W.codeIn K cd36 "_law_lowered" = true) (k36 : PySem.W.keepIn K (.ref f36) = true)
    (a37 : PySem.W.nsIn K mainGlobals "_law_sum" = some (some (.ref f37))) (l37 : K.lookup f37 = some ⟨oc37, od37, .func (PySem.W.fnOf "_law_sum" "_law_sum" (defArgs s__law_sum) (defBody s__law_sum) (defScope s__law_sum) .none kV37 dc37 pm37 an37 cd37 ct37), sl37⟩) (c37 : PySem.W.codeIn K cd37 "_law_sum" = true) (k37 : PySem.W.keepIn K (.ref f37) = true)
    (a38 : PySem.W.nsIn K mainGlobals "_law_times" = some (some (.ref f38))) (l38 : K.lookup f38 = some ⟨oc38, od38, .func (PySem.W.fnOf "_law_times" "_law_times" (defArgs s__law_times) (defBody s__law_times) (defScope s__law_times) .none kV38 dc38 pm38 an38 cd38 ct38), sl38⟩) (c38 : PySem.W.codeIn K cd38 "_law_times" = true) (k38 : PySem.W.keepIn K (.ref f38) = true)
    (a39 : PySem.W.nsIn K mainGlobals "_law_some" = some (some (.ref f39))) (l39 : K.lookup f39 = some ⟨oc39, od39, .func (PySem.W.fnOf "_law_some" "_law_some" (defArgs s__law_some) (defBody s__law_some) (defScope s__law_some) .none kV39 dc39 pm39 an39 cd39 ct39), sl39⟩) (c39 : PySem.W.codeIn K cd39 "_law_some" = true) (k39 : PySem.W.keepIn K (.ref f39) = true)
    (a40 : PySem.W.nsIn K mainGlobals "_law_rows" = some (some (.ref f40))) (l40 : K.lookup f40 = some ⟨oc40, od40, .func (PySem.W.fnOf "_law_rows" "_law_rows" (defArgs s__law_rows) (defBody s__law_rows) (defScope s__law_rows) .none kV40 dc40 pm40 an40 cd40 ct40), sl40⟩) (c40 : PySem.W.codeIn K cd40 "_law_rows" = true) (k40 : PySem.W.keepIn K (.ref f40) = true)
    (a41 : PySem.W.nsIn K mainGlobals "_law_right" = some (some (.ref f41))) (l41 : K.lookup f41 = some ⟨oc41, od41, .func (PySem.W.fnOf "_law_right" "_law_right" (defArgs s__law_right) (defBody s__law_right) (defScope s__law_right) .none kV41 dc41 pm41 an41 cd41 ct41), sl41⟩) (c41 : PySem.W.codeIn K cd41 "_law_right" = true) (k41 : PySem.W.keepIn K (.ref f41) = true)
    (a42 : PySem.W.nsIn K mainGlobals "law" = some (some (.ref f42))) (l42 : K.lookup f42 = some ⟨oc42, od42, .func (PySem.W.fnOf "law" "law" (defArgs s_law) (defBody s_law) (defScope s_law) .none kV42 dc42 pm42 an42 cd42 ct42), sl42⟩) (c42 : PySem.W.codeIn K cd42 "law" = true) (k42 : PySem.W.keepIn K (.ref f42) = true)
    (h_gcd : PySem.W.nsIn K mainGlobals "gcd" = some (some (.builtin "math.gcd")))
    (h_lcm : PySem.W.nsIn K mainGlobals "lcm" = some (some (.builtin "math.lcm")))
    (z_abs : PySem.W.nsIn K mainGlobals "abs" = some none)
    (z_all : PySem.W.nsIn K mainGlobals "all" = some none)
    (z_divmod : PySem.W.nsIn K mainGlobals "divmod" = some none)
    (z_enumerate : PySem.W.nsIn K mainGlobals "enumerate" = some none)
    (z_int : PySem.W.nsIn K mainGlobals "int" = some none)
    (z_len : PySem.W.nsIn K mainGlobals "len" = some none)
    (z_list : PySem.W.nsIn K mainGlobals "list" = some none)
    (z_max : PySem.W.nsIn K mainGlobals "max" = some none)
    (z_min : PySem.W.nsIn K mainGlobals "min" = some none)
    (z_range : PySem.W.nsIn K mainGlobals "range" = some none)
    (z_repr : PySem.W.nsIn K mainGlobals "repr" = some none)
    (z_sum : PySem.W.nsIn K mainGlobals "sum" = some none)
    (z_tuple : PySem.W.nsIn K mainGlobals "tuple" = some none)
    (z_type : PySem.W.nsIn K mainGlobals "type" = some none)
    (z_zip : PySem.W.nsIn K mainGlobals "zip" = some none)
    (c_GREATEST_SIZE : PySem.W.nsIn K mainGlobals "GREATEST_SIZE" = some (some (.int 12 tk_GREATEST_SIZE)))
    (c_LEAST_SIZE : PySem.W.nsIn K mainGlobals "LEAST_SIZE" = some (some (.int 2 tk_LEAST_SIZE)))
    (m_ROUND_POLYNOMIALS : PySem.W.nsIn K mainGlobals "ROUND_POLYNOMIALS" = some (some (.ref g_ROUND_POLYNOMIALS)))
    (d_ROUND_POLYNOMIALS : K.lookup g_ROUND_POLYNOMIALS = some ⟨.type "dict", none, .dict #[⟨hashInt 2, .int 2 t_ROUND_POLYNOMIALS_0, .ref r_ROUND_POLYNOMIALS_0⟩, ⟨hashInt 3, .int 3 t_ROUND_POLYNOMIALS_1, .ref r_ROUND_POLYNOMIALS_1⟩, ⟨hashInt 4, .int 4 t_ROUND_POLYNOMIALS_2, .ref r_ROUND_POLYNOMIALS_2⟩, ⟨hashInt 5, .int 5 t_ROUND_POLYNOMIALS_3, .ref r_ROUND_POLYNOMIALS_3⟩, ⟨hashInt 6, .int 6 t_ROUND_POLYNOMIALS_4, .ref r_ROUND_POLYNOMIALS_4⟩, ⟨hashInt 7, .int 7 t_ROUND_POLYNOMIALS_5, .ref r_ROUND_POLYNOMIALS_5⟩, ⟨hashInt 8, .int 8 t_ROUND_POLYNOMIALS_6, .ref r_ROUND_POLYNOMIALS_6⟩, ⟨hashInt 9, .int 9 t_ROUND_POLYNOMIALS_7, .ref r_ROUND_POLYNOMIALS_7⟩, ⟨hashInt 10, .int 10 t_ROUND_POLYNOMIALS_8, .ref r_ROUND_POLYNOMIALS_8⟩, ⟨hashInt 11, .int 11 t_ROUND_POLYNOMIALS_9, .ref r_ROUND_POLYNOMIALS_9⟩, ⟨hashInt 12, .int 12 t_ROUND_POLYNOMIALS_10, .ref r_ROUND_POLYNOMIALS_10⟩] n_ROUND_POLYNOMIALS, #[]⟩)
    (e_ROUND_POLYNOMIALS_0 : K.lookup r_ROUND_POLYNOMIALS_0 = some ⟨.type "tuple", o_ROUND_POLYNOMIALS_0, .seq #[.int (1) u_ROUND_POLYNOMIALS_0_0, .int (1) u_ROUND_POLYNOMIALS_0_1] m_ROUND_POLYNOMIALS_0, sl_ROUND_POLYNOMIALS_0⟩)
    (e_ROUND_POLYNOMIALS_1 : K.lookup r_ROUND_POLYNOMIALS_1 = some ⟨.type "tuple", o_ROUND_POLYNOMIALS_1, .seq #[.int (1) u_ROUND_POLYNOMIALS_1_0, .int (1) u_ROUND_POLYNOMIALS_1_1, .int (1) u_ROUND_POLYNOMIALS_1_2] m_ROUND_POLYNOMIALS_1, sl_ROUND_POLYNOMIALS_1⟩)
    (e_ROUND_POLYNOMIALS_2 : K.lookup r_ROUND_POLYNOMIALS_2 = some ⟨.type "tuple", o_ROUND_POLYNOMIALS_2, .seq #[.int (1) u_ROUND_POLYNOMIALS_2_0, .int (0) u_ROUND_POLYNOMIALS_2_1, .int (1) u_ROUND_POLYNOMIALS_2_2] m_ROUND_POLYNOMIALS_2, sl_ROUND_POLYNOMIALS_2⟩)
    (e_ROUND_POLYNOMIALS_3 : K.lookup r_ROUND_POLYNOMIALS_3 = some ⟨.type "tuple", o_ROUND_POLYNOMIALS_3, .seq #[.int (1) u_ROUND_POLYNOMIALS_3_0, .int (1) u_ROUND_POLYNOMIALS_3_1, .int (1) u_ROUND_POLYNOMIALS_3_2, .int (1) u_ROUND_POLYNOMIALS_3_3, .int (1) u_ROUND_POLYNOMIALS_3_4] m_ROUND_POLYNOMIALS_3, sl_ROUND_POLYNOMIALS_3⟩)
    (e_ROUND_POLYNOMIALS_4 : K.lookup r_ROUND_POLYNOMIALS_4 = some ⟨.type "tuple", o_ROUND_POLYNOMIALS_4, .seq #[.int (1) u_ROUND_POLYNOMIALS_4_0, .int (-1) u_ROUND_POLYNOMIALS_4_1, .int (1) u_ROUND_POLYNOMIALS_4_2] m_ROUND_POLYNOMIALS_4, sl_ROUND_POLYNOMIALS_4⟩)
    (e_ROUND_POLYNOMIALS_5 : K.lookup r_ROUND_POLYNOMIALS_5 = some ⟨.type "tuple", o_ROUND_POLYNOMIALS_5, .seq #[.int (1) u_ROUND_POLYNOMIALS_5_0, .int (1) u_ROUND_POLYNOMIALS_5_1, .int (1) u_ROUND_POLYNOMIALS_5_2, .int (1) u_ROUND_POLYNOMIALS_5_3, .int (1) u_ROUND_POLYNOMIALS_5_4, .int (1) u_ROUND_POLYNOMIALS_5_5, .int (1) u_ROUND_POLYNOMIALS_5_6] m_ROUND_POLYNOMIALS_5, sl_ROUND_POLYNOMIALS_5⟩)
    (e_ROUND_POLYNOMIALS_6 : K.lookup r_ROUND_POLYNOMIALS_6 = some ⟨.type "tuple", o_ROUND_POLYNOMIALS_6, .seq #[.int (1) u_ROUND_POLYNOMIALS_6_0, .int (0) u_ROUND_POLYNOMIALS_6_1, .int (0) u_ROUND_POLYNOMIALS_6_2, .int (0) u_ROUND_POLYNOMIALS_6_3, .int (1) u_ROUND_POLYNOMIALS_6_4] m_ROUND_POLYNOMIALS_6, sl_ROUND_POLYNOMIALS_6⟩)
    (e_ROUND_POLYNOMIALS_7 : K.lookup r_ROUND_POLYNOMIALS_7 = some ⟨.type "tuple", o_ROUND_POLYNOMIALS_7, .seq #[.int (1) u_ROUND_POLYNOMIALS_7_0, .int (0) u_ROUND_POLYNOMIALS_7_1, .int (0) u_ROUND_POLYNOMIALS_7_2, .int (1) u_ROUND_POLYNOMIALS_7_3, .int (0) u_ROUND_POLYNOMIALS_7_4, .int (0) u_ROUND_POLYNOMIALS_7_5, .int (1) u_ROUND_POLYNOMIALS_7_6] m_ROUND_POLYNOMIALS_7, sl_ROUND_POLYNOMIALS_7⟩)
    (e_ROUND_POLYNOMIALS_8 : K.lookup r_ROUND_POLYNOMIALS_8 = some ⟨.type "tuple", o_ROUND_POLYNOMIALS_8, .seq #[.int (1) u_ROUND_POLYNOMIALS_8_0, .int (-1) u_ROUND_POLYNOMIALS_8_1, .int (1) u_ROUND_POLYNOMIALS_8_2, .int (-1) u_ROUND_POLYNOMIALS_8_3, .int (1) u_ROUND_POLYNOMIALS_8_4] m_ROUND_POLYNOMIALS_8, sl_ROUND_POLYNOMIALS_8⟩)
    (e_ROUND_POLYNOMIALS_9 : K.lookup r_ROUND_POLYNOMIALS_9 = some ⟨.type "tuple", o_ROUND_POLYNOMIALS_9, .seq #[.int (1) u_ROUND_POLYNOMIALS_9_0, .int (1) u_ROUND_POLYNOMIALS_9_1, .int (1) u_ROUND_POLYNOMIALS_9_2, .int (1) u_ROUND_POLYNOMIALS_9_3, .int (1) u_ROUND_POLYNOMIALS_9_4, .int (1) u_ROUND_POLYNOMIALS_9_5, .int (1) u_ROUND_POLYNOMIALS_9_6, .int (1) u_ROUND_POLYNOMIALS_9_7, .int (1) u_ROUND_POLYNOMIALS_9_8, .int (1) u_ROUND_POLYNOMIALS_9_9, .int (1) u_ROUND_POLYNOMIALS_9_10] m_ROUND_POLYNOMIALS_9, sl_ROUND_POLYNOMIALS_9⟩)
    (e_ROUND_POLYNOMIALS_10 : K.lookup r_ROUND_POLYNOMIALS_10 = some ⟨.type "tuple", o_ROUND_POLYNOMIALS_10, .seq #[.int (1) u_ROUND_POLYNOMIALS_10_0, .int (0) u_ROUND_POLYNOMIALS_10_1, .int (-1) u_ROUND_POLYNOMIALS_10_2, .int (0) u_ROUND_POLYNOMIALS_10_3, .int (1) u_ROUND_POLYNOMIALS_10_4] m_ROUND_POLYNOMIALS_10, sl_ROUND_POLYNOMIALS_10⟩) :
    ∃ fd : FuncData, (∀ (s : Shared) (v : Value), BindsTo s fd ⟨[v], []⟩ [("script", v)]) ∧ ∀ base : Heap, K.In base → base.Ns mainGlobals mg → FnG l.prog w K mg base CX0 12 fa fd ["script"] (spV K 1 fn_law) := by
  have e : f42 = fa := by have e := hfa.symm.trans (PySem.W.mg_of X G a42); cases e; rfl
  subst e
  let T : Txt K mg := {
    f_fraction_of := f0,
    fd_fraction_of := PySem.W.fnOf "fraction_of" "fraction_of" (defArgs s_fraction_of) (defBody s_fraction_of) (defScope s_fraction_of) .none kV0 dc0 pm0 an0 cd0 ct0,
    F_fraction_of := (fun_mk (st := s_fraction_of) l0 c0 k0),
    b_fraction_of := (fun_mk (st := s_fraction_of) l0 c0 k0).binds (ps := p_fraction_of) fun _ _ _ _ _ _ us hl => match us, hl with | [_, _], _ => rfl,
    m_fraction_of := PySem.W.mg_of X G a0,
    f_number_of := f1,
    fd_number_of := PySem.W.fnOf "number_of" "number_of" (defArgs s_number_of) (defBody s_number_of) (defScope s_number_of) .none kV1 dc1 pm1 an1 cd1 ct1,
    F_number_of := (fun_mk (st := s_number_of) l1 c1 k1),
    b_number_of := (fun_mk (st := s_number_of) l1 c1 k1).binds (ps := p_number_of) fun _ _ _ _ _ _ us hl => match us, hl with | [_, _], _ => rfl,
    m_number_of := PySem.W.mg_of X G a1,
    f_whole_row := f2,
    fd_whole_row := PySem.W.fnOf "whole_row" "whole_row" (defArgs s_whole_row) (defBody s_whole_row) (defScope s_whole_row) .none kV2 dc2 pm2 an2 cd2 ct2,
    F_whole_row := (fun_mk (st := s_whole_row) l2 c2 k2),
    b_whole_row := (fun_mk (st := s_whole_row) l2 c2 k2).binds (ps := p_whole_row) fun _ _ _ _ _ _ us hl => match us, hl with | [_], _ => rfl,
    m_whole_row := PySem.W.mg_of X G a2,
    f_whole_over := f3,
    fd_whole_over := PySem.W.fnOf "whole_over" "whole_over" (defArgs s_whole_over) (defBody s_whole_over) (defScope s_whole_over) .none kV3 dc3 pm3 an3 cd3 ct3,
    F_whole_over := (fun_mk (st := s_whole_over) l3 c3 k3),
    b_whole_over := (fun_mk (st := s_whole_over) l3 c3 k3).binds (ps := p_whole_over) fun _ _ _ _ _ _ us hl => match us, hl with | [_], _ => rfl,
    m_whole_over := PySem.W.mg_of X G a3,
    f_rest_by_round := f4,
    fd_rest_by_round := PySem.W.fnOf "rest_by_round" "rest_by_round" (defArgs s_rest_by_round) (defBody s_rest_by_round) (defScope s_rest_by_round) .none kV4 dc4 pm4 an4 cd4 ct4,
    F_rest_by_round := (fun_mk (st := s_rest_by_round) l4 c4 k4),
    b_rest_by_round := (fun_mk (st := s_rest_by_round) l4 c4 k4).binds (ps := p_rest_by_round) fun _ _ _ _ _ _ us hl => match us, hl with | [_, _], _ => rfl,
    m_rest_by_round := PySem.W.mg_of X G a4,
    f_times_root := f5,
    fd_times_root := PySem.W.fnOf "times_root" "times_root" (defArgs s_times_root) (defBody s_times_root) (defScope s_times_root) .none kV5 dc5 pm5 an5 cd5 ct5,
    F_times_root := (fun_mk (st := s_times_root) l5 c5 k5),
    b_times_root := (fun_mk (st := s_times_root) l5 c5 k5).binds (ps := p_times_root) fun _ _ _ _ _ _ us hl => match us, hl with | [_, _, _], _ => rfl,
    m_times_root := PySem.W.mg_of X G a5,
    f_whole_root := f6,
    fd_whole_root := PySem.W.fnOf "whole_root" "whole_root" (defArgs s_whole_root) (defBody s_whole_root) (defScope s_whole_root) .none kV6 dc6 pm6 an6 cd6 ct6,
    F_whole_root := (fun_mk (st := s_whole_root) l6 c6 k6),
    b_whole_root := (fun_mk (st := s_whole_root) l6 c6 k6).binds (ps := p_whole_root) fun _ _ _ _ _ _ us hl => match us, hl with | [_, _], _ => rfl,
    m_whole_root := PySem.W.mg_of X G a6,
    f_product_of := f7,
    fd_product_of := PySem.W.fnOf "product_of" "product_of" (defArgs s_product_of) (defBody s_product_of) (defScope s_product_of) .none kV7 dc7 pm7 an7 cd7 ct7,
    F_product_of := (fun_mk (st := s_product_of) l7 c7 k7),
    b_product_of := (fun_mk (st := s_product_of) l7 c7 k7).binds (ps := p_product_of) fun _ _ _ _ _ _ us hl => match us, hl with | [_, _, _], _ => rfl,
    m_product_of := PySem.W.mg_of X G a7,
    f_sums_of_turns := f8,
    fd_sums_of_turns := PySem.W.fnOf "sums_of_turns" "sums_of_turns" (defArgs s_sums_of_turns) (defBody s_sums_of_turns) (defScope s_sums_of_turns) .none kV8 dc8 pm8 an8 cd8 ct8,
    F_sums_of_turns := (fun_mk (st := s_sums_of_turns) l8 c8 k8),
    b_sums_of_turns := (fun_mk (st := s_sums_of_turns) l8 c8 k8).binds (ps := p_sums_of_turns) fun _ _ _ _ _ _ us hl => match us, hl with | [_, _, _], _ => rfl,
    m_sums_of_turns := PySem.W.mg_of X G a8,
    f_is_whole_from := f9,
    fd_is_whole_from := PySem.W.fnOf "is_whole_from" "is_whole_from" (defArgs s_is_whole_from) (defBody s_is_whole_from) (defScope s_is_whole_from) .none kV9 dc9 pm9 an9 cd9 ct9,
    F_is_whole_from := (fun_mk (st := s_is_whole_from) l9 c9 k9),
    b_is_whole_from := (fun_mk (st := s_is_whole_from) l9 c9 k9).binds (ps := p_is_whole_from) fun _ _ _ _ _ _ us hl => match us, hl with | [_, _, _], _ => rfl,
    m_is_whole_from := PySem.W.mg_of X G a9,
    f_is_size := f10,
    fd_is_size := PySem.W.fnOf "is_size" "is_size" (defArgs s_is_size) (defBody s_is_size) (defScope s_is_size) .none kV10 dc10 pm10 an10 cd10 ct10,
    F_is_size := (fun_mk (st := s_is_size) l10 c10 k10),
    b_is_size := (fun_mk (st := s_is_size) l10 c10 k10).binds (ps := p_is_size) fun _ _ _ _ _ _ us hl => match us, hl with | [_], _ => rfl,
    m_is_size := PySem.W.mg_of X G a10,
    f_check_size := f11,
    fd_check_size := PySem.W.fnOf "check_size" "check_size" (defArgs s_check_size) (defBody s_check_size) (defScope s_check_size) .none kV11 dc11 pm11 an11 cd11 ct11,
    F_check_size := (fun_mk (st := s_check_size) l11 c11 k11),
    b_check_size := (fun_mk (st := s_check_size) l11 c11 k11).binds (ps := p_check_size) fun _ _ _ _ _ _ us hl => match us, hl with | [_], _ => rfl,
    m_check_size := PySem.W.mg_of X G a11,
    f_check_index := f12,
    fd_check_index := PySem.W.fnOf "check_index" "check_index" (defArgs s_check_index) (defBody s_check_index) (defScope s_check_index) .none kV12 dc12 pm12 an12 cd12 ct12,
    F_check_index := (fun_mk (st := s_check_index) l12 c12 k12),
    b_check_index := (fun_mk (st := s_check_index) l12 c12 k12).binds (ps := p_check_index) fun _ _ _ _ _ _ us hl => match us, hl with | [_, _], _ => rfl,
    m_check_index := PySem.W.mg_of X G a12,
    f_round_polynomial := f13,
    fd_round_polynomial := PySem.W.fnOf "round_polynomial" "round_polynomial" (defArgs s_round_polynomial) (defBody s_round_polynomial) (defScope s_round_polynomial) .none kV13 dc13 pm13 an13 cd13 ct13,
    F_round_polynomial := (fun_mk (st := s_round_polynomial) l13 c13 k13),
    b_round_polynomial := (fun_mk (st := s_round_polynomial) l13 c13 k13).binds (ps := p_round_polynomial) fun _ _ _ _ _ _ us hl => match us, hl with | [_], _ => rfl,
    m_round_polynomial := PySem.W.mg_of X G a13,
    f_degree_of := f14,
    fd_degree_of := PySem.W.fnOf "degree_of" "degree_of" (defArgs s_degree_of) (defBody s_degree_of) (defScope s_degree_of) .none kV14 dc14 pm14 an14 cd14 ct14,
    F_degree_of := (fun_mk (st := s_degree_of) l14 c14 k14),
    b_degree_of := (fun_mk (st := s_degree_of) l14 c14 k14).binds (ps := p_degree_of) fun _ _ _ _ _ _ us hl => match us, hl with | [_], _ => rfl,
    m_degree_of := PySem.W.mg_of X G a14,
    f_is_fraction := f15,
    fd_is_fraction := PySem.W.fnOf "is_fraction" "is_fraction" (defArgs s_is_fraction) (defBody s_is_fraction) (defScope s_is_fraction) .none kV15 dc15 pm15 an15 cd15 ct15,
    F_is_fraction := (fun_mk (st := s_is_fraction) l15 c15 k15),
    b_is_fraction := (fun_mk (st := s_is_fraction) l15 c15 k15).binds (ps := p_is_fraction) fun _ _ _ _ _ _ us hl => match us, hl with | [_], _ => rfl,
    m_is_fraction := PySem.W.mg_of X G a15,
    f_is_number := f16,
    fd_is_number := PySem.W.fnOf "is_number" "is_number" (defArgs s_is_number) (defBody s_is_number) (defScope s_is_number) .none kV16 dc16 pm16 an16 cd16 ct16,
    F_is_number := (fun_mk (st := s_is_number) l16 c16 k16),
    b_is_number := (fun_mk (st := s_is_number) l16 c16 k16).binds (ps := p_is_number) fun _ _ _ _ _ _ us hl => match us, hl with | [_, _], _ => rfl,
    m_is_number := PySem.W.mg_of X G a16,
    f_check_number := f17,
    fd_check_number := PySem.W.fnOf "check_number" "check_number" (defArgs s_check_number) (defBody s_check_number) (defScope s_check_number) .none kV17 dc17 pm17 an17 cd17 ct17,
    F_check_number := (fun_mk (st := s_check_number) l17 c17 k17),
    b_check_number := (fun_mk (st := s_check_number) l17 c17 k17).binds (ps := p_check_number) fun _ _ _ _ _ _ us hl => match us, hl with | [_, _], _ => rfl,
    m_check_number := PySem.W.mg_of X G a17,
    f_first_no_number := f18,
    fd_first_no_number := PySem.W.fnOf "first_no_number" "first_no_number" (defArgs s_first_no_number) (defBody s_first_no_number) (defScope s_first_no_number) .none kV18 dc18 pm18 an18 cd18 ct18,
    F_first_no_number := (fun_mk (st := s_first_no_number) l18 c18 k18),
    b_first_no_number := (fun_mk (st := s_first_no_number) l18 c18 k18).binds (ps := p_first_no_number) fun _ _ _ _ _ _ us hl => match us, hl with | [_, _], _ => rfl,
    m_first_no_number := PySem.W.mg_of X G a18,
    f_root := f19,
    fd_root := PySem.W.fnOf "root" "root" (defArgs s_root) (defBody s_root) (defScope s_root) .none kV19 dc19 pm19 an19 cd19 ct19,
    F_root := (fun_mk (st := s_root) l19 c19 k19),
    b_root := (fun_mk (st := s_root) l19 c19 k19).binds (ps := p_root) fun _ _ _ _ _ _ us hl => match us, hl with | [_, _], _ => rfl,
    m_root := PySem.W.mg_of X G a19,
    f_check_two := f20,
    fd_check_two := PySem.W.fnOf "check_two" "check_two" (defArgs s_check_two) (defBody s_check_two) (defScope s_check_two) .none kV20 dc20 pm20 an20 cd20 ct20,
    F_check_two := (fun_mk (st := s_check_two) l20 c20 k20),
    b_check_two := (fun_mk (st := s_check_two) l20 c20 k20).binds (ps := p_check_two) fun _ _ _ _ _ _ us hl => match us, hl with | [_, _, _], _ => rfl,
    m_check_two := PySem.W.mg_of X G a20,
    f_times := f21,
    fd_times := PySem.W.fnOf "times" "times" (defArgs s_times) (defBody s_times) (defScope s_times) .none kV21 dc21 pm21 an21 cd21 ct21,
    F_times := (fun_mk (st := s_times) l21 c21 k21),
    b_times := (fun_mk (st := s_times) l21 c21 k21).binds (ps := p_times) fun _ _ _ _ _ _ us hl => match us, hl with | [_, _, _], _ => rfl,
    m_times := PySem.W.mg_of X G a21,
    f_check_signal := f22,
    fd_check_signal := PySem.W.fnOf "check_signal" "check_signal" (defArgs s_check_signal) (defBody s_check_signal) (defScope s_check_signal) .none kV22 dc22 pm22 an22 cd22 ct22,
    F_check_signal := (fun_mk (st := s_check_signal) l22 c22 k22),
    b_check_signal := (fun_mk (st := s_check_signal) l22 c22 k22).binds (ps := p_check_signal) fun _ _ _ _ _ _ us hl => match us, hl with | [_, _], _ => rfl,
    m_check_signal := PySem.W.mg_of X G a22,
    f_parts_of := f23,
    fd_parts_of := PySem.W.fnOf "parts_of" "parts_of" (defArgs s_parts_of) (defBody s_parts_of) (defScope s_parts_of) .none kV23 dc23 pm23 an23 cd23 ct23,
    F_parts_of := (fun_mk (st := s_parts_of) l23 c23 k23),
    b_parts_of := (fun_mk (st := s_parts_of) l23 c23 k23).binds (ps := p_parts_of) fun _ _ _ _ _ _ us hl => match us, hl with | [_, _], _ => rfl,
    m_parts_of := PySem.W.mg_of X G a23,
    f_wave := f24,
    fd_wave := PySem.W.fnOf "wave" "wave" (defArgs s_wave) (defBody s_wave) (defScope s_wave) .none kV24 dc24 pm24 an24 cd24 ct24,
    F_wave := (fun_mk (st := s_wave) l24 c24 k24),
    b_wave := (fun_mk (st := s_wave) l24 c24 k24).binds (ps := p_wave) fun _ _ _ _ _ _ us hl => match us, hl with | [_, _], _ => rfl,
    m_wave := PySem.W.mg_of X G a24,
    f_moved := f25,
    fd_moved := PySem.W.fnOf "moved" "moved" (defArgs s_moved) (defBody s_moved) (defScope s_moved) .none kV25 dc25 pm25 an25 cd25 ct25,
    F_moved := (fun_mk (st := s_moved) l25 c25 k25),
    b_moved := (fun_mk (st := s_moved) l25 c25 k25).binds (ps := p_moved) fun _ _ _ _ _ _ us hl => match us, hl with | [_, _, _], _ => rfl,
    m_moved := PySem.W.mg_of X G a25,
    f_turned := f26,
    fd_turned := PySem.W.fnOf "turned" "turned" (defArgs s_turned) (defBody s_turned) (defScope s_turned) .none kV26 dc26 pm26 an26 cd26 ct26,
    F_turned := (fun_mk (st := s_turned) l26 c26 k26),
    b_turned := (fun_mk (st := s_turned) l26 c26 k26).binds (ps := p_turned) fun _ _ _ _ _ _ us hl => match us, hl with | [_, _, _], _ => rfl,
    m_turned := PySem.W.mg_of X G a26,
    f__law_well := f27,
    fd__law_well := PySem.W.fnOf "_law_well" "_law_well" (defArgs s__law_well) (defBody s__law_well) (defScope s__law_well) .none kV27 dc27 pm27 an27 cd27 ct27,
    F__law_well := (fun_mk (st := s__law_well) l27 c27 k27),
    b__law_well := (fun_mk (st := s__law_well) l27 c27 k27).binds (ps := p__law_well) fun _ _ _ _ _ _ us hl => match us, hl with | [_, _], _ => rfl,
    m__law_well := PySem.W.mg_of X G a27,
    f__law_next := f28,
    fd__law_next := PySem.W.fnOf "_law_next" "_law_next" (defArgs s__law_next) (defBody s__law_next) (defScope s__law_next) .none kV28 dc28 pm28 an28 cd28 ct28,
    F__law_next := (fun_mk (st := s__law_next) l28 c28 k28),
    b__law_next := (fun_mk (st := s__law_next) l28 c28 k28).binds (ps := p__law_next) fun _ _ _ _ _ _ us hl => match us, hl with | [_, _], _ => rfl,
    m__law_next := PySem.W.mg_of X G a28,
    f__law_pick := f29,
    fd__law_pick := PySem.W.fnOf "_law_pick" "_law_pick" (defArgs s__law_pick) (defBody s__law_pick) (defScope s__law_pick) .none kV29 dc29 pm29 an29 cd29 ct29,
    F__law_pick := (fun_mk (st := s__law_pick) l29 c29 k29),
    b__law_pick := (fun_mk (st := s__law_pick) l29 c29 k29).binds (ps := p__law_pick) fun _ _ _ _ _ _ us hl => match us, hl with | [_, _], _ => rfl,
    m__law_pick := PySem.W.mg_of X G a29,
    f__law_size := f30,
    fd__law_size := PySem.W.fnOf "_law_size" "_law_size" (defArgs s__law_size) (defBody s__law_size) (defScope s__law_size) .none kV30 dc30 pm30 an30 cd30 ct30,
    F__law_size := (fun_mk (st := s__law_size) l30 c30 k30),
    b__law_size := (fun_mk (st := s__law_size) l30 c30 k30).binds (ps := p__law_size) fun _ _ _ _ _ _ us hl => match us, hl with | [_, _], _ => rfl,
    m__law_size := PySem.W.mg_of X G a30,
    f__law_gcd := f31,
    fd__law_gcd := PySem.W.fnOf "_law_gcd" "_law_gcd" (defArgs s__law_gcd) (defBody s__law_gcd) (defScope s__law_gcd) .none kV31 dc31 pm31 an31 cd31 ct31,
    F__law_gcd := (fun_mk (st := s__law_gcd) l31 c31 k31),
    b__law_gcd := (fun_mk (st := s__law_gcd) l31 c31 k31).binds (ps := p__law_gcd) fun _ _ _ _ _ _ us hl => match us, hl with | [_, _], _ => rfl,
    m__law_gcd := PySem.W.mg_of X G a31,
    f__law_fraction := f32,
    fd__law_fraction := PySem.W.fnOf "_law_fraction" "_law_fraction" (defArgs s__law_fraction) (defBody s__law_fraction) (defScope s__law_fraction) .none kV32 dc32 pm32 an32 cd32 ct32,
    F__law_fraction := (fun_mk (st := s__law_fraction) l32 c32 k32),
    b__law_fraction := (fun_mk (st := s__law_fraction) l32 c32 k32).binds (ps := p__law_fraction) fun _ _ _ _ _ _ us hl => match us, hl with | [_, _], _ => rfl,
    m__law_fraction := PySem.W.mg_of X G a32,
    f__law_number := f33,
    fd__law_number := PySem.W.fnOf "_law_number" "_law_number" (defArgs s__law_number) (defBody s__law_number) (defScope s__law_number) .none kV33 dc33 pm33 an33 cd33 ct33,
    F__law_number := (fun_mk (st := s__law_number) l33 c33 k33),
    b__law_number := (fun_mk (st := s__law_number) l33 c33 k33).binds (ps := p__law_number) fun _ _ _ _ _ _ us hl => match us, hl with | [_, _], _ => rfl,
    m__law_number := PySem.W.mg_of X G a33,
    f__law_told := f34,
    fd__law_told := PySem.W.fnOf "_law_told" "_law_told" (defArgs s__law_told) (defBody s__law_told) (defScope s__law_told) .none kV34 dc34 pm34 an34 cd34 ct34,
    F__law_told := (fun_mk (st := s__law_told) l34 c34 k34),
    b__law_told := (fun_mk (st := s__law_told) l34 c34 k34).binds (ps := p__law_told) fun _ _ _ _ _ _ us hl => match us, hl with | [_, _], _ => rfl,
    m__law_told := PySem.W.mg_of X G a34,
    f__law_ring := f35,
    fd__law_ring := PySem.W.fnOf "_law_ring" "_law_ring" (defArgs s__law_ring) (defBody s__law_ring) (defScope s__law_ring) .none kV35 dc35 pm35 an35 cd35 ct35,
    F__law_ring := (fun_mk (st := s__law_ring) l35 c35 k35),
    b__law_ring := (fun_mk (st := s__law_ring) l35 c35 k35).binds (ps := p__law_ring) fun _ _ _ _ _ _ us hl => match us, hl with | [_], _ => rfl,
    m__law_ring := PySem.W.mg_of X G a35,
    f__law_lowered := f36,
    fd__law_lowered := PySem.W.fnOf "_law_lowered" "_law_lowered" (defArgs s__law_lowered) (defBody s__law_lowered) (defScope s__law_lowered) .none kV36 dc36 pm36 an36 cd36 ct36,
    F__law_lowered := (fun_mk (st := s__law_lowered) l36 c36 k36),
    b__law_lowered := (fun_mk (st := s__law_lowered) l36 c36 k36).binds (ps := p__law_lowered) fun _ _ _ _ _ _ us hl => match us, hl with | [_, _], _ => rfl,
    m__law_lowered := PySem.W.mg_of X G a36,
    f__law_sum := f37,
    fd__law_sum := PySem.W.fnOf "_law_sum" "_law_sum" (defArgs s__law_sum) (defBody s__law_sum) (defScope s__law_sum) .none kV37 dc37 pm37 an37 cd37 ct37,
    F__law_sum := (fun_mk (st := s__law_sum) l37 c37 k37),
    b__law_sum := (fun_mk (st := s__law_sum) l37 c37 k37).binds (ps := p__law_sum) fun _ _ _ _ _ _ us hl => match us, hl with | [_, _, _], _ => rfl,
    m__law_sum := PySem.W.mg_of X G a37,
    f__law_times := f38,
    fd__law_times := PySem.W.fnOf "_law_times" "_law_times" (defArgs s__law_times) (defBody s__law_times) (defScope s__law_times) .none kV38 dc38 pm38 an38 cd38 ct38,
    F__law_times := (fun_mk (st := s__law_times) l38 c38 k38),
    b__law_times := (fun_mk (st := s__law_times) l38 c38 k38).binds (ps := p__law_times) fun _ _ _ _ _ _ us hl => match us, hl with | [_, _, _], _ => rfl,
    m__law_times := PySem.W.mg_of X G a38,
    f__law_some := f39,
    fd__law_some := PySem.W.fnOf "_law_some" "_law_some" (defArgs s__law_some) (defBody s__law_some) (defScope s__law_some) .none kV39 dc39 pm39 an39 cd39 ct39,
    F__law_some := (fun_mk (st := s__law_some) l39 c39 k39),
    b__law_some := (fun_mk (st := s__law_some) l39 c39 k39).binds (ps := p__law_some) fun _ _ _ _ _ _ us hl => match us, hl with | [_, _], _ => rfl,
    m__law_some := PySem.W.mg_of X G a39,
    f__law_rows := f40,
    fd__law_rows := PySem.W.fnOf "_law_rows" "_law_rows" (defArgs s__law_rows) (defBody s__law_rows) (defScope s__law_rows) .none kV40 dc40 pm40 an40 cd40 ct40,
    F__law_rows := (fun_mk (st := s__law_rows) l40 c40 k40),
    b__law_rows := (fun_mk (st := s__law_rows) l40 c40 k40).binds (ps := p__law_rows) fun _ _ _ _ _ _ us hl => match us, hl with | [_, _], _ => rfl,
    m__law_rows := PySem.W.mg_of X G a40,
    f__law_right := f41,
    fd__law_right := PySem.W.fnOf "_law_right" "_law_right" (defArgs s__law_right) (defBody s__law_right) (defScope s__law_right) .none kV41 dc41 pm41 an41 cd41 ct41,
    F__law_right := (fun_mk (st := s__law_right) l41 c41 k41),
    b__law_right := (fun_mk (st := s__law_right) l41 c41 k41).binds (ps := p__law_right) fun _ _ _ _ _ _ us hl => match us, hl with | [_], _ => rfl,
    m__law_right := PySem.W.mg_of X G a41,
    f_law := f42,
    fd_law := PySem.W.fnOf "law" "law" (defArgs s_law) (defBody s_law) (defScope s_law) .none kV42 dc42 pm42 an42 cd42 ct42,
    F_law := (fun_mk (st := s_law) l42 c42 k42),
    b_law := (fun_mk (st := s_law) l42 c42 k42).binds (ps := p_law) fun _ _ _ _ _ _ us hl => match us, hl with | [_], _ => rfl,
    m_law := PySem.W.mg_of X G a42,
    r_moved_2_1_0 := fun s ws hl => match ws, hl with | [_, _, _], _ => .of_eq rfl,
    r_turned_2_1_0 := fun s ws hl => match ws, hl with | [_, _, _], _ => .of_eq rfl,
    h_gcd := PySem.W.mg_of X G h_gcd,
    h_lcm := PySem.W.mg_of X G h_lcm,
    z_abs := PySem.W.mg_none_of X G z_abs,
    z_all := PySem.W.mg_none_of X G z_all,
    z_divmod := PySem.W.mg_none_of X G z_divmod,
    z_enumerate := PySem.W.mg_none_of X G z_enumerate,
    z_int := PySem.W.mg_none_of X G z_int,
    z_len := PySem.W.mg_none_of X G z_len,
    z_list := PySem.W.mg_none_of X G z_list,
    z_max := PySem.W.mg_none_of X G z_max,
    z_min := PySem.W.mg_none_of X G z_min,
    z_range := PySem.W.mg_none_of X G z_range,
    z_repr := PySem.W.mg_none_of X G z_repr,
    z_sum := PySem.W.mg_none_of X G z_sum,
    z_tuple := PySem.W.mg_none_of X G z_tuple,
    z_type := PySem.W.mg_none_of X G z_type,
    z_zip := PySem.W.mg_none_of X G z_zip,
    c_GREATEST_SIZE := ⟨tk_GREATEST_SIZE, PySem.W.mg_of X G c_GREATEST_SIZE⟩,
    c_LEAST_SIZE := ⟨tk_LEAST_SIZE, PySem.W.mg_of X G c_LEAST_SIZE⟩,
    g_ROUND_POLYNOMIALS := g_ROUND_POLYNOMIALS,
    v_ROUND_POLYNOMIALS := [(2, .ref r_ROUND_POLYNOMIALS_0), (3, .ref r_ROUND_POLYNOMIALS_1), (4, .ref r_ROUND_POLYNOMIALS_2), (5, .ref r_ROUND_POLYNOMIALS_3), (6, .ref r_ROUND_POLYNOMIALS_4), (7, .ref r_ROUND_POLYNOMIALS_5), (8, .ref r_ROUND_POLYNOMIALS_6), (9, .ref r_ROUND_POLYNOMIALS_7), (10, .ref r_ROUND_POLYNOMIALS_8), (11, .ref r_ROUND_POLYNOMIALS_9), (12, .ref r_ROUND_POLYNOMIALS_10)],
    k_ROUND_POLYNOMIALS := ⟨⟨_, _, [(2, t_ROUND_POLYNOMIALS_0, .ref r_ROUND_POLYNOMIALS_0), (3, t_ROUND_POLYNOMIALS_1, .ref r_ROUND_POLYNOMIALS_1), (4, t_ROUND_POLYNOMIALS_2, .ref r_ROUND_POLYNOMIALS_2), (5, t_ROUND_POLYNOMIALS_3, .ref r_ROUND_POLYNOMIALS_3), (6, t_ROUND_POLYNOMIALS_4, .ref r_ROUND_POLYNOMIALS_4), (7, t_ROUND_POLYNOMIALS_5, .ref r_ROUND_POLYNOMIALS_5), (8, t_ROUND_POLYNOMIALS_6, .ref r_ROUND_POLYNOMIALS_6), (9, t_ROUND_POLYNOMIALS_7, .ref r_ROUND_POLYNOMIALS_7), (10, t_ROUND_POLYNOMIALS_8, .ref r_ROUND_POLYNOMIALS_8), (11, t_ROUND_POLYNOMIALS_9, .ref r_ROUND_POLYNOMIALS_9), (12, t_ROUND_POLYNOMIALS_10, .ref r_ROUND_POLYNOMIALS_10)], d_ROUND_POLYNOMIALS, rfl, (.cons ⟨rfl, rfl⟩ (.cons ⟨rfl, rfl⟩ (.cons ⟨rfl, rfl⟩ (.cons ⟨rfl, rfl⟩ (.cons ⟨rfl, rfl⟩ (.cons ⟨rfl, rfl⟩ (.cons ⟨rfl, rfl⟩ (.cons ⟨rfl, rfl⟩ (.cons ⟨rfl, rfl⟩ (.cons ⟨rfl, rfl⟩ (.cons ⟨rfl, rfl⟩ .nil))))))))))), (show ([2, 3, 4, 5, 6, 7, 8, 9, 10, 11, 12] : List Int).Nodup by decide)⟩⟩,
    d_ROUND_POLYNOMIALS := lk_pairs (ds := kd_ROUND_POLYNOMIALS) (.cons ⟨rfl, at_tup (vs := [V.int (1), V.int (1)]) e_ROUND_POLYNOMIALS_0 (.cons ⟨_, rfl⟩ (.cons ⟨_, rfl⟩ .nil)) (show 2 ≤ sizeLine by decide) (fun M => (.cons (.int (1)) (.cons (.int (1)) .nil)))⟩ (.cons ⟨rfl, at_tup (vs := [V.int (1), V.int (1), V.int (1)]) e_ROUND_POLYNOMIALS_1 (.cons ⟨_, rfl⟩ (.cons ⟨_, rfl⟩ (.cons ⟨_, rfl⟩ .nil))) (show 3 ≤ sizeLine by decide) (fun M => (.cons (.int (1)) (.cons (.int (1)) (.cons (.int (1)) .nil))))⟩ (.cons ⟨rfl, at_tup (vs := [V.int (1), V.int (0), V.int (1)]) e_ROUND_POLYNOMIALS_2 (.cons ⟨_, rfl⟩ (.cons ⟨_, rfl⟩ (.cons ⟨_, rfl⟩ .nil))) (show 3 ≤ sizeLine by decide) (fun M => (.cons (.int (1)) (.cons (.int (0)) (.cons (.int (1)) .nil))))⟩ (.cons ⟨rfl, at_tup (vs := [V.int (1), V.int (1), V.int (1), V.int (1), V.int (1)]) e_ROUND_POLYNOMIALS_3 (.cons ⟨_, rfl⟩ (.cons ⟨_, rfl⟩ (.cons ⟨_, rfl⟩ (.cons ⟨_, rfl⟩ (.cons ⟨_, rfl⟩ .nil))))) (show 5 ≤ sizeLine by decide) (fun M => (.cons (.int (1)) (.cons (.int (1)) (.cons (.int (1)) (.cons (.int (1)) (.cons (.int (1)) .nil))))))⟩ (.cons ⟨rfl, at_tup (vs := [V.int (1), V.int (-1), V.int (1)]) e_ROUND_POLYNOMIALS_4 (.cons ⟨_, rfl⟩ (.cons ⟨_, rfl⟩ (.cons ⟨_, rfl⟩ .nil))) (show 3 ≤ sizeLine by decide) (fun M => (.cons (.int (1)) (.cons (.int (-1)) (.cons (.int (1)) .nil))))⟩ (.cons ⟨rfl, at_tup (vs := [V.int (1), V.int (1), V.int (1), V.int (1), V.int (1), V.int (1), V.int (1)]) e_ROUND_POLYNOMIALS_5 (.cons ⟨_, rfl⟩ (.cons ⟨_, rfl⟩ (.cons ⟨_, rfl⟩ (.cons ⟨_, rfl⟩ (.cons ⟨_, rfl⟩ (.cons ⟨_, rfl⟩ (.cons ⟨_, rfl⟩ .nil))))))) (show 7 ≤ sizeLine by decide) (fun M => (.cons (.int (1)) (.cons (.int (1)) (.cons (.int (1)) (.cons (.int (1)) (.cons (.int (1)) (.cons (.int (1)) (.cons (.int (1)) .nil))))))))⟩ (.cons ⟨rfl, at_tup (vs := [V.int (1), V.int (0), V.int (0), V.int (0), V.int (1)]) e_ROUND_POLYNOMIALS_6 (.cons ⟨_, rfl⟩ (.cons ⟨_, rfl⟩ (.cons ⟨_, rfl⟩ (.cons ⟨_, rfl⟩ (.cons ⟨_, rfl⟩ .nil))))) (show 5 ≤ sizeLine by decide) (fun M => (.cons (.int (1)) (.cons (.int (0)) (.cons (.int (0)) (.cons (.int (0)) (.cons (.int (1)) .nil))))))⟩ (.cons ⟨rfl, at_tup (vs := [V.int (1), V.int (0), V.int (0), V.int (1), V.int (0), V.int (0), V.int (1)]) e_ROUND_POLYNOMIALS_7 (.cons ⟨_, rfl⟩ (.cons ⟨_, rfl⟩ (.cons ⟨_, rfl⟩ (.cons ⟨_, rfl⟩ (.cons ⟨_, rfl⟩ (.cons ⟨_, rfl⟩ (.cons ⟨_, rfl⟩ .nil))))))) (show 7 ≤ sizeLine by decide) (fun M => (.cons (.int (1)) (.cons (.int (0)) (.cons (.int (0)) (.cons (.int (1)) (.cons (.int (0)) (.cons (.int (0)) (.cons (.int (1)) .nil))))))))⟩ (.cons ⟨rfl, at_tup (vs := [V.int (1), V.int (-1), V.int (1), V.int (-1), V.int (1)]) e_ROUND_POLYNOMIALS_8 (.cons ⟨_, rfl⟩ (.cons ⟨_, rfl⟩ (.cons ⟨_, rfl⟩ (.cons ⟨_, rfl⟩ (.cons ⟨_, rfl⟩ .nil))))) (show 5 ≤ sizeLine by decide) (fun M => (.cons (.int (1)) (.cons (.int (-1)) (.cons (.int (1)) (.cons (.int (-1)) (.cons (.int (1)) .nil))))))⟩ (.cons ⟨rfl, at_tup (vs := [V.int (1), V.int (1), V.int (1), V.int (1), V.int (1), V.int (1), V.int (1), V.int (1), V.int (1), V.int (1), V.int (1)]) e_ROUND_POLYNOMIALS_9 (.cons ⟨_, rfl⟩ (.cons ⟨_, rfl⟩ (.cons ⟨_, rfl⟩ (.cons ⟨_, rfl⟩ (.cons ⟨_, rfl⟩ (.cons ⟨_, rfl⟩ (.cons ⟨_, rfl⟩ (.cons ⟨_, rfl⟩ (.cons ⟨_, rfl⟩ (.cons ⟨_, rfl⟩ (.cons ⟨_, rfl⟩ .nil))))))))))) (show 11 ≤ sizeLine by decide) (fun M => (.cons (.int (1)) (.cons (.int (1)) (.cons (.int (1)) (.cons (.int (1)) (.cons (.int (1)) (.cons (.int (1)) (.cons (.int (1)) (.cons (.int (1)) (.cons (.int (1)) (.cons (.int (1)) (.cons (.int (1)) .nil))))))))))))⟩ (.cons ⟨rfl, at_tup (vs := [V.int (1), V.int (0), V.int (-1), V.int (0), V.int (1)]) e_ROUND_POLYNOMIALS_10 (.cons ⟨_, rfl⟩ (.cons ⟨_, rfl⟩ (.cons ⟨_, rfl⟩ (.cons ⟨_, rfl⟩ (.cons ⟨_, rfl⟩ .nil))))) (show 5 ≤ sizeLine by decide) (fun M => (.cons (.int (1)) (.cons (.int (0)) (.cons (.int (-1)) (.cons (.int (0)) (.cons (.int (1)) .nil))))))⟩ .nil))))))))))),
    m_ROUND_POLYNOMIALS := PySem.W.mg_of X G m_ROUND_POLYNOMIALS }
  exact ⟨T.fd_law, fun s v => .of_eq rfl, fun base _ _ => ok_law T⟩
end K08
open PyProof.Rows PySem.W PySem
set_option maxHeartbeats 0 in
theorem PySem.Challenge.cw_wavespots_k08_whole_moved_and_turned_holds : PySem.Challenge.rw_wavespots_k08_whole_moved_and_turned.Holds := by
  w_on
  o_law
  k_head
  case hw => w_witness2
  k_fill
  refine Dm.walk_G (l := PySem.Challenge.rw_wavespots_k08_whole_moved_and_turned) (n := 63) (k := 12) (x := "script") rfl (by decide) rfl ⟨rfl, by decide, by decide⟩ (fun w h Y => PySem.W.kIn_of Y) ?F (fun ns _ => K08.law_ok ns)
  case F =>
    intro w mg fa h KX G hmg
    refine' K08.all_mk KX G hmg ?a0 ?l0 ?c0 ?k0 ?a1 ?l1 ?c1 ?k1 ?a2 ?l2 ?c2 ?k2 ?a3 ?l3 ?c3 ?k3 ?a4 ?l4 ?c4 ?k4 ?a5 ?l5 ?c5 ?k5 ?a6 ?l6 ?c6 ?k6 ?a7 ?l7 ?c7 ?k7 ?a8 ?l8 ?c8 ?k8 ?a9 ?l9 ?c9 ?k9 ?a10 ?l10 ?c10 ?k10 ?a11 ?l11 ?c11 ?k11 ?a12 ?l12 ?c12 ?k12 ?a13 ?l13 ?c13 ?k13 ?a14 ?l14 ?c14 ?k14 ?a15 ?l15 ?c15 ?k15 ?a16 ?l16 ?c16 ?k16 ?a17 ?l17 ?c17 ?k17 ?a18 ?l18 ?c18 ?k18 ?a19 ?l19 ?c19 ?k19 ?a20 ?l20 ?c20 ?k20 ?a21 ?l21 ?c21 ?k21 ?a22 ?l22 ?c22 ?k22 ?a23 ?l23 ?c23 ?k23 ?a24 ?l24 ?c24 ?k24 ?a25 ?l25 ?c25 ?k25 ?a26 ?l26 ?c26 ?k26 ?a27 ?l27 ?c27 ?k27 ?a28 ?l28 ?c28 ?k28 ?a29 ?l29 ?c29 ?k29 ?a30 ?l30 ?c30 ?k30 ?a31 ?l31 ?c31 ?k31 ?a32 ?l32 ?c32 ?k32 ?a33 ?l33 ?c33 ?k33 ?a34 ?l34 ?c34 ?k34 ?a35 ?l35 ?c35 ?k35 ?a36 ?l36 ?c36 ?k36 ?a37 ?l37 ?c37 ?k37 ?a38 ?l38 ?c38 ?k38 ?a39 ?l39 ?c39 ?k39 ?a40 ?l40 ?c40 ?k40 ?a41 ?l41 ?c41 ?k41 ?a42 ?l42 ?c42 ?k42 ?h_gcd ?h_lcm ?z_abs ?z_all ?z_divmod ?z_enumerate ?z_int ?z_len ?z_list ?z_max ?z_min ?z_range ?z_repr ?z_sum ?z_tuple ?z_type ?z_zip ?c_GREATEST_SIZE ?c_LEAST_SIZE ?m_ROUND_POLYNOMIALS ?d_ROUND_POLYNOMIALS ?e_ROUND_POLYNOMIALS_0 ?e_ROUND_POLYNOMIALS_1 ?e_ROUND_POLYNOMIALS_2 ?e_ROUND_POLYNOMIALS_3 ?e_ROUND_POLYNOMIALS_4 ?e_ROUND_POLYNOMIALS_5 ?e_ROUND_POLYNOMIALS_6 ?e_ROUND_POLYNOMIALS_7 ?e_ROUND_POLYNOMIALS_8 ?e_ROUND_POLYNOMIALS_9 ?e_ROUND_POLYNOMIALS_10
    (case a0 => k_is)
    (case l0 => k_is)
    (case c0 => k_is)
    (case k0 => k_is)
    (case a1 => k_is)
    (case l1 => k_is)
    (case c1 => k_is)
    (case k1 => k_is)
    (case a2 => k_is)
    (case l2 => k_is)
    (case c2 => k_is)
    (case k2 => k_is)
    (case a3 => k_is)
    (case l3 => k_is)
    (case c3 => k_is)
    (case k3 => k_is)
    (case a4 => k_is)
    (case l4 => k_is)
    (case c4 => k_is)
    (case k4 => k_is)
    (case a5 => k_is)
    (case l5 => k_is)
    (case c5 => k_is)
    (case k5 => k_is)
    (case a6 => k_is)
    (case l6 => k_is)
    (case c6 => k_is)
    (case k6 => k_is)
    (case a7 => k_is)
    (case l7 => k_is)
    (case c7 => k_is)
    (case k7 => k_is)
    (case a8 => k_is)
    (case l8 => k_is)
    (case c8 => k_is)
    (case k8 => k_is)
    (case a9 => k_is)
    (case l9 => k_is)
    (case c9 => k_is)
    (case k9 => k_is)
    (case a10 => k_is)
    (case l10 => k_is)
    (case c10 => k_is)
    (case k10 => k_is)
    (case a11 => k_is)
    (case l11 => k_is)
    (case c11 => k_is)
    (case k11 => k_is)
    (case a12 => k_is)
    (case l12 => k_is)
    (case c12 => k_is)
    (case k12 => k_is)
    (case a13 => k_is)
    (case l13 => k_is)
    (case c13 => k_is)
    (case k13 => k_is)
    (case a14 => k_is)
    (case l14 => k_is)
    (case c14 => k_is)
    (case k14 => k_is)
    (case a15 => k_is)
    (case l15 => k_is)
    (case c15 => k_is)
    (case k15 => k_is)
    (case a16 => k_is)
    (case l16 => k_is)
    (case c16 => k_is)
    (case k16 => k_is)
    (case a17 => k_is)
    (case l17 => k_is)
    (case c17 => k_is)
    (case k17 => k_is)
    (case a18 => k_is)
    (case l18 => k_is)
    (case c18 => k_is)
    (case k18 => k_is)
    (case a19 => k_is)
    (case l19 => k_is)
    (case c19 => k_is)
    (case k19 => k_is)
    (case a20 => k_is)
    (case l20 => k_is)
    (case c20 => k_is)
    (case k20 => k_is)
    (case a21 => k_is)
    (case l21 => k_is)
    (case c21 => k_is)
    (case k21 => k_is)
    (case a22 => k_is)
    (case l22 => k_is)
    (case c22 => k_is)
    (case k22 => k_is)
    (case a23 => k_is)
    (case l23 => k_is)
    (case c23 => k_is)
    (case k23 => k_is)
    (case a24 => k_is)
    (case l24 => k_is)
    (case c24 => k_is)
    (case k24 => k_is)
    (case a25 => k_is)
    (case l25 => k_is)
    (case c25 => k_is)
    (case k25 => k_is)
    (case a26 => k_is)
    (case l26 => k_is)
    (case c26 => k_is)
    (case k26 => k_is)
    (case a27 => k_is)
    (case l27 => k_is)
    (case c27 => k_is)
    (case k27 => k_is)
    (case a28 => k_is)
    (case l28 => k_is)
    (case c28 => k_is)
    (case k28 => k_is)
    (case a29 => k_is)
    (case l29 => k_is)
    (case c29 => k_is)
    (case k29 => k_is)
    (case a30 => k_is)
    (case l30 => k_is)
    (case c30 => k_is)
    (case k30 => k_is)
    (case a31 => k_is)
    (case l31 => k_is)
    (case c31 => k_is)
    (case k31 => k_is)
    (case a32 => k_is)
    (case l32 => k_is)
    (case c32 => k_is)
    (case k32 => k_is)
    (case a33 => k_is)
    (case l33 => k_is)
    (case c33 => k_is)
    (case k33 => k_is)
    (case a34 => k_is)
    (case l34 => k_is)
    (case c34 => k_is)
    (case k34 => k_is)
    (case a35 => k_is)
    (case l35 => k_is)
    (case c35 => k_is)
    (case k35 => k_is)
    (case a36 => k_is)
    (case l36 => k_is)
    (case c36 => k_is)
    (case k36 => k_is)
    (case a37 => k_is)
    (case l37 => k_is)
    (case c37 => k_is)
    (case k37 => k_is)
    (case a38 => k_is)
    (case l38 => k_is)
    (case c38 => k_is)
    (case k38 => k_is)
    (case a39 => k_is)
    (case l39 => k_is)
    (case c39 => k_is)
    (case k39 => k_is)
    (case a40 => k_is)
    (case l40 => k_is)
    (case c40 => k_is)
    (case k40 => k_is)
    (case a41 => k_is)
    (case l41 => k_is)
    (case c41 => k_is)
    (case k41 => k_is)
    (case a42 => k_is)
    (case l42 => k_is)
    (case c42 => k_is)
    (case k42 => k_is)
    (case h_gcd => k_is)
    (case h_lcm => k_is)
    (case z_abs => k_is)
    (case z_all => k_is)
    (case z_divmod => k_is)
    (case z_enumerate => k_is)
    (case z_int => k_is)
    (case z_len => k_is)
    (case z_list => k_is)
    (case z_max => k_is)
    (case z_min => k_is)
    (case z_range => k_is)
    (case z_repr => k_is)
    (case z_sum => k_is)
    (case z_tuple => k_is)
    (case z_type => k_is)
    (case z_zip => k_is)
    (case c_GREATEST_SIZE => k_is)
    (case c_LEAST_SIZE => k_is)
    (case m_ROUND_POLYNOMIALS => k_is)
    (case d_ROUND_POLYNOMIALS => k_is)
    (case e_ROUND_POLYNOMIALS_0 => k_is)
    (case e_ROUND_POLYNOMIALS_1 => k_is)
    (case e_ROUND_POLYNOMIALS_2 => k_is)
    (case e_ROUND_POLYNOMIALS_3 => k_is)
    (case e_ROUND_POLYNOMIALS_4 => k_is)
    (case e_ROUND_POLYNOMIALS_5 => k_is)
    (case e_ROUND_POLYNOMIALS_6 => k_is)
    (case e_ROUND_POLYNOMIALS_7 => k_is)
    (case e_ROUND_POLYNOMIALS_8 => k_is)
    (case e_ROUND_POLYNOMIALS_9 => k_is)
    (case e_ROUND_POLYNOMIALS_10 => k_is)
