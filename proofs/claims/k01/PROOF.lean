import PyProof.Rows.All
import Wide.All
import OpenK.AllK
import Wide.FinOn
import HandS.Base
import HandS.Call
import HandS.List
import HandS.Comp
import HandS.Words
import HandS.WordsList
import HandS.NoneIn
import HandS.Wide
import HandS.WideBits
import HandS.Gcd
import HandS.TupAny
import HandS.Text
import HandS.Deep
import HandS.TupLe
import HandS.Defaults
import HandS.IsInst
import HandS.FStr
import HandS.More
import HandS.Zip
import HandS.Iter
import HandS.Dict
import HandS.Ends
import HandS.Replace
import HandS.MakeKwOnly
import PySem.Challenge.RW_panelworks_k01_words_and_numbers
set_option Elab.async false
set_option linter.all false
set_option maxRecDepth 100000
set_option maxHeartbeats 8000000
/-! Pl: values without addresses, over the hand layer. -/
namespace Pl
open PySem L2

/-- a value without addresses; ref n: the n-th of the store of what changes -/
inductive D where
  | non | bl (b : Bool) | int (i : Int) | str (x : Str) | ty (n : String) | ob (a : Addr)
  | tup (xs : List D) | lst (xs : List D) | lsk (xs : List D) | ref (n : Nat)
/-- what changes -/
inductive MO where
  | dead | lst (xs : List D) | dic (kvs : List (Key × D))
abbrev Mh := List MO
abbrev Env := List (Option D)

section
variable (K : PySem.W.Frag) (B : Hp) (ι : List Addr)
mutual
inductive Rep : V → D → Prop
  | non : Rep .non .non
  | bl (b : Bool) : Rep (.bl b) (.bl b)
  | int (i : Int) : Rep (.int i) (.int i)
  | str (x : Str) : Rep (.str x) (.str x)
  | ty (n : String) : Rep (.ty n) (.ty n)
  | ob (a : Addr) : Rep (.ref a) (.ob a)
  | tup {a : Addr} {vs : List V} {ds : List D} : SqT K B a vs → RepL vs ds → Rep (.ref a) (.tup ds)
  | lst {a : Addr} {vs : List V} {ds : List D} : B a = some (.lst vs) → RepL vs ds → Rep (.ref a) (.lst ds)
  | lsk {a : Addr} {vs : List V} {ds : List D} : SqL K B a vs → RepL vs ds → Rep (.ref a) (.lsk ds)
  | ref {a : Addr} {n : Nat} : ι[n]? = some a → Rep (.ref a) (.ref n)
inductive RepL : List V → List D → Prop
  | nil : RepL [] []
  | cons {v : V} {d : D} {vs : List V} {ds : List D} : Rep v d → RepL vs ds → RepL (v :: vs) (d :: ds)
end
/-- a dict's pairs -/
inductive RepK : List (Key × V) → List (Key × D) → Prop
  | nil : RepK [] []
  | cons {k : Key} {v : V} {d : D} {vs : List (Key × V)} {ds : List (Key × D)} : Rep K B ι v d → RepK vs ds → RepK ((k, v) :: vs) ((k, d) :: ds)
end

theorem sqT_mono {K : PySem.W.Frag} {B B' : Hp} (s : ∀ b o, B b = some o → B' b = some o) {a : Addr} {vs : List V} (h : SqT K B a vs) : SqT K B' a vs := by
  rcases h with h | h
  · refine .inl ?_
    rcases h with h | ⟨o, h⟩
    · exact .inl (s _ _ h)
    · exact .inr ⟨o, s _ _ h⟩
  · exact .inr h
theorem sqL_mono {K : PySem.W.Frag} {B B' : Hp} (s : ∀ b o, B b = some o → B' b = some o) {a : Addr} {vs : List V} (h : SqL K B a vs) : SqL K B' a vs := by
  rcases h with h | h
  · refine .inl ?_
    rcases h with h | ⟨o, h⟩
    · exact .inl (s _ _ h)
    · exact .inr ⟨o, s _ _ h⟩
  · exact .inr h

section
variable {K : PySem.W.Frag} {B B' : Hp} {ι ι' : List Addr}
mutual
theorem Rep.mono (s : ∀ b o, B b = some o → B' b = some o) (p : ∀ (n : Nat) (a : Addr), ι[n]? = some a → ι'[n]? = some a) : ∀ {v : V} {d : D}, Rep K B ι v d → Rep K B' ι' v d
  | _, _, .non => .non
  | _, _, .bl b => .bl b
  | _, _, .int i => .int i
  | _, _, .str x => .str x
  | _, _, .ty n => .ty n
  | _, _, .ob a => .ob a
  | _, _, .tup h r => .tup (sqT_mono s h) (RepL.mono s p r)
  | _, _, .lst h r => .lst (s _ _ h) (RepL.mono s p r)
  | _, _, .lsk h r => .lsk (sqL_mono s h) (RepL.mono s p r)
  | _, _, .ref h => .ref (p _ _ h)
theorem RepL.mono (s : ∀ b o, B b = some o → B' b = some o) (p : ∀ (n : Nat) (a : Addr), ι[n]? = some a → ι'[n]? = some a) : ∀ {vs : List V} {ds : List D}, RepL K B ι vs ds → RepL K B' ι' vs ds
  | _, _, .nil => .nil
  | _, _, .cons h r => .cons (Rep.mono s p h) (RepL.mono s p r)
end
theorem RepK.mono (s : ∀ b o, B b = some o → B' b = some o) (p : ∀ (n : Nat) (a : Addr), ι[n]? = some a → ι'[n]? = some a) : ∀ {vs : List (Key × V)} {ds : List (Key × D)}, RepK K B ι vs ds → RepK K B' ι' vs ds
  | _, _, .nil => .nil
  | _, _, .cons h r => .cons (h.mono s p) (RepK.mono s p r)
theorem RepL.len : ∀ {vs : List V} {ds : List D}, RepL K B ι vs ds → vs.length = ds.length
  | _, _, .nil => rfl
  | _, _, .cons _ r => congrArg (· + 1) r.len
theorem RepL.get : ∀ {vs : List V} {ds : List D} {i : Nat} {d : D}, RepL K B ι vs ds → ds[i]? = some d → ∃ v, vs[i]? = some v ∧ Rep K B ι v d
  | _, _, _, _, .nil, e => by simp at e
  | _, _, 0, _, .cons r _, e => by
    simp at e
    subst e
    exact ⟨_, rfl, r⟩
  | _, _, i + 1, _, .cons _ t, e => by
    obtain ⟨v, h1, h2⟩ := RepL.get (i := i) t (by simpa using e)
    exact ⟨v, by simpa using h1, h2⟩
theorem RepL.getV : ∀ {vs : List V} {ds : List D} {i : Nat} {v : V}, RepL K B ι vs ds → vs[i]? = some v → ∃ d, ds[i]? = some d ∧ Rep K B ι v d
  | _, _, _, _, .nil, e => by simp at e
  | _, _, 0, _, .cons r _, e => by
    simp at e
    subst e
    exact ⟨_, rfl, r⟩
  | _, _, i + 1, _, .cons _ t, e => by
    obtain ⟨v, h1, h2⟩ := RepL.getV (i := i) t (by simpa using e)
    exact ⟨v, by simpa using h1, h2⟩
theorem RepL.append : ∀ {vs ws : List V} {ds es : List D}, RepL K B ι vs ds → RepL K B ι ws es → RepL K B ι (vs ++ ws) (ds ++ es)
  | _, _, _, _, .nil, s => s
  | _, _, _, _, .cons r t, s => .cons r (t.append s)
theorem RepL.take : ∀ {vs : List V} {ds : List D} (n : Nat), RepL K B ι vs ds → RepL K B ι (vs.take n) (ds.take n)
  | _, _, 0, _ => .nil
  | _, _, _ + 1, .nil => .nil
  | _, _, n + 1, .cons r t => .cons r (t.take n)
theorem RepL.drop : ∀ {vs : List V} {ds : List D} (n : Nat), RepL K B ι vs ds → RepL K B ι (vs.drop n) (ds.drop n)
  | _, _, 0, r => r
  | _, _, _ + 1, .nil => .nil
  | _, _, n + 1, .cons _ t => t.drop n
theorem RepL.set {v : V} {d : D} (r : Rep K B ι v d) : ∀ {vs : List V} {ds : List D} (i : Nat), RepL K B ι vs ds → RepL K B ι (vs.set i v) (ds.set i d)
  | _, _, _, .nil => .nil
  | _, _, 0, .cons _ t => .cons r t
  | _, _, i + 1, .cons q t => .cons q (RepL.set r i t)
theorem RepL.reverse : ∀ {vs : List V} {ds : List D}, RepL K B ι vs ds → RepL K B ι vs.reverse ds.reverse
  | _, _, .nil => .nil
  | _, _, .cons r t => by
    rw [List.reverse_cons, List.reverse_cons]
    exact t.reverse.append (.cons r .nil)
end

/-! ### worlds: H all, B what stands for good, ι where the store's things are, P what is another's -/
structure Wd where
  H : Hp
  B : Hp
  ι : List Addr
  P : Hp
/-- alive at a -/
def Live (W : Wd) (M : Mh) (n : Nat) (a : Addr) (o : MO) : Prop := W.ι[n]? = some a ∧ M[n]? = some o ∧ o ≠ .dead
inductive RepO (K : PySem.W.Frag) (B : Hp) (ι : List Addr) : HO → MO → Prop
  | lst {vs : List V} {ds : List D} : RepL K B ι vs ds → RepO K B ι (.lst vs) (.lst ds)
  | dic {vs : List (Key × V)} {ds : List (Key × D)} : RepK K B ι vs ds → RepO K B ι (.dK vs) (.dic ds)
theorem RepO.mono {K : PySem.W.Frag} {B B' : Hp} {ι ι' : List Addr} (s : ∀ b o, B b = some o → B' b = some o) (p : ∀ (n : Nat) (a : Addr), ι[n]? = some a → ι'[n]? = some a) {o : HO} {m : MO} : RepO K B ι o m → RepO K B' ι' o m
  | .lst r => .lst (r.mono s p)
  | .dic r => .dic (r.mono s p)
structure Wd.Ok (K : PySem.W.Frag) (W : Wd) (M : Mh) : Prop where
  sub : ∀ a o, W.B a = some o → W.H a = some o
  pin : ∀ a o, W.P a = some o → W.H a = some o ∧ W.B a = none
  len : W.ι.length = M.length
  live : ∀ n a o, Live W M n a o → W.B a = none ∧ W.P a = none ∧ ∃ h, W.H a = some h ∧ RepO K W.B W.ι h o
  inj : ∀ n m a o u, Live W M n a o → Live W M m a u → n = m
structure Wd.Le (W W' : Wd) : Prop where
  same : ∀ b o, W.B b = some o → W'.B b = some o
  pre : ∃ l, W'.ι = W.ι ++ l
  pp : W'.P = W.P
theorem Wd.Le.refl (W : Wd) : W.Le W := ⟨fun _ _ h => h, ⟨[], by simp⟩, rfl⟩
theorem Wd.Le.trans {W W1 W2 : Wd} (a : W.Le W1) (b : W1.Le W2) : W.Le W2 := by
  obtain ⟨l, hl⟩ := a.pre
  obtain ⟨m, hm⟩ := b.pre
  exact ⟨fun c o h => b.same c o (a.same c o h), ⟨l ++ m, by rw [hm, hl, List.append_assoc]⟩, b.pp.trans a.pp⟩
theorem Wd.Le.ix {W W' : Wd} (a : W.Le W') : ∀ (n : Nat) (c : Addr), W.ι[n]? = some c → W'.ι[n]? = some c := fun n c h => by
  obtain ⟨l, hl⟩ := a.pre
  rw [hl, List.getElem?_append_left (List.getElem?_eq_some_iff.mp h).1]
  exact h
theorem Rep.le {K : PySem.W.Frag} {W W' : Wd} (a : W.Le W') {v : V} {d : D} (r : Rep K W.B W.ι v d) : Rep K W'.B W'.ι v d := r.mono a.same a.ix
theorem RepL.le {K : PySem.W.Frag} {W W' : Wd} (a : W.Le W') {v : List V} {d : List D} (r : RepL K W.B W.ι v d) : RepL K W'.B W'.ι v d := r.mono a.same a.ix

/-- the same, whatever is held -/
structure Wd.Lo (W W' : Wd) : Prop where
  same : ∀ b o, W.B b = some o → W'.B b = some o
  pre : ∃ l, W'.ι = W.ι ++ l
theorem Wd.Le.lo {W W' : Wd} (a : W.Le W') : W.Lo W' := ⟨a.same, a.pre⟩
theorem Wd.Lo.ix {W W' : Wd} (a : W.Lo W') : ∀ (n : Nat) (c : Addr), W.ι[n]? = some c → W'.ι[n]? = some c := fun n c h => by
  obtain ⟨l, hl⟩ := a.pre
  rw [hl, List.getElem?_append_left (List.getElem?_eq_some_iff.mp h).1]
  exact h
/-- the slots -/
structure Slots (K : PySem.W.Frag) (W : Wd) (σ : St) (δ : Env) : Prop where
  len : σ.length = δ.length
  at_ : ∀ (i : Nat) (d : D), δ[i]? = some (some d) → ∃ v, σ[i]? = some (some v) ∧ Rep K W.B W.ι v d
theorem Slots.le {K : PySem.W.Frag} {W W' : Wd} (a : W.Le W') {σ : St} {δ : Env} (s : Slots K W σ δ) : Slots K W' σ δ :=
  ⟨s.len, fun i d h => by
    obtain ⟨v, h1, h2⟩ := s.at_ i d h
    exact ⟨v, h1, h2.le a⟩⟩
theorem Slots.set {K : PySem.W.Frag} {W : Wd} {σ : St} {δ : Env} {v : V} {d : D} (s : Slots K W σ δ) (r : Rep K W.B W.ι v d) (i : Nat) : Slots K W (σ.set i (some v)) (δ.set i (some d)) :=
  ⟨by rw [List.length_set, List.length_set]; exact s.len, fun j e h => by
    rw [List.getElem?_set] at h
    rw [List.getElem?_set]
    by_cases hij : i = j
    · subst hij
      rw [if_pos rfl] at h
      rw [if_pos rfl]
      by_cases hl : i < δ.length
      · rw [if_pos hl] at h
        rw [if_pos (by rw [s.len]; exact hl)]
        cases h
        exact ⟨v, rfl, r⟩
      · rw [if_neg hl] at h
        cases h
    · rw [if_neg hij] at h
      rw [if_neg hij]
      exact s.at_ j e h⟩

/-! ### laying, changing, letting go -/
section
variable {K : PySem.W.Frag} {W : Wd} {M : Mh} {p : Addr} {o : HO}
def Wd.lay (W : Wd) (p : Addr) (o : HO) : Wd := ⟨upd W.H p o, upd W.B p o, W.ι, W.P⟩
theorem updk {H : Hp} {p : Addr} {o : HO} (h : H p = none) : ∀ b u, H b = some u → upd H p o b = some u := fun b u e => by
  rw [upd_ne (ne_of_none e h)]
  exact e
theorem Wd.Ok.bnone (w : W.Ok K M) (hp : W.H p = none) : W.B p = none := by
  cases e : W.B p with
  | none => rfl
  | some u =>
    have := w.sub p u e
    rw [hp] at this
    cases this
theorem Wd.Ok.pnone (w : W.Ok K M) (hp : W.H p = none) : W.P p = none := by
  cases e : W.P p with
  | none => rfl
  | some u =>
    have := (w.pin p u e).1
    rw [hp] at this
    cases this
theorem Wd.lay_le (w : W.Ok K M) (hp : W.H p = none) : W.Le (W.lay p o) := ⟨updk (w.bnone hp), ⟨[], by simp [Wd.lay]⟩, rfl⟩
theorem Wd.lay_ok (w : W.Ok K M) (hp : W.H p = none) : (W.lay p o).Ok K M := by
  have lv : ∀ n a u, Live (W.lay p o) M n a u → Live W M n a u := fun n a u h => h
  have ne : ∀ {n a u}, Live W M n a u → a ≠ p := fun {n a u} h e => by
    obtain ⟨_, _, k, hk, _⟩ := w.live n a u h
    rw [e, hp] at hk
    cases hk
  refine ⟨fun a u h => ?_, fun a u h => ?_, w.len, fun n a u h => ?_, fun n m a u v h k => w.inj n m a u v (lv _ _ _ h) (lv _ _ _ k)⟩
  · by_cases e : a = p
    · subst e
      show upd W.H a o a = _
      have h' : upd W.B a o a = some u := h
      rw [upd_same] at h' ⊢
      exact h'
    · show upd W.H p o a = _
      have h' : upd W.B p o a = some u := h
      rw [upd_ne e] at h' ⊢
      exact w.sub a u h'
  · have q := w.pin a u h
    have e : a ≠ p := fun e => by
      rw [e, hp] at q
      cases q.1
    exact ⟨(upd_ne e).trans q.1, (upd_ne e).trans q.2⟩
  · obtain ⟨h1, h2, k, h3, h4⟩ := w.live n a u (lv _ _ _ h)
    have e := ne (lv _ _ _ h)
    exact ⟨(upd_ne e).trans h1, h2, k, (upd_ne e).trans h3, h4.mono (updk (w.bnone hp)) fun _ _ q => q⟩
/-- a new thing of the store -/
def Wd.new (W : Wd) (p : Addr) (o : HO) : Wd := ⟨upd W.H p o, W.B, W.ι ++ [p], W.P⟩
theorem Wd.new_le : W.Le (W.new p o) := ⟨fun _ _ h => h, ⟨[p], rfl⟩, rfl⟩
theorem Wd.new_ok {m : MO} (w : W.Ok K M) (hp : W.H p = none) (r : RepO K W.B W.ι o m) : (W.new p o).Ok K (M ++ [m]) := by
  have lv : ∀ n a u, Live (W.new p o) (M ++ [m]) n a u → Live W M n a u ∨ (n = M.length ∧ a = p ∧ u = m) := fun n a u h => by
    obtain ⟨h1, h2, h3⟩ := h
    have h1' : (W.ι ++ [p])[n]? = some a := h1
    by_cases hn : n < M.length
    · rw [List.getElem?_append_left (by rw [w.len]; exact hn)] at h1'
      rw [List.getElem?_append_left hn] at h2
      exact .inl ⟨h1', h2, h3⟩
    · have e : n = M.length := by
        have := (List.getElem?_eq_some_iff.mp h2).1
        rw [List.length_append] at this
        simp at this
        omega
      subst e
      rw [List.getElem?_append_right (by rw [w.len]; exact Nat.le_refl _), w.len] at h1'
      rw [List.getElem?_append_right (Nat.le_refl _)] at h2
      simp at h1' h2
      exact .inr ⟨rfl, h1'.symm, h2.symm⟩
  have ne : ∀ {n a u}, Live W M n a u → a ≠ p := fun {n a u} h e => by
    obtain ⟨_, _, k, hk, _⟩ := w.live n a u h
    rw [e, hp] at hk
    cases hk
  have ln : ∀ {n a u}, Live W M n a u → n < M.length := fun {n a u} h => (List.getElem?_eq_some_iff.mp h.2.1).1
  refine ⟨fun a u h => ?_, fun a u h => ?_, ?_, fun n a u h => ?_, fun n k a u v h g => ?_⟩
  · exact (upd_ne (fun e => by
      rw [e] at h
      have := w.bnone hp
      rw [show (W.new p o).B p = W.B p from rfl, this] at h
      cases h)).trans (w.sub a u h)
  · have q := w.pin a u h
    have e : a ≠ p := fun e => by
      rw [e, hp] at q
      cases q.1
    exact ⟨(upd_ne e).trans q.1, q.2⟩
  · show (W.ι ++ [p]).length = _
    simp [w.len]
  · rcases lv n a u h with h | ⟨_, rfl, rfl⟩
    · obtain ⟨h1, h2, k, h3, h4⟩ := w.live n a u h
      exact ⟨h1, h2, k, (upd_ne (ne h)).trans h3, h4.mono (fun _ _ q => q) Wd.new_le.ix⟩
    · exact ⟨w.bnone hp, w.pnone hp, o, upd_same, r.mono (fun _ _ q => q) Wd.new_le.ix⟩
  · rcases lv n a u h with h | ⟨h1, h2, h3⟩
    · rcases lv k a v g with g | ⟨g1, g2, g3⟩
      · exact w.inj n k a u v h g
      · exact absurd g2 (ne h)
    · rcases lv k a v g with g | ⟨g1, g2, g3⟩
      · exact absurd h2 (ne g)
      · omega
/-- a thing of the store changed -/
def Wd.put (W : Wd) (p : Addr) (o : HO) : Wd := ⟨upd W.H p o, W.B, W.ι, W.P⟩
theorem Wd.put_le : W.Le (W.put p o) := ⟨fun _ _ h => h, ⟨[], by simp [Wd.put]⟩, rfl⟩
theorem Wd.put_ok {n : Nat} {m m' : MO} (w : W.Ok K M) (lv0 : Live W M n p m) (r : RepO K W.B W.ι o m') : (W.put p o).Ok K (M.set n m') := by
  have hn : n < M.length := (List.getElem?_eq_some_iff.mp lv0.2.1).1
  have lv : ∀ k a u, Live (W.put p o) (M.set n m') k a u → (k = n ∧ a = p ∧ u = m') ∨ (k ≠ n ∧ Live W M k a u) := fun k a u h => by
    obtain ⟨h1, h2, h3⟩ := h
    by_cases e : n = k
    · subst e
      rw [List.getElem?_set_self hn] at h2
      have e1 : some a = some p := (show W.ι[n]? = some a from h1).symm.trans lv0.1
      cases e1
      cases h2
      exact .inl ⟨rfl, rfl, rfl⟩
    · rw [List.getElem?_set_ne e] at h2
      exact .inr ⟨fun z => e z.symm, h1, h2, h3⟩
  have ne : ∀ {k a u}, k ≠ n → Live W M k a u → a ≠ p := fun {k a u} hk h e => by
    subst e
    exact hk (w.inj _ _ _ _ _ h lv0)
  obtain ⟨b0, p0, _⟩ := w.live n p m lv0
  refine ⟨fun a u h => ?_, fun a u h => ?_, ?_, fun k a u h => ?_, fun k j a u v h g => ?_⟩
  · exact (upd_ne (fun e => by
      rw [e] at h
      rw [show (W.put p o).B p = W.B p from rfl, b0] at h
      cases h)).trans (w.sub a u h)
  · have e : a ≠ p := fun e => by
      rw [e] at h
      rw [show (W.put p o).P p = W.P p from rfl, p0] at h
      cases h
    have q := w.pin a u h
    exact ⟨(upd_ne e).trans q.1, q.2⟩
  · show W.ι.length = _
    rw [List.length_set]
    exact w.len
  · rcases lv k a u h with ⟨rfl, rfl, rfl⟩ | ⟨hk, h⟩
    · exact ⟨b0, p0, o, upd_same, r⟩
    · obtain ⟨h1, h2, g, h3, h4⟩ := w.live k a u h
      exact ⟨h1, h2, g, (upd_ne (ne hk h)).trans h3, h4⟩
  · rcases lv k a u h with ⟨rfl, rfl, rfl⟩ | ⟨hk, h2⟩
    · rcases lv j a v g with ⟨rfl, _, _⟩ | ⟨hj, g⟩
      · rfl
      · exact absurd rfl (ne hj g)
    · rcases lv j a v g with ⟨_, e2, _⟩ | ⟨hj, g⟩
      · exact absurd e2 (ne hk h2)
      · exact w.inj _ _ _ _ _ h2 g
/-- a list of the store stands still from here on -/
def Wd.frz (W : Wd) (p : Addr) (o : HO) : Wd := ⟨W.H, upd W.B p o, W.ι, W.P⟩
theorem Wd.frz_le {n : Nat} {m : MO} (w : W.Ok K M) (lv0 : Live W M n p m) : W.Le (W.frz p o) := ⟨updk (w.live n p m lv0).1, ⟨[], by simp [Wd.frz]⟩, rfl⟩
theorem Wd.frz_ok {n : Nat} {m : MO} (w : W.Ok K M) (lv0 : Live W M n p m) (ho : W.H p = some o) : (W.frz p o).Ok K (M.set n .dead) := by
  have hn : n < M.length := (List.getElem?_eq_some_iff.mp lv0.2.1).1
  have lv : ∀ k a u, Live (W.frz p o) (M.set n .dead) k a u → k ≠ n ∧ Live W M k a u := fun k a u h => by
    obtain ⟨h1, h2, h3⟩ := h
    by_cases e : n = k
    · subst e
      rw [List.getElem?_set_self hn] at h2
      cases h2
      exact absurd rfl h3
    · rw [List.getElem?_set_ne e] at h2
      exact ⟨fun z => e z.symm, h1, h2, h3⟩
  have ne : ∀ {k a u}, k ≠ n → Live W M k a u → a ≠ p := fun {k a u} hk h e => by
    subst e
    exact hk (w.inj _ _ _ _ _ h lv0)
  obtain ⟨b0, p0, _⟩ := w.live n p m lv0
  refine ⟨fun a u h => ?_, fun a u h => ?_, ?_, fun k a u h => ?_, fun k j a u v h g => ?_⟩
  · by_cases e : a = p
    · subst e
      have h' : upd W.B a o a = some u := h
      rw [upd_same] at h'
      cases h'
      exact ho
    · have h' : upd W.B p o a = some u := h
      rw [upd_ne e] at h'
      exact w.sub a u h'
  · have q := w.pin a u h
    have e : a ≠ p := fun e => by
      rw [e] at h
      rw [show (W.frz p o).P p = W.P p from rfl, p0] at h
      cases h
    exact ⟨q.1, (upd_ne e).trans q.2⟩
  · show W.ι.length = _
    rw [List.length_set]
    exact w.len
  · obtain ⟨hk, h⟩ := lv k a u h
    obtain ⟨h1, h2, g, h3, h4⟩ := w.live k a u h
    exact ⟨(upd_ne (ne hk h)).trans h1, h2, g, h3, h4.mono (updk b0) fun _ _ q => q⟩
  · exact w.inj _ _ _ _ _ (lv k a u h).2 (lv j a v g).2
/-- something of another's, while it is looked at -/
def Wd.hold (W : Wd) (p : Addr) (o : HO) : Wd := ⟨upd W.H p o, W.B, W.ι, upd W.P p o⟩
theorem Wd.hold_ok (w : W.Ok K M) (hp : W.H p = none) : (W.hold p o).Ok K M := by
  have ne : ∀ {n a u}, Live W M n a u → a ≠ p := fun {n a u} h e => by
    obtain ⟨_, _, k, hk, _⟩ := w.live n a u h
    rw [e, hp] at hk
    cases hk
  refine ⟨fun a u h => ?_, fun a u h => ?_, w.len, fun n a u h => ?_, fun n m a u v h k => w.inj n m a u v h k⟩
  · exact (upd_ne (fun e => by
      rw [e] at h
      have := w.bnone hp
      rw [show (W.hold p o).B p = W.B p from rfl, this] at h
      cases h)).trans (w.sub a u h)
  · by_cases e : a = p
    · subst e
      have h' : upd W.P a o a = some u := h
      rw [upd_same] at h'
      exact ⟨upd_same.trans h', w.bnone hp⟩
    · have h' : upd W.P p o a = some u := h
      rw [upd_ne e] at h'
      have q := w.pin a u h'
      exact ⟨(upd_ne e).trans q.1, q.2⟩
  · obtain ⟨h1, h2, k, h3, h4⟩ := w.live n a u h
    exact ⟨h1, (upd_ne (ne h)).trans h2, k, (upd_ne (ne h)).trans h3, h4⟩
end
end Pl

namespace Pl
open PySem L2

theorem ifF {A B : Prop} (h : B) : if false = true then A else B := by
  rw [if_neg Bool.false_ne_true]
  exact h
theorem ifT {A B : Prop} (h : A) : if true = true then A else B := by
  rw [if_pos rfl]
  exact h
abbrev EF := Env → Mh → Option (D × Mh)
abbrev TF := Env → Mh → Option (Bool × Mh)
abbrev AF := Env → Mh → Option (List D × Mh)
abbrev GF := D → Env → Option Env
inductive Out where
  | nx (δ : Env) (M : Mh) | rt (d : D) (M : Mh) | bk (δ : Env) (M : Mh) | ct (δ : Env) (M : Mh)
abbrev SF := Env → Mh → Option Out
abbrev Fn := List D → Mh → Option (D × Mh)

/-- what is wanted of a value d behind, the store M' -/
def VR (K : PySem.W.Frag) (W : Wd) (d : D) (M' : Mh) (Q : VK) : Prop := ∀ v W', W.Le W' → W'.Ok K M' → Rep K W'.B W'.ι v d → Q v W'.H
def VRL (K : PySem.W.Frag) (W : Wd) (d : List D) (M' : Mh) (Q : List V → Hp → Prop) : Prop := ∀ v W', W.Le W' → W'.Ok K M' → RepL K W'.B W'.ι v d → Q v W'.H
theorem VR.le {K : PySem.W.Frag} {W W1 : Wd} {d : D} {M' : Mh} {Q : VK} (h : VR K W d M' Q) (l : W.Le W1) : VR K W1 d M' Q := fun v W' a o r => h v W' (l.trans a) o r
def ER (K : PySem.W.Frag) (t : TE) (f : EF) : Prop := ∀ (σ : St) (W : Wd) (δ : Env) (M : Mh) (d : D) (M' : Mh) (Q : VK), W.Ok K M → Slots K W σ δ → f δ M = some (d, M') → VR K W d M' Q → t σ W.H Q
def AR (K : PySem.W.Frag) (t : TA) (f : AF) : Prop := ∀ (σ : St) (W : Wd) (δ : Env) (M : Mh) (d : List D) (M' : Mh) (Q : List V → Hp → Prop), W.Ok K M → Slots K W σ δ → f δ M = some (d, M') → VRL K W d M' Q → t σ W.H Q
def TR (K : PySem.W.Frag) (t : TT) (f : TF) : Prop := ∀ (σ : St) (W : Wd) (δ : Env) (M : Mh) (b : Bool) (M' : Mh) (Q : Bool → Hp → Prop), W.Ok K M → Slots K W σ δ → f δ M = some (b, M') → (∀ W', W.Le W' → W'.Ok K M' → Q b W'.H) → t σ W.H Q

/-- what is wanted behind a statement -/
def Post (K : PySem.W.Frag) (E : Ends) (W : Wd) : Out → Prop
  | .nx δ M => ∀ σ W', W.Le W' → W'.Ok K M → Slots K W' σ δ → E.nx σ W'.H
  | .bk δ M => ∀ σ W', W.Le W' → W'.Ok K M → Slots K W' σ δ → E.bk σ W'.H
  | .ct δ M => ∀ σ W', W.Le W' → W'.Ok K M → Slots K W' σ δ → E.ct σ W'.H
  | .rt d M => VR K W d M E.rt
theorem Post.le {K : PySem.W.Frag} {E : Ends} {W W1 : Wd} {o : Out} (l : W.Le W1) (h : Post K E W o) : Post K E W1 o := by
  cases o with
  | nx δ M => exact fun σ W' a b c => h σ W' (l.trans a) b c
  | bk δ M => exact fun σ W' a b c => h σ W' (l.trans a) b c
  | ct δ M => exact fun σ W' a b c => h σ W' (l.trans a) b c
  | rt d M => exact fun v W' a b c => h v W' (l.trans a) b c
def SR (K : PySem.W.Frag) (t : TS) (f : SF) : Prop := ∀ (σ : St) (W : Wd) (δ : Env) (M : Mh) (o : Out) (E : Ends), W.Ok K M → Slots K W σ δ → f δ M = some o → Post K E W o → t E σ W.H

section
variable {I : Type}
structure DE (X : I → Cx) (K : PySem.W.Frag) (e : Expr) (f : EF) : Prop where
  go : ∃ t : TE, (∀ i, PE (X i) e t) ∧ ER K t f
structure DA (X : I → Cx) (K : PySem.W.Frag) (es : List Expr) (f : AF) : Prop where
  go : ∃ t : TA, (∀ i, PA (X i) es t) ∧ AR K t f
structure DT (X : I → Cx) (K : PySem.W.Frag) (e : Expr) (f : TF) : Prop where
  go : ∃ t : TT, (∀ i, PT (X i) e t) ∧ TR K t f
structure DW (X : I → Cx) (K : PySem.W.Frag) (e : Expr) (f : TF) : Prop where
  go : ∃ t : TT, (∀ i, PW (X i) e t) ∧ TR K t f
structure DS (X : I → Cx) (K : PySem.W.Frag) (s : Stmt) (f : SF) : Prop where
  go : ∃ t : TS, (∀ i, PS (X i) s t) ∧ SR K t f
structure DB (X : I → Cx) (K : PySem.W.Frag) (s : List Stmt) (f : SF) : Prop where
  go : ∃ t : TS, (∀ i, PSs (X i) s t) ∧ SR K t f
/-- a comparison: both as a value and as a test -/
structure DC (X : I → Cx) (K : PySem.W.Frag) (e : Expr) (f : EF) : Prop where
  go : ∃ t : TE, (∀ i, PE (X i) e t) ∧ (∀ i, PT (X i) e (tTest t)) ∧ ER K t f

/-- what all contexts of the family have in common -/
structure Ctx (X : I → Cx) (P : Program) (w : World) (K : PySem.W.Frag) (mg : Str → Option Value) (base : Heap) (k : Nat) : Prop where
  prog : ∀ i, (X i).prog = P
  wd : ∀ i, (X i).w = w
  K : ∀ i, (X i).K = K
  mg : ∀ i, (X i).mg = mg
  base : ∀ i, (X i).base = base
  room : ∀ i, Room k (X i).A
  grd : ∀ i, (X i).A.guards = some []
  calm : ∀ i, (X i).calm = true

variable {X : I → Cx} {P : Program} {w : World} {K : PySem.W.Frag} {mg : Str → Option Value} {base : Heap} {k : Nat}

/-! ### values -/
def eVar (i : Nat) : EF := fun δ M => match δ[i]? with
  | some (some d) => some (d, M)
  | _ => none
theorem DE.var (j : Nat) {x : Str} {pos : Pos} (hN : ∀ i, (X i).N[j]? = some x := by intro _; rfl) (hv : ∀ i, Vis (X i).env.scope x := by intro _; first | exact Or.inl rfl | exact Or.inr (Or.inl rfl) | exact Or.inr (Or.inr rfl)) (hd : (x == ("__debug__" : Str)) = false := by decide)
    (hcd : (x == ("__classdict__" : Str)) = false := by decide) : DE X K (.Name x pos) (eVar j) := by
  refine ⟨tVar j, fun i => pe_var (hN i) (hv i) hd hcd, fun σ W δ M d M' Q w s e q => ?_⟩
  unfold eVar at e
  split at e
  · rename_i d' h
    cases e
    obtain ⟨v, h1, h2⟩ := s.at_ _ _ h
    exact ⟨v, h1, q v W (.refl W) w h2⟩
  · cases e
def eC (d : D) : EF := fun _ M => some (d, M)
theorem er_c {v : V} {d : D} (r : ∀ B ι, Rep K B ι v d) : ER K (tC v) (eC d) := fun σ W δ M d' M' Q w s e q => by
  cases e
  exact q v W (.refl W) w (r _ _)
theorem DE.int {n : Int} {j pos} : DE X K (.Constant (.int n) j pos) (eC (.int n)) := ⟨_, fun i => pe_int, er_c fun _ _ => .int n⟩
theorem DE.bool {b : Bool} {j pos} : DE X K (.Constant (.bool b) j pos) (eC (.bl b)) := ⟨_, fun i => pe_bl, er_c fun _ _ => .bl b⟩
theorem DE.non {j pos} : DE X K (.Constant .none j pos) (eC .non) := ⟨_, fun i => pe_non, er_c fun _ _ => .non⟩
theorem DE.str {x : Str} {j pos} : DE X K (.Constant (.str x) j pos) (eC (.str x)) := ⟨_, fun i => pe_str, er_c fun _ _ => .str x⟩
/-- a name of the module -/
theorem DE.glob (c : Ctx X P w K mg base k) {x : Str} {pos : Pos} {v : V} {u : Value} {d : D} (hm : mg x = some u) (r : RelV v u) (q : ∀ B ι, Rep K B ι v d) (hg : ∀ i, Gl (X i) x := by intro _; rfl)
    (hd : (x == ("__debug__" : Str)) = false := by decide) : DE X K (.Name x pos) (eC d) :=
  ⟨_, fun i => pe_glob (hg i) (by rw [c.mg i]; exact hm) r (hd := hd), er_c q⟩
/-- a built-in's name, not called -/
theorem DE.bltn (c : Ctx X P w K mg base k) {x : Str} {pos : Pos} {v : V} {u : Value} {d : D} (hm : mg x = none) (hv : bootBuiltins x = some u) (r : RelV v u) (q : ∀ B ι, Rep K B ι v d) (hg : ∀ i, Gl (X i) x := by intro _; rfl)
    (hn : x ≠ "__name__" := by decide) (hd : (x == ("__debug__" : Str)) = false := by decide) : DE X K (.Name x pos) (eC d) :=
  ⟨_, fun i => pe_bltn (hg i) (by rw [c.mg i]; exact hm) hv r (hn := hn) (hd := hd), er_c q⟩

/-! ### arguments, displays -/
def aNil : AF := fun _ M => some ([], M)
def aCons (f : EF) (g : AF) : AF := fun δ M => match f δ M with
  | some (d, M1) => (match g δ M1 with
    | some (ds, M2) => some (d :: ds, M2)
    | none => none)
  | none => none
theorem DA.nil : DA X K [] aNil := ⟨tNil, fun i => pa_nil, fun σ W δ M d M' Q w s e q => by
  cases e
  exact q [] W (.refl W) w .nil⟩
theorem DA.cons {e : Expr} {es : List Expr} {f : EF} {g : AF} (a : DE X K e f) (b : DA X K es g) (he : ∀ i, starEach (e :: es) (X i).env = (false, eval e (X i).env) :: starEach es (X i).env := by intro _; rfl) : DA X K (e :: es) (aCons f g) := by
  obtain ⟨ta, pa, ra⟩ := a.go
  obtain ⟨tb, pb, rb⟩ := b.go
  refine ⟨tCons ta tb, fun i => pa_cons (pa i) (pb i) (he i), fun σ W δ M d M' Q w s e q => ?_⟩
  unfold aCons at e
  split at e
  · rename_i d1 M1 h1
    split at e
    · rename_i ds M2 h2
      cases e
      refine ra σ W δ M d1 M1 _ w s h1 fun v W1 l1 w1 r1 => ?_
      refine rb σ W1 δ M1 ds _ _ w1 (s.le l1) h2 fun vs W2 l2 w2 r2 => ?_
      exact q _ W2 (l1.trans l2) w2 (.cons (r1.le l2) r2)
    · cases e
  · cases e
def eTup (g : AF) : EF := fun δ M => match g δ M with
  | some (ds, M1) => if ds.length ≤ sizeLine then some (.tup ds, M1) else none
  | none => none
def eLst (g : AF) : EF := fun δ M => match g δ M with
  | some (ds, M1) => if ds.length ≤ sizeLine then some (.lst ds, M1) else none
  | none => none
/-- a new list of the store -/
def eNew (g : AF) : EF := fun δ M => match g δ M with
  | some (ds, M1) => if ds.length ≤ sizeLine then some (.ref M1.length, M1 ++ [.lst ds]) else none
  | none => none
theorem lay_tup {W : Wd} {M : Mh} {p : Addr} {vs : List V} {ds : List D} (w : W.Ok K M) (hp : W.H p = none) (r : RepL K W.B W.ι vs ds) :
    W.Le (W.lay p (.tup vs)) ∧ (W.lay p (.tup vs)).Ok K M ∧ Rep K (W.lay p (.tup vs)).B (W.lay p (.tup vs)).ι (.ref p) (.tup ds) :=
  ⟨Wd.lay_le w hp, Wd.lay_ok w hp, .tup (.inl (.inl upd_same)) (r.le (Wd.lay_le w hp))⟩
theorem lay_lst {W : Wd} {M : Mh} {p : Addr} {vs : List V} {ds : List D} (w : W.Ok K M) (hp : W.H p = none) (r : RepL K W.B W.ι vs ds) :
    W.Le (W.lay p (.lst vs)) ∧ (W.lay p (.lst vs)).Ok K M ∧ Rep K (W.lay p (.lst vs)).B (W.lay p (.lst vs)).ι (.ref p) (.lst ds) :=
  ⟨Wd.lay_le w hp, Wd.lay_ok w hp, .lst upd_same (r.le (Wd.lay_le w hp))⟩
theorem new_lst {W : Wd} {M : Mh} {p : Addr} {vs : List V} {ds : List D} (w : W.Ok K M) (hp : W.H p = none) (r : RepL K W.B W.ι vs ds) :
    W.Le (W.new p (.lst vs)) ∧ (W.new p (.lst vs)).Ok K (M ++ [.lst ds]) ∧ Rep K (W.new p (.lst vs)).B (W.new p (.lst vs)).ι (.ref p) (.ref M.length) :=
  ⟨Wd.new_le, Wd.new_ok w hp (.lst r), .ref (by
    show (W.ι ++ [p])[M.length]? = some p
    rw [← w.len]
    simp)⟩
theorem DE.tup {es : List Expr} {j pos} {g : AF} (a : DA X K es g) (hpl : ∀ i, (backTo pos (starEach es (X i).env)).any (·.1) = false := by intro _; rfl) : DE X K (.Tuple es j pos) (eTup g) := by
  obtain ⟨ta, pa, ra⟩ := a.go
  refine ⟨tTup ta, fun i => pe_tup (pa i), fun σ W δ M d M' Q w s e q => ?_⟩
  unfold eTup at e
  split at e
  · rename_i ds M1 h1
    split at e
    · rename_i hl
      cases e
      refine ra σ W δ M ds _ _ w s h1 fun vs W1 l1 w1 r1 => ⟨by rw [r1.len]; exact hl, fun p hp => ?_⟩
      obtain ⟨l2, w2, r2⟩ := lay_tup w1 hp r1
      exact q _ _ (l1.trans l2) w2 r2
    · cases e
  · cases e
theorem DE.lst {es : List Expr} {pos} {g : AF} (a : DA X K es g) : DE X K (.List es pos) (eLst g) := by
  obtain ⟨ta, pa, ra⟩ := a.go
  refine ⟨tLst ta, fun i => pe_lst (pa i), fun σ W δ M d M' Q w s e q => ?_⟩
  unfold eLst at e
  split at e
  · rename_i ds M1 h1
    split at e
    · rename_i hl
      cases e
      refine ra σ W δ M ds _ _ w s h1 fun vs W1 l1 w1 r1 => ⟨by rw [r1.len]; exact hl, fun p hp => ?_⟩
      obtain ⟨l2, w2, r2⟩ := lay_lst w1 hp r1
      exact q _ _ (l1.trans l2) w2 r2
    · cases e
  · cases e
theorem DE.new {es : List Expr} {pos} {g : AF} (a : DA X K es g) : DE X K (.List es pos) (eNew g) := by
  obtain ⟨ta, pa, ra⟩ := a.go
  refine ⟨tLst ta, fun i => pe_lst (pa i), fun σ W δ M d M' Q w s e q => ?_⟩
  unfold eNew at e
  split at e
  · rename_i ds M1 h1
    split at e
    · rename_i hl
      cases e
      refine ra σ W δ M ds _ _ w s h1 fun vs W1 l1 w1 r1 => ⟨by rw [r1.len]; exact hl, fun p hp => ?_⟩
      obtain ⟨l2, w2, r2⟩ := new_lst w1 hp r1
      exact q _ _ (l1.trans l2) w2 r2
    · cases e
  · cases e

/-! ### operators by values -/
abbrev O1 := D → Mh → Option (D × Mh)
abbrev O2 := D → D → Mh → Option (D × Mh)
def OD (K : PySem.W.Frag) (r : R2) (g : O2) : Prop := ∀ (W : Wd) (M : Mh) (x y : V) (a b : D) (z : D) (M' : Mh) (Q : VK), W.Ok K M → Rep K W.B W.ι x a → Rep K W.B W.ι y b → g a b M = some (z, M') → VR K W z M' Q → r x y W.H Q
def eOp (g : O2) (fa fb : EF) : EF := fun δ M => match fa δ M with
  | some (a, M1) => (match fb δ M1 with
    | some (b, M2) => g a b M2
    | none => none)
  | none => none
theorem er_op {r : R2} {g : O2} {ta tb : TE} {fa fb : EF} (o : OD K r g) (ra : ER K ta fa) (rb : ER K tb fb) : ER K (tOp r ta tb) (eOp g fa fb) := fun σ W δ M d M' Q w s e q => by
  unfold eOp at e
  split at e
  · rename_i a M1 h1
    split at e
    · rename_i b M2 h2
      refine ra σ W δ M a M1 _ w s h1 fun x W1 l1 w1 r1 => ?_
      refine rb σ W1 δ M1 b M2 _ w1 (s.le l1) h2 fun y W2 l2 w2 r2 => ?_
      exact o W2 M2 x y a b d M' Q w2 (r1.le l2) r2 e (q.le (l1.trans l2))
    · cases e
  · cases e
/-- a rule for an operator in every context -/
structure OpF (X : I → Cx) (K : PySem.W.Frag) (f : Value → Value → Sem Value) (g : O2) : Prop where
  go : ∃ r : R2, (∀ i, OpR (X i) f r) ∧ OD K r g
theorem DE.op {op : Operator} {a b : Expr} {pos} {g : O2} {fa fb : EF} (o : OpF X K (binaryOp op) g) (ha : DE X K a fa) (hb : DE X K b fb) : DE X K (.BinOp a op b pos) (eOp g fa fb) := by
  obtain ⟨r, ho, od⟩ := o.go
  obtain ⟨ta, pa, ra⟩ := ha.go
  obtain ⟨tb, pb, rb⟩ := hb.go
  exact ⟨_, fun i => pe_op (ho i) (pa i) (pb i), er_op od ra rb⟩
theorem DC.op {op : CmpOp} {a b : Expr} {pos} {g : O2} {fa fb : EF} (o : OpF X K (compareOp op) g) (ha : DE X K a fa) (hb : DE X K b fb) (hm : behindInMarks op b = false := by first | exact nomark _ | rfl) : DC X K (.Compare a [op] [b] pos) (eOp g fa fb) := by
  obtain ⟨r, ho, od⟩ := o.go
  obtain ⟨ta, pa, ra⟩ := ha.go
  obtain ⟨tb, pb, rb⟩ := hb.go
  exact ⟨_, fun i => pe_cmpR (ho i) (pa i) (pb i) hm, fun i => pt_cmpR (ho i) (pa i) (pb i) hm, er_op od ra rb⟩
/-- x < y < z -/
def eChain (g g' : O2) (fa fb fc : EF) : EF := fun δ M => match fa δ M with
  | some (a, M1) => (match fb δ M1 with
    | some (b, M2) => (match g a b M2 with
      | some (.bl true, M3) => (match fc δ M3 with
        | some (c, M4) => g' b c M4
        | none => none)
      | some (.bl false, M3) => some (.bl false, M3)
      | _ => none)
    | none => none)
  | none => none
theorem er_chain {r r' : R2} {g g' : O2} {ta tb tc : TE} {fa fb fc : EF} (o : OD K r g) (o' : OD K r' g') (ra : ER K ta fa) (rb : ER K tb fb) (rc : ER K tc fc) : ER K (tChain r r' ta tb tc) (eChain g g' fa fb fc) := fun σ W δ M d M' Q w s e q => by
  unfold eChain at e
  split at e
  · rename_i a M1 h1
    split at e
    · rename_i b M2 h2
      refine ra σ W δ M a M1 _ w s h1 fun x W1 l1 w1 r1 => ?_
      refine rb σ W1 δ M1 b M2 _ w1 (s.le l1) h2 fun y W2 l2 w2 r2 => ?_
      split at e
      · rename_i M3 h3
        split at e
        · rename_i c M4 h4
          refine o W2 M2 x y a b _ M3 _ w2 (r1.le l2) r2 h3 fun v W3 l3 w3 r3 => ?_
          cases r3
          refine ⟨true, rfl, ifT ?_⟩
          refine rc σ W3 δ M3 c M4 _ w3 (s.le ((l1.trans l2).trans l3)) h4 fun z W4 l4 w4 r4 => ?_
          exact o' W4 M4 y z b c d M' Q w4 (r2.le (l3.trans l4)) r4 e (q.le (((l1.trans l2).trans l3).trans l4))
        · cases e
      · rename_i M3 h3
        cases e
        refine o W2 M2 x y a b _ _ _ w2 (r1.le l2) r2 h3 fun v W3 l3 w3 r3 => ?_
        cases r3
        exact ⟨false, rfl, ifF (q _ W3 ((l1.trans l2).trans l3) w3 (.bl false))⟩
      · cases e
    · cases e
  · cases e
theorem DC.chain {op op' : CmpOp} {a b c : Expr} {pos} {g g' : O2} {fa fb fc : EF} (o : OpF X K (compareOp op) g) (o' : OpF X K (compareOp op') g') (ha : DE X K a fa) (hb : DE X K b fb) (hc : DE X K c fc) (hm : lastMarks [op, op'] [b, c] = false := by rfl) :
    DC X K (.Compare a [op, op'] [b, c] pos) (eChain g g' fa fb fc) := by
  obtain ⟨r, ho, od⟩ := o.go
  obtain ⟨r', ho', od'⟩ := o'.go
  obtain ⟨ta, pa, ra⟩ := ha.go
  obtain ⟨tb, pb, rb⟩ := hb.go
  obtain ⟨tc, pc, rc⟩ := hc.go
  exact ⟨_, fun i => pe_chain (ho i) (ho' i) (pa i) (pb i) (pc i) (hm := hm), fun i => pt_chain (ho i) (ho' i) (pa i) (pb i) (pc i) (hm := hm), er_chain od od' ra rb rc⟩
theorem DC.val {e : Expr} {f : EF} (h : DC X K e f) : DE X K e f := by
  obtain ⟨t, a, _, c⟩ := h.go
  exact ⟨t, a, c⟩
def tV (f : EF) : TF := fun δ M => match f δ M with
  | some (.bl b, M1) => some (b, M1)
  | _ => none
theorem tr_test {t : TE} {f : EF} (r : ER K t f) : TR K (tTest t) (tV f) := fun σ W δ M b M' Q w s e q => by
  unfold tV at e
  split at e
  · rename_i c M1 h1
    cases e
    refine r σ W δ M _ _ _ w s h1 fun v W1 l1 w1 r1 => ?_
    cases r1
    exact ⟨b, rfl, q W1 l1 w1⟩
  · cases e
theorem DC.test {e : Expr} {f : EF} (h : DC X K e f) : DT X K e (tV f) := by
  obtain ⟨t, _, b, c⟩ := h.go
  exact ⟨_, b, tr_test c⟩
theorem DE.test {e : Expr} {f : EF} (h : DE X K e f) (he : ∀ i whole, isTrue e (X i).env whole = (do let v ← whole; standAt e.pos; holding [v] (truthy v)) := by intro _ _; rfl) : DT X K e (tV f) := by
  obtain ⟨t, a, c⟩ := h.go
  exact ⟨_, fun i => pt_val (a i) (he i), tr_test c⟩
/-! ### and, or, not, if else -/
def tNt (f : TF) : TF := fun δ M => match f δ M with
  | some (b, M1) => some (!b, M1)
  | none => none
theorem DT.not {a : Expr} {pos} {f : TF} (h : DT X K a f) : DT X K (.UnaryOp .Not a pos) (tNt f) := by
  obtain ⟨t, p, r⟩ := h.go
  refine ⟨_, fun i => pt_not (p i), fun σ W δ M b M' Q w s e q => ?_⟩
  unfold tNt at e
  split at e
  · rename_i c M1 h1
    cases e
    exact r σ W δ M c _ _ w s h1 q
  · cases e
def tAn (f g : TF) : TF := fun δ M => match f δ M with
  | some (true, M1) => g δ M1
  | some (false, M1) => some (false, M1)
  | none => none
def tOrr (f g : TF) : TF := fun δ M => match f δ M with
  | some (true, M1) => some (true, M1)
  | some (false, M1) => g δ M1
  | none => none
theorem DW.and1 {a : Expr} {pos} {f : TF} (h : DT X K a f) : DW X K (.BoolOp .And [a] pos) f := by
  obtain ⟨t, p, r⟩ := h.go
  exact ⟨t, fun i => pw_and1 (p i), r⟩
theorem DW.or1 {a : Expr} {pos} {f : TF} (h : DT X K a f) : DW X K (.BoolOp .Or [a] pos) f := by
  obtain ⟨t, p, r⟩ := h.go
  exact ⟨t, fun i => pw_or1 (p i), r⟩
theorem DW.and {a b : Expr} {es : List Expr} {pos} {f g : TF} (h : DT X K a f) (h' : DW X K (.BoolOp .And (b :: es) pos) g) : DW X K (.BoolOp .And (a :: b :: es) pos) (tAn f g) := by
  obtain ⟨t, p, r⟩ := h.go
  obtain ⟨t', p', r'⟩ := h'.go
  refine ⟨_, fun i => pw_and (p i) (p' i), fun σ W δ M b M' Q w s e q => ?_⟩
  unfold tAn at e
  split at e
  · rename_i M1 h1
    refine r σ W δ M true M1 _ w s h1 fun W1 l1 w1 => ifT ?_
    exact r' σ W1 δ M1 b M' Q w1 (s.le l1) e fun W2 l2 w2 => q W2 (l1.trans l2) w2
  · rename_i M1 h1
    cases e
    exact r σ W δ M false _ _ w s h1 fun W1 l1 w1 => ifF (q W1 l1 w1)
  · cases e
theorem DW.or {a b : Expr} {es : List Expr} {pos} {f g : TF} (h : DT X K a f) (h' : DW X K (.BoolOp .Or (b :: es) pos) g) : DW X K (.BoolOp .Or (a :: b :: es) pos) (tOrr f g) := by
  obtain ⟨t, p, r⟩ := h.go
  obtain ⟨t', p', r'⟩ := h'.go
  refine ⟨_, fun i => pw_or (p i) (p' i), fun σ W δ M b M' Q w s e q => ?_⟩
  unfold tOrr at e
  split at e
  · rename_i M1 h1
    cases e
    exact r σ W δ M true _ _ w s h1 fun W1 l1 w1 => ifT (q W1 l1 w1)
  · rename_i M1 h1
    refine r σ W δ M false M1 _ w s h1 fun W1 l1 w1 => ifF ?_
    exact r' σ W1 δ M1 b M' Q w1 (s.le l1) e fun W2 l2 w2 => q W2 (l1.trans l2) w2
  · cases e
theorem DW.test {e : Expr} {f : TF} (h : DW X K e f) : DT X K e f := by
  obtain ⟨t, p, r⟩ := h.go
  exact ⟨t, fun i => PW.pt (p i), r⟩
def eIf (t : TF) (f g : EF) : EF := fun δ M => match t δ M with
  | some (true, M1) => f δ M1
  | some (false, M1) => g δ M1
  | none => none
theorem DE.ite {c a b : Expr} {pos} {t : TF} {f g : EF} (h : DT X K c t) (ha : DE X K a f) (hb : DE X K b g) : DE X K (.IfExp c a b pos) (eIf t f g) := by
  obtain ⟨tt, p, r⟩ := h.go
  obtain ⟨ta, pa, ra⟩ := ha.go
  obtain ⟨tb, pb, rb⟩ := hb.go
  refine ⟨_, fun i => pe_ifExp (p i) (pa i) (pb i), fun σ W δ M d M' Q w s e q => ?_⟩
  unfold eIf at e
  split at e
  · rename_i M1 h1
    exact r σ W δ M true M1 _ w s h1 fun W1 l1 w1 => ifT (ra σ W1 δ M1 d M' Q w1 (s.le l1) e (q.le l1))
  · rename_i M1 h1
    exact r σ W δ M false M1 _ w s h1 fun W1 l1 w1 => ifF (rb σ W1 δ M1 d M' Q w1 (s.le l1) e (q.le l1))
  · cases e
/-- not a, a and b, a or b as values, all of them True or False -/
def eNt (f : EF) : EF := fun δ M => match f δ M with
  | some (.bl b, M1) => some (.bl (!b), M1)
  | _ => none
def eAn (f g : EF) : EF := fun δ M => match f δ M with
  | some (.bl true, M1) => g δ M1
  | some (.bl false, M1) => some (.bl false, M1)
  | _ => none
def eOr (f g : EF) : EF := fun δ M => match f δ M with
  | some (.bl true, M1) => some (.bl true, M1)
  | some (.bl false, M1) => g δ M1
  | _ => none
theorem DE.not {a : Expr} {pos} {f : EF} (h : DE X K a f) (he : ∀ i whole, isTrue a (X i).env whole = (do let v ← whole; standAt a.pos; holding [v] (truthy v)) := by intro _ _; rfl) : DE X K (.UnaryOp .Not a pos) (eNt f) := by
  obtain ⟨t, p, r⟩ := h.go
  refine ⟨_, fun i => pe_not (p i), fun σ W δ M d M' Q w s e q => ?_⟩
  unfold eNt at e
  split at e
  · rename_i b M1 h1
    cases e
    refine r σ W δ M _ _ _ w s h1 fun v W1 l1 w1 r1 => ?_
    cases r1
    exact ⟨b, rfl, q _ W1 l1 w1 (.bl _)⟩
  · cases e
theorem DE.one {op : BoolOp} {a : Expr} {pos} {f : EF} (h : DE X K a f) : DE X K (.BoolOp op [a] pos) f := by
  obtain ⟨t, p, r⟩ := h.go
  exact ⟨t, fun i => pe_one (p i), r⟩
theorem DE.and {a b : Expr} {es : List Expr} {pos} {f g : EF} (h : DE X K a f) (h' : DE X K (.BoolOp .And (b :: es) pos) g) : DE X K (.BoolOp .And (a :: b :: es) pos) (eAn f g) := by
  obtain ⟨t, p, r⟩ := h.go
  obtain ⟨t', p', r'⟩ := h'.go
  refine ⟨_, fun i => pe_and (p i) (p' i), fun σ W δ M d M' Q w s e q => ?_⟩
  unfold eAn at e
  split at e
  · rename_i M1 h1
    refine r σ W δ M _ M1 _ w s h1 fun v W1 l1 w1 r1 => ?_
    cases r1
    exact ⟨true, rfl, ifT (r' σ W1 δ M1 d M' Q w1 (s.le l1) e (q.le l1))⟩
  · rename_i M1 h1
    cases e
    refine r σ W δ M _ _ _ w s h1 fun v W1 l1 w1 r1 => ?_
    cases r1
    exact ⟨false, rfl, ifF (q _ W1 l1 w1 (.bl _))⟩
  · cases e
theorem DE.or {a b : Expr} {es : List Expr} {pos} {f g : EF} (h : DE X K a f) (h' : DE X K (.BoolOp .Or (b :: es) pos) g) : DE X K (.BoolOp .Or (a :: b :: es) pos) (eOr f g) := by
  obtain ⟨t, p, r⟩ := h.go
  obtain ⟨t', p', r'⟩ := h'.go
  refine ⟨_, fun i => pe_or (p i) (p' i), fun σ W δ M d M' Q w s e q => ?_⟩
  unfold eOr at e
  split at e
  · rename_i M1 h1
    cases e
    refine r σ W δ M _ _ _ w s h1 fun v W1 l1 w1 r1 => ?_
    cases r1
    exact ⟨true, rfl, ifT (q _ W1 l1 w1 (.bl _))⟩
  · rename_i M1 h1
    refine r σ W δ M _ M1 _ w s h1 fun v W1 l1 w1 r1 => ?_
    cases r1
    exact ⟨false, rfl, ifF (r' σ W1 δ M1 d M' Q w1 (s.le l1) e (q.le l1))⟩
  · cases e
end
end Pl

namespace Pl
open PySem L2
section
variable {I : Type} {X : I → Cx} {P : Program} {w : World} {K : PySem.W.Frag} {mg : Str → Option Value} {base : Heap} {k : Nat}

/-! ### blocks and statements -/
def sNil : SF := fun δ M => some (.nx δ M)
def sSeq (f g : SF) : SF := fun δ M => match f δ M with
  | some (.nx δ' M') => g δ' M'
  | o => o
theorem DB.nil : DB X K [] sNil := ⟨tNext, fun i => pss_nil, fun σ W δ M o E w s e q => by
  cases e
  exact q σ W (.refl W) w s⟩
theorem DB.cons {s : Stmt} {ss : List Stmt} {f g : SF} (a : DS X K s f) (b : DB X K ss g) : DB X K (s :: ss) (sSeq f g) := by
  obtain ⟨ta, pa, ra⟩ := a.go
  obtain ⟨tb, pb, rb⟩ := b.go
  refine ⟨tSeq ta tb, fun i => pss_cons (pa i) (pb i), fun σ W δ M o E w s e q => ?_⟩
  unfold sSeq at e
  split at e
  · rename_i δ' M' h1
    refine ra σ W δ M _ _ w s h1 fun σ' W1 l1 w1 s1 => ?_
    exact rb σ' W1 δ' M' o E w1 s1 e (q.le l1)
  · rename_i hn
    refine ra σ W δ M o _ w s e ?_
    cases o with
    | nx δ' M' => exact absurd e (hn δ' M')
    | bk _ _ => exact q
    | ct _ _ => exact q
    | rt _ _ => exact q
theorem DB.one {s : Stmt} {f : SF} (a : DS X K s f) : DB X K [s] f := by
  obtain ⟨ta, pa, ra⟩ := a.go
  exact ⟨ta, fun i => pss_one (pa i), ra⟩
theorem DS.pass {pos} : DS X K (.Pass pos) sNil := ⟨tNext, fun i => ps_pass, fun σ W δ M o E w s e q => by
  cases e
  exact q σ W (.refl W) w s⟩
theorem DS.brk {pos} : DS X K (.Break pos) (fun δ M => some (.bk δ M)) := ⟨tBreak, fun i => ps_break, fun σ W δ M o E w s e q => by
  cases e
  exact q σ W (.refl W) w s⟩
theorem DS.cont {pos} : DS X K (.Continue pos) (fun δ M => some (.ct δ M)) := ⟨tCont, fun i => ps_continue, fun σ W δ M o E w s e q => by
  cases e
  exact q σ W (.refl W) w s⟩
def sE (f : EF) : SF := fun δ M => match f δ M with
  | some (_, M') => some (.nx δ M')
  | none => none
theorem DS.expr {e : Expr} {pos} {f : EF} (a : DE X K e f) (hs : ∀ i, swapsWith e none pos.line (X i).env = pure false := by intro _; rfl) : DS X K (.Expr e pos) (sE f) := by
  obtain ⟨ta, pa, ra⟩ := a.go
  refine ⟨tDrop ta, fun i => ps_expr (pa i) (hs i), fun σ W δ M o E w s e q => ?_⟩
  unfold sE at e
  split at e
  · rename_i d M' h1
    cases e
    exact ra σ W δ M _ _ _ w s h1 fun v W1 l1 w1 r1 => q σ W1 l1 w1 (s.le l1)
  · cases e
def sRet (f : EF) : SF := fun δ M => match f δ M with
  | some (d, M') => some (.rt d M')
  | none => none
theorem DS.ret {e : Expr} {pos} {f : EF} (a : DE X K e f) : DS X K (.Return (some e) pos) (sRet f) := by
  obtain ⟨ta, pa, ra⟩ := a.go
  refine ⟨tRet ta, fun i => ps_ret (pa i), fun σ W δ M o E w s e q => ?_⟩
  unfold sRet at e
  split at e
  · rename_i d M' h1
    cases e
    exact ra σ W δ M _ _ _ w s h1 q
  · cases e
theorem DS.retN {pos} : DS X K (.Return none pos) (sRet (eC .non)) := ⟨tRetN, fun i => ps_retN, fun σ W δ M o E w s e q => by
  cases e
  exact q .non W (.refl W) w .non⟩
def sIf (t : TF) (f g : SF) : SF := fun δ M => match t δ M with
  | some (true, M1) => f δ M1
  | some (false, M1) => g δ M1
  | none => none
theorem DS.ite {c : Expr} {a b : List Stmt} {pos} {t : TF} {f g : SF} (h : DT X K c t) (ha : DB X K a f) (hb : DB X K b g) : DS X K (.If c a b pos) (sIf t f g) := by
  obtain ⟨tt, p, r⟩ := h.go
  obtain ⟨ta, pa, ra⟩ := ha.go
  obtain ⟨tb, pb, rb⟩ := hb.go
  refine ⟨_, fun i => ps_if (p i) (pa i) (pb i), fun σ W δ M o E w s e q => ?_⟩
  unfold sIf at e
  split at e
  · rename_i M1 h1
    exact r σ W δ M true M1 _ w s h1 fun W1 l1 w1 => ifT (ra σ W1 δ M1 o E w1 (s.le l1) e (q.le l1))
  · rename_i M1 h1
    exact r σ W δ M false M1 _ w s h1 fun W1 l1 w1 => ifF (rb σ W1 δ M1 o E w1 (s.le l1) e (q.le l1))
  · cases e

/-! ### targets -/
def GR (K : PySem.W.Frag) (t : TG) (f : GF) (sl : List Nat) : Prop := ∀ (v : V) (d : D) (σ : St) (W : Wd) (δ δ' : Env) (M : Mh) (Q : St → Hp → Prop), W.Ok K M → Slots K W σ δ → Rep K W.B W.ι v d → f d δ = some δ' →
  (∀ σ', Slots K W σ' δ' → (∀ vs : List Nat, (∀ j ∈ sl, j ∈ vs) → wipe σ' vs = wipe σ vs) → Q σ' W.H) → t v σ W.H Q
def GRs (K : PySem.W.Frag) (t : TGs) (f : List D → Env → Option Env) (sl : List Nat) : Prop := ∀ (v : List V) (d : List D) (σ : St) (W : Wd) (δ δ' : Env) (M : Mh) (Q : St → Hp → Prop), W.Ok K M → Slots K W σ δ → RepL K W.B W.ι v d → f d δ = some δ' →
  (∀ σ', Slots K W σ' δ' → (∀ vs : List Nat, (∀ j ∈ sl, j ∈ vs) → wipe σ' vs = wipe σ vs) → Q σ' W.H) → t v σ W.H Q
structure DG (X : I → Cx) (K : PySem.W.Frag) (tg : Expr) (f : GF) (sl : List Nat) : Prop where
  go : ∃ t : TG, (∀ i, PG (X i) tg t) ∧ GR K t f sl
structure DGs (X : I → Cx) (K : PySem.W.Frag) (tg : List Expr) (f : List D → Env → Option Env) (sl : List Nat) (n : Nat) : Prop where
  go : ∃ t : TGs, (∀ i, PGs (X i) tg t) ∧ GRs K t f sl
  len : ∀ ds δ δ', f ds δ = some δ' → ds.length = n
theorem wipe_set (σ : St) (o : Option V) (i : Nat) : ∀ vs : List Nat, (i ∈ vs → wipe (σ.set i o) vs = wipe σ vs) ∧ (i ∉ vs → wipe (σ.set i o) vs = (wipe σ vs).set i o)
  | [] => ⟨fun h => absurd h (by simp), fun _ => rfl⟩
  | v :: vs => by
    obtain ⟨h1, h2⟩ := wipe_set σ o i vs
    refine ⟨fun h => ?_, fun h => ?_⟩
    · show (wipe (σ.set i o) vs).set v none = (wipe σ vs).set v none
      by_cases hm : i ∈ vs
      · rw [h1 hm]
      · have e : i = v := by
          rcases List.mem_cons.mp h with e | e
          · exact e
          · exact absurd e hm
        rw [h2 hm, ← e, List.set_set]
    · show (wipe (σ.set i o) vs).set v none = ((wipe σ vs).set v none).set i o
      have hv : i ≠ v := fun e => h (by rw [e]; exact List.mem_cons_self)
      rw [h2 fun z => h (List.mem_cons_of_mem _ z), List.set_comm _ _ hv]
def gN (i : Nat) : GF := fun d δ => some (δ.set i (some d))
theorem DG.name (j : Nat) {x : Str} {pos} (hN : ∀ i, (X i).N.Nodup) (hi : ∀ i, (X i).N[j]? = some x := by intro _; rfl) (hx : ∀ i, Loc (X i).env.scope x := by intro _; first | exact Or.inl rfl | exact Or.inr rfl)
    (hf : ∀ i, (X i).fn x = true ∨ (X i).env.scope.names.lookup x = some .local := by intro _; first | exact Or.inl rfl | exact Or.inr rfl) : DG X K (.Name x pos) (gN j) [j] :=
  ⟨gName j, fun i => pg_name (hN i) (hi i) (hx i) (hf i), fun v d σ W δ δ' M Q w s r e q => by
    cases e
    exact q _ (s.set r j) fun vs h => (wipe_set σ _ j vs).1 (h j List.mem_cons_self)⟩
def gsNil : List D → Env → Option Env := fun ds δ => match ds with
  | [] => some δ
  | _ => none
def gsCons (f : GF) (g : List D → Env → Option Env) : List D → Env → Option Env := fun ds δ => match ds with
  | [] => none
  | d :: r => (match f d δ with
    | some δ1 => g r δ1
    | none => none)
theorem DGs.nil : DGs X K [] gsNil [] 0 := ⟨⟨gNil, fun i => pgs_nil, fun v d σ W δ δ' M Q w s r e q => by
  cases r with
  | nil =>
    cases e
    exact ⟨rfl, q σ s fun _ _ => rfl⟩
  | cons _ _ => cases e⟩, fun ds δ δ' h => by
    cases ds with
    | nil => rfl
    | cons _ _ => cases h⟩
theorem DGs.cons {e : Expr} {es : List Expr} {f : GF} {g : List D → Env → Option Env} {sl sm : List Nat} {n : Nat} (a : DG X K e f sl) (b : DGs X K es g sm n)
    (hs : ∀ i, (assignEach (e :: es) (X i).env).map (·.2) = assign e (X i).env :: (assignEach es (X i).env).map (·.2) := by intro _; rfl) : DGs X K (e :: es) (gsCons f g) (sl ++ sm) (n + 1) := by
  obtain ⟨ta, pa, ra⟩ := a.go
  obtain ⟨tb, pb, rb⟩ := b.go
  refine ⟨⟨gCons ta tb, fun i => pgs_cons (pa i) (pb i) (hs i), fun v d σ W δ δ' M Q w s r e q => ?_⟩, fun ds δ δ' h => ?_⟩
  · cases r with
    | nil => cases e
    | cons r1 r2 =>
      have e' : (match f _ δ with
        | some δ1 => g _ δ1
        | none => none) = some δ' := e
      split at e'
      · rename_i δ1 h1
        refine ⟨_, _, rfl, ra _ _ σ W δ δ1 M _ w s r1 h1 fun σ1 s1 k1 => ?_⟩
        refine rb _ _ σ1 W δ1 δ' M _ w s1 r2 e' fun σ2 s2 k2 => ?_
        exact q σ2 s2 fun vs hv => (k2 vs fun j hj => hv j (List.mem_append_right _ hj)).trans (k1 vs fun j hj => hv j (List.mem_append_left _ hj))
      · cases e'
  · cases ds with
    | nil => cases h
    | cons d r =>
      have h' : (match f d δ with
        | some δ1 => g r δ1
        | none => none) = some δ' := h
      split at h'
      · exact congrArg (· + 1) (b.len _ _ _ h')
      · cases h'
def gTp (f : List D → Env → Option Env) : GF := fun d δ => match d with
  | .tup ds => f ds δ
  | .lst ds => f ds δ
  | .lsk ds => f ds δ
  | _ => none
theorem pg_or {Y : Cx} {tg : Expr} {t u : TG} (a : PG Y tg t) (b : PG Y tg u) : PG Y tg (fun v σ H Q => t v σ H Q ∨ u v σ H Q) := ⟨fun pins s σ H v us Q I r h => by
  rcases h with h | h
  · exact a.run pins s σ H v us Q I r h
  · exact b.run pins s σ H v us Q I r h⟩
/-- a list's own rule -/
structure UnlR (X : I → Cx) (K : PySem.W.Frag) : Prop where
  run : ∀ (es : List Expr) (k : Nat) (pos : Pos) (t : TGs) (n : Nat), (∀ i, PGs (X i) es t) → (∀ i, (assignEach es (X i).env).length = n) → (∀ i, (assignEach es (X i).env).findIdx? (·.1) = none) → ∀ i, PG (X i) (.Tuple es k pos) (gUnl K n t)
theorem DG.tup (c : Ctx X P w K mg base k) {es : List Expr} {m : Nat} {pos} {f : List D → Env → Option Env} {sl : List Nat} {n : Nat} (a : DGs X K es f sl n) (hn : ∀ i, (assignEach es (X i).env).length = n := by intro _; rfl)
    (hst : ∀ i, (assignEach es (X i).env).findIdx? (·.1) = none := by intro _; rfl) : DG X K (.Tuple es m pos) (gTp f) sl := by
  obtain ⟨ta, pa, ra⟩ := a.go
  refine ⟨fun v σ H Q => gTup K n ta v σ H Q ∨ gUnl K n ta v σ H Q, fun i => ?_, fun v d σ W δ δ' M Q w s r e q => ?_⟩
  · have h1 := pg_tup (c.calm i) (pa i) (hn i) (hst i) (k := m) (pos := pos)
    have h2 := pg_unl (c.calm i) (pa i) (hn i) (hst i) (k := m) (pos := pos)
    rw [c.K i] at h1 h2
    exact pg_or h1 h2
  · cases r with
    | tup h r =>
      have e' : f _ δ = some δ' := e
      exact .inl ⟨_, _, rfl, sqT_mono w.sub h, by rw [r.len]; exact a.len _ _ _ e', ra _ _ σ W δ δ' M Q w s r e' q⟩
    | lst h r =>
      have e' : f _ δ = some δ' := e
      exact .inr ⟨_, _, rfl, .inl (.inl (w.sub _ _ h)), by rw [r.len]; exact a.len _ _ _ e', ra _ _ σ W δ δ' M Q w s r e' q⟩
    | lsk h r =>
      have e' : f _ δ = some δ' := e
      exact .inr ⟨_, _, rfl, sqL_mono w.sub h, by rw [r.len]; exact a.len _ _ _ e', ra _ _ σ W δ δ' M Q w s r e' q⟩
    | _ => cases e
/-! ### assignments -/
def sAs (f : EF) (g : GF) : SF := fun δ M => match f δ M with
  | some (d, M1) => (match g d δ with
    | some δ' => some (.nx δ' M1)
    | none => none)
  | none => none
theorem sr_as {te : TE} {t : TG} {f : EF} {g : GF} {sl : List Nat} (re : ER K te f) (rg : GR K t g sl) : SR K (tAsg te t) (sAs f g) := fun σ W δ M o E w s e q => by
  unfold sAs at e
  split at e
  · rename_i d M1 h1
    split at e
    · rename_i δ' h2
      cases e
      refine re σ W δ M d _ _ w s h1 fun v W1 l1 w1 r1 => ?_
      exact rg v d σ W1 δ δ' _ _ w1 (s.le l1) r1 h2 fun σ' s' _ => q σ' W1 l1 w1 s'
    · cases e
  · cases e
theorem DS.set (j : Nat) {x : Str} {e : Expr} {pos pos'} {f : EF} (a : DE X K e f) (hN : ∀ i, (X i).N.Nodup) (hi : ∀ i, (X i).N[j]? = some x := by intro _; rfl) (hx : ∀ i, Loc (X i).env.scope x := by intro _; first | exact Or.inl rfl | exact Or.inr rfl)
    (hs : ∀ i, swapsWith e (some (.Name x pos')) pos.line (X i).env = pure false := by intro _; rfl) (hf : ∀ i, (X i).fn x = true ∨ (X i).env.scope.names.lookup x = some .local := by intro _; first | exact Or.inl rfl | exact Or.inr rfl) :
    DS X K (.Assign [.Name x pos'] e pos) (sAs f (gN j)) := by
  obtain ⟨t, p, r⟩ := a.go
  obtain ⟨tg, _, rg⟩ := (⟨gName j, fun i => pg_name (hN i) (hi i) (hx i) (hf i), fun v d σ W δ δ' M Q w s r e q => by
    cases e
    exact q _ (s.set r j) fun vs h => (wipe_set σ _ j vs).1 (h j List.mem_cons_self)⟩ : ∃ t : TG, (∀ i, PG (X i) (.Name x pos') t) ∧ GR K t (gN j) [j])
  refine ⟨tAsg t (gName j), fun i => ps_set (hN i) (hi i) (hx i) (p i) (hs i) (hf i), sr_as r (sl := [j]) fun v d σ W δ δ' M Q w s r e q => ?_⟩
  cases e
  exact q _ (s.set r j) fun vs h => (wipe_set σ _ j vs).1 (h j List.mem_cons_self)
theorem DS.asg {tg e : Expr} {pos} {f : EF} {g : GF} {sl : List Nat} (a : DE X K e f) (b : DG X K tg g sl) (hs : ∀ i, swapsWithSole [tg] e pos.line (X i).env = pure false := by intro _; rfl) (hw : ∀ i, swappedStores [tg] e (X i).env = pure none := by intro _; rfl)
    (h1 : ∀ i, (assignEach [tg] (X i).env).map (·.2) = [assign tg (X i).env] := by intro _; rfl) : DS X K (.Assign [tg] e pos) (sAs f g) := by
  obtain ⟨t, p, r⟩ := a.go
  obtain ⟨tg, pg, rg⟩ := b.go
  exact ⟨_, fun i => ps_asg (p i) (pg i) (hs i) (hw i) (h1 i), sr_as r rg⟩
def sPar (i j : Nat) (f g : EF) : SF := fun δ M => match f δ M with
  | some (d, M1) => (match g δ M1 with
    | some (e, M2) => some (.nx ((δ.set i (some d)).set j (some e)) M2)
    | none => none)
  | none => none
theorem DS.par (a b : Nat) {x y : Str} {e1 e2 : Expr} {f g : EF} {px py pt : Pos} {kt k2 pt2 pos} (c : Ctx X P w K mg base k) (h1 : DE X K e1 f) (h2 : DE X K e2 g) (hN : ∀ i, (X i).N.Nodup) (hi : ∀ i, (X i).N[a]? = some x := by intro _; rfl) (hj : ∀ i, (X i).N[b]? = some y := by intro _; rfl)
    (hij : a ≠ b := by decide) (hx : ∀ i, (X i).env.scope.names.lookup x = some .local := by intro _; rfl) (hy : ∀ i, (X i).env.scope.names.lookup y = some .local := by intro _; rfl)
    (hw : ∀ i, swappedStores [.Tuple [.Name x px, .Name y py] kt pt] (.Tuple [e1, e2] k2 pt2) (X i).env = pure (some [x, y]) := by intro _; rfl)
    (hs : ∀ i, swapsWithSole [.Tuple [.Name x px, .Name y py] kt pt] (.Tuple [e1, e2] k2 pt2) pos.line (X i).env = pure false := by intro _; rfl)
    (he1 : ∀ i, starEach [e1, e2] (X i).env = (false, eval e1 (X i).env) :: starEach [e2] (X i).env := by intro _; rfl) (he2 : ∀ i, starEach [e2] (X i).env = (false, eval e2 (X i).env) :: starEach [] (X i).env := by intro _; rfl) :
    DS X K (.Assign [.Tuple [.Name x px, .Name y py] kt pt] (.Tuple [e1, e2] k2 pt2) pos) (sPar a b f g) := by
  obtain ⟨ta, pa, ra⟩ := h1.go
  obtain ⟨tb, pb, rb⟩ := h2.go
  refine ⟨tPar a b (tCons ta (tCons tb tNil)), fun i => ps_par (c.calm i) (hN i) (hi i) (hj i) hij (hx i) (hy i) (pa_cons (pa i) (pa_cons (pb i) pa_nil (he2 i)) (he1 i)) (hw i) (hs i), fun σ W δ M o E w s e q => ?_⟩
  unfold sPar at e
  split at e
  · rename_i d M1 h1
    split at e
    · rename_i d2 M2 h2
      cases e
      refine ra σ W δ M d M1 _ w s h1 fun v W1 l1 w1 r1 => ?_
      refine rb σ W1 δ M1 d2 _ _ w1 (s.le l1) h2 fun u W2 l2 w2 r2 => ?_
      exact ⟨v, u, rfl, q _ W2 (l1.trans l2) w2 (((s.le (l1.trans l2)).set (r1.le l2) a).set r2 b)⟩
    · cases e
  · cases e

/-! ### what is walked -/
/-- from W0 on an iterator gives ds -/
def Wk (K : PySem.W.Frag) (J : It) (W0 : Wd) (ds : List D) : Prop := ∀ (i : Nat) (W : Wd) (M : Mh), W0.Lo W → W.Ok K M →
  (ds[i]? = none → J.stop i W.H) ∧ (∀ d, ds[i]? = some d → J.go i W.H ∧ ∀ x H', J.yld i W.H x H' → ∃ W', W'.H = H' ∧ W.Le W' ∧ W'.Ok K M ∧ Rep K W'.B W'.ι x d)
structure DI (X : I → Cx) (K : PySem.W.Frag) (tg iter : Expr) (f : AF) : Prop where
  go : ∃ t : TI, (∀ i, PI (X i) tg iter t) ∧ ∀ (σ : St) (W : Wd) (δ : Env) (M : Mh) (ds : List D) (M' : Mh) (R : It → Hp → Prop), W.Ok K M → Slots K W σ δ → f δ M = some (ds, M') → (∀ J W', W.Le W' → W'.Ok K M' → Wk K J W' ds → R J W'.H) → t σ W.H R
theorem wk_list {W0 : Wd} {a : Addr} {vs : List V} {ds : List D} (h : SqL K W0.B a vs) (r : RepL K W0.B W0.ι vs ds) : Wk K (Itl K a) W0 ds := fun i W M l w => by
  have hs : SqL K W.H a vs := sqL_mono w.sub (sqL_mono l.same h)
  have r' := r.mono l.same l.ix
  refine ⟨fun e => ⟨vs, hs, by rw [r.len]; exact List.getElem?_eq_none_iff.mp e⟩, fun d e => ?_⟩
  obtain ⟨v, h1, h2⟩ := r'.get e
  refine ⟨⟨vs, v, hs, h1⟩, fun x H' y => ?_⟩
  obtain ⟨e1, e2⟩ := y
  have e3 := (e2 vs hs).symm.trans h1
  cases e3
  exact ⟨W, e1.symm, .refl W, w, h2⟩
theorem wk_tup {W0 : Wd} {a : Addr} {vs : List V} {ds : List D} (h : SqT K W0.B a vs) (r : RepL K W0.B W0.ι vs ds) : Wk K (Itt K a) W0 ds := fun i W M l w => by
  have hs : SqT K W.H a vs := sqT_mono w.sub (sqT_mono l.same h)
  have r' := r.mono l.same l.ix
  refine ⟨fun e => ⟨vs, hs, by rw [r.len]; exact List.getElem?_eq_none_iff.mp e⟩, fun d e => ?_⟩
  obtain ⟨v, h1, h2⟩ := r'.get e
  refine ⟨⟨vs, v, hs, h1⟩, fun x H' y => ?_⟩
  obtain ⟨e1, e2⟩ := y
  have e3 := (e2 vs hs).symm.trans h1
  cases e3
  exact ⟨W, e1.symm, .refl W, w, h2⟩
def aItems (f : EF) : AF := fun δ M => match f δ M with
  | some (.lst ds, M1) => some (ds, M1)
  | some (.lsk ds, M1) => some (ds, M1)
  | some (.tup ds, M1) => some (ds, M1)
  | _ => none
theorem pi_or {Y : Cx} {tg e : Expr} {t u : TI} (a : PI Y tg e t) (b : PI Y tg e u) : PI Y tg e (fun σ H R => t σ H R ∨ u σ H R) := ⟨fun pins s σ H R I h => by
  rcases h with h | h
  · exact a.run pins s σ H R I h
  · exact b.run pins s σ H R I h⟩
theorem DI.seq (c : Ctx X P w K mg base k) {tg e : Expr} {f : EF} (a : DE X K e f) : DI X K tg e (aItems f) := by
  obtain ⟨t, p, r⟩ := a.go
  refine ⟨fun σ H R => iList K t σ H R ∨ iTup K t σ H R, fun i => ?_, fun σ W δ M ds M' R w s e q => ?_⟩
  · have h1 := pi_list (tg := tg) (p i)
    have h2 := pi_tup (tg := tg) (p i)
    rw [c.K i] at h1 h2
    exact pi_or h1 h2
  · unfold aItems at e
    split at e
    · rename_i es M1 h
      cases e
      refine .inl (r σ W δ M _ _ _ w s h fun v W1 l1 w1 r1 => ?_)
      cases r1 with
      | lst h1 r1 => exact ⟨_, rfl, ⟨_, .inl (.inl (w1.sub _ _ h1))⟩, q _ W1 l1 w1 (wk_list (.inl (.inl h1)) r1)⟩
    · rename_i es M1 h
      cases e
      refine .inl (r σ W δ M _ _ _ w s h fun v W1 l1 w1 r1 => ?_)
      cases r1 with
      | lsk h1 r1 => exact ⟨_, rfl, ⟨_, sqL_mono w1.sub h1⟩, q _ W1 l1 w1 (wk_list h1 r1)⟩
    · rename_i es M1 h
      cases e
      refine .inr (r σ W δ M _ _ _ w s h fun v W1 l1 w1 r1 => ?_)
      cases r1 with
      | tup h1 r1 => exact ⟨_, rfl, ⟨_, sqT_mono w1.sub h1⟩, q _ W1 l1 w1 (wk_tup h1 r1)⟩
    · cases e
/-- lo, lo + 1, .. below hi -/
def rng (lo hi : Int) : List D := (List.range (hi - lo).toNat).map fun i => .int (lo + (i : Nat))
theorem wk_rng {W0 : Wd} {lo hi : Int} : Wk K (Itr lo (hi - lo).toNat) W0 (rng lo hi) := fun i W M l w => by
  refine ⟨fun e => ?_, fun d e => ?_⟩
  · have h := List.getElem?_eq_none_iff.mp e
    rw [show (rng lo hi).length = (hi - lo).toNat by simp [rng]] at h
    exact h
  · have h := (List.getElem?_eq_some_iff.mp e).1
    rw [show (rng lo hi).length = (hi - lo).toNat by simp [rng]] at h
    refine ⟨h, fun x H' y => ?_⟩
    obtain ⟨e1, e2⟩ := y
    subst e2
    have e3 : d = .int (lo + (i : Nat)) := by
      unfold rng at e
      rw [List.getElem?_map, List.getElem?_range h] at e
      exact (Option.some.inj e).symm
    subst e3
    exact ⟨W, e1.symm, .refl W, w, .int _⟩
def aRng1 (f : AF) : AF := fun δ M => match f δ M with
  | some ([.int j], M1) => if -(2 ^ 62) ≤ j ∧ j < 2 ^ 62 then some (rng 0 j, M1) else none
  | _ => none
def aRng2 (f : AF) : AF := fun δ M => match f δ M with
  | some ([.int i, .int j], M1) => if -(2 ^ 62) ≤ i ∧ i < 2 ^ 62 ∧ -(2 ^ 62) ≤ j ∧ j < 2 ^ 62 then some (rng i j, M1) else none
  | _ => none
theorem DI.rng1 (c : Ctx X P w K mg base k) (hm : mg "range" = none) {tg a : Expr} {p pos : Pos} {f : AF} (h : DA X K [a] f) (hg : ∀ i, Gl (X i) "range" := by intro _; rfl) (hs : ∀ i, starEach [a] (X i).env = [(false, eval a (X i).env)] := by intro _; rfl) :
    DI X K tg (.Call (.Name "range" p) [a] [] pos) (aRng1 f) := by
  obtain ⟨t, pa, r⟩ := h.go
  refine ⟨iRng1 t, fun i => pi_range1 (hg i) (by rw [c.mg i]; exact hm) (pa i) (hs i), fun σ W δ M ds M' R w s e q => ?_⟩
  unfold aRng1 at e
  split at e
  · rename_i j M1 h1
    split at e
    · rename_i hb
      cases e
      refine r σ W δ M _ _ _ w s h1 fun v W1 l1 w1 r1 => ?_
      cases r1 with
      | cons r1 r2 =>
        cases r1
        cases r2
        refine ⟨j, rfl, hb.1, hb.2, ?_⟩
        have := q (Itr 0 (j - 0).toNat) W1 l1 w1 wk_rng
        rw [Int.sub_zero] at this
        exact this
    · cases e
  · cases e
theorem DI.rng2 (c : Ctx X P w K mg base k) (hm : mg "range" = none) {tg a b : Expr} {p pos : Pos} {f : AF} (h : DA X K [a, b] f) (hg : ∀ i, Gl (X i) "range" := by intro _; rfl) (hs : ∀ i, starEach [a, b] (X i).env = [(false, eval a (X i).env), (false, eval b (X i).env)] := by intro _; rfl)
    (hs2 : ∀ i, starEach [b] (X i).env = [(false, eval b (X i).env)] := by intro _; rfl) :
    DI X K tg (.Call (.Name "range" p) [a, b] [] pos) (aRng2 f) := by
  obtain ⟨t, pa, r⟩ := h.go
  refine ⟨iRng2 t, fun i => pi_range2 (hg i) (by rw [c.mg i]; exact hm) (pa i) (hs i) (hs2 i), fun σ W δ M ds M' R w s e q => ?_⟩
  unfold aRng2 at e
  split at e
  · rename_i i j M1 h1
    split at e
    · rename_i hb
      cases e
      refine r σ W δ M _ _ _ w s h1 fun v W1 l1 w1 r1 => ?_
      cases r1 with
      | cons r1 r2 =>
        cases r1
        cases r2 with
        | cons r2 r3 =>
          cases r2
          cases r3
          exact ⟨i, j, rfl, hb, q (Itr i (j - i).toNat) W1 l1 w1 wk_rng⟩
    · cases e
  · cases e

/-! ### for -/
def forGo (g : GF) (b : SF) : List D → Env → Mh → Option Out
  | [], δ, M => some (.nx δ M)
  | x :: xs, δ, M => match g x δ with
    | none => none
    | some δ1 => match b δ1 M with
      | some (.nx δ' M') => forGo g b xs δ' M'
      | some (.ct δ' M') => forGo g b xs δ' M'
      | some (.bk δ' M') => some (.nx δ' M')
      | some (.rt d M') => some (.rt d M')
      | none => none
def sFor (a : AF) (g : GF) (b : SF) : SF := fun δ M => match a δ M with
  | some (ds, M1) => forGo g b ds δ M1
  | none => none
theorem DS.for (c : Ctx X P w K mg base k) {tg iter : Expr} {body : List Stmt} {pos} {a : AF} {g : GF} {b : SF} {sl : List Nat} (hp : ∀ i, PassesOwn (model (X i).prog (X i).w) (X i).A (X i).env (X i).xe) (hi : DI X K tg iter a) (hg : DG X K tg g sl) (hb : DB X K body b)
    (hs : ∀ i x, foldedSetIterable iter (X i).env x = pure x := by intro _ _; rfl) : DS X K (.For tg iter body [] pos) (sFor a g b) := by
  obtain ⟨ti, pi, ri⟩ := hi.go
  obtain ⟨tg, pg, rg⟩ := hg.go
  obtain ⟨tb, pb, rb⟩ := hb.go
  refine ⟨tFor ti tg tb, fun i => ps_for (hp i) (c.calm i) (pi i) (pg i) (pb i) (hs i), fun σ W δ M o E w s e q => ?_⟩
  unfold sFor at e
  split at e
  · rename_i ds M1 h1
    refine ri σ W δ M ds M1 _ w s h1 fun J W1 l1 w1 wk => ?_
    refine ⟨fun i m σ' H => ∃ W' δ' M', W'.H = H ∧ W1.Le W' ∧ W'.Ok K M' ∧ Slots K W' σ' δ' ∧ i + m = ds.length ∧ forGo g b (ds.drop i) δ' M' = some o, ⟨ds.length, W1, δ, M1, rfl, .refl W1, w1, s.le l1, by omega, e⟩, ?_⟩
    rintro i m σ' H ⟨W', δ', M', rfl, l', w', s', em, e'⟩
    obtain ⟨k1, k2⟩ := wk i W' M' l'.lo w'
    cases hd : ds[i]? with
    | none =>
      have hl : ds.length ≤ i := List.getElem?_eq_none_iff.mp hd
      rw [List.drop_of_length_le hl] at e'
      cases e'
      exact .inl ⟨k1 hd, q σ' W' (l1.trans l') w' s'⟩
    | some d =>
      obtain ⟨hgo, hy⟩ := k2 d hd
      have hl : i < ds.length := (List.getElem?_eq_some_iff.mp hd).1
      have hdr : ds.drop i = d :: ds.drop (i + 1) := by
        rw [List.drop_eq_getElem_cons hl]
        congr 1
        exact Option.some.inj ((List.getElem?_eq_getElem hl).symm.trans hd)
      rw [hdr] at e'
      unfold forGo at e'
      refine .inr ⟨hgo, fun σ2 H2 => ∃ W2 δ2 M2, W2.H = H2 ∧ W1.Le W2 ∧ W2.Ok K M2 ∧ Slots K W2 σ2 δ2 ∧ forGo g b (ds.drop (i + 1)) δ2 M2 = some o, fun σ2 H2 ⟨W2, δ2, M2, a1, a2, a3, a4, a5⟩ => ⟨m - 1, by omega, W2, δ2, M2, a1, a2, a3, a4, by omega, a5⟩, fun x H' y => ?_⟩
      obtain ⟨W3, rfl, l3, w3, r3⟩ := hy x H' y
      split at e'
      · cases e'
      · rename_i δ1 h2
        refine rg x d σ' W3 δ' δ1 M' _ w3 (s'.le l3) r3 h2 fun σ3 s3 _ => ?_
        split at e'
        · rename_i δ4 M4 h3
          exact rb σ3 W3 δ1 M' _ _ w3 s3 h3 fun σ4 W4 l4 w4 s4 => ⟨W4, δ4, M4, rfl, (l'.trans l3).trans l4, w4, s4, e'⟩
        · rename_i δ4 M4 h3
          exact rb σ3 W3 δ1 M' _ _ w3 s3 h3 fun σ4 W4 l4 w4 s4 => ⟨W4, δ4, M4, rfl, (l'.trans l3).trans l4, w4, s4, e'⟩
        · rename_i δ4 M4 h3
          cases e'
          exact rb σ3 W3 δ1 M' _ _ w3 s3 h3 fun σ4 W4 l4 w4 s4 => q σ4 W4 (((l1.trans l').trans l3).trans l4) w4 s4
        · rename_i d4 M4 h3
          cases e'
          exact rb σ3 W3 δ1 M' _ _ w3 s3 h3 fun v W4 l4 w4 r4 => q v W4 (((l1.trans l').trans l3).trans l4) w4 r4
        · cases e'
  · cases e
/-! ### while -/
def whN (c : TF) (b : SF) : Nat → Env → Mh → Option Out
  | 0, _, _ => none
  | n + 1, δ, M => match c δ M with
    | some (true, M1) => (match b δ M1 with
      | some (.nx δ' M') => whN c b n δ' M'
      | some (.ct δ' M') => whN c b n δ' M'
      | some (.bk δ' M') => some (.nx δ' M')
      | some (.rt d M') => some (.rt d M')
      | none => none)
    | some (false, M1) => some (.nx δ M1)
    | none => none
open Classical in
noncomputable def sWh (c : TF) (b : SF) : SF := fun δ M => if h : ∃ n o, whN c b n δ M = some o then some (Classical.choose (Classical.choose_spec h)) else none
theorem whN_mono (c : TF) (b : SF) : ∀ (n m : Nat) (δ : Env) (M : Mh) (o : Out), n ≤ m → whN c b n δ M = some o → whN c b m δ M = some o
  | 0, _, _, _, _, _, h => by cases h
  | n + 1, 0, _, _, _, hl, _ => absurd hl (by omega)
  | n + 1, m + 1, δ, M, o, hl, h => by
    unfold whN at h ⊢
    split at h
    · split at h
      · exact whN_mono c b n m _ _ o (by omega) h
      · exact whN_mono c b n m _ _ o (by omega) h
      · exact h
      · exact h
      · cases h
    · exact h
    · cases h
theorem sWh_of {c : TF} {b : SF} {n : Nat} {δ : Env} {M : Mh} {o : Out} (h : whN c b n δ M = some o) : sWh c b δ M = some o := by
  have hx : ∃ n o, whN c b n δ M = some o := ⟨n, o, h⟩
  unfold sWh
  rw [dif_pos hx]
  have h2 := Classical.choose_spec (Classical.choose_spec hx)
  have a := whN_mono c b _ (max n (Classical.choose hx)) δ M _ (Nat.le_max_right _ _) h2
  have d := whN_mono c b _ (max n (Classical.choose hx)) δ M _ (Nat.le_max_left _ _) h
  exact a.symm.trans d
theorem of_sWh {c : TF} {b : SF} {δ : Env} {M : Mh} {o : Out} (h : sWh c b δ M = some o) : ∃ n, whN c b n δ M = some o := by
  unfold sWh at h
  split at h
  · rename_i hx
    have h2 := Classical.choose_spec (Classical.choose_spec hx)
    cases h
    exact ⟨_, h2⟩
  · cases h
/-- one turn -/
theorem sWh_eq (c : TF) (b : SF) (δ : Env) (M : Mh) : sWh c b δ M = (match c δ M with
    | some (true, M1) => (match b δ M1 with
      | some (.nx δ' M') => sWh c b δ' M'
      | some (.ct δ' M') => sWh c b δ' M'
      | some (.bk δ' M') => some (.nx δ' M')
      | some (.rt d M') => some (.rt d M')
      | none => none)
    | some (false, M1) => some (.nx δ M1)
    | none => none) := by
  apply Option.ext
  intro o
  constructor
  · intro h
    obtain ⟨n, hn⟩ := of_sWh h
    cases n with
    | zero => cases hn
    | succ n =>
      unfold whN at hn
      split at hn
      · split at hn
        · exact sWh_of hn
        · exact sWh_of hn
        · exact hn
        · exact hn
        · cases hn
      · exact hn
      · cases hn
  · intro h
    split at h
    · rename_i M1 h1
      split at h
      · rename_i δ' M' h2
        obtain ⟨n, hn⟩ := of_sWh h
        refine sWh_of (n := n + 1) ?_
        unfold whN
        rw [h1]
        dsimp only
        rw [h2]
        exact hn
      · rename_i δ' M' h2
        obtain ⟨n, hn⟩ := of_sWh h
        refine sWh_of (n := n + 1) ?_
        unfold whN
        rw [h1]
        dsimp only
        rw [h2]
        exact hn
      · rename_i δ' M' h2
        refine sWh_of (n := 1) ?_
        unfold whN
        rw [h1]
        dsimp only
        rw [h2]
        exact h
      · rename_i d' M' h2
        refine sWh_of (n := 1) ?_
        unfold whN
        rw [h1]
        dsimp only
        rw [h2]
        exact h
      · cases h
    · rename_i M1 h1
      refine sWh_of (n := 1) ?_
      unfold whN
      rw [h1]
      exact h
    · cases h
theorem DS.wh {cnd : Expr} {body : List Stmt} {pos} {t : TF} {b : SF} (hp : ∀ i, PassesOwn (model (X i).prog (X i).w) (X i).A (X i).env (X i).xe) (hc : DT X K cnd t) (hb : DB X K body b) : DS X K (.While cnd body [] pos) (sWh t b) := by
  obtain ⟨tt, pt, rt⟩ := hc.go
  obtain ⟨tb, pb, rb⟩ := hb.go
  refine ⟨tWhile tt tb, fun i => ps_while (hp i) (pt i) (pb i), fun σ W δ M o E w s e q => ?_⟩
  obtain ⟨n, hn⟩ := of_sWh e
  refine ⟨fun m σ' H => ∃ W' δ' M', W'.H = H ∧ W.Le W' ∧ W'.Ok K M' ∧ Slots K W' σ' δ' ∧ whN t b m δ' M' = some o, ⟨n, W, δ, M, rfl, .refl W, w, s, hn⟩, ?_⟩
  rintro m σ' H ⟨W', δ', M', rfl, l', w', s', e'⟩
  cases m with
  | zero => cases e'
  | succ m =>
    unfold whN at e'
    split at e'
    · rename_i M1 h1
      refine rt σ' W' δ' M' _ M1 _ w' s' h1 fun W1 l1 w1 => ifT ?_
      refine ⟨fun σ2 H2 => ∃ W2 δ2 M2, W2.H = H2 ∧ W.Le W2 ∧ W2.Ok K M2 ∧ Slots K W2 σ2 δ2 ∧ whN t b m δ2 M2 = some o, fun σ2 H2 ⟨W2, δ2, M2, a1, a2, a3, a4, a5⟩ => ⟨m, by omega, W2, δ2, M2, a1, a2, a3, a4, a5⟩, ?_⟩
      split at e'
      · rename_i δ4 M4 h3
        exact rb σ' W1 δ' M1 _ _ w1 (s'.le l1) h3 fun σ4 W4 l4 w4 s4 => ⟨W4, δ4, M4, rfl, (l'.trans l1).trans l4, w4, s4, e'⟩
      · rename_i δ4 M4 h3
        exact rb σ' W1 δ' M1 _ _ w1 (s'.le l1) h3 fun σ4 W4 l4 w4 s4 => ⟨W4, δ4, M4, rfl, (l'.trans l1).trans l4, w4, s4, e'⟩
      · rename_i δ4 M4 h3
        cases e'
        exact rb σ' W1 δ' M1 _ _ w1 (s'.le l1) h3 fun σ4 W4 l4 w4 s4 => q σ4 W4 ((l'.trans l1).trans l4) w4 s4
      · rename_i d4 M4 h3
        cases e'
        exact rb σ' W1 δ' M1 _ _ w1 (s'.le l1) h3 fun v W4 l4 w4 r4 => q v W4 ((l'.trans l1).trans l4) w4 r4
      · cases e'
    · rename_i M1 h1
      cases e'
      exact rt σ' W' δ' M' _ _ _ w' s' h1 fun W1 l1 w1 => ifF (q σ' W1 (l'.trans l1) w1 (s'.le l1))
    · cases e'
end
end Pl

namespace Pl
open PySem L2
section
variable {I : Type} {X : I → Cx} {P : Program} {w : World} {K : PySem.W.Frag} {mg : Str → Option Value} {base : Heap} {k : Nat}

/-! ### list comprehensions -/
/-- the block's contexts -/
def blkF (X : I → Cx) (scope : Scope) (j : I × Shared × Hp × Addr × List (Str × Addr) × List Addr) : Cx := (X j.1).blk j.2.1 j.2.2.1 scope (compEnvC scope j.2.2.2.2.1 j.2.2.2.1 (X j.1).env) j.2.2.2.2.2
theorem Ctx.blk (c : Ctx X P w K mg base k) (scope : Scope) : Ctx (blkF X scope) P w K mg base k :=
  ⟨fun j => c.prog j.1, fun j => c.wd j.1, fun j => c.K j.1, fun j => c.mg j.1, fun j => c.base j.1, fun j => c.room j.1, fun j => c.grd j.1, fun j => c.calm j.1⟩
structure DTs (X : I → Cx) (K : PySem.W.Frag) (ifs : List Expr) (f : TF) : Prop where
  go : ∃ t : TT, (∀ i, PTs (X i) ifs t) ∧ TR K t f
def tTrue : TF := fun _ M => some (true, M)
theorem DTs.nil : DTs X K [] tTrue := ⟨tYes, fun i => pts_nil, fun σ W δ M b M' Q w s e q => by
  cases e
  exact q W (.refl W) w⟩
theorem DTs.one {e : Expr} {f : TF} (h : DT X K e f) : DTs X K [e] f := by
  obtain ⟨t, p, r⟩ := h.go
  exact ⟨t, fun i => pts_one (p i), r⟩
def wipeD (δ : Env) : List Nat → Env
  | [] => δ
  | v :: vs => (wipeD δ vs).set v none
theorem Slots.wipe {W : Wd} {σ : St} {δ : Env} (s : Slots K W σ δ) : ∀ vs : List Nat, Slots K W (wipe σ vs) (wipeD δ vs)
  | [] => s
  | v :: vs => by
    have ih := s.wipe vs
    refine ⟨?_, fun i d h => ?_⟩
    · show ((L2.wipe σ vs).set v none).length = ((wipeD δ vs).set v none).length
      rw [List.length_set, List.length_set]
      exact ih.len
    · have h' : ((wipeD δ vs).set v none)[i]? = some (some d) := h
      show ∃ u, ((L2.wipe σ vs).set v none)[i]? = some (some u) ∧ _
      rw [List.getElem?_set] at h' ⊢
      by_cases e : v = i
      · rw [if_pos e] at h'
        split at h' <;> cases h'
      · rw [if_neg e] at h' ⊢
        exact ih.at_ i d h'
def lcGo (g : GF) (t : TF) (f : EF) : List D → Env → Mh → Option (List D × Mh)
  | [], _, M => some ([], M)
  | x :: xs, δ, M => match g x δ with
    | none => none
    | some δ1 => match t δ1 M with
      | some (true, M1) => (match f δ1 M1 with
        | some (y, M2) => (match lcGo g t f xs δ M2 with
          | some (ys, M3) => some (y :: ys, M3)
          | none => none)
        | none => none)
      | some (false, M1) => lcGo g t f xs δ M1
      | none => none
def eLc (vs : List Nat) (a : AF) (g : GF) (t : TF) (f : EF) : EF := fun δ M => match a δ M with
  | some (ds, M1) => (match lcGo g t f ds (wipeD δ vs) M1 with
    | some (ys, M2) => if ys.length ≤ sizeLine then some (.lst ys, M2) else none
    | none => none)
  | none => none
/-- the world while a list is made at p -/
def Wd.mk' (W : Wd) (H : Hp) (P : Hp) : Wd := ⟨H, W.B, W.ι, P⟩
theorem Slots.cong {W W' : Wd} {σ : St} {δ : Env} (s : Slots K W σ δ) (h1 : W'.B = W.B) (h2 : W'.ι = W.ι) : Slots K W' σ δ := ⟨s.len, fun i d h => by
  rw [h1, h2]
  exact s.at_ i d h⟩
theorem Wd.hold_put {W : Wd} {M : Mh} {p : Addr} {o o' : HO} (w : W.Ok K M) (hp : W.P p = some o) : (⟨upd W.H p o', W.B, W.ι, upd W.P p o'⟩ : Wd).Ok K M := by
  have ne : ∀ {n a u}, Live W M n a u → a ≠ p := fun {n a u} h e => by
    obtain ⟨_, q, _⟩ := w.live n a u h
    rw [e, hp] at q
    cases q
  have bp := (w.pin p o hp).2
  refine ⟨fun a u h => ?_, fun a u h => ?_, w.len, fun n a u h => ?_, fun n m a u v h k => w.inj n m a u v h k⟩
  · exact (upd_ne (fun e => by
      rw [e] at h
      have h' : W.B p = some u := h
      rw [bp] at h'
      cases h')).trans (w.sub a u h)
  · by_cases e : a = p
    · subst e
      have h' : upd W.P a o' a = some u := h
      rw [upd_same] at h'
      exact ⟨upd_same.trans h', bp⟩
    · have h' : upd W.P p o' a = some u := h
      rw [upd_ne e] at h'
      have q := w.pin a u h'
      exact ⟨(upd_ne e).trans q.1, q.2⟩
  · obtain ⟨h1, h2, k, h3, h4⟩ := w.live n a u h
    exact ⟨h1, (upd_ne (ne h)).trans h2, k, (upd_ne (ne h)).trans h3, h4⟩
theorem Wd.unhold {W : Wd} {M : Mh} {p : Addr} {o : HO} {P0 : Hp} (w : W.Ok K M) (hP : W.P = upd P0 p o) (h0 : P0 p = none) : (⟨W.H, upd W.B p o, W.ι, P0⟩ : Wd).Ok K M := by
  have hp : W.P p = some o := by rw [hP, upd_same]
  have ne : ∀ {n a u}, Live W M n a u → a ≠ p := fun {n a u} h e => by
    obtain ⟨_, q, _⟩ := w.live n a u h
    rw [e, hp] at q
    cases q
  have bp := (w.pin p o hp)
  refine ⟨fun a u h => ?_, fun a u h => ?_, w.len, fun n a u h => ?_, fun n m a u v h k => w.inj n m a u v h k⟩
  · by_cases e : a = p
    · subst e
      have h' : upd W.B a o a = some u := h
      rw [upd_same] at h'
      cases h'
      exact bp.1
    · have h' : upd W.B p o a = some u := h
      rw [upd_ne e] at h'
      exact w.sub a u h'
  · have h' : P0 a = some u := h
    have e : a ≠ p := fun e => by
      rw [e, h0] at h'
      cases h'
    have q := w.pin a u (by rw [hP, upd_ne e]; exact h')
    exact ⟨q.1, (upd_ne e).trans q.2⟩
  · obtain ⟨h1, h2, k, h3, h4⟩ := w.live n a u h
    have e := ne h
    rw [hP, upd_ne e] at h2
    exact ⟨(upd_ne e).trans h1, h2, k, h3, h4.mono (updk bp.2) fun _ _ q => q⟩
theorem wipe_twice (σ : St) : ∀ vs : List Nat, L2.wipe (L2.wipe σ vs) vs = L2.wipe σ vs := fun vs => by
  have h : ∀ us : List Nat, (∀ j ∈ us, j ∈ vs) → L2.wipe (L2.wipe σ us) vs = L2.wipe σ vs := fun us => by
    induction us with
    | nil => exact fun _ => rfl
    | cons u us ih =>
      intro hu
      show L2.wipe ((L2.wipe σ us).set u none) vs = _
      rw [(wipe_set _ none u vs).1 (hu u List.mem_cons_self)]
      exact ih fun j hj => hu j (List.mem_cons_of_mem _ hj)
  exact h vs fun _ z => z
/-- the reading of a comprehension, from its parts' -/
theorem lc_er {ti : TI} {tg : TG} {tt : TT} {te : TE} {vs : List Nat} {a : AF} {g : GF} {t : TF} {f : EF} {sl : List Nat}
    (ri : ∀ (σ : St) (W : Wd) (δ : Env) (M : Mh) (ds : List D) (M' : Mh) (R : It → Hp → Prop), W.Ok K M → Slots K W σ δ → a δ M = some (ds, M') → (∀ J W', W.Le W' → W'.Ok K M' → Wk K J W' ds → R J W'.H) → ti σ W.H R)
    (rg : GR K tg g sl) (hsl : ∀ j ∈ sl, j ∈ vs) (rt : TR K tt t) (re : ER K te f) : ER K (tLc ti tg tt te vs) (eLc vs a g t f) := fun σ W δ M d M' Q w s e q => by
  unfold eLc at e
  split at e
  · rename_i ds M1 h1
    split at e
    · rename_i fin M2 h2
      split at e
      · rename_i hlen
        cases e
        refine ri σ W δ M ds M1 _ w s h1 fun J W1 l1 w1 wk => fun p hp => ?_
        have P0 : W1.P p = none := w1.pnone hp
        have B0 : W1.B p = none := w1.bnone hp
        refine ⟨fun i m H => ∃ (W' : Wd) (N : Mh) (acc : List V) (ac ys : List D), W'.H = H ∧ W1.Le (W'.mk' W'.H W1.P) ∧ W'.P = upd W1.P p (.lst acc) ∧ W'.Ok K N ∧ RepL K W'.B W'.ι acc ac ∧ i + m = ds.length ∧ lcGo g t f (ds.drop i) (wipeD δ vs) N = some (ys, M') ∧ ac ++ ys = fin,
          ⟨ds.length, W1.hold p (.lst []), M1, [], [], fin, rfl, ⟨fun _ _ h => h, ⟨[], by simp [Wd.mk', Wd.hold]⟩, rfl⟩, rfl, Wd.hold_ok w1 hp, .nil, by omega, h2, rfl⟩, ?_⟩
        rintro i m H ⟨W', N, acc, ac, ys, rfl, l', hP, w', ra, em, e', ef⟩
        obtain ⟨k1, k2⟩ := wk i W' N ⟨l'.same, l'.pre⟩ w'
        cases hd : ds[i]? with
        | none =>
          have hl : ds.length ≤ i := List.getElem?_eq_none_iff.mp hd
          rw [List.drop_of_length_le hl] at e'
          cases e'
          rw [List.append_nil] at ef
          subst ef
          have u := Wd.unhold w' hP P0
          refine .inl ⟨k1 hd, q _ ⟨W'.H, upd W'.B p (.lst acc), W'.ι, W1.P⟩ (l1.trans ⟨fun b o h => ?_, l'.pre, rfl⟩) u (.lst upd_same (ra.mono (updk (w'.pin p (.lst acc) (by rw [hP, upd_same])).2) fun _ _ z => z))⟩
          have hb : b ≠ p := fun z => by
            rw [z, B0] at h
            cases h
          show upd W'.B p (.lst acc) b = some o
          rw [upd_ne hb]
          exact l'.same b o h
        | some x0 =>
          obtain ⟨hgo, hy⟩ := k2 x0 hd
          have hl : i < ds.length := (List.getElem?_eq_some_iff.mp hd).1
          have hdr : ds.drop i = x0 :: ds.drop (i + 1) := by
            rw [List.drop_eq_getElem_cons hl]
            congr 1
            exact Option.some.inj ((List.getElem?_eq_getElem hl).symm.trans hd)
          rw [hdr] at e'
          unfold lcGo at e'
          refine .inr ⟨hgo, fun H2 => ∃ (W2 : Wd) (N2 : Mh) (acc2 : List V) (ac2 ys2 : List D), W2.H = H2 ∧ W1.Le (W2.mk' W2.H W1.P) ∧ W2.P = upd W1.P p (.lst acc2) ∧ W2.Ok K N2 ∧ RepL K W2.B W2.ι acc2 ac2 ∧ lcGo g t f (ds.drop (i + 1)) (wipeD δ vs) N2 = some (ys2, M') ∧ ac2 ++ ys2 = fin,
            fun H2 ⟨W2, N2, acc2, ac2, ys2, a1, a2, a3, a4, a5, a6, a7⟩ => ⟨m - 1, by omega, W2, N2, acc2, ac2, ys2, a1, a2, a3, a4, a5, by omega, a6, a7⟩, fun x H' y => ?_⟩
          obtain ⟨W3, rfl, l3, w3, r3⟩ := hy x H' y
          have sw : Slots K W3 (L2.wipe σ vs) (wipeD δ vs) := ((((s.le l1).wipe vs).le l').cong (W' := W') rfl rfl).le l3
          have up : ∀ {W4 : Wd}, W'.Le W4 → W1.Le (W4.mk' W4.H W1.P) := fun {W4} l => l'.trans ⟨l.same, l.pre, rfl⟩
          split at e'
          · cases e'
          · rename_i δ1 h3
            refine rg x x0 _ W3 _ δ1 N _ w3 sw r3 h3 fun σ3 s3 hw => ⟨(hw vs hsl).trans ?_, ?_⟩
            · exact wipe_twice σ vs
            · split at e'
              · rename_i N1 h4
                refine rt σ3 W3 δ1 N _ N1 _ w3 s3 h4 fun W4 l4 w4 => ifT ?_
                split at e'
                · rename_i y0 N2 h5
                  split at e'
                  · rename_i ys2 N3 h6
                    cases e'
                    refine re σ3 W4 δ1 N1 y0 N2 _ w4 (s3.le l4) h5 fun v W5 l5 w5 r5 => ?_
                    have l35 : W'.Le W5 := (l3.trans l4).trans l5
                    have p5 : W5.P = upd W1.P p (.lst acc) := l35.pp.trans hP
                    have p5' : W5.P p = some (.lst acc) := by rw [p5, upd_same]
                    have ra5 := ra.le l35
                    refine ⟨acc, (w5.pin p _ p5').1, ?_, ⟨upd W5.H p (.lst (acc ++ [v])), W5.B, W5.ι, upd W5.P p (.lst (acc ++ [v]))⟩, N2, acc ++ [v], ac ++ [y0], ys2, rfl, l'.trans ⟨l35.same, l35.pre, rfl⟩, ?_, Wd.hold_put w5 p5', ra5.append (.cons r5 .nil), h6, ?_⟩
                    · have := ra.len
                      have h7 := congrArg List.length ef
                      rw [List.length_append, List.length_cons] at h7
                      omega
                    · show upd W5.P p _ = _
                      rw [p5, upd_upd]
                    · rw [List.append_assoc]
                      exact ef
                  · cases e'
                · cases e'
              · rename_i N1 h4
                refine rt σ3 W3 δ1 N _ N1 _ w3 s3 h4 fun W4 l4 w4 => ifF ?_
                have l34 : W'.Le W4 := l3.trans l4
                exact ⟨W4, N1, acc, ac, ys, rfl, up l34, l34.pp.trans hP, w4, ra.le l34, e', ef⟩
              · cases e'
      · cases e
    · cases e
  · cases e
theorem DE.lc (c : Ctx X P w K mg base k) {elt tg iter : Expr} {ifs : List Expr} {scope : Scope} {own : List (Str × Nat)} {pos} {a : AF} {g : GF} {t : TF} {f : EF} {sl : List Nat} (hN : ∀ i, (X i).N.Nodup) (hi : DI X K tg iter a) (ok : ∀ i, BlkOk (X i).N (X i).env.scope scope own)
    (hg : DG (blkF X scope) K tg g sl) (hsl : ∀ j ∈ sl, j ∈ own.map (·.2)) (ht : DTs (blkF X scope) K ifs t) (he : DE (blkF X scope) K elt f) (hs : ∀ i x, foldedSetIterable iter (X i).env x = pure x := by intro _ _; rfl) :
    DE X K (.ListComp elt [⟨tg, iter, ifs, 0⟩] scope pos) (eLc (own.map (·.2)) a g t f) := by
  obtain ⟨ti, pi, ri⟩ := hi.go
  obtain ⟨tg', pg, rg⟩ := hg.go
  obtain ⟨tt, pt, rt⟩ := ht.go
  obtain ⟨te, pe, re⟩ := he.go
  refine ⟨tLc ti tg' tt te (own.map (·.2)), fun i => pe_lc (c.calm i) (hN i) (pi i) (ok i) (fun s H C cl fp => pg (i, s, H, C, cl, fp)) (fun s H C cl fp => pt (i, s, H, C, cl, fp)) (fun s H C cl fp => pe (i, s, H, C, cl, fp)) (hs i), fun σ W δ M d M' Q w s e q => ?_⟩
  exact lc_er ri rg hsl rt re σ W δ M d M' Q w s e q
theorem DS.setLc (j : Nat) (c : Ctx X P w K mg base k) {y : Str} {py : Pos} {elt tg iter : Expr} {ifs : List Expr} {scope : Scope} {own : List (Str × Nat)} {pos spos} {a : AF} {g : GF} {t : TF} {f : EF} {sl : List Nat} (hN : ∀ i, (X i).N.Nodup) (hi : DI X K tg iter a) (ok : ∀ i, BlkOk (X i).N (X i).env.scope scope own)
    (hg : DG (blkF X scope) K tg g sl) (hsl : ∀ j ∈ sl, j ∈ own.map (·.2)) (ht : DTs (blkF X scope) K ifs t) (he : DE (blkF X scope) K elt f) (hs : ∀ i x, foldedSetIterable iter (X i).env x = pure x := by intro _ _; rfl)
    (hy : ∀ i, (X i).N[j]? = some y := by intro _; rfl) (hyl : ∀ i, (X i).env.scope.names.lookup y = some .local := by intro _; rfl) (hsw : ∀ i, swapsWith (.ListComp elt [⟨tg, iter, ifs, 0⟩] scope pos) (some (.Name y py)) spos.line (X i).env = pure true := by intro _; exact sw_true rfl rfl rfl (by decide +kernel)) :
    DS X K (.Assign [.Name y py] (.ListComp elt [⟨tg, iter, ifs, 0⟩] scope pos) spos) (sAs (eLc (own.map (·.2)) a g t f) (gN j)) := by
  obtain ⟨ti, pi, ri⟩ := hi.go
  obtain ⟨tg', pg, rg⟩ := hg.go
  obtain ⟨tt, pt, rt⟩ := ht.go
  obtain ⟨te, pe, re⟩ := he.go
  refine ⟨tAsg (tLc ti tg' tt te (own.map (·.2))) (gName j), fun i => ps_setLc (c.calm i) (hN i) (hy i) (hyl i) (hsw i) (pi i) (ok i) (fun s H C cl fp => pg (i, s, H, C, cl, fp)) (fun s H C cl fp => pt (i, s, H, C, cl, fp)) (fun s H C cl fp => pe (i, s, H, C, cl, fp)) (hs i), sr_as (sl := [j]) (lc_er ri rg hsl rt re) fun v d σ W δ δ' M Q w s r e q => ?_⟩
  cases e
  exact q _ (s.set r j) fun vs h => (wipe_set σ _ j vs).1 (h j List.mem_cons_self)
end
end Pl

namespace Pl
open PySem L2
section
variable {I : Type} {X : I → Cx} {P : Program} {w : World} {K : PySem.W.Frag} {mg : Str → Option Value} {base : Heap} {k : Nat}

/-! ### numbers -/
def gInt (h : Int → Int → D) : O2 := fun a b M => match a, b with
  | .int i, .int j => some (h i j, M)
  | _, _ => none
theorem od_int0 {g : Int → Int → V} {h : Int → Int → D} (r : ∀ B ι i j, Rep K B ι (g i j) (h i j)) : OD K (rI0 g) (gInt h) := fun W M x y a b z M' Q w ra rb e q => by
  unfold gInt at e
  split at e
  · cases ra
    cases rb
    cases e
    exact ⟨_, _, rfl, rfl, q _ W (.refl W) w (r _ _ _ _)⟩
  · cases e
theorem opAdd : OpF X K (binaryOp .Add) (gInt fun i j => .int (i + j)) := ⟨_, fun _ => op_add, od_int0 fun _ _ _ _ => .int _⟩
theorem opSub : OpF X K (binaryOp .Sub) (gInt fun i j => .int (i - j)) := ⟨_, fun _ => op_sub, od_int0 fun _ _ _ _ => .int _⟩
theorem opLt : OpF X K (compareOp .Lt) (gInt fun i j => .bl (decide (i < j))) := ⟨_, fun _ => op_lt, od_int0 fun _ _ _ _ => .bl _⟩
theorem opLe : OpF X K (compareOp .LtE) (gInt fun i j => .bl (decide (i ≤ j))) := ⟨_, fun _ => op_le, od_int0 fun _ _ _ _ => .bl _⟩
theorem opGt : OpF X K (compareOp .Gt) (gInt fun i j => .bl (decide (j < i))) := ⟨_, fun _ => op_gt, od_int0 fun _ _ _ _ => .bl _⟩
theorem opGe : OpF X K (compareOp .GtE) (gInt fun i j => .bl (decide (j ≤ i))) := ⟨_, fun _ => op_ge, od_int0 fun _ _ _ _ => .bl _⟩
def gIntC (C : Int → Int → Prop) [∀ i j, Decidable (C i j)] (h : Int → Int → D) : O2 := fun a b M => match a, b with
  | .int i, .int j => if C i j then some (h i j, M) else none
  | _, _ => none
theorem od_intC {C : Int → Int → Prop} [∀ i j, Decidable (C i j)] {C' : Int → Int → Prop} {g : Int → Int → V} {h : Int → Int → D} (hc : ∀ i j, C i j → C' i j) (r : ∀ B ι i j, Rep K B ι (g i j) (h i j)) : OD K (rI C' g) (gIntC C h) := fun W M x y a b z M' Q w ra rb e q => by
  unfold gIntC at e
  split at e
  · split at e
    · rename_i c
      cases ra
      cases rb
      cases e
      exact ⟨_, _, rfl, rfl, hc _ _ c, q _ W (.refl W) w (r _ _ _ _)⟩
    · cases e
  · cases e
abbrev MulOk (i j : Int) : Prop := (Builtin.Int.intBits i : Int) + (Builtin.Int.intBits j : Int) ≤ 134217728
theorem mulOk {i j : Int} {a b : Nat} (ha : i.natAbs < 2 ^ a) (hb : j.natAbs < 2 ^ b) (h : a + b ≤ 134217728) : MulOk i j := mulx_ok ha hb h
theorem opMul : OpF X K (binaryOp .Mult) (gIntC MulOk fun i j => .int (i * j)) := ⟨_, fun _ => op_mulX, od_intC (fun _ _ h => h) fun _ _ _ _ => .int _⟩
abbrev DivOk (_ j : Int) : Prop := j ≠ 0 ∧ j.natAbs.log2 < 9000
theorem divOk {i j : Int} {b : Nat} (h : j ≠ 0) (hb : j.natAbs < 2 ^ b) (h0 : 0 < b) (h9 : b ≤ 9000) : DivOk i j := ⟨h, Nat.lt_of_lt_of_le (PySem.Flt.log2_lt_of h0 hb) h9⟩
theorem op_fdivG {Y : Cx} : OpR Y (binaryOp .FloorDiv) (rI DivOk fun i j => .int (i.fdiv j)) := opI fun i j _ _ _ _ _ hc q =>
  PyProof.Rows.floordiv_int hc.1 q (.inl (PyProof.noPylong_of_log2 hc.2))
theorem opDiv : OpF X K (binaryOp .FloorDiv) (gIntC DivOk fun i j => .int (i.fdiv j)) := ⟨_, fun _ => op_fdivG, od_intC (fun _ _ h => h) fun _ _ _ _ => .int _⟩
theorem opMod : OpF X K (binaryOp .Mod) (gIntC (fun _ j => j ≠ 0) fun i j => .int (i.fmod j)) := ⟨_, fun _ => op_modN, od_intC (fun _ _ h => h) fun _ _ _ _ => .int _⟩
abbrev PowOk (i j : Int) : Prop := 0 ≤ j ∧ j ≤ 1000000 ∧ i.natAbs < 2 ^ 64
theorem opPow : OpF X K (binaryOp .Pow) (gIntC PowOk fun i j => .int (i ^ j.toNat)) := ⟨_, fun _ => op_pow, od_intC (fun _ _ h => h) fun _ _ _ _ => .int _⟩
def eUn (g : O1) (f : EF) : EF := fun δ M => match f δ M with
  | some (d, M1) => g d M1
  | none => none
def gNeg : O1 := fun a M => match a with
  | .int i => some (.int (-i), M)
  | _ => none
theorem DE.neg {a : Expr} {pos} {f : EF} (h : DE X K a f) : DE X K (.UnaryOp .USub a pos) (eUn gNeg f) := by
  obtain ⟨t, p, r⟩ := h.go
  refine ⟨_, fun i => pe_un un_neg (p i), fun σ W δ M d M' Q w s e q => ?_⟩
  unfold eUn at e
  split at e
  · rename_i d1 M1 h1
    unfold gNeg at e
    split at e
    · cases e
      refine r σ W δ M _ _ _ w s h1 fun v W1 l1 w1 r1 => ?_
      cases r1
      exact ⟨_, rfl, q _ W1 l1 w1 (.int _)⟩
    · cases e
  · cases e

/-! ### data -/
mutual
def toP : D → Option PyData
  | .non => some .none
  | .bl b => some (.bool b)
  | .int i => some (.int i)
  | .str x => some (.str x)
  | .tup xs => (match toPs xs with
    | some ps => some (.tuple ps)
    | none => none)
  | .lst xs => (match toPs xs with
    | some ps => some (.list ps)
    | none => none)
  | .lsk xs => (match toPs xs with
    | some ps => some (.list ps)
    | none => none)
  | .ty _ => none
  | .ob _ => none
  | .ref _ => none
def toPs : List D → Option (List PyData)
  | [] => some []
  | x :: xs => (match toP x with
    | some p => (match toPs xs with
      | some ps => some (p :: ps)
      | none => none)
    | none => none)
end
mutual
theorem Rep.dp {B H : Hp} {ι : List Addr} (s : ∀ b o, B b = some o → H b = some o) : ∀ {v : V} {d : D} {p : PyData}, Rep K B ι v d → toP d = some p → Dp K H v p
  | _, _, _, .non, e => by cases e; exact .non
  | _, _, _, .bl b, e => by cases e; exact .bl b
  | _, _, _, .int b, e => by cases e; exact .int b
  | _, _, _, .str b, e => by cases e; exact .str b
  | _, _, _, .ty b, e => by cases e
  | _, _, _, .ob b, e => by cases e
  | _, _, _, .ref b, e => by cases e
  | _, _, _, .tup h r, e => by
    unfold toP at e
    split at e
    · rename_i ps h2
      cases e
      exact .tup (sqT_mono s h) (RepL.dp s r h2)
    · cases e
  | _, _, _, .lst h r, e => by
    unfold toP at e
    split at e
    · rename_i ps h2
      cases e
      exact .lst (.inl (.inl (s _ _ h))) (RepL.dp s r h2)
    · cases e
  | _, _, _, .lsk h r, e => by
    unfold toP at e
    split at e
    · rename_i ps h2
      cases e
      exact .lst (sqL_mono s h) (RepL.dp s r h2)
    · cases e
theorem RepL.dp {B H : Hp} {ι : List Addr} (s : ∀ b o, B b = some o → H b = some o) : ∀ {v : List V} {d : List D} {p : List PyData}, RepL K B ι v d → toPs d = some p → DpAll K H v p
  | _, _, _, .nil, e => by cases e; exact .nil
  | _, _, _, .cons h r, e => by
    unfold toPs at e
    split at e
    · rename_i p h2
      split at e
      · rename_i ps h3
        cases e
        exact .cons (Rep.dp s h h2) (RepL.dp s r h3)
      · cases e
    · cases e
end
def deref (M : Mh) : D → D
  | .ref n => (match M[n]? with
    | some (.lst xs) => .lst xs
    | _ => .ref n)
  | d => d
theorem dp_of {W : Wd} {M : Mh} {v : V} {d : D} {p : PyData} (w : W.Ok K M) (r : Rep K W.B W.ι v d) (h : toP (deref M d) = some p) : Dp K W.H v p := by
  cases r with
  | ref hi =>
    rename_i a n
    unfold deref at h
    dsimp only at h
    split at h
    · rename_i xs hm
      obtain ⟨_, _, o, ho, ro⟩ := w.live _ _ _ ⟨hi, hm, fun z => by cases z⟩
      cases ro with
      | lst r1 =>
        unfold toP at h
        split at h
        · rename_i ps h2
          cases h
          exact .lst (.inl (.inl ho)) (r1.dp w.sub h2)
        · cases h
    · cases h
  | non => exact Rep.dp (d := .non) (B := W.B) (ι := W.ι) w.sub .non h
  | bl b => exact Rep.dp (B := W.B) (ι := W.ι) w.sub (.bl b) h
  | int b => exact Rep.dp (B := W.B) (ι := W.ι) w.sub (.int b) h
  | str b => exact Rep.dp (B := W.B) (ι := W.ι) w.sub (.str b) h
  | ty b => cases h
  | ob b => cases h
  | tup h1 r1 => exact Rep.dp w.sub (.tup h1 r1) h
  | lst h1 r1 => exact Rep.dp w.sub (.lst h1 r1) h
  | lsk h1 r1 => exact Rep.dp w.sub (.lsk h1 r1) h
def gEq (h : PyData → PyData → Bool) : O2 := fun a b M => match toP (deref M a), toP (deref M b) with
  | some p, some q => if SeqAt.shaped p && SeqAt.shaped q then some (.bl (h p q), M) else none
  | _, _ => none
theorem opEq (c : Ctx X P w K mg base k) : OpF X K (compareOp .Eq) (gEq PyData.eqv) := ⟨rEqD K, fun i => by
  have := op_eqD (X := X i) (c.room i).units
  rw [c.K i] at this
  exact this, fun W M x y a b z M' Q w ra rb e q => by
  unfold gEq at e
  split at e
  · rename_i p p' h1 h2
    split at e
    · rename_i hs
      cases e
      rw [Bool.and_eq_true] at hs
      exact ⟨p, p', dp_of w ra h1, dp_of w rb h2, hs.1, hs.2, q _ W (.refl W) w (.bl _)⟩
    · cases e
  · cases e⟩
theorem opNe (c : Ctx X P w K mg base k) : OpF X K (compareOp .NotEq) (gEq fun p q => !PyData.eqv p q) := ⟨rNeD K, fun i => by
  have := op_neD (X := X i) (c.room i).units
  rw [c.K i] at this
  exact this, fun W M x y a b z M' Q w ra rb e q => by
  unfold gEq at e
  split at e
  · rename_i p p' h1 h2
    split at e
    · rename_i hs
      cases e
      rw [Bool.and_eq_true] at hs
      exact ⟨p, p', dp_of w ra h1, dp_of w rb h2, hs.1, hs.2, q _ W (.refl W) w (.bl _)⟩
    · cases e
  · cases e⟩
/-- is None, is not None -/
def isN : D → Bool
  | .non => true
  | _ => false
def gIsN (h : Bool → Bool) : O2 := fun a b M => match b with
  | .non => some (.bl (h (isN a)), M)
  | _ => none
theorem rep_isN {B : Hp} {ι : List Addr} {x : V} {a : D} (r : Rep K B ι x a) : decide (x = .non) = isN a := by
  cases r <;> rfl
theorem opIsN : OpF X K (compareOp .Is) (gIsN fun b => b) := ⟨_, fun _ => op_isN, fun W M x y a b z M' Q w ra rb e q => by
  unfold gIsN at e
  split at e
  · cases rb
    cases e
    refine ⟨rfl, ?_⟩
    rw [rep_isN ra]
    exact q _ W (.refl W) w (.bl _)
  · cases e⟩
theorem opNotN : OpF X K (compareOp .IsNot) (gIsN fun b => !b) := ⟨_, fun _ => op_notN, fun W M x y a b z M' Q w ra rb e q => by
  unfold gIsN at e
  split at e
  · cases rb
    cases e
    refine ⟨rfl, ?_⟩
    rw [rep_isN ra]
    exact q _ W (.refl W) w (.bl _)
  · cases e⟩
/-- is True, is not True, of truths -/
def gIsB (h : Bool → Bool) : O2 := fun a b M => match a, b with
  | .bl x, .bl y => some (.bl (h (decide (x = y))), M)
  | _, _ => none
theorem opIsB : OpF X K (compareOp .Is) (gIsB fun b => b) := ⟨_, fun _ => op_is_bl, fun W M x y a b z M' Q w ra rb e q => by
  unfold gIsB at e
  split at e
  · cases ra
    cases rb
    cases e
    exact ⟨_, _, rfl, rfl, q _ W (.refl W) w (.bl _)⟩
  · cases e⟩
theorem opNotB : OpF X K (compareOp .IsNot) (gIsB fun b => !b) := ⟨_, fun _ => op_isnot_bl, fun W M x y a b z M' Q w ra rb e q => by
  unfold gIsB at e
  split at e
  · cases ra
    cases rb
    cases e
    exact ⟨_, _, rfl, rfl, q _ W (.refl W) w (.bl _)⟩
  · cases e⟩

/-! ### places of rows -/
theorem RepL.atI {B : Hp} {ι : List Addr} {vs : List V} {ds : List D} {i : Int} {d : D} (r : RepL K B ι vs ds) (h : L2.atI ds i = some d) : ∃ v, L2.atI vs i = some v ∧ Rep K B ι v d := by
  unfold L2.atI at h ⊢
  rw [r.len]
  cases e : ixN ds.length i with
  | none =>
    rw [e] at h
    cases h
  | some j =>
    rw [e] at h
    exact r.get (i := j) h
def gIx : O2 := fun a b M => match b with
  | .int i => (match a with
    | .tup xs => (L2.atI xs i).map fun d => (d, M)
    | .lst xs => (L2.atI xs i).map fun d => (d, M)
    | .lsk xs => (L2.atI xs i).map fun d => (d, M)
    | .ref n => (match M[n]? with
      | some (.lst xs) => (L2.atI xs i).map fun d => (d, M)
      | _ => none)
    | .str z => if z.length ≤ sizeLine then (L2.atI z.cps.toList i).map fun c => (.str ⟨#[c]⟩, M) else none
    | _ => none)
  | _ => none
theorem od_ix : OD K (rIx K) gIx := fun W M x y a b z M' Q w ra rb e q => by
  unfold gIx at e
  split at e
  · rename_i i
    cases rb
    split at e
    · rename_i xs
      cases h : L2.atI xs i with
      | none =>
        rw [h] at e
        cases e
      | some d =>
        rw [h] at e
        cases e
        cases ra with
        | tup h1 r1 =>
          obtain ⟨v, hv, rv⟩ := r1.atI h
          exact .inr (.inl ⟨_, _, _, v, rfl, rfl, sqT_mono w.sub h1, hv, q v W (.refl W) w rv⟩)
    · rename_i xs
      cases h : L2.atI xs i with
      | none =>
        rw [h] at e
        cases e
      | some d =>
        rw [h] at e
        cases e
        cases ra with
        | lst h1 r1 =>
          obtain ⟨v, hv, rv⟩ := r1.atI h
          exact .inl ⟨_, _, _, v, rfl, rfl, .inl (.inl (w.sub _ _ h1)), hv, q v W (.refl W) w rv⟩
    · rename_i xs
      cases h : L2.atI xs i with
      | none =>
        rw [h] at e
        cases e
      | some d =>
        rw [h] at e
        cases e
        cases ra with
        | lsk h1 r1 =>
          obtain ⟨v, hv, rv⟩ := r1.atI h
          exact .inl ⟨_, _, _, v, rfl, rfl, sqL_mono w.sub h1, hv, q v W (.refl W) w rv⟩
    · rename_i n
      split at e
      · rename_i xs hm
        cases h : L2.atI xs i with
        | none =>
          rw [h] at e
          cases e
        | some d =>
          rw [h] at e
          cases e
          cases ra with
          | ref h1 =>
            obtain ⟨_, _, o, ho, ro⟩ := w.live n _ _ ⟨h1, hm, fun z => by cases z⟩
            cases ro with
            | lst r1 =>
              obtain ⟨v, hv, rv⟩ := r1.atI h
              exact .inl ⟨_, _, _, v, rfl, rfl, .inl (.inl ho), hv, q v W (.refl W) w rv⟩
      · cases e
    · rename_i z0
      split at e
      · rename_i hz
        cases h : L2.atI z0.cps.toList i with
        | none =>
          rw [h] at e
          cases e
        | some c =>
          rw [h] at e
          cases e
          cases ra
          exact .inr (.inr ⟨_, _, _, rfl, rfl, hz, h, q _ W (.refl W) w (.str _)⟩)
      · cases e
    · cases e
  · cases e
theorem DE.ix (c : Ctx X P w K mg base k) {a b : Expr} {pos} {f g : EF} (ha : DE X K a f) (hb : DE X K b g) (hs : PlainIx b := by exact fun _ _ => rfl) : DE X K (.Subscript a b pos) (eOp gIx f g) := by
  obtain ⟨ta, pa, ra⟩ := ha.go
  obtain ⟨tb, pb, rb⟩ := hb.go
  refine ⟨tOp (rIx K) ta tb, fun i => ?_, er_op od_ix ra rb⟩
  have h := pe_ix (ix_seq (X := X i)) (pa i) (pb i) hs (pos := pos)
  rw [c.K i] at h
  exact h
end
end Pl

namespace Pl
open PySem L2
open PyProof.Rows (envOfC)

/-! ### what a def does to values -/
def spD (K : PySem.W.Frag) (n : Nat) (F : Fn) (vs : List V) (H : Hp) (Q : VK) : Prop :=
  ∃ W M ds d M', W.H = H ∧ W.Ok K M ∧ RepL K W.B W.ι vs ds ∧ ds.length = n ∧ F ds M = some (d, M') ∧ VR K W d M' Q
structure DFn (P : Program) (w : World) (K : PySem.W.Frag) (mg : Str → Option Value) (base : Heap) (k : Nat) (f : Addr) (fd : FuncData) (ps : List Str) (F : Fn) : Prop where
  run : ∀ (A : Around) (outer : List PySem.Env) (s : Shared) (H : Hp) (args : Args) (us : List Value) (vs : List V) (Q : VK), Room k A → A.guards = some [] → Env0 P w K mg base A outer s H → BindsTo s fd args (ps.zip us) → Vals vs us →
    spD K ps.length F vs H Q → codeAny (model P w) A (.call (.ref f) args) (CR CX0 outer P w H s Q E0) s
theorem DFn.mono {P : Program} {w : World} {K : PySem.W.Frag} {mg : Str → Option Value} {base : Heap} {j k : Nat} {f : Addr} {fd : FuncData} {ps : List Str} {F : Fn} (h : DFn P w K mg base j f fd ps F) (l : j ≤ k) : DFn P w K mg base k f fd ps F :=
  ⟨fun A outer s H args us vs Q r g => h.run A outer s H args us vs Q (r.mono l) g⟩
/-- the same values, told otherwise -/
theorem DFn.imp {P : Program} {w : World} {K : PySem.W.Frag} {mg : Str → Option Value} {base : Heap} {k : Nat} {f : Addr} {fd : FuncData} {ps : List Str} {F G : Fn} (h : DFn P w K mg base k f fd ps F) (l : ∀ ds M d M', G ds M = some (d, M') → F ds M = some (d, M')) : DFn P w K mg base k f fd ps G :=
  ⟨fun A outer s H args us vs Q r g e b v ⟨W, M, ds, d, M', a1, a2, a3, a4, a5, a6⟩ => h.run A outer s H args us vs Q r g e b v ⟨W, M, ds, d, M', a1, a2, a3, a4, l _ _ _ _ a5, a6⟩⟩
/-- from a promise of the hand layer -/
theorem DFn.hand {P : Program} {w : World} {K : PySem.W.Frag} {mg : Str → Option Value} {base : Heap} {k : Nat} {f : Addr} {fd : FuncData} {ps : List Str} {F : Fn} {sp : Sp} (h : FnOk P w K mg base CX0 k f fd ps sp) (l : ∀ vs H Q, spD K ps.length F vs H Q → sp vs H Q E0) : DFn P w K mg base k f fd ps F :=
  ⟨fun A outer s H args us vs Q r _ e b v q => h.run A outer s H args us vs Q E0 r e b v (l _ _ _ q)⟩

section
variable {I : Type} {X : I → Cx} {P : Program} {w : World} {K : PySem.W.Frag} {mg : Str → Option Value} {base : Heap} {k : Nat}
/-- the callee runs -/
theorem run_dfn {Y : Cx} {pins : List (Addr × Obj)} {σ : L2.St} {H : Hp} {s : Shared} {Q : VK} {f : Addr} {fd : FuncData} {ps ks : List Str} {F : Fn} {us ws us' : List Value} {vs : List V} (h : DFn Y.prog Y.w Y.K Y.mg Y.base k f fd ps F) (room : Room k Y.A) (grd : Y.A.guards = some [])
    (J : Inv Y pins σ H s) (hb : BindsTo s fd ⟨us, ks.zip ws⟩ (ps.zip us')) (r : Vals vs us') (q : spD Y.K ps.length F vs H Q) : wpAny (model Y.prog Y.w) Y.A (call (.ref f) us (ks.zip ws)) (EP Y pins σ Q) Y.xe s := by
  refine wpAny_call (codeAny_mono (h.run Y.A Y.stack s H _ us' vs Q room grd J.env0 hb r q) fun o s' ho => ?_)
  match o, ho with
  | .ok (.ret u), ho => exact J.after ho
  | .ok .next, ho => exact False.elim ho
  | .ok .brk, ho => exact False.elim ho
  | .ok .cont, ho => exact False.elim ho
  | .error _, ho => exact False.elim ho
def eCall (F : Fn) (g : AF) (dds : List D) : EF := fun δ M => match g δ M with
  | some (ds, M1) => F (ds ++ dds) M1
  | none => none
/-- f(e, ..): dvs the defaults that fill up -/
theorem DE.call (c : Ctx X P w K mg base k) {x : Str} {p pos : Pos} {e : Expr} {es : List Expr} {g : AF} {f : Addr} {fd : FuncData} {ps : List Str} {F : Fn} {kf : Nat} {dvs : List V} {dds : List D} {dsv : List Value} (h : DFn P w K mg base kf f fd ps F) (hk : kf ≤ k)
    (hm : mg x = some (.ref f)) (kp : PySem.W.keepIn K (.ref f) = true) (hb : Binds K fd ps dsv) (hd : Vals dvs dsv) (hr : ∀ B ι, RepL K B ι dvs dds) (hn : (e :: es).length + dds.length = ps.length) (ha : DA X K (e :: es) g) (hlen : ∀ δ M ds M', g δ M = some (ds, M') → ds.length = (e :: es).length) (hg : ∀ i, Gl (X i) x := by intro _; rfl)
    (hdbg : (x == ("__debug__" : Str)) = false := by decide) (he : ∀ i, starEach (e :: es) (X i).env = (false, eval e (X i).env) :: starEach es (X i).env := by intro _; rfl) (hpl : ∀ i, (backTo pos (starEach es (X i).env)).any (·.1) = false := by intro _; rfl) :
    DE X K (.Call (.Name x p) (e :: es) [] pos) (eCall F g dds) := by
  obtain ⟨t, pa, ra⟩ := ha.go
  refine ⟨fun σ H Q => t σ H fun vs H1 => spD K ps.length F (vs ++ dvs) H1 Q, fun i => ⟨fun pins s σ H Q J q => ?_⟩, fun σ W δ M d M' Q w s ev q => ?_⟩
  · have cK := c.K i
    refine wpAny_Call_Name_kw (ld_glob J (hg i) (by rw [c.mg i]; exact hm) ?_ hdbg)
    refine PySem.W.callWith_K (h₀ := (X i).base) J.ok.mod.kin (by rw [cK]; exact kp) (thn ((pa i).run pos pins s σ H _ J q) fun us s1 ⟨vs, H1, J1, r, q1⟩ => ⟨J1.kIn, ?_⟩) (he i) (hpl i)
    obtain ⟨W, M, ds, d, M', a1, a2, a3, a4, a5, a6⟩ := id q1
    have h' : DFn (X i).prog (X i).w (X i).K (X i).mg (X i).base k f fd ps F := by
      rw [c.prog i, c.wd i, c.K i, c.mg i, c.base i]
      exact h.mono hk
    have r2 := r.append hd
    refine run_dfn (ks := []) (ws := []) (us := us) h' (c.room i) (c.grd i) J1 (hb s1 us (by rw [← cK]; exact J1.kIn) ?_) r2 (by rw [cK]; exact q1)
    rw [← r2.length, a3.len, a4]
  · unfold eCall at ev
    split at ev
    · rename_i ds M1 h1
      refine ra σ W δ M ds M1 _ w s h1 fun vs W1 l1 w1 r1 => ⟨W1, M1, ds ++ dds, d, M', rfl, w1, r1.append (hr _ _), ?_, ev, q.le l1⟩
      rw [List.length_append, hlen _ _ _ _ h1]
      exact hn
    · cases ev
theorem aLen_cons {f : EF} {g : AF} {n : Nat} (h : ∀ δ M ds M', g δ M = some (ds, M') → ds.length = n) : ∀ δ M ds M', aCons f g δ M = some (ds, M') → ds.length = n + 1 := fun δ M ds M' e => by
  unfold aCons at e
  split at e
  · split at e
    · rename_i h2
      cases e
      exact congrArg (· + 1) (h _ _ _ _ h2)
    · cases e
  · cases e
theorem aLen_nil : ∀ δ M ds M', aNil δ M = some (ds, M') → ds.length = 0 := fun δ M ds M' e => by
  cases e
  rfl
/-- keywords -/
structure DK (X : I → Cx) (K : PySem.W.Frag) (kws : List Keyword) (f : AF) (n : Nat) : Prop where
  go : ∃ t : TA, (∀ i, PK (X i) kws t) ∧ AR K t f
  len : ∀ δ M ds M', f δ M = some (ds, M') → ds.length = n
theorem DK.nil : DK X K [] aNil 0 := ⟨⟨tNil, fun i => pk_nil, fun σ W δ M d M' Q w s e q => by
  cases e
  exact q [] W (.refl W) w .nil⟩, aLen_nil⟩
theorem DK.cons {nm} {e : Expr} {kpos} {kws : List Keyword} {f : EF} {g : AF} {n : Nat} (a : DE X K e f) (b : DK X K kws g n) : DK X K (⟨nm, e, kpos⟩ :: kws) (aCons f g) (n + 1) := by
  obtain ⟨ta, pa, ra⟩ := a.go
  obtain ⟨tb, pb, rb⟩ := b.go
  refine ⟨⟨tCons ta tb, fun i => pk_cons (pa i) (pb i), fun σ W δ M d M' Q w s e q => ?_⟩, aLen_cons b.len⟩
  unfold aCons at e
  split at e
  · rename_i d1 M1 h1
    split at e
    · rename_i ds M2 h2
      cases e
      refine ra σ W δ M d1 M1 _ w s h1 fun v W1 l1 w1 r1 => ?_
      refine rb σ W1 δ M1 ds _ _ w1 (s.le l1) h2 fun vs W2 l2 w2 r2 => ?_
      exact q _ W2 (l1.trans l2) w2 (.cons (r1.le l2) r2)
    · cases e
  · cases e
def eCallK (F : Fn) (g gk : AF) (h : List D → List D → List D) : EF := fun δ M => match g δ M with
  | some (ds, M1) => (match gk δ M1 with
    | some (zs, M2) => F (h ds zs) M2
    | none => none)
  | none => none
/-- f(e, .., k = v, ..) -/
theorem DE.callK (c : Ctx X P w K mg base k) {x : Str} {p pos : Pos} {e : Expr} {es : List Expr} {kws : List Keyword} {g gk : AF} {f : Addr} {fd : FuncData} {ps ks : List Str} {F : Fn} {kf n : Nat} {gu : List Value → List Value → List Value} {gV : List V → List V → List V} {gD : List D → List D → List D} (h : DFn P w K mg base kf f fd ps F) (hk : kf ≤ k)
    (hm : mg x = some (.ref f)) (kp : PySem.W.keepIn K (.ref f) = true) (hb : KBn K fd ps n ks gu gV) (hr : ∀ B ι vs ds zs es, RepL K B ι vs ds → RepL K B ι zs es → RepL K B ι (gV vs zs) (gD ds es)) (hn : ∀ ds zs : List D, ds.length = n → zs.length = ks.length → (gD ds zs).length = ps.length)
    (ha : DA X K (e :: es) g) (hlen : ∀ δ M ds M', g δ M = some (ds, M') → ds.length = n) (hkw : DK X K kws gk ks.length) (hall : ∀ i, (backToKw pos (keywordEach kws (X i).env)).all (·.1.isSome) = true := by intro _; rfl) (hks : ∀ i, (backToKw pos (keywordEach kws (X i).env)).filterMap (·.1) = ks := by intro _; rfl)
    (hg : ∀ i, Gl (X i) x := by intro _; rfl) (hdbg : (x == ("__debug__" : Str)) = false := by decide) (he : ∀ i, starEach (e :: es) (X i).env = (false, eval e (X i).env) :: starEach es (X i).env := by intro _; rfl)
    (hpl : ∀ i, ((backTo pos (starEach (e :: es) (X i).env)).any (·.1) || (backToKw pos (keywordEach kws (X i).env)).any (·.1.isNone)) = false := by intro _; rfl) :
    DE X K (.Call (.Name x p) (e :: es) kws pos) (eCallK F g gk gD) := by
  obtain ⟨t, pa, ra⟩ := ha.go
  obtain ⟨tk, pk, rk⟩ := hkw.go
  refine ⟨fun σ H Q => t σ H fun vs H1 => tk σ H1 fun zs H2 => vs.length = n ∧ zs.length = ks.length ∧ spD K ps.length F (gV vs zs) H2 Q, fun i => ⟨fun pins s σ H Q J q => ?_⟩, fun σ W δ M d M' Q w s ev q => ?_⟩
  · have cK := c.K i
    refine wpAny_Call_Name_kw (ld_glob J (hg i) (by rw [c.mg i]; exact hm) ?_ hdbg)
    refine PySem.W.callWith_KW (h₀ := (X i).base) J.ok.mod.kin (by rw [cK]; exact kp) (hall i) (thn ((pa i).run pos pins s σ H _ J q) fun us s1 ⟨vs, H1, J1, r, q1⟩ => ?_) (hpl i) (he i)
    refine thn ((pk i).run pos pins s1 σ H1 _ J1 q1) fun ws s2 ⟨zs, H2, J2, rz, l1, l2, q2⟩ => ⟨J2.kIn, ?_⟩
    have h' : DFn (X i).prog (X i).w (X i).K (X i).mg (X i).base k f fd ps F := by
      rw [c.prog i, c.wd i, c.K i, c.mg i, c.base i]
      exact h.mono hk
    have r2 := hb.rel r rz
    rw [hks i]
    exact run_dfn h' (c.room i) (c.grd i) J2 (hb.to s2 us ws (by rw [← cK]; exact J2.kIn) (r.length.symm.trans l1) (rz.length.symm.trans l2)) r2 (by rw [cK]; exact q2)
  · unfold eCallK at ev
    split at ev
    · rename_i ds M1 h1
      split at ev
      · rename_i zs M2 h2
        refine ra σ W δ M ds M1 _ w s h1 fun vs W1 l1 w1 r1 => ?_
        refine rk σ W1 δ M1 zs M2 _ w1 (s.le l1) h2 fun us W2 l2 w2 r2 => ?_
        have e1 := hlen _ _ _ _ h1
        have e2 := hkw.len _ _ _ _ h2
        exact ⟨by rw [r1.len]; exact e1, by rw [r2.len]; exact e2, W2, M2, gD ds zs, d, M', rfl, w2, hr _ _ _ _ _ _ (r1.le l2) r2, hn _ _ e1 e2, ev, q.le (l1.trans l2)⟩
      · cases ev
    · cases ev
end

/-! ### a def's body -/
def startD (n : Nat) (ds : List D) : Env := ds.map some ++ List.replicate (n - ds.length) none
def fnF (n : Nat) (g : SF) : Fn := fun ds M => match g (startD n ds) M with
  | some (.rt d M') => some (d, M')
  | some (.nx _ M') => some (.non, M')
  | _ => none
/-- an entry of the def -/
structure Entry (k : Nat) (qual : Str) (scope : Scope) (f : Addr) where
  cdv : Value
  A : Around
  outer : List PySem.Env
  s : Shared
  H : Hp
  room : Room k (A.deeper (envOfC qual scope s.heap.objs.size f cdv))
  grd : A.guards = some []
def bodyF (P : Program) (w : World) (K : PySem.W.Frag) (mg : Str → Option Value) (base : Heap) (N : List Str) {k : Nat} {qual : Str} {scope : Scope} {f : Addr} (e : Entry k qual scope f) : Cx := (cxOf CX0 P w K mg base N qual scope f e.cdv e.A e.outer e.s e.H E0).nox
theorem bodyF_ctx (P : Program) (w : World) (K : PySem.W.Frag) (mg : Str → Option Value) (base : Heap) (N : List Str) {k : Nat} {qual : Str} {scope : Scope} {f : Addr} : Ctx (bodyF P w K mg base N (k := k) (qual := qual) (scope := scope) (f := f)) P w K mg base k :=
  ⟨fun _ => rfl, fun _ => rfl, fun _ => rfl, fun _ => rfl, fun _ => rfl, fun e => e.room, fun e => e.grd, fun _ => rfl⟩
theorem slots_start {K : PySem.W.Frag} {W : Wd} {N : List Str} {vs : List V} {ds : List D} (r : RepL K W.B W.ι vs ds) : Slots K W (L2.start N vs) (startD N.length ds) := by
  have hl := r.len
  refine ⟨by simp [L2.start, startD, hl], fun i d h => ?_⟩
  unfold startD at h
  by_cases hi : i < ds.length
  · rw [List.getElem?_append_left (by simpa using hi), List.getElem?_map] at h
    cases e : ds[i]? with
    | none =>
      rw [e] at h
      cases h
    | some d' =>
      rw [e] at h
      cases h
      obtain ⟨v, h1, h2⟩ := r.get e
      refine ⟨v, ?_, h2⟩
      unfold L2.start
      rw [List.getElem?_append_left (by simp [hl]; exact hi), List.getElem?_map, h1]
      rfl
  · rw [List.getElem?_append_right (by simpa using hi), List.getElem?_replicate] at h
    split at h <;> cases h
/-- THE RULE of a def -/
theorem DFn.of {P : Program} {w : World} {K : PySem.W.Frag} {mg : Str → Option Value} {base : Heap} {k : Nat} {x qual : Str} {params : Arguments} {body : List Stmt} {scope : Scope} {dvs : List V} {kws : List (Str × V)} {f : Addr} {fd : FuncData} {N ps : List Str} {g : SF}
    (h : FunD K x qual params body scope dvs kws f fd) (S : FnScope N ps scope) (hb : Ctx (bodyF P w K mg base N (k := k) (qual := qual) (scope := scope) (f := f)) P w K mg base k → DB (bodyF P w K mg base N (k := k) (qual := qual) (scope := scope) (f := f)) K body g) : DFn P w K mg base (k + 1) f fd ps (fnF N.length g) := by
  obtain ⟨oc, od, dV, kV, doc, pm, an, cdv, ct, osl, rfl, lk, hcd, _, _⟩ := h.ex
  obtain ⟨t, pt, rt⟩ := (hb (bodyF_ctx P w K mg base N)).go
  refine ⟨fun A outer s H args us vs Q room grd e0 bd r q => ?_⟩
  obtain ⟨W, M, ds, d, M', rfl, a2, a3, a4, a5, a6⟩ := q
  have hl : vs.length = ps.length := a3.len.trans a4
  have KX : K.In s.heap := e0.mod.kin.keeps fun b o e => (e0.bs b o e).1
  have lim : s.heap.NoLimit := e0.mod.nolimit.keeps fun b o e => (e0.bs b o e).1
  have knd : ∀ y ∈ ps.zip us, scope.names.lookup y.1 = some .local ∨ (scope.names.lookup y.1 = some .cell ∧ ((cellsFrom (s.heap.objs.size + 1) scope.names []).lookup y.1).isSome = true) := fun y hy => by
    rcases S.par y.1 (List.of_mem_zip (a := y.1) (b := y.2) hy).1 with q | q
    · exact .inl q
    · exact .inr ⟨q, PySem.W.cellsFrom_some _ _ _ (.inl q)⟩
  refine codeAny_call_function room.depth (KX _ _ lk) rfl S.co S.gen rfl (PySem.W.codeRec_of KX hcd) (bd _ _ _ _ ?_)
  refine wpAny_newFunctionEnv_cells S.kind knd fun env he s1 xc => ?_
  subst he
  refine ⟨lim.keeps xc.toInCall.keep, codeAny_func ?_⟩
  have J : Inv (cxOf CX0 P w K mg base N qual scope f cdv A outer s W.H E0) [] (L2.start N vs) W.H s1 := inv_start S room.hd e0 hl r xc
  have ht := (pt ⟨cdv, A, outer, s, W.H, room.deeper _, grd⟩).nox
  have q2 : t { nx := fun _ H' => Q .non H', rt := Q } (L2.start N vs) W.H := by
    unfold fnF at a5
    split at a5
    · rename_i d2 M2 h2
      cases a5
      exact rt _ W _ M _ _ a2 (slots_start a3) h2 a6
    · rename_i δ2 M2 h2
      cases a5
      exact rt _ W _ M _ _ a2 (slots_start a3) h2 fun σ' W' l o s' => a6 .non W' l o .non
    · cases a5
  refine wpAny_mono (ht.run [] s1 (L2.start N vs) W.H _ J q2) (fun fl s' hs => ?_) fun e s' hs => hs
  have fin : ∀ {σ' : St} {H' : Hp} {v : V} {u : Value}, Inv (cxOf CX0 P w K mg base N qual scope f cdv A outer s W.H E0) [] σ' H' s' → RelV v u → Q v H' → CE outer P w W.H s Q u s' :=
    fun {σ' H' v u} J rv q => ⟨v, H', J.os, J.bare, J.base, J.hok, rv, q⟩
  match fl, hs with
  | .ret u, ⟨v, σ', H', J2, rv, q3⟩ => exact fin J2 rv q3
  | .next, ⟨σ', H', J2, q3⟩ => exact fin (v := V.non) (u := Value.none) J2 rfl q3
  | .brk, ⟨_, _, _, q3⟩ => exact False.elim q3
  | .cont, ⟨_, _, _, q3⟩ => exact False.elim q3
end Pl

namespace Pl
open PySem L2
section
variable {I : Type} {X : I → Cx} {P : Program} {w : World} {K : PySem.W.Frag} {mg : Str → Option Value} {base : Heap} {k : Nat}
/-! ### rows as they are read -/
def lstT (M : Mh) : D → Option (List D)
  | .lst xs => some xs
  | .ref n => (match M[n]? with
    | some (.lst xs) => some xs
    | _ => none)
  | _ => none
def lstOf (M : Mh) : D → Option (List D)
  | .lst xs => some xs
  | .lsk xs => some xs
  | .ref n => (match M[n]? with
    | some (.lst xs) => some xs
    | _ => none)
  | _ => none
theorem lstT_rep {W : Wd} {M : Mh} {x : V} {d : D} {ds : List D} (w : W.Ok K M) (r : Rep K W.B W.ι x d) (h : lstT M d = some ds) : ∃ l vs, x = .ref l ∧ W.H l = some (.lst vs) ∧ RepL K W.B W.ι vs ds := by
  unfold lstT at h
  split at h
  · cases h
    cases r with
    | lst h1 r1 => exact ⟨_, _, rfl, w.sub _ _ h1, r1⟩
  · split at h
    · rename_i hm
      cases h
      cases r with
      | ref h1 =>
        obtain ⟨_, _, o, ho, ro⟩ := w.live _ _ _ ⟨h1, hm, fun z => by cases z⟩
        cases ro with
        | lst r1 => exact ⟨_, _, rfl, ho, r1⟩
    · cases h
  · cases h
theorem lstOf_rep {W : Wd} {M : Mh} {x : V} {d : D} {ds : List D} (w : W.Ok K M) (r : Rep K W.B W.ι x d) (h : lstOf M d = some ds) : ∃ l vs, x = .ref l ∧ SqL K W.H l vs ∧ RepL K W.B W.ι vs ds := by
  unfold lstOf at h
  split at h
  · cases h
    cases r with
    | lst h1 r1 => exact ⟨_, _, rfl, .inl (.inl (w.sub _ _ h1)), r1⟩
  · cases h
    cases r with
    | lsk h1 r1 => exact ⟨_, _, rfl, sqL_mono w.sub h1, r1⟩
  · split at h
    · rename_i hm
      cases h
      cases r with
      | ref h1 =>
        obtain ⟨_, _, o, ho, ro⟩ := w.live _ _ _ ⟨h1, hm, fun z => by cases z⟩
        cases ro with
        | lst r1 => exact ⟨_, _, rfl, .inl (.inl ho), r1⟩
    · cases h
  · cases h
theorem tup_rep {W : Wd} {M : Mh} {x : V} {ds : List D} (w : W.Ok K M) (r : Rep K W.B W.ι x (.tup ds)) : ∃ l vs, x = .ref l ∧ SqT K W.H l vs ∧ RepL K W.B W.ι vs ds := by
  cases r with
  | tup h1 r1 => exact ⟨_, _, rfl, sqT_mono w.sub h1, r1⟩

/-! ### + and * -/
def gAdd : O2 := fun a b M => match a, b with
  | .int i, .int j => some (.int (i + j), M)
  | .str x, .str y => if x.length + y.length ≤ sizeLine then some (.str (x ++ y), M) else none
  | .tup xs, .tup ys => if xs.length + ys.length ≤ sizeLine then some (.tup (xs ++ ys), M) else none
  | a, b => (match lstT M a, lstT M b with
    | some xs, some ys => if xs.length + ys.length ≤ sizeLine then some (.lst (xs ++ ys), M) else none
    | _, _ => none)
def rAdd4 (K : PySem.W.Frag) : R2 := fun x y H Q => rI0 (fun i j => .int (i + j)) x y H Q ∨ (∃ i j, x = .str i ∧ y = .str j ∧ i.length + j.length ≤ sizeLine ∧ Q (.str (i ++ j)) H) ∨ rCat x y H Q ∨ rCatA K x y H Q
theorem opAdd4 (c : Ctx X P w K mg base k) : OpF X K (binaryOp .Add) gAdd := ⟨rAdd4 K, fun i => by
  have h := OpR.or (X := X i) op_add (OpR.or op_add_str (OpR.or op_cat op_catA))
  rw [c.K i] at h
  exact h, fun W M x y a b z M' Q w ra rb e q => by
  unfold gAdd at e
  split at e
  · cases ra
    cases rb
    cases e
    exact .inl ⟨_, _, rfl, rfl, q _ W (.refl W) w (.int _)⟩
  · split at e
    · rename_i hl
      cases ra
      cases rb
      cases e
      exact .inr (.inl ⟨_, _, rfl, rfl, hl, q _ W (.refl W) w (.str _)⟩)
    · cases e
  · split at e
    · rename_i hl
      cases e
      obtain ⟨a, vs, rfl, s1, r1⟩ := tup_rep w ra
      obtain ⟨b, us, rfl, s2, r2⟩ := tup_rep w rb
      refine .inr (.inr (.inr ⟨a, b, vs, us, rfl, rfl, s1, s2, by rw [r1.len, r2.len]; exact hl, fun h => ?_, fun h0 h => ?_, fun h0 h1 p hp => ?_⟩))
      · subst h
        cases r1
        exact q _ W (.refl W) w rb
      · subst h
        cases r2
        rw [List.append_nil] at q
        exact q _ W (.refl W) w ra
      · obtain ⟨l2, w2, r3⟩ := lay_tup w hp (r1.append r2)
        exact q _ _ l2 w2 r3
    · cases e
  · split at e
    · rename_i xs ys h1 h2
      split at e
      · rename_i hl
        cases e
        obtain ⟨a, vs, rfl, s1, r1⟩ := lstT_rep w ra h1
        obtain ⟨b, us, rfl, s2, r2⟩ := lstT_rep w rb h2
        refine .inr (.inr (.inl ⟨a, b, vs, us, rfl, rfl, s1, s2, by rw [r1.len, r2.len]; exact hl, fun p hp => ?_⟩))
        obtain ⟨l2, w2, r3⟩ := lay_lst w hp (r1.append r2)
        exact q _ _ l2 w2 r3
      · cases e
    · cases e⟩
theorem RepL.rep {B : Hp} {ι : List Addr} {vs : List V} {ds : List D} (r : RepL K B ι vs ds) : ∀ n : Nat, RepL K B ι (List.replicate n vs).flatten (List.replicate n ds).flatten
  | 0 => .nil
  | n + 1 => by
    rw [List.replicate_succ, List.replicate_succ, List.flatten_cons, List.flatten_cons]
    exact r.append (r.rep n)
def gMul : O2 := fun a b M => match a, b with
  | .int i, .int j => if MulOk i j then some (.int (i * j), M) else none
  | .lst xs, .int j => if -(2 ^ 63) ≤ j ∧ j < 2 ^ 63 ∧ xs.length * j.toNat ≤ sizeLine then some (.lst (List.replicate j.toNat xs).flatten, M) else none
  | _, _ => none
theorem opMul2 : OpF X K (binaryOp .Mult) gMul := ⟨_, fun i => OpR.or op_mulX op_rep, fun W M x y a b z M' Q w ra rb e q => by
  unfold gMul at e
  split at e
  · split at e
    · rename_i hc
      cases ra
      cases rb
      cases e
      exact .inl ⟨_, _, rfl, rfl, hc, q _ W (.refl W) w (.int _)⟩
    · cases e
  · split at e
    · rename_i hc
      cases rb
      cases e
      cases ra with
      | lst h1 r1 =>
        refine .inr ⟨_, _, _, rfl, rfl, w.sub _ _ h1, hc.1, hc.2.1, by rw [r1.len]; exact hc.2.2, fun p hp => ?_⟩
        obtain ⟨l2, w2, r3⟩ := lay_lst w hp (r1.rep _)
        exact q _ _ l2 w2 r3
    · cases e
  · cases e⟩

/-! ### slices -/
structure DP (X : I → Cx) (K : PySem.W.Frag) (e : Option Expr) (f : Env → Mh → Option (Option Int × Mh)) : Prop where
  go : ∃ t : St → Hp → (Option Int → Hp → Prop) → Prop, (∀ i, PO (X i) e t) ∧ ∀ (σ : St) (W : Wd) (δ : Env) (M : Mh) (d : Option Int) (M' : Mh) (Q : Option Int → Hp → Prop), W.Ok K M → Slots K W σ δ → f δ M = some (d, M') → (∀ W', W.Le W' → W'.Ok K M' → Q d W'.H) → t σ W.H Q
def pNone : Env → Mh → Option (Option Int × Mh) := fun _ M => some (none, M)
def pSome (f : EF) : Env → Mh → Option (Option Int × Mh) := fun δ M => match f δ M with
  | some (.int i, M1) => some (some i, M1)
  | _ => none
theorem DP.none : DP X K none pNone := ⟨_, fun i => po_none, fun σ W δ M d M' Q w s e q => by
  cases e
  exact q W (.refl W) w⟩
theorem DP.some {e : Expr} {f : EF} (h : DE X K e f) : DP X K (some e) (pSome f) := by
  obtain ⟨t, p, r⟩ := h.go
  refine ⟨_, fun i => po_some (p i), fun σ W δ M d M' Q w s ev q => ?_⟩
  unfold pSome at ev
  split at ev
  · rename_i h1
    cases ev
    refine r σ W δ M _ _ _ w s h1 fun v W1 l1 w1 r1 => ?_
    cases r1
    exact ⟨_, rfl, q W1 l1 w1⟩
  · cases ev
def cutD {α : Type} (xs : List α) (lo hi : Option Int) : List α := (xs.drop (HT.sIx xs.length 0 lo)).take (HT.sIx xs.length xs.length hi - HT.sIx xs.length 0 lo)
theorem RepL.cut {B : Hp} {ι : List Addr} {vs : List V} {ds : List D} (r : RepL K B ι vs ds) (lo hi : Option Int) : RepL K B ι (cutV vs lo hi) (cutD ds lo hi) := by
  unfold cutV cutD
  rw [r.len]
  exact (r.drop _).take _
theorem cutD_all {α : Type} {xs : List α} {lo hi : Option Int} (h : HT.sIx xs.length 0 lo = 0 ∧ HT.sIx xs.length xs.length hi = xs.length) : cutD xs lo hi = xs := by
  unfold cutD
  rw [h.1, h.2]
  simp
def eSl (f : EF) (p q : Env → Mh → Option (Option Int × Mh)) : EF := fun δ M => match f δ M with
  | some (a, M1) => (match p δ M1 with
    | some (lo, M2) => (match q δ M2 with
      | some (hi, M3) => (match a with
        | .tup xs => some (.tup (cutD xs lo hi), M3)
        | .str z => if z.length ≤ sizeLine then some (.str (cutS z lo hi), M3) else none
        | a => (match lstOf M3 a with
          | some xs => some (.lst (cutD xs lo hi), M3)
          | none => none))
      | none => none)
    | none => none)
  | none => none
theorem DE.sl (c : Ctx X P w K mg base k) {e : Expr} {lo hi : Option Expr} {p2 pos} {f : EF} {p q : Env → Mh → Option (Option Int × Mh)} (ha : DE X K e f) (hlo : DP X K lo p) (hhi : DP X K hi q) : DE X K (.Subscript e (.Slice lo hi none p2) pos) (eSl f p q) := by
  obtain ⟨t, pa, r⟩ := ha.go
  obtain ⟨tl, pl, rl⟩ := hlo.go
  obtain ⟨th, ph, rh⟩ := hhi.go
  refine ⟨tSl (fun x lo hi H Q => rSlL K x lo hi H Q ∨ rSlA K x lo hi H Q ∨ rSlS x lo hi H Q) t tl th, fun i => ?_, fun σ W δ M d M' Q w s ev qq => ?_⟩
  · have h := pe_slice (SlR.or (X := X i) sl_list (SlR.or sl_tupA sl_str)) (pa i) (pl i) (ph i) (p2 := p2) (pos := pos)
    rw [c.K i] at h
    exact h
  · unfold eSl at ev
    split at ev
    · rename_i a M1 h1
      split at ev
      · rename_i lo' M2 h2
        split at ev
        · rename_i hi' M3 h3
          refine r σ W δ M _ _ _ w s h1 fun v W1 l1 w1 r1 => ?_
          refine rl σ W1 δ M1 _ _ _ w1 (s.le l1) h2 fun W2 l2 w2 => ?_
          refine rh σ W2 δ M2 _ _ _ w2 (s.le (l1.trans l2)) h3 fun W3 l3 w3 => ?_
          have r3 := r1.le (l2.trans l3)
          have l13 := (l1.trans l2).trans l3
          split at ev
          · cases ev
            obtain ⟨b, vs, rfl, s1, q1⟩ := tup_rep w3 r3
            refine .inr (.inl ⟨b, vs, rfl, s1, fun h => ?_, fun h p hp => ?_⟩)
            · rw [q1.len] at h
              rw [cutD_all h] at qq
              exact qq _ W3 l13 w3 r3
            · obtain ⟨l4, w4, r4⟩ := lay_tup w3 hp (q1.cut lo' hi')
              exact qq _ _ (l13.trans l4) w4 r4
          · split at ev
            · rename_i hz
              cases ev
              cases r3
              exact .inr (.inr ⟨_, rfl, hz, qq _ W3 l13 w3 (.str _)⟩)
            · cases ev
          · split at ev
            · rename_i xs hx
              cases ev
              obtain ⟨b, vs, rfl, s1, q1⟩ := lstOf_rep w3 r3 hx
              refine .inl ⟨b, vs, rfl, s1, fun p hp => ?_⟩
              obtain ⟨l4, w4, r4⟩ := lay_lst w3 hp (q1.cut lo' hi')
              exact qq _ _ (l13.trans l4) w4 r4
            · cases ev
        · cases ev
      · cases ev
    · cases ev

/-! ### built-in calls -/
abbrev GL := List D → Mh → Option (D × Mh)
structure CalF (X : I → Cx) (K : PySem.W.Frag) (f : Value) (g : GL) : Prop where
  go : ∃ r : List V → Hp → VK → Prop, (∀ i, CallR (X i) f r) ∧ ∀ (W : Wd) (M : Mh) (vs : List V) (ds : List D) (z : D) (M' : Mh) (Q : VK), W.Ok K M → RepL K W.B W.ι vs ds → g ds M = some (z, M') → VR K W z M' Q → r vs W.H Q
def eB (g : GL) (a : AF) : EF := fun δ M => match a δ M with
  | some (ds, M1) => g ds M1
  | none => none
theorem er_b {r : List V → Hp → VK → Prop} {g : GL} {a : AF} {t : TA} (h : ∀ (W : Wd) (M : Mh) (vs : List V) (ds : List D) (z : D) (M' : Mh) (Q : VK), W.Ok K M → RepL K W.B W.ι vs ds → g ds M = some (z, M') → VR K W z M' Q → r vs W.H Q) (ra : AR K t a) : ER K (tCB r t) (eB g a) := fun σ W δ M d M' Q w s e q => by
  unfold eB at e
  split at e
  · rename_i ds M1 h1
    exact ra σ W δ M _ _ _ w s h1 fun vs W1 l1 w1 r1 => h W1 M1 vs ds d M' Q w1 r1 e (q.le l1)
  · cases e
theorem DE.callB (c : Ctx X P w K mg base k) {x : Str} {p pos : Pos} {e : Expr} {es : List Expr} {id : String} {g : GL} {a : AF} (o : CalF X K (.builtin id) g) (hm : mg x = none) (hv : bootBuiltins x = some (.builtin id)) (ha : DA X K (e :: es) a) (hg : ∀ i, Gl (X i) x := by intro _; rfl)
    (hn : x ≠ "__name__" := by decide) (hdbg : (x == ("__debug__" : Str)) = false := by decide) (he : ∀ i, starEach (e :: es) (X i).env = (false, eval e (X i).env) :: starEach es (X i).env := by intro _; rfl) (hpl : ∀ i, (backTo pos (starEach es (X i).env)).any (·.1) = false := by intro _; rfl) :
    DE X K (.Call (.Name x p) (e :: es) [] pos) (eB g a) := by
  obtain ⟨r, hc, h⟩ := o.go
  obtain ⟨t, pa, ra⟩ := ha.go
  exact ⟨_, fun i => pe_callB (hc i) (hg i) (by rw [c.mg i]; exact hm) hv (pa i) (hn := hn) (hdb := hdbg) (he := he i) (hpl := hpl i), er_b h ra⟩
theorem DE.callTy (c : Ctx X P w K mg base k) {x : Str} {p pos : Pos} {e : Expr} {es : List Expr} {id : String} {g : GL} {a : AF} (o : CalF X K (.type id) g) (hm : mg x = none) (hv : bootBuiltins x = some (.type id)) (ha : DA X K (e :: es) a) (hg : ∀ i, Gl (X i) x := by intro _; rfl)
    (hn : x ≠ "__name__" := by decide) (hdbg : (x == ("__debug__" : Str)) = false := by decide) (he : ∀ i, starEach (e :: es) (X i).env = (false, eval e (X i).env) :: starEach es (X i).env := by intro _; rfl) (hpl : ∀ i, (backTo pos (starEach es (X i).env)).any (·.1) = false := by intro _; rfl) :
    DE X K (.Call (.Name x p) (e :: es) [] pos) (eB g a) := by
  obtain ⟨r, hc, h⟩ := o.go
  obtain ⟨t, pa, ra⟩ := ha.go
  exact ⟨_, fun i => pe_callTy (hc i) (hg i) (by rw [c.mg i]; exact hm) hv (pa i) (hn := hn) (hdb := hdbg) (he := he i) (hpl := hpl i), er_b h ra⟩
/-- a built-in that the module has imported -/
theorem DE.callM (c : Ctx X P w K mg base k) {x : Str} {p pos : Pos} {e : Expr} {es : List Expr} {id : String} {g : GL} {a : AF} (o : CalF X K (.builtin id) g) (hm : mg x = some (.builtin id)) (ha : DA X K (e :: es) a) (hg : ∀ i, Gl (X i) x := by intro _; rfl)
    (hdbg : (x == ("__debug__" : Str)) = false := by decide) (he : ∀ i, starEach (e :: es) (X i).env = (false, eval e (X i).env) :: starEach es (X i).env := by intro _; rfl) (hpl : ∀ i, (backTo pos (starEach es (X i).env)).any (·.1) = false := by intro _; rfl) :
    DE X K (.Call (.Name x p) (e :: es) [] pos) (eB g a) := by
  obtain ⟨r, hc, h⟩ := o.go
  obtain ⟨t, pa, ra⟩ := ha.go
  exact ⟨_, fun i => pe_callBfun (hc i) (hg i) (by rw [c.mg i]; exact hm) (pa i) (hdb := hdbg) (he := he i) (hpl := hpl i), er_b h ra⟩
def lenOf (M : Mh) : D → Option Nat
  | .str z => if z.length ≤ sizeLine then some z.length else none
  | .tup xs => some xs.length
  | d => (lstOf M d).map (·.length)
def gLen : GL := fun ds M => match ds with
  | [d] => (lenOf M d).map fun n => (.int (n : Nat), M)
  | _ => none
theorem cLen (c : Ctx X P w K mg base k) : CalF X K (.builtin "len") gLen := ⟨fun xs H Q => ∃ x n, xs = [x] ∧ LenV K x H n ∧ Q (.int n) H, fun i => by
  have h := call_len (X := X i)
  rw [c.K i] at h
  exact h, fun W M vs ds z M' Q w r e q => by
  unfold gLen at e
  split at e
  · rename_i d
    cases hl : lenOf M d with
    | none =>
      rw [hl] at e
      cases e
    | some n =>
      rw [hl] at e
      cases e
      cases r with
      | cons r1 r2 =>
        cases r2
        refine ⟨_, n, rfl, ?_, q _ W (.refl W) w (.int _)⟩
        unfold lenOf at hl
        split at hl
        · split at hl
          · rename_i hz
            cases hl
            cases r1
            exact ⟨hz, rfl⟩
          · cases hl
        · cases hl
          obtain ⟨a, us, rfl, s1, q1⟩ := tup_rep w r1
          exact .inr ⟨us, s1, q1.len.symm⟩
        · cases hx : lstOf M d with
          | none =>
            rw [hx] at hl
            cases hl
          | some xs =>
            rw [hx] at hl
            cases hl
            obtain ⟨a, us, rfl, s1, q1⟩ := lstOf_rep w r1 hx
            exact .inl ⟨us, s1, q1.len.symm⟩
  · cases e⟩
def gL1 (h : Int → D) : GL := fun ds M => match ds with
  | [.int i] => some (h i, M)
  | _ => none
def gL2 (h : Int → Int → D) : GL := fun ds M => match ds with
  | [.int i, .int j] => some (h i j, M)
  | _ => none
theorem cAbs : CalF X K (.builtin "abs") (gL1 fun i => .int (if i < 0 then -i else i)) := ⟨_, fun i => call_abs, fun W M vs ds z M' Q w r e q => by
  unfold gL1 at e
  split at e
  · cases e
    cases r with
    | cons r1 r2 =>
      cases r1
      cases r2
      exact ⟨_, rfl, q _ W (.refl W) w (.int _)⟩
  · cases e⟩
theorem cMax2 (c : Ctx X P w K mg base k) : CalF X K (.builtin "max") (gL2 fun i j => .int (if j > i then j else i)) := ⟨_, fun i => call_max2 (c.calm i), fun W M vs ds z M' Q w r e q => by
  unfold gL2 at e
  split at e
  · cases e
    cases r with
    | cons r1 r2 =>
      cases r2 with
      | cons r2 r3 =>
        cases r1
        cases r2
        cases r3
        exact ⟨_, _, rfl, q _ W (.refl W) w (.int _)⟩
  · cases e⟩
theorem cMin2 (c : Ctx X P w K mg base k) : CalF X K (.builtin "min") (gL2 fun i j => .int (if j < i then j else i)) := ⟨_, fun i => call_min2 (c.calm i), fun W M vs ds z M' Q w r e q => by
  unfold gL2 at e
  split at e
  · cases e
    cases r with
    | cons r1 r2 =>
      cases r2 with
      | cons r2 r3 =>
        cases r1
        cases r2
        cases r3
        exact ⟨_, _, rfl, q _ W (.refl W) w (.int _)⟩
  · cases e⟩
theorem cGcd : CalF X K (.builtin "math.gcd") (gL2 fun i j => .int ((Nat.gcd i.natAbs j.natAbs : Nat) : Int)) := ⟨_, fun i => cr_gcd, fun W M vs ds z M' Q w r e q => by
  unfold gL2 at e
  split at e
  · cases e
    cases r with
    | cons r1 r2 =>
      cases r2 with
      | cons r2 r3 =>
        cases r1
        cases r2
        cases r3
        exact ⟨_, _, rfl, q _ W (.refl W) w (.int _)⟩
  · cases e⟩
def intsOf : List D → Option (List Int)
  | [] => some []
  | .int i :: r => (match intsOf r with
    | some is => some (i :: is)
    | none => none)
  | _ => none
theorem rep_ints {B : Hp} {ι : List Addr} : ∀ {vs : List V} {ds : List D} {is : List Int}, RepL K B ι vs ds → intsOf ds = some is → vs = is.map V.int
  | _, _, _, .nil, e => by
    cases e
    rfl
  | _, _, _, .cons (d := d) r t, e => by
    unfold intsOf at e
    split at e
    · rename_i h1
      cases h1
    · rename_i h1
      split at e
      · rename_i is h2
        cases e
        cases h1
        cases r
        rw [List.map_cons, rep_ints t h2]
      · cases e
    · cases e
def gSum : GL := fun ds M => match ds with
  | [d] => (match lstOf M d with
    | some xs => (match intsOf xs with
      | some is => some (.int is.sum, M)
      | none => none)
    | none => none)
  | _ => none
theorem cSum (c : Ctx X P w K mg base k) : CalF X K (.builtin "sum") gSum := ⟨rSum K, fun i => by
  have h := cr_sum (X := X i) (c.calm i)
  rw [c.K i] at h
  exact h, fun W M vs ds z M' Q w r e q => by
  unfold gSum at e
  split at e
  · split at e
    · rename_i xs h1
      split at e
      · rename_i is h2
        cases e
        cases r with
        | cons r1 r2 =>
          cases r2
          obtain ⟨a, us, rfl, s1, q1⟩ := lstOf_rep w r1 h1
          have := rep_ints q1 h2
          subst this
          exact ⟨a, is, rfl, s1, q _ W (.refl W) w (.int _)⟩
      · cases e
    · cases e
  · cases e⟩
def gTupOf : GL := fun ds M => match ds with
  | [.tup xs] => some (.tup xs, M)
  | [d] => (match lstOf M d with
    | some xs => some (.tup xs, M)
    | none => none)
  | _ => none
theorem cTupOf (c : Ctx X P w K mg base k) : CalF X K (.type "tuple") gTupOf := ⟨fun xs H Q => ∃ p ys, xs = [.ref p] ∧ ((SqL K H p ys ∧ ∀ l, H l = none → Q (.ref l) (upd H l (.tup ys))) ∨ (SqT K H p ys ∧ Q (.ref p) H)), fun i => by
  have h := call_tuple_of (X := X i)
  rw [c.K i] at h
  exact h, fun W M vs ds z M' Q w r e q => by
  unfold gTupOf at e
  split at e
  · cases e
    cases r with
    | cons r1 r2 =>
      cases r2
      obtain ⟨a, us, rfl, s1, q1⟩ := tup_rep w r1
      exact ⟨a, us, rfl, .inr ⟨s1, q _ W (.refl W) w r1⟩⟩
  · split at e
    · rename_i xs h1
      cases e
      cases r with
      | cons r1 r2 =>
        cases r2
        obtain ⟨a, us, rfl, s1, q1⟩ := lstOf_rep w r1 h1
        refine ⟨a, us, rfl, .inl ⟨s1, fun p hp => ?_⟩⟩
        obtain ⟨l2, w2, r3⟩ := lay_tup w hp q1
        exact q _ _ l2 w2 r3
    · cases e
  · cases e⟩
def gLstOf : GL := fun ds M => match ds with
  | [.tup xs] => some (.lst xs, M)
  | [d] => (match lstOf M d with
    | some xs => some (.lst xs, M)
    | none => none)
  | _ => none
theorem cLstOf (c : Ctx X P w K mg base k) : CalF X K (.type "list") gLstOf := ⟨fun xs H Q => ∃ p ys, xs = [.ref p] ∧ (SqL K H p ys ∨ SqT K H p ys) ∧ ∀ l, H l = none → Q (.ref l) (upd H l (.lst ys)), fun i => by
  have h := call_list_of (X := X i)
  rw [c.K i] at h
  exact h, fun W M vs ds z M' Q w r e q => by
  unfold gLstOf at e
  split at e
  · cases e
    cases r with
    | cons r1 r2 =>
      cases r2
      obtain ⟨a, us, rfl, s1, q1⟩ := tup_rep w r1
      refine ⟨a, us, rfl, .inr s1, fun p hp => ?_⟩
      obtain ⟨l2, w2, r3⟩ := lay_lst w hp q1
      exact q _ _ l2 w2 r3
  · split at e
    · rename_i xs h1
      cases e
      cases r with
      | cons r1 r2 =>
        cases r2
        obtain ⟨a, us, rfl, s1, q1⟩ := lstOf_rep w r1 h1
        refine ⟨a, us, rfl, .inl s1, fun p hp => ?_⟩
        obtain ⟨l2, w2, r3⟩ := lay_lst w hp q1
        exact q _ _ l2 w2 r3
    · cases e
  · cases e⟩
def gStrInt : GL := fun ds M => match ds with
  | [.int i] => if i.natAbs.log2 < 1920 then some (.str (toString i), M) else none
  | _ => none
theorem cStrInt : CalF X K (.type "str") gStrInt := ⟨_, fun i => call_str_int, fun W M vs ds z M' Q w r e q => by
  unfold gStrInt at e
  split at e
  · split at e
    · rename_i hz
      cases e
      cases r with
      | cons r1 r2 =>
        cases r1
        cases r2
        exact ⟨_, rfl, hz, q _ W (.refl W) w (.str _)⟩
    · cases e
  · cases e⟩
def gInt1 : GL := fun ds M => match ds with
  | [.int i] => some (.int i, M)
  | [.bl b] => some (.int (if b then 1 else 0), M)
  | [.str x] => (match PySem.intText? x with
    | some n => if x.length ≤ 640 then some (.int n, M) else none
    | none => none)
  | _ => none
theorem cInt1 : CalF X K (.type "int") gInt1 := ⟨_, fun i => CallR.or call_int1 call_int_str, fun W M vs ds z M' Q w r e q => by
  unfold gInt1 at e
  split at e
  · cases e
    cases r with
    | cons r1 r2 =>
      cases r1
      cases r2
      exact .inl (.inl ⟨_, rfl, q _ W (.refl W) w (.int _)⟩)
  · cases e
    cases r with
    | cons r1 r2 =>
      cases r1
      cases r2
      exact .inl (.inr ⟨_, rfl, q _ W (.refl W) w (.int _)⟩)
  · split at e
    · rename_i n h1
      split at e
      · rename_i hz
        cases e
        cases r with
        | cons r1 r2 =>
          cases r1
          cases r2
          exact .inr ⟨_, n, rfl, h1, hz, q _ W (.refl W) w (.int _)⟩
      · cases e
    · cases e
  · cases e⟩
def bsOf : List D → Option (List Bool)
  | [] => some []
  | .bl i :: r => (match bsOf r with
    | some is => some (i :: is)
    | none => none)
  | _ => none
theorem rep_bs {B : Hp} {ι : List Addr} : ∀ {vs : List V} {ds : List D} {is : List Bool}, RepL K B ι vs ds → bsOf ds = some is → vs = is.map V.bl
  | _, _, _, .nil, e => by
    cases e
    rfl
  | _, _, _, .cons (d := d) r t, e => by
    unfold bsOf at e
    split at e
    · rename_i h1
      cases h1
    · rename_i h1
      split at e
      · rename_i is h2
        cases e
        cases h1
        cases r
        rw [List.map_cons, rep_bs t h2]
      · cases e
    · cases e
def gBs (h : List Bool → Bool) : GL := fun ds M => match ds with
  | [d] => (match lstOf M d with
    | some xs => (match bsOf xs with
      | some bs => some (.bl (h bs), M)
      | none => none)
    | none => none)
  | _ => none
theorem cAll (c : Ctx X P w K mg base k) : CalF X K (.builtin "all") (gBs fun bs => bs.all id) := ⟨rAll K, fun i => by
  have h := cr_all (X := X i) (c.calm i)
  rw [c.K i] at h
  exact h, fun W M vs ds z M' Q w r e q => by
  unfold gBs at e
  split at e
  · split at e
    · rename_i xs h1
      split at e
      · rename_i is h2
        cases e
        cases r with
        | cons r1 r2 =>
          cases r2
          obtain ⟨a, us, rfl, s1, q1⟩ := lstOf_rep w r1 h1
          have := rep_bs q1 h2
          subst this
          exact ⟨a, is, rfl, s1, q _ W (.refl W) w (.bl _)⟩
      · cases e
    · cases e
  · cases e⟩
theorem cAny (c : Ctx X P w K mg base k) : CalF X K (.builtin "any") (gBs fun bs => bs.any id) := ⟨rAny K, fun i => by
  have h := cr_any (X := X i) (c.calm i)
  rw [c.K i] at h
  exact h, fun W M vs ds z M' Q w r e q => by
  unfold gBs at e
  split at e
  · split at e
    · rename_i xs h1
      split at e
      · rename_i is h2
        cases e
        cases r with
        | cons r1 r2 =>
          cases r2
          obtain ⟨a, us, rfl, s1, q1⟩ := lstOf_rep w r1 h1
          have := rep_bs q1 h2
          subst this
          exact ⟨a, is, rfl, s1, q _ W (.refl W) w (.bl _)⟩
      · cases e
    · cases e
  · cases e⟩
end
end Pl

namespace Pl
open PySem L2
section
variable {I : Type} {X : I → Cx} {P : Program} {w : World} {K : PySem.W.Frag} {mg : Str → Option Value} {base : Heap} {k : Nat}

/-! ### isinstance -/
def tyN (M : Mh) : D → Option String
  | .non => some "NoneType"
  | .bl _ => some "bool"
  | .int _ => some "int"
  | .str _ => some "str"
  | .tup _ => some "tuple"
  | .lst _ => some "list"
  | .ref n => (match M[n]? with
    | some (.lst _) => some "list"
    | some (.dic _) => some "dict"
    | _ => none)
  | _ => none
theorem sqT_ty {H : Hp} {a : Addr} {vs : List V} (h : SqT K H a vs) : TyX K H (.ref a) (.type "tuple") := by
  rcases h with h | ⟨o, its, n, h1, h2, _⟩
  · rcases h with h | ⟨o, h⟩
    · exact .base (.tup h)
    · exact .fTuple h
  · exact .kTuple h1 h2
theorem tyN_rep {W : Wd} {M : Mh} {x : V} {d : D} {n : String} (w : W.Ok K M) (r : Rep K W.B W.ι x d) (h : tyN M d = some n) : TyX K W.H x (.type n) := by
  cases r with
  | non => cases h; exact .base .non
  | bl b => cases h; exact .base (.bl b)
  | int b => cases h; exact .base (.int b)
  | str b => cases h; exact .base (.str b)
  | tup h1 _ => cases h; exact sqT_ty (sqT_mono w.sub h1)
  | lst h1 _ => cases h; exact .base (.lst (w.sub _ _ h1))
  | ty _ => cases h
  | ob _ => cases h
  | lsk _ _ => cases h
  | ref h1 =>
    unfold tyN at h
    dsimp only at h
    split at h
    · rename_i hm
      cases h
      obtain ⟨_, _, o, ho, ro⟩ := w.live _ _ _ ⟨h1, hm, fun z => by cases z⟩
      cases ro with
      | lst _ => exact .base (.lst ho)
    · rename_i hm
      cases h
      obtain ⟨_, _, o, ho, ro⟩ := w.live _ _ _ ⟨h1, hm, fun z => by cases z⟩
      cases ro with
      | dic _ => exact .base (.dK ho)
    · cases h
def gIsi : GL := fun ds M => match ds with
  | [d, .ty n] => (match tyN M d with
    | some t => (match kitB t n with
      | some b => some (.bl b, M)
      | none => none)
    | none => none)
  | _ => none
theorem cIsi (c : Ctx X P w K mg base k) : CalF X K (.builtin "isinstance") gIsi := ⟨rIsi K, fun i => by
  have h := call_isi (X := X i)
  rw [c.K i] at h
  exact h, fun W M vs ds z M' Q w r e q => by
  unfold gIsi at e
  split at e
  · split at e
    · rename_i t h1
      split at e
      · rename_i b h2
        cases e
        cases r with
        | cons r1 r2 =>
          cases r2 with
          | cons r2 r3 =>
            cases r2
            cases r3
            exact ⟨_, _, _, _, b, rfl, .ty _, tyN_rep w r1 h1, kit_ty h2, q _ W (.refl W) w (.bl _)⟩
      · cases e
    · cases e
  · cases e⟩

/-! ### in -/
theorem room_in {A : Around} {xs : List PyData} {d : PyData} (h : SeqAt.shaped d = true) (u : A.units + 65 < cLine) : A.units + 1 + min (PyData.depthAll xs) d.depth < cLine := by
  have h1 := SeqAt.depth_of_shaped h
  have h2 := Nat.min_le_right (PyData.depthAll xs) d.depth
  omega
def rInT (K : PySem.W.Frag) : R2 := fun x y H Q => ∃ d ds, Dp K H x d ∧ Dp K H y (.tuple ds) ∧ SeqAt.shaped d = true ∧ SeqAt.shaped (.tuple ds) = true ∧ Q (.bl (ds.any fun z => PyData.eqv z d)) H
def rNotInT (K : PySem.W.Frag) : R2 := fun x y H Q => ∃ d ds, Dp K H x d ∧ Dp K H y (.tuple ds) ∧ SeqAt.shaped d = true ∧ SeqAt.shaped (.tuple ds) = true ∧ Q (.bl (!ds.any fun z => PyData.eqv z d)) H
theorem op_inT {Y : Cx} (room : Y.A.units + 65 < cLine) : OpR Y (compareOp .In) (rInT Y.K) := fun pins s σ H x y v u Q J rx ry ⟨d, ds, hd, he, sd, se, q⟩ => by
  obtain ⟨as, r1⟩ := Dp.reads J d x v hd rx
  obtain ⟨bs, r2⟩ := Dp.reads J (.tuple ds) y u he ry
  exact SeqAt.in_tuple_reads r2 r1 (SeqAt.canLay_of_shaped se) (SeqAt.canLay_of_shaped sd) (room_in sd room) ⟨.bl _, H, J, rfl, q⟩
theorem op_notInT {Y : Cx} (room : Y.A.units + 65 < cLine) : OpR Y (compareOp .NotIn) (rNotInT Y.K) := fun pins s σ H x y v u Q J rx ry ⟨d, ds, hd, he, sd, se, q⟩ => by
  obtain ⟨as, r1⟩ := Dp.reads J d x v hd rx
  obtain ⟨bs, r2⟩ := Dp.reads J (.tuple ds) y u he ry
  exact SeqAt.notIn_tuple_reads r2 r1 (SeqAt.canLay_of_shaped se) (SeqAt.canLay_of_shaped sd) (room_in sd room) ⟨.bl _, H, J, rfl, q⟩
/-- a sign in a text, a thing in a row -/
def gIn (h : Bool → Bool) : O2 := fun a b M => match a, b with
  | .str ⟨⟨[s]⟩⟩, .str z => some (.bl (h (decide (s ∈ z.cps.toList))), M)
  | a, b => (match toP (deref M a), toP (deref M b) with
    | some p, some (.tuple ps) => if SeqAt.shaped p && SeqAt.shaped (.tuple ps) then some (.bl (h (ps.any fun z => PyData.eqv z p)), M) else none
    | some p, some (.list ps) => if SeqAt.shaped p && SeqAt.shaped (.list ps) then some (.bl (h (ps.any fun z => PyData.eqv z p)), M) else none
    | _, _ => none)
theorem room65 {A : Around} {j : Nat} (r : Room j A) : A.units + 65 < cLine := by
  have := r.un
  omega
theorem opIn (c : Ctx X P w K mg base k) : OpF X K (compareOp .In) (gIn fun b => b) := ⟨fun x y H Q => (∃ (c : Nat) (z : Str), x = .str ⟨#[c]⟩ ∧ y = .str z ∧ Q (.bl (decide (c ∈ z.cps.toList))) H) ∨ rInT K x y H Q ∨ rInD K x y H Q, fun i => by
  have h := OpR.or (X := X i) op_in_sign (OpR.or (op_inT (room65 (c.room i))) (op_inD (room65 (c.room i))))
  rw [c.K i] at h
  exact h, fun W M x y a b z M' Q w ra rb e q => by
  unfold gIn at e
  split at e
  · cases ra
    cases rb
    cases e
    exact .inl ⟨_, _, rfl, rfl, q _ W (.refl W) w (.bl _)⟩
  · split at e
    · rename_i h1 h2
      split at e
      · rename_i hs
        cases e
        rw [Bool.and_eq_true] at hs
        exact .inr (.inl ⟨_, _, dp_of w ra h1, dp_of w rb h2, hs.1, hs.2, q _ W (.refl W) w (.bl _)⟩)
      · cases e
    · rename_i h1 h2
      split at e
      · rename_i hs
        cases e
        rw [Bool.and_eq_true] at hs
        exact .inr (.inr ⟨_, _, dp_of w ra h1, dp_of w rb h2, hs.1, hs.2, q _ W (.refl W) w (.bl _)⟩)
      · cases e
    · cases e⟩
theorem opNotIn (c : Ctx X P w K mg base k) : OpF X K (compareOp .NotIn) (gIn fun b => !b) := ⟨fun x y H Q => (∃ (c : Nat) (z : Str), x = .str ⟨#[c]⟩ ∧ y = .str z ∧ Q (.bl (!decide (c ∈ z.cps.toList))) H) ∨ rNotInT K x y H Q ∨ rNotInD K x y H Q, fun i => by
  have h := OpR.or (X := X i) op_notIn_sign (OpR.or (op_notInT (room65 (c.room i))) (op_notInD (room65 (c.room i))))
  rw [c.K i] at h
  exact h, fun W M x y a b z M' Q w ra rb e q => by
  unfold gIn at e
  split at e
  · cases ra
    cases rb
    cases e
    exact .inl ⟨_, _, rfl, rfl, q _ W (.refl W) w (.bl _)⟩
  · split at e
    · rename_i h1 h2
      split at e
      · rename_i hs
        cases e
        rw [Bool.and_eq_true] at hs
        exact .inr (.inl ⟨_, _, dp_of w ra h1, dp_of w rb h2, hs.1, hs.2, q _ W (.refl W) w (.bl _)⟩)
      · cases e
    · rename_i h1 h2
      split at e
      · rename_i hs
        cases e
        rw [Bool.and_eq_true] at hs
        exact .inr (.inr ⟨_, _, dp_of w ra h1, dp_of w rb h2, hs.1, hs.2, q _ W (.refl W) w (.bl _)⟩)
      · cases e
    · cases e⟩

/-! ### a list of the store stands still from here on -/
def eFrz (i : Nat) : EF := fun δ M => match δ[i]? with
  | some (some (.ref n)) => (match M[n]? with
    | some (.lst ds) => some (.lst ds, M.set n .dead)
    | _ => none)
  | _ => none
theorem DE.frz (j : Nat) {x : Str} {pos : Pos} (hN : ∀ i, (X i).N[j]? = some x := by intro _; rfl) (hv : ∀ i, Vis (X i).env.scope x := by intro _; first | exact Or.inl rfl | exact Or.inr (Or.inl rfl) | exact Or.inr (Or.inr rfl)) (hd : (x == ("__debug__" : Str)) = false := by decide)
    (hcd : (x == ("__classdict__" : Str)) = false := by decide) : DE X K (.Name x pos) (eFrz j) := by
  refine ⟨tVar j, fun i => pe_var (hN i) (hv i) hd hcd, fun σ W δ M d M' Q w s e q => ?_⟩
  unfold eFrz at e
  split at e
  · rename_i n h
    split at e
    · rename_i ds hm
      cases e
      obtain ⟨v, h1, h2⟩ := s.at_ _ _ h
      refine ⟨v, h1, ?_⟩
      cases h2 with
      | ref hi =>
        have lv : Live W M n _ (.lst ds) := ⟨hi, hm, fun z => by cases z⟩
        obtain ⟨_, _, o, ho, ro⟩ := w.live _ _ _ lv
        cases ro with
        | lst r1 => exact q _ (W.frz _ _) (Wd.frz_le w lv) (Wd.frz_ok w lv ho) (.lst upd_same (r1.le (Wd.frz_le w lv)))
    · cases e
  · cases e

/-! ### lists that change -/
def eMeth2 (g : D → List D → Mh → Option (D × Mh)) (f : EF) (a : AF) : EF := fun δ M => match f δ M with
  | some (o, M1) => if (lstOf M1 o).isSome then (match a δ M1 with
    | some (ds, M2) => g o ds M2
    | none => none) else none
  | none => none
def gApp : D → List D → Mh → Option (D × Mh) := fun o ds M => match o, ds with
  | .ref n, [d] => (match M[n]? with
    | some (.lst xs) => if xs.length < sizeLine then some (.non, M.set n (.lst (xs ++ [d]))) else none
    | _ => none)
  | _, _ => none
theorem lst_live {W : Wd} {M : Mh} {x : V} {n : Nat} {xs : List D} (w : W.Ok K M) (r : Rep K W.B W.ι x (.ref n)) (hm : M[n]? = some (.lst xs)) : ∃ a vs, x = .ref a ∧ Live W M n a (.lst xs) ∧ W.H a = some (.lst vs) ∧ RepL K W.B W.ι vs xs := by
  cases r with
  | ref hi =>
    have lv : Live W M n _ (.lst xs) := ⟨hi, hm, fun z => by cases z⟩
    obtain ⟨_, _, o, ho, ro⟩ := w.live _ _ _ lv
    cases ro with
    | lst r1 => exact ⟨_, _, rfl, lv, ho, r1⟩
/-- a method of a list -/
structure MetF (X : I → Cx) (K : PySem.W.Frag) (id : String) (g : D → List D → Mh → Option (D × Mh)) : Prop where
  go : ∃ r : V → List V → Hp → VK → Prop, (∀ i, MtR (X i) id r) ∧ ∀ (W : Wd) (M : Mh) (x : V) (o : D) (vs : List V) (ds : List D) (z : D) (M' : Mh) (Q : VK), W.Ok K M → Rep K W.B W.ι x o → RepL K W.B W.ι vs ds → g o ds M = some (z, M') → VR K W z M' Q → r x vs W.H Q
theorem DE.lmeth (c : Ctx X P w K mg base k) {o e : Expr} {es : List Expr} {name : Str} {id : String} {apos cpos : Pos} {g : D → List D → Mh → Option (D × Mh)} {f : EF} {a : AF} (m : MetF X K id g) (slot : Slot "list" name id) (ty : typeOf (.builtin id) = pure (.type "method_descriptor")) (ho : DE X K o f) (ha : DA X K (e :: es) a)
    (hbase : ∀ i, attributeBase o name (X i).env (eval o (X i).env) = eval o (X i).env := by intro _; rfl)
    (hfew : ∀ i, ((backTo cpos (starEach (e :: es) (X i).env)).all (fun x => !x.1) && (backToKw cpos (keywordEach [] (X i).env)).all (fun x => x.1.isSome) && decide ((e :: es).length + ([] : List Keyword).length + (if ([] : List Keyword).isEmpty then 0 else 1) < 30)) = true := by intro _; rfl)
    (hline : (apos.endLine == cpos.line) = true := by rfl) (hs : ∀ i, starEach (e :: es) (X i).env = (false, eval e (X i).env) :: starEach es (X i).env := by intro _; rfl) (hpl : ∀ i, (backTo cpos (starEach es (X i).env)).any (·.1) = false := by intro _; rfl) :
    DE X K (.Call (.Attribute o name apos) (e :: es) [] cpos) (eMeth2 g f a) := by
  obtain ⟨t, pa, r⟩ := ho.go
  obtain ⟨ta, paa, ra⟩ := ha.go
  obtain ⟨rr, hm, hr⟩ := m.go
  refine ⟨tBM K "list" rr t ta, fun i => ?_, fun σ W δ M d M' Q w s ev q => ?_⟩
  · have h := pe_bm (X := X i) PySem.F.plainAttrs_list slot ty (hm i) (pa i) (paa i) (hbase i) (hfew i) hline (hs i) (hpl i)
    rw [c.K i] at h
    exact h
  · unfold eMeth2 at ev
    split at ev
    · rename_i od M1 h1
      split at ev
      · rename_i hso
        split at ev
        · rename_i ds M2 h2
          obtain ⟨xs, hxs⟩ := Option.isSome_iff_exists.mp hso
          refine r σ W δ M _ _ _ w s h1 fun v W1 l1 w1 r1 => ⟨?_, ?_⟩
          · obtain ⟨l, vs, rfl, s1, _⟩ := lstOf_rep w1 r1 hxs
            exact .inl ⟨rfl, vs, s1⟩
          · exact ra σ W1 δ M1 _ _ _ w1 (s.le l1) h2 fun vs W2 l2 w2 r2 => hr W2 M2 v od vs ds d M' Q w2 (r1.le l2) r2 ev (q.le (l1.trans l2))
        · cases ev
      · cases ev
    · cases ev
theorem mApp : MetF X K "list.append" gApp := ⟨_, fun i => mt_append, fun W M x o vs ds z M' Q w rx rv ev q => by
  unfold gApp at ev
  split at ev
  · split at ev
    · rename_i xs hm
      split at ev
      · rename_i hl
        cases ev
        obtain ⟨p, us, rfl, lv, hp, ru⟩ := lst_live w rx hm
        cases rv with
        | cons ry r3 =>
          cases r3
          refine ⟨p, us, _, rfl, rfl, hp, by rw [ru.len]; exact hl, ?_⟩
          exact q .non (W.put p _) Wd.put_le (Wd.put_ok w lv (.lst (ru.append (.cons ry .nil)))) .non
      · cases ev
    · cases ev
  · cases ev⟩
def gIns : D → List D → Mh → Option (D × Mh) := fun o ds M => match o, ds with
  | .ref n, [.int i, d] => (match M[n]? with
    | some (.lst xs) => if xs.length < sizeLine ∧ 0 ≤ i ∧ i < 2 ^ 63 then some (.non, M.set n (.lst (xs.take i.toNat ++ [d] ++ xs.drop i.toNat))) else none
    | _ => none)
  | _, _ => none
theorem mIns : MetF X K "list.insert" gIns := ⟨_, fun i => mt_insert, fun W M x o vs ds z M' Q w rx rv ev q => by
  unfold gIns at ev
  split at ev
  · split at ev
    · rename_i xs hm
      split at ev
      · rename_i hl
        cases ev
        obtain ⟨p, us, rfl, lv, hp, ru⟩ := lst_live w rx hm
        cases rv with
        | cons ri rv =>
          cases ri
          cases rv with
          | cons ry r3 =>
            cases r3
            refine ⟨p, us, _, _, rfl, rfl, hp, by rw [ru.len]; exact hl.1, hl.2.1, hl.2.2, ?_⟩
            exact q .non (W.put p _) Wd.put_le (Wd.put_ok w lv (.lst (((ru.take _).append (.cons ry .nil)).append (ru.drop _)))) .non
      · cases ev
    · cases ev
  · cases ev⟩

/-! ### methods of texts -/
def eS0 (g : Str → Mh → Option (D × Mh)) (f : EF) : EF := fun δ M => match f δ M with
  | some (.str x, M1) => g x M1
  | _ => none
def eS1 (g : Str → D → Mh → Option (D × Mh)) (f h : EF) : EF := fun δ M => match f δ M with
  | some (.str x, M1) => (match h δ M1 with
    | some (d, M2) => g x d M2
    | none => none)
  | _ => none
structure SmF (X : I → Cx) (K : PySem.W.Frag) (id : String) (g : Str → D → Mh → Option (D × Mh)) : Prop where
  go : ∃ r : V → List V → Hp → VK → Prop, (∀ i, MtR (X i) id r) ∧ ∀ (W : Wd) (M : Mh) (x : Str) (v : V) (d : D) (z : D) (M' : Mh) (Q : VK), W.Ok K M → Rep K W.B W.ι v d → g x d M = some (z, M') → VR K W z M' Q → r (.str x) [v] W.H Q
theorem DE.smeth {o e : Expr} {name : Str} {id : String} {apos pos : Pos} {g : Str → D → Mh → Option (D × Mh)} {f h : EF} (m : SmF X K id g) (slot : Slot "str" name id) (ty : typeOf (.builtin id) = pure (.type "method_descriptor")) (ho : DE X K o f) (he : DE X K e h)
    (hs : ∀ i, starEach [e] (X i).env = [(false, eval e (X i).env)] := by intro _; rfl) (hbase : ∀ i, attributeBase o name (X i).env (eval o (X i).env) = eval o (X i).env := by intro _; rfl) (hline : (apos.endLine == pos.line) = true := by rfl) :
    DE X K (.Call (.Attribute o name apos) [e] [] pos) (eS1 g f h) := by
  obtain ⟨t, pa, r⟩ := ho.go
  obtain ⟨te, pe, re⟩ := he.go
  obtain ⟨rr, hm, hr⟩ := m.go
  refine ⟨tM1 rr t te, fun i => pe_m1 slot ty (hm i) (pa i) (pe i) (hs i) (hbase i) hline, fun σ W δ M d M' Q w s ev q => ?_⟩
  unfold eS1 at ev
  split at ev
  · rename_i x M1 h1
    split at ev
    · rename_i d2 M2 h2
      refine r σ W δ M _ _ _ w s h1 fun v W1 l1 w1 r1 => ?_
      cases r1
      exact ⟨⟨x, rfl⟩, re σ W1 δ M1 _ _ _ w1 (s.le l1) h2 fun u W2 l2 w2 r2 => hr W2 M2 x u d2 d M' Q w2 r2 ev (q.le (l1.trans l2))⟩
    · cases ev
  · cases ev
structure SmF0 (X : I → Cx) (K : PySem.W.Frag) (id : String) (g : Str → Mh → Option (D × Mh)) : Prop where
  go : ∃ r : V → List V → Hp → VK → Prop, (∀ i, MtR (X i) id r) ∧ ∀ (W : Wd) (M : Mh) (x : Str) (z : D) (M' : Mh) (Q : VK), W.Ok K M → g x M = some (z, M') → VR K W z M' Q → r (.str x) [] W.H Q
theorem DE.smeth0 {o : Expr} {name : Str} {id : String} {apos pos : Pos} {g : Str → Mh → Option (D × Mh)} {f : EF} (m : SmF0 X K id g) (slot : Slot "str" name id) (ty : typeOf (.builtin id) = pure (.type "method_descriptor")) (ho : DE X K o f)
    (hbase : ∀ i, attributeBase o name (X i).env (eval o (X i).env) = eval o (X i).env := by intro _; rfl) (hline : (apos.endLine == pos.line) = true := by rfl) :
    DE X K (.Call (.Attribute o name apos) [] [] pos) (eS0 g f) := by
  obtain ⟨t, pa, r⟩ := ho.go
  obtain ⟨rr, hm, hr⟩ := m.go
  refine ⟨tM0 rr t, fun i => pe_m0 slot ty (hm i) (pa i) (hbase i) hline, fun σ W δ M d M' Q w s ev q => ?_⟩
  unfold eS0 at ev
  split at ev
  · rename_i x M1 h1
    refine r σ W δ M _ _ _ w s h1 fun v W1 l1 w1 r1 => ?_
    cases r1
    exact ⟨⟨x, rfl⟩, hr W1 M1 x d M' Q w1 ev (q.le l1)⟩
  · cases ev
def strsOf : List D → Option (List Str)
  | [] => some []
  | .str i :: r => (match strsOf r with
    | some is => some (i :: is)
    | none => none)
  | _ => none
theorem rep_strs {B : Hp} {ι : List Addr} : ∀ {vs : List V} {ds : List D} {is : List Str}, RepL K B ι vs ds → strsOf ds = some is → vs = is.map V.str
  | _, _, _, .nil, e => by
    cases e
    rfl
  | _, _, _, .cons (d := d) r t, e => by
    unfold strsOf at e
    split at e
    · rename_i h1
      cases h1
    · rename_i h1
      split at e
      · rename_i is h2
        cases e
        cases h1
        cases r
        rw [List.map_cons, rep_strs t h2]
      · cases e
    · cases e
theorem strs_rep {B : Hp} {ι : List Addr} : ∀ ys : List Str, RepL K B ι (ys.map V.str) (ys.map D.str)
  | [] => .nil
  | y :: ys => .cons (.str y) (strs_rep ys)
def gJoin : Str → D → Mh → Option (D × Mh) := fun a d M => match (match d with
    | .tup xs => some xs
    | d => lstOf M d) with
  | some xs => (match strsOf xs with
    | some ys => if (ys.map (·.length)).sum + ys.length * a.length ≤ 16777216 then some (.str (Txt.join a ys), M) else none
    | none => none)
  | none => none
theorem sJoin (c : Ctx X P w K mg base k) : SmF X K "str.join" gJoin := ⟨fun x xs H Q => ∃ a p, ∃ ys : List Str, x = .str a ∧ xs = [.ref p] ∧ (SqL K H p (ys.map V.str) ∨ SqT K H p (ys.map V.str)) ∧ (ys.map (·.length)).sum + ys.length * a.length ≤ 16777216 ∧ Q (.str (Txt.join a ys)) H, fun i => by
  have h := mt_join (X := X i)
  rw [c.K i] at h
  exact h, fun W M x v d z M' Q w rv ev q => by
  unfold gJoin at ev
  split at ev
  · rename_i xs h1
    split at ev
    · rename_i ys h2
      split at ev
      · rename_i hz
        cases ev
        split at h1
        · cases h1
          obtain ⟨p, us, rfl, s1, q1⟩ := tup_rep w rv
          have := rep_strs q1 h2
          subst this
          exact ⟨x, p, ys, rfl, rfl, .inr s1, hz, q _ W (.refl W) w (.str _)⟩
        · obtain ⟨p, us, rfl, s1, q1⟩ := lstOf_rep w rv h1
          have := rep_strs q1 h2
          subst this
          exact ⟨x, p, ys, rfl, rfl, .inl s1, hz, q _ W (.refl W) w (.str _)⟩
      · cases ev
    · cases ev
  · cases ev⟩
def gSplit : Str → D → Mh → Option (D × Mh) := fun a d M => match d with
  | .str b => if (b.length == 0) = false ∧ a.length + 2 ≤ sizeLine then some (.lst ((Txt.split a b).map D.str), M) else none
  | _ => none
theorem sSplit : SmF X K "str.split" gSplit := ⟨_, fun i => mt_split, fun W M x v d z M' Q w rv ev q => by
  unfold gSplit at ev
  split at ev
  · split at ev
    · rename_i hz
      cases ev
      cases rv
      refine ⟨x, _, rfl, rfl, hz.1, hz.2, fun p hp => ?_⟩
      obtain ⟨l2, w2, r3⟩ := lay_lst w hp (strs_rep (Txt.split x _))
      exact q _ _ l2 w2 r3
    · cases ev
  · cases ev⟩
def gPart : Str → D → Mh → Option (D × Mh) := fun a d M => match d with
  | .str b => if (b.length == 0) = false ∧ a.length ≤ sizeLine then some (.tup [.str (Txt.partition a b).1, .str (Txt.partition a b).2.1, .str (Txt.partition a b).2.2], M) else none
  | _ => none
theorem sPart : SmF X K "str.partition" gPart := ⟨_, fun i => mt_partition, fun W M x v d z M' Q w rv ev q => by
  unfold gPart at ev
  split at ev
  · split at ev
    · rename_i hz
      cases ev
      cases rv
      refine ⟨x, _, rfl, rfl, hz.1, hz.2, fun p hp => ?_⟩
      obtain ⟨l2, w2, r3⟩ := lay_tup w hp (.cons (.str _) (.cons (.str _) (.cons (.str _) .nil)))
      exact q _ _ l2 w2 r3
    · cases ev
  · cases ev⟩
def gUpper : Str → Mh → Option (D × Mh) := fun a M => if a.length ≤ 5592405 then some (.str (Txt.upper a), M) else none
theorem sUpper : SmF0 X K "str.upper" gUpper := ⟨_, fun i => mt_upper, fun W M x z M' Q w ev q => by
  unfold gUpper at ev
  split at ev
  · rename_i hz
    cases ev
    exact ⟨x, rfl, rfl, hz, q _ W (.refl W) w (.str _)⟩
  · cases ev⟩

/-! ### f'..' -/
def eFmt (f : EF) : EF := fun δ M => match f δ M with
  | some (.str x, M1) => if x.length ≤ sizeLine then some (.str x, M1) else none
  | some (.int i, M1) => if i.natAbs.log2 < 1920 then some (.str (toString i), M1) else none
  | _ => none
theorem DE.fmt {e : Expr} {pos : Pos} {f : EF} (h : DE X K e f) : DE X K (.FormattedValue e (-1) none pos) (eFmt f) := by
  obtain ⟨t, p, r⟩ := h.go
  refine ⟨tFmt t, fun i => pe_fmt (p i), fun σ W δ M d M' Q w s ev q => ?_⟩
  unfold eFmt at ev
  split at ev
  · rename_i x M1 h1
    split at ev
    · rename_i hz
      cases ev
      refine r σ W δ M _ _ _ w s h1 fun v W1 l1 w1 r1 => ?_
      cases r1
      exact .inl ⟨x, rfl, hz, q _ W1 l1 w1 (.str _)⟩
    · cases ev
  · rename_i x M1 h1
    split at ev
    · rename_i hz
      cases ev
      refine r σ W δ M _ _ _ w s h1 fun v W1 l1 w1 r1 => ?_
      cases r1
      exact .inr ⟨x, rfl, hz, q _ W1 l1 w1 (.str _)⟩
    · cases ev
  · cases ev
structure DJ (X : I → Cx) (K : PySem.W.Frag) (es : List Expr) (f : Str → Env → Mh → Option (D × Mh)) : Prop where
  go : ∃ ts : List TE, (∀ i, PJ (X i) es ts) ∧ ∀ (acc : Str) (σ : St) (W : Wd) (δ : Env) (M : Mh) (d : D) (M' : Mh) (Q : VK), W.Ok K M → Slots K W σ δ → f acc δ M = some (d, M') → VR K W d M' Q → tJs ts acc σ W.H (fun out H1 => Q (.str out) H1)
def jNil : Str → Env → Mh → Option (D × Mh) := fun acc _ M => some (.str acc, M)
def jCons (f : EF) (g : Str → Env → Mh → Option (D × Mh)) : Str → Env → Mh → Option (D × Mh) := fun acc δ M => match f δ M with
  | some (.str x, M1) => if (acc ++ x).length ≤ sizeLine then g (acc ++ x) δ M1 else none
  | _ => none
theorem DJ.nil : DJ X K [] jNil := ⟨[], fun i => .nil, fun acc σ W δ M d M' Q w s ev q => by
  cases ev
  exact q _ W (.refl W) w (.str _)⟩
theorem DJ.cons {e : Expr} {es : List Expr} {f : EF} {g : Str → Env → Mh → Option (D × Mh)} (a : DE X K e f) (b : DJ X K es g) : DJ X K (e :: es) (jCons f g) := by
  obtain ⟨t, p, r⟩ := a.go
  obtain ⟨ts, ps, rs⟩ := b.go
  refine ⟨t :: ts, fun i => .cons (p i) (ps i), fun acc σ W δ M d M' Q w s ev q => ?_⟩
  unfold jCons at ev
  split at ev
  · rename_i x M1 h1
    split at ev
    · rename_i hz
      refine r σ W δ M _ _ _ w s h1 fun v W1 l1 w1 r1 => ?_
      cases r1
      exact ⟨x, rfl, hz, rs _ σ W1 δ M1 d M' Q w1 (s.le l1) ev (q.le l1)⟩
    · cases ev
  · cases ev
theorem DE.joined {v1 v2 : Expr} {rest : List Expr} {pos : Pos} {f : Str → Env → Mh → Option (D × Mh)} (h : DJ X K (v1 :: v2 :: rest) f) : DE X K (.JoinedStr (v1 :: v2 :: rest) pos) (f Str.empty) := by
  obtain ⟨ts, ps, rs⟩ := h.go
  exact ⟨_, fun i => pe_joined (ps i), fun σ W δ M d M' Q w s ev q => rs Str.empty σ W δ M d M' Q w s ev q⟩

/-! ### texts, enumerate, zip walked -/
def aSigns (f : EF) : AF := fun δ M => match f δ M with
  | some (.str x, M1) => some (x.cps.toList.map fun c => .str ⟨#[c]⟩, M1)
  | _ => none
theorem DI.str {tg e : Expr} {f : EF} (h : DE X K e f) : DI X K tg e (aSigns f) := by
  obtain ⟨t, p, r⟩ := h.go
  refine ⟨iStr t, fun i => pi_str (p i), fun σ W δ M ds M' R w s ev q => ?_⟩
  unfold aSigns at ev
  split at ev
  · rename_i x M1 h1
    cases ev
    refine r σ W δ M _ _ _ w s h1 fun v W1 l1 w1 r1 => ?_
    cases r1
    refine ⟨x, rfl, q _ W1 l1 w1 fun i W2 M2 l2 w2 => ⟨fun e => ?_, fun d e => ?_⟩⟩
    · have := List.getElem?_eq_none_iff.mp e
      rw [List.length_map, Array.length_toList] at this
      exact this
    · rw [List.getElem?_map] at e
      cases hc : x.cps.toList[i]? with
      | none =>
        rw [hc] at e
        cases e
      | some c =>
        rw [hc] at e
        cases e
        have hi : i < x.cps.size := by
          have := (List.getElem?_eq_some_iff.mp hc).1
          simpa using this
        refine ⟨hi, fun y H' ⟨e1, c', e2, e3⟩ => ⟨W2, e1.symm, .refl W2, w2, ?_⟩⟩
        have e4 : some c' = some c := by rw [← e2, ← hc]; simp
        cases e4
        subst e3
        exact .str _
  · cases ev
theorem wk_pair {J : It} {W0 : Wd} {ds es : List D} {n : Nat} (hs : ∀ (W : Wd) (M : Mh), W0.Lo W → W.Ok K M → (∀ i, n ≤ i → J.stop i W.H) ∧ ∀ i a b, i < n → ds[i]? = some a → es[i]? = some b → J.go i W.H ∧ ∀ x H', J.yld i W.H x H' → ∃ T x1 x2, x = .ref T ∧ W.H T = none ∧ H' = upd W.H T (.tup [x1, x2]) ∧ Rep K W.B W.ι x1 a ∧ Rep K W.B W.ι x2 b)
    (h1 : n ≤ ds.length) (h2 : n ≤ es.length) (hn : n = min ds.length es.length) : Wk K J W0 ((ds.zip es).map fun p => .tup [p.1, p.2]) := fun i W M l w => by
  obtain ⟨hst, hgo⟩ := hs W M l w
  refine ⟨fun e => ?_, fun d e => ?_⟩
  · have := List.getElem?_eq_none_iff.mp e
    rw [List.length_map, List.length_zip] at this
    exact hst i (by omega)
  · rw [List.getElem?_map] at e
    cases hz : (ds.zip es)[i]? with
    | none =>
      rw [hz] at e
      cases e
    | some p =>
      rw [hz] at e
      cases e
      obtain ⟨a1, a2⟩ := List.getElem?_zip_eq_some.mp hz
      have hi : i < n := by
        have := (List.getElem?_eq_some_iff.mp hz).1
        rw [List.length_zip] at this
        omega
      obtain ⟨g1, g2⟩ := hgo i _ _ hi a1 a2
      refine ⟨g1, fun x H' y => ?_⟩
      obtain ⟨T, x1, x2, rfl, hT, rfl, r1, r2⟩ := g2 x H' y
      obtain ⟨l2, w2, r3⟩ := lay_tup w hT (.cons r1 (.cons r2 .nil))
      exact ⟨_, rfl, l2, w2, r3⟩
def aEnum (a : AF) : AF := fun δ M => match a δ M with
  | some ([.lst xs], M1) => some ((((List.range xs.length).map fun (i : Nat) => D.int i).zip xs).map fun p => .tup [p.1, p.2], M1)
  | some ([.lsk xs], M1) => some ((((List.range xs.length).map fun (i : Nat) => D.int i).zip xs).map fun p => .tup [p.1, p.2], M1)
  | _ => none
theorem wk_enum {W0 : Wd} {a : Addr} {vs : List V} {ds : List D} (h : SqL K W0.B a vs) (r : RepL K W0.B W0.ι vs ds) : Wk K (Ite K a) W0 ((((List.range ds.length).map fun (i : Nat) => D.int i).zip ds).map fun p => .tup [p.1, p.2]) := by
  refine wk_pair (n := ds.length) (fun W M l w => ⟨fun i hi => ?_, fun i d1 d2 hi e1 e2 => ?_⟩) (by simp) (Nat.le_refl _) (by simp)
  · exact ⟨vs, sqL_mono w.sub (sqL_mono l.same h), by rw [r.len]; exact hi⟩
  · have hs : SqL K W.H a vs := sqL_mono w.sub (sqL_mono l.same h)
    obtain ⟨v, h1, h2⟩ := (r.mono l.same l.ix).get e2
    refine ⟨⟨vs, v, hs, h1⟩, fun x H' ⟨T, x2, a1, a2, a3, a4⟩ => ⟨T, _, x2, a1, a2, a3, ?_, ?_⟩⟩
    · rw [List.getElem?_map, List.getElem?_range hi] at e1
      cases e1
      exact .int _
    · have e3 := (a4 vs hs).symm.trans h1
      cases e3
      exact h2
theorem DI.enum (c : Ctx X P w K mg base k) (hm : mg "enumerate" = none) {e : Expr} {p pos tpos : Pos} {elts : List Expr} {kk : Nat} {a : AF} (h : DA X K [e] a) (hg : ∀ i, Gl (X i) "enumerate" := by intro _; rfl) (hs : ∀ i, starEach [e] (X i).env = [(false, eval e (X i).env)] := by intro _; rfl) :
    DI X K (.Tuple elts kk tpos) (.Call (.Name "enumerate" p) [e] [] pos) (aEnum a) := by
  obtain ⟨t, pa, r⟩ := h.go
  refine ⟨iEnum K t, fun i => ?_, fun σ W δ M ds M' R w s ev q => ?_⟩
  · have h := pi_enum (X := X i) (hg i) (by rw [c.mg i]; exact hm) (pa i) (hs i) (p := p) (pos := pos) (tpos := tpos) (elts := elts) (kk := kk)
    rw [c.K i] at h
    exact h
  · unfold aEnum at ev
    split at ev
    · rename_i xs M1 h1
      cases ev
      refine r σ W δ M _ _ _ w s h1 fun vs W1 l1 w1 r1 => ?_
      cases r1 with
      | cons r1 r2 =>
        cases r2
        cases r1 with
        | lst h1 r1 => exact ⟨_, _, rfl, .inl (.inl (w1.sub _ _ h1)), q _ W1 l1 w1 (wk_enum (.inl (.inl h1)) r1)⟩
    · rename_i xs M1 h1
      cases ev
      refine r σ W δ M _ _ _ w s h1 fun vs W1 l1 w1 r1 => ?_
      cases r1 with
      | cons r1 r2 =>
        cases r2
        cases r1 with
        | lsk h1 r1 => exact ⟨_, _, rfl, sqL_mono w1.sub h1, q _ W1 l1 w1 (wk_enum h1 r1)⟩
    · cases ev
def aZip (a : AF) : AF := fun δ M => match a δ M with
  | some ([.lst xs, .lst ys], M1) => some ((xs.zip ys).map fun p => .tup [p.1, p.2], M1)
  | some ([.tup xs, .tup ys], M1) => some ((xs.zip ys).map fun p => .tup [p.1, p.2], M1)
  | _ => none
theorem wk_zip {W0 : Wd} {a b : Addr} {vs us : List V} {ds es : List D} (h : SqL K W0.B a vs) (r : RepL K W0.B W0.ι vs ds) (h' : SqL K W0.B b us) (r' : RepL K W0.B W0.ι us es) : Wk K (Itz K a b) W0 ((ds.zip es).map fun p => .tup [p.1, p.2]) := by
  refine wk_pair (n := min ds.length es.length) (fun W M l w => ⟨fun i hi => ?_, fun i d1 d2 hi e1 e2 => ?_⟩) (Nat.min_le_left _ _) (Nat.min_le_right _ _) rfl
  · exact ⟨vs, us, sqL_mono w.sub (sqL_mono l.same h), sqL_mono w.sub (sqL_mono l.same h'), by rw [r.len, r'.len]; omega⟩
  · have hs : SqL K W.H a vs := sqL_mono w.sub (sqL_mono l.same h)
    have hs' : SqL K W.H b us := sqL_mono w.sub (sqL_mono l.same h')
    obtain ⟨v, h1, h2⟩ := (r.mono l.same l.ix).get e1
    obtain ⟨u, h3, h4⟩ := (r'.mono l.same l.ix).get e2
    refine ⟨⟨vs, us, v, u, hs, hs', h1, h3⟩, fun x H' ⟨T, x1, x2, a1, a2, a3, a4, a5⟩ => ⟨T, x1, x2, a1, a2, a3, ?_, ?_⟩⟩
    · have e3 := (a4 vs hs).symm.trans h1
      cases e3
      exact h2
    · have e3 := (a5 us hs').symm.trans h3
      cases e3
      exact h4
theorem wk_zipT {W0 : Wd} {a b : Addr} {vs us : List V} {ds es : List D} (h : SqT K W0.B a vs) (r : RepL K W0.B W0.ι vs ds) (h' : SqT K W0.B b us) (r' : RepL K W0.B W0.ι us es) : Wk K (RZ.ItzT K a b) W0 ((ds.zip es).map fun p => .tup [p.1, p.2]) := by
  refine wk_pair (n := min ds.length es.length) (fun W M l w => ⟨fun i hi => ?_, fun i d1 d2 hi e1 e2 => ?_⟩) (Nat.min_le_left _ _) (Nat.min_le_right _ _) rfl
  · exact ⟨vs, us, sqT_mono w.sub (sqT_mono l.same h), sqT_mono w.sub (sqT_mono l.same h'), by rw [r.len, r'.len]; omega⟩
  · have hs : SqT K W.H a vs := sqT_mono w.sub (sqT_mono l.same h)
    have hs' : SqT K W.H b us := sqT_mono w.sub (sqT_mono l.same h')
    obtain ⟨v, h1, h2⟩ := (r.mono l.same l.ix).get e1
    obtain ⟨u, h3, h4⟩ := (r'.mono l.same l.ix).get e2
    refine ⟨⟨vs, us, v, u, hs, hs', h1, h3⟩, fun x H' ⟨T, x1, x2, a1, a2, a3, a4, a5⟩ => ⟨T, x1, x2, a1, a2, a3, ?_, ?_⟩⟩
    · have e3 := (a4 vs hs).symm.trans h1
      cases e3
      exact h2
    · have e3 := (a5 us hs').symm.trans h3
      cases e3
      exact h4
theorem DI.zip (c : Ctx X P w K mg base k) (hm : mg "zip" = none) {e e2 : Expr} {p pos tpos : Pos} {elts : List Expr} {kk : Nat} {a : AF} (h : DA X K [e, e2] a) (hg : ∀ i, Gl (X i) "zip" := by intro _; rfl) (hs : ∀ i, starEach [e, e2] (X i).env = (false, eval e (X i).env) :: starEach [e2] (X i).env := by intro _; rfl) (hpl : ∀ i, (backTo pos (starEach [e2] (X i).env)).any (·.1) = false := by intro _; rfl) :
    DI X K (.Tuple elts kk tpos) (.Call (.Name "zip" p) [e, e2] [] pos) (aZip a) := by
  obtain ⟨t, pa, r⟩ := h.go
  refine ⟨RZ.iZipA K t, fun i => ?_, fun σ W δ M ds M' R w s ev q => ?_⟩
  · have h := RZ.pi_zipA (X := X i) (hg i) (by rw [c.mg i]; exact hm) (pa i) (hs i) (hpl i) (p := p) (pos := pos) (tpos := tpos) (elts := elts) (kk := kk)
    rw [c.K i] at h
    exact h
  · unfold aZip at ev
    split at ev
    · rename_i xs ys M1 h1
      cases ev
      refine r σ W δ M _ _ _ w s h1 fun vs W1 l1 w1 r1 => ?_
      cases r1 with
      | cons r1 r2 =>
        cases r2 with
        | cons r2 r3 =>
          cases r3
          cases r1 with
          | lst h1 r1 =>
            cases r2 with
            | lst h2 r2 => exact ⟨_, _, _, _, rfl, .inl ⟨.inl (.inl (w1.sub _ _ h1)), .inl (.inl (w1.sub _ _ h2)), q _ W1 l1 w1 (wk_zip (.inl (.inl h1)) r1 (.inl (.inl h2)) r2)⟩⟩
    · rename_i xs ys M1 h1
      cases ev
      refine r σ W δ M _ _ _ w s h1 fun vs W1 l1 w1 r1 => ?_
      cases r1 with
      | cons r1 r2 =>
        cases r2 with
        | cons r2 r3 =>
          cases r3
          cases r1 with
          | tup h1 r1 =>
            cases r2 with
            | tup h2 r2 => exact ⟨_, _, _, _, rfl, .inr ⟨sqT_mono w1.sub h1, sqT_mono w1.sub h2, q _ W1 l1 w1 (wk_zipT h1 r1 h2 r2)⟩⟩
    · cases ev
end
end Pl

namespace Pl
open PySem L2
section
variable {I : Type} {X : I → Cx} {P : Program} {w : World} {K : PySem.W.Frag} {mg : Str → Option Value} {base : Heap} {k : Nat}
/-- what is never reached -/
def sNever : SF := fun _ _ => none
theorem DS.never {s : Stmt} : DS X K s sNever := ⟨tNever, fun i => ps_never, fun σ W δ M o E w s e q => by cases e⟩
theorem DB.never {s : List Stmt} : DB X K s sNever := ⟨tNever, fun i => pss_never, fun σ W δ M o E w s e q => by cases e⟩
/-- a text alone -/
theorem DS.doc {x : Str} {j pos pos'} : DS X K (.Expr (.Constant (.str x) j pos) pos') sNil := ⟨tNext, fun i => ps_doc, fun σ W δ M o E w s e q => by
  cases e
  exact q σ W (.refl W) w s⟩

/-! ### dicts -/
def dget (kvs : List (Key × D)) (q : Key) : Option D := (kvs.find? fun kv => decide (kv.1 = q)).map (·.2)
def dput (kvs : List (Key × D)) (q : Key) (v : D) : List (Key × D) :=
  if (kvs.any fun kv => decide (kv.1 = q)) = true then kvs.map (fun kv => if kv.1 = q then (kv.1, v) else kv) else kvs ++ [(q, v)]
def dmerge (kvs : List (Key × D)) : List (Key × D) := kvs.foldl (fun acc kv => dput acc kv.1 kv.2) []
section
variable {B : Hp} {ι : List Addr}
theorem RepK.len : ∀ {vs : List (Key × V)} {ds : List (Key × D)}, RepK K B ι vs ds → vs.length = ds.length
  | _, _, .nil => rfl
  | _, _, .cons _ r => congrArg (· + 1) r.len
theorem RepK.any (q : Key) : ∀ {vs : List (Key × V)} {ds : List (Key × D)}, RepK K B ι vs ds → (vs.any fun kv => decide (kv.1 = q)) = (ds.any fun kv => decide (kv.1 = q))
  | _, _, .nil => rfl
  | _, _, .cons _ r => by
    rw [List.any_cons, List.any_cons, r.any]
theorem RepK.get (q : Key) : ∀ {vs : List (Key × V)} {ds : List (Key × D)}, RepK K B ι vs ds → (dget ds q = none → valV vs q = none) ∧ ∀ d, dget ds q = some d → ∃ v, valV vs q = some v ∧ Rep K B ι v d
  | _, _, .nil => ⟨fun _ => rfl, fun d e => by cases e⟩
  | _, _, .cons (k := k0) (v := v0) (d := d0) r0 r => by
    obtain ⟨h1, h2⟩ := r.get q
    by_cases e : k0 = q
    · refine ⟨fun h => ?_, fun d h => ?_⟩
      · simp [dget, List.find?_cons, e] at h
      · simp [dget, List.find?_cons, e] at h
        subst h
        exact ⟨v0, valV_pos e, r0⟩
    · have e1 : ∀ rest : List (Key × D), dget ((k0, d0) :: rest) q = dget rest q := fun rest => by simp [dget, List.find?_cons, e]
      refine ⟨fun h => ?_, fun d h => ?_⟩
      · rw [e1] at h
        rw [valV_neg e]
        exact h1 h
      · rw [e1] at h
        rw [valV_neg e]
        exact h2 d h
theorem RepK.append : ∀ {vs us : List (Key × V)} {ds es : List (Key × D)}, RepK K B ι vs ds → RepK K B ι us es → RepK K B ι (vs ++ us) (ds ++ es)
  | _, _, _, _, .nil, s => s
  | _, _, _, _, .cons r t, s => .cons r (t.append s)
theorem RepK.map_put (q : Key) {v : V} {d : D} (rv : Rep K B ι v d) : ∀ {vs : List (Key × V)} {ds : List (Key × D)}, RepK K B ι vs ds → RepK K B ι (vs.map fun kv => if kv.1 = q then (kv.1, v) else kv) (ds.map fun kv => if kv.1 = q then (kv.1, d) else kv)
  | _, _, .nil => .nil
  | _, _, .cons (k := k0) r0 r => by
    have ih := RepK.map_put q rv r
    rw [List.map_cons, List.map_cons]
    by_cases e : k0 = q
    · simp only [e, if_true]
      exact .cons rv ih
    · simp only [e, if_false]
      exact .cons r0 ih
theorem RepK.put (q : Key) {v : V} {d : D} (rv : Rep K B ι v d) {vs : List (Key × V)} {ds : List (Key × D)} (r : RepK K B ι vs ds) : RepK K B ι (putK vs q v) (dput ds q d) := by
  unfold putK dput
  rw [r.any q]
  split
  · exact r.map_put q rv
  · exact r.append (.cons rv .nil)
theorem RepK.merge {vs : List (Key × V)} {ds : List (Key × D)} (r : RepK K B ι vs ds) : RepK K B ι (mergeK [] vs) (dmerge ds) := by
  unfold mergeK dmerge
  have h : ∀ {a : List (Key × V)} {b : List (Key × D)}, RepK K B ι a b → RepK K B ι (vs.foldl (fun acc kv => putK acc kv.1 kv.2) a) (ds.foldl (fun acc kv => dput acc kv.1 kv.2) b) := by
    induction r with
    | nil => exact fun h => h
    | @cons k0 v0 d0 vs ds r0 r ih => exact fun h => ih (h.put k0 r0)
  exact h .nil
end
def keyOf : D → Option Key
  | .int i => some (.inl i)
  | .str x => some (.inr x)
  | _ => none
theorem keyOf_rep {B : Hp} {ι : List Addr} {v : V} {d : D} {q : Key} (r : Rep K B ι v d) (h : keyOf d = some q) : v = kV q := by
  cases r <;> cases h <;> rfl
def dicOf (M : Mh) : D → Option (List (Key × D))
  | .ref n => (match M[n]? with
    | some (.dic kvs) => some kvs
    | _ => none)
  | _ => none
theorem dicOf_rep {W : Wd} {M : Mh} {x : V} {d : D} {kvs : List (Key × D)} (w : W.Ok K M) (r : Rep K W.B W.ι x d) (h : dicOf M d = some kvs) : ∃ a n vs, d = .ref n ∧ x = .ref a ∧ Live W M n a (.dic kvs) ∧ W.H a = some (.dK vs) ∧ RepK K W.B W.ι vs kvs := by
  unfold dicOf at h
  split at h
  · split at h
    · rename_i hm
      cases h
      cases r with
      | ref hi =>
        have lv : Live W M _ _ (.dic kvs) := ⟨hi, hm, fun z => by cases z⟩
        obtain ⟨_, _, o, ho, ro⟩ := w.live _ _ _ lv
        cases ro with
        | dic r1 => exact ⟨_, _, _, rfl, rfl, lv, ho, r1⟩
    · cases h
  · cases h
def gDget : O2 := fun a b M => match dicOf M a, keyOf b with
  | some kvs, some q => (dget kvs q).map fun d => (d, M)
  | _, _ => none
theorem hu1 {A : Around} {j : Nat} (r : Room j A) : A.units + 1 < cLine := by
  have := r.un
  omega
theorem DE.dgt (c : Ctx X P w K mg base k) {a b : Expr} {pos} {f g : EF} (ha : DE X K a f) (hb : DE X K b g) (hs : NoSl b := by exact fun _ _ => rfl) : DE X K (.Subscript a b pos) (eOp gDget f g) := by
  obtain ⟨ta, pa, ra⟩ := ha.go
  obtain ⟨tb, pb, rb⟩ := hb.go
  refine ⟨tDGet ta tb, fun i => pe_dget (hu1 (c.room i)) (pa i) (pb i) hs, fun σ W δ M d M' Q w s e q => ?_⟩
  unfold eOp at e
  split at e
  · rename_i a' M1 h1
    split at e
    · rename_i b' M2 h2
      refine ra σ W δ M a' M1 _ w s h1 fun x W1 l1 w1 r1 => ?_
      refine rb σ W1 δ M1 b' M2 _ w1 (s.le l1) h2 fun y W2 l2 w2 r2 => ?_
      unfold gDget at e
      split at e
      · rename_i kvs q0 h3 h4
        obtain ⟨p, n, vs, _, rfl, lv, hp, rk⟩ := dicOf_rep w2 (r1.le l2) h3
        have ey := keyOf_rep r2 h4
        subst ey
        cases hd : Pl.dget kvs q0 with
        | none =>
          rw [hd] at e
          cases e
        | some d0 =>
          rw [hd] at e
          cases e
          obtain ⟨v, hv, rv⟩ := (rk.get q0).2 _ hd
          exact ⟨p, v, rfl, by rw [← hv]; exact DGet.k hp, q v W2 (l1.trans l2) w2 rv⟩
      · cases e
    · cases e
  · cases e
def gDput (a b v : D) (M : Mh) : Option Mh := match a with
  | .ref n => (match M[n]?, keyOf b with
    | some (.dic kvs), some q => if kvs.length < sizeLine then some (M.set n (.dic (dput kvs q v))) else none
    | _, _ => none)
  | _ => none
def sDput (f g h : EF) : SF := fun δ M => match h δ M with
  | some (v, M1) => (match f δ M1 with
    | some (a, M2) => (match g δ M2 with
      | some (b, M3) => (match gDput a b v M3 with
        | some M4 => some (.nx δ M4)
        | none => none)
      | none => none)
    | none => none)
  | none => none
theorem DS.dput (c : Ctx X P w K mg base k) {o i v : Expr} {pos pos'} {f g h : EF} (ho : DE X K o f) (hi : DE X K i g) (hv : DE X K v h) (hs : ∀ j, swapsWith v (some (.Subscript o i pos')) pos.line (X j).env = pure false := by intro _; rfl) :
    DS X K (.Assign [.Subscript o i pos'] v pos) (sDput f g h) := by
  obtain ⟨to, po, ro⟩ := ho.go
  obtain ⟨ti, pi, ri⟩ := hi.go
  obtain ⟨tv, pv', rv⟩ := hv.go
  refine ⟨sDPut to ti tv, fun j => ps_dput (hu1 (c.room j)) (po j) (pi j) (pv' j) (hs j), fun σ W δ M out E w s e q => ?_⟩
  unfold sDput at e
  split at e
  · rename_i vd M1 h1
    split at e
    · rename_i od M2 h2
      split at e
      · rename_i id M3 h3
        split at e
        · rename_i M4 h4
          cases e
          refine rv σ W δ M vd M1 _ w s h1 fun v W1 l1 w1 r1 => ?_
          refine ro σ W1 δ M1 od M2 _ w1 (s.le l1) h2 fun x W2 l2 w2 r2 => ?_
          refine ri σ W2 δ M2 id M3 _ w2 (s.le (l1.trans l2)) h3 fun y W3 l3 w3 r3 => ?_
          unfold gDput at h4
          split at h4
          · rename_i n
            split at h4
            · rename_i kvs q0 h5 h6
              split at h4
              · rename_i hl
                cases h4
                obtain ⟨p, n', vs, en, rfl, lv, hp, rk⟩ := dicOf_rep (kvs := kvs) w3 (r2.le l3) (by unfold dicOf; dsimp only; rw [h5])
                cases en
                have ey := keyOf_rep r3 h6
                subst ey
                refine ⟨p, _, rfl, DPut.k hp (by rw [rk.len]; exact hl), ?_⟩
                have l13 := (l1.trans l2).trans l3
                exact q σ (W3.put p _) (l13.trans Wd.put_le) (Wd.put_ok w3 lv (.dic (rk.put q0 (r1.le (l2.trans l3))))) (s.le (l13.trans Wd.put_le))
              · cases h4
            · cases h4
          · cases h4
        · cases e
      · cases e
    · cases e
  · cases e
/-- pairs of a display -/
structure DPs (X : I → Cx) (K : PySem.W.Frag) (pos : Pos) (keys : List (Option Expr)) (values : List Expr) (f : Env → Mh → Option (List (Key × D) × Mh)) : Prop where
  go : ∃ trs : List (TE × TE), (∀ i, PPs (X i) pos keys values trs) ∧ ∀ (σ : St) (W : Wd) (δ : Env) (M : Mh) (kvs : List (Key × D)) (M' : Mh) (Q : List (V × V) → Hp → Prop), W.Ok K M → Slots K W σ δ → f δ M = some (kvs, M') →
    (∀ vs W', W.Le W' → W'.Ok K M' → RepK K W'.B W'.ι vs kvs → Q (vs.map fun kv => (kV kv.1, kv.2)) W'.H) → tPairs trs σ W.H Q
def psNil : Env → Mh → Option (List (Key × D) × Mh) := fun _ M => some ([], M)
def psCons (f g : EF) (h : Env → Mh → Option (List (Key × D) × Mh)) : Env → Mh → Option (List (Key × D) × Mh) := fun δ M => match f δ M with
  | some (a, M1) => (match g δ M1 with
    | some (v, M2) => (match keyOf a with
      | some q => (match h δ M2 with
        | some (r, M3) => some ((q, v) :: r, M3)
        | none => none)
      | none => none)
    | none => none)
  | none => none
theorem DPs.nil {pos : Pos} : DPs X K pos [] [] psNil := ⟨[], fun i => pps_nil, fun σ W δ M kvs M' Q w s e q => by
  cases e
  exact q [] W (.refl W) w .nil⟩
theorem DPs.cons {pos : Pos} {a v : Expr} {ks : List (Option Expr)} {vs : List Expr} {f g : EF} {h : Env → Mh → Option (List (Key × D) × Mh)} (ha : DE X K a f) (hv : DE X K v g) (hr : DPs X K pos ks vs h) : DPs X K pos (some a :: ks) (v :: vs) (psCons f g h) := by
  obtain ⟨ta, pa, ra⟩ := ha.go
  obtain ⟨tv, pv', rv⟩ := hv.go
  obtain ⟨ts, ps, rs⟩ := hr.go
  refine ⟨(ta, tv) :: ts, fun i => pps_cons (pa i) (pv' i) (ps i), fun σ W δ M kvs M' Q w s e q => ?_⟩
  unfold psCons at e
  split at e
  · rename_i ad M1 h1
    split at e
    · rename_i vd M2 h2
      split at e
      · rename_i q0 h3
        split at e
        · rename_i r M3 h4
          cases e
          refine ra σ W δ M _ _ _ w s h1 fun x W1 l1 w1 r1 => ?_
          refine rv σ W1 δ M1 _ _ _ w1 (s.le l1) h2 fun y W2 l2 w2 r2 => ?_
          refine rs σ W2 δ M2 _ _ _ w2 (s.le (l1.trans l2)) h4 fun us W3 l3 w3 r3 => ?_
          have ex := keyOf_rep r1 h3
          subst ex
          exact q ((q0, y) :: us) W3 ((l1.trans l2).trans l3) w3 (.cons (r2.le l3) r3)
        · cases e
      · cases e
    · cases e
  · cases e
def eDic (h : Env → Mh → Option (List (Key × D) × Mh)) : EF := fun δ M => match h δ M with
  | some (kvs, M1) => if kvs.length ≤ 15 then some (.ref M1.length, M1 ++ [.dic (dmerge kvs)]) else none
  | none => none
theorem Wd.unhold_new {W : Wd} {M : Mh} {p : Addr} {o o' : HO} {m : MO} {P0 : Hp} (w : W.Ok K M) (hP : W.P = upd P0 p o) (h0 : P0 p = none) (r : RepO K W.B W.ι o' m) : (⟨upd W.H p o', W.B, W.ι ++ [p], P0⟩ : Wd).Ok K (M ++ [m]) := by
  have hp : W.P p = some o := by rw [hP, upd_same]
  have bp := w.pin p o hp
  have ne : ∀ {n a u}, Live W M n a u → a ≠ p := fun {n a u} h e => by
    obtain ⟨_, q, _⟩ := w.live n a u h
    rw [e, hp] at q
    cases q
  have lv : ∀ n a u, Live (⟨upd W.H p o', W.B, W.ι ++ [p], P0⟩ : Wd) (M ++ [m]) n a u → Live W M n a u ∨ (n = M.length ∧ a = p ∧ u = m) := fun n a u h => by
    obtain ⟨h1, h2, h3⟩ := h
    have h1' : (W.ι ++ [p])[n]? = some a := h1
    by_cases hn : n < M.length
    · rw [List.getElem?_append_left (by rw [w.len]; exact hn)] at h1'
      rw [List.getElem?_append_left hn] at h2
      exact .inl ⟨h1', h2, h3⟩
    · have e : n = M.length := by
        have := (List.getElem?_eq_some_iff.mp h2).1
        rw [List.length_append] at this
        simp at this
        omega
      subst e
      rw [List.getElem?_append_right (by rw [w.len]; exact Nat.le_refl _), w.len] at h1'
      rw [List.getElem?_append_right (Nat.le_refl _)] at h2
      simp at h1' h2
      exact .inr ⟨rfl, h1'.symm, h2.symm⟩
  have ln : ∀ {n a u}, Live W M n a u → n < M.length := fun {n a u} h => (List.getElem?_eq_some_iff.mp h.2.1).1
  have ix : ∀ (n : Nat) (c : Addr), W.ι[n]? = some c → (W.ι ++ [p])[n]? = some c := fun n c h => by
    rw [List.getElem?_append_left (List.getElem?_eq_some_iff.mp h).1]
    exact h
  refine ⟨fun a u h => ?_, fun a u h => ?_, ?_, fun n a u h => ?_, fun n j a u v h g => ?_⟩
  · exact (upd_ne (fun e => by
      rw [e] at h
      have h' : W.B p = some u := h
      rw [bp.2] at h'
      cases h')).trans (w.sub a u h)
  · have h' : P0 a = some u := h
    have e : a ≠ p := fun e => by
      rw [e, h0] at h'
      cases h'
    have q := w.pin a u (by rw [hP, upd_ne e]; exact h')
    exact ⟨(upd_ne e).trans q.1, q.2⟩
  · show (W.ι ++ [p]).length = _
    simp [w.len]
  · rcases lv n a u h with h | ⟨_, rfl, rfl⟩
    · obtain ⟨h1, h2, g, h3, h4⟩ := w.live n a u h
      have e := ne h
      rw [hP, upd_ne e] at h2
      exact ⟨h1, h2, g, (upd_ne e).trans h3, h4.mono (fun _ _ q => q) ix⟩
    · exact ⟨bp.2, h0, o', upd_same, r.mono (fun _ _ q => q) ix⟩
  · rcases lv n a u h with h | ⟨h1, h2, h3⟩
    · rcases lv j a v g with g | ⟨g1, g2, g3⟩
      · exact w.inj n j a u v h g
      · exact absurd g2 (ne h)
    · rcases lv j a v g with g | ⟨g1, g2, g3⟩
      · exact absurd h2 (ne g)
      · omega
theorem DE.dic {pos : Pos} {keys : List (Option Expr)} {values : List Expr} {h : Env → Mh → Option (List (Key × D) × Mh)} (hp : DPs X K pos keys values h) (hall : keys.all (·.isSome) = true := by rfl) (hl : keys.length = values.length := by rfl) (h0 : keys ≠ [] := by exact fun z => nomatch z)
    (h15 : keys.length ≤ 15 := by decide) : DE X K (.Dict keys values pos) (eDic h) := by
  obtain ⟨ts, ps, rs⟩ := hp.go
  refine ⟨tDisp ts, fun i => pe_disp (ps i) hall hl h0 h15, fun σ W δ M d M' Q w s e q => fun p hp => ?_⟩
  unfold eDic at e
  split at e
  · rename_i kvs M1 h1
    split at e
    · rename_i hlen
      cases e
      have P0 := w.pnone hp
      have B0 := w.bnone hp
      refine rs σ (W.hold p (.dK [])) δ M kvs M1 _ (Wd.hold_ok w hp) (s.cong rfl rfl) h1 fun vs W1 l1 w1 r1 => ?_
      have hP : W1.P = upd W.P p (.dK []) := l1.pp
      refine ⟨(w1.pin p _ (by rw [hP, upd_same])).1, vs, rfl, by rw [r1.len]; exact hlen, ?_⟩
      have w2 := Wd.unhold_new w1 hP P0 (.dic r1.merge)
      refine q (.ref p) ⟨upd W1.H p (.dK (mergeK [] vs)), W1.B, W1.ι ++ [p], W.P⟩ ⟨l1.same, ?_, rfl⟩ w2 (.ref ?_)
      · obtain ⟨l, hl⟩ := l1.pre
        exact ⟨l ++ [p], by
          show W1.ι ++ [p] = _
          rw [hl]
          show W.ι ++ l ++ [p] = _
          rw [List.append_assoc]⟩
      · show (W1.ι ++ [p])[M1.length]? = some p
        rw [← w1.len]
        simp
    · cases e
  · cases e
end
end Pl

namespace Pl
open PySem L2
open PyProof.Rows (IntsAre AllBare)
/-! ### the law's head -/
theorem ints_rep {K : PySem.W.Frag} {B : Hp} {ι : List Addr} : ∀ ns : List Int, RepL K B ι (ns.map V.int) (ns.map D.int)
  | [] => .nil
  | n :: ns => .cons (.int n) (ints_rep ns)
theorem law_callD {P : Program} {w : World} {K : PySem.W.Frag} {mg mb : Str → Option Value} {k : Nat} {fa a : Addr} {fd : FuncData} {x : Str} {F : Fn} {t₁ : Shared} {us : List Value} {ns : List Int}
    (kin : K.In t₁.heap) (gl : t₁.heap.Ns mainGlobals mg) (bl : t₁.heap.Ns builtinsNs mb) (blx : ∀ x : Str, x ≠ "__name__" → mb x = bootBuiltins x) (nl : t₁.heap.NoLimit) (gn : t₁.gens = #[])
    (at_a : t₁.heap.get? a = some { cls := .type "list", data := .seq us.toArray }) (isv : IntsAre us ns) (small : ns.length ≤ sizeLine) (room : Room k PySem.callerA)
    (hF : ∀ base : Heap, K.In base → base.Ns mainGlobals mg → DFn P w K mg base k fa fd [x] F) (bnd : ∀ (s : Shared) (u : Value), BindsTo s fd ⟨[u], []⟩ [(x, u)])
    (tru : ∃ M', F [.lsk (ns.map D.int)] [] = some (.bl true, M')) :
    codeAny (model P w) PySem.callerA (.call (.ref fa) ⟨[.ref a], []⟩) (fun o t' => o = .ok (.ret (.bool true)) ∧ OldK t₁.heap t'.heap ∧ t'.os = t₁.os ∧ AllBare t'.gens) t₁ := by
  have rel := vals_ints isv
  have lenU := isv.length
  have main : ∀ G : Hp, L2.Only G → SqL K G a (ns.map V.int) → HOk P w G t₁.heap → (∀ b, G b ≠ none → b = a) → (G a ≠ none → K.lookup a = none) →
      codeAny (model P w) PySem.callerA (.call (.ref fa) ⟨[.ref a], []⟩) (fun o t' => o = .ok (.ret (.bool true)) ∧ OldK t₁.heap t'.heap ∧ t'.os = t₁.os ∧ AllBare t'.gens) t₁ := fun G only seqA gok ga gk => by
    have keepB : ∀ {b : Addr} {o : Obj}, t₁.heap.get? b = some o → G b = none → (hidT t₁.heap G).get? b = some o := fun e n => hidT_get e n
    have noDict : ∀ {b : Addr} {o : Obj} {es : Array DictEntry} {ep : Nat}, t₁.heap.get? b = some o → o.data = .dict es ep → G b = none := fun {b o es ep} e dd => by
      cases gq : G b with
      | none => rfl
      | some u =>
        have eb : b = a := ga b (by rw [gq]; simp)
        rw [eb, at_a] at e
        cases e
        exact nomatch (show Data.seq us.toArray _ = Data.dict es ep from dd)
    have nsB : ∀ {b : Addr} {m : Str → Option Value}, t₁.heap.Ns b m → (hidT t₁.heap G).Ns b m := fun ⟨o, es, ep, e, dd, r⟩ => ⟨o, es, ep, keepB e (noDict e dd), dd, r⟩
    have kinB : K.In (hidT t₁.heap G) := fun b o e => keepB (kin b o e) (by
      cases gq : G b with
      | none => rfl
      | some u =>
        have eb : b = a := ga b (by rw [gq]; simp)
        rw [eb] at gq e
        rw [gk (by rw [gq]; simp)] at e
        cases e)
    have modB : Mod K mg (hidT t₁.heap G) := ⟨kinB, nsB gl, ⟨mb, nsB bl, blx⟩, let ⟨mc, n1, n2⟩ := nl; ⟨mc, nsB n1, n2⟩⟩
    have envB : Env0 P w K mg (hidT t₁.heap G) PySem.callerA [] t₁ G := ⟨rfl, modB, fun b o e => of_hidT e, Nat.le_of_eq (hidT_size _ _), trivial, fun b hb => (by cases hb), gok, .of_eq gn⟩
    obtain ⟨M', hv⟩ := tru
    have rs : RepL K G [] (ns.map V.int) (ns.map D.int) := by
      exact ints_rep ns
    have W0 : (⟨G, G, [], fun _ => none⟩ : Wd).Ok K [] := ⟨fun _ _ e => e, fun b o e => (by cases e), rfl, fun n b o l => (by cases l.1), fun n m b o u l => (by cases l.1)⟩
    refine codeAny_mono ((hF _ kinB (nsB gl)).run PySem.callerA [] t₁ G ⟨[.ref a], []⟩ [.ref a] [.ref a] (fun v _ => v = .bl true) room rfl envB (bnd t₁ (.ref a)) (.cons rfl .nil)
      ⟨⟨G, G, [], fun _ => none⟩, [], [.lsk (ns.map D.int)], .bl true, M', rfl, W0, .cons (.lsk seqA rs) .nil, rfl, hv, fun v W' _ _ r => by cases r; rfl⟩) fun o t' ho => ?_
    match o, ho with
    | .ok (.ret u), ⟨v, G', os, bare, un, gok', rv, q⟩ =>
      have q' : v = .bl true := q
      rw [q'] at rv
      have eu : u = Value.bool true := rv
      rw [eu]
      refine ⟨rfl, OldK.of_keep fun b o e => ?_, os, bare⟩
      cases gq : G b with
      | none => exact un.keep b o e gq (fun z => nomatch (show b ∈ ([] : List Addr) from z)) (fun z => nomatch z)
      | some u =>
        rcases only b with z | ⟨ob, xs, z⟩
        · rw [gq] at z
          cases z
        · have z2 := un.frzs b ob _ z
          obtain ⟨e1, _⟩ := gok b _ z
          obtain ⟨e2, _⟩ := gok' b _ z2
          rw [e] at e1
          cases e1
          exact e2
    | .ok .next, ho => exact False.elim ho
    | .ok .brk, ho => exact False.elim ho
    | .ok .cont, ho => exact False.elim ho
    | .error _, ho => exact False.elim ho
  cases lk : K.lookup a with
  | some o =>
    have e := kin a o lk
    rw [at_a] at e
    cases e
    exact main (fun _ => none) (fun _ => .inl rfl) (.inr ⟨_, us.toArray, _, lk, rfl, rfl, rfl, by rw [List.size_toArray, lenU]; exact small, by simpa using rel⟩) (fun b u z => nomatch (show (none : Option HO) = some u from z)) (fun b z => absurd rfl z) fun z => absurd rfl z
  | none =>
    refine main (fun b => if b = a then some (.frz { cls := .type "list", data := .seq us.toArray } (.lst (ns.map V.int))) else none) (fun b => ?_) (.inl (.inr ⟨{ cls := .type "list", data := .seq us.toArray }, if_pos rfl⟩)) (fun b u z => ?_) (fun b z => ?_) fun _ => lk
    · by_cases eb : b = a
      · exact .inr ⟨_, _, if_pos eb⟩
      · exact .inl (if_neg eb)
    · by_cases eb : b = a
      · have z' := (if_pos eb).symm.trans z
        cases z'
        rw [eb]
        exact ⟨at_a, by rw [List.length_map]; exact small, us, _, rel, at_a⟩
      · exact nomatch (if_neg eb).symm.trans z
    · exact Classical.byContradiction fun eb => z (if_neg eb)
theorem walk_ofD {l : PySem.W.OpenLaw} {n k : Nat} {q : Program} {loose : List Str} {XP : (Str → Option Value) → Heap → Prop} {YP : World → Heap → Prop} {d : DefRec} {K : Params → PySem.W.Frag} {F : Fn} {x : Str}
    (hn : l.most = some n) (hn2 : n ≤ sizeLine) (hdf : d.params.defaults = []) (room : Room k PySem.callerA) (hY : ∀ (w : World) (h : Heap), YP w h → (K w.params).In h)
    (hF : ∀ (w : World) (mg : Str → Option Value) (fa : Addr) (h : Heap), (K w.params).In h → h.Ns mainGlobals mg → mg d.name = some (.ref fa) →
      ∃ fd : FuncData, (∀ (s : Shared) (u : Value), BindsTo s fd ⟨[u], []⟩ [(x, u)]) ∧ ∀ base : Heap, (K w.params).In base → base.Ns mainGlobals mg → DFn l.prog w (K w.params) mg base k fa fd [x] F)
    (tru : ∀ ns : List Int, ns.length ≤ n → ∃ M', F [.lsk (ns.map D.int)] [] = some (.bl true, M')) :
    PySem.W.WalkO q loose XP YP l.row.toRowW d [] (fun f vs => PySem.call f vs) :=
  Att.attach_call hn hdf fun w _ t₁ mg _ fa _ _ _ _ a us ns G Y _ _ _ hmg obj isv len gn => by
    have kin := hY w _ Y
    obtain ⟨fd, hb, h⟩ := hF w mg fa _ kin G.T.g hmg
    exact law_callD kin G.T.g G.T.b G.T.builtins G.T.nolimit gn obj isv (Nat.le_trans len hn2) room h hb (tru ns len)

/-! ### links -/
/-- a def as it is called -/
structure Lk (P : Program) (w : World) (K : PySem.W.Frag) (mg : Str → Option Value) (base : Heap) (x : Str) (k : Nat) (ps : List Str) (F : Fn) : Prop where
  go : ∃ (f : Addr) (fd : FuncData), DFn P w K mg base k f fd ps F ∧ mg x = some (.ref f) ∧ PySem.W.keepIn K (.ref f) = true ∧ Binds K fd ps []
/-- with defaults that fill up -/
structure LkD (P : Program) (w : World) (K : PySem.W.Frag) (mg : Str → Option Value) (base : Heap) (x : Str) (k : Nat) (ps : List Str) (F : Fn) (dds : List D) : Prop where
  go : ∃ (f : Addr) (fd : FuncData) (dvs : List V) (dsv : List Value), DFn P w K mg base k f fd ps F ∧ mg x = some (.ref f) ∧ PySem.W.keepIn K (.ref f) = true ∧ Vals dvs dsv ∧ Binds K fd ps dsv ∧ ∀ B ι, RepL K B ι dvs dds
/-- with keywords -/
structure LkK (P : Program) (w : World) (K : PySem.W.Frag) (mg : Str → Option Value) (base : Heap) (x : Str) (k : Nat) (ps : List Str) (F : Fn) (n : Nat) (ks : List Str) (gD : List D → List D → List D) : Prop where
  go : ∃ (f : Addr) (fd : FuncData) (gu : List Value → List Value → List Value) (gV : List V → List V → List V), DFn P w K mg base k f fd ps F ∧ mg x = some (.ref f) ∧ PySem.W.keepIn K (.ref f) = true ∧ KBn K fd ps n ks gu gV ∧
    (∀ B ι vs ds zs es, RepL K B ι vs ds → RepL K B ι zs es → RepL K B ι (gV vs zs) (gD ds es))
  len : ∀ ds zs : List D, ds.length = n → zs.length = ks.length → (gD ds zs).length = ps.length
/-- a name of the module -/
def GV (K : PySem.W.Frag) (mg : Str → Option Value) (x : Str) (d : D) : Prop := ∃ v u, mg x = some u ∧ RelV v u ∧ ∀ B ι, Rep K B ι v d
section
variable {I : Type} {X : I → Cx} {P : Program} {w : World} {K : PySem.W.Frag} {mg : Str → Option Value} {base : Heap} {k : Nat}
theorem DE.gv (c : Ctx X P w K mg base k) {x : Str} {pos : Pos} {d : D} (h : GV K mg x d) (hg : ∀ i, Gl (X i) x := by intro _; rfl) (hd : (x == ("__debug__" : Str)) = false := by decide) : DE X K (.Name x pos) (eC d) := by
  obtain ⟨v, u, h1, h2, h3⟩ := h
  exact DE.glob c h1 h2 h3 hg hd
theorem DE.cl (c : Ctx X P w K mg base k) {x : Str} {p pos : Pos} {e : Expr} {es : List Expr} {g : AF} {ps : List Str} {F : Fn} {kf : Nat} (h : Lk P w K mg base x kf ps F) (hk : kf ≤ k) (hn : (e :: es).length = ps.length) (ha : DA X K (e :: es) g) (hlen : ∀ δ M ds M', g δ M = some (ds, M') → ds.length = (e :: es).length) (hg : ∀ i, Gl (X i) x := by intro _; rfl)
    (hdbg : (x == ("__debug__" : Str)) = false := by decide) (he : ∀ i, starEach (e :: es) (X i).env = (false, eval e (X i).env) :: starEach es (X i).env := by intro _; rfl) (hpl : ∀ i, (backTo pos (starEach es (X i).env)).any (·.1) = false := by intro _; rfl) :
    DE X K (.Call (.Name x p) (e :: es) [] pos) (eCall F g []) := by
  obtain ⟨f, fd, h1, h2, h3, h4⟩ := h.go
  exact DE.call c h1 hk h2 h3 h4 .nil (fun _ _ => .nil) hn ha hlen hg hdbg he hpl
theorem DE.clD (c : Ctx X P w K mg base k) {x : Str} {p pos : Pos} {e : Expr} {es : List Expr} {g : AF} {ps : List Str} {F : Fn} {kf : Nat} {dds : List D} (h : LkD P w K mg base x kf ps F dds) (hk : kf ≤ k) (hn : (e :: es).length + dds.length = ps.length) (ha : DA X K (e :: es) g) (hlen : ∀ δ M ds M', g δ M = some (ds, M') → ds.length = (e :: es).length) (hg : ∀ i, Gl (X i) x := by intro _; rfl)
    (hdbg : (x == ("__debug__" : Str)) = false := by decide) (he : ∀ i, starEach (e :: es) (X i).env = (false, eval e (X i).env) :: starEach es (X i).env := by intro _; rfl) (hpl : ∀ i, (backTo pos (starEach es (X i).env)).any (·.1) = false := by intro _; rfl) :
    DE X K (.Call (.Name x p) (e :: es) [] pos) (eCall F g dds) := by
  obtain ⟨f, fd, dvs, dsv, h1, h2, h3, h4, h5, h6⟩ := h.go
  exact DE.call c h1 hk h2 h3 h5 h4 h6 hn ha hlen hg hdbg he hpl
theorem DE.clK (c : Ctx X P w K mg base k) {x : Str} {p pos : Pos} {e : Expr} {es : List Expr} {kws : List Keyword} {g gk : AF} {ps ks : List Str} {F : Fn} {kf n : Nat} {gD : List D → List D → List D} (h : LkK P w K mg base x kf ps F n ks gD) (hk : kf ≤ k)
    (ha : DA X K (e :: es) g) (hlen : ∀ δ M ds M', g δ M = some (ds, M') → ds.length = n) (hkw : DK X K kws gk ks.length) (hall : ∀ i, (backToKw pos (keywordEach kws (X i).env)).all (·.1.isSome) = true := by intro _; rfl) (hks : ∀ i, (backToKw pos (keywordEach kws (X i).env)).filterMap (·.1) = ks := by intro _; rfl)
    (hg : ∀ i, Gl (X i) x := by intro _; rfl) (hdbg : (x == ("__debug__" : Str)) = false := by decide) (he : ∀ i, starEach (e :: es) (X i).env = (false, eval e (X i).env) :: starEach es (X i).env := by intro _; rfl)
    (hpl : ∀ i, ((backTo pos (starEach (e :: es) (X i).env)).any (·.1) || (backToKw pos (keywordEach kws (X i).env)).any (·.1.isNone)) = false := by intro _; rfl) :
    DE X K (.Call (.Name x p) (e :: es) kws pos) (eCallK F g gk gD) := by
  obtain ⟨f, fd, gu, gV, h1, h2, h3, h4, h5⟩ := h.go
  exact DE.callK c h1 hk h2 h3 h4 h5 h.len ha hlen hkw hall hks hg hdbg he hpl
end
end Pl

namespace Pl
open PySem L2
section
variable {I : Type} {X : I → Cx} {P : Program} {w : World} {K : PySem.W.Frag} {mg : Str → Option Value} {base : Heap} {k : Nat}
/-! ### repr -/
def reprOk (p : PyData) : Bool := p.showable && SeqAt.shaped p && !p.hasDict && decide (p.shown.length ≤ sizeLine)
def rReprD (K : PySem.W.Frag) (xs : List V) (H : Hp) (Q : VK) : Prop := ∃ x p, xs = [x] ∧ Dp K H x p ∧ reprOk p = true ∧ Q (.str p.shown) H
theorem call_reprD {Y : Cx} (hu : Y.A.units + 66 < cLine) (hg : Y.A.guards = some []) : CallR Y (.builtin "repr") (rReprD Y.K) := fun pins s σ H xs us Q J hv h => by
  obtain ⟨x, p, rfl, hp, ok, q⟩ := h
  simp only [reprOk, Bool.and_eq_true, Bool.not_eq_true', decide_eq_true_eq] at ok
  obtain ⟨⟨⟨sh, sp⟩, nd⟩, ln⟩ := ok
  cases hv with
  | cons hx hv =>
    cases hv
    have dp := SeqAt.depth_of_shaped sp
    have same : ∀ (h' : Heap) (t : Nat), (∀ b o, s.heap.get? b = some o → h'.get? b = some o) → L2.Inv Y pins σ H { heap := h', gens := s.gens, drawn := s.drawn, toks := t, os := s.os } := fun h' t kp => J.turnedL (ch := []) (fun b o _ e => kp b o e) (fun b hb => nomatch hb)
    obtain ⟨as, rd⟩ := Dp.reads J p x _ hp hx
    cases hp with
    | non =>
      cases hx
      exact P.repr_of_none ⟨.str _, H, same _ _ fun _ _ e => e, ⟨_, rfl⟩, q⟩
    | bl b =>
      cases hx
      refine P.repr_of_bool ⟨.str _, H, same _ _ fun _ _ e => e, ⟨_, rfl⟩, ?_⟩
      rw [PyData.shown] at q
      exact q
    | int i =>
      obtain ⟨t, rfl⟩ := hx
      refine P.repr_of_int ?_ ⟨.str _, H, same _ _ fun _ _ e => e, ⟨_, rfl⟩, ?_⟩
      · rw [PyData.showable] at sh
        simpa using sh
      · rw [PyData.shown] at q
        exact q
    | str y =>
      obtain ⟨t, rfl⟩ := hx
      rw [PyData.shown] at q ln
      exact P.repr_of_str ⟨.str _, H, same _ _ fun _ _ e => e, ⟨_, rfl⟩, q⟩ ln
    | lst h1 h2 =>
      cases hx
      exact repr_of_reads' rd sh (fun z => by rw [nd] at z; cases z) hg (by omega) (fun _ _ e => e) (fun h' u tk kp => ⟨.str _, H, same h' tk kp, ⟨_, rfl⟩, q⟩) ln
    | tup h1 h2 =>
      cases hx
      exact repr_of_reads' rd sh (fun z => by rw [nd] at z; cases z) hg (by omega) (fun _ _ e => e) (fun h' u tk kp => ⟨.str _, H, same h' tk kp, ⟨_, rfl⟩, q⟩) ln
def gRepr : GL := fun ds M => match ds with
  | [d] => (match toP (deref M d) with
    | some p => if reprOk p then some (.str p.shown, M) else none
    | none => none)
  | _ => none
theorem cRepr (c : Ctx X P w K mg base k) : CalF X K (.builtin "repr") gRepr := ⟨rReprD K, fun i => by
  have h := call_reprD (Y := X i) (by have := (c.room i).un; omega) (c.grd i)
  rw [c.K i] at h
  exact h, fun W M vs ds z M' Q w r e q => by
  unfold gRepr at e
  split at e
  · split at e
    · rename_i p h1
      split at e
      · rename_i h2
        cases e
        cases r with
        | cons r1 r2 =>
          cases r2
          exact ⟨_, p, rfl, dp_of w r1 h1, h2, q _ W (.refl W) w (.str _)⟩
      · cases e
    · cases e
  · cases e⟩
end
end Pl
namespace Pl
open PySem L2
section
variable {I : Type} {X : I → Cx} {P : Program} {w : World} {K : PySem.W.Frag} {mg : Str → Option Value} {base : Heap} {k : Nat}
/-! ### a text many times -/
def strMulOk (x : Str) (n : Int) : Bool := decide (-(2 ^ 63) ≤ n) && decide (n < 2 ^ 63) && decide (x.length * n.toNat ≤ 1000000)
theorem strMul_ok {x : Str} {n : Int} (h : strMulOk x n = true) : PySem.MulOk x n := by
  simp only [strMulOk, Bool.and_eq_true, decide_eq_true_eq] at h
  obtain ⟨⟨h1, h2⟩, h3⟩ := h
  refine ⟨by rw [Bool.or_eq_false_iff]; exact ⟨decide_eq_false (by omega), decide_eq_false (by omega)⟩, fun hn _ => ?_, fun hn _ => ?_⟩
  · have hp : 0 < n := by omega
    have e : (x.length : Int) * n ≤ 1000000 := by
      have : ((x.length * n.toNat : Nat) : Int) ≤ 1000000 := Int.ofNat_le.mpr h3
      rw [Int.natCast_mul, Int.toNat_of_nonneg (by omega)] at this
      exact this
    have h2 : (x.length : Int) ≤ (2 ^ 63 - 1) / n := (Int.le_ediv_iff_mul_le hp).mpr (by omega)
    omega
  · exact decide_eq_false (Nat.not_lt.mpr (Nat.le_trans h3 (by decide)))
def gMul3 : O2 := fun a b M => match a, b with
  | .str x, .int n => if strMulOk x n then some (.str (Txt.mul x n), M) else none
  | a, b => gMul a b M
theorem opMulS : OpF X K (binaryOp .Mult) gMul3 := ⟨fun x y H Q => (∃ z n, x = .str z ∧ y = .int n ∧ PySem.MulOk z n ∧ Q (.str (Txt.mul z n)) H) ∨ (rI Pl.MulOk (fun i j => .int (i * j)) x y H Q ∨ rRep x y H Q), fun i => OpR.or (fun pins s σ H x y v u Q J hx hy h => by
    obtain ⟨z, n, rfl, rfl, ok, q⟩ := h
    obtain ⟨t, rfl⟩ := hx
    obtain ⟨t2, rfl⟩ := hy
    exact SB.mul ok fun t' k => ⟨.str _, H, J.turnedL (ch := []) (fun b o _ e => e) (fun b hb => nomatch hb), ⟨_, rfl⟩, q⟩) (OpR.or op_mulX op_rep), fun W M x y a b z M' Q w ra rb e q => by
  unfold gMul3 at e
  split at e
  · split at e
    · rename_i hc
      cases ra
      cases rb
      cases e
      exact .inl ⟨_, _, rfl, rfl, strMul_ok hc, q _ W (.refl W) w (.str _)⟩
    · cases e
  · refine .inr ?_
    unfold gMul at e
    split at e
    · split at e
      · rename_i hc
        cases ra
        cases rb
        cases e
        exact .inl ⟨_, _, rfl, rfl, hc, q _ W (.refl W) w (.int _)⟩
      · cases e
    · split at e
      · rename_i hc
        cases rb
        cases e
        cases ra with
        | lst h1 r1 =>
          refine .inr ⟨_, _, _, rfl, rfl, w.sub _ _ h1, hc.1, hc.2.1, by rw [r1.len]; exact hc.2.2, fun p hp => ?_⟩
          obtain ⟨l2, w2, r3⟩ := lay_lst w hp (r1.rep _)
          exact q _ _ l2 w2 r3
      · cases e
    · cases e⟩
/-! ### an empty dict -/
def eDic0 : EF := fun _ M => some (.ref M.length, M ++ [.dic []])
theorem DE.dic0 {pos : Pos} : DE X K (.Dict [] [] pos) eDic0 := ⟨tDNewK, fun i => pe_dnewK, fun σ W δ M d M' Q w s e q => fun p hp => by
  cases e
  exact q (.ref p) (W.new p (.dK [])) Wd.new_le (Wd.new_ok w hp (.dic .nil)) (.ref (by
    show (W.ι ++ [p])[M.length]? = some p
    rw [← w.len]
    simp))⟩
end
end Pl

/-! PlI: where a text stands in a text; repr of an empty dict, too. -/
namespace Pl
open PySem L2
section
variable {I : Type} {X : I → Cx} {P : Program} {w : World} {K : PySem.W.Frag} {mg : Str → Option Value} {base : Heap} {k : Nat}
def gIdx : Str → D → Mh → Option (D × Mh) := fun a d M => match d with
  | .str b => (match Builtin.Str.occurrences a b 0 a.length 1 with
    | i :: _ => some (.int (i : Nat), M)
    | [] => none)
  | _ => none
theorem sIdx : SmF X K "str.index" gIdx := ⟨_, fun i => mt_sindex, fun W M x v d z M' Q w rv ev q => by
  unfold gIdx at ev
  split at ev
  · split at ev
    · rename_i i rest ho
      cases ev
      cases rv
      exact ⟨x, _, i, rest, rfl, rfl, ho, q _ W (.refl W) w (.int _)⟩
    · cases ev
  · cases ev⟩
def rRepr0 (H : Hp) (xs : List V) (Q : VK) : Prop := ∃ a, xs = [.ref a] ∧ H a = some (.dK []) ∧ Q (.str "{}") H
theorem call_repr0 {Y : Cx} (hu : Y.A.units + 66 < cLine) (hg : Y.A.guards = some []) : CallR Y (.builtin "repr") (fun xs H Q => rRepr0 H xs Q) := fun pins s σ H xs us Q J hv h => by
  obtain ⟨a, rfl, ha, q⟩ := h
  cases hv with
  | cons hx hv =>
    cases hv
    cases hx
    obtain ⟨_, hs, vs, kv, o, es, ep, ho, hx, hd, _, hp, _⟩ := dk_of J.hok ha
    have ev : vs = [] := by
      cases kv
      rfl
    subst ev
    have ee : es.toList = [] := by
      generalize es.toList = l at hp
      cases hp
      rfl
    have rd : Reads s.heap (.ref a) (.dict []) (a :: [] ++ []) := .dict ho hx.1 hd (by rw [ee]; exact .nil) (by rw [ee]; exact .nil)
    have same : ∀ (h' : Heap) (t : Nat), (∀ b o, s.heap.get? b = some o → h'.get? b = some o) → L2.Inv Y pins σ H { heap := h', gens := s.gens, drawn := s.drawn, toks := t, os := s.os } := fun h' t kp => J.turnedL (ch := []) (fun b o _ e => kp b o e) (fun b hb => nomatch hb)
    have hsm : sysModules ∉ (a :: [] ++ [] : List Addr) := by
      have : a ≠ sysModules := fun e => by
        rw [e] at hs
        simp at hs
      simp only [List.append_nil, List.mem_cons, List.not_mem_nil, or_false]
      exact fun e => this e.symm
    have sh : (PyData.dict []).shown = ("{}" : Str) := by decide +kernel
    exact repr_of_reads' rd (by decide +kernel) (fun _ => hsm) hg (by rw [show (PyData.dict []).depth = 1 by decide +kernel]; omega) (fun _ _ e => e) (fun h' u tk kp => ⟨.str _, H, same h' tk kp, ⟨_, rfl⟩, by rw [sh]; exact q⟩) (by rw [sh]; decide +kernel)
def gReprX : GL := fun ds M => match ds with
  | [.ref n] => (match M[n]? with
    | some (.dic []) => some (.str "{}", M)
    | _ => gRepr [.ref n] M)
  | ds => gRepr ds M
theorem cReprX (c : Ctx X P w K mg base k) : CalF X K (.builtin "repr") gReprX := by
  obtain ⟨r, hr, hq⟩ := (cRepr c).go
  refine ⟨fun xs H Q => r xs H Q ∨ rRepr0 H xs Q, fun i pins s σ H xs us Q J hv h => ?_, fun W M vs ds z M' Q w rp e q => ?_⟩
  · rcases h with h | h
    · exact hr i pins s σ H xs us Q J hv h
    · exact call_repr0 (by have := (c.room i).un; omega) (c.grd i) pins s σ H xs us Q J hv h
  · unfold gReprX at e
    split at e
    · rename_i n
      split at e
      · rename_i hm
        cases e
        cases rp with
        | cons r1 r2 =>
          cases r2
          cases r1 with
          | ref hi =>
            obtain ⟨_, _, o, ho, ro⟩ := w.live _ _ _ ⟨hi, hm, fun z => by cases z⟩
            cases ro with
            | dic rk =>
              cases rk
              exact .inr ⟨_, rfl, ho, q _ W (.refl W) w (.str _)⟩
      · exact .inl (hq W M vs _ z M' Q w rp e q)
    · exact .inl (hq W M vs _ z M' Q w rp e q)
end
end Pl

namespace Law
open PySem L2 Pl
def nn_is_whole : List Str := ["thing"]
noncomputable def gg_is_whole : SF := (sRet (eAn (eB gIsi (aCons (eVar 0) (aCons (eC (.ty "int")) aNil))) (eNt (eB gIsi (aCons (eVar 0) (aCons (eC (.ty "bool")) aNil))))))
noncomputable def ff_is_whole : Fn := fnF 1 gg_is_whole
def nn_is_among : List Str := ["thing", "least", "most"]
noncomputable def gg_is_among : SF := (sSeq (sIf (tOrr (tNt (tV (eCall ff_is_whole (aCons (eVar 0) aNil) []))) (tOrr (tNt (tV (eCall ff_is_whole (aCons (eVar 1) aNil) []))) (tNt (tV (eCall ff_is_whole (aCons (eVar 2) aNil) []))))) (sRet (eC (.bl false))) sNil) (sRet (eChain (gInt fun i j => .bl (decide (i ≤ j))) (gInt fun i j => .bl (decide (i ≤ j))) (eVar 1) (eVar 0) (eVar 2))))
noncomputable def ff_is_among : Fn := fnF 3 gg_is_among
def nn_is_text_of : List Str := ["thing", "signs", "most", "sign"]
noncomputable def gg_is_text_of : SF := (sSeq (sIf (tOrr (tNt (tV (eB gIsi (aCons (eVar 0) (aCons (eC (.ty "str")) aNil))))) (tNt (tV (eChain (gInt fun i j => .bl (decide (i ≤ j))) (gInt fun i j => .bl (decide (i ≤ j))) (eC (.int 1)) (eB gLen (aCons (eVar 0) aNil)) (eVar 2))))) (sRet (eC (.bl false))) sNil) (sRet (eB (gBs fun bs => bs.all id) (aCons (eLc [3] (aSigns (eVar 0)) (gN 3) tTrue (eOp (gIn fun b => b) (eVar 3) (eVar 1))) aNil))))
noncomputable def ff_is_text_of : Fn := fnF 4 gg_is_text_of
def nn_is_name : List Str := ["thing"]
noncomputable def gg_is_name : SF := (sRet (eCall ff_is_text_of (aCons (eVar 0) (aCons (eC (.str "abcdefghijklmnopqrstuvwxyz")) (aCons (eC (.int 8)) aNil))) []))
noncomputable def ff_is_name : Fn := fnF 1 gg_is_name
def nn_number_of : List Str := ["word"]
noncomputable def gg_number_of : SF := (sSeq (sIf (tNt (tV (eCall ff_is_text_of (aCons (eVar 0) (aCons (eC (.str "0123456789")) (aCons (eC (.int 4)) aNil))) []))) (sRet (eC .non)) sNil) (sSeq (sIf (tAn (tV (eOp (gEq PyData.eqv) (eOp gIx (eVar 0) (eC (.int 0))) (eC (.str "0")))) (tV (eOp (gEq fun p q => !PyData.eqv p q) (eVar 0) (eC (.str "0"))))) (sRet (eC .non)) sNil) (sRet (eB gInt1 (aCons (eVar 0) aNil)))))
noncomputable def ff_number_of : Fn := fnF 1 gg_number_of
def nn_signed_of : List Str := ["word", "number"]
noncomputable def gg_signed_of : SF := (sSeq (sIf (tOrr (tNt (tV (eB gIsi (aCons (eVar 0) (aCons (eC (.ty "str")) aNil))))) (tV (eOp (gEq fun p q => !PyData.eqv p q) (eSl (eVar 0) pNone (pSome (eC (.int 1)))) (eC (.str "-"))))) (sRet (eCall ff_number_of (aCons (eVar 0) aNil) [])) sNil) (sSeq (sAs (eCall ff_number_of (aCons (eSl (eVar 0) (pSome (eC (.int 1))) pNone) aNil) []) (gN 1)) (sSeq (sIf (tOrr (tV (eOp (gIsN fun b => b) (eVar 1) (eC .non))) (tV (eOp (gEq PyData.eqv) (eVar 1) (eC (.int 0))))) (sRet (eC .non)) sNil) (sRet (eUn gNeg (eVar 1))))))
noncomputable def ff_signed_of : Fn := fnF 2 gg_signed_of
def nn_words_of : List Str := ["row", "words"]
noncomputable def gg_words_of : SF := (sSeq (sIf (tNt (tV (eB gIsi (aCons (eVar 0) (aCons (eC (.ty "str")) aNil))))) (sRet (eC .non)) sNil) (sSeq (sAs (eS1 gSplit (eVar 0) (eC (.str " "))) (gN 1)) (sSeq (sIf (tV (eOp (gIn fun b => b) (eC (.str "")) (eVar 1))) (sRet (eC .non)) sNil) (sRet (eVar 1)))))
noncomputable def ff_words_of : Fn := fnF 2 gg_words_of
def nn_law_mixed : List Str := ["cell", "k", "number"]
noncomputable def gg_law_mixed : SF := (sSeq (sAs (eOp gAdd (eOp gAdd (eOp (gIntC (fun _ j => j ≠ 0) fun i j => .int (i.fmod j)) (eVar 0) (eOp gIx (eLst (aCons (eC (.int 1000000007)) (aCons (eC (.int 998244353)) (aCons (eC (.int 2147483629)) (aCons (eC (.int 1000000009)) aNil))))) (eOp (gIntC (fun _ j => j ≠ 0) fun i j => .int (i.fmod j)) (eVar 1) (eC (.int 4))))) (eOp gMul (eC (.int 7919)) (eVar 1))) (eC (.int 13))) (gN 2)) (sRet (eOp (gIntC (fun _ j => j ≠ 0) fun i j => .int (i.fmod j)) (eOp gMul (eOp (gIntC (fun _ j => j ≠ 0) fun i j => .int (i.fmod j)) (eOp gMul (eVar 2) (eVar 2)) (eC (.int 2147483647))) (eC (.int 48271))) (eC (.int 2147483647)))))
noncomputable def ff_law_mixed : Fn := fnF 3 gg_law_mixed
def nn_law_draw : List Str := ["cell", "k"]
noncomputable def gg_law_draw : SF := (sRet (eDic (psCons (eC (.str "left")) (eIf (tV (eOp (gInt fun i j => .bl (decide (j ≤ i))) (eVar 0) (eOp (gIntC PowOk fun i j => .int (i ^ j.toNat)) (eC (.int 10)) (eC (.int 18))))) (eVar 0) (eC (.int 0))) (psCons (eC (.str "cell")) (eVar 0) (psCons (eC (.str "turns")) (eOp gMul (eC (.int 1000)) (eVar 1)) psNil)))))
noncomputable def ff_law_draw : Fn := fnF 2 gg_law_draw
def nn_law_digit : List Str := ["state", "many", "j", "found"]
noncomputable def gg_law_digit : SF := (sSeq (sIf (tV (eOp (gEq PyData.eqv) (eOp gDget (eVar 0) (eC (.str "left"))) (eC (.int 0)))) (sFor (aRng1 (aCons (eC (.int 4)) aNil)) (gN 2) (sSeq (sDput (eVar 0) (eC (.str "turns")) (eOp gAdd (eOp gDget (eVar 0) (eC (.str "turns"))) (eC (.int 1)))) (sDput (eVar 0) (eC (.str "left")) (eOp gAdd (eOp gMul (eOp gDget (eVar 0) (eC (.str "left"))) (eC (.int 2147483647))) (eCall ff_law_mixed (aCons (eOp gDget (eVar 0) (eC (.str "cell"))) (aCons (eOp gDget (eVar 0) (eC (.str "turns"))) aNil)) []))))) sNil) (sSeq (sAs (eOp (gIntC (fun _ j => j ≠ 0) fun i j => .int (i.fmod j)) (eOp gDget (eVar 0) (eC (.str "left"))) (eVar 1)) (gN 3)) (sSeq (sDput (eVar 0) (eC (.str "left")) (eOp (gIntC DivOk fun i j => .int (i.fdiv j)) (eOp gDget (eVar 0) (eC (.str "left"))) (eVar 1))) (sRet (eVar 3)))))
noncomputable def ff_law_digit : Fn := fnF 4 gg_law_digit
def nn_law_number : List Str := ["word", "others", "sign", "found"]
noncomputable def gg_law_number : SF := (sSeq (sAs (eLc [2] (aSigns (eVar 0)) (gN 2) (tV (eOp (gIn fun b => !b) (eVar 2) (eC (.str "0123456789")))) (eVar 2)) (gN 1)) (sSeq (sIf (tOrr (tV (eOp (gEq PyData.eqv) (eVar 0) (eC (.str "")))) (tOrr (tV (eOp (gEq fun p q => !PyData.eqv p q) (eVar 1) (eLst aNil))) (tOrr (tV (eOp (gInt fun i j => .bl (decide (j < i))) (eB gLen (aCons (eVar 0) aNil)) (eC (.int 4)))) (tAn (tV (eOp (gInt fun i j => .bl (decide (j < i))) (eB gLen (aCons (eVar 0) aNil)) (eC (.int 1)))) (tV (eOp (gEq PyData.eqv) (eOp gIx (eVar 0) (eC (.int 0))) (eC (.str "0")))))))) (sRet (eC .non)) sNil) (sSeq (sAs (eC (.int 0)) (gN 3)) (sSeq (sFor (aSigns (eVar 0)) (gN 2) (sAs (eOp gAdd (eOp gMul (eVar 3) (eC (.int 10))) (eS1 gIdx (eC (.str "0123456789")) (eVar 2))) (gN 3))) (sRet (eVar 3))))))
noncomputable def ff_law_number : Fn := fnF 4 gg_law_number
def nn_law_signed : List Str := ["word", "found"]
noncomputable def gg_law_signed : SF := (sSeq (sIf (tV (eOp (gEq fun p q => !PyData.eqv p q) (eSl (eVar 0) pNone (pSome (eC (.int 1)))) (eC (.str "-")))) (sRet (eCall ff_law_number (aCons (eVar 0) aNil) [])) sNil) (sSeq (sAs (eCall ff_law_number (aCons (eSl (eVar 0) (pSome (eC (.int 1))) pNone) aNil) []) (gN 1)) (sRet (eIf (tOrr (tV (eOp (gIsN fun b => b) (eVar 1) (eC .non))) (tV (eOp (gEq PyData.eqv) (eVar 1) (eC (.int 0))))) (eC .non) (eOp (gInt fun i j => .int (i - j)) (eC (.int 0)) (eVar 1))))))
noncomputable def ff_law_signed : Fn := fnF 2 gg_law_signed
def nn_law_word_right : List Str := ["word", "others", "sign", "due", "parts", "told"]
noncomputable def gg_law_word_right : SF := (sSeq (sAs (eLc [2] (aSigns (eVar 0)) (gN 2) (tV (eOp (gIn fun b => !b) (eVar 2) (eC (.str "abcdefghijklmnopqrstuvwxyz")))) (eVar 2)) (gN 1)) (sSeq (sAs (eLst (aCons (eAn (eChain (gInt fun i j => .bl (decide (i < j))) (gInt fun i j => .bl (decide (i < j))) (eC (.int 0)) (eB gLen (aCons (eVar 0) aNil)) (eC (.int 9))) (eOp (gEq PyData.eqv) (eVar 1) (eLst aNil))) (aCons (eCall ff_law_number (aCons (eVar 0) aNil) []) (aCons (eCall ff_law_signed (aCons (eVar 0) aNil) []) (aCons (eC (.bl false)) (aCons (eC (.bl false)) aNil)))))) (gN 3)) (sSeq (sIf (tV (eOp (gEq fun p q => !PyData.eqv p q) (eB gReprX (aCons (eLst (aCons (eCall ff_is_name (aCons (eVar 0) aNil) []) (aCons (eCall ff_number_of (aCons (eVar 0) aNil) []) (aCons (eCall ff_signed_of (aCons (eVar 0) aNil) []) (aCons (eCall ff_is_whole (aCons (eVar 0) aNil) []) (aCons (eCall ff_is_among (aCons (eVar 0) (aCons (eC (.int 0)) (aCons (eC (.int 9)) aNil))) []) aNil)))))) aNil)) (eB gReprX (aCons (eVar 3) aNil)))) (sRet (eC (.bl false))) sNil) (sSeq (sPar 4 5 (eS1 gSplit (eVar 0) (eC (.str " "))) (eCall ff_words_of (aCons (eVar 0) aNil) [])) (sSeq (sIf (tV (eOp (gIn fun b => b) (eC (.str "")) (eVar 4))) (sRet (eOp (gIsN fun b => b) (eVar 5) (eC .non))) sNil) (sRet (eAn (eB gIsi (aCons (eVar 5) (aCons (eC (.ty "list")) aNil))) (eOp (gEq PyData.eqv) (eVar 5) (eVar 4)))))))))
noncomputable def ff_law_word_right : Fn := fnF 6 gg_law_word_right
def nn_law_texts : List Str := ["state", "every", "signs", "many", "word", "j", "sign", "number", "some"]
noncomputable def gg_law_texts : SF := (sSeq (sAs (eC (.str "!\"#$&'()*+,-./0123456789:;<=>?@ABCDEFGHIJKLMNOPQRSTUVWXYZ[\\]^_`abcdefghijklmnopqrstuvwxyz{|}~ \n")) (gN 1)) (sSeq (sAs (eLst (aCons (eC (.str "abcdefghijklmnopqrstuvwxyz")) (aCons (eC (.str "0123456789")) (aCons (eC (.str "a1 -")) (aCons (eVar 1) aNil))))) (gN 2)) (sSeq (sAs (eTup (aCons (eOp gIx (eVar 2) (eCall ff_law_digit (aCons (eVar 0) (aCons (eC (.int 4)) aNil)) [])) (aCons (eCall ff_law_digit (aCons (eVar 0) (aCons (eC (.int 11)) aNil)) []) aNil))) (gTp (gsCons (gN 2) (gsCons (gN 3) gsNil)))) (sSeq (sAs (eS1 gJoin (eC (.str "")) (eLc [5] (aRng1 (aCons (eVar 3) aNil)) (gN 5) tTrue (eOp gIx (eVar 2) (eCall ff_law_digit (aCons (eVar 0) (aCons (eB gLen (aCons (eVar 2) aNil)) aNil)) [])))) (gN 4)) (sSeq (sAs (eOp gIx (eVar 1) (eCall ff_law_digit (aCons (eVar 0) (aCons (eB gLen (aCons (eVar 1) aNil)) aNil)) [])) (gN 6)) (sSeq (sAs (eB gStrInt (aCons (eCall ff_law_digit (aCons (eVar 0) (aCons (eOp gIx (eLst (aCons (eC (.int 101)) (aCons (eC (.int 200000)) aNil))) (eCall ff_law_digit (aCons (eVar 0) (aCons (eC (.int 2)) aNil)) [])) aNil)) []) aNil)) (gN 7)) (sSeq (sAs (eLst (aCons (eVar 4) (aCons (eVar 7) (aCons (eOp gAdd (eC (.str "0")) (eVar 7)) (aCons (eOp gAdd (eOp gAdd (eVar 4) (eC (.str "  "))) (eVar 4)) (aCons (eOp gAdd (eC (.str " ")) (eVar 4)) (aCons (eS0 gUpper (eVar 4)) (aCons (eVar 6) (aCons (eOp gAdd (eC (.str "-")) (eVar 4)) (aCons (eOp gAdd (eC (.str "--")) (eVar 7)) aNil)))))))))) (gN 8)) (sSeq (sAs (eOp gAdd (eVar 8) (eLst (aCons (eOp gAdd (eSl (eVar 4) pNone (pSome (eC (.int 3)))) (eVar 6)) (aCons (eC (.str "")) (aCons (eOp gAdd (eVar 7) (eVar 6)) (aCons (eOp gAdd (eVar 6) (eVar 7)) (aCons (eOp gAdd (eOp gAdd (eC (.str "ab")) (eVar 6)) (eC (.str "c"))) (aCons (eC (.str "-0")) (aCons (eC (.str "-")) (aCons (eOp gAdd (eC (.str "-0")) (eVar 7)) aNil)))))))))) (gN 8)) (sRet (eOp gAdd (eVar 8) (eLst (aCons (eOp gAdd (eOp gAdd (eVar 7) (eC (.str " "))) (eVar 4)) (aCons (eOp gAdd (eC (.str "-")) (eVar 7)) (aCons (eOp gAdd (eVar 4) (eC (.str " "))) aNil))))))))))))))
noncomputable def ff_law_texts : Fn := fnF 9 gg_law_texts
def nn_law_numbers_right : List Str := ["state", "odd", "kept", "found", "own"]
noncomputable def gg_law_numbers_right : SF := (sSeq (sAs (eOp gIx (eLst (aCons (eC .non) (aCons (eC (.bl true)) (aCons (eLst aNil) (aCons (eLst (aCons (eC (.str "a")) aNil)) (aCons eDic0 (aCons (eTup (aCons (eC (.str "a")) aNil)) (aCons (eC (.bl false)) aNil)))))))) (eCall ff_law_digit (aCons (eVar 0) (aCons (eC (.int 7)) aNil)) [])) (gN 1)) (sSeq (sAs (eB gReprX (aCons (eVar 1) aNil)) (gN 2)) (sSeq (sAs (eLst (aCons (eCall ff_is_name (aCons (eVar 1) aNil) []) (aCons (eCall ff_number_of (aCons (eVar 1) aNil) []) (aCons (eCall ff_signed_of (aCons (eVar 1) aNil) []) (aCons (eCall ff_words_of (aCons (eVar 1) aNil) []) (aCons (eCall ff_is_whole (aCons (eVar 1) aNil) []) (aCons (eCall ff_is_among (aCons (eVar 1) (aCons (eC (.int 0)) (aCons (eC (.int 1)) aNil))) []) aNil))))))) (gN 3)) (sSeq (sIf (tOrr (tV (eOp (gEq fun p q => !PyData.eqv p q) (eB gReprX (aCons (eVar 3) aNil)) (eC (.str "[False, None, None, None, False, False]")))) (tV (eOp (gEq fun p q => !PyData.eqv p q) (eB gReprX (aCons (eVar 1) aNil)) (eVar 2)))) (sRet (eC (.bl false))) sNil) (sSeq (sAs (eOp (gInt fun i j => .int (i - j)) (eCall ff_law_digit (aCons (eVar 0) (aCons (eC (.int 1000)) aNil)) []) (eC (.int 400))) (gN 4)) (sSeq (sAs (eLst (aCons (eCall ff_is_whole (aCons (eVar 4) aNil) []) (aCons (eCall ff_is_among (aCons (eVar 4) (aCons (eVar 4) (aCons (eVar 4) aNil))) []) (aCons (eCall ff_is_among (aCons (eVar 4) (aCons (eOp gAdd (eVar 4) (eC (.int 1))) (aCons (eOp gAdd (eVar 4) (eC (.int 2))) aNil))) []) (aCons (eCall ff_is_name (aCons (eVar 4) aNil) []) aNil))))) (gN 3)) (sSeq (sAs (eOp gAdd (eVar 3) (eLst (aCons (eCall ff_is_among (aCons (eVar 4) (aCons (eOp (gInt fun i j => .int (i - j)) (eVar 4) (eC (.int 2))) (aCons (eOp (gInt fun i j => .int (i - j)) (eVar 4) (eC (.int 1))) aNil))) []) (aCons (eCall ff_number_of (aCons (eVar 4) aNil) []) (aCons (eCall ff_signed_of (aCons (eVar 4) aNil) []) (aCons (eCall ff_words_of (aCons (eVar 4) aNil) []) aNil)))))) (gN 3)) (sRet (eOp (gEq PyData.eqv) (eB gReprX (aCons (eVar 3) aNil)) (eC (.str "[True, True, False, False, False, None, None, None]")))))))))))
noncomputable def ff_law_numbers_right : Fn := fnF 5 gg_law_numbers_right
def nn_law : List Str := ["script", "k", "cell", "state", "one", "great", "found", "row", "some"]
noncomputable def gg_law : SF := (sSeq (sFor (aEnum (aCons (eOp gAdd (eSl (eVar 0) pNone (pSome (eC (.int 12)))) (eLst (aCons (eB gSum (aCons (eVar 0) aNil)) aNil))) aNil)) (gTp (gsCons (gN 1) (gsCons (gN 2) gsNil))) (sSeq (sAs (eCall ff_law_draw (aCons (eVar 2) (aCons (eVar 1) aNil)) []) (gN 3)) (sSeq (sIf (tV (eOp (gEq fun p q => !PyData.eqv p q) (eLc [4] (aItems (eCall ff_law_texts (aCons (eVar 3) aNil) [])) (gN 4) (tNt (tV (eCall ff_law_word_right (aCons (eVar 4) aNil) []))) (eVar 4)) (eLst aNil))) (sRet (eC (.bl false))) sNil) (sIf (tNt (tV (eCall ff_law_numbers_right (aCons (eVar 3) aNil) []))) (sRet (eC (.bl false))) sNil)))) (sSeq (sAs (eOp gAdd (eOp (gIntC PowOk fun i j => .int (i ^ j.toNat)) (eC (.int 10)) (eC (.int 40))) (eOp (gIntC (fun _ j => j ≠ 0) fun i j => .int (i.fmod j)) (eB (gL1 fun i => .int (if i < 0 then -i else i)) (aCons (eB gSum (aCons (eVar 0) aNil)) aNil)) (eOp (gIntC PowOk fun i j => .int (i ^ j.toNat)) (eC (.int 10)) (eC (.int 60))))) (gN 5)) (sSeq (sAs (eLst (aCons (eCall ff_is_whole (aCons (eVar 5) aNil) []) (aCons (eCall ff_is_whole (aCons (eOp (gInt fun i j => .int (i - j)) (eC (.int 0)) (eVar 5)) aNil) []) (aCons (eCall ff_is_among (aCons (eVar 5) (aCons (eC (.int 0)) (aCons (eVar 5) aNil))) []) (aCons (eCall ff_is_among (aCons (eVar 5) (aCons (eC (.int 0)) (aCons (eOp (gInt fun i j => .int (i - j)) (eVar 5) (eC (.int 1))) aNil))) []) aNil))))) (gN 6)) (sSeq (sAs (eS1 gJoin (eC (.str " ")) (eOp gMul (eLst (aCons (eC (.str "ab")) aNil)) (eC (.int 6000)))) (gN 7)) (sSeq (sIf (tOrr (tV (eOp (gEq fun p q => !PyData.eqv p q) (eB gReprX (aCons (eVar 6) aNil)) (eC (.str "[True, True, True, False]")))) (tOrr (tV (eOp (gEq fun p q => !PyData.eqv p q) (eCall ff_words_of (aCons (eVar 7) aNil) []) (eOp gMul (eLst (aCons (eC (.str "ab")) aNil)) (eC (.int 6000))))) (tV (eOp (gIsN fun b => !b) (eCall ff_words_of (aCons (eOp gAdd (eVar 7) (eC (.str " "))) aNil) []) (eC .non))))) (sRet (eC (.bl false))) sNil) (sSeq (sAs (eLst (aCons (eC (.int 12)) (aCons (eC (.int 20)) (aCons (eC (.int 999)) (aCons (eC (.int 99)) (aCons (eC (.int 9999)) (aCons (eC (.int 99)) (aCons (eC (.int 12)) (aCons (eC (.int 8)) aNil))))))))) (gN 8)) (sSeq (sAs (eOp gAdd (eVar 8) (eLst (aCons (eC (.int 6)) (aCons (eC (.int 5)) (aCons (eC (.int 4)) (aCons (eC (.int 4)) (aCons (eC (.int 6)) (aCons (eC (.int 2)) aNil)))))))) (gN 8)) (sSeq (sIf (tV (eOp (gEq fun p q => !PyData.eqv p q) (eB gReprX (aCons (eVar 8) aNil)) (eC (.str "[12, 20, 999, 99, 9999, 99, 12, 8, 6, 5, 4, 4, 6, 2]")))) (sRet (eC (.bl false))) sNil) (sRet (eAn (eOp (gIsN fun b => b) (eCall ff_number_of (aCons (eOp gMul3 (eC (.str "7")) (eC (.int 5000))) aNil) []) (eC .non)) (eAn (eOp (gIsB fun b => b) (eCall ff_is_name (aCons (eOp gMul3 (eC (.str "a")) (eC (.int 5000))) aNil) []) (eC (.bl false))) (eOp (gIsN fun b => b) (eCall ff_signed_of (aCons (eOp gAdd (eC (.str "-")) (eOp gMul3 (eC (.str "7")) (eC (.int 5000)))) aNil) []) (eC .non)))))))))))))
noncomputable def ff_law : Fn := fnF 9 gg_law
end Law

namespace Law
open PySem L2 Pl
def topS (i : Nat) : Stmt := PySem.Challenge.pw_panelworks_k01_words_and_numbers.main.body.getD i (.Pass ⟨0, 0, 0, 0⟩)
structure Txt (K : PySem.W.Frag) (mg : Str → Option Value) : Prop where
  n_int : mg "int" = none
  n_isinstance : mg "isinstance" = none
  n_bool : mg "bool" = none
  n_str : mg "str" = none
  n_len : mg "len" = none
  n_all : mg "all" = none
  n_range : mg "range" = none
  n_repr : mg "repr" = none
  n_list : mg "list" = none
  n_enumerate : mg "enumerate" = none
  n_sum : mg "sum" = none
  n_abs : mg "abs" = none
  g_MOST_LETTERS : GV K mg "MOST_LETTERS" (.int 8)
  g_LETTERS : GV K mg "LETTERS" (.str "abcdefghijklmnopqrstuvwxyz")
  g_MOST_FIGURES : GV K mg "MOST_FIGURES" (.int 4)
  g_FIGURES : GV K mg "FIGURES" (.str "0123456789")
  g_MOST_SIDE : GV K mg "MOST_SIDE" (.int 8)
  g_MOST_RING : GV K mg "MOST_RING" (.int 12)
  g_MOST_UNDER : GV K mg "MOST_UNDER" (.int 99)
  g_MOST_PLACED : GV K mg "MOST_PLACED" (.int 9999)
  g_MOST_RATIO : GV K mg "MOST_RATIO" (.int 99)
  g_MOST_NUMBER : GV K mg "MOST_NUMBER" (.int 999)
  g_MOST_SAYINGS : GV K mg "MOST_SAYINGS" (.int 20)
  g_MOST_POINTS : GV K mg "MOST_POINTS" (.int 12)
  g_DEPTH : GV K mg "DEPTH" (.int 2)
  g_MOST_LENGTH : GV K mg "MOST_LENGTH" (.int 6)
  g_MOST_TOOL : GV K mg "MOST_TOOL" (.int 4)
  g_MOST_TOOLS : GV K mg "MOST_TOOLS" (.int 4)
  g_MOST_FEATURES : GV K mg "MOST_FEATURES" (.int 5)
  g_MOST_HIGH : GV K mg "MOST_HIGH" (.int 6)
section
variable {P : Program} {w : World} {K : PySem.W.Frag} {mg : Str → Option Value} {base : Heap}
abbrev ss_is_whole : Stmt := topS 19
theorem sc_is_whole : FnScope nn_is_whole ["thing"] (defScope ss_is_whole) := ⟨rfl, rfl, rfl, by decide +kernel, rfl, by decide +kernel, by decide +kernel⟩
abbrev FF_is_whole (K : PySem.W.Frag) (f : Addr) (fd : FuncData) : Prop := FunD K "is_whole" "is_whole" (defArgs ss_is_whole) (defBody ss_is_whole) (defScope ss_is_whole) [] [] f fd
theorem ok_is_whole (T : Txt K mg) {f : Addr} {fd : FuncData} (F : FF_is_whole K f fd) : DFn P w K mg base 1 f fd ["thing"] ff_is_whole :=
  DFn.of F sc_is_whole fun c => (DB.one (DS.ret (DE.and (DE.callB c (cIsi c) T.n_isinstance (by decide +kernel) (DA.cons (DE.var 0) (DA.cons (DE.bltn c T.n_int (by decide +kernel) (v := .ty "int") rfl fun _ _ => .ty _) DA.nil))) (DE.one (DE.not (DE.callB c (cIsi c) T.n_isinstance (by decide +kernel) (DA.cons (DE.var 0) (DA.cons (DE.bltn c T.n_bool (by decide +kernel) (v := .ty "bool") rfl fun _ _ => .ty _) DA.nil))))))))
abbrev ss_is_among : Stmt := topS 20
theorem sc_is_among : FnScope nn_is_among ["thing", "least", "most"] (defScope ss_is_among) := ⟨rfl, rfl, rfl, by decide +kernel, rfl, by decide +kernel, by decide +kernel⟩
abbrev FF_is_among (K : PySem.W.Frag) (f : Addr) (fd : FuncData) : Prop := FunD K "is_among" "is_among" (defArgs ss_is_among) (defBody ss_is_among) (defScope ss_is_among) [] [] f fd
theorem ok_is_among (T : Txt K mg) (L_is_whole : Lk P w K mg base "is_whole" 1 ["thing"] ff_is_whole) {f : Addr} {fd : FuncData} (F : FF_is_among K f fd) : DFn P w K mg base 2 f fd ["thing", "least", "most"] ff_is_among :=
  DFn.of F sc_is_among fun c => (DB.cons (DS.ite (DW.test (DW.or (DT.not (DE.test (DE.cl c L_is_whole (by decide) rfl (DA.cons (DE.var 0) DA.nil) (aLen_cons aLen_nil)))) (DW.or (DT.not (DE.test (DE.cl c L_is_whole (by decide) rfl (DA.cons (DE.var 1) DA.nil) (aLen_cons aLen_nil)))) (DW.or1 (DT.not (DE.test (DE.cl c L_is_whole (by decide) rfl (DA.cons (DE.var 2) DA.nil) (aLen_cons aLen_nil))))))))
  (DB.one (DS.ret DE.bool)) DB.nil)
  (DB.one (DS.ret (DC.val (DC.chain opLe opLe (DE.var 1) (DE.var 0) (DE.var 2))))))
abbrev ss_is_text_of : Stmt := topS 25
theorem sc_is_text_of : FnScope nn_is_text_of ["thing", "signs", "most"] (defScope ss_is_text_of) := ⟨rfl, rfl, rfl, by decide +kernel, rfl, by decide +kernel, by decide +kernel⟩
abbrev FF_is_text_of (K : PySem.W.Frag) (f : Addr) (fd : FuncData) : Prop := FunD K "_is_text_of" "_is_text_of" (defArgs ss_is_text_of) (defBody ss_is_text_of) (defScope ss_is_text_of) [] [] f fd
theorem ok_is_text_of (T : Txt K mg) {f : Addr} {fd : FuncData} (F : FF_is_text_of K f fd) : DFn P w K mg base 1 f fd ["thing", "signs", "most"] ff_is_text_of :=
  DFn.of F sc_is_text_of fun c => (DB.cons (DS.ite (DW.test (DW.or (DT.not (DE.test (DE.callB c (cIsi c) T.n_isinstance (by decide +kernel) (DA.cons (DE.var 0) (DA.cons (DE.bltn c T.n_str (by decide +kernel) (v := .ty "str") rfl fun _ _ => .ty _) DA.nil))))) (DW.or1 (DT.not (DC.test (DC.chain opLe opLe DE.int (DE.callB c (cLen c) T.n_len (by decide +kernel) (DA.cons (DE.var 0) DA.nil)) (DE.var 2)))))))
  (DB.one (DS.ret DE.bool)) DB.nil)
  (DB.one (DS.ret (DE.callB c (cAll c) T.n_all (by decide +kernel) (DA.cons (DE.lc c (own := [("sign", 3)]) (fun _ => sc_is_text_of.nd) (DI.str (DE.var 0)) (fun _ => blkOk_by (N := nn_is_text_of) (by rfl)) (DG.name 3 fun _ => sc_is_text_of.nd) (by decide) DTs.nil (DC.val (DC.op (opIn (c.blk _)) (DE.var 3) (DE.var 1)))) DA.nil)))))
abbrev ss_is_name : Stmt := topS 21
theorem sc_is_name : FnScope nn_is_name ["thing"] (defScope ss_is_name) := ⟨rfl, rfl, rfl, by decide +kernel, rfl, by decide +kernel, by decide +kernel⟩
abbrev FF_is_name (K : PySem.W.Frag) (f : Addr) (fd : FuncData) : Prop := FunD K "is_name" "is_name" (defArgs ss_is_name) (defBody ss_is_name) (defScope ss_is_name) [] [] f fd
theorem ok_is_name (T : Txt K mg) (L_is_text_of : Lk P w K mg base "_is_text_of" 1 ["thing", "signs", "most"] ff_is_text_of) {f : Addr} {fd : FuncData} (F : FF_is_name K f fd) : DFn P w K mg base 2 f fd ["thing"] ff_is_name :=
  DFn.of F sc_is_name fun c => (DB.one (DS.ret (DE.cl c L_is_text_of (by decide) rfl (DA.cons (DE.var 0) (DA.cons (DE.gv c T.g_LETTERS) (DA.cons (DE.gv c T.g_MOST_LETTERS) DA.nil))) (aLen_cons (aLen_cons (aLen_cons aLen_nil))))))
abbrev ss_number_of : Stmt := topS 22
theorem sc_number_of : FnScope nn_number_of ["word"] (defScope ss_number_of) := ⟨rfl, rfl, rfl, by decide +kernel, rfl, by decide +kernel, by decide +kernel⟩
abbrev FF_number_of (K : PySem.W.Frag) (f : Addr) (fd : FuncData) : Prop := FunD K "number_of" "number_of" (defArgs ss_number_of) (defBody ss_number_of) (defScope ss_number_of) [] [] f fd
theorem ok_number_of (T : Txt K mg) (L_is_text_of : Lk P w K mg base "_is_text_of" 1 ["thing", "signs", "most"] ff_is_text_of) {f : Addr} {fd : FuncData} (F : FF_number_of K f fd) : DFn P w K mg base 2 f fd ["word"] ff_number_of :=
  DFn.of F sc_number_of fun c => (DB.cons (DS.ite (DT.not (DE.test (DE.cl c L_is_text_of (by decide) rfl (DA.cons (DE.var 0) (DA.cons (DE.gv c T.g_FIGURES) (DA.cons (DE.gv c T.g_MOST_FIGURES) DA.nil))) (aLen_cons (aLen_cons (aLen_cons aLen_nil))))))
  (DB.one (DS.ret DE.non)) DB.nil)
  (DB.cons (DS.ite (DW.test (DW.and (DC.test (DC.op (opEq c) (DE.ix c (DE.var 0) DE.int) DE.str)) (DW.and1 (DC.test (DC.op (opNe c) (DE.var 0) DE.str)))))
  (DB.one (DS.ret DE.non)) DB.nil)
  (DB.one (DS.ret (DE.callTy c cInt1 T.n_int (by decide +kernel) (DA.cons (DE.var 0) DA.nil))))))
abbrev ss_signed_of : Stmt := topS 23
theorem sc_signed_of : FnScope nn_signed_of ["word"] (defScope ss_signed_of) := ⟨rfl, rfl, rfl, by decide +kernel, rfl, by decide +kernel, by decide +kernel⟩
abbrev FF_signed_of (K : PySem.W.Frag) (f : Addr) (fd : FuncData) : Prop := FunD K "signed_of" "signed_of" (defArgs ss_signed_of) (defBody ss_signed_of) (defScope ss_signed_of) [] [] f fd
theorem ok_signed_of (T : Txt K mg) (L_number_of : Lk P w K mg base "number_of" 2 ["word"] ff_number_of) {f : Addr} {fd : FuncData} (F : FF_signed_of K f fd) : DFn P w K mg base 3 f fd ["word"] ff_signed_of :=
  DFn.of F sc_signed_of fun c => (DB.cons (DS.ite (DW.test (DW.or (DT.not (DE.test (DE.callB c (cIsi c) T.n_isinstance (by decide +kernel) (DA.cons (DE.var 0) (DA.cons (DE.bltn c T.n_str (by decide +kernel) (v := .ty "str") rfl fun _ _ => .ty _) DA.nil))))) (DW.or1 (DC.test (DC.op (opNe c) (DE.sl c (DE.var 0) DP.none (DP.some DE.int)) DE.str)))))
  (DB.one (DS.ret (DE.cl c L_number_of (by decide) rfl (DA.cons (DE.var 0) DA.nil) (aLen_cons aLen_nil)))) DB.nil)
  (DB.cons (DS.set 1 (DE.cl c L_number_of (by decide) rfl (DA.cons (DE.sl c (DE.var 0) (DP.some DE.int) DP.none) DA.nil) (aLen_cons aLen_nil)) (fun _ => sc_signed_of.nd))
  (DB.cons (DS.ite (DW.test (DW.or (DC.test (DC.op opIsN (DE.var 1) DE.non)) (DW.or1 (DC.test (DC.op (opEq c) (DE.var 1) DE.int)))))
  (DB.one (DS.ret DE.non)) DB.nil)
  (DB.one (DS.ret (DE.neg (DE.var 1)))))))
abbrev ss_words_of : Stmt := topS 24
theorem sc_words_of : FnScope nn_words_of ["row"] (defScope ss_words_of) := ⟨rfl, rfl, rfl, by decide +kernel, rfl, by decide +kernel, by decide +kernel⟩
abbrev FF_words_of (K : PySem.W.Frag) (f : Addr) (fd : FuncData) : Prop := FunD K "words_of" "words_of" (defArgs ss_words_of) (defBody ss_words_of) (defScope ss_words_of) [] [] f fd
theorem ok_words_of (T : Txt K mg) {f : Addr} {fd : FuncData} (F : FF_words_of K f fd) : DFn P w K mg base 1 f fd ["row"] ff_words_of :=
  DFn.of F sc_words_of fun c => (DB.cons (DS.ite (DT.not (DE.test (DE.callB c (cIsi c) T.n_isinstance (by decide +kernel) (DA.cons (DE.var 0) (DA.cons (DE.bltn c T.n_str (by decide +kernel) (v := .ty "str") rfl fun _ _ => .ty _) DA.nil)))))
  (DB.one (DS.ret DE.non)) DB.nil)
  (DB.cons (DS.set 1 (DE.smeth sSplit PySem.F.slot_str_split PySem.F.type_str_split (DE.var 0) DE.str) (fun _ => sc_words_of.nd))
  (DB.cons (DS.ite (DC.test (DC.op (opIn c) DE.str (DE.var 1)))
  (DB.one (DS.ret DE.non)) DB.nil)
  (DB.one (DS.ret (DE.var 1))))))
abbrev ss_law_mixed : Stmt := topS 27
theorem sc_law_mixed : FnScope nn_law_mixed ["cell", "k"] (defScope ss_law_mixed) := ⟨rfl, rfl, rfl, by decide +kernel, rfl, by decide +kernel, by decide +kernel⟩
abbrev FF_law_mixed (K : PySem.W.Frag) (f : Addr) (fd : FuncData) : Prop := FunD K "_law_mixed" "_law_mixed" (defArgs ss_law_mixed) (defBody ss_law_mixed) (defScope ss_law_mixed) [] [] f fd
theorem ok_law_mixed (T : Txt K mg) {f : Addr} {fd : FuncData} (F : FF_law_mixed K f fd) : DFn P w K mg base 1 f fd ["cell", "k"] ff_law_mixed :=
  DFn.of F sc_law_mixed fun c => (DB.cons (DS.set 2 (DE.op (opAdd4 c) (DE.op (opAdd4 c) (DE.op opMod (DE.var 0) (DE.ix c (DE.lst (DA.cons DE.int (DA.cons DE.int (DA.cons DE.int (DA.cons DE.int DA.nil))))) (DE.op opMod (DE.var 1) DE.int))) (DE.op opMul2 DE.int (DE.var 1))) DE.int) (fun _ => sc_law_mixed.nd))
  (DB.one (DS.ret (DE.op opMod (DE.op opMul2 (DE.op opMod (DE.op opMul2 (DE.var 2) (DE.var 2)) DE.int) DE.int) DE.int))))
abbrev ss_law_draw : Stmt := topS 28
theorem sc_law_draw : FnScope nn_law_draw ["cell", "k"] (defScope ss_law_draw) := ⟨rfl, rfl, rfl, by decide +kernel, rfl, by decide +kernel, by decide +kernel⟩
abbrev FF_law_draw (K : PySem.W.Frag) (f : Addr) (fd : FuncData) : Prop := FunD K "_law_draw" "_law_draw" (defArgs ss_law_draw) (defBody ss_law_draw) (defScope ss_law_draw) [] [] f fd
theorem ok_law_draw (T : Txt K mg) {f : Addr} {fd : FuncData} (F : FF_law_draw K f fd) : DFn P w K mg base 1 f fd ["cell", "k"] ff_law_draw :=
  DFn.of F sc_law_draw fun c => (DB.one (DS.ret (DE.dic (DPs.cons DE.str (DE.ite (DC.test (DC.op opGe (DE.var 0) (DE.op opPow DE.int DE.int))) (DE.var 0) DE.int) (DPs.cons DE.str (DE.var 0) (DPs.cons DE.str (DE.op opMul2 DE.int (DE.var 1)) DPs.nil))))))
abbrev ss_law_digit : Stmt := topS 29
theorem sc_law_digit : FnScope nn_law_digit ["state", "many"] (defScope ss_law_digit) := ⟨rfl, rfl, rfl, by decide +kernel, rfl, by decide +kernel, by decide +kernel⟩
abbrev FF_law_digit (K : PySem.W.Frag) (f : Addr) (fd : FuncData) : Prop := FunD K "_law_digit" "_law_digit" (defArgs ss_law_digit) (defBody ss_law_digit) (defScope ss_law_digit) [] [] f fd
theorem ok_law_digit (T : Txt K mg) (L_law_mixed : Lk P w K mg base "_law_mixed" 1 ["cell", "k"] ff_law_mixed) {f : Addr} {fd : FuncData} (F : FF_law_digit K f fd) : DFn P w K mg base 2 f fd ["state", "many"] ff_law_digit :=
  DFn.of F sc_law_digit fun c => (DB.cons (DS.ite (DC.test (DC.op (opEq c) (DE.dgt c (DE.var 0) DE.str) DE.int))
  (DB.one (DS.for c (fun _ => PassesOwn.never) (DI.rng1 c T.n_range (DA.cons DE.int DA.nil)) (DG.name 2 fun _ => sc_law_digit.nd)
  (DB.cons (DS.dput c (DE.var 0) DE.str (DE.op (opAdd4 c) (DE.dgt c (DE.var 0) DE.str) DE.int))
  (DB.one (DS.dput c (DE.var 0) DE.str (DE.op (opAdd4 c) (DE.op opMul2 (DE.dgt c (DE.var 0) DE.str) DE.int) (DE.cl c L_law_mixed (by decide) rfl (DA.cons (DE.dgt c (DE.var 0) DE.str) (DA.cons (DE.dgt c (DE.var 0) DE.str) DA.nil)) (aLen_cons (aLen_cons aLen_nil))))))))) DB.nil)
  (DB.cons (DS.set 3 (DE.op opMod (DE.dgt c (DE.var 0) DE.str) (DE.var 1)) (fun _ => sc_law_digit.nd))
  (DB.cons (DS.dput c (DE.var 0) DE.str (DE.op opDiv (DE.dgt c (DE.var 0) DE.str) (DE.var 1)))
  (DB.one (DS.ret (DE.var 3))))))
abbrev ss_law_number : Stmt := topS 30
theorem sc_law_number : FnScope nn_law_number ["word"] (defScope ss_law_number) := ⟨rfl, rfl, rfl, by decide +kernel, rfl, by decide +kernel, by decide +kernel⟩
abbrev FF_law_number (K : PySem.W.Frag) (f : Addr) (fd : FuncData) : Prop := FunD K "_law_number" "_law_number" (defArgs ss_law_number) (defBody ss_law_number) (defScope ss_law_number) [] [] f fd
theorem ok_law_number (T : Txt K mg) {f : Addr} {fd : FuncData} (F : FF_law_number K f fd) : DFn P w K mg base 1 f fd ["word"] ff_law_number :=
  DFn.of F sc_law_number fun c => (DB.cons (DS.setLc 1 c (own := [("sign", 2)]) (fun _ => sc_law_number.nd) (DI.str (DE.var 0)) (fun _ => blkOk_by (N := nn_law_number) (by rfl)) (DG.name 2 fun _ => sc_law_number.nd) (by decide) (DTs.one (DC.test (DC.op (opNotIn (c.blk _)) (DE.var 2) DE.str))) (DE.var 2))
  (DB.cons (DS.ite (DW.test (DW.or (DC.test (DC.op (opEq c) (DE.var 0) DE.str)) (DW.or (DC.test (DC.op (opNe c) (DE.var 1) (DE.lst DA.nil))) (DW.or (DC.test (DC.op opGt (DE.callB c (cLen c) T.n_len (by decide +kernel) (DA.cons (DE.var 0) DA.nil)) DE.int)) (DW.or1 (DW.test (DW.and (DC.test (DC.op opGt (DE.callB c (cLen c) T.n_len (by decide +kernel) (DA.cons (DE.var 0) DA.nil)) DE.int)) (DW.and1 (DC.test (DC.op (opEq c) (DE.ix c (DE.var 0) DE.int) DE.str))))))))))
  (DB.one (DS.ret DE.non)) DB.nil)
  (DB.cons (DS.set 3 DE.int (fun _ => sc_law_number.nd))
  (DB.cons (DS.for c (fun _ => PassesOwn.never) (DI.str (DE.var 0)) (DG.name 2 fun _ => sc_law_number.nd)
  (DB.one (DS.set 3 (DE.op (opAdd4 c) (DE.op opMul2 (DE.var 3) DE.int) (DE.smeth sIdx PySem.F.slot_str_index PySem.F.type_str_index DE.str (DE.var 2))) (fun _ => sc_law_number.nd))))
  (DB.one (DS.ret (DE.var 3)))))))
abbrev ss_law_signed : Stmt := topS 31
theorem sc_law_signed : FnScope nn_law_signed ["word"] (defScope ss_law_signed) := ⟨rfl, rfl, rfl, by decide +kernel, rfl, by decide +kernel, by decide +kernel⟩
abbrev FF_law_signed (K : PySem.W.Frag) (f : Addr) (fd : FuncData) : Prop := FunD K "_law_signed" "_law_signed" (defArgs ss_law_signed) (defBody ss_law_signed) (defScope ss_law_signed) [] [] f fd
theorem ok_law_signed (T : Txt K mg) (L_law_number : Lk P w K mg base "_law_number" 1 ["word"] ff_law_number) {f : Addr} {fd : FuncData} (F : FF_law_signed K f fd) : DFn P w K mg base 2 f fd ["word"] ff_law_signed :=
  DFn.of F sc_law_signed fun c => (DB.cons (DS.ite (DC.test (DC.op (opNe c) (DE.sl c (DE.var 0) DP.none (DP.some DE.int)) DE.str))
  (DB.one (DS.ret (DE.cl c L_law_number (by decide) rfl (DA.cons (DE.var 0) DA.nil) (aLen_cons aLen_nil)))) DB.nil)
  (DB.cons (DS.set 1 (DE.cl c L_law_number (by decide) rfl (DA.cons (DE.sl c (DE.var 0) (DP.some DE.int) DP.none) DA.nil) (aLen_cons aLen_nil)) (fun _ => sc_law_signed.nd))
  (DB.one (DS.ret (DE.ite (DW.test (DW.or (DC.test (DC.op opIsN (DE.var 1) DE.non)) (DW.or1 (DC.test (DC.op (opEq c) (DE.var 1) DE.int))))) DE.non (DE.op opSub DE.int (DE.var 1)))))))
abbrev ss_law_word_right : Stmt := topS 32
theorem sc_law_word_right : FnScope nn_law_word_right ["word"] (defScope ss_law_word_right) := ⟨rfl, rfl, rfl, by decide +kernel, rfl, by decide +kernel, by decide +kernel⟩
abbrev FF_law_word_right (K : PySem.W.Frag) (f : Addr) (fd : FuncData) : Prop := FunD K "_law_word_right" "_law_word_right" (defArgs ss_law_word_right) (defBody ss_law_word_right) (defScope ss_law_word_right) [] [] f fd
theorem ok_law_word_right (T : Txt K mg) (L_law_signed : Lk P w K mg base "_law_signed" 2 ["word"] ff_law_signed) (L_law_number : Lk P w K mg base "_law_number" 1 ["word"] ff_law_number) (L_is_among : Lk P w K mg base "is_among" 2 ["thing", "least", "most"] ff_is_among) (L_is_whole : Lk P w K mg base "is_whole" 1 ["thing"] ff_is_whole) (L_signed_of : Lk P w K mg base "signed_of" 3 ["word"] ff_signed_of) (L_number_of : Lk P w K mg base "number_of" 2 ["word"] ff_number_of) (L_is_name : Lk P w K mg base "is_name" 2 ["thing"] ff_is_name) (L_words_of : Lk P w K mg base "words_of" 1 ["row"] ff_words_of) {f : Addr} {fd : FuncData} (F : FF_law_word_right K f fd) : DFn P w K mg base 4 f fd ["word"] ff_law_word_right :=
  DFn.of F sc_law_word_right fun c => (DB.cons (DS.setLc 1 c (own := [("sign", 2)]) (fun _ => sc_law_word_right.nd) (DI.str (DE.var 0)) (fun _ => blkOk_by (N := nn_law_word_right) (by rfl)) (DG.name 2 fun _ => sc_law_word_right.nd) (by decide) (DTs.one (DC.test (DC.op (opNotIn (c.blk _)) (DE.var 2) DE.str))) (DE.var 2))
  (DB.cons (DS.set 3 (DE.lst (DA.cons (DE.and (DC.val (DC.chain opLt opLt DE.int (DE.callB c (cLen c) T.n_len (by decide +kernel) (DA.cons (DE.var 0) DA.nil)) DE.int)) (DE.one (DC.val (DC.op (opEq c) (DE.var 1) (DE.lst DA.nil))))) (DA.cons (DE.cl c L_law_number (by decide) rfl (DA.cons (DE.var 0) DA.nil) (aLen_cons aLen_nil)) (DA.cons (DE.cl c L_law_signed (by decide) rfl (DA.cons (DE.var 0) DA.nil) (aLen_cons aLen_nil)) (DA.cons DE.bool (DA.cons DE.bool DA.nil)))))) (fun _ => sc_law_word_right.nd))
  (DB.cons (DS.ite (DC.test (DC.op (opNe c) (DE.callB c (cReprX c) T.n_repr (by decide +kernel) (DA.cons (DE.lst (DA.cons (DE.cl c L_is_name (by decide) rfl (DA.cons (DE.var 0) DA.nil) (aLen_cons aLen_nil)) (DA.cons (DE.cl c L_number_of (by decide) rfl (DA.cons (DE.var 0) DA.nil) (aLen_cons aLen_nil)) (DA.cons (DE.cl c L_signed_of (by decide) rfl (DA.cons (DE.var 0) DA.nil) (aLen_cons aLen_nil)) (DA.cons (DE.cl c L_is_whole (by decide) rfl (DA.cons (DE.var 0) DA.nil) (aLen_cons aLen_nil)) (DA.cons (DE.cl c L_is_among (by decide) rfl (DA.cons (DE.var 0) (DA.cons DE.int (DA.cons DE.int DA.nil))) (aLen_cons (aLen_cons (aLen_cons aLen_nil)))) DA.nil)))))) DA.nil)) (DE.callB c (cReprX c) T.n_repr (by decide +kernel) (DA.cons (DE.var 3) DA.nil))))
  (DB.one (DS.ret DE.bool)) DB.nil)
  (DB.cons (DS.par 4 5 c (DE.smeth sSplit PySem.F.slot_str_split PySem.F.type_str_split (DE.var 0) DE.str) (DE.cl c L_words_of (by decide) rfl (DA.cons (DE.var 0) DA.nil) (aLen_cons aLen_nil)) (fun _ => sc_law_word_right.nd))
  (DB.cons (DS.ite (DC.test (DC.op (opIn c) DE.str (DE.var 4)))
  (DB.one (DS.ret (DC.val (DC.op opIsN (DE.var 5) DE.non)))) DB.nil)
  (DB.one (DS.ret (DE.and (DE.callB c (cIsi c) T.n_isinstance (by decide +kernel) (DA.cons (DE.var 5) (DA.cons (DE.bltn c T.n_list (by decide +kernel) (v := .ty "list") rfl fun _ _ => .ty _) DA.nil))) (DE.one (DC.val (DC.op (opEq c) (DE.var 5) (DE.var 4))))))))))))
abbrev ss_law_texts : Stmt := topS 33
theorem sc_law_texts : FnScope nn_law_texts ["state"] (defScope ss_law_texts) := ⟨rfl, rfl, rfl, by decide +kernel, rfl, by decide +kernel, by decide +kernel⟩
abbrev FF_law_texts (K : PySem.W.Frag) (f : Addr) (fd : FuncData) : Prop := FunD K "_law_texts" "_law_texts" (defArgs ss_law_texts) (defBody ss_law_texts) (defScope ss_law_texts) [] [] f fd
theorem ok_law_texts (T : Txt K mg) (L_law_digit : Lk P w K mg base "_law_digit" 2 ["state", "many"] ff_law_digit) {f : Addr} {fd : FuncData} (F : FF_law_texts K f fd) : DFn P w K mg base 3 f fd ["state"] ff_law_texts :=
  DFn.of F sc_law_texts fun c => (DB.cons (DS.set 1 DE.str (fun _ => sc_law_texts.nd))
  (DB.cons (DS.set 2 (DE.lst (DA.cons DE.str (DA.cons DE.str (DA.cons DE.str (DA.cons (DE.var 1) DA.nil))))) (fun _ => sc_law_texts.nd))
  (DB.cons (DS.asg (DE.tup (DA.cons (DE.ix c (DE.var 2) (DE.cl c L_law_digit (by decide) rfl (DA.cons (DE.var 0) (DA.cons DE.int DA.nil)) (aLen_cons (aLen_cons aLen_nil)))) (DA.cons (DE.cl c L_law_digit (by decide) rfl (DA.cons (DE.var 0) (DA.cons DE.int DA.nil)) (aLen_cons (aLen_cons aLen_nil))) DA.nil))) (DG.tup c (DGs.cons (DG.name 2 fun _ => sc_law_texts.nd) (DGs.cons (DG.name 3 fun _ => sc_law_texts.nd) DGs.nil))))
  (DB.cons (DS.set 4 (DE.smeth (sJoin c) PySem.F.slot_str_join PySem.F.type_str_join DE.str (DE.lc c (own := [("j", 5)]) (fun _ => sc_law_texts.nd) (DI.rng1 c T.n_range (DA.cons (DE.var 3) DA.nil)) (fun _ => blkOk_by (N := nn_law_texts) (by rfl)) (DG.name 5 fun _ => sc_law_texts.nd) (by decide) DTs.nil (DE.ix (c.blk _) (DE.var 2) (DE.cl (c.blk _) L_law_digit (by decide) rfl (DA.cons (DE.var 0) (DA.cons (DE.callB (c.blk _) (cLen (c.blk _)) T.n_len (by decide +kernel) (DA.cons (DE.var 2) DA.nil)) DA.nil)) (aLen_cons (aLen_cons aLen_nil)))))) (fun _ => sc_law_texts.nd))
  (DB.cons (DS.set 6 (DE.ix c (DE.var 1) (DE.cl c L_law_digit (by decide) rfl (DA.cons (DE.var 0) (DA.cons (DE.callB c (cLen c) T.n_len (by decide +kernel) (DA.cons (DE.var 1) DA.nil)) DA.nil)) (aLen_cons (aLen_cons aLen_nil)))) (fun _ => sc_law_texts.nd))
  (DB.cons (DS.set 7 (DE.callTy c cStrInt T.n_str (by decide +kernel) (DA.cons (DE.cl c L_law_digit (by decide) rfl (DA.cons (DE.var 0) (DA.cons (DE.ix c (DE.lst (DA.cons DE.int (DA.cons DE.int DA.nil))) (DE.cl c L_law_digit (by decide) rfl (DA.cons (DE.var 0) (DA.cons DE.int DA.nil)) (aLen_cons (aLen_cons aLen_nil)))) DA.nil)) (aLen_cons (aLen_cons aLen_nil))) DA.nil)) (fun _ => sc_law_texts.nd))
  (DB.cons (DS.set 8 (DE.lst (DA.cons (DE.var 4) (DA.cons (DE.var 7) (DA.cons (DE.op (opAdd4 c) DE.str (DE.var 7)) (DA.cons (DE.op (opAdd4 c) (DE.op (opAdd4 c) (DE.var 4) DE.str) (DE.var 4)) (DA.cons (DE.op (opAdd4 c) DE.str (DE.var 4)) (DA.cons (DE.smeth0 sUpper PySem.F.slot_str_upper PySem.F.type_str_upper (DE.var 4)) (DA.cons (DE.var 6) (DA.cons (DE.op (opAdd4 c) DE.str (DE.var 4)) (DA.cons (DE.op (opAdd4 c) DE.str (DE.var 7)) DA.nil)))))))))) (fun _ => sc_law_texts.nd))
  (DB.cons (DS.set 8 (DE.op (opAdd4 c) (DE.var 8) (DE.lst (DA.cons (DE.op (opAdd4 c) (DE.sl c (DE.var 4) DP.none (DP.some DE.int)) (DE.var 6)) (DA.cons DE.str (DA.cons (DE.op (opAdd4 c) (DE.var 7) (DE.var 6)) (DA.cons (DE.op (opAdd4 c) (DE.var 6) (DE.var 7)) (DA.cons (DE.op (opAdd4 c) (DE.op (opAdd4 c) DE.str (DE.var 6)) DE.str) (DA.cons DE.str (DA.cons DE.str (DA.cons (DE.op (opAdd4 c) DE.str (DE.var 7)) DA.nil)))))))))) (fun _ => sc_law_texts.nd))
  (DB.one (DS.ret (DE.op (opAdd4 c) (DE.var 8) (DE.lst (DA.cons (DE.op (opAdd4 c) (DE.op (opAdd4 c) (DE.var 7) DE.str) (DE.var 4)) (DA.cons (DE.op (opAdd4 c) DE.str (DE.var 7)) (DA.cons (DE.op (opAdd4 c) (DE.var 4) DE.str) DA.nil)))))))))))))))
abbrev ss_law_numbers_right : Stmt := topS 34
theorem sc_law_numbers_right : FnScope nn_law_numbers_right ["state"] (defScope ss_law_numbers_right) := ⟨rfl, rfl, rfl, by decide +kernel, rfl, by decide +kernel, by decide +kernel⟩
abbrev FF_law_numbers_right (K : PySem.W.Frag) (f : Addr) (fd : FuncData) : Prop := FunD K "_law_numbers_right" "_law_numbers_right" (defArgs ss_law_numbers_right) (defBody ss_law_numbers_right) (defScope ss_law_numbers_right) [] [] f fd
theorem ok_law_numbers_right (T : Txt K mg) (L_law_digit : Lk P w K mg base "_law_digit" 2 ["state", "many"] ff_law_digit) (L_is_among : Lk P w K mg base "is_among" 2 ["thing", "least", "most"] ff_is_among) (L_is_whole : Lk P w K mg base "is_whole" 1 ["thing"] ff_is_whole) (L_words_of : Lk P w K mg base "words_of" 1 ["row"] ff_words_of) (L_signed_of : Lk P w K mg base "signed_of" 3 ["word"] ff_signed_of) (L_number_of : Lk P w K mg base "number_of" 2 ["word"] ff_number_of) (L_is_name : Lk P w K mg base "is_name" 2 ["thing"] ff_is_name) {f : Addr} {fd : FuncData} (F : FF_law_numbers_right K f fd) : DFn P w K mg base 4 f fd ["state"] ff_law_numbers_right :=
  DFn.of F sc_law_numbers_right fun c => (DB.cons (DS.set 1 (DE.ix c (DE.lst (DA.cons DE.non (DA.cons DE.bool (DA.cons (DE.lst DA.nil) (DA.cons (DE.lst (DA.cons DE.str DA.nil)) (DA.cons DE.dic0 (DA.cons (DE.tup (DA.cons DE.str DA.nil)) (DA.cons DE.bool DA.nil)))))))) (DE.cl c L_law_digit (by decide) rfl (DA.cons (DE.var 0) (DA.cons DE.int DA.nil)) (aLen_cons (aLen_cons aLen_nil)))) (fun _ => sc_law_numbers_right.nd))
  (DB.cons (DS.set 2 (DE.callB c (cReprX c) T.n_repr (by decide +kernel) (DA.cons (DE.var 1) DA.nil)) (fun _ => sc_law_numbers_right.nd))
  (DB.cons (DS.set 3 (DE.lst (DA.cons (DE.cl c L_is_name (by decide) rfl (DA.cons (DE.var 1) DA.nil) (aLen_cons aLen_nil)) (DA.cons (DE.cl c L_number_of (by decide) rfl (DA.cons (DE.var 1) DA.nil) (aLen_cons aLen_nil)) (DA.cons (DE.cl c L_signed_of (by decide) rfl (DA.cons (DE.var 1) DA.nil) (aLen_cons aLen_nil)) (DA.cons (DE.cl c L_words_of (by decide) rfl (DA.cons (DE.var 1) DA.nil) (aLen_cons aLen_nil)) (DA.cons (DE.cl c L_is_whole (by decide) rfl (DA.cons (DE.var 1) DA.nil) (aLen_cons aLen_nil)) (DA.cons (DE.cl c L_is_among (by decide) rfl (DA.cons (DE.var 1) (DA.cons DE.int (DA.cons DE.int DA.nil))) (aLen_cons (aLen_cons (aLen_cons aLen_nil)))) DA.nil))))))) (fun _ => sc_law_numbers_right.nd))
  (DB.cons (DS.ite (DW.test (DW.or (DC.test (DC.op (opNe c) (DE.callB c (cReprX c) T.n_repr (by decide +kernel) (DA.cons (DE.var 3) DA.nil)) DE.str)) (DW.or1 (DC.test (DC.op (opNe c) (DE.callB c (cReprX c) T.n_repr (by decide +kernel) (DA.cons (DE.var 1) DA.nil)) (DE.var 2))))))
  (DB.one (DS.ret DE.bool)) DB.nil)
  (DB.cons (DS.set 4 (DE.op opSub (DE.cl c L_law_digit (by decide) rfl (DA.cons (DE.var 0) (DA.cons DE.int DA.nil)) (aLen_cons (aLen_cons aLen_nil))) DE.int) (fun _ => sc_law_numbers_right.nd))
  (DB.cons (DS.set 3 (DE.lst (DA.cons (DE.cl c L_is_whole (by decide) rfl (DA.cons (DE.var 4) DA.nil) (aLen_cons aLen_nil)) (DA.cons (DE.cl c L_is_among (by decide) rfl (DA.cons (DE.var 4) (DA.cons (DE.var 4) (DA.cons (DE.var 4) DA.nil))) (aLen_cons (aLen_cons (aLen_cons aLen_nil)))) (DA.cons (DE.cl c L_is_among (by decide) rfl (DA.cons (DE.var 4) (DA.cons (DE.op (opAdd4 c) (DE.var 4) DE.int) (DA.cons (DE.op (opAdd4 c) (DE.var 4) DE.int) DA.nil))) (aLen_cons (aLen_cons (aLen_cons aLen_nil)))) (DA.cons (DE.cl c L_is_name (by decide) rfl (DA.cons (DE.var 4) DA.nil) (aLen_cons aLen_nil)) DA.nil))))) (fun _ => sc_law_numbers_right.nd))
  (DB.cons (DS.set 3 (DE.op (opAdd4 c) (DE.var 3) (DE.lst (DA.cons (DE.cl c L_is_among (by decide) rfl (DA.cons (DE.var 4) (DA.cons (DE.op opSub (DE.var 4) DE.int) (DA.cons (DE.op opSub (DE.var 4) DE.int) DA.nil))) (aLen_cons (aLen_cons (aLen_cons aLen_nil)))) (DA.cons (DE.cl c L_number_of (by decide) rfl (DA.cons (DE.var 4) DA.nil) (aLen_cons aLen_nil)) (DA.cons (DE.cl c L_signed_of (by decide) rfl (DA.cons (DE.var 4) DA.nil) (aLen_cons aLen_nil)) (DA.cons (DE.cl c L_words_of (by decide) rfl (DA.cons (DE.var 4) DA.nil) (aLen_cons aLen_nil)) DA.nil)))))) (fun _ => sc_law_numbers_right.nd))
  (DB.one (DS.ret (DC.val (DC.op (opEq c) (DE.callB c (cReprX c) T.n_repr (by decide +kernel) (DA.cons (DE.var 3) DA.nil)) DE.str)))))))))))
abbrev ss_law : Stmt := topS 35
theorem sc_law : FnScope nn_law ["script"] (defScope ss_law) := ⟨rfl, rfl, rfl, by decide +kernel, rfl, by decide +kernel, by decide +kernel⟩
abbrev FF_law (K : PySem.W.Frag) (f : Addr) (fd : FuncData) : Prop := FunD K "law" "law" (defArgs ss_law) (defBody ss_law) (defScope ss_law) [] [] f fd
theorem ok_law (T : Txt K mg) (L_law_draw : Lk P w K mg base "_law_draw" 1 ["cell", "k"] ff_law_draw) (L_law_texts : Lk P w K mg base "_law_texts" 3 ["state"] ff_law_texts) (L_law_word_right : Lk P w K mg base "_law_word_right" 4 ["word"] ff_law_word_right) (L_law_numbers_right : Lk P w K mg base "_law_numbers_right" 4 ["state"] ff_law_numbers_right) (L_is_among : Lk P w K mg base "is_among" 2 ["thing", "least", "most"] ff_is_among) (L_is_whole : Lk P w K mg base "is_whole" 1 ["thing"] ff_is_whole) (L_words_of : Lk P w K mg base "words_of" 1 ["row"] ff_words_of) (L_number_of : Lk P w K mg base "number_of" 2 ["word"] ff_number_of) (L_is_name : Lk P w K mg base "is_name" 2 ["thing"] ff_is_name) (L_signed_of : Lk P w K mg base "signed_of" 3 ["word"] ff_signed_of) {f : Addr} {fd : FuncData} (F : FF_law K f fd) : DFn P w K mg base 5 f fd ["script"] ff_law :=
  DFn.of F sc_law fun c => (DB.cons (DS.for c (fun _ => PassesOwn.never) (DI.enum c T.n_enumerate (DA.cons (DE.op (opAdd4 c) (DE.sl c (DE.var 0) DP.none (DP.some DE.int)) (DE.lst (DA.cons (DE.callB c (cSum c) T.n_sum (by decide +kernel) (DA.cons (DE.var 0) DA.nil)) DA.nil))) DA.nil)) (DG.tup c (DGs.cons (DG.name 1 fun _ => sc_law.nd) (DGs.cons (DG.name 2 fun _ => sc_law.nd) DGs.nil)))
  (DB.cons (DS.set 3 (DE.cl c L_law_draw (by decide) rfl (DA.cons (DE.var 2) (DA.cons (DE.var 1) DA.nil)) (aLen_cons (aLen_cons aLen_nil))) (fun _ => sc_law.nd))
  (DB.cons (DS.ite (DC.test (DC.op (opNe c) (DE.lc c (own := [("one", 4)]) (fun _ => sc_law.nd) (DI.seq c (DE.cl c L_law_texts (by decide) rfl (DA.cons (DE.var 3) DA.nil) (aLen_cons aLen_nil))) (fun _ => blkOk_by (N := nn_law) (by rfl)) (DG.name 4 fun _ => sc_law.nd) (by decide) (DTs.one (DT.not (DE.test (DE.cl (c.blk _) L_law_word_right (by decide) rfl (DA.cons (DE.var 4) DA.nil) (aLen_cons aLen_nil))))) (DE.var 4)) (DE.lst DA.nil)))
  (DB.one (DS.ret DE.bool)) DB.nil)
  (DB.one (DS.ite (DT.not (DE.test (DE.cl c L_law_numbers_right (by decide) rfl (DA.cons (DE.var 3) DA.nil) (aLen_cons aLen_nil))))
  (DB.one (DS.ret DE.bool)) DB.nil)))))
  (DB.cons (DS.set 5 (DE.op (opAdd4 c) (DE.op opPow DE.int DE.int) (DE.op opMod (DE.callB c cAbs T.n_abs (by decide +kernel) (DA.cons (DE.callB c (cSum c) T.n_sum (by decide +kernel) (DA.cons (DE.var 0) DA.nil)) DA.nil)) (DE.op opPow DE.int DE.int))) (fun _ => sc_law.nd))
  (DB.cons (DS.set 6 (DE.lst (DA.cons (DE.cl c L_is_whole (by decide) rfl (DA.cons (DE.var 5) DA.nil) (aLen_cons aLen_nil)) (DA.cons (DE.cl c L_is_whole (by decide) rfl (DA.cons (DE.op opSub DE.int (DE.var 5)) DA.nil) (aLen_cons aLen_nil)) (DA.cons (DE.cl c L_is_among (by decide) rfl (DA.cons (DE.var 5) (DA.cons DE.int (DA.cons (DE.var 5) DA.nil))) (aLen_cons (aLen_cons (aLen_cons aLen_nil)))) (DA.cons (DE.cl c L_is_among (by decide) rfl (DA.cons (DE.var 5) (DA.cons DE.int (DA.cons (DE.op opSub (DE.var 5) DE.int) DA.nil))) (aLen_cons (aLen_cons (aLen_cons aLen_nil)))) DA.nil))))) (fun _ => sc_law.nd))
  (DB.cons (DS.set 7 (DE.smeth (sJoin c) PySem.F.slot_str_join PySem.F.type_str_join DE.str (DE.op opMul2 (DE.lst (DA.cons DE.str DA.nil)) DE.int)) (fun _ => sc_law.nd))
  (DB.cons (DS.ite (DW.test (DW.or (DC.test (DC.op (opNe c) (DE.callB c (cReprX c) T.n_repr (by decide +kernel) (DA.cons (DE.var 6) DA.nil)) DE.str)) (DW.or (DC.test (DC.op (opNe c) (DE.cl c L_words_of (by decide) rfl (DA.cons (DE.var 7) DA.nil) (aLen_cons aLen_nil)) (DE.op opMul2 (DE.lst (DA.cons DE.str DA.nil)) DE.int))) (DW.or1 (DC.test (DC.op opNotN (DE.cl c L_words_of (by decide) rfl (DA.cons (DE.op (opAdd4 c) (DE.var 7) DE.str) DA.nil) (aLen_cons aLen_nil)) DE.non))))))
  (DB.one (DS.ret DE.bool)) DB.nil)
  (DB.cons (DS.set 8 (DE.lst (DA.cons (DE.gv c T.g_MOST_POINTS) (DA.cons (DE.gv c T.g_MOST_SAYINGS) (DA.cons (DE.gv c T.g_MOST_NUMBER) (DA.cons (DE.gv c T.g_MOST_RATIO) (DA.cons (DE.gv c T.g_MOST_PLACED) (DA.cons (DE.gv c T.g_MOST_UNDER) (DA.cons (DE.gv c T.g_MOST_RING) (DA.cons (DE.gv c T.g_MOST_SIDE) DA.nil))))))))) (fun _ => sc_law.nd))
  (DB.cons (DS.set 8 (DE.op (opAdd4 c) (DE.var 8) (DE.lst (DA.cons (DE.gv c T.g_MOST_HIGH) (DA.cons (DE.gv c T.g_MOST_FEATURES) (DA.cons (DE.gv c T.g_MOST_TOOLS) (DA.cons (DE.gv c T.g_MOST_TOOL) (DA.cons (DE.gv c T.g_MOST_LENGTH) (DA.cons (DE.gv c T.g_DEPTH) DA.nil)))))))) (fun _ => sc_law.nd))
  (DB.cons (DS.ite (DC.test (DC.op (opNe c) (DE.callB c (cReprX c) T.n_repr (by decide +kernel) (DA.cons (DE.var 8) DA.nil)) DE.str))
  (DB.one (DS.ret DE.bool)) DB.nil)
  (DB.one (DS.ret (DE.and (DC.val (DC.op opIsN (DE.cl c L_number_of (by decide) rfl (DA.cons (DE.op opMulS DE.str DE.int) DA.nil) (aLen_cons aLen_nil)) DE.non)) (DE.and (DC.val (DC.op opIsB (DE.cl c L_is_name (by decide) rfl (DA.cons (DE.op opMulS DE.str DE.int) DA.nil) (aLen_cons aLen_nil)) DE.bool)) (DE.one (DC.val (DC.op opIsN (DE.cl c L_signed_of (by decide) rfl (DA.cons (DE.op (opAdd4 c) DE.str (DE.op opMulS DE.str DE.int)) DA.nil) (aLen_cons aLen_nil)) DE.non)))))))))))))))
end
end Law

namespace Law
open PySem L2 Pl
/-- a fraction as a value -/
def R (q : Rat) : D := .tup [.int q.num, .int (q.den : Int)]
theorem dOk {t s : Int} (h : s ≠ 0) (hb : s.natAbs < 2 ^ 8000) : DivOk t s := divOk h hb (by decide) (by decide)
theorem fdiv_dvd {a s : Int} (h : s ∣ a) : a.fdiv s = a / s := by
  obtain ⟨c, rfl⟩ := h
  by_cases hs : s = 0
  · subst hs; simp
  · rw [Int.mul_fdiv_cancel_left _ hs, Int.mul_ediv_cancel_left _ hs]
end Law

namespace Law
open PySem L2 Pl
class Sz (k : outParam Nat) (q : Rat) : Prop where
  num : q.num.natAbs < 2 ^ (128 * k)
  den : q.den < 2 ^ (128 * k)
theorem ix0 {q : Rat} {M : Mh} : gIx (R q) (.int 0) M = some (.int q.num, M) := rfl
theorem ix1 {q : Rat} {M : Mh} : gIx (R q) (.int 1) M = some (.int (q.den : Int), M) := rfl
theorem mul_int {i j : Int} (h : MulOk i j) {M : Mh} : gMul (.int i) (.int j) M = some (.int (i * j), M) := if_pos h
theorem add_int {i j : Int} {M : Mh} : gAdd (.int i) (.int j) M = some (.int (i + j), M) := rfl
section
variable {a b c : Rat} {i j k : Nat}
theorem szd (h : Sz i a) : ((a.den : Nat) : Int).natAbs < 2 ^ (128 * i) := h.den
theorem mOk {x y : Int} (hx : x.natAbs < 2 ^ (128 * i)) (hy : y.natAbs < 2 ^ (128 * j)) (h : i + j ≤ 30) : MulOk x y := mulOk hx hy (by omega)
theorem mSz {x y : Nat} (hx : x < 2 ^ (128 * i)) (hy : y < 2 ^ (128 * j)) : x * y < 2 ^ (128 * (i + j)) := by
  rw [Nat.mul_add, Nat.pow_add]
  exact Nat.mul_lt_mul'' hx hy
theorem up1 {x : Nat} (h : x < 2 ^ (128 * i)) (hij : i ≤ j) : x < 2 ^ (128 * j) := Nat.lt_of_lt_of_le h (Nat.pow_le_pow_right (by decide) (by omega))
theorem up8 {x : Nat} (h : x < 2 ^ (128 * i)) (hij : i ≤ 60) : x < 2 ^ 8000 := Nat.lt_of_lt_of_le h (Nat.pow_le_pow_right (by decide) (by omega))
theorem den0 (a : Rat) : (a.den : Int) ≠ 0 := by have := a.den_pos; omega
theorem dd0 (a b : Rat) : (a.den : Int) * b.den ≠ 0 := Int.mul_ne_zero (den0 a) (den0 b)
theorem add_eq (a b : Rat) : Rat.divInt (a.num * b.den + b.num * a.den) (a.den * b.den) = a + b := by
  rw [← Rat.divInt_add_divInt _ _ (den0 a) (den0 b), Rat.num_divInt_den, Rat.num_divInt_den]
theorem sub_eq (a b : Rat) : Rat.divInt (a.num * b.den - b.num * a.den) (a.den * b.den) = a - b := by
  rw [← Rat.divInt_sub_divInt _ _ (den0 a) (den0 b), Rat.num_divInt_den, Rat.num_divInt_den]
theorem mul_eq (a b : Rat) : Rat.divInt (a.num * b.num) (a.den * b.den) = a * b := by
  rw [← Rat.divInt_mul_divInt, Rat.num_divInt_den, Rat.num_divInt_den]
theorem div_eq (a b : Rat) : Rat.divInt (a.num * b.den) (a.den * b.num) = a / b := by
  rw [← Rat.divInt_mul_divInt, Rat.num_divInt_den, Rat.div_def, Rat.inv_def]
theorem mean_eq (a b : Rat) : Rat.divInt (a.num * b.den + b.num * a.den) (2 * a.den * b.den) = (a + b) / 2 := by
  rw [Int.mul_assoc, ← Int.one_mul (a.num * b.den + b.num * a.den), ← Rat.divInt_mul_divInt, add_eq]
  have : Rat.divInt 1 2 = 1 / 2 := by decide +kernel
  rw [this]
  grind
theorem num_le {t b : Int} : (Rat.divInt t b).num.natAbs ≤ t.natAbs := by
  rw [Rat.num_divInt]
  refine Nat.le_trans (Int.natAbs_ediv_le_natAbs _ _) ?_
  rw [Int.natAbs_mul]
  have : b.sign.natAbs ≤ 1 := by
    rcases Int.lt_trichotomy b 0 with h | h | h
    · rw [Int.sign_eq_neg_one_of_neg h]; decide
    · rw [h]; decide
    · rw [Int.sign_eq_one_of_pos h]; decide
  exact Nat.le_trans (Nat.mul_le_mul_right _ this) (by omega)
theorem den_le {t b : Int} (h : b ≠ 0) : (Rat.divInt t b).den ≤ b.natAbs := by
  rw [Rat.den_divInt, if_neg h]
  exact Nat.div_le_self _ _
theorem sum_lt {x y : Int} (hx : x.natAbs < 2 ^ (128 * i)) (hy : y.natAbs < 2 ^ (128 * i)) : (x + y).natAbs < 2 ^ (128 * (i + 1)) := by
  have : 2 ^ (128 * (i + 1)) = 2 ^ (128 * i) * 2 ^ 128 := by rw [← Nat.pow_add]; congr 1
  have h2 : 2 ^ (128 * i) * 2 ≤ 2 ^ (128 * i) * 2 ^ 128 := Nat.mul_le_mul_left _ (by decide)
  have h3 := Int.natAbs_add_le x y
  omega
instance szAdd [ha : Sz i a] [hb : Sz j b] : Sz (i + j + 1) (a + b) where
  num := by
    rw [← add_eq]
    refine Nat.lt_of_le_of_lt num_le (sum_lt ?_ ?_)
    · rw [Int.natAbs_mul]; exact mSz ha.num hb.den
    · rw [Int.natAbs_mul, Nat.add_comm i j]; exact mSz hb.num ha.den
  den := by
    rw [← add_eq]
    refine Nat.lt_of_le_of_lt (den_le (dd0 a b)) (up1 (i := i + j) ?_ (by omega))
    rw [Int.natAbs_mul]; exact mSz ha.den hb.den
instance szSub [ha : Sz i a] [hb : Sz j b] : Sz (i + j + 1) (a - b) where
  num := by
    rw [← sub_eq, Int.sub_eq_add_neg]
    refine Nat.lt_of_le_of_lt num_le (sum_lt ?_ ?_)
    · rw [Int.natAbs_mul]; exact mSz ha.num hb.den
    · rw [Int.natAbs_neg, Int.natAbs_mul, Nat.add_comm i j]; exact mSz hb.num ha.den
  den := by
    rw [← sub_eq]
    refine Nat.lt_of_le_of_lt (den_le (dd0 a b)) (up1 (i := i + j) ?_ (by omega))
    rw [Int.natAbs_mul]; exact mSz ha.den hb.den
instance szMul [ha : Sz i a] [hb : Sz j b] : Sz (i + j) (a * b) where
  num := by
    rw [← mul_eq]
    refine Nat.lt_of_le_of_lt num_le ?_
    rw [Int.natAbs_mul]; exact mSz ha.num hb.num
  den := by
    rw [← mul_eq]
    refine Nat.lt_of_le_of_lt (den_le (dd0 a b)) ?_
    rw [Int.natAbs_mul]; exact mSz ha.den hb.den
instance sz0 : Sz 1 0 := ⟨by decide, by decide⟩
instance sz1 : Sz 1 1 := ⟨by decide, by decide⟩
instance sz2 : Sz 1 2 := ⟨by decide, by decide⟩
theorem two0 : (2 : Rat) ≠ 0 := by decide
instance szDiv [ha : Sz i a] [hb : Sz j b] : Sz (i + j) (a / b) where
  num := by
    rw [← div_eq]
    refine Nat.lt_of_le_of_lt num_le ?_
    rw [Int.natAbs_mul]; exact mSz ha.num hb.den
  den := by
    by_cases h : b = 0
    · rw [h, Rat.div_def, Rat.inv_zero, Rat.mul_zero]
      exact Nat.one_lt_two_pow_iff.mpr (by
        have h1 : i ≠ 0 := fun z => by subst z; have := ha.den; have := a.den_pos; omega
        omega)
    rw [← div_eq]
    refine Nat.lt_of_le_of_lt (den_le (Int.mul_ne_zero (den0 a) (fun z => h (Rat.num_eq_zero.mp z)))) ?_
    rw [Int.natAbs_mul]; exact mSz ha.den hb.num
theorem toP_R (q : Rat) : toP (R q) = some (.tuple [.int q.num, .int q.den]) := rfl
theorem eq_R (h : PyData → PyData → Bool) (p q : Rat) (M : Mh) : gEq h (R p) (R q) M = some (.bl (h (.tuple [.int p.num, .int p.den]) (.tuple [.int q.num, .int q.den])), M) := rfl
theorem eqv_R (p q : Rat) : PyData.eqv (.tuple [.int p.num, .int p.den]) (.tuple [.int q.num, .int q.den]) = decide (p = q) := by
  have e : PyData.eqv (.tuple [.int p.num, .int p.den]) (.tuple [.int q.num, .int q.den]) = ((p.num == q.num) && ((p.den : Int) == q.den)) := by
    simp [PyData.eqv, PyData.eqvAll]
  rw [e]
  by_cases h : p = q
  · subst h; simp
  · rw [decide_eq_false h]
    simp only [Bool.and_eq_false_iff, beq_eq_false_iff_ne]
    by_cases h1 : p.num = q.num
    · exact .inr fun h2 => h (Rat.ext h1 (by omega))
    · exact .inl h1
theorem ne_R (p q : Rat) (M : Mh) : gEq (fun p q => !PyData.eqv p q) (R p) (R q) M = some (.bl (!decide (p = q)), M) := by rw [eq_R, eqv_R]
theorem eq_R' (p q : Rat) (M : Mh) : gEq PyData.eqv (R p) (R q) M = some (.bl (decide (p = q)), M) := by rw [eq_R, eqv_R]
theorem eqv_int (i j : Int) : PyData.eqv (.int i) (.int j) = decide (i = j) := by
  by_cases h : i = j
  · subst h; simp [PyData.eqv]
  · rw [decide_eq_false h]; simp [PyData.eqv, h]
theorem eq_int (i j : Int) (M : Mh) : gEq PyData.eqv (.int i) (.int j) M = some (.bl (decide (i = j)), M) := by
  rw [← eqv_int]; rfl
theorem ne_int (i j : Int) (M : Mh) : gEq (fun p q => !PyData.eqv p q) (.int i) (.int j) M = some (.bl (!decide (i = j)), M) := by
  rw [← eqv_int]; rfl
theorem eq_bl (i j : Bool) (M : Mh) : gEq PyData.eqv (.bl i) (.bl j) M = some (.bl (i == j), M) := by
  cases i <;> cases j <;> rfl
theorem ne_bl (i j : Bool) (M : Mh) : gEq (fun p q => !PyData.eqv p q) (.bl i) (.bl j) M = some (.bl (!(i == j)), M) := by
  cases i <;> cases j <;> rfl
theorem r01 : D.tup [.int 0, .int 1] = R 0 := by simp [R]
theorem r11 : D.tup [.int 1, .int 1] = R 1 := by simp [R]
theorem r21 : D.tup [.int 2, .int 1] = R 2 := by simp [R]
/-- the told order -/
def cmpR (a b : Rat) : Int := if a < b then -1 else if b < a then 1 else 0
theorem kit_tt : kitB "tuple" "tuple" = some true := by decide +kernel
theorem kit_ii : kitB "int" "int" = some true := by decide +kernel
theorem kit_ib : kitB "int" "bool" = some false := by decide +kernel
theorem kit_ss : kitB "str" "str" = some true := by decide +kernel
end
end Law

namespace Law
open PySem L2 Pl
theorem x_tV {f : EF} {δ : Pl.Env} {M : Mh} : tV f δ M = (match f δ M with | some (.bl b, M1) => some (b, M1) | _ => none) := (fun h => h) (by unfold tV; rfl)
theorem x_eOp {g : O2} {fa fb : EF} {δ : Pl.Env} {M : Mh} : eOp g fa fb δ M = (match fa δ M with | some (a, M1) => (match fb δ M1 with | some (b, M2) => g a b M2 | none => none) | none => none) := (fun h => h) (by unfold eOp; rfl)
theorem x_eCall {F : Fn} {g : AF} {dds : List D} {δ : Pl.Env} {M : Mh} : eCall F g dds δ M = (match g δ M with | some (ds, M1) => F (ds ++ dds) M1 | none => none) := (fun h => h) (by unfold eCall; rfl)
theorem x_eCallK {F : Fn} {g gk : AF} {h : List D → List D → List D} {δ : Pl.Env} {M : Mh} : eCallK F g gk h δ M = (match g δ M with | some (ds, M1) => (match gk δ M1 with | some (zs, M2) => F (h ds zs) M2 | none => none) | none => none) := (fun h => h) (by unfold eCallK; rfl)
theorem x_aCons {f : EF} {g : AF} {δ : Pl.Env} {M : Mh} : aCons f g δ M = (match f δ M with | some (d, M1) => (match g δ M1 with | some (ds, M2) => some (d :: ds, M2) | none => none) | none => none) := (fun h => h) (by unfold aCons; rfl)
theorem x_aNil {δ : Pl.Env} {M : Mh} : aNil δ M = some ([], M) := (fun h => h) (by unfold aNil; rfl)
theorem x_eC {δ : Pl.Env} {M : Mh} {d : D} : eC d δ M = some (d, M) := (fun h => h) (by unfold eC; rfl)
theorem x_eVar {i : Nat} {δ : Pl.Env} {M : Mh} : eVar i δ M = (match δ[i]? with | some (some d) => some (d, M) | _ => none) := (fun h => h) (by unfold eVar; rfl)
theorem x_tNt {f : TF} {δ : Pl.Env} {M : Mh} : tNt f δ M = (match f δ M with | some (b, M1) => some (!b, M1) | none => none) := (fun h => h) (by unfold tNt; rfl)
theorem x_tAn {f g : TF} {δ : Pl.Env} {M : Mh} : tAn f g δ M = (match f δ M with | some (true, M1) => g δ M1 | some (false, M1) => some (false, M1) | none => none) := (fun h => h) (by unfold tAn; rfl)
theorem x_tOrr {f g : TF} {δ : Pl.Env} {M : Mh} : tOrr f g δ M = (match f δ M with | some (true, M1) => some (true, M1) | some (false, M1) => g δ M1 | none => none) := (fun h => h) (by unfold tOrr; rfl)
theorem x_eAn {f g : EF} {δ : Pl.Env} {M : Mh} : eAn f g δ M = (match f δ M with | some (.bl true, M1) => g δ M1 | some (.bl false, M1) => some (.bl false, M1) | _ => none) := (fun h => h) (by unfold eAn; rfl)
theorem x_eOr {f g : EF} {δ : Pl.Env} {M : Mh} : eOr f g δ M = (match f δ M with | some (.bl true, M1) => some (.bl true, M1) | some (.bl false, M1) => g δ M1 | _ => none) := (fun h => h) (by unfold eOr; rfl)
theorem x_eB {g : GL} {f : AF} {δ : Pl.Env} {M : Mh} : eB g f δ M = (match f δ M with | some (ds, M1) => g ds M1 | none => none) := (fun h => h) (by unfold eB; rfl)
theorem x_eTup {f : AF} {δ : Pl.Env} {M : Mh} {ds : List D} {M1 : Mh} (h : f δ M = some (ds, M1)) (hl : ds.length ≤ 1000) : eTup f δ M = some (.tup ds, M1) := by
  unfold eTup; rw [h]; exact if_pos (Nat.le_trans hl (by decide))
theorem x_eLst {f : AF} {δ : Pl.Env} {M : Mh} {ds : List D} {M1 : Mh} (h : f δ M = some (ds, M1)) (hl : ds.length ≤ 1000) : eLst f δ M = some (.lst ds, M1) := by
  unfold eLst; rw [h]; exact if_pos (Nat.le_trans hl (by decide))
theorem x_eNt {f : EF} {δ : Pl.Env} {M M1 : Mh} {b : Bool} (h : f δ M = some (.bl b, M1)) : eNt f δ M = some (.bl (!b), M1) := by
  unfold eNt; rw [h]
theorem seq_nx {f g : SF} {δ δ' : Pl.Env} {M M1 : Mh} {r : Option Out} (h : f δ M = some (.nx δ' M1)) (k : g δ' M1 = r) : sSeq f g δ M = r := by
  unfold sSeq; rw [h]; exact k
theorem seq_rt {f g : SF} {δ : Pl.Env} {M M1 : Mh} {d : D} (h : f δ M = some (.rt d M1)) : sSeq f g δ M = some (.rt d M1) := by
  unfold sSeq; rw [h]
theorem if_ff {t : TF} {f g : SF} {δ : Pl.Env} {M M1 : Mh} {r : Option Out} (h : t δ M = some (false, M1)) (k : g δ M1 = r) : sIf t f g δ M = r := by
  unfold sIf; rw [h]; exact k
theorem if_tt {t : TF} {f g : SF} {δ : Pl.Env} {M M1 : Mh} {r : Option Out} (h : t δ M = some (true, M1)) (k : f δ M1 = r) : sIf t f g δ M = r := by
  unfold sIf; rw [h]; exact k
theorem nil_of {δ : Pl.Env} {M : Mh} : sNil δ M = some (.nx δ M) := (fun h => h) (by unfold sNil; rfl)
theorem seq_if0 {t : TF} {f g : SF} {δ : Pl.Env} {M M1 : Mh} {r : Option Out} (h : t δ M = some (false, M1)) (k : g δ M1 = r) : sSeq (sIf t f sNil) g δ M = r :=
  seq_nx (if_ff h nil_of) k
theorem seq_if1 {t : TF} {f f2 g : SF} {δ : Pl.Env} {M M1 M2 : Mh} {d : D} (h : t δ M = some (true, M1)) (k : f δ M1 = some (.rt d M2)) : sSeq (sIf t f f2) g δ M = some (.rt d M2) :=
  seq_rt (if_tt h k)
theorem as_of {f : EF} {p : GF} {δ δ' : Pl.Env} {M M1 : Mh} {d : D} (h : f δ M = some (d, M1)) (hp : p d δ = some δ') : sAs f p δ M = some (.nx δ' M1) := by
  unfold sAs; rw [h]; dsimp only; rw [hp]
theorem seq_as {f : EF} {p : GF} {g : SF} {δ δ' : Pl.Env} {M M1 : Mh} {d : D} {r : Option Out} (h : f δ M = some (d, M1)) (hp : p d δ = some δ') (k : g δ' M1 = r) : sSeq (sAs f p) g δ M = r :=
  seq_nx (as_of h hp) k
theorem ret_of {f : EF} {δ : Pl.Env} {M M1 : Mh} {d : D} (h : f δ M = some (d, M1)) : sRet f δ M = some (.rt d M1) := by
  unfold sRet; rw [h]
theorem fn_rt {n : Nat} {g : SF} {ds : List D} {M M1 : Mh} {d : D} (h : g (startD n ds) M = some (.rt d M1)) : fnF n g ds M = some (d, M1) := by
  unfold fnF; rw [h]
theorem or0 {f g : TF} {δ : Pl.Env} {M M1 : Mh} {r : Option (Bool × Mh)} (h : f δ M = some (false, M1)) (k : g δ M1 = r) : tOrr f g δ M = r := by
  unfold tOrr; rw [h]; exact k
theorem or1 {f g : TF} {δ : Pl.Env} {M M1 : Mh} (h : f δ M = some (true, M1)) : tOrr f g δ M = some (true, M1) := by
  unfold tOrr; rw [h]
theorem an1 {f g : TF} {δ : Pl.Env} {M M1 : Mh} {r : Option (Bool × Mh)} (h : f δ M = some (true, M1)) (k : g δ M1 = r) : tAn f g δ M = r := by
  unfold tAn; rw [h]; exact k
theorem an0 {f g : TF} {δ : Pl.Env} {M M1 : Mh} (h : f δ M = some (false, M1)) : tAn f g δ M = some (false, M1) := by
  unfold tAn; rw [h]
theorem op_of {g : O2} {fa fb : EF} {δ : Pl.Env} {M M1 M2 : Mh} {a b : D} {r : Option (D × Mh)} (h1 : fa δ M = some (a, M1)) (h2 : fb δ M1 = some (b, M2)) (h3 : g a b M2 = r) : eOp g fa fb δ M = r := by
  unfold eOp; rw [h1]; dsimp only; rw [h2]; exact h3
theorem v_bl {f : EF} {δ : Pl.Env} {M M1 : Mh} {b : Bool} (h : f δ M = some (.bl b, M1)) : tV f δ M = some (b, M1) := by
  unfold tV; rw [h]
theorem nt_of {f : TF} {δ : Pl.Env} {M M1 : Mh} {b : Bool} (h : f δ M = some (b, M1)) : tNt f δ M = some (!b, M1) := by
  unfold tNt; rw [h]
theorem call_of {F : Fn} {g : AF} {dds ds : List D} {δ : Pl.Env} {M M1 : Mh} {r : Option (D × Mh)} (h : g δ M = some (ds, M1)) (k : F (ds ++ dds) M1 = r) : eCall F g dds δ M = r := by
  unfold eCall; rw [h]; exact k
theorem cons_of {f : EF} {g : AF} {δ : Pl.Env} {M M1 M2 : Mh} {d : D} {ds : List D} (h : f δ M = some (d, M1)) (k : g δ M1 = some (ds, M2)) : aCons f g δ M = some (d :: ds, M2) := by
  unfold aCons; rw [h]; dsimp only; rw [k]
theorem eq_nil (M : Mh) : gEq PyData.eqv (.lst []) (.lst []) M = some (.bl true, M) := by
  simp [gEq, toP, deref, toPs, PyData.eqv, PyData.eqvAll, SeqAt.shaped]
  decide +kernel
theorem tup01 {δ : Pl.Env} {M : Mh} : eTup (aCons (eC (.int 0)) (aCons (eC (.int 1)) aNil)) δ M = some (R 0, M) := by
  rw [← r01]; exact x_eTup (cons_of x_eC (cons_of x_eC x_aNil)) (by decide)
theorem tup11 {δ : Pl.Env} {M : Mh} : eTup (aCons (eC (.int 1)) (aCons (eC (.int 1)) aNil)) δ M = some (R 1, M) := by
  rw [← r11]; exact x_eTup (cons_of x_eC (cons_of x_eC x_aNil)) (by decide)
theorem tup21 {δ : Pl.Env} {M : Mh} : eTup (aCons (eC (.int 2)) (aCons (eC (.int 1)) aNil)) δ M = some (R 2, M) := by
  rw [← r21]; exact x_eTup (cons_of x_eC (cons_of x_eC x_aNil)) (by decide)
end Law

namespace Law
open PySem L2 Pl
section
variable {a b c : Rat}
end
end Law

namespace Law
open PySem L2 Pl
theorem c1 (a b : Rat) : cmpR a b = 0 - cmpR b a := by unfold cmpR; grind
theorem c2 (a b : Rat) : decide (cmpR a b = 0) = decide (a = b) := by unfold cmpR; grind
theorem c3 (a b c : Rat) : cmpR (a + c) (b + c) = cmpR a b := by unfold cmpR; grind
theorem c4 (a b : Rat) : cmpR (a - b) 0 = cmpR a b := by unfold cmpR; grind
theorem c5 (a b c : Rat) (h1 : ¬ c < 0) (h2 : c ≠ 0) : cmpR (a * c) (b * c) = cmpR a b := by
  have hc : 0 < c := by grind
  have e1 : (a * c < b * c) ↔ a < b := Rat.mul_lt_mul_right hc
  have e2 : (b * c < a * c) ↔ b < a := Rat.mul_lt_mul_right hc
  unfold cmpR
  simp only [e1, e2]
theorem c6 (a b : Rat) (h : a < b) : ¬ (a + b) / 2 < a ∧ ¬ b < (a + b) / 2 ∧ (a + b) / 2 ≠ a ∧ (a + b) / 2 ≠ b := by grind
theorem c7 (a : Rat) : ¬ a < (a.floor : Rat) ∧ a < (a.floor : Rat) + 1 := by
  refine ⟨?_, ?_⟩
  · have := Rat.floor_le (a := a); grind
  · have := Rat.lt_floor (x := a); grind
theorem intC_of {C : Int → Int → Prop} [∀ i j, Decidable (C i j)] {f : Int → Int → D} {i j : Int} {M : Mh} (h : C i j) : gIntC C f (.int i) (.int j) M = some (f i j, M) := if_pos h
theorem sWh_ff {c : TF} {b : SF} {δ : Pl.Env} {M M1 : Mh} (h : c δ M = some (false, M1)) : sWh c b δ M = some (.nx δ M1) := by
  rw [sWh_eq, h]
theorem sWh_tt {c : TF} {b : SF} {δ δ' : Pl.Env} {M M1 M2 : Mh} {r : Option Out} (h : c δ M = some (true, M1)) (k : b δ M1 = some (.nx δ' M2)) (q : sWh c b δ' M2 = r) : sWh c b δ M = r := by
  rw [sWh_eq, h]; dsimp only; rw [k]; exact q
section
variable {a b c : Rat} {i j : Nat}
end
end Law


namespace Law
open PySem L2 Pl
theorem in_two (p q r : Rat) (M : Mh) : gIn (fun b => b) (R p) (.tup [R q, R r]) M = some (.bl (decide (q = p) || decide (r = p)), M) := by
  have e : gIn (fun b => b) (R p) (.tup [R q, R r]) M = some (.bl ([PyData.tuple [.int q.num, .int q.den], PyData.tuple [.int r.num, .int r.den]].any fun z => PyData.eqv z (.tuple [.int p.num, .int p.den])), M) := rfl
  rw [e]
  simp only [List.any_cons, List.any_nil, eqv_R, Bool.or_false]
section
variable {a b c : Rat}
theorem szI {z : Int} (h : z.natAbs < 2 ^ 128) : Sz 1 (z : Rat) := ⟨by simpa using h, by simp⟩
theorem fl_sz [ha : Sz 1 a] : a.floor.natAbs < 2 ^ 128 := by
  rw [Rat.floor_def]
  exact Nat.lt_of_le_of_lt (Int.natAbs_ediv_le_natAbs _ _) ha.num
end
end Law

namespace Law
open PySem L2 Pl
/-- what draws are made by -/
def dk (l c t : Int) : MO := .dic [(.inr "left", .int l), (.inr "cell", .int c), (.inr "turns", .int t)]
theorem k1 : ¬ (("cell" : Str) = "left") := by decide +kernel
theorem k2 : ¬ (("turns" : Str) = "left") := by decide +kernel
theorem k3 : ¬ (("left" : Str) = "cell") := by decide +kernel
theorem k4 : ¬ (("turns" : Str) = "cell") := by decide +kernel
theorem k5 : ¬ (("left" : Str) = "turns") := by decide +kernel
theorem k6 : ¬ (("cell" : Str) = "turns") := by decide +kernel
section
variable {n : Nat} {l c t v : Int} {M : Mh}
theorem get_l (h : M[n]? = some (dk l c t)) : gDget (.ref n) (.str "left") M = some (.int l, M) := by
  simp [gDget, dicOf, h, dk, keyOf, Pl.dget]
theorem get_c (h : M[n]? = some (dk l c t)) : gDget (.ref n) (.str "cell") M = some (.int c, M) := by
  simp [gDget, dicOf, h, dk, keyOf, Pl.dget, List.find?, k3]
theorem get_t (h : M[n]? = some (dk l c t)) : gDget (.ref n) (.str "turns") M = some (.int t, M) := by
  simp [gDget, dicOf, h, dk, keyOf, Pl.dget, List.find?, k5, k6]
theorem put_l (h : M[n]? = some (dk l c t)) : gDput (.ref n) (.str "left") (.int v) M = some (M.set n (dk v c t)) := by
  simp [gDput, h, dk, keyOf, sizeLine, Pl.dput, k1, k2]
theorem put_t (h : M[n]? = some (dk l c t)) : gDput (.ref n) (.str "turns") (.int v) M = some (M.set n (dk l c v)) := by
  simp [gDput, h, dk, keyOf, sizeLine, Pl.dput, k5, k6]
theorem set_at {m m' : MO} (h : M[n]? = some m) : (M.set n m')[n]? = some m' := by
  have : n < M.length := (List.getElem?_eq_some_iff.mp h).1
  simp [this]
theorem put_of {f g h : EF} {δ : Pl.Env} {M1 M2 M3 M4 : Mh} {a b v : D} (h1 : h δ M = some (v, M1)) (h2 : f δ M1 = some (a, M2)) (h3 : g δ M2 = some (b, M3)) (h4 : gDput a b v M3 = some M4) : sDput f g h δ M = some (.nx δ M4) := by
  unfold sDput; rw [h1]; dsimp only; rw [h2]; dsimp only; rw [h3]; dsimp only; rw [h4]
theorem fm {a b : Int} (h : 0 < b) : 0 ≤ a.fmod b ∧ a.fmod b < b := ⟨Int.fmod_nonneg_of_pos _ h, Int.fmod_lt_of_pos _ h⟩
theorem mixed_ok {k : Int} (h0 : 0 ≤ k) (h1 : k < 2 ^ 60) : ∃ r : Int, ff_law_mixed [.int c, .int k] M = some (.int r, M) ∧ 0 ≤ r ∧ r < 2147483647 := by
  have hk := fm (a := k) (b := 4) (by decide)
  have ix : ∃ m : Int, gIx (.lst [.int 1000000007, .int 998244353, .int 2147483629, .int 1000000009]) (.int (k.fmod 4)) M = some (.int m, M) ∧ 0 < m ∧ m < 2 ^ 40 := by
    have : k.fmod 4 = 0 ∨ k.fmod 4 = 1 ∨ k.fmod 4 = 2 ∨ k.fmod 4 = 3 := by omega
    rcases this with e | e | e | e <;> rw [e]
    · exact ⟨1000000007, rfl, by decide, by decide⟩
    · exact ⟨998244353, rfl, by decide, by decide⟩
    · exact ⟨2147483629, rfl, by decide, by decide⟩
    · exact ⟨1000000009, rfl, by decide, by decide⟩
  obtain ⟨m, im, m0, m1⟩ := ix
  have hc := fm (a := c) m0
  have o1 : Pl.MulOk 7919 k := mulOk (a := 64) (b := 64) (by decide) (by omega) (by decide)
  have o2 : Pl.MulOk (c.fmod m + 7919 * k + 13) (c.fmod m + 7919 * k + 13) := mulOk (a := 100) (b := 100) (by omega) (by omega) (by decide)
  have h5 := fm (a := (c.fmod m + 7919 * k + 13) * (c.fmod m + 7919 * k + 13)) (b := 2147483647) (by decide)
  have o3 : Pl.MulOk (((c.fmod m + 7919 * k + 13) * (c.fmod m + 7919 * k + 13)).fmod 2147483647) 48271 := mulOk (a := 100) (b := 100) (by omega) (by decide) (by decide)
  have h6 := fm (a := ((c.fmod m + 7919 * k + 13) * (c.fmod m + 7919 * k + 13)).fmod 2147483647 * 48271) (b := 2147483647) (by decide)
  refine ⟨_, fn_rt ?_, h6.1, h6.2⟩
  show gg_law_mixed [some (.int c), some (.int k), none] M = _
  unfold gg_law_mixed
  refine seq_as (d := .int (c.fmod m + 7919 * k + 13)) (M1 := M) (δ' := [some (.int c), some (.int k), some (.int (c.fmod m + 7919 * k + 13))]) ?_ rfl ?_
  · exact op_of (op_of (op_of rfl (op_of (x_eLst (cons_of x_eC (cons_of x_eC (cons_of x_eC (cons_of x_eC x_aNil)))) (by simp)) (op_of rfl rfl (intC_of (by decide))) im) (intC_of (by omega))) (op_of rfl rfl (mul_int o1)) add_int) rfl add_int
  · exact ret_of (op_of (op_of (op_of (op_of rfl rfl (mul_int o2)) rfl (intC_of (by decide))) rfl (mul_int o3)) rfl (intC_of (by decide)))
/-- the draws' things stand there -/
def At (n : Nat) (B : Int) (M : Mh) : Prop := ∃ l c t : Int, M[n]? = some (dk l c t) ∧ 0 ≤ l ∧ 0 ≤ t ∧ t ≤ B
theorem fill_ok {t : Int} (h : M[n]? = some (dk 0 c t)) (h0 : 0 ≤ t) (h1 : t + 4 < 2 ^ 59) (x y z : Option D) : ∃ l' : Int, sFor (aRng1 (aCons (eC (.int 4)) aNil)) (gN 2) (sSeq (sDput (eVar 0) (eC (.str "turns")) (eOp gAdd (eOp gDget (eVar 0) (eC (.str "turns"))) (eC (.int 1)))) (sDput (eVar 0) (eC (.str "left")) (eOp gAdd (eOp gMul (eOp gDget (eVar 0) (eC (.str "left"))) (eC (.int 2147483647))) (eCall ff_law_mixed (aCons (eOp gDget (eVar 0) (eC (.str "cell"))) (aCons (eOp gDget (eVar 0) (eC (.str "turns"))) aNil)) [])))) [some (.ref n), x, y, z] M = some (.nx [some (.ref n), x, some (.int 3), z] (M.set n (dk l' c (t + 4)))) ∧ 0 ≤ l' := by
  have step : ∀ (l t : Int) (N : Mh) (y : Option D), N[n]? = some (dk l c t) → 0 ≤ t → t + 1 < 2 ^ 60 → 0 ≤ l → l < 2 ^ 200 → ∃ l' : Int, sSeq (sDput (eVar 0) (eC (.str "turns")) (eOp gAdd (eOp gDget (eVar 0) (eC (.str "turns"))) (eC (.int 1)))) (sDput (eVar 0) (eC (.str "left")) (eOp gAdd (eOp gMul (eOp gDget (eVar 0) (eC (.str "left"))) (eC (.int 2147483647))) (eCall ff_law_mixed (aCons (eOp gDget (eVar 0) (eC (.str "cell"))) (aCons (eOp gDget (eVar 0) (eC (.str "turns"))) aNil)) []))) [some (.ref n), x, y, z] N = some (.nx [some (.ref n), x, y, z] (N.set n (dk l' c (t + 1)))) ∧ 0 ≤ l' ∧ l' < l * 2147483647 + 2147483647 := fun l t N y hN t0 t1 l0 l1 => by
    have hN1 : (N.set n (dk l c (t + 1)))[n]? = some (dk l c (t + 1)) := set_at hN
    obtain ⟨r, hr, r0, r1⟩ := mixed_ok (c := c) (M := N.set n (dk l c (t + 1))) (k := t + 1) (by omega) (by omega)
    refine ⟨l * 2147483647 + r, ?_, by omega, by omega⟩
    have o : Pl.MulOk l 2147483647 := mulOk (a := 200) (b := 32) (by omega) (by decide) (by decide)
    have e2 : (N.set n (dk l c (t + 1))).set n (dk (l * 2147483647 + r) c (t + 1)) = N.set n (dk (l * 2147483647 + r) c (t + 1)) := List.set_set ..
    rw [← e2]
    exact seq_nx (put_of (op_of (op_of rfl rfl (get_t hN)) rfl add_int) rfl rfl (put_t hN)) (put_of (op_of (op_of (op_of rfl rfl (get_l hN1)) rfl (mul_int o)) (call_of (cons_of (op_of rfl rfl (get_c hN1)) (cons_of (op_of rfl rfl (get_t hN1)) x_aNil)) hr) add_int) rfl rfl (put_l hN1))
  obtain ⟨l1, s1, a1, b1⟩ := step 0 t M (some (.int 0)) h h0 (by omega) (by decide) (by decide)
  obtain ⟨l2, s2, a2, b2⟩ := step l1 (t + 1) _ (some (.int 1)) (set_at h) (by omega) (by omega) a1 (by omega)
  obtain ⟨l3, s3, a3, b3⟩ := step l2 (t + 1 + 1) _ (some (.int 2)) (set_at (set_at h)) (by omega) (by omega) a2 (by omega)
  obtain ⟨l4, s4, a4, b4⟩ := step l3 (t + 1 + 1 + 1) _ (some (.int 3)) (set_at (set_at (set_at h))) (by omega) (by omega) a3 (by omega)
  refine ⟨l4, ?_, a4⟩
  have er : aRng1 (aCons (eC (.int 4)) aNil) [some (.ref n), x, y, z] M = some ([.int 0, .int 1, .int 2, .int 3], M) := rfl
  unfold sFor
  rw [er]
  dsimp only [forGo, gN, List.set_cons_succ, List.set_cons_zero]
  rw [s1]
  dsimp only [forGo, gN, List.set_cons_succ, List.set_cons_zero]
  rw [s2]
  dsimp only [forGo, gN, List.set_cons_succ, List.set_cons_zero]
  rw [s3]
  dsimp only [forGo, gN, List.set_cons_succ, List.set_cons_zero]
  rw [s4]
  dsimp only [forGo]
  simp only [List.set_set]
  rw [show t + 1 + 1 + 1 + 1 = t + 4 by omega]
theorem digit_ok {B many : Int} (h : At n B M) (hB : B < 2 ^ 58) (m0 : 0 < many) (m1 : many < 2 ^ 200) : ∃ (f : Int) (M' : Mh), ff_law_digit [.ref n, .int many] M = some (.int f, M') ∧ At n (B + 4) M' ∧ 0 ≤ f ∧ f < many := by
  obtain ⟨l, c, t, hM, l0, t0, tB⟩ := h
  have om : DivOk l many := dOk (by omega) (Nat.lt_of_lt_of_le (m := 2 ^ 200) (by omega) (Nat.pow_le_pow_right (by decide) (by decide)))
  have tail : ∀ (l t : Int) (N : Mh) (x : Option D), N[n]? = some (dk l c t) → 0 ≤ l → 0 ≤ t → t ≤ B + 4 → ∃ (f : Int) (M' : Mh), sSeq (sAs (eOp (gIntC (fun _ j => j ≠ 0) fun i j => .int (i.fmod j)) (eOp gDget (eVar 0) (eC (.str "left"))) (eVar 1)) (gN 3)) (sSeq (sDput (eVar 0) (eC (.str "left")) (eOp (gIntC DivOk fun i j => .int (i.fdiv j)) (eOp gDget (eVar 0) (eC (.str "left"))) (eVar 1))) (sRet (eVar 3))) [some (.ref n), some (.int many), x, none] N = some (.rt (.int f) M') ∧ At n (B + 4) M' ∧ 0 ≤ f ∧ f < many := fun l t N x hN l0 t0 tB => by
    have om : DivOk l many := ⟨om.1, om.2⟩
    have hf := fm (a := l) m0
    refine ⟨l.fmod many, N.set n (dk (l.fdiv many) c t), ?_, ⟨l.fdiv many, c, t, set_at hN, ?_, t0, tB⟩, hf.1, hf.2⟩
    · exact seq_as (M1 := N) (δ' := [some (.ref n), some (.int many), x, some (.int (l.fmod many))]) (op_of (op_of rfl rfl (get_l hN)) rfl (intC_of (by omega))) rfl (seq_nx (put_of (op_of (op_of rfl rfl (get_l hN)) rfl (intC_of om)) rfl rfl (put_l hN)) (ret_of rfl))
    · exact Int.fdiv_nonneg l0 (by omega)
  have tst : tV (eOp (gEq PyData.eqv) (eOp gDget (eVar 0) (eC (.str "left"))) (eC (.int 0))) [some (.ref n), some (.int many), none, none] M = some (decide (l = 0), M) := v_bl (op_of (op_of rfl rfl (get_l hM)) rfl (eq_int _ _ _))
  by_cases hl : l = 0
  · subst hl
    obtain ⟨l', e1, p1⟩ := fill_ok hM t0 (by omega) (some (.int many)) none none
    obtain ⟨f, M', e2, p2⟩ := tail l' (t + 4) _ (some (.int 3)) (set_at hM) p1 (by omega) (by omega)
    refine ⟨f, M', fn_rt ?_, p2⟩
    show gg_law_digit [some (.ref n), some (.int many), none, none] M = _
    unfold gg_law_digit
    exact seq_nx (if_tt (tst.trans (by rw [decide_eq_true rfl])) e1) e2
  · obtain ⟨f, M', e2, p2⟩ := tail l t M none hM l0 t0 (by omega)
    refine ⟨f, M', fn_rt ?_, p2⟩
    show gg_law_digit [some (.ref n), some (.int many), none, none] M = _
    unfold gg_law_digit
    exact seq_if0 (tst.trans (by rw [decide_eq_false hl])) e2
end
end Law

namespace Law
open PySem L2 Pl
theorem par_of {i j : Nat} {f g : EF} {δ : Pl.Env} {M M1 M2 : Mh} {d e : D} (h1 : f δ M = some (d, M1)) (h2 : g δ M1 = some (e, M2)) : sPar i j f g δ M = some (.nx ((δ.set i (some d)).set j (some e)) M2) := by
  unfold sPar; rw [h1]; dsimp only; rw [h2]
theorem euclid (p q : Option D) (M : Mh) : ∀ (Y X : Nat), sWh (tV (eOp (gInt fun i j => .bl (decide (j < i))) (eVar 3) (eC (.int 0)))) (sPar 2 3 (eVar 3) (eOp (gIntC (fun _ j => j ≠ 0) fun i j => .int (i.fmod j)) (eVar 2) (eVar 3))) [p, q, some (.int X), some (.int Y)] M = some (.nx [p, q, some (.int (Nat.gcd X Y : Nat)), some (.int 0)] M) := by
  intro Y
  induction Y using Nat.strongRecOn with
  | ind Y ih =>
    intro X
    have tst : tV (eOp (gInt fun i j => .bl (decide (j < i))) (eVar 3) (eC (.int 0))) [p, q, some (.int X), some (.int Y)] M = some (decide ((0 : Int) < Y), M) := v_bl (op_of rfl rfl rfl)
    by_cases hy : Y = 0
    · subst hy
      rw [Nat.gcd_zero_right]
      exact sWh_ff (tst.trans (by rw [decide_eq_false (by omega)]))
    · have e : ((X : Int).fmod (Y : Int)) = ((X % Y : Nat) : Int) := by
        rw [Int.fmod_eq_emod_of_nonneg _ (by omega)]; rfl
      have r := ih (X % Y) (Nat.mod_lt _ (by omega)) Y
      rw [show Nat.gcd X Y = Nat.gcd Y (X % Y) by rw [Nat.gcd_comm X Y, Nat.gcd_rec, Nat.gcd_comm]]
      refine sWh_tt (M1 := M) (M2 := M) (δ' := [p, q, some (.int Y), some (.int (X % Y : Nat))]) (tst.trans (by rw [decide_eq_true (by omega)])) ?_ r
      rw [← e]
      exact par_of rfl (op_of rfl rfl (intC_of (by omega)))
theorem szD {t b : Int} (h : 0 < b) (ht : t.natAbs < 2 ^ 128) (hb : b.natAbs < 2 ^ 128) : Sz 1 (Rat.divInt t b) :=
  ⟨Nat.lt_of_le_of_lt num_le ht, Nat.lt_of_le_of_lt (den_le (by omega)) hb⟩
section
variable {n : Nat} {M : Mh}
theorem dg_of {B many : Int} {δ : Pl.Env} {fm : EF} {M1 : Mh} (h0 : δ[0]? = some (some (.ref n))) (hm : fm δ M = some (.int many, M1)) (h : At n B M1) (hB : B < 2 ^ 58) (m0 : 0 < many) (m1 : many < 2 ^ 200) : ∃ (f : Int) (M' : Mh), eCall ff_law_digit (aCons (eVar 0) (aCons fm aNil)) [] δ M = some (.int f, M') ∧ At n (B + 4) M' ∧ 0 ≤ f ∧ f < many := by
  obtain ⟨f, M', e, p⟩ := digit_ok h hB m0 m1
  exact ⟨f, M', call_of (cons_of (by rw [x_eVar, h0]) (cons_of hm x_aNil)) e, p⟩
theorem draw_ok {cell : Int} {k : Int} (k0 : 0 ≤ k) (k1 : k ≤ 1000) : ∃ M', ff_law_draw [.int cell, .int k] M = some (.ref M.length, M') ∧ At M.length 1000000 M' := by
  have o : Pl.MulOk 1000 k := mulOk (a := 64) (b := 64) (by decide) (by omega) (by decide)
  have p18 : eOp (gIntC PowOk fun i j => .int (i ^ j.toNat)) (eC (.int 10)) (eC (.int 18)) [some (.int cell), some (.int k)] M = some (.int (10 ^ 18), M) := op_of rfl rfl (intC_of (by decide))
  have lf : ∃ l : Int, 0 ≤ l ∧ eIf (tV (eOp (gInt fun i j => .bl (decide (j ≤ i))) (eVar 0) (eOp (gIntC PowOk fun i j => .int (i ^ j.toNat)) (eC (.int 10)) (eC (.int 18))))) (eVar 0) (eC (.int 0)) [some (.int cell), some (.int k)] M = some (.int l, M) := by
    have tst : tV (eOp (gInt fun i j => .bl (decide (j ≤ i))) (eVar 0) (eOp (gIntC PowOk fun i j => .int (i ^ j.toNat)) (eC (.int 10)) (eC (.int 18)))) [some (.int cell), some (.int k)] M = some (decide (10 ^ 18 ≤ cell), M) := v_bl (op_of rfl p18 rfl)
    by_cases hc : (10 ^ 18 : Int) ≤ cell
    · refine ⟨cell, by omega, ?_⟩
      unfold eIf
      rw [tst, decide_eq_true hc]; rfl
    · refine ⟨0, by omega, ?_⟩
      unfold eIf
      rw [tst, decide_eq_false hc]; rfl
  obtain ⟨l, l0, el⟩ := lf
  refine ⟨M ++ [dk l cell (1000 * k)], fn_rt ?_, ⟨l, cell, 1000 * k, by simp, l0, by omega, by omega⟩⟩
  show gg_law_draw [some (.int cell), some (.int k)] M = _
  unfold gg_law_draw
  refine ret_of ?_
  have pc : ∀ {f g : EF} {h : Pl.Env → Mh → Option (List (Key × D) × Mh)} {δ : Pl.Env} {a v : D} {q : Key} {r : List (Key × D)}, f δ M = some (a, M) → g δ M = some (v, M) → keyOf a = some q → h δ M = some (r, M) → psCons f g h δ M = some ((q, v) :: r, M) := fun h1 h2 h3 h4 => by
    unfold psCons; rw [h1]; dsimp only; rw [h2]; dsimp only; rw [h3]; dsimp only; rw [h4]
  have e := pc (f := eC (.str "left")) rfl el rfl (pc (f := eC (.str "cell")) (g := eVar 0) rfl rfl rfl (pc (f := eC (.str "turns")) (g := eOp gMul (eC (.int 1000)) (eVar 1)) rfl (op_of rfl rfl (mul_int o)) rfl (h := psNil) rfl))
  unfold eDic
  rw [e]
  have dm : dmerge [(.inr "left", .int l), (.inr "cell", .int cell), (.inr "turns", .int (1000 * k))] = [((.inr "left" : Key), D.int l), (.inr "cell", .int cell), (.inr "turns", .int (1000 * k))] := by
    simp [dmerge, Pl.dput, k3, k5, k6]
  show (if _ then some (D.ref M.length, M ++ [MO.dic (dmerge _)]) else none) = _
  rw [dm]
  rfl
end
end Law

namespace Law
open PySem L2 Pl
/-- a number's text -/
abbrev TT (z : Int) : Str := Str.ofString (toString z)
theorem tl_TT (z : Int) : TL.tl (TT z) = if z < 0 then 45 :: TL.numL z.natAbs else TL.numL z.natAbs := by
  cases z with
  | ofNat n =>
    rw [if_neg (by simp)]
    exact TL.tl_num n
  | negSucc n =>
    rw [if_pos (Int.negSucc_lt_zero n)]
    have e : toString (Int.negSucc n) = "-" ++ toString ((n + 1 : Nat) : Int) := rfl
    have e2 : (Int.negSucc n).natAbs = n + 1 := rfl
    rw [TT, e, TL.tl_ofString, String.toList_append, List.map_append, ← TL.tl_ofString (toString ((n + 1 : Nat) : Int)), TL.tl_num, e2]
    rfl
theorem numL_bnd : ∀ (k n : Nat), 0 < k → (TL.numL n).length ≤ k → n < 10 ^ k
  | 0, _, h, _ => absurd h (by decide)
  | k + 1, n, _, h => by
    by_cases hn : n < 10
    · exact Nat.lt_of_lt_of_le hn (by rw [Nat.pow_succ]; have := Nat.pow_pos (a := 10) (n := k) (by decide); omega)
    · rw [TL.numL_step (by omega), List.length_append, List.length_singleton] at h
      have h1 : 0 < (TL.numL (n / 10)).length := List.length_pos_iff.mpr (TL.numL_ne _)
      have := numL_bnd k (n / 10) (by omega) (by omega)
      rw [Nat.pow_succ]
      omega
theorem numL_head0 {r : List Nat} (n : Nat) (h : TL.numL n = 48 :: r) : n = 0 := by
  induction n using Nat.strongRecOn generalizing r with
  | ind n ih =>
    by_cases hn : n < 10
    · rw [TL.numL_lt hn] at h
      have := (List.cons.inj h).1
      omega
    · rw [TL.numL_step (by omega)] at h
      cases hq : TL.numL (n / 10) with
      | nil => exact absurd hq (TL.numL_ne _)
      | cons c q =>
        rw [hq] at h
        have e : c = 48 := (List.cons.inj h).1
        subst e
        have := ih (n / 10) (by omega) hq
        omega
theorem figs : ∀ c : Nat, 48 ≤ c → c ≤ 57 → decide (c ∈ ("0123456789" : Str).cps.toList) = true := fun c h1 h2 => by
  have e : ("0123456789" : Str).cps.toList = [48, 49, 50, 51, 52, 53, 54, 55, 56, 57] := by decide +kernel
  rw [e, decide_eq_true_eq]
  simp only [List.mem_cons, List.not_mem_nil, or_false]
  omega
theorem signs_go (M : Mh) (a c z : Option D) : ∀ cs : List Nat, (∀ s ∈ cs, 48 ≤ s ∧ s ≤ 57) → lcGo (gN 3) tTrue (eOp (gIn fun b => b) (eVar 3) (eVar 1)) (cs.map fun s => .str ⟨#[s]⟩) [a, some (.str "0123456789"), c, z] M = some (cs.map fun _ => .bl true, M)
  | [], _ => rfl
  | s :: cs, h => by
    have e : eOp (gIn fun b => b) (eVar 3) (eVar 1) [a, some (.str "0123456789"), c, some (.str ⟨#[s]⟩)] M = some (.bl true, M) := op_of rfl rfl (by
      show some (D.bl (decide (s ∈ ("0123456789" : Str).cps.toList)), M) = _
      rw [figs s (h s List.mem_cons_self).1 (h s List.mem_cons_self).2])
    rw [List.map_cons]
    unfold lcGo
    dsimp only [gN, List.set_cons_succ, List.set_cons_zero, tTrue]
    rw [e]
    dsimp only
    rw [signs_go M a c z cs fun q hq => h q (List.mem_cons_of_mem _ hq)]
    rfl
theorem bs_true : ∀ cs : List Nat, bsOf (cs.map fun _ => D.bl true) = some (cs.map fun _ => true)
  | [] => rfl
  | _ :: cs => by rw [List.map_cons, bsOf, bs_true cs]; rfl
theorem str_len (x : Str) : x.length = (TL.tl x).length := TL.len_tl x
theorem len_of {δ : Pl.Env} {M M1 : Mh} {f : EF} {x : Str} (h : f δ M = some (.str x, M1)) (hx : x.length ≤ 1000) : eB gLen (aCons f aNil) δ M = some (.int x.length, M1) := by
  rw [x_eB, cons_of h x_aNil]
  simp [gLen, lenOf]
  try exact Nat.le_trans hx (by decide)
theorem text_ok {x : Str} {M : Mh} (h1 : 1 ≤ x.length) (h4 : x.length ≤ 4) (hd : ∀ s ∈ TL.tl x, 48 ≤ s ∧ s ≤ 57) : ff_is_text_of [.str x, .str "0123456789", .int 4] M = some (.bl true, M) := by
  refine fn_rt ?_
  show gg_is_text_of [some (.str x), some (.str "0123456789"), some (.int 4), none] M = _
  unfold gg_is_text_of
  refine seq_if0 (M1 := M) (or0 (M1 := M) ?_ ?_) (ret_of ?_)
  · refine nt_of (b := true) (v_bl ?_)
    simp [x_eB, x_aCons, x_eVar, x_eC, x_aNil, gIsi, tyN, kit_ss]
  · refine nt_of (b := true) (v_bl ?_)
    unfold eChain
    rw [x_eC]
    dsimp only
    rw [len_of (f := eVar 0) rfl (by omega)]
    have b1 : decide ((1 : Int) ≤ x.length) = true := by simp; omega
    have b2 : decide ((x.length : Int) ≤ 4) = true := by simp; omega
    simp only [gInt, x_eVar, b1, b2, List.getElem?_cons_zero, List.getElem?_cons_succ]
  · have lc : eLc [3] (aSigns (eVar 0)) (gN 3) tTrue (eOp (gIn fun b => b) (eVar 3) (eVar 1)) [some (.str x), some (.str "0123456789"), some (.int 4), none] M = some (.lst ((TL.tl x).map fun _ => .bl true), M) := by
      unfold eLc
      have e : aSigns (eVar 0) [some (.str x), some (.str "0123456789"), some (.int 4), none] M = some ((TL.tl x).map fun s => .str ⟨#[s]⟩, M) := rfl
      rw [e]
      dsimp only [wipeD, List.set_cons_succ, List.set_cons_zero]
      rw [signs_go M _ _ _ _ hd]
      dsimp only
      rw [if_pos (by rw [List.length_map, ← str_len]; exact Nat.le_trans h4 (by decide))]
    rw [x_eB, cons_of lc x_aNil]
    simp [gBs, lstOf, bs_true]
theorem strOk_of {x : Str} (h : ∀ s ∈ TL.tl x, s < 1114112) : PyData.strOk x = true := by
  unfold PyData.strOk
  rw [Array.all_eq_true']
  intro c hc
  exact decide_eq_true (h c (by simpa using hc))
theorem eqv_str (x y : Str) : PyData.eqv (.str x) (.str y) = decide (x = y) := by
  by_cases h : x = y
  · subst h; simp [PyData.eqv]
  · rw [decide_eq_false h]; simp [PyData.eqv, h]
theorem str_sh {x : Str} (h : PyData.strOk x = true) : SeqAt.shaped (.str x) = true := by
  simp [SeqAt.shaped, PyData.canLay0, PyData.depth, h]
theorem eq_str {x y : Str} (hx : PyData.strOk x = true) (hy : PyData.strOk y = true) (M : Mh) : gEq PyData.eqv (.str x) (.str y) M = some (.bl (decide (x = y)), M) := by
  simp only [gEq, toP, deref, str_sh hx, str_sh hy, Bool.and_self, if_true, eqv_str]
theorem ne_str {x y : Str} (hx : PyData.strOk x = true) (hy : PyData.strOk y = true) (M : Mh) : gEq (fun p q => !PyData.eqv p q) (.str x) (.str y) M = some (.bl (!decide (x = y)), M) := by
  simp only [gEq, toP, deref, str_sh hx, str_sh hy, Bool.and_self, if_true, eqv_str]
theorem num_len {n : Nat} (h : n < 10000) : 1 ≤ (TT n).length ∧ (TT n).length ≤ 4 := by
  rw [str_len, TL.tl_num]
  exact ⟨List.length_pos_iff.mpr (TL.numL_ne _), TL.numL_len (by decide) h⟩
theorem number_ok {n : Nat} {M : Mh} (h : n < 10000) : ff_number_of [.str (TT n)] M = some (.int n, M) := by
  have l := num_len h
  have hd : ∀ s ∈ TL.tl (TT n), 48 ≤ s ∧ s ≤ 57 := by rw [TL.tl_num]; exact TL.numL_digits n
  refine fn_rt ?_
  show gg_number_of [some (.str (TT n))] M = _
  unfold gg_number_of
  refine seq_if0 (M1 := M) (nt_of (b := true) (v_bl (call_of (cons_of rfl (cons_of rfl (cons_of rfl x_aNil))) (text_ok l.1 l.2 hd)))) ?_
  have tn := TL.tl_num n
  refine seq_if0 (M1 := M) ?_ (ret_of ?_)
  · cases hq : TL.numL n with
    | nil => exact absurd hq (TL.numL_ne _)
    | cons c q =>
      have ix : gIx (.str (TT n)) (.int 0) M = some (.str ⟨#[c]⟩, M) := by
        have e : L2.atI (TT n).cps.toList 0 = some c := by
          show L2.atI (TL.tl (TT n)) 0 = some c
          rw [tn, hq]; simp [L2.atI, L2.ixN]
        show (if (TT n).length ≤ sizeLine then (L2.atI (TT n).cps.toList 0).map fun c => (D.str ⟨#[c]⟩, M) else none) = _
        rw [if_pos (Nat.le_trans l.2 (by decide)), e]; rfl
      have t1 : tV (eOp (gEq PyData.eqv) (eOp gIx (eVar 0) (eC (.int 0))) (eC (.str "0"))) [some (.str (TT n))] M = some (decide ((⟨#[c]⟩ : Str) = "0"), M) := v_bl (op_of (op_of rfl rfl ix) rfl (eq_str (strOk_of fun s hs => by have := hd s (by rw [tn, hq]; have := List.mem_singleton.mp hs; rw [this]; exact List.mem_cons_self); omega) (by decide +kernel) _))
      by_cases hc : (⟨#[c]⟩ : Str) = "0"
      · refine an1 (M1 := M) (t1.trans (by rw [decide_eq_true hc])) ?_
        have hc2 : c = 48 := by
          have := congrArg (fun x : Str => x.cps.toList) hc
          have e0 : ("0" : Str).cps.toList = [48] := by decide +kernel
          dsimp only at this
          rw [e0] at this
          exact (List.cons.inj this).1
        subst hc2
        have n0 := numL_head0 n hq
        subst n0
        exact v_bl (op_of rfl rfl ((ne_str (by decide +kernel) (by decide +kernel) _).trans (by rw [decide_eq_true (by decide +kernel)]; rfl)))
      · exact an0 (t1.trans (by rw [decide_eq_false hc]))
  · rw [x_eB, cons_of (d := .str (TT n)) (M1 := M) rfl x_aNil]
    have e : PySem.intText? (TT n) = some (n : Int) := TL.int_num (by rw [← tn, ← str_len]; exact Nat.le_trans l.2 (by decide))
    simp only [gInt1, e]
    rw [if_pos (by omega)]
end Law

namespace Law
open PySem L2 Pl
theorem tl_cutS (x : Str) (lo hi : Option Int) : TL.tl (L2.cutS x lo hi) = (List.drop (HT.sIx x.length 0 lo) (TL.tl x)).take (HT.sIx x.length x.length hi - HT.sIx x.length 0 lo) := by
  unfold L2.cutS
  rw [TL.tl_mk]
theorem TT_ok (z : Int) : ∀ s ∈ TL.tl (TT z), s < 1114112 := fun s hs => by
  rw [tl_TT] at hs
  have hd := TL.numL_digits z.natAbs
  by_cases h : z < 0
  · rw [if_pos h] at hs
    rcases List.mem_cons.mp hs with e | e
    · omega
    · have := hd s e; omega
  · rw [if_neg h] at hs
    have := hd s hs; omega
theorem isstr_ok {x : Str} {M : Mh} {e : EF} {δ : Pl.Env} (h : e δ M = some (.str x, M)) : tV (eB gIsi (aCons e (aCons (eC (.ty "str")) aNil))) δ M = some (true, M) := by
  refine v_bl ?_
  rw [x_eB, cons_of h (cons_of x_eC x_aNil)]
  simp [gIsi, tyN, kit_ss]
theorem sl_hi {x : Str} {i : Int} {f : EF} {δ : Pl.Env} {M : Mh} (hx : x.length ≤ 1000) (h : f δ M = some (.str x, M)) : eSl f pNone (pSome (eC (.int i))) δ M = some (.str (L2.cutS x none (some i)), M) := by
  have p1 : pNone δ M = some (none, M) := rfl
  have p2 : pSome (eC (.int i)) δ M = some (some i, M) := rfl
  unfold eSl
  rw [h]
  dsimp only
  rw [p1]
  dsimp only
  rw [p2]
  exact if_pos (Nat.le_trans hx (by decide))
theorem sl_lo {x : Str} {i : Int} {f : EF} {δ : Pl.Env} {M : Mh} (hx : x.length ≤ 1000) (h : f δ M = some (.str x, M)) : eSl f (pSome (eC (.int i))) pNone δ M = some (.str (L2.cutS x (some i) none), M) := by
  have p1 : pNone δ M = some (none, M) := rfl
  have p2 : pSome (eC (.int i)) δ M = some (some i, M) := rfl
  unfold eSl
  rw [h]
  dsimp only
  rw [p2]
  dsimp only
  rw [p1]
  exact if_pos (Nat.le_trans hx (by decide))
theorem signed_ok {z : Int} {M : Mh} (h : z.natAbs < 10000) : ff_signed_of [.str (TT z)] M = some (.int z, M) := by
  have t := tl_TT z
  have hl : (TT z).length ≤ 5 := by
    rw [str_len, t]
    have := TL.numL_len (k := 4) (by decide) h
    split
    · rw [List.length_cons]; omega
    · omega
  have h0 : 1 ≤ (TT z).length := by
    rw [str_len, t]
    have := List.length_pos_iff.mpr (TL.numL_ne z.natAbs)
    split
    · rw [List.length_cons]; omega
    · omega
  refine fn_rt ?_
  show gg_signed_of [some (.str (TT z)), none] M = _
  unfold gg_signed_of
  have sl : eSl (eVar 0) pNone (pSome (eC (.int 1))) [some (.str (TT z)), none] M = some (.str (L2.cutS (TT z) none (some 1)), M) := sl_hi (by omega) rfl
  have c1 : TL.tl (L2.cutS (TT z) none (some 1)) = (TL.tl (TT z)).take 1 := by
    rw [tl_cutS]
    have : HT.sIx (TT z).length (TT z).length (some 1) = 1 := by
      unfold HT.sIx
      simp
      omega
    rw [this]
    rfl
  have tst : tV (eOp (gEq fun p q => !PyData.eqv p q) (eSl (eVar 0) pNone (pSome (eC (.int 1)))) (eC (.str "-"))) [some (.str (TT z)), none] M = some (!decide (L2.cutS (TT z) none (some 1) = "-"), M) := by
    refine v_bl (op_of sl rfl (ne_str (strOk_of fun s hs => ?_) (by decide +kernel) _))
    rw [c1] at hs
    exact TT_ok z s (List.mem_of_mem_take hs)
  have t45 : TL.tl ("-" : Str) = [45] := by decide +kernel
  by_cases hz : z < 0
  · rw [if_pos hz] at t
    have e1 : L2.cutS (TT z) none (some 1) = "-" := TL.ext_tl (by rw [c1, t, t45]; rfl)
    refine seq_if0 (M1 := M) (or0 (M1 := M) (nt_of (b := true) (isstr_ok rfl)) (tst.trans (by rw [decide_eq_true e1]; rfl))) ?_
    have e2 : L2.cutS (TT z) (some 1) none = TT (z.natAbs : Int) := TL.ext_tl (by
      have : HT.sIx (TT z).length 0 (some 1) = 1 := by
        unfold HT.sIx
        simp
        omega
      rw [tl_cutS, this, t, TL.tl_num]
      show List.take ((TT z).length - 1) (TL.numL z.natAbs) = _
      rw [List.take_of_length_le]
      rw [str_len, t, List.length_cons]
      omega)
    have sl2 : eSl (eVar 0) (pSome (eC (.int 1))) pNone [some (.str (TT z)), none] M = some (.str (TT (z.natAbs : Int)), M) := by
      rw [← e2]
      exact sl_lo (by omega) rfl
    refine seq_as (M1 := M) (δ' := [some (.str (TT z)), some (.int (z.natAbs : Int))]) (call_of (cons_of sl2 x_aNil) (number_ok h)) rfl ?_
    refine seq_if0 (M1 := M) (or0 (M1 := M) ?_ ?_) (ret_of ?_)
    · rfl
    · exact v_bl (op_of rfl rfl ((eq_int _ _ _).trans (by rw [decide_eq_false (by omega)])))
    · show some (D.int (-(z.natAbs : Int)), M) = _
      rw [show -(z.natAbs : Int) = z by omega]
  · rw [if_neg hz] at t
    have e1 : L2.cutS (TT z) none (some 1) ≠ "-" := fun e => by
      have := congrArg TL.tl e
      rw [c1, t, t45] at this
      cases hq : TL.numL z.natAbs with
      | nil => exact absurd hq (TL.numL_ne _)
      | cons c q =>
        rw [hq] at this
        have hc : c = 45 := (List.cons.inj this).1
        have := TL.numL_digits z.natAbs c (by rw [hq]; exact List.mem_cons_self)
        omega
    refine seq_if1 (M1 := M) ((or0 (M1 := M) (nt_of (b := true) (isstr_ok rfl)) (tst.trans (by rw [decide_eq_false e1]; rfl)))) (ret_of (call_of (cons_of rfl x_aNil) ?_))
    have e : z = ((z.natAbs : Nat) : Int) := by omega
    have := number_ok (n := z.natAbs) (M := M) h
    rw [← e] at this
    exact this
/-- a fraction's text -/
def ftx (a : Rat) : Str := if a.den = 1 then TT a.num else Str.empty ++ TT a.num ++ "/" ++ TT a.den
theorem app_len (x y : Str) : (x ++ y).length = x.length + y.length := by
  rw [str_len, str_len, str_len, TL.tl_append, List.length_append]
theorem lg {n : Nat} (h : n < 2 ^ 128) : n.log2 < 1920 := Nat.lt_of_lt_of_le (PySem.Flt.log2_lt_of (by decide) h) (by decide)
theorem slash_free (z : Int) : ¬ 47 ∈ TL.tl (TT z) := fun hs => by
  rw [tl_TT] at hs
  have hd := TL.numL_digits z.natAbs
  by_cases h : z < 0
  · rw [if_pos h] at hs
    rcases List.mem_cons.mp hs with e | e
    · omega
    · have := hd 47 e; omega
  · rw [if_neg h] at hs
    have := hd 47 hs; omega
end Law

namespace Law
open PySem L2 Pl
section
variable {n : Nat} {M : Mh}
theorem At.app {B : Int} (h : At n B M) (m : MO) : At n B (M ++ [m]) := by
  obtain ⟨l, c, t, h1, h2⟩ := h
  exact ⟨l, c, t, by rw [List.getElem?_append_left (List.getElem?_eq_some_iff.mp h1).1]; exact h1, h2⟩
theorem ftx_len {a : Rat} [ha : Sz 1 a] : (ftx a).length ≤ 3843 := by
  have n1 : (TT a.num).length ≤ 1921 := PyProof.Rows.int_text_len_1921 (lg ha.num)
  have n2 : (TT a.den).length ≤ 1921 := PyProof.Rows.int_text_len_1921 (lg ha.den)
  have sl : ("/" : Str).length = 1 := by decide +kernel
  have e0 : Str.empty.length = 0 := rfl
  unfold ftx
  split
  · omega
  · rw [app_len, app_len, app_len, e0, sl]; omega
end
theorem ints_of : ∀ ns : List Int, intsOf (ns.map D.int) = some ns
  | [] => rfl
  | n :: ns => by rw [List.map_cons, intsOf, ints_of ns]
end Law

namespace Law
open PySem L2 Pl
/-- figures alone -/
def figs? (cs : List Nat) : Bool := cs.all fun c => decide (c ∈ ("0123456789" : Str).cps.toList)
theorem fig_iff (c : Nat) : c ∈ ("0123456789" : Str).cps.toList ↔ 48 ≤ c ∧ c ≤ 57 := by
  have e : ("0123456789" : Str).cps.toList = [48, 49, 50, 51, 52, 53, 54, 55, 56, 57] := by decide +kernel
  rw [e]
  simp only [List.mem_cons, List.not_mem_nil, or_false]
  omega
theorem figs_digits {cs : List Nat} (h : figs? cs = true) : NumText.AllDigits cs := fun c hc => by
  have := List.all_eq_true.mp h c hc
  exact (fig_iff c).mp (of_decide_eq_true this)
/-- what a word of figures tells -/
def isnum (cs : List Nat) : Bool := decide (1 ≤ cs.length) && decide (cs.length ≤ 4) && figs? cs && !(decide (cs.head? = some 48) && decide (1 < cs.length))
def numOf (cs : List Nat) : Option Nat := if isnum cs then some (NumText.digitsVal cs) else none
def optN : Option Nat → D
  | none => .non
  | some n => .int n
theorem signs_sp (M : Mh) (a c z : Option D) : ∀ cs : List Nat, lcGo (gN 3) tTrue (eOp (gIn fun b => b) (eVar 3) (eVar 1)) (cs.map fun s => .str ⟨#[s]⟩) [a, some (.str "0123456789"), c, z] M = some (cs.map fun s => .bl (decide (s ∈ ("0123456789" : Str).cps.toList)), M)
  | [] => rfl
  | s :: cs => by
    have e : eOp (gIn fun b => b) (eVar 3) (eVar 1) [a, some (.str "0123456789"), c, some (.str ⟨#[s]⟩)] M = some (.bl (decide (s ∈ ("0123456789" : Str).cps.toList)), M) := op_of rfl rfl rfl
    rw [List.map_cons]
    unfold lcGo
    dsimp only [gN, List.set_cons_succ, List.set_cons_zero, tTrue]
    rw [e]
    dsimp only
    rw [signs_sp M a c z cs]
    rfl
theorem bs_sp (g : Nat → Bool) : ∀ cs : List Nat, bsOf (cs.map fun s => D.bl (g s)) = some (cs.map g)
  | [] => rfl
  | c :: cs => by rw [List.map_cons, bsOf, bs_sp g cs]; rfl
theorem len_sp {δ : Pl.Env} {M M1 : Mh} {f : EF} {x : Str} (h : f δ M = some (.str x, M1)) (hx : x.length ≤ 1000000) : eB gLen (aCons f aNil) δ M = some (.int x.length, M1) := by
  have : x.length ≤ sizeLine := Nat.le_trans hx (by decide)
  rw [x_eB, cons_of h x_aNil]
  simp [gLen, lenOf, this]
theorem text_sp {x : Str} {M : Mh} (hx : x.length ≤ 1000000) : ff_is_text_of [.str x, .str "0123456789", .int 4] M = some (.bl (decide (1 ≤ (TL.tl x).length) && decide ((TL.tl x).length ≤ 4) && figs? (TL.tl x)), M) := by
  refine fn_rt ?_
  show gg_is_text_of [some (.str x), some (.str "0123456789"), some (.int 4), none] M = _
  unfold gg_is_text_of
  have t2 : tNt (tV (eChain (gInt fun i j => .bl (decide (i ≤ j))) (gInt fun i j => .bl (decide (i ≤ j))) (eC (.int 1)) (eB gLen (aCons (eVar 0) aNil)) (eVar 2))) [some (.str x), some (.str "0123456789"), some (.int 4), none] M = some (!(decide (1 ≤ (TL.tl x).length) && decide ((TL.tl x).length ≤ 4)), M) := by
    refine nt_of (v_bl ?_)
    unfold eChain
    rw [x_eC]
    dsimp only
    rw [len_sp (f := eVar 0) rfl hx, str_len]
    by_cases h1 : 1 ≤ (TL.tl x).length
    · have b1 : decide ((1 : Int) ≤ ((TL.tl x).length : Nat)) = true := decide_eq_true (by omega)
      have b2 : decide ((((TL.tl x).length : Nat) : Int) ≤ 4) = decide ((TL.tl x).length ≤ 4) := by
        by_cases h4 : (TL.tl x).length ≤ 4
        · rw [decide_eq_true h4]; exact decide_eq_true (by omega)
        · rw [decide_eq_false h4]; exact decide_eq_false (by omega)
      rw [decide_eq_true h1]
      simp only [gInt, x_eVar, b1, b2, List.getElem?_cons_zero, List.getElem?_cons_succ, Bool.true_and]
    · have b1 : decide ((1 : Int) ≤ ((TL.tl x).length : Nat)) = false := decide_eq_false (by omega)
      rw [decide_eq_false h1]
      simp only [gInt, b1, Bool.false_and]
  by_cases hl : 1 ≤ (TL.tl x).length ∧ (TL.tl x).length ≤ 4
  · rw [decide_eq_true hl.1, decide_eq_true hl.2] at t2 ⊢
    refine seq_if0 (M1 := M) (or0 (M1 := M) (nt_of (b := true) (isstr_ok rfl)) t2) (ret_of ?_)
    have lc : eLc [3] (aSigns (eVar 0)) (gN 3) tTrue (eOp (gIn fun b => b) (eVar 3) (eVar 1)) [some (.str x), some (.str "0123456789"), some (.int 4), none] M = some (.lst ((TL.tl x).map fun s => .bl (decide (s ∈ ("0123456789" : Str).cps.toList))), M) := by
      unfold eLc
      have e : aSigns (eVar 0) [some (.str x), some (.str "0123456789"), some (.int 4), none] M = some ((TL.tl x).map fun s => .str ⟨#[s]⟩, M) := rfl
      rw [e]
      dsimp only [wipeD, List.set_cons_succ, List.set_cons_zero]
      rw [signs_sp M _ _ _ _]
      dsimp only
      rw [if_pos (by rw [List.length_map]; exact Nat.le_trans hl.2 (by decide))]
    rw [x_eB, cons_of lc x_aNil]
    simp [gBs, lstOf, bs_sp, figs?, List.all_map, Function.comp_def]
  · have e : (decide (1 ≤ (TL.tl x).length) && decide ((TL.tl x).length ≤ 4)) = false := by
      rw [← Bool.decide_and]; exact decide_eq_false hl
    rw [e] at t2 ⊢
    exact seq_if1 (M1 := M) (or0 (M1 := M) (nt_of (b := true) (isstr_ok rfl)) t2) (ret_of rfl)
theorem t0 : TL.tl ("0" : Str) = [48] := by decide +kernel
theorem first_sp {x : Str} {c : Nat} {q : List Nat} {M : Mh} (hq : TL.tl x = c :: q) (hx : x.length ≤ 1000000) : gIx (.str x) (.int 0) M = some (.str ⟨#[c]⟩, M) := by
  have e : L2.atI x.cps.toList 0 = some c := by
    show L2.atI (TL.tl x) 0 = some c
    rw [hq]; simp [L2.atI, L2.ixN]
  show (if x.length ≤ sizeLine then (L2.atI x.cps.toList 0).map fun c => (D.str ⟨#[c]⟩, M) else none) = _
  rw [if_pos (Nat.le_trans hx (by decide)), e]; rfl
theorem one_iff (c : Nat) : (⟨#[c]⟩ : Str) = "0" ↔ c = 48 := by
  constructor
  · intro h
    have := congrArg TL.tl h
    rw [t0] at this
    exact (List.cons.inj this).1
  · intro h
    subst h
    exact TL.ext_tl (by rw [t0])
theorem zero_iff {x : Str} {c : Nat} {q : List Nat} (hq : TL.tl x = c :: q) (hc : c = 48) : x = "0" ↔ ¬ 1 < (TL.tl x).length := by
  subst hc
  rw [hq, List.length_cons]
  constructor
  · intro h
    rw [h, t0] at hq
    have := (List.cons.inj hq).2
    rw [← this]; simp
  · intro h
    have : q = [] := List.length_eq_zero_iff.mp (by omega)
    subst this
    exact TL.ext_tl (by rw [hq, t0])
theorem number_sp {x : Str} {M : Mh} (hx : x.length ≤ 1000000) : ff_number_of [.str x] M = some (optN (numOf (TL.tl x)), M) := by
  refine fn_rt ?_
  show gg_number_of [some (.str x)] M = _
  unfold gg_number_of
  have t1 := nt_of (v_bl (call_of (dds := []) (δ := [some (.str x)]) (g := aCons (eVar 0) (aCons (eC (.str "0123456789")) (aCons (eC (.int 4)) aNil))) (cons_of rfl (cons_of rfl (cons_of rfl x_aNil))) (text_sp (M := M) hx)))
  by_cases ht : (decide (1 ≤ (TL.tl x).length) && decide ((TL.tl x).length ≤ 4) && figs? (TL.tl x)) = true
  · rw [ht] at t1
    refine seq_if0 (M1 := M) t1 ?_
    have ht' := ht
    simp only [Bool.and_eq_true, decide_eq_true_eq] at ht'
    obtain ⟨⟨l1, l4⟩, fg⟩ := ht'
    have ad := figs_digits fg
    cases hq : TL.tl x with
    | nil => rw [hq] at l1; exact absurd l1 (by decide)
    | cons c q =>
      have cd := ad c (by rw [hq]; exact List.mem_cons_self)
      have k1 : tV (eOp (gEq PyData.eqv) (eOp gIx (eVar 0) (eC (.int 0))) (eC (.str "0"))) [some (.str x)] M = some (decide ((⟨#[c]⟩ : Str) = "0"), M) := v_bl (op_of (op_of rfl rfl (first_sp hq hx)) rfl (eq_str (strOk_of fun s hs => by have := List.mem_singleton.mp hs; omega) (by decide +kernel) _))
      have k2 : tV (eOp (gEq fun p q => !PyData.eqv p q) (eVar 0) (eC (.str "0"))) [some (.str x)] M = some (!decide (x = "0"), M) := v_bl (op_of rfl rfl (ne_str (strOk_of fun s hs => by have := ad s hs; omega) (by decide +kernel) _))
      rw [← hq]
      by_cases hc : c = 48
      · rw [decide_eq_true ((one_iff c).mpr hc)] at k1
        by_cases hl : 1 < (TL.tl x).length
        · have nz : ¬ x = "0" := fun e => (zero_iff hq hc).mp e hl
          rw [decide_eq_false nz] at k2
          have : numOf (TL.tl x) = none := by
            have h2 : (decide ((TL.tl x).head? = some 48) && decide (1 < (TL.tl x).length)) = true := by
              rw [decide_eq_true hl, hq, hc]; rfl
            simp only [numOf, isnum, ht, h2]
            rfl
          rw [this]
          exact seq_if1 (M1 := M) (an1 (M1 := M) k1 k2) (ret_of rfl)
        · have z : x = "0" := (zero_iff hq hc).mpr hl
          rw [decide_eq_true z] at k2
          have : numOf (TL.tl x) = some (NumText.digitsVal (TL.tl x)) := by
            simp only [numOf, isnum, ht, decide_eq_false hl, Bool.and_false]
            rfl
          rw [this]
          refine seq_if0 (M1 := M) (an1 (M1 := M) k1 k2) (ret_of ?_)
          rw [x_eB, cons_of (d := .str x) (M1 := M) rfl x_aNil]
          have e := PySem.intText_digits (x := x) ad (by rw [show x.cps.toList = TL.tl x from rfl, hq]; exact fun z => nomatch z) (by rw [str_len]; omega)
          simp only [gInt1, e]
          rw [if_pos (by rw [str_len]; omega)]
          rfl
      · rw [decide_eq_false (fun e => hc ((one_iff c).mp e))] at k1
        have : numOf (TL.tl x) = some (NumText.digitsVal (TL.tl x)) := by
          have h2 : decide ((TL.tl x).head? = some 48) = false := decide_eq_false (by rw [hq]; exact fun e => hc (Option.some.inj e))
          simp only [numOf, isnum, ht, h2, Bool.false_and]
          rfl
        rw [this]
        refine seq_if0 (M1 := M) (an0 k1) (ret_of ?_)
        rw [x_eB, cons_of (d := .str x) (M1 := M) rfl x_aNil]
        have e := PySem.intText_digits (x := x) ad (by rw [show x.cps.toList = TL.tl x from rfl, hq]; exact fun z => nomatch z) (by rw [str_len]; omega)
        simp only [gInt1, e]
        rw [if_pos (by rw [str_len]; omega)]
        rfl
  · have hf := Bool.eq_false_iff.mpr ht
    rw [hf] at t1
    have : numOf (TL.tl x) = none := by
      simp only [numOf, isnum, hf, Bool.false_and]
      rfl
    rw [this]
    exact seq_if1 (M1 := M) t1 (ret_of rfl)
end Law

namespace Law
open PySem L2 Pl
def optI : Option Int → D
  | none => .non
  | some n => .int n
def sgnOf (cs : List Nat) : Option Int :=
  if cs.take 1 = [45] then (match numOf (cs.drop 1) with
    | none => none
    | some n => if n = 0 then none else some (-(n : Int)))
  else (numOf cs).map fun n => (n : Int)
theorem t45 : TL.tl ("-" : Str) = [45] := by decide +kernel
theorem cut1 (x : Str) : TL.tl (L2.cutS x none (some 1)) = (TL.tl x).take 1 := by
  rw [tl_cutS, str_len]
  have : HT.sIx (TL.tl x).length (TL.tl x).length (some 1) = min 1 (TL.tl x).length := by
    unfold HT.sIx
    simp
  rw [this]
  show List.take (min 1 (TL.tl x).length - 0) (List.drop 0 (TL.tl x)) = _
  rw [List.drop_zero, Nat.sub_zero, List.take_eq_take_iff]
  omega
theorem cut2 (x : Str) : TL.tl (L2.cutS x (some 1) none) = (TL.tl x).drop 1 := by
  rw [tl_cutS, str_len]
  have : HT.sIx (TL.tl x).length 0 (some 1) = min 1 (TL.tl x).length := by
    unfold HT.sIx
    simp
  rw [this]
  show List.take ((TL.tl x).length - min 1 (TL.tl x).length) (List.drop (min 1 (TL.tl x).length) (TL.tl x)) = _
  rw [List.take_of_length_le (by rw [List.length_drop]; exact Nat.le_refl _)]
  cases TL.tl x with
  | nil => rfl
  | cons c q => rw [show min 1 (c :: q).length = 1 by rw [List.length_cons]; omega]
theorem minus_iff (x : Str) : L2.cutS x none (some 1) = "-" ↔ (TL.tl x).take 1 = [45] := by
  constructor
  · intro h
    rw [← cut1, h, t45]
  · intro h
    exact TL.ext_tl (by rw [cut1, h, t45])
theorem slH {x : Str} {f : EF} {δ : Pl.Env} {M : Mh} (hx : x.length ≤ 1000000) (h : f δ M = some (.str x, M)) : eSl f pNone (pSome (eC (.int 1))) δ M = some (.str (L2.cutS x none (some 1)), M) := by
  have p1 : pNone δ M = some (none, M) := rfl
  have p2 : pSome (eC (.int 1)) δ M = some (some 1, M) := rfl
  unfold eSl
  rw [h]
  dsimp only
  rw [p1]
  dsimp only
  rw [p2]
  exact if_pos (Nat.le_trans hx (by decide))
theorem slL {x : Str} {f : EF} {δ : Pl.Env} {M : Mh} (hx : x.length ≤ 1000000) (h : f δ M = some (.str x, M)) : eSl f (pSome (eC (.int 1))) pNone δ M = some (.str (L2.cutS x (some 1) none), M) := by
  have p1 : pNone δ M = some (none, M) := rfl
  have p2 : pSome (eC (.int 1)) δ M = some (some 1, M) := rfl
  unfold eSl
  rw [h]
  dsimp only
  rw [p2]
  dsimp only
  rw [p1]
  exact if_pos (Nat.le_trans hx (by decide))
/-- signs that a text may have -/
def SOk (x : Str) : Prop := ∀ s ∈ TL.tl x, s < 1114112
theorem SOk.cut1 {x : Str} (h : SOk x) : SOk (L2.cutS x none (some 1)) := fun s hs => by
  rw [Law.cut1] at hs
  exact h s (List.mem_of_mem_take hs)
theorem cut2_len {x : Str} (hx : x.length ≤ 1000000) : (L2.cutS x (some 1) none).length ≤ 1000000 := by
  rw [str_len, cut2, List.length_drop, ← str_len]
  omega
theorem minus_sp {x : Str} {f : EF} {δ : Pl.Env} {M : Mh} (hx : x.length ≤ 1000000) (hs : SOk x) (h : f δ M = some (.str x, M)) : tV (eOp (gEq PyData.eqv) (eSl f pNone (pSome (eC (.int 1)))) (eC (.str "-"))) δ M = some (decide ((TL.tl x).take 1 = [45]), M) := by
  refine v_bl (op_of (slH hx h) rfl ((eq_str (strOk_of hs.cut1) (by decide +kernel) _).trans ?_))
  by_cases e : L2.cutS x none (some 1) = "-"
  · rw [decide_eq_true e, decide_eq_true ((minus_iff x).mp e)]
  · rw [decide_eq_false e, decide_eq_false (fun z => e ((minus_iff x).mpr z))]
theorem minusN_sp {x : Str} {f : EF} {δ : Pl.Env} {M : Mh} (hx : x.length ≤ 1000000) (hs : SOk x) (h : f δ M = some (.str x, M)) : tV (eOp (gEq fun p q => !PyData.eqv p q) (eSl f pNone (pSome (eC (.int 1)))) (eC (.str "-"))) δ M = some (!decide ((TL.tl x).take 1 = [45]), M) := by
  refine v_bl (op_of (slH hx h) rfl ((ne_str (strOk_of hs.cut1) (by decide +kernel) _).trans ?_))
  by_cases e : L2.cutS x none (some 1) = "-"
  · rw [decide_eq_true e, decide_eq_true ((minus_iff x).mp e)]
  · rw [decide_eq_false e, decide_eq_false (fun z => e ((minus_iff x).mpr z))]
theorem signed_sp {x : Str} {M : Mh} (hx : x.length ≤ 1000000) (hs : SOk x) : ff_signed_of [.str x] M = some (optI (sgnOf (TL.tl x)), M) := by
  refine fn_rt ?_
  show gg_signed_of [some (.str x), none] M = _
  unfold gg_signed_of
  have tst := minusN_sp (f := eVar 0) (δ := [some (.str x), none]) (M := M) hx hs rfl
  by_cases hm : (TL.tl x).take 1 = [45]
  · rw [decide_eq_true hm] at tst
    refine seq_if0 (M1 := M) (or0 (M1 := M) (nt_of (b := true) (isstr_ok rfl)) tst) ?_
    have nm := number_sp (M := M) (cut2_len hx)
    rw [cut2] at nm
    refine seq_as (M1 := M) (δ' := [some (.str x), some (optN (numOf ((TL.tl x).drop 1)))]) (call_of (cons_of (slL hx rfl) x_aNil) nm) rfl ?_
    unfold sgnOf
    rw [if_pos hm]
    cases hn : numOf ((TL.tl x).drop 1) with
    | none => exact seq_if1 (M1 := M) (or1 (M1 := M) rfl) (ret_of rfl)
    | some n =>
      have z : tV (eOp (gEq PyData.eqv) (eVar 1) (eC (.int 0))) [some (.str x), some (optN (some n))] M = some (decide ((n : Int) = 0), M) := v_bl (op_of rfl rfl (eq_int _ _ _))
      by_cases h0 : n = 0
      · rw [decide_eq_true (by omega)] at z
        dsimp only
        rw [if_pos h0]
        exact seq_if1 (M1 := M) (or0 (M1 := M) rfl z) (ret_of rfl)
      · rw [decide_eq_false (by omega)] at z
        dsimp only
        rw [if_neg h0]
        exact seq_if0 (M1 := M) (or0 (M1 := M) rfl z) (ret_of rfl)
  · rw [decide_eq_false hm] at tst
    refine seq_if1 (M1 := M) (or0 (M1 := M) (nt_of (b := true) (isstr_ok rfl)) tst) (ret_of (call_of (cons_of rfl x_aNil) ?_))
    refine (number_sp hx).trans ?_
    unfold sgnOf
    rw [if_neg hm]
    cases numOf (TL.tl x) <;> rfl
/-- the law's own look at a word of figures -/
theorem other_go (M : Mh) (a b z : Option D) : ∀ cs : List Nat, lcGo (gN 2) (tV (eOp (gIn fun b => !b) (eVar 2) (eC (.str "0123456789")))) (eVar 2) (cs.map fun s => .str ⟨#[s]⟩) [a, b, z] M = some ((cs.filter fun s => !decide (s ∈ ("0123456789" : Str).cps.toList)).map fun s => .str ⟨#[s]⟩, M)
  | [] => rfl
  | s :: cs => by
    have e : tV (eOp (gIn fun b => !b) (eVar 2) (eC (.str "0123456789"))) [a, b, some (.str ⟨#[s]⟩)] M = some (!decide (s ∈ ("0123456789" : Str).cps.toList), M) := v_bl (op_of rfl rfl rfl)
    rw [List.map_cons]
    unfold lcGo
    dsimp only [gN, List.set_cons_succ, List.set_cons_zero]
    rw [e, List.filter_cons]
    cases hd : !decide (s ∈ ("0123456789" : Str).cps.toList) with
    | true =>
      dsimp only
      have ev : eVar 2 [a, b, some (.str ⟨#[s]⟩)] M = some (.str ⟨#[s]⟩, M) := rfl
      rw [ev]
      dsimp only
      rw [other_go M a b z cs]
      rfl
    | false =>
      dsimp only
      rw [other_go M a b z cs]
      rfl
theorem toPs_strs : ∀ L : List Nat, toPs (L.map fun s => .str ⟨#[s]⟩) = some (L.map fun s => .str ⟨#[s]⟩)
  | [] => rfl
  | s :: L => by rw [List.map_cons, toPs, toP, toPs_strs L]; rfl
theorem lay_strs : ∀ L : List Nat, (∀ s ∈ L, s < 1114112) → PyData.canLayAll0 (L.map fun s => .str ⟨#[s]⟩) = true ∧ PyData.depthAll (L.map fun s => .str ⟨#[s]⟩) ≤ 1
  | [], _ => by simp [PyData.canLayAll0, PyData.depthAll]
  | s :: L, h => by
    obtain ⟨h1, h2⟩ := lay_strs L fun q hq => h q (List.mem_cons_of_mem _ hq)
    have h3 := str_sh (x := ⟨#[s]⟩) (strOk_of fun q hq => by have := List.mem_singleton.mp hq; subst this; exact h q List.mem_cons_self)
    simp only [SeqAt.shaped, Bool.and_eq_true, decide_eq_true_eq] at h3
    have d0 : (PyData.str ⟨#[s]⟩).depth ≤ 1 := by simp [PyData.depth]
    rw [List.map_cons, PyData.canLayAll0, PyData.depthAll]
    refine ⟨by rw [h3.1, h1]; rfl, ?_⟩
    omega
theorem ne_strs {L : List Nat} {M : Mh} (h : ∀ s ∈ L, s < 1114112) : gEq (fun p q => !PyData.eqv p q) (.lst (L.map fun s => .str ⟨#[s]⟩)) (.lst []) M = some (.bl (!L.isEmpty), M) := by
  obtain ⟨h1, h2⟩ := lay_strs L h
  have s1 : SeqAt.shaped (.list (L.map fun s => .str ⟨#[s]⟩)) = true := by
    simp only [SeqAt.shaped, Bool.and_eq_true, decide_eq_true_eq]
    rw [PyData.canLay0, PyData.depth]
    exact ⟨h1, by omega⟩
  have s2 : SeqAt.shaped (.list []) = true := by decide +kernel
  simp only [gEq, deref, toP, toPs_strs, toPs, s1, s2, Bool.and_self, if_true]
  cases L with
  | nil => simp [PyData.eqv, PyData.eqvAll]
  | cons s L => simp [PyData.eqv, PyData.eqvAll]
end Law

namespace Law
open PySem L2 Pl
theorem tnil : TL.tl ("" : Str) = [] := by decide +kernel
theorem empty_iff (x : Str) : x = "" ↔ TL.tl x = [] := ⟨fun h => by rw [h, tnil], fun h => TL.ext_tl (by rw [h, tnil])⟩
theorem figs_filter (cs : List Nat) : (cs.filter fun s => !decide (s ∈ ("0123456789" : Str).cps.toList)).isEmpty = figs? cs := by
  induction cs with
  | nil => rfl
  | cons c cs ih =>
    rw [List.filter_cons]
    unfold figs?
    rw [List.all_cons]
    cases hd : decide (c ∈ ("0123456789" : Str).cps.toList) with
    | true => rw [if_neg (by simp)]; rw [ih]; rfl
    | false => rw [if_pos (by simp)]; rfl
end Law

namespace Law
open PySem L2 Pl
theorem spl_ne : ∀ (S : List Nat) (k : Nat) (acc l : List Nat), TL.spl S k acc l ≠ [] := fun S k acc l => by
  induction l generalizing k acc with
  | nil => rw [TL.spl_nil]; exact fun z => nomatch z
  | cons c l ih =>
    cases k with
    | succ k =>
      rw [TL.spl_pass S (k + 1) acc (c :: l), List.drop_succ_cons, ← TL.spl_pass S k acc l]
      exact ih k acc
    | zero =>
      cases hp : TL.pre S (c :: l) with
      | true => rw [TL.spl_hit hp]; exact fun z => nomatch z
      | false => rw [TL.spl_miss hp]; exact ih 0 _
theorem ei_tt {t : TF} {f g : EF} {δ : Pl.Env} {M M1 : Mh} {r : Option (D × Mh)} (h : t δ M = some (true, M1)) (k : f δ M1 = r) : eIf t f g δ M = r := by
  unfold eIf; rw [h]; exact k
theorem ei_ff {t : TF} {f g : EF} {δ : Pl.Env} {M M1 : Mh} {r : Option (D × Mh)} (h : t δ M = some (false, M1)) (k : g δ M1 = r) : eIf t f g δ M = r := by
  unfold eIf; rw [h]; exact k
theorem num_small {cs : List Nat} {n : Nat} (h : numOf cs = some n) : n < 2 ^ 100 := by
  unfold numOf at h
  split at h
  · rename_i hn
    cases h
    simp only [isnum, Bool.and_eq_true, decide_eq_true_eq] at hn
    obtain ⟨⟨⟨l1, l4⟩, fg⟩, _⟩ := hn
    have ad := figs_digits fg
    have gen : ∀ (cs : List Nat) (a : Nat), NumText.AllDigits cs → cs.foldl (fun acc c => acc * 10 + (c - 48)) a < (a + 1) * 10 ^ cs.length := by
      intro cs
      induction cs with
      | nil => intro a _; simp
      | cons c cs ih =>
        intro a h
        have h2 := h c List.mem_cons_self
        rw [List.foldl_cons, List.length_cons]
        refine Nat.lt_of_lt_of_le (ih _ fun d hd => h d (List.mem_cons_of_mem _ hd)) ?_
        rw [Nat.pow_succ, Nat.mul_comm (10 ^ cs.length) 10, ← Nat.mul_assoc]
        exact Nat.mul_le_mul_right _ (by omega)
    have this : ∀ cs : List Nat, NumText.AllDigits cs → NumText.digitsVal cs < 10 ^ cs.length := fun cs h => by
      have := gen cs 0 h
      rw [Nat.zero_add, Nat.one_mul] at this
      exact this
    refine Nat.lt_of_lt_of_le (this cs ad) (Nat.le_trans (Nat.pow_le_pow_right (by decide) l4) (by decide))
  · cases h
end Law

namespace Law
open PySem L2 Pl
theorem set_ne {M : Mh} {n m : Nat} {x : MO} (h : m ≠ n) : (M.set n x)[m]? = M[m]? := List.getElem?_set_ne (Ne.symm h)
theorem digit_fr {n : Nat} {M : Mh} {B many : Int} (h : At n B M) (hB : B < 2 ^ 58) (m0 : 0 < many) (m1 : many < 2 ^ 200) : ∃ (f : Int) (M' : Mh), ff_law_digit [.ref n, .int many] M = some (.int f, M') ∧ At n (B + 4) M' ∧ 0 ≤ f ∧ f < many ∧ ∀ m, m ≠ n → M'[m]? = M[m]? := by
  obtain ⟨l, c, t, hM, l0, t0, tB⟩ := h
  have om : DivOk l many := dOk (by omega) (Nat.lt_of_lt_of_le (m := 2 ^ 200) (by omega) (Nat.pow_le_pow_right (by decide) (by decide)))
  have tail : ∀ (l t : Int) (N : Mh) (x : Option D), N[n]? = some (dk l c t) → 0 ≤ l → 0 ≤ t → t ≤ B + 4 → ∃ (f : Int) (M' : Mh), sSeq (sAs (eOp (gIntC (fun _ j => j ≠ 0) fun i j => .int (i.fmod j)) (eOp gDget (eVar 0) (eC (.str "left"))) (eVar 1)) (gN 3)) (sSeq (sDput (eVar 0) (eC (.str "left")) (eOp (gIntC DivOk fun i j => .int (i.fdiv j)) (eOp gDget (eVar 0) (eC (.str "left"))) (eVar 1))) (sRet (eVar 3))) [some (.ref n), some (.int many), x, none] N = some (.rt (.int f) M') ∧ At n (B + 4) M' ∧ 0 ≤ f ∧ f < many ∧ ∀ m, m ≠ n → M'[m]? = N[m]? := fun l t N x hN l0 t0 tB => by
    have om : DivOk l many := ⟨om.1, om.2⟩
    have hf := fm (a := l) m0
    refine ⟨l.fmod many, N.set n (dk (l.fdiv many) c t), ?_, ⟨l.fdiv many, c, t, set_at hN, ?_, t0, tB⟩, hf.1, hf.2, fun m hm => set_ne hm⟩
    · exact seq_as (M1 := N) (δ' := [some (.ref n), some (.int many), x, some (.int (l.fmod many))]) (op_of (op_of rfl rfl (get_l hN)) rfl (intC_of (by omega))) rfl (seq_nx (put_of (op_of (op_of rfl rfl (get_l hN)) rfl (intC_of om)) rfl rfl (put_l hN)) (ret_of rfl))
    · exact Int.fdiv_nonneg l0 (by omega)
  have tst : tV (eOp (gEq PyData.eqv) (eOp gDget (eVar 0) (eC (.str "left"))) (eC (.int 0))) [some (.ref n), some (.int many), none, none] M = some (decide (l = 0), M) := v_bl (op_of (op_of rfl rfl (get_l hM)) rfl (eq_int _ _ _))
  by_cases hl : l = 0
  · subst hl
    obtain ⟨l', e1, p1⟩ := fill_ok hM t0 (by omega) (some (.int many)) none none
    obtain ⟨f, M', e2, p2, p3, p4, p5⟩ := tail l' (t + 4) _ (some (.int 3)) (set_at hM) p1 (by omega) (by omega)
    refine ⟨f, M', fn_rt ?_, p2, p3, p4, fun m hm => (p5 m hm).trans (set_ne hm)⟩
    show gg_law_digit [some (.ref n), some (.int many), none, none] M = _
    unfold gg_law_digit
    exact seq_nx (if_tt (tst.trans (by rw [decide_eq_true rfl])) e1) e2
  · obtain ⟨f, M', e2, p2⟩ := tail l t M none hM l0 t0 (by omega)
    refine ⟨f, M', fn_rt ?_, p2⟩
    show gg_law_digit [some (.ref n), some (.int many), none, none] M = _
    unfold gg_law_digit
    exact seq_if0 (tst.trans (by rw [decide_eq_false hl])) e2
/-- a word that may come -/
def Wd? (x : Str) (n : Nat) : Prop := x.length ≤ n ∧ SOk x
theorem cut_w {x : Str} {n : Nat} (h : Wd? x n) (lo hi : Option Int) : Wd? (L2.cutS x lo hi) n := by
  refine ⟨?_, fun s hs => ?_⟩
  · rw [str_len, tl_cutS, List.length_take, List.length_drop, ← str_len]
    have := h.1
    omega
  · rw [tl_cutS] at hs
    exact h.2 s (List.mem_of_mem_drop (List.mem_of_mem_take hs))
theorem app_w {x y : Str} {n m : Nat} (h : Wd? x n) (k : Wd? y m) : Wd? (x ++ y) (n + m) := by
  refine ⟨by rw [app_len]; have := h.1; have := k.1; omega, fun s hs => ?_⟩
  rw [TL.tl_append] at hs
  rcases List.mem_append.mp hs with z | z
  · exact h.2 s z
  · exact k.2 s z
theorem add_str {x y : Str} {n m : Nat} {M : Mh} (h : Wd? x n) (k : Wd? y m) (l : n + m ≤ 1000000) : gAdd (.str x) (.str y) M = some (.str (x ++ y), M) := by
  show (if x.length + y.length ≤ sizeLine then _ else none) = _
  rw [if_pos (Nat.le_trans (show _ ≤ 1000000 by have := h.1; have := k.1; omega) (by decide))]
theorem sl_of {x : Str} {f : EF} {p q : Pl.Env → Mh → Option (Option Int × Mh)} {δ : Pl.Env} {M M1 M2 M3 : Mh} {lo hi : Option Int} (hx : x.length ≤ 1000000) (h : f δ M = some (.str x, M1)) (h1 : p δ M1 = some (lo, M2)) (h2 : q δ M2 = some (hi, M3)) : eSl f p q δ M = some (.str (L2.cutS x lo hi), M3) := by
  unfold eSl
  rw [h]
  dsimp only
  rw [h1]
  dsimp only
  rw [h2]
  exact if_pos (Nat.le_trans hx (by decide))
theorem ps_of {f : EF} {δ : Pl.Env} {M M1 : Mh} {i : Int} (h : f δ M = some (.int i, M1)) : pSome f δ M = some (some i, M1) := by
  unfold pSome; rw [h]
theorem sign_at {z : Str} {i : Int} {M : Mh} (h0 : 0 ≤ i) (h1 : i < z.length) (hz : z.length ≤ 1000) (hs : SOk z) : ∃ c : Nat, gIx (.str z) (.int i) M = some (.str ⟨#[c]⟩, M) ∧ Wd? ⟨#[c]⟩ 1 := by
  have hl : i.toNat < (TL.tl z).length := by rw [← str_len]; omega
  refine ⟨(TL.tl z)[i.toNat], ?_, by show (1 : Nat) ≤ 1; decide, fun s hs2 => ?_⟩
  · have e : L2.atI z.cps.toList i = some (TL.tl z)[i.toNat] := by
      show L2.atI (TL.tl z) i = _
      unfold L2.atI L2.ixN
      have hb : i < ((TL.tl z).length : Nat) := by omega
      have hb2 : i < (z.cps.size : Int) := h1
      have hl2 : i.toNat < z.cps.size := by omega
      simp [h0, hb2, hl2]
    show (if z.length ≤ sizeLine then (L2.atI z.cps.toList i).map fun c => (D.str ⟨#[c]⟩, M) else none) = _
    rw [if_pos (Nat.le_trans hz (by decide)), e]; rfl
  · have := List.mem_singleton.mp hs2
    subst this
    exact hs _ (List.getElem_mem _)
end Law


namespace Law
open PySem L2 Pl
def allIn (S : Str) (cs : List Nat) : Bool := cs.all fun c => decide (c ∈ S.cps.toList)
theorem signs_spG (S : Str) (M : Mh) (a c z : Option D) : ∀ cs : List Nat, lcGo (gN 3) tTrue (eOp (gIn fun b => b) (eVar 3) (eVar 1)) (cs.map fun s => .str ⟨#[s]⟩) [a, some (.str S), c, z] M = some (cs.map fun s => .bl (decide (s ∈ S.cps.toList)), M)
  | [] => rfl
  | s :: cs => by
    have e : eOp (gIn fun b => b) (eVar 3) (eVar 1) [a, some (.str S), c, some (.str ⟨#[s]⟩)] M = some (.bl (decide (s ∈ S.cps.toList)), M) := op_of rfl rfl rfl
    rw [List.map_cons]
    unfold lcGo
    dsimp only [gN, List.set_cons_succ, List.set_cons_zero, tTrue]
    rw [e]
    dsimp only
    rw [signs_spG S M a c z cs]
    rfl
theorem text_spG {x S : Str} {m : Nat} {M : Mh} (hx : x.length ≤ 1000000) (hm : m ≤ 1000) : ff_is_text_of [.str x, .str S, .int m] M = some (.bl (decide (1 ≤ (TL.tl x).length) && decide ((TL.tl x).length ≤ m) && allIn S (TL.tl x)), M) := by
  refine fn_rt ?_
  show gg_is_text_of [some (.str x), some (.str S), some (.int m), none] M = _
  unfold gg_is_text_of
  have t2 : tNt (tV (eChain (gInt fun i j => .bl (decide (i ≤ j))) (gInt fun i j => .bl (decide (i ≤ j))) (eC (.int 1)) (eB gLen (aCons (eVar 0) aNil)) (eVar 2))) [some (.str x), some (.str S), some (.int m), none] M = some (!(decide (1 ≤ (TL.tl x).length) && decide ((TL.tl x).length ≤ m)), M) := by
    refine nt_of (v_bl ?_)
    unfold eChain
    rw [x_eC]
    dsimp only
    rw [len_sp (f := eVar 0) rfl hx, str_len]
    by_cases h1 : 1 ≤ (TL.tl x).length
    · have b1 : decide ((1 : Int) ≤ ((TL.tl x).length : Nat)) = true := decide_eq_true (by omega)
      have b2 : decide ((((TL.tl x).length : Nat) : Int) ≤ (m : Int)) = decide ((TL.tl x).length ≤ m) := by
        by_cases h4 : (TL.tl x).length ≤ m
        · rw [decide_eq_true h4]; exact decide_eq_true (by omega)
        · rw [decide_eq_false h4]; exact decide_eq_false (by omega)
      rw [decide_eq_true h1]
      simp only [gInt, x_eVar, b1, b2, List.getElem?_cons_zero, List.getElem?_cons_succ, Bool.true_and]
    · have b1 : decide ((1 : Int) ≤ ((TL.tl x).length : Nat)) = false := decide_eq_false (by omega)
      rw [decide_eq_false h1]
      simp only [gInt, b1, Bool.false_and]
  by_cases hl : 1 ≤ (TL.tl x).length ∧ (TL.tl x).length ≤ m
  · rw [decide_eq_true hl.1, decide_eq_true hl.2] at t2 ⊢
    refine seq_if0 (M1 := M) (or0 (M1 := M) (nt_of (b := true) (isstr_ok rfl)) t2) (ret_of ?_)
    have lc : eLc [3] (aSigns (eVar 0)) (gN 3) tTrue (eOp (gIn fun b => b) (eVar 3) (eVar 1)) [some (.str x), some (.str S), some (.int m), none] M = some (.lst ((TL.tl x).map fun s => .bl (decide (s ∈ S.cps.toList))), M) := by
      unfold eLc
      have e : aSigns (eVar 0) [some (.str x), some (.str S), some (.int m), none] M = some ((TL.tl x).map fun s => .str ⟨#[s]⟩, M) := rfl
      rw [e]
      dsimp only [wipeD, List.set_cons_succ, List.set_cons_zero]
      rw [signs_spG S M _ _ _ _]
      dsimp only
      rw [if_pos (by rw [List.length_map]; exact Nat.le_trans hl.2 (Nat.le_trans hm (by decide)))]
    rw [x_eB, cons_of lc x_aNil]
    simp [gBs, lstOf, bs_sp, allIn, List.all_map, Function.comp_def]
  · have e : (decide (1 ≤ (TL.tl x).length) && decide ((TL.tl x).length ≤ m)) = false := by
      rw [← Bool.decide_and]; exact decide_eq_false hl
    rw [e] at t2 ⊢
    exact seq_if1 (M1 := M) (or0 (M1 := M) (nt_of (b := true) (isstr_ok rfl)) t2) (ret_of rfl)
def LET : Str := "abcdefghijklmnopqrstuvwxyz"
def nameb (cs : List Nat) : Bool := decide (1 ≤ cs.length) && decide (cs.length ≤ 8) && allIn "abcdefghijklmnopqrstuvwxyz" cs
theorem name_sp {x : Str} {M : Mh} (hx : x.length ≤ 1000000) : ff_is_name [.str x] M = some (.bl (nameb (TL.tl x)), M) := by
  refine fn_rt ?_
  show gg_is_name [some (.str x)] M = _
  unfold gg_is_name
  exact ret_of (call_of (cons_of rfl (cons_of x_eC (cons_of x_eC x_aNil))) (text_spG (m := 8) hx (by decide)))
/-- what is none of the signs -/
theorem other_goG (S : Str) (M : Mh) (a b z : Option D) (r : Pl.Env) : ∀ cs : List Nat, lcGo (gN 2) (tV (eOp (gIn fun b => !b) (eVar 2) (eC (.str S)))) (eVar 2) (cs.map fun s => .str ⟨#[s]⟩) (a :: b :: z :: r) M = some ((cs.filter fun s => !decide (s ∈ S.cps.toList)).map fun s => .str ⟨#[s]⟩, M)
  | [] => rfl
  | s :: cs => by
    have e : tV (eOp (gIn fun b => !b) (eVar 2) (eC (.str S))) (a :: b :: some (.str ⟨#[s]⟩) :: r) M = some (!decide (s ∈ S.cps.toList), M) := v_bl (op_of rfl rfl rfl)
    have e2 : eVar 2 (a :: b :: some (.str ⟨#[s]⟩) :: r) M = some (.str ⟨#[s]⟩, M) := rfl
    rw [List.map_cons]
    unfold lcGo
    dsimp only [gN, List.set_cons_succ, List.set_cons_zero]
    rw [List.filter_cons]
    cases hd : decide (s ∈ S.cps.toList) with
    | true =>
      rw [hd] at e
      have e' : tV (eOp (gIn fun b => !b) (eVar 2) (eC (.str S))) (a :: b :: some (.str ⟨#[s]⟩) :: r) M = some (false, M) := e
      rw [e', if_neg (by decide)]
      exact other_goG S M a b z r cs
    | false =>
      rw [hd] at e
      have e' : tV (eOp (gIn fun b => !b) (eVar 2) (eC (.str S))) (a :: b :: some (.str ⟨#[s]⟩) :: r) M = some (true, M) := e
      rw [e', if_pos (by decide)]
      dsimp only
      rw [e2]
      dsimp only
      rw [other_goG S M a b z r cs]
      rfl
theorem others_lc {S x : Str} {M : Mh} {b z : Option D} {r : Pl.Env} (hx : x.length ≤ 1000000) : eLc [2] (aSigns (eVar 0)) (gN 2) (tV (eOp (gIn fun b => !b) (eVar 2) (eC (.str S)))) (eVar 2) (some (.str x) :: b :: z :: r) M = some (.lst (((TL.tl x).filter fun s => !decide (s ∈ S.cps.toList)).map fun s => .str ⟨#[s]⟩), M) := by
  unfold eLc
  have e : aSigns (eVar 0) (some (.str x) :: b :: z :: r) M = some ((TL.tl x).map fun s => .str ⟨#[s]⟩, M) := rfl
  rw [e]
  dsimp only [wipeD, List.set_cons_succ, List.set_cons_zero]
  rw [other_goG S M _ _ _ _ _]
  dsimp only
  rw [if_pos]
  rw [List.length_map]
  exact Nat.le_trans (List.length_filter_le _ _) (Nat.le_trans (by rw [← str_len]; exact hx) (by decide))
theorem others_all (S : Str) (cs : List Nat) : (cs.filter fun s => !decide (s ∈ S.cps.toList)).isEmpty = allIn S cs := by
  induction cs with
  | nil => rfl
  | cons c cs ih =>
    rw [List.filter_cons, allIn, List.all_cons]
    cases decide (c ∈ S.cps.toList) with
    | true => rw [if_neg (by simp), ih]; rfl
    | false => rw [if_pos (by simp)]; rfl
theorem eq_strs1 {L : List Nat} {M : Mh} (h : ∀ s ∈ L, s < 1114112) : gEq PyData.eqv (.lst (L.map fun s => .str ⟨#[s]⟩)) (.lst []) M = some (.bl L.isEmpty, M) := by
  obtain ⟨h1, h2⟩ := lay_strs L h
  have s1 : SeqAt.shaped (.list (L.map fun s => .str ⟨#[s]⟩)) = true := by
    simp only [SeqAt.shaped, Bool.and_eq_true, decide_eq_true_eq]
    rw [PyData.canLay0, PyData.depth]
    exact ⟨h1, by omega⟩
  have s2 : SeqAt.shaped (.list []) = true := by decide +kernel
  simp only [gEq, deref, toP, toPs_strs, toPs, s1, s2, Bool.and_self, if_true]
  cases L with
  | nil => simp [PyData.eqv, PyData.eqvAll]
  | cons s L => simp [PyData.eqv, PyData.eqvAll]
/-- where a figure stands -/
theorem idx_sp {c : Nat} (h : 48 ≤ c ∧ c ≤ 57) (M : Mh) : gIdx "0123456789" (.str ⟨#[c]⟩) M = some (.int ((c - 48 : Nat) : Int), M) := by
  have : c = 48 ∨ c = 49 ∨ c = 50 ∨ c = 51 ∨ c = 52 ∨ c = 53 ∨ c = 54 ∨ c = 55 ∨ c = 56 ∨ c = 57 := by omega
  have k : ∀ n : Nat, n < 10 → Builtin.Str.occurrences ("0123456789" : Str) ⟨#[48 + n]⟩ 0 ("0123456789" : Str).length 1 = [n] := by decide +kernel
  have e := k (c - 48) (by omega)
  rw [show 48 + (c - 48) = c by omega] at e
  simp only [gIdx, e]
theorem forGo_nx {g : GF} {b : SF} {x : D} {xs : List D} {δ δ1 δ' : Pl.Env} {M M' : Mh} {r : Option Out} (h1 : g x δ = some δ1) (h2 : b δ1 M = some (.nx δ' M')) (h3 : forGo g b xs δ' M' = r) : forGo g b (x :: xs) δ M = r := by
  unfold forGo
  rw [h1]
  dsimp only
  rw [h2]
  exact h3
def K8 : Nat → Nat
  | 0 => 100000
  | 1 => 10000
  | 2 => 1000
  | 3 => 100
  | _ => 10
theorem fold_go (M : Mh) (a b : Option D) (cs : List Nat) : ∀ (n : Nat) (w : Option D), NumText.AllDigits cs → cs.length ≤ 4 → n < K8 cs.length → ∃ z', forGo (gN 2) (sAs (eOp gAdd (eOp gMul (eVar 3) (eC (.int 10))) (eS1 gIdx (eC (.str "0123456789")) (eVar 2))) (gN 3)) (cs.map fun s => .str ⟨#[s]⟩) [a, b, w, some (.int (n : Int))] M = some (.nx [a, b, z', some (.int ((cs.foldl (fun acc c => acc * 10 + (c - 48)) n : Nat) : Int))] M) := by
  induction cs with
  | nil => exact fun n w _ _ _ => ⟨w, rfl⟩
  | cons c cs ih =>
    intro n w h hl hn
    have hc := h c List.mem_cons_self
    rw [List.length_cons] at hl hn
    have nb : n * 10 + (c - 48) < K8 cs.length ∧ n < 100000 := by
      have : cs.length = 0 ∨ cs.length = 1 ∨ cs.length = 2 ∨ cs.length = 3 := by omega
      rcases this with e | e | e | e <;> rw [e] at hn ⊢ <;> simp only [K8, Nat.reduceAdd] at hn ⊢ <;> omega
    obtain ⟨z', e⟩ := ih (n * 10 + (c - 48)) (some (.str ⟨#[c]⟩)) (fun d hd => h d (List.mem_cons_of_mem _ hd)) (by omega) nb.1
    have nb2 := nb.2
    refine ⟨z', ?_⟩
    have st : sAs (eOp gAdd (eOp gMul (eVar 3) (eC (.int 10))) (eS1 gIdx (eC (.str "0123456789")) (eVar 2))) (gN 3) [a, b, some (.str ⟨#[c]⟩), some (.int (n : Int))] M = some (.nx [a, b, some (.str ⟨#[c]⟩), some (.int ((n * 10 + (c - 48) : Nat) : Int))] M) := by
      refine as_of (d := .int ((n * 10 + (c - 48) : Nat) : Int)) (op_of (op_of rfl rfl (mul_int (mulOk (a := 64) (b := 64) (by omega) (by decide) (by decide)))) (M2 := M) (b := .int ((c - 48 : Nat) : Int)) ?_ ?_) rfl
      · exact idx_sp hc M
      · show some (D.int ((n : Int) * 10 + ((c - 48 : Nat) : Int)), M) = _
        rw [Int.natCast_add, Int.natCast_mul]
        rfl
    rw [List.map_cons, List.foldl_cons]
    exact forGo_nx rfl st e
end Law

namespace Law
open PySem L2 Pl
theorem lnumber_sp {x : Str} {M : Mh} (hx : x.length ≤ 1000000) (hs : SOk x) : ff_law_number [.str x] M = some (optN (numOf (TL.tl x)), M) := by
  refine fn_rt ?_
  show gg_law_number [some (.str x), none, none, none] M = _
  unfold gg_law_number
  refine seq_as (M1 := M) (δ' := [some (.str x), some (.lst (((TL.tl x).filter fun s => !decide (s ∈ ("0123456789" : Str).cps.toList)).map fun s => .str ⟨#[s]⟩)), none, none]) (others_lc hx) rfl ?_
  have k2 : tV (eOp (gEq fun p q => !PyData.eqv p q) (eVar 1) (eLst aNil)) [some (.str x), some (.lst (((TL.tl x).filter fun s => !decide (s ∈ ("0123456789" : Str).cps.toList)).map fun s => .str ⟨#[s]⟩)), none, none] M = some (!figs? (TL.tl x), M) := by
    refine v_bl (op_of rfl (x_eLst x_aNil (by simp)) ((ne_strs fun s h => hs s (List.mem_filter.mp h).1).trans ?_))
    rw [figs_filter]
  generalize (((TL.tl x).filter fun s => !decide (s ∈ ("0123456789" : Str).cps.toList)).map fun s => D.str ⟨#[s]⟩) = F at k2
  have k1 : tV (eOp (gEq PyData.eqv) (eVar 0) (eC (.str ""))) [some (.str x), some (.lst F), none, none] M = some (decide (x = ""), M) := v_bl (op_of rfl rfl (eq_str (strOk_of hs) (by decide +kernel) _))
  have k3 : ∀ n : Int, tV (eOp (gInt fun i j => .bl (decide (j < i))) (eB gLen (aCons (eVar 0) aNil)) (eC (.int n))) [some (.str x), some (.lst F), none, none] M = some (decide (n < ((TL.tl x).length : Nat)), M) := fun n => v_bl (op_of (len_sp (f := eVar 0) rfl hx) rfl (by rw [str_len]; rfl))
  cases hq : TL.tl x with
  | nil =>
    rw [decide_eq_true ((empty_iff x).mpr hq)] at k1
    exact seq_if1 (M1 := M) (or1 k1) (ret_of rfl)
  | cons c q =>
    rw [decide_eq_false (fun z => by have := (empty_iff x).mp z; rw [hq] at this; cases this)] at k1
    have l1 : decide (1 ≤ (TL.tl x).length) = true := decide_eq_true (by rw [hq, List.length_cons]; omega)
    rw [← hq]
    cases hf : figs? (TL.tl x) with
    | false =>
      rw [hf] at k2
      have : numOf (TL.tl x) = none := by
        simp only [numOf, isnum, hf, Bool.and_false, Bool.false_and]
        rfl
      rw [this]
      exact seq_if1 (M1 := M) (or0 (M1 := M) k1 (or1 k2)) (ret_of rfl)
    | true =>
      rw [hf] at k2
      have ad := figs_digits hf
      by_cases h4 : (TL.tl x).length ≤ 4
      · have k34 := k3 4
        rw [decide_eq_false (by omega)] at k34
        have k31 := k3 1
        have k5 : tV (eOp (gEq PyData.eqv) (eOp gIx (eVar 0) (eC (.int 0))) (eC (.str "0"))) [some (.str x), some (.lst F), none, none] M = some (decide ((⟨#[c]⟩ : Str) = "0"), M) := v_bl (op_of (op_of rfl rfl (first_sp hq hx)) rfl (eq_str (strOk_of fun s h => by have := List.mem_singleton.mp h; subst this; exact hs s (by rw [hq]; exact List.mem_cons_self)) (by decide +kernel) _))
        have fin : sSeq (sAs (eC (.int 0)) (gN 3)) (sSeq (sFor (aSigns (eVar 0)) (gN 2) (sAs (eOp gAdd (eOp gMul (eVar 3) (eC (.int 10))) (eS1 gIdx (eC (.str "0123456789")) (eVar 2))) (gN 3))) (sRet (eVar 3))) [some (.str x), some (.lst F), none, none] M = some (.rt (.int (NumText.digitsVal (TL.tl x))) M) := by
          refine seq_as (M1 := M) (δ' := [some (.str x), some (.lst F), none, some (.int 0)]) x_eC rfl ?_
          have kk : 0 < K8 (TL.tl x).length := by
            unfold K8
            split <;> decide
          obtain ⟨z', e⟩ := fold_go M (some (.str x)) (some (.lst F)) (TL.tl x) 0 none ad h4 kk
          refine seq_nx (M1 := M) (δ' := [some (.str x), some (.lst F), z', some (.int (NumText.digitsVal (TL.tl x)))]) ?_ (ret_of rfl)
          have es : aSigns (eVar 0) [some (.str x), some (.lst F), none, some (.int 0)] M = some ((TL.tl x).map fun s => .str ⟨#[s]⟩, M) := rfl
          unfold sFor
          rw [es]
          exact e
        by_cases hl : 1 < (TL.tl x).length
        · rw [decide_eq_true (by omega)] at k31
          by_cases hc : c = 48
          · rw [decide_eq_true ((one_iff c).mpr hc)] at k5
            have : numOf (TL.tl x) = none := by
              have h2 : (decide ((TL.tl x).head? = some 48) && decide (1 < (TL.tl x).length)) = true := by
                rw [decide_eq_true hl, hq, hc]; rfl
              simp only [numOf, isnum, h2, Bool.not_true, Bool.and_false]
              rfl
            rw [this]
            exact seq_if1 (M1 := M) (or0 (M1 := M) k1 (or0 (M1 := M) k2 (or0 (M1 := M) k34 (an1 (M1 := M) k31 k5)))) (ret_of rfl)
          · rw [decide_eq_false (fun e => hc ((one_iff c).mp e))] at k5
            have : numOf (TL.tl x) = some (NumText.digitsVal (TL.tl x)) := by
              have h2 : decide ((TL.tl x).head? = some 48) = false := decide_eq_false (by rw [hq]; exact fun e => hc (Option.some.inj e))
              simp only [numOf, isnum, l1, decide_eq_true h4, hf, h2, Bool.false_and]
              rfl
            rw [this]
            exact seq_if0 (M1 := M) (or0 (M1 := M) k1 (or0 (M1 := M) k2 (or0 (M1 := M) k34 (an1 (M1 := M) k31 k5)))) fin
        · rw [decide_eq_false (by omega)] at k31
          have : numOf (TL.tl x) = some (NumText.digitsVal (TL.tl x)) := by
            simp only [numOf, isnum, l1, decide_eq_true h4, hf, decide_eq_false hl, Bool.and_false]
            rfl
          rw [this]
          exact seq_if0 (M1 := M) (or0 (M1 := M) k1 (or0 (M1 := M) k2 (or0 (M1 := M) k34 (an0 k31)))) fin
      · have k34 := k3 4
        rw [decide_eq_true (by omega)] at k34
        have : numOf (TL.tl x) = none := by
          simp only [numOf, isnum, decide_eq_false h4, Bool.and_false, Bool.false_and]
          rfl
        rw [this]
        exact seq_if1 (M1 := M) (or0 (M1 := M) k1 (or0 (M1 := M) k2 (or1 k34))) (ret_of rfl)
theorem SOk.cut2 {x : Str} (h : SOk x) : SOk (L2.cutS x (some 1) none) := fun s hs => by
  rw [Law.cut2] at hs
  exact h s (List.mem_of_mem_drop hs)
theorem lsigned_sp {x : Str} {M : Mh} (hx : x.length ≤ 1000000) (hs : SOk x) : ff_law_signed [.str x] M = some (optI (sgnOf (TL.tl x)), M) := by
  refine fn_rt ?_
  show gg_law_signed [some (.str x), none] M = _
  unfold gg_law_signed
  have tst := minusN_sp (f := eVar 0) (δ := [some (.str x), none]) (M := M) hx hs rfl
  by_cases hm : (TL.tl x).take 1 = [45]
  · rw [decide_eq_true hm] at tst
    refine seq_if0 (M1 := M) tst ?_
    have nm := lnumber_sp (M := M) (cut2_len hx) hs.cut2
    rw [Law.cut2] at nm
    refine seq_as (M1 := M) (δ' := [some (.str x), some (optN (numOf ((TL.tl x).drop 1)))]) (call_of (cons_of (slL hx rfl) x_aNil) nm) rfl (ret_of ?_)
    unfold sgnOf
    rw [if_pos hm]
    cases hn : numOf ((TL.tl x).drop 1) with
    | none => exact ei_tt (M1 := M) (or1 (M1 := M) rfl) rfl
    | some n =>
      have z : tV (eOp (gEq PyData.eqv) (eVar 1) (eC (.int 0))) [some (.str x), some (optN (some n))] M = some (decide ((n : Int) = 0), M) := v_bl (op_of rfl rfl (eq_int _ _ _))
      by_cases h0 : n = 0
      · rw [decide_eq_true (by omega)] at z
        dsimp only
        rw [if_pos h0]
        exact ei_tt (M1 := M) (or0 (M1 := M) rfl z) rfl
      · rw [decide_eq_false (by omega)] at z
        dsimp only
        rw [if_neg h0]
        refine ei_ff (M1 := M) (or0 (M1 := M) rfl z) (op_of x_eC rfl ?_)
        show some (D.int (0 - (n : Int)), M) = _
        rw [Int.zero_sub]
        rfl
  · rw [decide_eq_false hm] at tst
    refine seq_if1 (M1 := M) tst (ret_of (call_of (cons_of rfl x_aNil) ?_))
    refine (lnumber_sp hx hs).trans ?_
    unfold sgnOf
    rw [if_neg hm]
    cases numOf (TL.tl x) <;> rfl
/-! ### what repr tells -/
theorem textFrom_ok : ∀ (ts : List Str) (k : Nat) (acc : Str), SOk acc → (∀ t ∈ ts, SOk t) → SOk (textFrom k acc ts)
  | [], _, _, h, _ => h
  | t :: r, k, acc, h, g => by
    refine textFrom_ok r (k + 1) (acc ++ (if k > 0 then ", " else "" : String) ++ t) (fun s hs => ?_) fun u hu => g u (List.mem_cons_of_mem _ hu)
    rw [TL.tl_append, TL.tl_append] at hs
    rcases List.mem_append.mp hs with hs | hs
    · rcases List.mem_append.mp hs with hs | hs
      · exact h s hs
      · have e1 : TL.tl (Str.ofString ", ") = [44, 32] := by decide +kernel
        have e2 : TL.tl (Str.ofString "") = [] := by decide +kernel
        split at hs
        · rw [e1] at hs
          simp only [List.mem_cons, List.not_mem_nil, or_false] at hs
          omega
        · rw [e2] at hs
          cases hs
    · exact g t List.mem_cons_self s hs
theorem textFrom_le (n : Nat) : ∀ (ts : List Str) (k : Nat) (acc : Str), (∀ t ∈ ts, t.length ≤ n) → (textFrom k acc ts).length ≤ acc.length + ts.length * (n + 2)
  | [], _, acc, _ => by show acc.length ≤ _; omega
  | t :: r, k, acc, h => by
    have ih := textFrom_le n r (k + 1) (acc ++ (if k > 0 then ", " else "" : String) ++ t) fun u hu => h u (List.mem_cons_of_mem _ hu)
    have h1 := h t List.mem_cons_self
    have e1 : (Str.ofString ", ").length = 2 := by decide +kernel
    have e2 : (Str.ofString "").length = 0 := by decide +kernel
    have e3 : (Str.ofString (if k > 0 then ", " else "")).length ≤ 2 := by
      split
      · rw [e1]; exact Nat.le_refl _
      · rw [e2]; omega
    show (textFrom (k + 1) (acc ++ (if k > 0 then ", " else "" : String) ++ t) r).length ≤ _
    rw [app_len, app_len] at ih
    rw [List.length_cons, Nat.add_mul]
    omega
/-- plain things -/
def Smp : D → Prop
  | .non => True
  | .bl _ => True
  | .int i => i.natAbs < 2 ^ 128
  | _ => False
theorem smp_ok {d : D} (h : Smp d) : ∃ p, toP d = some p ∧ p.showable = true ∧ p.canLay0 = true ∧ p.depth = 0 ∧ p.hasDict = false ∧ SOk p.shown ∧ p.shown.length ≤ 1921 := by
  match d, h with
  | .non, _ => exact ⟨.none, rfl, by decide +kernel, by decide +kernel, by decide +kernel, by decide +kernel, fun s hs => by
      have e : TL.tl (PyData.none).shown = [78, 111, 110, 101] := by decide +kernel
      rw [e] at hs
      simp only [List.mem_cons, List.not_mem_nil, or_false] at hs
      omega, by decide +kernel⟩
  | .bl b, _ =>
    have g : ∀ b : Bool, (TL.tl (PyData.bool b).shown).all (fun s => decide (s < 1114112)) = true ∧ (PyData.bool b).shown.length ≤ 1921 ∧ (PyData.bool b).showable = true ∧ (PyData.bool b).canLay0 = true ∧ (PyData.bool b).depth = 0 ∧ (PyData.bool b).hasDict = false := by decide +kernel
    obtain ⟨a1, a2, a3, a4, a5, a6⟩ := g b
    exact ⟨.bool b, rfl, a3, a4, a5, a6, fun s hs => of_decide_eq_true (List.all_eq_true.mp a1 s hs), a2⟩
  | .int i, h =>
    have l1 : i.natAbs.log2 < 1920 := lg h
    exact ⟨.int i, rfl, by simp [PyData.showable, l1], by simp [PyData.canLay0], by simp [PyData.depth], by simp [PyData.hasDict], TT_ok i, PyProof.Rows.int_text_len_1921 l1⟩
theorem smps_ok : ∀ L : List D, (∀ d ∈ L, Smp d) → ∃ ps, toPs L = some ps ∧ PyData.showableAll ps = true ∧ PyData.canLayAll0 ps = true ∧ PyData.depthAll ps = 0 ∧ PyData.hasDictAll ps = false ∧ (∀ t ∈ PyData.shownAll ps, SOk t ∧ t.length ≤ 1921) ∧ (PyData.shownAll ps).length = L.length
  | [], _ => ⟨[], rfl, by simp [PyData.showableAll], by simp [PyData.canLayAll0], by simp [PyData.depthAll], by simp [PyData.hasDictAll], (fun t ht => by rw [PyData.shownAll] at ht; exact absurd ht (by simp)), (by rw [PyData.shownAll]; rfl)⟩
  | d :: L, h => by
    obtain ⟨p, e, a1, a2, a3, a4, a5, a6⟩ := smp_ok (h d List.mem_cons_self)
    obtain ⟨ps, f, b1, b2, b3, b4, b5, b6⟩ := smps_ok L fun x hx => h x (List.mem_cons_of_mem _ hx)
    refine ⟨p :: ps, by rw [toPs, e, f], by rw [PyData.showableAll, a1, b1]; rfl, by rw [PyData.canLayAll0, a2, b2]; rfl, by rw [PyData.depthAll, a3, b3]; rfl, by rw [PyData.hasDictAll, a4, b4]; rfl, fun t ht => ?_, ?_⟩
    · rw [PyData.shownAll] at ht
      rcases List.mem_cons.mp ht with z | z
      · rw [z]; exact ⟨a5, a6⟩
      · exact b5 t z
    · rw [PyData.shownAll, List.length_cons, List.length_cons, b6]
theorem repr_lst {L : List D} (h : ∀ d ∈ L, Smp d) (hl : L.length ≤ 100) : ∃ s : Str, PyData.strOk s = true ∧ ∀ M, gReprX [.lst L] M = some (.str s, M) := by
  obtain ⟨ps, f, b1, b2, b3, b4, b5, b6⟩ := smps_ok L h
  have so : SOk (PyData.list ps).shown := by
    rw [PyData.shown, listText]
    intro s hs
    rw [TL.tl_append] at hs
    rcases List.mem_append.mp hs with z | z
    · refine textFrom_ok _ _ _ (fun s hs => ?_) (fun t ht => (b5 t ht).1) s z
      have e : TL.tl (Str.ofString "[") = [91] := by decide +kernel
      rw [e] at hs
      have := List.mem_singleton.mp hs
      omega
    · have e : TL.tl (Str.ofString "]") = [93] := by decide +kernel
      rw [e] at z
      have := List.mem_singleton.mp z
      omega
  have ln : (PyData.list ps).shown.length ≤ 200000 := by
    rw [PyData.shown, listText, app_len]
    have t := textFrom_le 1921 (PyData.shownAll ps) 0 "[" fun t ht => (b5 t ht).2
    have e1 : (Str.ofString "[").length = 1 := by decide +kernel
    have e2 : (Str.ofString "]").length = 1 := by decide +kernel
    rw [e1] at t
    rw [e2]
    have : (PyData.shownAll ps).length * (1921 + 2) ≤ 100 * (1921 + 2) := Nat.mul_le_mul_right _ (by omega)
    omega
  have ok : reprOk (.list ps) = true := by
    have s1 : SeqAt.shaped (.list ps) = true := by simp [SeqAt.shaped, PyData.canLay0, PyData.depth, b2, b3]
    have l3 : (PyData.list ps).shown.length ≤ sizeLine := Nat.le_trans ln (by decide)
    simp [reprOk, s1, PyData.showable, PyData.hasDict, b1, b4, l3]
  refine ⟨(PyData.list ps).shown, strOk_of so, fun M => ?_⟩
  show gRepr [.lst L] M = _
  simp only [gRepr, deref, toP, f, ok, if_true]
end Law

namespace Law
open PySem L2 Pl
theorem t32 : TL.tl (" " : Str) = [32] := by decide +kernel
theorem spl_mem (S : List Nat) : ∀ (l : List Nat) (k : Nat) (acc : List Nat), ∀ p ∈ TL.spl S k acc l, ∀ s ∈ p, s ∈ acc ∨ s ∈ l := fun l => by
  induction l with
  | nil =>
    intro k acc p hp s hs
    rw [TL.spl_nil] at hp
    rw [List.mem_singleton.mp hp] at hs
    exact .inl hs
  | cons c l ih =>
    intro k acc p hp s hs
    cases k with
    | succ k =>
      rw [TL.spl_pass S (k + 1) acc (c :: l), List.drop_succ_cons, ← TL.spl_pass S k acc l] at hp
      rcases ih k acc p hp s hs with z | z
      · exact .inl z
      · exact .inr (List.mem_cons_of_mem _ z)
    | zero =>
      cases hq : TL.pre S (c :: l) with
      | true =>
        rw [TL.spl_hit hq] at hp
        rcases List.mem_cons.mp hp with e | hp
        · rw [e] at hs
          exact .inl hs
        · rcases ih _ _ p hp s hs with z | z
          · cases z
          · exact .inr (List.mem_cons_of_mem _ z)
      | false =>
        rw [TL.spl_miss hq] at hp
        rcases ih _ _ p hp s hs with z | z
        · rcases List.mem_append.mp z with z | z
          · exact .inl z
          · exact .inr (by rw [List.mem_singleton.mp z]; exact List.mem_cons_self)
        · exact .inr (List.mem_cons_of_mem _ z)
theorem split_tlB (x : Str) : (Txt.split x " ").map TL.tl = TL.spl [32] 0 [] (TL.tl x) := by
  have := TL.split_spl x (" " : Str) (by rw [t32]; exact fun z => nomatch z) (TL.kind_ok (by decide +kernel))
  rw [t32] at this
  exact this
theorem parts_ok {x : Str} (hs : SOk x) : ∀ y ∈ Txt.split x " ", SOk y := fun y hy s h => by
  have : TL.tl y ∈ TL.spl [32] 0 [] (TL.tl x) := by
    rw [← split_tlB]
    exact List.mem_map_of_mem hy
  rcases spl_mem _ _ _ _ _ this s h with z | z
  · cases z
  · exact hs s z
theorem toPs_S : ∀ L : List Str, toPs (L.map D.str) = some (L.map PyData.str)
  | [] => rfl
  | s :: L => by rw [List.map_cons, toPs, toP, toPs_S L]; rfl
theorem lay_S : ∀ L : List Str, (∀ s ∈ L, SOk s) → PyData.canLayAll0 (L.map PyData.str) = true ∧ PyData.depthAll (L.map PyData.str) ≤ 1
  | [], _ => by simp [PyData.canLayAll0, PyData.depthAll]
  | s :: L, h => by
    obtain ⟨h1, h2⟩ := lay_S L fun q hq => h q (List.mem_cons_of_mem _ hq)
    have h3 := str_sh (x := s) (strOk_of (h s List.mem_cons_self))
    simp only [SeqAt.shaped, Bool.and_eq_true, decide_eq_true_eq] at h3
    have d0 : (PyData.str s).depth ≤ 1 := by simp [PyData.depth]
    rw [List.map_cons, PyData.canLayAll0, PyData.depthAll]
    refine ⟨by rw [h3.1, h1]; rfl, ?_⟩
    omega
theorem shaped_S {L : List Str} (h : ∀ s ∈ L, SOk s) : SeqAt.shaped (.list (L.map PyData.str)) = true := by
  obtain ⟨h1, h2⟩ := lay_S L h
  simp only [SeqAt.shaped, Bool.and_eq_true, decide_eq_true_eq]
  rw [PyData.canLay0, PyData.depth]
  exact ⟨h1, by omega⟩
theorem any_S (y : Str) : ∀ L : List Str, (L.map PyData.str).any (fun z => PyData.eqv z (.str y)) = decide (y ∈ L)
  | [] => by simp
  | s :: L => by
    rw [List.map_cons, List.any_cons, any_S y L, eqv_str]
    by_cases h : s = y
    · rw [decide_eq_true h, decide_eq_true (List.mem_cons.mpr (.inl h.symm))]; rfl
    · rw [decide_eq_false h, Bool.false_or]
      by_cases g : y ∈ L
      · rw [decide_eq_true g, decide_eq_true (List.mem_cons_of_mem _ g)]
      · rw [decide_eq_false g, decide_eq_false]
        intro z
        rcases List.mem_cons.mp z with z | z
        · exact h z.symm
        · exact g z
theorem in_S {L : List Str} {M : Mh} (h : ∀ s ∈ L, SOk s) : gIn (fun b => b) (.str "") (.lst (L.map D.str)) M = some (.bl (decide (("" : Str) ∈ L)), M) := by
  have s1 := shaped_S h
  have s2 : SeqAt.shaped (.str "") = true := by decide +kernel
  show (match toP (deref M (.str "")), toP (deref M (.lst (L.map D.str))) with
    | some p, some (.tuple ps) => if SeqAt.shaped p && SeqAt.shaped (.tuple ps) then some (D.bl (ps.any fun z => PyData.eqv z p), M) else none
    | some p, some (.list ps) => if SeqAt.shaped p && SeqAt.shaped (.list ps) then some (D.bl (ps.any fun z => PyData.eqv z p), M) else none
    | _, _ => none) = _
  simp only [deref, toP, toPs_S, s1, s2, Bool.and_self, if_true, any_S]
theorem eqv_S : ∀ L : List Str, PyData.eqvAll (L.map PyData.str) (L.map PyData.str) = true
  | [] => by simp [PyData.eqvAll]
  | s :: L => by rw [List.map_cons, PyData.eqvAll, eqv_str, decide_eq_true rfl, eqv_S L]; rfl
theorem same_S {L : List Str} {M : Mh} (h : ∀ s ∈ L, SOk s) : gEq PyData.eqv (.lst (L.map D.str)) (.lst (L.map D.str)) M = some (.bl true, M) := by
  have s1 := shaped_S h
  simp only [gEq, deref, toP, toPs_S, s1, Bool.and_self, if_true]
  rw [PyData.eqv, eqv_S]
theorem split_of {x : Str} {f : EF} {δ : Pl.Env} {M : Mh} (hx : x.length ≤ 1000000) (h : f δ M = some (.str x, M)) : eS1 gSplit f (eC (.str " ")) δ M = some (.lst ((Txt.split x " ").map D.str), M) := by
  unfold eS1
  rw [h]
  dsimp only
  rw [x_eC]
  show (if ((" " : Str).length == 0) = false ∧ x.length + 2 ≤ sizeLine then some (D.lst ((Txt.split x " ").map D.str), M) else none) = _
  rw [if_pos ⟨by decide +kernel, Nat.le_trans (show _ ≤ 1000002 by omega) (by decide)⟩]
def wordsD (x : Str) : D := if ("" : Str) ∈ Txt.split x " " then .non else .lst ((Txt.split x " ").map D.str)
theorem words_sp {x : Str} {M : Mh} (hx : x.length ≤ 1000000) (hs : SOk x) : ff_words_of [.str x] M = some (wordsD x, M) := by
  refine fn_rt ?_
  show gg_words_of [some (.str x), none] M = _
  unfold gg_words_of
  refine seq_if0 (M1 := M) (nt_of (b := true) (isstr_ok rfl)) ?_
  have sp := split_of (x := x) (f := eVar 0) (δ := [some (.str x), none]) (M := M) hx rfl
  have po := parts_ok hs
  unfold wordsD
  generalize Txt.split x " " = L at sp po
  refine seq_as (M1 := M) (δ' := [some (.str x), some (.lst (L.map D.str))]) sp rfl ?_
  have t : tV (eOp (gIn fun b => b) (eC (.str "")) (eVar 1)) [some (.str x), some (.lst (L.map D.str))] M = some (decide (("" : Str) ∈ L), M) := v_bl (op_of x_eC rfl (in_S po))
  by_cases h : ("" : Str) ∈ L
  · rw [decide_eq_true h] at t
    rw [if_pos h]
    exact seq_if1 (M1 := M) t (ret_of rfl)
  · rw [decide_eq_false h] at t
    rw [if_neg h]
    exact seq_if0 (M1 := M) t (ret_of rfl)
theorem whole_str {x : Str} (M : Mh) : ff_is_whole [.str x] M = some (.bl false, M) := by
  refine fn_rt ?_
  show gg_is_whole [some (.str x)] M = _
  unfold gg_is_whole
  refine ret_of ?_
  have k : kitB "str" "int" = some false := by decide +kernel
  have e : eB gIsi (aCons (eVar 0) (aCons (eC (.ty "int")) aNil)) [some (.str x)] M = some (.bl false, M) := by
    rw [x_eB, cons_of (d := .str x) (M1 := M) rfl (cons_of x_eC x_aNil)]
    simp [gIsi, tyN, k]
  unfold eAn
  rw [e]
theorem among_str {x : Str} (M : Mh) (d e : D) : ff_is_among [.str x, d, e] M = some (.bl false, M) := by
  refine fn_rt ?_
  show gg_is_among [some (.str x), some d, some e] M = _
  unfold gg_is_among
  exact seq_if1 (M1 := M) (or1 (M1 := M) (nt_of (b := false) (v_bl (call_of (cons_of rfl x_aNil) (whole_str M))))) (ret_of rfl)
theorem optN_smp {cs : List Nat} : Smp (optN (numOf cs)) := by
  cases h : numOf cs with
  | none => exact trivial
  | some n =>
    show ((n : Int)).natAbs < 2 ^ 128
    have := num_small h
    exact Nat.lt_of_lt_of_le (show _ < 2 ^ 100 by omega) (by decide)
theorem optI_smp {cs : List Nat} : Smp (optI (sgnOf cs)) := by
  unfold sgnOf
  split
  · cases h : numOf (cs.drop 1) with
    | none => exact trivial
    | some n =>
      dsimp only
      split
      · exact trivial
      · show (-(n : Int)).natAbs < 2 ^ 128
        have := num_small h
        rw [Int.natAbs_neg]
        exact Nat.lt_of_lt_of_le (show _ < 2 ^ 100 by omega) (by decide)
  · cases h : numOf cs with
    | none => exact trivial
    | some n =>
      show ((n : Int)).natAbs < 2 ^ 128
      have := num_small h
      exact Nat.lt_of_lt_of_le (show _ < 2 ^ 100 by omega) (by decide)
end Law

namespace Law
open PySem L2 Pl
theorem tup_list (M : Mh) (L : List D) (f : EF) (δ : Pl.Env) (h : f δ M = some (.lst L, M)) : eB gIsi (aCons f (aCons (eC (.ty "list")) aNil)) δ M = some (.bl true, M) := by
  have k : kitB "list" "list" = some true := by decide +kernel
  rw [x_eB, cons_of h (cons_of x_eC x_aNil)]
  simp [gIsi, tyN, k]
theorem an_of1 {f g : EF} {δ : Pl.Env} {M M1 : Mh} {r : Option (D × Mh)} (h : f δ M = some (.bl true, M1)) (k : g δ M1 = r) : eAn f g δ M = r := by
  unfold eAn; rw [h]; exact k
theorem an_of0 {f g : EF} {δ : Pl.Env} {M M1 : Mh} (h : f δ M = some (.bl false, M1)) : eAn f g δ M = some (.bl false, M1) := by
  unfold eAn; rw [h]
theorem par_e {i j : Nat} {f g : EF} {δ : Pl.Env} {M M1 M2 : Mh} {d e : D} (h : f δ M = some (d, M1)) (k : g δ M1 = some (e, M2)) : sPar i j f g δ M = some (.nx ((δ.set i (some d)).set j (some e)) M2) := by
  unfold sPar; rw [h]; dsimp only; rw [k]
theorem right_sp {x : Str} {M : Mh} (hx : x.length ≤ 1000000) (hs : SOk x) : ff_law_word_right [.str x] M = some (.bl true, M) := by
  refine fn_rt ?_
  show gg_law_word_right [some (.str x), none, none, none, none, none] M = _
  unfold gg_law_word_right
  refine seq_as (M1 := M) (δ' := [some (.str x), some (.lst (((TL.tl x).filter fun s => !decide (s ∈ ("abcdefghijklmnopqrstuvwxyz" : Str).cps.toList)).map fun s => .str ⟨#[s]⟩)), none, none, none, none]) (others_lc hx) rfl ?_
  have k2 : eOp (gEq PyData.eqv) (eVar 1) (eLst aNil) [some (.str x), some (.lst (((TL.tl x).filter fun s => !decide (s ∈ ("abcdefghijklmnopqrstuvwxyz" : Str).cps.toList)).map fun s => .str ⟨#[s]⟩)), none, none, none, none] M = some (.bl (allIn "abcdefghijklmnopqrstuvwxyz" (TL.tl x)), M) := by
    refine op_of rfl (x_eLst x_aNil (by simp)) ((eq_strs1 fun s h => hs s (List.mem_filter.mp h).1).trans ?_)
    rw [others_all]
  generalize (((TL.tl x).filter fun s => !decide (s ∈ ("abcdefghijklmnopqrstuvwxyz" : Str).cps.toList)).map fun s => D.str ⟨#[s]⟩) = F at k2
  have ch : eAn (eChain (gInt fun i j => .bl (decide (i < j))) (gInt fun i j => .bl (decide (i < j))) (eC (.int 0)) (eB gLen (aCons (eVar 0) aNil)) (eC (.int 9))) (eOp (gEq PyData.eqv) (eVar 1) (eLst aNil)) [some (.str x), some (.lst F), none, none, none, none] M = some (.bl (nameb (TL.tl x)), M) := by
    have c1 : eChain (gInt fun i j => .bl (decide (i < j))) (gInt fun i j => .bl (decide (i < j))) (eC (.int 0)) (eB gLen (aCons (eVar 0) aNil)) (eC (.int 9)) [some (.str x), some (.lst F), none, none, none, none] M = some (.bl (decide (1 ≤ (TL.tl x).length) && decide ((TL.tl x).length ≤ 8)), M) := by
      unfold eChain
      rw [x_eC]
      dsimp only
      rw [len_sp (f := eVar 0) rfl hx, str_len]
      by_cases h1 : 1 ≤ (TL.tl x).length
      · have b1 : decide ((0 : Int) < ((TL.tl x).length : Nat)) = true := decide_eq_true (by omega)
        have b2 : decide ((((TL.tl x).length : Nat) : Int) < 9) = decide ((TL.tl x).length ≤ 8) := by
          by_cases h4 : (TL.tl x).length ≤ 8
          · rw [decide_eq_true h4]; exact decide_eq_true (by omega)
          · rw [decide_eq_false h4]; exact decide_eq_false (by omega)
        rw [decide_eq_true h1]
        simp only [gInt, x_eC, b1, b2, Bool.true_and]
      · have b1 : decide ((0 : Int) < ((TL.tl x).length : Nat)) = false := decide_eq_false (by omega)
        rw [decide_eq_false h1]
        simp only [gInt, b1, Bool.false_and]
    unfold nameb
    cases hb : (decide (1 ≤ (TL.tl x).length) && decide ((TL.tl x).length ≤ 8)) with
    | true =>
      rw [hb] at c1
      rw [Bool.true_and]
      exact an_of1 c1 k2
    | false =>
      rw [hb] at c1
      rw [Bool.false_and]
      exact an_of0 c1
  have due : ∀ δ : Pl.Env, δ = [some (.str x), some (.lst F), none, none, none, none] → eLst (aCons (eAn (eChain (gInt fun i j => .bl (decide (i < j))) (gInt fun i j => .bl (decide (i < j))) (eC (.int 0)) (eB gLen (aCons (eVar 0) aNil)) (eC (.int 9))) (eOp (gEq PyData.eqv) (eVar 1) (eLst aNil))) (aCons (eCall ff_law_number (aCons (eVar 0) aNil) []) (aCons (eCall ff_law_signed (aCons (eVar 0) aNil) []) (aCons (eC (.bl false)) (aCons (eC (.bl false)) aNil))))) δ M = some (.lst [.bl (nameb (TL.tl x)), optN (numOf (TL.tl x)), optI (sgnOf (TL.tl x)), .bl false, .bl false], M) := fun δ e => by
    subst e
    exact x_eLst (cons_of ch (cons_of (call_of (cons_of rfl x_aNil) (lnumber_sp hx hs)) (cons_of (call_of (cons_of rfl x_aNil) (lsigned_sp hx hs)) (cons_of x_eC (cons_of x_eC x_aNil))))) (by simp)
  refine seq_as (M1 := M) (δ' := [some (.str x), some (.lst F), none, some (.lst [.bl (nameb (TL.tl x)), optN (numOf (TL.tl x)), optI (sgnOf (TL.tl x)), .bl false, .bl false]), none, none]) (due _ rfl) rfl ?_
  have fnd : ∀ δ : Pl.Env, eVar 0 δ M = some (.str x, M) → eLst (aCons (eCall ff_is_name (aCons (eVar 0) aNil) []) (aCons (eCall ff_number_of (aCons (eVar 0) aNil) []) (aCons (eCall ff_signed_of (aCons (eVar 0) aNil) []) (aCons (eCall ff_is_whole (aCons (eVar 0) aNil) []) (aCons (eCall ff_is_among (aCons (eVar 0) (aCons (eC (.int 0)) (aCons (eC (.int 9)) aNil))) []) aNil))))) δ M = some (.lst [.bl (nameb (TL.tl x)), optN (numOf (TL.tl x)), optI (sgnOf (TL.tl x)), .bl false, .bl false], M) := fun δ e =>
    x_eLst (cons_of (call_of (cons_of e x_aNil) (name_sp hx)) (cons_of (call_of (cons_of e x_aNil) (number_sp hx)) (cons_of (call_of (cons_of e x_aNil) (signed_sp hx hs)) (cons_of (call_of (cons_of e x_aNil) (whole_str M)) (cons_of (call_of (cons_of e (cons_of x_eC (cons_of x_eC x_aNil))) (among_str M _ _)) x_aNil))))) (by simp)
  obtain ⟨r, ro, er⟩ := repr_lst (L := [.bl (nameb (TL.tl x)), optN (numOf (TL.tl x)), optI (sgnOf (TL.tl x)), .bl false, .bl false]) (fun d hd => by
    simp only [List.mem_cons, List.not_mem_nil, or_false] at hd
    rcases hd with e | e | e | e | e <;> rw [e]
    · exact trivial
    · exact optN_smp
    · exact optI_smp
    · exact trivial
    · exact trivial) (by simp)
  generalize D.lst [.bl (nameb (TL.tl x)), optN (numOf (TL.tl x)), optI (sgnOf (TL.tl x)), .bl false, .bl false] = T at fnd er
  refine seq_if0 (M1 := M) (v_bl (op_of (a := .str r) (b := .str r) (M1 := M) (M2 := M) ?_ ?_ ((ne_str ro ro M).trans (by rw [decide_eq_true rfl]; rfl)))) ?_
  · rw [x_eB, cons_of (fnd _ rfl) x_aNil]
    exact er M
  · rw [x_eB, cons_of (d := T) (M1 := M) rfl x_aNil]
    exact er M
  have sp := split_of (x := x) (f := eVar 0) (δ := [some (.str x), some (.lst F), none, some T, none, none]) (M := M) hx rfl
  have po := parts_ok hs
  have ws := words_sp (M := M) hx hs
  unfold wordsD at ws
  generalize Txt.split x " " = L at sp po ws
  by_cases h : ("" : Str) ∈ L
  · rw [if_pos h] at ws
    refine seq_nx (M1 := M) (δ' := [some (.str x), some (.lst F), none, some T, some (.lst (L.map D.str)), some .non]) (par_e sp (call_of (cons_of rfl x_aNil) ws)) ?_
    have t : tV (eOp (gIn fun b => b) (eC (.str "")) (eVar 4)) [some (.str x), some (.lst F), none, some T, some (.lst (L.map D.str)), some .non] M = some (decide (("" : Str) ∈ L), M) := v_bl (op_of x_eC rfl (in_S po))
    rw [decide_eq_true h] at t
    exact seq_if1 (M1 := M) t (ret_of rfl)
  · rw [if_neg h] at ws
    refine seq_nx (M1 := M) (δ' := [some (.str x), some (.lst F), none, some T, some (.lst (L.map D.str)), some (.lst (L.map D.str))]) (par_e sp (call_of (cons_of rfl x_aNil) ws)) ?_
    have t : tV (eOp (gIn fun b => b) (eC (.str "")) (eVar 4)) [some (.str x), some (.lst F), none, some T, some (.lst (L.map D.str)), some (.lst (L.map D.str))] M = some (decide (("" : Str) ∈ L), M) := v_bl (op_of x_eC rfl (in_S po))
    rw [decide_eq_false h] at t
    exact seq_if0 (M1 := M) t (ret_of (an_of1 (tup_list M (L.map D.str) (eVar 5) _ rfl) (op_of rfl rfl (same_S po))))
end Law

namespace Law
open PySem L2 Pl
theorem up128 : (List.range 128).all (fun c => (Unicode.upperOf c).all fun s => decide (s < 1114112)) = true := by decide +kernel
def AOk (x : Str) : Prop := ∀ s ∈ TL.tl x, s < 128
theorem AOk.s {x : Str} (h : AOk x) : SOk x := fun s hs => Nat.lt_trans (h s hs) (by decide)
theorem aok_of {x : Str} (h : (TL.tl x).all (fun s => decide (s < 128)) = true) : AOk x := fun s hs => of_decide_eq_true (List.all_eq_true.mp h s hs)
theorem upper_ok {x : Str} (h : AOk x) : SOk (Txt.upper x) := fun s hs => by
  have hs' : s ∈ (Txt.upper x).cps := Array.mem_toList_iff.mp hs
  unfold Txt.upper placed at hs'
  dsimp only at hs'
  rw [Array.mem_flatten] at hs'
  obtain ⟨a, ha, hsa⟩ := hs'
  rw [Array.mem_mapIdx] at ha
  obtain ⟨i, hi, e⟩ := ha
  rw [← e] at hsa
  have hc := h x.cps[i] (by show _ ∈ x.cps.toList; simp)
  have k := List.all_eq_true.mp up128 x.cps[i] (List.mem_range.mpr hc)
  exact of_decide_eq_true (List.all_eq_true.mp k s (by simpa using hsa))
theorem upper_w {x : Str} {n : Nat} (h : AOk x) (hl : x.length ≤ n) : Wd? (Txt.upper x) (3 * n) := ⟨Nat.le_trans (PyProof.Rows.len_upper x) (Nat.mul_le_mul_left _ hl), upper_ok h⟩
theorem sign_atA {z : Str} {i : Int} {M : Mh} (h0 : 0 ≤ i) (h1 : i < z.length) (hz : z.length ≤ 1000) (hs : AOk z) : ∃ c : Nat, gIx (.str z) (.int i) M = some (.str ⟨#[c]⟩, M) ∧ c < 128 := by
  have hl : i.toNat < (TL.tl z).length := by rw [← str_len]; omega
  refine ⟨(TL.tl z)[i.toNat], ?_, hs _ (List.getElem_mem _)⟩
  have e : L2.atI z.cps.toList i = some (TL.tl z)[i.toNat] := by
    show L2.atI (TL.tl z) i = _
    unfold L2.atI L2.ixN
    have hb2 : i < (z.cps.size : Int) := h1
    have hl2 : i.toNat < z.cps.size := by omega
    simp [h0, hb2, hl2]
  show (if z.length ≤ sizeLine then (L2.atI z.cps.toList i).map fun c => (D.str ⟨#[c]⟩, M) else none) = _
  rw [if_pos (Nat.le_trans hz (by decide)), e]; rfl
theorem dgcA {n : Nat} {M : Mh} {B many : Int} {δ : Pl.Env} {i : Nat} {fm : EF} {M1 : Mh} (h0 : δ[i]? = some (some (.ref n))) (hm : fm δ M = some (.int many, M1)) (h : At n B M1) (hB : B < 2 ^ 58) (m0 : 0 < many) (m1 : many < 2 ^ 200) : ∃ (f : Int) (M' : Mh), eCall ff_law_digit (aCons (eVar i) (aCons fm aNil)) [] δ M = some (.int f, M') ∧ At n (B + 4) M' ∧ 0 ≤ f ∧ f < many ∧ ∀ m, m ≠ n → M'[m]? = M1[m]? := by
  obtain ⟨f, M', e, p⟩ := digit_fr h hB m0 m1
  exact ⟨f, M', call_of (cons_of (by rw [x_eVar, h0]) (cons_of hm x_aNil)) e, p⟩
theorem draws_go {n : Nat} {S : Str} (hS : AOk S) (l1 : 1 ≤ S.length) (l2 : S.length ≤ 100) (a1 a3 a4 a6 a7 a8 : Option D) : ∀ (ds : List D) (z : Option D) (B : Int) (M : Mh), At n B M → B + 4 * ds.length < 2 ^ 58 →
    ∃ (cs : List Nat) (M' : Mh), lcGo (gN 5) tTrue (eOp gIx (eVar 2) (eCall ff_law_digit (aCons (eVar 0) (aCons (eB gLen (aCons (eVar 2) aNil)) aNil)) [])) ds [some (.ref n), a1, some (.str S), a3, a4, z, a6, a7, a8] M = some (cs.map fun c => .str ⟨#[c]⟩, M') ∧ At n (B + 4 * ds.length) M' ∧ cs.length = ds.length ∧ ∀ c ∈ cs, c < 128 := fun ds => by
  induction ds with
  | nil => exact fun z B M h _ => ⟨[], M, rfl, by simpa using h, rfl, fun c hc => nomatch hc⟩
  | cons d ds ih =>
    intro z B M h hB
    rw [List.length_cons] at hB
    have hm : eB gLen (aCons (eVar 2) aNil) [some (.ref n), a1, some (.str S), a3, a4, some d, a6, a7, a8] M = some (.int (S.length : Int), M) := len_sp (f := eVar 2) rfl (by omega)
    obtain ⟨f, M1, e1, p1, f0, f1, _⟩ := dgcA (i := 0) (δ := [some (.ref n), a1, some (.str S), a3, a4, some d, a6, a7, a8]) rfl hm h (by omega) (by omega) (Int.lt_of_le_of_lt (show _ ≤ (100 : Int) by omega) (by decide))
    obtain ⟨c, ec, hc⟩ := sign_atA (M := M1) f0 f1 (by omega) hS
    obtain ⟨cs, M2, e2, p2, l, hcs⟩ := ih z (B + 4) M1 p1 (by omega)
    refine ⟨c :: cs, M2, ?_, ?_, by rw [List.length_cons, List.length_cons, l], fun q hq => ?_⟩
    · have st : eOp gIx (eVar 2) (eCall ff_law_digit (aCons (eVar 0) (aCons (eB gLen (aCons (eVar 2) aNil)) aNil)) []) [some (.ref n), a1, some (.str S), a3, a4, some d, a6, a7, a8] M = some (.str ⟨#[c]⟩, M1) := op_of rfl e1 ec
      unfold lcGo
      dsimp only [gN, List.set_cons_succ, List.set_cons_zero, tTrue]
      rw [st]
      dsimp only
      rw [e2]
      rfl
    · rw [List.length_cons]
      have e : B + 4 * ((ds.length + 1 : Nat) : Int) = B + 4 + 4 * (ds.length : Int) := by omega
      rw [e]
      exact p2
    · rcases List.mem_cons.mp hq with z | z
      · rw [z]; exact hc
      · exact hcs q z
theorem strs_of1 : ∀ cs : List Nat, strsOf (cs.map fun c => D.str ⟨#[c]⟩) = some (cs.map fun c => (⟨#[c]⟩ : Str))
  | [] => rfl
  | c :: cs => by rw [List.map_cons, strsOf, strs_of1 cs]; rfl
theorem joinL1 : ∀ cs : List Nat, TL.joinL [] (cs.map fun c => [c]) = cs
  | [] => rfl
  | [c] => rfl
  | c :: d :: cs => by
    have ih := joinL1 (d :: cs)
    rw [List.map_cons] at ih
    show [c] ++ ([] ++ TL.joinL [] ([d] :: cs.map fun c => [c])) = _
    rw [List.nil_append, ih]
    rfl
theorem len1 : ∀ cs : List Nat, ((cs.map fun c => (⟨#[c]⟩ : Str)).map Str.length).sum = cs.length
  | [] => rfl
  | c :: cs => by
    rw [List.map_cons, List.map_cons, List.sum_cons, len1 cs, List.length_cons]
    show 1 + _ = _
    omega
theorem join_of {cs : List Nat} {M : Mh} (hc : cs.length ≤ 1000) (ha : ∀ c ∈ cs, c < 128) : ∃ x : Str, gJoin "" (.lst (cs.map fun c => .str ⟨#[c]⟩)) M = some (.str x, M) ∧ x.length = cs.length ∧ AOk x := by
  have te : TL.tl ("" : Str) = [] := by decide +kernel
  have tj : TL.tl (Txt.join "" (cs.map fun c => (⟨#[c]⟩ : Str))) = cs := by
    rw [TL.join_eq, TL.tl_join, te, List.map_map]
    exact joinL1 cs
  refine ⟨Txt.join "" (cs.map fun c => (⟨#[c]⟩ : Str)), ?_, by rw [str_len, tj], fun s hs => by rw [tj] at hs; exact ha s hs⟩
  show (match strsOf (cs.map fun c => D.str ⟨#[c]⟩) with
    | some ys => if (ys.map Str.length).sum + ys.length * ("" : Str).length ≤ 16777216 then some (D.str (Txt.join "" ys), M) else none
    | none => none) = _
  rw [strs_of1]
  dsimp only
  have l0 : ("" : Str).length = 0 := by decide +kernel
  rw [if_pos (by rw [len1, l0, Nat.mul_zero, Nat.add_zero]; exact Nat.le_trans hc (by decide))]
end Law

namespace Law
open PySem L2 Pl
def EVS : Str := "!\"#$&'()*+,-./0123456789:;<=>?@ABCDEFGHIJKLMNOPQRSTUVWXYZ[\\]^_`abcdefghijklmnopqrstuvwxyz{|}~ \n"
theorem evs_ok : AOk EVS ∧ 1 ≤ EVS.length ∧ EVS.length ≤ 100 := ⟨aok_of (by decide +kernel), by decide +kernel, by decide +kernel⟩
theorem pick4 {f : Int} (h0 : 0 ≤ f) (h1 : f < 4) (M : Mh) : ∃ S : Str, gIx (.lst [.str "abcdefghijklmnopqrstuvwxyz", .str "0123456789", .str "a1 -", .str EVS]) (.int f) M = some (.str S, M) ∧ AOk S ∧ 1 ≤ S.length ∧ S.length ≤ 100 := by
  have : f = 0 ∨ f = 1 ∨ f = 2 ∨ f = 3 := by omega
  rcases this with e | e | e | e <;> rw [e]
  · exact ⟨_, rfl, aok_of (by decide +kernel), by decide +kernel, by decide +kernel⟩
  · exact ⟨_, rfl, aok_of (by decide +kernel), by decide +kernel, by decide +kernel⟩
  · exact ⟨_, rfl, aok_of (by decide +kernel), by decide +kernel, by decide +kernel⟩
  · exact ⟨_, rfl, evs_ok⟩
theorem pick2 {f : Int} (h0 : 0 ≤ f) (h1 : f < 2) (M : Mh) : ∃ m : Int, gIx (.lst [.int 101, .int 200000]) (.int f) M = some (.int m, M) ∧ 0 < m ∧ m ≤ 200000 := by
  have : f = 0 ∨ f = 1 := by omega
  rcases this with e | e <;> rw [e]
  · exact ⟨101, rfl, by decide, by decide⟩
  · exact ⟨200000, rfl, by decide, by decide⟩
theorem ap_S (A B : List Str) (M : Mh) (h : A.length + B.length ≤ 1000) : gAdd (.lst (A.map D.str)) (.lst (B.map D.str)) M = some (.lst ((A ++ B).map D.str), M) := by
  show (if (A.map D.str).length + (B.map D.str).length ≤ sizeLine then some (D.lst (A.map D.str ++ B.map D.str), M) else none) = _
  rw [if_pos (by rw [List.length_map, List.length_map]; exact Nat.le_trans h (by decide)), List.map_append]
theorem lit_w {x : Str} {n : Nat} (h : (TL.tl x).all (fun s => decide (s < 128)) = true) (l : x.length ≤ n) : Wd? x n := ⟨l, (aok_of h).s⟩
theorem add_of {f g : EF} {δ : Pl.Env} {M : Mh} {x y : Str} {n m : Nat} (h : f δ M = some (.str x, M)) (k : g δ M = some (.str y, M)) (wx : Wd? x n) (wy : Wd? y m) (l : n + m ≤ 1000000) : eOp gAdd f g δ M = some (.str (x ++ y), M) := op_of h k (add_str wx wy l)
theorem Wd?.mono {x : Str} {n m : Nat} (h : Wd? x n) (l : n ≤ m) : Wd? x m := ⟨Nat.le_trans h.1 l, h.2⟩
/-- the list that is told -/
theorem some_sp {W N C : Str} {M : Mh} {s0 s1 s2 s3 s5 s8 : Option D} (hW : AOk W) (lW : W.length ≤ 20) (hN : Wd? N 2000) (hC : Wd? C 1) :
    ∃ L : List Str, (∀ x ∈ L, Wd? x 10000) ∧ (sSeq (sAs (eLst (aCons (eVar 4) (aCons (eVar 7) (aCons (eOp gAdd (eC (.str "0")) (eVar 7)) (aCons (eOp gAdd (eOp gAdd (eVar 4) (eC (.str "  "))) (eVar 4)) (aCons (eOp gAdd (eC (.str " ")) (eVar 4)) (aCons (eS0 gUpper (eVar 4)) (aCons (eVar 6) (aCons (eOp gAdd (eC (.str "-")) (eVar 4)) (aCons (eOp gAdd (eC (.str "--")) (eVar 7)) aNil)))))))))) (gN 8)) (sSeq (sAs (eOp gAdd (eVar 8) (eLst (aCons (eOp gAdd (eSl (eVar 4) pNone (pSome (eC (.int 3)))) (eVar 6)) (aCons (eC (.str "")) (aCons (eOp gAdd (eVar 7) (eVar 6)) (aCons (eOp gAdd (eVar 6) (eVar 7)) (aCons (eOp gAdd (eOp gAdd (eC (.str "ab")) (eVar 6)) (eC (.str "c"))) (aCons (eC (.str "-0")) (aCons (eC (.str "-")) (aCons (eOp gAdd (eC (.str "-0")) (eVar 7)) aNil)))))))))) (gN 8)) (sRet (eOp gAdd (eVar 8) (eLst (aCons (eOp gAdd (eOp gAdd (eVar 7) (eC (.str " "))) (eVar 4)) (aCons (eOp gAdd (eC (.str "-")) (eVar 7)) (aCons (eOp gAdd (eVar 4) (eC (.str " "))) aNil)))))))) [s0, s1, s2, s3, some (.str W), s5, some (.str C), some (.str N), s8] M = some (.rt (.lst (L.map D.str)) M) := by
  have wW : Wd? W 20 := ⟨lW, hW.s⟩
  have w0 : Wd? ("0" : Str) 1 := lit_w (by decide +kernel) (by decide +kernel)
  have wss : Wd? ("  " : Str) 2 := lit_w (by decide +kernel) (by decide +kernel)
  have ws : Wd? (" " : Str) 1 := lit_w (by decide +kernel) (by decide +kernel)
  have wm : Wd? ("-" : Str) 1 := lit_w (by decide +kernel) (by decide +kernel)
  have wmm : Wd? ("--" : Str) 2 := lit_w (by decide +kernel) (by decide +kernel)
  have we : Wd? ("" : Str) 0 := lit_w (by decide +kernel) (by decide +kernel)
  have wab : Wd? ("ab" : Str) 2 := lit_w (by decide +kernel) (by decide +kernel)
  have wc : Wd? ("c" : Str) 1 := lit_w (by decide +kernel) (by decide +kernel)
  have wm0 : Wd? ("-0" : Str) 2 := lit_w (by decide +kernel) (by decide +kernel)
  have wU := upper_w hW lW
  have wK : Wd? (L2.cutS W none (some 3)) 20 := cut_w wW _ _
  let A : List Str := [W, N, "0" ++ N, W ++ "  " ++ W, " " ++ W, Txt.upper W, C, "-" ++ W, "--" ++ N]
  let B : List Str := [L2.cutS W none (some 3) ++ C, "", N ++ C, C ++ N, "ab" ++ C ++ "c", "-0", "-", "-0" ++ N]
  let E : List Str := [N ++ " " ++ W, "-" ++ N, W ++ " "]
  have x4 : ∀ z : Option D, eVar 4 [s0, s1, s2, s3, some (.str W), s5, some (.str C), some (.str N), z] M = some (.str W, M) := fun _ => rfl
  have x6 : ∀ z : Option D, eVar 6 [s0, s1, s2, s3, some (.str W), s5, some (.str C), some (.str N), z] M = some (.str C, M) := fun _ => rfl
  have x7 : ∀ z : Option D, eVar 7 [s0, s1, s2, s3, some (.str W), s5, some (.str C), some (.str N), z] M = some (.str N, M) := fun _ => rfl
  have x8 : ∀ z : D, eVar 8 [s0, s1, s2, s3, some (.str W), s5, some (.str C), some (.str N), some z] M = some (z, M) := fun _ => rfl
  have up : ∀ z : Option D, eS0 gUpper (eVar 4) [s0, s1, s2, s3, some (.str W), s5, some (.str C), some (.str N), z] M = some (.str (Txt.upper W), M) := fun z => by
    unfold eS0
    rw [x4]
    exact if_pos (Nat.le_trans lW (by decide))
  refine ⟨A ++ B ++ E, fun x hx => ?_, ?_⟩
  · simp only [A, B, E, List.mem_append, List.mem_cons, List.not_mem_nil, or_false] at hx
    rcases hx with (((e | e | e | e | e | e | e | e | e) | (e | e | e | e | e | e | e | e)) | (e | e | e)) <;> rw [e]
    · exact wW.mono (by decide)
    · exact hN.mono (by decide)
    · exact (app_w w0 hN).mono (by decide)
    · exact (app_w (app_w wW wss) wW).mono (by decide)
    · exact (app_w ws wW).mono (by decide)
    · exact wU.mono (by decide)
    · exact hC.mono (by decide)
    · exact (app_w wm wW).mono (by decide)
    · exact (app_w wmm hN).mono (by decide)
    · exact (app_w wK hC).mono (by decide)
    · exact we.mono (by decide)
    · exact (app_w hN hC).mono (by decide)
    · exact (app_w hC hN).mono (by decide)
    · exact (app_w (app_w wab hC) wc).mono (by decide)
    · exact wm0.mono (by decide)
    · exact wm.mono (by decide)
    · exact (app_w wm0 hN).mono (by decide)
    · exact (app_w (app_w hN ws) wW).mono (by decide)
    · exact (app_w wm hN).mono (by decide)
    · exact (app_w wW ws).mono (by decide)
  · refine seq_as (d := .lst (A.map D.str)) (M1 := M) (δ' := [s0, s1, s2, s3, some (.str W), s5, some (.str C), some (.str N), some (.lst (A.map D.str))]) ?_ rfl ?_
    · exact x_eLst (cons_of (x4 _) (cons_of (x7 _) (cons_of (add_of x_eC (x7 _) w0 hN (by decide)) (cons_of (add_of (add_of (x4 _) x_eC wW wss (by decide)) (x4 _) (app_w wW wss) wW (by decide)) (cons_of (add_of x_eC (x4 _) ws wW (by decide)) (cons_of (up _) (cons_of (x6 _) (cons_of (add_of x_eC (x4 _) wm wW (by decide)) (cons_of (add_of x_eC (x7 _) wmm hN (by decide)) x_aNil))))))))) (by show (9 : Nat) ≤ 1000; decide)
    refine seq_as (d := .lst ((A ++ B).map D.str)) (M1 := M) (δ' := [s0, s1, s2, s3, some (.str W), s5, some (.str C), some (.str N), some (.lst ((A ++ B).map D.str))]) ?_ rfl ?_
    · refine op_of (M1 := M) (M2 := M) (b := .lst (B.map D.str)) (x8 _) ?_ (ap_S A B M (by simp [A, B]))
      have cut : eSl (eVar 4) pNone (pSome (eC (.int 3))) [s0, s1, s2, s3, some (.str W), s5, some (.str C), some (.str N), some (.lst (A.map D.str))] M = some (.str (L2.cutS W none (some 3)), M) := sl_of (M1 := M) (M2 := M) (M3 := M) (by omega) (x4 _) rfl (ps_of x_eC)
      exact x_eLst (cons_of (add_of cut (x6 _) wK hC (by decide)) (cons_of x_eC (cons_of (add_of (x7 _) (x6 _) hN hC (by decide)) (cons_of (add_of (x6 _) (x7 _) hC hN (by decide)) (cons_of (add_of (add_of x_eC (x6 _) wab hC (by decide)) x_eC (app_w wab hC) wc (by decide)) (cons_of x_eC (cons_of x_eC (cons_of (add_of x_eC (x7 _) wm0 hN (by decide)) x_aNil)))))))) (by show (8 : Nat) ≤ 1000; decide)
    refine ret_of (op_of (M1 := M) (M2 := M) (b := .lst (E.map D.str)) (x8 _) ?_ (ap_S (A ++ B) E M (by simp [A, B, E])))
    exact x_eLst (cons_of (add_of (add_of (x7 _) x_eC hN ws (by decide)) (x4 _) (app_w hN ws) wW (by decide)) (cons_of (add_of x_eC (x7 _) wm hN (by decide)) (cons_of (add_of (x4 _) x_eC wW ws (by decide)) x_aNil))) (by show (3 : Nat) ≤ 1000; decide)
theorem texts_ok {n : Nat} {M : Mh} {B : Int} (h : At n B M) (hB : B < 2 ^ 57) : ∃ (L : List Str) (M' : Mh), (∀ x ∈ L, Wd? x 10000) ∧ ff_law_texts [.ref n] M = some (.lst (L.map D.str), M') ∧ At n (B + 1000) M' := by
  have e1 : ∀ z : Option D, True := fun _ => trivial
  obtain ⟨f, M1, d1, a1, f0, f1, _⟩ := dgcA (i := 0) (fm := eC (.int 4)) (δ := [some (.ref n), some (.str EVS), some (.lst [.str "abcdefghijklmnopqrstuvwxyz", .str "0123456789", .str "a1 -", .str EVS]), none, none, none, none, none, none]) rfl x_eC h (by omega) (by decide) (by decide)
  obtain ⟨S, eS, hS, l1, l2⟩ := pick4 f0 f1 M1
  obtain ⟨many, M2, d2, a2, m0, m1, _⟩ := dgcA (M := M1) (i := 0) (fm := eC (.int 11)) (δ := [some (.ref n), some (.str EVS), some (.lst [.str "abcdefghijklmnopqrstuvwxyz", .str "0123456789", .str "a1 -", .str EVS]), none, none, none, none, none, none]) rfl x_eC a1 (by omega) (by decide) (by decide)
  have rl : (rng 0 many).length ≤ 10 := by
    unfold rng
    rw [List.length_map, List.length_range]
    omega
  obtain ⟨cs, M3, d3, a3, lc, hc⟩ := draws_go hS l1 l2 (some (.str EVS)) (some (.int many)) none none none none (rng 0 many) none (B + 4 + 4) M2 a2 (by omega)
  obtain ⟨W, jW, lW, hW⟩ := join_of (M := M3) (by omega) hc
  obtain ⟨v1, v2, v3⟩ := evs_ok
  have hm : eB gLen (aCons (eVar 1) aNil) [some (.ref n), some (.str EVS), some (.str S), some (.int many), some (.str W), none, none, none, none] M3 = some (.int (EVS.length : Int), M3) := len_sp (f := eVar 1) rfl (by omega)
  obtain ⟨g, M4, d4, a4, g0, g1, _⟩ := dgcA (i := 0) (δ := [some (.ref n), some (.str EVS), some (.str S), some (.int many), some (.str W), none, none, none, none]) rfl hm a3 (by omega) (by omega) (Int.lt_of_le_of_lt (show _ ≤ (100 : Int) by omega) (by decide))
  obtain ⟨c, ec, hcc⟩ := sign_atA (M := M4) g0 g1 (by omega) v1
  obtain ⟨b, M5, d5, a5, b0, b1, _⟩ := dgcA (M := M4) (i := 0) (fm := eC (.int 2)) (δ := [some (.ref n), some (.str EVS), some (.str S), some (.int many), some (.str W), none, some (.str ⟨#[c]⟩), none, none]) rfl x_eC a4 (by omega) (by decide) (by decide)
  obtain ⟨m, em, m2, m3⟩ := pick2 b0 b1 M5
  have hm2 : eOp gIx (eLst (aCons (eC (.int 101)) (aCons (eC (.int 200000)) aNil))) (eCall ff_law_digit (aCons (eVar 0) (aCons (eC (.int 2)) aNil)) []) [some (.ref n), some (.str EVS), some (.str S), some (.int many), some (.str W), none, some (.str ⟨#[c]⟩), none, none] M4 = some (.int m, M5) := op_of (x_eLst (cons_of x_eC (cons_of x_eC x_aNil)) (by simp)) d5 em
  obtain ⟨q, M6, d6, a6, q0, q1, _⟩ := dgcA (i := 0) (δ := [some (.ref n), some (.str EVS), some (.str S), some (.int many), some (.str W), none, some (.str ⟨#[c]⟩), none, none]) rfl hm2 a5 (by omega) m2 (Int.lt_of_le_of_lt m3 (by decide))
  have lq : q.natAbs.log2 < 1920 := lg (Nat.lt_of_lt_of_le (show q.natAbs < 200001 by omega) (by decide))
  have wN : Wd? (TT q) 2000 := ⟨Nat.le_trans (PyProof.Rows.int_text_len_1921 lq) (by decide), TT_ok q⟩
  have wC : Wd? (⟨#[c]⟩ : Str) 1 := ⟨Nat.le_refl 1, fun s hs => by have := List.mem_singleton.mp hs; omega⟩
  obtain ⟨L, hL, eL⟩ := some_sp (M := M6) (s0 := some (.ref n)) (s1 := some (.str EVS)) (s2 := some (.str S)) (s3 := some (.int many)) (s5 := none) (s8 := none) hW (by omega) wN wC
  refine ⟨L, M6, hL, fn_rt ?_, ?_⟩
  · show gg_law_texts [some (.ref n), none, none, none, none, none, none, none, none] M = _
    unfold gg_law_texts
    refine seq_as (d := .str EVS) (M1 := M) (δ' := [some (.ref n), some (.str EVS), none, none, none, none, none, none, none]) x_eC rfl ?_
    refine seq_as (d := .lst [.str "abcdefghijklmnopqrstuvwxyz", .str "0123456789", .str "a1 -", .str EVS]) (M1 := M) (δ' := [some (.ref n), some (.str EVS), some (.lst [.str "abcdefghijklmnopqrstuvwxyz", .str "0123456789", .str "a1 -", .str EVS]), none, none, none, none, none, none]) (x_eLst (cons_of x_eC (cons_of x_eC (cons_of x_eC (cons_of rfl x_aNil)))) (by simp)) rfl ?_
    refine seq_as (d := .tup [.str S, .int many]) (M1 := M2) (δ' := [some (.ref n), some (.str EVS), some (.str S), some (.int many), none, none, none, none, none]) (x_eTup (cons_of (op_of rfl d1 eS) (cons_of d2 x_aNil)) (by simp)) rfl ?_
    refine seq_as (d := .str W) (M1 := M3) (δ' := [some (.ref n), some (.str EVS), some (.str S), some (.int many), some (.str W), none, none, none, none]) ?_ rfl ?_
    · have lcs : eLc [5] (aRng1 (aCons (eVar 3) aNil)) (gN 5) tTrue (eOp gIx (eVar 2) (eCall ff_law_digit (aCons (eVar 0) (aCons (eB gLen (aCons (eVar 2) aNil)) aNil)) [])) [some (.ref n), some (.str EVS), some (.str S), some (.int many), none, none, none, none, none] M2 = some (.lst (cs.map fun c => .str ⟨#[c]⟩), M3) := by
        unfold eLc
        have er : aRng1 (aCons (eVar 3) aNil) [some (.ref n), some (.str EVS), some (.str S), some (.int many), none, none, none, none, none] M2 = some (rng 0 many, M2) := by
          unfold aRng1
          rw [cons_of (d := .int many) (M1 := M2) rfl x_aNil]
          exact if_pos ⟨by omega, by omega⟩
        rw [er]
        dsimp only [wipeD, List.set_cons_succ, List.set_cons_zero]
        rw [d3]
        exact if_pos (by rw [List.length_map]; exact Nat.le_trans (show cs.length ≤ 10 by omega) (by decide))
      unfold eS1
      rw [x_eC]
      dsimp only
      rw [lcs]
      exact jW
    refine seq_as (d := .str ⟨#[c]⟩) (M1 := M4) (δ' := [some (.ref n), some (.str EVS), some (.str S), some (.int many), some (.str W), none, some (.str ⟨#[c]⟩), none, none]) (op_of rfl d4 ec) rfl ?_
    refine seq_as (d := .str (TT q)) (M1 := M6) (δ' := [some (.ref n), some (.str EVS), some (.str S), some (.int many), some (.str W), none, some (.str ⟨#[c]⟩), some (.str (TT q)), none]) ?_ rfl ?_
    · rw [x_eB, cons_of d6 x_aNil]
      exact if_pos lq
    exact eL
  · obtain ⟨l, c, t', z1, z2, z3, z4⟩ := a6
    exact ⟨l, c, t', z1, z2, z3, by omega⟩
end Law

namespace Law
open PySem L2 Pl
/-- what is no text and no whole number -/
structure Odd (M : Mh) (d : D) : Prop where
  ex : ∃ t, tyN M d = some t ∧ kitB t "str" = some false ∧ (kitB t "int" = some false ∨ (kitB t "int" = some true ∧ kitB t "bool" = some true))
theorem isi_of {f : EF} {δ : Pl.Env} {M : Mh} {d : D} {t n : String} {b : Bool} (h : f δ M = some (d, M)) (ht : tyN M d = some t) (k : kitB t n = some b) : eB gIsi (aCons f (aCons (eC (.ty n)) aNil)) δ M = some (.bl b, M) := by
  rw [x_eB, cons_of h (cons_of x_eC x_aNil)]
  simp [gIsi, ht, k]
theorem nostr {M : Mh} {d : D} {t : String} (ht : tyN M d = some t) (k : kitB t "str" = some false) {f : EF} {δ : Pl.Env} (h : f δ M = some (d, M)) : tNt (tV (eB gIsi (aCons f (aCons (eC (.ty "str")) aNil)))) δ M = some (true, M) := nt_of (b := false) (v_bl (isi_of h ht k))
theorem odd_text {M : Mh} {d : D} {t : String} (ht : tyN M d = some t) (k : kitB t "str" = some false) (e f : D) : ff_is_text_of [d, e, f] M = some (.bl false, M) := by
  refine fn_rt ?_
  show gg_is_text_of [some d, some e, some f, none] M = _
  unfold gg_is_text_of
  exact seq_if1 (M1 := M) (or1 (nostr ht k rfl)) (ret_of rfl)
theorem odd_name {M : Mh} {d : D} {t : String} (ht : tyN M d = some t) (k : kitB t "str" = some false) : ff_is_name [d] M = some (.bl false, M) := by
  refine fn_rt ?_
  show gg_is_name [some d] M = _
  unfold gg_is_name
  exact ret_of (call_of (cons_of rfl (cons_of x_eC (cons_of x_eC x_aNil))) (odd_text ht k _ _))
theorem odd_number {M : Mh} {d : D} {t : String} (ht : tyN M d = some t) (k : kitB t "str" = some false) : ff_number_of [d] M = some (.non, M) := by
  refine fn_rt ?_
  show gg_number_of [some d] M = _
  unfold gg_number_of
  exact seq_if1 (M1 := M) (nt_of (b := false) (v_bl (call_of (cons_of rfl (cons_of x_eC (cons_of x_eC x_aNil))) (odd_text ht k _ _)))) (ret_of rfl)
theorem odd_signed {M : Mh} {d : D} {t : String} (ht : tyN M d = some t) (k : kitB t "str" = some false) : ff_signed_of [d] M = some (.non, M) := by
  refine fn_rt ?_
  show gg_signed_of [some d, none] M = _
  unfold gg_signed_of
  exact seq_if1 (M1 := M) (or1 (nostr ht k rfl)) (ret_of (call_of (cons_of rfl x_aNil) (odd_number ht k)))
theorem odd_words {M : Mh} {d : D} {t : String} (ht : tyN M d = some t) (k : kitB t "str" = some false) : ff_words_of [d] M = some (.non, M) := by
  refine fn_rt ?_
  show gg_words_of [some d, none] M = _
  unfold gg_words_of
  exact seq_if1 (M1 := M) (nostr ht k rfl) (ret_of rfl)
theorem odd_whole {M : Mh} {d : D} (h : Odd M d) : ff_is_whole [d] M = some (.bl false, M) := by
  obtain ⟨t, ht, _, k⟩ := h.ex
  refine fn_rt ?_
  show gg_is_whole [some d] M = _
  unfold gg_is_whole
  refine ret_of ?_
  rcases k with k | ⟨k, k2⟩
  · exact an_of0 (isi_of rfl ht k)
  · exact an_of1 (isi_of rfl ht k) (x_eNt (isi_of rfl ht k2))
theorem odd_among {M : Mh} {d : D} (h : Odd M d) (e f : D) : ff_is_among [d, e, f] M = some (.bl false, M) := by
  refine fn_rt ?_
  show gg_is_among [some d, some e, some f] M = _
  unfold gg_is_among
  exact seq_if1 (M1 := M) (or1 (M1 := M) (nt_of (b := false) (v_bl (call_of (cons_of rfl x_aNil) (odd_whole h))))) (ret_of rfl)
theorem whole_int (i : Int) (M : Mh) : ff_is_whole [.int i] M = some (.bl true, M) := by
  refine fn_rt ?_
  show gg_is_whole [some (.int i)] M = _
  unfold gg_is_whole
  exact ret_of (an_of1 (isi_of (t := "int") rfl rfl (by decide +kernel)) (x_eNt (isi_of (t := "int") (b := false) rfl rfl (by decide +kernel))))
theorem among_int (a b c : Int) (M : Mh) : ff_is_among [.int a, .int b, .int c] M = some (.bl (decide (b ≤ a) && decide (a ≤ c)), M) := by
  refine fn_rt ?_
  show gg_is_among [some (.int a), some (.int b), some (.int c)] M = _
  unfold gg_is_among
  refine seq_if0 (M1 := M) (or0 (M1 := M) (nt_of (b := true) (v_bl (call_of (cons_of rfl x_aNil) (whole_int _ _)))) (or0 (M1 := M) (nt_of (b := true) (v_bl (call_of (cons_of rfl x_aNil) (whole_int _ _)))) (nt_of (b := true) (v_bl (call_of (cons_of rfl x_aNil) (whole_int _ _)))))) (ret_of ?_)
  have v0 : eVar 0 [some (.int a), some (.int b), some (.int c)] M = some (.int a, M) := rfl
  have v1 : eVar 1 [some (.int a), some (.int b), some (.int c)] M = some (.int b, M) := rfl
  have v2 : eVar 2 [some (.int a), some (.int b), some (.int c)] M = some (.int c, M) := rfl
  unfold eChain
  rw [v1]
  dsimp only
  rw [v0]
  dsimp only [gInt]
  by_cases h : b ≤ a
  · rw [decide_eq_true h]
    dsimp only
    rw [v2]
    rfl
  · rw [decide_eq_false h]
    rfl
theorem lit_ok {x : Str} (h : (TL.tl x).all (fun s => decide (s < 128)) = true) : PyData.strOk x = true := strOk_of (aok_of h).s
theorem reprX_of {L : List D} {ps : List PyData} {s : Str} (h : toPs L = some ps) (k : reprOk (.list ps) = true) (e : (PyData.list ps).shown = s) (M : Mh) : gReprX [.lst L] M = some (.str s, M) := by
  show gRepr [.lst L] M = _
  simp only [gRepr, deref, toP, h, k, if_true, e]
noncomputable def oddE : EF := (eOp gIx (eLst (aCons (eC .non) (aCons (eC (.bl true)) (aCons (eLst aNil) (aCons (eLst (aCons (eC (.str "a")) aNil)) (aCons eDic0 (aCons (eTup (aCons (eC (.str "a")) aNil)) (aCons (eC (.bl false)) aNil)))))))) (eCall ff_law_digit (aCons (eVar 0) (aCons (eC (.int 7)) aNil)) []))
theorem odd_ok {n : Nat} {M : Mh} {B : Int} (h : At n B M) (hB : B < 2 ^ 56) (s1 s2 s3 s4 : Option D) : ∃ (d : D) (M' : Mh) (r : Str), oddE [some (.ref n), s1, s2, s3, s4] M = some (d, M') ∧ At n (B + 4) M' ∧ Odd M' d ∧ PyData.strOk r = true ∧ gReprX [d] M' = some (.str r, M') := by
  have hn : n < M.length := by
    obtain ⟨l, c, t, z, _⟩ := h
    exact (List.getElem?_eq_some_iff.mp z).1
  obtain ⟨i, M', e, a, i0, i1, fr⟩ := dgcA (M := M ++ [.dic []]) (i := 0) (fm := eC (.int 7)) (δ := [some (.ref n), s1, s2, s3, s4]) rfl x_eC (h.app _) (by omega) (by decide) (by decide)
  have lst : eLst (aCons (eC .non) (aCons (eC (.bl true)) (aCons (eLst aNil) (aCons (eLst (aCons (eC (.str "a")) aNil)) (aCons eDic0 (aCons (eTup (aCons (eC (.str "a")) aNil)) (aCons (eC (.bl false)) aNil))))))) [some (.ref n), s1, s2, s3, s4] M = some (.lst [.non, .bl true, .lst [], .lst [.str "a"], .ref M.length, .tup [.str "a"], .bl false], M ++ [.dic []]) :=
    x_eLst (cons_of x_eC (cons_of x_eC (cons_of (x_eLst x_aNil (by simp)) (cons_of (x_eLst (cons_of x_eC x_aNil) (by simp)) (cons_of rfl (cons_of (x_eTup (cons_of x_eC x_aNil) (by simp)) (cons_of x_eC x_aNil))))))) (by simp)
  have md : M'[M.length]? = some (.dic []) := (fr M.length (by omega)).trans (by simp)
  have : i = 0 ∨ i = 1 ∨ i = 2 ∨ i = 3 ∨ i = 4 ∨ i = 5 ∨ i = 6 := by omega
  have go : ∀ d, gIx (.lst [.non, .bl true, .lst [], .lst [.str "a"], .ref M.length, .tup [.str "a"], .bl false]) (.int i) M' = some (d, M') → oddE [some (.ref n), s1, s2, s3, s4] M = some (d, M') := fun d hd => op_of lst e hd
  have plain : ∀ (d : D) (p : PyData) (r : Str), toP d = some p → deref M' d = d → reprOk p = true → p.shown = r → (∀ n, d ≠ .ref n) → gReprX [d] M' = some (.str r, M') := fun d p r e1 e2 e3 e4 e5 => by
    have : gReprX [d] M' = gRepr [d] M' := by
      unfold gReprX
      split
      · rename_i n hq
        cases hq
        exact absurd rfl (e5 n)
      · rfl
    rw [this]
    simp only [gRepr, e2, e1, e3, if_true, e4]
  rcases this with z | z | z | z | z | z | z <;> rw [z] at go
  · exact ⟨.non, M', "None", go _ rfl, a, ⟨"NoneType", rfl, by decide +kernel, .inl (by decide +kernel)⟩, lit_ok (by decide +kernel), plain .non .none _ rfl rfl (by decide +kernel) (by decide +kernel) fun _ z => nomatch z⟩
  · exact ⟨.bl true, M', "True", go _ rfl, a, ⟨"bool", rfl, by decide +kernel, .inr ⟨by decide +kernel, by decide +kernel⟩⟩, lit_ok (by decide +kernel), plain (.bl true) (.bool true) _ rfl rfl (by decide +kernel) (by decide +kernel) fun _ z => nomatch z⟩
  · exact ⟨.lst [], M', "[]", go _ rfl, a, ⟨"list", rfl, by decide +kernel, .inl (by decide +kernel)⟩, lit_ok (by decide +kernel), plain (.lst []) (.list []) _ rfl rfl (by decide +kernel) (by decide +kernel) fun _ z => nomatch z⟩
  · exact ⟨.lst [.str "a"], M', "['a']", go _ rfl, a, ⟨"list", rfl, by decide +kernel, .inl (by decide +kernel)⟩, lit_ok (by decide +kernel), plain (.lst [.str "a"]) (.list [.str "a"]) _ rfl rfl (by decide +kernel) (by decide +kernel) fun _ z => nomatch z⟩
  · refine ⟨.ref M.length, M', "{}", go _ rfl, a, ⟨"dict", by simp [tyN, md], by decide +kernel, .inl (by decide +kernel)⟩, lit_ok (by decide +kernel), ?_⟩
    simp only [gReprX, md]
  · exact ⟨.tup [.str "a"], M', "('a',)", go _ rfl, a, ⟨"tuple", rfl, by decide +kernel, .inl (by decide +kernel)⟩, lit_ok (by decide +kernel), plain (.tup [.str "a"]) (.tuple [.str "a"]) _ rfl rfl (by decide +kernel) (by decide +kernel) fun _ z => nomatch z⟩
  · exact ⟨.bl false, M', "False", go _ rfl, a, ⟨"bool", rfl, by decide +kernel, .inr ⟨by decide +kernel, by decide +kernel⟩⟩, lit_ok (by decide +kernel), plain (.bl false) (.bool false) _ rfl rfl (by decide +kernel) (by decide +kernel) fun _ z => nomatch z⟩
theorem numbers_ok {n : Nat} {M : Mh} {B : Int} (h : At n B M) (hB : B < 2 ^ 56) : ∃ M', ff_law_numbers_right [.ref n] M = some (.bl true, M') ∧ At n (B + 100) M' := by
  obtain ⟨d, M1, r, e1, a1, od, ro, er⟩ := odd_ok h hB none none none none
  obtain ⟨t, ht, ks, _⟩ := id od.ex
  obtain ⟨i, M2, e2, a2, i0, i1, _⟩ := dgcA (M := M1) (i := 0) (fm := eC (.int 1000)) (δ := [some (.ref n), some d, some (.str r), some (.lst [.bl false, .non, .non, .non, .bl false, .bl false]), none]) rfl x_eC a1 (by omega) (by decide) (by decide)
  refine ⟨M2, fn_rt ?_, by
    obtain ⟨l, c, t', z1, z2, z3, z4⟩ := a2
    exact ⟨l, c, t', z1, z2, z3, by omega⟩⟩
  show gg_law_numbers_right [some (.ref n), none, none, none, none] M = _
  unfold gg_law_numbers_right
  refine seq_as (d := d) (M1 := M1) (δ' := [some (.ref n), some d, none, none, none]) e1 rfl ?_
  have rp : ∀ δ : Pl.Env, eVar 1 δ M1 = some (d, M1) → eB gReprX (aCons (eVar 1) aNil) δ M1 = some (.str r, M1) := fun δ e => by
    rw [x_eB, cons_of e x_aNil]
    exact er
  refine seq_as (d := .str r) (M1 := M1) (δ' := [some (.ref n), some d, some (.str r), none, none]) (rp _ rfl) rfl ?_
  refine seq_as (d := .lst [.bl false, .non, .non, .non, .bl false, .bl false]) (M1 := M1) (δ' := [some (.ref n), some d, some (.str r), some (.lst [.bl false, .non, .non, .non, .bl false, .bl false]), none]) (x_eLst (cons_of (call_of (cons_of rfl x_aNil) (odd_name ht ks)) (cons_of (call_of (cons_of rfl x_aNil) (odd_number ht ks)) (cons_of (call_of (cons_of rfl x_aNil) (odd_signed ht ks)) (cons_of (call_of (cons_of rfl x_aNil) (odd_words ht ks)) (cons_of (call_of (cons_of rfl x_aNil) (odd_whole od)) (cons_of (call_of (cons_of rfl (cons_of x_eC (cons_of x_eC x_aNil))) (odd_among od _ _)) x_aNil)))))) (by simp)) rfl ?_
  have w1 : PyData.strOk ("[False, None, None, None, False, False]" : Str) = true := lit_ok (by decide +kernel)
  have r1 : gReprX [.lst [.bl false, .non, .non, .non, .bl false, .bl false]] M1 = some (.str "[False, None, None, None, False, False]", M1) := reprX_of (ps := [.bool false, .none, .none, .none, .bool false, .bool false]) rfl (by decide +kernel) (by decide +kernel) M1
  refine seq_if0 (M1 := M1) (or0 (M1 := M1) (v_bl (op_of (a := .str "[False, None, None, None, False, False]") (M1 := M1) (M2 := M1) ?_ x_eC ((ne_str w1 w1 M1).trans (by rw [decide_eq_true rfl]; rfl)))) (v_bl (op_of (rp _ rfl) rfl ((ne_str ro ro M1).trans (by rw [decide_eq_true rfl]; rfl))))) ?_
  · rw [x_eB, cons_of (d := .lst [.bl false, .non, .non, .non, .bl false, .bl false]) (M1 := M1) rfl x_aNil]
    exact r1
  refine seq_as (d := .int (i - 400)) (M1 := M2) (δ' := [some (.ref n), some d, some (.str r), some (.lst [.bl false, .non, .non, .non, .bl false, .bl false]), some (.int (i - 400))]) (op_of e2 x_eC rfl) rfl ?_
  have hi : tyN M2 (.int (i - 400)) = some "int" := rfl
  have ki : kitB "int" "str" = some false := by decide +kernel
  generalize i - 400 = j at hi
  have am : ∀ (a b : Int) (bb : Bool), (decide (a ≤ j) && decide (j ≤ b)) = bb → ff_is_among [.int j, .int a, .int b] M2 = some (.bl bb, M2) := fun a b bb e => by rw [among_int, e]
  have v4 : ∀ z : Option D, eVar 4 [some (.ref n), some d, some (.str r), z, some (.int j)] M2 = some (.int j, M2) := fun z => rfl
  have pl : ∀ (z : Option D) (c : Int), eOp gAdd (eVar 4) (eC (.int c)) [some (.ref n), some d, some (.str r), z, some (.int j)] M2 = some (.int (j + c), M2) := fun z c => op_of (v4 z) x_eC rfl
  have mi : ∀ (z : Option D) (c : Int), eOp (gInt fun i j => .int (i - j)) (eVar 4) (eC (.int c)) [some (.ref n), some d, some (.str r), z, some (.int j)] M2 = some (.int (j - c), M2) := fun z c => op_of (v4 z) x_eC rfl
  refine seq_as (d := .lst [.bl true, .bl true, .bl false, .bl false]) (M1 := M2) (δ' := [some (.ref n), some d, some (.str r), some (.lst [.bl true, .bl true, .bl false, .bl false]), some (.int j)]) (x_eLst (cons_of (call_of (cons_of (v4 _) x_aNil) (whole_int _ _)) (cons_of (call_of (cons_of (v4 _) (cons_of (v4 _) (cons_of (v4 _) x_aNil))) (am _ _ true (by rw [decide_eq_true (Int.le_refl j)]; rfl))) (cons_of (call_of (cons_of (v4 _) (cons_of (pl _ _) (cons_of (pl _ _) x_aNil))) (am _ _ false (by rw [decide_eq_false (show ¬ j + 1 ≤ j by omega)]; rfl))) (cons_of (call_of (cons_of (v4 _) x_aNil) (odd_name hi ki)) x_aNil)))) (by simp)) rfl ?_
  refine seq_as (d := .lst [.bl true, .bl true, .bl false, .bl false, .bl false, .non, .non, .non]) (M1 := M2) (δ' := [some (.ref n), some d, some (.str r), some (.lst [.bl true, .bl true, .bl false, .bl false, .bl false, .non, .non, .non]), some (.int j)]) ?_ rfl (ret_of ?_)
  · refine op_of (M1 := M2) (M2 := M2) (a := .lst [.bl true, .bl true, .bl false, .bl false]) (b := .lst [.bl false, .non, .non, .non]) rfl (x_eLst (cons_of (call_of (cons_of (v4 _) (cons_of (mi _ _) (cons_of (mi _ _) x_aNil))) (am _ _ false (by rw [decide_eq_false (show ¬ j ≤ j - 1 by omega), Bool.and_false]))) (cons_of (call_of (cons_of (v4 _) x_aNil) (odd_number hi ki)) (cons_of (call_of (cons_of (v4 _) x_aNil) (odd_signed hi ki)) (cons_of (call_of (cons_of (v4 _) x_aNil) (odd_words hi ki)) x_aNil)))) (by simp)) ?_
    show (if (4 + 4 : Nat) ≤ sizeLine then some (D.lst ([D.bl true, D.bl true, D.bl false, D.bl false] ++ [D.bl false, D.non, D.non, D.non]), M2) else none) = _
    exact if_pos (by decide)
  · have w2 : PyData.strOk ("[True, True, False, False, False, None, None, None]" : Str) = true := lit_ok (by decide +kernel)
    refine op_of (a := .str "[True, True, False, False, False, None, None, None]") (M1 := M2) (M2 := M2) ?_ x_eC ((eq_str w2 w2 M2).trans (by rw [decide_eq_true rfl]))
    rw [x_eB, cons_of (d := .lst [.bl true, .bl true, .bl false, .bl false, .bl false, .non, .non, .non]) (M1 := M2) rfl x_aNil]
    exact reprX_of (ps := [.bool true, .bool true, .bool false, .bool false, .bool false, .none, .none, .none]) rfl (by decide +kernel) (by decide +kernel) M2
end Law

namespace Law
open PySem L2 Pl
noncomputable def cellS : SF := (sSeq (sAs (eCall ff_law_draw (aCons (eVar 2) (aCons (eVar 1) aNil)) []) (gN 3)) (sSeq (sIf (tV (eOp (gEq fun p q => !PyData.eqv p q) (eLc [4] (aItems (eCall ff_law_texts (aCons (eVar 3) aNil) [])) (gN 4) (tNt (tV (eCall ff_law_word_right (aCons (eVar 4) aNil) []))) (eVar 4)) (eLst aNil))) (sRet (eC (.bl false))) sNil) (sIf (tNt (tV (eCall ff_law_numbers_right (aCons (eVar 3) aNil) []))) (sRet (eC (.bl false))) sNil)))
theorem none_go (M : Mh) (a0 a1 a2 a3 a4 a5 a6 a7 a8 : Option D) : ∀ L : List Str, (∀ x ∈ L, Wd? x 10000) → lcGo (gN 4) (tNt (tV (eCall ff_law_word_right (aCons (eVar 4) aNil) []))) (eVar 4) (L.map D.str) [a0, a1, a2, a3, a4, a5, a6, a7, a8] M = some ([], M)
  | [], _ => rfl
  | x :: L, h => by
    have w := h x List.mem_cons_self
    have e : tNt (tV (eCall ff_law_word_right (aCons (eVar 4) aNil) [])) [a0, a1, a2, a3, some (.str x), a5, a6, a7, a8] M = some (false, M) := nt_of (b := true) (v_bl (call_of (cons_of rfl x_aNil) (right_sp (Nat.le_trans w.1 (by decide)) w.2)))
    rw [List.map_cons]
    unfold lcGo
    dsimp only [gN, List.set_cons_succ, List.set_cons_zero]
    rw [e]
    dsimp only
    exact none_go M _ _ _ _ _ _ _ _ _ L fun q hq => h q (List.mem_cons_of_mem _ hq)
theorem ne_nil (M : Mh) : gEq (fun p q => !PyData.eqv p q) (.lst []) (.lst []) M = some (.bl false, M) := by
  have := ne_strs (L := []) (M := M) (fun s h => nomatch h)
  exact this
theorem cell_ok {M : Mh} {k cl : Int} (k0 : 0 ≤ k) (k1 : k ≤ 1000) (s x3 x4 x5 x6 x7 x8 : Option D) : ∃ (y3 : Option D) (M' : Mh), cellS [s, some (.int k), some (.int cl), x3, x4, x5, x6, x7, x8] M = some (.nx [s, some (.int k), some (.int cl), y3, x4, x5, x6, x7, x8] M') := by
  obtain ⟨M1, e1, a1⟩ := draw_ok (M := M) (cell := cl) k0 k1
  obtain ⟨L, M2, hL, e2, a2⟩ := texts_ok a1 (by decide)
  obtain ⟨M3, e3, a3⟩ := numbers_ok a2 (by decide)
  refine ⟨some (.ref M.length), M3, ?_⟩
  unfold cellS
  refine seq_as (M1 := M1) (δ' := [s, some (.int k), some (.int cl), some (.ref M.length), x4, x5, x6, x7, x8]) (call_of (cons_of rfl (cons_of rfl x_aNil)) e1) rfl ?_
  have lc : eLc [4] (aItems (eCall ff_law_texts (aCons (eVar 3) aNil) [])) (gN 4) (tNt (tV (eCall ff_law_word_right (aCons (eVar 4) aNil) []))) (eVar 4) [s, some (.int k), some (.int cl), some (.ref M.length), x4, x5, x6, x7, x8] M1 = some (.lst [], M2) := by
    unfold eLc
    have ei : aItems (eCall ff_law_texts (aCons (eVar 3) aNil) []) [s, some (.int k), some (.int cl), some (.ref M.length), x4, x5, x6, x7, x8] M1 = some (L.map D.str, M2) := by
      unfold aItems
      rw [call_of (cons_of rfl x_aNil) e2]
    rw [ei]
    dsimp only [wipeD, List.set_cons_succ, List.set_cons_zero]
    rw [none_go M2 _ _ _ _ _ _ _ _ _ L hL]
    exact if_pos (Nat.zero_le _)
  refine seq_if0 (M1 := M2) (v_bl (op_of lc (x_eLst x_aNil (by simp)) (ne_nil M2))) ?_
  exact if_ff (M1 := M3) (nt_of (b := true) (v_bl (call_of (cons_of rfl x_aNil) e3))) nil_of
theorem cells_ok (s : Option D) : ∀ (L : List D), (∀ d ∈ L, ∃ k c : Int, d = .tup [.int k, .int c] ∧ 0 ≤ k ∧ k ≤ 1000) → ∀ (M : Mh) (x1 x2 x3 x4 x5 x6 x7 x8 : Option D), ∃ (y1 y2 y3 : Option D) (M' : Mh), forGo (gTp (gsCons (gN 1) (gsCons (gN 2) gsNil))) cellS L [s, x1, x2, x3, x4, x5, x6, x7, x8] M = some (.nx [s, y1, y2, y3, x4, x5, x6, x7, x8] M')
  | [], _, M, x1, x2, x3, x4, x5, x6, x7, x8 => ⟨x1, x2, x3, M, rfl⟩
  | d :: L, h, M, x1, x2, x3, x4, x5, x6, x7, x8 => by
    obtain ⟨k, c, rfl, k0, k1⟩ := h d List.mem_cons_self
    obtain ⟨y3, M1, e⟩ := cell_ok (M := M) (cl := c) k0 k1 s x3 x4 x5 x6 x7 x8
    obtain ⟨z1, z2, z3, M', e2⟩ := cells_ok s L (fun q hq => h q (List.mem_cons_of_mem _ hq)) M1 (some (.int k)) (some (.int c)) y3 x4 x5 x6 x7 x8
    have g : gTp (gsCons (gN 1) (gsCons (gN 2) gsNil)) (.tup [.int k, .int c]) [s, x1, x2, x3, x4, x5, x6, x7, x8] = some [s, some (.int k), some (.int c), x3, x4, x5, x6, x7, x8] := rfl
    exact ⟨z1, z2, z3, M', forGo_nx g e e2⟩
/-! ### long texts -/
theorem foldl_all {Q : Nat → Prop} : ∀ (l : List (Array Nat)) (acc : Array Nat), (∀ a ∈ l, ∀ s ∈ a, Q s) → (∀ s ∈ acc, Q s) → ∀ s ∈ l.foldl (· ++ ·) acc, Q s
  | [], _, _, h => h
  | a :: l, acc, g, h => foldl_all l (acc ++ a) (fun b hb => g b (List.mem_cons_of_mem _ hb)) fun s hs => by
    rcases Array.mem_append.mp hs with z | z
    · exact h s z
    · exact g a List.mem_cons_self s z
theorem mul_all {Q : Nat → Prop} {x : Str} {n : Int} (h : ∀ s ∈ x.cps, Q s) : ∀ s ∈ (Txt.mul x n).cps, Q s := by
  unfold Txt.mul
  split
  · intro s hs
    exact absurd hs (by simp [Str.empty])
  · split
    · exact h
    · exact foldl_all _ _ (fun a ha => by
        rw [(List.mem_replicate.mp ha).2]
        exact h) (fun s hs => absurd hs (by simp))
theorem mul_len1 {x : Str} {n : Nat} (hx : x.length = 1) : (Txt.mul x (n : Int)).length = n := by
  have h := PyProof.Rows.len_mul x (n : Int)
  rw [hx, decide_eq_false (by omega), if_neg Bool.false_ne_true] at h
  omega
theorem mul_a {x : Str} (hx : x.length = 1) (ha : AOk x) : ∃ s : Str, s.length = 5000 ∧ SOk s ∧ ∀ M : Mh, gMul3 (.str x) (.int 5000) M = some (.str s, M) := by
  refine ⟨Txt.mul x ((5000 : Nat) : Int), mul_len1 hx, fun s hs => ?_, fun M => ?_⟩
  · exact mul_all (Q := fun s => s < 1114112) (x := x) (fun s hs => ha.s s (Array.mem_toList_iff.mpr hs)) s (Array.mem_toList_iff.mp hs)
  · have ok : strMulOk x 5000 = true := by
      simp only [strMulOk, hx, Bool.and_eq_true, decide_eq_true_eq]
      exact ⟨⟨by decide, by decide⟩, by decide⟩
    show (if strMulOk x 5000 then some (D.str (Txt.mul x 5000), M) else none) = _
    rw [if_pos ok]
    rfl
theorem isnum_long {cs : List Nat} (h : 4 < cs.length) : numOf cs = none := by
  simp only [numOf, isnum, decide_eq_false (show ¬ cs.length ≤ 4 by omega), Bool.and_false, Bool.false_and]
  rfl
theorem nameb_long {cs : List Nat} (h : 8 < cs.length) : nameb cs = false := by
  simp only [nameb, decide_eq_false (show ¬ cs.length ≤ 8 by omega), Bool.and_false, Bool.false_and]
/-! ### many words -/
theorem joinL_mem (S : List Nat) : ∀ (ps : List (List Nat)), ∀ s ∈ TL.joinL S ps, s ∈ S ∨ ∃ p ∈ ps, s ∈ p
  | [], s, h => by cases h
  | [p], s, h => .inr ⟨p, List.mem_singleton.mpr rfl, h⟩
  | p :: q :: r, s, h => by
    rcases List.mem_append.mp (show s ∈ p ++ (S ++ TL.joinL S (q :: r)) from h) with z | z
    · exact .inr ⟨p, List.mem_cons_self, z⟩
    · rcases List.mem_append.mp z with z | z
      · exact .inl z
      · rcases joinL_mem S (q :: r) s z with z | ⟨u, hu, z⟩
        · exact .inl z
        · exact .inr ⟨u, List.mem_cons_of_mem _ hu, z⟩
theorem joinL_end (S : List Nat) : ∀ (ps : List (List Nat)), ps ≠ [] → TL.joinL S (ps ++ [[]]) = TL.joinL S ps ++ S
  | [], h => absurd rfl h
  | [p], _ => by
    show p ++ (S ++ []) = p ++ S
    rw [List.append_nil]
  | p :: q :: r, _ => by
    have ih := joinL_end S (q :: r) (fun z => nomatch z)
    show p ++ (S ++ TL.joinL S (q :: (r ++ [[]]))) = (p ++ (S ++ TL.joinL S (q :: r))) ++ S
    rw [show q :: (r ++ [[]]) = (q :: r) ++ [[]] from rfl, ih]
    simp only [List.append_assoc]
theorem strs_S : ∀ L : List Str, strsOf (L.map D.str) = some L
  | [] => rfl
  | s :: L => by rw [List.map_cons, strsOf, strs_S L]
theorem sameN_S {L : List Str} {M : Mh} (h : ∀ s ∈ L, SOk s) : gEq (fun p q => !PyData.eqv p q) (.lst (L.map D.str)) (.lst (L.map D.str)) M = some (.bl false, M) := by
  have s1 := shaped_S h
  simp only [gEq, deref, toP, toPs_S, s1, Bool.and_self, if_true]
  rw [PyData.eqv, eqv_S]
  rfl
structure Row (n : Nat) (x : Str) : Prop where
  len : x.length ≤ 3 * n
  ok : SOk x
  jn : ∀ M : Mh, gJoin " " (.lst ((List.replicate n ("ab" : Str)).map D.str)) M = some (.str x, M)
  w1 : wordsD x = .lst ((List.replicate n ("ab" : Str)).map D.str)
  w2 : wordsD (x ++ " ") = .non
theorem tab : TL.tl ("ab" : Str) = [97, 98] := by decide +kernel
theorem row_ex {n : Nat} (h1 : 1 ≤ n) (h2 : n ≤ 10000) : ∃ x : Str, Row n x := by
  have hne : List.replicate n ("ab" : Str) ≠ [] := fun z => by
    have := congrArg List.length z
    rw [List.length_replicate] at this
    simp at this
    omega
  have tj : TL.tl (Txt.join " " (List.replicate n ("ab" : Str))) = TL.joinL [32] (List.replicate n [97, 98]) := by
    rw [TL.join_eq, TL.tl_join, t32, List.map_replicate, tab]
  have lb : ("ab" : Str).length = 2 := by decide +kernel
  have l1 : (" " : Str).length = 1 := by decide +kernel
  have sm : ((List.replicate n ("ab" : Str)).map Str.length).sum = n * 2 := by rw [List.map_replicate, lb, List.sum_replicate_nat]
  have key : (TL.tl (" " : Str)) = 32 :: [] := t32
  have free : ∀ p ∈ List.replicate n ("ab" : Str), 32 ∉ TL.tl p := fun p hp => by
    rw [(List.mem_replicate.mp hp).2, tab]
    decide
  have sp1 : Txt.split (Txt.join " " (List.replicate n ("ab" : Str))) " " = List.replicate n ("ab" : Str) := TL.split_join key (by decide +kernel) hne free
  have ej : Txt.join " " (List.replicate n ("ab" : Str)) ++ " " = Txt.join " " (List.replicate n ("ab" : Str) ++ [("" : Str)]) := TL.ext_tl (by
    rw [TL.tl_append, TL.join_eq, TL.join_eq, TL.tl_join, TL.tl_join, List.map_append, t32, List.map_cons, List.map_nil, tnil, joinL_end]
    intro z
    exact hne (List.map_eq_nil_iff.mp z))
  have sp2 : Txt.split (Txt.join " " (List.replicate n ("ab" : Str)) ++ " ") " " = List.replicate n ("ab" : Str) ++ [("" : Str)] := by
    rw [ej]
    refine TL.split_join key (by decide +kernel) (fun z => by simp at z) fun p hp => ?_
    rcases List.mem_append.mp hp with z | z
    · exact free p z
    · rw [List.mem_singleton.mp z, tnil]
      exact fun z => nomatch z
  refine ⟨Txt.join " " (List.replicate n ("ab" : Str)), ⟨?_, fun s hs => ?_, fun M => ?_, ?_, ?_⟩⟩
  · rw [TL.join_eq]
    refine Nat.le_trans (StrLaws.join_length_le _ _) ?_
    have sm' : ((List.replicate n ("ab" : Str)).map (fun x => x.length)).sum = n * 2 := sm
    rw [sm', List.length_replicate, l1]
    omega
  · rw [tj] at hs
    rcases joinL_mem _ _ s hs with z | ⟨p, hp, z⟩
    · have := List.mem_singleton.mp z
      omega
    · rw [(List.mem_replicate.mp hp).2] at z
      simp only [List.mem_cons, List.not_mem_nil, or_false] at z
      omega
  · show (match strsOf ((List.replicate n ("ab" : Str)).map D.str) with
      | some ys => if (ys.map Str.length).sum + ys.length * (" " : Str).length ≤ 16777216 then some (D.str (Txt.join " " ys), M) else none
      | none => none) = _
    rw [strs_S]
    dsimp only
    rw [sm, List.length_replicate, l1, if_pos (by omega)]
  · unfold wordsD
    rw [sp1, if_neg]
    intro z
    have := (List.mem_replicate.mp z).2
    have t := congrArg TL.tl this
    rw [tab, tnil] at t
    cases t
  · unfold wordsD
    rw [sp2, if_pos]
    exact List.mem_append_right _ (List.mem_singleton.mpr rfl)
end Law

namespace Law
open PySem L2 Pl
theorem ints_of1 : ∀ ns : List Int, intsOf (ns.map D.int) = some ns
  | [] => rfl
  | n :: ns => by rw [List.map_cons, intsOf, ints_of1 ns]
theorem gMul_lst {xs : List D} {j : Int} {M : Mh} (h : -(2 ^ 63) ≤ j ∧ j < 2 ^ 63 ∧ xs.length * j.toNat ≤ sizeLine) : gMul (.lst xs) (.int j) M = some (.lst (List.replicate j.toNat xs).flatten, M) := if_pos h
theorem mulS_of {n : Nat} (h : n ≤ 10000) {f : EF} {δ : Pl.Env} {M : Mh} (hf : f δ M = some (.lst [.str "ab"], M)) : eOp gMul f (eC (.int (n : Int))) δ M = some (.lst ((List.replicate n ("ab" : Str)).map D.str), M) := by
  have c : -(2 ^ 63) ≤ (n : Int) ∧ (n : Int) < 2 ^ 63 ∧ [D.str "ab"].length * (n : Int).toNat ≤ sizeLine := ⟨by omega, by omega, by
    rw [Int.toNat_natCast]
    exact Nat.le_trans (show _ ≤ 10000 by simp; omega) (by decide)⟩
  refine op_of hf x_eC ((gMul_lst c).trans ?_)
  rw [Int.toNat_natCast, List.flatten_replicate_singleton, List.map_replicate]
theorem truth (ns : List Int) (hn : ns.length ≤ 63) : ∃ M', ff_law [.lsk (ns.map D.int)] [] = some (.bl true, M') := by
  have cut : ∃ ys : List Int, cutD (ns.map D.int) none (some 12) = ys.map D.int ∧ ys.length ≤ 12 := by
    refine ⟨ns.take 12, ?_, by rw [List.length_take]; omega⟩
    unfold cutD HT.sIx
    simp
  obtain ⟨ys, ey, ly⟩ := cut
  have sm : ∀ (r : Pl.Env) (M : Mh), eB gSum (aCons (eVar 0) aNil) (some (.lsk (ns.map D.int)) :: r) M = some (.int ns.sum, M) := fun r M => by
    rw [x_eB, cons_of (d := .lsk (ns.map D.int)) (M1 := M) rfl x_aNil]
    simp [gSum, lstOf, ints_of1]
  have s1 : eOp gAdd (eSl (eVar 0) pNone (pSome (eC (.int 12)))) (eLst (aCons (eB gSum (aCons (eVar 0) aNil)) aNil)) [some (.lsk (ns.map D.int)), none, none, none, none, none, none, none, none] [] = some (.lst (ys.map D.int ++ [.int ns.sum]), []) := by
    refine op_of (a := .lst (ys.map D.int)) (b := .lst [.int ns.sum]) (M1 := []) (M2 := []) ?_ (x_eLst (cons_of (sm _ _) x_aNil) (by simp)) ?_
    · have e0 : eVar 0 [some (.lsk (ns.map D.int)), none, none, none, none, none, none, none, none] [] = some (.lsk (ns.map D.int), []) := rfl
      have p1 : ∀ δ, pNone δ [] = some (none, []) := fun δ => rfl
      have p2 : ∀ δ, pSome (eC (.int 12)) δ [] = some (some 12, []) := fun δ => rfl
      unfold eSl
      rw [e0]
      dsimp only
      rw [p1]
      dsimp only
      rw [p2]
      dsimp only [lstOf]
      rw [ey]
    · show (if _ then _ else none) = _
      rw [if_pos (by rw [List.length_map]; exact Nat.le_trans (show _ ≤ 13 by simp; omega) (by decide))]
  have s2 : ∃ L : List D, aEnum (aCons (eOp gAdd (eSl (eVar 0) pNone (pSome (eC (.int 12)))) (eLst (aCons (eB gSum (aCons (eVar 0) aNil)) aNil))) aNil) [some (.lsk (ns.map D.int)), none, none, none, none, none, none, none, none] [] = some (L, []) ∧ ∀ d ∈ L, ∃ k c : Int, d = .tup [.int k, .int c] ∧ 0 ≤ k ∧ k ≤ 1000 := by
    unfold aEnum
    rw [cons_of s1 x_aNil]
    refine ⟨_, rfl, fun d hd => ?_⟩
    obtain ⟨⟨p, q⟩, hp, rfl⟩ := List.mem_map.mp hd
    obtain ⟨hp1, hp2⟩ := List.of_mem_zip hp
    obtain ⟨i, hi, rfl⟩ := List.mem_map.mp hp1
    have hi' := List.mem_range.mp hi
    rw [List.length_append, List.length_map] at hi'
    have hq : ∃ c : Int, q = .int c := by
      rcases List.mem_append.mp hp2 with z | z
      · obtain ⟨c, _, rfl⟩ := List.mem_map.mp z
        exact ⟨c, rfl⟩
      · exact ⟨_, List.mem_singleton.mp z⟩
    obtain ⟨c, rfl⟩ := hq
    exact ⟨i, c, rfl, by omega, by simp at hi'; omega⟩
  obtain ⟨L, e, hL⟩ := s2
  obtain ⟨y1, y2, y3, M', ec⟩ := cells_ok (some (.lsk (ns.map D.int))) L hL [] none none none none none none none none
  obtain ⟨row, hr⟩ := row_ex (n := 6000) (by decide) (by decide)
  obtain ⟨a7, l7, o7, e7⟩ := mul_a (x := "7") (by decide +kernel) (aok_of (by decide +kernel))
  obtain ⟨aa, la, oa, ea⟩ := mul_a (x := "a") (by decide +kernel) (aok_of (by decide +kernel))
  have hr6 := hr.len
  have hrl : row.length ≤ 900000 := Nat.le_trans hr6 (by decide)
  have ws : Wd? (" " : Str) 1 := lit_w (by decide +kernel) (by decide +kernel)
  have wm : Wd? ("-" : Str) 1 := lit_w (by decide +kernel) (by decide +kernel)
  have wR : Wd? row 900000 := ⟨hrl, hr.ok⟩
  have w7 : Wd? a7 5000 := ⟨by omega, o7⟩
  have mul6 : ∀ δ : Pl.Env, eOp gMul (eLst (aCons (eC (.str "ab")) aNil)) (eC (.int 6000)) δ M' = some (.lst ((List.replicate 6000 ("ab" : Str)).map D.str), M') := fun δ => mulS_of (n := 6000) (by decide) (x_eLst (cons_of x_eC x_aNil) (by simp))
  have words1 := words_sp (M := M') (x := row) (by omega) hr.ok
  have wRs := app_w wR ws
  have words2 := words_sp (M := M') (x := row ++ " ") (Nat.le_trans wRs.1 (by decide)) wRs.2
  rw [hr.w1] at words1
  rw [hr.w2] at words2
  have j6 := hr.jn M'
  have okAb : ∀ s ∈ List.replicate 6000 ("ab" : Str), SOk s := fun s hs => by
    rw [(List.mem_replicate.mp hs).2]
    exact (aok_of (by decide +kernel)).s
  have same6 := sameN_S (M := M') okAb
  generalize (List.replicate 6000 ("ab" : Str)).map D.str = L6 at mul6 words1 j6 same6
  refine ⟨M', fn_rt ?_⟩
  show gg_law [some (.lsk (ns.map D.int)), none, none, none, none, none, none, none, none] [] = _
  unfold gg_law
  refine seq_nx (δ' := [some (.lsk (ns.map D.int)), y1, y2, y3, none, none, none, none, none]) (M1 := M') ?_ ?_
  · unfold sFor
    rw [e]
    exact ec
  have gr : ∃ G : Int, 0 ≤ G ∧ eOp gAdd (eOp (gIntC PowOk fun i j => .int (i ^ j.toNat)) (eC (.int 10)) (eC (.int 40))) (eOp (gIntC (fun _ j => j ≠ 0) fun i j => .int (i.fmod j)) (eB (gL1 fun i => .int (if i < 0 then -i else i)) (aCons (eB gSum (aCons (eVar 0) aNil)) aNil)) (eOp (gIntC PowOk fun i j => .int (i ^ j.toNat)) (eC (.int 10)) (eC (.int 60)))) [some (.lsk (ns.map D.int)), y1, y2, y3, none, none, none, none, none] M' = some (.int G, M') := by
    have p40 : ∀ δ : Pl.Env, eOp (gIntC PowOk fun i j => .int (i ^ j.toNat)) (eC (.int 10)) (eC (.int 40)) δ M' = some (.int (10 ^ 40), M') := fun δ => op_of x_eC x_eC (intC_of (by decide))
    have p60 : ∀ δ : Pl.Env, eOp (gIntC PowOk fun i j => .int (i ^ j.toNat)) (eC (.int 10)) (eC (.int 60)) δ M' = some (.int (10 ^ 60), M') := fun δ => op_of x_eC x_eC (intC_of (by decide))
    have ab : eB (gL1 fun i => .int (if i < 0 then -i else i)) (aCons (eB gSum (aCons (eVar 0) aNil)) aNil) [some (.lsk (ns.map D.int)), y1, y2, y3, none, none, none, none, none] M' = some (.int (if ns.sum < 0 then -ns.sum else ns.sum), M') := by
      rw [x_eB, cons_of (sm _ _) x_aNil]
      rfl
    have hp : (0 : Int) < 10 ^ 60 := by decide
    generalize (10 : Int) ^ 60 = T at p60 hp
    generalize (if ns.sum < 0 then -ns.sum else ns.sum) = A at ab
    have h4 : (0 : Int) ≤ 10 ^ 40 := by decide
    generalize (10 : Int) ^ 40 = F at p40 h4
    have hf := Int.fmod_nonneg_of_pos A hp
    exact ⟨F + A.fmod T, by omega, op_of (p40 _) (op_of ab (p60 _) (intC_of (by omega))) rfl⟩
  obtain ⟨G, g0, eG⟩ := gr
  refine seq_as (M1 := M') (δ' := [some (.lsk (ns.map D.int)), y1, y2, y3, none, some (.int G), none, none, none]) eG rfl ?_
  have v5 : ∀ z6 z7 z8 : Option D, eVar 5 [some (.lsk (ns.map D.int)), y1, y2, y3, none, some (.int G), z6, z7, z8] M' = some (.int G, M') := fun _ _ _ => rfl
  have am : ∀ (a b c : Int) (bb : Bool), (decide (b ≤ a) && decide (a ≤ c)) = bb → ff_is_among [.int a, .int b, .int c] M' = some (.bl bb, M') := fun a b c bb e => by rw [among_int, e]
  refine seq_as (d := .lst [.bl true, .bl true, .bl true, .bl false]) (M1 := M') (δ' := [some (.lsk (ns.map D.int)), y1, y2, y3, none, some (.int G), some (.lst [.bl true, .bl true, .bl true, .bl false]), none, none]) (x_eLst (cons_of (call_of (cons_of (v5 _ _ _) x_aNil) (whole_int _ _)) (cons_of (call_of (cons_of (op_of x_eC (v5 _ _ _) rfl) x_aNil) (whole_int _ _)) (cons_of (call_of (cons_of (v5 _ _ _) (cons_of x_eC (cons_of (v5 _ _ _) x_aNil))) (am _ _ _ true (by rw [decide_eq_true g0, decide_eq_true (Int.le_refl G)]; rfl))) (cons_of (call_of (cons_of (v5 _ _ _) (cons_of x_eC (cons_of (op_of (v5 _ _ _) x_eC rfl) x_aNil))) (am _ _ _ false (by rw [decide_eq_false (show ¬ G ≤ G - 1 by omega), Bool.and_false]))) x_aNil)))) (by simp)) rfl ?_
  refine seq_as (d := .str row) (M1 := M') (δ' := [some (.lsk (ns.map D.int)), y1, y2, y3, none, some (.int G), some (.lst [.bl true, .bl true, .bl true, .bl false]), some (.str row), none]) ?_ rfl ?_
  · unfold eS1
    rw [x_eC]
    dsimp only
    rw [mul6]
    exact j6
  have q1 : PyData.strOk ("[True, True, True, False]" : Str) = true := lit_ok (by decide +kernel)
  have v7 : ∀ z8 : Option D, eVar 7 [some (.lsk (ns.map D.int)), y1, y2, y3, none, some (.int G), some (.lst [.bl true, .bl true, .bl true, .bl false]), some (.str row), z8] M' = some (.str row, M') := fun _ => rfl
  refine seq_if0 (M1 := M') (or0 (M1 := M') (v_bl (op_of (a := .str "[True, True, True, False]") (M1 := M') (M2 := M') ?_ x_eC ((ne_str q1 q1 M').trans (by rw [decide_eq_true rfl]; rfl)))) (or0 (M1 := M') (v_bl (op_of (call_of (cons_of (v7 _) x_aNil) words1) (mul6 _) same6)) (v_bl (op_of (call_of (cons_of (add_of (v7 _) x_eC wR ws (by decide)) x_aNil) words2) x_eC rfl)))) ?_
  · rw [x_eB, cons_of (d := .lst [.bl true, .bl true, .bl true, .bl false]) (M1 := M') rfl x_aNil]
    exact reprX_of (ps := [.bool true, .bool true, .bool true, .bool false]) rfl (by decide +kernel) (by decide +kernel) M'
  refine seq_as (d := .lst [.int 12, .int 20, .int 999, .int 99, .int 9999, .int 99, .int 12, .int 8]) (M1 := M') (δ' := [some (.lsk (ns.map D.int)), y1, y2, y3, none, some (.int G), some (.lst [.bl true, .bl true, .bl true, .bl false]), some (.str row), some (.lst [.int 12, .int 20, .int 999, .int 99, .int 9999, .int 99, .int 12, .int 8])]) (x_eLst (cons_of x_eC (cons_of x_eC (cons_of x_eC (cons_of x_eC (cons_of x_eC (cons_of x_eC (cons_of x_eC (cons_of x_eC x_aNil)))))))) (by simp)) rfl ?_
  refine seq_as (d := .lst [.int 12, .int 20, .int 999, .int 99, .int 9999, .int 99, .int 12, .int 8, .int 6, .int 5, .int 4, .int 4, .int 6, .int 2]) (M1 := M') (δ' := [some (.lsk (ns.map D.int)), y1, y2, y3, none, some (.int G), some (.lst [.bl true, .bl true, .bl true, .bl false]), some (.str row), some (.lst [.int 12, .int 20, .int 999, .int 99, .int 9999, .int 99, .int 12, .int 8, .int 6, .int 5, .int 4, .int 4, .int 6, .int 2])]) ?_ rfl ?_
  · refine op_of (M1 := M') (M2 := M') (a := .lst [.int 12, .int 20, .int 999, .int 99, .int 9999, .int 99, .int 12, .int 8]) (b := .lst [.int 6, .int 5, .int 4, .int 4, .int 6, .int 2]) rfl (x_eLst (cons_of x_eC (cons_of x_eC (cons_of x_eC (cons_of x_eC (cons_of x_eC (cons_of x_eC x_aNil)))))) (by simp)) ?_
    show (if (8 + 6 : Nat) ≤ sizeLine then some (D.lst ([.int 12, .int 20, .int 999, .int 99, .int 9999, .int 99, .int 12, .int 8] ++ [.int 6, .int 5, .int 4, .int 4, .int 6, .int 2]), M') else none) = _
    exact if_pos (by decide)
  have q2 : PyData.strOk ("[12, 20, 999, 99, 9999, 99, 12, 8, 6, 5, 4, 4, 6, 2]" : Str) = true := lit_ok (by decide +kernel)
  refine seq_if0 (M1 := M') (v_bl (op_of (a := .str "[12, 20, 999, 99, 9999, 99, 12, 8, 6, 5, 4, 4, 6, 2]") (M1 := M') (M2 := M') ?_ x_eC ((ne_str q2 q2 M').trans (by rw [decide_eq_true rfl]; rfl)))) (ret_of ?_)
  · rw [x_eB, cons_of (d := .lst [.int 12, .int 20, .int 999, .int 99, .int 9999, .int 99, .int 12, .int 8, .int 6, .int 5, .int 4, .int 4, .int 6, .int 2]) (M1 := M') rfl x_aNil]
    exact reprX_of (ps := [.int 12, .int 20, .int 999, .int 99, .int 9999, .int 99, .int 12, .int 8, .int 6, .int 5, .int 4, .int 4, .int 6, .int 2]) rfl (by decide +kernel) (by decide +kernel) M'
  have n7 := number_sp (M := M') (x := a7) (by omega)
  rw [isnum_long (by rw [← str_len]; omega)] at n7
  have na := name_sp (M := M') (x := aa) (by omega)
  rw [nameb_long (by rw [← str_len]; omega)] at na
  have w8 := app_w wm w7
  have s7 := signed_sp (M := M') (x := "-" ++ a7) (Nat.le_trans w8.1 (by decide)) w8.2
  have sg : sgnOf (TL.tl ("-" ++ a7)) = none := by
    unfold sgnOf
    rw [TL.tl_append, t45]
    show (if ([45] ++ TL.tl a7).take 1 = [45] then (match numOf (([45] ++ TL.tl a7).drop 1) with
      | none => none
      | some n => if n = 0 then none else some (-(n : Int))) else _) = none
    rw [if_pos (by simp), show List.drop 1 ([45] ++ TL.tl a7) = TL.tl a7 by simp, isnum_long (by rw [← str_len]; omega)]
  rw [sg] at s7
  have m7 : ∀ δ : Pl.Env, eOp gMul3 (eC (.str "7")) (eC (.int 5000)) δ M' = some (.str a7, M') := fun δ => op_of x_eC x_eC (e7 M')
  have ma : ∀ δ : Pl.Env, eOp gMul3 (eC (.str "a")) (eC (.int 5000)) δ M' = some (.str aa, M') := fun δ => op_of x_eC x_eC (ea M')
  exact an_of1 (op_of (call_of (cons_of (m7 _) x_aNil) n7) x_eC rfl) (an_of1 (op_of (call_of (cons_of (ma _) x_aNil) na) x_eC rfl) (op_of (call_of (cons_of (add_of x_eC (m7 _) wm w7 (by decide)) x_aNil) s7) x_eC rfl))
end Law

namespace Law
open PySem L2 Pl
theorem all_mk {l : PySem.W.OpenLaw} {w : World} {K : PySem.W.Frag} {h : Heap} {mg : Str → Option Value} {fa : Addr} (X : K.In h) (G : h.Ns mainGlobals mg) (hfa : mg "law" = some (.ref fa))
    {tk_MOST_LETTERS : Tok}
    {tk_LETTERS : Tok}
    {tk_MOST_FIGURES : Tok}
    {tk_FIGURES : Tok}
    {tk_MOST_SIDE : Tok}
    {tk_MOST_RING : Tok}
    {tk_MOST_UNDER : Tok}
    {tk_MOST_PLACED : Tok}
    {tk_MOST_RATIO : Tok}
    {tk_MOST_NUMBER : Tok}
    {tk_MOST_SAYINGS : Tok}
    {tk_MOST_POINTS : Tok}
    {tk_DEPTH : Tok}
    {tk_MOST_LENGTH : Tok}
    {tk_MOST_TOOL : Tok}
    {tk_MOST_TOOLS : Tok}
    {tk_MOST_FEATURES : Tok}
    {tk_MOST_HIGH : Tok}
    {f_is_whole : Addr} {od_is_whole an_is_whole : Option Addr} {sl_is_whole : Array (Option Value)} {oc_is_whole dc_is_whole pm_is_whole cd_is_whole ct_is_whole : Value}
    {kV_is_whole : Value}
    {f_is_among : Addr} {od_is_among an_is_among : Option Addr} {sl_is_among : Array (Option Value)} {oc_is_among dc_is_among pm_is_among cd_is_among ct_is_among : Value}
    {kV_is_among : Value}
    {f_is_text_of : Addr} {od_is_text_of an_is_text_of : Option Addr} {sl_is_text_of : Array (Option Value)} {oc_is_text_of dc_is_text_of pm_is_text_of cd_is_text_of ct_is_text_of : Value}
    {kV_is_text_of : Value}
    {f_is_name : Addr} {od_is_name an_is_name : Option Addr} {sl_is_name : Array (Option Value)} {oc_is_name dc_is_name pm_is_name cd_is_name ct_is_name : Value}
    {kV_is_name : Value}
    {f_number_of : Addr} {od_number_of an_number_of : Option Addr} {sl_number_of : Array (Option Value)} {oc_number_of dc_number_of pm_number_of cd_number_of ct_number_of : Value}
    {kV_number_of : Value}
    {f_signed_of : Addr} {od_signed_of an_signed_of : Option Addr} {sl_signed_of : Array (Option Value)} {oc_signed_of dc_signed_of pm_signed_of cd_signed_of ct_signed_of : Value}
    {kV_signed_of : Value}
    {f_words_of : Addr} {od_words_of an_words_of : Option Addr} {sl_words_of : Array (Option Value)} {oc_words_of dc_words_of pm_words_of cd_words_of ct_words_of : Value}
    {kV_words_of : Value}
    {f_law_mixed : Addr} {od_law_mixed an_law_mixed : Option Addr} {sl_law_mixed : Array (Option Value)} {oc_law_mixed dc_law_mixed pm_law_mixed cd_law_mixed ct_law_mixed : Value}
    {kV_law_mixed : Value}
    {f_law_draw : Addr} {od_law_draw an_law_draw : Option Addr} {sl_law_draw : Array (Option Value)} {oc_law_draw dc_law_draw pm_law_draw cd_law_draw ct_law_draw : Value}
    {kV_law_draw : Value}
    {f_law_digit : Addr} {od_law_digit an_law_digit : Option Addr} {sl_law_digit : Array (Option Value)} {oc_law_digit dc_law_digit pm_law_digit cd_law_digit ct_law_digit : Value}
    {kV_law_digit : Value}
    {f_law_number : Addr} {od_law_number an_law_number : Option Addr} {sl_law_number : Array (Option Value)} {oc_law_number dc_law_number pm_law_number cd_law_number ct_law_number : Value}
    {kV_law_number : Value}
    {f_law_signed : Addr} {od_law_signed an_law_signed : Option Addr} {sl_law_signed : Array (Option Value)} {oc_law_signed dc_law_signed pm_law_signed cd_law_signed ct_law_signed : Value}
    {kV_law_signed : Value}
    {f_law_word_right : Addr} {od_law_word_right an_law_word_right : Option Addr} {sl_law_word_right : Array (Option Value)} {oc_law_word_right dc_law_word_right pm_law_word_right cd_law_word_right ct_law_word_right : Value}
    {kV_law_word_right : Value}
    {f_law_texts : Addr} {od_law_texts an_law_texts : Option Addr} {sl_law_texts : Array (Option Value)} {oc_law_texts dc_law_texts pm_law_texts cd_law_texts ct_law_texts : Value}
    {kV_law_texts : Value}
    {f_law_numbers_right : Addr} {od_law_numbers_right an_law_numbers_right : Option Addr} {sl_law_numbers_right : Array (Option Value)} {oc_law_numbers_right dc_law_numbers_right pm_law_numbers_right cd_law_numbers_right ct_law_numbers_right : Value}
    {kV_law_numbers_right : Value}
    {f_law : Addr} {od_law an_law : Option Addr} {sl_law : Array (Option Value)} {oc_law dc_law pm_law cd_law ct_law : Value}
    {kV_law : Value}
    (z_int : PySem.W.nsIn K mainGlobals "int" = some none)
    (z_isinstance : PySem.W.nsIn K mainGlobals "isinstance" = some none)
    (z_bool : PySem.W.nsIn K mainGlobals "bool" = some none)
    (z_str : PySem.W.nsIn K mainGlobals "str" = some none)
    (z_len : PySem.W.nsIn K mainGlobals "len" = some none)
    (z_all : PySem.W.nsIn K mainGlobals "all" = some none)
    (z_range : PySem.W.nsIn K mainGlobals "range" = some none)
    (z_repr : PySem.W.nsIn K mainGlobals "repr" = some none)
    (z_list : PySem.W.nsIn K mainGlobals "list" = some none)
    (z_enumerate : PySem.W.nsIn K mainGlobals "enumerate" = some none)
    (z_sum : PySem.W.nsIn K mainGlobals "sum" = some none)
    (z_abs : PySem.W.nsIn K mainGlobals "abs" = some none)
    (g_MOST_LETTERS : PySem.W.nsIn K mainGlobals "MOST_LETTERS" = some (some (.int 8 tk_MOST_LETTERS)))
    (g_LETTERS : PySem.W.nsIn K mainGlobals "LETTERS" = some (some (.str "abcdefghijklmnopqrstuvwxyz" tk_LETTERS)))
    (g_MOST_FIGURES : PySem.W.nsIn K mainGlobals "MOST_FIGURES" = some (some (.int 4 tk_MOST_FIGURES)))
    (g_FIGURES : PySem.W.nsIn K mainGlobals "FIGURES" = some (some (.str "0123456789" tk_FIGURES)))
    (g_MOST_SIDE : PySem.W.nsIn K mainGlobals "MOST_SIDE" = some (some (.int 8 tk_MOST_SIDE)))
    (g_MOST_RING : PySem.W.nsIn K mainGlobals "MOST_RING" = some (some (.int 12 tk_MOST_RING)))
    (g_MOST_UNDER : PySem.W.nsIn K mainGlobals "MOST_UNDER" = some (some (.int 99 tk_MOST_UNDER)))
    (g_MOST_PLACED : PySem.W.nsIn K mainGlobals "MOST_PLACED" = some (some (.int 9999 tk_MOST_PLACED)))
    (g_MOST_RATIO : PySem.W.nsIn K mainGlobals "MOST_RATIO" = some (some (.int 99 tk_MOST_RATIO)))
    (g_MOST_NUMBER : PySem.W.nsIn K mainGlobals "MOST_NUMBER" = some (some (.int 999 tk_MOST_NUMBER)))
    (g_MOST_SAYINGS : PySem.W.nsIn K mainGlobals "MOST_SAYINGS" = some (some (.int 20 tk_MOST_SAYINGS)))
    (g_MOST_POINTS : PySem.W.nsIn K mainGlobals "MOST_POINTS" = some (some (.int 12 tk_MOST_POINTS)))
    (g_DEPTH : PySem.W.nsIn K mainGlobals "DEPTH" = some (some (.int 2 tk_DEPTH)))
    (g_MOST_LENGTH : PySem.W.nsIn K mainGlobals "MOST_LENGTH" = some (some (.int 6 tk_MOST_LENGTH)))
    (g_MOST_TOOL : PySem.W.nsIn K mainGlobals "MOST_TOOL" = some (some (.int 4 tk_MOST_TOOL)))
    (g_MOST_TOOLS : PySem.W.nsIn K mainGlobals "MOST_TOOLS" = some (some (.int 4 tk_MOST_TOOLS)))
    (g_MOST_FEATURES : PySem.W.nsIn K mainGlobals "MOST_FEATURES" = some (some (.int 5 tk_MOST_FEATURES)))
    (g_MOST_HIGH : PySem.W.nsIn K mainGlobals "MOST_HIGH" = some (some (.int 6 tk_MOST_HIGH)))
    (a_is_whole : PySem.W.nsIn K mainGlobals "is_whole" = some (some (.ref f_is_whole)))
    (l_is_whole : K.lookup f_is_whole = some ⟨oc_is_whole, od_is_whole, .func (PySem.W.fnOf "is_whole" "is_whole" (defArgs ss_is_whole) (defBody ss_is_whole) (defScope ss_is_whole) .none kV_is_whole dc_is_whole pm_is_whole an_is_whole cd_is_whole ct_is_whole), sl_is_whole⟩)
    (c_is_whole : PySem.W.codeIn K cd_is_whole "is_whole" = true) (k_is_whole : PySem.W.keepIn K (.ref f_is_whole) = true)
    (a_is_among : PySem.W.nsIn K mainGlobals "is_among" = some (some (.ref f_is_among)))
    (l_is_among : K.lookup f_is_among = some ⟨oc_is_among, od_is_among, .func (PySem.W.fnOf "is_among" "is_among" (defArgs ss_is_among) (defBody ss_is_among) (defScope ss_is_among) .none kV_is_among dc_is_among pm_is_among an_is_among cd_is_among ct_is_among), sl_is_among⟩)
    (c_is_among : PySem.W.codeIn K cd_is_among "is_among" = true) (k_is_among : PySem.W.keepIn K (.ref f_is_among) = true)
    (a_is_text_of : PySem.W.nsIn K mainGlobals "_is_text_of" = some (some (.ref f_is_text_of)))
    (l_is_text_of : K.lookup f_is_text_of = some ⟨oc_is_text_of, od_is_text_of, .func (PySem.W.fnOf "_is_text_of" "_is_text_of" (defArgs ss_is_text_of) (defBody ss_is_text_of) (defScope ss_is_text_of) .none kV_is_text_of dc_is_text_of pm_is_text_of an_is_text_of cd_is_text_of ct_is_text_of), sl_is_text_of⟩)
    (c_is_text_of : PySem.W.codeIn K cd_is_text_of "_is_text_of" = true) (k_is_text_of : PySem.W.keepIn K (.ref f_is_text_of) = true)
    (a_is_name : PySem.W.nsIn K mainGlobals "is_name" = some (some (.ref f_is_name)))
    (l_is_name : K.lookup f_is_name = some ⟨oc_is_name, od_is_name, .func (PySem.W.fnOf "is_name" "is_name" (defArgs ss_is_name) (defBody ss_is_name) (defScope ss_is_name) .none kV_is_name dc_is_name pm_is_name an_is_name cd_is_name ct_is_name), sl_is_name⟩)
    (c_is_name : PySem.W.codeIn K cd_is_name "is_name" = true) (k_is_name : PySem.W.keepIn K (.ref f_is_name) = true)
    (a_number_of : PySem.W.nsIn K mainGlobals "number_of" = some (some (.ref f_number_of)))
    (l_number_of : K.lookup f_number_of = some ⟨oc_number_of, od_number_of, .func (PySem.W.fnOf "number_of" "number_of" (defArgs ss_number_of) (defBody ss_number_of) (defScope ss_number_of) .none kV_number_of dc_number_of pm_number_of an_number_of cd_number_of ct_number_of), sl_number_of⟩)
    (c_number_of : PySem.W.codeIn K cd_number_of "number_of" = true) (k_number_of : PySem.W.keepIn K (.ref f_number_of) = true)
    (a_signed_of : PySem.W.nsIn K mainGlobals "signed_of" = some (some (.ref f_signed_of)))
    (l_signed_of : K.lookup f_signed_of = some ⟨oc_signed_of, od_signed_of, .func (PySem.W.fnOf "signed_of" "signed_of" (defArgs ss_signed_of) (defBody ss_signed_of) (defScope ss_signed_of) .none kV_signed_of dc_signed_of pm_signed_of an_signed_of cd_signed_of ct_signed_of), sl_signed_of⟩)
    (c_signed_of : PySem.W.codeIn K cd_signed_of "signed_of" = true) (k_signed_of : PySem.W.keepIn K (.ref f_signed_of) = true)
    (a_words_of : PySem.W.nsIn K mainGlobals "words_of" = some (some (.ref f_words_of)))
    (l_words_of : K.lookup f_words_of = some ⟨oc_words_of, od_words_of, .func (PySem.W.fnOf "words_of" "words_of" (defArgs ss_words_of) (defBody ss_words_of) (defScope ss_words_of) .none kV_words_of dc_words_of pm_words_of an_words_of cd_words_of ct_words_of), sl_words_of⟩)
    (c_words_of : PySem.W.codeIn K cd_words_of "words_of" = true) (k_words_of : PySem.W.keepIn K (.ref f_words_of) = true)
    (a_law_mixed : PySem.W.nsIn K mainGlobals "_law_mixed" = some (some (.ref f_law_mixed)))
    (l_law_mixed : K.lookup f_law_mixed = some ⟨oc_law_mixed, od_law_mixed, .func (PySem.W.fnOf "_law_mixed" "_law_mixed" (defArgs ss_law_mixed) (defBody ss_law_mixed) (defScope ss_law_mixed) .none kV_law_mixed dc_law_mixed pm_law_mixed an_law_mixed cd_law_mixed ct_law_mixed), sl_law_mixed⟩)
    (c_law_mixed : PySem.W.codeIn K cd_law_mixed "_law_mixed" = true) (k_law_mixed : PySem.W.keepIn K (.ref f_law_mixed) = true)
    (a_law_draw : PySem.W.nsIn K mainGlobals "_law_draw" = some (some (.ref f_law_draw)))
    (l_law_draw : K.lookup f_law_draw = some ⟨oc_law_draw, od_law_draw, .func (PySem.W.fnOf "_law_draw" "_law_draw" (defArgs ss_law_draw) (defBody ss_law_draw) (defScope ss_law_draw) .none kV_law_draw dc_law_draw pm_law_draw an_law_draw cd_law_draw ct_law_draw), sl_law_draw⟩)
    (c_law_draw : PySem.W.codeIn K cd_law_draw "_law_draw" = true) (k_law_draw : PySem.W.keepIn K (.ref f_law_draw) = true)
    (a_law_digit : PySem.W.nsIn K mainGlobals "_law_digit" = some (some (.ref f_law_digit)))
    (l_law_digit : K.lookup f_law_digit = some ⟨oc_law_digit, od_law_digit, .func (PySem.W.fnOf "_law_digit" "_law_digit" (defArgs ss_law_digit) (defBody ss_law_digit) (defScope ss_law_digit) .none kV_law_digit dc_law_digit pm_law_digit an_law_digit cd_law_digit ct_law_digit), sl_law_digit⟩)
    (c_law_digit : PySem.W.codeIn K cd_law_digit "_law_digit" = true) (k_law_digit : PySem.W.keepIn K (.ref f_law_digit) = true)
    (a_law_number : PySem.W.nsIn K mainGlobals "_law_number" = some (some (.ref f_law_number)))
    (l_law_number : K.lookup f_law_number = some ⟨oc_law_number, od_law_number, .func (PySem.W.fnOf "_law_number" "_law_number" (defArgs ss_law_number) (defBody ss_law_number) (defScope ss_law_number) .none kV_law_number dc_law_number pm_law_number an_law_number cd_law_number ct_law_number), sl_law_number⟩)
    (c_law_number : PySem.W.codeIn K cd_law_number "_law_number" = true) (k_law_number : PySem.W.keepIn K (.ref f_law_number) = true)
    (a_law_signed : PySem.W.nsIn K mainGlobals "_law_signed" = some (some (.ref f_law_signed)))
    (l_law_signed : K.lookup f_law_signed = some ⟨oc_law_signed, od_law_signed, .func (PySem.W.fnOf "_law_signed" "_law_signed" (defArgs ss_law_signed) (defBody ss_law_signed) (defScope ss_law_signed) .none kV_law_signed dc_law_signed pm_law_signed an_law_signed cd_law_signed ct_law_signed), sl_law_signed⟩)
    (c_law_signed : PySem.W.codeIn K cd_law_signed "_law_signed" = true) (k_law_signed : PySem.W.keepIn K (.ref f_law_signed) = true)
    (a_law_word_right : PySem.W.nsIn K mainGlobals "_law_word_right" = some (some (.ref f_law_word_right)))
    (l_law_word_right : K.lookup f_law_word_right = some ⟨oc_law_word_right, od_law_word_right, .func (PySem.W.fnOf "_law_word_right" "_law_word_right" (defArgs ss_law_word_right) (defBody ss_law_word_right) (defScope ss_law_word_right) .none kV_law_word_right dc_law_word_right pm_law_word_right an_law_word_right cd_law_word_right ct_law_word_right), sl_law_word_right⟩)
    (c_law_word_right : PySem.W.codeIn K cd_law_word_right "_law_word_right" = true) (k_law_word_right : PySem.W.keepIn K (.ref f_law_word_right) = true)
    (a_law_texts : PySem.W.nsIn K mainGlobals "_law_texts" = some (some (.ref f_law_texts)))
    (l_law_texts : K.lookup f_law_texts = some ⟨oc_law_texts, od_law_texts, .func (PySem.W.fnOf "_law_texts" "_law_texts" (defArgs ss_law_texts) (defBody ss_law_texts) (defScope ss_law_texts) .none kV_law_texts dc_law_texts pm_law_texts an_law_texts cd_law_texts ct_law_texts), sl_law_texts⟩)
    (c_law_texts : PySem.W.codeIn K cd_law_texts "_law_texts" = true) (k_law_texts : PySem.W.keepIn K (.ref f_law_texts) = true)
    (a_law_numbers_right : PySem.W.nsIn K mainGlobals "_law_numbers_right" = some (some (.ref f_law_numbers_right)))
    (l_law_numbers_right : K.lookup f_law_numbers_right = some ⟨oc_law_numbers_right, od_law_numbers_right, .func (PySem.W.fnOf "_law_numbers_right" "_law_numbers_right" (defArgs ss_law_numbers_right) (defBody ss_law_numbers_right) (defScope ss_law_numbers_right) .none kV_law_numbers_right dc_law_numbers_right pm_law_numbers_right an_law_numbers_right cd_law_numbers_right ct_law_numbers_right), sl_law_numbers_right⟩)
    (c_law_numbers_right : PySem.W.codeIn K cd_law_numbers_right "_law_numbers_right" = true) (k_law_numbers_right : PySem.W.keepIn K (.ref f_law_numbers_right) = true)
    (a_law : PySem.W.nsIn K mainGlobals "law" = some (some (.ref f_law)))
    (l_law : K.lookup f_law = some ⟨oc_law, od_law, .func (PySem.W.fnOf "law" "law" (defArgs ss_law) (defBody ss_law) (defScope ss_law) .none kV_law dc_law pm_law an_law cd_law ct_law), sl_law⟩)
    (c_law : PySem.W.codeIn K cd_law "law" = true) (k_law : PySem.W.keepIn K (.ref f_law) = true)
    : ∃ fd : FuncData, (∀ (s : Shared) (v : Value), BindsTo s fd ⟨[v], []⟩ [("script", v)]) ∧ ∀ base : Heap, K.In base → base.Ns mainGlobals mg → DFn l.prog w K mg base 5 fa fd ["script"] ff_law := by
  have e := hfa.symm.trans (PySem.W.mg_of X G a_law)
  cases e
  have T : Txt K mg := ⟨PySem.W.mg_none_of X G z_int, PySem.W.mg_none_of X G z_isinstance, PySem.W.mg_none_of X G z_bool, PySem.W.mg_none_of X G z_str, PySem.W.mg_none_of X G z_len, PySem.W.mg_none_of X G z_all, PySem.W.mg_none_of X G z_range, PySem.W.mg_none_of X G z_repr, PySem.W.mg_none_of X G z_list, PySem.W.mg_none_of X G z_enumerate, PySem.W.mg_none_of X G z_sum, PySem.W.mg_none_of X G z_abs, ⟨(.int 8), _, PySem.W.mg_of X G g_MOST_LETTERS, ⟨_, rfl⟩, fun _ _ => .int _⟩, ⟨(.str "abcdefghijklmnopqrstuvwxyz"), _, PySem.W.mg_of X G g_LETTERS, ⟨_, rfl⟩, fun _ _ => .str _⟩, ⟨(.int 4), _, PySem.W.mg_of X G g_MOST_FIGURES, ⟨_, rfl⟩, fun _ _ => .int _⟩, ⟨(.str "0123456789"), _, PySem.W.mg_of X G g_FIGURES, ⟨_, rfl⟩, fun _ _ => .str _⟩, ⟨(.int 8), _, PySem.W.mg_of X G g_MOST_SIDE, ⟨_, rfl⟩, fun _ _ => .int _⟩, ⟨(.int 12), _, PySem.W.mg_of X G g_MOST_RING, ⟨_, rfl⟩, fun _ _ => .int _⟩, ⟨(.int 99), _, PySem.W.mg_of X G g_MOST_UNDER, ⟨_, rfl⟩, fun _ _ => .int _⟩, ⟨(.int 9999), _, PySem.W.mg_of X G g_MOST_PLACED, ⟨_, rfl⟩, fun _ _ => .int _⟩, ⟨(.int 99), _, PySem.W.mg_of X G g_MOST_RATIO, ⟨_, rfl⟩, fun _ _ => .int _⟩, ⟨(.int 999), _, PySem.W.mg_of X G g_MOST_NUMBER, ⟨_, rfl⟩, fun _ _ => .int _⟩, ⟨(.int 20), _, PySem.W.mg_of X G g_MOST_SAYINGS, ⟨_, rfl⟩, fun _ _ => .int _⟩, ⟨(.int 12), _, PySem.W.mg_of X G g_MOST_POINTS, ⟨_, rfl⟩, fun _ _ => .int _⟩, ⟨(.int 2), _, PySem.W.mg_of X G g_DEPTH, ⟨_, rfl⟩, fun _ _ => .int _⟩, ⟨(.int 6), _, PySem.W.mg_of X G g_MOST_LENGTH, ⟨_, rfl⟩, fun _ _ => .int _⟩, ⟨(.int 4), _, PySem.W.mg_of X G g_MOST_TOOL, ⟨_, rfl⟩, fun _ _ => .int _⟩, ⟨(.int 4), _, PySem.W.mg_of X G g_MOST_TOOLS, ⟨_, rfl⟩, fun _ _ => .int _⟩, ⟨(.int 5), _, PySem.W.mg_of X G g_MOST_FEATURES, ⟨_, rfl⟩, fun _ _ => .int _⟩, ⟨(.int 6), _, PySem.W.mg_of X G g_MOST_HIGH, ⟨_, rfl⟩, fun _ _ => .int _⟩⟩
  have F_is_whole : FF_is_whole K f_is_whole _ := ⟨⟨_, _, _, _, _, _, _, _, _, _, rfl, l_is_whole, c_is_whole, .inl ⟨rfl, rfl⟩, .inl rfl⟩, k_is_whole⟩
  have b_is_whole := F_is_whole.bindsN (ps := ["thing"]) fun _ _ _ _ _ _ us hl => match us, hl with | [_], _ => rfl
  have F_is_among : FF_is_among K f_is_among _ := ⟨⟨_, _, _, _, _, _, _, _, _, _, rfl, l_is_among, c_is_among, .inl ⟨rfl, rfl⟩, .inl rfl⟩, k_is_among⟩
  have b_is_among := F_is_among.bindsN (ps := ["thing", "least", "most"]) fun _ _ _ _ _ _ us hl => match us, hl with | [_, _, _], _ => rfl
  have F_is_text_of : FF_is_text_of K f_is_text_of _ := ⟨⟨_, _, _, _, _, _, _, _, _, _, rfl, l_is_text_of, c_is_text_of, .inl ⟨rfl, rfl⟩, .inl rfl⟩, k_is_text_of⟩
  have b_is_text_of := F_is_text_of.bindsN (ps := ["thing", "signs", "most"]) fun _ _ _ _ _ _ us hl => match us, hl with | [_, _, _], _ => rfl
  have F_is_name : FF_is_name K f_is_name _ := ⟨⟨_, _, _, _, _, _, _, _, _, _, rfl, l_is_name, c_is_name, .inl ⟨rfl, rfl⟩, .inl rfl⟩, k_is_name⟩
  have b_is_name := F_is_name.bindsN (ps := ["thing"]) fun _ _ _ _ _ _ us hl => match us, hl with | [_], _ => rfl
  have F_number_of : FF_number_of K f_number_of _ := ⟨⟨_, _, _, _, _, _, _, _, _, _, rfl, l_number_of, c_number_of, .inl ⟨rfl, rfl⟩, .inl rfl⟩, k_number_of⟩
  have b_number_of := F_number_of.bindsN (ps := ["word"]) fun _ _ _ _ _ _ us hl => match us, hl with | [_], _ => rfl
  have F_signed_of : FF_signed_of K f_signed_of _ := ⟨⟨_, _, _, _, _, _, _, _, _, _, rfl, l_signed_of, c_signed_of, .inl ⟨rfl, rfl⟩, .inl rfl⟩, k_signed_of⟩
  have b_signed_of := F_signed_of.bindsN (ps := ["word"]) fun _ _ _ _ _ _ us hl => match us, hl with | [_], _ => rfl
  have F_words_of : FF_words_of K f_words_of _ := ⟨⟨_, _, _, _, _, _, _, _, _, _, rfl, l_words_of, c_words_of, .inl ⟨rfl, rfl⟩, .inl rfl⟩, k_words_of⟩
  have b_words_of := F_words_of.bindsN (ps := ["row"]) fun _ _ _ _ _ _ us hl => match us, hl with | [_], _ => rfl
  have F_law_mixed : FF_law_mixed K f_law_mixed _ := ⟨⟨_, _, _, _, _, _, _, _, _, _, rfl, l_law_mixed, c_law_mixed, .inl ⟨rfl, rfl⟩, .inl rfl⟩, k_law_mixed⟩
  have b_law_mixed := F_law_mixed.bindsN (ps := ["cell", "k"]) fun _ _ _ _ _ _ us hl => match us, hl with | [_, _], _ => rfl
  have F_law_draw : FF_law_draw K f_law_draw _ := ⟨⟨_, _, _, _, _, _, _, _, _, _, rfl, l_law_draw, c_law_draw, .inl ⟨rfl, rfl⟩, .inl rfl⟩, k_law_draw⟩
  have b_law_draw := F_law_draw.bindsN (ps := ["cell", "k"]) fun _ _ _ _ _ _ us hl => match us, hl with | [_, _], _ => rfl
  have F_law_digit : FF_law_digit K f_law_digit _ := ⟨⟨_, _, _, _, _, _, _, _, _, _, rfl, l_law_digit, c_law_digit, .inl ⟨rfl, rfl⟩, .inl rfl⟩, k_law_digit⟩
  have b_law_digit := F_law_digit.bindsN (ps := ["state", "many"]) fun _ _ _ _ _ _ us hl => match us, hl with | [_, _], _ => rfl
  have F_law_number : FF_law_number K f_law_number _ := ⟨⟨_, _, _, _, _, _, _, _, _, _, rfl, l_law_number, c_law_number, .inl ⟨rfl, rfl⟩, .inl rfl⟩, k_law_number⟩
  have b_law_number := F_law_number.bindsN (ps := ["word"]) fun _ _ _ _ _ _ us hl => match us, hl with | [_], _ => rfl
  have F_law_signed : FF_law_signed K f_law_signed _ := ⟨⟨_, _, _, _, _, _, _, _, _, _, rfl, l_law_signed, c_law_signed, .inl ⟨rfl, rfl⟩, .inl rfl⟩, k_law_signed⟩
  have b_law_signed := F_law_signed.bindsN (ps := ["word"]) fun _ _ _ _ _ _ us hl => match us, hl with | [_], _ => rfl
  have F_law_word_right : FF_law_word_right K f_law_word_right _ := ⟨⟨_, _, _, _, _, _, _, _, _, _, rfl, l_law_word_right, c_law_word_right, .inl ⟨rfl, rfl⟩, .inl rfl⟩, k_law_word_right⟩
  have b_law_word_right := F_law_word_right.bindsN (ps := ["word"]) fun _ _ _ _ _ _ us hl => match us, hl with | [_], _ => rfl
  have F_law_texts : FF_law_texts K f_law_texts _ := ⟨⟨_, _, _, _, _, _, _, _, _, _, rfl, l_law_texts, c_law_texts, .inl ⟨rfl, rfl⟩, .inl rfl⟩, k_law_texts⟩
  have b_law_texts := F_law_texts.bindsN (ps := ["state"]) fun _ _ _ _ _ _ us hl => match us, hl with | [_], _ => rfl
  have F_law_numbers_right : FF_law_numbers_right K f_law_numbers_right _ := ⟨⟨_, _, _, _, _, _, _, _, _, _, rfl, l_law_numbers_right, c_law_numbers_right, .inl ⟨rfl, rfl⟩, .inl rfl⟩, k_law_numbers_right⟩
  have b_law_numbers_right := F_law_numbers_right.bindsN (ps := ["state"]) fun _ _ _ _ _ _ us hl => match us, hl with | [_], _ => rfl
  have F_law : FF_law K fa _ := ⟨⟨_, _, _, _, _, _, _, _, _, _, rfl, l_law, c_law, .inl ⟨rfl, rfl⟩, .inl rfl⟩, k_law⟩
  have b_law := F_law.bindsN (ps := ["script"]) fun _ _ _ _ _ _ us hl => match us, hl with | [_], _ => rfl
  refine ⟨_, fun s v => F_law.bindsA (ps := ["script"]) (fun _ _ _ _ _ _ us hl => match us, hl with | [_], _ => rfl) s [v] rfl, fun base _ _ => ?_⟩
  have O_is_whole := ok_is_whole (P := l.prog) (w := w) (base := base) T  F_is_whole
  have L_is_whole : Lk l.prog w K mg base "is_whole" 1 ["thing"] ff_is_whole := ⟨_, _, O_is_whole, PySem.W.mg_of X G a_is_whole, k_is_whole, b_is_whole⟩
  have O_is_among := ok_is_among (P := l.prog) (w := w) (base := base) T L_is_whole F_is_among
  have L_is_among : Lk l.prog w K mg base "is_among" 2 ["thing", "least", "most"] ff_is_among := ⟨_, _, O_is_among, PySem.W.mg_of X G a_is_among, k_is_among, b_is_among⟩
  have O_is_text_of := ok_is_text_of (P := l.prog) (w := w) (base := base) T  F_is_text_of
  have L_is_text_of : Lk l.prog w K mg base "_is_text_of" 1 ["thing", "signs", "most"] ff_is_text_of := ⟨_, _, O_is_text_of, PySem.W.mg_of X G a_is_text_of, k_is_text_of, b_is_text_of⟩
  have O_is_name := ok_is_name (P := l.prog) (w := w) (base := base) T L_is_text_of F_is_name
  have L_is_name : Lk l.prog w K mg base "is_name" 2 ["thing"] ff_is_name := ⟨_, _, O_is_name, PySem.W.mg_of X G a_is_name, k_is_name, b_is_name⟩
  have O_number_of := ok_number_of (P := l.prog) (w := w) (base := base) T L_is_text_of F_number_of
  have L_number_of : Lk l.prog w K mg base "number_of" 2 ["word"] ff_number_of := ⟨_, _, O_number_of, PySem.W.mg_of X G a_number_of, k_number_of, b_number_of⟩
  have O_signed_of := ok_signed_of (P := l.prog) (w := w) (base := base) T L_number_of F_signed_of
  have L_signed_of : Lk l.prog w K mg base "signed_of" 3 ["word"] ff_signed_of := ⟨_, _, O_signed_of, PySem.W.mg_of X G a_signed_of, k_signed_of, b_signed_of⟩
  have O_words_of := ok_words_of (P := l.prog) (w := w) (base := base) T  F_words_of
  have L_words_of : Lk l.prog w K mg base "words_of" 1 ["row"] ff_words_of := ⟨_, _, O_words_of, PySem.W.mg_of X G a_words_of, k_words_of, b_words_of⟩
  have O_law_mixed := ok_law_mixed (P := l.prog) (w := w) (base := base) T  F_law_mixed
  have L_law_mixed : Lk l.prog w K mg base "_law_mixed" 1 ["cell", "k"] ff_law_mixed := ⟨_, _, O_law_mixed, PySem.W.mg_of X G a_law_mixed, k_law_mixed, b_law_mixed⟩
  have O_law_draw := ok_law_draw (P := l.prog) (w := w) (base := base) T  F_law_draw
  have L_law_draw : Lk l.prog w K mg base "_law_draw" 1 ["cell", "k"] ff_law_draw := ⟨_, _, O_law_draw, PySem.W.mg_of X G a_law_draw, k_law_draw, b_law_draw⟩
  have O_law_digit := ok_law_digit (P := l.prog) (w := w) (base := base) T L_law_mixed F_law_digit
  have L_law_digit : Lk l.prog w K mg base "_law_digit" 2 ["state", "many"] ff_law_digit := ⟨_, _, O_law_digit, PySem.W.mg_of X G a_law_digit, k_law_digit, b_law_digit⟩
  have O_law_number := ok_law_number (P := l.prog) (w := w) (base := base) T  F_law_number
  have L_law_number : Lk l.prog w K mg base "_law_number" 1 ["word"] ff_law_number := ⟨_, _, O_law_number, PySem.W.mg_of X G a_law_number, k_law_number, b_law_number⟩
  have O_law_signed := ok_law_signed (P := l.prog) (w := w) (base := base) T L_law_number F_law_signed
  have L_law_signed : Lk l.prog w K mg base "_law_signed" 2 ["word"] ff_law_signed := ⟨_, _, O_law_signed, PySem.W.mg_of X G a_law_signed, k_law_signed, b_law_signed⟩
  have O_law_word_right := ok_law_word_right (P := l.prog) (w := w) (base := base) T L_law_signed L_law_number L_is_among L_is_whole L_signed_of L_number_of L_is_name L_words_of F_law_word_right
  have L_law_word_right : Lk l.prog w K mg base "_law_word_right" 4 ["word"] ff_law_word_right := ⟨_, _, O_law_word_right, PySem.W.mg_of X G a_law_word_right, k_law_word_right, b_law_word_right⟩
  have O_law_texts := ok_law_texts (P := l.prog) (w := w) (base := base) T L_law_digit F_law_texts
  have L_law_texts : Lk l.prog w K mg base "_law_texts" 3 ["state"] ff_law_texts := ⟨_, _, O_law_texts, PySem.W.mg_of X G a_law_texts, k_law_texts, b_law_texts⟩
  have O_law_numbers_right := ok_law_numbers_right (P := l.prog) (w := w) (base := base) T L_law_digit L_is_among L_is_whole L_words_of L_signed_of L_number_of L_is_name F_law_numbers_right
  have L_law_numbers_right : Lk l.prog w K mg base "_law_numbers_right" 4 ["state"] ff_law_numbers_right := ⟨_, _, O_law_numbers_right, PySem.W.mg_of X G a_law_numbers_right, k_law_numbers_right, b_law_numbers_right⟩
  have O_law := ok_law (P := l.prog) (w := w) (base := base) T L_law_draw L_law_texts L_law_word_right L_law_numbers_right L_is_among L_is_whole L_words_of L_number_of L_is_name L_signed_of F_law
  exact O_law
end Law
open PySem PySem.W PyProof.Rows
set_option maxRecDepth 100000 in
set_option maxHeartbeats 0 in
theorem PySem.Challenge.cw_panelworks_k01_words_and_numbers_holds : PySem.Challenge.rw_panelworks_k01_words_and_numbers.Holds := by
  w_on; o_law; k_head; (case hw => w_witness2)
  k_fill
  refine Pl.walk_ofD (l := PySem.Challenge.rw_panelworks_k01_words_and_numbers) (n := 63) (k := 5) (x := "script") (F := Law.ff_law) rfl (by decide) rfl ⟨rfl, by decide, by decide⟩ (fun w h Y => PySem.W.kIn_of Y) ?F Law.truth
  case F =>
    intro w mg fa h KX G hmg
    refine' Law.all_mk KX G hmg ?q_z_int ?q_z_isinstance ?q_z_bool ?q_z_str ?q_z_len ?q_z_all ?q_z_range ?q_z_repr ?q_z_list ?q_z_enumerate ?q_z_sum ?q_z_abs ?q_g_MOST_LETTERS ?q_g_LETTERS ?q_g_MOST_FIGURES ?q_g_FIGURES ?q_g_MOST_SIDE ?q_g_MOST_RING ?q_g_MOST_UNDER ?q_g_MOST_PLACED ?q_g_MOST_RATIO ?q_g_MOST_NUMBER ?q_g_MOST_SAYINGS ?q_g_MOST_POINTS ?q_g_DEPTH ?q_g_MOST_LENGTH ?q_g_MOST_TOOL ?q_g_MOST_TOOLS ?q_g_MOST_FEATURES ?q_g_MOST_HIGH ?q_a_is_whole ?q_l_is_whole ?q_c_is_whole ?q_k_is_whole ?q_a_is_among ?q_l_is_among ?q_c_is_among ?q_k_is_among ?q_a_is_text_of ?q_l_is_text_of ?q_c_is_text_of ?q_k_is_text_of ?q_a_is_name ?q_l_is_name ?q_c_is_name ?q_k_is_name ?q_a_number_of ?q_l_number_of ?q_c_number_of ?q_k_number_of ?q_a_signed_of ?q_l_signed_of ?q_c_signed_of ?q_k_signed_of ?q_a_words_of ?q_l_words_of ?q_c_words_of ?q_k_words_of ?q_a_law_mixed ?q_l_law_mixed ?q_c_law_mixed ?q_k_law_mixed ?q_a_law_draw ?q_l_law_draw ?q_c_law_draw ?q_k_law_draw ?q_a_law_digit ?q_l_law_digit ?q_c_law_digit ?q_k_law_digit ?q_a_law_number ?q_l_law_number ?q_c_law_number ?q_k_law_number ?q_a_law_signed ?q_l_law_signed ?q_c_law_signed ?q_k_law_signed ?q_a_law_word_right ?q_l_law_word_right ?q_c_law_word_right ?q_k_law_word_right ?q_a_law_texts ?q_l_law_texts ?q_c_law_texts ?q_k_law_texts ?q_a_law_numbers_right ?q_l_law_numbers_right ?q_c_law_numbers_right ?q_k_law_numbers_right ?q_a_law ?q_l_law ?q_c_law ?q_k_law
    (case q_z_int => k_is)
    (case q_z_isinstance => k_is)
    (case q_z_bool => k_is)
    (case q_z_str => k_is)
    (case q_z_len => k_is)
    (case q_z_all => k_is)
    (case q_z_range => k_is)
    (case q_z_repr => k_is)
    (case q_z_list => k_is)
    (case q_z_enumerate => k_is)
    (case q_z_sum => k_is)
    (case q_z_abs => k_is)
    (case q_g_MOST_LETTERS => k_is)
    (case q_g_LETTERS => k_is)
    (case q_g_MOST_FIGURES => k_is)
    (case q_g_FIGURES => k_is)
    (case q_g_MOST_SIDE => k_is)
    (case q_g_MOST_RING => k_is)
    (case q_g_MOST_UNDER => k_is)
    (case q_g_MOST_PLACED => k_is)
    (case q_g_MOST_RATIO => k_is)
    (case q_g_MOST_NUMBER => k_is)
    (case q_g_MOST_SAYINGS => k_is)
    (case q_g_MOST_POINTS => k_is)
    (case q_g_DEPTH => k_is)
    (case q_g_MOST_LENGTH => k_is)
    (case q_g_MOST_TOOL => k_is)
    (case q_g_MOST_TOOLS => k_is)
    (case q_g_MOST_FEATURES => k_is)
    (case q_g_MOST_HIGH => k_is)
    (case q_a_is_whole => k_is)
    (case q_l_is_whole => k_is)
    (case q_c_is_whole => k_is)
    (case q_k_is_whole => k_is)
    (case q_a_is_among => k_is)
    (case q_l_is_among => k_is)
    (case q_c_is_among => k_is)
    (case q_k_is_among => k_is)
    (case q_a_is_text_of => k_is)
    (case q_l_is_text_of => k_is)
    (case q_c_is_text_of => k_is)
    (case q_k_is_text_of => k_is)
    (case q_a_is_name => k_is)
    (case q_l_is_name => k_is)
    (case q_c_is_name => k_is)
    (case q_k_is_name => k_is)
    (case q_a_number_of => k_is)
    (case q_l_number_of => k_is)
    (case q_c_number_of => k_is)
    (case q_k_number_of => k_is)
    (case q_a_signed_of => k_is)
    (case q_l_signed_of => k_is)
    (case q_c_signed_of => k_is)
    (case q_k_signed_of => k_is)
    (case q_a_words_of => k_is)
    (case q_l_words_of => k_is)
    (case q_c_words_of => k_is)
    (case q_k_words_of => k_is)
    (case q_a_law_mixed => k_is)
    (case q_l_law_mixed => k_is)
    (case q_c_law_mixed => k_is)
    (case q_k_law_mixed => k_is)
    (case q_a_law_draw => k_is)
    (case q_l_law_draw => k_is)
    (case q_c_law_draw => k_is)
    (case q_k_law_draw => k_is)
    (case q_a_law_digit => k_is)
    (case q_l_law_digit => k_is)
    (case q_c_law_digit => k_is)
    (case q_k_law_digit => k_is)
    (case q_a_law_number => k_is)
    (case q_l_law_number => k_is)
    (case q_c_law_number => k_is)
    (case q_k_law_number => k_is)
    (case q_a_law_signed => k_is)
    (case q_l_law_signed => k_is)
    (case q_c_law_signed => k_is)
    (case q_k_law_signed => k_is)
    (case q_a_law_word_right => k_is)
    (case q_l_law_word_right => k_is)
    (case q_c_law_word_right => k_is)
    (case q_k_law_word_right => k_is)
    (case q_a_law_texts => k_is)
    (case q_l_law_texts => k_is)
    (case q_c_law_texts => k_is)
    (case q_k_law_texts => k_is)
    (case q_a_law_numbers_right => k_is)
    (case q_l_law_numbers_right => k_is)
    (case q_c_law_numbers_right => k_is)
    (case q_k_law_numbers_right => k_is)
    (case q_a_law => k_is)
    (case q_l_law => k_is)
    (case q_c_law => k_is)
    (case q_k_law => k_is)

