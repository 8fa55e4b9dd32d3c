import PyProof.Rows.All
import Wide.All
import OpenK.AllK
import Wide.FinOn
import HandS.Base
import HandS.Call
import HandS.List
import HandS.Comp
import HandS.ExcIs
import HandS.Words
import HandS.WordsList
import HandS.NoneIn
import HandS.Wide
import HandS.WideBits
import HandS.Gcd
import HandS.TupAny
import HandS.Text
import HandS.Deep
import HandS.TupLe
import HandS.Defaults
import HandS.IsInst
import HandS.FStr
import HandS.More
import HandS.Zip
import HandS.Iter
import HandS.Dict
import HandS.Ends
import PyProof.ReprRoads
import HandS.Exc
import HandS.ExcOwn
import HandS.WordsExc
import HandS.TryOnly
import HandS.Style
import HandS.MakeKwOnly
import PySem.Challenge.RW_panelworks_k02_fractions_reckoned
set_option Elab.async false
set_option linter.all false
set_option maxRecDepth 100000
set_option maxHeartbeats 8000000
/-! Pl: values without addresses, over the hand layer. -/
namespace Pl
open PySem L2

/-- a value without addresses; ref n: the n-th of the store of what changes -/
inductive D where
  | non | bl (b : Bool) | int (i : Int) | str (x : Str) | ty (n : String) | ob (a : Addr)
  | tup (xs : List D) | lst (xs : List D) | lsk (xs : List D) | ref (n : Nat)
/-- what changes -/
inductive MO where
  | dead | lst (xs : List D) | dic (kvs : List (Key × D)) | exc (C : Addr)
abbrev Mh := List MO
abbrev Env := List (Option D)

section
variable (K : PySem.W.Frag) (B : Hp) (ι : List Addr)
mutual
inductive Rep : V → D → Prop
  | non : Rep .non .non
  | bl (b : Bool) : Rep (.bl b) (.bl b)
  | int (i : Int) : Rep (.int i) (.int i)
  | str (x : Str) : Rep (.str x) (.str x)
  | ty (n : String) : Rep (.ty n) (.ty n)
  | ob (a : Addr) : Rep (.ref a) (.ob a)
  | tup {a : Addr} {vs : List V} {ds : List D} : SqT K B a vs → RepL vs ds → Rep (.ref a) (.tup ds)
  | lst {a : Addr} {vs : List V} {ds : List D} : B a = some (.lst vs) → RepL vs ds → Rep (.ref a) (.lst ds)
  | lsk {a : Addr} {vs : List V} {ds : List D} : SqL K B a vs → RepL vs ds → Rep (.ref a) (.lsk ds)
  | ref {a : Addr} {n : Nat} : ι[n]? = some a → Rep (.ref a) (.ref n)
inductive RepL : List V → List D → Prop
  | nil : RepL [] []
  | cons {v : V} {d : D} {vs : List V} {ds : List D} : Rep v d → RepL vs ds → RepL (v :: vs) (d :: ds)
end
/-- a dict's pairs -/
inductive RepK : List (Key × V) → List (Key × D) → Prop
  | nil : RepK [] []
  | cons {k : Key} {v : V} {d : D} {vs : List (Key × V)} {ds : List (Key × D)} : Rep K B ι v d → RepK vs ds → RepK ((k, v) :: vs) ((k, d) :: ds)
end

theorem sqT_mono {K : PySem.W.Frag} {B B' : Hp} (s : ∀ b o, B b = some o → B' b = some o) {a : Addr} {vs : List V} (h : SqT K B a vs) : SqT K B' a vs := by
  rcases h with h | h
  · refine .inl ?_
    rcases h with h | ⟨o, h⟩
    · exact .inl (s _ _ h)
    · exact .inr ⟨o, s _ _ h⟩
  · exact .inr h
theorem sqL_mono {K : PySem.W.Frag} {B B' : Hp} (s : ∀ b o, B b = some o → B' b = some o) {a : Addr} {vs : List V} (h : SqL K B a vs) : SqL K B' a vs := by
  rcases h with h | h
  · refine .inl ?_
    rcases h with h | ⟨o, h⟩
    · exact .inl (s _ _ h)
    · exact .inr ⟨o, s _ _ h⟩
  · exact .inr h

section
variable {K : PySem.W.Frag} {B B' : Hp} {ι ι' : List Addr}
mutual
theorem Rep.mono (s : ∀ b o, B b = some o → B' b = some o) (p : ∀ (n : Nat) (a : Addr), ι[n]? = some a → ι'[n]? = some a) : ∀ {v : V} {d : D}, Rep K B ι v d → Rep K B' ι' v d
  | _, _, .non => .non
  | _, _, .bl b => .bl b
  | _, _, .int i => .int i
  | _, _, .str x => .str x
  | _, _, .ty n => .ty n
  | _, _, .ob a => .ob a
  | _, _, .tup h r => .tup (sqT_mono s h) (RepL.mono s p r)
  | _, _, .lst h r => .lst (s _ _ h) (RepL.mono s p r)
  | _, _, .lsk h r => .lsk (sqL_mono s h) (RepL.mono s p r)
  | _, _, .ref h => .ref (p _ _ h)
theorem RepL.mono (s : ∀ b o, B b = some o → B' b = some o) (p : ∀ (n : Nat) (a : Addr), ι[n]? = some a → ι'[n]? = some a) : ∀ {vs : List V} {ds : List D}, RepL K B ι vs ds → RepL K B' ι' vs ds
  | _, _, .nil => .nil
  | _, _, .cons h r => .cons (Rep.mono s p h) (RepL.mono s p r)
end
theorem RepK.mono (s : ∀ b o, B b = some o → B' b = some o) (p : ∀ (n : Nat) (a : Addr), ι[n]? = some a → ι'[n]? = some a) : ∀ {vs : List (Key × V)} {ds : List (Key × D)}, RepK K B ι vs ds → RepK K B' ι' vs ds
  | _, _, .nil => .nil
  | _, _, .cons h r => .cons (h.mono s p) (RepK.mono s p r)
theorem RepL.len : ∀ {vs : List V} {ds : List D}, RepL K B ι vs ds → vs.length = ds.length
  | _, _, .nil => rfl
  | _, _, .cons _ r => congrArg (· + 1) r.len
theorem RepL.get : ∀ {vs : List V} {ds : List D} {i : Nat} {d : D}, RepL K B ι vs ds → ds[i]? = some d → ∃ v, vs[i]? = some v ∧ Rep K B ι v d
  | _, _, _, _, .nil, e => by simp at e
  | _, _, 0, _, .cons r _, e => by
    simp at e
    subst e
    exact ⟨_, rfl, r⟩
  | _, _, i + 1, _, .cons _ t, e => by
    obtain ⟨v, h1, h2⟩ := RepL.get (i := i) t (by simpa using e)
    exact ⟨v, by simpa using h1, h2⟩
theorem RepL.getV : ∀ {vs : List V} {ds : List D} {i : Nat} {v : V}, RepL K B ι vs ds → vs[i]? = some v → ∃ d, ds[i]? = some d ∧ Rep K B ι v d
  | _, _, _, _, .nil, e => by simp at e
  | _, _, 0, _, .cons r _, e => by
    simp at e
    subst e
    exact ⟨_, rfl, r⟩
  | _, _, i + 1, _, .cons _ t, e => by
    obtain ⟨v, h1, h2⟩ := RepL.getV (i := i) t (by simpa using e)
    exact ⟨v, by simpa using h1, h2⟩
theorem RepL.append : ∀ {vs ws : List V} {ds es : List D}, RepL K B ι vs ds → RepL K B ι ws es → RepL K B ι (vs ++ ws) (ds ++ es)
  | _, _, _, _, .nil, s => s
  | _, _, _, _, .cons r t, s => .cons r (t.append s)
theorem RepL.take : ∀ {vs : List V} {ds : List D} (n : Nat), RepL K B ι vs ds → RepL K B ι (vs.take n) (ds.take n)
  | _, _, 0, _ => .nil
  | _, _, _ + 1, .nil => .nil
  | _, _, n + 1, .cons r t => .cons r (t.take n)
theorem RepL.drop : ∀ {vs : List V} {ds : List D} (n : Nat), RepL K B ι vs ds → RepL K B ι (vs.drop n) (ds.drop n)
  | _, _, 0, r => r
  | _, _, _ + 1, .nil => .nil
  | _, _, n + 1, .cons _ t => t.drop n
theorem RepL.set {v : V} {d : D} (r : Rep K B ι v d) : ∀ {vs : List V} {ds : List D} (i : Nat), RepL K B ι vs ds → RepL K B ι (vs.set i v) (ds.set i d)
  | _, _, _, .nil => .nil
  | _, _, 0, .cons _ t => .cons r t
  | _, _, i + 1, .cons q t => .cons q (RepL.set r i t)
theorem RepL.reverse : ∀ {vs : List V} {ds : List D}, RepL K B ι vs ds → RepL K B ι vs.reverse ds.reverse
  | _, _, .nil => .nil
  | _, _, .cons r t => by
    rw [List.reverse_cons, List.reverse_cons]
    exact t.reverse.append (.cons r .nil)
end

/-! ### worlds: H all, B what stands for good, ι where the store's things are, P what is another's -/
structure Wd where
  H : Hp
  B : Hp
  ι : List Addr
  P : Hp
/-- alive at a -/
def Live (W : Wd) (M : Mh) (n : Nat) (a : Addr) (o : MO) : Prop := W.ι[n]? = some a ∧ M[n]? = some o ∧ o ≠ .dead
/-- an exception that was caught and is kept -/
def ExV (C a : Addr) : HO := .ext fun h => ∃ (oe : Obj) (vs : Array Value), h.get? a = some oe ∧ Zc (.ref C) none oe ∧ oe.data = .fields vs
inductive RepO (K : PySem.W.Frag) (B : Hp) (ι : List Addr) (a : Addr) : HO → MO → Prop
  | lst {vs : List V} {ds : List D} : RepL K B ι vs ds → RepO K B ι a (.lst vs) (.lst ds)
  | dic {vs : List (Key × V)} {ds : List (Key × D)} : RepK K B ι vs ds → RepO K B ι a (.dK vs) (.dic ds)
  | exc {C : Addr} : ExcC K C → RepO K B ι a (ExV C a) (.exc C)
theorem RepO.mono {K : PySem.W.Frag} {B B' : Hp} {ι ι' : List Addr} (s : ∀ b o, B b = some o → B' b = some o) (p : ∀ (n : Nat) (a : Addr), ι[n]? = some a → ι'[n]? = some a) {a : Addr} {o : HO} {m : MO} : RepO K B ι a o m → RepO K B' ι' a o m
  | .lst r => .lst (r.mono s p)
  | .dic r => .dic (r.mono s p)
  | .exc h => .exc h
structure Wd.Ok (K : PySem.W.Frag) (W : Wd) (M : Mh) : Prop where
  sub : ∀ a o, W.B a = some o → W.H a = some o
  pin : ∀ a o, W.P a = some o → W.H a = some o ∧ W.B a = none
  len : W.ι.length = M.length
  live : ∀ n a o, Live W M n a o → W.B a = none ∧ W.P a = none ∧ ∃ h, W.H a = some h ∧ RepO K W.B W.ι a h o
  inj : ∀ n m a o u, Live W M n a o → Live W M m a u → n = m
structure Wd.Le (W W' : Wd) : Prop where
  same : ∀ b o, W.B b = some o → W'.B b = some o
  pre : ∃ l, W'.ι = W.ι ++ l
  pp : W'.P = W.P
theorem Wd.Le.refl (W : Wd) : W.Le W := ⟨fun _ _ h => h, ⟨[], by simp⟩, rfl⟩
theorem Wd.Le.trans {W W1 W2 : Wd} (a : W.Le W1) (b : W1.Le W2) : W.Le W2 := by
  obtain ⟨l, hl⟩ := a.pre
  obtain ⟨m, hm⟩ := b.pre
  exact ⟨fun c o h => b.same c o (a.same c o h), ⟨l ++ m, by rw [hm, hl, List.append_assoc]⟩, b.pp.trans a.pp⟩
theorem Wd.Le.ix {W W' : Wd} (a : W.Le W') : ∀ (n : Nat) (c : Addr), W.ι[n]? = some c → W'.ι[n]? = some c := fun n c h => by
  obtain ⟨l, hl⟩ := a.pre
  rw [hl, List.getElem?_append_left (List.getElem?_eq_some_iff.mp h).1]
  exact h
theorem Rep.le {K : PySem.W.Frag} {W W' : Wd} (a : W.Le W') {v : V} {d : D} (r : Rep K W.B W.ι v d) : Rep K W'.B W'.ι v d := r.mono a.same a.ix
theorem RepL.le {K : PySem.W.Frag} {W W' : Wd} (a : W.Le W') {v : List V} {d : List D} (r : RepL K W.B W.ι v d) : RepL K W'.B W'.ι v d := r.mono a.same a.ix

/-- the same, whatever is held -/
structure Wd.Lo (W W' : Wd) : Prop where
  same : ∀ b o, W.B b = some o → W'.B b = some o
  pre : ∃ l, W'.ι = W.ι ++ l
theorem Wd.Le.lo {W W' : Wd} (a : W.Le W') : W.Lo W' := ⟨a.same, a.pre⟩
theorem Wd.Lo.ix {W W' : Wd} (a : W.Lo W') : ∀ (n : Nat) (c : Addr), W.ι[n]? = some c → W'.ι[n]? = some c := fun n c h => by
  obtain ⟨l, hl⟩ := a.pre
  rw [hl, List.getElem?_append_left (List.getElem?_eq_some_iff.mp h).1]
  exact h
/-- the slots -/
structure Slots (K : PySem.W.Frag) (W : Wd) (σ : St) (δ : Env) : Prop where
  len : σ.length = δ.length
  at_ : ∀ (i : Nat) (d : D), δ[i]? = some (some d) → ∃ v, σ[i]? = some (some v) ∧ Rep K W.B W.ι v d
theorem Slots.le {K : PySem.W.Frag} {W W' : Wd} (a : W.Le W') {σ : St} {δ : Env} (s : Slots K W σ δ) : Slots K W' σ δ :=
  ⟨s.len, fun i d h => by
    obtain ⟨v, h1, h2⟩ := s.at_ i d h
    exact ⟨v, h1, h2.le a⟩⟩
theorem Slots.set {K : PySem.W.Frag} {W : Wd} {σ : St} {δ : Env} {v : V} {d : D} (s : Slots K W σ δ) (r : Rep K W.B W.ι v d) (i : Nat) : Slots K W (σ.set i (some v)) (δ.set i (some d)) :=
  ⟨by rw [List.length_set, List.length_set]; exact s.len, fun j e h => by
    rw [List.getElem?_set] at h
    rw [List.getElem?_set]
    by_cases hij : i = j
    · subst hij
      rw [if_pos rfl] at h
      rw [if_pos rfl]
      by_cases hl : i < δ.length
      · rw [if_pos hl] at h
        rw [if_pos (by rw [s.len]; exact hl)]
        cases h
        exact ⟨v, rfl, r⟩
      · rw [if_neg hl] at h
        cases h
    · rw [if_neg hij] at h
      rw [if_neg hij]
      exact s.at_ j e h⟩

/-! ### laying, changing, letting go -/
section
variable {K : PySem.W.Frag} {W : Wd} {M : Mh} {p : Addr} {o : HO}
def Wd.lay (W : Wd) (p : Addr) (o : HO) : Wd := ⟨upd W.H p o, upd W.B p o, W.ι, W.P⟩
theorem updk {H : Hp} {p : Addr} {o : HO} (h : H p = none) : ∀ b u, H b = some u → upd H p o b = some u := fun b u e => by
  rw [upd_ne (ne_of_none e h)]
  exact e
theorem Wd.Ok.bnone (w : W.Ok K M) (hp : W.H p = none) : W.B p = none := by
  cases e : W.B p with
  | none => rfl
  | some u =>
    have := w.sub p u e
    rw [hp] at this
    cases this
theorem Wd.Ok.pnone (w : W.Ok K M) (hp : W.H p = none) : W.P p = none := by
  cases e : W.P p with
  | none => rfl
  | some u =>
    have := (w.pin p u e).1
    rw [hp] at this
    cases this
theorem Wd.lay_le (w : W.Ok K M) (hp : W.H p = none) : W.Le (W.lay p o) := ⟨updk (w.bnone hp), ⟨[], by simp [Wd.lay]⟩, rfl⟩
theorem Wd.lay_ok (w : W.Ok K M) (hp : W.H p = none) : (W.lay p o).Ok K M := by
  have lv : ∀ n a u, Live (W.lay p o) M n a u → Live W M n a u := fun n a u h => h
  have ne : ∀ {n a u}, Live W M n a u → a ≠ p := fun {n a u} h e => by
    obtain ⟨_, _, k, hk, _⟩ := w.live n a u h
    rw [e, hp] at hk
    cases hk
  refine ⟨fun a u h => ?_, fun a u h => ?_, w.len, fun n a u h => ?_, fun n m a u v h k => w.inj n m a u v (lv _ _ _ h) (lv _ _ _ k)⟩
  · by_cases e : a = p
    · subst e
      show upd W.H a o a = _
      have h' : upd W.B a o a = some u := h
      rw [upd_same] at h' ⊢
      exact h'
    · show upd W.H p o a = _
      have h' : upd W.B p o a = some u := h
      rw [upd_ne e] at h' ⊢
      exact w.sub a u h'
  · have q := w.pin a u h
    have e : a ≠ p := fun e => by
      rw [e, hp] at q
      cases q.1
    exact ⟨(upd_ne e).trans q.1, (upd_ne e).trans q.2⟩
  · obtain ⟨h1, h2, k, h3, h4⟩ := w.live n a u (lv _ _ _ h)
    have e := ne (lv _ _ _ h)
    exact ⟨(upd_ne e).trans h1, h2, k, (upd_ne e).trans h3, h4.mono (updk (w.bnone hp)) fun _ _ q => q⟩
/-- a new thing of the store -/
def Wd.new (W : Wd) (p : Addr) (o : HO) : Wd := ⟨upd W.H p o, W.B, W.ι ++ [p], W.P⟩
theorem Wd.new_le : W.Le (W.new p o) := ⟨fun _ _ h => h, ⟨[p], rfl⟩, rfl⟩
theorem Wd.new_ok {m : MO} (w : W.Ok K M) (hp : W.H p = none) (r : RepO K W.B W.ι p o m) : (W.new p o).Ok K (M ++ [m]) := by
  have lv : ∀ n a u, Live (W.new p o) (M ++ [m]) n a u → Live W M n a u ∨ (n = M.length ∧ a = p ∧ u = m) := fun n a u h => by
    obtain ⟨h1, h2, h3⟩ := h
    have h1' : (W.ι ++ [p])[n]? = some a := h1
    by_cases hn : n < M.length
    · rw [List.getElem?_append_left (by rw [w.len]; exact hn)] at h1'
      rw [List.getElem?_append_left hn] at h2
      exact .inl ⟨h1', h2, h3⟩
    · have e : n = M.length := by
        have := (List.getElem?_eq_some_iff.mp h2).1
        rw [List.length_append] at this
        simp at this
        omega
      subst e
      rw [List.getElem?_append_right (by rw [w.len]; exact Nat.le_refl _), w.len] at h1'
      rw [List.getElem?_append_right (Nat.le_refl _)] at h2
      simp at h1' h2
      exact .inr ⟨rfl, h1'.symm, h2.symm⟩
  have ne : ∀ {n a u}, Live W M n a u → a ≠ p := fun {n a u} h e => by
    obtain ⟨_, _, k, hk, _⟩ := w.live n a u h
    rw [e, hp] at hk
    cases hk
  have ln : ∀ {n a u}, Live W M n a u → n < M.length := fun {n a u} h => (List.getElem?_eq_some_iff.mp h.2.1).1
  refine ⟨fun a u h => ?_, fun a u h => ?_, ?_, fun n a u h => ?_, fun n k a u v h g => ?_⟩
  · exact (upd_ne (fun e => by
      rw [e] at h
      have := w.bnone hp
      rw [show (W.new p o).B p = W.B p from rfl, this] at h
      cases h)).trans (w.sub a u h)
  · have q := w.pin a u h
    have e : a ≠ p := fun e => by
      rw [e, hp] at q
      cases q.1
    exact ⟨(upd_ne e).trans q.1, q.2⟩
  · show (W.ι ++ [p]).length = _
    simp [w.len]
  · rcases lv n a u h with h | ⟨_, rfl, rfl⟩
    · obtain ⟨h1, h2, k, h3, h4⟩ := w.live n a u h
      exact ⟨h1, h2, k, (upd_ne (ne h)).trans h3, h4.mono (fun _ _ q => q) Wd.new_le.ix⟩
    · exact ⟨w.bnone hp, w.pnone hp, o, upd_same, r.mono (fun _ _ q => q) Wd.new_le.ix⟩
  · rcases lv n a u h with h | ⟨h1, h2, h3⟩
    · rcases lv k a v g with g | ⟨g1, g2, g3⟩
      · exact w.inj n k a u v h g
      · exact absurd g2 (ne h)
    · rcases lv k a v g with g | ⟨g1, g2, g3⟩
      · exact absurd h2 (ne g)
      · omega
/-- a thing of the store changed -/
def Wd.put (W : Wd) (p : Addr) (o : HO) : Wd := ⟨upd W.H p o, W.B, W.ι, W.P⟩
theorem Wd.put_le : W.Le (W.put p o) := ⟨fun _ _ h => h, ⟨[], by simp [Wd.put]⟩, rfl⟩
theorem Wd.put_ok {n : Nat} {m m' : MO} (w : W.Ok K M) (lv0 : Live W M n p m) (r : RepO K W.B W.ι p o m') : (W.put p o).Ok K (M.set n m') := by
  have hn : n < M.length := (List.getElem?_eq_some_iff.mp lv0.2.1).1
  have lv : ∀ k a u, Live (W.put p o) (M.set n m') k a u → (k = n ∧ a = p ∧ u = m') ∨ (k ≠ n ∧ Live W M k a u) := fun k a u h => by
    obtain ⟨h1, h2, h3⟩ := h
    by_cases e : n = k
    · subst e
      rw [List.getElem?_set_self hn] at h2
      have e1 : some a = some p := (show W.ι[n]? = some a from h1).symm.trans lv0.1
      cases e1
      cases h2
      exact .inl ⟨rfl, rfl, rfl⟩
    · rw [List.getElem?_set_ne e] at h2
      exact .inr ⟨fun z => e z.symm, h1, h2, h3⟩
  have ne : ∀ {k a u}, k ≠ n → Live W M k a u → a ≠ p := fun {k a u} hk h e => by
    subst e
    exact hk (w.inj _ _ _ _ _ h lv0)
  obtain ⟨b0, p0, _⟩ := w.live n p m lv0
  refine ⟨fun a u h => ?_, fun a u h => ?_, ?_, fun k a u h => ?_, fun k j a u v h g => ?_⟩
  · exact (upd_ne (fun e => by
      rw [e] at h
      rw [show (W.put p o).B p = W.B p from rfl, b0] at h
      cases h)).trans (w.sub a u h)
  · have e : a ≠ p := fun e => by
      rw [e] at h
      rw [show (W.put p o).P p = W.P p from rfl, p0] at h
      cases h
    have q := w.pin a u h
    exact ⟨(upd_ne e).trans q.1, q.2⟩
  · show W.ι.length = _
    rw [List.length_set]
    exact w.len
  · rcases lv k a u h with ⟨rfl, rfl, rfl⟩ | ⟨hk, h⟩
    · exact ⟨b0, p0, o, upd_same, r⟩
    · obtain ⟨h1, h2, g, h3, h4⟩ := w.live k a u h
      exact ⟨h1, h2, g, (upd_ne (ne hk h)).trans h3, h4⟩
  · rcases lv k a u h with ⟨rfl, rfl, rfl⟩ | ⟨hk, h2⟩
    · rcases lv j a v g with ⟨rfl, _, _⟩ | ⟨hj, g⟩
      · rfl
      · exact absurd rfl (ne hj g)
    · rcases lv j a v g with ⟨_, e2, _⟩ | ⟨hj, g⟩
      · exact absurd e2 (ne hk h2)
      · exact w.inj _ _ _ _ _ h2 g
/-- a list of the store stands still from here on -/
def Wd.frz (W : Wd) (p : Addr) (o : HO) : Wd := ⟨W.H, upd W.B p o, W.ι, W.P⟩
theorem Wd.frz_le {n : Nat} {m : MO} (w : W.Ok K M) (lv0 : Live W M n p m) : W.Le (W.frz p o) := ⟨updk (w.live n p m lv0).1, ⟨[], by simp [Wd.frz]⟩, rfl⟩
theorem Wd.frz_ok {n : Nat} {m : MO} (w : W.Ok K M) (lv0 : Live W M n p m) (ho : W.H p = some o) : (W.frz p o).Ok K (M.set n .dead) := by
  have hn : n < M.length := (List.getElem?_eq_some_iff.mp lv0.2.1).1
  have lv : ∀ k a u, Live (W.frz p o) (M.set n .dead) k a u → k ≠ n ∧ Live W M k a u := fun k a u h => by
    obtain ⟨h1, h2, h3⟩ := h
    by_cases e : n = k
    · subst e
      rw [List.getElem?_set_self hn] at h2
      cases h2
      exact absurd rfl h3
    · rw [List.getElem?_set_ne e] at h2
      exact ⟨fun z => e z.symm, h1, h2, h3⟩
  have ne : ∀ {k a u}, k ≠ n → Live W M k a u → a ≠ p := fun {k a u} hk h e => by
    subst e
    exact hk (w.inj _ _ _ _ _ h lv0)
  obtain ⟨b0, p0, _⟩ := w.live n p m lv0
  refine ⟨fun a u h => ?_, fun a u h => ?_, ?_, fun k a u h => ?_, fun k j a u v h g => ?_⟩
  · by_cases e : a = p
    · subst e
      have h' : upd W.B a o a = some u := h
      rw [upd_same] at h'
      cases h'
      exact ho
    · have h' : upd W.B p o a = some u := h
      rw [upd_ne e] at h'
      exact w.sub a u h'
  · have q := w.pin a u h
    have e : a ≠ p := fun e => by
      rw [e] at h
      rw [show (W.frz p o).P p = W.P p from rfl, p0] at h
      cases h
    exact ⟨q.1, (upd_ne e).trans q.2⟩
  · show W.ι.length = _
    rw [List.length_set]
    exact w.len
  · obtain ⟨hk, h⟩ := lv k a u h
    obtain ⟨h1, h2, g, h3, h4⟩ := w.live k a u h
    exact ⟨(upd_ne (ne hk h)).trans h1, h2, g, h3, h4.mono (updk b0) fun _ _ q => q⟩
  · exact w.inj _ _ _ _ _ (lv k a u h).2 (lv j a v g).2
/-- something of another's, while it is looked at -/
def Wd.hold (W : Wd) (p : Addr) (o : HO) : Wd := ⟨upd W.H p o, W.B, W.ι, upd W.P p o⟩
theorem Wd.hold_ok (w : W.Ok K M) (hp : W.H p = none) : (W.hold p o).Ok K M := by
  have ne : ∀ {n a u}, Live W M n a u → a ≠ p := fun {n a u} h e => by
    obtain ⟨_, _, k, hk, _⟩ := w.live n a u h
    rw [e, hp] at hk
    cases hk
  refine ⟨fun a u h => ?_, fun a u h => ?_, w.len, fun n a u h => ?_, fun n m a u v h k => w.inj n m a u v h k⟩
  · exact (upd_ne (fun e => by
      rw [e] at h
      have := w.bnone hp
      rw [show (W.hold p o).B p = W.B p from rfl, this] at h
      cases h)).trans (w.sub a u h)
  · by_cases e : a = p
    · subst e
      have h' : upd W.P a o a = some u := h
      rw [upd_same] at h'
      exact ⟨upd_same.trans h', w.bnone hp⟩
    · have h' : upd W.P p o a = some u := h
      rw [upd_ne e] at h'
      have q := w.pin a u h'
      exact ⟨(upd_ne e).trans q.1, q.2⟩
  · obtain ⟨h1, h2, k, h3, h4⟩ := w.live n a u h
    exact ⟨h1, (upd_ne (ne h)).trans h2, k, (upd_ne (ne h)).trans h3, h4⟩
end
end Pl

namespace Pl
open PySem L2

theorem ifF {A B : Prop} (h : B) : if false = true then A else B := by
  rw [if_neg Bool.false_ne_true]
  exact h
theorem ifT {A B : Prop} (h : A) : if true = true then A else B := by
  rw [if_pos rfl]
  exact h
abbrev EF := Env → Mh → Option (D × Mh)
abbrev TF := Env → Mh → Option (Bool × Mh)
abbrev AF := Env → Mh → Option (List D × Mh)
abbrev GF := D → Env → Option Env
inductive Out where
  | nx (δ : Env) (M : Mh) | rt (d : D) (M : Mh) | bk (δ : Env) (M : Mh) | ct (δ : Env) (M : Mh)
abbrev SF := Env → Mh → Option Out
abbrev Fn := List D → Mh → Option (D × Mh)

/-- what is wanted of a value d behind, the store M' -/
def VR (K : PySem.W.Frag) (W : Wd) (d : D) (M' : Mh) (Q : VK) : Prop := ∀ v W', W.Le W' → W'.Ok K M' → Rep K W'.B W'.ι v d → Q v W'.H
def VRL (K : PySem.W.Frag) (W : Wd) (d : List D) (M' : Mh) (Q : List V → Hp → Prop) : Prop := ∀ v W', W.Le W' → W'.Ok K M' → RepL K W'.B W'.ι v d → Q v W'.H
theorem VR.le {K : PySem.W.Frag} {W W1 : Wd} {d : D} {M' : Mh} {Q : VK} (h : VR K W d M' Q) (l : W.Le W1) : VR K W1 d M' Q := fun v W' a o r => h v W' (l.trans a) o r
def ER (K : PySem.W.Frag) (t : TE) (f : EF) : Prop := ∀ (σ : St) (W : Wd) (δ : Env) (M : Mh) (d : D) (M' : Mh) (Q : VK), W.Ok K M → Slots K W σ δ → f δ M = some (d, M') → VR K W d M' Q → t σ W.H Q
def AR (K : PySem.W.Frag) (t : TA) (f : AF) : Prop := ∀ (σ : St) (W : Wd) (δ : Env) (M : Mh) (d : List D) (M' : Mh) (Q : List V → Hp → Prop), W.Ok K M → Slots K W σ δ → f δ M = some (d, M') → VRL K W d M' Q → t σ W.H Q
def TR (K : PySem.W.Frag) (t : TT) (f : TF) : Prop := ∀ (σ : St) (W : Wd) (δ : Env) (M : Mh) (b : Bool) (M' : Mh) (Q : Bool → Hp → Prop), W.Ok K M → Slots K W σ δ → f δ M = some (b, M') → (∀ W', W.Le W' → W'.Ok K M' → Q b W'.H) → t σ W.H Q

/-- what is wanted behind a statement -/
def Post (K : PySem.W.Frag) (E : Ends) (W : Wd) : Out → Prop
  | .nx δ M => ∀ σ W', W.Le W' → W'.Ok K M → Slots K W' σ δ → E.nx σ W'.H
  | .bk δ M => ∀ σ W', W.Le W' → W'.Ok K M → Slots K W' σ δ → E.bk σ W'.H
  | .ct δ M => ∀ σ W', W.Le W' → W'.Ok K M → Slots K W' σ δ → E.ct σ W'.H
  | .rt d M => VR K W d M E.rt
theorem Post.le {K : PySem.W.Frag} {E : Ends} {W W1 : Wd} {o : Out} (l : W.Le W1) (h : Post K E W o) : Post K E W1 o := by
  cases o with
  | nx δ M => exact fun σ W' a b c => h σ W' (l.trans a) b c
  | bk δ M => exact fun σ W' a b c => h σ W' (l.trans a) b c
  | ct δ M => exact fun σ W' a b c => h σ W' (l.trans a) b c
  | rt d M => exact fun v W' a b c => h v W' (l.trans a) b c
def SR (K : PySem.W.Frag) (t : TS) (f : SF) : Prop := ∀ (σ : St) (W : Wd) (δ : Env) (M : Mh) (o : Out) (E : Ends), W.Ok K M → Slots K W σ δ → f δ M = some o → Post K E W o → t E σ W.H

section
variable {I : Type}
structure DE (X : I → Cx) (K : PySem.W.Frag) (e : Expr) (f : EF) : Prop where
  go : ∃ t : TE, (∀ i, PE (X i) e t) ∧ ER K t f
structure DA (X : I → Cx) (K : PySem.W.Frag) (es : List Expr) (f : AF) : Prop where
  go : ∃ t : TA, (∀ i, PA (X i) es t) ∧ AR K t f
structure DT (X : I → Cx) (K : PySem.W.Frag) (e : Expr) (f : TF) : Prop where
  go : ∃ t : TT, (∀ i, PT (X i) e t) ∧ TR K t f
structure DW (X : I → Cx) (K : PySem.W.Frag) (e : Expr) (f : TF) : Prop where
  go : ∃ t : TT, (∀ i, PW (X i) e t) ∧ TR K t f
structure DS (X : I → Cx) (K : PySem.W.Frag) (s : Stmt) (f : SF) : Prop where
  go : ∃ t : TS, (∀ i, PS (X i) s t) ∧ SR K t f
structure DB (X : I → Cx) (K : PySem.W.Frag) (s : List Stmt) (f : SF) : Prop where
  go : ∃ t : TS, (∀ i, PSs (X i) s t) ∧ SR K t f
/-- a comparison: both as a value and as a test -/
structure DC (X : I → Cx) (K : PySem.W.Frag) (e : Expr) (f : EF) : Prop where
  go : ∃ t : TE, (∀ i, PE (X i) e t) ∧ (∀ i, PT (X i) e (tTest t)) ∧ ER K t f

/-- what all contexts of the family have in common -/
structure Ctx (X : I → Cx) (P : Program) (w : World) (K : PySem.W.Frag) (mg : Str → Option Value) (base : Heap) (k : Nat) : Prop where
  prog : ∀ i, (X i).prog = P
  wd : ∀ i, (X i).w = w
  K : ∀ i, (X i).K = K
  mg : ∀ i, (X i).mg = mg
  base : ∀ i, (X i).base = base
  room : ∀ i, Room k (X i).A
  grd : ∀ i, (X i).A.guards = some []
  calm : ∀ i, (X i).calm = true

variable {X : I → Cx} {P : Program} {w : World} {K : PySem.W.Frag} {mg : Str → Option Value} {base : Heap} {k : Nat}

/-! ### values -/
def eVar (i : Nat) : EF := fun δ M => match δ[i]? with
  | some (some d) => some (d, M)
  | _ => none
theorem DE.var (j : Nat) {x : Str} {pos : Pos} (hN : ∀ i, (X i).N[j]? = some x := by intro _; rfl) (hv : ∀ i, Vis (X i).env.scope x := by intro _; first | exact Or.inl rfl | exact Or.inr (Or.inl rfl) | exact Or.inr (Or.inr rfl)) (hd : (x == ("__debug__" : Str)) = false := by decide)
    (hcd : (x == ("__classdict__" : Str)) = false := by decide) : DE X K (.Name x pos) (eVar j) := by
  refine ⟨tVar j, fun i => pe_var (hN i) (hv i) hd hcd, fun σ W δ M d M' Q w s e q => ?_⟩
  unfold eVar at e
  split at e
  · rename_i d' h
    cases e
    obtain ⟨v, h1, h2⟩ := s.at_ _ _ h
    exact ⟨v, h1, q v W (.refl W) w h2⟩
  · cases e
def eC (d : D) : EF := fun _ M => some (d, M)
theorem er_c {v : V} {d : D} (r : ∀ B ι, Rep K B ι v d) : ER K (tC v) (eC d) := fun σ W δ M d' M' Q w s e q => by
  cases e
  exact q v W (.refl W) w (r _ _)
theorem DE.int {n : Int} {j pos} : DE X K (.Constant (.int n) j pos) (eC (.int n)) := ⟨_, fun i => pe_int, er_c fun _ _ => .int n⟩
theorem DE.bool {b : Bool} {j pos} : DE X K (.Constant (.bool b) j pos) (eC (.bl b)) := ⟨_, fun i => pe_bl, er_c fun _ _ => .bl b⟩
theorem DE.non {j pos} : DE X K (.Constant .none j pos) (eC .non) := ⟨_, fun i => pe_non, er_c fun _ _ => .non⟩
theorem DE.str {x : Str} {j pos} : DE X K (.Constant (.str x) j pos) (eC (.str x)) := ⟨_, fun i => pe_str, er_c fun _ _ => .str x⟩
/-- a name of the module -/
theorem DE.glob (c : Ctx X P w K mg base k) {x : Str} {pos : Pos} {v : V} {u : Value} {d : D} (hm : mg x = some u) (r : RelV v u) (q : ∀ B ι, Rep K B ι v d) (hg : ∀ i, Gl (X i) x := by intro _; rfl)
    (hd : (x == ("__debug__" : Str)) = false := by decide) : DE X K (.Name x pos) (eC d) :=
  ⟨_, fun i => pe_glob (hg i) (by rw [c.mg i]; exact hm) r (hd := hd), er_c q⟩
/-- a built-in's name, not called -/
theorem DE.bltn (c : Ctx X P w K mg base k) {x : Str} {pos : Pos} {v : V} {u : Value} {d : D} (hm : mg x = none) (hv : bootBuiltins x = some u) (r : RelV v u) (q : ∀ B ι, Rep K B ι v d) (hg : ∀ i, Gl (X i) x := by intro _; rfl)
    (hn : x ≠ "__name__" := by decide) (hd : (x == ("__debug__" : Str)) = false := by decide) : DE X K (.Name x pos) (eC d) :=
  ⟨_, fun i => pe_bltn (hg i) (by rw [c.mg i]; exact hm) hv r (hn := hn) (hd := hd), er_c q⟩

/-! ### arguments, displays -/
def aNil : AF := fun _ M => some ([], M)
def aCons (f : EF) (g : AF) : AF := fun δ M => match f δ M with
  | some (d, M1) => (match g δ M1 with
    | some (ds, M2) => some (d :: ds, M2)
    | none => none)
  | none => none
theorem DA.nil : DA X K [] aNil := ⟨tNil, fun i => pa_nil, fun σ W δ M d M' Q w s e q => by
  cases e
  exact q [] W (.refl W) w .nil⟩
theorem DA.cons {e : Expr} {es : List Expr} {f : EF} {g : AF} (a : DE X K e f) (b : DA X K es g) (he : ∀ i, starEach (e :: es) (X i).env = (false, eval e (X i).env) :: starEach es (X i).env := by intro _; rfl) : DA X K (e :: es) (aCons f g) := by
  obtain ⟨ta, pa, ra⟩ := a.go
  obtain ⟨tb, pb, rb⟩ := b.go
  refine ⟨tCons ta tb, fun i => pa_cons (pa i) (pb i) (he i), fun σ W δ M d M' Q w s e q => ?_⟩
  unfold aCons at e
  split at e
  · rename_i d1 M1 h1
    split at e
    · rename_i ds M2 h2
      cases e
      refine ra σ W δ M d1 M1 _ w s h1 fun v W1 l1 w1 r1 => ?_
      refine rb σ W1 δ M1 ds _ _ w1 (s.le l1) h2 fun vs W2 l2 w2 r2 => ?_
      exact q _ W2 (l1.trans l2) w2 (.cons (r1.le l2) r2)
    · cases e
  · cases e
def eTup (g : AF) : EF := fun δ M => match g δ M with
  | some (ds, M1) => if ds.length ≤ sizeLine then some (.tup ds, M1) else none
  | none => none
def eLst (g : AF) : EF := fun δ M => match g δ M with
  | some (ds, M1) => if ds.length ≤ sizeLine then some (.lst ds, M1) else none
  | none => none
/-- a new list of the store -/
def eNew (g : AF) : EF := fun δ M => match g δ M with
  | some (ds, M1) => if ds.length ≤ sizeLine then some (.ref M1.length, M1 ++ [.lst ds]) else none
  | none => none
theorem lay_tup {W : Wd} {M : Mh} {p : Addr} {vs : List V} {ds : List D} (w : W.Ok K M) (hp : W.H p = none) (r : RepL K W.B W.ι vs ds) :
    W.Le (W.lay p (.tup vs)) ∧ (W.lay p (.tup vs)).Ok K M ∧ Rep K (W.lay p (.tup vs)).B (W.lay p (.tup vs)).ι (.ref p) (.tup ds) :=
  ⟨Wd.lay_le w hp, Wd.lay_ok w hp, .tup (.inl (.inl upd_same)) (r.le (Wd.lay_le w hp))⟩
theorem lay_lst {W : Wd} {M : Mh} {p : Addr} {vs : List V} {ds : List D} (w : W.Ok K M) (hp : W.H p = none) (r : RepL K W.B W.ι vs ds) :
    W.Le (W.lay p (.lst vs)) ∧ (W.lay p (.lst vs)).Ok K M ∧ Rep K (W.lay p (.lst vs)).B (W.lay p (.lst vs)).ι (.ref p) (.lst ds) :=
  ⟨Wd.lay_le w hp, Wd.lay_ok w hp, .lst upd_same (r.le (Wd.lay_le w hp))⟩
theorem new_lst {W : Wd} {M : Mh} {p : Addr} {vs : List V} {ds : List D} (w : W.Ok K M) (hp : W.H p = none) (r : RepL K W.B W.ι vs ds) :
    W.Le (W.new p (.lst vs)) ∧ (W.new p (.lst vs)).Ok K (M ++ [.lst ds]) ∧ Rep K (W.new p (.lst vs)).B (W.new p (.lst vs)).ι (.ref p) (.ref M.length) :=
  ⟨Wd.new_le, Wd.new_ok w hp (.lst r), .ref (by
    show (W.ι ++ [p])[M.length]? = some p
    rw [← w.len]
    simp)⟩
theorem DE.tup {es : List Expr} {j pos} {g : AF} (a : DA X K es g) (hpl : ∀ i, (backTo pos (starEach es (X i).env)).any (·.1) = false := by intro _; rfl) : DE X K (.Tuple es j pos) (eTup g) := by
  obtain ⟨ta, pa, ra⟩ := a.go
  refine ⟨tTup ta, fun i => pe_tup (pa i), fun σ W δ M d M' Q w s e q => ?_⟩
  unfold eTup at e
  split at e
  · rename_i ds M1 h1
    split at e
    · rename_i hl
      cases e
      refine ra σ W δ M ds _ _ w s h1 fun vs W1 l1 w1 r1 => ⟨by rw [r1.len]; exact hl, fun p hp => ?_⟩
      obtain ⟨l2, w2, r2⟩ := lay_tup w1 hp r1
      exact q _ _ (l1.trans l2) w2 r2
    · cases e
  · cases e
theorem DE.lst {es : List Expr} {pos} {g : AF} (a : DA X K es g) : DE X K (.List es pos) (eLst g) := by
  obtain ⟨ta, pa, ra⟩ := a.go
  refine ⟨tLst ta, fun i => pe_lst (pa i), fun σ W δ M d M' Q w s e q => ?_⟩
  unfold eLst at e
  split at e
  · rename_i ds M1 h1
    split at e
    · rename_i hl
      cases e
      refine ra σ W δ M ds _ _ w s h1 fun vs W1 l1 w1 r1 => ⟨by rw [r1.len]; exact hl, fun p hp => ?_⟩
      obtain ⟨l2, w2, r2⟩ := lay_lst w1 hp r1
      exact q _ _ (l1.trans l2) w2 r2
    · cases e
  · cases e
theorem DE.new {es : List Expr} {pos} {g : AF} (a : DA X K es g) : DE X K (.List es pos) (eNew g) := by
  obtain ⟨ta, pa, ra⟩ := a.go
  refine ⟨tLst ta, fun i => pe_lst (pa i), fun σ W δ M d M' Q w s e q => ?_⟩
  unfold eNew at e
  split at e
  · rename_i ds M1 h1
    split at e
    · rename_i hl
      cases e
      refine ra σ W δ M ds _ _ w s h1 fun vs W1 l1 w1 r1 => ⟨by rw [r1.len]; exact hl, fun p hp => ?_⟩
      obtain ⟨l2, w2, r2⟩ := new_lst w1 hp r1
      exact q _ _ (l1.trans l2) w2 r2
    · cases e
  · cases e

/-! ### operators by values -/
abbrev O1 := D → Mh → Option (D × Mh)
abbrev O2 := D → D → Mh → Option (D × Mh)
def OD (K : PySem.W.Frag) (r : R2) (g : O2) : Prop := ∀ (W : Wd) (M : Mh) (x y : V) (a b : D) (z : D) (M' : Mh) (Q : VK), W.Ok K M → Rep K W.B W.ι x a → Rep K W.B W.ι y b → g a b M = some (z, M') → VR K W z M' Q → r x y W.H Q
def eOp (g : O2) (fa fb : EF) : EF := fun δ M => match fa δ M with
  | some (a, M1) => (match fb δ M1 with
    | some (b, M2) => g a b M2
    | none => none)
  | none => none
theorem er_op {r : R2} {g : O2} {ta tb : TE} {fa fb : EF} (o : OD K r g) (ra : ER K ta fa) (rb : ER K tb fb) : ER K (tOp r ta tb) (eOp g fa fb) := fun σ W δ M d M' Q w s e q => by
  unfold eOp at e
  split at e
  · rename_i a M1 h1
    split at e
    · rename_i b M2 h2
      refine ra σ W δ M a M1 _ w s h1 fun x W1 l1 w1 r1 => ?_
      refine rb σ W1 δ M1 b M2 _ w1 (s.le l1) h2 fun y W2 l2 w2 r2 => ?_
      exact o W2 M2 x y a b d M' Q w2 (r1.le l2) r2 e (q.le (l1.trans l2))
    · cases e
  · cases e
/-- a rule for an operator in every context -/
structure OpF (X : I → Cx) (K : PySem.W.Frag) (f : Value → Value → Sem Value) (g : O2) : Prop where
  go : ∃ r : R2, (∀ i, OpR (X i) f r) ∧ OD K r g
theorem DE.op {op : Operator} {a b : Expr} {pos} {g : O2} {fa fb : EF} (o : OpF X K (binaryOp op) g) (ha : DE X K a fa) (hb : DE X K b fb) : DE X K (.BinOp a op b pos) (eOp g fa fb) := by
  obtain ⟨r, ho, od⟩ := o.go
  obtain ⟨ta, pa, ra⟩ := ha.go
  obtain ⟨tb, pb, rb⟩ := hb.go
  exact ⟨_, fun i => pe_op (ho i) (pa i) (pb i), er_op od ra rb⟩
theorem DC.op {op : CmpOp} {a b : Expr} {pos} {g : O2} {fa fb : EF} (o : OpF X K (compareOp op) g) (ha : DE X K a fa) (hb : DE X K b fb) (hm : behindInMarks op b = false := by first | exact nomark _ | rfl) : DC X K (.Compare a [op] [b] pos) (eOp g fa fb) := by
  obtain ⟨r, ho, od⟩ := o.go
  obtain ⟨ta, pa, ra⟩ := ha.go
  obtain ⟨tb, pb, rb⟩ := hb.go
  exact ⟨_, fun i => pe_cmpR (ho i) (pa i) (pb i) hm, fun i => pt_cmpR (ho i) (pa i) (pb i) hm, er_op od ra rb⟩
/-- x < y < z -/
def eChain (g g' : O2) (fa fb fc : EF) : EF := fun δ M => match fa δ M with
  | some (a, M1) => (match fb δ M1 with
    | some (b, M2) => (match g a b M2 with
      | some (.bl true, M3) => (match fc δ M3 with
        | some (c, M4) => g' b c M4
        | none => none)
      | some (.bl false, M3) => some (.bl false, M3)
      | _ => none)
    | none => none)
  | none => none
theorem er_chain {r r' : R2} {g g' : O2} {ta tb tc : TE} {fa fb fc : EF} (o : OD K r g) (o' : OD K r' g') (ra : ER K ta fa) (rb : ER K tb fb) (rc : ER K tc fc) : ER K (tChain r r' ta tb tc) (eChain g g' fa fb fc) := fun σ W δ M d M' Q w s e q => by
  unfold eChain at e
  split at e
  · rename_i a M1 h1
    split at e
    · rename_i b M2 h2
      refine ra σ W δ M a M1 _ w s h1 fun x W1 l1 w1 r1 => ?_
      refine rb σ W1 δ M1 b M2 _ w1 (s.le l1) h2 fun y W2 l2 w2 r2 => ?_
      split at e
      · rename_i M3 h3
        split at e
        · rename_i c M4 h4
          refine o W2 M2 x y a b _ M3 _ w2 (r1.le l2) r2 h3 fun v W3 l3 w3 r3 => ?_
          cases r3
          refine ⟨true, rfl, ifT ?_⟩
          refine rc σ W3 δ M3 c M4 _ w3 (s.le ((l1.trans l2).trans l3)) h4 fun z W4 l4 w4 r4 => ?_
          exact o' W4 M4 y z b c d M' Q w4 (r2.le (l3.trans l4)) r4 e (q.le (((l1.trans l2).trans l3).trans l4))
        · cases e
      · rename_i M3 h3
        cases e
        refine o W2 M2 x y a b _ _ _ w2 (r1.le l2) r2 h3 fun v W3 l3 w3 r3 => ?_
        cases r3
        exact ⟨false, rfl, ifF (q _ W3 ((l1.trans l2).trans l3) w3 (.bl false))⟩
      · cases e
    · cases e
  · cases e
theorem DC.chain {op op' : CmpOp} {a b c : Expr} {pos} {g g' : O2} {fa fb fc : EF} (o : OpF X K (compareOp op) g) (o' : OpF X K (compareOp op') g') (ha : DE X K a fa) (hb : DE X K b fb) (hc : DE X K c fc) (hm : lastMarks [op, op'] [b, c] = false := by rfl) :
    DC X K (.Compare a [op, op'] [b, c] pos) (eChain g g' fa fb fc) := by
  obtain ⟨r, ho, od⟩ := o.go
  obtain ⟨r', ho', od'⟩ := o'.go
  obtain ⟨ta, pa, ra⟩ := ha.go
  obtain ⟨tb, pb, rb⟩ := hb.go
  obtain ⟨tc, pc, rc⟩ := hc.go
  exact ⟨_, fun i => pe_chain (ho i) (ho' i) (pa i) (pb i) (pc i) (hm := hm), fun i => pt_chain (ho i) (ho' i) (pa i) (pb i) (pc i) (hm := hm), er_chain od od' ra rb rc⟩
theorem DC.val {e : Expr} {f : EF} (h : DC X K e f) : DE X K e f := by
  obtain ⟨t, a, _, c⟩ := h.go
  exact ⟨t, a, c⟩
def tV (f : EF) : TF := fun δ M => match f δ M with
  | some (.bl b, M1) => some (b, M1)
  | _ => none
theorem tr_test {t : TE} {f : EF} (r : ER K t f) : TR K (tTest t) (tV f) := fun σ W δ M b M' Q w s e q => by
  unfold tV at e
  split at e
  · rename_i c M1 h1
    cases e
    refine r σ W δ M _ _ _ w s h1 fun v W1 l1 w1 r1 => ?_
    cases r1
    exact ⟨b, rfl, q W1 l1 w1⟩
  · cases e
theorem DC.test {e : Expr} {f : EF} (h : DC X K e f) : DT X K e (tV f) := by
  obtain ⟨t, _, b, c⟩ := h.go
  exact ⟨_, b, tr_test c⟩
theorem DE.test {e : Expr} {f : EF} (h : DE X K e f) (he : ∀ i whole, isTrue e (X i).env whole = (do let v ← whole; standAt e.pos; holding [v] (truthy v)) := by intro _ _; rfl) : DT X K e (tV f) := by
  obtain ⟨t, a, c⟩ := h.go
  exact ⟨_, fun i => pt_val (a i) (he i), tr_test c⟩
/-! ### and, or, not, if else -/
def tNt (f : TF) : TF := fun δ M => match f δ M with
  | some (b, M1) => some (!b, M1)
  | none => none
theorem DT.not {a : Expr} {pos} {f : TF} (h : DT X K a f) : DT X K (.UnaryOp .Not a pos) (tNt f) := by
  obtain ⟨t, p, r⟩ := h.go
  refine ⟨_, fun i => pt_not (p i), fun σ W δ M b M' Q w s e q => ?_⟩
  unfold tNt at e
  split at e
  · rename_i c M1 h1
    cases e
    exact r σ W δ M c _ _ w s h1 q
  · cases e
def tAn (f g : TF) : TF := fun δ M => match f δ M with
  | some (true, M1) => g δ M1
  | some (false, M1) => some (false, M1)
  | none => none
def tOrr (f g : TF) : TF := fun δ M => match f δ M with
  | some (true, M1) => some (true, M1)
  | some (false, M1) => g δ M1
  | none => none
theorem DW.and1 {a : Expr} {pos} {f : TF} (h : DT X K a f) : DW X K (.BoolOp .And [a] pos) f := by
  obtain ⟨t, p, r⟩ := h.go
  exact ⟨t, fun i => pw_and1 (p i), r⟩
theorem DW.or1 {a : Expr} {pos} {f : TF} (h : DT X K a f) : DW X K (.BoolOp .Or [a] pos) f := by
  obtain ⟨t, p, r⟩ := h.go
  exact ⟨t, fun i => pw_or1 (p i), r⟩
theorem DW.and {a b : Expr} {es : List Expr} {pos} {f g : TF} (h : DT X K a f) (h' : DW X K (.BoolOp .And (b :: es) pos) g) : DW X K (.BoolOp .And (a :: b :: es) pos) (tAn f g) := by
  obtain ⟨t, p, r⟩ := h.go
  obtain ⟨t', p', r'⟩ := h'.go
  refine ⟨_, fun i => pw_and (p i) (p' i), fun σ W δ M b M' Q w s e q => ?_⟩
  unfold tAn at e
  split at e
  · rename_i M1 h1
    refine r σ W δ M true M1 _ w s h1 fun W1 l1 w1 => ifT ?_
    exact r' σ W1 δ M1 b M' Q w1 (s.le l1) e fun W2 l2 w2 => q W2 (l1.trans l2) w2
  · rename_i M1 h1
    cases e
    exact r σ W δ M false _ _ w s h1 fun W1 l1 w1 => ifF (q W1 l1 w1)
  · cases e
theorem DW.or {a b : Expr} {es : List Expr} {pos} {f g : TF} (h : DT X K a f) (h' : DW X K (.BoolOp .Or (b :: es) pos) g) : DW X K (.BoolOp .Or (a :: b :: es) pos) (tOrr f g) := by
  obtain ⟨t, p, r⟩ := h.go
  obtain ⟨t', p', r'⟩ := h'.go
  refine ⟨_, fun i => pw_or (p i) (p' i), fun σ W δ M b M' Q w s e q => ?_⟩
  unfold tOrr at e
  split at e
  · rename_i M1 h1
    cases e
    exact r σ W δ M true _ _ w s h1 fun W1 l1 w1 => ifT (q W1 l1 w1)
  · rename_i M1 h1
    refine r σ W δ M false M1 _ w s h1 fun W1 l1 w1 => ifF ?_
    exact r' σ W1 δ M1 b M' Q w1 (s.le l1) e fun W2 l2 w2 => q W2 (l1.trans l2) w2
  · cases e
theorem DW.test {e : Expr} {f : TF} (h : DW X K e f) : DT X K e f := by
  obtain ⟨t, p, r⟩ := h.go
  exact ⟨t, fun i => PW.pt (p i), r⟩
def eIf (t : TF) (f g : EF) : EF := fun δ M => match t δ M with
  | some (true, M1) => f δ M1
  | some (false, M1) => g δ M1
  | none => none
theorem DE.ite {c a b : Expr} {pos} {t : TF} {f g : EF} (h : DT X K c t) (ha : DE X K a f) (hb : DE X K b g) : DE X K (.IfExp c a b pos) (eIf t f g) := by
  obtain ⟨tt, p, r⟩ := h.go
  obtain ⟨ta, pa, ra⟩ := ha.go
  obtain ⟨tb, pb, rb⟩ := hb.go
  refine ⟨_, fun i => pe_ifExp (p i) (pa i) (pb i), fun σ W δ M d M' Q w s e q => ?_⟩
  unfold eIf at e
  split at e
  · rename_i M1 h1
    exact r σ W δ M true M1 _ w s h1 fun W1 l1 w1 => ifT (ra σ W1 δ M1 d M' Q w1 (s.le l1) e (q.le l1))
  · rename_i M1 h1
    exact r σ W δ M false M1 _ w s h1 fun W1 l1 w1 => ifF (rb σ W1 δ M1 d M' Q w1 (s.le l1) e (q.le l1))
  · cases e
/-- not a, a and b, a or b as values, all of them True or False -/
def eNt (f : EF) : EF := fun δ M => match f δ M with
  | some (.bl b, M1) => some (.bl (!b), M1)
  | _ => none
def eAn (f g : EF) : EF := fun δ M => match f δ M with
  | some (.bl true, M1) => g δ M1
  | some (.bl false, M1) => some (.bl false, M1)
  | _ => none
def eOr (f g : EF) : EF := fun δ M => match f δ M with
  | some (.bl true, M1) => some (.bl true, M1)
  | some (.bl false, M1) => g δ M1
  | _ => none
theorem DE.not {a : Expr} {pos} {f : EF} (h : DE X K a f) (he : ∀ i whole, isTrue a (X i).env whole = (do let v ← whole; standAt a.pos; holding [v] (truthy v)) := by intro _ _; rfl) : DE X K (.UnaryOp .Not a pos) (eNt f) := by
  obtain ⟨t, p, r⟩ := h.go
  refine ⟨_, fun i => pe_not (p i), fun σ W δ M d M' Q w s e q => ?_⟩
  unfold eNt at e
  split at e
  · rename_i b M1 h1
    cases e
    refine r σ W δ M _ _ _ w s h1 fun v W1 l1 w1 r1 => ?_
    cases r1
    exact ⟨b, rfl, q _ W1 l1 w1 (.bl _)⟩
  · cases e
theorem DE.one {op : BoolOp} {a : Expr} {pos} {f : EF} (h : DE X K a f) : DE X K (.BoolOp op [a] pos) f := by
  obtain ⟨t, p, r⟩ := h.go
  exact ⟨t, fun i => pe_one (p i), r⟩
theorem DE.and {a b : Expr} {es : List Expr} {pos} {f g : EF} (h : DE X K a f) (h' : DE X K (.BoolOp .And (b :: es) pos) g) : DE X K (.BoolOp .And (a :: b :: es) pos) (eAn f g) := by
  obtain ⟨t, p, r⟩ := h.go
  obtain ⟨t', p', r'⟩ := h'.go
  refine ⟨_, fun i => pe_and (p i) (p' i), fun σ W δ M d M' Q w s e q => ?_⟩
  unfold eAn at e
  split at e
  · rename_i M1 h1
    refine r σ W δ M _ M1 _ w s h1 fun v W1 l1 w1 r1 => ?_
    cases r1
    exact ⟨true, rfl, ifT (r' σ W1 δ M1 d M' Q w1 (s.le l1) e (q.le l1))⟩
  · rename_i M1 h1
    cases e
    refine r σ W δ M _ _ _ w s h1 fun v W1 l1 w1 r1 => ?_
    cases r1
    exact ⟨false, rfl, ifF (q _ W1 l1 w1 (.bl _))⟩
  · cases e
theorem DE.or {a b : Expr} {es : List Expr} {pos} {f g : EF} (h : DE X K a f) (h' : DE X K (.BoolOp .Or (b :: es) pos) g) : DE X K (.BoolOp .Or (a :: b :: es) pos) (eOr f g) := by
  obtain ⟨t, p, r⟩ := h.go
  obtain ⟨t', p', r'⟩ := h'.go
  refine ⟨_, fun i => pe_or (p i) (p' i), fun σ W δ M d M' Q w s e q => ?_⟩
  unfold eOr at e
  split at e
  · rename_i M1 h1
    cases e
    refine r σ W δ M _ _ _ w s h1 fun v W1 l1 w1 r1 => ?_
    cases r1
    exact ⟨true, rfl, ifT (q _ W1 l1 w1 (.bl _))⟩
  · rename_i M1 h1
    refine r σ W δ M _ M1 _ w s h1 fun v W1 l1 w1 r1 => ?_
    cases r1
    exact ⟨false, rfl, ifF (r' σ W1 δ M1 d M' Q w1 (s.le l1) e (q.le l1))⟩
  · cases e
end
end Pl

namespace Pl
open PySem L2
section
variable {I : Type} {X : I → Cx} {P : Program} {w : World} {K : PySem.W.Frag} {mg : Str → Option Value} {base : Heap} {k : Nat}

/-! ### blocks and statements -/
def sNil : SF := fun δ M => some (.nx δ M)
def sSeq (f g : SF) : SF := fun δ M => match f δ M with
  | some (.nx δ' M') => g δ' M'
  | o => o
theorem DB.nil : DB X K [] sNil := ⟨tNext, fun i => pss_nil, fun σ W δ M o E w s e q => by
  cases e
  exact q σ W (.refl W) w s⟩
theorem DB.cons {s : Stmt} {ss : List Stmt} {f g : SF} (a : DS X K s f) (b : DB X K ss g) : DB X K (s :: ss) (sSeq f g) := by
  obtain ⟨ta, pa, ra⟩ := a.go
  obtain ⟨tb, pb, rb⟩ := b.go
  refine ⟨tSeq ta tb, fun i => pss_cons (pa i) (pb i), fun σ W δ M o E w s e q => ?_⟩
  unfold sSeq at e
  split at e
  · rename_i δ' M' h1
    refine ra σ W δ M _ _ w s h1 fun σ' W1 l1 w1 s1 => ?_
    exact rb σ' W1 δ' M' o E w1 s1 e (q.le l1)
  · rename_i hn
    refine ra σ W δ M o _ w s e ?_
    cases o with
    | nx δ' M' => exact absurd e (hn δ' M')
    | bk _ _ => exact q
    | ct _ _ => exact q
    | rt _ _ => exact q
theorem DB.one {s : Stmt} {f : SF} (a : DS X K s f) : DB X K [s] f := by
  obtain ⟨ta, pa, ra⟩ := a.go
  exact ⟨ta, fun i => pss_one (pa i), ra⟩
theorem DS.pass {pos} : DS X K (.Pass pos) sNil := ⟨tNext, fun i => ps_pass, fun σ W δ M o E w s e q => by
  cases e
  exact q σ W (.refl W) w s⟩
theorem DS.brk {pos} : DS X K (.Break pos) (fun δ M => some (.bk δ M)) := ⟨tBreak, fun i => ps_break, fun σ W δ M o E w s e q => by
  cases e
  exact q σ W (.refl W) w s⟩
theorem DS.cont {pos} : DS X K (.Continue pos) (fun δ M => some (.ct δ M)) := ⟨tCont, fun i => ps_continue, fun σ W δ M o E w s e q => by
  cases e
  exact q σ W (.refl W) w s⟩
def sE (f : EF) : SF := fun δ M => match f δ M with
  | some (_, M') => some (.nx δ M')
  | none => none
theorem DS.expr {e : Expr} {pos} {f : EF} (a : DE X K e f) (hs : ∀ i, swapsWith e none pos.line (X i).env = pure false := by intro _; rfl) : DS X K (.Expr e pos) (sE f) := by
  obtain ⟨ta, pa, ra⟩ := a.go
  refine ⟨tDrop ta, fun i => ps_expr (pa i) (hs i), fun σ W δ M o E w s e q => ?_⟩
  unfold sE at e
  split at e
  · rename_i d M' h1
    cases e
    exact ra σ W δ M _ _ _ w s h1 fun v W1 l1 w1 r1 => q σ W1 l1 w1 (s.le l1)
  · cases e
def sRet (f : EF) : SF := fun δ M => match f δ M with
  | some (d, M') => some (.rt d M')
  | none => none
theorem DS.ret {e : Expr} {pos} {f : EF} (a : DE X K e f) : DS X K (.Return (some e) pos) (sRet f) := by
  obtain ⟨ta, pa, ra⟩ := a.go
  refine ⟨tRet ta, fun i => ps_ret (pa i), fun σ W δ M o E w s e q => ?_⟩
  unfold sRet at e
  split at e
  · rename_i d M' h1
    cases e
    exact ra σ W δ M _ _ _ w s h1 q
  · cases e
theorem DS.retN {pos} : DS X K (.Return none pos) (sRet (eC .non)) := ⟨tRetN, fun i => ps_retN, fun σ W δ M o E w s e q => by
  cases e
  exact q .non W (.refl W) w .non⟩
def sIf (t : TF) (f g : SF) : SF := fun δ M => match t δ M with
  | some (true, M1) => f δ M1
  | some (false, M1) => g δ M1
  | none => none
theorem DS.ite {c : Expr} {a b : List Stmt} {pos} {t : TF} {f g : SF} (h : DT X K c t) (ha : DB X K a f) (hb : DB X K b g) : DS X K (.If c a b pos) (sIf t f g) := by
  obtain ⟨tt, p, r⟩ := h.go
  obtain ⟨ta, pa, ra⟩ := ha.go
  obtain ⟨tb, pb, rb⟩ := hb.go
  refine ⟨_, fun i => ps_if (p i) (pa i) (pb i), fun σ W δ M o E w s e q => ?_⟩
  unfold sIf at e
  split at e
  · rename_i M1 h1
    exact r σ W δ M true M1 _ w s h1 fun W1 l1 w1 => ifT (ra σ W1 δ M1 o E w1 (s.le l1) e (q.le l1))
  · rename_i M1 h1
    exact r σ W δ M false M1 _ w s h1 fun W1 l1 w1 => ifF (rb σ W1 δ M1 o E w1 (s.le l1) e (q.le l1))
  · cases e

/-! ### targets -/
def GR (K : PySem.W.Frag) (t : TG) (f : GF) (sl : List Nat) : Prop := ∀ (v : V) (d : D) (σ : St) (W : Wd) (δ δ' : Env) (M : Mh) (Q : St → Hp → Prop), W.Ok K M → Slots K W σ δ → Rep K W.B W.ι v d → f d δ = some δ' →
  (∀ σ', Slots K W σ' δ' → (∀ vs : List Nat, (∀ j ∈ sl, j ∈ vs) → wipe σ' vs = wipe σ vs) → Q σ' W.H) → t v σ W.H Q
def GRs (K : PySem.W.Frag) (t : TGs) (f : List D → Env → Option Env) (sl : List Nat) : Prop := ∀ (v : List V) (d : List D) (σ : St) (W : Wd) (δ δ' : Env) (M : Mh) (Q : St → Hp → Prop), W.Ok K M → Slots K W σ δ → RepL K W.B W.ι v d → f d δ = some δ' →
  (∀ σ', Slots K W σ' δ' → (∀ vs : List Nat, (∀ j ∈ sl, j ∈ vs) → wipe σ' vs = wipe σ vs) → Q σ' W.H) → t v σ W.H Q
structure DG (X : I → Cx) (K : PySem.W.Frag) (tg : Expr) (f : GF) (sl : List Nat) : Prop where
  go : ∃ t : TG, (∀ i, PG (X i) tg t) ∧ GR K t f sl
structure DGs (X : I → Cx) (K : PySem.W.Frag) (tg : List Expr) (f : List D → Env → Option Env) (sl : List Nat) (n : Nat) : Prop where
  go : ∃ t : TGs, (∀ i, PGs (X i) tg t) ∧ GRs K t f sl
  len : ∀ ds δ δ', f ds δ = some δ' → ds.length = n
theorem wipe_set (σ : St) (o : Option V) (i : Nat) : ∀ vs : List Nat, (i ∈ vs → wipe (σ.set i o) vs = wipe σ vs) ∧ (i ∉ vs → wipe (σ.set i o) vs = (wipe σ vs).set i o)
  | [] => ⟨fun h => absurd h (by simp), fun _ => rfl⟩
  | v :: vs => by
    obtain ⟨h1, h2⟩ := wipe_set σ o i vs
    refine ⟨fun h => ?_, fun h => ?_⟩
    · show (wipe (σ.set i o) vs).set v none = (wipe σ vs).set v none
      by_cases hm : i ∈ vs
      · rw [h1 hm]
      · have e : i = v := by
          rcases List.mem_cons.mp h with e | e
          · exact e
          · exact absurd e hm
        rw [h2 hm, ← e, List.set_set]
    · show (wipe (σ.set i o) vs).set v none = ((wipe σ vs).set v none).set i o
      have hv : i ≠ v := fun e => h (by rw [e]; exact List.mem_cons_self)
      rw [h2 fun z => h (List.mem_cons_of_mem _ z), List.set_comm _ _ hv]
def gN (i : Nat) : GF := fun d δ => some (δ.set i (some d))
theorem DG.name (j : Nat) {x : Str} {pos} (hN : ∀ i, (X i).N.Nodup) (hi : ∀ i, (X i).N[j]? = some x := by intro _; rfl) (hx : ∀ i, Loc (X i).env.scope x := by intro _; first | exact Or.inl rfl | exact Or.inr rfl)
    (hf : ∀ i, (X i).fn x = true ∨ (X i).env.scope.names.lookup x = some .local := by intro _; first | exact Or.inl rfl | exact Or.inr rfl) : DG X K (.Name x pos) (gN j) [j] :=
  ⟨gName j, fun i => pg_name (hN i) (hi i) (hx i) (hf i), fun v d σ W δ δ' M Q w s r e q => by
    cases e
    exact q _ (s.set r j) fun vs h => (wipe_set σ _ j vs).1 (h j List.mem_cons_self)⟩
def gsNil : List D → Env → Option Env := fun ds δ => match ds with
  | [] => some δ
  | _ => none
def gsCons (f : GF) (g : List D → Env → Option Env) : List D → Env → Option Env := fun ds δ => match ds with
  | [] => none
  | d :: r => (match f d δ with
    | some δ1 => g r δ1
    | none => none)
theorem DGs.nil : DGs X K [] gsNil [] 0 := ⟨⟨gNil, fun i => pgs_nil, fun v d σ W δ δ' M Q w s r e q => by
  cases r with
  | nil =>
    cases e
    exact ⟨rfl, q σ s fun _ _ => rfl⟩
  | cons _ _ => cases e⟩, fun ds δ δ' h => by
    cases ds with
    | nil => rfl
    | cons _ _ => cases h⟩
theorem DGs.cons {e : Expr} {es : List Expr} {f : GF} {g : List D → Env → Option Env} {sl sm : List Nat} {n : Nat} (a : DG X K e f sl) (b : DGs X K es g sm n)
    (hs : ∀ i, (assignEach (e :: es) (X i).env).map (·.2) = assign e (X i).env :: (assignEach es (X i).env).map (·.2) := by intro _; rfl) : DGs X K (e :: es) (gsCons f g) (sl ++ sm) (n + 1) := by
  obtain ⟨ta, pa, ra⟩ := a.go
  obtain ⟨tb, pb, rb⟩ := b.go
  refine ⟨⟨gCons ta tb, fun i => pgs_cons (pa i) (pb i) (hs i), fun v d σ W δ δ' M Q w s r e q => ?_⟩, fun ds δ δ' h => ?_⟩
  · cases r with
    | nil => cases e
    | cons r1 r2 =>
      have e' : (match f _ δ with
        | some δ1 => g _ δ1
        | none => none) = some δ' := e
      split at e'
      · rename_i δ1 h1
        refine ⟨_, _, rfl, ra _ _ σ W δ δ1 M _ w s r1 h1 fun σ1 s1 k1 => ?_⟩
        refine rb _ _ σ1 W δ1 δ' M _ w s1 r2 e' fun σ2 s2 k2 => ?_
        exact q σ2 s2 fun vs hv => (k2 vs fun j hj => hv j (List.mem_append_right _ hj)).trans (k1 vs fun j hj => hv j (List.mem_append_left _ hj))
      · cases e'
  · cases ds with
    | nil => cases h
    | cons d r =>
      have h' : (match f d δ with
        | some δ1 => g r δ1
        | none => none) = some δ' := h
      split at h'
      · exact congrArg (· + 1) (b.len _ _ _ h')
      · cases h'
def gTp (f : List D → Env → Option Env) : GF := fun d δ => match d with
  | .tup ds => f ds δ
  | .lst ds => f ds δ
  | .lsk ds => f ds δ
  | _ => none
theorem pg_or {Y : Cx} {tg : Expr} {t u : TG} (a : PG Y tg t) (b : PG Y tg u) : PG Y tg (fun v σ H Q => t v σ H Q ∨ u v σ H Q) := ⟨fun pins s σ H v us Q I r h => by
  rcases h with h | h
  · exact a.run pins s σ H v us Q I r h
  · exact b.run pins s σ H v us Q I r h⟩
/-- a list's own rule -/
structure UnlR (X : I → Cx) (K : PySem.W.Frag) : Prop where
  run : ∀ (es : List Expr) (k : Nat) (pos : Pos) (t : TGs) (n : Nat), (∀ i, PGs (X i) es t) → (∀ i, (assignEach es (X i).env).length = n) → (∀ i, (assignEach es (X i).env).findIdx? (·.1) = none) → ∀ i, PG (X i) (.Tuple es k pos) (gUnl K n t)
theorem DG.tup (c : Ctx X P w K mg base k) {es : List Expr} {m : Nat} {pos} {f : List D → Env → Option Env} {sl : List Nat} {n : Nat} (a : DGs X K es f sl n) (hn : ∀ i, (assignEach es (X i).env).length = n := by intro _; rfl)
    (hst : ∀ i, (assignEach es (X i).env).findIdx? (·.1) = none := by intro _; rfl) : DG X K (.Tuple es m pos) (gTp f) sl := by
  obtain ⟨ta, pa, ra⟩ := a.go
  refine ⟨fun v σ H Q => gTup K n ta v σ H Q ∨ gUnl K n ta v σ H Q, fun i => ?_, fun v d σ W δ δ' M Q w s r e q => ?_⟩
  · have h1 := pg_tup (c.calm i) (pa i) (hn i) (hst i) (k := m) (pos := pos)
    have h2 := pg_unl (c.calm i) (pa i) (hn i) (hst i) (k := m) (pos := pos)
    rw [c.K i] at h1 h2
    exact pg_or h1 h2
  · cases r with
    | tup h r =>
      have e' : f _ δ = some δ' := e
      exact .inl ⟨_, _, rfl, sqT_mono w.sub h, by rw [r.len]; exact a.len _ _ _ e', ra _ _ σ W δ δ' M Q w s r e' q⟩
    | lst h r =>
      have e' : f _ δ = some δ' := e
      exact .inr ⟨_, _, rfl, .inl (.inl (w.sub _ _ h)), by rw [r.len]; exact a.len _ _ _ e', ra _ _ σ W δ δ' M Q w s r e' q⟩
    | lsk h r =>
      have e' : f _ δ = some δ' := e
      exact .inr ⟨_, _, rfl, sqL_mono w.sub h, by rw [r.len]; exact a.len _ _ _ e', ra _ _ σ W δ δ' M Q w s r e' q⟩
    | _ => cases e
/-! ### assignments -/
def sAs (f : EF) (g : GF) : SF := fun δ M => match f δ M with
  | some (d, M1) => (match g d δ with
    | some δ' => some (.nx δ' M1)
    | none => none)
  | none => none
theorem sr_as {te : TE} {t : TG} {f : EF} {g : GF} {sl : List Nat} (re : ER K te f) (rg : GR K t g sl) : SR K (tAsg te t) (sAs f g) := fun σ W δ M o E w s e q => by
  unfold sAs at e
  split at e
  · rename_i d M1 h1
    split at e
    · rename_i δ' h2
      cases e
      refine re σ W δ M d _ _ w s h1 fun v W1 l1 w1 r1 => ?_
      exact rg v d σ W1 δ δ' _ _ w1 (s.le l1) r1 h2 fun σ' s' _ => q σ' W1 l1 w1 s'
    · cases e
  · cases e
theorem DS.set (j : Nat) {x : Str} {e : Expr} {pos pos'} {f : EF} (a : DE X K e f) (hN : ∀ i, (X i).N.Nodup) (hi : ∀ i, (X i).N[j]? = some x := by intro _; rfl) (hx : ∀ i, Loc (X i).env.scope x := by intro _; first | exact Or.inl rfl | exact Or.inr rfl)
    (hs : ∀ i, swapsWith e (some (.Name x pos')) pos.line (X i).env = pure false := by intro _; rfl) (hf : ∀ i, (X i).fn x = true ∨ (X i).env.scope.names.lookup x = some .local := by intro _; first | exact Or.inl rfl | exact Or.inr rfl) :
    DS X K (.Assign [.Name x pos'] e pos) (sAs f (gN j)) := by
  obtain ⟨t, p, r⟩ := a.go
  obtain ⟨tg, _, rg⟩ := (⟨gName j, fun i => pg_name (hN i) (hi i) (hx i) (hf i), fun v d σ W δ δ' M Q w s r e q => by
    cases e
    exact q _ (s.set r j) fun vs h => (wipe_set σ _ j vs).1 (h j List.mem_cons_self)⟩ : ∃ t : TG, (∀ i, PG (X i) (.Name x pos') t) ∧ GR K t (gN j) [j])
  refine ⟨tAsg t (gName j), fun i => ps_set (hN i) (hi i) (hx i) (p i) (hs i) (hf i), sr_as r (sl := [j]) fun v d σ W δ δ' M Q w s r e q => ?_⟩
  cases e
  exact q _ (s.set r j) fun vs h => (wipe_set σ _ j vs).1 (h j List.mem_cons_self)
theorem DS.asg {tg e : Expr} {pos} {f : EF} {g : GF} {sl : List Nat} (a : DE X K e f) (b : DG X K tg g sl) (hs : ∀ i, swapsWithSole [tg] e pos.line (X i).env = pure false := by intro _; rfl) (hw : ∀ i, swappedStores [tg] e (X i).env = pure none := by intro _; rfl)
    (h1 : ∀ i, (assignEach [tg] (X i).env).map (·.2) = [assign tg (X i).env] := by intro _; rfl) : DS X K (.Assign [tg] e pos) (sAs f g) := by
  obtain ⟨t, p, r⟩ := a.go
  obtain ⟨tg, pg, rg⟩ := b.go
  exact ⟨_, fun i => ps_asg (p i) (pg i) (hs i) (hw i) (h1 i), sr_as r rg⟩
def sPar (i j : Nat) (f g : EF) : SF := fun δ M => match f δ M with
  | some (d, M1) => (match g δ M1 with
    | some (e, M2) => some (.nx ((δ.set i (some d)).set j (some e)) M2)
    | none => none)
  | none => none
theorem DS.par (a b : Nat) {x y : Str} {e1 e2 : Expr} {f g : EF} {px py pt : Pos} {kt k2 pt2 pos} (c : Ctx X P w K mg base k) (h1 : DE X K e1 f) (h2 : DE X K e2 g) (hN : ∀ i, (X i).N.Nodup) (hi : ∀ i, (X i).N[a]? = some x := by intro _; rfl) (hj : ∀ i, (X i).N[b]? = some y := by intro _; rfl)
    (hij : a ≠ b := by decide) (hx : ∀ i, (X i).env.scope.names.lookup x = some .local := by intro _; rfl) (hy : ∀ i, (X i).env.scope.names.lookup y = some .local := by intro _; rfl)
    (hw : ∀ i, swappedStores [.Tuple [.Name x px, .Name y py] kt pt] (.Tuple [e1, e2] k2 pt2) (X i).env = pure (some [x, y]) := by intro _; rfl)
    (hs : ∀ i, swapsWithSole [.Tuple [.Name x px, .Name y py] kt pt] (.Tuple [e1, e2] k2 pt2) pos.line (X i).env = pure false := by intro _; rfl)
    (he1 : ∀ i, starEach [e1, e2] (X i).env = (false, eval e1 (X i).env) :: starEach [e2] (X i).env := by intro _; rfl) (he2 : ∀ i, starEach [e2] (X i).env = (false, eval e2 (X i).env) :: starEach [] (X i).env := by intro _; rfl) :
    DS X K (.Assign [.Tuple [.Name x px, .Name y py] kt pt] (.Tuple [e1, e2] k2 pt2) pos) (sPar a b f g) := by
  obtain ⟨ta, pa, ra⟩ := h1.go
  obtain ⟨tb, pb, rb⟩ := h2.go
  refine ⟨tPar a b (tCons ta (tCons tb tNil)), fun i => ps_par (c.calm i) (hN i) (hi i) (hj i) hij (hx i) (hy i) (pa_cons (pa i) (pa_cons (pb i) pa_nil (he2 i)) (he1 i)) (hw i) (hs i), fun σ W δ M o E w s e q => ?_⟩
  unfold sPar at e
  split at e
  · rename_i d M1 h1
    split at e
    · rename_i d2 M2 h2
      cases e
      refine ra σ W δ M d M1 _ w s h1 fun v W1 l1 w1 r1 => ?_
      refine rb σ W1 δ M1 d2 _ _ w1 (s.le l1) h2 fun u W2 l2 w2 r2 => ?_
      exact ⟨v, u, rfl, q _ W2 (l1.trans l2) w2 (((s.le (l1.trans l2)).set (r1.le l2) a).set r2 b)⟩
    · cases e
  · cases e

/-! ### what is walked -/
/-- from W0 on an iterator gives ds -/
def Wk (K : PySem.W.Frag) (J : It) (W0 : Wd) (ds : List D) : Prop := ∀ (i : Nat) (W : Wd) (M : Mh), W0.Lo W → W.Ok K M →
  (ds[i]? = none → J.stop i W.H) ∧ (∀ d, ds[i]? = some d → J.go i W.H ∧ ∀ x H', J.yld i W.H x H' → ∃ W', W'.H = H' ∧ W.Le W' ∧ W'.Ok K M ∧ Rep K W'.B W'.ι x d)
structure DI (X : I → Cx) (K : PySem.W.Frag) (tg iter : Expr) (f : AF) : Prop where
  go : ∃ t : TI, (∀ i, PI (X i) tg iter t) ∧ ∀ (σ : St) (W : Wd) (δ : Env) (M : Mh) (ds : List D) (M' : Mh) (R : It → Hp → Prop), W.Ok K M → Slots K W σ δ → f δ M = some (ds, M') → (∀ J W', W.Le W' → W'.Ok K M' → Wk K J W' ds → R J W'.H) → t σ W.H R
theorem wk_list {W0 : Wd} {a : Addr} {vs : List V} {ds : List D} (h : SqL K W0.B a vs) (r : RepL K W0.B W0.ι vs ds) : Wk K (Itl K a) W0 ds := fun i W M l w => by
  have hs : SqL K W.H a vs := sqL_mono w.sub (sqL_mono l.same h)
  have r' := r.mono l.same l.ix
  refine ⟨fun e => ⟨vs, hs, by rw [r.len]; exact List.getElem?_eq_none_iff.mp e⟩, fun d e => ?_⟩
  obtain ⟨v, h1, h2⟩ := r'.get e
  refine ⟨⟨vs, v, hs, h1⟩, fun x H' y => ?_⟩
  obtain ⟨e1, e2⟩ := y
  have e3 := (e2 vs hs).symm.trans h1
  cases e3
  exact ⟨W, e1.symm, .refl W, w, h2⟩
theorem wk_tup {W0 : Wd} {a : Addr} {vs : List V} {ds : List D} (h : SqT K W0.B a vs) (r : RepL K W0.B W0.ι vs ds) : Wk K (Itt K a) W0 ds := fun i W M l w => by
  have hs : SqT K W.H a vs := sqT_mono w.sub (sqT_mono l.same h)
  have r' := r.mono l.same l.ix
  refine ⟨fun e => ⟨vs, hs, by rw [r.len]; exact List.getElem?_eq_none_iff.mp e⟩, fun d e => ?_⟩
  obtain ⟨v, h1, h2⟩ := r'.get e
  refine ⟨⟨vs, v, hs, h1⟩, fun x H' y => ?_⟩
  obtain ⟨e1, e2⟩ := y
  have e3 := (e2 vs hs).symm.trans h1
  cases e3
  exact ⟨W, e1.symm, .refl W, w, h2⟩
def aItems (f : EF) : AF := fun δ M => match f δ M with
  | some (.lst ds, M1) => some (ds, M1)
  | some (.lsk ds, M1) => some (ds, M1)
  | some (.tup ds, M1) => some (ds, M1)
  | _ => none
theorem pi_or {Y : Cx} {tg e : Expr} {t u : TI} (a : PI Y tg e t) (b : PI Y tg e u) : PI Y tg e (fun σ H R => t σ H R ∨ u σ H R) := ⟨fun pins s σ H R I h => by
  rcases h with h | h
  · exact a.run pins s σ H R I h
  · exact b.run pins s σ H R I h⟩
theorem DI.seq (c : Ctx X P w K mg base k) {tg e : Expr} {f : EF} (a : DE X K e f) : DI X K tg e (aItems f) := by
  obtain ⟨t, p, r⟩ := a.go
  refine ⟨fun σ H R => iList K t σ H R ∨ iTup K t σ H R, fun i => ?_, fun σ W δ M ds M' R w s e q => ?_⟩
  · have h1 := pi_list (tg := tg) (p i)
    have h2 := pi_tup (tg := tg) (p i)
    rw [c.K i] at h1 h2
    exact pi_or h1 h2
  · unfold aItems at e
    split at e
    · rename_i es M1 h
      cases e
      refine .inl (r σ W δ M _ _ _ w s h fun v W1 l1 w1 r1 => ?_)
      cases r1 with
      | lst h1 r1 => exact ⟨_, rfl, ⟨_, .inl (.inl (w1.sub _ _ h1))⟩, q _ W1 l1 w1 (wk_list (.inl (.inl h1)) r1)⟩
    · rename_i es M1 h
      cases e
      refine .inl (r σ W δ M _ _ _ w s h fun v W1 l1 w1 r1 => ?_)
      cases r1 with
      | lsk h1 r1 => exact ⟨_, rfl, ⟨_, sqL_mono w1.sub h1⟩, q _ W1 l1 w1 (wk_list h1 r1)⟩
    · rename_i es M1 h
      cases e
      refine .inr (r σ W δ M _ _ _ w s h fun v W1 l1 w1 r1 => ?_)
      cases r1 with
      | tup h1 r1 => exact ⟨_, rfl, ⟨_, sqT_mono w1.sub h1⟩, q _ W1 l1 w1 (wk_tup h1 r1)⟩
    · cases e
/-- lo, lo + 1, .. below hi -/
def rng (lo hi : Int) : List D := (List.range (hi - lo).toNat).map fun i => .int (lo + (i : Nat))
theorem wk_rng {W0 : Wd} {lo hi : Int} : Wk K (Itr lo (hi - lo).toNat) W0 (rng lo hi) := fun i W M l w => by
  refine ⟨fun e => ?_, fun d e => ?_⟩
  · have h := List.getElem?_eq_none_iff.mp e
    rw [show (rng lo hi).length = (hi - lo).toNat by simp [rng]] at h
    exact h
  · have h := (List.getElem?_eq_some_iff.mp e).1
    rw [show (rng lo hi).length = (hi - lo).toNat by simp [rng]] at h
    refine ⟨h, fun x H' y => ?_⟩
    obtain ⟨e1, e2⟩ := y
    subst e2
    have e3 : d = .int (lo + (i : Nat)) := by
      unfold rng at e
      rw [List.getElem?_map, List.getElem?_range h] at e
      exact (Option.some.inj e).symm
    subst e3
    exact ⟨W, e1.symm, .refl W, w, .int _⟩
def aRng1 (f : AF) : AF := fun δ M => match f δ M with
  | some ([.int j], M1) => if -(2 ^ 62) ≤ j ∧ j < 2 ^ 62 then some (rng 0 j, M1) else none
  | _ => none
def aRng2 (f : AF) : AF := fun δ M => match f δ M with
  | some ([.int i, .int j], M1) => if -(2 ^ 62) ≤ i ∧ i < 2 ^ 62 ∧ -(2 ^ 62) ≤ j ∧ j < 2 ^ 62 then some (rng i j, M1) else none
  | _ => none
theorem DI.rng1 (c : Ctx X P w K mg base k) (hm : mg "range" = none) {tg a : Expr} {p pos : Pos} {f : AF} (h : DA X K [a] f) (hg : ∀ i, Gl (X i) "range" := by intro _; rfl) (hs : ∀ i, starEach [a] (X i).env = [(false, eval a (X i).env)] := by intro _; rfl) :
    DI X K tg (.Call (.Name "range" p) [a] [] pos) (aRng1 f) := by
  obtain ⟨t, pa, r⟩ := h.go
  refine ⟨iRng1 t, fun i => pi_range1 (hg i) (by rw [c.mg i]; exact hm) (pa i) (hs i), fun σ W δ M ds M' R w s e q => ?_⟩
  unfold aRng1 at e
  split at e
  · rename_i j M1 h1
    split at e
    · rename_i hb
      cases e
      refine r σ W δ M _ _ _ w s h1 fun v W1 l1 w1 r1 => ?_
      cases r1 with
      | cons r1 r2 =>
        cases r1
        cases r2
        refine ⟨j, rfl, hb.1, hb.2, ?_⟩
        have := q (Itr 0 (j - 0).toNat) W1 l1 w1 wk_rng
        rw [Int.sub_zero] at this
        exact this
    · cases e
  · cases e
theorem DI.rng2 (c : Ctx X P w K mg base k) (hm : mg "range" = none) {tg a b : Expr} {p pos : Pos} {f : AF} (h : DA X K [a, b] f) (hg : ∀ i, Gl (X i) "range" := by intro _; rfl) (hs : ∀ i, starEach [a, b] (X i).env = [(false, eval a (X i).env), (false, eval b (X i).env)] := by intro _; rfl)
    (hs2 : ∀ i, starEach [b] (X i).env = [(false, eval b (X i).env)] := by intro _; rfl) :
    DI X K tg (.Call (.Name "range" p) [a, b] [] pos) (aRng2 f) := by
  obtain ⟨t, pa, r⟩ := h.go
  refine ⟨iRng2 t, fun i => pi_range2 (hg i) (by rw [c.mg i]; exact hm) (pa i) (hs i) (hs2 i), fun σ W δ M ds M' R w s e q => ?_⟩
  unfold aRng2 at e
  split at e
  · rename_i i j M1 h1
    split at e
    · rename_i hb
      cases e
      refine r σ W δ M _ _ _ w s h1 fun v W1 l1 w1 r1 => ?_
      cases r1 with
      | cons r1 r2 =>
        cases r1
        cases r2 with
        | cons r2 r3 =>
          cases r2
          cases r3
          exact ⟨i, j, rfl, hb, q (Itr i (j - i).toNat) W1 l1 w1 wk_rng⟩
    · cases e
  · cases e

/-! ### for -/
def forGo (g : GF) (b : SF) : List D → Env → Mh → Option Out
  | [], δ, M => some (.nx δ M)
  | x :: xs, δ, M => match g x δ with
    | none => none
    | some δ1 => match b δ1 M with
      | some (.nx δ' M') => forGo g b xs δ' M'
      | some (.ct δ' M') => forGo g b xs δ' M'
      | some (.bk δ' M') => some (.nx δ' M')
      | some (.rt d M') => some (.rt d M')
      | none => none
def sFor (a : AF) (g : GF) (b : SF) : SF := fun δ M => match a δ M with
  | some (ds, M1) => forGo g b ds δ M1
  | none => none
theorem DS.for (c : Ctx X P w K mg base k) {tg iter : Expr} {body : List Stmt} {pos} {a : AF} {g : GF} {b : SF} {sl : List Nat} (hp : ∀ i, PassesOwn (model (X i).prog (X i).w) (X i).A (X i).env (X i).xe) (hi : DI X K tg iter a) (hg : DG X K tg g sl) (hb : DB X K body b)
    (hs : ∀ i x, foldedSetIterable iter (X i).env x = pure x := by intro _ _; rfl) : DS X K (.For tg iter body [] pos) (sFor a g b) := by
  obtain ⟨ti, pi, ri⟩ := hi.go
  obtain ⟨tg, pg, rg⟩ := hg.go
  obtain ⟨tb, pb, rb⟩ := hb.go
  refine ⟨tFor ti tg tb, fun i => ps_for (hp i) (c.calm i) (pi i) (pg i) (pb i) (hs i), fun σ W δ M o E w s e q => ?_⟩
  unfold sFor at e
  split at e
  · rename_i ds M1 h1
    refine ri σ W δ M ds M1 _ w s h1 fun J W1 l1 w1 wk => ?_
    refine ⟨fun i m σ' H => ∃ W' δ' M', W'.H = H ∧ W1.Le W' ∧ W'.Ok K M' ∧ Slots K W' σ' δ' ∧ i + m = ds.length ∧ forGo g b (ds.drop i) δ' M' = some o, ⟨ds.length, W1, δ, M1, rfl, .refl W1, w1, s.le l1, by omega, e⟩, ?_⟩
    rintro i m σ' H ⟨W', δ', M', rfl, l', w', s', em, e'⟩
    obtain ⟨k1, k2⟩ := wk i W' M' l'.lo w'
    cases hd : ds[i]? with
    | none =>
      have hl : ds.length ≤ i := List.getElem?_eq_none_iff.mp hd
      rw [List.drop_of_length_le hl] at e'
      cases e'
      exact .inl ⟨k1 hd, q σ' W' (l1.trans l') w' s'⟩
    | some d =>
      obtain ⟨hgo, hy⟩ := k2 d hd
      have hl : i < ds.length := (List.getElem?_eq_some_iff.mp hd).1
      have hdr : ds.drop i = d :: ds.drop (i + 1) := by
        rw [List.drop_eq_getElem_cons hl]
        congr 1
        exact Option.some.inj ((List.getElem?_eq_getElem hl).symm.trans hd)
      rw [hdr] at e'
      unfold forGo at e'
      refine .inr ⟨hgo, fun σ2 H2 => ∃ W2 δ2 M2, W2.H = H2 ∧ W1.Le W2 ∧ W2.Ok K M2 ∧ Slots K W2 σ2 δ2 ∧ forGo g b (ds.drop (i + 1)) δ2 M2 = some o, fun σ2 H2 ⟨W2, δ2, M2, a1, a2, a3, a4, a5⟩ => ⟨m - 1, by omega, W2, δ2, M2, a1, a2, a3, a4, by omega, a5⟩, fun x H' y => ?_⟩
      obtain ⟨W3, rfl, l3, w3, r3⟩ := hy x H' y
      split at e'
      · cases e'
      · rename_i δ1 h2
        refine rg x d σ' W3 δ' δ1 M' _ w3 (s'.le l3) r3 h2 fun σ3 s3 _ => ?_
        split at e'
        · rename_i δ4 M4 h3
          exact rb σ3 W3 δ1 M' _ _ w3 s3 h3 fun σ4 W4 l4 w4 s4 => ⟨W4, δ4, M4, rfl, (l'.trans l3).trans l4, w4, s4, e'⟩
        · rename_i δ4 M4 h3
          exact rb σ3 W3 δ1 M' _ _ w3 s3 h3 fun σ4 W4 l4 w4 s4 => ⟨W4, δ4, M4, rfl, (l'.trans l3).trans l4, w4, s4, e'⟩
        · rename_i δ4 M4 h3
          cases e'
          exact rb σ3 W3 δ1 M' _ _ w3 s3 h3 fun σ4 W4 l4 w4 s4 => q σ4 W4 (((l1.trans l').trans l3).trans l4) w4 s4
        · rename_i d4 M4 h3
          cases e'
          exact rb σ3 W3 δ1 M' _ _ w3 s3 h3 fun v W4 l4 w4 r4 => q v W4 (((l1.trans l').trans l3).trans l4) w4 r4
        · cases e'
  · cases e
/-! ### while -/
def whN (c : TF) (b : SF) : Nat → Env → Mh → Option Out
  | 0, _, _ => none
  | n + 1, δ, M => match c δ M with
    | some (true, M1) => (match b δ M1 with
      | some (.nx δ' M') => whN c b n δ' M'
      | some (.ct δ' M') => whN c b n δ' M'
      | some (.bk δ' M') => some (.nx δ' M')
      | some (.rt d M') => some (.rt d M')
      | none => none)
    | some (false, M1) => some (.nx δ M1)
    | none => none
open Classical in
noncomputable def sWh (c : TF) (b : SF) : SF := fun δ M => if h : ∃ n o, whN c b n δ M = some o then some (Classical.choose (Classical.choose_spec h)) else none
theorem whN_mono (c : TF) (b : SF) : ∀ (n m : Nat) (δ : Env) (M : Mh) (o : Out), n ≤ m → whN c b n δ M = some o → whN c b m δ M = some o
  | 0, _, _, _, _, _, h => by cases h
  | n + 1, 0, _, _, _, hl, _ => absurd hl (by omega)
  | n + 1, m + 1, δ, M, o, hl, h => by
    unfold whN at h ⊢
    split at h
    · split at h
      · exact whN_mono c b n m _ _ o (by omega) h
      · exact whN_mono c b n m _ _ o (by omega) h
      · exact h
      · exact h
      · cases h
    · exact h
    · cases h
theorem sWh_of {c : TF} {b : SF} {n : Nat} {δ : Env} {M : Mh} {o : Out} (h : whN c b n δ M = some o) : sWh c b δ M = some o := by
  have hx : ∃ n o, whN c b n δ M = some o := ⟨n, o, h⟩
  unfold sWh
  rw [dif_pos hx]
  have h2 := Classical.choose_spec (Classical.choose_spec hx)
  have a := whN_mono c b _ (max n (Classical.choose hx)) δ M _ (Nat.le_max_right _ _) h2
  have d := whN_mono c b _ (max n (Classical.choose hx)) δ M _ (Nat.le_max_left _ _) h
  exact a.symm.trans d
theorem of_sWh {c : TF} {b : SF} {δ : Env} {M : Mh} {o : Out} (h : sWh c b δ M = some o) : ∃ n, whN c b n δ M = some o := by
  unfold sWh at h
  split at h
  · rename_i hx
    have h2 := Classical.choose_spec (Classical.choose_spec hx)
    cases h
    exact ⟨_, h2⟩
  · cases h
/-- one turn -/
theorem sWh_eq (c : TF) (b : SF) (δ : Env) (M : Mh) : sWh c b δ M = (match c δ M with
    | some (true, M1) => (match b δ M1 with
      | some (.nx δ' M') => sWh c b δ' M'
      | some (.ct δ' M') => sWh c b δ' M'
      | some (.bk δ' M') => some (.nx δ' M')
      | some (.rt d M') => some (.rt d M')
      | none => none)
    | some (false, M1) => some (.nx δ M1)
    | none => none) := by
  apply Option.ext
  intro o
  constructor
  · intro h
    obtain ⟨n, hn⟩ := of_sWh h
    cases n with
    | zero => cases hn
    | succ n =>
      unfold whN at hn
      split at hn
      · split at hn
        · exact sWh_of hn
        · exact sWh_of hn
        · exact hn
        · exact hn
        · cases hn
      · exact hn
      · cases hn
  · intro h
    split at h
    · rename_i M1 h1
      split at h
      · rename_i δ' M' h2
        obtain ⟨n, hn⟩ := of_sWh h
        refine sWh_of (n := n + 1) ?_
        unfold whN
        rw [h1]
        dsimp only
        rw [h2]
        exact hn
      · rename_i δ' M' h2
        obtain ⟨n, hn⟩ := of_sWh h
        refine sWh_of (n := n + 1) ?_
        unfold whN
        rw [h1]
        dsimp only
        rw [h2]
        exact hn
      · rename_i δ' M' h2
        refine sWh_of (n := 1) ?_
        unfold whN
        rw [h1]
        dsimp only
        rw [h2]
        exact h
      · rename_i d' M' h2
        refine sWh_of (n := 1) ?_
        unfold whN
        rw [h1]
        dsimp only
        rw [h2]
        exact h
      · cases h
    · rename_i M1 h1
      refine sWh_of (n := 1) ?_
      unfold whN
      rw [h1]
      exact h
    · cases h
theorem DS.wh {cnd : Expr} {body : List Stmt} {pos} {t : TF} {b : SF} (hp : ∀ i, PassesOwn (model (X i).prog (X i).w) (X i).A (X i).env (X i).xe) (hc : DT X K cnd t) (hb : DB X K body b) : DS X K (.While cnd body [] pos) (sWh t b) := by
  obtain ⟨tt, pt, rt⟩ := hc.go
  obtain ⟨tb, pb, rb⟩ := hb.go
  refine ⟨tWhile tt tb, fun i => ps_while (hp i) (pt i) (pb i), fun σ W δ M o E w s e q => ?_⟩
  obtain ⟨n, hn⟩ := of_sWh e
  refine ⟨fun m σ' H => ∃ W' δ' M', W'.H = H ∧ W.Le W' ∧ W'.Ok K M' ∧ Slots K W' σ' δ' ∧ whN t b m δ' M' = some o, ⟨n, W, δ, M, rfl, .refl W, w, s, hn⟩, ?_⟩
  rintro m σ' H ⟨W', δ', M', rfl, l', w', s', e'⟩
  cases m with
  | zero => cases e'
  | succ m =>
    unfold whN at e'
    split at e'
    · rename_i M1 h1
      refine rt σ' W' δ' M' _ M1 _ w' s' h1 fun W1 l1 w1 => ifT ?_
      refine ⟨fun σ2 H2 => ∃ W2 δ2 M2, W2.H = H2 ∧ W.Le W2 ∧ W2.Ok K M2 ∧ Slots K W2 σ2 δ2 ∧ whN t b m δ2 M2 = some o, fun σ2 H2 ⟨W2, δ2, M2, a1, a2, a3, a4, a5⟩ => ⟨m, by omega, W2, δ2, M2, a1, a2, a3, a4, a5⟩, ?_⟩
      split at e'
      · rename_i δ4 M4 h3
        exact rb σ' W1 δ' M1 _ _ w1 (s'.le l1) h3 fun σ4 W4 l4 w4 s4 => ⟨W4, δ4, M4, rfl, (l'.trans l1).trans l4, w4, s4, e'⟩
      · rename_i δ4 M4 h3
        exact rb σ' W1 δ' M1 _ _ w1 (s'.le l1) h3 fun σ4 W4 l4 w4 s4 => ⟨W4, δ4, M4, rfl, (l'.trans l1).trans l4, w4, s4, e'⟩
      · rename_i δ4 M4 h3
        cases e'
        exact rb σ' W1 δ' M1 _ _ w1 (s'.le l1) h3 fun σ4 W4 l4 w4 s4 => q σ4 W4 ((l'.trans l1).trans l4) w4 s4
      · rename_i d4 M4 h3
        cases e'
        exact rb σ' W1 δ' M1 _ _ w1 (s'.le l1) h3 fun v W4 l4 w4 r4 => q v W4 ((l'.trans l1).trans l4) w4 r4
      · cases e'
    · rename_i M1 h1
      cases e'
      exact rt σ' W' δ' M' _ _ _ w' s' h1 fun W1 l1 w1 => ifF (q σ' W1 (l'.trans l1) w1 (s'.le l1))
    · cases e'
end
end Pl

namespace Pl
open PySem L2
section
variable {I : Type} {X : I → Cx} {P : Program} {w : World} {K : PySem.W.Frag} {mg : Str → Option Value} {base : Heap} {k : Nat}

/-! ### list comprehensions -/
/-- the block's contexts -/
def blkF (X : I → Cx) (scope : Scope) (j : I × Shared × Hp × Addr × List (Str × Addr) × List Addr) : Cx := (X j.1).blk j.2.1 j.2.2.1 scope (compEnvC scope j.2.2.2.2.1 j.2.2.2.1 (X j.1).env) j.2.2.2.2.2
theorem Ctx.blk (c : Ctx X P w K mg base k) (scope : Scope) : Ctx (blkF X scope) P w K mg base k :=
  ⟨fun j => c.prog j.1, fun j => c.wd j.1, fun j => c.K j.1, fun j => c.mg j.1, fun j => c.base j.1, fun j => c.room j.1, fun j => c.grd j.1, fun j => c.calm j.1⟩
structure DTs (X : I → Cx) (K : PySem.W.Frag) (ifs : List Expr) (f : TF) : Prop where
  go : ∃ t : TT, (∀ i, PTs (X i) ifs t) ∧ TR K t f
def tTrue : TF := fun _ M => some (true, M)
theorem DTs.nil : DTs X K [] tTrue := ⟨tYes, fun i => pts_nil, fun σ W δ M b M' Q w s e q => by
  cases e
  exact q W (.refl W) w⟩
theorem DTs.one {e : Expr} {f : TF} (h : DT X K e f) : DTs X K [e] f := by
  obtain ⟨t, p, r⟩ := h.go
  exact ⟨t, fun i => pts_one (p i), r⟩
def wipeD (δ : Env) : List Nat → Env
  | [] => δ
  | v :: vs => (wipeD δ vs).set v none
theorem Slots.wipe {W : Wd} {σ : St} {δ : Env} (s : Slots K W σ δ) : ∀ vs : List Nat, Slots K W (wipe σ vs) (wipeD δ vs)
  | [] => s
  | v :: vs => by
    have ih := s.wipe vs
    refine ⟨?_, fun i d h => ?_⟩
    · show ((L2.wipe σ vs).set v none).length = ((wipeD δ vs).set v none).length
      rw [List.length_set, List.length_set]
      exact ih.len
    · have h' : ((wipeD δ vs).set v none)[i]? = some (some d) := h
      show ∃ u, ((L2.wipe σ vs).set v none)[i]? = some (some u) ∧ _
      rw [List.getElem?_set] at h' ⊢
      by_cases e : v = i
      · rw [if_pos e] at h'
        split at h' <;> cases h'
      · rw [if_neg e] at h' ⊢
        exact ih.at_ i d h'
def lcGo (g : GF) (t : TF) (f : EF) : List D → Env → Mh → Option (List D × Mh)
  | [], _, M => some ([], M)
  | x :: xs, δ, M => match g x δ with
    | none => none
    | some δ1 => match t δ1 M with
      | some (true, M1) => (match f δ1 M1 with
        | some (y, M2) => (match lcGo g t f xs δ M2 with
          | some (ys, M3) => some (y :: ys, M3)
          | none => none)
        | none => none)
      | some (false, M1) => lcGo g t f xs δ M1
      | none => none
def eLc (vs : List Nat) (a : AF) (g : GF) (t : TF) (f : EF) : EF := fun δ M => match a δ M with
  | some (ds, M1) => (match lcGo g t f ds (wipeD δ vs) M1 with
    | some (ys, M2) => if ys.length ≤ sizeLine then some (.lst ys, M2) else none
    | none => none)
  | none => none
/-- the world while a list is made at p -/
def Wd.mk' (W : Wd) (H : Hp) (P : Hp) : Wd := ⟨H, W.B, W.ι, P⟩
theorem Slots.cong {W W' : Wd} {σ : St} {δ : Env} (s : Slots K W σ δ) (h1 : W'.B = W.B) (h2 : W'.ι = W.ι) : Slots K W' σ δ := ⟨s.len, fun i d h => by
  rw [h1, h2]
  exact s.at_ i d h⟩
theorem Wd.hold_put {W : Wd} {M : Mh} {p : Addr} {o o' : HO} (w : W.Ok K M) (hp : W.P p = some o) : (⟨upd W.H p o', W.B, W.ι, upd W.P p o'⟩ : Wd).Ok K M := by
  have ne : ∀ {n a u}, Live W M n a u → a ≠ p := fun {n a u} h e => by
    obtain ⟨_, q, _⟩ := w.live n a u h
    rw [e, hp] at q
    cases q
  have bp := (w.pin p o hp).2
  refine ⟨fun a u h => ?_, fun a u h => ?_, w.len, fun n a u h => ?_, fun n m a u v h k => w.inj n m a u v h k⟩
  · exact (upd_ne (fun e => by
      rw [e] at h
      have h' : W.B p = some u := h
      rw [bp] at h'
      cases h')).trans (w.sub a u h)
  · by_cases e : a = p
    · subst e
      have h' : upd W.P a o' a = some u := h
      rw [upd_same] at h'
      exact ⟨upd_same.trans h', bp⟩
    · have h' : upd W.P p o' a = some u := h
      rw [upd_ne e] at h'
      have q := w.pin a u h'
      exact ⟨(upd_ne e).trans q.1, q.2⟩
  · obtain ⟨h1, h2, k, h3, h4⟩ := w.live n a u h
    exact ⟨h1, (upd_ne (ne h)).trans h2, k, (upd_ne (ne h)).trans h3, h4⟩
theorem Wd.unhold {W : Wd} {M : Mh} {p : Addr} {o : HO} {P0 : Hp} (w : W.Ok K M) (hP : W.P = upd P0 p o) (h0 : P0 p = none) : (⟨W.H, upd W.B p o, W.ι, P0⟩ : Wd).Ok K M := by
  have hp : W.P p = some o := by rw [hP, upd_same]
  have ne : ∀ {n a u}, Live W M n a u → a ≠ p := fun {n a u} h e => by
    obtain ⟨_, q, _⟩ := w.live n a u h
    rw [e, hp] at q
    cases q
  have bp := (w.pin p o hp)
  refine ⟨fun a u h => ?_, fun a u h => ?_, w.len, fun n a u h => ?_, fun n m a u v h k => w.inj n m a u v h k⟩
  · by_cases e : a = p
    · subst e
      have h' : upd W.B a o a = some u := h
      rw [upd_same] at h'
      cases h'
      exact bp.1
    · have h' : upd W.B p o a = some u := h
      rw [upd_ne e] at h'
      exact w.sub a u h'
  · have h' : P0 a = some u := h
    have e : a ≠ p := fun e => by
      rw [e, h0] at h'
      cases h'
    have q := w.pin a u (by rw [hP, upd_ne e]; exact h')
    exact ⟨q.1, (upd_ne e).trans q.2⟩
  · obtain ⟨h1, h2, k, h3, h4⟩ := w.live n a u h
    have e := ne h
    rw [hP, upd_ne e] at h2
    exact ⟨(upd_ne e).trans h1, h2, k, h3, h4.mono (updk bp.2) fun _ _ q => q⟩
theorem wipe_twice (σ : St) : ∀ vs : List Nat, L2.wipe (L2.wipe σ vs) vs = L2.wipe σ vs := fun vs => by
  have h : ∀ us : List Nat, (∀ j ∈ us, j ∈ vs) → L2.wipe (L2.wipe σ us) vs = L2.wipe σ vs := fun us => by
    induction us with
    | nil => exact fun _ => rfl
    | cons u us ih =>
      intro hu
      show L2.wipe ((L2.wipe σ us).set u none) vs = _
      rw [(wipe_set _ none u vs).1 (hu u List.mem_cons_self)]
      exact ih fun j hj => hu j (List.mem_cons_of_mem _ hj)
  exact h vs fun _ z => z
/-- the reading of a comprehension, from its parts' -/
theorem lc_er {ti : TI} {tg : TG} {tt : TT} {te : TE} {vs : List Nat} {a : AF} {g : GF} {t : TF} {f : EF} {sl : List Nat}
    (ri : ∀ (σ : St) (W : Wd) (δ : Env) (M : Mh) (ds : List D) (M' : Mh) (R : It → Hp → Prop), W.Ok K M → Slots K W σ δ → a δ M = some (ds, M') → (∀ J W', W.Le W' → W'.Ok K M' → Wk K J W' ds → R J W'.H) → ti σ W.H R)
    (rg : GR K tg g sl) (hsl : ∀ j ∈ sl, j ∈ vs) (rt : TR K tt t) (re : ER K te f) : ER K (tLc ti tg tt te vs) (eLc vs a g t f) := fun σ W δ M d M' Q w s e q => by
  unfold eLc at e
  split at e
  · rename_i ds M1 h1
    split at e
    · rename_i fin M2 h2
      split at e
      · rename_i hlen
        cases e
        refine ri σ W δ M ds M1 _ w s h1 fun J W1 l1 w1 wk => fun p hp => ?_
        have P0 : W1.P p = none := w1.pnone hp
        have B0 : W1.B p = none := w1.bnone hp
        refine ⟨fun i m H => ∃ (W' : Wd) (N : Mh) (acc : List V) (ac ys : List D), W'.H = H ∧ W1.Le (W'.mk' W'.H W1.P) ∧ W'.P = upd W1.P p (.lst acc) ∧ W'.Ok K N ∧ RepL K W'.B W'.ι acc ac ∧ i + m = ds.length ∧ lcGo g t f (ds.drop i) (wipeD δ vs) N = some (ys, M') ∧ ac ++ ys = fin,
          ⟨ds.length, W1.hold p (.lst []), M1, [], [], fin, rfl, ⟨fun _ _ h => h, ⟨[], by simp [Wd.mk', Wd.hold]⟩, rfl⟩, rfl, Wd.hold_ok w1 hp, .nil, by omega, h2, rfl⟩, ?_⟩
        rintro i m H ⟨W', N, acc, ac, ys, rfl, l', hP, w', ra, em, e', ef⟩
        obtain ⟨k1, k2⟩ := wk i W' N ⟨l'.same, l'.pre⟩ w'
        cases hd : ds[i]? with
        | none =>
          have hl : ds.length ≤ i := List.getElem?_eq_none_iff.mp hd
          rw [List.drop_of_length_le hl] at e'
          cases e'
          rw [List.append_nil] at ef
          subst ef
          have u := Wd.unhold w' hP P0
          refine .inl ⟨k1 hd, q _ ⟨W'.H, upd W'.B p (.lst acc), W'.ι, W1.P⟩ (l1.trans ⟨fun b o h => ?_, l'.pre, rfl⟩) u (.lst upd_same (ra.mono (updk (w'.pin p (.lst acc) (by rw [hP, upd_same])).2) fun _ _ z => z))⟩
          have hb : b ≠ p := fun z => by
            rw [z, B0] at h
            cases h
          show upd W'.B p (.lst acc) b = some o
          rw [upd_ne hb]
          exact l'.same b o h
        | some x0 =>
          obtain ⟨hgo, hy⟩ := k2 x0 hd
          have hl : i < ds.length := (List.getElem?_eq_some_iff.mp hd).1
          have hdr : ds.drop i = x0 :: ds.drop (i + 1) := by
            rw [List.drop_eq_getElem_cons hl]
            congr 1
            exact Option.some.inj ((List.getElem?_eq_getElem hl).symm.trans hd)
          rw [hdr] at e'
          unfold lcGo at e'
          refine .inr ⟨hgo, fun H2 => ∃ (W2 : Wd) (N2 : Mh) (acc2 : List V) (ac2 ys2 : List D), W2.H = H2 ∧ W1.Le (W2.mk' W2.H W1.P) ∧ W2.P = upd W1.P p (.lst acc2) ∧ W2.Ok K N2 ∧ RepL K W2.B W2.ι acc2 ac2 ∧ lcGo g t f (ds.drop (i + 1)) (wipeD δ vs) N2 = some (ys2, M') ∧ ac2 ++ ys2 = fin,
            fun H2 ⟨W2, N2, acc2, ac2, ys2, a1, a2, a3, a4, a5, a6, a7⟩ => ⟨m - 1, by omega, W2, N2, acc2, ac2, ys2, a1, a2, a3, a4, a5, by omega, a6, a7⟩, fun x H' y => ?_⟩
          obtain ⟨W3, rfl, l3, w3, r3⟩ := hy x H' y
          have sw : Slots K W3 (L2.wipe σ vs) (wipeD δ vs) := ((((s.le l1).wipe vs).le l').cong (W' := W') rfl rfl).le l3
          have up : ∀ {W4 : Wd}, W'.Le W4 → W1.Le (W4.mk' W4.H W1.P) := fun {W4} l => l'.trans ⟨l.same, l.pre, rfl⟩
          split at e'
          · cases e'
          · rename_i δ1 h3
            refine rg x x0 _ W3 _ δ1 N _ w3 sw r3 h3 fun σ3 s3 hw => ⟨(hw vs hsl).trans ?_, ?_⟩
            · exact wipe_twice σ vs
            · split at e'
              · rename_i N1 h4
                refine rt σ3 W3 δ1 N _ N1 _ w3 s3 h4 fun W4 l4 w4 => ifT ?_
                split at e'
                · rename_i y0 N2 h5
                  split at e'
                  · rename_i ys2 N3 h6
                    cases e'
                    refine re σ3 W4 δ1 N1 y0 N2 _ w4 (s3.le l4) h5 fun v W5 l5 w5 r5 => ?_
                    have l35 : W'.Le W5 := (l3.trans l4).trans l5
                    have p5 : W5.P = upd W1.P p (.lst acc) := l35.pp.trans hP
                    have p5' : W5.P p = some (.lst acc) := by rw [p5, upd_same]
                    have ra5 := ra.le l35
                    refine ⟨acc, (w5.pin p _ p5').1, ?_, ⟨upd W5.H p (.lst (acc ++ [v])), W5.B, W5.ι, upd W5.P p (.lst (acc ++ [v]))⟩, N2, acc ++ [v], ac ++ [y0], ys2, rfl, l'.trans ⟨l35.same, l35.pre, rfl⟩, ?_, Wd.hold_put w5 p5', ra5.append (.cons r5 .nil), h6, ?_⟩
                    · have := ra.len
                      have h7 := congrArg List.length ef
                      rw [List.length_append, List.length_cons] at h7
                      omega
                    · show upd W5.P p _ = _
                      rw [p5, upd_upd]
                    · rw [List.append_assoc]
                      exact ef
                  · cases e'
                · cases e'
              · rename_i N1 h4
                refine rt σ3 W3 δ1 N _ N1 _ w3 s3 h4 fun W4 l4 w4 => ifF ?_
                have l34 : W'.Le W4 := l3.trans l4
                exact ⟨W4, N1, acc, ac, ys, rfl, up l34, l34.pp.trans hP, w4, ra.le l34, e', ef⟩
              · cases e'
      · cases e
    · cases e
  · cases e
theorem DE.lc (c : Ctx X P w K mg base k) {elt tg iter : Expr} {ifs : List Expr} {scope : Scope} {own : List (Str × Nat)} {pos} {a : AF} {g : GF} {t : TF} {f : EF} {sl : List Nat} (hN : ∀ i, (X i).N.Nodup) (hi : DI X K tg iter a) (ok : ∀ i, BlkOk (X i).N (X i).env.scope scope own)
    (hg : DG (blkF X scope) K tg g sl) (hsl : ∀ j ∈ sl, j ∈ own.map (·.2)) (ht : DTs (blkF X scope) K ifs t) (he : DE (blkF X scope) K elt f) (hs : ∀ i x, foldedSetIterable iter (X i).env x = pure x := by intro _ _; rfl) :
    DE X K (.ListComp elt [⟨tg, iter, ifs, 0⟩] scope pos) (eLc (own.map (·.2)) a g t f) := by
  obtain ⟨ti, pi, ri⟩ := hi.go
  obtain ⟨tg', pg, rg⟩ := hg.go
  obtain ⟨tt, pt, rt⟩ := ht.go
  obtain ⟨te, pe, re⟩ := he.go
  refine ⟨tLc ti tg' tt te (own.map (·.2)), fun i => pe_lc (c.calm i) (hN i) (pi i) (ok i) (fun s H C cl fp => pg (i, s, H, C, cl, fp)) (fun s H C cl fp => pt (i, s, H, C, cl, fp)) (fun s H C cl fp => pe (i, s, H, C, cl, fp)) (hs i), fun σ W δ M d M' Q w s e q => ?_⟩
  exact lc_er ri rg hsl rt re σ W δ M d M' Q w s e q
theorem DS.setLc (j : Nat) (c : Ctx X P w K mg base k) {y : Str} {py : Pos} {elt tg iter : Expr} {ifs : List Expr} {scope : Scope} {own : List (Str × Nat)} {pos spos} {a : AF} {g : GF} {t : TF} {f : EF} {sl : List Nat} (hN : ∀ i, (X i).N.Nodup) (hi : DI X K tg iter a) (ok : ∀ i, BlkOk (X i).N (X i).env.scope scope own)
    (hg : DG (blkF X scope) K tg g sl) (hsl : ∀ j ∈ sl, j ∈ own.map (·.2)) (ht : DTs (blkF X scope) K ifs t) (he : DE (blkF X scope) K elt f) (hs : ∀ i x, foldedSetIterable iter (X i).env x = pure x := by intro _ _; rfl)
    (hy : ∀ i, (X i).N[j]? = some y := by intro _; rfl) (hyl : ∀ i, (X i).env.scope.names.lookup y = some .local := by intro _; rfl) (hsw : ∀ i, swapsWith (.ListComp elt [⟨tg, iter, ifs, 0⟩] scope pos) (some (.Name y py)) spos.line (X i).env = pure true := by intro _; exact sw_true rfl rfl rfl (by decide +kernel)) :
    DS X K (.Assign [.Name y py] (.ListComp elt [⟨tg, iter, ifs, 0⟩] scope pos) spos) (sAs (eLc (own.map (·.2)) a g t f) (gN j)) := by
  obtain ⟨ti, pi, ri⟩ := hi.go
  obtain ⟨tg', pg, rg⟩ := hg.go
  obtain ⟨tt, pt, rt⟩ := ht.go
  obtain ⟨te, pe, re⟩ := he.go
  refine ⟨tAsg (tLc ti tg' tt te (own.map (·.2))) (gName j), fun i => ps_setLc (c.calm i) (hN i) (hy i) (hyl i) (hsw i) (pi i) (ok i) (fun s H C cl fp => pg (i, s, H, C, cl, fp)) (fun s H C cl fp => pt (i, s, H, C, cl, fp)) (fun s H C cl fp => pe (i, s, H, C, cl, fp)) (hs i), sr_as (sl := [j]) (lc_er ri rg hsl rt re) fun v d σ W δ δ' M Q w s r e q => ?_⟩
  cases e
  exact q _ (s.set r j) fun vs h => (wipe_set σ _ j vs).1 (h j List.mem_cons_self)
end
end Pl

namespace Pl
open PySem L2
section
variable {I : Type} {X : I → Cx} {P : Program} {w : World} {K : PySem.W.Frag} {mg : Str → Option Value} {base : Heap} {k : Nat}

/-! ### numbers -/
def gInt (h : Int → Int → D) : O2 := fun a b M => match a, b with
  | .int i, .int j => some (h i j, M)
  | _, _ => none
theorem od_int0 {g : Int → Int → V} {h : Int → Int → D} (r : ∀ B ι i j, Rep K B ι (g i j) (h i j)) : OD K (rI0 g) (gInt h) := fun W M x y a b z M' Q w ra rb e q => by
  unfold gInt at e
  split at e
  · cases ra
    cases rb
    cases e
    exact ⟨_, _, rfl, rfl, q _ W (.refl W) w (r _ _ _ _)⟩
  · cases e
theorem opAdd : OpF X K (binaryOp .Add) (gInt fun i j => .int (i + j)) := ⟨_, fun _ => op_add, od_int0 fun _ _ _ _ => .int _⟩
theorem opSub : OpF X K (binaryOp .Sub) (gInt fun i j => .int (i - j)) := ⟨_, fun _ => op_sub, od_int0 fun _ _ _ _ => .int _⟩
theorem opLt : OpF X K (compareOp .Lt) (gInt fun i j => .bl (decide (i < j))) := ⟨_, fun _ => op_lt, od_int0 fun _ _ _ _ => .bl _⟩
theorem opLe : OpF X K (compareOp .LtE) (gInt fun i j => .bl (decide (i ≤ j))) := ⟨_, fun _ => op_le, od_int0 fun _ _ _ _ => .bl _⟩
theorem opGt : OpF X K (compareOp .Gt) (gInt fun i j => .bl (decide (j < i))) := ⟨_, fun _ => op_gt, od_int0 fun _ _ _ _ => .bl _⟩
theorem opGe : OpF X K (compareOp .GtE) (gInt fun i j => .bl (decide (j ≤ i))) := ⟨_, fun _ => op_ge, od_int0 fun _ _ _ _ => .bl _⟩
def gIntC (C : Int → Int → Prop) [∀ i j, Decidable (C i j)] (h : Int → Int → D) : O2 := fun a b M => match a, b with
  | .int i, .int j => if C i j then some (h i j, M) else none
  | _, _ => none
theorem od_intC {C : Int → Int → Prop} [∀ i j, Decidable (C i j)] {C' : Int → Int → Prop} {g : Int → Int → V} {h : Int → Int → D} (hc : ∀ i j, C i j → C' i j) (r : ∀ B ι i j, Rep K B ι (g i j) (h i j)) : OD K (rI C' g) (gIntC C h) := fun W M x y a b z M' Q w ra rb e q => by
  unfold gIntC at e
  split at e
  · split at e
    · rename_i c
      cases ra
      cases rb
      cases e
      exact ⟨_, _, rfl, rfl, hc _ _ c, q _ W (.refl W) w (r _ _ _ _)⟩
    · cases e
  · cases e
abbrev MulOk (i j : Int) : Prop := (Builtin.Int.intBits i : Int) + (Builtin.Int.intBits j : Int) ≤ 134217728
theorem mulOk {i j : Int} {a b : Nat} (ha : i.natAbs < 2 ^ a) (hb : j.natAbs < 2 ^ b) (h : a + b ≤ 134217728) : MulOk i j := mulx_ok ha hb h
theorem opMul : OpF X K (binaryOp .Mult) (gIntC MulOk fun i j => .int (i * j)) := ⟨_, fun _ => op_mulX, od_intC (fun _ _ h => h) fun _ _ _ _ => .int _⟩
abbrev DivOk (_ j : Int) : Prop := j ≠ 0 ∧ j.natAbs.log2 < 9000
theorem divOk {i j : Int} {b : Nat} (h : j ≠ 0) (hb : j.natAbs < 2 ^ b) (h0 : 0 < b) (h9 : b ≤ 9000) : DivOk i j := ⟨h, Nat.lt_of_lt_of_le (PySem.Flt.log2_lt_of h0 hb) h9⟩
theorem op_fdivG {Y : Cx} : OpR Y (binaryOp .FloorDiv) (rI DivOk fun i j => .int (i.fdiv j)) := opI fun i j _ _ _ _ _ hc q =>
  PyProof.Rows.floordiv_int hc.1 q (.inl (PyProof.noPylong_of_log2 hc.2))
theorem opDiv : OpF X K (binaryOp .FloorDiv) (gIntC DivOk fun i j => .int (i.fdiv j)) := ⟨_, fun _ => op_fdivG, od_intC (fun _ _ h => h) fun _ _ _ _ => .int _⟩
theorem opMod : OpF X K (binaryOp .Mod) (gIntC (fun _ j => j ≠ 0) fun i j => .int (i.fmod j)) := ⟨_, fun _ => op_modN, od_intC (fun _ _ h => h) fun _ _ _ _ => .int _⟩
abbrev PowOk (i j : Int) : Prop := 0 ≤ j ∧ j ≤ 1000000 ∧ i.natAbs < 2 ^ 64
theorem opPow : OpF X K (binaryOp .Pow) (gIntC PowOk fun i j => .int (i ^ j.toNat)) := ⟨_, fun _ => op_pow, od_intC (fun _ _ h => h) fun _ _ _ _ => .int _⟩
def eUn (g : O1) (f : EF) : EF := fun δ M => match f δ M with
  | some (d, M1) => g d M1
  | none => none
def gNeg : O1 := fun a M => match a with
  | .int i => some (.int (-i), M)
  | _ => none
theorem DE.neg {a : Expr} {pos} {f : EF} (h : DE X K a f) : DE X K (.UnaryOp .USub a pos) (eUn gNeg f) := by
  obtain ⟨t, p, r⟩ := h.go
  refine ⟨_, fun i => pe_un un_neg (p i), fun σ W δ M d M' Q w s e q => ?_⟩
  unfold eUn at e
  split at e
  · rename_i d1 M1 h1
    unfold gNeg at e
    split at e
    · cases e
      refine r σ W δ M _ _ _ w s h1 fun v W1 l1 w1 r1 => ?_
      cases r1
      exact ⟨_, rfl, q _ W1 l1 w1 (.int _)⟩
    · cases e
  · cases e

/-! ### data -/
mutual
def toP : D → Option PyData
  | .non => some .none
  | .bl b => some (.bool b)
  | .int i => some (.int i)
  | .str x => some (.str x)
  | .tup xs => (match toPs xs with
    | some ps => some (.tuple ps)
    | none => none)
  | .lst xs => (match toPs xs with
    | some ps => some (.list ps)
    | none => none)
  | .lsk xs => (match toPs xs with
    | some ps => some (.list ps)
    | none => none)
  | .ty _ => none
  | .ob _ => none
  | .ref _ => none
def toPs : List D → Option (List PyData)
  | [] => some []
  | x :: xs => (match toP x with
    | some p => (match toPs xs with
      | some ps => some (p :: ps)
      | none => none)
    | none => none)
end
mutual
theorem Rep.dp {B H : Hp} {ι : List Addr} (s : ∀ b o, B b = some o → H b = some o) : ∀ {v : V} {d : D} {p : PyData}, Rep K B ι v d → toP d = some p → Dp K H v p
  | _, _, _, .non, e => by cases e; exact .non
  | _, _, _, .bl b, e => by cases e; exact .bl b
  | _, _, _, .int b, e => by cases e; exact .int b
  | _, _, _, .str b, e => by cases e; exact .str b
  | _, _, _, .ty b, e => by cases e
  | _, _, _, .ob b, e => by cases e
  | _, _, _, .ref b, e => by cases e
  | _, _, _, .tup h r, e => by
    unfold toP at e
    split at e
    · rename_i ps h2
      cases e
      exact .tup (sqT_mono s h) (RepL.dp s r h2)
    · cases e
  | _, _, _, .lst h r, e => by
    unfold toP at e
    split at e
    · rename_i ps h2
      cases e
      exact .lst (.inl (.inl (s _ _ h))) (RepL.dp s r h2)
    · cases e
  | _, _, _, .lsk h r, e => by
    unfold toP at e
    split at e
    · rename_i ps h2
      cases e
      exact .lst (sqL_mono s h) (RepL.dp s r h2)
    · cases e
theorem RepL.dp {B H : Hp} {ι : List Addr} (s : ∀ b o, B b = some o → H b = some o) : ∀ {v : List V} {d : List D} {p : List PyData}, RepL K B ι v d → toPs d = some p → DpAll K H v p
  | _, _, _, .nil, e => by cases e; exact .nil
  | _, _, _, .cons h r, e => by
    unfold toPs at e
    split at e
    · rename_i p h2
      split at e
      · rename_i ps h3
        cases e
        exact .cons (Rep.dp s h h2) (RepL.dp s r h3)
      · cases e
    · cases e
end
def deref (M : Mh) : D → D
  | .ref n => (match M[n]? with
    | some (.lst xs) => .lst xs
    | _ => .ref n)
  | d => d
theorem dp_of {W : Wd} {M : Mh} {v : V} {d : D} {p : PyData} (w : W.Ok K M) (r : Rep K W.B W.ι v d) (h : toP (deref M d) = some p) : Dp K W.H v p := by
  cases r with
  | ref hi =>
    rename_i a n
    unfold deref at h
    dsimp only at h
    split at h
    · rename_i xs hm
      obtain ⟨_, _, o, ho, ro⟩ := w.live _ _ _ ⟨hi, hm, fun z => by cases z⟩
      cases ro with
      | lst r1 =>
        unfold toP at h
        split at h
        · rename_i ps h2
          cases h
          exact .lst (.inl (.inl ho)) (r1.dp w.sub h2)
        · cases h
    · cases h
  | non => exact Rep.dp (d := .non) (B := W.B) (ι := W.ι) w.sub .non h
  | bl b => exact Rep.dp (B := W.B) (ι := W.ι) w.sub (.bl b) h
  | int b => exact Rep.dp (B := W.B) (ι := W.ι) w.sub (.int b) h
  | str b => exact Rep.dp (B := W.B) (ι := W.ι) w.sub (.str b) h
  | ty b => cases h
  | ob b => cases h
  | tup h1 r1 => exact Rep.dp w.sub (.tup h1 r1) h
  | lst h1 r1 => exact Rep.dp w.sub (.lst h1 r1) h
  | lsk h1 r1 => exact Rep.dp w.sub (.lsk h1 r1) h
def gEq (h : PyData → PyData → Bool) : O2 := fun a b M => match toP (deref M a), toP (deref M b) with
  | some p, some q => if SeqAt.shaped p && SeqAt.shaped q then some (.bl (h p q), M) else none
  | _, _ => none
theorem opEq (c : Ctx X P w K mg base k) : OpF X K (compareOp .Eq) (gEq PyData.eqv) := ⟨rEqD K, fun i => by
  have := op_eqD (X := X i) (c.room i).units
  rw [c.K i] at this
  exact this, fun W M x y a b z M' Q w ra rb e q => by
  unfold gEq at e
  split at e
  · rename_i p p' h1 h2
    split at e
    · rename_i hs
      cases e
      rw [Bool.and_eq_true] at hs
      exact ⟨p, p', dp_of w ra h1, dp_of w rb h2, hs.1, hs.2, q _ W (.refl W) w (.bl _)⟩
    · cases e
  · cases e⟩
theorem opNe (c : Ctx X P w K mg base k) : OpF X K (compareOp .NotEq) (gEq fun p q => !PyData.eqv p q) := ⟨rNeD K, fun i => by
  have := op_neD (X := X i) (c.room i).units
  rw [c.K i] at this
  exact this, fun W M x y a b z M' Q w ra rb e q => by
  unfold gEq at e
  split at e
  · rename_i p p' h1 h2
    split at e
    · rename_i hs
      cases e
      rw [Bool.and_eq_true] at hs
      exact ⟨p, p', dp_of w ra h1, dp_of w rb h2, hs.1, hs.2, q _ W (.refl W) w (.bl _)⟩
    · cases e
  · cases e⟩
/-- is None, is not None -/
def isN : D → Bool
  | .non => true
  | _ => false
def gIsN (h : Bool → Bool) : O2 := fun a b M => match b with
  | .non => some (.bl (h (isN a)), M)
  | _ => none
theorem rep_isN {B : Hp} {ι : List Addr} {x : V} {a : D} (r : Rep K B ι x a) : decide (x = .non) = isN a := by
  cases r <;> rfl
theorem opIsN : OpF X K (compareOp .Is) (gIsN fun b => b) := ⟨_, fun _ => op_isN, fun W M x y a b z M' Q w ra rb e q => by
  unfold gIsN at e
  split at e
  · cases rb
    cases e
    refine ⟨rfl, ?_⟩
    rw [rep_isN ra]
    exact q _ W (.refl W) w (.bl _)
  · cases e⟩
theorem opNotN : OpF X K (compareOp .IsNot) (gIsN fun b => !b) := ⟨_, fun _ => op_notN, fun W M x y a b z M' Q w ra rb e q => by
  unfold gIsN at e
  split at e
  · cases rb
    cases e
    refine ⟨rfl, ?_⟩
    rw [rep_isN ra]
    exact q _ W (.refl W) w (.bl _)
  · cases e⟩
/-- is True, is not True, of truths -/
def gIsB (h : Bool → Bool) : O2 := fun a b M => match a, b with
  | .bl x, .bl y => some (.bl (h (decide (x = y))), M)
  | _, _ => none
theorem opIsB : OpF X K (compareOp .Is) (gIsB fun b => b) := ⟨_, fun _ => op_is_bl, fun W M x y a b z M' Q w ra rb e q => by
  unfold gIsB at e
  split at e
  · cases ra
    cases rb
    cases e
    exact ⟨_, _, rfl, rfl, q _ W (.refl W) w (.bl _)⟩
  · cases e⟩
theorem opNotB : OpF X K (compareOp .IsNot) (gIsB fun b => !b) := ⟨_, fun _ => op_isnot_bl, fun W M x y a b z M' Q w ra rb e q => by
  unfold gIsB at e
  split at e
  · cases ra
    cases rb
    cases e
    exact ⟨_, _, rfl, rfl, q _ W (.refl W) w (.bl _)⟩
  · cases e⟩

/-! ### places of rows -/
theorem RepL.atI {B : Hp} {ι : List Addr} {vs : List V} {ds : List D} {i : Int} {d : D} (r : RepL K B ι vs ds) (h : L2.atI ds i = some d) : ∃ v, L2.atI vs i = some v ∧ Rep K B ι v d := by
  unfold L2.atI at h ⊢
  rw [r.len]
  cases e : ixN ds.length i with
  | none =>
    rw [e] at h
    cases h
  | some j =>
    rw [e] at h
    exact r.get (i := j) h
def gIx : O2 := fun a b M => match b with
  | .int i => (match a with
    | .tup xs => (L2.atI xs i).map fun d => (d, M)
    | .lst xs => (L2.atI xs i).map fun d => (d, M)
    | .lsk xs => (L2.atI xs i).map fun d => (d, M)
    | .ref n => (match M[n]? with
      | some (.lst xs) => (L2.atI xs i).map fun d => (d, M)
      | _ => none)
    | .str z => if z.length ≤ sizeLine then (L2.atI z.cps.toList i).map fun c => (.str ⟨#[c]⟩, M) else none
    | _ => none)
  | _ => none
theorem od_ix : OD K (rIx K) gIx := fun W M x y a b z M' Q w ra rb e q => by
  unfold gIx at e
  split at e
  · rename_i i
    cases rb
    split at e
    · rename_i xs
      cases h : L2.atI xs i with
      | none =>
        rw [h] at e
        cases e
      | some d =>
        rw [h] at e
        cases e
        cases ra with
        | tup h1 r1 =>
          obtain ⟨v, hv, rv⟩ := r1.atI h
          exact .inr (.inl ⟨_, _, _, v, rfl, rfl, sqT_mono w.sub h1, hv, q v W (.refl W) w rv⟩)
    · rename_i xs
      cases h : L2.atI xs i with
      | none =>
        rw [h] at e
        cases e
      | some d =>
        rw [h] at e
        cases e
        cases ra with
        | lst h1 r1 =>
          obtain ⟨v, hv, rv⟩ := r1.atI h
          exact .inl ⟨_, _, _, v, rfl, rfl, .inl (.inl (w.sub _ _ h1)), hv, q v W (.refl W) w rv⟩
    · rename_i xs
      cases h : L2.atI xs i with
      | none =>
        rw [h] at e
        cases e
      | some d =>
        rw [h] at e
        cases e
        cases ra with
        | lsk h1 r1 =>
          obtain ⟨v, hv, rv⟩ := r1.atI h
          exact .inl ⟨_, _, _, v, rfl, rfl, sqL_mono w.sub h1, hv, q v W (.refl W) w rv⟩
    · rename_i n
      split at e
      · rename_i xs hm
        cases h : L2.atI xs i with
        | none =>
          rw [h] at e
          cases e
        | some d =>
          rw [h] at e
          cases e
          cases ra with
          | ref h1 =>
            obtain ⟨_, _, o, ho, ro⟩ := w.live n _ _ ⟨h1, hm, fun z => by cases z⟩
            cases ro with
            | lst r1 =>
              obtain ⟨v, hv, rv⟩ := r1.atI h
              exact .inl ⟨_, _, _, v, rfl, rfl, .inl (.inl ho), hv, q v W (.refl W) w rv⟩
      · cases e
    · rename_i z0
      split at e
      · rename_i hz
        cases h : L2.atI z0.cps.toList i with
        | none =>
          rw [h] at e
          cases e
        | some c =>
          rw [h] at e
          cases e
          cases ra
          exact .inr (.inr ⟨_, _, _, rfl, rfl, hz, h, q _ W (.refl W) w (.str _)⟩)
      · cases e
    · cases e
  · cases e
theorem DE.ix (c : Ctx X P w K mg base k) {a b : Expr} {pos} {f g : EF} (ha : DE X K a f) (hb : DE X K b g) (hs : PlainIx b := by exact fun _ _ => rfl) : DE X K (.Subscript a b pos) (eOp gIx f g) := by
  obtain ⟨ta, pa, ra⟩ := ha.go
  obtain ⟨tb, pb, rb⟩ := hb.go
  refine ⟨tOp (rIx K) ta tb, fun i => ?_, er_op od_ix ra rb⟩
  have h := pe_ix (ix_seq (X := X i)) (pa i) (pb i) hs (pos := pos)
  rw [c.K i] at h
  exact h
end
end Pl

namespace Pl
open PySem L2
open PyProof.Rows (envOfC)

/-! ### what a def does to values -/
def spD (K : PySem.W.Frag) (n : Nat) (F : Fn) (vs : List V) (H : Hp) (Q : VK) : Prop :=
  ∃ W M ds d M', W.H = H ∧ W.Ok K M ∧ RepL K W.B W.ι vs ds ∧ ds.length = n ∧ F ds M = some (d, M') ∧ VR K W d M' Q
structure DFn (P : Program) (w : World) (K : PySem.W.Frag) (mg : Str → Option Value) (base : Heap) (k : Nat) (f : Addr) (fd : FuncData) (ps : List Str) (F : Fn) : Prop where
  run : ∀ (A : Around) (outer : List PySem.Env) (s : Shared) (H : Hp) (args : Args) (us : List Value) (vs : List V) (Q : VK), Room k A → A.guards = some [] → Env0 P w K mg base A outer s H → BindsTo s fd args (ps.zip us) → Vals vs us →
    spD K ps.length F vs H Q → codeAny (model P w) A (.call (.ref f) args) (CR CX0 outer P w H s Q E0) s
theorem DFn.mono {P : Program} {w : World} {K : PySem.W.Frag} {mg : Str → Option Value} {base : Heap} {j k : Nat} {f : Addr} {fd : FuncData} {ps : List Str} {F : Fn} (h : DFn P w K mg base j f fd ps F) (l : j ≤ k) : DFn P w K mg base k f fd ps F :=
  ⟨fun A outer s H args us vs Q r g => h.run A outer s H args us vs Q (r.mono l) g⟩
/-- the same values, told otherwise -/
theorem DFn.imp {P : Program} {w : World} {K : PySem.W.Frag} {mg : Str → Option Value} {base : Heap} {k : Nat} {f : Addr} {fd : FuncData} {ps : List Str} {F G : Fn} (h : DFn P w K mg base k f fd ps F) (l : ∀ ds M d M', G ds M = some (d, M') → F ds M = some (d, M')) : DFn P w K mg base k f fd ps G :=
  ⟨fun A outer s H args us vs Q r g e b v ⟨W, M, ds, d, M', a1, a2, a3, a4, a5, a6⟩ => h.run A outer s H args us vs Q r g e b v ⟨W, M, ds, d, M', a1, a2, a3, a4, l _ _ _ _ a5, a6⟩⟩
/-- from a promise of the hand layer -/
theorem DFn.hand {P : Program} {w : World} {K : PySem.W.Frag} {mg : Str → Option Value} {base : Heap} {k : Nat} {f : Addr} {fd : FuncData} {ps : List Str} {F : Fn} {sp : Sp} (h : FnOk P w K mg base CX0 k f fd ps sp) (l : ∀ vs H Q, spD K ps.length F vs H Q → sp vs H Q E0) : DFn P w K mg base k f fd ps F :=
  ⟨fun A outer s H args us vs Q r _ e b v q => h.run A outer s H args us vs Q E0 r e b v (l _ _ _ q)⟩

section
variable {I : Type} {X : I → Cx} {P : Program} {w : World} {K : PySem.W.Frag} {mg : Str → Option Value} {base : Heap} {k : Nat}
/-- the callee runs -/
theorem run_dfn {Y : Cx} {pins : List (Addr × Obj)} {σ : L2.St} {H : Hp} {s : Shared} {Q : VK} {f : Addr} {fd : FuncData} {ps ks : List Str} {F : Fn} {us ws us' : List Value} {vs : List V} (h : DFn Y.prog Y.w Y.K Y.mg Y.base k f fd ps F) (room : Room k Y.A) (grd : Y.A.guards = some [])
    (J : Inv Y pins σ H s) (hb : BindsTo s fd ⟨us, ks.zip ws⟩ (ps.zip us')) (r : Vals vs us') (q : spD Y.K ps.length F vs H Q) : wpAny (model Y.prog Y.w) Y.A (call (.ref f) us (ks.zip ws)) (EP Y pins σ Q) Y.xe s := by
  refine wpAny_call (codeAny_mono (h.run Y.A Y.stack s H _ us' vs Q room grd J.env0 hb r q) fun o s' ho => ?_)
  match o, ho with
  | .ok (.ret u), ho => exact J.after ho
  | .ok .next, ho => exact False.elim ho
  | .ok .brk, ho => exact False.elim ho
  | .ok .cont, ho => exact False.elim ho
  | .error _, ho => exact False.elim ho
def eCall (F : Fn) (g : AF) (dds : List D) : EF := fun δ M => match g δ M with
  | some (ds, M1) => F (ds ++ dds) M1
  | none => none
/-- f(e, ..): dvs the defaults that fill up -/
theorem DE.call (c : Ctx X P w K mg base k) {x : Str} {p pos : Pos} {e : Expr} {es : List Expr} {g : AF} {f : Addr} {fd : FuncData} {ps : List Str} {F : Fn} {kf : Nat} {dvs : List V} {dds : List D} {dsv : List Value} (h : DFn P w K mg base kf f fd ps F) (hk : kf ≤ k)
    (hm : mg x = some (.ref f)) (kp : PySem.W.keepIn K (.ref f) = true) (hb : Binds K fd ps dsv) (hd : Vals dvs dsv) (hr : ∀ B ι, RepL K B ι dvs dds) (hn : (e :: es).length + dds.length = ps.length) (ha : DA X K (e :: es) g) (hlen : ∀ δ M ds M', g δ M = some (ds, M') → ds.length = (e :: es).length) (hg : ∀ i, Gl (X i) x := by intro _; rfl)
    (hdbg : (x == ("__debug__" : Str)) = false := by decide) (he : ∀ i, starEach (e :: es) (X i).env = (false, eval e (X i).env) :: starEach es (X i).env := by intro _; rfl) (hpl : ∀ i, (backTo pos (starEach es (X i).env)).any (·.1) = false := by intro _; rfl) :
    DE X K (.Call (.Name x p) (e :: es) [] pos) (eCall F g dds) := by
  obtain ⟨t, pa, ra⟩ := ha.go
  refine ⟨fun σ H Q => t σ H fun vs H1 => spD K ps.length F (vs ++ dvs) H1 Q, fun i => ⟨fun pins s σ H Q J q => ?_⟩, fun σ W δ M d M' Q w s ev q => ?_⟩
  · have cK := c.K i
    refine wpAny_Call_Name_kw (ld_glob J (hg i) (by rw [c.mg i]; exact hm) ?_ hdbg)
    refine PySem.W.callWith_K (h₀ := (X i).base) J.ok.mod.kin (by rw [cK]; exact kp) (thn ((pa i).run pos pins s σ H _ J q) fun us s1 ⟨vs, H1, J1, r, q1⟩ => ⟨J1.kIn, ?_⟩) (he i) (hpl i)
    obtain ⟨W, M, ds, d, M', a1, a2, a3, a4, a5, a6⟩ := id q1
    have h' : DFn (X i).prog (X i).w (X i).K (X i).mg (X i).base k f fd ps F := by
      rw [c.prog i, c.wd i, c.K i, c.mg i, c.base i]
      exact h.mono hk
    have r2 := r.append hd
    refine run_dfn (ks := []) (ws := []) (us := us) h' (c.room i) (c.grd i) J1 (hb s1 us (by rw [← cK]; exact J1.kIn) ?_) r2 (by rw [cK]; exact q1)
    rw [← r2.length, a3.len, a4]
  · unfold eCall at ev
    split at ev
    · rename_i ds M1 h1
      refine ra σ W δ M ds M1 _ w s h1 fun vs W1 l1 w1 r1 => ⟨W1, M1, ds ++ dds, d, M', rfl, w1, r1.append (hr _ _), ?_, ev, q.le l1⟩
      rw [List.length_append, hlen _ _ _ _ h1]
      exact hn
    · cases ev
theorem aLen_cons {f : EF} {g : AF} {n : Nat} (h : ∀ δ M ds M', g δ M = some (ds, M') → ds.length = n) : ∀ δ M ds M', aCons f g δ M = some (ds, M') → ds.length = n + 1 := fun δ M ds M' e => by
  unfold aCons at e
  split at e
  · split at e
    · rename_i h2
      cases e
      exact congrArg (· + 1) (h _ _ _ _ h2)
    · cases e
  · cases e
theorem aLen_nil : ∀ δ M ds M', aNil δ M = some (ds, M') → ds.length = 0 := fun δ M ds M' e => by
  cases e
  rfl
/-- keywords -/
structure DK (X : I → Cx) (K : PySem.W.Frag) (kws : List Keyword) (f : AF) (n : Nat) : Prop where
  go : ∃ t : TA, (∀ i, PK (X i) kws t) ∧ AR K t f
  len : ∀ δ M ds M', f δ M = some (ds, M') → ds.length = n
theorem DK.nil : DK X K [] aNil 0 := ⟨⟨tNil, fun i => pk_nil, fun σ W δ M d M' Q w s e q => by
  cases e
  exact q [] W (.refl W) w .nil⟩, aLen_nil⟩
theorem DK.cons {nm} {e : Expr} {kpos} {kws : List Keyword} {f : EF} {g : AF} {n : Nat} (a : DE X K e f) (b : DK X K kws g n) : DK X K (⟨nm, e, kpos⟩ :: kws) (aCons f g) (n + 1) := by
  obtain ⟨ta, pa, ra⟩ := a.go
  obtain ⟨tb, pb, rb⟩ := b.go
  refine ⟨⟨tCons ta tb, fun i => pk_cons (pa i) (pb i), fun σ W δ M d M' Q w s e q => ?_⟩, aLen_cons b.len⟩
  unfold aCons at e
  split at e
  · rename_i d1 M1 h1
    split at e
    · rename_i ds M2 h2
      cases e
      refine ra σ W δ M d1 M1 _ w s h1 fun v W1 l1 w1 r1 => ?_
      refine rb σ W1 δ M1 ds _ _ w1 (s.le l1) h2 fun vs W2 l2 w2 r2 => ?_
      exact q _ W2 (l1.trans l2) w2 (.cons (r1.le l2) r2)
    · cases e
  · cases e
def eCallK (F : Fn) (g gk : AF) (h : List D → List D → List D) : EF := fun δ M => match g δ M with
  | some (ds, M1) => (match gk δ M1 with
    | some (zs, M2) => F (h ds zs) M2
    | none => none)
  | none => none
/-- f(e, .., k = v, ..) -/
theorem DE.callK (c : Ctx X P w K mg base k) {x : Str} {p pos : Pos} {e : Expr} {es : List Expr} {kws : List Keyword} {g gk : AF} {f : Addr} {fd : FuncData} {ps ks : List Str} {F : Fn} {kf n : Nat} {gu : List Value → List Value → List Value} {gV : List V → List V → List V} {gD : List D → List D → List D} (h : DFn P w K mg base kf f fd ps F) (hk : kf ≤ k)
    (hm : mg x = some (.ref f)) (kp : PySem.W.keepIn K (.ref f) = true) (hb : KBn K fd ps n ks gu gV) (hr : ∀ B ι vs ds zs es, RepL K B ι vs ds → RepL K B ι zs es → RepL K B ι (gV vs zs) (gD ds es)) (hn : ∀ ds zs : List D, ds.length = n → zs.length = ks.length → (gD ds zs).length = ps.length)
    (ha : DA X K (e :: es) g) (hlen : ∀ δ M ds M', g δ M = some (ds, M') → ds.length = n) (hkw : DK X K kws gk ks.length) (hall : ∀ i, (backToKw pos (keywordEach kws (X i).env)).all (·.1.isSome) = true := by intro _; rfl) (hks : ∀ i, (backToKw pos (keywordEach kws (X i).env)).filterMap (·.1) = ks := by intro _; rfl)
    (hg : ∀ i, Gl (X i) x := by intro _; rfl) (hdbg : (x == ("__debug__" : Str)) = false := by decide) (he : ∀ i, starEach (e :: es) (X i).env = (false, eval e (X i).env) :: starEach es (X i).env := by intro _; rfl)
    (hpl : ∀ i, ((backTo pos (starEach (e :: es) (X i).env)).any (·.1) || (backToKw pos (keywordEach kws (X i).env)).any (·.1.isNone)) = false := by intro _; rfl) :
    DE X K (.Call (.Name x p) (e :: es) kws pos) (eCallK F g gk gD) := by
  obtain ⟨t, pa, ra⟩ := ha.go
  obtain ⟨tk, pk, rk⟩ := hkw.go
  refine ⟨fun σ H Q => t σ H fun vs H1 => tk σ H1 fun zs H2 => vs.length = n ∧ zs.length = ks.length ∧ spD K ps.length F (gV vs zs) H2 Q, fun i => ⟨fun pins s σ H Q J q => ?_⟩, fun σ W δ M d M' Q w s ev q => ?_⟩
  · have cK := c.K i
    refine wpAny_Call_Name_kw (ld_glob J (hg i) (by rw [c.mg i]; exact hm) ?_ hdbg)
    refine PySem.W.callWith_KW (h₀ := (X i).base) J.ok.mod.kin (by rw [cK]; exact kp) (hall i) (thn ((pa i).run pos pins s σ H _ J q) fun us s1 ⟨vs, H1, J1, r, q1⟩ => ?_) (hpl i) (he i)
    refine thn ((pk i).run pos pins s1 σ H1 _ J1 q1) fun ws s2 ⟨zs, H2, J2, rz, l1, l2, q2⟩ => ⟨J2.kIn, ?_⟩
    have h' : DFn (X i).prog (X i).w (X i).K (X i).mg (X i).base k f fd ps F := by
      rw [c.prog i, c.wd i, c.K i, c.mg i, c.base i]
      exact h.mono hk
    have r2 := hb.rel r rz
    rw [hks i]
    exact run_dfn h' (c.room i) (c.grd i) J2 (hb.to s2 us ws (by rw [← cK]; exact J2.kIn) (r.length.symm.trans l1) (rz.length.symm.trans l2)) r2 (by rw [cK]; exact q2)
  · unfold eCallK at ev
    split at ev
    · rename_i ds M1 h1
      split at ev
      · rename_i zs M2 h2
        refine ra σ W δ M ds M1 _ w s h1 fun vs W1 l1 w1 r1 => ?_
        refine rk σ W1 δ M1 zs M2 _ w1 (s.le l1) h2 fun us W2 l2 w2 r2 => ?_
        have e1 := hlen _ _ _ _ h1
        have e2 := hkw.len _ _ _ _ h2
        exact ⟨by rw [r1.len]; exact e1, by rw [r2.len]; exact e2, W2, M2, gD ds zs, d, M', rfl, w2, hr _ _ _ _ _ _ (r1.le l2) r2, hn _ _ e1 e2, ev, q.le (l1.trans l2)⟩
      · cases ev
    · cases ev
end

/-! ### a def's body -/
def startD (n : Nat) (ds : List D) : Env := ds.map some ++ List.replicate (n - ds.length) none
def fnF (n : Nat) (g : SF) : Fn := fun ds M => match g (startD n ds) M with
  | some (.rt d M') => some (d, M')
  | some (.nx _ M') => some (.non, M')
  | _ => none
/-- an entry of the def -/
structure Entry (k : Nat) (qual : Str) (scope : Scope) (f : Addr) where
  cdv : Value
  A : Around
  outer : List PySem.Env
  s : Shared
  H : Hp
  room : Room k (A.deeper (envOfC qual scope s.heap.objs.size f cdv))
  grd : A.guards = some []
def bodyF (P : Program) (w : World) (K : PySem.W.Frag) (mg : Str → Option Value) (base : Heap) (N : List Str) {k : Nat} {qual : Str} {scope : Scope} {f : Addr} (e : Entry k qual scope f) : Cx := (cxOf CX0 P w K mg base N qual scope f e.cdv e.A e.outer e.s e.H E0).nox
theorem bodyF_ctx (P : Program) (w : World) (K : PySem.W.Frag) (mg : Str → Option Value) (base : Heap) (N : List Str) {k : Nat} {qual : Str} {scope : Scope} {f : Addr} : Ctx (bodyF P w K mg base N (k := k) (qual := qual) (scope := scope) (f := f)) P w K mg base k :=
  ⟨fun _ => rfl, fun _ => rfl, fun _ => rfl, fun _ => rfl, fun _ => rfl, fun e => e.room, fun e => e.grd, fun _ => rfl⟩
theorem slots_start {K : PySem.W.Frag} {W : Wd} {N : List Str} {vs : List V} {ds : List D} (r : RepL K W.B W.ι vs ds) : Slots K W (L2.start N vs) (startD N.length ds) := by
  have hl := r.len
  refine ⟨by simp [L2.start, startD, hl], fun i d h => ?_⟩
  unfold startD at h
  by_cases hi : i < ds.length
  · rw [List.getElem?_append_left (by simpa using hi), List.getElem?_map] at h
    cases e : ds[i]? with
    | none =>
      rw [e] at h
      cases h
    | some d' =>
      rw [e] at h
      cases h
      obtain ⟨v, h1, h2⟩ := r.get e
      refine ⟨v, ?_, h2⟩
      unfold L2.start
      rw [List.getElem?_append_left (by simp [hl]; exact hi), List.getElem?_map, h1]
      rfl
  · rw [List.getElem?_append_right (by simpa using hi), List.getElem?_replicate] at h
    split at h <;> cases h
/-- THE RULE of a def -/
theorem DFn.of {P : Program} {w : World} {K : PySem.W.Frag} {mg : Str → Option Value} {base : Heap} {k : Nat} {x qual : Str} {params : Arguments} {body : List Stmt} {scope : Scope} {dvs : List V} {kws : List (Str × V)} {f : Addr} {fd : FuncData} {N ps : List Str} {g : SF}
    (h : FunD K x qual params body scope dvs kws f fd) (S : FnScope N ps scope) (hb : Ctx (bodyF P w K mg base N (k := k) (qual := qual) (scope := scope) (f := f)) P w K mg base k → DB (bodyF P w K mg base N (k := k) (qual := qual) (scope := scope) (f := f)) K body g) : DFn P w K mg base (k + 1) f fd ps (fnF N.length g) := by
  obtain ⟨oc, od, dV, kV, doc, pm, an, cdv, ct, osl, rfl, lk, hcd, _, _⟩ := h.ex
  obtain ⟨t, pt, rt⟩ := (hb (bodyF_ctx P w K mg base N)).go
  refine ⟨fun A outer s H args us vs Q room grd e0 bd r q => ?_⟩
  obtain ⟨W, M, ds, d, M', rfl, a2, a3, a4, a5, a6⟩ := q
  have hl : vs.length = ps.length := a3.len.trans a4
  have KX : K.In s.heap := e0.mod.kin.keeps fun b o e => (e0.bs b o e).1
  have lim : s.heap.NoLimit := e0.mod.nolimit.keeps fun b o e => (e0.bs b o e).1
  have knd : ∀ y ∈ ps.zip us, scope.names.lookup y.1 = some .local ∨ (scope.names.lookup y.1 = some .cell ∧ ((cellsFrom (s.heap.objs.size + 1) scope.names []).lookup y.1).isSome = true) := fun y hy => by
    rcases S.par y.1 (List.of_mem_zip (a := y.1) (b := y.2) hy).1 with q | q
    · exact .inl q
    · exact .inr ⟨q, PySem.W.cellsFrom_some _ _ _ (.inl q)⟩
  refine codeAny_call_function room.depth (KX _ _ lk) rfl S.co S.gen rfl (PySem.W.codeRec_of KX hcd) (bd _ _ _ _ ?_)
  refine wpAny_newFunctionEnv_cells S.kind knd fun env he s1 xc => ?_
  subst he
  refine ⟨lim.keeps xc.toInCall.keep, codeAny_func ?_⟩
  have J : Inv (cxOf CX0 P w K mg base N qual scope f cdv A outer s W.H E0) [] (L2.start N vs) W.H s1 := inv_start S room.hd e0 hl r xc
  have ht := (pt ⟨cdv, A, outer, s, W.H, room.deeper _, grd⟩).nox
  have q2 : t { nx := fun _ H' => Q .non H', rt := Q } (L2.start N vs) W.H := by
    unfold fnF at a5
    split at a5
    · rename_i d2 M2 h2
      cases a5
      exact rt _ W _ M _ _ a2 (slots_start a3) h2 a6
    · rename_i δ2 M2 h2
      cases a5
      exact rt _ W _ M _ _ a2 (slots_start a3) h2 fun σ' W' l o s' => a6 .non W' l o .non
    · cases a5
  refine wpAny_mono (ht.run [] s1 (L2.start N vs) W.H _ J q2) (fun fl s' hs => ?_) fun e s' hs => hs
  have fin : ∀ {σ' : St} {H' : Hp} {v : V} {u : Value}, Inv (cxOf CX0 P w K mg base N qual scope f cdv A outer s W.H E0) [] σ' H' s' → RelV v u → Q v H' → CE outer P w W.H s Q u s' :=
    fun {σ' H' v u} J rv q => ⟨v, H', J.os, J.bare, J.base, J.hok, rv, q⟩
  match fl, hs with
  | .ret u, ⟨v, σ', H', J2, rv, q3⟩ => exact fin J2 rv q3
  | .next, ⟨σ', H', J2, q3⟩ => exact fin (v := V.non) (u := Value.none) J2 rfl q3
  | .brk, ⟨_, _, _, q3⟩ => exact False.elim q3
  | .cont, ⟨_, _, _, q3⟩ => exact False.elim q3
end Pl

namespace Pl
open PySem L2
section
variable {I : Type} {X : I → Cx} {P : Program} {w : World} {K : PySem.W.Frag} {mg : Str → Option Value} {base : Heap} {k : Nat}
/-! ### rows as they are read -/
def lstT (M : Mh) : D → Option (List D)
  | .lst xs => some xs
  | .ref n => (match M[n]? with
    | some (.lst xs) => some xs
    | _ => none)
  | _ => none
def lstOf (M : Mh) : D → Option (List D)
  | .lst xs => some xs
  | .lsk xs => some xs
  | .ref n => (match M[n]? with
    | some (.lst xs) => some xs
    | _ => none)
  | _ => none
theorem lstT_rep {W : Wd} {M : Mh} {x : V} {d : D} {ds : List D} (w : W.Ok K M) (r : Rep K W.B W.ι x d) (h : lstT M d = some ds) : ∃ l vs, x = .ref l ∧ W.H l = some (.lst vs) ∧ RepL K W.B W.ι vs ds := by
  unfold lstT at h
  split at h
  · cases h
    cases r with
    | lst h1 r1 => exact ⟨_, _, rfl, w.sub _ _ h1, r1⟩
  · split at h
    · rename_i hm
      cases h
      cases r with
      | ref h1 =>
        obtain ⟨_, _, o, ho, ro⟩ := w.live _ _ _ ⟨h1, hm, fun z => by cases z⟩
        cases ro with
        | lst r1 => exact ⟨_, _, rfl, ho, r1⟩
    · cases h
  · cases h
theorem lstOf_rep {W : Wd} {M : Mh} {x : V} {d : D} {ds : List D} (w : W.Ok K M) (r : Rep K W.B W.ι x d) (h : lstOf M d = some ds) : ∃ l vs, x = .ref l ∧ SqL K W.H l vs ∧ RepL K W.B W.ι vs ds := by
  unfold lstOf at h
  split at h
  · cases h
    cases r with
    | lst h1 r1 => exact ⟨_, _, rfl, .inl (.inl (w.sub _ _ h1)), r1⟩
  · cases h
    cases r with
    | lsk h1 r1 => exact ⟨_, _, rfl, sqL_mono w.sub h1, r1⟩
  · split at h
    · rename_i hm
      cases h
      cases r with
      | ref h1 =>
        obtain ⟨_, _, o, ho, ro⟩ := w.live _ _ _ ⟨h1, hm, fun z => by cases z⟩
        cases ro with
        | lst r1 => exact ⟨_, _, rfl, .inl (.inl ho), r1⟩
    · cases h
  · cases h
theorem tup_rep {W : Wd} {M : Mh} {x : V} {ds : List D} (w : W.Ok K M) (r : Rep K W.B W.ι x (.tup ds)) : ∃ l vs, x = .ref l ∧ SqT K W.H l vs ∧ RepL K W.B W.ι vs ds := by
  cases r with
  | tup h1 r1 => exact ⟨_, _, rfl, sqT_mono w.sub h1, r1⟩

/-! ### + and * -/
def gAdd : O2 := fun a b M => match a, b with
  | .int i, .int j => some (.int (i + j), M)
  | .str x, .str y => if x.length + y.length ≤ sizeLine then some (.str (x ++ y), M) else none
  | .tup xs, .tup ys => if xs.length + ys.length ≤ sizeLine then some (.tup (xs ++ ys), M) else none
  | a, b => (match lstT M a, lstT M b with
    | some xs, some ys => if xs.length + ys.length ≤ sizeLine then some (.lst (xs ++ ys), M) else none
    | _, _ => none)
def rAdd4 (K : PySem.W.Frag) : R2 := fun x y H Q => rI0 (fun i j => .int (i + j)) x y H Q ∨ (∃ i j, x = .str i ∧ y = .str j ∧ i.length + j.length ≤ sizeLine ∧ Q (.str (i ++ j)) H) ∨ rCat x y H Q ∨ rCatA K x y H Q
theorem opAdd4 (c : Ctx X P w K mg base k) : OpF X K (binaryOp .Add) gAdd := ⟨rAdd4 K, fun i => by
  have h := OpR.or (X := X i) op_add (OpR.or op_add_str (OpR.or op_cat op_catA))
  rw [c.K i] at h
  exact h, fun W M x y a b z M' Q w ra rb e q => by
  unfold gAdd at e
  split at e
  · cases ra
    cases rb
    cases e
    exact .inl ⟨_, _, rfl, rfl, q _ W (.refl W) w (.int _)⟩
  · split at e
    · rename_i hl
      cases ra
      cases rb
      cases e
      exact .inr (.inl ⟨_, _, rfl, rfl, hl, q _ W (.refl W) w (.str _)⟩)
    · cases e
  · split at e
    · rename_i hl
      cases e
      obtain ⟨a, vs, rfl, s1, r1⟩ := tup_rep w ra
      obtain ⟨b, us, rfl, s2, r2⟩ := tup_rep w rb
      refine .inr (.inr (.inr ⟨a, b, vs, us, rfl, rfl, s1, s2, by rw [r1.len, r2.len]; exact hl, fun h => ?_, fun h0 h => ?_, fun h0 h1 p hp => ?_⟩))
      · subst h
        cases r1
        exact q _ W (.refl W) w rb
      · subst h
        cases r2
        rw [List.append_nil] at q
        exact q _ W (.refl W) w ra
      · obtain ⟨l2, w2, r3⟩ := lay_tup w hp (r1.append r2)
        exact q _ _ l2 w2 r3
    · cases e
  · split at e
    · rename_i xs ys h1 h2
      split at e
      · rename_i hl
        cases e
        obtain ⟨a, vs, rfl, s1, r1⟩ := lstT_rep w ra h1
        obtain ⟨b, us, rfl, s2, r2⟩ := lstT_rep w rb h2
        refine .inr (.inr (.inl ⟨a, b, vs, us, rfl, rfl, s1, s2, by rw [r1.len, r2.len]; exact hl, fun p hp => ?_⟩))
        obtain ⟨l2, w2, r3⟩ := lay_lst w hp (r1.append r2)
        exact q _ _ l2 w2 r3
      · cases e
    · cases e⟩
theorem RepL.rep {B : Hp} {ι : List Addr} {vs : List V} {ds : List D} (r : RepL K B ι vs ds) : ∀ n : Nat, RepL K B ι (List.replicate n vs).flatten (List.replicate n ds).flatten
  | 0 => .nil
  | n + 1 => by
    rw [List.replicate_succ, List.replicate_succ, List.flatten_cons, List.flatten_cons]
    exact r.append (r.rep n)
def gMul : O2 := fun a b M => match a, b with
  | .int i, .int j => if MulOk i j then some (.int (i * j), M) else none
  | .lst xs, .int j => if -(2 ^ 63) ≤ j ∧ j < 2 ^ 63 ∧ xs.length * j.toNat ≤ sizeLine then some (.lst (List.replicate j.toNat xs).flatten, M) else none
  | _, _ => none
theorem opMul2 : OpF X K (binaryOp .Mult) gMul := ⟨_, fun i => OpR.or op_mulX op_rep, fun W M x y a b z M' Q w ra rb e q => by
  unfold gMul at e
  split at e
  · split at e
    · rename_i hc
      cases ra
      cases rb
      cases e
      exact .inl ⟨_, _, rfl, rfl, hc, q _ W (.refl W) w (.int _)⟩
    · cases e
  · split at e
    · rename_i hc
      cases rb
      cases e
      cases ra with
      | lst h1 r1 =>
        refine .inr ⟨_, _, _, rfl, rfl, w.sub _ _ h1, hc.1, hc.2.1, by rw [r1.len]; exact hc.2.2, fun p hp => ?_⟩
        obtain ⟨l2, w2, r3⟩ := lay_lst w hp (r1.rep _)
        exact q _ _ l2 w2 r3
    · cases e
  · cases e⟩

/-! ### slices -/
structure DP (X : I → Cx) (K : PySem.W.Frag) (e : Option Expr) (f : Env → Mh → Option (Option Int × Mh)) : Prop where
  go : ∃ t : St → Hp → (Option Int → Hp → Prop) → Prop, (∀ i, PO (X i) e t) ∧ ∀ (σ : St) (W : Wd) (δ : Env) (M : Mh) (d : Option Int) (M' : Mh) (Q : Option Int → Hp → Prop), W.Ok K M → Slots K W σ δ → f δ M = some (d, M') → (∀ W', W.Le W' → W'.Ok K M' → Q d W'.H) → t σ W.H Q
def pNone : Env → Mh → Option (Option Int × Mh) := fun _ M => some (none, M)
def pSome (f : EF) : Env → Mh → Option (Option Int × Mh) := fun δ M => match f δ M with
  | some (.int i, M1) => some (some i, M1)
  | _ => none
theorem DP.none : DP X K none pNone := ⟨_, fun i => po_none, fun σ W δ M d M' Q w s e q => by
  cases e
  exact q W (.refl W) w⟩
theorem DP.some {e : Expr} {f : EF} (h : DE X K e f) : DP X K (some e) (pSome f) := by
  obtain ⟨t, p, r⟩ := h.go
  refine ⟨_, fun i => po_some (p i), fun σ W δ M d M' Q w s ev q => ?_⟩
  unfold pSome at ev
  split at ev
  · rename_i h1
    cases ev
    refine r σ W δ M _ _ _ w s h1 fun v W1 l1 w1 r1 => ?_
    cases r1
    exact ⟨_, rfl, q W1 l1 w1⟩
  · cases ev
def cutD {α : Type} (xs : List α) (lo hi : Option Int) : List α := (xs.drop (HT.sIx xs.length 0 lo)).take (HT.sIx xs.length xs.length hi - HT.sIx xs.length 0 lo)
theorem RepL.cut {B : Hp} {ι : List Addr} {vs : List V} {ds : List D} (r : RepL K B ι vs ds) (lo hi : Option Int) : RepL K B ι (cutV vs lo hi) (cutD ds lo hi) := by
  unfold cutV cutD
  rw [r.len]
  exact (r.drop _).take _
theorem cutD_all {α : Type} {xs : List α} {lo hi : Option Int} (h : HT.sIx xs.length 0 lo = 0 ∧ HT.sIx xs.length xs.length hi = xs.length) : cutD xs lo hi = xs := by
  unfold cutD
  rw [h.1, h.2]
  simp
def eSl (f : EF) (p q : Env → Mh → Option (Option Int × Mh)) : EF := fun δ M => match f δ M with
  | some (a, M1) => (match p δ M1 with
    | some (lo, M2) => (match q δ M2 with
      | some (hi, M3) => (match a with
        | .tup xs => some (.tup (cutD xs lo hi), M3)
        | .str z => if z.length ≤ sizeLine then some (.str (cutS z lo hi), M3) else none
        | a => (match lstOf M3 a with
          | some xs => some (.lst (cutD xs lo hi), M3)
          | none => none))
      | none => none)
    | none => none)
  | none => none
theorem DE.sl (c : Ctx X P w K mg base k) {e : Expr} {lo hi : Option Expr} {p2 pos} {f : EF} {p q : Env → Mh → Option (Option Int × Mh)} (ha : DE X K e f) (hlo : DP X K lo p) (hhi : DP X K hi q) : DE X K (.Subscript e (.Slice lo hi none p2) pos) (eSl f p q) := by
  obtain ⟨t, pa, r⟩ := ha.go
  obtain ⟨tl, pl, rl⟩ := hlo.go
  obtain ⟨th, ph, rh⟩ := hhi.go
  refine ⟨tSl (fun x lo hi H Q => rSlL K x lo hi H Q ∨ rSlA K x lo hi H Q ∨ rSlS x lo hi H Q) t tl th, fun i => ?_, fun σ W δ M d M' Q w s ev qq => ?_⟩
  · have h := pe_slice (SlR.or (X := X i) sl_list (SlR.or sl_tupA sl_str)) (pa i) (pl i) (ph i) (p2 := p2) (pos := pos)
    rw [c.K i] at h
    exact h
  · unfold eSl at ev
    split at ev
    · rename_i a M1 h1
      split at ev
      · rename_i lo' M2 h2
        split at ev
        · rename_i hi' M3 h3
          refine r σ W δ M _ _ _ w s h1 fun v W1 l1 w1 r1 => ?_
          refine rl σ W1 δ M1 _ _ _ w1 (s.le l1) h2 fun W2 l2 w2 => ?_
          refine rh σ W2 δ M2 _ _ _ w2 (s.le (l1.trans l2)) h3 fun W3 l3 w3 => ?_
          have r3 := r1.le (l2.trans l3)
          have l13 := (l1.trans l2).trans l3
          split at ev
          · cases ev
            obtain ⟨b, vs, rfl, s1, q1⟩ := tup_rep w3 r3
            refine .inr (.inl ⟨b, vs, rfl, s1, fun h => ?_, fun h p hp => ?_⟩)
            · rw [q1.len] at h
              rw [cutD_all h] at qq
              exact qq _ W3 l13 w3 r3
            · obtain ⟨l4, w4, r4⟩ := lay_tup w3 hp (q1.cut lo' hi')
              exact qq _ _ (l13.trans l4) w4 r4
          · split at ev
            · rename_i hz
              cases ev
              cases r3
              exact .inr (.inr ⟨_, rfl, hz, qq _ W3 l13 w3 (.str _)⟩)
            · cases ev
          · split at ev
            · rename_i xs hx
              cases ev
              obtain ⟨b, vs, rfl, s1, q1⟩ := lstOf_rep w3 r3 hx
              refine .inl ⟨b, vs, rfl, s1, fun p hp => ?_⟩
              obtain ⟨l4, w4, r4⟩ := lay_lst w3 hp (q1.cut lo' hi')
              exact qq _ _ (l13.trans l4) w4 r4
            · cases ev
        · cases ev
      · cases ev
    · cases ev

/-! ### built-in calls -/
abbrev GL := List D → Mh → Option (D × Mh)
structure CalF (X : I → Cx) (K : PySem.W.Frag) (f : Value) (g : GL) : Prop where
  go : ∃ r : List V → Hp → VK → Prop, (∀ i, CallR (X i) f r) ∧ ∀ (W : Wd) (M : Mh) (vs : List V) (ds : List D) (z : D) (M' : Mh) (Q : VK), W.Ok K M → RepL K W.B W.ι vs ds → g ds M = some (z, M') → VR K W z M' Q → r vs W.H Q
def eB (g : GL) (a : AF) : EF := fun δ M => match a δ M with
  | some (ds, M1) => g ds M1
  | none => none
theorem er_b {r : List V → Hp → VK → Prop} {g : GL} {a : AF} {t : TA} (h : ∀ (W : Wd) (M : Mh) (vs : List V) (ds : List D) (z : D) (M' : Mh) (Q : VK), W.Ok K M → RepL K W.B W.ι vs ds → g ds M = some (z, M') → VR K W z M' Q → r vs W.H Q) (ra : AR K t a) : ER K (tCB r t) (eB g a) := fun σ W δ M d M' Q w s e q => by
  unfold eB at e
  split at e
  · rename_i ds M1 h1
    exact ra σ W δ M _ _ _ w s h1 fun vs W1 l1 w1 r1 => h W1 M1 vs ds d M' Q w1 r1 e (q.le l1)
  · cases e
theorem DE.callB (c : Ctx X P w K mg base k) {x : Str} {p pos : Pos} {e : Expr} {es : List Expr} {id : String} {g : GL} {a : AF} (o : CalF X K (.builtin id) g) (hm : mg x = none) (hv : bootBuiltins x = some (.builtin id)) (ha : DA X K (e :: es) a) (hg : ∀ i, Gl (X i) x := by intro _; rfl)
    (hn : x ≠ "__name__" := by decide) (hdbg : (x == ("__debug__" : Str)) = false := by decide) (he : ∀ i, starEach (e :: es) (X i).env = (false, eval e (X i).env) :: starEach es (X i).env := by intro _; rfl) (hpl : ∀ i, (backTo pos (starEach es (X i).env)).any (·.1) = false := by intro _; rfl) :
    DE X K (.Call (.Name x p) (e :: es) [] pos) (eB g a) := by
  obtain ⟨r, hc, h⟩ := o.go
  obtain ⟨t, pa, ra⟩ := ha.go
  exact ⟨_, fun i => pe_callB (hc i) (hg i) (by rw [c.mg i]; exact hm) hv (pa i) (hn := hn) (hdb := hdbg) (he := he i) (hpl := hpl i), er_b h ra⟩
theorem DE.callTy (c : Ctx X P w K mg base k) {x : Str} {p pos : Pos} {e : Expr} {es : List Expr} {id : String} {g : GL} {a : AF} (o : CalF X K (.type id) g) (hm : mg x = none) (hv : bootBuiltins x = some (.type id)) (ha : DA X K (e :: es) a) (hg : ∀ i, Gl (X i) x := by intro _; rfl)
    (hn : x ≠ "__name__" := by decide) (hdbg : (x == ("__debug__" : Str)) = false := by decide) (he : ∀ i, starEach (e :: es) (X i).env = (false, eval e (X i).env) :: starEach es (X i).env := by intro _; rfl) (hpl : ∀ i, (backTo pos (starEach es (X i).env)).any (·.1) = false := by intro _; rfl) :
    DE X K (.Call (.Name x p) (e :: es) [] pos) (eB g a) := by
  obtain ⟨r, hc, h⟩ := o.go
  obtain ⟨t, pa, ra⟩ := ha.go
  exact ⟨_, fun i => pe_callTy (hc i) (hg i) (by rw [c.mg i]; exact hm) hv (pa i) (hn := hn) (hdb := hdbg) (he := he i) (hpl := hpl i), er_b h ra⟩
/-- a built-in that the module has imported -/
theorem DE.callM (c : Ctx X P w K mg base k) {x : Str} {p pos : Pos} {e : Expr} {es : List Expr} {id : String} {g : GL} {a : AF} (o : CalF X K (.builtin id) g) (hm : mg x = some (.builtin id)) (ha : DA X K (e :: es) a) (hg : ∀ i, Gl (X i) x := by intro _; rfl)
    (hdbg : (x == ("__debug__" : Str)) = false := by decide) (he : ∀ i, starEach (e :: es) (X i).env = (false, eval e (X i).env) :: starEach es (X i).env := by intro _; rfl) (hpl : ∀ i, (backTo pos (starEach es (X i).env)).any (·.1) = false := by intro _; rfl) :
    DE X K (.Call (.Name x p) (e :: es) [] pos) (eB g a) := by
  obtain ⟨r, hc, h⟩ := o.go
  obtain ⟨t, pa, ra⟩ := ha.go
  exact ⟨_, fun i => pe_callBfun (hc i) (hg i) (by rw [c.mg i]; exact hm) (pa i) (hdb := hdbg) (he := he i) (hpl := hpl i), er_b h ra⟩
def lenOf (M : Mh) : D → Option Nat
  | .str z => if z.length ≤ sizeLine then some z.length else none
  | .tup xs => some xs.length
  | d => (lstOf M d).map (·.length)
def gLen : GL := fun ds M => match ds with
  | [d] => (lenOf M d).map fun n => (.int (n : Nat), M)
  | _ => none
theorem cLen (c : Ctx X P w K mg base k) : CalF X K (.builtin "len") gLen := ⟨fun xs H Q => ∃ x n, xs = [x] ∧ LenV K x H n ∧ Q (.int n) H, fun i => by
  have h := call_len (X := X i)
  rw [c.K i] at h
  exact h, fun W M vs ds z M' Q w r e q => by
  unfold gLen at e
  split at e
  · rename_i d
    cases hl : lenOf M d with
    | none =>
      rw [hl] at e
      cases e
    | some n =>
      rw [hl] at e
      cases e
      cases r with
      | cons r1 r2 =>
        cases r2
        refine ⟨_, n, rfl, ?_, q _ W (.refl W) w (.int _)⟩
        unfold lenOf at hl
        split at hl
        · split at hl
          · rename_i hz
            cases hl
            cases r1
            exact ⟨hz, rfl⟩
          · cases hl
        · cases hl
          obtain ⟨a, us, rfl, s1, q1⟩ := tup_rep w r1
          exact .inr ⟨us, s1, q1.len.symm⟩
        · cases hx : lstOf M d with
          | none =>
            rw [hx] at hl
            cases hl
          | some xs =>
            rw [hx] at hl
            cases hl
            obtain ⟨a, us, rfl, s1, q1⟩ := lstOf_rep w r1 hx
            exact .inl ⟨us, s1, q1.len.symm⟩
  · cases e⟩
def gL1 (h : Int → D) : GL := fun ds M => match ds with
  | [.int i] => some (h i, M)
  | _ => none
def gL2 (h : Int → Int → D) : GL := fun ds M => match ds with
  | [.int i, .int j] => some (h i j, M)
  | _ => none
theorem cAbs : CalF X K (.builtin "abs") (gL1 fun i => .int (if i < 0 then -i else i)) := ⟨_, fun i => call_abs, fun W M vs ds z M' Q w r e q => by
  unfold gL1 at e
  split at e
  · cases e
    cases r with
    | cons r1 r2 =>
      cases r1
      cases r2
      exact ⟨_, rfl, q _ W (.refl W) w (.int _)⟩
  · cases e⟩
theorem cMax2 (c : Ctx X P w K mg base k) : CalF X K (.builtin "max") (gL2 fun i j => .int (if j > i then j else i)) := ⟨_, fun i => call_max2 (c.calm i), fun W M vs ds z M' Q w r e q => by
  unfold gL2 at e
  split at e
  · cases e
    cases r with
    | cons r1 r2 =>
      cases r2 with
      | cons r2 r3 =>
        cases r1
        cases r2
        cases r3
        exact ⟨_, _, rfl, q _ W (.refl W) w (.int _)⟩
  · cases e⟩
theorem cMin2 (c : Ctx X P w K mg base k) : CalF X K (.builtin "min") (gL2 fun i j => .int (if j < i then j else i)) := ⟨_, fun i => call_min2 (c.calm i), fun W M vs ds z M' Q w r e q => by
  unfold gL2 at e
  split at e
  · cases e
    cases r with
    | cons r1 r2 =>
      cases r2 with
      | cons r2 r3 =>
        cases r1
        cases r2
        cases r3
        exact ⟨_, _, rfl, q _ W (.refl W) w (.int _)⟩
  · cases e⟩
theorem cGcd : CalF X K (.builtin "math.gcd") (gL2 fun i j => .int ((Nat.gcd i.natAbs j.natAbs : Nat) : Int)) := ⟨_, fun i => cr_gcd, fun W M vs ds z M' Q w r e q => by
  unfold gL2 at e
  split at e
  · cases e
    cases r with
    | cons r1 r2 =>
      cases r2 with
      | cons r2 r3 =>
        cases r1
        cases r2
        cases r3
        exact ⟨_, _, rfl, q _ W (.refl W) w (.int _)⟩
  · cases e⟩
def intsOf : List D → Option (List Int)
  | [] => some []
  | .int i :: r => (match intsOf r with
    | some is => some (i :: is)
    | none => none)
  | _ => none
theorem rep_ints {B : Hp} {ι : List Addr} : ∀ {vs : List V} {ds : List D} {is : List Int}, RepL K B ι vs ds → intsOf ds = some is → vs = is.map V.int
  | _, _, _, .nil, e => by
    cases e
    rfl
  | _, _, _, .cons (d := d) r t, e => by
    unfold intsOf at e
    split at e
    · rename_i h1
      cases h1
    · rename_i h1
      split at e
      · rename_i is h2
        cases e
        cases h1
        cases r
        rw [List.map_cons, rep_ints t h2]
      · cases e
    · cases e
def gSum : GL := fun ds M => match ds with
  | [d] => (match lstOf M d with
    | some xs => (match intsOf xs with
      | some is => some (.int is.sum, M)
      | none => none)
    | none => none)
  | _ => none
theorem cSum (c : Ctx X P w K mg base k) : CalF X K (.builtin "sum") gSum := ⟨rSum K, fun i => by
  have h := cr_sum (X := X i) (c.calm i)
  rw [c.K i] at h
  exact h, fun W M vs ds z M' Q w r e q => by
  unfold gSum at e
  split at e
  · split at e
    · rename_i xs h1
      split at e
      · rename_i is h2
        cases e
        cases r with
        | cons r1 r2 =>
          cases r2
          obtain ⟨a, us, rfl, s1, q1⟩ := lstOf_rep w r1 h1
          have := rep_ints q1 h2
          subst this
          exact ⟨a, is, rfl, s1, q _ W (.refl W) w (.int _)⟩
      · cases e
    · cases e
  · cases e⟩
def gTupOf : GL := fun ds M => match ds with
  | [.tup xs] => some (.tup xs, M)
  | [d] => (match lstOf M d with
    | some xs => some (.tup xs, M)
    | none => none)
  | _ => none
theorem cTupOf (c : Ctx X P w K mg base k) : CalF X K (.type "tuple") gTupOf := ⟨fun xs H Q => ∃ p ys, xs = [.ref p] ∧ ((SqL K H p ys ∧ ∀ l, H l = none → Q (.ref l) (upd H l (.tup ys))) ∨ (SqT K H p ys ∧ Q (.ref p) H)), fun i => by
  have h := call_tuple_of (X := X i)
  rw [c.K i] at h
  exact h, fun W M vs ds z M' Q w r e q => by
  unfold gTupOf at e
  split at e
  · cases e
    cases r with
    | cons r1 r2 =>
      cases r2
      obtain ⟨a, us, rfl, s1, q1⟩ := tup_rep w r1
      exact ⟨a, us, rfl, .inr ⟨s1, q _ W (.refl W) w r1⟩⟩
  · split at e
    · rename_i xs h1
      cases e
      cases r with
      | cons r1 r2 =>
        cases r2
        obtain ⟨a, us, rfl, s1, q1⟩ := lstOf_rep w r1 h1
        refine ⟨a, us, rfl, .inl ⟨s1, fun p hp => ?_⟩⟩
        obtain ⟨l2, w2, r3⟩ := lay_tup w hp q1
        exact q _ _ l2 w2 r3
    · cases e
  · cases e⟩
def gLstOf : GL := fun ds M => match ds with
  | [.tup xs] => some (.lst xs, M)
  | [d] => (match lstOf M d with
    | some xs => some (.lst xs, M)
    | none => none)
  | _ => none
theorem cLstOf (c : Ctx X P w K mg base k) : CalF X K (.type "list") gLstOf := ⟨fun xs H Q => ∃ p ys, xs = [.ref p] ∧ (SqL K H p ys ∨ SqT K H p ys) ∧ ∀ l, H l = none → Q (.ref l) (upd H l (.lst ys)), fun i => by
  have h := call_list_of (X := X i)
  rw [c.K i] at h
  exact h, fun W M vs ds z M' Q w r e q => by
  unfold gLstOf at e
  split at e
  · cases e
    cases r with
    | cons r1 r2 =>
      cases r2
      obtain ⟨a, us, rfl, s1, q1⟩ := tup_rep w r1
      refine ⟨a, us, rfl, .inr s1, fun p hp => ?_⟩
      obtain ⟨l2, w2, r3⟩ := lay_lst w hp q1
      exact q _ _ l2 w2 r3
  · split at e
    · rename_i xs h1
      cases e
      cases r with
      | cons r1 r2 =>
        cases r2
        obtain ⟨a, us, rfl, s1, q1⟩ := lstOf_rep w r1 h1
        refine ⟨a, us, rfl, .inl s1, fun p hp => ?_⟩
        obtain ⟨l2, w2, r3⟩ := lay_lst w hp q1
        exact q _ _ l2 w2 r3
    · cases e
  · cases e⟩
def gStrInt : GL := fun ds M => match ds with
  | [.int i] => if i.natAbs.log2 < 1920 then some (.str (toString i), M) else none
  | _ => none
theorem cStrInt : CalF X K (.type "str") gStrInt := ⟨_, fun i => call_str_int, fun W M vs ds z M' Q w r e q => by
  unfold gStrInt at e
  split at e
  · split at e
    · rename_i hz
      cases e
      cases r with
      | cons r1 r2 =>
        cases r1
        cases r2
        exact ⟨_, rfl, hz, q _ W (.refl W) w (.str _)⟩
    · cases e
  · cases e⟩
def gInt1 : GL := fun ds M => match ds with
  | [.int i] => some (.int i, M)
  | [.bl b] => some (.int (if b then 1 else 0), M)
  | [.str x] => (match PySem.intText? x with
    | some n => if x.length ≤ 640 then some (.int n, M) else none
    | none => none)
  | _ => none
theorem cInt1 : CalF X K (.type "int") gInt1 := ⟨_, fun i => CallR.or call_int1 call_int_str, fun W M vs ds z M' Q w r e q => by
  unfold gInt1 at e
  split at e
  · cases e
    cases r with
    | cons r1 r2 =>
      cases r1
      cases r2
      exact .inl (.inl ⟨_, rfl, q _ W (.refl W) w (.int _)⟩)
  · cases e
    cases r with
    | cons r1 r2 =>
      cases r1
      cases r2
      exact .inl (.inr ⟨_, rfl, q _ W (.refl W) w (.int _)⟩)
  · split at e
    · rename_i n h1
      split at e
      · rename_i hz
        cases e
        cases r with
        | cons r1 r2 =>
          cases r1
          cases r2
          exact .inr ⟨_, n, rfl, h1, hz, q _ W (.refl W) w (.int _)⟩
      · cases e
    · cases e
  · cases e⟩
def bsOf : List D → Option (List Bool)
  | [] => some []
  | .bl i :: r => (match bsOf r with
    | some is => some (i :: is)
    | none => none)
  | _ => none
theorem rep_bs {B : Hp} {ι : List Addr} : ∀ {vs : List V} {ds : List D} {is : List Bool}, RepL K B ι vs ds → bsOf ds = some is → vs = is.map V.bl
  | _, _, _, .nil, e => by
    cases e
    rfl
  | _, _, _, .cons (d := d) r t, e => by
    unfold bsOf at e
    split at e
    · rename_i h1
      cases h1
    · rename_i h1
      split at e
      · rename_i is h2
        cases e
        cases h1
        cases r
        rw [List.map_cons, rep_bs t h2]
      · cases e
    · cases e
def gBs (h : List Bool → Bool) : GL := fun ds M => match ds with
  | [d] => (match lstOf M d with
    | some xs => (match bsOf xs with
      | some bs => some (.bl (h bs), M)
      | none => none)
    | none => none)
  | _ => none
theorem cAll (c : Ctx X P w K mg base k) : CalF X K (.builtin "all") (gBs fun bs => bs.all id) := ⟨rAll K, fun i => by
  have h := cr_all (X := X i) (c.calm i)
  rw [c.K i] at h
  exact h, fun W M vs ds z M' Q w r e q => by
  unfold gBs at e
  split at e
  · split at e
    · rename_i xs h1
      split at e
      · rename_i is h2
        cases e
        cases r with
        | cons r1 r2 =>
          cases r2
          obtain ⟨a, us, rfl, s1, q1⟩ := lstOf_rep w r1 h1
          have := rep_bs q1 h2
          subst this
          exact ⟨a, is, rfl, s1, q _ W (.refl W) w (.bl _)⟩
      · cases e
    · cases e
  · cases e⟩
theorem cAny (c : Ctx X P w K mg base k) : CalF X K (.builtin "any") (gBs fun bs => bs.any id) := ⟨rAny K, fun i => by
  have h := cr_any (X := X i) (c.calm i)
  rw [c.K i] at h
  exact h, fun W M vs ds z M' Q w r e q => by
  unfold gBs at e
  split at e
  · split at e
    · rename_i xs h1
      split at e
      · rename_i is h2
        cases e
        cases r with
        | cons r1 r2 =>
          cases r2
          obtain ⟨a, us, rfl, s1, q1⟩ := lstOf_rep w r1 h1
          have := rep_bs q1 h2
          subst this
          exact ⟨a, is, rfl, s1, q _ W (.refl W) w (.bl _)⟩
      · cases e
    · cases e
  · cases e⟩
end
end Pl

namespace Pl
open PySem L2
section
variable {I : Type} {X : I → Cx} {P : Program} {w : World} {K : PySem.W.Frag} {mg : Str → Option Value} {base : Heap} {k : Nat}

/-! ### isinstance -/
def tyN (M : Mh) : D → Option String
  | .non => some "NoneType"
  | .bl _ => some "bool"
  | .int _ => some "int"
  | .str _ => some "str"
  | .tup _ => some "tuple"
  | .lst _ => some "list"
  | .ref n => (match M[n]? with
    | some (.lst _) => some "list"
    | some (.dic _) => some "dict"
    | _ => none)
  | _ => none
theorem sqT_ty {H : Hp} {a : Addr} {vs : List V} (h : SqT K H a vs) : TyX K H (.ref a) (.type "tuple") := by
  rcases h with h | ⟨o, its, n, h1, h2, _⟩
  · rcases h with h | ⟨o, h⟩
    · exact .base (.tup h)
    · exact .fTuple h
  · exact .kTuple h1 h2
theorem tyN_rep {W : Wd} {M : Mh} {x : V} {d : D} {n : String} (w : W.Ok K M) (r : Rep K W.B W.ι x d) (h : tyN M d = some n) : TyX K W.H x (.type n) := by
  cases r with
  | non => cases h; exact .base .non
  | bl b => cases h; exact .base (.bl b)
  | int b => cases h; exact .base (.int b)
  | str b => cases h; exact .base (.str b)
  | tup h1 _ => cases h; exact sqT_ty (sqT_mono w.sub h1)
  | lst h1 _ => cases h; exact .base (.lst (w.sub _ _ h1))
  | ty _ => cases h
  | ob _ => cases h
  | lsk _ _ => cases h
  | ref h1 =>
    unfold tyN at h
    dsimp only at h
    split at h
    · rename_i hm
      cases h
      obtain ⟨_, _, o, ho, ro⟩ := w.live _ _ _ ⟨h1, hm, fun z => by cases z⟩
      cases ro with
      | lst _ => exact .base (.lst ho)
    · rename_i hm
      cases h
      obtain ⟨_, _, o, ho, ro⟩ := w.live _ _ _ ⟨h1, hm, fun z => by cases z⟩
      cases ro with
      | dic _ => exact .base (.dK ho)
    · cases h
def gIsi : GL := fun ds M => match ds with
  | [d, .ty n] => (match tyN M d with
    | some t => (match kitB t n with
      | some b => some (.bl b, M)
      | none => none)
    | none => none)
  | _ => none
theorem cIsi (c : Ctx X P w K mg base k) : CalF X K (.builtin "isinstance") gIsi := ⟨rIsi K, fun i => by
  have h := call_isi (X := X i)
  rw [c.K i] at h
  exact h, fun W M vs ds z M' Q w r e q => by
  unfold gIsi at e
  split at e
  · split at e
    · rename_i t h1
      split at e
      · rename_i b h2
        cases e
        cases r with
        | cons r1 r2 =>
          cases r2 with
          | cons r2 r3 =>
            cases r2
            cases r3
            exact ⟨_, _, _, _, b, rfl, .ty _, tyN_rep w r1 h1, kit_ty h2, q _ W (.refl W) w (.bl _)⟩
      · cases e
    · cases e
  · cases e⟩

/-! ### in -/
theorem room_in {A : Around} {xs : List PyData} {d : PyData} (h : SeqAt.shaped d = true) (u : A.units + 65 < cLine) : A.units + 1 + min (PyData.depthAll xs) d.depth < cLine := by
  have h1 := SeqAt.depth_of_shaped h
  have h2 := Nat.min_le_right (PyData.depthAll xs) d.depth
  omega
def rInT (K : PySem.W.Frag) : R2 := fun x y H Q => ∃ d ds, Dp K H x d ∧ Dp K H y (.tuple ds) ∧ SeqAt.shaped d = true ∧ SeqAt.shaped (.tuple ds) = true ∧ Q (.bl (ds.any fun z => PyData.eqv z d)) H
def rNotInT (K : PySem.W.Frag) : R2 := fun x y H Q => ∃ d ds, Dp K H x d ∧ Dp K H y (.tuple ds) ∧ SeqAt.shaped d = true ∧ SeqAt.shaped (.tuple ds) = true ∧ Q (.bl (!ds.any fun z => PyData.eqv z d)) H
theorem op_inT {Y : Cx} (room : Y.A.units + 65 < cLine) : OpR Y (compareOp .In) (rInT Y.K) := fun pins s σ H x y v u Q J rx ry ⟨d, ds, hd, he, sd, se, q⟩ => by
  obtain ⟨as, r1⟩ := Dp.reads J d x v hd rx
  obtain ⟨bs, r2⟩ := Dp.reads J (.tuple ds) y u he ry
  exact SeqAt.in_tuple_reads r2 r1 (SeqAt.canLay_of_shaped se) (SeqAt.canLay_of_shaped sd) (room_in sd room) ⟨.bl _, H, J, rfl, q⟩
theorem op_notInT {Y : Cx} (room : Y.A.units + 65 < cLine) : OpR Y (compareOp .NotIn) (rNotInT Y.K) := fun pins s σ H x y v u Q J rx ry ⟨d, ds, hd, he, sd, se, q⟩ => by
  obtain ⟨as, r1⟩ := Dp.reads J d x v hd rx
  obtain ⟨bs, r2⟩ := Dp.reads J (.tuple ds) y u he ry
  exact SeqAt.notIn_tuple_reads r2 r1 (SeqAt.canLay_of_shaped se) (SeqAt.canLay_of_shaped sd) (room_in sd room) ⟨.bl _, H, J, rfl, q⟩
/-- a sign in a text, a thing in a row -/
def gIn (h : Bool → Bool) : O2 := fun a b M => match a, b with
  | .str ⟨⟨[s]⟩⟩, .str z => some (.bl (h (decide (s ∈ z.cps.toList))), M)
  | a, b => (match toP (deref M a), toP (deref M b) with
    | some p, some (.tuple ps) => if SeqAt.shaped p && SeqAt.shaped (.tuple ps) then some (.bl (h (ps.any fun z => PyData.eqv z p)), M) else none
    | some p, some (.list ps) => if SeqAt.shaped p && SeqAt.shaped (.list ps) then some (.bl (h (ps.any fun z => PyData.eqv z p)), M) else none
    | _, _ => none)
theorem room65 {A : Around} {j : Nat} (r : Room j A) : A.units + 65 < cLine := by
  have := r.un
  omega
theorem opIn (c : Ctx X P w K mg base k) : OpF X K (compareOp .In) (gIn fun b => b) := ⟨fun x y H Q => (∃ (c : Nat) (z : Str), x = .str ⟨#[c]⟩ ∧ y = .str z ∧ Q (.bl (decide (c ∈ z.cps.toList))) H) ∨ rInT K x y H Q ∨ rInD K x y H Q, fun i => by
  have h := OpR.or (X := X i) op_in_sign (OpR.or (op_inT (room65 (c.room i))) (op_inD (room65 (c.room i))))
  rw [c.K i] at h
  exact h, fun W M x y a b z M' Q w ra rb e q => by
  unfold gIn at e
  split at e
  · cases ra
    cases rb
    cases e
    exact .inl ⟨_, _, rfl, rfl, q _ W (.refl W) w (.bl _)⟩
  · split at e
    · rename_i h1 h2
      split at e
      · rename_i hs
        cases e
        rw [Bool.and_eq_true] at hs
        exact .inr (.inl ⟨_, _, dp_of w ra h1, dp_of w rb h2, hs.1, hs.2, q _ W (.refl W) w (.bl _)⟩)
      · cases e
    · rename_i h1 h2
      split at e
      · rename_i hs
        cases e
        rw [Bool.and_eq_true] at hs
        exact .inr (.inr ⟨_, _, dp_of w ra h1, dp_of w rb h2, hs.1, hs.2, q _ W (.refl W) w (.bl _)⟩)
      · cases e
    · cases e⟩
theorem opNotIn (c : Ctx X P w K mg base k) : OpF X K (compareOp .NotIn) (gIn fun b => !b) := ⟨fun x y H Q => (∃ (c : Nat) (z : Str), x = .str ⟨#[c]⟩ ∧ y = .str z ∧ Q (.bl (!decide (c ∈ z.cps.toList))) H) ∨ rNotInT K x y H Q ∨ rNotInD K x y H Q, fun i => by
  have h := OpR.or (X := X i) op_notIn_sign (OpR.or (op_notInT (room65 (c.room i))) (op_notInD (room65 (c.room i))))
  rw [c.K i] at h
  exact h, fun W M x y a b z M' Q w ra rb e q => by
  unfold gIn at e
  split at e
  · cases ra
    cases rb
    cases e
    exact .inl ⟨_, _, rfl, rfl, q _ W (.refl W) w (.bl _)⟩
  · split at e
    · rename_i h1 h2
      split at e
      · rename_i hs
        cases e
        rw [Bool.and_eq_true] at hs
        exact .inr (.inl ⟨_, _, dp_of w ra h1, dp_of w rb h2, hs.1, hs.2, q _ W (.refl W) w (.bl _)⟩)
      · cases e
    · rename_i h1 h2
      split at e
      · rename_i hs
        cases e
        rw [Bool.and_eq_true] at hs
        exact .inr (.inr ⟨_, _, dp_of w ra h1, dp_of w rb h2, hs.1, hs.2, q _ W (.refl W) w (.bl _)⟩)
      · cases e
    · cases e⟩

/-! ### a list of the store stands still from here on -/
def eFrz (i : Nat) : EF := fun δ M => match δ[i]? with
  | some (some (.ref n)) => (match M[n]? with
    | some (.lst ds) => some (.lst ds, M.set n .dead)
    | _ => none)
  | _ => none
theorem DE.frz (j : Nat) {x : Str} {pos : Pos} (hN : ∀ i, (X i).N[j]? = some x := by intro _; rfl) (hv : ∀ i, Vis (X i).env.scope x := by intro _; first | exact Or.inl rfl | exact Or.inr (Or.inl rfl) | exact Or.inr (Or.inr rfl)) (hd : (x == ("__debug__" : Str)) = false := by decide)
    (hcd : (x == ("__classdict__" : Str)) = false := by decide) : DE X K (.Name x pos) (eFrz j) := by
  refine ⟨tVar j, fun i => pe_var (hN i) (hv i) hd hcd, fun σ W δ M d M' Q w s e q => ?_⟩
  unfold eFrz at e
  split at e
  · rename_i n h
    split at e
    · rename_i ds hm
      cases e
      obtain ⟨v, h1, h2⟩ := s.at_ _ _ h
      refine ⟨v, h1, ?_⟩
      cases h2 with
      | ref hi =>
        have lv : Live W M n _ (.lst ds) := ⟨hi, hm, fun z => by cases z⟩
        obtain ⟨_, _, o, ho, ro⟩ := w.live _ _ _ lv
        cases ro with
        | lst r1 => exact q _ (W.frz _ _) (Wd.frz_le w lv) (Wd.frz_ok w lv ho) (.lst upd_same (r1.le (Wd.frz_le w lv)))
    · cases e
  · cases e

/-! ### lists that change -/
def eMeth2 (g : D → List D → Mh → Option (D × Mh)) (f : EF) (a : AF) : EF := fun δ M => match f δ M with
  | some (o, M1) => if (lstOf M1 o).isSome then (match a δ M1 with
    | some (ds, M2) => g o ds M2
    | none => none) else none
  | none => none
def gApp : D → List D → Mh → Option (D × Mh) := fun o ds M => match o, ds with
  | .ref n, [d] => (match M[n]? with
    | some (.lst xs) => if xs.length < sizeLine then some (.non, M.set n (.lst (xs ++ [d]))) else none
    | _ => none)
  | _, _ => none
theorem lst_live {W : Wd} {M : Mh} {x : V} {n : Nat} {xs : List D} (w : W.Ok K M) (r : Rep K W.B W.ι x (.ref n)) (hm : M[n]? = some (.lst xs)) : ∃ a vs, x = .ref a ∧ Live W M n a (.lst xs) ∧ W.H a = some (.lst vs) ∧ RepL K W.B W.ι vs xs := by
  cases r with
  | ref hi =>
    have lv : Live W M n _ (.lst xs) := ⟨hi, hm, fun z => by cases z⟩
    obtain ⟨_, _, o, ho, ro⟩ := w.live _ _ _ lv
    cases ro with
    | lst r1 => exact ⟨_, _, rfl, lv, ho, r1⟩
/-- a method of a list -/
structure MetF (X : I → Cx) (K : PySem.W.Frag) (id : String) (g : D → List D → Mh → Option (D × Mh)) : Prop where
  go : ∃ r : V → List V → Hp → VK → Prop, (∀ i, MtR (X i) id r) ∧ ∀ (W : Wd) (M : Mh) (x : V) (o : D) (vs : List V) (ds : List D) (z : D) (M' : Mh) (Q : VK), W.Ok K M → Rep K W.B W.ι x o → RepL K W.B W.ι vs ds → g o ds M = some (z, M') → VR K W z M' Q → r x vs W.H Q
theorem DE.lmeth (c : Ctx X P w K mg base k) {o e : Expr} {es : List Expr} {name : Str} {id : String} {apos cpos : Pos} {g : D → List D → Mh → Option (D × Mh)} {f : EF} {a : AF} (m : MetF X K id g) (slot : Slot "list" name id) (ty : typeOf (.builtin id) = pure (.type "method_descriptor")) (ho : DE X K o f) (ha : DA X K (e :: es) a)
    (hbase : ∀ i, attributeBase o name (X i).env (eval o (X i).env) = eval o (X i).env := by intro _; rfl)
    (hfew : ∀ i, ((backTo cpos (starEach (e :: es) (X i).env)).all (fun x => !x.1) && (backToKw cpos (keywordEach [] (X i).env)).all (fun x => x.1.isSome) && decide ((e :: es).length + ([] : List Keyword).length + (if ([] : List Keyword).isEmpty then 0 else 1) < 30)) = true := by intro _; rfl)
    (hline : (apos.endLine == cpos.line) = true := by rfl) (hs : ∀ i, starEach (e :: es) (X i).env = (false, eval e (X i).env) :: starEach es (X i).env := by intro _; rfl) (hpl : ∀ i, (backTo cpos (starEach es (X i).env)).any (·.1) = false := by intro _; rfl) :
    DE X K (.Call (.Attribute o name apos) (e :: es) [] cpos) (eMeth2 g f a) := by
  obtain ⟨t, pa, r⟩ := ho.go
  obtain ⟨ta, paa, ra⟩ := ha.go
  obtain ⟨rr, hm, hr⟩ := m.go
  refine ⟨tBM K "list" rr t ta, fun i => ?_, fun σ W δ M d M' Q w s ev q => ?_⟩
  · have h := pe_bm (X := X i) PySem.F.plainAttrs_list slot ty (hm i) (pa i) (paa i) (hbase i) (hfew i) hline (hs i) (hpl i)
    rw [c.K i] at h
    exact h
  · unfold eMeth2 at ev
    split at ev
    · rename_i od M1 h1
      split at ev
      · rename_i hso
        split at ev
        · rename_i ds M2 h2
          obtain ⟨xs, hxs⟩ := Option.isSome_iff_exists.mp hso
          refine r σ W δ M _ _ _ w s h1 fun v W1 l1 w1 r1 => ⟨?_, ?_⟩
          · obtain ⟨l, vs, rfl, s1, _⟩ := lstOf_rep w1 r1 hxs
            exact .inl ⟨rfl, vs, s1⟩
          · exact ra σ W1 δ M1 _ _ _ w1 (s.le l1) h2 fun vs W2 l2 w2 r2 => hr W2 M2 v od vs ds d M' Q w2 (r1.le l2) r2 ev (q.le (l1.trans l2))
        · cases ev
      · cases ev
    · cases ev
theorem mApp : MetF X K "list.append" gApp := ⟨_, fun i => mt_append, fun W M x o vs ds z M' Q w rx rv ev q => by
  unfold gApp at ev
  split at ev
  · split at ev
    · rename_i xs hm
      split at ev
      · rename_i hl
        cases ev
        obtain ⟨p, us, rfl, lv, hp, ru⟩ := lst_live w rx hm
        cases rv with
        | cons ry r3 =>
          cases r3
          refine ⟨p, us, _, rfl, rfl, hp, by rw [ru.len]; exact hl, ?_⟩
          exact q .non (W.put p _) Wd.put_le (Wd.put_ok w lv (.lst (ru.append (.cons ry .nil)))) .non
      · cases ev
    · cases ev
  · cases ev⟩
def gIns : D → List D → Mh → Option (D × Mh) := fun o ds M => match o, ds with
  | .ref n, [.int i, d] => (match M[n]? with
    | some (.lst xs) => if xs.length < sizeLine ∧ 0 ≤ i ∧ i < 2 ^ 63 then some (.non, M.set n (.lst (xs.take i.toNat ++ [d] ++ xs.drop i.toNat))) else none
    | _ => none)
  | _, _ => none
theorem mIns : MetF X K "list.insert" gIns := ⟨_, fun i => mt_insert, fun W M x o vs ds z M' Q w rx rv ev q => by
  unfold gIns at ev
  split at ev
  · split at ev
    · rename_i xs hm
      split at ev
      · rename_i hl
        cases ev
        obtain ⟨p, us, rfl, lv, hp, ru⟩ := lst_live w rx hm
        cases rv with
        | cons ri rv =>
          cases ri
          cases rv with
          | cons ry r3 =>
            cases r3
            refine ⟨p, us, _, _, rfl, rfl, hp, by rw [ru.len]; exact hl.1, hl.2.1, hl.2.2, ?_⟩
            exact q .non (W.put p _) Wd.put_le (Wd.put_ok w lv (.lst (((ru.take _).append (.cons ry .nil)).append (ru.drop _)))) .non
      · cases ev
    · cases ev
  · cases ev⟩

/-! ### methods of texts -/
def eS0 (g : Str → Mh → Option (D × Mh)) (f : EF) : EF := fun δ M => match f δ M with
  | some (.str x, M1) => g x M1
  | _ => none
def eS1 (g : Str → D → Mh → Option (D × Mh)) (f h : EF) : EF := fun δ M => match f δ M with
  | some (.str x, M1) => (match h δ M1 with
    | some (d, M2) => g x d M2
    | none => none)
  | _ => none
structure SmF (X : I → Cx) (K : PySem.W.Frag) (id : String) (g : Str → D → Mh → Option (D × Mh)) : Prop where
  go : ∃ r : V → List V → Hp → VK → Prop, (∀ i, MtR (X i) id r) ∧ ∀ (W : Wd) (M : Mh) (x : Str) (v : V) (d : D) (z : D) (M' : Mh) (Q : VK), W.Ok K M → Rep K W.B W.ι v d → g x d M = some (z, M') → VR K W z M' Q → r (.str x) [v] W.H Q
theorem DE.smeth {o e : Expr} {name : Str} {id : String} {apos pos : Pos} {g : Str → D → Mh → Option (D × Mh)} {f h : EF} (m : SmF X K id g) (slot : Slot "str" name id) (ty : typeOf (.builtin id) = pure (.type "method_descriptor")) (ho : DE X K o f) (he : DE X K e h)
    (hs : ∀ i, starEach [e] (X i).env = [(false, eval e (X i).env)] := by intro _; rfl) (hbase : ∀ i, attributeBase o name (X i).env (eval o (X i).env) = eval o (X i).env := by intro _; rfl) (hline : (apos.endLine == pos.line) = true := by rfl) :
    DE X K (.Call (.Attribute o name apos) [e] [] pos) (eS1 g f h) := by
  obtain ⟨t, pa, r⟩ := ho.go
  obtain ⟨te, pe, re⟩ := he.go
  obtain ⟨rr, hm, hr⟩ := m.go
  refine ⟨tM1 rr t te, fun i => pe_m1 slot ty (hm i) (pa i) (pe i) (hs i) (hbase i) hline, fun σ W δ M d M' Q w s ev q => ?_⟩
  unfold eS1 at ev
  split at ev
  · rename_i x M1 h1
    split at ev
    · rename_i d2 M2 h2
      refine r σ W δ M _ _ _ w s h1 fun v W1 l1 w1 r1 => ?_
      cases r1
      exact ⟨⟨x, rfl⟩, re σ W1 δ M1 _ _ _ w1 (s.le l1) h2 fun u W2 l2 w2 r2 => hr W2 M2 x u d2 d M' Q w2 r2 ev (q.le (l1.trans l2))⟩
    · cases ev
  · cases ev
structure SmF0 (X : I → Cx) (K : PySem.W.Frag) (id : String) (g : Str → Mh → Option (D × Mh)) : Prop where
  go : ∃ r : V → List V → Hp → VK → Prop, (∀ i, MtR (X i) id r) ∧ ∀ (W : Wd) (M : Mh) (x : Str) (z : D) (M' : Mh) (Q : VK), W.Ok K M → g x M = some (z, M') → VR K W z M' Q → r (.str x) [] W.H Q
theorem DE.smeth0 {o : Expr} {name : Str} {id : String} {apos pos : Pos} {g : Str → Mh → Option (D × Mh)} {f : EF} (m : SmF0 X K id g) (slot : Slot "str" name id) (ty : typeOf (.builtin id) = pure (.type "method_descriptor")) (ho : DE X K o f)
    (hbase : ∀ i, attributeBase o name (X i).env (eval o (X i).env) = eval o (X i).env := by intro _; rfl) (hline : (apos.endLine == pos.line) = true := by rfl) :
    DE X K (.Call (.Attribute o name apos) [] [] pos) (eS0 g f) := by
  obtain ⟨t, pa, r⟩ := ho.go
  obtain ⟨rr, hm, hr⟩ := m.go
  refine ⟨tM0 rr t, fun i => pe_m0 slot ty (hm i) (pa i) (hbase i) hline, fun σ W δ M d M' Q w s ev q => ?_⟩
  unfold eS0 at ev
  split at ev
  · rename_i x M1 h1
    refine r σ W δ M _ _ _ w s h1 fun v W1 l1 w1 r1 => ?_
    cases r1
    exact ⟨⟨x, rfl⟩, hr W1 M1 x d M' Q w1 ev (q.le l1)⟩
  · cases ev
def strsOf : List D → Option (List Str)
  | [] => some []
  | .str i :: r => (match strsOf r with
    | some is => some (i :: is)
    | none => none)
  | _ => none
theorem rep_strs {B : Hp} {ι : List Addr} : ∀ {vs : List V} {ds : List D} {is : List Str}, RepL K B ι vs ds → strsOf ds = some is → vs = is.map V.str
  | _, _, _, .nil, e => by
    cases e
    rfl
  | _, _, _, .cons (d := d) r t, e => by
    unfold strsOf at e
    split at e
    · rename_i h1
      cases h1
    · rename_i h1
      split at e
      · rename_i is h2
        cases e
        cases h1
        cases r
        rw [List.map_cons, rep_strs t h2]
      · cases e
    · cases e
theorem strs_rep {B : Hp} {ι : List Addr} : ∀ ys : List Str, RepL K B ι (ys.map V.str) (ys.map D.str)
  | [] => .nil
  | y :: ys => .cons (.str y) (strs_rep ys)
def gJoin : Str → D → Mh → Option (D × Mh) := fun a d M => match (match d with
    | .tup xs => some xs
    | d => lstOf M d) with
  | some xs => (match strsOf xs with
    | some ys => if (ys.map (·.length)).sum + ys.length * a.length ≤ 16777216 then some (.str (Txt.join a ys), M) else none
    | none => none)
  | none => none
theorem sJoin (c : Ctx X P w K mg base k) : SmF X K "str.join" gJoin := ⟨fun x xs H Q => ∃ a p, ∃ ys : List Str, x = .str a ∧ xs = [.ref p] ∧ (SqL K H p (ys.map V.str) ∨ SqT K H p (ys.map V.str)) ∧ (ys.map (·.length)).sum + ys.length * a.length ≤ 16777216 ∧ Q (.str (Txt.join a ys)) H, fun i => by
  have h := mt_join (X := X i)
  rw [c.K i] at h
  exact h, fun W M x v d z M' Q w rv ev q => by
  unfold gJoin at ev
  split at ev
  · rename_i xs h1
    split at ev
    · rename_i ys h2
      split at ev
      · rename_i hz
        cases ev
        split at h1
        · cases h1
          obtain ⟨p, us, rfl, s1, q1⟩ := tup_rep w rv
          have := rep_strs q1 h2
          subst this
          exact ⟨x, p, ys, rfl, rfl, .inr s1, hz, q _ W (.refl W) w (.str _)⟩
        · obtain ⟨p, us, rfl, s1, q1⟩ := lstOf_rep w rv h1
          have := rep_strs q1 h2
          subst this
          exact ⟨x, p, ys, rfl, rfl, .inl s1, hz, q _ W (.refl W) w (.str _)⟩
      · cases ev
    · cases ev
  · cases ev⟩
def gSplit : Str → D → Mh → Option (D × Mh) := fun a d M => match d with
  | .str b => if (b.length == 0) = false ∧ a.length + 2 ≤ sizeLine then some (.lst ((Txt.split a b).map D.str), M) else none
  | _ => none
theorem sSplit : SmF X K "str.split" gSplit := ⟨_, fun i => mt_split, fun W M x v d z M' Q w rv ev q => by
  unfold gSplit at ev
  split at ev
  · split at ev
    · rename_i hz
      cases ev
      cases rv
      refine ⟨x, _, rfl, rfl, hz.1, hz.2, fun p hp => ?_⟩
      obtain ⟨l2, w2, r3⟩ := lay_lst w hp (strs_rep (Txt.split x _))
      exact q _ _ l2 w2 r3
    · cases ev
  · cases ev⟩
def gPart : Str → D → Mh → Option (D × Mh) := fun a d M => match d with
  | .str b => if (b.length == 0) = false ∧ a.length ≤ sizeLine then some (.tup [.str (Txt.partition a b).1, .str (Txt.partition a b).2.1, .str (Txt.partition a b).2.2], M) else none
  | _ => none
theorem sPart : SmF X K "str.partition" gPart := ⟨_, fun i => mt_partition, fun W M x v d z M' Q w rv ev q => by
  unfold gPart at ev
  split at ev
  · split at ev
    · rename_i hz
      cases ev
      cases rv
      refine ⟨x, _, rfl, rfl, hz.1, hz.2, fun p hp => ?_⟩
      obtain ⟨l2, w2, r3⟩ := lay_tup w hp (.cons (.str _) (.cons (.str _) (.cons (.str _) .nil)))
      exact q _ _ l2 w2 r3
    · cases ev
  · cases ev⟩
def gUpper : Str → Mh → Option (D × Mh) := fun a M => if a.length ≤ 5592405 then some (.str (Txt.upper a), M) else none
theorem sUpper : SmF0 X K "str.upper" gUpper := ⟨_, fun i => mt_upper, fun W M x z M' Q w ev q => by
  unfold gUpper at ev
  split at ev
  · rename_i hz
    cases ev
    exact ⟨x, rfl, rfl, hz, q _ W (.refl W) w (.str _)⟩
  · cases ev⟩

/-! ### f'..' -/
def eFmt (f : EF) : EF := fun δ M => match f δ M with
  | some (.str x, M1) => if x.length ≤ sizeLine then some (.str x, M1) else none
  | some (.int i, M1) => if i.natAbs.log2 < 1920 then some (.str (toString i), M1) else none
  | _ => none
theorem DE.fmt {e : Expr} {pos : Pos} {f : EF} (h : DE X K e f) : DE X K (.FormattedValue e (-1) none pos) (eFmt f) := by
  obtain ⟨t, p, r⟩ := h.go
  refine ⟨tFmt t, fun i => pe_fmt (p i), fun σ W δ M d M' Q w s ev q => ?_⟩
  unfold eFmt at ev
  split at ev
  · rename_i x M1 h1
    split at ev
    · rename_i hz
      cases ev
      refine r σ W δ M _ _ _ w s h1 fun v W1 l1 w1 r1 => ?_
      cases r1
      exact .inl ⟨x, rfl, hz, q _ W1 l1 w1 (.str _)⟩
    · cases ev
  · rename_i x M1 h1
    split at ev
    · rename_i hz
      cases ev
      refine r σ W δ M _ _ _ w s h1 fun v W1 l1 w1 r1 => ?_
      cases r1
      exact .inr ⟨x, rfl, hz, q _ W1 l1 w1 (.str _)⟩
    · cases ev
  · cases ev
structure DJ (X : I → Cx) (K : PySem.W.Frag) (es : List Expr) (f : Str → Env → Mh → Option (D × Mh)) : Prop where
  go : ∃ ts : List TE, (∀ i, PJ (X i) es ts) ∧ ∀ (acc : Str) (σ : St) (W : Wd) (δ : Env) (M : Mh) (d : D) (M' : Mh) (Q : VK), W.Ok K M → Slots K W σ δ → f acc δ M = some (d, M') → VR K W d M' Q → tJs ts acc σ W.H (fun out H1 => Q (.str out) H1)
def jNil : Str → Env → Mh → Option (D × Mh) := fun acc _ M => some (.str acc, M)
def jCons (f : EF) (g : Str → Env → Mh → Option (D × Mh)) : Str → Env → Mh → Option (D × Mh) := fun acc δ M => match f δ M with
  | some (.str x, M1) => if (acc ++ x).length ≤ sizeLine then g (acc ++ x) δ M1 else none
  | _ => none
theorem DJ.nil : DJ X K [] jNil := ⟨[], fun i => .nil, fun acc σ W δ M d M' Q w s ev q => by
  cases ev
  exact q _ W (.refl W) w (.str _)⟩
theorem DJ.cons {e : Expr} {es : List Expr} {f : EF} {g : Str → Env → Mh → Option (D × Mh)} (a : DE X K e f) (b : DJ X K es g) : DJ X K (e :: es) (jCons f g) := by
  obtain ⟨t, p, r⟩ := a.go
  obtain ⟨ts, ps, rs⟩ := b.go
  refine ⟨t :: ts, fun i => .cons (p i) (ps i), fun acc σ W δ M d M' Q w s ev q => ?_⟩
  unfold jCons at ev
  split at ev
  · rename_i x M1 h1
    split at ev
    · rename_i hz
      refine r σ W δ M _ _ _ w s h1 fun v W1 l1 w1 r1 => ?_
      cases r1
      exact ⟨x, rfl, hz, rs _ σ W1 δ M1 d M' Q w1 (s.le l1) ev (q.le l1)⟩
    · cases ev
  · cases ev
theorem DE.joined {v1 v2 : Expr} {rest : List Expr} {pos : Pos} {f : Str → Env → Mh → Option (D × Mh)} (h : DJ X K (v1 :: v2 :: rest) f) : DE X K (.JoinedStr (v1 :: v2 :: rest) pos) (f Str.empty) := by
  obtain ⟨ts, ps, rs⟩ := h.go
  exact ⟨_, fun i => pe_joined (ps i), fun σ W δ M d M' Q w s ev q => rs Str.empty σ W δ M d M' Q w s ev q⟩

/-! ### texts, enumerate, zip walked -/
def aSigns (f : EF) : AF := fun δ M => match f δ M with
  | some (.str x, M1) => some (x.cps.toList.map fun c => .str ⟨#[c]⟩, M1)
  | _ => none
theorem DI.str {tg e : Expr} {f : EF} (h : DE X K e f) : DI X K tg e (aSigns f) := by
  obtain ⟨t, p, r⟩ := h.go
  refine ⟨iStr t, fun i => pi_str (p i), fun σ W δ M ds M' R w s ev q => ?_⟩
  unfold aSigns at ev
  split at ev
  · rename_i x M1 h1
    cases ev
    refine r σ W δ M _ _ _ w s h1 fun v W1 l1 w1 r1 => ?_
    cases r1
    refine ⟨x, rfl, q _ W1 l1 w1 fun i W2 M2 l2 w2 => ⟨fun e => ?_, fun d e => ?_⟩⟩
    · have := List.getElem?_eq_none_iff.mp e
      rw [List.length_map, Array.length_toList] at this
      exact this
    · rw [List.getElem?_map] at e
      cases hc : x.cps.toList[i]? with
      | none =>
        rw [hc] at e
        cases e
      | some c =>
        rw [hc] at e
        cases e
        have hi : i < x.cps.size := by
          have := (List.getElem?_eq_some_iff.mp hc).1
          simpa using this
        refine ⟨hi, fun y H' ⟨e1, c', e2, e3⟩ => ⟨W2, e1.symm, .refl W2, w2, ?_⟩⟩
        have e4 : some c' = some c := by rw [← e2, ← hc]; simp
        cases e4
        subst e3
        exact .str _
  · cases ev
theorem wk_pair {J : It} {W0 : Wd} {ds es : List D} {n : Nat} (hs : ∀ (W : Wd) (M : Mh), W0.Lo W → W.Ok K M → (∀ i, n ≤ i → J.stop i W.H) ∧ ∀ i a b, i < n → ds[i]? = some a → es[i]? = some b → J.go i W.H ∧ ∀ x H', J.yld i W.H x H' → ∃ T x1 x2, x = .ref T ∧ W.H T = none ∧ H' = upd W.H T (.tup [x1, x2]) ∧ Rep K W.B W.ι x1 a ∧ Rep K W.B W.ι x2 b)
    (h1 : n ≤ ds.length) (h2 : n ≤ es.length) (hn : n = min ds.length es.length) : Wk K J W0 ((ds.zip es).map fun p => .tup [p.1, p.2]) := fun i W M l w => by
  obtain ⟨hst, hgo⟩ := hs W M l w
  refine ⟨fun e => ?_, fun d e => ?_⟩
  · have := List.getElem?_eq_none_iff.mp e
    rw [List.length_map, List.length_zip] at this
    exact hst i (by omega)
  · rw [List.getElem?_map] at e
    cases hz : (ds.zip es)[i]? with
    | none =>
      rw [hz] at e
      cases e
    | some p =>
      rw [hz] at e
      cases e
      obtain ⟨a1, a2⟩ := List.getElem?_zip_eq_some.mp hz
      have hi : i < n := by
        have := (List.getElem?_eq_some_iff.mp hz).1
        rw [List.length_zip] at this
        omega
      obtain ⟨g1, g2⟩ := hgo i _ _ hi a1 a2
      refine ⟨g1, fun x H' y => ?_⟩
      obtain ⟨T, x1, x2, rfl, hT, rfl, r1, r2⟩ := g2 x H' y
      obtain ⟨l2, w2, r3⟩ := lay_tup w hT (.cons r1 (.cons r2 .nil))
      exact ⟨_, rfl, l2, w2, r3⟩
def aEnum (a : AF) : AF := fun δ M => match a δ M with
  | some ([.lst xs], M1) => some ((((List.range xs.length).map fun (i : Nat) => D.int i).zip xs).map fun p => .tup [p.1, p.2], M1)
  | some ([.lsk xs], M1) => some ((((List.range xs.length).map fun (i : Nat) => D.int i).zip xs).map fun p => .tup [p.1, p.2], M1)
  | _ => none
theorem wk_enum {W0 : Wd} {a : Addr} {vs : List V} {ds : List D} (h : SqL K W0.B a vs) (r : RepL K W0.B W0.ι vs ds) : Wk K (Ite K a) W0 ((((List.range ds.length).map fun (i : Nat) => D.int i).zip ds).map fun p => .tup [p.1, p.2]) := by
  refine wk_pair (n := ds.length) (fun W M l w => ⟨fun i hi => ?_, fun i d1 d2 hi e1 e2 => ?_⟩) (by simp) (Nat.le_refl _) (by simp)
  · exact ⟨vs, sqL_mono w.sub (sqL_mono l.same h), by rw [r.len]; exact hi⟩
  · have hs : SqL K W.H a vs := sqL_mono w.sub (sqL_mono l.same h)
    obtain ⟨v, h1, h2⟩ := (r.mono l.same l.ix).get e2
    refine ⟨⟨vs, v, hs, h1⟩, fun x H' ⟨T, x2, a1, a2, a3, a4⟩ => ⟨T, _, x2, a1, a2, a3, ?_, ?_⟩⟩
    · rw [List.getElem?_map, List.getElem?_range hi] at e1
      cases e1
      exact .int _
    · have e3 := (a4 vs hs).symm.trans h1
      cases e3
      exact h2
theorem DI.enum (c : Ctx X P w K mg base k) (hm : mg "enumerate" = none) {e : Expr} {p pos tpos : Pos} {elts : List Expr} {kk : Nat} {a : AF} (h : DA X K [e] a) (hg : ∀ i, Gl (X i) "enumerate" := by intro _; rfl) (hs : ∀ i, starEach [e] (X i).env = [(false, eval e (X i).env)] := by intro _; rfl) :
    DI X K (.Tuple elts kk tpos) (.Call (.Name "enumerate" p) [e] [] pos) (aEnum a) := by
  obtain ⟨t, pa, r⟩ := h.go
  refine ⟨iEnum K t, fun i => ?_, fun σ W δ M ds M' R w s ev q => ?_⟩
  · have h := pi_enum (X := X i) (hg i) (by rw [c.mg i]; exact hm) (pa i) (hs i) (p := p) (pos := pos) (tpos := tpos) (elts := elts) (kk := kk)
    rw [c.K i] at h
    exact h
  · unfold aEnum at ev
    split at ev
    · rename_i xs M1 h1
      cases ev
      refine r σ W δ M _ _ _ w s h1 fun vs W1 l1 w1 r1 => ?_
      cases r1 with
      | cons r1 r2 =>
        cases r2
        cases r1 with
        | lst h1 r1 => exact ⟨_, _, rfl, .inl (.inl (w1.sub _ _ h1)), q _ W1 l1 w1 (wk_enum (.inl (.inl h1)) r1)⟩
    · rename_i xs M1 h1
      cases ev
      refine r σ W δ M _ _ _ w s h1 fun vs W1 l1 w1 r1 => ?_
      cases r1 with
      | cons r1 r2 =>
        cases r2
        cases r1 with
        | lsk h1 r1 => exact ⟨_, _, rfl, sqL_mono w1.sub h1, q _ W1 l1 w1 (wk_enum h1 r1)⟩
    · cases ev
def aZip (a : AF) : AF := fun δ M => match a δ M with
  | some ([.lst xs, .lst ys], M1) => some ((xs.zip ys).map fun p => .tup [p.1, p.2], M1)
  | some ([.tup xs, .tup ys], M1) => some ((xs.zip ys).map fun p => .tup [p.1, p.2], M1)
  | _ => none
theorem wk_zip {W0 : Wd} {a b : Addr} {vs us : List V} {ds es : List D} (h : SqL K W0.B a vs) (r : RepL K W0.B W0.ι vs ds) (h' : SqL K W0.B b us) (r' : RepL K W0.B W0.ι us es) : Wk K (Itz K a b) W0 ((ds.zip es).map fun p => .tup [p.1, p.2]) := by
  refine wk_pair (n := min ds.length es.length) (fun W M l w => ⟨fun i hi => ?_, fun i d1 d2 hi e1 e2 => ?_⟩) (Nat.min_le_left _ _) (Nat.min_le_right _ _) rfl
  · exact ⟨vs, us, sqL_mono w.sub (sqL_mono l.same h), sqL_mono w.sub (sqL_mono l.same h'), by rw [r.len, r'.len]; omega⟩
  · have hs : SqL K W.H a vs := sqL_mono w.sub (sqL_mono l.same h)
    have hs' : SqL K W.H b us := sqL_mono w.sub (sqL_mono l.same h')
    obtain ⟨v, h1, h2⟩ := (r.mono l.same l.ix).get e1
    obtain ⟨u, h3, h4⟩ := (r'.mono l.same l.ix).get e2
    refine ⟨⟨vs, us, v, u, hs, hs', h1, h3⟩, fun x H' ⟨T, x1, x2, a1, a2, a3, a4, a5⟩ => ⟨T, x1, x2, a1, a2, a3, ?_, ?_⟩⟩
    · have e3 := (a4 vs hs).symm.trans h1
      cases e3
      exact h2
    · have e3 := (a5 us hs').symm.trans h3
      cases e3
      exact h4
theorem wk_zipT {W0 : Wd} {a b : Addr} {vs us : List V} {ds es : List D} (h : SqT K W0.B a vs) (r : RepL K W0.B W0.ι vs ds) (h' : SqT K W0.B b us) (r' : RepL K W0.B W0.ι us es) : Wk K (RZ.ItzT K a b) W0 ((ds.zip es).map fun p => .tup [p.1, p.2]) := by
  refine wk_pair (n := min ds.length es.length) (fun W M l w => ⟨fun i hi => ?_, fun i d1 d2 hi e1 e2 => ?_⟩) (Nat.min_le_left _ _) (Nat.min_le_right _ _) rfl
  · exact ⟨vs, us, sqT_mono w.sub (sqT_mono l.same h), sqT_mono w.sub (sqT_mono l.same h'), by rw [r.len, r'.len]; omega⟩
  · have hs : SqT K W.H a vs := sqT_mono w.sub (sqT_mono l.same h)
    have hs' : SqT K W.H b us := sqT_mono w.sub (sqT_mono l.same h')
    obtain ⟨v, h1, h2⟩ := (r.mono l.same l.ix).get e1
    obtain ⟨u, h3, h4⟩ := (r'.mono l.same l.ix).get e2
    refine ⟨⟨vs, us, v, u, hs, hs', h1, h3⟩, fun x H' ⟨T, x1, x2, a1, a2, a3, a4, a5⟩ => ⟨T, x1, x2, a1, a2, a3, ?_, ?_⟩⟩
    · have e3 := (a4 vs hs).symm.trans h1
      cases e3
      exact h2
    · have e3 := (a5 us hs').symm.trans h3
      cases e3
      exact h4
theorem DI.zip (c : Ctx X P w K mg base k) (hm : mg "zip" = none) {e e2 : Expr} {p pos tpos : Pos} {elts : List Expr} {kk : Nat} {a : AF} (h : DA X K [e, e2] a) (hg : ∀ i, Gl (X i) "zip" := by intro _; rfl) (hs : ∀ i, starEach [e, e2] (X i).env = (false, eval e (X i).env) :: starEach [e2] (X i).env := by intro _; rfl) (hpl : ∀ i, (backTo pos (starEach [e2] (X i).env)).any (·.1) = false := by intro _; rfl) :
    DI X K (.Tuple elts kk tpos) (.Call (.Name "zip" p) [e, e2] [] pos) (aZip a) := by
  obtain ⟨t, pa, r⟩ := h.go
  refine ⟨RZ.iZipA K t, fun i => ?_, fun σ W δ M ds M' R w s ev q => ?_⟩
  · have h := RZ.pi_zipA (X := X i) (hg i) (by rw [c.mg i]; exact hm) (pa i) (hs i) (hpl i) (p := p) (pos := pos) (tpos := tpos) (elts := elts) (kk := kk)
    rw [c.K i] at h
    exact h
  · unfold aZip at ev
    split at ev
    · rename_i xs ys M1 h1
      cases ev
      refine r σ W δ M _ _ _ w s h1 fun vs W1 l1 w1 r1 => ?_
      cases r1 with
      | cons r1 r2 =>
        cases r2 with
        | cons r2 r3 =>
          cases r3
          cases r1 with
          | lst h1 r1 =>
            cases r2 with
            | lst h2 r2 => exact ⟨_, _, _, _, rfl, .inl ⟨.inl (.inl (w1.sub _ _ h1)), .inl (.inl (w1.sub _ _ h2)), q _ W1 l1 w1 (wk_zip (.inl (.inl h1)) r1 (.inl (.inl h2)) r2)⟩⟩
    · rename_i xs ys M1 h1
      cases ev
      refine r σ W δ M _ _ _ w s h1 fun vs W1 l1 w1 r1 => ?_
      cases r1 with
      | cons r1 r2 =>
        cases r2 with
        | cons r2 r3 =>
          cases r3
          cases r1 with
          | tup h1 r1 =>
            cases r2 with
            | tup h2 r2 => exact ⟨_, _, _, _, rfl, .inr ⟨sqT_mono w1.sub h1, sqT_mono w1.sub h2, q _ W1 l1 w1 (wk_zipT h1 r1 h2 r2)⟩⟩
    · cases ev
end
end Pl

namespace Pl
open PySem L2
section
variable {I : Type} {X : I → Cx} {P : Program} {w : World} {K : PySem.W.Frag} {mg : Str → Option Value} {base : Heap} {k : Nat}
/-- what is never reached -/
def sNever : SF := fun _ _ => none
theorem DS.never {s : Stmt} : DS X K s sNever := ⟨tNever, fun i => ps_never, fun σ W δ M o E w s e q => by cases e⟩
theorem DB.never {s : List Stmt} : DB X K s sNever := ⟨tNever, fun i => pss_never, fun σ W δ M o E w s e q => by cases e⟩
/-- a text alone -/
theorem DS.doc {x : Str} {j pos pos'} : DS X K (.Expr (.Constant (.str x) j pos) pos') sNil := ⟨tNext, fun i => ps_doc, fun σ W δ M o E w s e q => by
  cases e
  exact q σ W (.refl W) w s⟩

/-! ### dicts -/
def dget (kvs : List (Key × D)) (q : Key) : Option D := (kvs.find? fun kv => decide (kv.1 = q)).map (·.2)
def dput (kvs : List (Key × D)) (q : Key) (v : D) : List (Key × D) :=
  if (kvs.any fun kv => decide (kv.1 = q)) = true then kvs.map (fun kv => if kv.1 = q then (kv.1, v) else kv) else kvs ++ [(q, v)]
def dmerge (kvs : List (Key × D)) : List (Key × D) := kvs.foldl (fun acc kv => dput acc kv.1 kv.2) []
section
variable {B : Hp} {ι : List Addr}
theorem RepK.len : ∀ {vs : List (Key × V)} {ds : List (Key × D)}, RepK K B ι vs ds → vs.length = ds.length
  | _, _, .nil => rfl
  | _, _, .cons _ r => congrArg (· + 1) r.len
theorem RepK.any (q : Key) : ∀ {vs : List (Key × V)} {ds : List (Key × D)}, RepK K B ι vs ds → (vs.any fun kv => decide (kv.1 = q)) = (ds.any fun kv => decide (kv.1 = q))
  | _, _, .nil => rfl
  | _, _, .cons _ r => by
    rw [List.any_cons, List.any_cons, r.any]
theorem RepK.get (q : Key) : ∀ {vs : List (Key × V)} {ds : List (Key × D)}, RepK K B ι vs ds → (dget ds q = none → valV vs q = none) ∧ ∀ d, dget ds q = some d → ∃ v, valV vs q = some v ∧ Rep K B ι v d
  | _, _, .nil => ⟨fun _ => rfl, fun d e => by cases e⟩
  | _, _, .cons (k := k0) (v := v0) (d := d0) r0 r => by
    obtain ⟨h1, h2⟩ := r.get q
    by_cases e : k0 = q
    · refine ⟨fun h => ?_, fun d h => ?_⟩
      · simp [dget, List.find?_cons, e] at h
      · simp [dget, List.find?_cons, e] at h
        subst h
        exact ⟨v0, valV_pos e, r0⟩
    · have e1 : ∀ rest : List (Key × D), dget ((k0, d0) :: rest) q = dget rest q := fun rest => by simp [dget, List.find?_cons, e]
      refine ⟨fun h => ?_, fun d h => ?_⟩
      · rw [e1] at h
        rw [valV_neg e]
        exact h1 h
      · rw [e1] at h
        rw [valV_neg e]
        exact h2 d h
theorem RepK.append : ∀ {vs us : List (Key × V)} {ds es : List (Key × D)}, RepK K B ι vs ds → RepK K B ι us es → RepK K B ι (vs ++ us) (ds ++ es)
  | _, _, _, _, .nil, s => s
  | _, _, _, _, .cons r t, s => .cons r (t.append s)
theorem RepK.map_put (q : Key) {v : V} {d : D} (rv : Rep K B ι v d) : ∀ {vs : List (Key × V)} {ds : List (Key × D)}, RepK K B ι vs ds → RepK K B ι (vs.map fun kv => if kv.1 = q then (kv.1, v) else kv) (ds.map fun kv => if kv.1 = q then (kv.1, d) else kv)
  | _, _, .nil => .nil
  | _, _, .cons (k := k0) r0 r => by
    have ih := RepK.map_put q rv r
    rw [List.map_cons, List.map_cons]
    by_cases e : k0 = q
    · simp only [e, if_true]
      exact .cons rv ih
    · simp only [e, if_false]
      exact .cons r0 ih
theorem RepK.put (q : Key) {v : V} {d : D} (rv : Rep K B ι v d) {vs : List (Key × V)} {ds : List (Key × D)} (r : RepK K B ι vs ds) : RepK K B ι (putK vs q v) (dput ds q d) := by
  unfold putK dput
  rw [r.any q]
  split
  · exact r.map_put q rv
  · exact r.append (.cons rv .nil)
theorem RepK.merge {vs : List (Key × V)} {ds : List (Key × D)} (r : RepK K B ι vs ds) : RepK K B ι (mergeK [] vs) (dmerge ds) := by
  unfold mergeK dmerge
  have h : ∀ {a : List (Key × V)} {b : List (Key × D)}, RepK K B ι a b → RepK K B ι (vs.foldl (fun acc kv => putK acc kv.1 kv.2) a) (ds.foldl (fun acc kv => dput acc kv.1 kv.2) b) := by
    induction r with
    | nil => exact fun h => h
    | @cons k0 v0 d0 vs ds r0 r ih => exact fun h => ih (h.put k0 r0)
  exact h .nil
end
def keyOf : D → Option Key
  | .int i => some (.inl i)
  | .str x => some (.inr x)
  | _ => none
theorem keyOf_rep {B : Hp} {ι : List Addr} {v : V} {d : D} {q : Key} (r : Rep K B ι v d) (h : keyOf d = some q) : v = kV q := by
  cases r <;> cases h <;> rfl
def dicOf (M : Mh) : D → Option (List (Key × D))
  | .ref n => (match M[n]? with
    | some (.dic kvs) => some kvs
    | _ => none)
  | _ => none
theorem dicOf_rep {W : Wd} {M : Mh} {x : V} {d : D} {kvs : List (Key × D)} (w : W.Ok K M) (r : Rep K W.B W.ι x d) (h : dicOf M d = some kvs) : ∃ a n vs, d = .ref n ∧ x = .ref a ∧ Live W M n a (.dic kvs) ∧ W.H a = some (.dK vs) ∧ RepK K W.B W.ι vs kvs := by
  unfold dicOf at h
  split at h
  · split at h
    · rename_i hm
      cases h
      cases r with
      | ref hi =>
        have lv : Live W M _ _ (.dic kvs) := ⟨hi, hm, fun z => by cases z⟩
        obtain ⟨_, _, o, ho, ro⟩ := w.live _ _ _ lv
        cases ro with
        | dic r1 => exact ⟨_, _, _, rfl, rfl, lv, ho, r1⟩
    · cases h
  · cases h
def gDget : O2 := fun a b M => match dicOf M a, keyOf b with
  | some kvs, some q => (dget kvs q).map fun d => (d, M)
  | _, _ => none
theorem hu1 {A : Around} {j : Nat} (r : Room j A) : A.units + 1 < cLine := by
  have := r.un
  omega
theorem DE.dgt (c : Ctx X P w K mg base k) {a b : Expr} {pos} {f g : EF} (ha : DE X K a f) (hb : DE X K b g) (hs : NoSl b := by exact fun _ _ => rfl) : DE X K (.Subscript a b pos) (eOp gDget f g) := by
  obtain ⟨ta, pa, ra⟩ := ha.go
  obtain ⟨tb, pb, rb⟩ := hb.go
  refine ⟨tDGet ta tb, fun i => pe_dget (hu1 (c.room i)) (pa i) (pb i) hs, fun σ W δ M d M' Q w s e q => ?_⟩
  unfold eOp at e
  split at e
  · rename_i a' M1 h1
    split at e
    · rename_i b' M2 h2
      refine ra σ W δ M a' M1 _ w s h1 fun x W1 l1 w1 r1 => ?_
      refine rb σ W1 δ M1 b' M2 _ w1 (s.le l1) h2 fun y W2 l2 w2 r2 => ?_
      unfold gDget at e
      split at e
      · rename_i kvs q0 h3 h4
        obtain ⟨p, n, vs, _, rfl, lv, hp, rk⟩ := dicOf_rep w2 (r1.le l2) h3
        have ey := keyOf_rep r2 h4
        subst ey
        cases hd : Pl.dget kvs q0 with
        | none =>
          rw [hd] at e
          cases e
        | some d0 =>
          rw [hd] at e
          cases e
          obtain ⟨v, hv, rv⟩ := (rk.get q0).2 _ hd
          exact ⟨p, v, rfl, by rw [← hv]; exact DGet.k hp, q v W2 (l1.trans l2) w2 rv⟩
      · cases e
    · cases e
  · cases e
def gDput (a b v : D) (M : Mh) : Option Mh := match a with
  | .ref n => (match M[n]?, keyOf b with
    | some (.dic kvs), some q => if kvs.length < sizeLine then some (M.set n (.dic (dput kvs q v))) else none
    | _, _ => none)
  | _ => none
def sDput (f g h : EF) : SF := fun δ M => match h δ M with
  | some (v, M1) => (match f δ M1 with
    | some (a, M2) => (match g δ M2 with
      | some (b, M3) => (match gDput a b v M3 with
        | some M4 => some (.nx δ M4)
        | none => none)
      | none => none)
    | none => none)
  | none => none
theorem DS.dput (c : Ctx X P w K mg base k) {o i v : Expr} {pos pos'} {f g h : EF} (ho : DE X K o f) (hi : DE X K i g) (hv : DE X K v h) (hs : ∀ j, swapsWith v (some (.Subscript o i pos')) pos.line (X j).env = pure false := by intro _; rfl) :
    DS X K (.Assign [.Subscript o i pos'] v pos) (sDput f g h) := by
  obtain ⟨to, po, ro⟩ := ho.go
  obtain ⟨ti, pi, ri⟩ := hi.go
  obtain ⟨tv, pv', rv⟩ := hv.go
  refine ⟨sDPut to ti tv, fun j => ps_dput (hu1 (c.room j)) (po j) (pi j) (pv' j) (hs j), fun σ W δ M out E w s e q => ?_⟩
  unfold sDput at e
  split at e
  · rename_i vd M1 h1
    split at e
    · rename_i od M2 h2
      split at e
      · rename_i id M3 h3
        split at e
        · rename_i M4 h4
          cases e
          refine rv σ W δ M vd M1 _ w s h1 fun v W1 l1 w1 r1 => ?_
          refine ro σ W1 δ M1 od M2 _ w1 (s.le l1) h2 fun x W2 l2 w2 r2 => ?_
          refine ri σ W2 δ M2 id M3 _ w2 (s.le (l1.trans l2)) h3 fun y W3 l3 w3 r3 => ?_
          unfold gDput at h4
          split at h4
          · rename_i n
            split at h4
            · rename_i kvs q0 h5 h6
              split at h4
              · rename_i hl
                cases h4
                obtain ⟨p, n', vs, en, rfl, lv, hp, rk⟩ := dicOf_rep (kvs := kvs) w3 (r2.le l3) (by unfold dicOf; dsimp only; rw [h5])
                cases en
                have ey := keyOf_rep r3 h6
                subst ey
                refine ⟨p, _, rfl, DPut.k hp (by rw [rk.len]; exact hl), ?_⟩
                have l13 := (l1.trans l2).trans l3
                exact q σ (W3.put p _) (l13.trans Wd.put_le) (Wd.put_ok w3 lv (.dic (rk.put q0 (r1.le (l2.trans l3))))) (s.le (l13.trans Wd.put_le))
              · cases h4
            · cases h4
          · cases h4
        · cases e
      · cases e
    · cases e
  · cases e
/-- pairs of a display -/
structure DPs (X : I → Cx) (K : PySem.W.Frag) (pos : Pos) (keys : List (Option Expr)) (values : List Expr) (f : Env → Mh → Option (List (Key × D) × Mh)) : Prop where
  go : ∃ trs : List (TE × TE), (∀ i, PPs (X i) pos keys values trs) ∧ ∀ (σ : St) (W : Wd) (δ : Env) (M : Mh) (kvs : List (Key × D)) (M' : Mh) (Q : List (V × V) → Hp → Prop), W.Ok K M → Slots K W σ δ → f δ M = some (kvs, M') →
    (∀ vs W', W.Le W' → W'.Ok K M' → RepK K W'.B W'.ι vs kvs → Q (vs.map fun kv => (kV kv.1, kv.2)) W'.H) → tPairs trs σ W.H Q
def psNil : Env → Mh → Option (List (Key × D) × Mh) := fun _ M => some ([], M)
def psCons (f g : EF) (h : Env → Mh → Option (List (Key × D) × Mh)) : Env → Mh → Option (List (Key × D) × Mh) := fun δ M => match f δ M with
  | some (a, M1) => (match g δ M1 with
    | some (v, M2) => (match keyOf a with
      | some q => (match h δ M2 with
        | some (r, M3) => some ((q, v) :: r, M3)
        | none => none)
      | none => none)
    | none => none)
  | none => none
theorem DPs.nil {pos : Pos} : DPs X K pos [] [] psNil := ⟨[], fun i => pps_nil, fun σ W δ M kvs M' Q w s e q => by
  cases e
  exact q [] W (.refl W) w .nil⟩
theorem DPs.cons {pos : Pos} {a v : Expr} {ks : List (Option Expr)} {vs : List Expr} {f g : EF} {h : Env → Mh → Option (List (Key × D) × Mh)} (ha : DE X K a f) (hv : DE X K v g) (hr : DPs X K pos ks vs h) : DPs X K pos (some a :: ks) (v :: vs) (psCons f g h) := by
  obtain ⟨ta, pa, ra⟩ := ha.go
  obtain ⟨tv, pv', rv⟩ := hv.go
  obtain ⟨ts, ps, rs⟩ := hr.go
  refine ⟨(ta, tv) :: ts, fun i => pps_cons (pa i) (pv' i) (ps i), fun σ W δ M kvs M' Q w s e q => ?_⟩
  unfold psCons at e
  split at e
  · rename_i ad M1 h1
    split at e
    · rename_i vd M2 h2
      split at e
      · rename_i q0 h3
        split at e
        · rename_i r M3 h4
          cases e
          refine ra σ W δ M _ _ _ w s h1 fun x W1 l1 w1 r1 => ?_
          refine rv σ W1 δ M1 _ _ _ w1 (s.le l1) h2 fun y W2 l2 w2 r2 => ?_
          refine rs σ W2 δ M2 _ _ _ w2 (s.le (l1.trans l2)) h4 fun us W3 l3 w3 r3 => ?_
          have ex := keyOf_rep r1 h3
          subst ex
          exact q ((q0, y) :: us) W3 ((l1.trans l2).trans l3) w3 (.cons (r2.le l3) r3)
        · cases e
      · cases e
    · cases e
  · cases e
def eDic (h : Env → Mh → Option (List (Key × D) × Mh)) : EF := fun δ M => match h δ M with
  | some (kvs, M1) => if kvs.length ≤ 15 then some (.ref M1.length, M1 ++ [.dic (dmerge kvs)]) else none
  | none => none
theorem Wd.unhold_new {W : Wd} {M : Mh} {p : Addr} {o o' : HO} {m : MO} {P0 : Hp} (w : W.Ok K M) (hP : W.P = upd P0 p o) (h0 : P0 p = none) (r : RepO K W.B W.ι p o' m) : (⟨upd W.H p o', W.B, W.ι ++ [p], P0⟩ : Wd).Ok K (M ++ [m]) := by
  have hp : W.P p = some o := by rw [hP, upd_same]
  have bp := w.pin p o hp
  have ne : ∀ {n a u}, Live W M n a u → a ≠ p := fun {n a u} h e => by
    obtain ⟨_, q, _⟩ := w.live n a u h
    rw [e, hp] at q
    cases q
  have lv : ∀ n a u, Live (⟨upd W.H p o', W.B, W.ι ++ [p], P0⟩ : Wd) (M ++ [m]) n a u → Live W M n a u ∨ (n = M.length ∧ a = p ∧ u = m) := fun n a u h => by
    obtain ⟨h1, h2, h3⟩ := h
    have h1' : (W.ι ++ [p])[n]? = some a := h1
    by_cases hn : n < M.length
    · rw [List.getElem?_append_left (by rw [w.len]; exact hn)] at h1'
      rw [List.getElem?_append_left hn] at h2
      exact .inl ⟨h1', h2, h3⟩
    · have e : n = M.length := by
        have := (List.getElem?_eq_some_iff.mp h2).1
        rw [List.length_append] at this
        simp at this
        omega
      subst e
      rw [List.getElem?_append_right (by rw [w.len]; exact Nat.le_refl _), w.len] at h1'
      rw [List.getElem?_append_right (Nat.le_refl _)] at h2
      simp at h1' h2
      exact .inr ⟨rfl, h1'.symm, h2.symm⟩
  have ln : ∀ {n a u}, Live W M n a u → n < M.length := fun {n a u} h => (List.getElem?_eq_some_iff.mp h.2.1).1
  have ix : ∀ (n : Nat) (c : Addr), W.ι[n]? = some c → (W.ι ++ [p])[n]? = some c := fun n c h => by
    rw [List.getElem?_append_left (List.getElem?_eq_some_iff.mp h).1]
    exact h
  refine ⟨fun a u h => ?_, fun a u h => ?_, ?_, fun n a u h => ?_, fun n j a u v h g => ?_⟩
  · exact (upd_ne (fun e => by
      rw [e] at h
      have h' : W.B p = some u := h
      rw [bp.2] at h'
      cases h')).trans (w.sub a u h)
  · have h' : P0 a = some u := h
    have e : a ≠ p := fun e => by
      rw [e, h0] at h'
      cases h'
    have q := w.pin a u (by rw [hP, upd_ne e]; exact h')
    exact ⟨(upd_ne e).trans q.1, q.2⟩
  · show (W.ι ++ [p]).length = _
    simp [w.len]
  · rcases lv n a u h with h | ⟨_, rfl, rfl⟩
    · obtain ⟨h1, h2, g, h3, h4⟩ := w.live n a u h
      have e := ne h
      rw [hP, upd_ne e] at h2
      exact ⟨h1, h2, g, (upd_ne e).trans h3, h4.mono (fun _ _ q => q) ix⟩
    · exact ⟨bp.2, h0, o', upd_same, r.mono (fun _ _ q => q) ix⟩
  · rcases lv n a u h with h | ⟨h1, h2, h3⟩
    · rcases lv j a v g with g | ⟨g1, g2, g3⟩
      · exact w.inj n j a u v h g
      · exact absurd g2 (ne h)
    · rcases lv j a v g with g | ⟨g1, g2, g3⟩
      · exact absurd h2 (ne g)
      · omega
theorem DE.dic {pos : Pos} {keys : List (Option Expr)} {values : List Expr} {h : Env → Mh → Option (List (Key × D) × Mh)} (hp : DPs X K pos keys values h) (hall : keys.all (·.isSome) = true := by rfl) (hl : keys.length = values.length := by rfl) (h0 : keys ≠ [] := by exact fun z => nomatch z)
    (h15 : keys.length ≤ 15 := by decide) : DE X K (.Dict keys values pos) (eDic h) := by
  obtain ⟨ts, ps, rs⟩ := hp.go
  refine ⟨tDisp ts, fun i => pe_disp (ps i) hall hl h0 h15, fun σ W δ M d M' Q w s e q => fun p hp => ?_⟩
  unfold eDic at e
  split at e
  · rename_i kvs M1 h1
    split at e
    · rename_i hlen
      cases e
      have P0 := w.pnone hp
      have B0 := w.bnone hp
      refine rs σ (W.hold p (.dK [])) δ M kvs M1 _ (Wd.hold_ok w hp) (s.cong rfl rfl) h1 fun vs W1 l1 w1 r1 => ?_
      have hP : W1.P = upd W.P p (.dK []) := l1.pp
      refine ⟨(w1.pin p _ (by rw [hP, upd_same])).1, vs, rfl, by rw [r1.len]; exact hlen, ?_⟩
      have w2 := Wd.unhold_new w1 hP P0 (.dic r1.merge)
      refine q (.ref p) ⟨upd W1.H p (.dK (mergeK [] vs)), W1.B, W1.ι ++ [p], W.P⟩ ⟨l1.same, ?_, rfl⟩ w2 (.ref ?_)
      · obtain ⟨l, hl⟩ := l1.pre
        exact ⟨l ++ [p], by
          show W1.ι ++ [p] = _
          rw [hl]
          show W.ι ++ l ++ [p] = _
          rw [List.append_assoc]⟩
      · show (W1.ι ++ [p])[M1.length]? = some p
        rw [← w1.len]
        simp
    · cases e
  · cases e
end
end Pl

namespace Pl
open PySem L2
open PyProof.Rows (IntsAre AllBare)
/-! ### the law's head -/
theorem ints_rep {K : PySem.W.Frag} {B : Hp} {ι : List Addr} : ∀ ns : List Int, RepL K B ι (ns.map V.int) (ns.map D.int)
  | [] => .nil
  | n :: ns => .cons (.int n) (ints_rep ns)
theorem law_callD {P : Program} {w : World} {K : PySem.W.Frag} {mg mb : Str → Option Value} {k : Nat} {fa a : Addr} {fd : FuncData} {x : Str} {F : Fn} {t₁ : Shared} {us : List Value} {ns : List Int}
    (kin : K.In t₁.heap) (gl : t₁.heap.Ns mainGlobals mg) (bl : t₁.heap.Ns builtinsNs mb) (blx : ∀ x : Str, x ≠ "__name__" → mb x = bootBuiltins x) (nl : t₁.heap.NoLimit) (gn : t₁.gens = #[])
    (at_a : t₁.heap.get? a = some { cls := .type "list", data := .seq us.toArray }) (isv : IntsAre us ns) (small : ns.length ≤ sizeLine) (room : Room k PySem.callerA)
    (hF : ∀ base : Heap, K.In base → base.Ns mainGlobals mg → DFn P w K mg base k fa fd [x] F) (bnd : ∀ (s : Shared) (u : Value), BindsTo s fd ⟨[u], []⟩ [(x, u)])
    (tru : ∃ M', F [.lsk (ns.map D.int)] [] = some (.bl true, M')) :
    codeAny (model P w) PySem.callerA (.call (.ref fa) ⟨[.ref a], []⟩) (fun o t' => o = .ok (.ret (.bool true)) ∧ OldK t₁.heap t'.heap ∧ t'.os = t₁.os ∧ AllBare t'.gens) t₁ := by
  have rel := vals_ints isv
  have lenU := isv.length
  have main : ∀ G : Hp, L2.Only G → SqL K G a (ns.map V.int) → HOk P w G t₁.heap → (∀ b, G b ≠ none → b = a) → (G a ≠ none → K.lookup a = none) →
      codeAny (model P w) PySem.callerA (.call (.ref fa) ⟨[.ref a], []⟩) (fun o t' => o = .ok (.ret (.bool true)) ∧ OldK t₁.heap t'.heap ∧ t'.os = t₁.os ∧ AllBare t'.gens) t₁ := fun G only seqA gok ga gk => by
    have keepB : ∀ {b : Addr} {o : Obj}, t₁.heap.get? b = some o → G b = none → (hidT t₁.heap G).get? b = some o := fun e n => hidT_get e n
    have noDict : ∀ {b : Addr} {o : Obj} {es : Array DictEntry} {ep : Nat}, t₁.heap.get? b = some o → o.data = .dict es ep → G b = none := fun {b o es ep} e dd => by
      cases gq : G b with
      | none => rfl
      | some u =>
        have eb : b = a := ga b (by rw [gq]; simp)
        rw [eb, at_a] at e
        cases e
        exact nomatch (show Data.seq us.toArray _ = Data.dict es ep from dd)
    have nsB : ∀ {b : Addr} {m : Str → Option Value}, t₁.heap.Ns b m → (hidT t₁.heap G).Ns b m := fun ⟨o, es, ep, e, dd, r⟩ => ⟨o, es, ep, keepB e (noDict e dd), dd, r⟩
    have kinB : K.In (hidT t₁.heap G) := fun b o e => keepB (kin b o e) (by
      cases gq : G b with
      | none => rfl
      | some u =>
        have eb : b = a := ga b (by rw [gq]; simp)
        rw [eb] at gq e
        rw [gk (by rw [gq]; simp)] at e
        cases e)
    have modB : Mod K mg (hidT t₁.heap G) := ⟨kinB, nsB gl, ⟨mb, nsB bl, blx⟩, let ⟨mc, n1, n2⟩ := nl; ⟨mc, nsB n1, n2⟩⟩
    have envB : Env0 P w K mg (hidT t₁.heap G) PySem.callerA [] t₁ G := ⟨rfl, modB, fun b o e => of_hidT e, Nat.le_of_eq (hidT_size _ _), trivial, fun b hb => (by cases hb), gok, .of_eq gn⟩
    obtain ⟨M', hv⟩ := tru
    have rs : RepL K G [] (ns.map V.int) (ns.map D.int) := by
      exact ints_rep ns
    have W0 : (⟨G, G, [], fun _ => none⟩ : Wd).Ok K [] := ⟨fun _ _ e => e, fun b o e => (by cases e), rfl, fun n b o l => (by cases l.1), fun n m b o u l => (by cases l.1)⟩
    refine codeAny_mono ((hF _ kinB (nsB gl)).run PySem.callerA [] t₁ G ⟨[.ref a], []⟩ [.ref a] [.ref a] (fun v _ => v = .bl true) room rfl envB (bnd t₁ (.ref a)) (.cons rfl .nil)
      ⟨⟨G, G, [], fun _ => none⟩, [], [.lsk (ns.map D.int)], .bl true, M', rfl, W0, .cons (.lsk seqA rs) .nil, rfl, hv, fun v W' _ _ r => by cases r; rfl⟩) fun o t' ho => ?_
    match o, ho with
    | .ok (.ret u), ⟨v, G', os, bare, un, gok', rv, q⟩ =>
      have q' : v = .bl true := q
      rw [q'] at rv
      have eu : u = Value.bool true := rv
      rw [eu]
      refine ⟨rfl, OldK.of_keep fun b o e => ?_, os, bare⟩
      cases gq : G b with
      | none => exact un.keep b o e gq (fun z => nomatch (show b ∈ ([] : List Addr) from z)) (fun z => nomatch z)
      | some u =>
        rcases only b with z | ⟨ob, xs, z⟩
        · rw [gq] at z
          cases z
        · have z2 := un.frzs b ob _ z
          obtain ⟨e1, _⟩ := gok b _ z
          obtain ⟨e2, _⟩ := gok' b _ z2
          rw [e] at e1
          cases e1
          exact e2
    | .ok .next, ho => exact False.elim ho
    | .ok .brk, ho => exact False.elim ho
    | .ok .cont, ho => exact False.elim ho
    | .error _, ho => exact False.elim ho
  cases lk : K.lookup a with
  | some o =>
    have e := kin a o lk
    rw [at_a] at e
    cases e
    exact main (fun _ => none) (fun _ => .inl rfl) (.inr ⟨_, us.toArray, _, lk, rfl, rfl, rfl, by rw [List.size_toArray, lenU]; exact small, by simpa using rel⟩) (fun b u z => nomatch (show (none : Option HO) = some u from z)) (fun b z => absurd rfl z) fun z => absurd rfl z
  | none =>
    refine main (fun b => if b = a then some (.frz { cls := .type "list", data := .seq us.toArray } (.lst (ns.map V.int))) else none) (fun b => ?_) (.inl (.inr ⟨{ cls := .type "list", data := .seq us.toArray }, if_pos rfl⟩)) (fun b u z => ?_) (fun b z => ?_) fun _ => lk
    · by_cases eb : b = a
      · exact .inr ⟨_, _, if_pos eb⟩
      · exact .inl (if_neg eb)
    · by_cases eb : b = a
      · have z' := (if_pos eb).symm.trans z
        cases z'
        rw [eb]
        exact ⟨at_a, by rw [List.length_map]; exact small, us, _, rel, at_a⟩
      · exact nomatch (if_neg eb).symm.trans z
    · exact Classical.byContradiction fun eb => z (if_neg eb)
theorem walk_ofD {l : PySem.W.OpenLaw} {n k : Nat} {q : Program} {loose : List Str} {XP : (Str → Option Value) → Heap → Prop} {YP : World → Heap → Prop} {d : DefRec} {K : Params → PySem.W.Frag} {F : Fn} {x : Str}
    (hn : l.most = some n) (hn2 : n ≤ sizeLine) (hdf : d.params.defaults = []) (room : Room k PySem.callerA) (hY : ∀ (w : World) (h : Heap), YP w h → (K w.params).In h)
    (hF : ∀ (w : World) (mg : Str → Option Value) (fa : Addr) (h : Heap), (K w.params).In h → h.Ns mainGlobals mg → mg d.name = some (.ref fa) →
      ∃ fd : FuncData, (∀ (s : Shared) (u : Value), BindsTo s fd ⟨[u], []⟩ [(x, u)]) ∧ ∀ base : Heap, (K w.params).In base → base.Ns mainGlobals mg → DFn l.prog w (K w.params) mg base k fa fd [x] F)
    (tru : ∀ ns : List Int, ns.length ≤ n → ∃ M', F [.lsk (ns.map D.int)] [] = some (.bl true, M')) :
    PySem.W.WalkO q loose XP YP l.row.toRowW d [] (fun f vs => PySem.call f vs) :=
  Att.attach_call hn hdf fun w _ t₁ mg _ fa _ _ _ _ a us ns G Y _ _ _ hmg obj isv len gn => by
    have kin := hY w _ Y
    obtain ⟨fd, hb, h⟩ := hF w mg fa _ kin G.T.g hmg
    exact law_callD kin G.T.g G.T.b G.T.builtins G.T.nolimit gn obj isv (Nat.le_trans len hn2) room h hb (tru ns len)

/-! ### links -/
/-- a def as it is called -/
structure Lk (P : Program) (w : World) (K : PySem.W.Frag) (mg : Str → Option Value) (base : Heap) (x : Str) (k : Nat) (ps : List Str) (F : Fn) : Prop where
  go : ∃ (f : Addr) (fd : FuncData), DFn P w K mg base k f fd ps F ∧ mg x = some (.ref f) ∧ PySem.W.keepIn K (.ref f) = true ∧ Binds K fd ps []
/-- with defaults that fill up -/
structure LkD (P : Program) (w : World) (K : PySem.W.Frag) (mg : Str → Option Value) (base : Heap) (x : Str) (k : Nat) (ps : List Str) (F : Fn) (dds : List D) : Prop where
  go : ∃ (f : Addr) (fd : FuncData) (dvs : List V) (dsv : List Value), DFn P w K mg base k f fd ps F ∧ mg x = some (.ref f) ∧ PySem.W.keepIn K (.ref f) = true ∧ Vals dvs dsv ∧ Binds K fd ps dsv ∧ ∀ B ι, RepL K B ι dvs dds
/-- with keywords -/
structure LkK (P : Program) (w : World) (K : PySem.W.Frag) (mg : Str → Option Value) (base : Heap) (x : Str) (k : Nat) (ps : List Str) (F : Fn) (n : Nat) (ks : List Str) (gD : List D → List D → List D) : Prop where
  go : ∃ (f : Addr) (fd : FuncData) (gu : List Value → List Value → List Value) (gV : List V → List V → List V), DFn P w K mg base k f fd ps F ∧ mg x = some (.ref f) ∧ PySem.W.keepIn K (.ref f) = true ∧ KBn K fd ps n ks gu gV ∧
    (∀ B ι vs ds zs es, RepL K B ι vs ds → RepL K B ι zs es → RepL K B ι (gV vs zs) (gD ds es))
  len : ∀ ds zs : List D, ds.length = n → zs.length = ks.length → (gD ds zs).length = ps.length
/-- a name of the module -/
def GV (K : PySem.W.Frag) (mg : Str → Option Value) (x : Str) (d : D) : Prop := ∃ v u, mg x = some u ∧ RelV v u ∧ ∀ B ι, Rep K B ι v d
section
variable {I : Type} {X : I → Cx} {P : Program} {w : World} {K : PySem.W.Frag} {mg : Str → Option Value} {base : Heap} {k : Nat}
theorem DE.gv (c : Ctx X P w K mg base k) {x : Str} {pos : Pos} {d : D} (h : GV K mg x d) (hg : ∀ i, Gl (X i) x := by intro _; rfl) (hd : (x == ("__debug__" : Str)) = false := by decide) : DE X K (.Name x pos) (eC d) := by
  obtain ⟨v, u, h1, h2, h3⟩ := h
  exact DE.glob c h1 h2 h3 hg hd
theorem DE.cl (c : Ctx X P w K mg base k) {x : Str} {p pos : Pos} {e : Expr} {es : List Expr} {g : AF} {ps : List Str} {F : Fn} {kf : Nat} (h : Lk P w K mg base x kf ps F) (hk : kf ≤ k) (hn : (e :: es).length = ps.length) (ha : DA X K (e :: es) g) (hlen : ∀ δ M ds M', g δ M = some (ds, M') → ds.length = (e :: es).length) (hg : ∀ i, Gl (X i) x := by intro _; rfl)
    (hdbg : (x == ("__debug__" : Str)) = false := by decide) (he : ∀ i, starEach (e :: es) (X i).env = (false, eval e (X i).env) :: starEach es (X i).env := by intro _; rfl) (hpl : ∀ i, (backTo pos (starEach es (X i).env)).any (·.1) = false := by intro _; rfl) :
    DE X K (.Call (.Name x p) (e :: es) [] pos) (eCall F g []) := by
  obtain ⟨f, fd, h1, h2, h3, h4⟩ := h.go
  exact DE.call c h1 hk h2 h3 h4 .nil (fun _ _ => .nil) hn ha hlen hg hdbg he hpl
theorem DE.clD (c : Ctx X P w K mg base k) {x : Str} {p pos : Pos} {e : Expr} {es : List Expr} {g : AF} {ps : List Str} {F : Fn} {kf : Nat} {dds : List D} (h : LkD P w K mg base x kf ps F dds) (hk : kf ≤ k) (hn : (e :: es).length + dds.length = ps.length) (ha : DA X K (e :: es) g) (hlen : ∀ δ M ds M', g δ M = some (ds, M') → ds.length = (e :: es).length) (hg : ∀ i, Gl (X i) x := by intro _; rfl)
    (hdbg : (x == ("__debug__" : Str)) = false := by decide) (he : ∀ i, starEach (e :: es) (X i).env = (false, eval e (X i).env) :: starEach es (X i).env := by intro _; rfl) (hpl : ∀ i, (backTo pos (starEach es (X i).env)).any (·.1) = false := by intro _; rfl) :
    DE X K (.Call (.Name x p) (e :: es) [] pos) (eCall F g dds) := by
  obtain ⟨f, fd, dvs, dsv, h1, h2, h3, h4, h5, h6⟩ := h.go
  exact DE.call c h1 hk h2 h3 h5 h4 h6 hn ha hlen hg hdbg he hpl
theorem DE.clK (c : Ctx X P w K mg base k) {x : Str} {p pos : Pos} {e : Expr} {es : List Expr} {kws : List Keyword} {g gk : AF} {ps ks : List Str} {F : Fn} {kf n : Nat} {gD : List D → List D → List D} (h : LkK P w K mg base x kf ps F n ks gD) (hk : kf ≤ k)
    (ha : DA X K (e :: es) g) (hlen : ∀ δ M ds M', g δ M = some (ds, M') → ds.length = n) (hkw : DK X K kws gk ks.length) (hall : ∀ i, (backToKw pos (keywordEach kws (X i).env)).all (·.1.isSome) = true := by intro _; rfl) (hks : ∀ i, (backToKw pos (keywordEach kws (X i).env)).filterMap (·.1) = ks := by intro _; rfl)
    (hg : ∀ i, Gl (X i) x := by intro _; rfl) (hdbg : (x == ("__debug__" : Str)) = false := by decide) (he : ∀ i, starEach (e :: es) (X i).env = (false, eval e (X i).env) :: starEach es (X i).env := by intro _; rfl)
    (hpl : ∀ i, ((backTo pos (starEach (e :: es) (X i).env)).any (·.1) || (backToKw pos (keywordEach kws (X i).env)).any (·.1.isNone)) = false := by intro _; rfl) :
    DE X K (.Call (.Name x p) (e :: es) kws pos) (eCallK F g gk gD) := by
  obtain ⟨f, fd, gu, gV, h1, h2, h3, h4, h5⟩ := h.go
  exact DE.callK c h1 hk h2 h3 h4 h5 h.len ha hlen hkw hall hks hg hdbg he hpl
end
end Pl

namespace Pl
open PySem L2
section
variable {I : Type} {X : I → Cx} {P : Program} {w : World} {K : PySem.W.Frag} {mg : Str → Option Value} {base : Heap} {k : Nat}
/-! ### repr -/
def reprOk (p : PyData) : Bool := p.showable && SeqAt.shaped p && !p.hasDict && decide (p.shown.length ≤ sizeLine)
def rReprD (K : PySem.W.Frag) (xs : List V) (H : Hp) (Q : VK) : Prop := ∃ x p, xs = [x] ∧ Dp K H x p ∧ reprOk p = true ∧ Q (.str p.shown) H
theorem call_reprD {Y : Cx} (hu : Y.A.units + 66 < cLine) (hg : Y.A.guards = some []) : CallR Y (.builtin "repr") (rReprD Y.K) := fun pins s σ H xs us Q J hv h => by
  obtain ⟨x, p, rfl, hp, ok, q⟩ := h
  simp only [reprOk, Bool.and_eq_true, Bool.not_eq_true', decide_eq_true_eq] at ok
  obtain ⟨⟨⟨sh, sp⟩, nd⟩, ln⟩ := ok
  cases hv with
  | cons hx hv =>
    cases hv
    have dp := SeqAt.depth_of_shaped sp
    have same : ∀ (h' : Heap) (t : Nat), (∀ b o, s.heap.get? b = some o → h'.get? b = some o) → L2.Inv Y pins σ H { heap := h', gens := s.gens, drawn := s.drawn, toks := t, os := s.os } := fun h' t kp => J.turnedL (ch := []) (fun b o _ e => kp b o e) (fun b hb => nomatch hb)
    obtain ⟨as, rd⟩ := Dp.reads J p x _ hp hx
    cases hp with
    | non =>
      cases hx
      exact P.repr_of_none ⟨.str _, H, same _ _ fun _ _ e => e, ⟨_, rfl⟩, q⟩
    | bl b =>
      cases hx
      refine P.repr_of_bool ⟨.str _, H, same _ _ fun _ _ e => e, ⟨_, rfl⟩, ?_⟩
      rw [PyData.shown] at q
      exact q
    | int i =>
      obtain ⟨t, rfl⟩ := hx
      refine P.repr_of_int ?_ ⟨.str _, H, same _ _ fun _ _ e => e, ⟨_, rfl⟩, ?_⟩
      · rw [PyData.showable] at sh
        simpa using sh
      · rw [PyData.shown] at q
        exact q
    | str y =>
      obtain ⟨t, rfl⟩ := hx
      rw [PyData.shown] at q ln
      exact P.repr_of_str ⟨.str _, H, same _ _ fun _ _ e => e, ⟨_, rfl⟩, q⟩ ln
    | lst h1 h2 =>
      cases hx
      exact repr_of_reads' rd sh (fun z => by rw [nd] at z; cases z) hg (by omega) (fun _ _ e => e) (fun h' u tk kp => ⟨.str _, H, same h' tk kp, ⟨_, rfl⟩, q⟩) ln
    | tup h1 h2 =>
      cases hx
      exact repr_of_reads' rd sh (fun z => by rw [nd] at z; cases z) hg (by omega) (fun _ _ e => e) (fun h' u tk kp => ⟨.str _, H, same h' tk kp, ⟨_, rfl⟩, q⟩) ln
def gRepr : GL := fun ds M => match ds with
  | [d] => (match toP (deref M d) with
    | some p => if reprOk p then some (.str p.shown, M) else none
    | none => none)
  | _ => none
theorem cRepr (c : Ctx X P w K mg base k) : CalF X K (.builtin "repr") gRepr := ⟨rReprD K, fun i => by
  have h := call_reprD (Y := X i) (by have := (c.room i).un; omega) (c.grd i)
  rw [c.K i] at h
  exact h, fun W M vs ds z M' Q w r e q => by
  unfold gRepr at e
  split at e
  · split at e
    · rename_i p h1
      split at e
      · rename_i h2
        cases e
        cases r with
        | cons r1 r2 =>
          cases r2
          exact ⟨_, p, rfl, dp_of w r1 h1, h2, q _ W (.refl W) w (.str _)⟩
      · cases e
    · cases e
  · cases e⟩
end
end Pl
namespace Pl
open PySem L2
section
variable {I : Type} {X : I → Cx} {P : Program} {w : World} {K : PySem.W.Frag} {mg : Str → Option Value} {base : Heap} {k : Nat}
/-! ### a text many times -/
def strMulOk (x : Str) (n : Int) : Bool := decide (-(2 ^ 63) ≤ n) && decide (n < 2 ^ 63) && decide (x.length * n.toNat ≤ 1000000)
theorem strMul_ok {x : Str} {n : Int} (h : strMulOk x n = true) : PySem.MulOk x n := by
  simp only [strMulOk, Bool.and_eq_true, decide_eq_true_eq] at h
  obtain ⟨⟨h1, h2⟩, h3⟩ := h
  refine ⟨by rw [Bool.or_eq_false_iff]; exact ⟨decide_eq_false (by omega), decide_eq_false (by omega)⟩, fun hn _ => ?_, fun hn _ => ?_⟩
  · have hp : 0 < n := by omega
    have e : (x.length : Int) * n ≤ 1000000 := by
      have : ((x.length * n.toNat : Nat) : Int) ≤ 1000000 := Int.ofNat_le.mpr h3
      rw [Int.natCast_mul, Int.toNat_of_nonneg (by omega)] at this
      exact this
    have h2 : (x.length : Int) ≤ (2 ^ 63 - 1) / n := (Int.le_ediv_iff_mul_le hp).mpr (by omega)
    omega
  · exact decide_eq_false (Nat.not_lt.mpr (Nat.le_trans h3 (by decide)))
def gMul3 : O2 := fun a b M => match a, b with
  | .str x, .int n => if strMulOk x n then some (.str (Txt.mul x n), M) else none
  | a, b => gMul a b M
theorem opMulS : OpF X K (binaryOp .Mult) gMul3 := ⟨fun x y H Q => (∃ z n, x = .str z ∧ y = .int n ∧ PySem.MulOk z n ∧ Q (.str (Txt.mul z n)) H) ∨ (rI Pl.MulOk (fun i j => .int (i * j)) x y H Q ∨ rRep x y H Q), fun i => OpR.or (fun pins s σ H x y v u Q J hx hy h => by
    obtain ⟨z, n, rfl, rfl, ok, q⟩ := h
    obtain ⟨t, rfl⟩ := hx
    obtain ⟨t2, rfl⟩ := hy
    exact SB.mul ok fun t' k => ⟨.str _, H, J.turnedL (ch := []) (fun b o _ e => e) (fun b hb => nomatch hb), ⟨_, rfl⟩, q⟩) (OpR.or op_mulX op_rep), fun W M x y a b z M' Q w ra rb e q => by
  unfold gMul3 at e
  split at e
  · split at e
    · rename_i hc
      cases ra
      cases rb
      cases e
      exact .inl ⟨_, _, rfl, rfl, strMul_ok hc, q _ W (.refl W) w (.str _)⟩
    · cases e
  · refine .inr ?_
    unfold gMul at e
    split at e
    · split at e
      · rename_i hc
        cases ra
        cases rb
        cases e
        exact .inl ⟨_, _, rfl, rfl, hc, q _ W (.refl W) w (.int _)⟩
      · cases e
    · split at e
      · rename_i hc
        cases rb
        cases e
        cases ra with
        | lst h1 r1 =>
          refine .inr ⟨_, _, _, rfl, rfl, w.sub _ _ h1, hc.1, hc.2.1, by rw [r1.len]; exact hc.2.2, fun p hp => ?_⟩
          obtain ⟨l2, w2, r3⟩ := lay_lst w hp (r1.rep _)
          exact q _ _ l2 w2 r3
      · cases e
    · cases e⟩
/-! ### an empty dict -/
def eDic0 : EF := fun _ M => some (.ref M.length, M ++ [.dic []])
theorem DE.dic0 {pos : Pos} : DE X K (.Dict [] [] pos) eDic0 := ⟨tDNewK, fun i => pe_dnewK, fun σ W δ M d M' Q w s e q => fun p hp => by
  cases e
  exact q (.ref p) (W.new p (.dK [])) Wd.new_le (Wd.new_ok w hp (.dic .nil)) (.ref (by
    show (W.ι ++ [p])[M.length]? = some p
    rw [← w.len]
    simp))⟩
end
end Pl

/-! PlX: what raises. -/
namespace Pl
open PySem L2
/-- how a statement ends: as it does, or by an exception of the module's class of that name -/
inductive XO where
  | ok (o : Out) | ex (y : Str) (δ : Env) (M : Mh)
inductive EO where
  | v (d : D) (M : Mh) | ex (y : Str) (M : Mh)
abbrev XF := Env → Mh → Option XO
abbrev EXF := Env → Mh → Option EO
abbrev FnX := List D → Mh → Option EO
def PostX (K : PySem.W.Frag) (mg : Str → Option Value) (S : WX) (E : Ends) (W : Wd) : XO → Prop
  | .ok o => Post K E W o
  | .ex y δ M => ∀ C σ W', mg y = some (.ref C) → W.Le W' → W'.Ok K M → Slots K W' σ δ → S (.ref C) none σ W'.H
theorem PostX.le {K : PySem.W.Frag} {mg : Str → Option Value} {S : WX} {E : Ends} {W W1 : Wd} {o : XO} (l : W.Le W1) (h : PostX K mg S E W o) : PostX K mg S E W1 o := by
  cases o with
  | ok o => exact Post.le l h
  | ex y δ M => exact fun C σ W' m a b c => h C σ W' m (l.trans a) b c
def PostE (K : PySem.W.Frag) (mg : Str → Option Value) (S : Value → Option Addr → Hp → Prop) (Q : VK) (W : Wd) : EO → Prop
  | .v d M => VR K W d M Q
  | .ex y M => ∀ C W', mg y = some (.ref C) → W.Le W' → W'.Ok K M → S (.ref C) none W'.H
theorem PostE.le {K : PySem.W.Frag} {mg : Str → Option Value} {S : Value → Option Addr → Hp → Prop} {Q : VK} {W W1 : Wd} {o : EO} (l : W.Le W1) (h : PostE K mg S Q W o) : PostE K mg S Q W1 o := by
  cases o with
  | v d M => exact VR.le h l
  | ex y M => exact fun C W' m a b => h C W' m (l.trans a) b
def SRX (K : PySem.W.Frag) (mg : Str → Option Value) (S : WX) (t : TS) (f : XF) : Prop := ∀ (σ : St) (W : Wd) (δ : Env) (M : Mh) (o : XO) (E : Ends), W.Ok K M → Slots K W σ δ → f δ M = some o → PostX K mg S E W o → t E σ W.H
def ERX (K : PySem.W.Frag) (mg : Str → Option Value) (S : WX) (t : TE) (f : EXF) : Prop := ∀ (σ : St) (W : Wd) (δ : Env) (M : Mh) (o : EO) (Q : VK), W.Ok K M → Slots K W σ δ → f δ M = some o → PostE K mg (fun c d H => S c d σ H) Q W o → t σ W.H Q
section
variable {I : Type}
structure DSX (X : I → Cx) (K : PySem.W.Frag) (mg : Str → Option Value) (S : WX) (s : Stmt) (f : XF) : Prop where
  go : ∃ t : TS, (∀ i, PS (X i) s t) ∧ SRX K mg S t f
structure DBX (X : I → Cx) (K : PySem.W.Frag) (mg : Str → Option Value) (S : WX) (s : List Stmt) (f : XF) : Prop where
  go : ∃ t : TS, (∀ i, PSs (X i) s t) ∧ SRX K mg S t f
structure DEX (X : I → Cx) (K : PySem.W.Frag) (mg : Str → Option Value) (S : WX) (e : Expr) (f : EXF) : Prop where
  go : ∃ t : TE, (∀ i, PE (X i) e t) ∧ ERX K mg S t f
variable {X : I → Cx} {P : Program} {w : World} {K : PySem.W.Frag} {mg : Str → Option Value} {base : Heap} {k : Nat} {S : WX}
def xOk (f : SF) : XF := fun δ M => match f δ M with
  | some o => some (.ok o)
  | none => none
theorem srx_ok {t : TS} {f : SF} (r : SR K t f) : SRX K mg S t (xOk f) := fun σ W δ M o E w s e q => by
  unfold xOk at e
  split at e
  · rename_i o' h
    cases e
    exact r σ W δ M o' E w s h q
  · cases e
theorem DBX.lift {s : List Stmt} {f : SF} (a : DB X K s f) : DBX X K mg S s (xOk f) := by
  obtain ⟨t, p, r⟩ := a.go
  exact ⟨t, p, srx_ok r⟩
theorem DSX.lift {s : Stmt} {f : SF} (a : DS X K s f) : DSX X K mg S s (xOk f) := by
  obtain ⟨t, p, r⟩ := a.go
  exact ⟨t, p, srx_ok r⟩
def xSeq (f g : XF) : XF := fun δ M => match f δ M with
  | some (.ok (.nx δ' M')) => g δ' M'
  | o => o
theorem DBX.cons {s : Stmt} {ss : List Stmt} {f g : XF} (a : DSX X K mg S s f) (b : DBX X K mg S ss g) : DBX X K mg S (s :: ss) (xSeq f g) := by
  obtain ⟨ta, pa, ra⟩ := a.go
  obtain ⟨tb, pb, rb⟩ := b.go
  refine ⟨tSeq ta tb, fun i => pss_cons (pa i) (pb i), fun σ W δ M o E w s e q => ?_⟩
  unfold xSeq at e
  split at e
  · rename_i δ' M' h1
    refine ra σ W δ M _ _ w s h1 fun σ' W1 l1 w1 s1 => ?_
    exact rb σ' W1 δ' M' o E w1 s1 e (q.le l1)
  · rename_i hn
    refine ra σ W δ M o _ w s e ?_
    match o, e, q with
    | .ok (.nx δ' M'), e, q => exact absurd e (hn δ' M')
    | .ok (.bk _ _), e, q => exact q
    | .ok (.ct _ _), e, q => exact q
    | .ok (.rt _ _), e, q => exact q
    | .ex _ _ _, e, q => exact q
theorem DBX.one {s : Stmt} {f : XF} (a : DSX X K mg S s f) : DBX X K mg S [s] f := by
  obtain ⟨t, p, r⟩ := a.go
  exact ⟨t, fun i => pss_one (p i), r⟩
def xIf (t : TF) (f g : XF) : XF := fun δ M => match t δ M with
  | some (true, M1) => f δ M1
  | some (false, M1) => g δ M1
  | none => none
theorem DSX.ite {c : Expr} {a b : List Stmt} {pos} {t : TF} {f g : XF} (h : DT X K c t) (ha : DBX X K mg S a f) (hb : DBX X K mg S b g) : DSX X K mg S (.If c a b pos) (xIf t f g) := by
  obtain ⟨tt, p, r⟩ := h.go
  obtain ⟨ta, pa, ra⟩ := ha.go
  obtain ⟨tb, pb, rb⟩ := hb.go
  refine ⟨_, fun i => ps_if (p i) (pa i) (pb i), fun σ W δ M o E w s e q => ?_⟩
  unfold xIf at e
  split at e
  · rename_i M1 h1
    exact r σ W δ M true M1 _ w s h1 fun W1 l1 w1 => ifT (ra σ W1 δ M1 o E w1 (s.le l1) e (q.le l1))
  · rename_i M1 h1
    exact r σ W δ M false M1 _ w s h1 fun W1 l1 w1 => ifF (rb σ W1 δ M1 o E w1 (s.le l1) e (q.le l1))
  · cases e
/-! ### raise -/
/-- an own exception class without own __init__, over ValueError -/
structure LkE (K : PySem.W.Frag) (mg : Str → Option Value) (x : Str) (bmB : List Value) (newId : String) (C : Addr) : Prop where
  gC : mg x = some (.ref C)
  q : PySem.W.excIn K C bmB newId = true
  kC : PySem.W.keepIn K (.ref C) = true
  r1 : PySem.W.subIn K (.ref C) (.type "BaseException") = some true
  r2 : PySem.W.typeIn K (.ref C) = some (.type "type")
def xRaise (y : Str) : XF := fun δ M => some (.ex y δ M)
theorem DSX.raise (c : Ctx X P w K mg base k) (tk : ∀ i, Takes (X i) S) {x m : Str} {j : Nat} {p p2 pos pos2 : Pos} {C : Addr} {bmB : List Value} {B newId initId : String} (F : ExcBaseFacts B newId initId bmB) (L : LkE K mg x bmB newId C) (hg : ∀ i, Gl (X i) x := by intro _; rfl)
    (hdb : (x == ("__debug__" : Str)) = false := by decide) : DSX X K mg S (.Raise (some (.Call (.Name x p) [.Constant (.str m) j p2] [] pos)) none pos2) (xRaise x) := by
  refine ⟨fun _ σ H => S (.ref C) none σ H, fun i => ?_, fun σ W δ M o E w s e q => ?_⟩
  · have cK := c.K i
    exact ps_raise (t := fun _ H Q => Q (.ref C) none H) (c.calm i) (tk i) (pmk_own F (by rw [cK]; exact L.q) (by rw [c.mg i]; exact L.gC) (by rw [cK]; exact L.kC) (raises_own (by rw [cK]; exact L.r1) (by rw [cK]; exact L.r2)) (hg i) hdb)
  · cases e
    exact q C σ W L.gC (.refl W) w s
/-! ### calls that may raise -/
def spDX (K : PySem.W.Frag) (mg : Str → Option Value) (n : Nat) (F : FnX) (vs : List V) (H : Hp) (Q : VK) (E : XK) : Prop :=
  ∃ W M ds o, W.H = H ∧ W.Ok K M ∧ RepL K W.B W.ι vs ds ∧ ds.length = n ∧ F ds M = some o ∧ PostE K mg E Q W o
structure DFnX (P : Program) (w : World) (K : PySem.W.Frag) (mg : Str → Option Value) (base : Heap) (k : Nat) (f : Addr) (fd : FuncData) (ps : List Str) (F : FnX) : Prop where
  run : ∀ (A : Around) (outer : List PySem.Env) (s : Shared) (H : Hp) (args : Args) (us : List Value) (vs : List V) (Q : VK) (E : XK), Room k A → A.guards = some [] → Env0 P w K mg base A outer s H → BindsTo s fd args (ps.zip us) → Vals vs us →
    spDX K mg ps.length F vs H Q E → codeAny (model P w) A (.call (.ref f) args) (CR (L2.CX P w) outer P w H s Q E) s
theorem DFnX.mono {f : Addr} {fd : FuncData} {ps : List Str} {F : FnX} {j : Nat} (h : DFnX P w K mg base j f fd ps F) (l : j ≤ k) : DFnX P w K mg base k f fd ps F :=
  ⟨fun A outer s H args us vs Q E r g => h.run A outer s H args us vs Q E (r.mono l) g⟩
theorem run_dfnX {Y : Cx} {pins : List (Addr × Obj)} {σ : L2.St} {H : Hp} {s : Shared} {Q : VK} {f : Addr} {fd : FuncData} {ps ks : List Str} {F : FnX} {us ws us' : List Value} {vs : List V} (h : DFnX Y.prog Y.w Y.K Y.mg Y.base k f fd ps F) (room : Room k Y.A) (grd : Y.A.guards = some []) (tk : Takes Y S)
    (J : Inv Y pins σ H s) (hb : BindsTo s fd ⟨us, ks.zip ws⟩ (ps.zip us')) (r : Vals vs us') (q : spDX Y.K Y.mg ps.length F vs H Q (fun c d H' => S c d σ H')) : wpAny (model Y.prog Y.w) Y.A (call (.ref f) us (ks.zip ws)) (EP Y pins σ Q) Y.xe s := by
  refine wpAny_call (codeAny_mono (h.run Y.A Y.stack s H _ us' vs Q _ room grd J.env0 hb r q) fun o s' ho => ?_)
  match o, ho with
  | .ok (.ret u), ho => exact J.after ho
  | .ok .next, ho => exact False.elim ho
  | .ok .brk, ho => exact False.elim ho
  | .ok .cont, ho => exact False.elim ho
  | .error _, ho => exact passAt tk σ pins H s _ s' J ho
def xCall (F : FnX) (g : AF) (dds : List D) : EXF := fun δ M => match g δ M with
  | some (ds, M1) => F (ds ++ dds) M1
  | none => none
theorem DEX.call (c : Ctx X P w K mg base k) (tk : ∀ i, Takes (X i) S) {x : Str} {p pos : Pos} {e : Expr} {es : List Expr} {g : AF} {f : Addr} {fd : FuncData} {ps : List Str} {F : FnX} {kf : Nat} {dvs : List V} {dds : List D} {dsv : List Value} (h : DFnX P w K mg base kf f fd ps F) (hk : kf ≤ k)
    (hm : mg x = some (.ref f)) (kp : PySem.W.keepIn K (.ref f) = true) (hb : Binds K fd ps dsv) (hd : Vals dvs dsv) (hr : ∀ B ι, RepL K B ι dvs dds) (hn : (e :: es).length + dds.length = ps.length) (ha : DA X K (e :: es) g) (hlen : ∀ δ M ds M', g δ M = some (ds, M') → ds.length = (e :: es).length) (hg : ∀ i, Gl (X i) x := by intro _; rfl)
    (hdbg : (x == ("__debug__" : Str)) = false := by decide) (he : ∀ i, starEach (e :: es) (X i).env = (false, eval e (X i).env) :: starEach es (X i).env := by intro _; rfl) (hpl : ∀ i, (backTo pos (starEach es (X i).env)).any (·.1) = false := by intro _; rfl) :
    DEX X K mg S (.Call (.Name x p) (e :: es) [] pos) (xCall F g dds) := by
  obtain ⟨t, pa, ra⟩ := ha.go
  refine ⟨fun σ H Q => t σ H fun vs H1 => spDX K mg ps.length F (vs ++ dvs) H1 Q (fun c d H' => S c d σ H'), fun i => ⟨fun pins s σ H Q J q => ?_⟩, fun σ W δ M o Q w s ev q => ?_⟩
  · have cK := c.K i
    have cmg := c.mg i
    refine wpAny_Call_Name_kw (ld_glob J (hg i) (by rw [c.mg i]; exact hm) ?_ hdbg)
    refine PySem.W.callWith_K (h₀ := (X i).base) J.ok.mod.kin (by rw [cK]; exact kp) (thn ((pa i).run pos pins s σ H _ J q) fun us s1 ⟨vs, H1, J1, r, q1⟩ => ⟨J1.kIn, ?_⟩) (he i) (hpl i)
    obtain ⟨W, M, ds, o, a1, a2, a3, a4, a5, a6⟩ := id q1
    have h' : DFnX (X i).prog (X i).w (X i).K (X i).mg (X i).base k f fd ps F := by
      rw [c.prog i, c.wd i, c.K i, c.mg i, c.base i]
      exact h.mono hk
    have r2 := r.append hd
    refine run_dfnX (ks := []) (ws := []) (us := us) h' (c.room i) (c.grd i) (tk i) J1 (hb s1 us (by rw [← cK]; exact J1.kIn) ?_) r2 (by rw [cK, cmg]; exact q1)
    rw [← r2.length, a3.len, a4]
  · unfold xCall at ev
    split at ev
    · rename_i ds M1 h1
      refine ra σ W δ M ds M1 _ w s h1 fun vs W1 l1 w1 r1 => ⟨W1, M1, ds ++ dds, o, rfl, w1, r1.append (hr _ _), ?_, ev, q.le l1⟩
      rw [List.length_append, hlen _ _ _ _ h1]
      exact hn
    · cases ev
structure LkX (P : Program) (w : World) (K : PySem.W.Frag) (mg : Str → Option Value) (base : Heap) (x : Str) (k : Nat) (ps : List Str) (F : FnX) : Prop where
  go : ∃ (f : Addr) (fd : FuncData), DFnX P w K mg base k f fd ps F ∧ mg x = some (.ref f) ∧ PySem.W.keepIn K (.ref f) = true ∧ Binds K fd ps []
theorem DEX.cl (c : Ctx X P w K mg base k) (tk : ∀ i, Takes (X i) S) {x : Str} {p pos : Pos} {e : Expr} {es : List Expr} {g : AF} {ps : List Str} {F : FnX} {kf : Nat} (h : LkX P w K mg base x kf ps F) (hk : kf ≤ k) (hn : (e :: es).length = ps.length) (ha : DA X K (e :: es) g) (hlen : ∀ δ M ds M', g δ M = some (ds, M') → ds.length = (e :: es).length) (hg : ∀ i, Gl (X i) x := by intro _; rfl)
    (hdbg : (x == ("__debug__" : Str)) = false := by decide) (he : ∀ i, starEach (e :: es) (X i).env = (false, eval e (X i).env) :: starEach es (X i).env := by intro _; rfl) (hpl : ∀ i, (backTo pos (starEach es (X i).env)).any (·.1) = false := by intro _; rfl) :
    DEX X K mg S (.Call (.Name x p) (e :: es) [] pos) (xCall F g []) := by
  obtain ⟨f, fd, h1, h2, h3, h4⟩ := h.go
  exact DEX.call c tk h1 hk h2 h3 h4 .nil (fun _ _ => .nil) hn ha hlen hg hdbg he hpl
def xAs (f : EXF) (j : Nat) : XF := fun δ M => match f δ M with
  | some (.v d M1) => some (.ok (.nx (δ.set j (some d)) M1))
  | some (.ex y M1) => some (.ex y δ M1)
  | none => none
theorem DSX.set (j : Nat) {x : Str} {e : Expr} {pos pos'} {f : EXF} (a : DEX X K mg S e f) (hN : ∀ i, (X i).N.Nodup) (hi : ∀ i, (X i).N[j]? = some x := by intro _; rfl) (hx : ∀ i, Loc (X i).env.scope x := by intro _; first | exact Or.inl rfl | exact Or.inr rfl)
    (hs : ∀ i, swapsWith e (some (.Name x pos')) pos.line (X i).env = pure false := by intro _; rfl) (hf : ∀ i, (X i).fn x = true ∨ (X i).env.scope.names.lookup x = some .local := by intro _; first | exact Or.inl rfl | exact Or.inr rfl) :
    DSX X K mg S (.Assign [.Name x pos'] e pos) (xAs f j) := by
  obtain ⟨t, p, r⟩ := a.go
  refine ⟨tAsg t (gName j), fun i => ps_set (hN i) (hi i) (hx i) (p i) (hs i) (hf i), fun σ W δ M o E w s ev q => ?_⟩
  unfold xAs at ev
  split at ev
  · rename_i d M1 h1
    cases ev
    exact r σ W δ M _ _ w s h1 fun v W1 l1 w1 r1 => q _ W1 l1 w1 ((s.le l1).set r1 j)
  · rename_i y M1 h1
    cases ev
    exact r σ W δ M _ _ w s h1 fun C W1 m l1 w1 => q C σ W1 m l1 w1 (s.le l1)
  · cases ev
def xRet (f : EXF) : XF := fun δ M => match f δ M with
  | some (.v d M1) => some (.ok (.rt d M1))
  | some (.ex y M1) => some (.ex y δ M1)
  | none => none
theorem DSX.ret {e : Expr} {pos} {f : EXF} (a : DEX X K mg S e f) : DSX X K mg S (.Return (some e) pos) (xRet f) := by
  obtain ⟨t, p, r⟩ := a.go
  refine ⟨tRet t, fun i => ps_ret (p i), fun σ W δ M o E w s ev q => ?_⟩
  unfold xRet at ev
  split at ev
  · rename_i d M1 h1
    cases ev
    exact r σ W δ M _ _ w s h1 q
  · rename_i y M1 h1
    cases ev
    exact r σ W δ M _ _ w s h1 fun C W1 m l1 w1 => q C σ W1 m l1 w1 (s.le l1)
  · cases ev
/-! ### try -/
def trI (X : I → Cx) (S : WX) : Type := { p : I × List (Addr × Obj) × (Value → Shared → Prop) // Takes ((X p.1).tr p.2.1 p.2.2) S ∧ PassesOwn (model (X p.1).prog (X p.1).w) (X p.1).A (X p.1).env p.2.2 }
def trF (X : I → Cx) (S : WX) (i : trI X S) : Cx := (X i.1.1).tr i.1.2.1 i.1.2.2
theorem Ctx.tr (c : Ctx X P w K mg base k) : Ctx (trF X S) P w K mg base k :=
  ⟨fun j => c.prog j.1.1, fun j => c.wd j.1.1, fun j => c.K j.1.1, fun j => c.mg j.1.1, fun j => c.base j.1.1, fun j => c.room j.1.1, fun j => c.grd j.1.1, fun j => c.calm j.1.1⟩
def suF (X : I → Cx) (i : I × Addr × Obj × List (Addr × Obj)) : Cx := (X i.1).suite i.2.1 ((i.2.1, i.2.2.1) :: i.2.2.2)
def sTry (tb : Str → Bool) (j : Nat) (fb : XF) (fs : SF) : SF := fun δ M => match fb δ M with
  | some (.ok o) => some o
  | some (.ex y δ' M') => if tb y = true then (match fs (δ'.set j none) M' with
    | some (.nx d2 M2) => some (.nx (d2.set j none) M2)
    | some (.bk d2 M2) => some (.bk (d2.set j none) M2)
    | some (.ct d2 M2) => some (.ct (d2.set j none) M2)
    | o => o) else none
  | none => none
theorem Slots.hide {W : Wd} {σ : St} {δ : Env} (s : Slots K W σ δ) (j : Nat) (u : Option V) : Slots K W (σ.set j u) (δ.set j none) :=
  ⟨by rw [List.length_set, List.length_set]; exact s.len, fun i d h => by
    rw [List.getElem?_set] at h
    rw [List.getElem?_set]
    by_cases e : j = i
    · rw [if_pos e] at h
      split at h <;> cases h
    · rw [if_neg e] at h ⊢
      exact s.at_ i d h⟩
theorem DS.tryAs (j : Nat) (c : Ctx X P w K mg base k) {x n : Str} {body suite : List Stmt} {b₀ : Stmt} {np pos pos' : Pos} {C : Addr} {fb : XF} {fs : SF} {tb : Str → Bool} (hN : ∀ i, (X i).N.Nodup) (hm : mg x = some (.ref C))
    (hx : ∀ y Cy, tb y = true → mg y = some (.ref Cy) → PySem.W.exmOne K (.ref Cy) (.ref C) = some true) (hv : ∀ y, tb y = true → ∃ Cy, mg y = some (.ref Cy)) (hb : ∀ S : WX, (∀ i, Takes (trF X S i) S) → Ctx (trF X S) P w K mg base k → DBX (trF X S) K mg S body fb) (hsu : DB (suF X) K (b₀ :: suite) fs)
    (hs : ∀ i, (X i).stack = (X i).env :: (X i).outer := by intro _; rfl) (hf : ∀ i, (X i).env.frame = some (X i).env.locals := by intro _; rfl) (hi : ∀ i, (X i).N[j]? = some n := by intro _; rfl) (hln : ∀ i, (X i).env.kindOf n = some .local := by intro _; rfl)
    (hg : ∀ i, Gl (X i) x := by intro _; rfl) (hdb : (x == ("__debug__" : Str)) = false := by decide) :
    DS X K (.Try body [.ExceptHandler (some (.Name x np)) (some n) (b₀ :: suite) pos'] [] [] pos) (sTry tb j fb fs) := by
  obtain ⟨ts, ps, rs⟩ := hsu.go
  have hb' := fun S : WX => (hb S (fun i => i.2.1) c.tr).go
  let tB : WX → TS := fun S => Classical.choose (hb' S)
  have pB : ∀ S i, PSs (trF X S i) body (tB S) := fun S => (Classical.choose_spec (hb' S)).1
  have rB : ∀ S, SRX K mg S (tB S) fb := fun S => (Classical.choose_spec (hb' S)).2
  refine ⟨fun D σ H => tB (wAs K (.ref C) j (fun _ _ _ => ts) (fun _ _ _ _ => False) D) D σ H, fun i => ?_, fun σ W δ M o E w s e q => ?_⟩
  · have h := ps_try_as (X := X i) (tb := tB) (ts := fun _ _ _ => ts) (i := j) (pos := pos) (pos' := pos') (np := np) (hs i) (hf i) (hN i) (hi i) (hln i) (show Names (X i) x (.ref C) from ⟨hg i, hdb, .inl (by rw [c.mg i]; exact hm)⟩) (takes0) (fun S pn xe tk po => pB S ⟨(i, pn, xe), tk, po⟩) (fun a oe cls d pn _ _ => ps (i, a, oe, pn))
    rw [c.K i] at h
    exact h
  · unfold sTry at e
    split at e
    · rename_i o' h1
      cases e
      exact rB _ σ W δ M _ E w s h1 q
    · rename_i y δ' M' h1
      split at e
      · rename_i hy
        refine rB _ σ W δ M _ E w s h1 fun Cy σ' W' m l w' s' => ⟨true, hx y Cy hy m, fun _ a ha => ?_, fun z => by cases z⟩
        have s2 := s'.hide j (some (.ref a))
        split at e
        · rename_i d2 M2 h2
          cases e
          exact rs _ W' _ M' _ _ w' s2 h2 fun σ3 W3 l3 w3 s3 => q _ W3 (l.trans l3) w3 (s3.hide j none)
        · rename_i d2 M2 h2
          cases e
          exact rs _ W' _ M' _ _ w' s2 h2 fun σ3 W3 l3 w3 s3 => q _ W3 (l.trans l3) w3 (s3.hide j none)
        · rename_i d2 M2 h2
          cases e
          exact rs _ W' _ M' _ _ w' s2 h2 fun σ3 W3 l3 w3 s3 => q _ W3 (l.trans l3) w3 (s3.hide j none)
        · rename_i n1 n2 n3
          match o, e, q with
          | .rt d3 M3, e, q => exact rs _ W' _ M' _ _ w' s2 e fun v W3 l3 w3 r3 => q v W3 (l.trans l3) w3 r3
          | .nx d3 M3, e, q => exact absurd e (n1 d3 M3)
          | .bk d3 M3, e, q => exact absurd e (n2 d3 M3)
          | .ct d3 M3, e, q => exact absurd e (n3 d3 M3)
      · cases e
    · cases e
end
/-! ### a def that may raise -/
def fnX (n : Nat) (g : XF) : FnX := fun ds M => match g (startD n ds) M with
  | some (.ok (.rt d M')) => some (.v d M')
  | some (.ok (.nx _ M')) => some (.v .non M')
  | some (.ex y _ M') => some (.ex y M')
  | _ => none
def bodyX (P : Program) (w : World) (K : PySem.W.Frag) (mg : Str → Option Value) (base : Heap) (N : List Str) (E : XK) {k : Nat} {qual : Str} {scope : Scope} {f : Addr} (e : Entry k qual scope f) : Cx := cxOf (L2.CX P w) P w K mg base N qual scope f e.cdv e.A e.outer e.s e.H E
theorem bodyX_ctx (P : Program) (w : World) (K : PySem.W.Frag) (mg : Str → Option Value) (base : Heap) (N : List Str) (E : XK) {k : Nat} {qual : Str} {scope : Scope} {f : Addr} : Ctx (bodyX P w K mg base N E (k := k) (qual := qual) (scope := scope) (f := f)) P w K mg base k :=
  ⟨fun _ => rfl, fun _ => rfl, fun _ => rfl, fun _ => rfl, fun _ => rfl, fun e => e.room, fun e => e.grd, fun _ => rfl⟩
theorem DFnX.of {P : Program} {w : World} {K : PySem.W.Frag} {mg : Str → Option Value} {base : Heap} {k : Nat} {x qual : Str} {params : Arguments} {body : List Stmt} {scope : Scope} {dvs : List V} {kws : List (Str × V)} {f : Addr} {fd : FuncData} {N ps : List Str} {g : XF}
    (h : FunD K x qual params body scope dvs kws f fd) (Sc : FnScope N ps scope) (hb : ∀ E : XK, Ctx (bodyX P w K mg base N E (k := k) (qual := qual) (scope := scope) (f := f)) P w K mg base k → (∀ i, Takes (bodyX P w K mg base N E (k := k) (qual := qual) (scope := scope) (f := f) i) (fun c d _ H => E c d H)) →
      DBX (bodyX P w K mg base N E (k := k) (qual := qual) (scope := scope) (f := f)) K mg (fun c d _ H => E c d H) body g) : DFnX P w K mg base (k + 1) f fd ps (fnX N.length g) := by
  obtain ⟨oc, od, dV, kV, doc, pm, an, cdv, ct, osl, rfl, lk, hcd, _, _⟩ := h.ex
  refine ⟨fun A outer s H args us vs Q E room grd e0 bd r q => ?_⟩
  obtain ⟨t, pt, rt⟩ := (hb E (bodyX_ctx P w K mg base N E) (fun i => takes_of rfl rfl rfl rfl)).go
  obtain ⟨W, M, ds, o, rfl, a2, a3, a4, a5, a6⟩ := q
  have hl : vs.length = ps.length := a3.len.trans a4
  have KX : K.In s.heap := e0.mod.kin.keeps fun b o e => (e0.bs b o e).1
  have lim : s.heap.NoLimit := e0.mod.nolimit.keeps fun b o e => (e0.bs b o e).1
  have knd : ∀ y ∈ ps.zip us, scope.names.lookup y.1 = some .local ∨ (scope.names.lookup y.1 = some .cell ∧ ((cellsFrom (s.heap.objs.size + 1) scope.names []).lookup y.1).isSome = true) := fun y hy => by
    rcases Sc.par y.1 (List.of_mem_zip (a := y.1) (b := y.2) hy).1 with q | q
    · exact .inl q
    · exact .inr ⟨q, PySem.W.cellsFrom_some _ _ _ (.inl q)⟩
  refine codeAny_call_function room.depth (KX _ _ lk) rfl Sc.co Sc.gen rfl (PySem.W.codeRec_of KX hcd) (bd _ _ _ _ ?_)
  refine wpAny_newFunctionEnv_cells Sc.kind knd fun env he s1 xc => ?_
  subst he
  refine ⟨lim.keeps xc.toInCall.keep, codeAny_func ?_⟩
  have J : Inv (cxOf (L2.CX P w) P w K mg base N qual scope f cdv A outer s W.H E) [] (L2.start N vs) W.H s1 := inv_start Sc room.hd e0 hl r xc
  have ht := pt ⟨cdv, A, outer, s, W.H, room.deeper _, grd⟩
  have q2 : t { nx := fun _ H' => Q .non H', rt := Q } (L2.start N vs) W.H := by
    unfold fnX at a5
    split at a5
    · rename_i d2 M2 h2
      cases a5
      exact rt _ W _ M _ _ a2 (slots_start a3) h2 a6
    · rename_i δ2 M2 h2
      cases a5
      exact rt _ W _ M _ _ a2 (slots_start a3) h2 fun σ' W' l o s' => a6 .non W' l o .non
    · rename_i y δ2 M2 h2
      cases a5
      exact rt _ W _ M _ _ a2 (slots_start a3) h2 fun C σ' W' m l o s' => a6 C W' m l o
    · cases a5
  refine wpAny_mono (ht.run [] s1 (L2.start N vs) W.H _ J q2) (fun fl s' hs => ?_) fun e s' hs => hs
  have fin : ∀ {σ' : St} {H' : Hp} {v : V} {u : Value}, Inv (cxOf (L2.CX P w) P w K mg base N qual scope f cdv A outer s W.H E) [] σ' H' s' → RelV v u → Q v H' → CE outer P w W.H s Q u s' :=
    fun {σ' H' v u} J rv q => ⟨v, H', J.os, J.bare, J.base, J.hok, rv, q⟩
  match fl, hs with
  | .ret u, ⟨v, σ', H', J2, rv, q3⟩ => exact fin J2 rv q3
  | .next, ⟨σ', H', J2, q3⟩ => exact fin (v := V.non) (u := Value.none) J2 rfl q3
  | .brk, ⟨_, _, _, q3⟩ => exact False.elim q3
  | .cont, ⟨_, _, _, q3⟩ => exact False.elim q3
end Pl

/-! PlT: what was caught is kept. -/
namespace L2
open PySem PySem.Spec PyProof.Rows
section
variable {X : Cx} {pins : List (Addr × Obj)} {σ : St} {H : Hp} {s : Shared}
/-- an object that stands there already is told of from here on -/
theorem Inv.told {a : Addr} {o : HO} (I : Inv X pins σ H s) (hn : H a = none) (h0 : X.s_0.heap.get? a = none) (hL : a ≠ X.env.locals) (hC : ∀ x c, X.env.cells.lookup x = some c → c ≠ a) (hP : ∀ p ∈ X.pn ++ pins, p.1 ≠ a)
    (new : ObjOk X.prog X.w (upd H a o) s.heap a o) : Inv X pins σ (upd H a o) s := by
  have ne0 : ∀ b u, X.s_0.heap.get? b = some u → b ≠ a := fun b u e z => by
    rw [z, h0] at e
    cases e
  have neH : ∀ b u, H b = some u → b ≠ a := fun b u e z => by
    rw [z, hn] at e
    cases e
  refine ⟨I.ok, I.os, I.bare, ⟨I.base.keep, I.base.slot, fun b u e n hx => ?_, I.base.there, fun b xs e => ?_, fun b u xs e => ?_, fun b ps e => ?_⟩, I.loc, I.cell, ?_, fun x c e => ?_, fun p hp => ?_, fun b u e => ?_, I.len⟩
  · rw [upd_ne (ne0 b u e)]
    exact I.base.free b u e n hx
  · have q := I.base.tups b xs e
    rw [upd_ne (neH _ _ q)]
    exact q
  · have q := I.base.frzs b u xs e
    rw [upd_ne (neH _ _ q)]
    exact q
  · obtain ⟨m, q⟩ := I.base.tbls b ps e
    exact ⟨m, by rw [upd_ne (neH _ _ q)]; exact q⟩
  · rw [upd_ne (fun z => hL z.symm)]
    exact I.free
  · rw [upd_ne (hC x c e)]
    exact I.freeC x c e
  · obtain ⟨q1, q2, q3⟩ := I.pin p hp
    exact ⟨q1, by rw [upd_ne (hP p hp)]; exact q2, q3⟩
  · by_cases hb : b = a
    · subst hb
      rw [upd_same] at e
      cases e
      exact new
    · rw [upd_ne hb] at e
      exact (I.hok b u e).stay (fun c v _ q => q) (fun c q => by rw [upd_ne (neH _ _ q)]; exact q) fun c xs q => by rw [upd_ne (neH _ _ q)]; exact q
end
open Pl in
/-- the ends of a suite behind which the caught one is kept -/
def endK (C a : Addr) (i : Nat) (D : Ends) : Ends :=
  { nx := fun σ' H' => H' a = none → D.nx (σ'.set i none) (upd H' a (Pl.ExV C a)), rt := fun v H' => H' a = none → D.rt v (upd H' a (Pl.ExV C a)), bk := fun σ' H' => H' a = none → D.bk (σ'.set i none) (upd H' a (Pl.ExV C a)), ct := fun σ' H' => H' a = none → D.ct (σ'.set i none) (upd H' a (Pl.ExV C a)) }
/-- what the clause wishes -/
def wKeep (K : PySem.W.Frag) (c : Value) (i : Nat) (ts : TS) (Wout : WX) (D : Ends) : WX := fun cls d σ H =>
  ∃ b, PySem.W.exmOne K cls c = some b ∧ (b = true → d = none ∧ ∃ C, cls = .ref C ∧ ∀ a, H a = none → ts (endK C a i D) (σ.set i (some (.ref a))) H) ∧ (b = false → Wout cls d σ H)
section
variable {X : Cx} {x n : Str} {c : Value} {i : Nat} {body suite : List Stmt} {b₀ : Stmt} {np pos pos' : Pos} {tb : WX → TS} {ts : TS} {Wout : WX}
theorem ps_try_keep (hs : X.stack = X.env :: X.outer) (hf : X.env.frame = some X.env.locals) (hex : X.ex = []) (hN : X.N.Nodup) (hi : X.N[i]? = some n) (hln : X.env.kindOf n = some .local) (hc : Names X x c) (tk : Takes X Wout)
    (hb : ∀ (W : WX) (pn : List (Addr × Obj)) (xe : Value → Shared → Prop), Takes (X.tr pn xe) W → PassesOwn (model X.prog X.w) X.A X.env xe → PSs (X.tr pn xe) body (tb W))
    (hsu : ∀ (a : Addr) (obE : Obj) (pn : List (Addr × Obj)), PSs (X.suite a ((a, obE) :: pn)) (b₀ :: suite) ts) :
    PS X (.Try body [.ExceptHandler (some (.Name x np)) (some n) (b₀ :: suite) pos'] [] [] pos) (fun D σ H => tb (wKeep X.K c i ts Wout D) D σ H) := by
  refine ⟨fun pins s σ H D I h => ?_⟩
  have ok := I.ok
  have frE : X.A.frames = some (X.env :: X.outer) := by rw [ok.frames, hs]
  have locE : Loc X.env.scope n := .inl hln
  refine wpAny_Try_except ?_
  refine wpAny_mono ((hb (wKeep X.K c i ts Wout D) (X.pn ++ pins) (fun e s₁ => wpAny (model X.prog X.w) X.A (noteFrame e X.env) (fun _ s₂ => wpAny (model X.prog X.w) X.A (setFlight e none) (fun _ s₃ =>
    wpAny (model X.prog X.w) X.A (handleBy e X.env [.ExceptHandler (some (.Name x np)) (some n) (b₀ :: suite) pos']) (SP X pins D) X.xe s₃) X.xe s₂) X.xe s₁) (fun u s' xx => ?_) PassesOwn.looking).run [] s σ H D (I.toTry _) h) (fun f s1 hend => ?_) (fun e s1 he => he)
  · obtain ⟨a, B, sI, pins', σ', H', cls, d, rfl, Jz, nb, up, sky, naA, os, ag, b, hb1, hyes, hno⟩ := xx
    have Ja : Inv X pins σ' H' sI := Jz.ofTry ok
    have skyT : Sky B (X.env :: X.outer) a (Zc cls d) X.env.locals s'.heap := by rw [← hs]; exact sky
    show wpAny (model X.prog X.w) X.A (noteFrame (.ref a) X.env) _ _ _
    refine Sky.land Zc.steady frE hf skyT fun hp3 fly3 mor3 => ?_
    have Jb : Inv X pins σ' H' { s' with heap := hp3 } := Ja.landed nb fly3.1 (up.trans mor3) os ag
    obtain ⟨ob3, fv3, at3, zc3, dt3⟩ := fly3.there
    have offFr : ∀ {h : Heap} {o : Obj} {vs : Array Value}, h.FunFrames B (X.env :: X.outer) → h.get? a = some o → o.data = .fields vs → a ∉ frs (X.env :: X.outer) := fun {h o vs} ff e dd mem_ => by
      obtain ⟨_, o', e', hnA⟩ := ff.mem mem_
      rw [e] at e'; cases e'
      exact hnA _ dd
    have nfrA := offFr fly3.2.2.1 at3 dt3
    have nLoc : a ≠ X.env.locals := fun z => nfrA (List.mem_filterMap.mpr ⟨X.env, List.mem_cons_self, by rw [hf, z]⟩)
    have nFs : a ∉ X.fs := fun mem_ => by
      obtain ⟨e, he, q⟩ := List.mem_filterMap.mp mem_
      exact nfrA (List.mem_filterMap.mpr ⟨e, List.mem_cons_of_mem _ he, q⟩)
    have nI : sI.heap.get? a = none := by
      cases e : sI.heap.get? a with
      | none => rfl
      | some o =>
        have z := nb a o e (by rw [hs]; exact nfrA)
        rw [fly3.2.1] at z
        cases z
    have nbA : X.s_0.heap.get? a = none := by
      cases e : X.s_0.heap.get? a with
      | none => rfl
      | some o =>
        obtain ⟨o', z⟩ := Ja.base.there a o e (by rw [hex]; exact fun z => nomatch z)
        rw [nI] at z
        cases z
    have nP : ∀ p ∈ X.pn ++ pins, p.1 ≠ a := fun p hp z => by
      have q := (Ja.pin p hp).1
      rw [z, nI] at q
      cases q
    have Sb := Jb.suite at3 dt3 naA nLoc nFs
    refine wpAny_handleBy_cons (codeAny_handlers_test ?_) (by intro q; cases q)
    have LtT : PySem.W.Looks (model X.prog X.w) hp3 (typeOf (.ref a)) cls := fun A Q E s k q => wpAny_typeOf_ref (k _ _ at3) (by rw [zc3.1]; exact q)
    have LmT := PySem.W.exm_one (M := model X.prog X.w) (Jb.kIn) LtT hb1
    have tstT : ∀ {Q : Value → Shared → Prop} {E : Value → Shared → Prop}, Q c { s' with heap := hp3 } → wpAny (model X.prog X.w) (X.A.mark (some (.ref a))) (eval (.Name x np) X.env) Q E { s' with heap := hp3 } := fun {Q E} q => by
      obtain ⟨hg, hdbg, mem_ | ⟨mem_, hv, hnn⟩⟩ := hc
      · exact ld_glob (X := X.suite a ((a, ob3) :: (X.pn ++ pins))) Sb hg mem_ q hdbg
      · exact ld_blt (X := X.suite a ((a, ob3) :: (X.pn ++ pins))) Sb hg mem_ hv q hnn hdbg
    refine tstT (LmT.here ?_)
    cases b with
    | true =>
      obtain ⟨rfl, C, rfl, hy⟩ := hyes rfl
      refine codeAny_handlers_suite_as ?_
      refine HandSPX.lands_againZ fly3 fun hp4 fly4 mor4 => ?_
      have Jc : Inv X pins σ' H' { s' with heap := hp4 } := Ja.landed nb fly4.1 ((up.trans mor3).trans mor4) os ag
      obtain ⟨ob4, fv4, at4, zc4, dt4⟩ := fly4.there
      have Sc := Jc.suite at4 dt4 naA nLoc nFs
      refine store_ok (X := X.suite a ((a, ob4) :: (X.pn ++ pins))) (v := .ref a) Sc hN hi locE rfl (fun sd Sd => ?_) (.inr hln)
      refine wpAny_mono ((hsu a ob4 (X.pn ++ pins)).run [] sd _ H' _ Sd (hy a naA)) (fun f s6 hend => ?_) (fun _ _ z => False.elim z)
      have end_ : ∀ {σe : St} {He : Hp} {Q : Shared → Prop}, Inv (X.suite a ((a, ob4) :: (X.pn ++ pins))) [] σe He s6 → (∀ s7, He a = none → Inv X pins (σe.set i none) (upd He a (Pl.ExV C a)) s7 → Q s7) →
          wpAny (model X.prog X.w) X.A (do bindName X.env n .none; unbindBehindTheSuite X.env n pos') (fun _ s7 => Q s7) X.xe s6 := fun {σe He Q} Se hq => by
        obtain ⟨ga, gn, _⟩ := Se.pin (a, ob4) (List.mem_append.mpr (.inl List.mem_cons_self))
        have J6 := Se.unsuite ok
        have hC : ∀ x c, X.env.cells.lookup x = some c → c ≠ a := fun x c e z => by
          obtain ⟨v, o, ho, hd⟩ := J6.cell x c e
          rw [z, ga] at ho
          cases ho
          rw [dt4] at hd
          cases hd
        have new : ObjOk X.prog X.w (upd He a (Pl.ExV C a)) s6.heap a (Pl.ExV C a) := ⟨⟨ob4, fv4, ga, zc4, dt4⟩, ⟨ob4, ga⟩, fun _ _ ⟨o, v, q, r⟩ k => ⟨o, v, k o q, r⟩⟩
        exact gone_ok (J6.told gn nbA nLoc hC nP new) hN hi hln fun s7 J7 => hq s7 gn J7
      cases f with
      | next =>
        obtain ⟨σe, He, Se, qe⟩ := hend
        exact end_ Se fun s7 gn J7 => ⟨_, _, J7, qe gn⟩
      | brk =>
        obtain ⟨σe, He, Se, qe⟩ := hend
        exact end_ Se fun s7 gn J7 => ⟨_, _, J7, qe gn⟩
      | cont =>
        obtain ⟨σe, He, Se, qe⟩ := hend
        exact end_ Se fun s7 gn J7 => ⟨_, _, J7, qe gn⟩
      | ret u =>
        obtain ⟨ve, σe, He, Se, re, qe⟩ := hend
        exact end_ Se fun s7 gn J7 => ⟨_, _, _, J7, re, qe gn⟩
    | false =>
      show wpAny _ X.A (handleBy (.ref a) X.env []) _ _ _
      refine wpAny_handleBy_nil ?_
      obtain ⟨k1, k2, k3, obE, vs, T, oT, ts', he, hz, hd, h1, hr⟩ := id fly3
      unfold PySem.passOn
      refine wpAny_bind (wpAny_field he hd h1 ?_)
      rw [if_neg (show ¬ ((Value.ref T == Value.none) = true) from by simp)]
      have finT : wpAny (model X.prog X.w) X.A (setFlight (.ref a) X.env.frame) (fun _ s4 => wpAny (model X.prog X.w) X.A (throw (.ref a) : Sem Flow) (SP X pins D) X.xe s4) X.xe { s' with heap := hp3 } := by
        rw [hf]
        refine HandSPX.setFlight_upZ fly3 fun hp4 hqD mor4 => wpAny_throw (tk _ _ ?_)
        exact ⟨a, B, sI, pins, σ', H', cls, d, rfl, Ja, nb, (up.trans mor3).trans mor4, .inr (.inr (by rw [hs]; exact hqD)), naA, os, ag, hno rfl⟩
      first
        | exact wpAny_bind (wpAny_pure (wpAny_bind finT))
        | exact wpAny_bind finT
  · cases f with
    | next =>
      obtain ⟨σ', H', Jz, q⟩ := hend
      exact wpAny_execs_nil ⟨σ', H', Jz.ofTry ok, q⟩
    | brk =>
      obtain ⟨σ', H', Jz, q⟩ := hend
      exact ⟨σ', H', Jz.ofTry ok, q⟩
    | cont =>
      obtain ⟨σ', H', Jz, q⟩ := hend
      exact ⟨σ', H', Jz.ofTry ok, q⟩
    | ret u =>
      obtain ⟨v, σ', H', Jz, r, q⟩ := hend
      exact ⟨v, σ', H', Jz.ofTry ok, r, q⟩
end
end L2

/-! PlK: a try that keeps what it caught; isinstance of that. -/
namespace Pl
open PySem L2
section
variable {I : Type} {X : I → Cx} {P : Program} {w : World} {K : PySem.W.Frag} {mg : Str → Option Value} {base : Heap} {k : Nat}
/-- one more place, nothing alive there -/
def Wd.ix1 (W : Wd) (a : Addr) : Wd := ⟨W.H, W.B, W.ι ++ [a], W.P⟩
theorem Wd.ix1_le {W : Wd} {a : Addr} : W.Le (W.ix1 a) := ⟨fun _ _ h => h, ⟨[a], rfl⟩, rfl⟩
theorem Wd.ix1_live {W : Wd} {M : Mh} {a : Addr} (w : W.Ok K M) : ∀ n b o, Live (W.ix1 a) (M ++ [.dead]) n b o → Live W M n b o := fun n b o ⟨h1, h2, h3⟩ => by
  by_cases hn : n < M.length
  · rw [List.getElem?_append_left hn] at h2
    have h1' : (W.ι ++ [a])[n]? = some b := h1
    rw [List.getElem?_append_left (by rw [w.len]; exact hn)] at h1'
    exact ⟨h1', h2, h3⟩
  · have e : n = M.length := by
      have := (List.getElem?_eq_some_iff.mp h2).1
      rw [List.length_append] at this
      simp at this
      omega
    subst e
    rw [List.getElem?_append_right (Nat.le_refl _)] at h2
    simp at h2
    exact absurd h2.symm h3
theorem Wd.ix1_ok {W : Wd} {M : Mh} {a : Addr} (w : W.Ok K M) : (W.ix1 a).Ok K (M ++ [.dead]) :=
  ⟨w.sub, w.pin, by
    show (W.ι ++ [a]).length = _
    simp [w.len], fun n b o h => by
    obtain ⟨h1, h2, u, h3, h4⟩ := w.live n b o (Wd.ix1_live w n b o h)
    exact ⟨h1, h2, u, h3, h4.mono (fun _ _ q => q) Wd.ix1_le.ix⟩, fun n m b o u h g => w.inj n m b o u (Wd.ix1_live w n b o h) (Wd.ix1_live w m b u g)⟩
/-- the caught one stands there from here on -/
def Wd.wake (W : Wd) (a : Addr) (o : HO) : Wd := ⟨upd W.H a o, W.B, W.ι, W.P⟩
theorem Wd.wake_le {W : Wd} {a : Addr} {o : HO} : W.Le (W.wake a o) := ⟨fun _ _ h => h, ⟨[], by simp [Wd.wake]⟩, rfl⟩
theorem Wd.wake_ok {W : Wd} {M : Mh} {a : Addr} {n : Nat} {o : HO} {m : MO} (w : W.Ok K M) (hn : n < M.length) (hι : W.ι[n]? = some a) (hH : W.H a = none) (r : RepO K W.B W.ι a o m) : (W.wake a o).Ok K (M.set n m) := by
  have hB := w.bnone hH
  have hP := w.pnone hH
  have lv : ∀ k b u, Live (W.wake a o) (M.set n m) k b u → (k = n ∧ b = a ∧ u = m) ∨ (k ≠ n ∧ Live W M k b u) := fun k b u ⟨h1, h2, h3⟩ => by
    by_cases e : n = k
    · subst e
      rw [List.getElem?_set_self hn] at h2
      have e1 : some b = some a := (show W.ι[n]? = some b from h1).symm.trans hι
      cases e1
      cases h2
      exact .inl ⟨rfl, rfl, rfl⟩
    · rw [List.getElem?_set_ne e] at h2
      exact .inr ⟨fun z => e z.symm, h1, h2, h3⟩
  have ne : ∀ {k b u}, Live W M k b u → b ≠ a := fun {k b u} h e => by
    obtain ⟨_, _, g, hg, _⟩ := w.live k b u h
    rw [e, hH] at hg
    cases hg
  refine ⟨fun b u h => ?_, fun b u h => ?_, by rw [List.length_set]; exact w.len, fun k b u h => ?_, fun k j b u v h g => ?_⟩
  · exact (upd_ne (fun e => by
      rw [e] at h
      have h' : W.B a = some u := h
      rw [hB] at h'
      cases h')).trans (w.sub b u h)
  · have q := w.pin b u h
    exact ⟨(upd_ne (fun e => by
      rw [e] at h
      have h' : W.P a = some u := h
      rw [hP] at h'
      cases h')).trans q.1, q.2⟩
  · rcases lv k b u h with ⟨rfl, rfl, rfl⟩ | ⟨_, h⟩
    · exact ⟨hB, hP, o, upd_same, r⟩
    · obtain ⟨h1, h2, g, h3, h4⟩ := w.live k b u h
      exact ⟨h1, h2, g, (upd_ne (ne h)).trans h3, h4⟩
  · rcases lv k b u h with ⟨rfl, rfl, rfl⟩ | ⟨_, h⟩
    · rcases lv j b v g with ⟨rfl, _, _⟩ | ⟨_, g⟩
      · rfl
      · exact absurd rfl (ne g)
    · rcases lv j b v g with ⟨_, e, _⟩ | ⟨_, g⟩
      · exact absurd e (ne h)
      · exact w.inj _ _ _ _ _ h g
def kp (n : Nat) (C : Addr) (M : Mh) : Option Mh := match M[n]? with
  | some .dead => some (M.set n (.exc C))
  | _ => none
def kpO (j n : Nat) (C : Addr) : Option Out → Option Out
  | some (.nx δ M) => (kp n C M).map fun M' => .nx (δ.set j none) M'
  | some (.bk δ M) => (kp n C M).map fun M' => .bk (δ.set j none) M'
  | some (.ct δ M) => (kp n C M).map fun M' => .ct (δ.set j none) M'
  | some (.rt d M) => (kp n C M).map fun M' => .rt d M'
  | none => none
def sTryK (tb : Str → Option Addr) (j : Nat) (fb : XF) (fs : SF) : SF := fun δ M => match fb δ M with
  | some (.ok o) => some o
  | some (.ex y δ' M') => (match tb y with
    | some C => kpO j M'.length C (fs (δ'.set j (some (.ref M'.length))) (M' ++ [.dead]))
    | none => none)
  | none => none
theorem kp_some {n : Nat} {C : Addr} {M M' : Mh} (h : kp n C M = some M') : n < M.length ∧ M' = M.set n (.exc C) := by
  unfold kp at h
  split at h
  · rename_i hd
    cases h
    exact ⟨(List.getElem?_eq_some_iff.mp hd).1, rfl⟩
  · cases h
theorem Slots.ix1 {W : Wd} {σ : St} {δ : Env} (s : Slots K W σ δ) {a : Addr} {M : Mh} (w : W.Ok K M) (j : Nat) : Slots K (W.ix1 a) (σ.set j (some (.ref a))) (δ.set j (some (.ref M.length))) :=
  (s.le Wd.ix1_le).set (.ref (by
    show (W.ι ++ [a])[M.length]? = some a
    rw [← w.len]
    simp)) j
theorem DS.tryKeep (j : Nat) (c : Ctx X P w K mg base k) {x n : Str} {body suite : List Stmt} {b₀ : Stmt} {np pos pos' : Pos} {CH : Addr} {fb : XF} {fs : SF} {tb : Str → Option Addr} (hN : ∀ i, (X i).N.Nodup) (hm : mg x = some (.ref CH))
    (hx : ∀ y C, tb y = some C → mg y = some (.ref C) ∧ PySem.W.exmOne K (.ref C) (.ref CH) = some true ∧ ExcC K C) (hb : ∀ S : WX, (∀ i, Takes (trF X S i) S) → Ctx (trF X S) P w K mg base k → DBX (trF X S) K mg S body fb) (hsu : DB (suF X) K (b₀ :: suite) fs)
    (hs : ∀ i, (X i).stack = (X i).env :: (X i).outer := by intro _; rfl) (hf : ∀ i, (X i).env.frame = some (X i).env.locals := by intro _; rfl) (hex : ∀ i, (X i).ex = [] := by intro _; rfl) (hi : ∀ i, (X i).N[j]? = some n := by intro _; rfl) (hln : ∀ i, (X i).env.kindOf n = some .local := by intro _; rfl)
    (hg : ∀ i, Gl (X i) x := by intro _; rfl) (hdb : (x == ("__debug__" : Str)) = false := by decide) :
    DS X K (.Try body [.ExceptHandler (some (.Name x np)) (some n) (b₀ :: suite) pos'] [] [] pos) (sTryK tb j fb fs) := by
  obtain ⟨ts, ps, rs⟩ := hsu.go
  have hb' := fun S : WX => (hb S (fun i => i.2.1) c.tr).go
  let tB : WX → TS := fun S => Classical.choose (hb' S)
  have pB : ∀ S i, PSs (trF X S i) body (tB S) := fun S => (Classical.choose_spec (hb' S)).1
  have rB : ∀ S, SRX K mg S (tB S) fb := fun S => (Classical.choose_spec (hb' S)).2
  refine ⟨fun D σ H => tB (wKeep K (.ref CH) j ts (fun _ _ _ _ => False) D) D σ H, fun i => ?_, fun σ W δ M o E w s e q => ?_⟩
  · have h := ps_try_keep (X := X i) (tb := tB) (ts := ts) (i := j) (pos := pos) (pos' := pos') (np := np) (hs i) (hf i) (hex i) (hN i) (hi i) (hln i) (show Names (X i) x (.ref CH) from ⟨hg i, hdb, .inl (by rw [c.mg i]; exact hm)⟩) (takes0) (fun S pn xe tk po => pB S ⟨(i, pn, xe), tk, po⟩) (fun a oe pn => ps (i, a, oe, pn))
    rw [c.K i] at h
    exact h
  · unfold sTryK at e
    split at e
    · rename_i o' h1
      cases e
      exact rB _ σ W δ M _ E w s h1 q
    · rename_i y δ' M' h1
      split at e
      · rename_i C hy
        obtain ⟨g1, g2, g3⟩ := hx y C hy
        refine rB _ σ W δ M _ E w s h1 fun Cy σ' W' m l w' s' => ?_
        have eC : Cy = C := by
          have := m.symm.trans g1
          cases this
          rfl
        subst eC
        refine ⟨true, g2, fun _ => ⟨rfl, Cy, rfl, fun a ha => ?_⟩, fun z => by cases z⟩
        have fin : ∀ {W3 : Wd} {M2 M3 : Mh}, (W'.ix1 a).Le W3 → W3.Ok K M2 → W3.H a = none → kp M'.length Cy M2 = some M3 → (W3.wake a (ExV Cy a)).Ok K M3 := fun {W3 M2 M3} l3 w3 h3 k3 => by
          obtain ⟨kn, rfl⟩ := kp_some k3
          exact Wd.wake_ok w3 kn (l3.ix _ _ (by
            show (W'.ι ++ [a])[M'.length]? = some a
            rw [← w'.len]
            simp)) h3 (.exc g3)
        have lw : ∀ {W3 : Wd}, (W'.ix1 a).Le W3 → W.Le (W3.wake a (ExV Cy a)) := fun {W3} l3 => ((l.trans Wd.ix1_le).trans l3).trans Wd.wake_le
        show ts (endK Cy a j E) (σ'.set j (some (.ref a))) (W'.ix1 a).H
        generalize hf0 : fs (δ'.set j (some (.ref M'.length))) (M' ++ [.dead]) = fo at e
        match fo, e with
        | some (.nx d2 M2), e =>
          obtain ⟨M3, e3, rfl⟩ := Option.map_eq_some_iff.mp e
          exact rs _ (W'.ix1 a) _ _ _ _ (Wd.ix1_ok w') (s'.ix1 w' j) hf0 fun σ3 W3 l3 w3 s3 h3 => q _ (W3.wake a (ExV Cy a)) (lw l3) (fin l3 w3 h3 e3) ((s3.hide j none).le Wd.wake_le)
        | some (.bk d2 M2), e =>
          obtain ⟨M3, e3, rfl⟩ := Option.map_eq_some_iff.mp e
          exact rs _ (W'.ix1 a) _ _ _ _ (Wd.ix1_ok w') (s'.ix1 w' j) hf0 fun σ3 W3 l3 w3 s3 h3 => q _ (W3.wake a (ExV Cy a)) (lw l3) (fin l3 w3 h3 e3) ((s3.hide j none).le Wd.wake_le)
        | some (.ct d2 M2), e =>
          obtain ⟨M3, e3, rfl⟩ := Option.map_eq_some_iff.mp e
          exact rs _ (W'.ix1 a) _ _ _ _ (Wd.ix1_ok w') (s'.ix1 w' j) hf0 fun σ3 W3 l3 w3 s3 h3 => q _ (W3.wake a (ExV Cy a)) (lw l3) (fin l3 w3 h3 e3) ((s3.hide j none).le Wd.wake_le)
        | some (.rt d2 M2), e =>
          obtain ⟨M3, e3, rfl⟩ := Option.map_eq_some_iff.mp e
          exact rs _ (W'.ix1 a) _ _ _ _ (Wd.ix1_ok w') (s'.ix1 w' j) hf0 fun v W3 l3 w3 r3 h3 => q v (W3.wake a (ExV Cy a)) (lw l3) (fin l3 w3 h3 e3) (r3.le Wd.wake_le)
        | none, e => cases e
      · cases e
    · cases e
/-! ### isinstance of what is kept -/
theorem GV.cls {x : Str} {C : Addr} (h : mg x = some (.ref C)) : GV K mg x (.ob C) := ⟨.ref C, .ref C, h, rfl, fun _ _ => .ob _⟩
def clV : D → Option Value
  | .ob c => some (.ref c)
  | .ty t => some (.type t)
  | _ => none
def gIsiE (isa : Addr → Value → Option Bool) : GL := fun ds M => match ds with
  | [.ref n, c] => (match M[n]?, clV c with
    | some (.exc C), some cv => (match isa C cv with
      | some b => some (.bl b, M)
      | none => none)
    | _, _ => gIsi [.ref n, c] M)
  | ds => gIsi ds M
def rIsiE (K : PySem.W.Frag) (xs : List V) (H : Hp) (Q : VK) : Prop := ∃ a C c cv b, xs = [.ref a, c] ∧ H a = some (ExV C a) ∧ ExcC K C ∧ (∀ u, RelV c u → u = cv) ∧ PySem.W.kitOne K (.ref C) cv = some b ∧ Q (.bl b) H
theorem call_isiE {Y : Cx} : CallR Y (.builtin "isinstance") (rIsiE Y.K) := fun pins s σ H xs us Q J r h => by
  obtain ⟨a, D, c, cv, b, rfl, hH, E, hcv, e, q⟩ := h
  cases r with
  | cons rx rr =>
    cases rr with
    | cons rt rr =>
      cases rr
      cases rx
      have ec := hcv _ rt
      subst ec
      obtain ⟨⟨oe, vs, hget, hz, hv⟩, _, _⟩ := J.hok a _ hH
      have I : PySem.W.InstAt s.heap a oe D none := by
        obtain ⟨oc, od, oda, osl⟩ := oe
        obtain ⟨h1, h2⟩ := hz
        dsimp only at h1 h2 hv
        subst h1 h2 hv
        exact ⟨hget, rfl, rfl, trivial⟩
      exact PySem.W.kia_one (PySem.W.handS_kitx_exc E.hg E.hk E.hs E.hd E.ha E.hn E.ht E.hm) J.kIn I e (fun z => nomatch z) fun tk => ⟨.bl b, H, J.kept (t' := tk) fun _ _ z => z, rfl, q⟩
theorem cIsiE (c : Ctx X P w K mg base k) {isa : Addr → Value → Option Bool} (hi : ∀ C v b, isa C v = some b → PySem.W.kitOne K (.ref C) v = some b) : CalF X K (.builtin "isinstance") (gIsiE isa) := by
  obtain ⟨r, hr, hq⟩ := (cIsi c).go
  refine ⟨fun xs H Q => r xs H Q ∨ rIsiE K xs H Q, fun i pins s σ H xs us Q J hv h => ?_, fun W M vs ds z M' Q w rp e q => ?_⟩
  · rcases h with h | h
    · exact hr i pins s σ H xs us Q J hv h
    · refine call_isiE pins s σ H xs us Q J hv ?_
      rw [c.K i]
      exact h
  · unfold gIsiE at e
    split at e
    · rename_i n cd
      split at e
      · rename_i C cv hm hc
        split at e
        · rename_i b hb
          cases e
          cases rp with
          | cons r1 r2 =>
            cases r2 with
            | cons r2 r3 =>
              cases r3
              cases r1 with
              | ref hι =>
                obtain ⟨_, _, o, ho, ro⟩ := w.live _ _ _ ⟨hι, hm, fun z => by cases z⟩
                cases ro with
                | exc E =>
                  refine .inr ⟨_, C, _, cv, b, rfl, ho, E, fun u ru => ?_, hi _ _ _ hb, q _ W (.refl W) w (.bl _)⟩
                  cases r2 with
                  | ob a =>
                    cases hc
                    cases ru
                    rfl
                  | ty t =>
                    cases hc
                    cases ru
                    rfl
                  | _ => cases hc
        · cases e
      · exact .inl (hq W M vs _ z M' Q w rp e q)
    · exact .inl (hq W M vs _ z M' Q w rp e q)
end
/-! ### three names at once -/
section
variable {I : Type} {X : I → Cx} {P : Program} {w : World} {K : PySem.W.Frag} {mg : Str → Option Value} {base : Heap} {k : Nat}
def sPar3 (i j l : Nat) (f g h : EF) : SF := fun δ M => match f δ M with
  | some (d, M1) => (match g δ M1 with
    | some (e, M2) => (match h δ M2 with
      | some (u, M3) => some (.nx (((δ.set i (some d)).set j (some e)).set l (some u)) M3)
      | none => none)
    | none => none)
  | none => none
theorem DS.par3 (a b d : Nat) {x y z : Str} {e1 e2 e3 : Expr} {f g h : EF} {px py pz pt : Pos} {kt k2 pt2 pos} (c : Ctx X P w K mg base k) (h1 : DE X K e1 f) (h2 : DE X K e2 g) (h3 : DE X K e3 h) (hN : ∀ i, (X i).N.Nodup) (hi : ∀ i, (X i).N[a]? = some x := by intro _; rfl) (hj : ∀ i, (X i).N[b]? = some y := by intro _; rfl) (hl : ∀ i, (X i).N[d]? = some z := by intro _; rfl)
    (hij : a ≠ b := by decide) (hil : a ≠ d := by decide) (hjl : b ≠ d := by decide) (hx : ∀ i, (X i).env.scope.names.lookup x = some .local := by intro _; rfl) (hy : ∀ i, (X i).env.scope.names.lookup y = some .local := by intro _; rfl) (hz : ∀ i, (X i).env.scope.names.lookup z = some .local := by intro _; rfl)
    (hw : ∀ i, swappedStores [.Tuple [.Name x px, .Name y py, .Name z pz] kt pt] (.Tuple [e1, e2, e3] k2 pt2) (X i).env = pure (some [x, y, z]) := by intro _; rfl)
    (hs : ∀ i, swapsWithSole [.Tuple [.Name x px, .Name y py, .Name z pz] kt pt] (.Tuple [e1, e2, e3] k2 pt2) pos.line (X i).env = pure false := by intro _; rfl)
    (he1 : ∀ i, starEach [e1, e2, e3] (X i).env = (false, eval e1 (X i).env) :: starEach [e2, e3] (X i).env := by intro _; rfl) (he2 : ∀ i, starEach [e2, e3] (X i).env = (false, eval e2 (X i).env) :: starEach [e3] (X i).env := by intro _; rfl) (he3 : ∀ i, starEach [e3] (X i).env = (false, eval e3 (X i).env) :: starEach [] (X i).env := by intro _; rfl) :
    DS X K (.Assign [.Tuple [.Name x px, .Name y py, .Name z pz] kt pt] (.Tuple [e1, e2, e3] k2 pt2) pos) (sPar3 a b d f g h) := by
  obtain ⟨ta, pa, ra⟩ := h1.go
  obtain ⟨tb, pb, rb⟩ := h2.go
  obtain ⟨tc, pc, rc⟩ := h3.go
  refine ⟨tPar3 a b d (tCons ta (tCons tb (tCons tc tNil))), fun i => ps_par3 (c.calm i) (hN i) (hi i) (hj i) (hl i) hij hil hjl (hx i) (hy i) (hz i) (pa_cons (pa i) (pa_cons (pb i) (pa_cons (pc i) pa_nil (he3 i)) (he2 i)) (he1 i)) (hw i) (hs i), fun σ W δ M o E w s e q => ?_⟩
  unfold sPar3 at e
  split at e
  · rename_i d1 M1 h1
    split at e
    · rename_i d2 M2 h2
      split at e
      · rename_i d3 M3 h3
        cases e
        refine ra σ W δ M d1 M1 _ w s h1 fun v W1 l1 w1 r1 => ?_
        refine rb σ W1 δ M1 d2 _ _ w1 (s.le l1) h2 fun u W2 l2 w2 r2 => ?_
        refine rc σ W2 δ M2 d3 _ _ w2 (s.le (l1.trans l2)) h3 fun t W3 l3 w3 r3 => ?_
        exact ⟨v, u, t, rfl, q _ W3 ((l1.trans l2).trans l3) w3 ((((s.le ((l1.trans l2).trans l3)).set (r1.le (l2.trans l3)) a).set (r2.le l3) b).set r3 d)⟩
      · cases e
    · cases e
  · cases e
end
/-! ### what isinstance says of an own exception -/
theorem kit_own {K : PySem.W.Frag} {Y X : Addr} {b : Bool} (hd : PySem.W.hasDictIn K X = true) (ht : PySem.W.typeIn K (.ref X) = some (.type "type")) (hy : PySem.W.subIn K (.ref Y) (.ref Y) = some true) (hs : PySem.W.subIn K (.ref Y) (.ref X) = some b) : PySem.W.kitOne K (.ref Y) (.ref X) = some b := by
  unfold PySem.W.kitOne
  by_cases e : (Value.ref Y == Value.ref X) = true
  · rw [if_pos e]
    have e2 : Y = X := Value.ref.inj (beq_iff_eq.mp e)
    subst e2
    rw [hy] at hs
    exact hs
  · rw [if_neg e]
    obtain ⟨cd, hc, _⟩ := PySem.W.any_some hd
    have c : ((PySem.W.clsIn K X).isSome && PySem.W.typeIn K (.ref X) == some (.type "type")) = true := by
      rw [hc, ht]
      rfl
    show (if ((PySem.W.clsIn K X).isSome && PySem.W.typeIn K (.ref X) == some (.type "type")) = true then PySem.W.subIn K (.ref Y) (.ref X) else none) = _
    rw [if_pos c]
    exact hs
theorem kit_bt {K : PySem.W.Frag} {Y : Addr} {T : String} {b : Bool} (hm : PySem.W.kitMeta T = true) (hs : PySem.W.subIn K (.ref Y) (.type T) = some b) : PySem.W.kitOne K (.ref Y) (.type T) = some b := by
  unfold PySem.W.kitOne
  rw [if_neg (show ¬ ((Value.ref Y == Value.type T) = true) from fun z => by have := beq_iff_eq.mp z; cases this)]
  show (if PySem.W.kitMeta T = true then PySem.W.subIn K (.ref Y) (.type T) else none) = _
  rw [if_pos hm]
  exact hs
/-! ### the law's head, its meaning told by where the classes stand -/
theorem walk_ofX {l : PySem.W.OpenLaw} {n k : Nat} {q : Program} {loose : List Str} {XP : (Str → Option Value) → Heap → Prop} {YP : World → Heap → Prop} {d : DefRec} {K : Params → PySem.W.Frag} {x : Str}
    (hn : l.most = some n) (hn2 : n ≤ sizeLine) (hdf : d.params.defaults = []) (room : Room k PySem.callerA) (hY : ∀ (w : World) (h : Heap), YP w h → (K w.params).In h)
    (hF : ∀ (w : World) (mg : Str → Option Value) (fa : Addr) (h : Heap), (K w.params).In h → h.Ns mainGlobals mg → mg d.name = some (.ref fa) →
      ∃ (fd : FuncData) (F : Fn), (∀ (s : Shared) (u : Value), BindsTo s fd ⟨[u], []⟩ [(x, u)]) ∧ (∀ base : Heap, (K w.params).In base → base.Ns mainGlobals mg → DFn l.prog w (K w.params) mg base k fa fd [x] F) ∧
        ∀ ns : List Int, ns.length ≤ n → ∃ M', F [.lsk (ns.map D.int)] [] = some (.bl true, M')) :
    PySem.W.WalkO q loose XP YP l.row.toRowW d [] (fun f vs => PySem.call f vs) :=
  Att.attach_call hn hdf fun w _ t₁ mg _ fa _ _ _ _ a us ns G Y _ _ _ hmg obj isv len gn => by
    have kin := hY w _ Y
    obtain ⟨fd, F, hb, h, tru⟩ := hF w mg fa _ kin G.T.g hmg
    exact law_callD kin G.T.g G.T.b G.T.builtins G.T.nolimit gn obj isv (Nat.le_trans len hn2) room h hb (tru ns len)
end Pl

namespace Law
open PySem L2 Pl
structure CT where
  OutOfPlace : Addr
  BadSketch : Addr
  BadRow : Addr
  BadOutline : Addr
  BadBlock : Addr
  BadField : Addr
  BadFeature : Addr
  BadWay : Addr
  BadTools : Addr
  Clash : Addr
  BadPaper : Addr
  Twice : Addr
  NoPoint : Addr
  TooGreat : Addr
  NoFeature : Addr
  NoSaying : Addr
  Nothing : Addr
  NoTool : Addr
  Lifted : Addr
  NoToolThere : Addr
  Beyond : Addr
  Lowered : Addr
  TooDeep : Addr
  Blocked : Addr
  WorksError : Addr
  MissError : Addr
  FaultError : Addr
  isa : Addr → Value → Option Bool
structure Isa (ct : CT) : Prop where
  i_OutOfPlace_BadSketch : ct.isa ct.OutOfPlace (.ref ct.BadSketch) = some false
  i_OutOfPlace_BadRow : ct.isa ct.OutOfPlace (.ref ct.BadRow) = some false
  i_OutOfPlace_BadOutline : ct.isa ct.OutOfPlace (.ref ct.BadOutline) = some false
  i_OutOfPlace_BadBlock : ct.isa ct.OutOfPlace (.ref ct.BadBlock) = some false
  i_OutOfPlace_BadField : ct.isa ct.OutOfPlace (.ref ct.BadField) = some false
  i_OutOfPlace_BadFeature : ct.isa ct.OutOfPlace (.ref ct.BadFeature) = some false
  i_OutOfPlace_BadWay : ct.isa ct.OutOfPlace (.ref ct.BadWay) = some false
  i_OutOfPlace_BadTools : ct.isa ct.OutOfPlace (.ref ct.BadTools) = some false
  i_OutOfPlace_Clash : ct.isa ct.OutOfPlace (.ref ct.Clash) = some false
  i_OutOfPlace_BadPaper : ct.isa ct.OutOfPlace (.ref ct.BadPaper) = some false
  i_OutOfPlace_OutOfPlace : ct.isa ct.OutOfPlace (.ref ct.OutOfPlace) = some true
  i_OutOfPlace_Twice : ct.isa ct.OutOfPlace (.ref ct.Twice) = some false
  i_OutOfPlace_NoPoint : ct.isa ct.OutOfPlace (.ref ct.NoPoint) = some false
  i_OutOfPlace_TooGreat : ct.isa ct.OutOfPlace (.ref ct.TooGreat) = some false
  i_OutOfPlace_NoFeature : ct.isa ct.OutOfPlace (.ref ct.NoFeature) = some false
  i_OutOfPlace_NoSaying : ct.isa ct.OutOfPlace (.ref ct.NoSaying) = some false
  i_OutOfPlace_Nothing : ct.isa ct.OutOfPlace (.ref ct.Nothing) = some false
  i_OutOfPlace_NoTool : ct.isa ct.OutOfPlace (.ref ct.NoTool) = some false
  i_OutOfPlace_Lifted : ct.isa ct.OutOfPlace (.ref ct.Lifted) = some false
  i_OutOfPlace_NoToolThere : ct.isa ct.OutOfPlace (.ref ct.NoToolThere) = some false
  i_OutOfPlace_Beyond : ct.isa ct.OutOfPlace (.ref ct.Beyond) = some false
  i_OutOfPlace_Lowered : ct.isa ct.OutOfPlace (.ref ct.Lowered) = some false
  i_OutOfPlace_TooDeep : ct.isa ct.OutOfPlace (.ref ct.TooDeep) = some false
  i_OutOfPlace_Blocked : ct.isa ct.OutOfPlace (.ref ct.Blocked) = some false
  i_OutOfPlace_ValueError : ct.isa ct.OutOfPlace (.type "ValueError") = some true
  i_OutOfPlace_WorksError : ct.isa ct.OutOfPlace (.ref ct.WorksError) = some true
  i_OutOfPlace_LookupError : ct.isa ct.OutOfPlace (.type "LookupError") = some false
  i_OutOfPlace_MissError : ct.isa ct.OutOfPlace (.ref ct.MissError) = some false
  i_OutOfPlace_RuntimeError : ct.isa ct.OutOfPlace (.type "RuntimeError") = some false
  i_OutOfPlace_FaultError : ct.isa ct.OutOfPlace (.ref ct.FaultError) = some false
def nn_is_whole : List Str := ["thing"]
noncomputable def gg_is_whole : SF := (sRet (eAn (eB gIsi (aCons (eVar 0) (aCons (eC (.ty "int")) aNil))) (eNt (eB gIsi (aCons (eVar 0) (aCons (eC (.ty "bool")) aNil))))))
noncomputable def ff_is_whole : Fn := fnF 1 gg_is_whole
def nn_is_fraction : List Str := ["thing", "most", "top", "bottom"]
noncomputable def gg_is_fraction : SF := (sSeq (sIf (tOrr (tNt (tV (eB gIsi (aCons (eVar 0) (aCons (eC (.ty "tuple")) aNil))))) (tV (eOp (gEq fun p q => !PyData.eqv p q) (eB gLen (aCons (eVar 0) aNil)) (eC (.int 2))))) (sRet (eC (.bl false))) sNil) (sSeq (sAs (eVar 0) (gTp (gsCons (gN 2) (gsCons (gN 3) gsNil)))) (sSeq (sIf (tOrr (tNt (tV (eCall ff_is_whole (aCons (eVar 2) aNil) []))) (tOrr (tNt (tV (eCall ff_is_whole (aCons (eVar 3) aNil) []))) (tV (eOp (gInt fun i j => .bl (decide (i < j))) (eVar 3) (eC (.int 1)))))) (sRet (eC (.bl false))) sNil) (sSeq (sIf (tV (eOp (gEq fun p q => !PyData.eqv p q) (eB (gL2 fun i j => .int ((Nat.gcd i.natAbs j.natAbs : Nat) : Int)) (aCons (eVar 2) (aCons (eVar 3) aNil))) (eC (.int 1)))) (sRet (eC (.bl false))) sNil) (sSeq (sIf (tV (eOp (gIsN fun b => b) (eVar 1) (eC .non))) (sRet (eC (.bl true))) sNil) (sRet (eAn (eCall ff_is_whole (aCons (eVar 1) aNil) []) (eAn (eOp (gInt fun i j => .bl (decide (i ≤ j))) (eB (gL1 fun i => .int (if i < 0 then -i else i)) (aCons (eVar 2) aNil)) (eVar 1)) (eOp (gInt fun i j => .bl (decide (i ≤ j))) (eVar 3) (eVar 1))))))))))
noncomputable def ff_is_fraction : Fn := fnF 4 gg_is_fraction
def nn_lowest : List Str := ["top", "bottom", "shared"]
noncomputable def gg_lowest : SF := (sSeq (sAs (eB (gL2 fun i j => .int ((Nat.gcd i.natAbs j.natAbs : Nat) : Int)) (aCons (eVar 0) (aCons (eVar 1) aNil))) (gN 2)) (sSeq (sIf (tV (eOp (gInt fun i j => .bl (decide (i < j))) (eVar 1) (eC (.int 0)))) (sAs (eUn gNeg (eVar 2)) (gN 2)) sNil) (sRet (eTup (aCons (eOp (gIntC DivOk fun i j => .int (i.fdiv j)) (eVar 0) (eVar 2)) (aCons (eOp (gIntC DivOk fun i j => .int (i.fdiv j)) (eVar 1) (eVar 2)) aNil))))))
noncomputable def ff_lowest : Fn := fnF 3 gg_lowest
def nn_fraction : List Str := ["top", "bottom"]
noncomputable def xg_fraction : XF := (xSeq (xIf (tOrr (tNt (tV (eCall ff_is_whole (aCons (eVar 0) aNil) []))) (tNt (tV (eCall ff_is_whole (aCons (eVar 1) aNil) [])))) (xRaise "OutOfPlace") (xOk sNil)) (xSeq (xIf (tV (eOp (gEq PyData.eqv) (eVar 1) (eC (.int 0)))) (xRaise "OutOfPlace") (xOk sNil)) (xOk (sRet (eCall ff_lowest (aCons (eVar 0) (aCons (eVar 1) aNil)) [])))))
noncomputable def xx_fraction : FnX := fnX 2 xg_fraction
noncomputable def gg_fraction : SF := (sSeq (sIf (tOrr (tNt (tV (eCall ff_is_whole (aCons (eVar 0) aNil) []))) (tNt (tV (eCall ff_is_whole (aCons (eVar 1) aNil) [])))) sNever sNil) (sSeq (sIf (tV (eOp (gEq PyData.eqv) (eVar 1) (eC (.int 0)))) sNever sNil) (sRet (eCall ff_lowest (aCons (eVar 0) (aCons (eVar 1) aNil)) []))))
noncomputable def ff_fraction : Fn := fnF 2 gg_fraction
def nn_plus : List Str := ["one", "other"]
noncomputable def gg_plus : SF := (sRet (eCall ff_lowest (aCons (eOp gAdd (eOp gMul (eOp gIx (eVar 0) (eC (.int 0))) (eOp gIx (eVar 1) (eC (.int 1)))) (eOp gMul (eOp gIx (eVar 1) (eC (.int 0))) (eOp gIx (eVar 0) (eC (.int 1))))) (aCons (eOp gMul (eOp gIx (eVar 0) (eC (.int 1))) (eOp gIx (eVar 1) (eC (.int 1)))) aNil)) []))
noncomputable def ff_plus : Fn := fnF 2 gg_plus
def nn_less : List Str := ["one", "other"]
noncomputable def gg_less : SF := (sRet (eCall ff_lowest (aCons (eOp (gInt fun i j => .int (i - j)) (eOp gMul (eOp gIx (eVar 0) (eC (.int 0))) (eOp gIx (eVar 1) (eC (.int 1)))) (eOp gMul (eOp gIx (eVar 1) (eC (.int 0))) (eOp gIx (eVar 0) (eC (.int 1))))) (aCons (eOp gMul (eOp gIx (eVar 0) (eC (.int 1))) (eOp gIx (eVar 1) (eC (.int 1)))) aNil)) []))
noncomputable def ff_less : Fn := fnF 2 gg_less
def nn_times : List Str := ["one", "other"]
noncomputable def gg_times : SF := (sRet (eCall ff_lowest (aCons (eOp gMul (eOp gIx (eVar 0) (eC (.int 0))) (eOp gIx (eVar 1) (eC (.int 0)))) (aCons (eOp gMul (eOp gIx (eVar 0) (eC (.int 1))) (eOp gIx (eVar 1) (eC (.int 1)))) aNil)) []))
noncomputable def ff_times : Fn := fnF 2 gg_times
def nn_over : List Str := ["one", "other"]
noncomputable def xg_over : XF := (xSeq (xIf (tV (eOp (gEq PyData.eqv) (eOp gIx (eVar 1) (eC (.int 0))) (eC (.int 0)))) (xRaise "OutOfPlace") (xOk sNil)) (xOk (sRet (eCall ff_lowest (aCons (eOp gMul (eOp gIx (eVar 0) (eC (.int 0))) (eOp gIx (eVar 1) (eC (.int 1)))) (aCons (eOp gMul (eOp gIx (eVar 0) (eC (.int 1))) (eOp gIx (eVar 1) (eC (.int 0)))) aNil)) []))))
noncomputable def xx_over : FnX := fnX 2 xg_over
noncomputable def gg_over : SF := (sSeq (sIf (tV (eOp (gEq PyData.eqv) (eOp gIx (eVar 1) (eC (.int 0))) (eC (.int 0)))) sNever sNil) (sRet (eCall ff_lowest (aCons (eOp gMul (eOp gIx (eVar 0) (eC (.int 0))) (eOp gIx (eVar 1) (eC (.int 1)))) (aCons (eOp gMul (eOp gIx (eVar 0) (eC (.int 1))) (eOp gIx (eVar 1) (eC (.int 0)))) aNil)) [])))
noncomputable def ff_over : Fn := fnF 2 gg_over
def nn_mean : List Str := ["one", "other"]
noncomputable def gg_mean : SF := (sRet (eCall ff_lowest (aCons (eOp gAdd (eOp gMul (eOp gIx (eVar 0) (eC (.int 0))) (eOp gIx (eVar 1) (eC (.int 1)))) (eOp gMul (eOp gIx (eVar 1) (eC (.int 0))) (eOp gIx (eVar 0) (eC (.int 1))))) (aCons (eOp gMul (eOp gMul (eC (.int 2)) (eOp gIx (eVar 0) (eC (.int 1)))) (eOp gIx (eVar 1) (eC (.int 1)))) aNil)) []))
noncomputable def ff_mean : Fn := fnF 2 gg_mean
def nn_is_under : List Str := ["one", "other"]
noncomputable def gg_is_under : SF := (sRet (eOp (gInt fun i j => .bl (decide (i < j))) (eOp gMul (eOp gIx (eVar 0) (eC (.int 0))) (eOp gIx (eVar 1) (eC (.int 1)))) (eOp gMul (eOp gIx (eVar 1) (eC (.int 0))) (eOp gIx (eVar 0) (eC (.int 1))))))
noncomputable def ff_is_under : Fn := fnF 2 gg_is_under
def nn_compared : List Str := ["one", "other"]
noncomputable def gg_compared : SF := (sSeq (sIf (tV (eCall ff_is_under (aCons (eVar 0) (aCons (eVar 1) aNil)) [])) (sRet (eUn gNeg (eC (.int 1)))) sNil) (sSeq (sIf (tV (eCall ff_is_under (aCons (eVar 1) (aCons (eVar 0) aNil)) [])) (sRet (eC (.int 1))) sNil) (sRet (eC (.int 0)))))
noncomputable def ff_compared : Fn := fnF 2 gg_compared
def nn_floor_of : List Str := ["one"]
noncomputable def gg_floor_of : SF := (sRet (eOp (gIntC DivOk fun i j => .int (i.fdiv j)) (eOp gIx (eVar 0) (eC (.int 0))) (eOp gIx (eVar 0) (eC (.int 1)))))
noncomputable def ff_floor_of : Fn := fnF 1 gg_floor_of
def nn_law_mixed : List Str := ["cell", "k", "number"]
noncomputable def gg_law_mixed : SF := (sSeq (sAs (eOp gAdd (eOp gAdd (eOp (gIntC (fun _ j => j ≠ 0) fun i j => .int (i.fmod j)) (eVar 0) (eOp gIx (eLst (aCons (eC (.int 1000000007)) (aCons (eC (.int 998244353)) (aCons (eC (.int 2147483629)) (aCons (eC (.int 1000000009)) aNil))))) (eOp (gIntC (fun _ j => j ≠ 0) fun i j => .int (i.fmod j)) (eVar 1) (eC (.int 4))))) (eOp gMul (eC (.int 7919)) (eVar 1))) (eC (.int 13))) (gN 2)) (sRet (eOp (gIntC (fun _ j => j ≠ 0) fun i j => .int (i.fmod j)) (eOp gMul (eOp (gIntC (fun _ j => j ≠ 0) fun i j => .int (i.fmod j)) (eOp gMul (eVar 2) (eVar 2)) (eC (.int 2147483647))) (eC (.int 48271))) (eC (.int 2147483647)))))
noncomputable def ff_law_mixed : Fn := fnF 3 gg_law_mixed
def nn_law_draw : List Str := ["cell", "k"]
noncomputable def gg_law_draw : SF := (sRet (eDic (psCons (eC (.str "left")) (eIf (tV (eOp (gInt fun i j => .bl (decide (j ≤ i))) (eVar 0) (eOp (gIntC PowOk fun i j => .int (i ^ j.toNat)) (eC (.int 10)) (eC (.int 18))))) (eVar 0) (eC (.int 0))) (psCons (eC (.str "cell")) (eVar 0) (psCons (eC (.str "turns")) (eOp gMul (eC (.int 1000)) (eVar 1)) psNil)))))
noncomputable def ff_law_draw : Fn := fnF 2 gg_law_draw
def nn_law_digit : List Str := ["state", "many", "j", "found"]
noncomputable def gg_law_digit : SF := (sSeq (sIf (tV (eOp (gEq PyData.eqv) (eOp gDget (eVar 0) (eC (.str "left"))) (eC (.int 0)))) (sFor (aRng1 (aCons (eC (.int 4)) aNil)) (gN 2) (sSeq (sDput (eVar 0) (eC (.str "turns")) (eOp gAdd (eOp gDget (eVar 0) (eC (.str "turns"))) (eC (.int 1)))) (sDput (eVar 0) (eC (.str "left")) (eOp gAdd (eOp gMul (eOp gDget (eVar 0) (eC (.str "left"))) (eC (.int 2147483647))) (eCall ff_law_mixed (aCons (eOp gDget (eVar 0) (eC (.str "cell"))) (aCons (eOp gDget (eVar 0) (eC (.str "turns"))) aNil)) []))))) sNil) (sSeq (sAs (eOp (gIntC (fun _ j => j ≠ 0) fun i j => .int (i.fmod j)) (eOp gDget (eVar 0) (eC (.str "left"))) (eVar 1)) (gN 3)) (sSeq (sDput (eVar 0) (eC (.str "left")) (eOp (gIntC DivOk fun i j => .int (i.fdiv j)) (eOp gDget (eVar 0) (eC (.str "left"))) (eVar 1))) (sRet (eVar 3)))))
noncomputable def ff_law_digit : Fn := fnF 4 gg_law_digit
def nn_law_lowest : List Str := ["top", "bottom", "one", "other"]
noncomputable def gg_law_lowest : SF := (sSeq (sAs (eIf (tV (eOp (gInt fun i j => .bl (decide (i < j))) (eVar 1) (eC (.int 0)))) (eTup (aCons (eOp (gInt fun i j => .int (i - j)) (eC (.int 0)) (eVar 0)) (aCons (eOp (gInt fun i j => .int (i - j)) (eC (.int 0)) (eVar 1)) aNil))) (eTup (aCons (eVar 0) (aCons (eVar 1) aNil)))) (gTp (gsCons (gN 0) (gsCons (gN 1) gsNil)))) (sSeq (sPar 2 3 (eVar 1) (eB (gL1 fun i => .int (if i < 0 then -i else i)) (aCons (eVar 0) aNil))) (sSeq (sWh (tV (eOp (gInt fun i j => .bl (decide (j < i))) (eVar 3) (eC (.int 0)))) (sPar 2 3 (eVar 3) (eOp (gIntC (fun _ j => j ≠ 0) fun i j => .int (i.fmod j)) (eVar 2) (eVar 3)))) (sRet (eTup (aCons (eOp (gIntC DivOk fun i j => .int (i.fdiv j)) (eVar 0) (eVar 2)) (aCons (eOp (gIntC DivOk fun i j => .int (i.fdiv j)) (eVar 1) (eVar 2)) aNil)))))))
noncomputable def ff_law_lowest : Fn := fnF 4 gg_law_lowest
def nn_law_fraction : List Str := ["state", "way", "bottom"]
noncomputable def gg_law_fraction : SF := (sSeq (sPar 1 2 (eCall ff_law_digit (aCons (eVar 0) (aCons (eC (.int 6)) aNil)) []) (eOp gAdd (eC (.int 1)) (eCall ff_law_digit (aCons (eVar 0) (aCons (eOp gIx (eLst (aCons (eC (.int 1)) (aCons (eC (.int 4)) (aCons (eC (.int 9)) (aCons (eC (.int 100)) aNil))))) (eCall ff_law_digit (aCons (eVar 0) (aCons (eC (.int 4)) aNil)) [])) aNil)) []))) (sSeq (sIf (tV (eOp (gEq PyData.eqv) (eVar 1) (eC (.int 5)))) (sRet (eCall ff_law_lowest (aCons (eOp (gInt fun i j => .int (i - j)) (eCall ff_law_digit (aCons (eVar 0) (aCons (eOp (gIntC PowOk fun i j => .int (i ^ j.toNat)) (eC (.int 10)) (eC (.int 30))) aNil)) []) (eOp gMul (eC (.int 5)) (eOp (gIntC PowOk fun i j => .int (i ^ j.toNat)) (eC (.int 10)) (eC (.int 29))))) (aCons (eOp gAdd (eC (.int 1)) (eCall ff_law_digit (aCons (eVar 0) (aCons (eOp (gIntC PowOk fun i j => .int (i ^ j.toNat)) (eC (.int 10)) (eC (.int 20))) aNil)) [])) aNil)) [])) sNil) (sRet (eCall ff_law_lowest (aCons (eOp (gInt fun i j => .int (i - j)) (eCall ff_law_digit (aCons (eVar 0) (aCons (eOp gIx (eLst (aCons (eC (.int 1)) (aCons (eC (.int 9)) (aCons (eC (.int 40)) (aCons (eC (.int 4000)) (aCons (eC (.int 25)) aNil)))))) (eVar 1)) aNil)) []) (eOp gIx (eLst (aCons (eC (.int 0)) (aCons (eC (.int 4)) (aCons (eC (.int 20)) (aCons (eC (.int 2000)) (aCons (eC (.int 0)) aNil)))))) (eVar 1))) (aCons (eVar 2) aNil)) []))))
noncomputable def ff_law_fraction : Fn := fnF 3 gg_law_fraction
def nn_law_kinds : List Str := ["error", "kinds", "kind", "holds"]
noncomputable def gg_law_kinds (ct : CT) : SF := (sSeq (sAs (eLst (aCons (eTup (aCons (eC (.str "row")) (aCons (eB (gIsiE ct.isa) (aCons (eVar 0) (aCons (eC (.ob ct.BadRow)) aNil))) aNil))) (aCons (eTup (aCons (eC (.str "sketch")) (aCons (eB (gIsiE ct.isa) (aCons (eVar 0) (aCons (eC (.ob ct.BadSketch)) aNil))) aNil))) aNil))) (gN 1)) (sSeq (sAs (eOp gAdd (eVar 1) (eLst (aCons (eTup (aCons (eC (.str "block")) (aCons (eB (gIsiE ct.isa) (aCons (eVar 0) (aCons (eC (.ob ct.BadBlock)) aNil))) aNil))) (aCons (eTup (aCons (eC (.str "outline")) (aCons (eB (gIsiE ct.isa) (aCons (eVar 0) (aCons (eC (.ob ct.BadOutline)) aNil))) aNil))) aNil)))) (gN 1)) (sSeq (sAs (eOp gAdd (eVar 1) (eLst (aCons (eTup (aCons (eC (.str "feature")) (aCons (eB (gIsiE ct.isa) (aCons (eVar 0) (aCons (eC (.ob ct.BadFeature)) aNil))) aNil))) (aCons (eTup (aCons (eC (.str "field")) (aCons (eB (gIsiE ct.isa) (aCons (eVar 0) (aCons (eC (.ob ct.BadField)) aNil))) aNil))) aNil)))) (gN 1)) (sSeq (sAs (eOp gAdd (eVar 1) (eLst (aCons (eTup (aCons (eC (.str "tools")) (aCons (eB (gIsiE ct.isa) (aCons (eVar 0) (aCons (eC (.ob ct.BadTools)) aNil))) aNil))) (aCons (eTup (aCons (eC (.str "way")) (aCons (eB (gIsiE ct.isa) (aCons (eVar 0) (aCons (eC (.ob ct.BadWay)) aNil))) aNil))) aNil)))) (gN 1)) (sSeq (sAs (eOp gAdd (eVar 1) (eLst (aCons (eTup (aCons (eC (.str "paper")) (aCons (eB (gIsiE ct.isa) (aCons (eVar 0) (aCons (eC (.ob ct.BadPaper)) aNil))) aNil))) (aCons (eTup (aCons (eC (.str "clash")) (aCons (eB (gIsiE ct.isa) (aCons (eVar 0) (aCons (eC (.ob ct.Clash)) aNil))) aNil))) aNil)))) (gN 1)) (sSeq (sAs (eOp gAdd (eVar 1) (eLst (aCons (eTup (aCons (eC (.str "twice")) (aCons (eB (gIsiE ct.isa) (aCons (eVar 0) (aCons (eC (.ob ct.Twice)) aNil))) aNil))) (aCons (eTup (aCons (eC (.str "place")) (aCons (eB (gIsiE ct.isa) (aCons (eVar 0) (aCons (eC (.ob ct.OutOfPlace)) aNil))) aNil))) aNil)))) (gN 1)) (sSeq (sAs (eOp gAdd (eVar 1) (eLst (aCons (eTup (aCons (eC (.str "great")) (aCons (eB (gIsiE ct.isa) (aCons (eVar 0) (aCons (eC (.ob ct.TooGreat)) aNil))) aNil))) (aCons (eTup (aCons (eC (.str "point")) (aCons (eB (gIsiE ct.isa) (aCons (eVar 0) (aCons (eC (.ob ct.NoPoint)) aNil))) aNil))) aNil)))) (gN 1)) (sSeq (sAs (eOp gAdd (eVar 1) (eLst (aCons (eTup (aCons (eC (.str "saying")) (aCons (eB (gIsiE ct.isa) (aCons (eVar 0) (aCons (eC (.ob ct.NoSaying)) aNil))) aNil))) (aCons (eTup (aCons (eC (.str "nofeature")) (aCons (eB (gIsiE ct.isa) (aCons (eVar 0) (aCons (eC (.ob ct.NoFeature)) aNil))) aNil))) aNil)))) (gN 1)) (sSeq (sAs (eOp gAdd (eVar 1) (eLst (aCons (eTup (aCons (eC (.str "tool")) (aCons (eB (gIsiE ct.isa) (aCons (eVar 0) (aCons (eC (.ob ct.NoTool)) aNil))) aNil))) (aCons (eTup (aCons (eC (.str "nothing")) (aCons (eB (gIsiE ct.isa) (aCons (eVar 0) (aCons (eC (.ob ct.Nothing)) aNil))) aNil))) aNil)))) (gN 1)) (sSeq (sAs (eOp gAdd (eVar 1) (eLst (aCons (eTup (aCons (eC (.str "notool")) (aCons (eB (gIsiE ct.isa) (aCons (eVar 0) (aCons (eC (.ob ct.NoToolThere)) aNil))) aNil))) (aCons (eTup (aCons (eC (.str "lifted")) (aCons (eB (gIsiE ct.isa) (aCons (eVar 0) (aCons (eC (.ob ct.Lifted)) aNil))) aNil))) aNil)))) (gN 1)) (sSeq (sAs (eOp gAdd (eVar 1) (eLst (aCons (eTup (aCons (eC (.str "lowered")) (aCons (eB (gIsiE ct.isa) (aCons (eVar 0) (aCons (eC (.ob ct.Lowered)) aNil))) aNil))) (aCons (eTup (aCons (eC (.str "beyond")) (aCons (eB (gIsiE ct.isa) (aCons (eVar 0) (aCons (eC (.ob ct.Beyond)) aNil))) aNil))) aNil)))) (gN 1)) (sSeq (sAs (eOp gAdd (eVar 1) (eLst (aCons (eTup (aCons (eC (.str "blocked")) (aCons (eB (gIsiE ct.isa) (aCons (eVar 0) (aCons (eC (.ob ct.Blocked)) aNil))) aNil))) (aCons (eTup (aCons (eC (.str "deep")) (aCons (eB (gIsiE ct.isa) (aCons (eVar 0) (aCons (eC (.ob ct.TooDeep)) aNil))) aNil))) aNil)))) (gN 1)) (sSeq (sAs (eOp gAdd (eVar 1) (eLst (aCons (eTup (aCons (eC (.str "ours")) (aCons (eB (gIsiE ct.isa) (aCons (eVar 0) (aCons (eC (.ob ct.WorksError)) aNil))) aNil))) (aCons (eTup (aCons (eC (.str "value")) (aCons (eB (gIsiE ct.isa) (aCons (eVar 0) (aCons (eC (.ty "ValueError")) aNil))) aNil))) aNil)))) (gN 1)) (sSeq (sAs (eOp gAdd (eVar 1) (eLst (aCons (eTup (aCons (eC (.str "miss")) (aCons (eB (gIsiE ct.isa) (aCons (eVar 0) (aCons (eC (.ob ct.MissError)) aNil))) aNil))) (aCons (eTup (aCons (eC (.str "lookup")) (aCons (eB (gIsiE ct.isa) (aCons (eVar 0) (aCons (eC (.ty "LookupError")) aNil))) aNil))) aNil)))) (gN 1)) (sSeq (sAs (eOp gAdd (eVar 1) (eLst (aCons (eTup (aCons (eC (.str "fault")) (aCons (eB (gIsiE ct.isa) (aCons (eVar 0) (aCons (eC (.ob ct.FaultError)) aNil))) aNil))) (aCons (eTup (aCons (eC (.str "runtime")) (aCons (eB (gIsiE ct.isa) (aCons (eVar 0) (aCons (eC (.ty "RuntimeError")) aNil))) aNil))) aNil)))) (gN 1)) (sRet (eLc [2, 3] (aItems (eVar 1)) (gTp (gsCons (gN 2) (gsCons (gN 3) gsNil))) (tV (eVar 3)) (eVar 2))))))))))))))))))
noncomputable def ff_law_kinds (ct : CT) : Fn := fnF 4 (gg_law_kinds ct)
def nn_law_told : List Str := ["top", "bottom", "wrong", "told", "e"]
noncomputable def gg_law_told (ct : CT) : SF := (sSeq (sAs (eTup (aCons (eC .non) (aCons (eC .non) aNil))) (gTp (gsCons (gN 2) (gsCons (gN 3) gsNil)))) (sSeq (sTryK (fun y => if y = "OutOfPlace" then some ct.OutOfPlace else none) 4 (xAs (xCall xx_fraction (aCons (eVar 0) (aCons (eVar 1) aNil)) []) 3) (sAs (eVar 4) (gN 2))) (sRet (eIf (tV (eOp (gIsN fun b => b) (eVar 2) (eC .non))) (eVar 3) (eCall (ff_law_kinds ct) (aCons (eVar 2) aNil) [])))))
noncomputable def ff_law_told (ct : CT) : Fn := fnF 5 (gg_law_told ct)
def nn_law_over : List Str := ["one", "other", "wrong", "told", "e"]
noncomputable def gg_law_over (ct : CT) : SF := (sSeq (sAs (eTup (aCons (eC .non) (aCons (eC .non) aNil))) (gTp (gsCons (gN 2) (gsCons (gN 3) gsNil)))) (sSeq (sTryK (fun y => if y = "OutOfPlace" then some ct.OutOfPlace else none) 4 (xAs (xCall xx_over (aCons (eVar 0) (aCons (eVar 1) aNil)) []) 3) (sAs (eVar 4) (gN 2))) (sRet (eIf (tV (eOp (gIsN fun b => b) (eVar 2) (eC .non))) (eVar 3) (eCall (ff_law_kinds ct) (aCons (eVar 2) aNil) [])))))
noncomputable def ff_law_over (ct : CT) : Fn := fnF 5 (gg_law_over ct)
def nn_law_reckoned_right : List Str := ["one", "other", "a", "b", "c", "d", "due", "order"]
noncomputable def gg_law_reckoned_right (ct : CT) : SF := (sSeq (sAs (eTup (aCons (eVar 0) (aCons (eVar 1) aNil))) (gTp (gsCons (gTp (gsCons (gN 2) (gsCons (gN 3) gsNil))) (gsCons (gTp (gsCons (gN 4) (gsCons (gN 5) gsNil))) gsNil)))) (sSeq (sAs (eLst (aCons (eCall ff_law_lowest (aCons (eOp gAdd (eOp gMul (eVar 2) (eVar 5)) (eOp gMul (eVar 4) (eVar 3))) (aCons (eOp gMul (eVar 3) (eVar 5)) aNil)) []) (aCons (eCall ff_law_lowest (aCons (eOp (gInt fun i j => .int (i - j)) (eOp gMul (eVar 2) (eVar 5)) (eOp gMul (eVar 4) (eVar 3))) (aCons (eOp gMul (eVar 3) (eVar 5)) aNil)) []) (aCons (eCall ff_law_lowest (aCons (eOp gMul (eVar 2) (eVar 4)) (aCons (eOp gMul (eVar 3) (eVar 5)) aNil)) []) aNil)))) (gN 6)) (sSeq (sIf (tV (eOp (gEq fun p q => !PyData.eqv p q) (eLst (aCons (eCall ff_plus (aCons (eVar 0) (aCons (eVar 1) aNil)) []) (aCons (eCall ff_less (aCons (eVar 0) (aCons (eVar 1) aNil)) []) (aCons (eCall ff_times (aCons (eVar 0) (aCons (eVar 1) aNil)) []) aNil)))) (eVar 6))) (sRet (eC (.bl false))) sNil) (sSeq (sIf (tV (eOp (gEq fun p q => !PyData.eqv p q) (eCall (ff_law_over ct) (aCons (eVar 0) (aCons (eVar 1) aNil)) []) (eIf (tV (eOp (gEq PyData.eqv) (eVar 4) (eC (.int 0)))) (eLst (aCons (eC (.str "place")) (aCons (eC (.str "ours")) (aCons (eC (.str "value")) aNil)))) (eCall ff_law_lowest (aCons (eOp gMul (eVar 2) (eVar 5)) (aCons (eOp gMul (eVar 3) (eVar 4)) aNil)) [])))) (sRet (eC (.bl false))) sNil) (sSeq (sIf (tOrr (tV (eOp (gEq fun p q => !PyData.eqv p q) (eCall ff_mean (aCons (eVar 0) (aCons (eVar 1) aNil)) []) (eCall ff_law_lowest (aCons (eOp gAdd (eOp gMul (eVar 2) (eVar 5)) (eOp gMul (eVar 4) (eVar 3))) (aCons (eOp gMul (eOp gMul (eC (.int 2)) (eVar 3)) (eVar 5)) aNil)) []))) (tV (eOp (gEq fun p q => !PyData.eqv p q) (eCall ff_floor_of (aCons (eVar 0) aNil) []) (eOp (gIntC DivOk fun i j => .int (i.fdiv j)) (eVar 2) (eVar 3))))) (sRet (eC (.bl false))) sNil) (sSeq (sAs (eIf (tV (eOp (gInt fun i j => .bl (decide (i < j))) (eOp gMul (eVar 2) (eVar 5)) (eOp gMul (eVar 4) (eVar 3)))) (eUn gNeg (eC (.int 1))) (eB gInt1 (aCons (eOp (gInt fun i j => .bl (decide (j < i))) (eOp gMul (eVar 2) (eVar 5)) (eOp gMul (eVar 4) (eVar 3))) aNil))) (gN 7)) (sRet (eOp (gEq PyData.eqv) (eB gRepr (aCons (eLst (aCons (eCall ff_compared (aCons (eVar 0) (aCons (eVar 1) aNil)) []) (aCons (eCall ff_is_under (aCons (eVar 0) (aCons (eVar 1) aNil)) []) aNil))) aNil)) (eB gRepr (aCons (eLst (aCons (eVar 7) (aCons (eOp (gInt fun i j => .bl (decide (i < j))) (eVar 7) (eC (.int 0))) aNil))) aNil))))))))))
noncomputable def ff_law_reckoned_right (ct : CT) : Fn := fnF 8 (gg_law_reckoned_right ct)
def nn_law_looked_right : List Str := ["state", "top", "bottom", "part", "due", "own", "found"]
noncomputable def gg_law_looked_right (ct : CT) : SF := (sSeq (sPar3 1 2 3 (eOp (gInt fun i j => .int (i - j)) (eCall ff_law_digit (aCons (eVar 0) (aCons (eC (.int 4000)) aNil)) []) (eC (.int 2000))) (eOp (gInt fun i j => .int (i - j)) (eCall ff_law_digit (aCons (eVar 0) (aCons (eC (.int 200)) aNil)) []) (eC (.int 60))) (eOp gAdd (eC (.int 1)) (eCall ff_law_digit (aCons (eVar 0) (aCons (eC (.int 7)) aNil)) []))) (sSeq (sAs (eIf (tV (eOp (gEq PyData.eqv) (eVar 2) (eC (.int 0)))) (eLst (aCons (eC (.str "place")) (aCons (eC (.str "ours")) (aCons (eC (.str "value")) aNil)))) (eCall ff_law_lowest (aCons (eVar 1) (aCons (eVar 2) aNil)) [])) (gN 4)) (sSeq (sIf (tOrr (tV (eOp (gEq fun p q => !PyData.eqv p q) (eCall (ff_law_told ct) (aCons (eOp gMul (eVar 1) (eVar 3)) (aCons (eOp gMul (eVar 2) (eVar 3)) aNil)) []) (eVar 4))) (tV (eOp (gEq fun p q => !PyData.eqv p q) (eCall ff_fraction (aCons (eVar 1) aNil) [(.int 1)]) (eTup (aCons (eVar 1) (aCons (eC (.int 1)) aNil)))))) (sRet (eC (.bl false))) sNil) (sSeq (sAs (eAn (eOp (gInt fun i j => .bl (decide (j < i))) (eVar 2) (eC (.int 0))) (eOp (gEq PyData.eqv) (eCall ff_law_lowest (aCons (eVar 1) (aCons (eVar 2) aNil)) []) (eTup (aCons (eVar 1) (aCons (eVar 2) aNil))))) (gN 5)) (sSeq (sAs (eLst (aCons (eCall ff_is_fraction (aCons (eTup (aCons (eVar 1) (aCons (eVar 2) aNil))) aNil) [.non]) (aCons (eCall ff_is_fraction (aCons (eTup (aCons (eOp gMul (eVar 1) (eVar 3)) (aCons (eOp gMul (eVar 2) (eVar 3)) aNil))) aNil) [.non]) aNil))) (gN 6)) (sRet (eOp (gEq PyData.eqv) (eB gRepr (aCons (eVar 6) aNil)) (eB gRepr (aCons (eLst (aCons (eVar 5) (aCons (eAn (eVar 5) (eOp (gEq PyData.eqv) (eVar 3) (eC (.int 1)))) aNil))) aNil)))))))))
noncomputable def ff_law_looked_right (ct : CT) : Fn := fnF 7 (gg_law_looked_right ct)
def nn_law : List Str := ["script", "k", "cell", "state", "turn", "one", "other", "bound", "odd", "some", "wrong", "thing"]
def kd_is_fraction_1_most (ds zs : List D) : List D := ds ++ zs
noncomputable def gg_law (ct : CT) : SF := (sSeq (sFor (aEnum (aCons (eOp gAdd (eSl (eVar 0) pNone (pSome (eC (.int 12)))) (eLst (aCons (eB gSum (aCons (eVar 0) aNil)) aNil))) aNil)) (gTp (gsCons (gN 1) (gsCons (gN 2) gsNil))) (sSeq (sAs (eCall ff_law_draw (aCons (eVar 2) (aCons (eVar 1) aNil)) []) (gN 3)) (sSeq (sFor (aRng1 (aCons (eC (.int 4)) aNil)) (gN 4) (sSeq (sPar 5 6 (eCall ff_law_fraction (aCons (eVar 3) aNil) []) (eCall ff_law_fraction (aCons (eVar 3) aNil) [])) (sSeq (sIf (tOrr (tNt (tV (eCall (ff_law_reckoned_right ct) (aCons (eVar 5) (aCons (eVar 6) aNil)) []))) (tNt (tV (eCall (ff_law_reckoned_right ct) (aCons (eVar 5) (aCons (eVar 5) aNil)) [])))) (sRet (eC (.bl false))) sNil) (sIf (tOrr (tV (eOp (gIsB fun b => !b) (eCall ff_is_fraction (aCons (eVar 5) aNil) [.non]) (eC (.bl true)))) (tNt (tV (eCall (ff_law_looked_right ct) (aCons (eVar 3) aNil) [])))) (sRet (eC (.bl false))) sNil)))) (sSeq (sAs (eB (gL2 fun i j => .int (if j > i then j else i)) (aCons (eB (gL1 fun i => .int (if i < 0 then -i else i)) (aCons (eOp gIx (eVar 5) (eC (.int 0))) aNil)) (aCons (eOp gIx (eVar 5) (eC (.int 1))) aNil))) (gN 7)) (sSeq (sIf (tOrr (tV (eOp (gIsB fun b => !b) (eCallK ff_is_fraction (aCons (eVar 5) aNil) (aCons (eVar 7) aNil) kd_is_fraction_1_most) (eC (.bl true)))) (tV (eOp (gIsB fun b => !b) (eCallK ff_is_fraction (aCons (eVar 5) aNil) (aCons (eOp (gInt fun i j => .int (i - j)) (eVar 7) (eC (.int 1))) aNil) kd_is_fraction_1_most) (eC (.bl false))))) (sRet (eC (.bl false))) sNil) (sSeq (sAs (eOp gIx (eLst (aCons (eC .non) (aCons (eC (.bl true)) (aCons (eC (.str "5")) (aCons (eLst aNil) (aCons (eTup (aCons (eC (.int 0)) aNil)) (aCons eDic0 (aCons (eLst (aCons (eC (.int 0)) (aCons (eC (.int 1)) aNil))) aNil)))))))) (eCall ff_law_digit (aCons (eVar 3) (aCons (eC (.int 7)) aNil)) [])) (gN 8)) (sSeq (sAs (eLst (aCons (eVar 8) (aCons (eTup (aCons (eVar 8) (aCons (eC (.int 1)) aNil))) (aCons (eTup (aCons (eC (.int 1)) (aCons (eVar 8) aNil))) (aCons (eTup (aCons (eC (.int 0)) (aCons (eC (.int 1)) (aCons (eC (.int 1)) aNil)))) (aCons (eTup (aCons (eC (.int 1)) aNil)) (aCons (eTup (aCons (eC (.int 0)) (aCons (eC (.int 2)) aNil))) (aCons (eTup (aCons (eC (.int 0)) (aCons (eC (.int 0)) aNil))) (aCons (eTup (aCons (eC (.int 0)) (aCons (eUn gNeg (eC (.int 1))) aNil))) (aCons (eTup (aCons (eC (.int 2)) (aCons (eC (.int 4)) aNil))) (aCons (eTup (aCons (eC (.int 1)) (aCons (eUn gNeg (eC (.int 1))) aNil))) (aCons (eTup (aCons (eC (.bl true)) (aCons (eC (.int 1)) aNil))) aNil)))))))))))) (gN 9)) (sSeq (sAs (eLc [11] (aItems (eOp gAdd (eVar 9) (eLst (aCons (eTup (aCons (eC (.int 0)) (aCons (eC (.bl true)) aNil))) aNil)))) (gN 11) (tV (eOp (gIsB fun b => !b) (eCall ff_is_fraction (aCons (eVar 11) aNil) [.non]) (eC (.bl false)))) (eVar 11)) (gN 10)) (sSeq (sIf (tOrr (tV (eOp (gEq fun p q => !PyData.eqv p q) (eVar 10) (eLst aNil))) (tV (eOp (gIsB fun b => !b) (eCallK ff_is_fraction (aCons (eVar 8) aNil) (aCons (eC (.int 9)) aNil) kd_is_fraction_1_most) (eC (.bl false))))) (sRet (eC (.bl false))) sNil) (sIf (tV (eOp (gEq fun p q => !PyData.eqv p q) (eLst (aCons (eCall (ff_law_told ct) (aCons (eVar 8) (aCons (eC (.int 3)) aNil)) []) (aCons (eCall (ff_law_told ct) (aCons (eC (.int 3)) (aCons (eVar 8) aNil)) []) aNil))) (eOp gMul (eLst (aCons (eLst (aCons (eC (.str "place")) (aCons (eC (.str "ours")) (aCons (eC (.str "value")) aNil)))) aNil)) (eC (.int 2))))) (sRet (eC (.bl false))) sNil)))))))))) (sRet (eAn (eOp (gEq PyData.eqv) (eC (.tup [(.int 0), (.int 1)])) (eTup (aCons (eC (.int 0)) (aCons (eC (.int 1)) aNil)))) (eAn (eOp (gIsB fun b => b) (eCallK ff_is_fraction (aCons (eC (.tup [(.int 0), (.int 1)])) aNil) (aCons (eC (.int 1)) aNil) kd_is_fraction_1_most) (eC (.bl true))) (eOp (gIsB fun b => b) (eCallK ff_is_fraction (aCons (eTup (aCons (eC (.int 0)) (aCons (eC (.int 1)) aNil))) aNil) (aCons (eC (.int 0)) aNil) kd_is_fraction_1_most) (eC (.bl false)))))))
noncomputable def ff_law (ct : CT) : Fn := fnF 12 (gg_law ct)
end Law

namespace Law
open PySem L2 Pl
def topS (i : Nat) : Stmt := PySem.Challenge.pw_panelworks_k02_fractions_reckoned.main.body.getD i (.Pass ⟨0, 0, 0, 0⟩)
structure Txt (ct : CT) (K : PySem.W.Frag) (mg : Str → Option Value) : Prop where
  n_int : mg "int" = none
  n_isinstance : mg "isinstance" = none
  n_bool : mg "bool" = none
  n_tuple : mg "tuple" = none
  n_len : mg "len" = none
  n_abs : mg "abs" = none
  n_range : mg "range" = none
  n_ValueError : mg "ValueError" = none
  n_LookupError : mg "LookupError" = none
  n_RuntimeError : mg "RuntimeError" = none
  n_repr : mg "repr" = none
  n_enumerate : mg "enumerate" = none
  n_sum : mg "sum" = none
  n_max : mg "max" = none
  m_gcd : mg "gcd" = some (.builtin "math.gcd")
  g_NOUGHT : GV K mg "NOUGHT" (.tup [(.int 0), (.int 1)])
  c_OutOfPlace : mg "OutOfPlace" = some (.ref ct.OutOfPlace)
  c_BadSketch : mg "BadSketch" = some (.ref ct.BadSketch)
  c_BadRow : mg "BadRow" = some (.ref ct.BadRow)
  c_BadOutline : mg "BadOutline" = some (.ref ct.BadOutline)
  c_BadBlock : mg "BadBlock" = some (.ref ct.BadBlock)
  c_BadField : mg "BadField" = some (.ref ct.BadField)
  c_BadFeature : mg "BadFeature" = some (.ref ct.BadFeature)
  c_BadWay : mg "BadWay" = some (.ref ct.BadWay)
  c_BadTools : mg "BadTools" = some (.ref ct.BadTools)
  c_Clash : mg "Clash" = some (.ref ct.Clash)
  c_BadPaper : mg "BadPaper" = some (.ref ct.BadPaper)
  c_Twice : mg "Twice" = some (.ref ct.Twice)
  c_NoPoint : mg "NoPoint" = some (.ref ct.NoPoint)
  c_TooGreat : mg "TooGreat" = some (.ref ct.TooGreat)
  c_NoFeature : mg "NoFeature" = some (.ref ct.NoFeature)
  c_NoSaying : mg "NoSaying" = some (.ref ct.NoSaying)
  c_Nothing : mg "Nothing" = some (.ref ct.Nothing)
  c_NoTool : mg "NoTool" = some (.ref ct.NoTool)
  c_Lifted : mg "Lifted" = some (.ref ct.Lifted)
  c_NoToolThere : mg "NoToolThere" = some (.ref ct.NoToolThere)
  c_Beyond : mg "Beyond" = some (.ref ct.Beyond)
  c_Lowered : mg "Lowered" = some (.ref ct.Lowered)
  c_TooDeep : mg "TooDeep" = some (.ref ct.TooDeep)
  c_Blocked : mg "Blocked" = some (.ref ct.Blocked)
  c_WorksError : mg "WorksError" = some (.ref ct.WorksError)
  c_MissError : mg "MissError" = some (.ref ct.MissError)
  c_FaultError : mg "FaultError" = some (.ref ct.FaultError)
  e_OutOfPlace : LkE K mg "OutOfPlace" [.type "ValueError", .type "Exception", .type "BaseException", .type "object"] "ValueError.__new__" ct.OutOfPlace
  q_OutOfPlace : ExcC K ct.OutOfPlace
  x_OutOfPlace_WorksError : PySem.W.exmOne K (.ref ct.OutOfPlace) (.ref ct.WorksError) = some true
  isa : ∀ C v b, ct.isa C v = some b → PySem.W.kitOne K (.ref C) v = some b
section
variable {P : Program} {w : World} {K : PySem.W.Frag} {mg : Str → Option Value} {base : Heap} {ct : CT}
abbrev ss_is_whole : Stmt := topS 30
theorem sc_is_whole : FnScope nn_is_whole ["thing"] (defScope ss_is_whole) := ⟨rfl, rfl, rfl, by decide +kernel, rfl, by decide +kernel, by decide +kernel⟩
abbrev FF_is_whole (K : PySem.W.Frag) (f : Addr) (fd : FuncData) : Prop := FunD K "is_whole" "is_whole" (defArgs ss_is_whole) (defBody ss_is_whole) (defScope ss_is_whole) [] [] f fd
theorem ok_is_whole (T : Txt ct K mg) {f : Addr} {fd : FuncData} (F : FF_is_whole K f fd) : DFn P w K mg base 1 f fd ["thing"] ff_is_whole :=
  DFn.of F sc_is_whole fun c => (DB.one (DS.ret (DE.and (DE.callB c (cIsi c) T.n_isinstance (by decide +kernel) (DA.cons (DE.var 0) (DA.cons (DE.bltn c T.n_int (by decide +kernel) (v := .ty "int") rfl fun _ _ => .ty _) DA.nil))) (DE.one (DE.not (DE.callB c (cIsi c) T.n_isinstance (by decide +kernel) (DA.cons (DE.var 0) (DA.cons (DE.bltn c T.n_bool (by decide +kernel) (v := .ty "bool") rfl fun _ _ => .ty _) DA.nil))))))))
abbrev ss_is_fraction : Stmt := topS 33
theorem sc_is_fraction : FnScope nn_is_fraction ["thing", "most"] (defScope ss_is_fraction) := ⟨rfl, rfl, rfl, by decide +kernel, rfl, by decide +kernel, by decide +kernel⟩
abbrev FF_is_fraction (K : PySem.W.Frag) (f : Addr) (fd : FuncData) : Prop := FunD K "is_fraction" "is_fraction" (defArgs ss_is_fraction) (defBody ss_is_fraction) (defScope ss_is_fraction) [] [("most", .non)] f fd
theorem ok_is_fraction (T : Txt ct K mg) (L_is_whole : Lk P w K mg base "is_whole" 1 ["thing"] ff_is_whole) {f : Addr} {fd : FuncData} (F : FF_is_fraction K f fd) : DFn P w K mg base 2 f fd ["thing", "most"] ff_is_fraction :=
  DFn.of F sc_is_fraction fun c => (DB.cons (DS.ite (DW.test (DW.or (DT.not (DE.test (DE.callB c (cIsi c) T.n_isinstance (by decide +kernel) (DA.cons (DE.var 0) (DA.cons (DE.bltn c T.n_tuple (by decide +kernel) (v := .ty "tuple") rfl fun _ _ => .ty _) DA.nil))))) (DW.or1 (DC.test (DC.op (opNe c) (DE.callB c (cLen c) T.n_len (by decide +kernel) (DA.cons (DE.var 0) DA.nil)) DE.int)))))
  (DB.one (DS.ret DE.bool)) DB.nil)
  (DB.cons (DS.asg (DE.var 0) (DG.tup c (DGs.cons (DG.name 2 fun _ => sc_is_fraction.nd) (DGs.cons (DG.name 3 fun _ => sc_is_fraction.nd) DGs.nil))))
  (DB.cons (DS.ite (DW.test (DW.or (DT.not (DE.test (DE.cl c L_is_whole (by decide) rfl (DA.cons (DE.var 2) DA.nil) (aLen_cons aLen_nil)))) (DW.or (DT.not (DE.test (DE.cl c L_is_whole (by decide) rfl (DA.cons (DE.var 3) DA.nil) (aLen_cons aLen_nil)))) (DW.or1 (DC.test (DC.op opLt (DE.var 3) DE.int))))))
  (DB.one (DS.ret DE.bool)) DB.nil)
  (DB.cons (DS.ite (DC.test (DC.op (opNe c) (DE.callM c cGcd T.m_gcd (DA.cons (DE.var 2) (DA.cons (DE.var 3) DA.nil))) DE.int))
  (DB.one (DS.ret DE.bool)) DB.nil)
  (DB.cons (DS.ite (DC.test (DC.op opIsN (DE.var 1) DE.non))
  (DB.one (DS.ret DE.bool)) DB.nil)
  (DB.one (DS.ret (DE.and (DE.cl c L_is_whole (by decide) rfl (DA.cons (DE.var 1) DA.nil) (aLen_cons aLen_nil)) (DE.and (DC.val (DC.op opLe (DE.callB c cAbs T.n_abs (by decide +kernel) (DA.cons (DE.var 2) DA.nil)) (DE.var 1))) (DE.one (DC.val (DC.op opLe (DE.var 3) (DE.var 1)))))))))))))
abbrev ss_lowest : Stmt := topS 43
theorem sc_lowest : FnScope nn_lowest ["top", "bottom"] (defScope ss_lowest) := ⟨rfl, rfl, rfl, by decide +kernel, rfl, by decide +kernel, by decide +kernel⟩
abbrev FF_lowest (K : PySem.W.Frag) (f : Addr) (fd : FuncData) : Prop := FunD K "_lowest" "_lowest" (defArgs ss_lowest) (defBody ss_lowest) (defScope ss_lowest) [] [] f fd
theorem ok_lowest (T : Txt ct K mg) {f : Addr} {fd : FuncData} (F : FF_lowest K f fd) : DFn P w K mg base 1 f fd ["top", "bottom"] ff_lowest :=
  DFn.of F sc_lowest fun c => (DB.cons (DS.set 2 (DE.callM c cGcd T.m_gcd (DA.cons (DE.var 0) (DA.cons (DE.var 1) DA.nil))) (fun _ => sc_lowest.nd))
  (DB.cons (DS.ite (DC.test (DC.op opLt (DE.var 1) DE.int))
  (DB.one (DS.set 2 (DE.neg (DE.var 2)) (fun _ => sc_lowest.nd))) DB.nil)
  (DB.one (DS.ret (DE.tup (DA.cons (DE.op opDiv (DE.var 0) (DE.var 2)) (DA.cons (DE.op opDiv (DE.var 1) (DE.var 2)) DA.nil)))))))
abbrev ss_fraction : Stmt := topS 34
theorem sc_fraction : FnScope nn_fraction ["top", "bottom"] (defScope ss_fraction) := ⟨rfl, rfl, rfl, by decide +kernel, rfl, by decide +kernel, by decide +kernel⟩
abbrev FF_fraction (K : PySem.W.Frag) (f : Addr) (fd : FuncData) : Prop := FunD K "fraction" "fraction" (defArgs ss_fraction) (defBody ss_fraction) (defScope ss_fraction) [(.int 1)] [] f fd
theorem ok_fraction (T : Txt ct K mg) (L_is_whole : Lk P w K mg base "is_whole" 1 ["thing"] ff_is_whole) (L_lowest : Lk P w K mg base "_lowest" 1 ["top", "bottom"] ff_lowest) {f : Addr} {fd : FuncData} (F : FF_fraction K f fd) : DFn P w K mg base 2 f fd ["top", "bottom"] ff_fraction :=
  DFn.of F sc_fraction fun c => (DB.cons (DS.ite (DW.test (DW.or (DT.not (DE.test (DE.cl c L_is_whole (by decide) rfl (DA.cons (DE.var 0) DA.nil) (aLen_cons aLen_nil)))) (DW.or1 (DT.not (DE.test (DE.cl c L_is_whole (by decide) rfl (DA.cons (DE.var 1) DA.nil) (aLen_cons aLen_nil)))))))
  (DB.one DS.never) DB.nil)
  (DB.cons (DS.ite (DC.test (DC.op (opEq c) (DE.var 1) DE.int))
  (DB.one DS.never) DB.nil)
  (DB.one (DS.ret (DE.cl c L_lowest (by decide) rfl (DA.cons (DE.var 0) (DA.cons (DE.var 1) DA.nil)) (aLen_cons (aLen_cons aLen_nil)))))))
theorem okx_fraction (T : Txt ct K mg) (L_is_whole : Lk P w K mg base "is_whole" 1 ["thing"] ff_is_whole) (L_lowest : Lk P w K mg base "_lowest" 1 ["top", "bottom"] ff_lowest) {f : Addr} {fd : FuncData} (F : FF_fraction K f fd) : DFnX P w K mg base 2 f fd ["top", "bottom"] xx_fraction :=
  DFnX.of F sc_fraction fun E c tk => (DBX.cons (DSX.ite (DW.test (DW.or (DT.not (DE.test (DE.cl c L_is_whole (by decide) rfl (DA.cons (DE.var 0) DA.nil) (aLen_cons aLen_nil)))) (DW.or1 (DT.not (DE.test (DE.cl c L_is_whole (by decide) rfl (DA.cons (DE.var 1) DA.nil) (aLen_cons aLen_nil)))))))
  (DBX.one (DSX.raise c tk PySem.F.excBase_ValueError T.e_OutOfPlace)) (DBX.lift DB.nil))
  (DBX.cons (DSX.ite (DC.test (DC.op (opEq c) (DE.var 1) DE.int))
  (DBX.one (DSX.raise c tk PySem.F.excBase_ValueError T.e_OutOfPlace)) (DBX.lift DB.nil))
  (DBX.lift (DB.one (DS.ret (DE.cl c L_lowest (by decide) rfl (DA.cons (DE.var 0) (DA.cons (DE.var 1) DA.nil)) (aLen_cons (aLen_cons aLen_nil))))))))
abbrev ss_plus : Stmt := topS 35
theorem sc_plus : FnScope nn_plus ["one", "other"] (defScope ss_plus) := ⟨rfl, rfl, rfl, by decide +kernel, rfl, by decide +kernel, by decide +kernel⟩
abbrev FF_plus (K : PySem.W.Frag) (f : Addr) (fd : FuncData) : Prop := FunD K "plus" "plus" (defArgs ss_plus) (defBody ss_plus) (defScope ss_plus) [] [] f fd
theorem ok_plus (T : Txt ct K mg) (L_lowest : Lk P w K mg base "_lowest" 1 ["top", "bottom"] ff_lowest) {f : Addr} {fd : FuncData} (F : FF_plus K f fd) : DFn P w K mg base 2 f fd ["one", "other"] ff_plus :=
  DFn.of F sc_plus fun c => (DB.one (DS.ret (DE.cl c L_lowest (by decide) rfl (DA.cons (DE.op (opAdd4 c) (DE.op opMul2 (DE.ix c (DE.var 0) DE.int) (DE.ix c (DE.var 1) DE.int)) (DE.op opMul2 (DE.ix c (DE.var 1) DE.int) (DE.ix c (DE.var 0) DE.int))) (DA.cons (DE.op opMul2 (DE.ix c (DE.var 0) DE.int) (DE.ix c (DE.var 1) DE.int)) DA.nil)) (aLen_cons (aLen_cons aLen_nil)))))
abbrev ss_less : Stmt := topS 36
theorem sc_less : FnScope nn_less ["one", "other"] (defScope ss_less) := ⟨rfl, rfl, rfl, by decide +kernel, rfl, by decide +kernel, by decide +kernel⟩
abbrev FF_less (K : PySem.W.Frag) (f : Addr) (fd : FuncData) : Prop := FunD K "less" "less" (defArgs ss_less) (defBody ss_less) (defScope ss_less) [] [] f fd
theorem ok_less (T : Txt ct K mg) (L_lowest : Lk P w K mg base "_lowest" 1 ["top", "bottom"] ff_lowest) {f : Addr} {fd : FuncData} (F : FF_less K f fd) : DFn P w K mg base 2 f fd ["one", "other"] ff_less :=
  DFn.of F sc_less fun c => (DB.one (DS.ret (DE.cl c L_lowest (by decide) rfl (DA.cons (DE.op opSub (DE.op opMul2 (DE.ix c (DE.var 0) DE.int) (DE.ix c (DE.var 1) DE.int)) (DE.op opMul2 (DE.ix c (DE.var 1) DE.int) (DE.ix c (DE.var 0) DE.int))) (DA.cons (DE.op opMul2 (DE.ix c (DE.var 0) DE.int) (DE.ix c (DE.var 1) DE.int)) DA.nil)) (aLen_cons (aLen_cons aLen_nil)))))
abbrev ss_times : Stmt := topS 37
theorem sc_times : FnScope nn_times ["one", "other"] (defScope ss_times) := ⟨rfl, rfl, rfl, by decide +kernel, rfl, by decide +kernel, by decide +kernel⟩
abbrev FF_times (K : PySem.W.Frag) (f : Addr) (fd : FuncData) : Prop := FunD K "times" "times" (defArgs ss_times) (defBody ss_times) (defScope ss_times) [] [] f fd
theorem ok_times (T : Txt ct K mg) (L_lowest : Lk P w K mg base "_lowest" 1 ["top", "bottom"] ff_lowest) {f : Addr} {fd : FuncData} (F : FF_times K f fd) : DFn P w K mg base 2 f fd ["one", "other"] ff_times :=
  DFn.of F sc_times fun c => (DB.one (DS.ret (DE.cl c L_lowest (by decide) rfl (DA.cons (DE.op opMul2 (DE.ix c (DE.var 0) DE.int) (DE.ix c (DE.var 1) DE.int)) (DA.cons (DE.op opMul2 (DE.ix c (DE.var 0) DE.int) (DE.ix c (DE.var 1) DE.int)) DA.nil)) (aLen_cons (aLen_cons aLen_nil)))))
abbrev ss_over : Stmt := topS 38
theorem sc_over : FnScope nn_over ["one", "other"] (defScope ss_over) := ⟨rfl, rfl, rfl, by decide +kernel, rfl, by decide +kernel, by decide +kernel⟩
abbrev FF_over (K : PySem.W.Frag) (f : Addr) (fd : FuncData) : Prop := FunD K "over" "over" (defArgs ss_over) (defBody ss_over) (defScope ss_over) [] [] f fd
theorem ok_over (T : Txt ct K mg) (L_lowest : Lk P w K mg base "_lowest" 1 ["top", "bottom"] ff_lowest) {f : Addr} {fd : FuncData} (F : FF_over K f fd) : DFn P w K mg base 2 f fd ["one", "other"] ff_over :=
  DFn.of F sc_over fun c => (DB.cons (DS.ite (DC.test (DC.op (opEq c) (DE.ix c (DE.var 1) DE.int) DE.int))
  (DB.one DS.never) DB.nil)
  (DB.one (DS.ret (DE.cl c L_lowest (by decide) rfl (DA.cons (DE.op opMul2 (DE.ix c (DE.var 0) DE.int) (DE.ix c (DE.var 1) DE.int)) (DA.cons (DE.op opMul2 (DE.ix c (DE.var 0) DE.int) (DE.ix c (DE.var 1) DE.int)) DA.nil)) (aLen_cons (aLen_cons aLen_nil))))))
theorem okx_over (T : Txt ct K mg) (L_lowest : Lk P w K mg base "_lowest" 1 ["top", "bottom"] ff_lowest) {f : Addr} {fd : FuncData} (F : FF_over K f fd) : DFnX P w K mg base 2 f fd ["one", "other"] xx_over :=
  DFnX.of F sc_over fun E c tk => (DBX.cons (DSX.ite (DC.test (DC.op (opEq c) (DE.ix c (DE.var 1) DE.int) DE.int))
  (DBX.one (DSX.raise c tk PySem.F.excBase_ValueError T.e_OutOfPlace)) (DBX.lift DB.nil))
  (DBX.lift (DB.one (DS.ret (DE.cl c L_lowest (by decide) rfl (DA.cons (DE.op opMul2 (DE.ix c (DE.var 0) DE.int) (DE.ix c (DE.var 1) DE.int)) (DA.cons (DE.op opMul2 (DE.ix c (DE.var 0) DE.int) (DE.ix c (DE.var 1) DE.int)) DA.nil)) (aLen_cons (aLen_cons aLen_nil)))))))
abbrev ss_mean : Stmt := topS 39
theorem sc_mean : FnScope nn_mean ["one", "other"] (defScope ss_mean) := ⟨rfl, rfl, rfl, by decide +kernel, rfl, by decide +kernel, by decide +kernel⟩
abbrev FF_mean (K : PySem.W.Frag) (f : Addr) (fd : FuncData) : Prop := FunD K "mean" "mean" (defArgs ss_mean) (defBody ss_mean) (defScope ss_mean) [] [] f fd
theorem ok_mean (T : Txt ct K mg) (L_lowest : Lk P w K mg base "_lowest" 1 ["top", "bottom"] ff_lowest) {f : Addr} {fd : FuncData} (F : FF_mean K f fd) : DFn P w K mg base 2 f fd ["one", "other"] ff_mean :=
  DFn.of F sc_mean fun c => (DB.one (DS.ret (DE.cl c L_lowest (by decide) rfl (DA.cons (DE.op (opAdd4 c) (DE.op opMul2 (DE.ix c (DE.var 0) DE.int) (DE.ix c (DE.var 1) DE.int)) (DE.op opMul2 (DE.ix c (DE.var 1) DE.int) (DE.ix c (DE.var 0) DE.int))) (DA.cons (DE.op opMul2 (DE.op opMul2 DE.int (DE.ix c (DE.var 0) DE.int)) (DE.ix c (DE.var 1) DE.int)) DA.nil)) (aLen_cons (aLen_cons aLen_nil)))))
abbrev ss_is_under : Stmt := topS 40
theorem sc_is_under : FnScope nn_is_under ["one", "other"] (defScope ss_is_under) := ⟨rfl, rfl, rfl, by decide +kernel, rfl, by decide +kernel, by decide +kernel⟩
abbrev FF_is_under (K : PySem.W.Frag) (f : Addr) (fd : FuncData) : Prop := FunD K "is_under" "is_under" (defArgs ss_is_under) (defBody ss_is_under) (defScope ss_is_under) [] [] f fd
theorem ok_is_under (T : Txt ct K mg) {f : Addr} {fd : FuncData} (F : FF_is_under K f fd) : DFn P w K mg base 1 f fd ["one", "other"] ff_is_under :=
  DFn.of F sc_is_under fun c => (DB.one (DS.ret (DC.val (DC.op opLt (DE.op opMul2 (DE.ix c (DE.var 0) DE.int) (DE.ix c (DE.var 1) DE.int)) (DE.op opMul2 (DE.ix c (DE.var 1) DE.int) (DE.ix c (DE.var 0) DE.int))))))
abbrev ss_compared : Stmt := topS 41
theorem sc_compared : FnScope nn_compared ["one", "other"] (defScope ss_compared) := ⟨rfl, rfl, rfl, by decide +kernel, rfl, by decide +kernel, by decide +kernel⟩
abbrev FF_compared (K : PySem.W.Frag) (f : Addr) (fd : FuncData) : Prop := FunD K "compared" "compared" (defArgs ss_compared) (defBody ss_compared) (defScope ss_compared) [] [] f fd
theorem ok_compared (T : Txt ct K mg) (L_is_under : Lk P w K mg base "is_under" 1 ["one", "other"] ff_is_under) {f : Addr} {fd : FuncData} (F : FF_compared K f fd) : DFn P w K mg base 2 f fd ["one", "other"] ff_compared :=
  DFn.of F sc_compared fun c => (DB.cons (DS.ite (DE.test (DE.cl c L_is_under (by decide) rfl (DA.cons (DE.var 0) (DA.cons (DE.var 1) DA.nil)) (aLen_cons (aLen_cons aLen_nil))))
  (DB.one (DS.ret (DE.neg DE.int))) DB.nil)
  (DB.cons (DS.ite (DE.test (DE.cl c L_is_under (by decide) rfl (DA.cons (DE.var 1) (DA.cons (DE.var 0) DA.nil)) (aLen_cons (aLen_cons aLen_nil))))
  (DB.one (DS.ret DE.int)) DB.nil)
  (DB.one (DS.ret DE.int))))
abbrev ss_floor_of : Stmt := topS 42
theorem sc_floor_of : FnScope nn_floor_of ["one"] (defScope ss_floor_of) := ⟨rfl, rfl, rfl, by decide +kernel, rfl, by decide +kernel, by decide +kernel⟩
abbrev FF_floor_of (K : PySem.W.Frag) (f : Addr) (fd : FuncData) : Prop := FunD K "floor_of" "floor_of" (defArgs ss_floor_of) (defBody ss_floor_of) (defScope ss_floor_of) [] [] f fd
theorem ok_floor_of (T : Txt ct K mg) {f : Addr} {fd : FuncData} (F : FF_floor_of K f fd) : DFn P w K mg base 1 f fd ["one"] ff_floor_of :=
  DFn.of F sc_floor_of fun c => (DB.one (DS.ret (DE.op opDiv (DE.ix c (DE.var 0) DE.int) (DE.ix c (DE.var 0) DE.int))))
abbrev ss_law_mixed : Stmt := topS 45
theorem sc_law_mixed : FnScope nn_law_mixed ["cell", "k"] (defScope ss_law_mixed) := ⟨rfl, rfl, rfl, by decide +kernel, rfl, by decide +kernel, by decide +kernel⟩
abbrev FF_law_mixed (K : PySem.W.Frag) (f : Addr) (fd : FuncData) : Prop := FunD K "_law_mixed" "_law_mixed" (defArgs ss_law_mixed) (defBody ss_law_mixed) (defScope ss_law_mixed) [] [] f fd
theorem ok_law_mixed (T : Txt ct K mg) {f : Addr} {fd : FuncData} (F : FF_law_mixed K f fd) : DFn P w K mg base 1 f fd ["cell", "k"] ff_law_mixed :=
  DFn.of F sc_law_mixed fun c => (DB.cons (DS.set 2 (DE.op (opAdd4 c) (DE.op (opAdd4 c) (DE.op opMod (DE.var 0) (DE.ix c (DE.lst (DA.cons DE.int (DA.cons DE.int (DA.cons DE.int (DA.cons DE.int DA.nil))))) (DE.op opMod (DE.var 1) DE.int))) (DE.op opMul2 DE.int (DE.var 1))) DE.int) (fun _ => sc_law_mixed.nd))
  (DB.one (DS.ret (DE.op opMod (DE.op opMul2 (DE.op opMod (DE.op opMul2 (DE.var 2) (DE.var 2)) DE.int) DE.int) DE.int))))
abbrev ss_law_draw : Stmt := topS 46
theorem sc_law_draw : FnScope nn_law_draw ["cell", "k"] (defScope ss_law_draw) := ⟨rfl, rfl, rfl, by decide +kernel, rfl, by decide +kernel, by decide +kernel⟩
abbrev FF_law_draw (K : PySem.W.Frag) (f : Addr) (fd : FuncData) : Prop := FunD K "_law_draw" "_law_draw" (defArgs ss_law_draw) (defBody ss_law_draw) (defScope ss_law_draw) [] [] f fd
theorem ok_law_draw (T : Txt ct K mg) {f : Addr} {fd : FuncData} (F : FF_law_draw K f fd) : DFn P w K mg base 1 f fd ["cell", "k"] ff_law_draw :=
  DFn.of F sc_law_draw fun c => (DB.one (DS.ret (DE.dic (DPs.cons DE.str (DE.ite (DC.test (DC.op opGe (DE.var 0) (DE.op opPow DE.int DE.int))) (DE.var 0) DE.int) (DPs.cons DE.str (DE.var 0) (DPs.cons DE.str (DE.op opMul2 DE.int (DE.var 1)) DPs.nil))))))
abbrev ss_law_digit : Stmt := topS 47
theorem sc_law_digit : FnScope nn_law_digit ["state", "many"] (defScope ss_law_digit) := ⟨rfl, rfl, rfl, by decide +kernel, rfl, by decide +kernel, by decide +kernel⟩
abbrev FF_law_digit (K : PySem.W.Frag) (f : Addr) (fd : FuncData) : Prop := FunD K "_law_digit" "_law_digit" (defArgs ss_law_digit) (defBody ss_law_digit) (defScope ss_law_digit) [] [] f fd
theorem ok_law_digit (T : Txt ct K mg) (L_law_mixed : Lk P w K mg base "_law_mixed" 1 ["cell", "k"] ff_law_mixed) {f : Addr} {fd : FuncData} (F : FF_law_digit K f fd) : DFn P w K mg base 2 f fd ["state", "many"] ff_law_digit :=
  DFn.of F sc_law_digit fun c => (DB.cons (DS.ite (DC.test (DC.op (opEq c) (DE.dgt c (DE.var 0) DE.str) DE.int))
  (DB.one (DS.for c (fun _ => PassesOwn.never) (DI.rng1 c T.n_range (DA.cons DE.int DA.nil)) (DG.name 2 fun _ => sc_law_digit.nd)
  (DB.cons (DS.dput c (DE.var 0) DE.str (DE.op (opAdd4 c) (DE.dgt c (DE.var 0) DE.str) DE.int))
  (DB.one (DS.dput c (DE.var 0) DE.str (DE.op (opAdd4 c) (DE.op opMul2 (DE.dgt c (DE.var 0) DE.str) DE.int) (DE.cl c L_law_mixed (by decide) rfl (DA.cons (DE.dgt c (DE.var 0) DE.str) (DA.cons (DE.dgt c (DE.var 0) DE.str) DA.nil)) (aLen_cons (aLen_cons aLen_nil))))))))) DB.nil)
  (DB.cons (DS.set 3 (DE.op opMod (DE.dgt c (DE.var 0) DE.str) (DE.var 1)) (fun _ => sc_law_digit.nd))
  (DB.cons (DS.dput c (DE.var 0) DE.str (DE.op opDiv (DE.dgt c (DE.var 0) DE.str) (DE.var 1)))
  (DB.one (DS.ret (DE.var 3))))))
abbrev ss_law_lowest : Stmt := topS 48
theorem sc_law_lowest : FnScope nn_law_lowest ["top", "bottom"] (defScope ss_law_lowest) := ⟨rfl, rfl, rfl, by decide +kernel, rfl, by decide +kernel, by decide +kernel⟩
abbrev FF_law_lowest (K : PySem.W.Frag) (f : Addr) (fd : FuncData) : Prop := FunD K "_law_lowest" "_law_lowest" (defArgs ss_law_lowest) (defBody ss_law_lowest) (defScope ss_law_lowest) [] [] f fd
theorem ok_law_lowest (T : Txt ct K mg) {f : Addr} {fd : FuncData} (F : FF_law_lowest K f fd) : DFn P w K mg base 1 f fd ["top", "bottom"] ff_law_lowest :=
  DFn.of F sc_law_lowest fun c => (DB.cons (DS.asg (DE.ite (DC.test (DC.op opLt (DE.var 1) DE.int)) (DE.tup (DA.cons (DE.op opSub DE.int (DE.var 0)) (DA.cons (DE.op opSub DE.int (DE.var 1)) DA.nil))) (DE.tup (DA.cons (DE.var 0) (DA.cons (DE.var 1) DA.nil)))) (DG.tup c (DGs.cons (DG.name 0 fun _ => sc_law_lowest.nd) (DGs.cons (DG.name 1 fun _ => sc_law_lowest.nd) DGs.nil))))
  (DB.cons (DS.par 2 3 c (DE.var 1) (DE.callB c cAbs T.n_abs (by decide +kernel) (DA.cons (DE.var 0) DA.nil)) (fun _ => sc_law_lowest.nd))
  (DB.cons (DS.wh (fun _ => PassesOwn.never) (DC.test (DC.op opGt (DE.var 3) DE.int))
  (DB.one (DS.par 2 3 c (DE.var 3) (DE.op opMod (DE.var 2) (DE.var 3)) (fun _ => sc_law_lowest.nd))))
  (DB.one (DS.ret (DE.tup (DA.cons (DE.op opDiv (DE.var 0) (DE.var 2)) (DA.cons (DE.op opDiv (DE.var 1) (DE.var 2)) DA.nil))))))))
abbrev ss_law_fraction : Stmt := topS 49
theorem sc_law_fraction : FnScope nn_law_fraction ["state"] (defScope ss_law_fraction) := ⟨rfl, rfl, rfl, by decide +kernel, rfl, by decide +kernel, by decide +kernel⟩
abbrev FF_law_fraction (K : PySem.W.Frag) (f : Addr) (fd : FuncData) : Prop := FunD K "_law_fraction" "_law_fraction" (defArgs ss_law_fraction) (defBody ss_law_fraction) (defScope ss_law_fraction) [] [] f fd
theorem ok_law_fraction (T : Txt ct K mg) (L_law_digit : Lk P w K mg base "_law_digit" 2 ["state", "many"] ff_law_digit) (L_law_lowest : Lk P w K mg base "_law_lowest" 1 ["top", "bottom"] ff_law_lowest) {f : Addr} {fd : FuncData} (F : FF_law_fraction K f fd) : DFn P w K mg base 3 f fd ["state"] ff_law_fraction :=
  DFn.of F sc_law_fraction fun c => (DB.cons (DS.par 1 2 c (DE.cl c L_law_digit (by decide) rfl (DA.cons (DE.var 0) (DA.cons DE.int DA.nil)) (aLen_cons (aLen_cons aLen_nil))) (DE.op (opAdd4 c) DE.int (DE.cl c L_law_digit (by decide) rfl (DA.cons (DE.var 0) (DA.cons (DE.ix c (DE.lst (DA.cons DE.int (DA.cons DE.int (DA.cons DE.int (DA.cons DE.int DA.nil))))) (DE.cl c L_law_digit (by decide) rfl (DA.cons (DE.var 0) (DA.cons DE.int DA.nil)) (aLen_cons (aLen_cons aLen_nil)))) DA.nil)) (aLen_cons (aLen_cons aLen_nil)))) (fun _ => sc_law_fraction.nd))
  (DB.cons (DS.ite (DC.test (DC.op (opEq c) (DE.var 1) DE.int))
  (DB.one (DS.ret (DE.cl c L_law_lowest (by decide) rfl (DA.cons (DE.op opSub (DE.cl c L_law_digit (by decide) rfl (DA.cons (DE.var 0) (DA.cons (DE.op opPow DE.int DE.int) DA.nil)) (aLen_cons (aLen_cons aLen_nil))) (DE.op opMul2 DE.int (DE.op opPow DE.int DE.int))) (DA.cons (DE.op (opAdd4 c) DE.int (DE.cl c L_law_digit (by decide) rfl (DA.cons (DE.var 0) (DA.cons (DE.op opPow DE.int DE.int) DA.nil)) (aLen_cons (aLen_cons aLen_nil)))) DA.nil)) (aLen_cons (aLen_cons aLen_nil))))) DB.nil)
  (DB.one (DS.ret (DE.cl c L_law_lowest (by decide) rfl (DA.cons (DE.op opSub (DE.cl c L_law_digit (by decide) rfl (DA.cons (DE.var 0) (DA.cons (DE.ix c (DE.lst (DA.cons DE.int (DA.cons DE.int (DA.cons DE.int (DA.cons DE.int (DA.cons DE.int DA.nil)))))) (DE.var 1)) DA.nil)) (aLen_cons (aLen_cons aLen_nil))) (DE.ix c (DE.lst (DA.cons DE.int (DA.cons DE.int (DA.cons DE.int (DA.cons DE.int (DA.cons DE.int DA.nil)))))) (DE.var 1))) (DA.cons (DE.var 2) DA.nil)) (aLen_cons (aLen_cons aLen_nil)))))))
abbrev ss_law_kinds : Stmt := topS 50
theorem sc_law_kinds : FnScope nn_law_kinds ["error"] (defScope ss_law_kinds) := ⟨rfl, rfl, rfl, by decide +kernel, rfl, by decide +kernel, by decide +kernel⟩
abbrev FF_law_kinds (K : PySem.W.Frag) (f : Addr) (fd : FuncData) : Prop := FunD K "_law_kinds" "_law_kinds" (defArgs ss_law_kinds) (defBody ss_law_kinds) (defScope ss_law_kinds) [] [] f fd
theorem ok_law_kinds (T : Txt ct K mg) {f : Addr} {fd : FuncData} (F : FF_law_kinds K f fd) : DFn P w K mg base 1 f fd ["error"] (ff_law_kinds ct) :=
  DFn.of F sc_law_kinds fun c => (DB.cons (DS.set 1 (DE.lst (DA.cons (DE.tup (DA.cons DE.str (DA.cons (DE.callB c (cIsiE c T.isa) T.n_isinstance (by decide +kernel) (DA.cons (DE.var 0) (DA.cons (DE.gv c (GV.cls T.c_BadRow)) DA.nil))) DA.nil))) (DA.cons (DE.tup (DA.cons DE.str (DA.cons (DE.callB c (cIsiE c T.isa) T.n_isinstance (by decide +kernel) (DA.cons (DE.var 0) (DA.cons (DE.gv c (GV.cls T.c_BadSketch)) DA.nil))) DA.nil))) DA.nil))) (fun _ => sc_law_kinds.nd))
  (DB.cons (DS.set 1 (DE.op (opAdd4 c) (DE.var 1) (DE.lst (DA.cons (DE.tup (DA.cons DE.str (DA.cons (DE.callB c (cIsiE c T.isa) T.n_isinstance (by decide +kernel) (DA.cons (DE.var 0) (DA.cons (DE.gv c (GV.cls T.c_BadBlock)) DA.nil))) DA.nil))) (DA.cons (DE.tup (DA.cons DE.str (DA.cons (DE.callB c (cIsiE c T.isa) T.n_isinstance (by decide +kernel) (DA.cons (DE.var 0) (DA.cons (DE.gv c (GV.cls T.c_BadOutline)) DA.nil))) DA.nil))) DA.nil)))) (fun _ => sc_law_kinds.nd))
  (DB.cons (DS.set 1 (DE.op (opAdd4 c) (DE.var 1) (DE.lst (DA.cons (DE.tup (DA.cons DE.str (DA.cons (DE.callB c (cIsiE c T.isa) T.n_isinstance (by decide +kernel) (DA.cons (DE.var 0) (DA.cons (DE.gv c (GV.cls T.c_BadFeature)) DA.nil))) DA.nil))) (DA.cons (DE.tup (DA.cons DE.str (DA.cons (DE.callB c (cIsiE c T.isa) T.n_isinstance (by decide +kernel) (DA.cons (DE.var 0) (DA.cons (DE.gv c (GV.cls T.c_BadField)) DA.nil))) DA.nil))) DA.nil)))) (fun _ => sc_law_kinds.nd))
  (DB.cons (DS.set 1 (DE.op (opAdd4 c) (DE.var 1) (DE.lst (DA.cons (DE.tup (DA.cons DE.str (DA.cons (DE.callB c (cIsiE c T.isa) T.n_isinstance (by decide +kernel) (DA.cons (DE.var 0) (DA.cons (DE.gv c (GV.cls T.c_BadTools)) DA.nil))) DA.nil))) (DA.cons (DE.tup (DA.cons DE.str (DA.cons (DE.callB c (cIsiE c T.isa) T.n_isinstance (by decide +kernel) (DA.cons (DE.var 0) (DA.cons (DE.gv c (GV.cls T.c_BadWay)) DA.nil))) DA.nil))) DA.nil)))) (fun _ => sc_law_kinds.nd))
  (DB.cons (DS.set 1 (DE.op (opAdd4 c) (DE.var 1) (DE.lst (DA.cons (DE.tup (DA.cons DE.str (DA.cons (DE.callB c (cIsiE c T.isa) T.n_isinstance (by decide +kernel) (DA.cons (DE.var 0) (DA.cons (DE.gv c (GV.cls T.c_BadPaper)) DA.nil))) DA.nil))) (DA.cons (DE.tup (DA.cons DE.str (DA.cons (DE.callB c (cIsiE c T.isa) T.n_isinstance (by decide +kernel) (DA.cons (DE.var 0) (DA.cons (DE.gv c (GV.cls T.c_Clash)) DA.nil))) DA.nil))) DA.nil)))) (fun _ => sc_law_kinds.nd))
  (DB.cons (DS.set 1 (DE.op (opAdd4 c) (DE.var 1) (DE.lst (DA.cons (DE.tup (DA.cons DE.str (DA.cons (DE.callB c (cIsiE c T.isa) T.n_isinstance (by decide +kernel) (DA.cons (DE.var 0) (DA.cons (DE.gv c (GV.cls T.c_Twice)) DA.nil))) DA.nil))) (DA.cons (DE.tup (DA.cons DE.str (DA.cons (DE.callB c (cIsiE c T.isa) T.n_isinstance (by decide +kernel) (DA.cons (DE.var 0) (DA.cons (DE.gv c (GV.cls T.c_OutOfPlace)) DA.nil))) DA.nil))) DA.nil)))) (fun _ => sc_law_kinds.nd))
  (DB.cons (DS.set 1 (DE.op (opAdd4 c) (DE.var 1) (DE.lst (DA.cons (DE.tup (DA.cons DE.str (DA.cons (DE.callB c (cIsiE c T.isa) T.n_isinstance (by decide +kernel) (DA.cons (DE.var 0) (DA.cons (DE.gv c (GV.cls T.c_TooGreat)) DA.nil))) DA.nil))) (DA.cons (DE.tup (DA.cons DE.str (DA.cons (DE.callB c (cIsiE c T.isa) T.n_isinstance (by decide +kernel) (DA.cons (DE.var 0) (DA.cons (DE.gv c (GV.cls T.c_NoPoint)) DA.nil))) DA.nil))) DA.nil)))) (fun _ => sc_law_kinds.nd))
  (DB.cons (DS.set 1 (DE.op (opAdd4 c) (DE.var 1) (DE.lst (DA.cons (DE.tup (DA.cons DE.str (DA.cons (DE.callB c (cIsiE c T.isa) T.n_isinstance (by decide +kernel) (DA.cons (DE.var 0) (DA.cons (DE.gv c (GV.cls T.c_NoSaying)) DA.nil))) DA.nil))) (DA.cons (DE.tup (DA.cons DE.str (DA.cons (DE.callB c (cIsiE c T.isa) T.n_isinstance (by decide +kernel) (DA.cons (DE.var 0) (DA.cons (DE.gv c (GV.cls T.c_NoFeature)) DA.nil))) DA.nil))) DA.nil)))) (fun _ => sc_law_kinds.nd))
  (DB.cons (DS.set 1 (DE.op (opAdd4 c) (DE.var 1) (DE.lst (DA.cons (DE.tup (DA.cons DE.str (DA.cons (DE.callB c (cIsiE c T.isa) T.n_isinstance (by decide +kernel) (DA.cons (DE.var 0) (DA.cons (DE.gv c (GV.cls T.c_NoTool)) DA.nil))) DA.nil))) (DA.cons (DE.tup (DA.cons DE.str (DA.cons (DE.callB c (cIsiE c T.isa) T.n_isinstance (by decide +kernel) (DA.cons (DE.var 0) (DA.cons (DE.gv c (GV.cls T.c_Nothing)) DA.nil))) DA.nil))) DA.nil)))) (fun _ => sc_law_kinds.nd))
  (DB.cons (DS.set 1 (DE.op (opAdd4 c) (DE.var 1) (DE.lst (DA.cons (DE.tup (DA.cons DE.str (DA.cons (DE.callB c (cIsiE c T.isa) T.n_isinstance (by decide +kernel) (DA.cons (DE.var 0) (DA.cons (DE.gv c (GV.cls T.c_NoToolThere)) DA.nil))) DA.nil))) (DA.cons (DE.tup (DA.cons DE.str (DA.cons (DE.callB c (cIsiE c T.isa) T.n_isinstance (by decide +kernel) (DA.cons (DE.var 0) (DA.cons (DE.gv c (GV.cls T.c_Lifted)) DA.nil))) DA.nil))) DA.nil)))) (fun _ => sc_law_kinds.nd))
  (DB.cons (DS.set 1 (DE.op (opAdd4 c) (DE.var 1) (DE.lst (DA.cons (DE.tup (DA.cons DE.str (DA.cons (DE.callB c (cIsiE c T.isa) T.n_isinstance (by decide +kernel) (DA.cons (DE.var 0) (DA.cons (DE.gv c (GV.cls T.c_Lowered)) DA.nil))) DA.nil))) (DA.cons (DE.tup (DA.cons DE.str (DA.cons (DE.callB c (cIsiE c T.isa) T.n_isinstance (by decide +kernel) (DA.cons (DE.var 0) (DA.cons (DE.gv c (GV.cls T.c_Beyond)) DA.nil))) DA.nil))) DA.nil)))) (fun _ => sc_law_kinds.nd))
  (DB.cons (DS.set 1 (DE.op (opAdd4 c) (DE.var 1) (DE.lst (DA.cons (DE.tup (DA.cons DE.str (DA.cons (DE.callB c (cIsiE c T.isa) T.n_isinstance (by decide +kernel) (DA.cons (DE.var 0) (DA.cons (DE.gv c (GV.cls T.c_Blocked)) DA.nil))) DA.nil))) (DA.cons (DE.tup (DA.cons DE.str (DA.cons (DE.callB c (cIsiE c T.isa) T.n_isinstance (by decide +kernel) (DA.cons (DE.var 0) (DA.cons (DE.gv c (GV.cls T.c_TooDeep)) DA.nil))) DA.nil))) DA.nil)))) (fun _ => sc_law_kinds.nd))
  (DB.cons (DS.set 1 (DE.op (opAdd4 c) (DE.var 1) (DE.lst (DA.cons (DE.tup (DA.cons DE.str (DA.cons (DE.callB c (cIsiE c T.isa) T.n_isinstance (by decide +kernel) (DA.cons (DE.var 0) (DA.cons (DE.gv c (GV.cls T.c_WorksError)) DA.nil))) DA.nil))) (DA.cons (DE.tup (DA.cons DE.str (DA.cons (DE.callB c (cIsiE c T.isa) T.n_isinstance (by decide +kernel) (DA.cons (DE.var 0) (DA.cons (DE.bltn c T.n_ValueError (by decide +kernel) (v := .ty "ValueError") rfl fun _ _ => .ty _) DA.nil))) DA.nil))) DA.nil)))) (fun _ => sc_law_kinds.nd))
  (DB.cons (DS.set 1 (DE.op (opAdd4 c) (DE.var 1) (DE.lst (DA.cons (DE.tup (DA.cons DE.str (DA.cons (DE.callB c (cIsiE c T.isa) T.n_isinstance (by decide +kernel) (DA.cons (DE.var 0) (DA.cons (DE.gv c (GV.cls T.c_MissError)) DA.nil))) DA.nil))) (DA.cons (DE.tup (DA.cons DE.str (DA.cons (DE.callB c (cIsiE c T.isa) T.n_isinstance (by decide +kernel) (DA.cons (DE.var 0) (DA.cons (DE.bltn c T.n_LookupError (by decide +kernel) (v := .ty "LookupError") rfl fun _ _ => .ty _) DA.nil))) DA.nil))) DA.nil)))) (fun _ => sc_law_kinds.nd))
  (DB.cons (DS.set 1 (DE.op (opAdd4 c) (DE.var 1) (DE.lst (DA.cons (DE.tup (DA.cons DE.str (DA.cons (DE.callB c (cIsiE c T.isa) T.n_isinstance (by decide +kernel) (DA.cons (DE.var 0) (DA.cons (DE.gv c (GV.cls T.c_FaultError)) DA.nil))) DA.nil))) (DA.cons (DE.tup (DA.cons DE.str (DA.cons (DE.callB c (cIsiE c T.isa) T.n_isinstance (by decide +kernel) (DA.cons (DE.var 0) (DA.cons (DE.bltn c T.n_RuntimeError (by decide +kernel) (v := .ty "RuntimeError") rfl fun _ _ => .ty _) DA.nil))) DA.nil))) DA.nil)))) (fun _ => sc_law_kinds.nd))
  (DB.one (DS.ret (DE.lc c (own := [("kind", 2), ("holds", 3)]) (fun _ => sc_law_kinds.nd) (DI.seq c (DE.var 1)) (fun _ => blkOk_by (N := nn_law_kinds) (by rfl)) (DG.tup (c.blk _) (DGs.cons (DG.name 2 fun _ => sc_law_kinds.nd) (DGs.cons (DG.name 3 fun _ => sc_law_kinds.nd) DGs.nil))) (by decide) (DTs.one (DE.test (DE.var 3))) (DE.var 2)))))))))))))))))))
abbrev ss_law_told : Stmt := topS 51
theorem sc_law_told : FnScope nn_law_told ["top", "bottom"] (defScope ss_law_told) := ⟨rfl, rfl, rfl, by decide +kernel, rfl, by decide +kernel, by decide +kernel⟩
abbrev FF_law_told (K : PySem.W.Frag) (f : Addr) (fd : FuncData) : Prop := FunD K "_law_told" "_law_told" (defArgs ss_law_told) (defBody ss_law_told) (defScope ss_law_told) [] [] f fd
theorem ok_law_told (T : Txt ct K mg) (L_law_kinds : Lk P w K mg base "_law_kinds" 1 ["error"] (ff_law_kinds ct)) (X_fraction : LkX P w K mg base "fraction" 2 ["top", "bottom"] xx_fraction) {f : Addr} {fd : FuncData} (F : FF_law_told K f fd) : DFn P w K mg base 3 f fd ["top", "bottom"] (ff_law_told ct) :=
  DFn.of F sc_law_told fun c => (DB.cons (DS.asg (DE.tup (DA.cons DE.non (DA.cons DE.non DA.nil))) (DG.tup c (DGs.cons (DG.name 2 fun _ => sc_law_told.nd) (DGs.cons (DG.name 3 fun _ => sc_law_told.nd) DGs.nil))))
  (DB.cons (DS.tryKeep 4 c (fun _ => sc_law_told.nd) T.c_WorksError (fun y C h => by
    by_cases e_OutOfPlace : y = "OutOfPlace"
    · (rw [if_pos e_OutOfPlace] at h; cases h; rw [e_OutOfPlace]; exact ⟨T.c_OutOfPlace, T.x_OutOfPlace_WorksError, T.q_OutOfPlace⟩)
    rw [if_neg e_OutOfPlace] at h
    cases h)
  (fun S tk c2 => DBX.one (DSX.set 3 (DEX.cl c2 tk X_fraction (by decide) rfl (DA.cons (DE.var 0) (DA.cons (DE.var 1) DA.nil)) (aLen_cons (aLen_cons aLen_nil))) (fun _ => sc_law_told.nd)))
  (DB.one (DS.set 2 (DE.var 4) (fun _ => sc_law_told.nd))))
  (DB.one (DS.ret (DE.ite (DC.test (DC.op opIsN (DE.var 2) DE.non)) (DE.var 3) (DE.cl c L_law_kinds (by decide) rfl (DA.cons (DE.var 2) DA.nil) (aLen_cons aLen_nil)))))))
abbrev ss_law_over : Stmt := topS 52
theorem sc_law_over : FnScope nn_law_over ["one", "other"] (defScope ss_law_over) := ⟨rfl, rfl, rfl, by decide +kernel, rfl, by decide +kernel, by decide +kernel⟩
abbrev FF_law_over (K : PySem.W.Frag) (f : Addr) (fd : FuncData) : Prop := FunD K "_law_over" "_law_over" (defArgs ss_law_over) (defBody ss_law_over) (defScope ss_law_over) [] [] f fd
theorem ok_law_over (T : Txt ct K mg) (L_law_kinds : Lk P w K mg base "_law_kinds" 1 ["error"] (ff_law_kinds ct)) (X_over : LkX P w K mg base "over" 2 ["one", "other"] xx_over) {f : Addr} {fd : FuncData} (F : FF_law_over K f fd) : DFn P w K mg base 3 f fd ["one", "other"] (ff_law_over ct) :=
  DFn.of F sc_law_over fun c => (DB.cons (DS.asg (DE.tup (DA.cons DE.non (DA.cons DE.non DA.nil))) (DG.tup c (DGs.cons (DG.name 2 fun _ => sc_law_over.nd) (DGs.cons (DG.name 3 fun _ => sc_law_over.nd) DGs.nil))))
  (DB.cons (DS.tryKeep 4 c (fun _ => sc_law_over.nd) T.c_WorksError (fun y C h => by
    by_cases e_OutOfPlace : y = "OutOfPlace"
    · (rw [if_pos e_OutOfPlace] at h; cases h; rw [e_OutOfPlace]; exact ⟨T.c_OutOfPlace, T.x_OutOfPlace_WorksError, T.q_OutOfPlace⟩)
    rw [if_neg e_OutOfPlace] at h
    cases h)
  (fun S tk c2 => DBX.one (DSX.set 3 (DEX.cl c2 tk X_over (by decide) rfl (DA.cons (DE.var 0) (DA.cons (DE.var 1) DA.nil)) (aLen_cons (aLen_cons aLen_nil))) (fun _ => sc_law_over.nd)))
  (DB.one (DS.set 2 (DE.var 4) (fun _ => sc_law_over.nd))))
  (DB.one (DS.ret (DE.ite (DC.test (DC.op opIsN (DE.var 2) DE.non)) (DE.var 3) (DE.cl c L_law_kinds (by decide) rfl (DA.cons (DE.var 2) DA.nil) (aLen_cons aLen_nil)))))))
abbrev ss_law_reckoned_right : Stmt := topS 53
theorem sc_law_reckoned_right : FnScope nn_law_reckoned_right ["one", "other"] (defScope ss_law_reckoned_right) := ⟨rfl, rfl, rfl, by decide +kernel, rfl, by decide +kernel, by decide +kernel⟩
abbrev FF_law_reckoned_right (K : PySem.W.Frag) (f : Addr) (fd : FuncData) : Prop := FunD K "_law_reckoned_right" "_law_reckoned_right" (defArgs ss_law_reckoned_right) (defBody ss_law_reckoned_right) (defScope ss_law_reckoned_right) [] [] f fd
theorem ok_law_reckoned_right (T : Txt ct K mg) (L_law_lowest : Lk P w K mg base "_law_lowest" 1 ["top", "bottom"] ff_law_lowest) (L_times : Lk P w K mg base "times" 2 ["one", "other"] ff_times) (L_less : Lk P w K mg base "less" 2 ["one", "other"] ff_less) (L_plus : Lk P w K mg base "plus" 2 ["one", "other"] ff_plus) (L_law_over : Lk P w K mg base "_law_over" 3 ["one", "other"] (ff_law_over ct)) (L_mean : Lk P w K mg base "mean" 2 ["one", "other"] ff_mean) (L_floor_of : Lk P w K mg base "floor_of" 1 ["one"] ff_floor_of) (L_is_under : Lk P w K mg base "is_under" 1 ["one", "other"] ff_is_under) (L_compared : Lk P w K mg base "compared" 2 ["one", "other"] ff_compared) {f : Addr} {fd : FuncData} (F : FF_law_reckoned_right K f fd) : DFn P w K mg base 4 f fd ["one", "other"] (ff_law_reckoned_right ct) :=
  DFn.of F sc_law_reckoned_right fun c => (DB.cons (DS.asg (DE.tup (DA.cons (DE.var 0) (DA.cons (DE.var 1) DA.nil))) (DG.tup c (DGs.cons (DG.tup c (DGs.cons (DG.name 2 fun _ => sc_law_reckoned_right.nd) (DGs.cons (DG.name 3 fun _ => sc_law_reckoned_right.nd) DGs.nil))) (DGs.cons (DG.tup c (DGs.cons (DG.name 4 fun _ => sc_law_reckoned_right.nd) (DGs.cons (DG.name 5 fun _ => sc_law_reckoned_right.nd) DGs.nil))) DGs.nil))))
  (DB.cons (DS.set 6 (DE.lst (DA.cons (DE.cl c L_law_lowest (by decide) rfl (DA.cons (DE.op (opAdd4 c) (DE.op opMul2 (DE.var 2) (DE.var 5)) (DE.op opMul2 (DE.var 4) (DE.var 3))) (DA.cons (DE.op opMul2 (DE.var 3) (DE.var 5)) DA.nil)) (aLen_cons (aLen_cons aLen_nil))) (DA.cons (DE.cl c L_law_lowest (by decide) rfl (DA.cons (DE.op opSub (DE.op opMul2 (DE.var 2) (DE.var 5)) (DE.op opMul2 (DE.var 4) (DE.var 3))) (DA.cons (DE.op opMul2 (DE.var 3) (DE.var 5)) DA.nil)) (aLen_cons (aLen_cons aLen_nil))) (DA.cons (DE.cl c L_law_lowest (by decide) rfl (DA.cons (DE.op opMul2 (DE.var 2) (DE.var 4)) (DA.cons (DE.op opMul2 (DE.var 3) (DE.var 5)) DA.nil)) (aLen_cons (aLen_cons aLen_nil))) DA.nil)))) (fun _ => sc_law_reckoned_right.nd))
  (DB.cons (DS.ite (DC.test (DC.op (opNe c) (DE.lst (DA.cons (DE.cl c L_plus (by decide) rfl (DA.cons (DE.var 0) (DA.cons (DE.var 1) DA.nil)) (aLen_cons (aLen_cons aLen_nil))) (DA.cons (DE.cl c L_less (by decide) rfl (DA.cons (DE.var 0) (DA.cons (DE.var 1) DA.nil)) (aLen_cons (aLen_cons aLen_nil))) (DA.cons (DE.cl c L_times (by decide) rfl (DA.cons (DE.var 0) (DA.cons (DE.var 1) DA.nil)) (aLen_cons (aLen_cons aLen_nil))) DA.nil)))) (DE.var 6)))
  (DB.one (DS.ret DE.bool)) DB.nil)
  (DB.cons (DS.ite (DC.test (DC.op (opNe c) (DE.cl c L_law_over (by decide) rfl (DA.cons (DE.var 0) (DA.cons (DE.var 1) DA.nil)) (aLen_cons (aLen_cons aLen_nil))) (DE.ite (DC.test (DC.op (opEq c) (DE.var 4) DE.int)) (DE.lst (DA.cons DE.str (DA.cons DE.str (DA.cons DE.str DA.nil)))) (DE.cl c L_law_lowest (by decide) rfl (DA.cons (DE.op opMul2 (DE.var 2) (DE.var 5)) (DA.cons (DE.op opMul2 (DE.var 3) (DE.var 4)) DA.nil)) (aLen_cons (aLen_cons aLen_nil))))))
  (DB.one (DS.ret DE.bool)) DB.nil)
  (DB.cons (DS.ite (DW.test (DW.or (DC.test (DC.op (opNe c) (DE.cl c L_mean (by decide) rfl (DA.cons (DE.var 0) (DA.cons (DE.var 1) DA.nil)) (aLen_cons (aLen_cons aLen_nil))) (DE.cl c L_law_lowest (by decide) rfl (DA.cons (DE.op (opAdd4 c) (DE.op opMul2 (DE.var 2) (DE.var 5)) (DE.op opMul2 (DE.var 4) (DE.var 3))) (DA.cons (DE.op opMul2 (DE.op opMul2 DE.int (DE.var 3)) (DE.var 5)) DA.nil)) (aLen_cons (aLen_cons aLen_nil))))) (DW.or1 (DC.test (DC.op (opNe c) (DE.cl c L_floor_of (by decide) rfl (DA.cons (DE.var 0) DA.nil) (aLen_cons aLen_nil)) (DE.op opDiv (DE.var 2) (DE.var 3)))))))
  (DB.one (DS.ret DE.bool)) DB.nil)
  (DB.cons (DS.set 7 (DE.ite (DC.test (DC.op opLt (DE.op opMul2 (DE.var 2) (DE.var 5)) (DE.op opMul2 (DE.var 4) (DE.var 3)))) (DE.neg DE.int) (DE.callTy c cInt1 T.n_int (by decide +kernel) (DA.cons (DC.val (DC.op opGt (DE.op opMul2 (DE.var 2) (DE.var 5)) (DE.op opMul2 (DE.var 4) (DE.var 3)))) DA.nil))) (fun _ => sc_law_reckoned_right.nd))
  (DB.one (DS.ret (DC.val (DC.op (opEq c) (DE.callB c (cRepr c) T.n_repr (by decide +kernel) (DA.cons (DE.lst (DA.cons (DE.cl c L_compared (by decide) rfl (DA.cons (DE.var 0) (DA.cons (DE.var 1) DA.nil)) (aLen_cons (aLen_cons aLen_nil))) (DA.cons (DE.cl c L_is_under (by decide) rfl (DA.cons (DE.var 0) (DA.cons (DE.var 1) DA.nil)) (aLen_cons (aLen_cons aLen_nil))) DA.nil))) DA.nil)) (DE.callB c (cRepr c) T.n_repr (by decide +kernel) (DA.cons (DE.lst (DA.cons (DE.var 7) (DA.cons (DC.val (DC.op opLt (DE.var 7) DE.int)) DA.nil))) DA.nil))))))))))))
abbrev ss_law_looked_right : Stmt := topS 54
theorem sc_law_looked_right : FnScope nn_law_looked_right ["state"] (defScope ss_law_looked_right) := ⟨rfl, rfl, rfl, by decide +kernel, rfl, by decide +kernel, by decide +kernel⟩
abbrev FF_law_looked_right (K : PySem.W.Frag) (f : Addr) (fd : FuncData) : Prop := FunD K "_law_looked_right" "_law_looked_right" (defArgs ss_law_looked_right) (defBody ss_law_looked_right) (defScope ss_law_looked_right) [] [] f fd
theorem ok_law_looked_right (T : Txt ct K mg) (L_law_digit : Lk P w K mg base "_law_digit" 2 ["state", "many"] ff_law_digit) (L_law_lowest : Lk P w K mg base "_law_lowest" 1 ["top", "bottom"] ff_law_lowest) (L_law_told : Lk P w K mg base "_law_told" 3 ["top", "bottom"] (ff_law_told ct)) (D_fraction_1 : LkD P w K mg base "fraction" 2 ["top", "bottom"] ff_fraction [(.int 1)]) (D_is_fraction_1 : LkD P w K mg base "is_fraction" 2 ["thing", "most"] ff_is_fraction [.non]) {f : Addr} {fd : FuncData} (F : FF_law_looked_right K f fd) : DFn P w K mg base 4 f fd ["state"] (ff_law_looked_right ct) :=
  DFn.of F sc_law_looked_right fun c => (DB.cons (DS.par3 1 2 3 c (DE.op opSub (DE.cl c L_law_digit (by decide) rfl (DA.cons (DE.var 0) (DA.cons DE.int DA.nil)) (aLen_cons (aLen_cons aLen_nil))) DE.int) (DE.op opSub (DE.cl c L_law_digit (by decide) rfl (DA.cons (DE.var 0) (DA.cons DE.int DA.nil)) (aLen_cons (aLen_cons aLen_nil))) DE.int) (DE.op (opAdd4 c) DE.int (DE.cl c L_law_digit (by decide) rfl (DA.cons (DE.var 0) (DA.cons DE.int DA.nil)) (aLen_cons (aLen_cons aLen_nil)))) (fun _ => sc_law_looked_right.nd))
  (DB.cons (DS.set 4 (DE.ite (DC.test (DC.op (opEq c) (DE.var 2) DE.int)) (DE.lst (DA.cons DE.str (DA.cons DE.str (DA.cons DE.str DA.nil)))) (DE.cl c L_law_lowest (by decide) rfl (DA.cons (DE.var 1) (DA.cons (DE.var 2) DA.nil)) (aLen_cons (aLen_cons aLen_nil)))) (fun _ => sc_law_looked_right.nd))
  (DB.cons (DS.ite (DW.test (DW.or (DC.test (DC.op (opNe c) (DE.cl c L_law_told (by decide) rfl (DA.cons (DE.op opMul2 (DE.var 1) (DE.var 3)) (DA.cons (DE.op opMul2 (DE.var 2) (DE.var 3)) DA.nil)) (aLen_cons (aLen_cons aLen_nil))) (DE.var 4))) (DW.or1 (DC.test (DC.op (opNe c) (DE.clD c D_fraction_1 (by decide) rfl (DA.cons (DE.var 1) DA.nil) (aLen_cons aLen_nil)) (DE.tup (DA.cons (DE.var 1) (DA.cons DE.int DA.nil))))))))
  (DB.one (DS.ret DE.bool)) DB.nil)
  (DB.cons (DS.set 5 (DE.and (DC.val (DC.op opGt (DE.var 2) DE.int)) (DE.one (DC.val (DC.op (opEq c) (DE.cl c L_law_lowest (by decide) rfl (DA.cons (DE.var 1) (DA.cons (DE.var 2) DA.nil)) (aLen_cons (aLen_cons aLen_nil))) (DE.tup (DA.cons (DE.var 1) (DA.cons (DE.var 2) DA.nil))))))) (fun _ => sc_law_looked_right.nd))
  (DB.cons (DS.set 6 (DE.lst (DA.cons (DE.clD c D_is_fraction_1 (by decide) rfl (DA.cons (DE.tup (DA.cons (DE.var 1) (DA.cons (DE.var 2) DA.nil))) DA.nil) (aLen_cons aLen_nil)) (DA.cons (DE.clD c D_is_fraction_1 (by decide) rfl (DA.cons (DE.tup (DA.cons (DE.op opMul2 (DE.var 1) (DE.var 3)) (DA.cons (DE.op opMul2 (DE.var 2) (DE.var 3)) DA.nil))) DA.nil) (aLen_cons aLen_nil)) DA.nil))) (fun _ => sc_law_looked_right.nd))
  (DB.one (DS.ret (DC.val (DC.op (opEq c) (DE.callB c (cRepr c) T.n_repr (by decide +kernel) (DA.cons (DE.var 6) DA.nil)) (DE.callB c (cRepr c) T.n_repr (by decide +kernel) (DA.cons (DE.lst (DA.cons (DE.var 5) (DA.cons (DE.and (DE.var 5) (DE.one (DC.val (DC.op (opEq c) (DE.var 3) DE.int)))) DA.nil))) DA.nil)))))))))))
abbrev ss_law : Stmt := topS 55
theorem sc_law : FnScope nn_law ["script"] (defScope ss_law) := ⟨rfl, rfl, rfl, by decide +kernel, rfl, by decide +kernel, by decide +kernel⟩
abbrev FF_law (K : PySem.W.Frag) (f : Addr) (fd : FuncData) : Prop := FunD K "law" "law" (defArgs ss_law) (defBody ss_law) (defScope ss_law) [] [] f fd
theorem ok_law (T : Txt ct K mg) (L_law_draw : Lk P w K mg base "_law_draw" 1 ["cell", "k"] ff_law_draw) (L_law_fraction : Lk P w K mg base "_law_fraction" 3 ["state"] ff_law_fraction) (L_law_reckoned_right : Lk P w K mg base "_law_reckoned_right" 4 ["one", "other"] (ff_law_reckoned_right ct)) (L_law_looked_right : Lk P w K mg base "_law_looked_right" 4 ["state"] (ff_law_looked_right ct)) (L_law_digit : Lk P w K mg base "_law_digit" 2 ["state", "many"] ff_law_digit) (L_law_told : Lk P w K mg base "_law_told" 3 ["top", "bottom"] (ff_law_told ct)) (D_is_fraction_1 : LkD P w K mg base "is_fraction" 2 ["thing", "most"] ff_is_fraction [.non]) (K_is_fraction_1_most : LkK P w K mg base "is_fraction" 2 ["thing", "most"] ff_is_fraction 1 ["most"] kd_is_fraction_1_most) {f : Addr} {fd : FuncData} (F : FF_law K f fd) : DFn P w K mg base 5 f fd ["script"] (ff_law ct) :=
  DFn.of F sc_law fun c => (DB.cons (DS.for c (fun _ => PassesOwn.never) (DI.enum c T.n_enumerate (DA.cons (DE.op (opAdd4 c) (DE.sl c (DE.var 0) DP.none (DP.some DE.int)) (DE.lst (DA.cons (DE.callB c (cSum c) T.n_sum (by decide +kernel) (DA.cons (DE.var 0) DA.nil)) DA.nil))) DA.nil)) (DG.tup c (DGs.cons (DG.name 1 fun _ => sc_law.nd) (DGs.cons (DG.name 2 fun _ => sc_law.nd) DGs.nil)))
  (DB.cons (DS.set 3 (DE.cl c L_law_draw (by decide) rfl (DA.cons (DE.var 2) (DA.cons (DE.var 1) DA.nil)) (aLen_cons (aLen_cons aLen_nil))) (fun _ => sc_law.nd))
  (DB.cons (DS.for c (fun _ => PassesOwn.never) (DI.rng1 c T.n_range (DA.cons DE.int DA.nil)) (DG.name 4 fun _ => sc_law.nd)
  (DB.cons (DS.par 5 6 c (DE.cl c L_law_fraction (by decide) rfl (DA.cons (DE.var 3) DA.nil) (aLen_cons aLen_nil)) (DE.cl c L_law_fraction (by decide) rfl (DA.cons (DE.var 3) DA.nil) (aLen_cons aLen_nil)) (fun _ => sc_law.nd))
  (DB.cons (DS.ite (DW.test (DW.or (DT.not (DE.test (DE.cl c L_law_reckoned_right (by decide) rfl (DA.cons (DE.var 5) (DA.cons (DE.var 6) DA.nil)) (aLen_cons (aLen_cons aLen_nil))))) (DW.or1 (DT.not (DE.test (DE.cl c L_law_reckoned_right (by decide) rfl (DA.cons (DE.var 5) (DA.cons (DE.var 5) DA.nil)) (aLen_cons (aLen_cons aLen_nil))))))))
  (DB.one (DS.ret DE.bool)) DB.nil)
  (DB.one (DS.ite (DW.test (DW.or (DC.test (DC.op opNotB (DE.clD c D_is_fraction_1 (by decide) rfl (DA.cons (DE.var 5) DA.nil) (aLen_cons aLen_nil)) DE.bool)) (DW.or1 (DT.not (DE.test (DE.cl c L_law_looked_right (by decide) rfl (DA.cons (DE.var 3) DA.nil) (aLen_cons aLen_nil)))))))
  (DB.one (DS.ret DE.bool)) DB.nil)))))
  (DB.cons (DS.set 7 (DE.callB c (cMax2 c) T.n_max (by decide +kernel) (DA.cons (DE.callB c cAbs T.n_abs (by decide +kernel) (DA.cons (DE.ix c (DE.var 5) DE.int) DA.nil)) (DA.cons (DE.ix c (DE.var 5) DE.int) DA.nil))) (fun _ => sc_law.nd))
  (DB.cons (DS.ite (DW.test (DW.or (DC.test (DC.op opNotB (DE.clK c K_is_fraction_1_most (by decide) (DA.cons (DE.var 5) DA.nil) (aLen_cons aLen_nil) (DK.cons (DE.var 7) DK.nil)) DE.bool)) (DW.or1 (DC.test (DC.op opNotB (DE.clK c K_is_fraction_1_most (by decide) (DA.cons (DE.var 5) DA.nil) (aLen_cons aLen_nil) (DK.cons (DE.op opSub (DE.var 7) DE.int) DK.nil)) DE.bool)))))
  (DB.one (DS.ret DE.bool)) DB.nil)
  (DB.cons (DS.set 8 (DE.ix c (DE.lst (DA.cons DE.non (DA.cons DE.bool (DA.cons DE.str (DA.cons (DE.lst DA.nil) (DA.cons (DE.tup (DA.cons DE.int DA.nil)) (DA.cons DE.dic0 (DA.cons (DE.lst (DA.cons DE.int (DA.cons DE.int DA.nil))) DA.nil)))))))) (DE.cl c L_law_digit (by decide) rfl (DA.cons (DE.var 3) (DA.cons DE.int DA.nil)) (aLen_cons (aLen_cons aLen_nil)))) (fun _ => sc_law.nd))
  (DB.cons (DS.set 9 (DE.lst (DA.cons (DE.var 8) (DA.cons (DE.tup (DA.cons (DE.var 8) (DA.cons DE.int DA.nil))) (DA.cons (DE.tup (DA.cons DE.int (DA.cons (DE.var 8) DA.nil))) (DA.cons (DE.tup (DA.cons DE.int (DA.cons DE.int (DA.cons DE.int DA.nil)))) (DA.cons (DE.tup (DA.cons DE.int DA.nil)) (DA.cons (DE.tup (DA.cons DE.int (DA.cons DE.int DA.nil))) (DA.cons (DE.tup (DA.cons DE.int (DA.cons DE.int DA.nil))) (DA.cons (DE.tup (DA.cons DE.int (DA.cons (DE.neg DE.int) DA.nil))) (DA.cons (DE.tup (DA.cons DE.int (DA.cons DE.int DA.nil))) (DA.cons (DE.tup (DA.cons DE.int (DA.cons (DE.neg DE.int) DA.nil))) (DA.cons (DE.tup (DA.cons DE.bool (DA.cons DE.int DA.nil))) DA.nil)))))))))))) (fun _ => sc_law.nd))
  (DB.cons (DS.setLc 10 c (own := [("thing", 11)]) (fun _ => sc_law.nd) (DI.seq c (DE.op (opAdd4 c) (DE.var 9) (DE.lst (DA.cons (DE.tup (DA.cons DE.int (DA.cons DE.bool DA.nil))) DA.nil)))) (fun _ => blkOk_by (N := nn_law) (by rfl)) (DG.name 11 fun _ => sc_law.nd) (by decide) (DTs.one (DC.test (DC.op opNotB (DE.clD (c.blk _) D_is_fraction_1 (by decide) rfl (DA.cons (DE.var 11) DA.nil) (aLen_cons aLen_nil)) DE.bool))) (DE.var 11))
  (DB.cons (DS.ite (DW.test (DW.or (DC.test (DC.op (opNe c) (DE.var 10) (DE.lst DA.nil))) (DW.or1 (DC.test (DC.op opNotB (DE.clK c K_is_fraction_1_most (by decide) (DA.cons (DE.var 8) DA.nil) (aLen_cons aLen_nil) (DK.cons DE.int DK.nil)) DE.bool)))))
  (DB.one (DS.ret DE.bool)) DB.nil)
  (DB.one (DS.ite (DC.test (DC.op (opNe c) (DE.lst (DA.cons (DE.cl c L_law_told (by decide) rfl (DA.cons (DE.var 8) (DA.cons DE.int DA.nil)) (aLen_cons (aLen_cons aLen_nil))) (DA.cons (DE.cl c L_law_told (by decide) rfl (DA.cons DE.int (DA.cons (DE.var 8) DA.nil)) (aLen_cons (aLen_cons aLen_nil))) DA.nil))) (DE.op opMul2 (DE.lst (DA.cons (DE.lst (DA.cons DE.str (DA.cons DE.str (DA.cons DE.str DA.nil)))) DA.nil)) DE.int)))
  (DB.one (DS.ret DE.bool)) DB.nil)))))))))))
  (DB.one (DS.ret (DE.and (DC.val (DC.op (opEq c) (DE.gv c T.g_NOUGHT) (DE.tup (DA.cons DE.int (DA.cons DE.int DA.nil))))) (DE.and (DC.val (DC.op opIsB (DE.clK c K_is_fraction_1_most (by decide) (DA.cons (DE.gv c T.g_NOUGHT) DA.nil) (aLen_cons aLen_nil) (DK.cons DE.int DK.nil)) DE.bool)) (DE.one (DC.val (DC.op opIsB (DE.clK c K_is_fraction_1_most (by decide) (DA.cons (DE.tup (DA.cons DE.int (DA.cons DE.int DA.nil))) DA.nil) (aLen_cons aLen_nil) (DK.cons DE.int DK.nil)) DE.bool))))))))
end
end Law

namespace Law
open PySem L2 Pl
/-- a fraction as a value -/
def R (q : Rat) : D := .tup [.int q.num, .int (q.den : Int)]
theorem dOk {t s : Int} (h : s ≠ 0) (hb : s.natAbs < 2 ^ 8000) : DivOk t s := divOk h hb (by decide) (by decide)
theorem fdiv_dvd {a s : Int} (h : s ∣ a) : a.fdiv s = a / s := by
  obtain ⟨c, rfl⟩ := h
  by_cases hs : s = 0
  · subst hs; simp
  · rw [Int.mul_fdiv_cancel_left _ hs, Int.mul_ediv_cancel_left _ hs]
theorem low_ok {t b : Int} (h : b ≠ 0) (hb : b.natAbs < 2 ^ 8000) (M : Mh) : ff_lowest [.int t, .int b] M = some (R (Rat.divInt t b), M) := by
  have hg : (Nat.gcd t.natAbs b.natAbs : Int) ≠ 0 := by
    have : 0 < Nat.gcd t.natAbs b.natAbs := Nat.gcd_pos_of_pos_right _ (by omega)
    omega
  have hl : Nat.gcd t.natAbs b.natAbs ≤ b.natAbs := Nat.gcd_le_right _ (by omega)
  have d1 : (Nat.gcd t.natAbs b.natAbs : Int) ∣ t := Int.ofNat_dvd_left.mpr (Nat.gcd_dvd_left _ _)
  have d2 : (Nat.gcd t.natAbs b.natAbs : Int) ∣ b := Int.ofNat_dvd_left.mpr (Nat.gcd_dvd_right _ _)
  have eR : R (Rat.divInt t b) = .tup [.int (b.sign * t / (Nat.gcd t.natAbs b.natAbs : Int)), .int (b.natAbs / Nat.gcd t.natAbs b.natAbs : Nat)] := by
    unfold R
    rw [Rat.num_divInt, Rat.den_divInt, if_neg h, Int.gcd, Nat.gcd_comm]
  rw [eR]
  by_cases hn : b < 0
  · have o1 : DivOk t (-(Nat.gcd t.natAbs b.natAbs : Int)) := dOk (by omega) (by rw [Int.natAbs_neg]; exact Nat.lt_of_le_of_lt hl hb)
    have o2 : DivOk b (-(Nat.gcd t.natAbs b.natAbs : Int)) := dOk (by omega) (by rw [Int.natAbs_neg]; exact Nat.lt_of_le_of_lt hl hb)
    have e1 : t.fdiv (-(Nat.gcd t.natAbs b.natAbs : Int)) = b.sign * t / (Nat.gcd t.natAbs b.natAbs : Int) := by
      rw [fdiv_dvd (Int.neg_dvd.mpr d1), Int.sign_eq_neg_one_of_neg hn, Int.ediv_neg, Int.neg_one_mul, Int.neg_ediv_of_dvd d1]
    have e2 : b.fdiv (-(Nat.gcd t.natAbs b.natAbs : Int)) = ((b.natAbs / Nat.gcd t.natAbs b.natAbs : Nat) : Int) := by
      rw [fdiv_dvd (Int.neg_dvd.mpr d2), Int.ediv_neg, ← Int.neg_ediv_of_dvd d2, Int.natCast_ediv, Int.ofNat_natAbs_of_nonpos (by omega)]
    simp [ff_lowest, gg_lowest, fnF, startD, sSeq, sAs, sIf, sRet, sNil, eB, gL2, aCons, aNil, eVar, gN, tV, eOp, gInt, eC, eUn, gNeg, eTup, gIntC, hn, if_pos o1, if_pos o2, sizeLine, e1, e2]
  · have o1 : DivOk t (Nat.gcd t.natAbs b.natAbs : Int) := dOk (by omega) (Nat.lt_of_le_of_lt hl hb)
    have o2 : DivOk b (Nat.gcd t.natAbs b.natAbs : Int) := dOk (by omega) (Nat.lt_of_le_of_lt hl hb)
    have e1 : t.fdiv (Nat.gcd t.natAbs b.natAbs : Int) = b.sign * t / (Nat.gcd t.natAbs b.natAbs : Int) := by
      rw [fdiv_dvd d1, Int.sign_eq_one_of_pos (by omega), Int.one_mul]
    have e2 : b.fdiv (Nat.gcd t.natAbs b.natAbs : Int) = ((b.natAbs / Nat.gcd t.natAbs b.natAbs : Nat) : Int) := by
      rw [fdiv_dvd d2, Int.natCast_ediv, Int.natAbs_of_nonneg (by omega)]
    simp [ff_lowest, gg_lowest, fnF, startD, sSeq, sAs, sIf, sRet, sNil, eB, gL2, aCons, aNil, eVar, gN, tV, eOp, gInt, eC, eUn, gNeg, eTup, gIntC, hn, if_pos o1, if_pos o2, sizeLine, e1, e2]
end Law

namespace Law
open PySem L2 Pl
class Sz (k : outParam Nat) (q : Rat) : Prop where
  num : q.num.natAbs < 2 ^ (128 * k)
  den : q.den < 2 ^ (128 * k)
theorem ix0 {q : Rat} {M : Mh} : gIx (R q) (.int 0) M = some (.int q.num, M) := rfl
theorem ix1 {q : Rat} {M : Mh} : gIx (R q) (.int 1) M = some (.int (q.den : Int), M) := rfl
theorem mul_int {i j : Int} (h : MulOk i j) {M : Mh} : gMul (.int i) (.int j) M = some (.int (i * j), M) := if_pos h
theorem add_int {i j : Int} {M : Mh} : gAdd (.int i) (.int j) M = some (.int (i + j), M) := rfl
section
variable {a b c : Rat} {i j k : Nat}
theorem szd (h : Sz i a) : ((a.den : Nat) : Int).natAbs < 2 ^ (128 * i) := h.den
theorem mOk {x y : Int} (hx : x.natAbs < 2 ^ (128 * i)) (hy : y.natAbs < 2 ^ (128 * j)) (h : i + j ≤ 30) : MulOk x y := mulOk hx hy (by omega)
theorem mSz {x y : Nat} (hx : x < 2 ^ (128 * i)) (hy : y < 2 ^ (128 * j)) : x * y < 2 ^ (128 * (i + j)) := by
  rw [Nat.mul_add, Nat.pow_add]
  exact Nat.mul_lt_mul'' hx hy
theorem up1 {x : Nat} (h : x < 2 ^ (128 * i)) (hij : i ≤ j) : x < 2 ^ (128 * j) := Nat.lt_of_lt_of_le h (Nat.pow_le_pow_right (by decide) (by omega))
theorem up8 {x : Nat} (h : x < 2 ^ (128 * i)) (hij : i ≤ 60) : x < 2 ^ 8000 := Nat.lt_of_lt_of_le h (Nat.pow_le_pow_right (by decide) (by omega))
theorem den0 (a : Rat) : (a.den : Int) ≠ 0 := by have := a.den_pos; omega
theorem dd0 (a b : Rat) : (a.den : Int) * b.den ≠ 0 := Int.mul_ne_zero (den0 a) (den0 b)
theorem add_eq (a b : Rat) : Rat.divInt (a.num * b.den + b.num * a.den) (a.den * b.den) = a + b := by
  rw [← Rat.divInt_add_divInt _ _ (den0 a) (den0 b), Rat.num_divInt_den, Rat.num_divInt_den]
theorem sub_eq (a b : Rat) : Rat.divInt (a.num * b.den - b.num * a.den) (a.den * b.den) = a - b := by
  rw [← Rat.divInt_sub_divInt _ _ (den0 a) (den0 b), Rat.num_divInt_den, Rat.num_divInt_den]
theorem mul_eq (a b : Rat) : Rat.divInt (a.num * b.num) (a.den * b.den) = a * b := by
  rw [← Rat.divInt_mul_divInt, Rat.num_divInt_den, Rat.num_divInt_den]
theorem div_eq (a b : Rat) : Rat.divInt (a.num * b.den) (a.den * b.num) = a / b := by
  rw [← Rat.divInt_mul_divInt, Rat.num_divInt_den, Rat.div_def, Rat.inv_def]
theorem mean_eq (a b : Rat) : Rat.divInt (a.num * b.den + b.num * a.den) (2 * a.den * b.den) = (a + b) / 2 := by
  rw [Int.mul_assoc, ← Int.one_mul (a.num * b.den + b.num * a.den), ← Rat.divInt_mul_divInt, add_eq]
  have : Rat.divInt 1 2 = 1 / 2 := by decide +kernel
  rw [this]
  grind
theorem num_le {t b : Int} : (Rat.divInt t b).num.natAbs ≤ t.natAbs := by
  rw [Rat.num_divInt]
  refine Nat.le_trans (Int.natAbs_ediv_le_natAbs _ _) ?_
  rw [Int.natAbs_mul]
  have : b.sign.natAbs ≤ 1 := by
    rcases Int.lt_trichotomy b 0 with h | h | h
    · rw [Int.sign_eq_neg_one_of_neg h]; decide
    · rw [h]; decide
    · rw [Int.sign_eq_one_of_pos h]; decide
  exact Nat.le_trans (Nat.mul_le_mul_right _ this) (by omega)
theorem den_le {t b : Int} (h : b ≠ 0) : (Rat.divInt t b).den ≤ b.natAbs := by
  rw [Rat.den_divInt, if_neg h]
  exact Nat.div_le_self _ _
theorem sum_lt {x y : Int} (hx : x.natAbs < 2 ^ (128 * i)) (hy : y.natAbs < 2 ^ (128 * i)) : (x + y).natAbs < 2 ^ (128 * (i + 1)) := by
  have : 2 ^ (128 * (i + 1)) = 2 ^ (128 * i) * 2 ^ 128 := by rw [← Nat.pow_add]; congr 1
  have h2 : 2 ^ (128 * i) * 2 ≤ 2 ^ (128 * i) * 2 ^ 128 := Nat.mul_le_mul_left _ (by decide)
  have h3 := Int.natAbs_add_le x y
  omega
instance szAdd [ha : Sz i a] [hb : Sz j b] : Sz (i + j + 1) (a + b) where
  num := by
    rw [← add_eq]
    refine Nat.lt_of_le_of_lt num_le (sum_lt ?_ ?_)
    · rw [Int.natAbs_mul]; exact mSz ha.num hb.den
    · rw [Int.natAbs_mul, Nat.add_comm i j]; exact mSz hb.num ha.den
  den := by
    rw [← add_eq]
    refine Nat.lt_of_le_of_lt (den_le (dd0 a b)) (up1 (i := i + j) ?_ (by omega))
    rw [Int.natAbs_mul]; exact mSz ha.den hb.den
instance szSub [ha : Sz i a] [hb : Sz j b] : Sz (i + j + 1) (a - b) where
  num := by
    rw [← sub_eq, Int.sub_eq_add_neg]
    refine Nat.lt_of_le_of_lt num_le (sum_lt ?_ ?_)
    · rw [Int.natAbs_mul]; exact mSz ha.num hb.den
    · rw [Int.natAbs_neg, Int.natAbs_mul, Nat.add_comm i j]; exact mSz hb.num ha.den
  den := by
    rw [← sub_eq]
    refine Nat.lt_of_le_of_lt (den_le (dd0 a b)) (up1 (i := i + j) ?_ (by omega))
    rw [Int.natAbs_mul]; exact mSz ha.den hb.den
instance szMul [ha : Sz i a] [hb : Sz j b] : Sz (i + j) (a * b) where
  num := by
    rw [← mul_eq]
    refine Nat.lt_of_le_of_lt num_le ?_
    rw [Int.natAbs_mul]; exact mSz ha.num hb.num
  den := by
    rw [← mul_eq]
    refine Nat.lt_of_le_of_lt (den_le (dd0 a b)) ?_
    rw [Int.natAbs_mul]; exact mSz ha.den hb.den
instance sz0 : Sz 1 0 := ⟨by decide, by decide⟩
instance sz1 : Sz 1 1 := ⟨by decide, by decide⟩
instance sz2 : Sz 1 2 := ⟨by decide, by decide⟩
theorem two0 : (2 : Rat) ≠ 0 := by decide
instance szDiv [ha : Sz i a] [hb : Sz j b] : Sz (i + j) (a / b) where
  num := by
    rw [← div_eq]
    refine Nat.lt_of_le_of_lt num_le ?_
    rw [Int.natAbs_mul]; exact mSz ha.num hb.den
  den := by
    by_cases h : b = 0
    · rw [h, Rat.div_def, Rat.inv_zero, Rat.mul_zero]
      exact Nat.one_lt_two_pow_iff.mpr (by
        have h1 : i ≠ 0 := fun z => by subst z; have := ha.den; have := a.den_pos; omega
        omega)
    rw [← div_eq]
    refine Nat.lt_of_le_of_lt (den_le (Int.mul_ne_zero (den0 a) (fun z => h (Rat.num_eq_zero.mp z)))) ?_
    rw [Int.natAbs_mul]; exact mSz ha.den hb.num
theorem plus_ok [ha : Sz i a] [hb : Sz j b] (h : i + j ≤ 30) {M : Mh} : ff_plus [R a, R b] M = some (R (a + b), M) := by
  have e := low_ok (t := a.num * b.den + b.num * a.den) (dd0 a b) (up8 (i := i + j) (by rw [Int.natAbs_mul]; exact mSz ha.den hb.den) (by omega)) M
  rw [add_eq] at e
  simp [ff_plus, gg_plus, fnF, startD, sSeq, sAs, sIf, sRet, sNil, eB, gL1, gL2, aCons, aNil, eVar, gN, tV, eOp, gInt, eC, eUn, gNeg, eTup, eLst, tNt, tAn, tOrr, eAn, eOr, eNt, eIf, eCall, eCallK, gTp, gsCons, gsNil, gIsN, isN, sizeLine, ix0, ix1, add_int, mul_int (mOk ha.num (szd hb) h), mul_int (mOk hb.num (szd ha) (by omega)), mul_int (mOk (szd ha) (szd hb) h), e]
theorem less_ok [ha : Sz i a] [hb : Sz j b] (h : i + j ≤ 30) {M : Mh} : ff_less [R a, R b] M = some (R (a - b), M) := by
  have e := low_ok (t := a.num * b.den - b.num * a.den) (dd0 a b) (up8 (i := i + j) (by rw [Int.natAbs_mul]; exact mSz ha.den hb.den) (by omega)) M
  rw [sub_eq] at e
  simp [ff_less, gg_less, fnF, startD, sSeq, sAs, sIf, sRet, sNil, eB, gL1, gL2, aCons, aNil, eVar, gN, tV, eOp, gInt, eC, eUn, gNeg, eTup, eLst, tNt, tAn, tOrr, eAn, eOr, eNt, eIf, eCall, eCallK, gTp, gsCons, gsNil, gIsN, isN, sizeLine, ix0, ix1, add_int, mul_int (mOk ha.num (szd hb) h), mul_int (mOk hb.num (szd ha) (by omega)), mul_int (mOk (szd ha) (szd hb) h), e]
theorem times_ok [ha : Sz i a] [hb : Sz j b] (h : i + j ≤ 30) {M : Mh} : ff_times [R a, R b] M = some (R (a * b), M) := by
  have e := low_ok (t := a.num * b.num) (dd0 a b) (up8 (i := i + j) (by rw [Int.natAbs_mul]; exact mSz ha.den hb.den) (by omega)) M
  rw [mul_eq] at e
  simp [ff_times, gg_times, fnF, startD, sSeq, sAs, sIf, sRet, sNil, eB, gL1, gL2, aCons, aNil, eVar, gN, tV, eOp, gInt, eC, eUn, gNeg, eTup, eLst, tNt, tAn, tOrr, eAn, eOr, eNt, eIf, eCall, eCallK, gTp, gsCons, gsNil, gIsN, isN, sizeLine, ix0, ix1, add_int, mul_int (mOk ha.num hb.num h), mul_int (mOk (szd ha) (szd hb) h), e]
theorem mean_ok [ha : Sz i a] [hb : Sz j b] (h : i + j ≤ 28) {M : Mh} : ff_mean [R a, R b] M = some (R ((a + b) / 2), M) := by
  have s2 : (2 * (a.den : Int)).natAbs < 2 ^ (128 * (1 + i)) := by rw [Int.natAbs_mul]; exact mSz (by decide) ha.den
  have e := low_ok (t := a.num * b.den + b.num * a.den) (b := 2 * a.den * b.den) (Int.mul_ne_zero (Int.mul_ne_zero (by decide) (den0 a)) (den0 b)) (up8 (i := 1 + i + j) (by rw [Int.natAbs_mul]; exact mSz s2 hb.den) (by omega)) M
  rw [mean_eq] at e
  simp [ff_mean, gg_mean, fnF, startD, sSeq, sAs, sIf, sRet, sNil, eB, gL1, gL2, aCons, aNil, eVar, gN, tV, eOp, gInt, eC, eUn, gNeg, eTup, eLst, tNt, tAn, tOrr, eAn, eOr, eNt, eIf, eCall, eCallK, gTp, gsCons, gsNil, gIsN, isN, sizeLine, ix0, ix1, add_int, mul_int (mOk ha.num (szd hb) (by omega)), mul_int (mOk hb.num (szd ha) (by omega)), mul_int (mOk (i := 1) (x := 2) (by decide) (szd ha) (by omega)), mul_int (mOk s2 (szd hb) (by omega)), e]
theorem toP_R (q : Rat) : toP (R q) = some (.tuple [.int q.num, .int q.den]) := rfl
theorem eq_R (h : PyData → PyData → Bool) (p q : Rat) (M : Mh) : gEq h (R p) (R q) M = some (.bl (h (.tuple [.int p.num, .int p.den]) (.tuple [.int q.num, .int q.den])), M) := rfl
theorem eqv_R (p q : Rat) : PyData.eqv (.tuple [.int p.num, .int p.den]) (.tuple [.int q.num, .int q.den]) = decide (p = q) := by
  have e : PyData.eqv (.tuple [.int p.num, .int p.den]) (.tuple [.int q.num, .int q.den]) = ((p.num == q.num) && ((p.den : Int) == q.den)) := by
    simp [PyData.eqv, PyData.eqvAll]
  rw [e]
  by_cases h : p = q
  · subst h; simp
  · rw [decide_eq_false h]
    simp only [Bool.and_eq_false_iff, beq_eq_false_iff_ne]
    by_cases h1 : p.num = q.num
    · exact .inr fun h2 => h (Rat.ext h1 (by omega))
    · exact .inl h1
theorem ne_R (p q : Rat) (M : Mh) : gEq (fun p q => !PyData.eqv p q) (R p) (R q) M = some (.bl (!decide (p = q)), M) := by rw [eq_R, eqv_R]
theorem eq_R' (p q : Rat) (M : Mh) : gEq PyData.eqv (R p) (R q) M = some (.bl (decide (p = q)), M) := by rw [eq_R, eqv_R]
theorem eqv_int (i j : Int) : PyData.eqv (.int i) (.int j) = decide (i = j) := by
  by_cases h : i = j
  · subst h; simp [PyData.eqv]
  · rw [decide_eq_false h]; simp [PyData.eqv, h]
theorem eq_int (i j : Int) (M : Mh) : gEq PyData.eqv (.int i) (.int j) M = some (.bl (decide (i = j)), M) := by
  rw [← eqv_int]; rfl
theorem ne_int (i j : Int) (M : Mh) : gEq (fun p q => !PyData.eqv p q) (.int i) (.int j) M = some (.bl (!decide (i = j)), M) := by
  rw [← eqv_int]; rfl
theorem eq_bl (i j : Bool) (M : Mh) : gEq PyData.eqv (.bl i) (.bl j) M = some (.bl (i == j), M) := by
  cases i <;> cases j <;> rfl
theorem ne_bl (i j : Bool) (M : Mh) : gEq (fun p q => !PyData.eqv p q) (.bl i) (.bl j) M = some (.bl (!(i == j)), M) := by
  cases i <;> cases j <;> rfl
theorem r01 : D.tup [.int 0, .int 1] = R 0 := by simp [R]
theorem r11 : D.tup [.int 1, .int 1] = R 1 := by simp [R]
theorem r21 : D.tup [.int 2, .int 1] = R 2 := by simp [R]
theorem over_ok [ha : Sz i a] [hb : Sz j b] (hz : b ≠ 0) (h : i + j ≤ 30) {M : Mh} : ff_over [R a, R b] M = some (R (a / b), M) := by
  have hn : b.num ≠ 0 := fun z => hz (Rat.num_eq_zero.mp z)
  have e := low_ok (t := a.num * b.den) (b := a.den * b.num) (Int.mul_ne_zero (den0 a) hn) (up8 (i := i + j) (by rw [Int.natAbs_mul]; exact mSz ha.den hb.num) (by omega)) M
  rw [div_eq] at e
  simp [ff_over, gg_over, fnF, startD, sSeq, sAs, sIf, sRet, sNil, eB, gL1, gL2, aCons, aNil, eVar, gN, tV, eOp, gInt, eC, eUn, gNeg, eTup, eLst, tNt, tAn, tOrr, eAn, eOr, eNt, eIf, eCall, eCallK, gTp, gsCons, gsNil, gIsN, isN, sizeLine, ix0, ix1, eq_int, hn, mul_int (mOk ha.num (szd hb) h), mul_int (mOk (szd ha) hb.num h), e]
theorem under_ok [ha : Sz i a] [hb : Sz j b] (h : i + j ≤ 30) {M : Mh} : ff_is_under [R a, R b] M = some (.bl (decide (a < b)), M) := by
  simp [ff_is_under, gg_is_under, fnF, startD, sSeq, sAs, sIf, sRet, sNil, eB, gL1, gL2, aCons, aNil, eVar, gN, tV, eOp, gInt, eC, eUn, gNeg, eTup, eLst, tNt, tAn, tOrr, eAn, eOr, eNt, eIf, eCall, eCallK, gTp, gsCons, gsNil, gIsN, isN, sizeLine, ix0, ix1, mul_int (mOk ha.num (szd hb) h), mul_int (mOk hb.num (szd ha) (by omega)), Rat.lt_iff]
/-- the told order -/
def cmpR (a b : Rat) : Int := if a < b then -1 else if b < a then 1 else 0
theorem compared_ok [ha : Sz i a] [hb : Sz j b] (h : i + j ≤ 30) {M : Mh} : ff_compared [R a, R b] M = some (.int (cmpR a b), M) := by
  have e1 := under_ok (a := a) (b := b) h (M := M)
  have e2 := under_ok (a := b) (b := a) (i := j) (j := i) (by omega) (M := M)
  unfold cmpR
  by_cases h1 : a < b
  · simp [ff_compared, gg_compared, fnF, startD, sSeq, sAs, sIf, sRet, sNil, eB, gL1, gL2, aCons, aNil, eVar, gN, tV, eOp, gInt, eC, eUn, gNeg, eTup, eLst, tNt, tAn, tOrr, eAn, eOr, eNt, eIf, eCall, eCallK, gTp, gsCons, gsNil, gIsN, isN, sizeLine, e1, e2, h1]
  · by_cases h2 : b < a
    · simp [ff_compared, gg_compared, fnF, startD, sSeq, sAs, sIf, sRet, sNil, eB, gL1, gL2, aCons, aNil, eVar, gN, tV, eOp, gInt, eC, eUn, gNeg, eTup, eLst, tNt, tAn, tOrr, eAn, eOr, eNt, eIf, eCall, eCallK, gTp, gsCons, gsNil, gIsN, isN, sizeLine, e1, e2, h1, h2]
    · simp [ff_compared, gg_compared, fnF, startD, sSeq, sAs, sIf, sRet, sNil, eB, gL1, gL2, aCons, aNil, eVar, gN, tV, eOp, gInt, eC, eUn, gNeg, eTup, eLst, tNt, tAn, tOrr, eAn, eOr, eNt, eIf, eCall, eCallK, gTp, gsCons, gsNil, gIsN, isN, sizeLine, e1, e2, h1, h2]
theorem floor_ok [ha : Sz i a] (h : i ≤ 30) {M : Mh} : ff_floor_of [R a] M = some (.int a.floor, M) := by
  have o : DivOk a.num (a.den : Int) := dOk (den0 a) (up8 (szd ha) (by omega))
  have e : a.num.fdiv a.den = a.floor := by
    rw [Rat.floor_def, Int.fdiv_eq_ediv_of_nonneg _ (by omega)]
  simp [ff_floor_of, gg_floor_of, fnF, startD, sSeq, sAs, sIf, sRet, sNil, eB, gL1, gL2, aCons, aNil, eVar, gN, tV, eOp, gInt, eC, eUn, gNeg, eTup, eLst, tNt, tAn, tOrr, eAn, eOr, eNt, eIf, eCall, eCallK, gTp, gsCons, gsNil, gIsN, isN, sizeLine, ix0, ix1, gIntC, if_pos o, e]
theorem kit_tt : kitB "tuple" "tuple" = some true := by decide +kernel
theorem kit_ii : kitB "int" "int" = some true := by decide +kernel
theorem kit_ib : kitB "int" "bool" = some false := by decide +kernel
theorem kit_ss : kitB "str" "str" = some true := by decide +kernel
theorem isf_ok {M : Mh} : ff_is_fraction [R a, .non] M = some (.bl true, M) := by
  have h1 : a.num.natAbs.gcd a.den = 1 := a.reduced
  have h2 := a.den_pos
  have h3 : ¬ ((a.den : Int) < 1) := by omega
  simp [ff_is_fraction, gg_is_fraction, ff_is_whole, gg_is_whole, fnF, startD, sSeq, sAs, sIf, sRet, sNil, eB, gL1, gL2, aCons, aNil, eVar, gN, tV, eOp, gInt, eC, eUn, gNeg, eTup, eLst, tNt, tAn, tOrr, eAn, eOr, eNt, eIf, eCall, eCallK, gTp, gsCons, gsNil, gIsN, isN, sizeLine, gIsi, tyN, gLen, lenOf, lstOf, R, eq_int, ne_int, h1, h3, kit_tt, kit_ii, kit_ib]
end
end Law

namespace Law
open PySem L2 Pl
theorem x_tV {f : EF} {δ : Pl.Env} {M : Mh} : tV f δ M = (match f δ M with | some (.bl b, M1) => some (b, M1) | _ => none) := (fun h => h) (by unfold tV; rfl)
theorem x_eOp {g : O2} {fa fb : EF} {δ : Pl.Env} {M : Mh} : eOp g fa fb δ M = (match fa δ M with | some (a, M1) => (match fb δ M1 with | some (b, M2) => g a b M2 | none => none) | none => none) := (fun h => h) (by unfold eOp; rfl)
theorem x_eCall {F : Fn} {g : AF} {dds : List D} {δ : Pl.Env} {M : Mh} : eCall F g dds δ M = (match g δ M with | some (ds, M1) => F (ds ++ dds) M1 | none => none) := (fun h => h) (by unfold eCall; rfl)
theorem x_eCallK {F : Fn} {g gk : AF} {h : List D → List D → List D} {δ : Pl.Env} {M : Mh} : eCallK F g gk h δ M = (match g δ M with | some (ds, M1) => (match gk δ M1 with | some (zs, M2) => F (h ds zs) M2 | none => none) | none => none) := (fun h => h) (by unfold eCallK; rfl)
theorem x_aCons {f : EF} {g : AF} {δ : Pl.Env} {M : Mh} : aCons f g δ M = (match f δ M with | some (d, M1) => (match g δ M1 with | some (ds, M2) => some (d :: ds, M2) | none => none) | none => none) := (fun h => h) (by unfold aCons; rfl)
theorem x_aNil {δ : Pl.Env} {M : Mh} : aNil δ M = some ([], M) := (fun h => h) (by unfold aNil; rfl)
theorem x_eC {δ : Pl.Env} {M : Mh} {d : D} : eC d δ M = some (d, M) := (fun h => h) (by unfold eC; rfl)
theorem x_eVar {i : Nat} {δ : Pl.Env} {M : Mh} : eVar i δ M = (match δ[i]? with | some (some d) => some (d, M) | _ => none) := (fun h => h) (by unfold eVar; rfl)
theorem x_tNt {f : TF} {δ : Pl.Env} {M : Mh} : tNt f δ M = (match f δ M with | some (b, M1) => some (!b, M1) | none => none) := (fun h => h) (by unfold tNt; rfl)
theorem x_tAn {f g : TF} {δ : Pl.Env} {M : Mh} : tAn f g δ M = (match f δ M with | some (true, M1) => g δ M1 | some (false, M1) => some (false, M1) | none => none) := (fun h => h) (by unfold tAn; rfl)
theorem x_tOrr {f g : TF} {δ : Pl.Env} {M : Mh} : tOrr f g δ M = (match f δ M with | some (true, M1) => some (true, M1) | some (false, M1) => g δ M1 | none => none) := (fun h => h) (by unfold tOrr; rfl)
theorem x_eAn {f g : EF} {δ : Pl.Env} {M : Mh} : eAn f g δ M = (match f δ M with | some (.bl true, M1) => g δ M1 | some (.bl false, M1) => some (.bl false, M1) | _ => none) := (fun h => h) (by unfold eAn; rfl)
theorem x_eOr {f g : EF} {δ : Pl.Env} {M : Mh} : eOr f g δ M = (match f δ M with | some (.bl true, M1) => some (.bl true, M1) | some (.bl false, M1) => g δ M1 | _ => none) := (fun h => h) (by unfold eOr; rfl)
theorem x_eB {g : GL} {f : AF} {δ : Pl.Env} {M : Mh} : eB g f δ M = (match f δ M with | some (ds, M1) => g ds M1 | none => none) := (fun h => h) (by unfold eB; rfl)
theorem x_eTup {f : AF} {δ : Pl.Env} {M : Mh} {ds : List D} {M1 : Mh} (h : f δ M = some (ds, M1)) (hl : ds.length ≤ 1000) : eTup f δ M = some (.tup ds, M1) := by
  unfold eTup; rw [h]; exact if_pos (Nat.le_trans hl (by decide))
theorem x_eLst {f : AF} {δ : Pl.Env} {M : Mh} {ds : List D} {M1 : Mh} (h : f δ M = some (ds, M1)) (hl : ds.length ≤ 1000) : eLst f δ M = some (.lst ds, M1) := by
  unfold eLst; rw [h]; exact if_pos (Nat.le_trans hl (by decide))
theorem x_eNt {f : EF} {δ : Pl.Env} {M M1 : Mh} {b : Bool} (h : f δ M = some (.bl b, M1)) : eNt f δ M = some (.bl (!b), M1) := by
  unfold eNt; rw [h]
theorem seq_nx {f g : SF} {δ δ' : Pl.Env} {M M1 : Mh} {r : Option Out} (h : f δ M = some (.nx δ' M1)) (k : g δ' M1 = r) : sSeq f g δ M = r := by
  unfold sSeq; rw [h]; exact k
theorem seq_rt {f g : SF} {δ : Pl.Env} {M M1 : Mh} {d : D} (h : f δ M = some (.rt d M1)) : sSeq f g δ M = some (.rt d M1) := by
  unfold sSeq; rw [h]
theorem if_ff {t : TF} {f g : SF} {δ : Pl.Env} {M M1 : Mh} {r : Option Out} (h : t δ M = some (false, M1)) (k : g δ M1 = r) : sIf t f g δ M = r := by
  unfold sIf; rw [h]; exact k
theorem if_tt {t : TF} {f g : SF} {δ : Pl.Env} {M M1 : Mh} {r : Option Out} (h : t δ M = some (true, M1)) (k : f δ M1 = r) : sIf t f g δ M = r := by
  unfold sIf; rw [h]; exact k
theorem nil_of {δ : Pl.Env} {M : Mh} : sNil δ M = some (.nx δ M) := (fun h => h) (by unfold sNil; rfl)
theorem seq_if0 {t : TF} {f g : SF} {δ : Pl.Env} {M M1 : Mh} {r : Option Out} (h : t δ M = some (false, M1)) (k : g δ M1 = r) : sSeq (sIf t f sNil) g δ M = r :=
  seq_nx (if_ff h nil_of) k
theorem seq_if1 {t : TF} {f f2 g : SF} {δ : Pl.Env} {M M1 M2 : Mh} {d : D} (h : t δ M = some (true, M1)) (k : f δ M1 = some (.rt d M2)) : sSeq (sIf t f f2) g δ M = some (.rt d M2) :=
  seq_rt (if_tt h k)
theorem as_of {f : EF} {p : GF} {δ δ' : Pl.Env} {M M1 : Mh} {d : D} (h : f δ M = some (d, M1)) (hp : p d δ = some δ') : sAs f p δ M = some (.nx δ' M1) := by
  unfold sAs; rw [h]; dsimp only; rw [hp]
theorem seq_as {f : EF} {p : GF} {g : SF} {δ δ' : Pl.Env} {M M1 : Mh} {d : D} {r : Option Out} (h : f δ M = some (d, M1)) (hp : p d δ = some δ') (k : g δ' M1 = r) : sSeq (sAs f p) g δ M = r :=
  seq_nx (as_of h hp) k
theorem ret_of {f : EF} {δ : Pl.Env} {M M1 : Mh} {d : D} (h : f δ M = some (d, M1)) : sRet f δ M = some (.rt d M1) := by
  unfold sRet; rw [h]
theorem fn_rt {n : Nat} {g : SF} {ds : List D} {M M1 : Mh} {d : D} (h : g (startD n ds) M = some (.rt d M1)) : fnF n g ds M = some (d, M1) := by
  unfold fnF; rw [h]
theorem or0 {f g : TF} {δ : Pl.Env} {M M1 : Mh} {r : Option (Bool × Mh)} (h : f δ M = some (false, M1)) (k : g δ M1 = r) : tOrr f g δ M = r := by
  unfold tOrr; rw [h]; exact k
theorem or1 {f g : TF} {δ : Pl.Env} {M M1 : Mh} (h : f δ M = some (true, M1)) : tOrr f g δ M = some (true, M1) := by
  unfold tOrr; rw [h]
theorem an1 {f g : TF} {δ : Pl.Env} {M M1 : Mh} {r : Option (Bool × Mh)} (h : f δ M = some (true, M1)) (k : g δ M1 = r) : tAn f g δ M = r := by
  unfold tAn; rw [h]; exact k
theorem an0 {f g : TF} {δ : Pl.Env} {M M1 : Mh} (h : f δ M = some (false, M1)) : tAn f g δ M = some (false, M1) := by
  unfold tAn; rw [h]
theorem op_of {g : O2} {fa fb : EF} {δ : Pl.Env} {M M1 M2 : Mh} {a b : D} {r : Option (D × Mh)} (h1 : fa δ M = some (a, M1)) (h2 : fb δ M1 = some (b, M2)) (h3 : g a b M2 = r) : eOp g fa fb δ M = r := by
  unfold eOp; rw [h1]; dsimp only; rw [h2]; exact h3
theorem v_bl {f : EF} {δ : Pl.Env} {M M1 : Mh} {b : Bool} (h : f δ M = some (.bl b, M1)) : tV f δ M = some (b, M1) := by
  unfold tV; rw [h]
theorem nt_of {f : TF} {δ : Pl.Env} {M M1 : Mh} {b : Bool} (h : f δ M = some (b, M1)) : tNt f δ M = some (!b, M1) := by
  unfold tNt; rw [h]
theorem call_of {F : Fn} {g : AF} {dds ds : List D} {δ : Pl.Env} {M M1 : Mh} {r : Option (D × Mh)} (h : g δ M = some (ds, M1)) (k : F (ds ++ dds) M1 = r) : eCall F g dds δ M = r := by
  unfold eCall; rw [h]; exact k
theorem cons_of {f : EF} {g : AF} {δ : Pl.Env} {M M1 M2 : Mh} {d : D} {ds : List D} (h : f δ M = some (d, M1)) (k : g δ M1 = some (ds, M2)) : aCons f g δ M = some (d :: ds, M2) := by
  unfold aCons; rw [h]; dsimp only; rw [k]
theorem eq_nil (M : Mh) : gEq PyData.eqv (.lst []) (.lst []) M = some (.bl true, M) := by
  simp [gEq, toP, deref, toPs, PyData.eqv, PyData.eqvAll, SeqAt.shaped]
  decide +kernel
theorem tup01 {δ : Pl.Env} {M : Mh} : eTup (aCons (eC (.int 0)) (aCons (eC (.int 1)) aNil)) δ M = some (R 0, M) := by
  rw [← r01]; exact x_eTup (cons_of x_eC (cons_of x_eC x_aNil)) (by decide)
theorem tup11 {δ : Pl.Env} {M : Mh} : eTup (aCons (eC (.int 1)) (aCons (eC (.int 1)) aNil)) δ M = some (R 1, M) := by
  rw [← r11]; exact x_eTup (cons_of x_eC (cons_of x_eC x_aNil)) (by decide)
theorem tup21 {δ : Pl.Env} {M : Mh} : eTup (aCons (eC (.int 2)) (aCons (eC (.int 1)) aNil)) δ M = some (R 2, M) := by
  rw [← r21]; exact x_eTup (cons_of x_eC (cons_of x_eC x_aNil)) (by decide)
end Law

namespace Law
open PySem L2 Pl
section
variable {a b c : Rat}
end
end Law

namespace Law
open PySem L2 Pl
theorem c1 (a b : Rat) : cmpR a b = 0 - cmpR b a := by unfold cmpR; grind
theorem c2 (a b : Rat) : decide (cmpR a b = 0) = decide (a = b) := by unfold cmpR; grind
theorem c3 (a b c : Rat) : cmpR (a + c) (b + c) = cmpR a b := by unfold cmpR; grind
theorem c4 (a b : Rat) : cmpR (a - b) 0 = cmpR a b := by unfold cmpR; grind
theorem c5 (a b c : Rat) (h1 : ¬ c < 0) (h2 : c ≠ 0) : cmpR (a * c) (b * c) = cmpR a b := by
  have hc : 0 < c := by grind
  have e1 : (a * c < b * c) ↔ a < b := Rat.mul_lt_mul_right hc
  have e2 : (b * c < a * c) ↔ b < a := Rat.mul_lt_mul_right hc
  unfold cmpR
  simp only [e1, e2]
theorem c6 (a b : Rat) (h : a < b) : ¬ (a + b) / 2 < a ∧ ¬ b < (a + b) / 2 ∧ (a + b) / 2 ≠ a ∧ (a + b) / 2 ≠ b := by grind
theorem c7 (a : Rat) : ¬ a < (a.floor : Rat) ∧ a < (a.floor : Rat) + 1 := by
  refine ⟨?_, ?_⟩
  · have := Rat.floor_le (a := a); grind
  · have := Rat.lt_floor (x := a); grind
theorem intC_of {C : Int → Int → Prop} [∀ i j, Decidable (C i j)] {f : Int → Int → D} {i j : Int} {M : Mh} (h : C i j) : gIntC C f (.int i) (.int j) M = some (f i j, M) := if_pos h
theorem sWh_ff {c : TF} {b : SF} {δ : Pl.Env} {M M1 : Mh} (h : c δ M = some (false, M1)) : sWh c b δ M = some (.nx δ M1) := by
  rw [sWh_eq, h]
theorem sWh_tt {c : TF} {b : SF} {δ δ' : Pl.Env} {M M1 M2 : Mh} {r : Option Out} (h : c δ M = some (true, M1)) (k : b δ M1 = some (.nx δ' M2)) (q : sWh c b δ' M2 = r) : sWh c b δ M = r := by
  rw [sWh_eq, h]; dsimp only; rw [k]; exact q
section
variable {a b c : Rat} {i j : Nat}
end
end Law


namespace Law
open PySem L2 Pl
theorem in_two (p q r : Rat) (M : Mh) : gIn (fun b => b) (R p) (.tup [R q, R r]) M = some (.bl (decide (q = p) || decide (r = p)), M) := by
  have e : gIn (fun b => b) (R p) (.tup [R q, R r]) M = some (.bl ([PyData.tuple [.int q.num, .int q.den], PyData.tuple [.int r.num, .int r.den]].any fun z => PyData.eqv z (.tuple [.int p.num, .int p.den])), M) := rfl
  rw [e]
  simp only [List.any_cons, List.any_nil, eqv_R, Bool.or_false]
section
variable {a b c : Rat}
theorem szI {z : Int} (h : z.natAbs < 2 ^ 128) : Sz 1 (z : Rat) := ⟨by simpa using h, by simp⟩
theorem fl_sz [ha : Sz 1 a] : a.floor.natAbs < 2 ^ 128 := by
  rw [Rat.floor_def]
  exact Nat.lt_of_le_of_lt (Int.natAbs_ediv_le_natAbs _ _) ha.num
theorem ofI_ok {z : Int} {M : Mh} : ff_fraction [.int z, .int 1] M = some (R z, M) := by
  have e := low_ok (t := z) (b := 1) (by decide) (by decide +kernel) M
  have e2 : Rat.divInt z 1 = z := by rw [Rat.divInt_eq_div]; grind
  rw [e2] at e
  refine fn_rt ?_
  show gg_fraction [some (.int z), some (.int 1)] M = _
  unfold gg_fraction
  have w : ∀ (y : Int) (M : Mh), ff_is_whole [.int y] M = some (.bl true, M) := fun y M => by
    simp [ff_is_whole, gg_is_whole, fnF, startD, sSeq, sAs, sIf, sRet, sNil, eB, gL1, gL2, aCons, aNil, eVar, gN, tV, eOp, gInt, eC, eUn, gNeg, eTup, eLst, tNt, tAn, tOrr, eAn, eOr, eNt, eIf, eCall, eCallK, gTp, gsCons, gsNil, gIsN, isN, sizeLine, gIsi, tyN, kit_ii, kit_ib]
  refine seq_if0 (M1 := M) (or0 (M1 := M) (nt_of (v_bl (call_of (cons_of rfl x_aNil) (w z M)))) (nt_of (v_bl (call_of (cons_of rfl x_aNil) (w 1 M))))) ?_
  refine seq_if0 (M1 := M) (v_bl (op_of rfl rfl (eq_int 1 0 M))) ?_
  exact ret_of (call_of (cons_of rfl (cons_of rfl x_aNil)) e)
end
end Law

namespace Law
open PySem L2 Pl
/-- what draws are made by -/
def dk (l c t : Int) : MO := .dic [(.inr "left", .int l), (.inr "cell", .int c), (.inr "turns", .int t)]
theorem k1 : ¬ (("cell" : Str) = "left") := by decide +kernel
theorem k2 : ¬ (("turns" : Str) = "left") := by decide +kernel
theorem k3 : ¬ (("left" : Str) = "cell") := by decide +kernel
theorem k4 : ¬ (("turns" : Str) = "cell") := by decide +kernel
theorem k5 : ¬ (("left" : Str) = "turns") := by decide +kernel
theorem k6 : ¬ (("cell" : Str) = "turns") := by decide +kernel
section
variable {n : Nat} {l c t v : Int} {M : Mh}
theorem get_l (h : M[n]? = some (dk l c t)) : gDget (.ref n) (.str "left") M = some (.int l, M) := by
  simp [gDget, dicOf, h, dk, keyOf, Pl.dget]
theorem get_c (h : M[n]? = some (dk l c t)) : gDget (.ref n) (.str "cell") M = some (.int c, M) := by
  simp [gDget, dicOf, h, dk, keyOf, Pl.dget, List.find?, k3]
theorem get_t (h : M[n]? = some (dk l c t)) : gDget (.ref n) (.str "turns") M = some (.int t, M) := by
  simp [gDget, dicOf, h, dk, keyOf, Pl.dget, List.find?, k5, k6]
theorem put_l (h : M[n]? = some (dk l c t)) : gDput (.ref n) (.str "left") (.int v) M = some (M.set n (dk v c t)) := by
  simp [gDput, h, dk, keyOf, sizeLine, Pl.dput, k1, k2]
theorem put_t (h : M[n]? = some (dk l c t)) : gDput (.ref n) (.str "turns") (.int v) M = some (M.set n (dk l c v)) := by
  simp [gDput, h, dk, keyOf, sizeLine, Pl.dput, k5, k6]
theorem set_at {m m' : MO} (h : M[n]? = some m) : (M.set n m')[n]? = some m' := by
  have : n < M.length := (List.getElem?_eq_some_iff.mp h).1
  simp [this]
theorem put_of {f g h : EF} {δ : Pl.Env} {M1 M2 M3 M4 : Mh} {a b v : D} (h1 : h δ M = some (v, M1)) (h2 : f δ M1 = some (a, M2)) (h3 : g δ M2 = some (b, M3)) (h4 : gDput a b v M3 = some M4) : sDput f g h δ M = some (.nx δ M4) := by
  unfold sDput; rw [h1]; dsimp only; rw [h2]; dsimp only; rw [h3]; dsimp only; rw [h4]
theorem fm {a b : Int} (h : 0 < b) : 0 ≤ a.fmod b ∧ a.fmod b < b := ⟨Int.fmod_nonneg_of_pos _ h, Int.fmod_lt_of_pos _ h⟩
theorem mixed_ok {k : Int} (h0 : 0 ≤ k) (h1 : k < 2 ^ 60) : ∃ r : Int, ff_law_mixed [.int c, .int k] M = some (.int r, M) ∧ 0 ≤ r ∧ r < 2147483647 := by
  have hk := fm (a := k) (b := 4) (by decide)
  have ix : ∃ m : Int, gIx (.lst [.int 1000000007, .int 998244353, .int 2147483629, .int 1000000009]) (.int (k.fmod 4)) M = some (.int m, M) ∧ 0 < m ∧ m < 2 ^ 40 := by
    have : k.fmod 4 = 0 ∨ k.fmod 4 = 1 ∨ k.fmod 4 = 2 ∨ k.fmod 4 = 3 := by omega
    rcases this with e | e | e | e <;> rw [e]
    · exact ⟨1000000007, rfl, by decide, by decide⟩
    · exact ⟨998244353, rfl, by decide, by decide⟩
    · exact ⟨2147483629, rfl, by decide, by decide⟩
    · exact ⟨1000000009, rfl, by decide, by decide⟩
  obtain ⟨m, im, m0, m1⟩ := ix
  have hc := fm (a := c) m0
  have o1 : Pl.MulOk 7919 k := mulOk (a := 64) (b := 64) (by decide) (by omega) (by decide)
  have o2 : Pl.MulOk (c.fmod m + 7919 * k + 13) (c.fmod m + 7919 * k + 13) := mulOk (a := 100) (b := 100) (by omega) (by omega) (by decide)
  have h5 := fm (a := (c.fmod m + 7919 * k + 13) * (c.fmod m + 7919 * k + 13)) (b := 2147483647) (by decide)
  have o3 : Pl.MulOk (((c.fmod m + 7919 * k + 13) * (c.fmod m + 7919 * k + 13)).fmod 2147483647) 48271 := mulOk (a := 100) (b := 100) (by omega) (by decide) (by decide)
  have h6 := fm (a := ((c.fmod m + 7919 * k + 13) * (c.fmod m + 7919 * k + 13)).fmod 2147483647 * 48271) (b := 2147483647) (by decide)
  refine ⟨_, fn_rt ?_, h6.1, h6.2⟩
  show gg_law_mixed [some (.int c), some (.int k), none] M = _
  unfold gg_law_mixed
  refine seq_as (d := .int (c.fmod m + 7919 * k + 13)) (M1 := M) (δ' := [some (.int c), some (.int k), some (.int (c.fmod m + 7919 * k + 13))]) ?_ rfl ?_
  · exact op_of (op_of (op_of rfl (op_of (x_eLst (cons_of x_eC (cons_of x_eC (cons_of x_eC (cons_of x_eC x_aNil)))) (by simp)) (op_of rfl rfl (intC_of (by decide))) im) (intC_of (by omega))) (op_of rfl rfl (mul_int o1)) add_int) rfl add_int
  · exact ret_of (op_of (op_of (op_of (op_of rfl rfl (mul_int o2)) rfl (intC_of (by decide))) rfl (mul_int o3)) rfl (intC_of (by decide)))
/-- the draws' things stand there -/
def At (n : Nat) (B : Int) (M : Mh) : Prop := ∃ l c t : Int, M[n]? = some (dk l c t) ∧ 0 ≤ l ∧ 0 ≤ t ∧ t ≤ B
theorem fill_ok {t : Int} (h : M[n]? = some (dk 0 c t)) (h0 : 0 ≤ t) (h1 : t + 4 < 2 ^ 59) (x y z : Option D) : ∃ l' : Int, sFor (aRng1 (aCons (eC (.int 4)) aNil)) (gN 2) (sSeq (sDput (eVar 0) (eC (.str "turns")) (eOp gAdd (eOp gDget (eVar 0) (eC (.str "turns"))) (eC (.int 1)))) (sDput (eVar 0) (eC (.str "left")) (eOp gAdd (eOp gMul (eOp gDget (eVar 0) (eC (.str "left"))) (eC (.int 2147483647))) (eCall ff_law_mixed (aCons (eOp gDget (eVar 0) (eC (.str "cell"))) (aCons (eOp gDget (eVar 0) (eC (.str "turns"))) aNil)) [])))) [some (.ref n), x, y, z] M = some (.nx [some (.ref n), x, some (.int 3), z] (M.set n (dk l' c (t + 4)))) ∧ 0 ≤ l' := by
  have step : ∀ (l t : Int) (N : Mh) (y : Option D), N[n]? = some (dk l c t) → 0 ≤ t → t + 1 < 2 ^ 60 → 0 ≤ l → l < 2 ^ 200 → ∃ l' : Int, sSeq (sDput (eVar 0) (eC (.str "turns")) (eOp gAdd (eOp gDget (eVar 0) (eC (.str "turns"))) (eC (.int 1)))) (sDput (eVar 0) (eC (.str "left")) (eOp gAdd (eOp gMul (eOp gDget (eVar 0) (eC (.str "left"))) (eC (.int 2147483647))) (eCall ff_law_mixed (aCons (eOp gDget (eVar 0) (eC (.str "cell"))) (aCons (eOp gDget (eVar 0) (eC (.str "turns"))) aNil)) []))) [some (.ref n), x, y, z] N = some (.nx [some (.ref n), x, y, z] (N.set n (dk l' c (t + 1)))) ∧ 0 ≤ l' ∧ l' < l * 2147483647 + 2147483647 := fun l t N y hN t0 t1 l0 l1 => by
    have hN1 : (N.set n (dk l c (t + 1)))[n]? = some (dk l c (t + 1)) := set_at hN
    obtain ⟨r, hr, r0, r1⟩ := mixed_ok (c := c) (M := N.set n (dk l c (t + 1))) (k := t + 1) (by omega) (by omega)
    refine ⟨l * 2147483647 + r, ?_, by omega, by omega⟩
    have o : Pl.MulOk l 2147483647 := mulOk (a := 200) (b := 32) (by omega) (by decide) (by decide)
    have e2 : (N.set n (dk l c (t + 1))).set n (dk (l * 2147483647 + r) c (t + 1)) = N.set n (dk (l * 2147483647 + r) c (t + 1)) := List.set_set ..
    rw [← e2]
    exact seq_nx (put_of (op_of (op_of rfl rfl (get_t hN)) rfl add_int) rfl rfl (put_t hN)) (put_of (op_of (op_of (op_of rfl rfl (get_l hN1)) rfl (mul_int o)) (call_of (cons_of (op_of rfl rfl (get_c hN1)) (cons_of (op_of rfl rfl (get_t hN1)) x_aNil)) hr) add_int) rfl rfl (put_l hN1))
  obtain ⟨l1, s1, a1, b1⟩ := step 0 t M (some (.int 0)) h h0 (by omega) (by decide) (by decide)
  obtain ⟨l2, s2, a2, b2⟩ := step l1 (t + 1) _ (some (.int 1)) (set_at h) (by omega) (by omega) a1 (by omega)
  obtain ⟨l3, s3, a3, b3⟩ := step l2 (t + 1 + 1) _ (some (.int 2)) (set_at (set_at h)) (by omega) (by omega) a2 (by omega)
  obtain ⟨l4, s4, a4, b4⟩ := step l3 (t + 1 + 1 + 1) _ (some (.int 3)) (set_at (set_at (set_at h))) (by omega) (by omega) a3 (by omega)
  refine ⟨l4, ?_, a4⟩
  have er : aRng1 (aCons (eC (.int 4)) aNil) [some (.ref n), x, y, z] M = some ([.int 0, .int 1, .int 2, .int 3], M) := rfl
  unfold sFor
  rw [er]
  dsimp only [forGo, gN, List.set_cons_succ, List.set_cons_zero]
  rw [s1]
  dsimp only [forGo, gN, List.set_cons_succ, List.set_cons_zero]
  rw [s2]
  dsimp only [forGo, gN, List.set_cons_succ, List.set_cons_zero]
  rw [s3]
  dsimp only [forGo, gN, List.set_cons_succ, List.set_cons_zero]
  rw [s4]
  dsimp only [forGo]
  simp only [List.set_set]
  rw [show t + 1 + 1 + 1 + 1 = t + 4 by omega]
theorem digit_ok {B many : Int} (h : At n B M) (hB : B < 2 ^ 58) (m0 : 0 < many) (m1 : many < 2 ^ 200) : ∃ (f : Int) (M' : Mh), ff_law_digit [.ref n, .int many] M = some (.int f, M') ∧ At n (B + 4) M' ∧ 0 ≤ f ∧ f < many := by
  obtain ⟨l, c, t, hM, l0, t0, tB⟩ := h
  have om : DivOk l many := dOk (by omega) (Nat.lt_of_lt_of_le (m := 2 ^ 200) (by omega) (Nat.pow_le_pow_right (by decide) (by decide)))
  have tail : ∀ (l t : Int) (N : Mh) (x : Option D), N[n]? = some (dk l c t) → 0 ≤ l → 0 ≤ t → t ≤ B + 4 → ∃ (f : Int) (M' : Mh), sSeq (sAs (eOp (gIntC (fun _ j => j ≠ 0) fun i j => .int (i.fmod j)) (eOp gDget (eVar 0) (eC (.str "left"))) (eVar 1)) (gN 3)) (sSeq (sDput (eVar 0) (eC (.str "left")) (eOp (gIntC DivOk fun i j => .int (i.fdiv j)) (eOp gDget (eVar 0) (eC (.str "left"))) (eVar 1))) (sRet (eVar 3))) [some (.ref n), some (.int many), x, none] N = some (.rt (.int f) M') ∧ At n (B + 4) M' ∧ 0 ≤ f ∧ f < many := fun l t N x hN l0 t0 tB => by
    have om : DivOk l many := ⟨om.1, om.2⟩
    have hf := fm (a := l) m0
    refine ⟨l.fmod many, N.set n (dk (l.fdiv many) c t), ?_, ⟨l.fdiv many, c, t, set_at hN, ?_, t0, tB⟩, hf.1, hf.2⟩
    · exact seq_as (M1 := N) (δ' := [some (.ref n), some (.int many), x, some (.int (l.fmod many))]) (op_of (op_of rfl rfl (get_l hN)) rfl (intC_of (by omega))) rfl (seq_nx (put_of (op_of (op_of rfl rfl (get_l hN)) rfl (intC_of om)) rfl rfl (put_l hN)) (ret_of rfl))
    · exact Int.fdiv_nonneg l0 (by omega)
  have tst : tV (eOp (gEq PyData.eqv) (eOp gDget (eVar 0) (eC (.str "left"))) (eC (.int 0))) [some (.ref n), some (.int many), none, none] M = some (decide (l = 0), M) := v_bl (op_of (op_of rfl rfl (get_l hM)) rfl (eq_int _ _ _))
  by_cases hl : l = 0
  · subst hl
    obtain ⟨l', e1, p1⟩ := fill_ok hM t0 (by omega) (some (.int many)) none none
    obtain ⟨f, M', e2, p2⟩ := tail l' (t + 4) _ (some (.int 3)) (set_at hM) p1 (by omega) (by omega)
    refine ⟨f, M', fn_rt ?_, p2⟩
    show gg_law_digit [some (.ref n), some (.int many), none, none] M = _
    unfold gg_law_digit
    exact seq_nx (if_tt (tst.trans (by rw [decide_eq_true rfl])) e1) e2
  · obtain ⟨f, M', e2, p2⟩ := tail l t M none hM l0 t0 (by omega)
    refine ⟨f, M', fn_rt ?_, p2⟩
    show gg_law_digit [some (.ref n), some (.int many), none, none] M = _
    unfold gg_law_digit
    exact seq_if0 (tst.trans (by rw [decide_eq_false hl])) e2
end
end Law

namespace Law
open PySem L2 Pl
theorem par_of {i j : Nat} {f g : EF} {δ : Pl.Env} {M M1 M2 : Mh} {d e : D} (h1 : f δ M = some (d, M1)) (h2 : g δ M1 = some (e, M2)) : sPar i j f g δ M = some (.nx ((δ.set i (some d)).set j (some e)) M2) := by
  unfold sPar; rw [h1]; dsimp only; rw [h2]
theorem euclid (p q : Option D) (M : Mh) : ∀ (Y X : Nat), sWh (tV (eOp (gInt fun i j => .bl (decide (j < i))) (eVar 3) (eC (.int 0)))) (sPar 2 3 (eVar 3) (eOp (gIntC (fun _ j => j ≠ 0) fun i j => .int (i.fmod j)) (eVar 2) (eVar 3))) [p, q, some (.int X), some (.int Y)] M = some (.nx [p, q, some (.int (Nat.gcd X Y : Nat)), some (.int 0)] M) := by
  intro Y
  induction Y using Nat.strongRecOn with
  | ind Y ih =>
    intro X
    have tst : tV (eOp (gInt fun i j => .bl (decide (j < i))) (eVar 3) (eC (.int 0))) [p, q, some (.int X), some (.int Y)] M = some (decide ((0 : Int) < Y), M) := v_bl (op_of rfl rfl rfl)
    by_cases hy : Y = 0
    · subst hy
      rw [Nat.gcd_zero_right]
      exact sWh_ff (tst.trans (by rw [decide_eq_false (by omega)]))
    · have e : ((X : Int).fmod (Y : Int)) = ((X % Y : Nat) : Int) := by
        rw [Int.fmod_eq_emod_of_nonneg _ (by omega)]; rfl
      have r := ih (X % Y) (Nat.mod_lt _ (by omega)) Y
      rw [show Nat.gcd X Y = Nat.gcd Y (X % Y) by rw [Nat.gcd_comm X Y, Nat.gcd_rec, Nat.gcd_comm]]
      refine sWh_tt (M1 := M) (M2 := M) (δ' := [p, q, some (.int Y), some (.int (X % Y : Nat))]) (tst.trans (by rw [decide_eq_true (by omega)])) ?_ r
      rw [← e]
      exact par_of rfl (op_of rfl rfl (intC_of (by omega)))
theorem llow_ok {t b : Int} (h : 0 < b) (hb : b.natAbs < 2 ^ 8000) (M : Mh) : ff_law_lowest [.int t, .int b] M = some (R (Rat.divInt t b), M) := by
  have hg : (Nat.gcd b.natAbs t.natAbs : Int) ≠ 0 := by
    have : 0 < Nat.gcd b.natAbs t.natAbs := Nat.gcd_pos_of_pos_left _ (by omega)
    omega
  have hl : Nat.gcd b.natAbs t.natAbs ≤ b.natAbs := Nat.gcd_le_left _ (by omega)
  have d1 : (Nat.gcd b.natAbs t.natAbs : Int) ∣ t := Int.ofNat_dvd_left.mpr (Nat.gcd_dvd_right _ _)
  have d2 : (Nat.gcd b.natAbs t.natAbs : Int) ∣ b := Int.ofNat_dvd_left.mpr (Nat.gcd_dvd_left _ _)
  have eR : R (Rat.divInt t b) = .tup [.int (b.sign * t / (Nat.gcd b.natAbs t.natAbs : Int)), .int (b.natAbs / Nat.gcd b.natAbs t.natAbs : Nat)] := by
    unfold R
    rw [Rat.num_divInt, Rat.den_divInt, if_neg (by omega), Int.gcd]
  rw [eR]
  have o1 : DivOk t (Nat.gcd b.natAbs t.natAbs : Int) := dOk (by omega) (Nat.lt_of_le_of_lt hl hb)
  have o2 : DivOk b (Nat.gcd b.natAbs t.natAbs : Int) := dOk (by omega) (Nat.lt_of_le_of_lt hl hb)
  have e1 : t.fdiv (Nat.gcd b.natAbs t.natAbs : Int) = b.sign * t / (Nat.gcd b.natAbs t.natAbs : Int) := by
    rw [fdiv_dvd d1, Int.sign_eq_one_of_pos h, Int.one_mul]
  have e2 : b.fdiv (Nat.gcd b.natAbs t.natAbs : Int) = ((b.natAbs / Nat.gcd b.natAbs t.natAbs : Nat) : Int) := by
    rw [fdiv_dvd d2, Int.natCast_ediv, Int.natAbs_of_nonneg (by omega)]
  refine fn_rt ?_
  show gg_law_lowest [some (.int t), some (.int b), none, none] M = _
  unfold gg_law_lowest
  refine seq_as (d := .tup [.int t, .int b]) (M1 := M) (δ' := [some (.int t), some (.int b), none, none]) ?_ rfl ?_
  · have tst : tV (eOp (gInt fun i j => .bl (decide (i < j))) (eVar 1) (eC (.int 0))) [some (.int t), some (.int b), none, none] M = some (decide (b < 0), M) := v_bl (op_of rfl rfl rfl)
    unfold eIf
    rw [tst, decide_eq_false (by omega)]
    exact x_eTup (cons_of rfl (cons_of rfl x_aNil)) (by simp)
  have ab : eB (gL1 fun i => .int (if i < 0 then -i else i)) (aCons (eVar 0) aNil) [some (.int t), some (.int b), none, none] M = some (.int (t.natAbs : Int), M) := by
    rw [x_eB, cons_of (d := .int t) (M1 := M) rfl x_aNil]
    simp only [gL1, Option.some.injEq, Prod.mk.injEq, D.int.injEq, and_true]
    omega
  refine seq_nx (M1 := M) (δ' := [some (.int t), some (.int b), some (.int b), some (.int (t.natAbs : Int))]) (par_of rfl ab) ?_
  have w := euclid (some (.int t)) (some (.int b)) M t.natAbs b.natAbs
  rw [Int.natAbs_of_nonneg (show 0 ≤ b by omega)] at w
  refine seq_nx w (ret_of ?_)
  rw [← e1, ← e2]
  exact x_eTup (cons_of (op_of rfl rfl (intC_of o1)) (cons_of (op_of rfl rfl (intC_of o2)) x_aNil)) (by simp)
theorem szD {t b : Int} (h : 0 < b) (ht : t.natAbs < 2 ^ 128) (hb : b.natAbs < 2 ^ 128) : Sz 1 (Rat.divInt t b) :=
  ⟨Nat.lt_of_le_of_lt num_le ht, Nat.lt_of_le_of_lt (den_le (by omega)) hb⟩
section
variable {n : Nat} {M : Mh}
theorem dg_of {B many : Int} {δ : Pl.Env} {fm : EF} {M1 : Mh} (h0 : δ[0]? = some (some (.ref n))) (hm : fm δ M = some (.int many, M1)) (h : At n B M1) (hB : B < 2 ^ 58) (m0 : 0 < many) (m1 : many < 2 ^ 200) : ∃ (f : Int) (M' : Mh), eCall ff_law_digit (aCons (eVar 0) (aCons fm aNil)) [] δ M = some (.int f, M') ∧ At n (B + 4) M' ∧ 0 ≤ f ∧ f < many := by
  obtain ⟨f, M', e, p⟩ := digit_ok h hB m0 m1
  exact ⟨f, M', call_of (cons_of (by rw [x_eVar, h0]) (cons_of hm x_aNil)) e, p⟩
theorem frac_ok {B : Int} (h : At n B M) (hB : B < 2 ^ 57) : ∃ (q : Rat) (M' : Mh), ff_law_fraction [.ref n] M = some (R q, M') ∧ At n (B + 20) M' ∧ Sz 1 q := by
  obtain ⟨way, M1, e1, a1, w0, w1⟩ := dg_of (δ := [some (.ref n), none, none]) (fm := eC (.int 6)) rfl x_eC h (by omega) (by decide) (by decide)
  obtain ⟨s, M2, e2, a2, s0, s1⟩ := dg_of (δ := [some (.ref n), none, none]) (fm := eC (.int 4)) rfl x_eC a1 (by omega) (by decide) (by decide)
  have ix : ∃ m : Int, gIx (.lst [.int 1, .int 4, .int 9, .int 100]) (.int s) M2 = some (.int m, M2) ∧ 0 < m ∧ m ≤ 100 := by
    have : s = 0 ∨ s = 1 ∨ s = 2 ∨ s = 3 := by omega
    rcases this with e | e | e | e <;> rw [e]
    · exact ⟨1, rfl, by decide, by decide⟩
    · exact ⟨4, rfl, by decide, by decide⟩
    · exact ⟨9, rfl, by decide, by decide⟩
    · exact ⟨100, rfl, by decide, by decide⟩
  obtain ⟨m, im, m0, m1⟩ := ix
  have e3 : eOp gIx (eLst (aCons (eC (.int 1)) (aCons (eC (.int 4)) (aCons (eC (.int 9)) (aCons (eC (.int 100)) aNil))))) (eCall ff_law_digit (aCons (eVar 0) (aCons (eC (.int 4)) aNil)) []) [some (.ref n), none, none] M1 = some (.int m, M2) :=
    op_of (x_eLst (cons_of x_eC (cons_of x_eC (cons_of x_eC (cons_of x_eC x_aNil)))) (by simp)) e2 im
  obtain ⟨f, M3, e4, a3, f0, f1⟩ := dg_of (M := M1) (δ := [some (.ref n), none, none]) rfl e3 a2 (by omega) m0 (by omega)
  have par := par_of (i := 1) (j := 2) e1 (op_of (g := gAdd) (fa := eC (.int 1)) x_eC e4 add_int)
  by_cases h5 : way = 5
  · subst h5
    have tst : tV (eOp (gEq PyData.eqv) (eVar 1) (eC (.int 5))) [some (.ref n), some (.int 5), some (.int (1 + f))] M3 = some (true, M3) := v_bl (op_of rfl rfl (eq_int 5 5 _))
    have p30 : eOp (gIntC PowOk fun i j => .int (i ^ j.toNat)) (eC (.int 10)) (eC (.int 30)) [some (.ref n), some (.int 5), some (.int (1 + f))] M3 = some (.int (10 ^ 30), M3) := op_of rfl rfl (intC_of (by decide))
    obtain ⟨t, M4, e5, a4, t0, t1⟩ := dg_of (M := M3) (δ := [some (.ref n), some (.int 5), some (.int (1 + f))]) rfl p30 a3 (by omega) (by decide) (by decide)
    have p20 : eOp (gIntC PowOk fun i j => .int (i ^ j.toNat)) (eC (.int 10)) (eC (.int 20)) [some (.ref n), some (.int 5), some (.int (1 + f))] M4 = some (.int (10 ^ 20), M4) := op_of rfl rfl (intC_of (by decide))
    obtain ⟨u, M5, e6, a5, u0, u1⟩ := dg_of (M := M4) (δ := [some (.ref n), some (.int 5), some (.int (1 + f))]) rfl p20 a4 (by omega) (by decide) (by decide)
    have p29 : eOp gMul (eC (.int 5)) (eOp (gIntC PowOk fun i j => .int (i ^ j.toNat)) (eC (.int 10)) (eC (.int 29))) [some (.ref n), some (.int 5), some (.int (1 + f))] M4 = some (.int (5 * 10 ^ 29), M4) := op_of rfl (op_of rfl rfl (intC_of (by decide))) (mul_int (mulOk (a := 10) (b := 128) (by decide) (by decide) (by decide)))
    refine ⟨Rat.divInt (t - 5 * 10 ^ 29) (1 + u), M5, fn_rt ?_, ?_, szD (by omega) (by omega) (by omega)⟩
    · show gg_law_fraction [some (.ref n), none, none] M = _
      unfold gg_law_fraction
      exact seq_nx par (seq_if1 tst (ret_of (call_of (cons_of (op_of e5 p29 rfl) (cons_of (op_of x_eC e6 add_int) x_aNil)) (llow_ok (by omega) (Nat.lt_of_lt_of_le (m := 2 ^ 128) (by omega) (Nat.pow_le_pow_right (by decide) (by decide))) M5))))
    · obtain ⟨l, c, t', z1, z2, z3, z4⟩ := a5
      exact ⟨l, c, t', z1, z2, z3, by omega⟩
  · have tst : tV (eOp (gEq PyData.eqv) (eVar 1) (eC (.int 5))) [some (.ref n), some (.int way), some (.int (1 + f))] M3 = some (false, M3) := v_bl (op_of rfl rfl ((eq_int way 5 _).trans (by rw [decide_eq_false h5])))
    have iw : ∃ x y : Int, (∀ N : Mh, gIx (.lst [.int 1, .int 9, .int 40, .int 4000, .int 25]) (.int way) N = some (.int x, N)) ∧ (∀ N : Mh, gIx (.lst [.int 0, .int 4, .int 20, .int 2000, .int 0]) (.int way) N = some (.int y, N)) ∧ 0 < x ∧ x ≤ 4000 ∧ 0 ≤ y ∧ y ≤ 2000 := by
      have : way = 0 ∨ way = 1 ∨ way = 2 ∨ way = 3 ∨ way = 4 := by omega
      rcases this with e | e | e | e | e <;> rw [e]
      · exact ⟨1, 0, fun _ => rfl, fun _ => rfl, by decide, by decide, by decide, by decide⟩
      · exact ⟨9, 4, fun _ => rfl, fun _ => rfl, by decide, by decide, by decide, by decide⟩
      · exact ⟨40, 20, fun _ => rfl, fun _ => rfl, by decide, by decide, by decide, by decide⟩
      · exact ⟨4000, 2000, fun _ => rfl, fun _ => rfl, by decide, by decide, by decide, by decide⟩
      · exact ⟨25, 0, fun _ => rfl, fun _ => rfl, by decide, by decide, by decide, by decide⟩
    obtain ⟨x, y, ix, iy, x0, x1, y0, y1⟩ := iw
    have px : eOp gIx (eLst (aCons (eC (.int 1)) (aCons (eC (.int 9)) (aCons (eC (.int 40)) (aCons (eC (.int 4000)) (aCons (eC (.int 25)) aNil)))))) (eVar 1) [some (.ref n), some (.int way), some (.int (1 + f))] M3 = some (.int x, M3) := op_of (x_eLst (cons_of x_eC (cons_of x_eC (cons_of x_eC (cons_of x_eC (cons_of x_eC x_aNil))))) (by simp)) rfl (ix M3)
    obtain ⟨t, M4, e5, a4, t0, t1⟩ := dg_of (M := M3) (δ := [some (.ref n), some (.int way), some (.int (1 + f))]) rfl px a3 (by omega) x0 (by omega)
    have py : eOp gIx (eLst (aCons (eC (.int 0)) (aCons (eC (.int 4)) (aCons (eC (.int 20)) (aCons (eC (.int 2000)) (aCons (eC (.int 0)) aNil)))))) (eVar 1) [some (.ref n), some (.int way), some (.int (1 + f))] M4 = some (.int y, M4) := op_of (x_eLst (cons_of x_eC (cons_of x_eC (cons_of x_eC (cons_of x_eC (cons_of x_eC x_aNil))))) (by simp)) rfl (iy M4)
    refine ⟨Rat.divInt (t - y) (1 + f), M4, fn_rt ?_, ?_, szD (by omega) (by omega) (by omega)⟩
    · show gg_law_fraction [some (.ref n), none, none] M = _
      unfold gg_law_fraction
      exact seq_nx par (seq_if0 tst (ret_of (call_of (cons_of (op_of e5 py rfl) (cons_of rfl x_aNil)) (llow_ok (by omega) (Nat.lt_of_lt_of_le (m := 2 ^ 128) (by omega) (Nat.pow_le_pow_right (by decide) (by decide))) M4))))
    · obtain ⟨l, c, t', z1, z2, z3, z4⟩ := a4
      exact ⟨l, c, t', z1, z2, z3, by omega⟩
theorem draw_ok {cell : Int} {k : Int} (k0 : 0 ≤ k) (k1 : k ≤ 1000) : ∃ M', ff_law_draw [.int cell, .int k] M = some (.ref M.length, M') ∧ At M.length 1000000 M' := by
  have o : Pl.MulOk 1000 k := mulOk (a := 64) (b := 64) (by decide) (by omega) (by decide)
  have p18 : eOp (gIntC PowOk fun i j => .int (i ^ j.toNat)) (eC (.int 10)) (eC (.int 18)) [some (.int cell), some (.int k)] M = some (.int (10 ^ 18), M) := op_of rfl rfl (intC_of (by decide))
  have lf : ∃ l : Int, 0 ≤ l ∧ eIf (tV (eOp (gInt fun i j => .bl (decide (j ≤ i))) (eVar 0) (eOp (gIntC PowOk fun i j => .int (i ^ j.toNat)) (eC (.int 10)) (eC (.int 18))))) (eVar 0) (eC (.int 0)) [some (.int cell), some (.int k)] M = some (.int l, M) := by
    have tst : tV (eOp (gInt fun i j => .bl (decide (j ≤ i))) (eVar 0) (eOp (gIntC PowOk fun i j => .int (i ^ j.toNat)) (eC (.int 10)) (eC (.int 18)))) [some (.int cell), some (.int k)] M = some (decide (10 ^ 18 ≤ cell), M) := v_bl (op_of rfl p18 rfl)
    by_cases hc : (10 ^ 18 : Int) ≤ cell
    · refine ⟨cell, by omega, ?_⟩
      unfold eIf
      rw [tst, decide_eq_true hc]; rfl
    · refine ⟨0, by omega, ?_⟩
      unfold eIf
      rw [tst, decide_eq_false hc]; rfl
  obtain ⟨l, l0, el⟩ := lf
  refine ⟨M ++ [dk l cell (1000 * k)], fn_rt ?_, ⟨l, cell, 1000 * k, by simp, l0, by omega, by omega⟩⟩
  show gg_law_draw [some (.int cell), some (.int k)] M = _
  unfold gg_law_draw
  refine ret_of ?_
  have pc : ∀ {f g : EF} {h : Pl.Env → Mh → Option (List (Key × D) × Mh)} {δ : Pl.Env} {a v : D} {q : Key} {r : List (Key × D)}, f δ M = some (a, M) → g δ M = some (v, M) → keyOf a = some q → h δ M = some (r, M) → psCons f g h δ M = some ((q, v) :: r, M) := fun h1 h2 h3 h4 => by
    unfold psCons; rw [h1]; dsimp only; rw [h2]; dsimp only; rw [h3]; dsimp only; rw [h4]
  have e := pc (f := eC (.str "left")) rfl el rfl (pc (f := eC (.str "cell")) (g := eVar 0) rfl rfl rfl (pc (f := eC (.str "turns")) (g := eOp gMul (eC (.int 1000)) (eVar 1)) rfl (op_of rfl rfl (mul_int o)) rfl (h := psNil) rfl))
  unfold eDic
  rw [e]
  have dm : dmerge [(.inr "left", .int l), (.inr "cell", .int cell), (.inr "turns", .int (1000 * k))] = [((.inr "left" : Key), D.int l), (.inr "cell", .int cell), (.inr "turns", .int (1000 * k))] := by
    simp [dmerge, Pl.dput, k3, k5, k6]
  show (if _ then some (D.ref M.length, M ++ [MO.dic (dmerge _)]) else none) = _
  rw [dm]
  rfl
end
end Law

namespace Law
open PySem L2 Pl
/-- a number's text -/
abbrev TT (z : Int) : Str := Str.ofString (toString z)
theorem tl_TT (z : Int) : TL.tl (TT z) = if z < 0 then 45 :: TL.numL z.natAbs else TL.numL z.natAbs := by
  cases z with
  | ofNat n =>
    rw [if_neg (by simp)]
    exact TL.tl_num n
  | negSucc n =>
    rw [if_pos (Int.negSucc_lt_zero n)]
    have e : toString (Int.negSucc n) = "-" ++ toString ((n + 1 : Nat) : Int) := rfl
    have e2 : (Int.negSucc n).natAbs = n + 1 := rfl
    rw [TT, e, TL.tl_ofString, String.toList_append, List.map_append, ← TL.tl_ofString (toString ((n + 1 : Nat) : Int)), TL.tl_num, e2]
    rfl
theorem numL_bnd : ∀ (k n : Nat), 0 < k → (TL.numL n).length ≤ k → n < 10 ^ k
  | 0, _, h, _ => absurd h (by decide)
  | k + 1, n, _, h => by
    by_cases hn : n < 10
    · exact Nat.lt_of_lt_of_le hn (by rw [Nat.pow_succ]; have := Nat.pow_pos (a := 10) (n := k) (by decide); omega)
    · rw [TL.numL_step (by omega), List.length_append, List.length_singleton] at h
      have h1 : 0 < (TL.numL (n / 10)).length := List.length_pos_iff.mpr (TL.numL_ne _)
      have := numL_bnd k (n / 10) (by omega) (by omega)
      rw [Nat.pow_succ]
      omega
theorem numL_head0 {r : List Nat} (n : Nat) (h : TL.numL n = 48 :: r) : n = 0 := by
  induction n using Nat.strongRecOn generalizing r with
  | ind n ih =>
    by_cases hn : n < 10
    · rw [TL.numL_lt hn] at h
      have := (List.cons.inj h).1
      omega
    · rw [TL.numL_step (by omega)] at h
      cases hq : TL.numL (n / 10) with
      | nil => exact absurd hq (TL.numL_ne _)
      | cons c q =>
        rw [hq] at h
        have e : c = 48 := (List.cons.inj h).1
        subst e
        have := ih (n / 10) (by omega) hq
        omega
theorem figs : ∀ c : Nat, 48 ≤ c → c ≤ 57 → decide (c ∈ ("0123456789" : Str).cps.toList) = true := fun c h1 h2 => by
  have e : ("0123456789" : Str).cps.toList = [48, 49, 50, 51, 52, 53, 54, 55, 56, 57] := by decide +kernel
  rw [e, decide_eq_true_eq]
  simp only [List.mem_cons, List.not_mem_nil, or_false]
  omega
theorem signs_go (M : Mh) (a c z : Option D) : ∀ cs : List Nat, (∀ s ∈ cs, 48 ≤ s ∧ s ≤ 57) → lcGo (gN 3) tTrue (eOp (gIn fun b => b) (eVar 3) (eVar 1)) (cs.map fun s => .str ⟨#[s]⟩) [a, some (.str "0123456789"), c, z] M = some (cs.map fun _ => .bl true, M)
  | [], _ => rfl
  | s :: cs, h => by
    have e : eOp (gIn fun b => b) (eVar 3) (eVar 1) [a, some (.str "0123456789"), c, some (.str ⟨#[s]⟩)] M = some (.bl true, M) := op_of rfl rfl (by
      show some (D.bl (decide (s ∈ ("0123456789" : Str).cps.toList)), M) = _
      rw [figs s (h s List.mem_cons_self).1 (h s List.mem_cons_self).2])
    rw [List.map_cons]
    unfold lcGo
    dsimp only [gN, List.set_cons_succ, List.set_cons_zero, tTrue]
    rw [e]
    dsimp only
    rw [signs_go M a c z cs fun q hq => h q (List.mem_cons_of_mem _ hq)]
    rfl
theorem bs_true : ∀ cs : List Nat, bsOf (cs.map fun _ => D.bl true) = some (cs.map fun _ => true)
  | [] => rfl
  | _ :: cs => by rw [List.map_cons, bsOf, bs_true cs]; rfl
theorem str_len (x : Str) : x.length = (TL.tl x).length := TL.len_tl x
theorem len_of {δ : Pl.Env} {M M1 : Mh} {f : EF} {x : Str} (h : f δ M = some (.str x, M1)) (hx : x.length ≤ 1000) : eB gLen (aCons f aNil) δ M = some (.int x.length, M1) := by
  rw [x_eB, cons_of h x_aNil]
  simp [gLen, lenOf]
  try exact Nat.le_trans hx (by decide)
theorem strOk_of {x : Str} (h : ∀ s ∈ TL.tl x, s < 1114112) : PyData.strOk x = true := by
  unfold PyData.strOk
  rw [Array.all_eq_true']
  intro c hc
  exact decide_eq_true (h c (by simpa using hc))
theorem eqv_str (x y : Str) : PyData.eqv (.str x) (.str y) = decide (x = y) := by
  by_cases h : x = y
  · subst h; simp [PyData.eqv]
  · rw [decide_eq_false h]; simp [PyData.eqv, h]
theorem str_sh {x : Str} (h : PyData.strOk x = true) : SeqAt.shaped (.str x) = true := by
  simp [SeqAt.shaped, PyData.canLay0, PyData.depth, h]
theorem eq_str {x y : Str} (hx : PyData.strOk x = true) (hy : PyData.strOk y = true) (M : Mh) : gEq PyData.eqv (.str x) (.str y) M = some (.bl (decide (x = y)), M) := by
  simp only [gEq, toP, deref, str_sh hx, str_sh hy, Bool.and_self, if_true, eqv_str]
theorem ne_str {x y : Str} (hx : PyData.strOk x = true) (hy : PyData.strOk y = true) (M : Mh) : gEq (fun p q => !PyData.eqv p q) (.str x) (.str y) M = some (.bl (!decide (x = y)), M) := by
  simp only [gEq, toP, deref, str_sh hx, str_sh hy, Bool.and_self, if_true, eqv_str]
theorem num_len {n : Nat} (h : n < 10000) : 1 ≤ (TT n).length ∧ (TT n).length ≤ 4 := by
  rw [str_len, TL.tl_num]
  exact ⟨List.length_pos_iff.mpr (TL.numL_ne _), TL.numL_len (by decide) h⟩
end Law

namespace Law
open PySem L2 Pl
theorem tl_cutS (x : Str) (lo hi : Option Int) : TL.tl (L2.cutS x lo hi) = (List.drop (HT.sIx x.length 0 lo) (TL.tl x)).take (HT.sIx x.length x.length hi - HT.sIx x.length 0 lo) := by
  unfold L2.cutS
  rw [TL.tl_mk]
theorem TT_ok (z : Int) : ∀ s ∈ TL.tl (TT z), s < 1114112 := fun s hs => by
  rw [tl_TT] at hs
  have hd := TL.numL_digits z.natAbs
  by_cases h : z < 0
  · rw [if_pos h] at hs
    rcases List.mem_cons.mp hs with e | e
    · omega
    · have := hd s e; omega
  · rw [if_neg h] at hs
    have := hd s hs; omega
theorem isstr_ok {x : Str} {M : Mh} {e : EF} {δ : Pl.Env} (h : e δ M = some (.str x, M)) : tV (eB gIsi (aCons e (aCons (eC (.ty "str")) aNil))) δ M = some (true, M) := by
  refine v_bl ?_
  rw [x_eB, cons_of h (cons_of x_eC x_aNil)]
  simp [gIsi, tyN, kit_ss]
theorem sl_hi {x : Str} {i : Int} {f : EF} {δ : Pl.Env} {M : Mh} (hx : x.length ≤ 1000) (h : f δ M = some (.str x, M)) : eSl f pNone (pSome (eC (.int i))) δ M = some (.str (L2.cutS x none (some i)), M) := by
  have p1 : pNone δ M = some (none, M) := rfl
  have p2 : pSome (eC (.int i)) δ M = some (some i, M) := rfl
  unfold eSl
  rw [h]
  dsimp only
  rw [p1]
  dsimp only
  rw [p2]
  exact if_pos (Nat.le_trans hx (by decide))
theorem sl_lo {x : Str} {i : Int} {f : EF} {δ : Pl.Env} {M : Mh} (hx : x.length ≤ 1000) (h : f δ M = some (.str x, M)) : eSl f (pSome (eC (.int i))) pNone δ M = some (.str (L2.cutS x (some i) none), M) := by
  have p1 : pNone δ M = some (none, M) := rfl
  have p2 : pSome (eC (.int i)) δ M = some (some i, M) := rfl
  unfold eSl
  rw [h]
  dsimp only
  rw [p2]
  dsimp only
  rw [p1]
  exact if_pos (Nat.le_trans hx (by decide))
/-- a fraction's text -/
def ftx (a : Rat) : Str := if a.den = 1 then TT a.num else Str.empty ++ TT a.num ++ "/" ++ TT a.den
theorem app_len (x y : Str) : (x ++ y).length = x.length + y.length := by
  rw [str_len, str_len, str_len, TL.tl_append, List.length_append]
theorem lg {n : Nat} (h : n < 2 ^ 128) : n.log2 < 1920 := Nat.lt_of_lt_of_le (PySem.Flt.log2_lt_of (by decide) h) (by decide)
theorem slash_free (z : Int) : ¬ 47 ∈ TL.tl (TT z) := fun hs => by
  rw [tl_TT] at hs
  have hd := TL.numL_digits z.natAbs
  by_cases h : z < 0
  · rw [if_pos h] at hs
    rcases List.mem_cons.mp hs with e | e
    · omega
    · have := hd 47 e; omega
  · rw [if_neg h] at hs
    have := hd 47 hs; omega
end Law

namespace Law
open PySem L2 Pl
section
variable {n : Nat} {M : Mh}
theorem At.app {B : Int} (h : At n B M) (m : MO) : At n B (M ++ [m]) := by
  obtain ⟨l, c, t, h1, h2⟩ := h
  exact ⟨l, c, t, by rw [List.getElem?_append_left (List.getElem?_eq_some_iff.mp h1).1]; exact h1, h2⟩
theorem ftx_len {a : Rat} [ha : Sz 1 a] : (ftx a).length ≤ 3843 := by
  have n1 : (TT a.num).length ≤ 1921 := PyProof.Rows.int_text_len_1921 (lg ha.num)
  have n2 : (TT a.den).length ≤ 1921 := PyProof.Rows.int_text_len_1921 (lg ha.den)
  have sl : ("/" : Str).length = 1 := by decide +kernel
  have e0 : Str.empty.length = 0 := rfl
  unfold ftx
  split
  · omega
  · rw [app_len, app_len, app_len, e0, sl]; omega
end
theorem ints_of : ∀ ns : List Int, intsOf (ns.map D.int) = some ns
  | [] => rfl
  | n :: ns => by rw [List.map_cons, intsOf, ints_of ns]
end Law


namespace Law
open PySem L2 Pl
def nilTB : Bool := true
/-- what is told of a refusal -/
def told3 : D := .lst [.str "place", .str "ours", .str "value"]
theorem isE {ct : CT} {m : Nat} {C : Addr} {d : D} {cv : Value} {b : Bool} {δ : Pl.Env} {M : Mh} (h0 : δ[0]? = some (some (.ref m))) (hm : M[m]? = some (.exc C)) (hd : clV d = some cv) (hi : ct.isa C cv = some b) : eB (gIsiE ct.isa) (aCons (eVar 0) (aCons (eC d) aNil)) δ M = some (.bl b, M) := by
  rw [x_eB, cons_of (d := .ref m) (M1 := M) (by rw [x_eVar, h0]) (cons_of x_eC x_aNil)]
  simp only [gIsiE, hm, hd, hi]
theorem pr_of {ct : CT} {m : Nat} {C : Addr} {d : D} {cv : Value} {b : Bool} {δ : Pl.Env} {M : Mh} (x : Str) (h0 : δ[0]? = some (some (.ref m))) (hm : M[m]? = some (.exc C)) (hd : clV d = some cv) (hi : ct.isa C cv = some b) : eTup (aCons (eC (.str x)) (aCons (eB (gIsiE ct.isa) (aCons (eVar 0) (aCons (eC d) aNil))) aNil)) δ M = some (.tup [.str x, .bl b], M) :=
  x_eTup (cons_of x_eC (cons_of (isE h0 hm hd hi) x_aNil)) (by show (2 : Nat) ≤ 1000; decide)
theorem two_of {f g : EF} {δ : Pl.Env} {M : Mh} {a b : D} (h : f δ M = some (a, M)) (k : g δ M = some (b, M)) : eLst (aCons f (aCons g aNil)) δ M = some (.lst [a, b], M) := x_eLst (cons_of h (cons_of k x_aNil)) (by show (2 : Nat) ≤ 1000; decide)
theorem app_l {A B : List D} {M : Mh} (h : A.length + B.length ≤ 1000) : gAdd (.lst A) (.lst B) M = some (.lst (A ++ B), M) := if_pos (Nat.le_trans h (by decide))
theorem kinds_go (M : Mh) (a b : Option D) : lcGo (gTp (gsCons (gN 2) (gsCons (gN 3) gsNil))) (tV (eVar 3)) (eVar 2)
    [.tup [.str "row", .bl false], .tup [.str "sketch", .bl false], .tup [.str "block", .bl false], .tup [.str "outline", .bl false], .tup [.str "feature", .bl false], .tup [.str "field", .bl false], .tup [.str "tools", .bl false], .tup [.str "way", .bl false], .tup [.str "paper", .bl false], .tup [.str "clash", .bl false], .tup [.str "twice", .bl false], .tup [.str "place", .bl true], .tup [.str "great", .bl false], .tup [.str "point", .bl false], .tup [.str "saying", .bl false], .tup [.str "nofeature", .bl false], .tup [.str "tool", .bl false], .tup [.str "nothing", .bl false], .tup [.str "notool", .bl false], .tup [.str "lifted", .bl false], .tup [.str "lowered", .bl false], .tup [.str "beyond", .bl false], .tup [.str "blocked", .bl false], .tup [.str "deep", .bl false], .tup [.str "ours", .bl true], .tup [.str "value", .bl true], .tup [.str "miss", .bl false], .tup [.str "lookup", .bl false], .tup [.str "fault", .bl false], .tup [.str "runtime", .bl false]]
    [a, b, none, none] M = some ([.str "place", .str "ours", .str "value"], M) := rfl
theorem kinds_ok {ct : CT} (hI : Isa ct) {m : Nat} {M : Mh} (hm : M[m]? = some (.exc ct.OutOfPlace)) : ff_law_kinds ct [.ref m] M = some (told3, M) := by
  refine fn_rt ?_
  show gg_law_kinds ct [some (.ref m), none, none, none] M = _
  unfold gg_law_kinds
  have st : ∀ {x y : Str} {d e : D} {cv cw : Value} {p q : Bool} {A : List D} {g : SF} {r : Option Out}, clV d = some cv → ct.isa ct.OutOfPlace cv = some p → clV e = some cw → ct.isa ct.OutOfPlace cw = some q → A.length ≤ 100 → g [some (.ref m), some (.lst (A ++ [.tup [.str x, .bl p], .tup [.str y, .bl q]])), none, none] M = r →
      sSeq (sAs (eOp gAdd (eVar 1) (eLst (aCons (eTup (aCons (eC (.str x)) (aCons (eB (gIsiE ct.isa) (aCons (eVar 0) (aCons (eC d) aNil))) aNil))) (aCons (eTup (aCons (eC (.str y)) (aCons (eB (gIsiE ct.isa) (aCons (eVar 0) (aCons (eC e) aNil))) aNil))) aNil)))) (gN 1)) g [some (.ref m), some (.lst A), none, none] M = r := fun {x y d e cv cw p q A g r} h1 h2 h3 h4 h5 h6 =>
    seq_as (d := .lst (A ++ [.tup [.str x, .bl p], .tup [.str y, .bl q]])) (M1 := M) (δ' := [some (.ref m), some (.lst (A ++ [.tup [.str x, .bl p], .tup [.str y, .bl q]])), none, none]) (op_of (a := .lst A) (M1 := M) rfl (two_of (pr_of x rfl hm h1 h2) (pr_of y rfl hm h3 h4)) (app_l (by show A.length + 2 ≤ 1000; omega))) rfl h6
  refine seq_as (d := .lst [.tup [.str "row", .bl false], .tup [.str "sketch", .bl false]]) (M1 := M) (δ' := [some (.ref m), some (.lst [.tup [.str "row", .bl false], .tup [.str "sketch", .bl false]]), none, none]) (two_of (pr_of "row" rfl hm rfl hI.i_OutOfPlace_BadRow) (pr_of "sketch" rfl hm rfl hI.i_OutOfPlace_BadSketch)) rfl ?_
  refine st rfl hI.i_OutOfPlace_BadBlock rfl hI.i_OutOfPlace_BadOutline (by simp) ?_
  refine st rfl hI.i_OutOfPlace_BadFeature rfl hI.i_OutOfPlace_BadField (by simp) ?_
  refine st rfl hI.i_OutOfPlace_BadTools rfl hI.i_OutOfPlace_BadWay (by simp) ?_
  refine st rfl hI.i_OutOfPlace_BadPaper rfl hI.i_OutOfPlace_Clash (by simp) ?_
  refine st rfl hI.i_OutOfPlace_Twice rfl hI.i_OutOfPlace_OutOfPlace (by simp) ?_
  refine st rfl hI.i_OutOfPlace_TooGreat rfl hI.i_OutOfPlace_NoPoint (by simp) ?_
  refine st rfl hI.i_OutOfPlace_NoSaying rfl hI.i_OutOfPlace_NoFeature (by simp) ?_
  refine st rfl hI.i_OutOfPlace_NoTool rfl hI.i_OutOfPlace_Nothing (by simp) ?_
  refine st rfl hI.i_OutOfPlace_NoToolThere rfl hI.i_OutOfPlace_Lifted (by simp) ?_
  refine st rfl hI.i_OutOfPlace_Lowered rfl hI.i_OutOfPlace_Beyond (by simp) ?_
  refine st rfl hI.i_OutOfPlace_Blocked rfl hI.i_OutOfPlace_TooDeep (by simp) ?_
  refine st rfl hI.i_OutOfPlace_WorksError rfl hI.i_OutOfPlace_ValueError (by simp) ?_
  refine st rfl hI.i_OutOfPlace_MissError rfl hI.i_OutOfPlace_LookupError (by simp) ?_
  refine st rfl hI.i_OutOfPlace_FaultError rfl hI.i_OutOfPlace_RuntimeError (by simp) ?_
  refine ret_of ?_
  unfold eLc
  have ei : ∀ X : List D, aItems (eVar 1) [some (.ref m), some (.lst X), none, none] M = some (X, M) := fun X => rfl
  rw [ei]
  dsimp only [wipeD, List.set_cons_succ, List.set_cons_zero, List.append_assoc, List.cons_append, List.nil_append]
  rw [kinds_go]
  exact if_pos (show (3 : Nat) ≤ sizeLine by decide)
/-! ### what may be refused -/
theorem xs_nx {f g : XF} {δ δ' : Pl.Env} {M M1 : Mh} {r : Option XO} (h : f δ M = some (.ok (.nx δ' M1))) (k : g δ' M1 = r) : xSeq f g δ M = r := by
  unfold xSeq; rw [h]; exact k
theorem xs_ex {f g : XF} {δ δ' : Pl.Env} {M M1 : Mh} {y : Str} (h : f δ M = some (.ex y δ' M1)) : xSeq f g δ M = some (.ex y δ' M1) := by
  unfold xSeq; rw [h]
theorem xi_0 {t : TF} {f g : XF} {δ : Pl.Env} {M M1 : Mh} {r : Option XO} (h : t δ M = some (false, M1)) (k : g δ M1 = r) : xIf t f g δ M = r := by
  unfold xIf; rw [h]; exact k
theorem xi_1 {t : TF} {f g : XF} {δ : Pl.Env} {M M1 : Mh} {r : Option XO} (h : t δ M = some (true, M1)) (k : f δ M1 = r) : xIf t f g δ M = r := by
  unfold xIf; rw [h]; exact k
theorem xk_of {f : SF} {δ : Pl.Env} {M : Mh} {o : Out} (h : f δ M = some o) : xOk f δ M = some (.ok o) := by
  unfold xOk; rw [h]
theorem fx_v {n : Nat} {g : XF} {ds : List D} {M M1 : Mh} {d : D} (h : g (startD n ds) M = some (.ok (.rt d M1))) : fnX n g ds M = some (.v d M1) := by
  unfold fnX; rw [h]
theorem fx_ex {n : Nat} {g : XF} {ds : List D} {M M1 : Mh} {y : Str} {δ' : Pl.Env} (h : g (startD n ds) M = some (.ex y δ' M1)) : fnX n g ds M = some (.ex y M1) := by
  unfold fnX; rw [h]
theorem xa_v {f : FnX} {g : AF} {j : Nat} {ds : List D} {δ : Pl.Env} {M M1 M2 : Mh} {d : D} (h : g δ M = some (ds, M1)) (k : f ds M1 = some (.v d M2)) : xAs (xCall f g []) j δ M = some (.ok (.nx (δ.set j (some d)) M2)) := by
  unfold xAs xCall; rw [h]; dsimp only; rw [List.append_nil, k]
theorem xa_ex {f : FnX} {g : AF} {j : Nat} {ds : List D} {δ : Pl.Env} {M M1 M2 : Mh} {y : Str} (h : g δ M = some (ds, M1)) (k : f ds M1 = some (.ex y M2)) : xAs (xCall f g []) j δ M = some (.ex y δ M2) := by
  unfold xAs xCall; rw [h]; dsimp only; rw [List.append_nil, k]
theorem try_ok {tb : Str → Option Addr} {j : Nat} {fb : XF} {fs : SF} {δ : Pl.Env} {M : Mh} {o : Out} (h : fb δ M = some (.ok o)) : sTryK tb j fb fs δ M = some o := by
  unfold sTryK; rw [h]
theorem try_ex {tb : Str → Option Addr} {j : Nat} {fb : XF} {fs : SF} {δ δ' d2 : Pl.Env} {M M' : Mh} {y : Str} {C : Addr} (h : fb δ M = some (.ex y δ' M')) (hy : tb y = some C) (hs : fs (δ'.set j (some (.ref M'.length))) (M' ++ [.dead]) = some (.nx d2 (M' ++ [.dead]))) : sTryK tb j fb fs δ M = some (.nx (d2.set j none) (M' ++ [.exc C])) := by
  unfold sTryK
  rw [h]
  dsimp only
  rw [hy]
  dsimp only
  rw [hs]
  have k : kp M'.length C (M' ++ [.dead]) = some (M' ++ [.exc C]) := by
    unfold kp
    rw [List.getElem?_append_right (Nat.le_refl _)]
    simp
  simp only [kpO, k, Option.map_some]
end Law

namespace Law
open PySem L2 Pl
theorem ei_tt {t : TF} {f g : EF} {δ : Pl.Env} {M M1 : Mh} {r : Option (D × Mh)} (h : t δ M = some (true, M1)) (k : f δ M1 = r) : eIf t f g δ M = r := by
  unfold eIf; rw [h]; exact k
theorem ei_ff {t : TF} {f g : EF} {δ : Pl.Env} {M M1 : Mh} {r : Option (D × Mh)} (h : t δ M = some (false, M1)) (k : g δ M1 = r) : eIf t f g δ M = r := by
  unfold eIf; rw [h]; exact k
theorem an_of1 {f g : EF} {δ : Pl.Env} {M M1 : Mh} {r : Option (D × Mh)} (h : f δ M = some (.bl true, M1)) (k : g δ M1 = r) : eAn f g δ M = r := by
  unfold eAn; rw [h]; exact k
theorem an_of0 {f g : EF} {δ : Pl.Env} {M M1 : Mh} (h : f δ M = some (.bl false, M1)) : eAn f g δ M = some (.bl false, M1) := by
  unfold eAn; rw [h]
theorem isi_of {f : EF} {δ : Pl.Env} {M : Mh} {d : D} {t n : String} {b : Bool} (h : f δ M = some (d, M)) (ht : tyN M d = some t) (k : kitB t n = some b) : eB gIsi (aCons f (aCons (eC (.ty n)) aNil)) δ M = some (.bl b, M) := by
  rw [x_eB, cons_of h (cons_of x_eC x_aNil)]
  simp [gIsi, ht, k]
theorem whole_int (i : Int) (M : Mh) : ff_is_whole [.int i] M = some (.bl true, M) := by
  refine fn_rt ?_
  show gg_is_whole [some (.int i)] M = _
  unfold gg_is_whole
  exact ret_of (an_of1 (isi_of (t := "int") rfl rfl (by decide +kernel)) (x_eNt (isi_of (t := "int") (b := false) rfl rfl (by decide +kernel))))
/-- what is no whole number -/
structure Odd (M : Mh) (d : D) : Prop where
  ex : ∃ t, tyN M d = some t ∧ (kitB t "int" = some false ∨ (kitB t "int" = some true ∧ kitB t "bool" = some true))
theorem odd_whole {M : Mh} {d : D} (h : Odd M d) : ff_is_whole [d] M = some (.bl false, M) := by
  obtain ⟨t, ht, k⟩ := h.ex
  refine fn_rt ?_
  show gg_is_whole [some d] M = _
  unfold gg_is_whole
  refine ret_of ?_
  rcases k with k | ⟨k, k2⟩
  · exact an_of0 (isi_of rfl ht k)
  · exact an_of1 (isi_of rfl ht k) (x_eNt (isi_of rfl ht k2))
section
variable {ct : CT} {M : Mh}
theorem fra_v {t b : Int} (h : b ≠ 0) (hb : b.natAbs < 2 ^ 8000) : xx_fraction [.int t, .int b] M = some (.v (R (Rat.divInt t b)) M) := by
  refine fx_v ?_
  show xg_fraction [some (.int t), some (.int b)] M = _
  unfold xg_fraction
  refine xs_nx (xi_0 (M1 := M) (or0 (M1 := M) (nt_of (b := true) (v_bl (call_of (cons_of rfl x_aNil) (whole_int _ _)))) (nt_of (b := true) (v_bl (call_of (cons_of rfl x_aNil) (whole_int _ _))))) (xk_of nil_of)) ?_
  refine xs_nx (xi_0 (M1 := M) (v_bl (op_of rfl x_eC ((eq_int _ _ _).trans (by rw [decide_eq_false h])))) (xk_of nil_of)) ?_
  exact xk_of (ret_of (call_of (cons_of rfl (cons_of rfl x_aNil)) (low_ok h hb M)))
theorem fra_0 {t : Int} : xx_fraction [.int t, .int 0] M = some (.ex "OutOfPlace" M) := by
  refine fx_ex (δ' := [some (.int t), some (.int 0)]) ?_
  show xg_fraction [some (.int t), some (.int 0)] M = _
  unfold xg_fraction
  refine xs_nx (xi_0 (M1 := M) (or0 (M1 := M) (nt_of (b := true) (v_bl (call_of (cons_of rfl x_aNil) (whole_int _ _)))) (nt_of (b := true) (v_bl (call_of (cons_of rfl x_aNil) (whole_int _ _))))) (xk_of nil_of)) ?_
  exact xs_ex (xi_1 (M1 := M) (v_bl (op_of rfl x_eC ((eq_int _ _ _).trans (by rw [decide_eq_true rfl])))) rfl)
theorem fra_1 {d e : D} (h : Odd M d) : xx_fraction [d, e] M = some (.ex "OutOfPlace" M) := by
  refine fx_ex (δ' := [some d, some e]) ?_
  show xg_fraction [some d, some e] M = _
  unfold xg_fraction
  exact xs_ex (xi_1 (M1 := M) (or1 (nt_of (b := false) (v_bl (call_of (cons_of rfl x_aNil) (odd_whole h))))) rfl)
theorem fra_2 {t : Int} {e : D} (h : Odd M e) : xx_fraction [.int t, e] M = some (.ex "OutOfPlace" M) := by
  refine fx_ex (δ' := [some (.int t), some e]) ?_
  show xg_fraction [some (.int t), some e] M = _
  unfold xg_fraction
  exact xs_ex (xi_1 (M1 := M) (or0 (M1 := M) (nt_of (b := true) (v_bl (call_of (cons_of rfl x_aNil) (whole_int _ _)))) (nt_of (b := false) (v_bl (call_of (cons_of rfl x_aNil) (odd_whole h))))) rfl)
theorem fra1_ok {t : Int} : ff_fraction [.int t, .int 1] M = some (R (Rat.divInt t 1), M) := by
  refine fn_rt ?_
  show gg_fraction [some (.int t), some (.int 1)] M = _
  unfold gg_fraction
  refine seq_if0 (M1 := M) (or0 (M1 := M) (nt_of (b := true) (v_bl (call_of (cons_of rfl x_aNil) (whole_int _ _)))) (nt_of (b := true) (v_bl (call_of (cons_of rfl x_aNil) (whole_int _ _))))) ?_
  refine seq_if0 (M1 := M) (v_bl (op_of rfl x_eC ((eq_int _ _ _).trans (by rw [decide_eq_false (by decide)])))) ?_
  exact ret_of (call_of (cons_of rfl (cons_of rfl x_aNil)) (low_ok (by decide) (by decide) M))
theorem ov_v {a b : Rat} [ha : Sz 1 a] [hb : Sz 1 b] (h : b ≠ 0) : xx_over [R a, R b] M = some (.v (R (a / b)) M) := by
  have hn : b.num ≠ 0 := fun z => h (Rat.num_eq_zero.mp z)
  have e := low_ok (t := a.num * b.den) (b := a.den * b.num) (Int.mul_ne_zero (den0 a) hn) (up8 (i := 1 + 1) (by rw [Int.natAbs_mul]; exact mSz ha.den hb.num) (by omega)) M
  rw [div_eq] at e
  refine fx_v ?_
  show xg_over [some (R a), some (R b)] M = _
  unfold xg_over
  refine xs_nx (xi_0 (M1 := M) (v_bl (op_of (op_of rfl x_eC ix0) x_eC ((eq_int _ _ _).trans (by rw [decide_eq_false hn])))) (xk_of nil_of)) ?_
  exact xk_of (ret_of (call_of (cons_of (op_of (op_of rfl x_eC ix0) (op_of rfl x_eC ix1) (mul_int (mOk (i := 1) (j := 1) ha.num (szd hb) (by omega)))) (cons_of (op_of (op_of rfl x_eC ix1) (op_of rfl x_eC ix0) (mul_int (mOk (i := 1) (j := 1) (szd ha) hb.num (by omega)))) x_aNil)) e))
theorem ov_0 {a b : Rat} (h : b = 0) : xx_over [R a, R b] M = some (.ex "OutOfPlace" M) := by
  refine fx_ex (δ' := [some (R a), some (R b)]) ?_
  show xg_over [some (R a), some (R b)] M = _
  unfold xg_over
  exact xs_ex (xi_1 (M1 := M) (v_bl (op_of (op_of rfl x_eC ix0) x_eC ((eq_int _ _ _).trans (by rw [decide_eq_true (Rat.num_eq_zero.mpr h)])))) rfl)
theorem told_v {a b d : D} (k : xx_fraction [a, b] M = some (.v d M)) : ff_law_told ct [a, b] M = some (d, M) := by
  refine fn_rt ?_
  show gg_law_told ct [some a, some b, none, none, none] M = _
  unfold gg_law_told
  refine seq_as (d := .tup [.non, .non]) (M1 := M) (δ' := [some a, some b, some .non, some .non, none]) (x_eTup (cons_of x_eC (cons_of x_eC x_aNil)) (by simp)) rfl ?_
  refine seq_nx (M1 := M) (δ' := [some a, some b, some .non, some d, none]) (try_ok (xa_v (cons_of rfl (cons_of rfl x_aNil)) k)) ?_
  exact ret_of (ei_tt (M1 := M) (v_bl (op_of rfl x_eC rfl)) rfl)
theorem told_x (hI : Isa ct) {a b : D} (k : xx_fraction [a, b] M = some (.ex "OutOfPlace" M)) : ff_law_told ct [a, b] M = some (told3, M ++ [.exc ct.OutOfPlace]) := by
  refine fn_rt ?_
  show gg_law_told ct [some a, some b, none, none, none] M = _
  unfold gg_law_told
  refine seq_as (d := .tup [.non, .non]) (M1 := M) (δ' := [some a, some b, some .non, some .non, none]) (x_eTup (cons_of x_eC (cons_of x_eC x_aNil)) (by simp)) rfl ?_
  refine seq_nx (M1 := M ++ [MO.exc ct.OutOfPlace]) (δ' := [some a, some b, some (.ref M.length), some .non, none]) (try_ex (d2 := [some a, some b, some (.ref M.length), some .non, some (.ref M.length)]) (xa_ex (cons_of rfl (cons_of rfl x_aNil)) k) (if_pos rfl) (as_of rfl rfl)) ?_
  have hm : (M ++ [MO.exc ct.OutOfPlace])[M.length]? = some (MO.exc ct.OutOfPlace) := by
    rw [List.getElem?_append_right (Nat.le_refl _)]
    simp
  have kk := kinds_ok hI hm
  exact ret_of (ei_ff (M1 := M ++ [MO.exc ct.OutOfPlace]) (v_bl (op_of (a := .ref M.length) rfl x_eC rfl)) (call_of (ds := [.ref M.length]) (cons_of rfl x_aNil) kk))
theorem lov_v {a b d : D} (k : xx_over [a, b] M = some (.v d M)) : ff_law_over ct [a, b] M = some (d, M) := by
  refine fn_rt ?_
  show gg_law_over ct [some a, some b, none, none, none] M = _
  unfold gg_law_over
  refine seq_as (d := .tup [.non, .non]) (M1 := M) (δ' := [some a, some b, some .non, some .non, none]) (x_eTup (cons_of x_eC (cons_of x_eC x_aNil)) (by simp)) rfl ?_
  refine seq_nx (M1 := M) (δ' := [some a, some b, some .non, some d, none]) (try_ok (xa_v (cons_of rfl (cons_of rfl x_aNil)) k)) ?_
  exact ret_of (ei_tt (M1 := M) (v_bl (op_of rfl x_eC rfl)) rfl)
theorem lov_x (hI : Isa ct) {a b : D} (k : xx_over [a, b] M = some (.ex "OutOfPlace" M)) : ff_law_over ct [a, b] M = some (told3, M ++ [.exc ct.OutOfPlace]) := by
  refine fn_rt ?_
  show gg_law_over ct [some a, some b, none, none, none] M = _
  unfold gg_law_over
  refine seq_as (d := .tup [.non, .non]) (M1 := M) (δ' := [some a, some b, some .non, some .non, none]) (x_eTup (cons_of x_eC (cons_of x_eC x_aNil)) (by simp)) rfl ?_
  refine seq_nx (M1 := M ++ [MO.exc ct.OutOfPlace]) (δ' := [some a, some b, some (.ref M.length), some .non, none]) (try_ex (d2 := [some a, some b, some (.ref M.length), some .non, some (.ref M.length)]) (xa_ex (cons_of rfl (cons_of rfl x_aNil)) k) (if_pos rfl) (as_of rfl rfl)) ?_
  have hm : (M ++ [MO.exc ct.OutOfPlace])[M.length]? = some (MO.exc ct.OutOfPlace) := by
    rw [List.getElem?_append_right (Nat.le_refl _)]
    simp
  have kk := kinds_ok hI hm
  exact ret_of (ei_ff (M1 := M ++ [MO.exc ct.OutOfPlace]) (v_bl (op_of (a := .ref M.length) rfl x_eC rfl)) (call_of (ds := [.ref M.length]) (cons_of rfl x_aNil) kk))
/-- the law's own lowest form, below nought too -/
theorem llow_any {t b : Int} (h : b ≠ 0) (hb : b.natAbs < 2 ^ 8000) (M : Mh) : ff_law_lowest [.int t, .int b] M = some (R (Rat.divInt t b), M) := by
  by_cases hp : 0 < b
  · exact llow_ok hp hb M
  · have hq : 0 < -b := by omega
    have e := llow_ok (t := -t) hq (by rw [Int.natAbs_neg]; exact hb) M
    rw [Rat.neg_divInt_neg] at e
    rw [← e]
    have k : ∀ (x y : Int), ff_law_lowest [.int x, .int y] M = (match gg_law_lowest [some (.int x), some (.int y), none, none] M with
      | some (.rt d M') => some (d, M')
      | some (.nx _ M') => some (.non, M')
      | _ => none) := fun x y => rfl
    rw [k, k]
    have g1 : gg_law_lowest [some (.int t), some (.int b), none, none] M = gg_law_lowest [some (.int (-t)), some (.int (-b)), none, none] M := by
      unfold gg_law_lowest
      refine seq_as (d := .tup [.int (-t), .int (-b)]) (M1 := M) (δ' := [some (.int (-t)), some (.int (-b)), none, none]) (ei_tt (M1 := M) (v_bl (op_of rfl x_eC (show gInt _ (.int b) (.int 0) M = some (.bl true, M) by simp only [gInt]; rw [decide_eq_true (by omega)]))) (x_eTup (cons_of (op_of x_eC rfl (show gInt _ (.int 0) (.int t) M = some (.int (-t), M) by simp only [gInt, Int.zero_sub])) (cons_of (op_of x_eC rfl (show gInt _ (.int 0) (.int b) M = some (.int (-b), M) by simp only [gInt, Int.zero_sub])) x_aNil)) (by simp))) rfl ?_
      symm
      exact seq_as (d := .tup [.int (-t), .int (-b)]) (M1 := M) (δ' := [some (.int (-t)), some (.int (-b)), none, none]) (ei_ff (M1 := M) (v_bl (op_of rfl x_eC (show gInt _ (.int (-b)) (.int 0) M = some (.bl false, M) by simp only [gInt]; rw [decide_eq_false (by omega)]))) (x_eTup (cons_of rfl (cons_of rfl x_aNil)) (by simp))) rfl rfl
    rw [g1]
end
end Law

namespace Law
open PySem L2 Pl
def SOk (x : Str) : Prop := ∀ s ∈ TL.tl x, s < 1114112
/-! ### what repr tells -/
theorem textFrom_ok : ∀ (ts : List Str) (k : Nat) (acc : Str), SOk acc → (∀ t ∈ ts, SOk t) → SOk (textFrom k acc ts)
  | [], _, _, h, _ => h
  | t :: r, k, acc, h, g => by
    refine textFrom_ok r (k + 1) (acc ++ (if k > 0 then ", " else "" : String) ++ t) (fun s hs => ?_) fun u hu => g u (List.mem_cons_of_mem _ hu)
    rw [TL.tl_append, TL.tl_append] at hs
    rcases List.mem_append.mp hs with hs | hs
    · rcases List.mem_append.mp hs with hs | hs
      · exact h s hs
      · have e1 : TL.tl (Str.ofString ", ") = [44, 32] := by decide +kernel
        have e2 : TL.tl (Str.ofString "") = [] := by decide +kernel
        split at hs
        · rw [e1] at hs
          simp only [List.mem_cons, List.not_mem_nil, or_false] at hs
          omega
        · rw [e2] at hs
          cases hs
    · exact g t List.mem_cons_self s hs
theorem textFrom_le (n : Nat) : ∀ (ts : List Str) (k : Nat) (acc : Str), (∀ t ∈ ts, t.length ≤ n) → (textFrom k acc ts).length ≤ acc.length + ts.length * (n + 2)
  | [], _, acc, _ => by show acc.length ≤ _; omega
  | t :: r, k, acc, h => by
    have ih := textFrom_le n r (k + 1) (acc ++ (if k > 0 then ", " else "" : String) ++ t) fun u hu => h u (List.mem_cons_of_mem _ hu)
    have h1 := h t List.mem_cons_self
    have e1 : (Str.ofString ", ").length = 2 := by decide +kernel
    have e2 : (Str.ofString "").length = 0 := by decide +kernel
    have e3 : (Str.ofString (if k > 0 then ", " else "")).length ≤ 2 := by
      split
      · rw [e1]; exact Nat.le_refl _
      · rw [e2]; omega
    show (textFrom (k + 1) (acc ++ (if k > 0 then ", " else "" : String) ++ t) r).length ≤ _
    rw [app_len, app_len] at ih
    rw [List.length_cons, Nat.add_mul]
    omega
/-- plain things -/
def Smp : D → Prop
  | .non => True
  | .bl _ => True
  | .int i => i.natAbs < 2 ^ 128
  | _ => False
theorem smp_ok {d : D} (h : Smp d) : ∃ p, toP d = some p ∧ p.showable = true ∧ p.canLay0 = true ∧ p.depth = 0 ∧ p.hasDict = false ∧ SOk p.shown ∧ p.shown.length ≤ 1921 := by
  match d, h with
  | .non, _ => exact ⟨.none, rfl, by decide +kernel, by decide +kernel, by decide +kernel, by decide +kernel, fun s hs => by
      have e : TL.tl (PyData.none).shown = [78, 111, 110, 101] := by decide +kernel
      rw [e] at hs
      simp only [List.mem_cons, List.not_mem_nil, or_false] at hs
      omega, by decide +kernel⟩
  | .bl b, _ =>
    have g : ∀ b : Bool, (TL.tl (PyData.bool b).shown).all (fun s => decide (s < 1114112)) = true ∧ (PyData.bool b).shown.length ≤ 1921 ∧ (PyData.bool b).showable = true ∧ (PyData.bool b).canLay0 = true ∧ (PyData.bool b).depth = 0 ∧ (PyData.bool b).hasDict = false := by decide +kernel
    obtain ⟨a1, a2, a3, a4, a5, a6⟩ := g b
    exact ⟨.bool b, rfl, a3, a4, a5, a6, fun s hs => of_decide_eq_true (List.all_eq_true.mp a1 s hs), a2⟩
  | .int i, h =>
    have l1 : i.natAbs.log2 < 1920 := lg h
    exact ⟨.int i, rfl, by simp [PyData.showable, l1], by simp [PyData.canLay0], by simp [PyData.depth], by simp [PyData.hasDict], TT_ok i, PyProof.Rows.int_text_len_1921 l1⟩
theorem smps_ok : ∀ L : List D, (∀ d ∈ L, Smp d) → ∃ ps, toPs L = some ps ∧ PyData.showableAll ps = true ∧ PyData.canLayAll0 ps = true ∧ PyData.depthAll ps = 0 ∧ PyData.hasDictAll ps = false ∧ (∀ t ∈ PyData.shownAll ps, SOk t ∧ t.length ≤ 1921) ∧ (PyData.shownAll ps).length = L.length
  | [], _ => ⟨[], rfl, by simp [PyData.showableAll], by simp [PyData.canLayAll0], by simp [PyData.depthAll], by simp [PyData.hasDictAll], (fun t ht => by rw [PyData.shownAll] at ht; exact absurd ht (by simp)), (by rw [PyData.shownAll]; rfl)⟩
  | d :: L, h => by
    obtain ⟨p, e, a1, a2, a3, a4, a5, a6⟩ := smp_ok (h d List.mem_cons_self)
    obtain ⟨ps, f, b1, b2, b3, b4, b5, b6⟩ := smps_ok L fun x hx => h x (List.mem_cons_of_mem _ hx)
    refine ⟨p :: ps, by rw [toPs, e, f], by rw [PyData.showableAll, a1, b1]; rfl, by rw [PyData.canLayAll0, a2, b2]; rfl, by rw [PyData.depthAll, a3, b3]; rfl, by rw [PyData.hasDictAll, a4, b4]; rfl, fun t ht => ?_, ?_⟩
    · rw [PyData.shownAll] at ht
      rcases List.mem_cons.mp ht with z | z
      · rw [z]; exact ⟨a5, a6⟩
      · exact b5 t z
    · rw [PyData.shownAll, List.length_cons, List.length_cons, b6]
theorem repr_lst {L : List D} (h : ∀ d ∈ L, Smp d) (hl : L.length ≤ 100) : ∃ s : Str, PyData.strOk s = true ∧ ∀ M, gRepr [.lst L] M = some (.str s, M) := by
  obtain ⟨ps, f, b1, b2, b3, b4, b5, b6⟩ := smps_ok L h
  have so : SOk (PyData.list ps).shown := by
    rw [PyData.shown, listText]
    intro s hs
    rw [TL.tl_append] at hs
    rcases List.mem_append.mp hs with z | z
    · refine textFrom_ok _ _ _ (fun s hs => ?_) (fun t ht => (b5 t ht).1) s z
      have e : TL.tl (Str.ofString "[") = [91] := by decide +kernel
      rw [e] at hs
      have := List.mem_singleton.mp hs
      omega
    · have e : TL.tl (Str.ofString "]") = [93] := by decide +kernel
      rw [e] at z
      have := List.mem_singleton.mp z
      omega
  have ln : (PyData.list ps).shown.length ≤ 200000 := by
    rw [PyData.shown, listText, app_len]
    have t := textFrom_le 1921 (PyData.shownAll ps) 0 "[" fun t ht => (b5 t ht).2
    have e1 : (Str.ofString "[").length = 1 := by decide +kernel
    have e2 : (Str.ofString "]").length = 1 := by decide +kernel
    rw [e1] at t
    rw [e2]
    have : (PyData.shownAll ps).length * (1921 + 2) ≤ 100 * (1921 + 2) := Nat.mul_le_mul_right _ (by omega)
    omega
  have ok : reprOk (.list ps) = true := by
    have s1 : SeqAt.shaped (.list ps) = true := by simp [SeqAt.shaped, PyData.canLay0, PyData.depth, b2, b3]
    have l3 : (PyData.list ps).shown.length ≤ sizeLine := Nat.le_trans ln (by decide)
    simp [reprOk, s1, PyData.showable, PyData.hasDict, b1, b4, l3]
  refine ⟨(PyData.list ps).shown, strOk_of so, fun M => ?_⟩
  simp only [gRepr, deref, toP, f, ok, if_true]
/-! ### rows of fractions -/
def pR (q : Rat) : PyData := .tuple [.int q.num, .int (q.den : Int)]
theorem toPs_R : ∀ L : List Rat, toPs (L.map R) = some (L.map pR)
  | [] => rfl
  | q :: L => by rw [List.map_cons, toPs, toP_R, toPs_R L]; rfl
theorem lay_R : ∀ L : List Rat, PyData.canLayAll0 (L.map pR) = true ∧ PyData.depthAll (L.map pR) ≤ 1
  | [] => by simp [PyData.canLayAll0, PyData.depthAll]
  | q :: L => by
    obtain ⟨h1, h2⟩ := lay_R L
    have h3 : (pR q).canLay0 = true := by simp [pR, PyData.canLay0, PyData.canLayAll0]
    have d0 : (pR q).depth ≤ 1 := by simp [pR, PyData.depth, PyData.depthAll]
    rw [List.map_cons, PyData.canLayAll0, PyData.depthAll]
    refine ⟨by rw [h3, h1]; rfl, ?_⟩
    omega
theorem shaped_R (L : List Rat) : SeqAt.shaped (.list (L.map pR)) = true := by
  obtain ⟨h1, h2⟩ := lay_R L
  simp only [SeqAt.shaped, Bool.and_eq_true, decide_eq_true_eq]
  rw [PyData.canLay0, PyData.depth]
  exact ⟨h1, by omega⟩
theorem eqv_Rs : ∀ L : List Rat, PyData.eqvAll (L.map pR) (L.map pR) = true
  | [] => by simp [PyData.eqvAll]
  | q :: L => by
    have : PyData.eqv (pR q) (pR q) = true := (eqv_R q q).trans (decide_eq_true rfl)
    rw [List.map_cons, PyData.eqvAll, this, eqv_Rs L]; rfl
theorem ne_Rs (L : List Rat) (M : Mh) : gEq (fun p q => !PyData.eqv p q) (.lst (L.map R)) (.lst (L.map R)) M = some (.bl false, M) := by
  have s1 := shaped_R L
  simp only [gEq, deref, toP, toPs_R, s1, Bool.and_self, if_true]
  rw [PyData.eqv, eqv_Rs]
  rfl
theorem ne_told3 (M : Mh) : gEq (fun p q => !PyData.eqv p q) told3 told3 M = some (.bl false, M) := by
  have s1 : SeqAt.shaped (.list [.str "place", .str "ours", .str "value"]) = true := by decide +kernel
  have s2 : PyData.eqv (.list [.str "place", .str "ours", .str "value"]) (.list [.str "place", .str "ours", .str "value"]) = true := by decide +kernel
  show (if SeqAt.shaped (.list [.str "place", .str "ours", .str "value"]) && SeqAt.shaped (.list [.str "place", .str "ours", .str "value"]) then some (D.bl (!PyData.eqv (.list [.str "place", .str "ours", .str "value"]) (.list [.str "place", .str "ours", .str "value"])), M) else none) = _
  rw [s1, s2]
  rfl
theorem lst_told3 {δ : Pl.Env} {M : Mh} : eLst (aCons (eC (.str "place")) (aCons (eC (.str "ours")) (aCons (eC (.str "value")) aNil))) δ M = some (told3, M) := x_eLst (cons_of x_eC (cons_of x_eC (cons_of x_eC x_aNil))) (by simp)
section
variable {ct : CT}
theorem reck_ok (hI : Isa ct) {x y : Rat} [hx : Sz 1 x] [hy : Sz 1 y] {M : Mh} : ∃ M', ff_law_reckoned_right ct [R x, R y] M = some (.bl true, M') ∧ (M' = M ∨ M' = M ++ [MO.exc ct.OutOfPlace]) := by
  have db : (0 : Int) < x.den := by have := x.den_pos; omega
  have dd : (0 : Int) < y.den := by have := y.den_pos; omega
  have dbd : (0 : Int) < x.den * y.den := Int.mul_pos db dd
  have sb : ((x.den : Int) * y.den).natAbs < 2 ^ 8000 := up8 (i := 1 + 1) (by rw [Int.natAbs_mul]; exact mSz hx.den hy.den) (by omega)
  have m1 : Pl.MulOk x.num y.den := mOk (i := 1) (j := 1) hx.num (szd hy) (by omega)
  have m2 : Pl.MulOk y.num x.den := mOk (i := 1) (j := 1) hy.num (szd hx) (by omega)
  have m3 : Pl.MulOk x.den y.den := mOk (i := 1) (j := 1) (szd hx) (szd hy) (by omega)
  have m4 : Pl.MulOk x.num y.num := mOk (i := 1) (j := 1) hx.num hy.num (by omega)
  have m5 : Pl.MulOk x.den y.num := mOk (i := 1) (j := 1) (szd hx) hy.num (by omega)
  have s2 : (2 * (x.den : Int)).natAbs < 2 ^ (128 * (1 + 1)) := by rw [Int.natAbs_mul]; exact mSz (i := 1) (j := 1) (by decide) hx.den
  have m6 : Pl.MulOk 2 x.den := mOk (i := 1) (j := 1) (by decide) (szd hx) (by omega)
  have m7 : Pl.MulOk (2 * (x.den : Int)) y.den := mOk (i := 1 + 1) (j := 1) s2 (szd hy) (by omega)
  have l1 : ∀ M, ff_law_lowest [.int (x.num * y.den + y.num * x.den), .int (x.den * y.den)] M = some (R (x + y), M) := fun M => by rw [← add_eq]; exact llow_ok dbd sb M
  have l2 : ∀ M, ff_law_lowest [.int (x.num * y.den - y.num * x.den), .int (x.den * y.den)] M = some (R (x - y), M) := fun M => by rw [← sub_eq]; exact llow_ok dbd sb M
  have l3 : ∀ M, ff_law_lowest [.int (x.num * y.num), .int (x.den * y.den)] M = some (R (x * y), M) := fun M => by rw [← mul_eq]; exact llow_ok dbd sb M
  have l4 : ∀ M, ff_law_lowest [.int (x.num * y.den + y.num * x.den), .int (2 * x.den * y.den)] M = some (R ((x + y) / 2), M) := fun M => by
    rw [← mean_eq]
    exact llow_ok (Int.mul_pos (Int.mul_pos (by decide) db) dd) (up8 (i := 1 + 1 + 1) (by rw [Int.natAbs_mul]; exact mSz s2 hy.den) (by omega)) M
  have v : ∀ (M : Mh) (z6 z7 : Option D), eVar 0 [some (R x), some (R y), some (.int x.num), some (.int x.den), some (.int y.num), some (.int y.den), z6, z7] M = some (R x, M) ∧ eVar 1 [some (R x), some (R y), some (.int x.num), some (.int x.den), some (.int y.num), some (.int y.den), z6, z7] M = some (R y, M) := fun M z6 z7 => ⟨rfl, rfl⟩
  have pAD : ∀ (M : Mh) (z6 z7 : Option D), eOp gMul (eVar 2) (eVar 5) [some (R x), some (R y), some (.int x.num), some (.int x.den), some (.int y.num), some (.int y.den), z6, z7] M = some (.int (x.num * y.den), M) := fun M z6 z7 => op_of rfl rfl (mul_int m1)
  have pCB : ∀ (M : Mh) (z6 z7 : Option D), eOp gMul (eVar 4) (eVar 3) [some (R x), some (R y), some (.int x.num), some (.int x.den), some (.int y.num), some (.int y.den), z6, z7] M = some (.int (y.num * x.den), M) := fun M z6 z7 => op_of rfl rfl (mul_int m2)
  have pBD : ∀ (M : Mh) (z6 z7 : Option D), eOp gMul (eVar 3) (eVar 5) [some (R x), some (R y), some (.int x.num), some (.int x.den), some (.int y.num), some (.int y.den), z6, z7] M = some (.int (x.den * y.den), M) := fun M z6 z7 => op_of rfl rfl (mul_int m3)
  have pAC : ∀ (M : Mh) (z6 z7 : Option D), eOp gMul (eVar 2) (eVar 4) [some (R x), some (R y), some (.int x.num), some (.int x.den), some (.int y.num), some (.int y.den), z6, z7] M = some (.int (x.num * y.num), M) := fun M z6 z7 => op_of rfl rfl (mul_int m4)
  have pBC : ∀ (M : Mh) (z6 z7 : Option D), eOp gMul (eVar 3) (eVar 4) [some (R x), some (R y), some (.int x.num), some (.int x.den), some (.int y.num), some (.int y.den), z6, z7] M = some (.int (x.den * y.num), M) := fun M z6 z7 => op_of rfl rfl (mul_int m5)
  have p2BD : ∀ (M : Mh) (z6 z7 : Option D), eOp gMul (eOp gMul (eC (.int 2)) (eVar 3)) (eVar 5) [some (R x), some (R y), some (.int x.num), some (.int x.den), some (.int y.num), some (.int y.den), z6, z7] M = some (.int (2 * x.den * y.den), M) := fun M z6 z7 => op_of (op_of x_eC rfl (mul_int m6)) rfl (mul_int m7)
  have both : ∀ (M : Mh) (z6 z7 : Option D), aCons (eVar 0) (aCons (eVar 1) aNil) [some (R x), some (R y), some (.int x.num), some (.int x.den), some (.int y.num), some (.int y.den), z6, z7] M = some ([R x, R y], M) := fun M z6 z7 => cons_of rfl (cons_of rfl x_aNil)
  have lt1 : decide (x.num * y.den < y.num * x.den) = decide (x < y) := by rw [decide_eq_decide, Rat.lt_iff]
  have lt2 : decide (y.num * x.den < x.num * y.den) = decide (y < x) := by rw [decide_eq_decide, Rat.lt_iff]
  have fl : x.num.fdiv x.den = x.floor := by rw [Rat.floor_def, Int.fdiv_eq_ediv_of_nonneg _ (by omega)]
  have oF : DivOk x.num (x.den : Int) := dOk (den0 x) (up8 (szd hx) (by omega))
  have rest : ∀ M : Mh, (sSeq (sIf (tOrr (tV (eOp (gEq fun p q => !PyData.eqv p q) (eCall ff_mean (aCons (eVar 0) (aCons (eVar 1) aNil)) []) (eCall ff_law_lowest (aCons (eOp gAdd (eOp gMul (eVar 2) (eVar 5)) (eOp gMul (eVar 4) (eVar 3))) (aCons (eOp gMul (eOp gMul (eC (.int 2)) (eVar 3)) (eVar 5)) aNil)) []))) (tV (eOp (gEq fun p q => !PyData.eqv p q) (eCall ff_floor_of (aCons (eVar 0) aNil) []) (eOp (gIntC DivOk fun i j => .int (i.fdiv j)) (eVar 2) (eVar 3))))) (sRet (eC (.bl false))) sNil) (sSeq (sAs (eIf (tV (eOp (gInt fun i j => .bl (decide (i < j))) (eOp gMul (eVar 2) (eVar 5)) (eOp gMul (eVar 4) (eVar 3)))) (eUn gNeg (eC (.int 1))) (eB gInt1 (aCons (eOp (gInt fun i j => .bl (decide (j < i))) (eOp gMul (eVar 2) (eVar 5)) (eOp gMul (eVar 4) (eVar 3))) aNil))) (gN 7)) (sRet (eOp (gEq PyData.eqv) (eB gRepr (aCons (eLst (aCons (eCall ff_compared (aCons (eVar 0) (aCons (eVar 1) aNil)) []) (aCons (eCall ff_is_under (aCons (eVar 0) (aCons (eVar 1) aNil)) []) aNil))) aNil)) (eB gRepr (aCons (eLst (aCons (eVar 7) (aCons (eOp (gInt fun i j => .bl (decide (i < j))) (eVar 7) (eC (.int 0))) aNil))) aNil)))))) [some (R x), some (R y), some (.int x.num), some (.int x.den), some (.int y.num), some (.int y.den), some (.lst ([x + y, x - y, x * y].map R)), none] M = some (.rt (.bl true) M) := fun M => by
    refine seq_if0 (M1 := M) (or0 (M1 := M) (v_bl (op_of (call_of (both _ _ _) (mean_ok (i := 1) (j := 1) (by omega))) (call_of (cons_of (op_of (pAD _ _ _) (pCB _ _ _) add_int) (cons_of (p2BD _ _ _) x_aNil)) (l4 M)) ((ne_R _ _ M).trans (by rw [decide_eq_true rfl]; rfl)))) (v_bl (op_of (call_of (cons_of rfl x_aNil) (floor_ok (i := 1) (by omega))) (op_of rfl rfl (intC_of oF)) ((ne_int _ _ M).trans (by rw [decide_eq_true fl.symm]; rfl))))) ?_
    have cm : (cmpR x y).natAbs < 2 ^ 128 := by
      unfold cmpR
      split
      · decide
      · split <;> decide
    obtain ⟨s, so, es⟩ := repr_lst (L := [.int (cmpR x y), .bl (decide (x < y))]) (fun d hd => by
      simp only [List.mem_cons, List.not_mem_nil, or_false] at hd
      rcases hd with e | e <;> rw [e]
      · exact cm
      · exact trivial) (by simp)
    have ord : eIf (tV (eOp (gInt fun i j => .bl (decide (i < j))) (eOp gMul (eVar 2) (eVar 5)) (eOp gMul (eVar 4) (eVar 3)))) (eUn gNeg (eC (.int 1))) (eB gInt1 (aCons (eOp (gInt fun i j => .bl (decide (j < i))) (eOp gMul (eVar 2) (eVar 5)) (eOp gMul (eVar 4) (eVar 3))) aNil)) [some (R x), some (R y), some (.int x.num), some (.int x.den), some (.int y.num), some (.int y.den), some (.lst ([x + y, x - y, x * y].map R)), none] M = some (.int (cmpR x y), M) := by
      have t1 : tV (eOp (gInt fun i j => .bl (decide (i < j))) (eOp gMul (eVar 2) (eVar 5)) (eOp gMul (eVar 4) (eVar 3))) [some (R x), some (R y), some (.int x.num), some (.int x.den), some (.int y.num), some (.int y.den), some (.lst ([x + y, x - y, x * y].map R)), none] M = some (decide (x < y), M) := by
        rw [← lt1]
        exact v_bl (op_of (pAD _ _ _) (pCB _ _ _) rfl)
      have t2 : eOp (gInt fun i j => .bl (decide (j < i))) (eOp gMul (eVar 2) (eVar 5)) (eOp gMul (eVar 4) (eVar 3)) [some (R x), some (R y), some (.int x.num), some (.int x.den), some (.int y.num), some (.int y.den), some (.lst ([x + y, x - y, x * y].map R)), none] M = some (.bl (decide (y < x)), M) := by
        rw [← lt2]
        exact op_of (pAD _ _ _) (pCB _ _ _) rfl
      unfold cmpR
      by_cases h : x < y
      · rw [decide_eq_true h] at t1
        rw [if_pos h]
        exact ei_tt t1 rfl
      · rw [decide_eq_false h] at t1
        rw [if_neg h]
        refine ei_ff t1 ?_
        rw [x_eB, cons_of t2 x_aNil]
        by_cases g : y < x
        · rw [decide_eq_true g, if_pos g]; rfl
        · rw [decide_eq_false g, if_neg g]; rfl
    refine seq_as (d := .int (cmpR x y)) (M1 := M) (δ' := [some (R x), some (R y), some (.int x.num), some (.int x.den), some (.int y.num), some (.int y.den), some (.lst ([x + y, x - y, x * y].map R)), some (.int (cmpR x y))]) ord rfl ?_
    have neg : decide (cmpR x y < 0) = decide (x < y) := by
      unfold cmpR
      by_cases h : x < y
      · rw [if_pos h, decide_eq_true h]; rfl
      · rw [if_neg h, decide_eq_false h]
        split <;> rfl
    refine ret_of (op_of (a := .str s) (b := .str s) (M1 := M) (M2 := M) ?_ ?_ ((eq_str so so M).trans (by rw [decide_eq_true rfl])))
    · rw [x_eB, cons_of (x_eLst (cons_of (call_of (both _ _ _) (compared_ok (i := 1) (j := 1) (by omega))) (cons_of (call_of (both _ _ _) (under_ok (i := 1) (j := 1) (by omega))) x_aNil)) (by simp)) x_aNil]
      exact es M
    · have t3 : eOp (gInt fun i j => .bl (decide (i < j))) (eVar 7) (eC (.int 0)) [some (R x), some (R y), some (.int x.num), some (.int x.den), some (.int y.num), some (.int y.den), some (.lst ([x + y, x - y, x * y].map R)), some (.int (cmpR x y))] M = some (.bl (decide (x < y)), M) := by
        rw [← neg]
        exact op_of rfl x_eC rfl
      rw [x_eB, cons_of (x_eLst (cons_of (d := .int (cmpR x y)) (M1 := M) rfl (cons_of t3 x_aNil)) (by simp)) x_aNil]
      exact es M
  have hd : ∀ {M' : Mh}, sSeq (sIf (tV (eOp (gEq fun p q => !PyData.eqv p q) (eCall (ff_law_over ct) (aCons (eVar 0) (aCons (eVar 1) aNil)) []) (eIf (tV (eOp (gEq PyData.eqv) (eVar 4) (eC (.int 0)))) (eLst (aCons (eC (.str "place")) (aCons (eC (.str "ours")) (aCons (eC (.str "value")) aNil)))) (eCall ff_law_lowest (aCons (eOp gMul (eVar 2) (eVar 5)) (aCons (eOp gMul (eVar 3) (eVar 4)) aNil)) [])))) (sRet (eC (.bl false))) sNil) (sSeq (sIf (tOrr (tV (eOp (gEq fun p q => !PyData.eqv p q) (eCall ff_mean (aCons (eVar 0) (aCons (eVar 1) aNil)) []) (eCall ff_law_lowest (aCons (eOp gAdd (eOp gMul (eVar 2) (eVar 5)) (eOp gMul (eVar 4) (eVar 3))) (aCons (eOp gMul (eOp gMul (eC (.int 2)) (eVar 3)) (eVar 5)) aNil)) []))) (tV (eOp (gEq fun p q => !PyData.eqv p q) (eCall ff_floor_of (aCons (eVar 0) aNil) []) (eOp (gIntC DivOk fun i j => .int (i.fdiv j)) (eVar 2) (eVar 3))))) (sRet (eC (.bl false))) sNil) (sSeq (sAs (eIf (tV (eOp (gInt fun i j => .bl (decide (i < j))) (eOp gMul (eVar 2) (eVar 5)) (eOp gMul (eVar 4) (eVar 3)))) (eUn gNeg (eC (.int 1))) (eB gInt1 (aCons (eOp (gInt fun i j => .bl (decide (j < i))) (eOp gMul (eVar 2) (eVar 5)) (eOp gMul (eVar 4) (eVar 3))) aNil))) (gN 7)) (sRet (eOp (gEq PyData.eqv) (eB gRepr (aCons (eLst (aCons (eCall ff_compared (aCons (eVar 0) (aCons (eVar 1) aNil)) []) (aCons (eCall ff_is_under (aCons (eVar 0) (aCons (eVar 1) aNil)) []) aNil))) aNil)) (eB gRepr (aCons (eLst (aCons (eVar 7) (aCons (eOp (gInt fun i j => .bl (decide (i < j))) (eVar 7) (eC (.int 0))) aNil))) aNil)))))) [some (R x), some (R y), some (.int x.num), some (.int x.den), some (.int y.num), some (.int y.den), some (.lst ([x + y, x - y, x * y].map R)), none] M = some (.rt (.bl true) M') → ff_law_reckoned_right ct [R x, R y] M = some (.bl true, M') := fun {M'} e => by
    refine fn_rt ?_
    show gg_law_reckoned_right ct [some (R x), some (R y), none, none, none, none, none, none] M = _
    unfold gg_law_reckoned_right
    refine seq_as (d := .tup [R x, R y]) (M1 := M) (δ' := [some (R x), some (R y), some (.int x.num), some (.int x.den), some (.int y.num), some (.int y.den), none, none]) (x_eTup (cons_of rfl (cons_of rfl x_aNil)) (by simp)) rfl ?_
    refine seq_as (d := .lst ([x + y, x - y, x * y].map R)) (M1 := M) (δ' := [some (R x), some (R y), some (.int x.num), some (.int x.den), some (.int y.num), some (.int y.den), some (.lst ([x + y, x - y, x * y].map R)), none]) (x_eLst (cons_of (call_of (cons_of (op_of (pAD _ _ _) (pCB _ _ _) add_int) (cons_of (pBD _ _ _) x_aNil)) (l1 M)) (cons_of (call_of (cons_of (op_of (pAD _ _ _) (pCB _ _ _) rfl) (cons_of (pBD _ _ _) x_aNil)) (l2 M)) (cons_of (call_of (cons_of (pAC _ _ _) (cons_of (pBD _ _ _) x_aNil)) (l3 M)) x_aNil))) (by simp)) rfl ?_
    refine seq_if0 (M1 := M) (v_bl (op_of (a := .lst ([x + y, x - y, x * y].map R)) (M1 := M) (x_eLst (cons_of (call_of (both _ _ _) (plus_ok (i := 1) (j := 1) (by omega))) (cons_of (call_of (both _ _ _) (less_ok (i := 1) (j := 1) (by omega))) (cons_of (call_of (both _ _ _) (times_ok (i := 1) (j := 1) (by omega))) x_aNil))) (by simp)) rfl (ne_Rs [x + y, x - y, x * y] M))) ?_
    exact e
  have tst : ∀ M : Mh, tV (eOp (gEq PyData.eqv) (eVar 4) (eC (.int 0))) [some (R x), some (R y), some (.int x.num), some (.int x.den), some (.int y.num), some (.int y.den), some (.lst ([x + y, x - y, x * y].map R)), none] M = some (decide (y.num = 0), M) := fun M => v_bl (op_of rfl x_eC (eq_int _ _ _))
  by_cases h : y = 0
  · refine ⟨M ++ [MO.exc ct.OutOfPlace], hd ?_, .inr rfl⟩
    refine seq_if0 (M1 := M ++ [MO.exc ct.OutOfPlace]) (v_bl (op_of (call_of (both _ _ _) (lov_x hI (ov_0 h))) (ei_tt ((tst _).trans (by rw [decide_eq_true (Rat.num_eq_zero.mpr h)])) lst_told3) (ne_told3 _))) (rest _)
  · have hn : y.num ≠ 0 := fun z => h (Rat.num_eq_zero.mp z)
    refine ⟨M, hd ?_, .inl rfl⟩
    have l5 : ff_law_lowest [.int (x.num * y.den), .int (x.den * y.num)] M = some (R (x / y), M) := by
      rw [← div_eq]
      exact llow_any (Int.mul_ne_zero (den0 x) hn) (up8 (i := 1 + 1) (by rw [Int.natAbs_mul]; exact mSz hx.den hy.num) (by omega)) M
    refine seq_if0 (M1 := M) (v_bl (op_of (call_of (both _ _ _) (lov_v (ov_v h))) (ei_ff ((tst _).trans (by rw [decide_eq_false hn])) (call_of (cons_of (pAD _ _ _) (cons_of (pBC _ _ _) x_aNil)) l5)) ((ne_R _ _ M).trans (by rw [decide_eq_true rfl]; rfl)))) (rest _)
end
end Law

namespace Law
open PySem L2 Pl
theorem len2 {xs : List D} {δ : Pl.Env} {M : Mh} {f : EF} (h : f δ M = some (.tup xs, M)) : eB gLen (aCons f aNil) δ M = some (.int (xs.length : Nat), M) := by
  rw [x_eB, cons_of h x_aNil]
  rfl
theorem ist {d : D} {t : String} {b : Bool} {M : Mh} {δ : Pl.Env} {f : EF} (h : f δ M = some (d, M)) (ht : tyN M d = some t) (k : kitB t "tuple" = some b) : tNt (tV (eB gIsi (aCons f (aCons (eC (.ty "tuple")) aNil)))) δ M = some (!b, M) := nt_of (v_bl (isi_of h ht k))
theorem isf_nt {d mo : D} {t : String} {M : Mh} (ht : tyN M d = some t) (k : kitB t "tuple" = some false) : ff_is_fraction [d, mo] M = some (.bl false, M) := by
  refine fn_rt ?_
  show gg_is_fraction [some d, some mo, none, none] M = _
  unfold gg_is_fraction
  exact seq_if1 (M1 := M) (or1 (ist rfl ht k)) (ret_of rfl)
theorem isf_len {xs : List D} {mo : D} {M : Mh} (h : xs.length ≠ 2) : ff_is_fraction [.tup xs, mo] M = some (.bl false, M) := by
  refine fn_rt ?_
  show gg_is_fraction [some (.tup xs), some mo, none, none] M = _
  unfold gg_is_fraction
  refine seq_if1 (M1 := M) (or0 (M1 := M) (ist (t := "tuple") (b := true) rfl rfl (by decide +kernel)) (v_bl (op_of (len2 rfl) x_eC ((ne_int _ _ _).trans (by rw [decide_eq_false (by omega)]; rfl))))) (ret_of rfl)
theorem isf_pre {a b mo : D} {M : Mh} {r : Option Out} (k : sSeq (sIf (tOrr (tNt (tV (eCall ff_is_whole (aCons (eVar 2) aNil) []))) (tOrr (tNt (tV (eCall ff_is_whole (aCons (eVar 3) aNil) []))) (tV (eOp (gInt fun i j => .bl (decide (i < j))) (eVar 3) (eC (.int 1)))))) (sRet (eC (.bl false))) sNil) (sSeq (sIf (tV (eOp (gEq fun p q => !PyData.eqv p q) (eB (gL2 fun i j => .int ((Nat.gcd i.natAbs j.natAbs : Nat) : Int)) (aCons (eVar 2) (aCons (eVar 3) aNil))) (eC (.int 1)))) (sRet (eC (.bl false))) sNil) (sSeq (sIf (tV (eOp (gIsN fun b => b) (eVar 1) (eC .non))) (sRet (eC (.bl true))) sNil) (sRet (eAn (eCall ff_is_whole (aCons (eVar 1) aNil) []) (eAn (eOp (gInt fun i j => .bl (decide (i ≤ j))) (eB (gL1 fun i => .int (if i < 0 then -i else i)) (aCons (eVar 2) aNil)) (eVar 1)) (eOp (gInt fun i j => .bl (decide (i ≤ j))) (eVar 3) (eVar 1))))))) [some (.tup [a, b]), some mo, some a, some b] M = r) : gg_is_fraction [some (.tup [a, b]), some mo, none, none] M = r := by
  unfold gg_is_fraction
  refine seq_if0 (M1 := M) (or0 (M1 := M) (ist (t := "tuple") (b := true) rfl rfl (by decide +kernel)) (v_bl (op_of (len2 rfl) x_eC ((ne_int _ _ _).trans (by rw [decide_eq_true (by rfl)]; rfl))))) ?_
  exact seq_as (d := .tup [a, b]) (M1 := M) (δ' := [some (.tup [a, b]), some mo, some a, some b]) rfl rfl k
theorem isf_top {a b mo : D} {M : Mh} (h : Odd M a) : ff_is_fraction [.tup [a, b], mo] M = some (.bl false, M) := by
  refine fn_rt ?_
  show gg_is_fraction [some (.tup [a, b]), some mo, none, none] M = _
  refine isf_pre ?_
  exact seq_if1 (M1 := M) (or1 (nt_of (b := false) (v_bl (call_of (cons_of rfl x_aNil) (odd_whole h))))) (ret_of rfl)
theorem isf_bot {i : Int} {b mo : D} {M : Mh} (h : Odd M b) : ff_is_fraction [.tup [.int i, b], mo] M = some (.bl false, M) := by
  refine fn_rt ?_
  show gg_is_fraction [some (.tup [.int i, b]), some mo, none, none] M = _
  refine isf_pre ?_
  exact seq_if1 (M1 := M) (or0 (M1 := M) (nt_of (b := true) (v_bl (call_of (cons_of rfl x_aNil) (whole_int _ _)))) (or1 (nt_of (b := false) (v_bl (call_of (cons_of rfl x_aNil) (odd_whole h)))))) (ret_of rfl)
theorem isf_low {i j : Int} {mo : D} {M : Mh} (h : j < 1) : ff_is_fraction [.tup [.int i, .int j], mo] M = some (.bl false, M) := by
  refine fn_rt ?_
  show gg_is_fraction [some (.tup [.int i, .int j]), some mo, none, none] M = _
  refine isf_pre ?_
  have t : tV (eOp (gInt fun i j => .bl (decide (i < j))) (eVar 3) (eC (.int 1))) [some (.tup [.int i, .int j]), some mo, some (.int i), some (.int j)] M = some (decide (j < 1), M) := v_bl (op_of rfl x_eC rfl)
  exact seq_if1 (M1 := M) (or0 (M1 := M) (nt_of (b := true) (v_bl (call_of (cons_of rfl x_aNil) (whole_int _ _)))) (or0 (M1 := M) (nt_of (b := true) (v_bl (call_of (cons_of rfl x_aNil) (whole_int _ _)))) (t.trans (by rw [decide_eq_true h])))) (ret_of rfl)
theorem isf_mid {i j : Int} {mo : D} {M : Mh} {r : Option Out} (h : 1 ≤ j) (k : sSeq (sIf (tV (eOp (gEq fun p q => !PyData.eqv p q) (eB (gL2 fun i j => .int ((Nat.gcd i.natAbs j.natAbs : Nat) : Int)) (aCons (eVar 2) (aCons (eVar 3) aNil))) (eC (.int 1)))) (sRet (eC (.bl false))) sNil) (sSeq (sIf (tV (eOp (gIsN fun b => b) (eVar 1) (eC .non))) (sRet (eC (.bl true))) sNil) (sRet (eAn (eCall ff_is_whole (aCons (eVar 1) aNil) []) (eAn (eOp (gInt fun i j => .bl (decide (i ≤ j))) (eB (gL1 fun i => .int (if i < 0 then -i else i)) (aCons (eVar 2) aNil)) (eVar 1)) (eOp (gInt fun i j => .bl (decide (i ≤ j))) (eVar 3) (eVar 1)))))) [some (.tup [.int i, .int j]), some mo, some (.int i), some (.int j)] M = r) : gg_is_fraction [some (.tup [.int i, .int j]), some mo, none, none] M = r := by
  refine isf_pre ?_
  have t : tV (eOp (gInt fun i j => .bl (decide (i < j))) (eVar 3) (eC (.int 1))) [some (.tup [.int i, .int j]), some mo, some (.int i), some (.int j)] M = some (decide (j < 1), M) := v_bl (op_of rfl x_eC rfl)
  exact seq_if0 (M1 := M) (or0 (M1 := M) (nt_of (b := true) (v_bl (call_of (cons_of rfl x_aNil) (whole_int _ _)))) (or0 (M1 := M) (nt_of (b := true) (v_bl (call_of (cons_of rfl x_aNil) (whole_int _ _)))) (t.trans (by rw [decide_eq_false (by omega)])))) k
theorem gcd_t {i j : Int} {mo : D} {M : Mh} : tV (eOp (gEq fun p q => !PyData.eqv p q) (eB (gL2 fun i j => .int ((Nat.gcd i.natAbs j.natAbs : Nat) : Int)) (aCons (eVar 2) (aCons (eVar 3) aNil))) (eC (.int 1))) [some (.tup [.int i, .int j]), some mo, some (.int i), some (.int j)] M = some (!decide (Nat.gcd i.natAbs j.natAbs = 1), M) := by
  have e : eB (gL2 fun i j => .int ((Nat.gcd i.natAbs j.natAbs : Nat) : Int)) (aCons (eVar 2) (aCons (eVar 3) aNil)) [some (.tup [.int i, .int j]), some mo, some (.int i), some (.int j)] M = some (.int ((Nat.gcd i.natAbs j.natAbs : Nat) : Int), M) := by
    rw [x_eB, cons_of (d := .int i) (M1 := M) rfl (cons_of (d := .int j) (M1 := M) rfl x_aNil)]
    rfl
  refine (v_bl (op_of e x_eC (ne_int _ _ _))).trans ?_
  congr 2
  by_cases h : Nat.gcd i.natAbs j.natAbs = 1
  · rw [decide_eq_true h, decide_eq_true (by omega)]
  · rw [decide_eq_false h, decide_eq_false (by omega)]
theorem isf_gcd {i j : Int} {mo : D} {M : Mh} (h : 1 ≤ j) (g : Nat.gcd i.natAbs j.natAbs ≠ 1) : ff_is_fraction [.tup [.int i, .int j], mo] M = some (.bl false, M) := by
  refine fn_rt ?_
  show gg_is_fraction [some (.tup [.int i, .int j]), some mo, none, none] M = _
  refine isf_mid h ?_
  exact seq_if1 (M1 := M) (gcd_t.trans (by rw [decide_eq_false g]; rfl)) (ret_of rfl)
theorem isf_int (i j : Int) (M : Mh) : ff_is_fraction [.tup [.int i, .int j], .non] M = some (.bl (decide (1 ≤ j) && decide (Nat.gcd i.natAbs j.natAbs = 1)), M) := by
  by_cases h : 1 ≤ j
  · by_cases g : Nat.gcd i.natAbs j.natAbs = 1
    · rw [decide_eq_true h, decide_eq_true g]
      refine fn_rt ?_
      show gg_is_fraction [some (.tup [.int i, .int j]), some .non, none, none] M = _
      refine isf_mid h ?_
      refine seq_if0 (M1 := M) (gcd_t.trans (by rw [decide_eq_true g]; rfl)) ?_
      exact seq_if1 (M1 := M) (v_bl (op_of rfl x_eC rfl)) (ret_of rfl)
    · rw [decide_eq_false g, Bool.and_false]
      exact isf_gcd h g
  · rw [decide_eq_false h, Bool.false_and]
    exact isf_low (by omega)
theorem isf_most {q : Rat} {m : Int} {M : Mh} : ff_is_fraction [R q, .int m] M = some (.bl (decide ((q.num.natAbs : Int) ≤ m) && decide ((q.den : Int) ≤ m)), M) := by
  have hd : (1 : Int) ≤ q.den := by have := q.den_pos; omega
  have g : Nat.gcd q.num.natAbs ((q.den : Int)).natAbs = 1 := q.reduced
  refine fn_rt ?_
  show gg_is_fraction [some (.tup [.int q.num, .int q.den]), some (.int m), none, none] M = _
  refine isf_mid hd ?_
  refine seq_if0 (M1 := M) (gcd_t.trans (by rw [decide_eq_true g]; rfl)) ?_
  refine seq_if0 (M1 := M) (v_bl (op_of rfl x_eC rfl)) (ret_of ?_)
  refine an_of1 (call_of (cons_of rfl x_aNil) (whole_int _ _)) ?_
  have ab : eB (gL1 fun i => .int (if i < 0 then -i else i)) (aCons (eVar 2) aNil) [some (.tup [.int q.num, .int q.den]), some (.int m), some (.int q.num), some (.int q.den)] M = some (.int (q.num.natAbs : Int), M) := by
    rw [x_eB, cons_of (d := .int q.num) (M1 := M) rfl x_aNil]
    simp only [gL1, Option.some.injEq, Prod.mk.injEq, D.int.injEq, and_true]
    omega
  have t1 : eOp (gInt fun i j => .bl (decide (i ≤ j))) (eB (gL1 fun i => .int (if i < 0 then -i else i)) (aCons (eVar 2) aNil)) (eVar 1) [some (.tup [.int q.num, .int q.den]), some (.int m), some (.int q.num), some (.int q.den)] M = some (.bl (decide ((q.num.natAbs : Int) ≤ m)), M) := op_of ab rfl rfl
  cases hb : decide ((q.num.natAbs : Int) ≤ m) with
  | true =>
    rw [hb] at t1
    rw [Bool.true_and]
    exact an_of1 t1 (op_of rfl rfl rfl)
  | false =>
    rw [hb] at t1
    rw [Bool.false_and]
    exact an_of0 t1
theorem low_same {t b : Int} (hb : 1 ≤ b) : ((Rat.divInt t b).num = t ∧ ((Rat.divInt t b).den : Int) = b) ↔ Nat.gcd t.natAbs b.natAbs = 1 := by
  constructor
  · intro ⟨h1, h2⟩
    have := (Rat.divInt t b).reduced
    rw [h1] at this
    rw [show b.natAbs = (Rat.divInt t b).den by omega]
    exact this
  · intro h
    have hb0 : b ≠ 0 := by omega
    have h' : Int.gcd b t = 1 := by rw [Int.gcd, Nat.gcd_comm]; exact h
    rw [Rat.num_divInt, Rat.den_divInt, if_neg hb0, h', Int.sign_eq_one_of_pos (by omega)]
    constructor
    · simp
    · simp
      omega
theorem div1 (t : Int) : R (Rat.divInt t 1) = .tup [.int t, .int 1] := by
  have h := (low_same (t := t) (b := 1) (by decide)).mpr (by simp)
  unfold R
  rw [h.1, h.2]
section
variable {ct : CT} {n : Nat} {M : Mh}
theorem par3_of {i j l : Nat} {f g h : EF} {δ : Pl.Env} {M M1 M2 M3 : Mh} {d e u : D} (h1 : f δ M = some (d, M1)) (h2 : g δ M1 = some (e, M2)) (h3 : h δ M2 = some (u, M3)) : sPar3 i j l f g h δ M = some (.nx (((δ.set i (some d)).set j (some e)).set l (some u)) M3) := by
  unfold sPar3; rw [h1]; dsimp only; rw [h2]; dsimp only; rw [h3]
theorem look_ok (hI : Isa ct) {B : Int} (h : At n B M) (hB : B < 2 ^ 57) : ∃ M', ff_law_looked_right ct [.ref n] M = some (.bl true, M') ∧ At n (B + 20) M' := by
  obtain ⟨f, M1, e1, a1, f0, f1⟩ := dg_of (fm := eC (.int 4000)) (δ := [some (.ref n), none, none, none, none, none, none]) rfl x_eC h (by omega) (by decide) (by decide)
  obtain ⟨g, M2, e2, a2, g0, g1⟩ := dg_of (M := M1) (fm := eC (.int 200)) (δ := [some (.ref n), none, none, none, none, none, none]) rfl x_eC a1 (by omega) (by decide) (by decide)
  obtain ⟨q, M3, e3, a3, q0, q1⟩ := dg_of (M := M2) (fm := eC (.int 7)) (δ := [some (.ref n), none, none, none, none, none, none]) rfl x_eC a2 (by omega) (by decide) (by decide)
  have ht : (f - 2000).natAbs < 2 ^ 20 := by omega
  have hb : (g - 60).natAbs < 2 ^ 20 := by omega
  have hp : 1 ≤ 1 + q ∧ 1 + q ≤ 7 := by omega
  have hpb : (1 + q).natAbs < 2 ^ 20 := by omega
  have par : sPar3 1 2 3 (eOp (gInt fun i j => .int (i - j)) (eCall ff_law_digit (aCons (eVar 0) (aCons (eC (.int 4000)) aNil)) []) (eC (.int 2000))) (eOp (gInt fun i j => .int (i - j)) (eCall ff_law_digit (aCons (eVar 0) (aCons (eC (.int 200)) aNil)) []) (eC (.int 60))) (eOp gAdd (eC (.int 1)) (eCall ff_law_digit (aCons (eVar 0) (aCons (eC (.int 7)) aNil)) [])) [some (.ref n), none, none, none, none, none, none] M = some (.nx [some (.ref n), some (.int (f - 2000)), some (.int (g - 60)), some (.int (1 + q)), none, none, none] M3) := par3_of (op_of e1 x_eC rfl) (op_of e2 x_eC rfl) (op_of x_eC e3 add_int)
  generalize f - 2000 = t at ht par
  generalize g - 60 = b at hb par
  generalize 1 + q = p at hp hpb par
  have at3 : ∀ {M' : Mh}, At n (B + 4 + 4 + 4) M' → At n (B + 20) M' := fun {M'} a => by
    obtain ⟨l, c, t', z1, z2, z3, z4⟩ := a
    exact ⟨l, c, t', z1, z2, z3, by omega⟩
  have mtp : Pl.MulOk t p := mulOk (a := 20) (b := 20) ht hpb (by decide)
  have mbp : Pl.MulOk b p := mulOk (a := 20) (b := 20) hb hpb (by decide)
  have tp : ∀ (M : Mh) (z4 z5 z6 : Option D), eOp gMul (eVar 1) (eVar 3) [some (.ref n), some (.int t), some (.int b), some (.int p), z4, z5, z6] M = some (.int (t * p), M) := fun M z4 z5 z6 => op_of rfl rfl (mul_int mtp)
  have bp : ∀ (M : Mh) (z4 z5 z6 : Option D), eOp gMul (eVar 2) (eVar 3) [some (.ref n), some (.int t), some (.int b), some (.int p), z4, z5, z6] M = some (.int (b * p), M) := fun M z4 z5 z6 => op_of rfl rfl (mul_int mbp)
  have tst : ∀ (M : Mh) (z4 z5 z6 : Option D), tV (eOp (gEq PyData.eqv) (eVar 2) (eC (.int 0))) [some (.ref n), some (.int t), some (.int b), some (.int p), z4, z5, z6] M = some (decide (b = 0), M) := fun M z4 z5 z6 => v_bl (op_of rfl x_eC (eq_int _ _ _))
  have pos : ∀ (M : Mh) (z4 z5 z6 : Option D), eOp (gInt fun i j => .bl (decide (j < i))) (eVar 2) (eC (.int 0)) [some (.ref n), some (.int t), some (.int b), some (.int p), z4, z5, z6] M = some (.bl (decide (0 < b)), M) := fun M z4 z5 z6 => op_of rfl x_eC rfl
  have tb : ∀ (M : Mh) (z4 z5 z6 : Option D), eTup (aCons (eVar 1) (aCons (eVar 2) aNil)) [some (.ref n), some (.int t), some (.int b), some (.int p), z4, z5, z6] M = some (.tup [.int t, .int b], M) := fun M z4 z5 z6 => x_eTup (cons_of rfl (cons_of rfl x_aNil)) (by simp)
  -- what is its own lowest form
  have own : ∀ (M : Mh) (z4 : Option D), eAn (eOp (gInt fun i j => .bl (decide (j < i))) (eVar 2) (eC (.int 0))) (eOp (gEq PyData.eqv) (eCall ff_law_lowest (aCons (eVar 1) (aCons (eVar 2) aNil)) []) (eTup (aCons (eVar 1) (aCons (eVar 2) aNil)))) [some (.ref n), some (.int t), some (.int b), some (.int p), z4, none, none] M = some (.bl (decide (1 ≤ b) && decide (Nat.gcd t.natAbs b.natAbs = 1)), M) := fun M z4 => by
    have p1 := pos M z4 none none
    by_cases h0 : 0 < b
    · rw [decide_eq_true h0] at p1
      rw [decide_eq_true (show 1 ≤ b by omega), Bool.true_and]
      refine an_of1 p1 (op_of (call_of (cons_of rfl (cons_of rfl x_aNil)) (llow_ok h0 (Nat.lt_of_lt_of_le hb (Nat.pow_le_pow_right (by decide) (by decide))) M)) (tb _ _ _ _) ?_)
      have e : gEq PyData.eqv (R (Rat.divInt t b)) (.tup [.int t, .int b]) M = some (.bl (decide ((Rat.divInt t b).num = t) && decide (((Rat.divInt t b).den : Int) = b)), M) := by
        show (if SeqAt.shaped (.tuple [.int (Rat.divInt t b).num, .int ((Rat.divInt t b).den : Int)]) && SeqAt.shaped (.tuple [.int t, .int b]) then some (D.bl (PyData.eqv (.tuple [.int (Rat.divInt t b).num, .int ((Rat.divInt t b).den : Int)]) (.tuple [.int t, .int b])), M) else none) = _
        have sh : ∀ u v : Int, SeqAt.shaped (.tuple [.int u, .int v]) = true := fun u v => by simp [SeqAt.shaped, PyData.canLay0, PyData.canLayAll0, PyData.depth, PyData.depthAll]
        rw [sh, sh]
        simp only [Bool.and_self, if_true, PyData.eqv, PyData.eqvAll, Bool.and_true]
        congr 3
      rw [e]
      have ls := low_same (t := t) (b := b) (by omega)
      by_cases k : Nat.gcd t.natAbs b.natAbs = 1
      · obtain ⟨k1, k2⟩ := ls.mpr k
        rw [decide_eq_true k1, decide_eq_true k2, decide_eq_true k]; rfl
      · rw [decide_eq_false k, ← Bool.decide_and, decide_eq_false (fun z => k (ls.mp z))]
    · rw [decide_eq_false h0] at p1
      rw [decide_eq_false (show ¬ 1 ≤ b by omega), Bool.false_and]
      exact an_of0 p1
  have pp : (decide (1 ≤ b * p) && decide (Nat.gcd (t * p).natAbs (b * p).natAbs = 1)) = ((decide (1 ≤ b) && decide (Nat.gcd t.natAbs b.natAbs = 1)) && decide (p = 1)) := by
    have hg : Nat.gcd (t * p).natAbs (b * p).natAbs = Nat.gcd t.natAbs b.natAbs * p.natAbs := by rw [Int.natAbs_mul, Int.natAbs_mul, Nat.gcd_mul_right]
    have e1 : decide (Nat.gcd (t * p).natAbs (b * p).natAbs = 1) = decide (Nat.gcd t.natAbs b.natAbs * p.natAbs = 1) := by rw [decide_eq_decide, hg]
    rw [e1]
    by_cases hp1 : p = 1
    · subst hp1
      simp
    · rw [decide_eq_false hp1, Bool.and_false]
      have : ¬ (Nat.gcd t.natAbs b.natAbs * p.natAbs = 1) := fun z => by
        have := Nat.dvd_one.mp ⟨Nat.gcd t.natAbs b.natAbs, by rw [Nat.mul_comm]; exact z.symm⟩
        omega
      rw [decide_eq_false this, Bool.and_false]
  generalize ho : (decide (1 ≤ b) && decide (Nat.gcd t.natAbs b.natAbs = 1)) = o at own pp
  have tail : ∀ (M' : Mh) (du : D), At n (B + 4 + 4 + 4) M' → (sSeq (sAs (eAn (eOp (gInt fun i j => .bl (decide (j < i))) (eVar 2) (eC (.int 0))) (eOp (gEq PyData.eqv) (eCall ff_law_lowest (aCons (eVar 1) (aCons (eVar 2) aNil)) []) (eTup (aCons (eVar 1) (aCons (eVar 2) aNil))))) (gN 5)) (sSeq (sAs (eLst (aCons (eCall ff_is_fraction (aCons (eTup (aCons (eVar 1) (aCons (eVar 2) aNil))) aNil) [.non]) (aCons (eCall ff_is_fraction (aCons (eTup (aCons (eOp gMul (eVar 1) (eVar 3)) (aCons (eOp gMul (eVar 2) (eVar 3)) aNil))) aNil) [.non]) aNil))) (gN 6)) (sRet (eOp (gEq PyData.eqv) (eB gRepr (aCons (eVar 6) aNil)) (eB gRepr (aCons (eLst (aCons (eVar 5) (aCons (eAn (eVar 5) (eOp (gEq PyData.eqv) (eVar 3) (eC (.int 1)))) aNil))) aNil)))))) [some (.ref n), some (.int t), some (.int b), some (.int p), some du, none, none] M' = some (.rt (.bl true) M') := fun M' du a => by
    refine seq_as (d := .bl o) (M1 := M') (δ' := [some (.ref n), some (.int t), some (.int b), some (.int p), some du, some (.bl o), none]) (own _ _) rfl ?_
    have i1 := isf_int t b M'
    rw [ho] at i1
    have i2 := isf_int (t * p) (b * p) M'
    rw [pp] at i2
    refine seq_as (d := .lst [.bl o, .bl (o && decide (p = 1))]) (M1 := M') (δ' := [some (.ref n), some (.int t), some (.int b), some (.int p), some du, some (.bl o), some (.lst [.bl o, .bl (o && decide (p = 1))])]) (x_eLst (cons_of (call_of (cons_of (tb _ _ _ _) x_aNil) i1) (cons_of (call_of (cons_of (x_eTup (cons_of (tp _ _ _ _) (cons_of (bp _ _ _ _) x_aNil)) (by simp)) x_aNil) i2) x_aNil)) (by simp)) rfl ?_
    obtain ⟨s, so, es⟩ := repr_lst (L := [.bl o, .bl (o && decide (p = 1))]) (fun d hd => by
      simp only [List.mem_cons, List.not_mem_nil, or_false] at hd
      rcases hd with e | e <;> rw [e] <;> exact trivial) (by simp)
    refine ret_of (op_of (a := .str s) (b := .str s) (M1 := M') (M2 := M') ?_ ?_ ((eq_str so so M').trans (by rw [decide_eq_true rfl])))
    · rw [x_eB, cons_of (d := .lst [.bl o, .bl (o && decide (p = 1))]) (M1 := M') rfl x_aNil]
      exact es M'
    · have a5 : eAn (eVar 5) (eOp (gEq PyData.eqv) (eVar 3) (eC (.int 1))) [some (.ref n), some (.int t), some (.int b), some (.int p), some du, some (.bl o), some (.lst [.bl o, .bl (o && decide (p = 1))])] M' = some (.bl (o && decide (p = 1)), M') := by
        cases o with
        | true => exact an_of1 rfl (op_of rfl x_eC (eq_int _ _ _))
        | false => exact an_of0 rfl
      rw [x_eB, cons_of (x_eLst (cons_of (d := .bl o) (M1 := M') rfl (cons_of a5 x_aNil)) (by simp)) x_aNil]
      exact es M'
  have fr : ∀ (M' : Mh) (du : D), tV (eOp (gEq fun p q => !PyData.eqv p q) (eCall ff_fraction (aCons (eVar 1) aNil) [(.int 1)]) (eTup (aCons (eVar 1) (aCons (eC (.int 1)) aNil)))) [some (.ref n), some (.int t), some (.int b), some (.int p), some du, none, none] M' = some (false, M') := fun M' du => by
    refine v_bl (op_of (call_of (cons_of rfl x_aNil) fra1_ok) (x_eTup (cons_of rfl (cons_of x_eC x_aNil)) (by simp)) ?_)
    rw [← div1]
    exact (ne_R _ _ M').trans (by rw [decide_eq_true rfl]; rfl)
  have fin : ∀ (M' : Mh), At n (B + 4 + 4 + 4) M' → gg_law_looked_right ct [some (.ref n), none, none, none, none, none, none] M = some (.rt (.bl true) M') → ∃ M', ff_law_looked_right ct [.ref n] M = some (.bl true, M') ∧ At n (B + 20) M' := fun M' a e => ⟨M', fn_rt e, at3 a⟩
  by_cases h0 : b = 0
  · refine fin (M3 ++ [MO.exc ct.OutOfPlace]) (a3.app _) ?_
    unfold gg_law_looked_right
    refine seq_nx par ?_
    refine seq_as (d := told3) (M1 := M3) (δ' := [some (.ref n), some (.int t), some (.int b), some (.int p), some told3, none, none]) (ei_tt ((tst _ _ _ _).trans (by rw [decide_eq_true h0])) lst_told3) rfl ?_
    have bp0 : eOp gMul (eVar 2) (eVar 3) [some (.ref n), some (.int t), some (.int b), some (.int p), some told3, none, none] M3 = some (.int 0, M3) := (bp _ _ _ _).trans (by rw [h0, Int.zero_mul])
    refine seq_if0 (M1 := M3 ++ [MO.exc ct.OutOfPlace]) (or0 (M1 := M3 ++ [MO.exc ct.OutOfPlace]) (v_bl (op_of (call_of (cons_of (tp _ _ _ _) (cons_of bp0 x_aNil)) (told_x hI fra_0)) rfl (ne_told3 _))) (fr _ _)) ?_
    exact tail _ _ (a3.app _)
  · refine fin M3 a3 ?_
    have hb8 : b.natAbs < 2 ^ 8000 := Nat.lt_of_lt_of_le hb (Nat.pow_le_pow_right (by decide) (by decide))
    have hbp : (b * p).natAbs < 2 ^ 8000 := by
      rw [Int.natAbs_mul]
      exact Nat.lt_of_lt_of_le (Nat.mul_lt_mul'' hb hpb) (by rw [← Nat.pow_add]; exact Nat.pow_le_pow_right (by decide) (by decide))
    have ne : b * p ≠ 0 := Int.mul_ne_zero h0 (by omega)
    have e : Rat.divInt (t * p) (b * p) = Rat.divInt t b := Rat.divInt_mul_right (by omega)
    unfold gg_law_looked_right
    refine seq_nx par ?_
    refine seq_as (d := R (Rat.divInt t b)) (M1 := M3) (δ' := [some (.ref n), some (.int t), some (.int b), some (.int p), some (R (Rat.divInt t b)), none, none]) (ei_ff ((tst _ _ _ _).trans (by rw [decide_eq_false h0])) (call_of (cons_of rfl (cons_of rfl x_aNil)) (llow_any h0 hb8 M3))) rfl ?_
    refine seq_if0 (M1 := M3) (or0 (M1 := M3) (v_bl (op_of (call_of (cons_of (tp _ _ _ _) (cons_of (bp _ _ _ _) x_aNil)) (told_v (fra_v ne hbp))) rfl ((ne_R _ _ M3).trans (by rw [decide_eq_true e]; rfl)))) (fr _ _)) ?_
    exact tail _ _ a3
end
end Law

namespace Law
open PySem L2 Pl
theorem tyN_app {M : Mh} {d : D} {t : String} {m : MO} (h : tyN M d = some t) : tyN (M ++ [m]) d = some t := by
  cases d with
  | ref n =>
    unfold tyN at h ⊢
    dsimp only at h ⊢
    by_cases hn : n < M.length
    · rw [List.getElem?_append_left hn]
      exact h
    · rw [List.getElem?_eq_none (by omega)] at h
      cases h
  | _ => exact h
theorem Odd.app {M : Mh} {d : D} {m : MO} (h : Odd M d) : Odd (M ++ [m]) d := by
  obtain ⟨t, ht, k⟩ := h.ex
  exact ⟨t, tyN_app ht, k⟩
theorem odd_bl (b : Bool) (M : Mh) : Odd M (.bl b) := ⟨"bool", rfl, .inr ⟨by decide +kernel, by decide +kernel⟩⟩
section
variable {ct : CT} {n : Nat}
noncomputable def turnS (ct : CT) : SF := (sSeq (sPar 5 6 (eCall ff_law_fraction (aCons (eVar 3) aNil) []) (eCall ff_law_fraction (aCons (eVar 3) aNil) [])) (sSeq (sIf (tOrr (tNt (tV (eCall (ff_law_reckoned_right ct) (aCons (eVar 5) (aCons (eVar 6) aNil)) []))) (tNt (tV (eCall (ff_law_reckoned_right ct) (aCons (eVar 5) (aCons (eVar 5) aNil)) [])))) (sRet (eC (.bl false))) sNil) (sIf (tOrr (tV (eOp (gIsB fun b => !b) (eCall ff_is_fraction (aCons (eVar 5) aNil) [.non]) (eC (.bl true)))) (tNt (tV (eCall (ff_law_looked_right ct) (aCons (eVar 3) aNil) [])))) (sRet (eC (.bl false))) sNil)))
theorem At_or {B : Int} {M M' : Mh} {m : MO} (h : At n B M) (e : M' = M ∨ M' = M ++ [m]) : At n B M' := by
  rcases e with e | e <;> rw [e]
  · exact h
  · exact h.app _
theorem turn_ok (hI : Isa ct) {B : Int} {M : Mh} (h : At n B M) (hB : B < 2 ^ 56) (s0 s1 s2 s4 s5 s6 s7 s8 s9 s10 s11 : Option D) : ∃ (x y : Rat) (M' : Mh), Sz 1 x ∧ turnS ct [s0, s1, s2, some (.ref n), s4, s5, s6, s7, s8, s9, s10, s11] M = some (.nx [s0, s1, s2, some (.ref n), s4, some (R x), some (R y), s7, s8, s9, s10, s11] M') ∧ At n (B + 60) M' := by
  obtain ⟨x, M1, e1, a1, sx⟩ := frac_ok h (by omega)
  obtain ⟨y, M2, e2, a2, sy⟩ := frac_ok a1 (by omega)
  obtain ⟨M3, e3, k3⟩ := reck_ok hI (x := x) (y := y) (M := M2)
  have a3 := At_or a2 k3
  obtain ⟨M4, e4, k4⟩ := reck_ok hI (x := x) (y := x) (M := M3)
  have a4 := At_or a3 k4
  obtain ⟨M5, e5, a5⟩ := look_ok hI a4 (by omega)
  refine ⟨x, y, M5, sx, ?_, by
    obtain ⟨l, c, t', z1, z2, z3, z4⟩ := a5
    exact ⟨l, c, t', z1, z2, z3, by omega⟩⟩
  unfold turnS
  refine seq_nx (M1 := M2) (δ' := [s0, s1, s2, some (.ref n), s4, some (R x), some (R y), s7, s8, s9, s10, s11]) (par_of (call_of (cons_of rfl x_aNil) e1) (call_of (cons_of rfl x_aNil) e2)) ?_
  refine seq_if0 (M1 := M4) (or0 (M1 := M3) (nt_of (b := true) (v_bl (call_of (cons_of rfl (cons_of rfl x_aNil)) e3))) (nt_of (b := true) (v_bl (call_of (cons_of rfl (cons_of rfl x_aNil)) e4)))) ?_
  exact if_ff (M1 := M5) (or0 (M1 := M4) (v_bl (op_of (call_of (cons_of rfl x_aNil) isf_ok) x_eC rfl)) (nt_of (b := true) (v_bl (call_of (cons_of rfl x_aNil) e5)))) nil_of
noncomputable def oddE : EF := (eOp gIx (eLst (aCons (eC .non) (aCons (eC (.bl true)) (aCons (eC (.str "5")) (aCons (eLst aNil) (aCons (eTup (aCons (eC (.int 0)) aNil)) (aCons eDic0 (aCons (eLst (aCons (eC (.int 0)) (aCons (eC (.int 1)) aNil))) aNil)))))))) (eCall ff_law_digit (aCons (eVar 3) (aCons (eC (.int 7)) aNil)) []))
theorem set_ne {M : Mh} {n m : Nat} {x : MO} (h : m ≠ n) : (M.set n x)[m]? = M[m]? := List.getElem?_set_ne (Ne.symm h)
theorem digit_fr {M : Mh} {B many : Int} (h : At n B M) (hB : B < 2 ^ 58) (m0 : 0 < many) (m1 : many < 2 ^ 200) : ∃ (f : Int) (M' : Mh), ff_law_digit [.ref n, .int many] M = some (.int f, M') ∧ At n (B + 4) M' ∧ 0 ≤ f ∧ f < many ∧ ∀ m, m ≠ n → M'[m]? = M[m]? := by
  obtain ⟨l, c, t, hM, l0, t0, tB⟩ := h
  have om : DivOk l many := dOk (by omega) (Nat.lt_of_lt_of_le (m := 2 ^ 200) (by omega) (Nat.pow_le_pow_right (by decide) (by decide)))
  have tail : ∀ (l t : Int) (N : Mh) (x : Option D), N[n]? = some (dk l c t) → 0 ≤ l → 0 ≤ t → t ≤ B + 4 → ∃ (f : Int) (M' : Mh), sSeq (sAs (eOp (gIntC (fun _ j => j ≠ 0) fun i j => .int (i.fmod j)) (eOp gDget (eVar 0) (eC (.str "left"))) (eVar 1)) (gN 3)) (sSeq (sDput (eVar 0) (eC (.str "left")) (eOp (gIntC DivOk fun i j => .int (i.fdiv j)) (eOp gDget (eVar 0) (eC (.str "left"))) (eVar 1))) (sRet (eVar 3))) [some (.ref n), some (.int many), x, none] N = some (.rt (.int f) M') ∧ At n (B + 4) M' ∧ 0 ≤ f ∧ f < many ∧ ∀ m, m ≠ n → M'[m]? = N[m]? := fun l t N x hN l0 t0 tB => by
    have om : DivOk l many := ⟨om.1, om.2⟩
    have hf := fm (a := l) m0
    refine ⟨l.fmod many, N.set n (dk (l.fdiv many) c t), ?_, ⟨l.fdiv many, c, t, set_at hN, ?_, t0, tB⟩, hf.1, hf.2, fun m hm => set_ne hm⟩
    · exact seq_as (M1 := N) (δ' := [some (.ref n), some (.int many), x, some (.int (l.fmod many))]) (op_of (op_of rfl rfl (get_l hN)) rfl (intC_of (by omega))) rfl (seq_nx (put_of (op_of (op_of rfl rfl (get_l hN)) rfl (intC_of om)) rfl rfl (put_l hN)) (ret_of rfl))
    · exact Int.fdiv_nonneg l0 (by omega)
  have tst : tV (eOp (gEq PyData.eqv) (eOp gDget (eVar 0) (eC (.str "left"))) (eC (.int 0))) [some (.ref n), some (.int many), none, none] M = some (decide (l = 0), M) := v_bl (op_of (op_of rfl rfl (get_l hM)) rfl (eq_int _ _ _))
  by_cases hl : l = 0
  · subst hl
    obtain ⟨l', e1, p1⟩ := fill_ok hM t0 (by omega) (some (.int many)) none none
    obtain ⟨f, M', e2, p2, p3, p4, p5⟩ := tail l' (t + 4) _ (some (.int 3)) (set_at hM) p1 (by omega) (by omega)
    refine ⟨f, M', fn_rt ?_, p2, p3, p4, fun m hm => (p5 m hm).trans (set_ne hm)⟩
    show gg_law_digit [some (.ref n), some (.int many), none, none] M = _
    unfold gg_law_digit
    exact seq_nx (if_tt (tst.trans (by rw [decide_eq_true rfl])) e1) e2
  · obtain ⟨f, M', e2, p2⟩ := tail l t M none hM l0 t0 (by omega)
    refine ⟨f, M', fn_rt ?_, p2⟩
    show gg_law_digit [some (.ref n), some (.int many), none, none] M = _
    unfold gg_law_digit
    exact seq_if0 (tst.trans (by rw [decide_eq_false hl])) e2
theorem dgc {M : Mh} {B many : Int} {δ : Pl.Env} {i : Nat} {fm : EF} {M1 : Mh} (h0 : δ[i]? = some (some (.ref n))) (hm : fm δ M = some (.int many, M1)) (h : At n B M1) (hB : B < 2 ^ 58) (m0 : 0 < many) (m1 : many < 2 ^ 200) : ∃ (f : Int) (M' : Mh), eCall ff_law_digit (aCons (eVar i) (aCons fm aNil)) [] δ M = some (.int f, M') ∧ At n (B + 4) M' ∧ 0 ≤ f ∧ f < many ∧ ∀ m, m ≠ n → M'[m]? = M1[m]? := by
  obtain ⟨f, M', e, p⟩ := digit_fr h hB m0 m1
  exact ⟨f, M', call_of (cons_of (by rw [x_eVar, h0]) (cons_of hm x_aNil)) e, p⟩
/-- what is_fraction says of a thing, whatever else is asked -/
def NoF (M : Mh) (d : D) : Prop := ∀ mo : D, ff_is_fraction [d, mo] M = some (.bl false, M)
theorem odd_ok {M : Mh} {B : Int} (h : At n B M) (hB : B < 2 ^ 56) (s0 s1 s2 s4 s5 s6 s7 s8 s9 s10 s11 : Option D) : ∃ (d : D) (M' : Mh), oddE [s0, s1, s2, some (.ref n), s4, s5, s6, s7, s8, s9, s10, s11] M = some (d, M') ∧ At n (B + 4) M' ∧ Odd M' d ∧ NoF M' d := by
  have hn : n < M.length := by
    obtain ⟨l, c, t, z, _⟩ := h
    exact (List.getElem?_eq_some_iff.mp z).1
  obtain ⟨i, M', e, a, i0, i1, fr⟩ := dgc (M := M ++ [.dic []]) (i := 3) (fm := eC (.int 7)) (δ := [s0, s1, s2, some (.ref n), s4, s5, s6, s7, s8, s9, s10, s11]) rfl x_eC (h.app _) (by omega) (by decide) (by decide)
  have lst : eLst (aCons (eC .non) (aCons (eC (.bl true)) (aCons (eC (.str "5")) (aCons (eLst aNil) (aCons (eTup (aCons (eC (.int 0)) aNil)) (aCons eDic0 (aCons (eLst (aCons (eC (.int 0)) (aCons (eC (.int 1)) aNil))) aNil))))))) [s0, s1, s2, some (.ref n), s4, s5, s6, s7, s8, s9, s10, s11] M = some (.lst [.non, .bl true, .str "5", .lst [], .tup [.int 0], .ref M.length, .lst [.int 0, .int 1]], M ++ [.dic []]) :=
    x_eLst (cons_of x_eC (cons_of x_eC (cons_of x_eC (cons_of (x_eLst x_aNil (by simp)) (cons_of (x_eTup (cons_of x_eC x_aNil) (by simp)) (cons_of rfl (cons_of (x_eLst (cons_of x_eC (cons_of x_eC x_aNil)) (by simp)) x_aNil))))))) (by simp)
  have md : M'[M.length]? = some (.dic []) := (fr M.length (by omega)).trans (by simp)
  have : i = 0 ∨ i = 1 ∨ i = 2 ∨ i = 3 ∨ i = 4 ∨ i = 5 ∨ i = 6 := by omega
  have go : ∀ d, gIx (.lst [.non, .bl true, .str "5", .lst [], .tup [.int 0], .ref M.length, .lst [.int 0, .int 1]]) (.int i) M' = some (d, M') → oddE [s0, s1, s2, some (.ref n), s4, s5, s6, s7, s8, s9, s10, s11] M = some (d, M') := fun d hd => op_of lst e hd
  rcases this with z | z | z | z | z | z | z <;> rw [z] at go
  · exact ⟨.non, M', go _ rfl, a, ⟨"NoneType", rfl, .inl (by decide +kernel)⟩, fun mo => isf_nt (t := "NoneType") rfl (by decide +kernel)⟩
  · exact ⟨.bl true, M', go _ rfl, a, odd_bl _ _, fun mo => isf_nt (t := "bool") rfl (by decide +kernel)⟩
  · exact ⟨.str "5", M', go _ rfl, a, ⟨"str", rfl, .inl (by decide +kernel)⟩, fun mo => isf_nt (t := "str") rfl (by decide +kernel)⟩
  · exact ⟨.lst [], M', go _ rfl, a, ⟨"list", rfl, .inl (by decide +kernel)⟩, fun mo => isf_nt (t := "list") rfl (by decide +kernel)⟩
  · exact ⟨.tup [.int 0], M', go _ rfl, a, ⟨"tuple", rfl, .inl (by decide +kernel)⟩, fun mo => isf_len (by simp)⟩
  · exact ⟨.ref M.length, M', go _ rfl, a, ⟨"dict", by simp [tyN, md], .inl (by decide +kernel)⟩, fun mo => isf_nt (t := "dict") (by simp [tyN, md]) (by decide +kernel)⟩
  · exact ⟨.lst [.int 0, .int 1], M', go _ rfl, a, ⟨"list", rfl, .inl (by decide +kernel)⟩, fun mo => isf_nt (t := "list") rfl (by decide +kernel)⟩
theorem bad_go (M : Mh) (a0 a1 a2 a3 a4 a5 a6 a7 a8 a9 a10 a11 : Option D) : ∀ L : List D, (∀ d ∈ L, NoF M d) → lcGo (gN 11) (tV (eOp (gIsB fun b => !b) (eCall ff_is_fraction (aCons (eVar 11) aNil) [.non]) (eC (.bl false)))) (eVar 11) L [a0, a1, a2, a3, a4, a5, a6, a7, a8, a9, a10, a11] M = some ([], M)
  | [], _ => rfl
  | d :: L, h => by
    have e : tV (eOp (gIsB fun b => !b) (eCall ff_is_fraction (aCons (eVar 11) aNil) [.non]) (eC (.bl false))) [a0, a1, a2, a3, a4, a5, a6, a7, a8, a9, a10, some d] M = some (false, M) := v_bl (op_of (call_of (cons_of rfl x_aNil) (h d List.mem_cons_self .non)) x_eC rfl)
    unfold lcGo
    dsimp only [gN, List.set_cons_succ, List.set_cons_zero]
    rw [e]
    dsimp only
    exact bad_go M _ _ _ _ _ _ _ _ _ _ _ _ L fun q hq => h q (List.mem_cons_of_mem _ hq)
end
end Law

namespace Law
open PySem L2 Pl
noncomputable def cellS (ct : CT) : SF := (sSeq (sAs (eCall ff_law_draw (aCons (eVar 2) (aCons (eVar 1) aNil)) []) (gN 3)) (sSeq (sFor (aRng1 (aCons (eC (.int 4)) aNil)) (gN 4) (turnS ct)) (sSeq (sAs (eB (gL2 fun i j => .int (if j > i then j else i)) (aCons (eB (gL1 fun i => .int (if i < 0 then -i else i)) (aCons (eOp gIx (eVar 5) (eC (.int 0))) aNil)) (aCons (eOp gIx (eVar 5) (eC (.int 1))) aNil))) (gN 7)) (sSeq (sIf (tOrr (tV (eOp (gIsB fun b => !b) (eCallK ff_is_fraction (aCons (eVar 5) aNil) (aCons (eVar 7) aNil) kd_is_fraction_1_most) (eC (.bl true)))) (tV (eOp (gIsB fun b => !b) (eCallK ff_is_fraction (aCons (eVar 5) aNil) (aCons (eOp (gInt fun i j => .int (i - j)) (eVar 7) (eC (.int 1))) aNil) kd_is_fraction_1_most) (eC (.bl false))))) (sRet (eC (.bl false))) sNil) (sSeq (sAs oddE (gN 8)) (sSeq (sAs (eLst (aCons (eVar 8) (aCons (eTup (aCons (eVar 8) (aCons (eC (.int 1)) aNil))) (aCons (eTup (aCons (eC (.int 1)) (aCons (eVar 8) aNil))) (aCons (eTup (aCons (eC (.int 0)) (aCons (eC (.int 1)) (aCons (eC (.int 1)) aNil)))) (aCons (eTup (aCons (eC (.int 1)) aNil)) (aCons (eTup (aCons (eC (.int 0)) (aCons (eC (.int 2)) aNil))) (aCons (eTup (aCons (eC (.int 0)) (aCons (eC (.int 0)) aNil))) (aCons (eTup (aCons (eC (.int 0)) (aCons (eUn gNeg (eC (.int 1))) aNil))) (aCons (eTup (aCons (eC (.int 2)) (aCons (eC (.int 4)) aNil))) (aCons (eTup (aCons (eC (.int 1)) (aCons (eUn gNeg (eC (.int 1))) aNil))) (aCons (eTup (aCons (eC (.bl true)) (aCons (eC (.int 1)) aNil))) aNil)))))))))))) (gN 9)) (sSeq (sAs (eLc [11] (aItems (eOp gAdd (eVar 9) (eLst (aCons (eTup (aCons (eC (.int 0)) (aCons (eC (.bl true)) aNil))) aNil)))) (gN 11) (tV (eOp (gIsB fun b => !b) (eCall ff_is_fraction (aCons (eVar 11) aNil) [.non]) (eC (.bl false)))) (eVar 11)) (gN 10)) (sSeq (sIf (tOrr (tV (eOp (gEq fun p q => !PyData.eqv p q) (eVar 10) (eLst aNil))) (tV (eOp (gIsB fun b => !b) (eCallK ff_is_fraction (aCons (eVar 8) aNil) (aCons (eC (.int 9)) aNil) kd_is_fraction_1_most) (eC (.bl false))))) (sRet (eC (.bl false))) sNil) (sIf (tV (eOp (gEq fun p q => !PyData.eqv p q) (eLst (aCons (eCall (ff_law_told ct) (aCons (eVar 8) (aCons (eC (.int 3)) aNil)) []) (aCons (eCall (ff_law_told ct) (aCons (eC (.int 3)) (aCons (eVar 8) aNil)) []) aNil))) (eOp gMul (eLst (aCons (eLst (aCons (eC (.str "place")) (aCons (eC (.str "ours")) (aCons (eC (.str "value")) aNil)))) aNil)) (eC (.int 2))))) (sRet (eC (.bl false))) sNil)))))))))
theorem callK_of {F : Fn} {g gk : AF} {h : List D → List D → List D} {δ : Pl.Env} {M M1 M2 : Mh} {ds zs : List D} {r : Option (D × Mh)} (e : g δ M = some (ds, M1)) (k : gk δ M1 = some (zs, M2)) (f : F (h ds zs) M2 = r) : eCallK F g gk h δ M = r := by
  unfold eCallK; rw [e]; dsimp only; rw [k]; exact f
theorem ne_nil (M : Mh) : gEq (fun p q => !PyData.eqv p q) (.lst []) (.lst []) M = some (.bl false, M) := by
  have s1 : SeqAt.shaped (.list []) = true := by decide +kernel
  have s2 : PyData.eqv (.list []) (.list []) = true := by decide +kernel
  show (if SeqAt.shaped (.list []) && SeqAt.shaped (.list []) then some (D.bl (!PyData.eqv (.list []) (.list [])), M) else none) = _
  rw [s1, s2]
  rfl
def p3 : PyData := .list [.str "place", .str "ours", .str "value"]
theorem ne_two (M : Mh) : gEq (fun p q => !PyData.eqv p q) (.lst [told3, told3]) (.lst [told3, told3]) M = some (.bl false, M) := by
  have s1 : SeqAt.shaped (.list [p3, p3]) = true := by decide +kernel
  have s2 : PyData.eqv (.list [p3, p3]) (.list [p3, p3]) = true := by decide +kernel
  show (if SeqAt.shaped (.list [p3, p3]) && SeqAt.shaped (.list [p3, p3]) then some (D.bl (!PyData.eqv (.list [p3, p3]) (.list [p3, p3])), M) else none) = _
  rw [s1, s2]
  rfl
theorem gMul_lst {xs : List D} {j : Int} {M : Mh} (h : -(2 ^ 63) ≤ j ∧ j < 2 ^ 63 ∧ xs.length * j.toNat ≤ sizeLine) : gMul (.lst xs) (.int j) M = some (.lst (List.replicate j.toNat xs).flatten, M) := if_pos h
section
variable {ct : CT}
theorem cell_ok (hI : Isa ct) {M : Mh} {k cl : Int} (k0 : 0 ≤ k) (k1 : k ≤ 1000) (s x3 x4 x5 x6 x7 x8 x9 x10 x11 : Option D) : ∃ (y3 y4 y5 y6 y7 y8 y9 y10 : Option D) (M' : Mh), cellS ct [s, some (.int k), some (.int cl), x3, x4, x5, x6, x7, x8, x9, x10, x11] M = some (.nx [s, some (.int k), some (.int cl), y3, y4, y5, y6, y7, y8, y9, y10, x11] M') := by
  obtain ⟨M1, e1, a1⟩ := draw_ok (M := M) (cell := cl) k0 k1
  obtain ⟨p, q, M2, _, e2, a2⟩ := turn_ok hI a1 (by decide) s (some (.int k)) (some (.int cl)) (some (.int 0)) x5 x6 x7 x8 x9 x10 x11
  obtain ⟨p2, q2, M3, _, e3, a3⟩ := turn_ok hI a2 (by decide) s (some (.int k)) (some (.int cl)) (some (.int 1)) (some (R p)) (some (R q)) x7 x8 x9 x10 x11
  obtain ⟨p3, q3, M4, _, e4, a4⟩ := turn_ok hI a3 (by decide) s (some (.int k)) (some (.int cl)) (some (.int 2)) (some (R p2)) (some (R q2)) x7 x8 x9 x10 x11
  obtain ⟨x, y, M5, sx, e5, a5⟩ := turn_ok hI a4 (by decide) s (some (.int k)) (some (.int cl)) (some (.int 3)) (some (R p3)) (some (R q3)) x7 x8 x9 x10 x11
  have bd : ∃ b : Int, (x.num.natAbs : Int) ≤ b ∧ (x.den : Int) ≤ b ∧ (b = x.num.natAbs ∨ b = x.den) ∧ eB (gL2 fun i j => .int (if j > i then j else i)) (aCons (eB (gL1 fun i => .int (if i < 0 then -i else i)) (aCons (eOp gIx (eVar 5) (eC (.int 0))) aNil)) (aCons (eOp gIx (eVar 5) (eC (.int 1))) aNil)) [s, some (.int k), some (.int cl), some (.ref M.length), some (.int 3), some (R x), some (R y), x7, x8, x9, x10, x11] M5 = some (.int b, M5) := by
    have ab : eB (gL1 fun i => .int (if i < 0 then -i else i)) (aCons (eOp gIx (eVar 5) (eC (.int 0))) aNil) [s, some (.int k), some (.int cl), some (.ref M.length), some (.int 3), some (R x), some (R y), x7, x8, x9, x10, x11] M5 = some (.int (x.num.natAbs : Int), M5) := by
      rw [x_eB, cons_of (op_of (b := .int 0) rfl x_eC ix0) x_aNil]
      simp only [gL1, Option.some.injEq, Prod.mk.injEq, D.int.injEq, and_true]
      omega
    refine ⟨if (x.den : Int) > (x.num.natAbs : Int) then (x.den : Int) else (x.num.natAbs : Int), by split <;> omega, by split <;> omega, by split <;> simp, ?_⟩
    rw [x_eB, cons_of ab (cons_of (op_of (b := .int 1) rfl x_eC ix1) x_aNil)]
    rfl
  obtain ⟨b, b1, b2, b3, eb⟩ := bd
  obtain ⟨d, M6, e6, a6, od, nf⟩ := odd_ok a5 (by decide) s (some (.int k)) (some (.int cl)) (some (.int 3)) (some (R x)) (some (R y)) (some (.int b)) x8 x9 x10 x11
  refine ⟨some (.ref M.length), some (.int 3), some (R x), some (R y), some (.int b), some d, some (.lst [d, .tup [d, .int 1], .tup [.int 1, d], .tup [.int 0, .int 1, .int 1], .tup [.int 1], .tup [.int 0, .int 2], .tup [.int 0, .int 0], .tup [.int 0, .int (-1)], .tup [.int 2, .int 4], .tup [.int 1, .int (-1)], .tup [.bl true, .int 1]]), some (.lst []), (M6 ++ [MO.exc ct.OutOfPlace]) ++ [MO.exc ct.OutOfPlace], ?_⟩
  unfold cellS
  refine seq_as (M1 := M1) (δ' := [s, some (.int k), some (.int cl), some (.ref M.length), x4, x5, x6, x7, x8, x9, x10, x11]) (call_of (cons_of rfl (cons_of rfl x_aNil)) e1) rfl ?_
  refine seq_nx (M1 := M5) (δ' := [s, some (.int k), some (.int cl), some (.ref M.length), some (.int 3), some (R x), some (R y), x7, x8, x9, x10, x11]) ?_ ?_
  · have er : ∀ δ, aRng1 (aCons (eC (.int 4)) aNil) δ M1 = some ([.int 0, .int 1, .int 2, .int 3], M1) := fun δ => rfl
    unfold sFor
    rw [er]
    dsimp only [forGo, gN, List.set_cons_succ, List.set_cons_zero]
    rw [e2]
    dsimp only [forGo, gN, List.set_cons_succ, List.set_cons_zero]
    rw [e3]
    dsimp only [forGo, gN, List.set_cons_succ, List.set_cons_zero]
    rw [e4]
    dsimp only [forGo, gN, List.set_cons_succ, List.set_cons_zero]
    rw [e5]
  refine seq_as (d := .int b) (M1 := M5) (δ' := [s, some (.int k), some (.int cl), some (.ref M.length), some (.int 3), some (R x), some (R y), some (.int b), x8, x9, x10, x11]) eb rfl ?_
  have f1 : ff_is_fraction [R x, .int b] M5 = some (.bl true, M5) := by
    rw [isf_most, decide_eq_true b1, decide_eq_true b2]; rfl
  have f2 : ff_is_fraction [R x, .int (b - 1)] M5 = some (.bl false, M5) := by
    rw [isf_most]
    rcases b3 with e | e
    · rw [decide_eq_false (show ¬ (x.num.natAbs : Int) ≤ b - 1 by omega)]; rfl
    · rw [decide_eq_false (show ¬ (x.den : Int) ≤ b - 1 by omega), Bool.and_false]
  refine seq_if0 (M1 := M5) (or0 (M1 := M5) (v_bl (op_of (callK_of (ds := [R x]) (zs := [.int b]) (cons_of rfl x_aNil) (cons_of rfl x_aNil) f1) x_eC rfl)) (v_bl (op_of (callK_of (ds := [R x]) (zs := [.int (b - 1)]) (cons_of rfl x_aNil) (cons_of (op_of rfl x_eC rfl) x_aNil) f2) x_eC rfl))) ?_
  refine seq_as (d := d) (M1 := M6) (δ' := [s, some (.int k), some (.int cl), some (.ref M.length), some (.int 3), some (R x), some (R y), some (.int b), some d, x9, x10, x11]) e6 rfl ?_
  have v8 : ∀ (M : Mh) (z9 z10 : Option D), eVar 8 [s, some (.int k), some (.int cl), some (.ref M1.length), some (.int 3), some (R x), some (R y), some (.int b), some d, z9, z10, x11] M = some (d, M) := fun _ _ _ => rfl
  refine seq_as (d := .lst [d, .tup [d, .int 1], .tup [.int 1, d], .tup [.int 0, .int 1, .int 1], .tup [.int 1], .tup [.int 0, .int 2], .tup [.int 0, .int 0], .tup [.int 0, .int (-1)], .tup [.int 2, .int 4], .tup [.int 1, .int (-1)], .tup [.bl true, .int 1]]) (M1 := M6) (δ' := [s, some (.int k), some (.int cl), some (.ref M.length), some (.int 3), some (R x), some (R y), some (.int b), some d, some (.lst [d, .tup [d, .int 1], .tup [.int 1, d], .tup [.int 0, .int 1, .int 1], .tup [.int 1], .tup [.int 0, .int 2], .tup [.int 0, .int 0], .tup [.int 0, .int (-1)], .tup [.int 2, .int 4], .tup [.int 1, .int (-1)], .tup [.bl true, .int 1]]), x10, x11]) ?_ rfl ?_
  · have mi : ∀ δ : Pl.Env, eUn gNeg (eC (.int 1)) δ M6 = some (.int (-1), M6) := fun δ => rfl
    have t2 : ∀ {f g : EF} {a c : D} {δ : Pl.Env}, f δ M6 = some (a, M6) → g δ M6 = some (c, M6) → eTup (aCons f (aCons g aNil)) δ M6 = some (.tup [a, c], M6) := fun h1 h2 => x_eTup (cons_of h1 (cons_of h2 x_aNil)) (by show (2 : Nat) ≤ 1000; decide)
    exact x_eLst (cons_of rfl (cons_of (t2 rfl x_eC) (cons_of (t2 x_eC rfl) (cons_of (x_eTup (cons_of x_eC (cons_of x_eC (cons_of x_eC x_aNil))) (by simp)) (cons_of (x_eTup (cons_of x_eC x_aNil) (by simp)) (cons_of (t2 x_eC x_eC) (cons_of (t2 x_eC x_eC) (cons_of (t2 x_eC (mi _)) (cons_of (t2 x_eC x_eC) (cons_of (t2 x_eC (mi _)) (cons_of (t2 x_eC x_eC) x_aNil))))))))))) (by show (11 : Nat) ≤ 1000; decide)
  have all : ∀ e ∈ [d, .tup [d, .int 1], .tup [.int 1, d], .tup [.int 0, .int 1, .int 1], .tup [.int 1], .tup [.int 0, .int 2], .tup [.int 0, .int 0], .tup [.int 0, .int (-1)], .tup [.int 2, .int 4], .tup [.int 1, .int (-1)], .tup [.bl true, .int 1], .tup [.int 0, .bl true]], NoF M6 e := fun e he => by
    simp only [List.mem_cons, List.not_mem_nil, or_false] at he
    rcases he with e | e | e | e | e | e | e | e | e | e | e | e <;> rw [e]
    · exact nf
    · exact fun mo => isf_top od
    · exact fun mo => isf_bot od
    · exact fun mo => isf_len (by simp)
    · exact fun mo => isf_len (by simp)
    · exact fun mo => isf_gcd (by decide) (by decide)
    · exact fun mo => isf_low (by decide)
    · exact fun mo => isf_low (by decide)
    · exact fun mo => isf_gcd (by decide) (by decide)
    · exact fun mo => isf_low (by decide)
    · exact fun mo => isf_top (odd_bl _ _)
    · exact fun mo => isf_bot (odd_bl _ _)
  refine seq_as (d := .lst []) (M1 := M6) (δ' := [s, some (.int k), some (.int cl), some (.ref M.length), some (.int 3), some (R x), some (R y), some (.int b), some d, some (.lst [d, .tup [d, .int 1], .tup [.int 1, d], .tup [.int 0, .int 1, .int 1], .tup [.int 1], .tup [.int 0, .int 2], .tup [.int 0, .int 0], .tup [.int 0, .int (-1)], .tup [.int 2, .int 4], .tup [.int 1, .int (-1)], .tup [.bl true, .int 1]]), some (.lst []), x11]) ?_ rfl ?_
  · unfold eLc
    have ei : aItems (eOp gAdd (eVar 9) (eLst (aCons (eTup (aCons (eC (.int 0)) (aCons (eC (.bl true)) aNil))) aNil))) [s, some (.int k), some (.int cl), some (.ref M.length), some (.int 3), some (R x), some (R y), some (.int b), some d, some (.lst [d, .tup [d, .int 1], .tup [.int 1, d], .tup [.int 0, .int 1, .int 1], .tup [.int 1], .tup [.int 0, .int 2], .tup [.int 0, .int 0], .tup [.int 0, .int (-1)], .tup [.int 2, .int 4], .tup [.int 1, .int (-1)], .tup [.bl true, .int 1]]), x10, x11] M6 = some ([d, .tup [d, .int 1], .tup [.int 1, d], .tup [.int 0, .int 1, .int 1], .tup [.int 1], .tup [.int 0, .int 2], .tup [.int 0, .int 0], .tup [.int 0, .int (-1)], .tup [.int 2, .int 4], .tup [.int 1, .int (-1)], .tup [.bl true, .int 1], .tup [.int 0, .bl true]], M6) := by
      have ad := op_of (g := gAdd) (fa := eVar 9) (δ := [s, some (.int k), some (.int cl), some (.ref M.length), some (.int 3), some (R x), some (R y), some (.int b), some d, some (.lst [d, .tup [d, .int 1], .tup [.int 1, d], .tup [.int 0, .int 1, .int 1], .tup [.int 1], .tup [.int 0, .int 2], .tup [.int 0, .int 0], .tup [.int 0, .int (-1)], .tup [.int 2, .int 4], .tup [.int 1, .int (-1)], .tup [.bl true, .int 1]]), x10, x11]) (M := M6) (M1 := M6) rfl (x_eLst (δ := [s, some (.int k), some (.int cl), some (.ref M.length), some (.int 3), some (R x), some (R y), some (.int b), some d, some (.lst [d, .tup [d, .int 1], .tup [.int 1, d], .tup [.int 0, .int 1, .int 1], .tup [.int 1], .tup [.int 0, .int 2], .tup [.int 0, .int 0], .tup [.int 0, .int (-1)], .tup [.int 2, .int 4], .tup [.int 1, .int (-1)], .tup [.bl true, .int 1]]), x10, x11]) (cons_of (x_eTup (cons_of (x_eC (d := .int 0)) (cons_of (x_eC (d := .bl true)) x_aNil)) (by simp)) x_aNil) (by simp)) (app_l (by simp))
      unfold aItems
      rw [ad]
      rfl
    rw [ei]
    dsimp only [wipeD, List.set_cons_succ, List.set_cons_zero]
    rw [bad_go M6 _ _ _ _ _ _ _ _ _ _ _ _ _ all]
    exact if_pos (Nat.zero_le _)
  refine seq_if0 (M1 := M6) (or0 (M1 := M6) (v_bl (op_of rfl (x_eLst x_aNil (by simp)) (ne_nil M6))) (v_bl (op_of (callK_of (ds := [d]) (zs := [.int 9]) (cons_of rfl x_aNil) (cons_of x_eC x_aNil) (nf (.int 9))) x_eC rfl))) ?_
  have mm : ∀ (δ : Pl.Env) (M : Mh), eOp gMul (eLst (aCons (eLst (aCons (eC (.str "place")) (aCons (eC (.str "ours")) (aCons (eC (.str "value")) aNil)))) aNil)) (eC (.int 2)) δ M = some (.lst [told3, told3], M) := fun δ M => op_of (x_eLst (cons_of lst_told3 x_aNil) (by simp)) x_eC ((gMul_lst ⟨by decide, by decide, by show (1 * 2 : Nat) ≤ sizeLine; decide⟩).trans rfl)
  exact if_ff (M1 := (M6 ++ [MO.exc ct.OutOfPlace]) ++ [MO.exc ct.OutOfPlace]) (v_bl (op_of (x_eLst (cons_of (call_of (cons_of rfl (cons_of x_eC x_aNil)) (told_x hI (fra_1 od))) (cons_of (call_of (cons_of x_eC (cons_of rfl x_aNil)) (told_x hI (fra_2 od.app))) x_aNil)) (by simp)) (mm _ _) (ne_two _))) nil_of
theorem cells_ok (hI : Isa ct) (s : Option D) : ∀ (L : List D), (∀ d ∈ L, ∃ k c : Int, d = .tup [.int k, .int c] ∧ 0 ≤ k ∧ k ≤ 1000) → ∀ (M : Mh) (x1 x2 x3 x4 x5 x6 x7 x8 x9 x10 x11 : Option D), ∃ (y1 y2 y3 y4 y5 y6 y7 y8 y9 y10 : Option D) (M' : Mh), forGo (gTp (gsCons (gN 1) (gsCons (gN 2) gsNil))) (cellS ct) L [s, x1, x2, x3, x4, x5, x6, x7, x8, x9, x10, x11] M = some (.nx [s, y1, y2, y3, y4, y5, y6, y7, y8, y9, y10, x11] M')
  | [], _, M, x1, x2, x3, x4, x5, x6, x7, x8, x9, x10, x11 => ⟨x1, x2, x3, x4, x5, x6, x7, x8, x9, x10, M, rfl⟩
  | d :: L, h, M, x1, x2, x3, x4, x5, x6, x7, x8, x9, x10, x11 => by
    obtain ⟨k, c, rfl, k0, k1⟩ := h d List.mem_cons_self
    obtain ⟨y3, y4, y5, y6, y7, y8, y9, y10, M1, e⟩ := cell_ok hI (M := M) (cl := c) k0 k1 s x3 x4 x5 x6 x7 x8 x9 x10 x11
    obtain ⟨z1, z2, z3, z4, z5, z6, z7, z8, z9, z10, M', e2⟩ := cells_ok hI s L (fun q hq => h q (List.mem_cons_of_mem _ hq)) M1 (some (.int k)) (some (.int c)) y3 y4 y5 y6 y7 y8 y9 y10 x11
    refine ⟨z1, z2, z3, z4, z5, z6, z7, z8, z9, z10, M', ?_⟩
    have g : gTp (gsCons (gN 1) (gsCons (gN 2) gsNil)) (.tup [.int k, .int c]) [s, x1, x2, x3, x4, x5, x6, x7, x8, x9, x10, x11] = some [s, some (.int k), some (.int c), x3, x4, x5, x6, x7, x8, x9, x10, x11] := rfl
    unfold forGo
    rw [g]
    dsimp only
    rw [e]
    exact e2
theorem ints_of1 : ∀ ns : List Int, intsOf (ns.map D.int) = some ns
  | [] => rfl
  | n :: ns => by rw [List.map_cons, intsOf, ints_of1 ns]
theorem truth (ct : CT) (hI : Isa ct) (ns : List Int) (hn : ns.length ≤ 63) : ∃ M', ff_law ct [.lsk (ns.map D.int)] [] = some (.bl true, M') := by
  have cut : ∃ ys : List Int, cutD (ns.map D.int) none (some 12) = ys.map D.int ∧ ys.length ≤ 12 := by
    refine ⟨ns.take 12, ?_, by rw [List.length_take]; omega⟩
    unfold cutD HT.sIx
    simp
  obtain ⟨ys, ey, ly⟩ := cut
  have sm : ∀ (r : Pl.Env) (M : Mh), eB gSum (aCons (eVar 0) aNil) (some (.lsk (ns.map D.int)) :: r) M = some (.int ns.sum, M) := fun r M => by
    rw [x_eB, cons_of (d := .lsk (ns.map D.int)) (M1 := M) rfl x_aNil]
    simp [gSum, lstOf, ints_of1]
  have s1 : eOp gAdd (eSl (eVar 0) pNone (pSome (eC (.int 12)))) (eLst (aCons (eB gSum (aCons (eVar 0) aNil)) aNil)) [some (.lsk (ns.map D.int)), none, none, none, none, none, none, none, none, none, none, none] [] = some (.lst (ys.map D.int ++ [.int ns.sum]), []) := by
    refine op_of (a := .lst (ys.map D.int)) (b := .lst [.int ns.sum]) (M1 := []) (M2 := []) ?_ (x_eLst (cons_of (sm _ _) x_aNil) (by simp)) ?_
    · have e0 : eVar 0 [some (.lsk (ns.map D.int)), none, none, none, none, none, none, none, none, none, none, none] [] = some (.lsk (ns.map D.int), []) := rfl
      have p1 : ∀ δ, pNone δ [] = some (none, []) := fun δ => rfl
      have p2 : ∀ δ, pSome (eC (.int 12)) δ [] = some (some 12, []) := fun δ => rfl
      unfold eSl
      rw [e0]
      dsimp only
      rw [p1]
      dsimp only
      rw [p2]
      dsimp only [lstOf]
      rw [ey]
    · show (if _ then _ else none) = _
      rw [if_pos (by rw [List.length_map]; exact Nat.le_trans (show _ ≤ 13 by simp; omega) (by decide))]
  have s2 : ∃ L : List D, aEnum (aCons (eOp gAdd (eSl (eVar 0) pNone (pSome (eC (.int 12)))) (eLst (aCons (eB gSum (aCons (eVar 0) aNil)) aNil))) aNil) [some (.lsk (ns.map D.int)), none, none, none, none, none, none, none, none, none, none, none] [] = some (L, []) ∧ ∀ d ∈ L, ∃ k c : Int, d = .tup [.int k, .int c] ∧ 0 ≤ k ∧ k ≤ 1000 := by
    unfold aEnum
    rw [cons_of s1 x_aNil]
    refine ⟨_, rfl, fun d hd => ?_⟩
    obtain ⟨⟨p, q⟩, hp, rfl⟩ := List.mem_map.mp hd
    obtain ⟨hp1, hp2⟩ := List.of_mem_zip hp
    obtain ⟨i, hi, rfl⟩ := List.mem_map.mp hp1
    have hi' := List.mem_range.mp hi
    rw [List.length_append, List.length_map] at hi'
    have hq : ∃ c : Int, q = .int c := by
      rcases List.mem_append.mp hp2 with z | z
      · obtain ⟨c, _, rfl⟩ := List.mem_map.mp z
        exact ⟨c, rfl⟩
      · exact ⟨_, List.mem_singleton.mp z⟩
    obtain ⟨c, rfl⟩ := hq
    exact ⟨i, c, rfl, by omega, by simp at hi'; omega⟩
  obtain ⟨L, e, hL⟩ := s2
  obtain ⟨y1, y2, y3, y4, y5, y6, y7, y8, y9, y10, M', ec⟩ := cells_ok hI (some (.lsk (ns.map D.int))) L hL [] none none none none none none none none none none none
  refine ⟨M', fn_rt ?_⟩
  show gg_law ct [some (.lsk (ns.map D.int)), none, none, none, none, none, none, none, none, none, none, none] [] = _
  unfold gg_law
  refine seq_nx (δ' := [some (.lsk (ns.map D.int)), y1, y2, y3, y4, y5, y6, y7, y8, y9, y10, none]) (M1 := M') ?_ ?_
  · unfold sFor
    rw [e]
    exact ec
  have f1 : ff_is_fraction [R 0, .int 1] M' = some (.bl true, M') := by
    rw [isf_most]; rfl
  have f2 : ff_is_fraction [R 0, .int 0] M' = some (.bl false, M') := by
    rw [isf_most]; rfl
  have c01 : ∀ δ : Pl.Env, eC (.tup [.int 0, .int 1]) δ M' = some (R 0, M') := fun δ => by rw [← r01]; exact x_eC
  refine ret_of (an_of1 (op_of (c01 _) tup01 ((eq_R' 0 0 M').trans (by rw [decide_eq_true rfl]))) (an_of1 (op_of (callK_of (ds := [R 0]) (zs := [.int 1]) (cons_of (c01 _) x_aNil) (cons_of x_eC x_aNil) f1) x_eC rfl) (op_of (callK_of (ds := [R 0]) (zs := [.int 0]) (cons_of tup01 x_aNil) (cons_of x_eC x_aNil) f2) x_eC rfl)))
end
end Law

namespace Law
open PySem L2 Pl
theorem ld_is_fraction_1 {P : Program} {w : World} {K : PySem.W.Frag} {mg : Str → Option Value} {base : Heap} {f : Addr} {fd : FuncData} (O : DFn P w K mg base 2 f fd ["thing", "most"] ff_is_fraction) (F : FF_is_fraction K f fd) (hm : mg "is_fraction" = some (.ref f)) : LkD P w K mg base "is_fraction" 2 ["thing", "most"] ff_is_fraction [.non] := by
  obtain ⟨ds, h1, h2⟩ := F.binds0 (ps := ["thing", "most"]) 1 (by simp) rfl (fun D doc pm an cdv ct us ks hu hk => match us, hu, ks, hk with | [_], _, [_], _ => ⟨_, _, _, _, _, _, rfl, rfl, rfl⟩)
  exact ⟨_, _, [.non], ds, O, hm, F.kp, h1, h2, fun _ _ => (.cons (.non) .nil)⟩
theorem lk_is_fraction_1_most {P : Program} {w : World} {K : PySem.W.Frag} {mg : Str → Option Value} {base : Heap} {f : Addr} {fd : FuncData} (O : DFn P w K mg base 2 f fd ["thing", "most"] ff_is_fraction) (F : FF_is_fraction K f fd) (hm : mg "is_fraction" = some (.ref f)) : LkK P w K mg base "is_fraction" 2 ["thing", "most"] ff_is_fraction 1 ["most"] kd_is_fraction_1_most := by
  obtain ⟨mv, h⟩ := F.kbinds0 (ps := ["thing", "most"]) 1 ["most"] [] (fun vs mz zs => vs ++ zs) (by simp) (fun q hq => nomatch hq) (fun h1 _ h3 => h1.append h3) (fun D doc pm an cdv ct us mv ws hu hm hw => match us, hu, mv, hm, ws, hw with | [_], _, [], _, [_], _ => rfl)
  exact ⟨⟨_, _, _, _, O, hm, F.kp, h, fun B ι vs ds zs es r1 r2 => r1.append r2⟩, fun ds zs h1 h2 => by simp [kd_is_fraction_1_most, h1, h2]⟩
theorem ld_fraction_1 {P : Program} {w : World} {K : PySem.W.Frag} {mg : Str → Option Value} {base : Heap} {f : Addr} {fd : FuncData} (O : DFn P w K mg base 2 f fd ["top", "bottom"] ff_fraction) (F : FF_fraction K f fd) (hm : mg "fraction" = some (.ref f)) : LkD P w K mg base "fraction" 2 ["top", "bottom"] ff_fraction [(.int 1)] := by
  obtain ⟨ds, h1, h2⟩ := F.binds1 (ps := ["top", "bottom"]) 1 0 (by simp) rfl (fun D kV doc pm an cdv ct us ks hu hk => match us, hu, ks, hk with | [_], _, [_], _ => ⟨_, rfl, rfl⟩)
  exact ⟨_, _, [(.int 1)], ds, O, hm, F.kp, h1, h2, fun _ _ => (.cons (.int _) .nil)⟩
theorem lx_fraction {P : Program} {w : World} {K : PySem.W.Frag} {mg : Str → Option Value} {base : Heap} {f : Addr} {fd : FuncData} (O : DFnX P w K mg base 2 f fd ["top", "bottom"] xx_fraction) (F : FF_fraction K f fd) (hm : mg "fraction" = some (.ref f)) : LkX P w K mg base "fraction" 2 ["top", "bottom"] xx_fraction := by
  obtain ⟨ds, h1, h2⟩ := F.binds1 (ps := ["top", "bottom"]) 2 1 (by simp) rfl (fun D kV doc pm an cdv ct us ks hu hk => match us, hu, ks, hk with | [_, _], _, [_], _ => ⟨_, rfl, rfl⟩)
  cases h1
  exact ⟨_, _, O, hm, F.kp, h2⟩
theorem all_mk {l : PySem.W.OpenLaw} {w : World} {K : PySem.W.Frag} {h : Heap} {mg : Str → Option Value} {fa : Addr} (X : K.In h) (G : h.Ns mainGlobals mg) (hfa : mg "law" = some (.ref fa))
    {a_NOUGHT : Addr} {o_NOUGHT : Obj} {i_NOUGHT : Array Value} {n_NOUGHT : Nat}
    {C_OutOfPlace : Addr}
    {C_BadSketch : Addr}
    {C_BadRow : Addr}
    {C_BadOutline : Addr}
    {C_BadBlock : Addr}
    {C_BadField : Addr}
    {C_BadFeature : Addr}
    {C_BadWay : Addr}
    {C_BadTools : Addr}
    {C_Clash : Addr}
    {C_BadPaper : Addr}
    {C_Twice : Addr}
    {C_NoPoint : Addr}
    {C_TooGreat : Addr}
    {C_NoFeature : Addr}
    {C_NoSaying : Addr}
    {C_Nothing : Addr}
    {C_NoTool : Addr}
    {C_Lifted : Addr}
    {C_NoToolThere : Addr}
    {C_Beyond : Addr}
    {C_Lowered : Addr}
    {C_TooDeep : Addr}
    {C_Blocked : Addr}
    {C_WorksError : Addr}
    {C_MissError : Addr}
    {C_FaultError : Addr}
    {f_is_whole : Addr} {od_is_whole an_is_whole : Option Addr} {sl_is_whole : Array (Option Value)} {oc_is_whole dc_is_whole pm_is_whole cd_is_whole ct_is_whole : Value}
    {kV_is_whole : Value}
    {f_is_fraction : Addr} {od_is_fraction an_is_fraction : Option Addr} {sl_is_fraction : Array (Option Value)} {oc_is_fraction dc_is_fraction pm_is_fraction cd_is_fraction ct_is_fraction : Value}
    {kD_is_fraction : Addr}
    {ku_is_fraction_most : Value}
    {f_lowest : Addr} {od_lowest an_lowest : Option Addr} {sl_lowest : Array (Option Value)} {oc_lowest dc_lowest pm_lowest cd_lowest ct_lowest : Value}
    {kV_lowest : Value}
    {f_fraction : Addr} {od_fraction an_fraction : Option Addr} {sl_fraction : Array (Option Value)} {oc_fraction dc_fraction pm_fraction cd_fraction ct_fraction : Value}
    {dT_fraction : Addr} {dO_fraction : Obj} {dI_fraction : Array Value} {dN_fraction : Nat}
    {kV_fraction : Value}
    {f_plus : Addr} {od_plus an_plus : Option Addr} {sl_plus : Array (Option Value)} {oc_plus dc_plus pm_plus cd_plus ct_plus : Value}
    {kV_plus : Value}
    {f_less : Addr} {od_less an_less : Option Addr} {sl_less : Array (Option Value)} {oc_less dc_less pm_less cd_less ct_less : Value}
    {kV_less : Value}
    {f_times : Addr} {od_times an_times : Option Addr} {sl_times : Array (Option Value)} {oc_times dc_times pm_times cd_times ct_times : Value}
    {kV_times : Value}
    {f_over : Addr} {od_over an_over : Option Addr} {sl_over : Array (Option Value)} {oc_over dc_over pm_over cd_over ct_over : Value}
    {kV_over : Value}
    {f_mean : Addr} {od_mean an_mean : Option Addr} {sl_mean : Array (Option Value)} {oc_mean dc_mean pm_mean cd_mean ct_mean : Value}
    {kV_mean : Value}
    {f_is_under : Addr} {od_is_under an_is_under : Option Addr} {sl_is_under : Array (Option Value)} {oc_is_under dc_is_under pm_is_under cd_is_under ct_is_under : Value}
    {kV_is_under : Value}
    {f_compared : Addr} {od_compared an_compared : Option Addr} {sl_compared : Array (Option Value)} {oc_compared dc_compared pm_compared cd_compared ct_compared : Value}
    {kV_compared : Value}
    {f_floor_of : Addr} {od_floor_of an_floor_of : Option Addr} {sl_floor_of : Array (Option Value)} {oc_floor_of dc_floor_of pm_floor_of cd_floor_of ct_floor_of : Value}
    {kV_floor_of : Value}
    {f_law_mixed : Addr} {od_law_mixed an_law_mixed : Option Addr} {sl_law_mixed : Array (Option Value)} {oc_law_mixed dc_law_mixed pm_law_mixed cd_law_mixed ct_law_mixed : Value}
    {kV_law_mixed : Value}
    {f_law_draw : Addr} {od_law_draw an_law_draw : Option Addr} {sl_law_draw : Array (Option Value)} {oc_law_draw dc_law_draw pm_law_draw cd_law_draw ct_law_draw : Value}
    {kV_law_draw : Value}
    {f_law_digit : Addr} {od_law_digit an_law_digit : Option Addr} {sl_law_digit : Array (Option Value)} {oc_law_digit dc_law_digit pm_law_digit cd_law_digit ct_law_digit : Value}
    {kV_law_digit : Value}
    {f_law_lowest : Addr} {od_law_lowest an_law_lowest : Option Addr} {sl_law_lowest : Array (Option Value)} {oc_law_lowest dc_law_lowest pm_law_lowest cd_law_lowest ct_law_lowest : Value}
    {kV_law_lowest : Value}
    {f_law_fraction : Addr} {od_law_fraction an_law_fraction : Option Addr} {sl_law_fraction : Array (Option Value)} {oc_law_fraction dc_law_fraction pm_law_fraction cd_law_fraction ct_law_fraction : Value}
    {kV_law_fraction : Value}
    {f_law_kinds : Addr} {od_law_kinds an_law_kinds : Option Addr} {sl_law_kinds : Array (Option Value)} {oc_law_kinds dc_law_kinds pm_law_kinds cd_law_kinds ct_law_kinds : Value}
    {kV_law_kinds : Value}
    {f_law_told : Addr} {od_law_told an_law_told : Option Addr} {sl_law_told : Array (Option Value)} {oc_law_told dc_law_told pm_law_told cd_law_told ct_law_told : Value}
    {kV_law_told : Value}
    {f_law_over : Addr} {od_law_over an_law_over : Option Addr} {sl_law_over : Array (Option Value)} {oc_law_over dc_law_over pm_law_over cd_law_over ct_law_over : Value}
    {kV_law_over : Value}
    {f_law_reckoned_right : Addr} {od_law_reckoned_right an_law_reckoned_right : Option Addr} {sl_law_reckoned_right : Array (Option Value)} {oc_law_reckoned_right dc_law_reckoned_right pm_law_reckoned_right cd_law_reckoned_right ct_law_reckoned_right : Value}
    {kV_law_reckoned_right : Value}
    {f_law_looked_right : Addr} {od_law_looked_right an_law_looked_right : Option Addr} {sl_law_looked_right : Array (Option Value)} {oc_law_looked_right dc_law_looked_right pm_law_looked_right cd_law_looked_right ct_law_looked_right : Value}
    {kV_law_looked_right : Value}
    {f_law : Addr} {od_law an_law : Option Addr} {sl_law : Array (Option Value)} {oc_law dc_law pm_law cd_law ct_law : Value}
    {kV_law : Value}
    (z_int : PySem.W.nsIn K mainGlobals "int" = some none)
    (z_isinstance : PySem.W.nsIn K mainGlobals "isinstance" = some none)
    (z_bool : PySem.W.nsIn K mainGlobals "bool" = some none)
    (z_tuple : PySem.W.nsIn K mainGlobals "tuple" = some none)
    (z_len : PySem.W.nsIn K mainGlobals "len" = some none)
    (z_abs : PySem.W.nsIn K mainGlobals "abs" = some none)
    (z_range : PySem.W.nsIn K mainGlobals "range" = some none)
    (z_ValueError : PySem.W.nsIn K mainGlobals "ValueError" = some none)
    (z_LookupError : PySem.W.nsIn K mainGlobals "LookupError" = some none)
    (z_RuntimeError : PySem.W.nsIn K mainGlobals "RuntimeError" = some none)
    (z_repr : PySem.W.nsIn K mainGlobals "repr" = some none)
    (z_enumerate : PySem.W.nsIn K mainGlobals "enumerate" = some none)
    (z_sum : PySem.W.nsIn K mainGlobals "sum" = some none)
    (z_max : PySem.W.nsIn K mainGlobals "max" = some none)
    (m_gcd : PySem.W.nsIn K mainGlobals "gcd" = some (some (.builtin "math.gcd")))
    (g_NOUGHT : PySem.W.nsIn K mainGlobals "NOUGHT" = some (some (.ref a_NOUGHT)))
    (l_NOUGHT : K.lookup a_NOUGHT = some o_NOUGHT) (c_NOUGHT : o_NOUGHT.cls = .type "tuple") (d_NOUGHT : o_NOUGHT.data = .seq i_NOUGHT n_NOUGHT) (v_NOUGHT : Vals [(.int 0), (.int 1)] i_NOUGHT.toList)
    (a_OutOfPlace : PySem.W.nsIn K mainGlobals "OutOfPlace" = some (some (.ref C_OutOfPlace)))
    (a_BadSketch : PySem.W.nsIn K mainGlobals "BadSketch" = some (some (.ref C_BadSketch)))
    (a_BadRow : PySem.W.nsIn K mainGlobals "BadRow" = some (some (.ref C_BadRow)))
    (a_BadOutline : PySem.W.nsIn K mainGlobals "BadOutline" = some (some (.ref C_BadOutline)))
    (a_BadBlock : PySem.W.nsIn K mainGlobals "BadBlock" = some (some (.ref C_BadBlock)))
    (a_BadField : PySem.W.nsIn K mainGlobals "BadField" = some (some (.ref C_BadField)))
    (a_BadFeature : PySem.W.nsIn K mainGlobals "BadFeature" = some (some (.ref C_BadFeature)))
    (a_BadWay : PySem.W.nsIn K mainGlobals "BadWay" = some (some (.ref C_BadWay)))
    (a_BadTools : PySem.W.nsIn K mainGlobals "BadTools" = some (some (.ref C_BadTools)))
    (a_Clash : PySem.W.nsIn K mainGlobals "Clash" = some (some (.ref C_Clash)))
    (a_BadPaper : PySem.W.nsIn K mainGlobals "BadPaper" = some (some (.ref C_BadPaper)))
    (a_Twice : PySem.W.nsIn K mainGlobals "Twice" = some (some (.ref C_Twice)))
    (a_NoPoint : PySem.W.nsIn K mainGlobals "NoPoint" = some (some (.ref C_NoPoint)))
    (a_TooGreat : PySem.W.nsIn K mainGlobals "TooGreat" = some (some (.ref C_TooGreat)))
    (a_NoFeature : PySem.W.nsIn K mainGlobals "NoFeature" = some (some (.ref C_NoFeature)))
    (a_NoSaying : PySem.W.nsIn K mainGlobals "NoSaying" = some (some (.ref C_NoSaying)))
    (a_Nothing : PySem.W.nsIn K mainGlobals "Nothing" = some (some (.ref C_Nothing)))
    (a_NoTool : PySem.W.nsIn K mainGlobals "NoTool" = some (some (.ref C_NoTool)))
    (a_Lifted : PySem.W.nsIn K mainGlobals "Lifted" = some (some (.ref C_Lifted)))
    (a_NoToolThere : PySem.W.nsIn K mainGlobals "NoToolThere" = some (some (.ref C_NoToolThere)))
    (a_Beyond : PySem.W.nsIn K mainGlobals "Beyond" = some (some (.ref C_Beyond)))
    (a_Lowered : PySem.W.nsIn K mainGlobals "Lowered" = some (some (.ref C_Lowered)))
    (a_TooDeep : PySem.W.nsIn K mainGlobals "TooDeep" = some (some (.ref C_TooDeep)))
    (a_Blocked : PySem.W.nsIn K mainGlobals "Blocked" = some (some (.ref C_Blocked)))
    (a_WorksError : PySem.W.nsIn K mainGlobals "WorksError" = some (some (.ref C_WorksError)))
    (a_MissError : PySem.W.nsIn K mainGlobals "MissError" = some (some (.ref C_MissError)))
    (a_FaultError : PySem.W.nsIn K mainGlobals "FaultError" = some (some (.ref C_FaultError)))
    (xe_OutOfPlace : PySem.W.excIn K C_OutOfPlace [.type "ValueError", .type "Exception", .type "BaseException", .type "object"] "ValueError.__new__" = true)
    (ke_OutOfPlace : PySem.W.keepIn K (.ref C_OutOfPlace) = true) (be_OutOfPlace : PySem.W.subIn K (.ref C_OutOfPlace) (.type "BaseException") = some true) (te_OutOfPlace : PySem.W.typeIn K (.ref C_OutOfPlace) = some (.type "type"))
    (q1_OutOfPlace : PySem.W.findIn K (.ref C_OutOfPlace) "__getattribute__" = some (some (.builtin "BaseException.__getattribute__"))) (q2_OutOfPlace : PySem.W.findIn K (.ref C_OutOfPlace) "__getattr__" = some none) (q3_OutOfPlace : PySem.W.hasDictIn K C_OutOfPlace = true)
    (q4_OutOfPlace : PySem.W.findIn K (.ref C_OutOfPlace) "__class__" = some (some (.builtin "object.__class__"))) (q7_OutOfPlace : PySem.W.mroIn K C_OutOfPlace (.type "object") = some true)
    (q5_ : PySem.W.specialIn K (.builtin "object.__class__") "__get__" = some (some (.builtin "getset_descriptor.__get__"))) (q6_ : PySem.W.takesIn K (.builtin "object.__class__") = some true)
    (hd_WorksError : PySem.W.hasDictIn K C_WorksError = true) (ht_WorksError : PySem.W.typeIn K (.ref C_WorksError) = some (.type "type"))
    (hd_BadSketch : PySem.W.hasDictIn K C_BadSketch = true) (ht_BadSketch : PySem.W.typeIn K (.ref C_BadSketch) = some (.type "type"))
    (hd_BadRow : PySem.W.hasDictIn K C_BadRow = true) (ht_BadRow : PySem.W.typeIn K (.ref C_BadRow) = some (.type "type"))
    (hd_BadOutline : PySem.W.hasDictIn K C_BadOutline = true) (ht_BadOutline : PySem.W.typeIn K (.ref C_BadOutline) = some (.type "type"))
    (hd_BadBlock : PySem.W.hasDictIn K C_BadBlock = true) (ht_BadBlock : PySem.W.typeIn K (.ref C_BadBlock) = some (.type "type"))
    (hd_BadField : PySem.W.hasDictIn K C_BadField = true) (ht_BadField : PySem.W.typeIn K (.ref C_BadField) = some (.type "type"))
    (hd_BadFeature : PySem.W.hasDictIn K C_BadFeature = true) (ht_BadFeature : PySem.W.typeIn K (.ref C_BadFeature) = some (.type "type"))
    (hd_BadWay : PySem.W.hasDictIn K C_BadWay = true) (ht_BadWay : PySem.W.typeIn K (.ref C_BadWay) = some (.type "type"))
    (hd_BadTools : PySem.W.hasDictIn K C_BadTools = true) (ht_BadTools : PySem.W.typeIn K (.ref C_BadTools) = some (.type "type"))
    (hd_Clash : PySem.W.hasDictIn K C_Clash = true) (ht_Clash : PySem.W.typeIn K (.ref C_Clash) = some (.type "type"))
    (hd_BadPaper : PySem.W.hasDictIn K C_BadPaper = true) (ht_BadPaper : PySem.W.typeIn K (.ref C_BadPaper) = some (.type "type"))
    (hd_OutOfPlace : PySem.W.hasDictIn K C_OutOfPlace = true) (ht_OutOfPlace : PySem.W.typeIn K (.ref C_OutOfPlace) = some (.type "type"))
    (hd_Twice : PySem.W.hasDictIn K C_Twice = true) (ht_Twice : PySem.W.typeIn K (.ref C_Twice) = some (.type "type"))
    (hd_NoPoint : PySem.W.hasDictIn K C_NoPoint = true) (ht_NoPoint : PySem.W.typeIn K (.ref C_NoPoint) = some (.type "type"))
    (hd_TooGreat : PySem.W.hasDictIn K C_TooGreat = true) (ht_TooGreat : PySem.W.typeIn K (.ref C_TooGreat) = some (.type "type"))
    (hd_NoFeature : PySem.W.hasDictIn K C_NoFeature = true) (ht_NoFeature : PySem.W.typeIn K (.ref C_NoFeature) = some (.type "type"))
    (hd_NoSaying : PySem.W.hasDictIn K C_NoSaying = true) (ht_NoSaying : PySem.W.typeIn K (.ref C_NoSaying) = some (.type "type"))
    (hd_Nothing : PySem.W.hasDictIn K C_Nothing = true) (ht_Nothing : PySem.W.typeIn K (.ref C_Nothing) = some (.type "type"))
    (hd_NoTool : PySem.W.hasDictIn K C_NoTool = true) (ht_NoTool : PySem.W.typeIn K (.ref C_NoTool) = some (.type "type"))
    (hd_Lifted : PySem.W.hasDictIn K C_Lifted = true) (ht_Lifted : PySem.W.typeIn K (.ref C_Lifted) = some (.type "type"))
    (hd_NoToolThere : PySem.W.hasDictIn K C_NoToolThere = true) (ht_NoToolThere : PySem.W.typeIn K (.ref C_NoToolThere) = some (.type "type"))
    (hd_Beyond : PySem.W.hasDictIn K C_Beyond = true) (ht_Beyond : PySem.W.typeIn K (.ref C_Beyond) = some (.type "type"))
    (hd_Lowered : PySem.W.hasDictIn K C_Lowered = true) (ht_Lowered : PySem.W.typeIn K (.ref C_Lowered) = some (.type "type"))
    (hd_TooDeep : PySem.W.hasDictIn K C_TooDeep = true) (ht_TooDeep : PySem.W.typeIn K (.ref C_TooDeep) = some (.type "type"))
    (hd_Blocked : PySem.W.hasDictIn K C_Blocked = true) (ht_Blocked : PySem.W.typeIn K (.ref C_Blocked) = some (.type "type"))
    (hd_MissError : PySem.W.hasDictIn K C_MissError = true) (ht_MissError : PySem.W.typeIn K (.ref C_MissError) = some (.type "type"))
    (hd_FaultError : PySem.W.hasDictIn K C_FaultError = true) (ht_FaultError : PySem.W.typeIn K (.ref C_FaultError) = some (.type "type"))
    (hb_WorksError : PySem.W.subIn K (.ref C_WorksError) (.type "BaseException") = some true)
    (s_OutOfPlace_WorksError : PySem.W.subIn K (.ref C_OutOfPlace) (.ref C_WorksError) = some true)
    (s_OutOfPlace_BadSketch : PySem.W.subIn K (.ref C_OutOfPlace) (.ref C_BadSketch) = some false)
    (s_OutOfPlace_BadRow : PySem.W.subIn K (.ref C_OutOfPlace) (.ref C_BadRow) = some false)
    (s_OutOfPlace_BadOutline : PySem.W.subIn K (.ref C_OutOfPlace) (.ref C_BadOutline) = some false)
    (s_OutOfPlace_BadBlock : PySem.W.subIn K (.ref C_OutOfPlace) (.ref C_BadBlock) = some false)
    (s_OutOfPlace_BadField : PySem.W.subIn K (.ref C_OutOfPlace) (.ref C_BadField) = some false)
    (s_OutOfPlace_BadFeature : PySem.W.subIn K (.ref C_OutOfPlace) (.ref C_BadFeature) = some false)
    (s_OutOfPlace_BadWay : PySem.W.subIn K (.ref C_OutOfPlace) (.ref C_BadWay) = some false)
    (s_OutOfPlace_BadTools : PySem.W.subIn K (.ref C_OutOfPlace) (.ref C_BadTools) = some false)
    (s_OutOfPlace_Clash : PySem.W.subIn K (.ref C_OutOfPlace) (.ref C_Clash) = some false)
    (s_OutOfPlace_BadPaper : PySem.W.subIn K (.ref C_OutOfPlace) (.ref C_BadPaper) = some false)
    (s_OutOfPlace_OutOfPlace : PySem.W.subIn K (.ref C_OutOfPlace) (.ref C_OutOfPlace) = some true)
    (s_OutOfPlace_Twice : PySem.W.subIn K (.ref C_OutOfPlace) (.ref C_Twice) = some false)
    (s_OutOfPlace_NoPoint : PySem.W.subIn K (.ref C_OutOfPlace) (.ref C_NoPoint) = some false)
    (s_OutOfPlace_TooGreat : PySem.W.subIn K (.ref C_OutOfPlace) (.ref C_TooGreat) = some false)
    (s_OutOfPlace_NoFeature : PySem.W.subIn K (.ref C_OutOfPlace) (.ref C_NoFeature) = some false)
    (s_OutOfPlace_NoSaying : PySem.W.subIn K (.ref C_OutOfPlace) (.ref C_NoSaying) = some false)
    (s_OutOfPlace_Nothing : PySem.W.subIn K (.ref C_OutOfPlace) (.ref C_Nothing) = some false)
    (s_OutOfPlace_NoTool : PySem.W.subIn K (.ref C_OutOfPlace) (.ref C_NoTool) = some false)
    (s_OutOfPlace_Lifted : PySem.W.subIn K (.ref C_OutOfPlace) (.ref C_Lifted) = some false)
    (s_OutOfPlace_NoToolThere : PySem.W.subIn K (.ref C_OutOfPlace) (.ref C_NoToolThere) = some false)
    (s_OutOfPlace_Beyond : PySem.W.subIn K (.ref C_OutOfPlace) (.ref C_Beyond) = some false)
    (s_OutOfPlace_Lowered : PySem.W.subIn K (.ref C_OutOfPlace) (.ref C_Lowered) = some false)
    (s_OutOfPlace_TooDeep : PySem.W.subIn K (.ref C_OutOfPlace) (.ref C_TooDeep) = some false)
    (s_OutOfPlace_Blocked : PySem.W.subIn K (.ref C_OutOfPlace) (.ref C_Blocked) = some false)
    (s_OutOfPlace_ValueError : PySem.W.subIn K (.ref C_OutOfPlace) (.type "ValueError") = some true)
    (s_OutOfPlace_LookupError : PySem.W.subIn K (.ref C_OutOfPlace) (.type "LookupError") = some false)
    (s_OutOfPlace_MissError : PySem.W.subIn K (.ref C_OutOfPlace) (.ref C_MissError) = some false)
    (s_OutOfPlace_RuntimeError : PySem.W.subIn K (.ref C_OutOfPlace) (.type "RuntimeError") = some false)
    (s_OutOfPlace_FaultError : PySem.W.subIn K (.ref C_OutOfPlace) (.ref C_FaultError) = some false)
    (a_is_whole : PySem.W.nsIn K mainGlobals "is_whole" = some (some (.ref f_is_whole)))
    (l_is_whole : K.lookup f_is_whole = some ⟨oc_is_whole, od_is_whole, .func (PySem.W.fnOf "is_whole" "is_whole" (defArgs ss_is_whole) (defBody ss_is_whole) (defScope ss_is_whole) .none kV_is_whole dc_is_whole pm_is_whole an_is_whole cd_is_whole ct_is_whole), sl_is_whole⟩)
    (c_is_whole : PySem.W.codeIn K cd_is_whole "is_whole" = true) (k_is_whole : PySem.W.keepIn K (.ref f_is_whole) = true)
    (a_is_fraction : PySem.W.nsIn K mainGlobals "is_fraction" = some (some (.ref f_is_fraction)))
    (l_is_fraction : K.lookup f_is_fraction = some ⟨oc_is_fraction, od_is_fraction, .func (PySem.W.fnOf "is_fraction" "is_fraction" (defArgs ss_is_fraction) (defBody ss_is_fraction) (defScope ss_is_fraction) .none (.ref kD_is_fraction) dc_is_fraction pm_is_fraction an_is_fraction cd_is_fraction ct_is_fraction), sl_is_fraction⟩)
    (c_is_fraction : PySem.W.codeIn K cd_is_fraction "is_fraction" = true) (k_is_fraction : PySem.W.keepIn K (.ref f_is_fraction) = true)
    (kd_is_fraction_most : PySem.W.nsIn K kD_is_fraction "most" = some (some ku_is_fraction_most)) (kr_is_fraction_most : RelV .non ku_is_fraction_most)
    (a_lowest : PySem.W.nsIn K mainGlobals "_lowest" = some (some (.ref f_lowest)))
    (l_lowest : K.lookup f_lowest = some ⟨oc_lowest, od_lowest, .func (PySem.W.fnOf "_lowest" "_lowest" (defArgs ss_lowest) (defBody ss_lowest) (defScope ss_lowest) .none kV_lowest dc_lowest pm_lowest an_lowest cd_lowest ct_lowest), sl_lowest⟩)
    (c_lowest : PySem.W.codeIn K cd_lowest "_lowest" = true) (k_lowest : PySem.W.keepIn K (.ref f_lowest) = true)
    (a_fraction : PySem.W.nsIn K mainGlobals "fraction" = some (some (.ref f_fraction)))
    (l_fraction : K.lookup f_fraction = some ⟨oc_fraction, od_fraction, .func (PySem.W.fnOf "fraction" "fraction" (defArgs ss_fraction) (defBody ss_fraction) (defScope ss_fraction) (.ref dT_fraction) kV_fraction dc_fraction pm_fraction an_fraction cd_fraction ct_fraction), sl_fraction⟩)
    (c_fraction : PySem.W.codeIn K cd_fraction "fraction" = true) (k_fraction : PySem.W.keepIn K (.ref f_fraction) = true)
    (dl_fraction : K.lookup dT_fraction = some dO_fraction) (dd_fraction : dO_fraction.data = .seq dI_fraction dN_fraction) (dv_fraction : Vals [(.int 1)] dI_fraction.toList)
    (a_plus : PySem.W.nsIn K mainGlobals "plus" = some (some (.ref f_plus)))
    (l_plus : K.lookup f_plus = some ⟨oc_plus, od_plus, .func (PySem.W.fnOf "plus" "plus" (defArgs ss_plus) (defBody ss_plus) (defScope ss_plus) .none kV_plus dc_plus pm_plus an_plus cd_plus ct_plus), sl_plus⟩)
    (c_plus : PySem.W.codeIn K cd_plus "plus" = true) (k_plus : PySem.W.keepIn K (.ref f_plus) = true)
    (a_less : PySem.W.nsIn K mainGlobals "less" = some (some (.ref f_less)))
    (l_less : K.lookup f_less = some ⟨oc_less, od_less, .func (PySem.W.fnOf "less" "less" (defArgs ss_less) (defBody ss_less) (defScope ss_less) .none kV_less dc_less pm_less an_less cd_less ct_less), sl_less⟩)
    (c_less : PySem.W.codeIn K cd_less "less" = true) (k_less : PySem.W.keepIn K (.ref f_less) = true)
    (a_times : PySem.W.nsIn K mainGlobals "times" = some (some (.ref f_times)))
    (l_times : K.lookup f_times = some ⟨oc_times, od_times, .func (PySem.W.fnOf "times" "times" (defArgs ss_times) (defBody ss_times) (defScope ss_times) .none kV_times dc_times pm_times an_times cd_times ct_times), sl_times⟩)
    (c_times : PySem.W.codeIn K cd_times "times" = true) (k_times : PySem.W.keepIn K (.ref f_times) = true)
    (a_over : PySem.W.nsIn K mainGlobals "over" = some (some (.ref f_over)))
    (l_over : K.lookup f_over = some ⟨oc_over, od_over, .func (PySem.W.fnOf "over" "over" (defArgs ss_over) (defBody ss_over) (defScope ss_over) .none kV_over dc_over pm_over an_over cd_over ct_over), sl_over⟩)
    (c_over : PySem.W.codeIn K cd_over "over" = true) (k_over : PySem.W.keepIn K (.ref f_over) = true)
    (a_mean : PySem.W.nsIn K mainGlobals "mean" = some (some (.ref f_mean)))
    (l_mean : K.lookup f_mean = some ⟨oc_mean, od_mean, .func (PySem.W.fnOf "mean" "mean" (defArgs ss_mean) (defBody ss_mean) (defScope ss_mean) .none kV_mean dc_mean pm_mean an_mean cd_mean ct_mean), sl_mean⟩)
    (c_mean : PySem.W.codeIn K cd_mean "mean" = true) (k_mean : PySem.W.keepIn K (.ref f_mean) = true)
    (a_is_under : PySem.W.nsIn K mainGlobals "is_under" = some (some (.ref f_is_under)))
    (l_is_under : K.lookup f_is_under = some ⟨oc_is_under, od_is_under, .func (PySem.W.fnOf "is_under" "is_under" (defArgs ss_is_under) (defBody ss_is_under) (defScope ss_is_under) .none kV_is_under dc_is_under pm_is_under an_is_under cd_is_under ct_is_under), sl_is_under⟩)
    (c_is_under : PySem.W.codeIn K cd_is_under "is_under" = true) (k_is_under : PySem.W.keepIn K (.ref f_is_under) = true)
    (a_compared : PySem.W.nsIn K mainGlobals "compared" = some (some (.ref f_compared)))
    (l_compared : K.lookup f_compared = some ⟨oc_compared, od_compared, .func (PySem.W.fnOf "compared" "compared" (defArgs ss_compared) (defBody ss_compared) (defScope ss_compared) .none kV_compared dc_compared pm_compared an_compared cd_compared ct_compared), sl_compared⟩)
    (c_compared : PySem.W.codeIn K cd_compared "compared" = true) (k_compared : PySem.W.keepIn K (.ref f_compared) = true)
    (a_floor_of : PySem.W.nsIn K mainGlobals "floor_of" = some (some (.ref f_floor_of)))
    (l_floor_of : K.lookup f_floor_of = some ⟨oc_floor_of, od_floor_of, .func (PySem.W.fnOf "floor_of" "floor_of" (defArgs ss_floor_of) (defBody ss_floor_of) (defScope ss_floor_of) .none kV_floor_of dc_floor_of pm_floor_of an_floor_of cd_floor_of ct_floor_of), sl_floor_of⟩)
    (c_floor_of : PySem.W.codeIn K cd_floor_of "floor_of" = true) (k_floor_of : PySem.W.keepIn K (.ref f_floor_of) = true)
    (a_law_mixed : PySem.W.nsIn K mainGlobals "_law_mixed" = some (some (.ref f_law_mixed)))
    (l_law_mixed : K.lookup f_law_mixed = some ⟨oc_law_mixed, od_law_mixed, .func (PySem.W.fnOf "_law_mixed" "_law_mixed" (defArgs ss_law_mixed) (defBody ss_law_mixed) (defScope ss_law_mixed) .none kV_law_mixed dc_law_mixed pm_law_mixed an_law_mixed cd_law_mixed ct_law_mixed), sl_law_mixed⟩)
    (c_law_mixed : PySem.W.codeIn K cd_law_mixed "_law_mixed" = true) (k_law_mixed : PySem.W.keepIn K (.ref f_law_mixed) = true)
    (a_law_draw : PySem.W.nsIn K mainGlobals "_law_draw" = some (some (.ref f_law_draw)))
    (l_law_draw : K.lookup f_law_draw = some ⟨oc_law_draw, od_law_draw, .func (PySem.W.fnOf "_law_draw" "_law_draw" (defArgs ss_law_draw) (defBody ss_law_draw) (defScope ss_law_draw) .none kV_law_draw dc_law_draw pm_law_draw an_law_draw cd_law_draw ct_law_draw), sl_law_draw⟩)
    (c_law_draw : PySem.W.codeIn K cd_law_draw "_law_draw" = true) (k_law_draw : PySem.W.keepIn K (.ref f_law_draw) = true)
    (a_law_digit : PySem.W.nsIn K mainGlobals "_law_digit" = some (some (.ref f_law_digit)))
    (l_law_digit : K.lookup f_law_digit = some ⟨oc_law_digit, od_law_digit, .func (PySem.W.fnOf "_law_digit" "_law_digit" (defArgs ss_law_digit) (defBody ss_law_digit) (defScope ss_law_digit) .none kV_law_digit dc_law_digit pm_law_digit an_law_digit cd_law_digit ct_law_digit), sl_law_digit⟩)
    (c_law_digit : PySem.W.codeIn K cd_law_digit "_law_digit" = true) (k_law_digit : PySem.W.keepIn K (.ref f_law_digit) = true)
    (a_law_lowest : PySem.W.nsIn K mainGlobals "_law_lowest" = some (some (.ref f_law_lowest)))
    (l_law_lowest : K.lookup f_law_lowest = some ⟨oc_law_lowest, od_law_lowest, .func (PySem.W.fnOf "_law_lowest" "_law_lowest" (defArgs ss_law_lowest) (defBody ss_law_lowest) (defScope ss_law_lowest) .none kV_law_lowest dc_law_lowest pm_law_lowest an_law_lowest cd_law_lowest ct_law_lowest), sl_law_lowest⟩)
    (c_law_lowest : PySem.W.codeIn K cd_law_lowest "_law_lowest" = true) (k_law_lowest : PySem.W.keepIn K (.ref f_law_lowest) = true)
    (a_law_fraction : PySem.W.nsIn K mainGlobals "_law_fraction" = some (some (.ref f_law_fraction)))
    (l_law_fraction : K.lookup f_law_fraction = some ⟨oc_law_fraction, od_law_fraction, .func (PySem.W.fnOf "_law_fraction" "_law_fraction" (defArgs ss_law_fraction) (defBody ss_law_fraction) (defScope ss_law_fraction) .none kV_law_fraction dc_law_fraction pm_law_fraction an_law_fraction cd_law_fraction ct_law_fraction), sl_law_fraction⟩)
    (c_law_fraction : PySem.W.codeIn K cd_law_fraction "_law_fraction" = true) (k_law_fraction : PySem.W.keepIn K (.ref f_law_fraction) = true)
    (a_law_kinds : PySem.W.nsIn K mainGlobals "_law_kinds" = some (some (.ref f_law_kinds)))
    (l_law_kinds : K.lookup f_law_kinds = some ⟨oc_law_kinds, od_law_kinds, .func (PySem.W.fnOf "_law_kinds" "_law_kinds" (defArgs ss_law_kinds) (defBody ss_law_kinds) (defScope ss_law_kinds) .none kV_law_kinds dc_law_kinds pm_law_kinds an_law_kinds cd_law_kinds ct_law_kinds), sl_law_kinds⟩)
    (c_law_kinds : PySem.W.codeIn K cd_law_kinds "_law_kinds" = true) (k_law_kinds : PySem.W.keepIn K (.ref f_law_kinds) = true)
    (a_law_told : PySem.W.nsIn K mainGlobals "_law_told" = some (some (.ref f_law_told)))
    (l_law_told : K.lookup f_law_told = some ⟨oc_law_told, od_law_told, .func (PySem.W.fnOf "_law_told" "_law_told" (defArgs ss_law_told) (defBody ss_law_told) (defScope ss_law_told) .none kV_law_told dc_law_told pm_law_told an_law_told cd_law_told ct_law_told), sl_law_told⟩)
    (c_law_told : PySem.W.codeIn K cd_law_told "_law_told" = true) (k_law_told : PySem.W.keepIn K (.ref f_law_told) = true)
    (a_law_over : PySem.W.nsIn K mainGlobals "_law_over" = some (some (.ref f_law_over)))
    (l_law_over : K.lookup f_law_over = some ⟨oc_law_over, od_law_over, .func (PySem.W.fnOf "_law_over" "_law_over" (defArgs ss_law_over) (defBody ss_law_over) (defScope ss_law_over) .none kV_law_over dc_law_over pm_law_over an_law_over cd_law_over ct_law_over), sl_law_over⟩)
    (c_law_over : PySem.W.codeIn K cd_law_over "_law_over" = true) (k_law_over : PySem.W.keepIn K (.ref f_law_over) = true)
    (a_law_reckoned_right : PySem.W.nsIn K mainGlobals "_law_reckoned_right" = some (some (.ref f_law_reckoned_right)))
    (l_law_reckoned_right : K.lookup f_law_reckoned_right = some ⟨oc_law_reckoned_right, od_law_reckoned_right, .func (PySem.W.fnOf "_law_reckoned_right" "_law_reckoned_right" (defArgs ss_law_reckoned_right) (defBody ss_law_reckoned_right) (defScope ss_law_reckoned_right) .none kV_law_reckoned_right dc_law_reckoned_right pm_law_reckoned_right an_law_reckoned_right cd_law_reckoned_right ct_law_reckoned_right), sl_law_reckoned_right⟩)
    (c_law_reckoned_right : PySem.W.codeIn K cd_law_reckoned_right "_law_reckoned_right" = true) (k_law_reckoned_right : PySem.W.keepIn K (.ref f_law_reckoned_right) = true)
    (a_law_looked_right : PySem.W.nsIn K mainGlobals "_law_looked_right" = some (some (.ref f_law_looked_right)))
    (l_law_looked_right : K.lookup f_law_looked_right = some ⟨oc_law_looked_right, od_law_looked_right, .func (PySem.W.fnOf "_law_looked_right" "_law_looked_right" (defArgs ss_law_looked_right) (defBody ss_law_looked_right) (defScope ss_law_looked_right) .none kV_law_looked_right dc_law_looked_right pm_law_looked_right an_law_looked_right cd_law_looked_right ct_law_looked_right), sl_law_looked_right⟩)
    (c_law_looked_right : PySem.W.codeIn K cd_law_looked_right "_law_looked_right" = true) (k_law_looked_right : PySem.W.keepIn K (.ref f_law_looked_right) = true)
    (a_law : PySem.W.nsIn K mainGlobals "law" = some (some (.ref f_law)))
    (l_law : K.lookup f_law = some ⟨oc_law, od_law, .func (PySem.W.fnOf "law" "law" (defArgs ss_law) (defBody ss_law) (defScope ss_law) .none kV_law dc_law pm_law an_law cd_law ct_law), sl_law⟩)
    (c_law : PySem.W.codeIn K cd_law "law" = true) (k_law : PySem.W.keepIn K (.ref f_law) = true)
    : ∃ (fd : FuncData) (F : Fn), (∀ (s : Shared) (v : Value), BindsTo s fd ⟨[v], []⟩ [("script", v)]) ∧ (∀ base : Heap, K.In base → base.Ns mainGlobals mg → DFn l.prog w K mg base 5 fa fd ["script"] F) ∧ ∀ ns : List Int, ns.length ≤ 63 → ∃ M', F [.lsk (ns.map D.int)] [] = some (.bl true, M') := by
  have e := hfa.symm.trans (PySem.W.mg_of X G a_law)
  cases e
  have T : Txt (⟨C_OutOfPlace, C_BadSketch, C_BadRow, C_BadOutline, C_BadBlock, C_BadField, C_BadFeature, C_BadWay, C_BadTools, C_Clash, C_BadPaper, C_Twice, C_NoPoint, C_TooGreat, C_NoFeature, C_NoSaying, C_Nothing, C_NoTool, C_Lifted, C_NoToolThere, C_Beyond, C_Lowered, C_TooDeep, C_Blocked, C_WorksError, C_MissError, C_FaultError, fun c v => PySem.W.kitOne K (.ref c) v⟩ : CT) K mg := ⟨PySem.W.mg_none_of X G z_int, PySem.W.mg_none_of X G z_isinstance, PySem.W.mg_none_of X G z_bool, PySem.W.mg_none_of X G z_tuple, PySem.W.mg_none_of X G z_len, PySem.W.mg_none_of X G z_abs, PySem.W.mg_none_of X G z_range, PySem.W.mg_none_of X G z_ValueError, PySem.W.mg_none_of X G z_LookupError, PySem.W.mg_none_of X G z_RuntimeError, PySem.W.mg_none_of X G z_repr, PySem.W.mg_none_of X G z_enumerate, PySem.W.mg_none_of X G z_sum, PySem.W.mg_none_of X G z_max, PySem.W.mg_of X G m_gcd, ⟨.ref a_NOUGHT, _, PySem.W.mg_of X G g_NOUGHT, rfl, fun _ _ => .tup (.inr ⟨o_NOUGHT, i_NOUGHT, n_NOUGHT, l_NOUGHT, c_NOUGHT, d_NOUGHT, by (rw [← Array.length_toList, ← v_NOUGHT.length]; decide), v_NOUGHT⟩) (.cons (.int _) (.cons (.int _) .nil))⟩, PySem.W.mg_of X G a_OutOfPlace, PySem.W.mg_of X G a_BadSketch, PySem.W.mg_of X G a_BadRow, PySem.W.mg_of X G a_BadOutline, PySem.W.mg_of X G a_BadBlock, PySem.W.mg_of X G a_BadField, PySem.W.mg_of X G a_BadFeature, PySem.W.mg_of X G a_BadWay, PySem.W.mg_of X G a_BadTools, PySem.W.mg_of X G a_Clash, PySem.W.mg_of X G a_BadPaper, PySem.W.mg_of X G a_Twice, PySem.W.mg_of X G a_NoPoint, PySem.W.mg_of X G a_TooGreat, PySem.W.mg_of X G a_NoFeature, PySem.W.mg_of X G a_NoSaying, PySem.W.mg_of X G a_Nothing, PySem.W.mg_of X G a_NoTool, PySem.W.mg_of X G a_Lifted, PySem.W.mg_of X G a_NoToolThere, PySem.W.mg_of X G a_Beyond, PySem.W.mg_of X G a_Lowered, PySem.W.mg_of X G a_TooDeep, PySem.W.mg_of X G a_Blocked, PySem.W.mg_of X G a_WorksError, PySem.W.mg_of X G a_MissError, PySem.W.mg_of X G a_FaultError, ⟨PySem.W.mg_of X G a_OutOfPlace, xe_OutOfPlace, ke_OutOfPlace, be_OutOfPlace, te_OutOfPlace⟩, ⟨q1_OutOfPlace, q2_OutOfPlace, be_OutOfPlace, q3_OutOfPlace, q4_OutOfPlace, q5_, q6_, q7_OutOfPlace⟩, PySem.W.exm_ref hb_WorksError hd_WorksError ht_WorksError s_OutOfPlace_WorksError, fun C v b h => h⟩
  have F_is_whole : FF_is_whole K f_is_whole _ := ⟨⟨_, _, _, _, _, _, _, _, _, _, rfl, l_is_whole, c_is_whole, .inl ⟨rfl, rfl⟩, .inl rfl⟩, k_is_whole⟩
  have b_is_whole := F_is_whole.bindsN (ps := ["thing"]) fun _ _ _ _ _ _ us hl => match us, hl with | [_], _ => rfl
  have F_is_fraction : FF_is_fraction K f_is_fraction _ := ⟨⟨_, _, _, _, _, _, _, _, _, _, rfl, l_is_fraction, c_is_fraction, .inl ⟨rfl, rfl⟩, .inr ⟨kD_is_fraction, rfl, fun q hq => by (rcases List.mem_cons.mp hq with e | hq; (· rw [e]; exact ⟨_, kd_is_fraction_most, kr_is_fraction_most⟩); cases hq)⟩⟩, k_is_fraction⟩
  have F_lowest : FF_lowest K f_lowest _ := ⟨⟨_, _, _, _, _, _, _, _, _, _, rfl, l_lowest, c_lowest, .inl ⟨rfl, rfl⟩, .inl rfl⟩, k_lowest⟩
  have b_lowest := F_lowest.bindsN (ps := ["top", "bottom"]) fun _ _ _ _ _ _ us hl => match us, hl with | [_, _], _ => rfl
  have F_fraction : FF_fraction K f_fraction _ := ⟨⟨_, _, _, _, _, _, _, _, _, _, rfl, l_fraction, c_fraction, .inr ⟨by decide, dT_fraction, dO_fraction, dI_fraction.toList, dN_fraction, rfl, dl_fraction, by simpa using dd_fraction, dv_fraction⟩, .inl rfl⟩, k_fraction⟩
  have F_plus : FF_plus K f_plus _ := ⟨⟨_, _, _, _, _, _, _, _, _, _, rfl, l_plus, c_plus, .inl ⟨rfl, rfl⟩, .inl rfl⟩, k_plus⟩
  have b_plus := F_plus.bindsN (ps := ["one", "other"]) fun _ _ _ _ _ _ us hl => match us, hl with | [_, _], _ => rfl
  have F_less : FF_less K f_less _ := ⟨⟨_, _, _, _, _, _, _, _, _, _, rfl, l_less, c_less, .inl ⟨rfl, rfl⟩, .inl rfl⟩, k_less⟩
  have b_less := F_less.bindsN (ps := ["one", "other"]) fun _ _ _ _ _ _ us hl => match us, hl with | [_, _], _ => rfl
  have F_times : FF_times K f_times _ := ⟨⟨_, _, _, _, _, _, _, _, _, _, rfl, l_times, c_times, .inl ⟨rfl, rfl⟩, .inl rfl⟩, k_times⟩
  have b_times := F_times.bindsN (ps := ["one", "other"]) fun _ _ _ _ _ _ us hl => match us, hl with | [_, _], _ => rfl
  have F_over : FF_over K f_over _ := ⟨⟨_, _, _, _, _, _, _, _, _, _, rfl, l_over, c_over, .inl ⟨rfl, rfl⟩, .inl rfl⟩, k_over⟩
  have b_over := F_over.bindsN (ps := ["one", "other"]) fun _ _ _ _ _ _ us hl => match us, hl with | [_, _], _ => rfl
  have F_mean : FF_mean K f_mean _ := ⟨⟨_, _, _, _, _, _, _, _, _, _, rfl, l_mean, c_mean, .inl ⟨rfl, rfl⟩, .inl rfl⟩, k_mean⟩
  have b_mean := F_mean.bindsN (ps := ["one", "other"]) fun _ _ _ _ _ _ us hl => match us, hl with | [_, _], _ => rfl
  have F_is_under : FF_is_under K f_is_under _ := ⟨⟨_, _, _, _, _, _, _, _, _, _, rfl, l_is_under, c_is_under, .inl ⟨rfl, rfl⟩, .inl rfl⟩, k_is_under⟩
  have b_is_under := F_is_under.bindsN (ps := ["one", "other"]) fun _ _ _ _ _ _ us hl => match us, hl with | [_, _], _ => rfl
  have F_compared : FF_compared K f_compared _ := ⟨⟨_, _, _, _, _, _, _, _, _, _, rfl, l_compared, c_compared, .inl ⟨rfl, rfl⟩, .inl rfl⟩, k_compared⟩
  have b_compared := F_compared.bindsN (ps := ["one", "other"]) fun _ _ _ _ _ _ us hl => match us, hl with | [_, _], _ => rfl
  have F_floor_of : FF_floor_of K f_floor_of _ := ⟨⟨_, _, _, _, _, _, _, _, _, _, rfl, l_floor_of, c_floor_of, .inl ⟨rfl, rfl⟩, .inl rfl⟩, k_floor_of⟩
  have b_floor_of := F_floor_of.bindsN (ps := ["one"]) fun _ _ _ _ _ _ us hl => match us, hl with | [_], _ => rfl
  have F_law_mixed : FF_law_mixed K f_law_mixed _ := ⟨⟨_, _, _, _, _, _, _, _, _, _, rfl, l_law_mixed, c_law_mixed, .inl ⟨rfl, rfl⟩, .inl rfl⟩, k_law_mixed⟩
  have b_law_mixed := F_law_mixed.bindsN (ps := ["cell", "k"]) fun _ _ _ _ _ _ us hl => match us, hl with | [_, _], _ => rfl
  have F_law_draw : FF_law_draw K f_law_draw _ := ⟨⟨_, _, _, _, _, _, _, _, _, _, rfl, l_law_draw, c_law_draw, .inl ⟨rfl, rfl⟩, .inl rfl⟩, k_law_draw⟩
  have b_law_draw := F_law_draw.bindsN (ps := ["cell", "k"]) fun _ _ _ _ _ _ us hl => match us, hl with | [_, _], _ => rfl
  have F_law_digit : FF_law_digit K f_law_digit _ := ⟨⟨_, _, _, _, _, _, _, _, _, _, rfl, l_law_digit, c_law_digit, .inl ⟨rfl, rfl⟩, .inl rfl⟩, k_law_digit⟩
  have b_law_digit := F_law_digit.bindsN (ps := ["state", "many"]) fun _ _ _ _ _ _ us hl => match us, hl with | [_, _], _ => rfl
  have F_law_lowest : FF_law_lowest K f_law_lowest _ := ⟨⟨_, _, _, _, _, _, _, _, _, _, rfl, l_law_lowest, c_law_lowest, .inl ⟨rfl, rfl⟩, .inl rfl⟩, k_law_lowest⟩
  have b_law_lowest := F_law_lowest.bindsN (ps := ["top", "bottom"]) fun _ _ _ _ _ _ us hl => match us, hl with | [_, _], _ => rfl
  have F_law_fraction : FF_law_fraction K f_law_fraction _ := ⟨⟨_, _, _, _, _, _, _, _, _, _, rfl, l_law_fraction, c_law_fraction, .inl ⟨rfl, rfl⟩, .inl rfl⟩, k_law_fraction⟩
  have b_law_fraction := F_law_fraction.bindsN (ps := ["state"]) fun _ _ _ _ _ _ us hl => match us, hl with | [_], _ => rfl
  have F_law_kinds : FF_law_kinds K f_law_kinds _ := ⟨⟨_, _, _, _, _, _, _, _, _, _, rfl, l_law_kinds, c_law_kinds, .inl ⟨rfl, rfl⟩, .inl rfl⟩, k_law_kinds⟩
  have b_law_kinds := F_law_kinds.bindsN (ps := ["error"]) fun _ _ _ _ _ _ us hl => match us, hl with | [_], _ => rfl
  have F_law_told : FF_law_told K f_law_told _ := ⟨⟨_, _, _, _, _, _, _, _, _, _, rfl, l_law_told, c_law_told, .inl ⟨rfl, rfl⟩, .inl rfl⟩, k_law_told⟩
  have b_law_told := F_law_told.bindsN (ps := ["top", "bottom"]) fun _ _ _ _ _ _ us hl => match us, hl with | [_, _], _ => rfl
  have F_law_over : FF_law_over K f_law_over _ := ⟨⟨_, _, _, _, _, _, _, _, _, _, rfl, l_law_over, c_law_over, .inl ⟨rfl, rfl⟩, .inl rfl⟩, k_law_over⟩
  have b_law_over := F_law_over.bindsN (ps := ["one", "other"]) fun _ _ _ _ _ _ us hl => match us, hl with | [_, _], _ => rfl
  have F_law_reckoned_right : FF_law_reckoned_right K f_law_reckoned_right _ := ⟨⟨_, _, _, _, _, _, _, _, _, _, rfl, l_law_reckoned_right, c_law_reckoned_right, .inl ⟨rfl, rfl⟩, .inl rfl⟩, k_law_reckoned_right⟩
  have b_law_reckoned_right := F_law_reckoned_right.bindsN (ps := ["one", "other"]) fun _ _ _ _ _ _ us hl => match us, hl with | [_, _], _ => rfl
  have F_law_looked_right : FF_law_looked_right K f_law_looked_right _ := ⟨⟨_, _, _, _, _, _, _, _, _, _, rfl, l_law_looked_right, c_law_looked_right, .inl ⟨rfl, rfl⟩, .inl rfl⟩, k_law_looked_right⟩
  have b_law_looked_right := F_law_looked_right.bindsN (ps := ["state"]) fun _ _ _ _ _ _ us hl => match us, hl with | [_], _ => rfl
  have F_law : FF_law K fa _ := ⟨⟨_, _, _, _, _, _, _, _, _, _, rfl, l_law, c_law, .inl ⟨rfl, rfl⟩, .inl rfl⟩, k_law⟩
  have b_law := F_law.bindsN (ps := ["script"]) fun _ _ _ _ _ _ us hl => match us, hl with | [_], _ => rfl
  refine ⟨_, ff_law (⟨C_OutOfPlace, C_BadSketch, C_BadRow, C_BadOutline, C_BadBlock, C_BadField, C_BadFeature, C_BadWay, C_BadTools, C_Clash, C_BadPaper, C_Twice, C_NoPoint, C_TooGreat, C_NoFeature, C_NoSaying, C_Nothing, C_NoTool, C_Lifted, C_NoToolThere, C_Beyond, C_Lowered, C_TooDeep, C_Blocked, C_WorksError, C_MissError, C_FaultError, fun c v => PySem.W.kitOne K (.ref c) v⟩ : CT), fun s v => F_law.bindsA (ps := ["script"]) (fun _ _ _ _ _ _ us hl => match us, hl with | [_], _ => rfl) s [v] rfl, fun base _ _ => ?_, Law.truth (⟨C_OutOfPlace, C_BadSketch, C_BadRow, C_BadOutline, C_BadBlock, C_BadField, C_BadFeature, C_BadWay, C_BadTools, C_Clash, C_BadPaper, C_Twice, C_NoPoint, C_TooGreat, C_NoFeature, C_NoSaying, C_Nothing, C_NoTool, C_Lifted, C_NoToolThere, C_Beyond, C_Lowered, C_TooDeep, C_Blocked, C_WorksError, C_MissError, C_FaultError, fun c v => PySem.W.kitOne K (.ref c) v⟩ : CT) ⟨kit_own hd_BadSketch ht_BadSketch s_OutOfPlace_OutOfPlace s_OutOfPlace_BadSketch, kit_own hd_BadRow ht_BadRow s_OutOfPlace_OutOfPlace s_OutOfPlace_BadRow, kit_own hd_BadOutline ht_BadOutline s_OutOfPlace_OutOfPlace s_OutOfPlace_BadOutline, kit_own hd_BadBlock ht_BadBlock s_OutOfPlace_OutOfPlace s_OutOfPlace_BadBlock, kit_own hd_BadField ht_BadField s_OutOfPlace_OutOfPlace s_OutOfPlace_BadField, kit_own hd_BadFeature ht_BadFeature s_OutOfPlace_OutOfPlace s_OutOfPlace_BadFeature, kit_own hd_BadWay ht_BadWay s_OutOfPlace_OutOfPlace s_OutOfPlace_BadWay, kit_own hd_BadTools ht_BadTools s_OutOfPlace_OutOfPlace s_OutOfPlace_BadTools, kit_own hd_Clash ht_Clash s_OutOfPlace_OutOfPlace s_OutOfPlace_Clash, kit_own hd_BadPaper ht_BadPaper s_OutOfPlace_OutOfPlace s_OutOfPlace_BadPaper, kit_own hd_OutOfPlace ht_OutOfPlace s_OutOfPlace_OutOfPlace s_OutOfPlace_OutOfPlace, kit_own hd_Twice ht_Twice s_OutOfPlace_OutOfPlace s_OutOfPlace_Twice, kit_own hd_NoPoint ht_NoPoint s_OutOfPlace_OutOfPlace s_OutOfPlace_NoPoint, kit_own hd_TooGreat ht_TooGreat s_OutOfPlace_OutOfPlace s_OutOfPlace_TooGreat, kit_own hd_NoFeature ht_NoFeature s_OutOfPlace_OutOfPlace s_OutOfPlace_NoFeature, kit_own hd_NoSaying ht_NoSaying s_OutOfPlace_OutOfPlace s_OutOfPlace_NoSaying, kit_own hd_Nothing ht_Nothing s_OutOfPlace_OutOfPlace s_OutOfPlace_Nothing, kit_own hd_NoTool ht_NoTool s_OutOfPlace_OutOfPlace s_OutOfPlace_NoTool, kit_own hd_Lifted ht_Lifted s_OutOfPlace_OutOfPlace s_OutOfPlace_Lifted, kit_own hd_NoToolThere ht_NoToolThere s_OutOfPlace_OutOfPlace s_OutOfPlace_NoToolThere, kit_own hd_Beyond ht_Beyond s_OutOfPlace_OutOfPlace s_OutOfPlace_Beyond, kit_own hd_Lowered ht_Lowered s_OutOfPlace_OutOfPlace s_OutOfPlace_Lowered, kit_own hd_TooDeep ht_TooDeep s_OutOfPlace_OutOfPlace s_OutOfPlace_TooDeep, kit_own hd_Blocked ht_Blocked s_OutOfPlace_OutOfPlace s_OutOfPlace_Blocked, kit_bt (by decide +kernel) s_OutOfPlace_ValueError, kit_own hd_WorksError ht_WorksError s_OutOfPlace_OutOfPlace s_OutOfPlace_WorksError, kit_bt (by decide +kernel) s_OutOfPlace_LookupError, kit_own hd_MissError ht_MissError s_OutOfPlace_OutOfPlace s_OutOfPlace_MissError, kit_bt (by decide +kernel) s_OutOfPlace_RuntimeError, kit_own hd_FaultError ht_FaultError s_OutOfPlace_OutOfPlace s_OutOfPlace_FaultError⟩⟩
  have O_is_whole := ok_is_whole (P := l.prog) (w := w) (base := base) T  F_is_whole
  have L_is_whole : Lk l.prog w K mg base "is_whole" 1 ["thing"] ff_is_whole := ⟨_, _, O_is_whole, PySem.W.mg_of X G a_is_whole, k_is_whole, b_is_whole⟩
  have O_is_fraction := ok_is_fraction (P := l.prog) (w := w) (base := base) T L_is_whole F_is_fraction
  have D_is_fraction_1 : LkD l.prog w K mg base "is_fraction" 2 ["thing", "most"] ff_is_fraction _ := ld_is_fraction_1 O_is_fraction F_is_fraction (PySem.W.mg_of X G a_is_fraction)
  have K_is_fraction_1_most : LkK l.prog w K mg base "is_fraction" 2 ["thing", "most"] ff_is_fraction _ _ _ := lk_is_fraction_1_most O_is_fraction F_is_fraction (PySem.W.mg_of X G a_is_fraction)
  have O_lowest := ok_lowest (P := l.prog) (w := w) (base := base) T  F_lowest
  have L_lowest : Lk l.prog w K mg base "_lowest" 1 ["top", "bottom"] ff_lowest := ⟨_, _, O_lowest, PySem.W.mg_of X G a_lowest, k_lowest, b_lowest⟩
  have O_fraction := ok_fraction (P := l.prog) (w := w) (base := base) T L_is_whole L_lowest F_fraction
  have OX_fraction := okx_fraction (P := l.prog) (w := w) (base := base) T L_is_whole L_lowest F_fraction
  have X_fraction : LkX l.prog w K mg base "fraction" 2 ["top", "bottom"] xx_fraction := lx_fraction OX_fraction F_fraction (PySem.W.mg_of X G a_fraction)
  have D_fraction_1 : LkD l.prog w K mg base "fraction" 2 ["top", "bottom"] ff_fraction _ := ld_fraction_1 O_fraction F_fraction (PySem.W.mg_of X G a_fraction)
  have O_plus := ok_plus (P := l.prog) (w := w) (base := base) T L_lowest F_plus
  have L_plus : Lk l.prog w K mg base "plus" 2 ["one", "other"] ff_plus := ⟨_, _, O_plus, PySem.W.mg_of X G a_plus, k_plus, b_plus⟩
  have O_less := ok_less (P := l.prog) (w := w) (base := base) T L_lowest F_less
  have L_less : Lk l.prog w K mg base "less" 2 ["one", "other"] ff_less := ⟨_, _, O_less, PySem.W.mg_of X G a_less, k_less, b_less⟩
  have O_times := ok_times (P := l.prog) (w := w) (base := base) T L_lowest F_times
  have L_times : Lk l.prog w K mg base "times" 2 ["one", "other"] ff_times := ⟨_, _, O_times, PySem.W.mg_of X G a_times, k_times, b_times⟩
  have O_over := ok_over (P := l.prog) (w := w) (base := base) T L_lowest F_over
  have OX_over := okx_over (P := l.prog) (w := w) (base := base) T L_lowest F_over
  have X_over : LkX l.prog w K mg base "over" 2 ["one", "other"] xx_over := ⟨_, _, OX_over, PySem.W.mg_of X G a_over, k_over, b_over⟩
  have L_over : Lk l.prog w K mg base "over" 2 ["one", "other"] ff_over := ⟨_, _, O_over, PySem.W.mg_of X G a_over, k_over, b_over⟩
  have O_mean := ok_mean (P := l.prog) (w := w) (base := base) T L_lowest F_mean
  have L_mean : Lk l.prog w K mg base "mean" 2 ["one", "other"] ff_mean := ⟨_, _, O_mean, PySem.W.mg_of X G a_mean, k_mean, b_mean⟩
  have O_is_under := ok_is_under (P := l.prog) (w := w) (base := base) T  F_is_under
  have L_is_under : Lk l.prog w K mg base "is_under" 1 ["one", "other"] ff_is_under := ⟨_, _, O_is_under, PySem.W.mg_of X G a_is_under, k_is_under, b_is_under⟩
  have O_compared := ok_compared (P := l.prog) (w := w) (base := base) T L_is_under F_compared
  have L_compared : Lk l.prog w K mg base "compared" 2 ["one", "other"] ff_compared := ⟨_, _, O_compared, PySem.W.mg_of X G a_compared, k_compared, b_compared⟩
  have O_floor_of := ok_floor_of (P := l.prog) (w := w) (base := base) T  F_floor_of
  have L_floor_of : Lk l.prog w K mg base "floor_of" 1 ["one"] ff_floor_of := ⟨_, _, O_floor_of, PySem.W.mg_of X G a_floor_of, k_floor_of, b_floor_of⟩
  have O_law_mixed := ok_law_mixed (P := l.prog) (w := w) (base := base) T  F_law_mixed
  have L_law_mixed : Lk l.prog w K mg base "_law_mixed" 1 ["cell", "k"] ff_law_mixed := ⟨_, _, O_law_mixed, PySem.W.mg_of X G a_law_mixed, k_law_mixed, b_law_mixed⟩
  have O_law_draw := ok_law_draw (P := l.prog) (w := w) (base := base) T  F_law_draw
  have L_law_draw : Lk l.prog w K mg base "_law_draw" 1 ["cell", "k"] ff_law_draw := ⟨_, _, O_law_draw, PySem.W.mg_of X G a_law_draw, k_law_draw, b_law_draw⟩
  have O_law_digit := ok_law_digit (P := l.prog) (w := w) (base := base) T L_law_mixed F_law_digit
  have L_law_digit : Lk l.prog w K mg base "_law_digit" 2 ["state", "many"] ff_law_digit := ⟨_, _, O_law_digit, PySem.W.mg_of X G a_law_digit, k_law_digit, b_law_digit⟩
  have O_law_lowest := ok_law_lowest (P := l.prog) (w := w) (base := base) T  F_law_lowest
  have L_law_lowest : Lk l.prog w K mg base "_law_lowest" 1 ["top", "bottom"] ff_law_lowest := ⟨_, _, O_law_lowest, PySem.W.mg_of X G a_law_lowest, k_law_lowest, b_law_lowest⟩
  have O_law_fraction := ok_law_fraction (P := l.prog) (w := w) (base := base) T L_law_digit L_law_lowest F_law_fraction
  have L_law_fraction : Lk l.prog w K mg base "_law_fraction" 3 ["state"] ff_law_fraction := ⟨_, _, O_law_fraction, PySem.W.mg_of X G a_law_fraction, k_law_fraction, b_law_fraction⟩
  have O_law_kinds := ok_law_kinds (P := l.prog) (w := w) (base := base) T  F_law_kinds
  have L_law_kinds : Lk l.prog w K mg base "_law_kinds" 1 ["error"] (ff_law_kinds _) := ⟨_, _, O_law_kinds, PySem.W.mg_of X G a_law_kinds, k_law_kinds, b_law_kinds⟩
  have O_law_told := ok_law_told (P := l.prog) (w := w) (base := base) T L_law_kinds X_fraction F_law_told
  have L_law_told : Lk l.prog w K mg base "_law_told" 3 ["top", "bottom"] (ff_law_told _) := ⟨_, _, O_law_told, PySem.W.mg_of X G a_law_told, k_law_told, b_law_told⟩
  have O_law_over := ok_law_over (P := l.prog) (w := w) (base := base) T L_law_kinds X_over F_law_over
  have L_law_over : Lk l.prog w K mg base "_law_over" 3 ["one", "other"] (ff_law_over _) := ⟨_, _, O_law_over, PySem.W.mg_of X G a_law_over, k_law_over, b_law_over⟩
  have O_law_reckoned_right := ok_law_reckoned_right (P := l.prog) (w := w) (base := base) T L_law_lowest L_times L_less L_plus L_law_over L_mean L_floor_of L_is_under L_compared F_law_reckoned_right
  have L_law_reckoned_right : Lk l.prog w K mg base "_law_reckoned_right" 4 ["one", "other"] (ff_law_reckoned_right _) := ⟨_, _, O_law_reckoned_right, PySem.W.mg_of X G a_law_reckoned_right, k_law_reckoned_right, b_law_reckoned_right⟩
  have O_law_looked_right := ok_law_looked_right (P := l.prog) (w := w) (base := base) T L_law_digit L_law_lowest L_law_told D_fraction_1 D_is_fraction_1 F_law_looked_right
  have L_law_looked_right : Lk l.prog w K mg base "_law_looked_right" 4 ["state"] (ff_law_looked_right _) := ⟨_, _, O_law_looked_right, PySem.W.mg_of X G a_law_looked_right, k_law_looked_right, b_law_looked_right⟩
  have O_law := ok_law (P := l.prog) (w := w) (base := base) T L_law_draw L_law_fraction L_law_reckoned_right L_law_looked_right L_law_digit L_law_told D_is_fraction_1 K_is_fraction_1_most F_law
  exact O_law
end Law
open PySem PySem.W PyProof.Rows
set_option maxRecDepth 100000 in
set_option maxHeartbeats 0 in
theorem PySem.Challenge.cw_panelworks_k02_fractions_reckoned_holds : PySem.Challenge.rw_panelworks_k02_fractions_reckoned.Holds := by
  w_on; o_law; k_head; (case hw => w_witness2)
  k_fill
  refine Pl.walk_ofX (l := PySem.Challenge.rw_panelworks_k02_fractions_reckoned) (n := 63) (k := 5) (x := "script") rfl (by decide) rfl ⟨rfl, by decide, by decide⟩ (fun w h Y => PySem.W.kIn_of Y) ?F
  case F =>
    intro w mg fa h KX G hmg
    refine' Law.all_mk KX G hmg ?q_z_int ?q_z_isinstance ?q_z_bool ?q_z_tuple ?q_z_len ?q_z_abs ?q_z_range ?q_z_ValueError ?q_z_LookupError ?q_z_RuntimeError ?q_z_repr ?q_z_enumerate ?q_z_sum ?q_z_max ?q_m_gcd ?q_g_NOUGHT ?q_l_NOUGHT ?q_c_NOUGHT ?q_d_NOUGHT ?q_v_NOUGHT ?q_a_OutOfPlace ?q_a_BadSketch ?q_a_BadRow ?q_a_BadOutline ?q_a_BadBlock ?q_a_BadField ?q_a_BadFeature ?q_a_BadWay ?q_a_BadTools ?q_a_Clash ?q_a_BadPaper ?q_a_Twice ?q_a_NoPoint ?q_a_TooGreat ?q_a_NoFeature ?q_a_NoSaying ?q_a_Nothing ?q_a_NoTool ?q_a_Lifted ?q_a_NoToolThere ?q_a_Beyond ?q_a_Lowered ?q_a_TooDeep ?q_a_Blocked ?q_a_WorksError ?q_a_MissError ?q_a_FaultError ?q_xe_OutOfPlace ?q_ke_OutOfPlace ?q_be_OutOfPlace ?q_te_OutOfPlace ?q_q1_OutOfPlace ?q_q2_OutOfPlace ?q_q3_OutOfPlace ?q_q4_OutOfPlace ?q_q7_OutOfPlace ?q_q5_ ?q_q6_ ?q_hd_WorksError ?q_ht_WorksError ?q_hd_BadSketch ?q_ht_BadSketch ?q_hd_BadRow ?q_ht_BadRow ?q_hd_BadOutline ?q_ht_BadOutline ?q_hd_BadBlock ?q_ht_BadBlock ?q_hd_BadField ?q_ht_BadField ?q_hd_BadFeature ?q_ht_BadFeature ?q_hd_BadWay ?q_ht_BadWay ?q_hd_BadTools ?q_ht_BadTools ?q_hd_Clash ?q_ht_Clash ?q_hd_BadPaper ?q_ht_BadPaper ?q_hd_OutOfPlace ?q_ht_OutOfPlace ?q_hd_Twice ?q_ht_Twice ?q_hd_NoPoint ?q_ht_NoPoint ?q_hd_TooGreat ?q_ht_TooGreat ?q_hd_NoFeature ?q_ht_NoFeature ?q_hd_NoSaying ?q_ht_NoSaying ?q_hd_Nothing ?q_ht_Nothing ?q_hd_NoTool ?q_ht_NoTool ?q_hd_Lifted ?q_ht_Lifted ?q_hd_NoToolThere ?q_ht_NoToolThere ?q_hd_Beyond ?q_ht_Beyond ?q_hd_Lowered ?q_ht_Lowered ?q_hd_TooDeep ?q_ht_TooDeep ?q_hd_Blocked ?q_ht_Blocked ?q_hd_MissError ?q_ht_MissError ?q_hd_FaultError ?q_ht_FaultError ?q_hb_WorksError ?q_s_OutOfPlace_WorksError ?q_s_OutOfPlace_BadSketch ?q_s_OutOfPlace_BadRow ?q_s_OutOfPlace_BadOutline ?q_s_OutOfPlace_BadBlock ?q_s_OutOfPlace_BadField ?q_s_OutOfPlace_BadFeature ?q_s_OutOfPlace_BadWay ?q_s_OutOfPlace_BadTools ?q_s_OutOfPlace_Clash ?q_s_OutOfPlace_BadPaper ?q_s_OutOfPlace_OutOfPlace ?q_s_OutOfPlace_Twice ?q_s_OutOfPlace_NoPoint ?q_s_OutOfPlace_TooGreat ?q_s_OutOfPlace_NoFeature ?q_s_OutOfPlace_NoSaying ?q_s_OutOfPlace_Nothing ?q_s_OutOfPlace_NoTool ?q_s_OutOfPlace_Lifted ?q_s_OutOfPlace_NoToolThere ?q_s_OutOfPlace_Beyond ?q_s_OutOfPlace_Lowered ?q_s_OutOfPlace_TooDeep ?q_s_OutOfPlace_Blocked ?q_s_OutOfPlace_ValueError ?q_s_OutOfPlace_LookupError ?q_s_OutOfPlace_MissError ?q_s_OutOfPlace_RuntimeError ?q_s_OutOfPlace_FaultError ?q_a_is_whole ?q_l_is_whole ?q_c_is_whole ?q_k_is_whole ?q_a_is_fraction ?q_l_is_fraction ?q_c_is_fraction ?q_k_is_fraction ?q_kd_is_fraction_most ?q_kr_is_fraction_most ?q_a_lowest ?q_l_lowest ?q_c_lowest ?q_k_lowest ?q_a_fraction ?q_l_fraction ?q_c_fraction ?q_k_fraction ?q_dl_fraction ?q_dd_fraction ?q_dv_fraction ?q_a_plus ?q_l_plus ?q_c_plus ?q_k_plus ?q_a_less ?q_l_less ?q_c_less ?q_k_less ?q_a_times ?q_l_times ?q_c_times ?q_k_times ?q_a_over ?q_l_over ?q_c_over ?q_k_over ?q_a_mean ?q_l_mean ?q_c_mean ?q_k_mean ?q_a_is_under ?q_l_is_under ?q_c_is_under ?q_k_is_under ?q_a_compared ?q_l_compared ?q_c_compared ?q_k_compared ?q_a_floor_of ?q_l_floor_of ?q_c_floor_of ?q_k_floor_of ?q_a_law_mixed ?q_l_law_mixed ?q_c_law_mixed ?q_k_law_mixed ?q_a_law_draw ?q_l_law_draw ?q_c_law_draw ?q_k_law_draw ?q_a_law_digit ?q_l_law_digit ?q_c_law_digit ?q_k_law_digit ?q_a_law_lowest ?q_l_law_lowest ?q_c_law_lowest ?q_k_law_lowest ?q_a_law_fraction ?q_l_law_fraction ?q_c_law_fraction ?q_k_law_fraction ?q_a_law_kinds ?q_l_law_kinds ?q_c_law_kinds ?q_k_law_kinds ?q_a_law_told ?q_l_law_told ?q_c_law_told ?q_k_law_told ?q_a_law_over ?q_l_law_over ?q_c_law_over ?q_k_law_over ?q_a_law_reckoned_right ?q_l_law_reckoned_right ?q_c_law_reckoned_right ?q_k_law_reckoned_right ?q_a_law_looked_right ?q_l_law_looked_right ?q_c_law_looked_right ?q_k_law_looked_right ?q_a_law ?q_l_law ?q_c_law ?q_k_law
    (case q_z_int => k_is)
    (case q_z_isinstance => k_is)
    (case q_z_bool => k_is)
    (case q_z_tuple => k_is)
    (case q_z_len => k_is)
    (case q_z_abs => k_is)
    (case q_z_range => k_is)
    (case q_z_ValueError => k_is)
    (case q_z_LookupError => k_is)
    (case q_z_RuntimeError => k_is)
    (case q_z_repr => k_is)
    (case q_z_enumerate => k_is)
    (case q_z_sum => k_is)
    (case q_z_max => k_is)
    (case q_m_gcd => k_is)
    (case q_g_NOUGHT => k_is)
    (case q_l_NOUGHT => k_is)
    (case q_c_NOUGHT => rfl)
    (case q_d_NOUGHT => rfl)
    (case q_v_NOUGHT => exact (.cons ⟨_, rfl⟩ (.cons ⟨_, rfl⟩ .nil)))
    (case q_a_OutOfPlace => k_is)
    (case q_a_BadSketch => k_is)
    (case q_a_BadRow => k_is)
    (case q_a_BadOutline => k_is)
    (case q_a_BadBlock => k_is)
    (case q_a_BadField => k_is)
    (case q_a_BadFeature => k_is)
    (case q_a_BadWay => k_is)
    (case q_a_BadTools => k_is)
    (case q_a_Clash => k_is)
    (case q_a_BadPaper => k_is)
    (case q_a_Twice => k_is)
    (case q_a_NoPoint => k_is)
    (case q_a_TooGreat => k_is)
    (case q_a_NoFeature => k_is)
    (case q_a_NoSaying => k_is)
    (case q_a_Nothing => k_is)
    (case q_a_NoTool => k_is)
    (case q_a_Lifted => k_is)
    (case q_a_NoToolThere => k_is)
    (case q_a_Beyond => k_is)
    (case q_a_Lowered => k_is)
    (case q_a_TooDeep => k_is)
    (case q_a_Blocked => k_is)
    (case q_a_WorksError => k_is)
    (case q_a_MissError => k_is)
    (case q_a_FaultError => k_is)
    (case q_xe_OutOfPlace => k_exc)
    (case q_ke_OutOfPlace => k_is)
    (case q_be_OutOfPlace => k_is)
    (case q_te_OutOfPlace => k_is)
    (case q_q1_OutOfPlace => k_is)
    (case q_q2_OutOfPlace => k_is)
    (case q_q3_OutOfPlace => k_is)
    (case q_q4_OutOfPlace => k_is)
    (case q_q7_OutOfPlace => k_is)
    (case q_q5_ => k_is)
    (case q_q6_ => k_is)
    (case q_hd_WorksError => k_is)
    (case q_ht_WorksError => k_is)
    (case q_hd_BadSketch => k_is)
    (case q_ht_BadSketch => k_is)
    (case q_hd_BadRow => k_is)
    (case q_ht_BadRow => k_is)
    (case q_hd_BadOutline => k_is)
    (case q_ht_BadOutline => k_is)
    (case q_hd_BadBlock => k_is)
    (case q_ht_BadBlock => k_is)
    (case q_hd_BadField => k_is)
    (case q_ht_BadField => k_is)
    (case q_hd_BadFeature => k_is)
    (case q_ht_BadFeature => k_is)
    (case q_hd_BadWay => k_is)
    (case q_ht_BadWay => k_is)
    (case q_hd_BadTools => k_is)
    (case q_ht_BadTools => k_is)
    (case q_hd_Clash => k_is)
    (case q_ht_Clash => k_is)
    (case q_hd_BadPaper => k_is)
    (case q_ht_BadPaper => k_is)
    (case q_hd_OutOfPlace => k_is)
    (case q_ht_OutOfPlace => k_is)
    (case q_hd_Twice => k_is)
    (case q_ht_Twice => k_is)
    (case q_hd_NoPoint => k_is)
    (case q_ht_NoPoint => k_is)
    (case q_hd_TooGreat => k_is)
    (case q_ht_TooGreat => k_is)
    (case q_hd_NoFeature => k_is)
    (case q_ht_NoFeature => k_is)
    (case q_hd_NoSaying => k_is)
    (case q_ht_NoSaying => k_is)
    (case q_hd_Nothing => k_is)
    (case q_ht_Nothing => k_is)
    (case q_hd_NoTool => k_is)
    (case q_ht_NoTool => k_is)
    (case q_hd_Lifted => k_is)
    (case q_ht_Lifted => k_is)
    (case q_hd_NoToolThere => k_is)
    (case q_ht_NoToolThere => k_is)
    (case q_hd_Beyond => k_is)
    (case q_ht_Beyond => k_is)
    (case q_hd_Lowered => k_is)
    (case q_ht_Lowered => k_is)
    (case q_hd_TooDeep => k_is)
    (case q_ht_TooDeep => k_is)
    (case q_hd_Blocked => k_is)
    (case q_ht_Blocked => k_is)
    (case q_hd_MissError => k_is)
    (case q_ht_MissError => k_is)
    (case q_hd_FaultError => k_is)
    (case q_ht_FaultError => k_is)
    (case q_hb_WorksError => k_is)
    (case q_s_OutOfPlace_WorksError => k_is)
    (case q_s_OutOfPlace_BadSketch => k_is)
    (case q_s_OutOfPlace_BadRow => k_is)
    (case q_s_OutOfPlace_BadOutline => k_is)
    (case q_s_OutOfPlace_BadBlock => k_is)
    (case q_s_OutOfPlace_BadField => k_is)
    (case q_s_OutOfPlace_BadFeature => k_is)
    (case q_s_OutOfPlace_BadWay => k_is)
    (case q_s_OutOfPlace_BadTools => k_is)
    (case q_s_OutOfPlace_Clash => k_is)
    (case q_s_OutOfPlace_BadPaper => k_is)
    (case q_s_OutOfPlace_OutOfPlace => k_is)
    (case q_s_OutOfPlace_Twice => k_is)
    (case q_s_OutOfPlace_NoPoint => k_is)
    (case q_s_OutOfPlace_TooGreat => k_is)
    (case q_s_OutOfPlace_NoFeature => k_is)
    (case q_s_OutOfPlace_NoSaying => k_is)
    (case q_s_OutOfPlace_Nothing => k_is)
    (case q_s_OutOfPlace_NoTool => k_is)
    (case q_s_OutOfPlace_Lifted => k_is)
    (case q_s_OutOfPlace_NoToolThere => k_is)
    (case q_s_OutOfPlace_Beyond => k_is)
    (case q_s_OutOfPlace_Lowered => k_is)
    (case q_s_OutOfPlace_TooDeep => k_is)
    (case q_s_OutOfPlace_Blocked => k_is)
    (case q_s_OutOfPlace_ValueError => k_is)
    (case q_s_OutOfPlace_LookupError => k_is)
    (case q_s_OutOfPlace_MissError => k_is)
    (case q_s_OutOfPlace_RuntimeError => k_is)
    (case q_s_OutOfPlace_FaultError => k_is)
    (case q_a_is_whole => k_is)
    (case q_l_is_whole => k_is)
    (case q_c_is_whole => k_is)
    (case q_k_is_whole => k_is)
    (case q_a_is_fraction => k_is)
    (case q_l_is_fraction => k_is)
    (case q_c_is_fraction => k_is)
    (case q_k_is_fraction => k_is)
    (case q_kd_is_fraction_most => k_is)
    (case q_kr_is_fraction_most => first | rfl | exact ⟨_, rfl⟩)
    (case q_a_lowest => k_is)
    (case q_l_lowest => k_is)
    (case q_c_lowest => k_is)
    (case q_k_lowest => k_is)
    (case q_a_fraction => k_is)
    (case q_l_fraction => k_is)
    (case q_c_fraction => k_is)
    (case q_k_fraction => k_is)
    (case q_dl_fraction => k_is)
    (case q_dd_fraction => rfl)
    (case q_dv_fraction => exact (.cons ⟨_, rfl⟩ .nil))
    (case q_a_plus => k_is)
    (case q_l_plus => k_is)
    (case q_c_plus => k_is)
    (case q_k_plus => k_is)
    (case q_a_less => k_is)
    (case q_l_less => k_is)
    (case q_c_less => k_is)
    (case q_k_less => k_is)
    (case q_a_times => k_is)
    (case q_l_times => k_is)
    (case q_c_times => k_is)
    (case q_k_times => k_is)
    (case q_a_over => k_is)
    (case q_l_over => k_is)
    (case q_c_over => k_is)
    (case q_k_over => k_is)
    (case q_a_mean => k_is)
    (case q_l_mean => k_is)
    (case q_c_mean => k_is)
    (case q_k_mean => k_is)
    (case q_a_is_under => k_is)
    (case q_l_is_under => k_is)
    (case q_c_is_under => k_is)
    (case q_k_is_under => k_is)
    (case q_a_compared => k_is)
    (case q_l_compared => k_is)
    (case q_c_compared => k_is)
    (case q_k_compared => k_is)
    (case q_a_floor_of => k_is)
    (case q_l_floor_of => k_is)
    (case q_c_floor_of => k_is)
    (case q_k_floor_of => k_is)
    (case q_a_law_mixed => k_is)
    (case q_l_law_mixed => k_is)
    (case q_c_law_mixed => k_is)
    (case q_k_law_mixed => k_is)
    (case q_a_law_draw => k_is)
    (case q_l_law_draw => k_is)
    (case q_c_law_draw => k_is)
    (case q_k_law_draw => k_is)
    (case q_a_law_digit => k_is)
    (case q_l_law_digit => k_is)
    (case q_c_law_digit => k_is)
    (case q_k_law_digit => k_is)
    (case q_a_law_lowest => k_is)
    (case q_l_law_lowest => k_is)
    (case q_c_law_lowest => k_is)
    (case q_k_law_lowest => k_is)
    (case q_a_law_fraction => k_is)
    (case q_l_law_fraction => k_is)
    (case q_c_law_fraction => k_is)
    (case q_k_law_fraction => k_is)
    (case q_a_law_kinds => k_is)
    (case q_l_law_kinds => k_is)
    (case q_c_law_kinds => k_is)
    (case q_k_law_kinds => k_is)
    (case q_a_law_told => k_is)
    (case q_l_law_told => k_is)
    (case q_c_law_told => k_is)
    (case q_k_law_told => k_is)
    (case q_a_law_over => k_is)
    (case q_l_law_over => k_is)
    (case q_c_law_over => k_is)
    (case q_k_law_over => k_is)
    (case q_a_law_reckoned_right => k_is)
    (case q_l_law_reckoned_right => k_is)
    (case q_c_law_reckoned_right => k_is)
    (case q_k_law_reckoned_right => k_is)
    (case q_a_law_looked_right => k_is)
    (case q_l_law_looked_right => k_is)
    (case q_c_law_looked_right => k_is)
    (case q_k_law_looked_right => k_is)
    (case q_a_law => k_is)
    (case q_l_law => k_is)
    (case q_c_law => k_is)
    (case q_k_law => k_is)

