import PyProof.Rows.All
import Wide.All
import OpenK.AllK
import Wide.FinOn
import HandS.Base
import HandS.Call
import HandS.List
import HandS.Comp
import HandS.ExcIs
import HandS.ExcInit
import HandS.ExcValue
import HandS.Words
import HandS.WordsList
import HandS.NoneIn
import HandS.Wide
import HandS.WideBits
import HandS.Gcd
import HandS.TupAny
import HandS.Text
import HandS.Deep
import HandS.TupLe
import HandS.Defaults
import HandS.IsInst
import HandS.FStr
import HandS.More
import HandS.Zip
import HandS.Iter
import HandS.Dict
import HandS.Ends
import PyProof.ReprRoads
import HandS.Exc
import HandS.ExcOwn
import HandS.WordsExc
import HandS.TryOnly
import HandS.Style
import KE.GoesMore
import PyProof.ListNew
import HandS.Flow
import KE.KExcInit
import HandS.ExcField
import KE.KExcIs
import HandS.MakeKw
import HandS.MakeKwOnly
import PySem.Challenge.RW_panelworks_k05_refusals_by_hand
set_option Elab.async false
set_option linter.all false
set_option maxRecDepth 100000
set_option maxHeartbeats 8000000
/-! Pl: values without addresses, over the hand layer. -/
namespace Pl
open PySem L2

/-- a value without addresses; ref n: the n-th of the store of what changes -/
inductive D where
  | non | bl (b : Bool) | int (i : Int) | str (x : Str) | ty (n : String) | ob (a : Addr)
  | tup (xs : List D) | lst (xs : List D) | lsk (xs : List D) | ref (n : Nat)
/-- what changes -/
inductive MO where
  | dead | lst (xs : List D) | dic (kvs : List (Key × D)) | exc (C : Addr)
  | exo (C : Addr) (d : Option Nat) | exd (fs : List (Str × D)) | exn (C : Addr)
abbrev Mh := List MO
abbrev Env := List (Option D)

section
variable (K : PySem.W.Frag) (B : Hp) (ι : List Addr)
mutual
inductive Rep : V → D → Prop
  | non : Rep .non .non
  | bl (b : Bool) : Rep (.bl b) (.bl b)
  | int (i : Int) : Rep (.int i) (.int i)
  | str (x : Str) : Rep (.str x) (.str x)
  | ty (n : String) : Rep (.ty n) (.ty n)
  | ob (a : Addr) : Rep (.ref a) (.ob a)
  | tup {a : Addr} {vs : List V} {ds : List D} : SqT K B a vs → RepL vs ds → Rep (.ref a) (.tup ds)
  | lst {a : Addr} {vs : List V} {ds : List D} : B a = some (.lst vs) → RepL vs ds → Rep (.ref a) (.lst ds)
  | lsk {a : Addr} {vs : List V} {ds : List D} : SqL K B a vs → RepL vs ds → Rep (.ref a) (.lsk ds)
  | ref {a : Addr} {n : Nat} : ι[n]? = some a → Rep (.ref a) (.ref n)
inductive RepL : List V → List D → Prop
  | nil : RepL [] []
  | cons {v : V} {d : D} {vs : List V} {ds : List D} : Rep v d → RepL vs ds → RepL (v :: vs) (d :: ds)
end
/-- a dict's pairs -/
inductive RepK : List (Key × V) → List (Key × D) → Prop
  | nil : RepK [] []
  | cons {k : Key} {v : V} {d : D} {vs : List (Key × V)} {ds : List (Key × D)} : Rep K B ι v d → RepK vs ds → RepK ((k, v) :: vs) ((k, d) :: ds)
end

theorem sqT_mono {K : PySem.W.Frag} {B B' : Hp} (s : ∀ b o, B b = some o → B' b = some o) {a : Addr} {vs : List V} (h : SqT K B a vs) : SqT K B' a vs := by
  rcases h with h | h
  · refine .inl ?_
    rcases h with h | ⟨o, h⟩
    · exact .inl (s _ _ h)
    · exact .inr ⟨o, s _ _ h⟩
  · exact .inr h
theorem sqL_mono {K : PySem.W.Frag} {B B' : Hp} (s : ∀ b o, B b = some o → B' b = some o) {a : Addr} {vs : List V} (h : SqL K B a vs) : SqL K B' a vs := by
  rcases h with h | h
  · refine .inl ?_
    rcases h with h | ⟨o, h⟩
    · exact .inl (s _ _ h)
    · exact .inr ⟨o, s _ _ h⟩
  · exact .inr h

section
variable {K : PySem.W.Frag} {B B' : Hp} {ι ι' : List Addr}
mutual
theorem Rep.mono (s : ∀ b o, B b = some o → B' b = some o) (p : ∀ (n : Nat) (a : Addr), ι[n]? = some a → ι'[n]? = some a) : ∀ {v : V} {d : D}, Rep K B ι v d → Rep K B' ι' v d
  | _, _, .non => .non
  | _, _, .bl b => .bl b
  | _, _, .int i => .int i
  | _, _, .str x => .str x
  | _, _, .ty n => .ty n
  | _, _, .ob a => .ob a
  | _, _, .tup h r => .tup (sqT_mono s h) (RepL.mono s p r)
  | _, _, .lst h r => .lst (s _ _ h) (RepL.mono s p r)
  | _, _, .lsk h r => .lsk (sqL_mono s h) (RepL.mono s p r)
  | _, _, .ref h => .ref (p _ _ h)
theorem RepL.mono (s : ∀ b o, B b = some o → B' b = some o) (p : ∀ (n : Nat) (a : Addr), ι[n]? = some a → ι'[n]? = some a) : ∀ {vs : List V} {ds : List D}, RepL K B ι vs ds → RepL K B' ι' vs ds
  | _, _, .nil => .nil
  | _, _, .cons h r => .cons (Rep.mono s p h) (RepL.mono s p r)
end
theorem RepK.mono (s : ∀ b o, B b = some o → B' b = some o) (p : ∀ (n : Nat) (a : Addr), ι[n]? = some a → ι'[n]? = some a) : ∀ {vs : List (Key × V)} {ds : List (Key × D)}, RepK K B ι vs ds → RepK K B' ι' vs ds
  | _, _, .nil => .nil
  | _, _, .cons h r => .cons (h.mono s p) (RepK.mono s p r)
theorem RepL.len : ∀ {vs : List V} {ds : List D}, RepL K B ι vs ds → vs.length = ds.length
  | _, _, .nil => rfl
  | _, _, .cons _ r => congrArg (· + 1) r.len
theorem RepL.get : ∀ {vs : List V} {ds : List D} {i : Nat} {d : D}, RepL K B ι vs ds → ds[i]? = some d → ∃ v, vs[i]? = some v ∧ Rep K B ι v d
  | _, _, _, _, .nil, e => by simp at e
  | _, _, 0, _, .cons r _, e => by
    simp at e
    subst e
    exact ⟨_, rfl, r⟩
  | _, _, i + 1, _, .cons _ t, e => by
    obtain ⟨v, h1, h2⟩ := RepL.get (i := i) t (by simpa using e)
    exact ⟨v, by simpa using h1, h2⟩
theorem RepL.getV : ∀ {vs : List V} {ds : List D} {i : Nat} {v : V}, RepL K B ι vs ds → vs[i]? = some v → ∃ d, ds[i]? = some d ∧ Rep K B ι v d
  | _, _, _, _, .nil, e => by simp at e
  | _, _, 0, _, .cons r _, e => by
    simp at e
    subst e
    exact ⟨_, rfl, r⟩
  | _, _, i + 1, _, .cons _ t, e => by
    obtain ⟨v, h1, h2⟩ := RepL.getV (i := i) t (by simpa using e)
    exact ⟨v, by simpa using h1, h2⟩
theorem RepL.append : ∀ {vs ws : List V} {ds es : List D}, RepL K B ι vs ds → RepL K B ι ws es → RepL K B ι (vs ++ ws) (ds ++ es)
  | _, _, _, _, .nil, s => s
  | _, _, _, _, .cons r t, s => .cons r (t.append s)
theorem RepL.take : ∀ {vs : List V} {ds : List D} (n : Nat), RepL K B ι vs ds → RepL K B ι (vs.take n) (ds.take n)
  | _, _, 0, _ => .nil
  | _, _, _ + 1, .nil => .nil
  | _, _, n + 1, .cons r t => .cons r (t.take n)
theorem RepL.drop : ∀ {vs : List V} {ds : List D} (n : Nat), RepL K B ι vs ds → RepL K B ι (vs.drop n) (ds.drop n)
  | _, _, 0, r => r
  | _, _, _ + 1, .nil => .nil
  | _, _, n + 1, .cons _ t => t.drop n
theorem RepL.set {v : V} {d : D} (r : Rep K B ι v d) : ∀ {vs : List V} {ds : List D} (i : Nat), RepL K B ι vs ds → RepL K B ι (vs.set i v) (ds.set i d)
  | _, _, _, .nil => .nil
  | _, _, 0, .cons _ t => .cons r t
  | _, _, i + 1, .cons q t => .cons q (RepL.set r i t)
theorem RepL.reverse : ∀ {vs : List V} {ds : List D}, RepL K B ι vs ds → RepL K B ι vs.reverse ds.reverse
  | _, _, .nil => .nil
  | _, _, .cons r t => by
    rw [List.reverse_cons, List.reverse_cons]
    exact t.reverse.append (.cons r .nil)
end

/-! ### worlds: H all, B what stands for good, ι where the store's things are, P what is another's -/
structure Wd where
  H : Hp
  B : Hp
  ι : List Addr
  P : Hp
/-- alive at a -/
def Live (W : Wd) (M : Mh) (n : Nat) (a : Addr) (o : MO) : Prop := W.ι[n]? = some a ∧ M[n]? = some o ∧ o ≠ .dead
/-- an exception that was caught and is kept -/
def ExV (C a : Addr) : HO := .ext fun h => ∃ (oe : Obj) (vs : Array Value), h.get? a = some oe ∧ Zc (.ref C) none oe ∧ oe.data = .fields vs
/-- an exception's fields -/
inductive RepF (K : PySem.W.Frag) (B : Hp) (ι : List Addr) : List (Str × V) → List (Str × D) → Prop
  | nil : RepF K B ι [] []
  | cons {f : Str} {v : V} {d : D} {vs : List (Str × V)} {ds : List (Str × D)} : Rep K B ι v d → RepF K B ι vs ds → RepF K B ι ((f, v) :: vs) ((f, d) :: ds)
theorem RepF.mono {K : PySem.W.Frag} {B B' : Hp} {ι ι' : List Addr} (s : ∀ b o, B b = some o → B' b = some o) (p : ∀ (n : Nat) (a : Addr), ι[n]? = some a → ι'[n]? = some a) : ∀ {vs : List (Str × V)} {ds : List (Str × D)}, RepF K B ι vs ds → RepF K B' ι' vs ds
  | _, _, .nil => .nil
  | _, _, .cons h r => .cons (h.mono s p) (r.mono s p)
theorem RepF.len {K : PySem.W.Frag} {B : Hp} {ι : List Addr} : ∀ {vs : List (Str × V)} {ds : List (Str × D)}, RepF K B ι vs ds → vs.length = ds.length
  | _, _, .nil => rfl
  | _, _, .cons _ r => congrArg (· + 1) r.len
theorem RepF.get {K : PySem.W.Frag} {B : Hp} {ι : List Addr} : ∀ {vs : List (Str × V)} {ds : List (Str × D)} {f : Str} {d : D}, RepF K B ι vs ds → ds.lookup f = some d → ∃ v, vs.lookup f = some v ∧ Rep K B ι v d
  | _, _, _, _, .nil, e => by simp at e
  | _, _, f, d, .cons (f := g) h r, e => by
    rw [List.lookup_cons] at e ⊢
    by_cases q : f == g
    · rw [q] at e ⊢
      cases e
      exact ⟨_, rfl, h⟩
    · have q' : (f == g) = false := by simpa using q
      rw [q'] at e ⊢
      exact r.get e
inductive RepO (K : PySem.W.Frag) (B : Hp) (ι : List Addr) (a : Addr) : HO → MO → Prop
  | lst {vs : List V} {ds : List D} : RepL K B ι vs ds → RepO K B ι a (.lst vs) (.lst ds)
  | dic {vs : List (Key × V)} {ds : List (Key × D)} : RepK K B ι vs ds → RepO K B ι a (.dK vs) (.dic ds)
  | exc {C : Addr} : ExcC K C → RepO K B ι a (ExV C a) (.exc C)
  | exo {C : Addr} : RepO K B ι a (exo a C none) (.exo C none)
  | exoD {C d : Addr} {m : Nat} : ι[m]? = some d → RepO K B ι a (exo a C (some d)) (.exo C (some m))
  | exd {fs : List (Str × V)} {ds : List (Str × D)} : RepF K B ι fs ds → RepO K B ι a (exd a fs) (.exd ds)
  | exn {C : Addr} : RepO K B ι a (ExO (.ref C) a) (.exn C)
theorem RepO.mono {K : PySem.W.Frag} {B B' : Hp} {ι ι' : List Addr} (s : ∀ b o, B b = some o → B' b = some o) (p : ∀ (n : Nat) (a : Addr), ι[n]? = some a → ι'[n]? = some a) {a : Addr} {o : HO} {m : MO} : RepO K B ι a o m → RepO K B' ι' a o m
  | .lst r => .lst (r.mono s p)
  | .dic r => .dic (r.mono s p)
  | .exc h => .exc h
  | .exo => .exo
  | .exoD h => .exoD (p _ _ h)
  | .exd r => .exd (r.mono s p)
  | .exn => .exn
structure Wd.Ok (K : PySem.W.Frag) (W : Wd) (M : Mh) : Prop where
  sub : ∀ a o, W.B a = some o → W.H a = some o
  pin : ∀ a o, W.P a = some o → W.H a = some o ∧ W.B a = none
  len : W.ι.length = M.length
  live : ∀ n a o, Live W M n a o → W.B a = none ∧ W.P a = none ∧ ∃ h, W.H a = some h ∧ RepO K W.B W.ι a h o
  inj : ∀ n m a o u, Live W M n a o → Live W M m a u → n = m
structure Wd.Le (W W' : Wd) : Prop where
  same : ∀ b o, W.B b = some o → W'.B b = some o
  pre : ∃ l, W'.ι = W.ι ++ l
  pp : W'.P = W.P
theorem Wd.Le.refl (W : Wd) : W.Le W := ⟨fun _ _ h => h, ⟨[], by simp⟩, rfl⟩
theorem Wd.Le.trans {W W1 W2 : Wd} (a : W.Le W1) (b : W1.Le W2) : W.Le W2 := by
  obtain ⟨l, hl⟩ := a.pre
  obtain ⟨m, hm⟩ := b.pre
  exact ⟨fun c o h => b.same c o (a.same c o h), ⟨l ++ m, by rw [hm, hl, List.append_assoc]⟩, b.pp.trans a.pp⟩
theorem Wd.Le.ix {W W' : Wd} (a : W.Le W') : ∀ (n : Nat) (c : Addr), W.ι[n]? = some c → W'.ι[n]? = some c := fun n c h => by
  obtain ⟨l, hl⟩ := a.pre
  rw [hl, List.getElem?_append_left (List.getElem?_eq_some_iff.mp h).1]
  exact h
theorem Rep.le {K : PySem.W.Frag} {W W' : Wd} (a : W.Le W') {v : V} {d : D} (r : Rep K W.B W.ι v d) : Rep K W'.B W'.ι v d := r.mono a.same a.ix
theorem RepL.le {K : PySem.W.Frag} {W W' : Wd} (a : W.Le W') {v : List V} {d : List D} (r : RepL K W.B W.ι v d) : RepL K W'.B W'.ι v d := r.mono a.same a.ix

/-- the same, whatever is held -/
structure Wd.Lo (W W' : Wd) : Prop where
  same : ∀ b o, W.B b = some o → W'.B b = some o
  pre : ∃ l, W'.ι = W.ι ++ l
theorem Wd.Le.lo {W W' : Wd} (a : W.Le W') : W.Lo W' := ⟨a.same, a.pre⟩
theorem Wd.Lo.ix {W W' : Wd} (a : W.Lo W') : ∀ (n : Nat) (c : Addr), W.ι[n]? = some c → W'.ι[n]? = some c := fun n c h => by
  obtain ⟨l, hl⟩ := a.pre
  rw [hl, List.getElem?_append_left (List.getElem?_eq_some_iff.mp h).1]
  exact h
/-- the slots -/
structure Slots (K : PySem.W.Frag) (W : Wd) (σ : St) (δ : Env) : Prop where
  len : σ.length = δ.length
  at_ : ∀ (i : Nat) (d : D), δ[i]? = some (some d) → ∃ v, σ[i]? = some (some v) ∧ Rep K W.B W.ι v d
theorem Slots.le {K : PySem.W.Frag} {W W' : Wd} (a : W.Le W') {σ : St} {δ : Env} (s : Slots K W σ δ) : Slots K W' σ δ :=
  ⟨s.len, fun i d h => by
    obtain ⟨v, h1, h2⟩ := s.at_ i d h
    exact ⟨v, h1, h2.le a⟩⟩
theorem Slots.set {K : PySem.W.Frag} {W : Wd} {σ : St} {δ : Env} {v : V} {d : D} (s : Slots K W σ δ) (r : Rep K W.B W.ι v d) (i : Nat) : Slots K W (σ.set i (some v)) (δ.set i (some d)) :=
  ⟨by rw [List.length_set, List.length_set]; exact s.len, fun j e h => by
    rw [List.getElem?_set] at h
    rw [List.getElem?_set]
    by_cases hij : i = j
    · subst hij
      rw [if_pos rfl] at h
      rw [if_pos rfl]
      by_cases hl : i < δ.length
      · rw [if_pos hl] at h
        rw [if_pos (by rw [s.len]; exact hl)]
        cases h
        exact ⟨v, rfl, r⟩
      · rw [if_neg hl] at h
        cases h
    · rw [if_neg hij] at h
      rw [if_neg hij]
      exact s.at_ j e h⟩

/-! ### laying, changing, letting go -/
section
variable {K : PySem.W.Frag} {W : Wd} {M : Mh} {p : Addr} {o : HO}
def Wd.lay (W : Wd) (p : Addr) (o : HO) : Wd := ⟨upd W.H p o, upd W.B p o, W.ι, W.P⟩
theorem updk {H : Hp} {p : Addr} {o : HO} (h : H p = none) : ∀ b u, H b = some u → upd H p o b = some u := fun b u e => by
  rw [upd_ne (ne_of_none e h)]
  exact e
theorem Wd.Ok.bnone (w : W.Ok K M) (hp : W.H p = none) : W.B p = none := by
  cases e : W.B p with
  | none => rfl
  | some u =>
    have := w.sub p u e
    rw [hp] at this
    cases this
theorem Wd.Ok.pnone (w : W.Ok K M) (hp : W.H p = none) : W.P p = none := by
  cases e : W.P p with
  | none => rfl
  | some u =>
    have := (w.pin p u e).1
    rw [hp] at this
    cases this
theorem Wd.lay_le (w : W.Ok K M) (hp : W.H p = none) : W.Le (W.lay p o) := ⟨updk (w.bnone hp), ⟨[], by simp [Wd.lay]⟩, rfl⟩
theorem Wd.lay_ok (w : W.Ok K M) (hp : W.H p = none) : (W.lay p o).Ok K M := by
  have lv : ∀ n a u, Live (W.lay p o) M n a u → Live W M n a u := fun n a u h => h
  have ne : ∀ {n a u}, Live W M n a u → a ≠ p := fun {n a u} h e => by
    obtain ⟨_, _, k, hk, _⟩ := w.live n a u h
    rw [e, hp] at hk
    cases hk
  refine ⟨fun a u h => ?_, fun a u h => ?_, w.len, fun n a u h => ?_, fun n m a u v h k => w.inj n m a u v (lv _ _ _ h) (lv _ _ _ k)⟩
  · by_cases e : a = p
    · subst e
      show upd W.H a o a = _
      have h' : upd W.B a o a = some u := h
      rw [upd_same] at h' ⊢
      exact h'
    · show upd W.H p o a = _
      have h' : upd W.B p o a = some u := h
      rw [upd_ne e] at h' ⊢
      exact w.sub a u h'
  · have q := w.pin a u h
    have e : a ≠ p := fun e => by
      rw [e, hp] at q
      cases q.1
    exact ⟨(upd_ne e).trans q.1, (upd_ne e).trans q.2⟩
  · obtain ⟨h1, h2, k, h3, h4⟩ := w.live n a u (lv _ _ _ h)
    have e := ne (lv _ _ _ h)
    exact ⟨(upd_ne e).trans h1, h2, k, (upd_ne e).trans h3, h4.mono (updk (w.bnone hp)) fun _ _ q => q⟩
/-- a new thing of the store -/
def Wd.new (W : Wd) (p : Addr) (o : HO) : Wd := ⟨upd W.H p o, W.B, W.ι ++ [p], W.P⟩
theorem Wd.new_le : W.Le (W.new p o) := ⟨fun _ _ h => h, ⟨[p], rfl⟩, rfl⟩
theorem Wd.new_ok {m : MO} (w : W.Ok K M) (hp : W.H p = none) (r : RepO K W.B W.ι p o m) : (W.new p o).Ok K (M ++ [m]) := by
  have lv : ∀ n a u, Live (W.new p o) (M ++ [m]) n a u → Live W M n a u ∨ (n = M.length ∧ a = p ∧ u = m) := fun n a u h => by
    obtain ⟨h1, h2, h3⟩ := h
    have h1' : (W.ι ++ [p])[n]? = some a := h1
    by_cases hn : n < M.length
    · rw [List.getElem?_append_left (by rw [w.len]; exact hn)] at h1'
      rw [List.getElem?_append_left hn] at h2
      exact .inl ⟨h1', h2, h3⟩
    · have e : n = M.length := by
        have := (List.getElem?_eq_some_iff.mp h2).1
        rw [List.length_append] at this
        simp at this
        omega
      subst e
      rw [List.getElem?_append_right (by rw [w.len]; exact Nat.le_refl _), w.len] at h1'
      rw [List.getElem?_append_right (Nat.le_refl _)] at h2
      simp at h1' h2
      exact .inr ⟨rfl, h1'.symm, h2.symm⟩
  have ne : ∀ {n a u}, Live W M n a u → a ≠ p := fun {n a u} h e => by
    obtain ⟨_, _, k, hk, _⟩ := w.live n a u h
    rw [e, hp] at hk
    cases hk
  have ln : ∀ {n a u}, Live W M n a u → n < M.length := fun {n a u} h => (List.getElem?_eq_some_iff.mp h.2.1).1
  refine ⟨fun a u h => ?_, fun a u h => ?_, ?_, fun n a u h => ?_, fun n k a u v h g => ?_⟩
  · exact (upd_ne (fun e => by
      rw [e] at h
      have := w.bnone hp
      rw [show (W.new p o).B p = W.B p from rfl, this] at h
      cases h)).trans (w.sub a u h)
  · have q := w.pin a u h
    have e : a ≠ p := fun e => by
      rw [e, hp] at q
      cases q.1
    exact ⟨(upd_ne e).trans q.1, q.2⟩
  · show (W.ι ++ [p]).length = _
    simp [w.len]
  · rcases lv n a u h with h | ⟨_, rfl, rfl⟩
    · obtain ⟨h1, h2, k, h3, h4⟩ := w.live n a u h
      exact ⟨h1, h2, k, (upd_ne (ne h)).trans h3, h4.mono (fun _ _ q => q) Wd.new_le.ix⟩
    · exact ⟨w.bnone hp, w.pnone hp, o, upd_same, r.mono (fun _ _ q => q) Wd.new_le.ix⟩
  · rcases lv n a u h with h | ⟨h1, h2, h3⟩
    · rcases lv k a v g with g | ⟨g1, g2, g3⟩
      · exact w.inj n k a u v h g
      · exact absurd g2 (ne h)
    · rcases lv k a v g with g | ⟨g1, g2, g3⟩
      · exact absurd h2 (ne g)
      · omega
/-- a thing of the store changed -/
def Wd.put (W : Wd) (p : Addr) (o : HO) : Wd := ⟨upd W.H p o, W.B, W.ι, W.P⟩
theorem Wd.put_le : W.Le (W.put p o) := ⟨fun _ _ h => h, ⟨[], by simp [Wd.put]⟩, rfl⟩
theorem Wd.put_ok {n : Nat} {m m' : MO} (w : W.Ok K M) (lv0 : Live W M n p m) (r : RepO K W.B W.ι p o m') : (W.put p o).Ok K (M.set n m') := by
  have hn : n < M.length := (List.getElem?_eq_some_iff.mp lv0.2.1).1
  have lv : ∀ k a u, Live (W.put p o) (M.set n m') k a u → (k = n ∧ a = p ∧ u = m') ∨ (k ≠ n ∧ Live W M k a u) := fun k a u h => by
    obtain ⟨h1, h2, h3⟩ := h
    by_cases e : n = k
    · subst e
      rw [List.getElem?_set_self hn] at h2
      have e1 : some a = some p := (show W.ι[n]? = some a from h1).symm.trans lv0.1
      cases e1
      cases h2
      exact .inl ⟨rfl, rfl, rfl⟩
    · rw [List.getElem?_set_ne e] at h2
      exact .inr ⟨fun z => e z.symm, h1, h2, h3⟩
  have ne : ∀ {k a u}, k ≠ n → Live W M k a u → a ≠ p := fun {k a u} hk h e => by
    subst e
    exact hk (w.inj _ _ _ _ _ h lv0)
  obtain ⟨b0, p0, _⟩ := w.live n p m lv0
  refine ⟨fun a u h => ?_, fun a u h => ?_, ?_, fun k a u h => ?_, fun k j a u v h g => ?_⟩
  · exact (upd_ne (fun e => by
      rw [e] at h
      rw [show (W.put p o).B p = W.B p from rfl, b0] at h
      cases h)).trans (w.sub a u h)
  · have e : a ≠ p := fun e => by
      rw [e] at h
      rw [show (W.put p o).P p = W.P p from rfl, p0] at h
      cases h
    have q := w.pin a u h
    exact ⟨(upd_ne e).trans q.1, q.2⟩
  · show W.ι.length = _
    rw [List.length_set]
    exact w.len
  · rcases lv k a u h with ⟨rfl, rfl, rfl⟩ | ⟨hk, h⟩
    · exact ⟨b0, p0, o, upd_same, r⟩
    · obtain ⟨h1, h2, g, h3, h4⟩ := w.live k a u h
      exact ⟨h1, h2, g, (upd_ne (ne hk h)).trans h3, h4⟩
  · rcases lv k a u h with ⟨rfl, rfl, rfl⟩ | ⟨hk, h2⟩
    · rcases lv j a v g with ⟨rfl, _, _⟩ | ⟨hj, g⟩
      · rfl
      · exact absurd rfl (ne hj g)
    · rcases lv j a v g with ⟨_, e2, _⟩ | ⟨hj, g⟩
      · exact absurd e2 (ne hk h2)
      · exact w.inj _ _ _ _ _ h2 g
/-- a list of the store stands still from here on -/
def Wd.frz (W : Wd) (p : Addr) (o : HO) : Wd := ⟨W.H, upd W.B p o, W.ι, W.P⟩
theorem Wd.frz_le {n : Nat} {m : MO} (w : W.Ok K M) (lv0 : Live W M n p m) : W.Le (W.frz p o) := ⟨updk (w.live n p m lv0).1, ⟨[], by simp [Wd.frz]⟩, rfl⟩
theorem Wd.frz_ok {n : Nat} {m : MO} (w : W.Ok K M) (lv0 : Live W M n p m) (ho : W.H p = some o) : (W.frz p o).Ok K (M.set n .dead) := by
  have hn : n < M.length := (List.getElem?_eq_some_iff.mp lv0.2.1).1
  have lv : ∀ k a u, Live (W.frz p o) (M.set n .dead) k a u → k ≠ n ∧ Live W M k a u := fun k a u h => by
    obtain ⟨h1, h2, h3⟩ := h
    by_cases e : n = k
    · subst e
      rw [List.getElem?_set_self hn] at h2
      cases h2
      exact absurd rfl h3
    · rw [List.getElem?_set_ne e] at h2
      exact ⟨fun z => e z.symm, h1, h2, h3⟩
  have ne : ∀ {k a u}, k ≠ n → Live W M k a u → a ≠ p := fun {k a u} hk h e => by
    subst e
    exact hk (w.inj _ _ _ _ _ h lv0)
  obtain ⟨b0, p0, _⟩ := w.live n p m lv0
  refine ⟨fun a u h => ?_, fun a u h => ?_, ?_, fun k a u h => ?_, fun k j a u v h g => ?_⟩
  · by_cases e : a = p
    · subst e
      have h' : upd W.B a o a = some u := h
      rw [upd_same] at h'
      cases h'
      exact ho
    · have h' : upd W.B p o a = some u := h
      rw [upd_ne e] at h'
      exact w.sub a u h'
  · have q := w.pin a u h
    have e : a ≠ p := fun e => by
      rw [e] at h
      rw [show (W.frz p o).P p = W.P p from rfl, p0] at h
      cases h
    exact ⟨q.1, (upd_ne e).trans q.2⟩
  · show W.ι.length = _
    rw [List.length_set]
    exact w.len
  · obtain ⟨hk, h⟩ := lv k a u h
    obtain ⟨h1, h2, g, h3, h4⟩ := w.live k a u h
    exact ⟨(upd_ne (ne hk h)).trans h1, h2, g, h3, h4.mono (updk b0) fun _ _ q => q⟩
  · exact w.inj _ _ _ _ _ (lv k a u h).2 (lv j a v g).2
/-- something of another's, while it is looked at -/
def Wd.hold (W : Wd) (p : Addr) (o : HO) : Wd := ⟨upd W.H p o, W.B, W.ι, upd W.P p o⟩
theorem Wd.hold_ok (w : W.Ok K M) (hp : W.H p = none) : (W.hold p o).Ok K M := by
  have ne : ∀ {n a u}, Live W M n a u → a ≠ p := fun {n a u} h e => by
    obtain ⟨_, _, k, hk, _⟩ := w.live n a u h
    rw [e, hp] at hk
    cases hk
  refine ⟨fun a u h => ?_, fun a u h => ?_, w.len, fun n a u h => ?_, fun n m a u v h k => w.inj n m a u v h k⟩
  · exact (upd_ne (fun e => by
      rw [e] at h
      have := w.bnone hp
      rw [show (W.hold p o).B p = W.B p from rfl, this] at h
      cases h)).trans (w.sub a u h)
  · by_cases e : a = p
    · subst e
      have h' : upd W.P a o a = some u := h
      rw [upd_same] at h'
      exact ⟨upd_same.trans h', w.bnone hp⟩
    · have h' : upd W.P p o a = some u := h
      rw [upd_ne e] at h'
      have q := w.pin a u h'
      exact ⟨(upd_ne e).trans q.1, q.2⟩
  · obtain ⟨h1, h2, k, h3, h4⟩ := w.live n a u h
    exact ⟨h1, (upd_ne (ne h)).trans h2, k, (upd_ne (ne h)).trans h3, h4⟩
end
end Pl

namespace Pl
open PySem L2

theorem ifF {A B : Prop} (h : B) : if false = true then A else B := by
  rw [if_neg Bool.false_ne_true]
  exact h
theorem ifT {A B : Prop} (h : A) : if true = true then A else B := by
  rw [if_pos rfl]
  exact h
abbrev EF := Env → Mh → Option (D × Mh)
abbrev TF := Env → Mh → Option (Bool × Mh)
abbrev AF := Env → Mh → Option (List D × Mh)
abbrev GF := D → Env → Option Env
inductive Out where
  | nx (δ : Env) (M : Mh) | rt (d : D) (M : Mh) | bk (δ : Env) (M : Mh) | ct (δ : Env) (M : Mh)
abbrev SF := Env → Mh → Option Out
abbrev Fn := List D → Mh → Option (D × Mh)

/-- what is wanted of a value d behind, the store M' -/
def VR (K : PySem.W.Frag) (W : Wd) (d : D) (M' : Mh) (Q : VK) : Prop := ∀ v W', W.Le W' → W'.Ok K M' → Rep K W'.B W'.ι v d → Q v W'.H
def VRL (K : PySem.W.Frag) (W : Wd) (d : List D) (M' : Mh) (Q : List V → Hp → Prop) : Prop := ∀ v W', W.Le W' → W'.Ok K M' → RepL K W'.B W'.ι v d → Q v W'.H
theorem VR.le {K : PySem.W.Frag} {W W1 : Wd} {d : D} {M' : Mh} {Q : VK} (h : VR K W d M' Q) (l : W.Le W1) : VR K W1 d M' Q := fun v W' a o r => h v W' (l.trans a) o r
def ER (K : PySem.W.Frag) (t : TE) (f : EF) : Prop := ∀ (σ : St) (W : Wd) (δ : Env) (M : Mh) (d : D) (M' : Mh) (Q : VK), W.Ok K M → Slots K W σ δ → f δ M = some (d, M') → VR K W d M' Q → t σ W.H Q
def AR (K : PySem.W.Frag) (t : TA) (f : AF) : Prop := ∀ (σ : St) (W : Wd) (δ : Env) (M : Mh) (d : List D) (M' : Mh) (Q : List V → Hp → Prop), W.Ok K M → Slots K W σ δ → f δ M = some (d, M') → VRL K W d M' Q → t σ W.H Q
def TR (K : PySem.W.Frag) (t : TT) (f : TF) : Prop := ∀ (σ : St) (W : Wd) (δ : Env) (M : Mh) (b : Bool) (M' : Mh) (Q : Bool → Hp → Prop), W.Ok K M → Slots K W σ δ → f δ M = some (b, M') → (∀ W', W.Le W' → W'.Ok K M' → Q b W'.H) → t σ W.H Q

/-- what is wanted behind a statement -/
def Post (K : PySem.W.Frag) (E : Ends) (W : Wd) : Out → Prop
  | .nx δ M => ∀ σ W', W.Le W' → W'.Ok K M → Slots K W' σ δ → E.nx σ W'.H
  | .bk δ M => ∀ σ W', W.Le W' → W'.Ok K M → Slots K W' σ δ → E.bk σ W'.H
  | .ct δ M => ∀ σ W', W.Le W' → W'.Ok K M → Slots K W' σ δ → E.ct σ W'.H
  | .rt d M => VR K W d M E.rt
theorem Post.le {K : PySem.W.Frag} {E : Ends} {W W1 : Wd} {o : Out} (l : W.Le W1) (h : Post K E W o) : Post K E W1 o := by
  cases o with
  | nx δ M => exact fun σ W' a b c => h σ W' (l.trans a) b c
  | bk δ M => exact fun σ W' a b c => h σ W' (l.trans a) b c
  | ct δ M => exact fun σ W' a b c => h σ W' (l.trans a) b c
  | rt d M => exact fun v W' a b c => h v W' (l.trans a) b c
def SR (K : PySem.W.Frag) (t : TS) (f : SF) : Prop := ∀ (σ : St) (W : Wd) (δ : Env) (M : Mh) (o : Out) (E : Ends), W.Ok K M → Slots K W σ δ → f δ M = some o → Post K E W o → t E σ W.H

section
variable {I : Type}
structure DE (X : I → Cx) (K : PySem.W.Frag) (e : Expr) (f : EF) : Prop where
  go : ∃ t : TE, (∀ i, PE (X i) e t) ∧ ER K t f
structure DA (X : I → Cx) (K : PySem.W.Frag) (es : List Expr) (f : AF) : Prop where
  go : ∃ t : TA, (∀ i, PA (X i) es t) ∧ AR K t f
structure DT (X : I → Cx) (K : PySem.W.Frag) (e : Expr) (f : TF) : Prop where
  go : ∃ t : TT, (∀ i, PT (X i) e t) ∧ TR K t f
structure DW (X : I → Cx) (K : PySem.W.Frag) (e : Expr) (f : TF) : Prop where
  go : ∃ t : TT, (∀ i, PW (X i) e t) ∧ TR K t f
structure DS (X : I → Cx) (K : PySem.W.Frag) (s : Stmt) (f : SF) : Prop where
  go : ∃ t : TS, (∀ i, PS (X i) s t) ∧ SR K t f
structure DB (X : I → Cx) (K : PySem.W.Frag) (s : List Stmt) (f : SF) : Prop where
  go : ∃ t : TS, (∀ i, PSs (X i) s t) ∧ SR K t f
/-- a comparison: both as a value and as a test -/
structure DC (X : I → Cx) (K : PySem.W.Frag) (e : Expr) (f : EF) : Prop where
  go : ∃ t : TE, (∀ i, PE (X i) e t) ∧ (∀ i, PT (X i) e (tTest t)) ∧ ER K t f

/-- what all contexts of the family have in common -/
structure Ctx (X : I → Cx) (P : Program) (w : World) (K : PySem.W.Frag) (mg : Str → Option Value) (base : Heap) (k : Nat) : Prop where
  prog : ∀ i, (X i).prog = P
  wd : ∀ i, (X i).w = w
  K : ∀ i, (X i).K = K
  mg : ∀ i, (X i).mg = mg
  base : ∀ i, (X i).base = base
  room : ∀ i, Room k (X i).A
  grd : ∀ i, (X i).A.guards = some []
  calm : ∀ i, (X i).calm = true

variable {X : I → Cx} {P : Program} {w : World} {K : PySem.W.Frag} {mg : Str → Option Value} {base : Heap} {k : Nat}

/-! ### values -/
def eVar (i : Nat) : EF := fun δ M => match δ[i]? with
  | some (some d) => some (d, M)
  | _ => none
theorem DE.var (j : Nat) {x : Str} {pos : Pos} (hN : ∀ i, (X i).N[j]? = some x := by intro _; rfl) (hv : ∀ i, Vis (X i).env.scope x := by intro _; first | exact Or.inl rfl | exact Or.inr (Or.inl rfl) | exact Or.inr (Or.inr rfl)) (hd : (x == ("__debug__" : Str)) = false := by decide)
    (hcd : (x == ("__classdict__" : Str)) = false := by decide) : DE X K (.Name x pos) (eVar j) := by
  refine ⟨tVar j, fun i => pe_var (hN i) (hv i) hd hcd, fun σ W δ M d M' Q w s e q => ?_⟩
  unfold eVar at e
  split at e
  · rename_i d' h
    cases e
    obtain ⟨v, h1, h2⟩ := s.at_ _ _ h
    exact ⟨v, h1, q v W (.refl W) w h2⟩
  · cases e
def eC (d : D) : EF := fun _ M => some (d, M)
theorem er_c {v : V} {d : D} (r : ∀ B ι, Rep K B ι v d) : ER K (tC v) (eC d) := fun σ W δ M d' M' Q w s e q => by
  cases e
  exact q v W (.refl W) w (r _ _)
theorem DE.int {n : Int} {j pos} : DE X K (.Constant (.int n) j pos) (eC (.int n)) := ⟨_, fun i => pe_int, er_c fun _ _ => .int n⟩
theorem DE.bool {b : Bool} {j pos} : DE X K (.Constant (.bool b) j pos) (eC (.bl b)) := ⟨_, fun i => pe_bl, er_c fun _ _ => .bl b⟩
theorem DE.non {j pos} : DE X K (.Constant .none j pos) (eC .non) := ⟨_, fun i => pe_non, er_c fun _ _ => .non⟩
theorem DE.str {x : Str} {j pos} : DE X K (.Constant (.str x) j pos) (eC (.str x)) := ⟨_, fun i => pe_str, er_c fun _ _ => .str x⟩
/-- a name of the module -/
theorem DE.glob (c : Ctx X P w K mg base k) {x : Str} {pos : Pos} {v : V} {u : Value} {d : D} (hm : mg x = some u) (r : RelV v u) (q : ∀ B ι, Rep K B ι v d) (hg : ∀ i, Gl (X i) x := by intro _; rfl)
    (hd : (x == ("__debug__" : Str)) = false := by decide) : DE X K (.Name x pos) (eC d) :=
  ⟨_, fun i => pe_glob (hg i) (by rw [c.mg i]; exact hm) r (hd := hd), er_c q⟩
/-- a built-in's name, not called -/
theorem DE.bltn (c : Ctx X P w K mg base k) {x : Str} {pos : Pos} {v : V} {u : Value} {d : D} (hm : mg x = none) (hv : bootBuiltins x = some u) (r : RelV v u) (q : ∀ B ι, Rep K B ι v d) (hg : ∀ i, Gl (X i) x := by intro _; rfl)
    (hn : x ≠ "__name__" := by decide) (hd : (x == ("__debug__" : Str)) = false := by decide) : DE X K (.Name x pos) (eC d) :=
  ⟨_, fun i => pe_bltn (hg i) (by rw [c.mg i]; exact hm) hv r (hn := hn) (hd := hd), er_c q⟩

/-! ### arguments, displays -/
def aNil : AF := fun _ M => some ([], M)
def aCons (f : EF) (g : AF) : AF := fun δ M => match f δ M with
  | some (d, M1) => (match g δ M1 with
    | some (ds, M2) => some (d :: ds, M2)
    | none => none)
  | none => none
theorem DA.nil : DA X K [] aNil := ⟨tNil, fun i => pa_nil, fun σ W δ M d M' Q w s e q => by
  cases e
  exact q [] W (.refl W) w .nil⟩
theorem DA.cons {e : Expr} {es : List Expr} {f : EF} {g : AF} (a : DE X K e f) (b : DA X K es g) (he : ∀ i, starEach (e :: es) (X i).env = (false, eval e (X i).env) :: starEach es (X i).env := by intro _; rfl) : DA X K (e :: es) (aCons f g) := by
  obtain ⟨ta, pa, ra⟩ := a.go
  obtain ⟨tb, pb, rb⟩ := b.go
  refine ⟨tCons ta tb, fun i => pa_cons (pa i) (pb i) (he i), fun σ W δ M d M' Q w s e q => ?_⟩
  unfold aCons at e
  split at e
  · rename_i d1 M1 h1
    split at e
    · rename_i ds M2 h2
      cases e
      refine ra σ W δ M d1 M1 _ w s h1 fun v W1 l1 w1 r1 => ?_
      refine rb σ W1 δ M1 ds _ _ w1 (s.le l1) h2 fun vs W2 l2 w2 r2 => ?_
      exact q _ W2 (l1.trans l2) w2 (.cons (r1.le l2) r2)
    · cases e
  · cases e
def eTup (g : AF) : EF := fun δ M => match g δ M with
  | some (ds, M1) => if ds.length ≤ sizeLine then some (.tup ds, M1) else none
  | none => none
def eLst (g : AF) : EF := fun δ M => match g δ M with
  | some (ds, M1) => if ds.length ≤ sizeLine then some (.lst ds, M1) else none
  | none => none
/-- a new list of the store -/
def eNew (g : AF) : EF := fun δ M => match g δ M with
  | some (ds, M1) => if ds.length ≤ sizeLine then some (.ref M1.length, M1 ++ [.lst ds]) else none
  | none => none
theorem lay_tup {W : Wd} {M : Mh} {p : Addr} {vs : List V} {ds : List D} (w : W.Ok K M) (hp : W.H p = none) (r : RepL K W.B W.ι vs ds) :
    W.Le (W.lay p (.tup vs)) ∧ (W.lay p (.tup vs)).Ok K M ∧ Rep K (W.lay p (.tup vs)).B (W.lay p (.tup vs)).ι (.ref p) (.tup ds) :=
  ⟨Wd.lay_le w hp, Wd.lay_ok w hp, .tup (.inl (.inl upd_same)) (r.le (Wd.lay_le w hp))⟩
theorem lay_lst {W : Wd} {M : Mh} {p : Addr} {vs : List V} {ds : List D} (w : W.Ok K M) (hp : W.H p = none) (r : RepL K W.B W.ι vs ds) :
    W.Le (W.lay p (.lst vs)) ∧ (W.lay p (.lst vs)).Ok K M ∧ Rep K (W.lay p (.lst vs)).B (W.lay p (.lst vs)).ι (.ref p) (.lst ds) :=
  ⟨Wd.lay_le w hp, Wd.lay_ok w hp, .lst upd_same (r.le (Wd.lay_le w hp))⟩
theorem new_lst {W : Wd} {M : Mh} {p : Addr} {vs : List V} {ds : List D} (w : W.Ok K M) (hp : W.H p = none) (r : RepL K W.B W.ι vs ds) :
    W.Le (W.new p (.lst vs)) ∧ (W.new p (.lst vs)).Ok K (M ++ [.lst ds]) ∧ Rep K (W.new p (.lst vs)).B (W.new p (.lst vs)).ι (.ref p) (.ref M.length) :=
  ⟨Wd.new_le, Wd.new_ok w hp (.lst r), .ref (by
    show (W.ι ++ [p])[M.length]? = some p
    rw [← w.len]
    simp)⟩
theorem DE.tup {es : List Expr} {j pos} {g : AF} (a : DA X K es g) (hpl : ∀ i, (backTo pos (starEach es (X i).env)).any (·.1) = false := by intro _; rfl) : DE X K (.Tuple es j pos) (eTup g) := by
  obtain ⟨ta, pa, ra⟩ := a.go
  refine ⟨tTup ta, fun i => pe_tup (pa i), fun σ W δ M d M' Q w s e q => ?_⟩
  unfold eTup at e
  split at e
  · rename_i ds M1 h1
    split at e
    · rename_i hl
      cases e
      refine ra σ W δ M ds _ _ w s h1 fun vs W1 l1 w1 r1 => ⟨by rw [r1.len]; exact hl, fun p hp => ?_⟩
      obtain ⟨l2, w2, r2⟩ := lay_tup w1 hp r1
      exact q _ _ (l1.trans l2) w2 r2
    · cases e
  · cases e
theorem DE.lst {es : List Expr} {pos} {g : AF} (a : DA X K es g) : DE X K (.List es pos) (eLst g) := by
  obtain ⟨ta, pa, ra⟩ := a.go
  refine ⟨tLst ta, fun i => pe_lst (pa i), fun σ W δ M d M' Q w s e q => ?_⟩
  unfold eLst at e
  split at e
  · rename_i ds M1 h1
    split at e
    · rename_i hl
      cases e
      refine ra σ W δ M ds _ _ w s h1 fun vs W1 l1 w1 r1 => ⟨by rw [r1.len]; exact hl, fun p hp => ?_⟩
      obtain ⟨l2, w2, r2⟩ := lay_lst w1 hp r1
      exact q _ _ (l1.trans l2) w2 r2
    · cases e
  · cases e
theorem DE.new {es : List Expr} {pos} {g : AF} (a : DA X K es g) : DE X K (.List es pos) (eNew g) := by
  obtain ⟨ta, pa, ra⟩ := a.go
  refine ⟨tLst ta, fun i => pe_lst (pa i), fun σ W δ M d M' Q w s e q => ?_⟩
  unfold eNew at e
  split at e
  · rename_i ds M1 h1
    split at e
    · rename_i hl
      cases e
      refine ra σ W δ M ds _ _ w s h1 fun vs W1 l1 w1 r1 => ⟨by rw [r1.len]; exact hl, fun p hp => ?_⟩
      obtain ⟨l2, w2, r2⟩ := new_lst w1 hp r1
      exact q _ _ (l1.trans l2) w2 r2
    · cases e
  · cases e

/-! ### operators by values -/
abbrev O1 := D → Mh → Option (D × Mh)
abbrev O2 := D → D → Mh → Option (D × Mh)
def OD (K : PySem.W.Frag) (r : R2) (g : O2) : Prop := ∀ (W : Wd) (M : Mh) (x y : V) (a b : D) (z : D) (M' : Mh) (Q : VK), W.Ok K M → Rep K W.B W.ι x a → Rep K W.B W.ι y b → g a b M = some (z, M') → VR K W z M' Q → r x y W.H Q
def eOp (g : O2) (fa fb : EF) : EF := fun δ M => match fa δ M with
  | some (a, M1) => (match fb δ M1 with
    | some (b, M2) => g a b M2
    | none => none)
  | none => none
theorem er_op {r : R2} {g : O2} {ta tb : TE} {fa fb : EF} (o : OD K r g) (ra : ER K ta fa) (rb : ER K tb fb) : ER K (tOp r ta tb) (eOp g fa fb) := fun σ W δ M d M' Q w s e q => by
  unfold eOp at e
  split at e
  · rename_i a M1 h1
    split at e
    · rename_i b M2 h2
      refine ra σ W δ M a M1 _ w s h1 fun x W1 l1 w1 r1 => ?_
      refine rb σ W1 δ M1 b M2 _ w1 (s.le l1) h2 fun y W2 l2 w2 r2 => ?_
      exact o W2 M2 x y a b d M' Q w2 (r1.le l2) r2 e (q.le (l1.trans l2))
    · cases e
  · cases e
/-- a rule for an operator in every context -/
structure OpF (X : I → Cx) (K : PySem.W.Frag) (f : Value → Value → Sem Value) (g : O2) : Prop where
  go : ∃ r : R2, (∀ i, OpR (X i) f r) ∧ OD K r g
theorem DE.op {op : Operator} {a b : Expr} {pos} {g : O2} {fa fb : EF} (o : OpF X K (binaryOp op) g) (ha : DE X K a fa) (hb : DE X K b fb) : DE X K (.BinOp a op b pos) (eOp g fa fb) := by
  obtain ⟨r, ho, od⟩ := o.go
  obtain ⟨ta, pa, ra⟩ := ha.go
  obtain ⟨tb, pb, rb⟩ := hb.go
  exact ⟨_, fun i => pe_op (ho i) (pa i) (pb i), er_op od ra rb⟩
theorem DC.op {op : CmpOp} {a b : Expr} {pos} {g : O2} {fa fb : EF} (o : OpF X K (compareOp op) g) (ha : DE X K a fa) (hb : DE X K b fb) (hm : behindInMarks op b = false := by first | exact nomark _ | rfl) : DC X K (.Compare a [op] [b] pos) (eOp g fa fb) := by
  obtain ⟨r, ho, od⟩ := o.go
  obtain ⟨ta, pa, ra⟩ := ha.go
  obtain ⟨tb, pb, rb⟩ := hb.go
  exact ⟨_, fun i => pe_cmpR (ho i) (pa i) (pb i) hm, fun i => pt_cmpR (ho i) (pa i) (pb i) hm, er_op od ra rb⟩
/-- x < y < z -/
def eChain (g g' : O2) (fa fb fc : EF) : EF := fun δ M => match fa δ M with
  | some (a, M1) => (match fb δ M1 with
    | some (b, M2) => (match g a b M2 with
      | some (.bl true, M3) => (match fc δ M3 with
        | some (c, M4) => g' b c M4
        | none => none)
      | some (.bl false, M3) => some (.bl false, M3)
      | _ => none)
    | none => none)
  | none => none
theorem er_chain {r r' : R2} {g g' : O2} {ta tb tc : TE} {fa fb fc : EF} (o : OD K r g) (o' : OD K r' g') (ra : ER K ta fa) (rb : ER K tb fb) (rc : ER K tc fc) : ER K (tChain r r' ta tb tc) (eChain g g' fa fb fc) := fun σ W δ M d M' Q w s e q => by
  unfold eChain at e
  split at e
  · rename_i a M1 h1
    split at e
    · rename_i b M2 h2
      refine ra σ W δ M a M1 _ w s h1 fun x W1 l1 w1 r1 => ?_
      refine rb σ W1 δ M1 b M2 _ w1 (s.le l1) h2 fun y W2 l2 w2 r2 => ?_
      split at e
      · rename_i M3 h3
        split at e
        · rename_i c M4 h4
          refine o W2 M2 x y a b _ M3 _ w2 (r1.le l2) r2 h3 fun v W3 l3 w3 r3 => ?_
          cases r3
          refine ⟨true, rfl, ifT ?_⟩
          refine rc σ W3 δ M3 c M4 _ w3 (s.le ((l1.trans l2).trans l3)) h4 fun z W4 l4 w4 r4 => ?_
          exact o' W4 M4 y z b c d M' Q w4 (r2.le (l3.trans l4)) r4 e (q.le (((l1.trans l2).trans l3).trans l4))
        · cases e
      · rename_i M3 h3
        cases e
        refine o W2 M2 x y a b _ _ _ w2 (r1.le l2) r2 h3 fun v W3 l3 w3 r3 => ?_
        cases r3
        exact ⟨false, rfl, ifF (q _ W3 ((l1.trans l2).trans l3) w3 (.bl false))⟩
      · cases e
    · cases e
  · cases e
theorem DC.chain {op op' : CmpOp} {a b c : Expr} {pos} {g g' : O2} {fa fb fc : EF} (o : OpF X K (compareOp op) g) (o' : OpF X K (compareOp op') g') (ha : DE X K a fa) (hb : DE X K b fb) (hc : DE X K c fc) (hm : lastMarks [op, op'] [b, c] = false := by rfl) :
    DC X K (.Compare a [op, op'] [b, c] pos) (eChain g g' fa fb fc) := by
  obtain ⟨r, ho, od⟩ := o.go
  obtain ⟨r', ho', od'⟩ := o'.go
  obtain ⟨ta, pa, ra⟩ := ha.go
  obtain ⟨tb, pb, rb⟩ := hb.go
  obtain ⟨tc, pc, rc⟩ := hc.go
  exact ⟨_, fun i => pe_chain (ho i) (ho' i) (pa i) (pb i) (pc i) (hm := hm), fun i => pt_chain (ho i) (ho' i) (pa i) (pb i) (pc i) (hm := hm), er_chain od od' ra rb rc⟩
theorem DC.val {e : Expr} {f : EF} (h : DC X K e f) : DE X K e f := by
  obtain ⟨t, a, _, c⟩ := h.go
  exact ⟨t, a, c⟩
def tV (f : EF) : TF := fun δ M => match f δ M with
  | some (.bl b, M1) => some (b, M1)
  | _ => none
theorem tr_test {t : TE} {f : EF} (r : ER K t f) : TR K (tTest t) (tV f) := fun σ W δ M b M' Q w s e q => by
  unfold tV at e
  split at e
  · rename_i c M1 h1
    cases e
    refine r σ W δ M _ _ _ w s h1 fun v W1 l1 w1 r1 => ?_
    cases r1
    exact ⟨b, rfl, q W1 l1 w1⟩
  · cases e
theorem DC.test {e : Expr} {f : EF} (h : DC X K e f) : DT X K e (tV f) := by
  obtain ⟨t, _, b, c⟩ := h.go
  exact ⟨_, b, tr_test c⟩
theorem DE.test {e : Expr} {f : EF} (h : DE X K e f) (he : ∀ i whole, isTrue e (X i).env whole = (do let v ← whole; standAt e.pos; holding [v] (truthy v)) := by intro _ _; rfl) : DT X K e (tV f) := by
  obtain ⟨t, a, c⟩ := h.go
  exact ⟨_, fun i => pt_val (a i) (he i), tr_test c⟩
/-! ### and, or, not, if else -/
def tNt (f : TF) : TF := fun δ M => match f δ M with
  | some (b, M1) => some (!b, M1)
  | none => none
theorem DT.not {a : Expr} {pos} {f : TF} (h : DT X K a f) : DT X K (.UnaryOp .Not a pos) (tNt f) := by
  obtain ⟨t, p, r⟩ := h.go
  refine ⟨_, fun i => pt_not (p i), fun σ W δ M b M' Q w s e q => ?_⟩
  unfold tNt at e
  split at e
  · rename_i c M1 h1
    cases e
    exact r σ W δ M c _ _ w s h1 q
  · cases e
def tAn (f g : TF) : TF := fun δ M => match f δ M with
  | some (true, M1) => g δ M1
  | some (false, M1) => some (false, M1)
  | none => none
def tOrr (f g : TF) : TF := fun δ M => match f δ M with
  | some (true, M1) => some (true, M1)
  | some (false, M1) => g δ M1
  | none => none
theorem DW.and1 {a : Expr} {pos} {f : TF} (h : DT X K a f) : DW X K (.BoolOp .And [a] pos) f := by
  obtain ⟨t, p, r⟩ := h.go
  exact ⟨t, fun i => pw_and1 (p i), r⟩
theorem DW.or1 {a : Expr} {pos} {f : TF} (h : DT X K a f) : DW X K (.BoolOp .Or [a] pos) f := by
  obtain ⟨t, p, r⟩ := h.go
  exact ⟨t, fun i => pw_or1 (p i), r⟩
theorem DW.and {a b : Expr} {es : List Expr} {pos} {f g : TF} (h : DT X K a f) (h' : DW X K (.BoolOp .And (b :: es) pos) g) : DW X K (.BoolOp .And (a :: b :: es) pos) (tAn f g) := by
  obtain ⟨t, p, r⟩ := h.go
  obtain ⟨t', p', r'⟩ := h'.go
  refine ⟨_, fun i => pw_and (p i) (p' i), fun σ W δ M b M' Q w s e q => ?_⟩
  unfold tAn at e
  split at e
  · rename_i M1 h1
    refine r σ W δ M true M1 _ w s h1 fun W1 l1 w1 => ifT ?_
    exact r' σ W1 δ M1 b M' Q w1 (s.le l1) e fun W2 l2 w2 => q W2 (l1.trans l2) w2
  · rename_i M1 h1
    cases e
    exact r σ W δ M false _ _ w s h1 fun W1 l1 w1 => ifF (q W1 l1 w1)
  · cases e
theorem DW.or {a b : Expr} {es : List Expr} {pos} {f g : TF} (h : DT X K a f) (h' : DW X K (.BoolOp .Or (b :: es) pos) g) : DW X K (.BoolOp .Or (a :: b :: es) pos) (tOrr f g) := by
  obtain ⟨t, p, r⟩ := h.go
  obtain ⟨t', p', r'⟩ := h'.go
  refine ⟨_, fun i => pw_or (p i) (p' i), fun σ W δ M b M' Q w s e q => ?_⟩
  unfold tOrr at e
  split at e
  · rename_i M1 h1
    cases e
    exact r σ W δ M true _ _ w s h1 fun W1 l1 w1 => ifT (q W1 l1 w1)
  · rename_i M1 h1
    refine r σ W δ M false M1 _ w s h1 fun W1 l1 w1 => ifF ?_
    exact r' σ W1 δ M1 b M' Q w1 (s.le l1) e fun W2 l2 w2 => q W2 (l1.trans l2) w2
  · cases e
theorem DW.test {e : Expr} {f : TF} (h : DW X K e f) : DT X K e f := by
  obtain ⟨t, p, r⟩ := h.go
  exact ⟨t, fun i => PW.pt (p i), r⟩
def eIf (t : TF) (f g : EF) : EF := fun δ M => match t δ M with
  | some (true, M1) => f δ M1
  | some (false, M1) => g δ M1
  | none => none
theorem DE.ite {c a b : Expr} {pos} {t : TF} {f g : EF} (h : DT X K c t) (ha : DE X K a f) (hb : DE X K b g) : DE X K (.IfExp c a b pos) (eIf t f g) := by
  obtain ⟨tt, p, r⟩ := h.go
  obtain ⟨ta, pa, ra⟩ := ha.go
  obtain ⟨tb, pb, rb⟩ := hb.go
  refine ⟨_, fun i => pe_ifExp (p i) (pa i) (pb i), fun σ W δ M d M' Q w s e q => ?_⟩
  unfold eIf at e
  split at e
  · rename_i M1 h1
    exact r σ W δ M true M1 _ w s h1 fun W1 l1 w1 => ifT (ra σ W1 δ M1 d M' Q w1 (s.le l1) e (q.le l1))
  · rename_i M1 h1
    exact r σ W δ M false M1 _ w s h1 fun W1 l1 w1 => ifF (rb σ W1 δ M1 d M' Q w1 (s.le l1) e (q.le l1))
  · cases e
/-- not a, a and b, a or b as values, all of them True or False -/
def eNt (f : EF) : EF := fun δ M => match f δ M with
  | some (.bl b, M1) => some (.bl (!b), M1)
  | _ => none
def eAn (f g : EF) : EF := fun δ M => match f δ M with
  | some (.bl true, M1) => g δ M1
  | some (.bl false, M1) => some (.bl false, M1)
  | _ => none
def eOr (f g : EF) : EF := fun δ M => match f δ M with
  | some (.bl true, M1) => some (.bl true, M1)
  | some (.bl false, M1) => g δ M1
  | _ => none
theorem DE.not {a : Expr} {pos} {f : EF} (h : DE X K a f) (he : ∀ i whole, isTrue a (X i).env whole = (do let v ← whole; standAt a.pos; holding [v] (truthy v)) := by intro _ _; rfl) : DE X K (.UnaryOp .Not a pos) (eNt f) := by
  obtain ⟨t, p, r⟩ := h.go
  refine ⟨_, fun i => pe_not (p i), fun σ W δ M d M' Q w s e q => ?_⟩
  unfold eNt at e
  split at e
  · rename_i b M1 h1
    cases e
    refine r σ W δ M _ _ _ w s h1 fun v W1 l1 w1 r1 => ?_
    cases r1
    exact ⟨b, rfl, q _ W1 l1 w1 (.bl _)⟩
  · cases e
theorem DE.one {op : BoolOp} {a : Expr} {pos} {f : EF} (h : DE X K a f) : DE X K (.BoolOp op [a] pos) f := by
  obtain ⟨t, p, r⟩ := h.go
  exact ⟨t, fun i => pe_one (p i), r⟩
theorem DE.and {a b : Expr} {es : List Expr} {pos} {f g : EF} (h : DE X K a f) (h' : DE X K (.BoolOp .And (b :: es) pos) g) : DE X K (.BoolOp .And (a :: b :: es) pos) (eAn f g) := by
  obtain ⟨t, p, r⟩ := h.go
  obtain ⟨t', p', r'⟩ := h'.go
  refine ⟨_, fun i => pe_and (p i) (p' i), fun σ W δ M d M' Q w s e q => ?_⟩
  unfold eAn at e
  split at e
  · rename_i M1 h1
    refine r σ W δ M _ M1 _ w s h1 fun v W1 l1 w1 r1 => ?_
    cases r1
    exact ⟨true, rfl, ifT (r' σ W1 δ M1 d M' Q w1 (s.le l1) e (q.le l1))⟩
  · rename_i M1 h1
    cases e
    refine r σ W δ M _ _ _ w s h1 fun v W1 l1 w1 r1 => ?_
    cases r1
    exact ⟨false, rfl, ifF (q _ W1 l1 w1 (.bl _))⟩
  · cases e
theorem DE.or {a b : Expr} {es : List Expr} {pos} {f g : EF} (h : DE X K a f) (h' : DE X K (.BoolOp .Or (b :: es) pos) g) : DE X K (.BoolOp .Or (a :: b :: es) pos) (eOr f g) := by
  obtain ⟨t, p, r⟩ := h.go
  obtain ⟨t', p', r'⟩ := h'.go
  refine ⟨_, fun i => pe_or (p i) (p' i), fun σ W δ M d M' Q w s e q => ?_⟩
  unfold eOr at e
  split at e
  · rename_i M1 h1
    cases e
    refine r σ W δ M _ _ _ w s h1 fun v W1 l1 w1 r1 => ?_
    cases r1
    exact ⟨true, rfl, ifT (q _ W1 l1 w1 (.bl _))⟩
  · rename_i M1 h1
    refine r σ W δ M _ M1 _ w s h1 fun v W1 l1 w1 r1 => ?_
    cases r1
    exact ⟨false, rfl, ifF (r' σ W1 δ M1 d M' Q w1 (s.le l1) e (q.le l1))⟩
  · cases e
end
end Pl

namespace Pl
open PySem L2
section
variable {I : Type} {X : I → Cx} {P : Program} {w : World} {K : PySem.W.Frag} {mg : Str → Option Value} {base : Heap} {k : Nat}

/-! ### blocks and statements -/
def sNil : SF := fun δ M => some (.nx δ M)
def sSeq (f g : SF) : SF := fun δ M => match f δ M with
  | some (.nx δ' M') => g δ' M'
  | o => o
theorem DB.nil : DB X K [] sNil := ⟨tNext, fun i => pss_nil, fun σ W δ M o E w s e q => by
  cases e
  exact q σ W (.refl W) w s⟩
theorem DB.cons {s : Stmt} {ss : List Stmt} {f g : SF} (a : DS X K s f) (b : DB X K ss g) : DB X K (s :: ss) (sSeq f g) := by
  obtain ⟨ta, pa, ra⟩ := a.go
  obtain ⟨tb, pb, rb⟩ := b.go
  refine ⟨tSeq ta tb, fun i => pss_cons (pa i) (pb i), fun σ W δ M o E w s e q => ?_⟩
  unfold sSeq at e
  split at e
  · rename_i δ' M' h1
    refine ra σ W δ M _ _ w s h1 fun σ' W1 l1 w1 s1 => ?_
    exact rb σ' W1 δ' M' o E w1 s1 e (q.le l1)
  · rename_i hn
    refine ra σ W δ M o _ w s e ?_
    cases o with
    | nx δ' M' => exact absurd e (hn δ' M')
    | bk _ _ => exact q
    | ct _ _ => exact q
    | rt _ _ => exact q
theorem DB.one {s : Stmt} {f : SF} (a : DS X K s f) : DB X K [s] f := by
  obtain ⟨ta, pa, ra⟩ := a.go
  exact ⟨ta, fun i => pss_one (pa i), ra⟩
theorem DS.pass {pos} : DS X K (.Pass pos) sNil := ⟨tNext, fun i => ps_pass, fun σ W δ M o E w s e q => by
  cases e
  exact q σ W (.refl W) w s⟩
theorem DS.brk {pos} : DS X K (.Break pos) (fun δ M => some (.bk δ M)) := ⟨tBreak, fun i => ps_break, fun σ W δ M o E w s e q => by
  cases e
  exact q σ W (.refl W) w s⟩
theorem DS.cont {pos} : DS X K (.Continue pos) (fun δ M => some (.ct δ M)) := ⟨tCont, fun i => ps_continue, fun σ W δ M o E w s e q => by
  cases e
  exact q σ W (.refl W) w s⟩
def sE (f : EF) : SF := fun δ M => match f δ M with
  | some (_, M') => some (.nx δ M')
  | none => none
theorem DS.expr {e : Expr} {pos} {f : EF} (a : DE X K e f) (hs : ∀ i, swapsWith e none pos.line (X i).env = pure false := by intro _; rfl) : DS X K (.Expr e pos) (sE f) := by
  obtain ⟨ta, pa, ra⟩ := a.go
  refine ⟨tDrop ta, fun i => ps_expr (pa i) (hs i), fun σ W δ M o E w s e q => ?_⟩
  unfold sE at e
  split at e
  · rename_i d M' h1
    cases e
    exact ra σ W δ M _ _ _ w s h1 fun v W1 l1 w1 r1 => q σ W1 l1 w1 (s.le l1)
  · cases e
def sRet (f : EF) : SF := fun δ M => match f δ M with
  | some (d, M') => some (.rt d M')
  | none => none
theorem DS.ret {e : Expr} {pos} {f : EF} (a : DE X K e f) : DS X K (.Return (some e) pos) (sRet f) := by
  obtain ⟨ta, pa, ra⟩ := a.go
  refine ⟨tRet ta, fun i => ps_ret (pa i), fun σ W δ M o E w s e q => ?_⟩
  unfold sRet at e
  split at e
  · rename_i d M' h1
    cases e
    exact ra σ W δ M _ _ _ w s h1 q
  · cases e
theorem DS.retN {pos} : DS X K (.Return none pos) (sRet (eC .non)) := ⟨tRetN, fun i => ps_retN, fun σ W δ M o E w s e q => by
  cases e
  exact q .non W (.refl W) w .non⟩
def sIf (t : TF) (f g : SF) : SF := fun δ M => match t δ M with
  | some (true, M1) => f δ M1
  | some (false, M1) => g δ M1
  | none => none
theorem DS.ite {c : Expr} {a b : List Stmt} {pos} {t : TF} {f g : SF} (h : DT X K c t) (ha : DB X K a f) (hb : DB X K b g) : DS X K (.If c a b pos) (sIf t f g) := by
  obtain ⟨tt, p, r⟩ := h.go
  obtain ⟨ta, pa, ra⟩ := ha.go
  obtain ⟨tb, pb, rb⟩ := hb.go
  refine ⟨_, fun i => ps_if (p i) (pa i) (pb i), fun σ W δ M o E w s e q => ?_⟩
  unfold sIf at e
  split at e
  · rename_i M1 h1
    exact r σ W δ M true M1 _ w s h1 fun W1 l1 w1 => ifT (ra σ W1 δ M1 o E w1 (s.le l1) e (q.le l1))
  · rename_i M1 h1
    exact r σ W δ M false M1 _ w s h1 fun W1 l1 w1 => ifF (rb σ W1 δ M1 o E w1 (s.le l1) e (q.le l1))
  · cases e

/-! ### targets -/
def GR (K : PySem.W.Frag) (t : TG) (f : GF) (sl : List Nat) : Prop := ∀ (v : V) (d : D) (σ : St) (W : Wd) (δ δ' : Env) (M : Mh) (Q : St → Hp → Prop), W.Ok K M → Slots K W σ δ → Rep K W.B W.ι v d → f d δ = some δ' →
  (∀ σ', Slots K W σ' δ' → (∀ vs : List Nat, (∀ j ∈ sl, j ∈ vs) → wipe σ' vs = wipe σ vs) → Q σ' W.H) → t v σ W.H Q
def GRs (K : PySem.W.Frag) (t : TGs) (f : List D → Env → Option Env) (sl : List Nat) : Prop := ∀ (v : List V) (d : List D) (σ : St) (W : Wd) (δ δ' : Env) (M : Mh) (Q : St → Hp → Prop), W.Ok K M → Slots K W σ δ → RepL K W.B W.ι v d → f d δ = some δ' →
  (∀ σ', Slots K W σ' δ' → (∀ vs : List Nat, (∀ j ∈ sl, j ∈ vs) → wipe σ' vs = wipe σ vs) → Q σ' W.H) → t v σ W.H Q
structure DG (X : I → Cx) (K : PySem.W.Frag) (tg : Expr) (f : GF) (sl : List Nat) : Prop where
  go : ∃ t : TG, (∀ i, PG (X i) tg t) ∧ GR K t f sl
structure DGs (X : I → Cx) (K : PySem.W.Frag) (tg : List Expr) (f : List D → Env → Option Env) (sl : List Nat) (n : Nat) : Prop where
  go : ∃ t : TGs, (∀ i, PGs (X i) tg t) ∧ GRs K t f sl
  len : ∀ ds δ δ', f ds δ = some δ' → ds.length = n
theorem wipe_set (σ : St) (o : Option V) (i : Nat) : ∀ vs : List Nat, (i ∈ vs → wipe (σ.set i o) vs = wipe σ vs) ∧ (i ∉ vs → wipe (σ.set i o) vs = (wipe σ vs).set i o)
  | [] => ⟨fun h => absurd h (by simp), fun _ => rfl⟩
  | v :: vs => by
    obtain ⟨h1, h2⟩ := wipe_set σ o i vs
    refine ⟨fun h => ?_, fun h => ?_⟩
    · show (wipe (σ.set i o) vs).set v none = (wipe σ vs).set v none
      by_cases hm : i ∈ vs
      · rw [h1 hm]
      · have e : i = v := by
          rcases List.mem_cons.mp h with e | e
          · exact e
          · exact absurd e hm
        rw [h2 hm, ← e, List.set_set]
    · show (wipe (σ.set i o) vs).set v none = ((wipe σ vs).set v none).set i o
      have hv : i ≠ v := fun e => h (by rw [e]; exact List.mem_cons_self)
      rw [h2 fun z => h (List.mem_cons_of_mem _ z), List.set_comm _ _ hv]
def gN (i : Nat) : GF := fun d δ => some (δ.set i (some d))
theorem DG.name (j : Nat) {x : Str} {pos} (hN : ∀ i, (X i).N.Nodup) (hi : ∀ i, (X i).N[j]? = some x := by intro _; rfl) (hx : ∀ i, Loc (X i).env.scope x := by intro _; first | exact Or.inl rfl | exact Or.inr rfl)
    (hf : ∀ i, (X i).fn x = true ∨ (X i).env.scope.names.lookup x = some .local := by intro _; first | exact Or.inl rfl | exact Or.inr rfl) : DG X K (.Name x pos) (gN j) [j] :=
  ⟨gName j, fun i => pg_name (hN i) (hi i) (hx i) (hf i), fun v d σ W δ δ' M Q w s r e q => by
    cases e
    exact q _ (s.set r j) fun vs h => (wipe_set σ _ j vs).1 (h j List.mem_cons_self)⟩
def gsNil : List D → Env → Option Env := fun ds δ => match ds with
  | [] => some δ
  | _ => none
def gsCons (f : GF) (g : List D → Env → Option Env) : List D → Env → Option Env := fun ds δ => match ds with
  | [] => none
  | d :: r => (match f d δ with
    | some δ1 => g r δ1
    | none => none)
theorem DGs.nil : DGs X K [] gsNil [] 0 := ⟨⟨gNil, fun i => pgs_nil, fun v d σ W δ δ' M Q w s r e q => by
  cases r with
  | nil =>
    cases e
    exact ⟨rfl, q σ s fun _ _ => rfl⟩
  | cons _ _ => cases e⟩, fun ds δ δ' h => by
    cases ds with
    | nil => rfl
    | cons _ _ => cases h⟩
theorem DGs.cons {e : Expr} {es : List Expr} {f : GF} {g : List D → Env → Option Env} {sl sm : List Nat} {n : Nat} (a : DG X K e f sl) (b : DGs X K es g sm n)
    (hs : ∀ i, (assignEach (e :: es) (X i).env).map (·.2) = assign e (X i).env :: (assignEach es (X i).env).map (·.2) := by intro _; rfl) : DGs X K (e :: es) (gsCons f g) (sl ++ sm) (n + 1) := by
  obtain ⟨ta, pa, ra⟩ := a.go
  obtain ⟨tb, pb, rb⟩ := b.go
  refine ⟨⟨gCons ta tb, fun i => pgs_cons (pa i) (pb i) (hs i), fun v d σ W δ δ' M Q w s r e q => ?_⟩, fun ds δ δ' h => ?_⟩
  · cases r with
    | nil => cases e
    | cons r1 r2 =>
      have e' : (match f _ δ with
        | some δ1 => g _ δ1
        | none => none) = some δ' := e
      split at e'
      · rename_i δ1 h1
        refine ⟨_, _, rfl, ra _ _ σ W δ δ1 M _ w s r1 h1 fun σ1 s1 k1 => ?_⟩
        refine rb _ _ σ1 W δ1 δ' M _ w s1 r2 e' fun σ2 s2 k2 => ?_
        exact q σ2 s2 fun vs hv => (k2 vs fun j hj => hv j (List.mem_append_right _ hj)).trans (k1 vs fun j hj => hv j (List.mem_append_left _ hj))
      · cases e'
  · cases ds with
    | nil => cases h
    | cons d r =>
      have h' : (match f d δ with
        | some δ1 => g r δ1
        | none => none) = some δ' := h
      split at h'
      · exact congrArg (· + 1) (b.len _ _ _ h')
      · cases h'
def gTp (f : List D → Env → Option Env) : GF := fun d δ => match d with
  | .tup ds => f ds δ
  | .lst ds => f ds δ
  | .lsk ds => f ds δ
  | _ => none
theorem pg_or {Y : Cx} {tg : Expr} {t u : TG} (a : PG Y tg t) (b : PG Y tg u) : PG Y tg (fun v σ H Q => t v σ H Q ∨ u v σ H Q) := ⟨fun pins s σ H v us Q I r h => by
  rcases h with h | h
  · exact a.run pins s σ H v us Q I r h
  · exact b.run pins s σ H v us Q I r h⟩
/-- a list's own rule -/
structure UnlR (X : I → Cx) (K : PySem.W.Frag) : Prop where
  run : ∀ (es : List Expr) (k : Nat) (pos : Pos) (t : TGs) (n : Nat), (∀ i, PGs (X i) es t) → (∀ i, (assignEach es (X i).env).length = n) → (∀ i, (assignEach es (X i).env).findIdx? (·.1) = none) → ∀ i, PG (X i) (.Tuple es k pos) (gUnl K n t)
theorem DG.tup (c : Ctx X P w K mg base k) {es : List Expr} {m : Nat} {pos} {f : List D → Env → Option Env} {sl : List Nat} {n : Nat} (a : DGs X K es f sl n) (hn : ∀ i, (assignEach es (X i).env).length = n := by intro _; rfl)
    (hst : ∀ i, (assignEach es (X i).env).findIdx? (·.1) = none := by intro _; rfl) : DG X K (.Tuple es m pos) (gTp f) sl := by
  obtain ⟨ta, pa, ra⟩ := a.go
  refine ⟨fun v σ H Q => gTup K n ta v σ H Q ∨ gUnl K n ta v σ H Q, fun i => ?_, fun v d σ W δ δ' M Q w s r e q => ?_⟩
  · have h1 := pg_tup (c.calm i) (pa i) (hn i) (hst i) (k := m) (pos := pos)
    have h2 := pg_unl (c.calm i) (pa i) (hn i) (hst i) (k := m) (pos := pos)
    rw [c.K i] at h1 h2
    exact pg_or h1 h2
  · cases r with
    | tup h r =>
      have e' : f _ δ = some δ' := e
      exact .inl ⟨_, _, rfl, sqT_mono w.sub h, by rw [r.len]; exact a.len _ _ _ e', ra _ _ σ W δ δ' M Q w s r e' q⟩
    | lst h r =>
      have e' : f _ δ = some δ' := e
      exact .inr ⟨_, _, rfl, .inl (.inl (w.sub _ _ h)), by rw [r.len]; exact a.len _ _ _ e', ra _ _ σ W δ δ' M Q w s r e' q⟩
    | lsk h r =>
      have e' : f _ δ = some δ' := e
      exact .inr ⟨_, _, rfl, sqL_mono w.sub h, by rw [r.len]; exact a.len _ _ _ e', ra _ _ σ W δ δ' M Q w s r e' q⟩
    | _ => cases e
/-! ### assignments -/
def sAs (f : EF) (g : GF) : SF := fun δ M => match f δ M with
  | some (d, M1) => (match g d δ with
    | some δ' => some (.nx δ' M1)
    | none => none)
  | none => none
theorem sr_as {te : TE} {t : TG} {f : EF} {g : GF} {sl : List Nat} (re : ER K te f) (rg : GR K t g sl) : SR K (tAsg te t) (sAs f g) := fun σ W δ M o E w s e q => by
  unfold sAs at e
  split at e
  · rename_i d M1 h1
    split at e
    · rename_i δ' h2
      cases e
      refine re σ W δ M d _ _ w s h1 fun v W1 l1 w1 r1 => ?_
      exact rg v d σ W1 δ δ' _ _ w1 (s.le l1) r1 h2 fun σ' s' _ => q σ' W1 l1 w1 s'
    · cases e
  · cases e
theorem DS.set (j : Nat) {x : Str} {e : Expr} {pos pos'} {f : EF} (a : DE X K e f) (hN : ∀ i, (X i).N.Nodup) (hi : ∀ i, (X i).N[j]? = some x := by intro _; rfl) (hx : ∀ i, Loc (X i).env.scope x := by intro _; first | exact Or.inl rfl | exact Or.inr rfl)
    (hs : ∀ i, swapsWith e (some (.Name x pos')) pos.line (X i).env = pure false := by intro _; rfl) (hf : ∀ i, (X i).fn x = true ∨ (X i).env.scope.names.lookup x = some .local := by intro _; first | exact Or.inl rfl | exact Or.inr rfl) :
    DS X K (.Assign [.Name x pos'] e pos) (sAs f (gN j)) := by
  obtain ⟨t, p, r⟩ := a.go
  obtain ⟨tg, _, rg⟩ := (⟨gName j, fun i => pg_name (hN i) (hi i) (hx i) (hf i), fun v d σ W δ δ' M Q w s r e q => by
    cases e
    exact q _ (s.set r j) fun vs h => (wipe_set σ _ j vs).1 (h j List.mem_cons_self)⟩ : ∃ t : TG, (∀ i, PG (X i) (.Name x pos') t) ∧ GR K t (gN j) [j])
  refine ⟨tAsg t (gName j), fun i => ps_set (hN i) (hi i) (hx i) (p i) (hs i) (hf i), sr_as r (sl := [j]) fun v d σ W δ δ' M Q w s r e q => ?_⟩
  cases e
  exact q _ (s.set r j) fun vs h => (wipe_set σ _ j vs).1 (h j List.mem_cons_self)
theorem DS.asg {tg e : Expr} {pos} {f : EF} {g : GF} {sl : List Nat} (a : DE X K e f) (b : DG X K tg g sl) (hs : ∀ i, swapsWithSole [tg] e pos.line (X i).env = pure false := by intro _; rfl) (hw : ∀ i, swappedStores [tg] e (X i).env = pure none := by intro _; rfl)
    (h1 : ∀ i, (assignEach [tg] (X i).env).map (·.2) = [assign tg (X i).env] := by intro _; rfl) : DS X K (.Assign [tg] e pos) (sAs f g) := by
  obtain ⟨t, p, r⟩ := a.go
  obtain ⟨tg, pg, rg⟩ := b.go
  exact ⟨_, fun i => ps_asg (p i) (pg i) (hs i) (hw i) (h1 i), sr_as r rg⟩
def sPar (i j : Nat) (f g : EF) : SF := fun δ M => match f δ M with
  | some (d, M1) => (match g δ M1 with
    | some (e, M2) => some (.nx ((δ.set i (some d)).set j (some e)) M2)
    | none => none)
  | none => none
theorem DS.par (a b : Nat) {x y : Str} {e1 e2 : Expr} {f g : EF} {px py pt : Pos} {kt k2 pt2 pos} (c : Ctx X P w K mg base k) (h1 : DE X K e1 f) (h2 : DE X K e2 g) (hN : ∀ i, (X i).N.Nodup) (hi : ∀ i, (X i).N[a]? = some x := by intro _; rfl) (hj : ∀ i, (X i).N[b]? = some y := by intro _; rfl)
    (hij : a ≠ b := by decide) (hx : ∀ i, (X i).env.scope.names.lookup x = some .local := by intro _; rfl) (hy : ∀ i, (X i).env.scope.names.lookup y = some .local := by intro _; rfl)
    (hw : ∀ i, swappedStores [.Tuple [.Name x px, .Name y py] kt pt] (.Tuple [e1, e2] k2 pt2) (X i).env = pure (some [x, y]) := by intro _; rfl)
    (hs : ∀ i, swapsWithSole [.Tuple [.Name x px, .Name y py] kt pt] (.Tuple [e1, e2] k2 pt2) pos.line (X i).env = pure false := by intro _; rfl)
    (he1 : ∀ i, starEach [e1, e2] (X i).env = (false, eval e1 (X i).env) :: starEach [e2] (X i).env := by intro _; rfl) (he2 : ∀ i, starEach [e2] (X i).env = (false, eval e2 (X i).env) :: starEach [] (X i).env := by intro _; rfl) :
    DS X K (.Assign [.Tuple [.Name x px, .Name y py] kt pt] (.Tuple [e1, e2] k2 pt2) pos) (sPar a b f g) := by
  obtain ⟨ta, pa, ra⟩ := h1.go
  obtain ⟨tb, pb, rb⟩ := h2.go
  refine ⟨tPar a b (tCons ta (tCons tb tNil)), fun i => ps_par (c.calm i) (hN i) (hi i) (hj i) hij (hx i) (hy i) (pa_cons (pa i) (pa_cons (pb i) pa_nil (he2 i)) (he1 i)) (hw i) (hs i), fun σ W δ M o E w s e q => ?_⟩
  unfold sPar at e
  split at e
  · rename_i d M1 h1
    split at e
    · rename_i d2 M2 h2
      cases e
      refine ra σ W δ M d M1 _ w s h1 fun v W1 l1 w1 r1 => ?_
      refine rb σ W1 δ M1 d2 _ _ w1 (s.le l1) h2 fun u W2 l2 w2 r2 => ?_
      exact ⟨v, u, rfl, q _ W2 (l1.trans l2) w2 (((s.le (l1.trans l2)).set (r1.le l2) a).set r2 b)⟩
    · cases e
  · cases e

/-! ### what is walked -/
/-- from W0 on an iterator gives ds -/
def Wk (K : PySem.W.Frag) (J : It) (W0 : Wd) (ds : List D) : Prop := ∀ (i : Nat) (W : Wd) (M : Mh), W0.Lo W → W.Ok K M →
  (ds[i]? = none → J.stop i W.H) ∧ (∀ d, ds[i]? = some d → J.go i W.H ∧ ∀ x H', J.yld i W.H x H' → ∃ W', W'.H = H' ∧ W.Le W' ∧ W'.Ok K M ∧ Rep K W'.B W'.ι x d)
structure DI (X : I → Cx) (K : PySem.W.Frag) (tg iter : Expr) (f : AF) : Prop where
  go : ∃ t : TI, (∀ i, PI (X i) tg iter t) ∧ ∀ (σ : St) (W : Wd) (δ : Env) (M : Mh) (ds : List D) (M' : Mh) (R : It → Hp → Prop), W.Ok K M → Slots K W σ δ → f δ M = some (ds, M') → (∀ J W', W.Le W' → W'.Ok K M' → Wk K J W' ds → R J W'.H) → t σ W.H R
theorem wk_list {W0 : Wd} {a : Addr} {vs : List V} {ds : List D} (h : SqL K W0.B a vs) (r : RepL K W0.B W0.ι vs ds) : Wk K (Itl K a) W0 ds := fun i W M l w => by
  have hs : SqL K W.H a vs := sqL_mono w.sub (sqL_mono l.same h)
  have r' := r.mono l.same l.ix
  refine ⟨fun e => ⟨vs, hs, by rw [r.len]; exact List.getElem?_eq_none_iff.mp e⟩, fun d e => ?_⟩
  obtain ⟨v, h1, h2⟩ := r'.get e
  refine ⟨⟨vs, v, hs, h1⟩, fun x H' y => ?_⟩
  obtain ⟨e1, e2⟩ := y
  have e3 := (e2 vs hs).symm.trans h1
  cases e3
  exact ⟨W, e1.symm, .refl W, w, h2⟩
theorem wk_tup {W0 : Wd} {a : Addr} {vs : List V} {ds : List D} (h : SqT K W0.B a vs) (r : RepL K W0.B W0.ι vs ds) : Wk K (Itt K a) W0 ds := fun i W M l w => by
  have hs : SqT K W.H a vs := sqT_mono w.sub (sqT_mono l.same h)
  have r' := r.mono l.same l.ix
  refine ⟨fun e => ⟨vs, hs, by rw [r.len]; exact List.getElem?_eq_none_iff.mp e⟩, fun d e => ?_⟩
  obtain ⟨v, h1, h2⟩ := r'.get e
  refine ⟨⟨vs, v, hs, h1⟩, fun x H' y => ?_⟩
  obtain ⟨e1, e2⟩ := y
  have e3 := (e2 vs hs).symm.trans h1
  cases e3
  exact ⟨W, e1.symm, .refl W, w, h2⟩
def aItems (f : EF) : AF := fun δ M => match f δ M with
  | some (.lst ds, M1) => some (ds, M1)
  | some (.lsk ds, M1) => some (ds, M1)
  | some (.tup ds, M1) => some (ds, M1)
  | _ => none
theorem pi_or {Y : Cx} {tg e : Expr} {t u : TI} (a : PI Y tg e t) (b : PI Y tg e u) : PI Y tg e (fun σ H R => t σ H R ∨ u σ H R) := ⟨fun pins s σ H R I h => by
  rcases h with h | h
  · exact a.run pins s σ H R I h
  · exact b.run pins s σ H R I h⟩
theorem DI.seq (c : Ctx X P w K mg base k) {tg e : Expr} {f : EF} (a : DE X K e f) : DI X K tg e (aItems f) := by
  obtain ⟨t, p, r⟩ := a.go
  refine ⟨fun σ H R => iList K t σ H R ∨ iTup K t σ H R, fun i => ?_, fun σ W δ M ds M' R w s e q => ?_⟩
  · have h1 := pi_list (tg := tg) (p i)
    have h2 := pi_tup (tg := tg) (p i)
    rw [c.K i] at h1 h2
    exact pi_or h1 h2
  · unfold aItems at e
    split at e
    · rename_i es M1 h
      cases e
      refine .inl (r σ W δ M _ _ _ w s h fun v W1 l1 w1 r1 => ?_)
      cases r1 with
      | lst h1 r1 => exact ⟨_, rfl, ⟨_, .inl (.inl (w1.sub _ _ h1))⟩, q _ W1 l1 w1 (wk_list (.inl (.inl h1)) r1)⟩
    · rename_i es M1 h
      cases e
      refine .inl (r σ W δ M _ _ _ w s h fun v W1 l1 w1 r1 => ?_)
      cases r1 with
      | lsk h1 r1 => exact ⟨_, rfl, ⟨_, sqL_mono w1.sub h1⟩, q _ W1 l1 w1 (wk_list h1 r1)⟩
    · rename_i es M1 h
      cases e
      refine .inr (r σ W δ M _ _ _ w s h fun v W1 l1 w1 r1 => ?_)
      cases r1 with
      | tup h1 r1 => exact ⟨_, rfl, ⟨_, sqT_mono w1.sub h1⟩, q _ W1 l1 w1 (wk_tup h1 r1)⟩
    · cases e
/-- lo, lo + 1, .. below hi -/
def rng (lo hi : Int) : List D := (List.range (hi - lo).toNat).map fun i => .int (lo + (i : Nat))
theorem wk_rng {W0 : Wd} {lo hi : Int} : Wk K (Itr lo (hi - lo).toNat) W0 (rng lo hi) := fun i W M l w => by
  refine ⟨fun e => ?_, fun d e => ?_⟩
  · have h := List.getElem?_eq_none_iff.mp e
    rw [show (rng lo hi).length = (hi - lo).toNat by simp [rng]] at h
    exact h
  · have h := (List.getElem?_eq_some_iff.mp e).1
    rw [show (rng lo hi).length = (hi - lo).toNat by simp [rng]] at h
    refine ⟨h, fun x H' y => ?_⟩
    obtain ⟨e1, e2⟩ := y
    subst e2
    have e3 : d = .int (lo + (i : Nat)) := by
      unfold rng at e
      rw [List.getElem?_map, List.getElem?_range h] at e
      exact (Option.some.inj e).symm
    subst e3
    exact ⟨W, e1.symm, .refl W, w, .int _⟩
def aRng1 (f : AF) : AF := fun δ M => match f δ M with
  | some ([.int j], M1) => if -(2 ^ 62) ≤ j ∧ j < 2 ^ 62 then some (rng 0 j, M1) else none
  | _ => none
def aRng2 (f : AF) : AF := fun δ M => match f δ M with
  | some ([.int i, .int j], M1) => if -(2 ^ 62) ≤ i ∧ i < 2 ^ 62 ∧ -(2 ^ 62) ≤ j ∧ j < 2 ^ 62 then some (rng i j, M1) else none
  | _ => none
theorem DI.rng1 (c : Ctx X P w K mg base k) (hm : mg "range" = none) {tg a : Expr} {p pos : Pos} {f : AF} (h : DA X K [a] f) (hg : ∀ i, Gl (X i) "range" := by intro _; rfl) (hs : ∀ i, starEach [a] (X i).env = [(false, eval a (X i).env)] := by intro _; rfl) :
    DI X K tg (.Call (.Name "range" p) [a] [] pos) (aRng1 f) := by
  obtain ⟨t, pa, r⟩ := h.go
  refine ⟨iRng1 t, fun i => pi_range1 (hg i) (by rw [c.mg i]; exact hm) (pa i) (hs i), fun σ W δ M ds M' R w s e q => ?_⟩
  unfold aRng1 at e
  split at e
  · rename_i j M1 h1
    split at e
    · rename_i hb
      cases e
      refine r σ W δ M _ _ _ w s h1 fun v W1 l1 w1 r1 => ?_
      cases r1 with
      | cons r1 r2 =>
        cases r1
        cases r2
        refine ⟨j, rfl, hb.1, hb.2, ?_⟩
        have := q (Itr 0 (j - 0).toNat) W1 l1 w1 wk_rng
        rw [Int.sub_zero] at this
        exact this
    · cases e
  · cases e
theorem DI.rng2 (c : Ctx X P w K mg base k) (hm : mg "range" = none) {tg a b : Expr} {p pos : Pos} {f : AF} (h : DA X K [a, b] f) (hg : ∀ i, Gl (X i) "range" := by intro _; rfl) (hs : ∀ i, starEach [a, b] (X i).env = [(false, eval a (X i).env), (false, eval b (X i).env)] := by intro _; rfl)
    (hs2 : ∀ i, starEach [b] (X i).env = [(false, eval b (X i).env)] := by intro _; rfl) :
    DI X K tg (.Call (.Name "range" p) [a, b] [] pos) (aRng2 f) := by
  obtain ⟨t, pa, r⟩ := h.go
  refine ⟨iRng2 t, fun i => pi_range2 (hg i) (by rw [c.mg i]; exact hm) (pa i) (hs i) (hs2 i), fun σ W δ M ds M' R w s e q => ?_⟩
  unfold aRng2 at e
  split at e
  · rename_i i j M1 h1
    split at e
    · rename_i hb
      cases e
      refine r σ W δ M _ _ _ w s h1 fun v W1 l1 w1 r1 => ?_
      cases r1 with
      | cons r1 r2 =>
        cases r1
        cases r2 with
        | cons r2 r3 =>
          cases r2
          cases r3
          exact ⟨i, j, rfl, hb, q (Itr i (j - i).toNat) W1 l1 w1 wk_rng⟩
    · cases e
  · cases e

/-! ### for -/
def forGo (g : GF) (b : SF) : List D → Env → Mh → Option Out
  | [], δ, M => some (.nx δ M)
  | x :: xs, δ, M => match g x δ with
    | none => none
    | some δ1 => match b δ1 M with
      | some (.nx δ' M') => forGo g b xs δ' M'
      | some (.ct δ' M') => forGo g b xs δ' M'
      | some (.bk δ' M') => some (.nx δ' M')
      | some (.rt d M') => some (.rt d M')
      | none => none
def sFor (a : AF) (g : GF) (b : SF) : SF := fun δ M => match a δ M with
  | some (ds, M1) => forGo g b ds δ M1
  | none => none
theorem DS.for (c : Ctx X P w K mg base k) {tg iter : Expr} {body : List Stmt} {pos} {a : AF} {g : GF} {b : SF} {sl : List Nat} (hp : ∀ i, PassesOwn (model (X i).prog (X i).w) (X i).A (X i).env (X i).xe) (hi : DI X K tg iter a) (hg : DG X K tg g sl) (hb : DB X K body b)
    (hs : ∀ i x, foldedSetIterable iter (X i).env x = pure x := by intro _ _; rfl) : DS X K (.For tg iter body [] pos) (sFor a g b) := by
  obtain ⟨ti, pi, ri⟩ := hi.go
  obtain ⟨tg, pg, rg⟩ := hg.go
  obtain ⟨tb, pb, rb⟩ := hb.go
  refine ⟨tFor ti tg tb, fun i => ps_for (hp i) (c.calm i) (pi i) (pg i) (pb i) (hs i), fun σ W δ M o E w s e q => ?_⟩
  unfold sFor at e
  split at e
  · rename_i ds M1 h1
    refine ri σ W δ M ds M1 _ w s h1 fun J W1 l1 w1 wk => ?_
    refine ⟨fun i m σ' H => ∃ W' δ' M', W'.H = H ∧ W1.Le W' ∧ W'.Ok K M' ∧ Slots K W' σ' δ' ∧ i + m = ds.length ∧ forGo g b (ds.drop i) δ' M' = some o, ⟨ds.length, W1, δ, M1, rfl, .refl W1, w1, s.le l1, by omega, e⟩, ?_⟩
    rintro i m σ' H ⟨W', δ', M', rfl, l', w', s', em, e'⟩
    obtain ⟨k1, k2⟩ := wk i W' M' l'.lo w'
    cases hd : ds[i]? with
    | none =>
      have hl : ds.length ≤ i := List.getElem?_eq_none_iff.mp hd
      rw [List.drop_of_length_le hl] at e'
      cases e'
      exact .inl ⟨k1 hd, q σ' W' (l1.trans l') w' s'⟩
    | some d =>
      obtain ⟨hgo, hy⟩ := k2 d hd
      have hl : i < ds.length := (List.getElem?_eq_some_iff.mp hd).1
      have hdr : ds.drop i = d :: ds.drop (i + 1) := by
        rw [List.drop_eq_getElem_cons hl]
        congr 1
        exact Option.some.inj ((List.getElem?_eq_getElem hl).symm.trans hd)
      rw [hdr] at e'
      unfold forGo at e'
      refine .inr ⟨hgo, fun σ2 H2 => ∃ W2 δ2 M2, W2.H = H2 ∧ W1.Le W2 ∧ W2.Ok K M2 ∧ Slots K W2 σ2 δ2 ∧ forGo g b (ds.drop (i + 1)) δ2 M2 = some o, fun σ2 H2 ⟨W2, δ2, M2, a1, a2, a3, a4, a5⟩ => ⟨m - 1, by omega, W2, δ2, M2, a1, a2, a3, a4, by omega, a5⟩, fun x H' y => ?_⟩
      obtain ⟨W3, rfl, l3, w3, r3⟩ := hy x H' y
      split at e'
      · cases e'
      · rename_i δ1 h2
        refine rg x d σ' W3 δ' δ1 M' _ w3 (s'.le l3) r3 h2 fun σ3 s3 _ => ?_
        split at e'
        · rename_i δ4 M4 h3
          exact rb σ3 W3 δ1 M' _ _ w3 s3 h3 fun σ4 W4 l4 w4 s4 => ⟨W4, δ4, M4, rfl, (l'.trans l3).trans l4, w4, s4, e'⟩
        · rename_i δ4 M4 h3
          exact rb σ3 W3 δ1 M' _ _ w3 s3 h3 fun σ4 W4 l4 w4 s4 => ⟨W4, δ4, M4, rfl, (l'.trans l3).trans l4, w4, s4, e'⟩
        · rename_i δ4 M4 h3
          cases e'
          exact rb σ3 W3 δ1 M' _ _ w3 s3 h3 fun σ4 W4 l4 w4 s4 => q σ4 W4 (((l1.trans l').trans l3).trans l4) w4 s4
        · rename_i d4 M4 h3
          cases e'
          exact rb σ3 W3 δ1 M' _ _ w3 s3 h3 fun v W4 l4 w4 r4 => q v W4 (((l1.trans l').trans l3).trans l4) w4 r4
        · cases e'
  · cases e
/-! ### while -/
def whN (c : TF) (b : SF) : Nat → Env → Mh → Option Out
  | 0, _, _ => none
  | n + 1, δ, M => match c δ M with
    | some (true, M1) => (match b δ M1 with
      | some (.nx δ' M') => whN c b n δ' M'
      | some (.ct δ' M') => whN c b n δ' M'
      | some (.bk δ' M') => some (.nx δ' M')
      | some (.rt d M') => some (.rt d M')
      | none => none)
    | some (false, M1) => some (.nx δ M1)
    | none => none
open Classical in
noncomputable def sWh (c : TF) (b : SF) : SF := fun δ M => if h : ∃ n o, whN c b n δ M = some o then some (Classical.choose (Classical.choose_spec h)) else none
theorem whN_mono (c : TF) (b : SF) : ∀ (n m : Nat) (δ : Env) (M : Mh) (o : Out), n ≤ m → whN c b n δ M = some o → whN c b m δ M = some o
  | 0, _, _, _, _, _, h => by cases h
  | n + 1, 0, _, _, _, hl, _ => absurd hl (by omega)
  | n + 1, m + 1, δ, M, o, hl, h => by
    unfold whN at h ⊢
    split at h
    · split at h
      · exact whN_mono c b n m _ _ o (by omega) h
      · exact whN_mono c b n m _ _ o (by omega) h
      · exact h
      · exact h
      · cases h
    · exact h
    · cases h
theorem sWh_of {c : TF} {b : SF} {n : Nat} {δ : Env} {M : Mh} {o : Out} (h : whN c b n δ M = some o) : sWh c b δ M = some o := by
  have hx : ∃ n o, whN c b n δ M = some o := ⟨n, o, h⟩
  unfold sWh
  rw [dif_pos hx]
  have h2 := Classical.choose_spec (Classical.choose_spec hx)
  have a := whN_mono c b _ (max n (Classical.choose hx)) δ M _ (Nat.le_max_right _ _) h2
  have d := whN_mono c b _ (max n (Classical.choose hx)) δ M _ (Nat.le_max_left _ _) h
  exact a.symm.trans d
theorem of_sWh {c : TF} {b : SF} {δ : Env} {M : Mh} {o : Out} (h : sWh c b δ M = some o) : ∃ n, whN c b n δ M = some o := by
  unfold sWh at h
  split at h
  · rename_i hx
    have h2 := Classical.choose_spec (Classical.choose_spec hx)
    cases h
    exact ⟨_, h2⟩
  · cases h
/-- one turn -/
theorem sWh_eq (c : TF) (b : SF) (δ : Env) (M : Mh) : sWh c b δ M = (match c δ M with
    | some (true, M1) => (match b δ M1 with
      | some (.nx δ' M') => sWh c b δ' M'
      | some (.ct δ' M') => sWh c b δ' M'
      | some (.bk δ' M') => some (.nx δ' M')
      | some (.rt d M') => some (.rt d M')
      | none => none)
    | some (false, M1) => some (.nx δ M1)
    | none => none) := by
  apply Option.ext
  intro o
  constructor
  · intro h
    obtain ⟨n, hn⟩ := of_sWh h
    cases n with
    | zero => cases hn
    | succ n =>
      unfold whN at hn
      split at hn
      · split at hn
        · exact sWh_of hn
        · exact sWh_of hn
        · exact hn
        · exact hn
        · cases hn
      · exact hn
      · cases hn
  · intro h
    split at h
    · rename_i M1 h1
      split at h
      · rename_i δ' M' h2
        obtain ⟨n, hn⟩ := of_sWh h
        refine sWh_of (n := n + 1) ?_
        unfold whN
        rw [h1]
        dsimp only
        rw [h2]
        exact hn
      · rename_i δ' M' h2
        obtain ⟨n, hn⟩ := of_sWh h
        refine sWh_of (n := n + 1) ?_
        unfold whN
        rw [h1]
        dsimp only
        rw [h2]
        exact hn
      · rename_i δ' M' h2
        refine sWh_of (n := 1) ?_
        unfold whN
        rw [h1]
        dsimp only
        rw [h2]
        exact h
      · rename_i d' M' h2
        refine sWh_of (n := 1) ?_
        unfold whN
        rw [h1]
        dsimp only
        rw [h2]
        exact h
      · cases h
    · rename_i M1 h1
      refine sWh_of (n := 1) ?_
      unfold whN
      rw [h1]
      exact h
    · cases h
theorem DS.wh {cnd : Expr} {body : List Stmt} {pos} {t : TF} {b : SF} (hp : ∀ i, PassesOwn (model (X i).prog (X i).w) (X i).A (X i).env (X i).xe) (hc : DT X K cnd t) (hb : DB X K body b) : DS X K (.While cnd body [] pos) (sWh t b) := by
  obtain ⟨tt, pt, rt⟩ := hc.go
  obtain ⟨tb, pb, rb⟩ := hb.go
  refine ⟨tWhile tt tb, fun i => ps_while (hp i) (pt i) (pb i), fun σ W δ M o E w s e q => ?_⟩
  obtain ⟨n, hn⟩ := of_sWh e
  refine ⟨fun m σ' H => ∃ W' δ' M', W'.H = H ∧ W.Le W' ∧ W'.Ok K M' ∧ Slots K W' σ' δ' ∧ whN t b m δ' M' = some o, ⟨n, W, δ, M, rfl, .refl W, w, s, hn⟩, ?_⟩
  rintro m σ' H ⟨W', δ', M', rfl, l', w', s', e'⟩
  cases m with
  | zero => cases e'
  | succ m =>
    unfold whN at e'
    split at e'
    · rename_i M1 h1
      refine rt σ' W' δ' M' _ M1 _ w' s' h1 fun W1 l1 w1 => ifT ?_
      refine ⟨fun σ2 H2 => ∃ W2 δ2 M2, W2.H = H2 ∧ W.Le W2 ∧ W2.Ok K M2 ∧ Slots K W2 σ2 δ2 ∧ whN t b m δ2 M2 = some o, fun σ2 H2 ⟨W2, δ2, M2, a1, a2, a3, a4, a5⟩ => ⟨m, by omega, W2, δ2, M2, a1, a2, a3, a4, a5⟩, ?_⟩
      split at e'
      · rename_i δ4 M4 h3
        exact rb σ' W1 δ' M1 _ _ w1 (s'.le l1) h3 fun σ4 W4 l4 w4 s4 => ⟨W4, δ4, M4, rfl, (l'.trans l1).trans l4, w4, s4, e'⟩
      · rename_i δ4 M4 h3
        exact rb σ' W1 δ' M1 _ _ w1 (s'.le l1) h3 fun σ4 W4 l4 w4 s4 => ⟨W4, δ4, M4, rfl, (l'.trans l1).trans l4, w4, s4, e'⟩
      · rename_i δ4 M4 h3
        cases e'
        exact rb σ' W1 δ' M1 _ _ w1 (s'.le l1) h3 fun σ4 W4 l4 w4 s4 => q σ4 W4 ((l'.trans l1).trans l4) w4 s4
      · rename_i d4 M4 h3
        cases e'
        exact rb σ' W1 δ' M1 _ _ w1 (s'.le l1) h3 fun v W4 l4 w4 r4 => q v W4 ((l'.trans l1).trans l4) w4 r4
      · cases e'
    · rename_i M1 h1
      cases e'
      exact rt σ' W' δ' M' _ _ _ w' s' h1 fun W1 l1 w1 => ifF (q σ' W1 (l'.trans l1) w1 (s'.le l1))
    · cases e'
end
end Pl

namespace Pl
open PySem L2
section
variable {I : Type} {X : I → Cx} {P : Program} {w : World} {K : PySem.W.Frag} {mg : Str → Option Value} {base : Heap} {k : Nat}

/-! ### list comprehensions -/
/-- the block's contexts -/
def blkF (X : I → Cx) (scope : Scope) (j : I × Shared × Hp × Addr × List (Str × Addr) × List Addr) : Cx := (X j.1).blk j.2.1 j.2.2.1 scope (compEnvC scope j.2.2.2.2.1 j.2.2.2.1 (X j.1).env) j.2.2.2.2.2
theorem Ctx.blk (c : Ctx X P w K mg base k) (scope : Scope) : Ctx (blkF X scope) P w K mg base k :=
  ⟨fun j => c.prog j.1, fun j => c.wd j.1, fun j => c.K j.1, fun j => c.mg j.1, fun j => c.base j.1, fun j => c.room j.1, fun j => c.grd j.1, fun j => c.calm j.1⟩
structure DTs (X : I → Cx) (K : PySem.W.Frag) (ifs : List Expr) (f : TF) : Prop where
  go : ∃ t : TT, (∀ i, PTs (X i) ifs t) ∧ TR K t f
def tTrue : TF := fun _ M => some (true, M)
theorem DTs.nil : DTs X K [] tTrue := ⟨tYes, fun i => pts_nil, fun σ W δ M b M' Q w s e q => by
  cases e
  exact q W (.refl W) w⟩
theorem DTs.one {e : Expr} {f : TF} (h : DT X K e f) : DTs X K [e] f := by
  obtain ⟨t, p, r⟩ := h.go
  exact ⟨t, fun i => pts_one (p i), r⟩
def wipeD (δ : Env) : List Nat → Env
  | [] => δ
  | v :: vs => (wipeD δ vs).set v none
theorem Slots.wipe {W : Wd} {σ : St} {δ : Env} (s : Slots K W σ δ) : ∀ vs : List Nat, Slots K W (wipe σ vs) (wipeD δ vs)
  | [] => s
  | v :: vs => by
    have ih := s.wipe vs
    refine ⟨?_, fun i d h => ?_⟩
    · show ((L2.wipe σ vs).set v none).length = ((wipeD δ vs).set v none).length
      rw [List.length_set, List.length_set]
      exact ih.len
    · have h' : ((wipeD δ vs).set v none)[i]? = some (some d) := h
      show ∃ u, ((L2.wipe σ vs).set v none)[i]? = some (some u) ∧ _
      rw [List.getElem?_set] at h' ⊢
      by_cases e : v = i
      · rw [if_pos e] at h'
        split at h' <;> cases h'
      · rw [if_neg e] at h' ⊢
        exact ih.at_ i d h'
def lcGo (g : GF) (t : TF) (f : EF) : List D → Env → Mh → Option (List D × Mh)
  | [], _, M => some ([], M)
  | x :: xs, δ, M => match g x δ with
    | none => none
    | some δ1 => match t δ1 M with
      | some (true, M1) => (match f δ1 M1 with
        | some (y, M2) => (match lcGo g t f xs δ M2 with
          | some (ys, M3) => some (y :: ys, M3)
          | none => none)
        | none => none)
      | some (false, M1) => lcGo g t f xs δ M1
      | none => none
def eLc (vs : List Nat) (a : AF) (g : GF) (t : TF) (f : EF) : EF := fun δ M => match a δ M with
  | some (ds, M1) => (match lcGo g t f ds (wipeD δ vs) M1 with
    | some (ys, M2) => if ys.length ≤ sizeLine then some (.lst ys, M2) else none
    | none => none)
  | none => none
/-- the world while a list is made at p -/
def Wd.mk' (W : Wd) (H : Hp) (P : Hp) : Wd := ⟨H, W.B, W.ι, P⟩
theorem Slots.cong {W W' : Wd} {σ : St} {δ : Env} (s : Slots K W σ δ) (h1 : W'.B = W.B) (h2 : W'.ι = W.ι) : Slots K W' σ δ := ⟨s.len, fun i d h => by
  rw [h1, h2]
  exact s.at_ i d h⟩
theorem Wd.hold_put {W : Wd} {M : Mh} {p : Addr} {o o' : HO} (w : W.Ok K M) (hp : W.P p = some o) : (⟨upd W.H p o', W.B, W.ι, upd W.P p o'⟩ : Wd).Ok K M := by
  have ne : ∀ {n a u}, Live W M n a u → a ≠ p := fun {n a u} h e => by
    obtain ⟨_, q, _⟩ := w.live n a u h
    rw [e, hp] at q
    cases q
  have bp := (w.pin p o hp).2
  refine ⟨fun a u h => ?_, fun a u h => ?_, w.len, fun n a u h => ?_, fun n m a u v h k => w.inj n m a u v h k⟩
  · exact (upd_ne (fun e => by
      rw [e] at h
      have h' : W.B p = some u := h
      rw [bp] at h'
      cases h')).trans (w.sub a u h)
  · by_cases e : a = p
    · subst e
      have h' : upd W.P a o' a = some u := h
      rw [upd_same] at h'
      exact ⟨upd_same.trans h', bp⟩
    · have h' : upd W.P p o' a = some u := h
      rw [upd_ne e] at h'
      have q := w.pin a u h'
      exact ⟨(upd_ne e).trans q.1, q.2⟩
  · obtain ⟨h1, h2, k, h3, h4⟩ := w.live n a u h
    exact ⟨h1, (upd_ne (ne h)).trans h2, k, (upd_ne (ne h)).trans h3, h4⟩
theorem Wd.unhold {W : Wd} {M : Mh} {p : Addr} {o : HO} {P0 : Hp} (w : W.Ok K M) (hP : W.P = upd P0 p o) (h0 : P0 p = none) : (⟨W.H, upd W.B p o, W.ι, P0⟩ : Wd).Ok K M := by
  have hp : W.P p = some o := by rw [hP, upd_same]
  have ne : ∀ {n a u}, Live W M n a u → a ≠ p := fun {n a u} h e => by
    obtain ⟨_, q, _⟩ := w.live n a u h
    rw [e, hp] at q
    cases q
  have bp := (w.pin p o hp)
  refine ⟨fun a u h => ?_, fun a u h => ?_, w.len, fun n a u h => ?_, fun n m a u v h k => w.inj n m a u v h k⟩
  · by_cases e : a = p
    · subst e
      have h' : upd W.B a o a = some u := h
      rw [upd_same] at h'
      cases h'
      exact bp.1
    · have h' : upd W.B p o a = some u := h
      rw [upd_ne e] at h'
      exact w.sub a u h'
  · have h' : P0 a = some u := h
    have e : a ≠ p := fun e => by
      rw [e, h0] at h'
      cases h'
    have q := w.pin a u (by rw [hP, upd_ne e]; exact h')
    exact ⟨q.1, (upd_ne e).trans q.2⟩
  · obtain ⟨h1, h2, k, h3, h4⟩ := w.live n a u h
    have e := ne h
    rw [hP, upd_ne e] at h2
    exact ⟨(upd_ne e).trans h1, h2, k, h3, h4.mono (updk bp.2) fun _ _ q => q⟩
theorem wipe_twice (σ : St) : ∀ vs : List Nat, L2.wipe (L2.wipe σ vs) vs = L2.wipe σ vs := fun vs => by
  have h : ∀ us : List Nat, (∀ j ∈ us, j ∈ vs) → L2.wipe (L2.wipe σ us) vs = L2.wipe σ vs := fun us => by
    induction us with
    | nil => exact fun _ => rfl
    | cons u us ih =>
      intro hu
      show L2.wipe ((L2.wipe σ us).set u none) vs = _
      rw [(wipe_set _ none u vs).1 (hu u List.mem_cons_self)]
      exact ih fun j hj => hu j (List.mem_cons_of_mem _ hj)
  exact h vs fun _ z => z
/-- the reading of a comprehension, from its parts' -/
theorem lc_er {ti : TI} {tg : TG} {tt : TT} {te : TE} {vs : List Nat} {a : AF} {g : GF} {t : TF} {f : EF} {sl : List Nat}
    (ri : ∀ (σ : St) (W : Wd) (δ : Env) (M : Mh) (ds : List D) (M' : Mh) (R : It → Hp → Prop), W.Ok K M → Slots K W σ δ → a δ M = some (ds, M') → (∀ J W', W.Le W' → W'.Ok K M' → Wk K J W' ds → R J W'.H) → ti σ W.H R)
    (rg : GR K tg g sl) (hsl : ∀ j ∈ sl, j ∈ vs) (rt : TR K tt t) (re : ER K te f) : ER K (tLc ti tg tt te vs) (eLc vs a g t f) := fun σ W δ M d M' Q w s e q => by
  unfold eLc at e
  split at e
  · rename_i ds M1 h1
    split at e
    · rename_i fin M2 h2
      split at e
      · rename_i hlen
        cases e
        refine ri σ W δ M ds M1 _ w s h1 fun J W1 l1 w1 wk => fun p hp => ?_
        have P0 : W1.P p = none := w1.pnone hp
        have B0 : W1.B p = none := w1.bnone hp
        refine ⟨fun i m H => ∃ (W' : Wd) (N : Mh) (acc : List V) (ac ys : List D), W'.H = H ∧ W1.Le (W'.mk' W'.H W1.P) ∧ W'.P = upd W1.P p (.lst acc) ∧ W'.Ok K N ∧ RepL K W'.B W'.ι acc ac ∧ i + m = ds.length ∧ lcGo g t f (ds.drop i) (wipeD δ vs) N = some (ys, M') ∧ ac ++ ys = fin,
          ⟨ds.length, W1.hold p (.lst []), M1, [], [], fin, rfl, ⟨fun _ _ h => h, ⟨[], by simp [Wd.mk', Wd.hold]⟩, rfl⟩, rfl, Wd.hold_ok w1 hp, .nil, by omega, h2, rfl⟩, ?_⟩
        rintro i m H ⟨W', N, acc, ac, ys, rfl, l', hP, w', ra, em, e', ef⟩
        obtain ⟨k1, k2⟩ := wk i W' N ⟨l'.same, l'.pre⟩ w'
        cases hd : ds[i]? with
        | none =>
          have hl : ds.length ≤ i := List.getElem?_eq_none_iff.mp hd
          rw [List.drop_of_length_le hl] at e'
          cases e'
          rw [List.append_nil] at ef
          subst ef
          have u := Wd.unhold w' hP P0
          refine .inl ⟨k1 hd, q _ ⟨W'.H, upd W'.B p (.lst acc), W'.ι, W1.P⟩ (l1.trans ⟨fun b o h => ?_, l'.pre, rfl⟩) u (.lst upd_same (ra.mono (updk (w'.pin p (.lst acc) (by rw [hP, upd_same])).2) fun _ _ z => z))⟩
          have hb : b ≠ p := fun z => by
            rw [z, B0] at h
            cases h
          show upd W'.B p (.lst acc) b = some o
          rw [upd_ne hb]
          exact l'.same b o h
        | some x0 =>
          obtain ⟨hgo, hy⟩ := k2 x0 hd
          have hl : i < ds.length := (List.getElem?_eq_some_iff.mp hd).1
          have hdr : ds.drop i = x0 :: ds.drop (i + 1) := by
            rw [List.drop_eq_getElem_cons hl]
            congr 1
            exact Option.some.inj ((List.getElem?_eq_getElem hl).symm.trans hd)
          rw [hdr] at e'
          unfold lcGo at e'
          refine .inr ⟨hgo, fun H2 => ∃ (W2 : Wd) (N2 : Mh) (acc2 : List V) (ac2 ys2 : List D), W2.H = H2 ∧ W1.Le (W2.mk' W2.H W1.P) ∧ W2.P = upd W1.P p (.lst acc2) ∧ W2.Ok K N2 ∧ RepL K W2.B W2.ι acc2 ac2 ∧ lcGo g t f (ds.drop (i + 1)) (wipeD δ vs) N2 = some (ys2, M') ∧ ac2 ++ ys2 = fin,
            fun H2 ⟨W2, N2, acc2, ac2, ys2, a1, a2, a3, a4, a5, a6, a7⟩ => ⟨m - 1, by omega, W2, N2, acc2, ac2, ys2, a1, a2, a3, a4, a5, by omega, a6, a7⟩, fun x H' y => ?_⟩
          obtain ⟨W3, rfl, l3, w3, r3⟩ := hy x H' y
          have sw : Slots K W3 (L2.wipe σ vs) (wipeD δ vs) := ((((s.le l1).wipe vs).le l').cong (W' := W') rfl rfl).le l3
          have up : ∀ {W4 : Wd}, W'.Le W4 → W1.Le (W4.mk' W4.H W1.P) := fun {W4} l => l'.trans ⟨l.same, l.pre, rfl⟩
          split at e'
          · cases e'
          · rename_i δ1 h3
            refine rg x x0 _ W3 _ δ1 N _ w3 sw r3 h3 fun σ3 s3 hw => ⟨(hw vs hsl).trans ?_, ?_⟩
            · exact wipe_twice σ vs
            · split at e'
              · rename_i N1 h4
                refine rt σ3 W3 δ1 N _ N1 _ w3 s3 h4 fun W4 l4 w4 => ifT ?_
                split at e'
                · rename_i y0 N2 h5
                  split at e'
                  · rename_i ys2 N3 h6
                    cases e'
                    refine re σ3 W4 δ1 N1 y0 N2 _ w4 (s3.le l4) h5 fun v W5 l5 w5 r5 => ?_
                    have l35 : W'.Le W5 := (l3.trans l4).trans l5
                    have p5 : W5.P = upd W1.P p (.lst acc) := l35.pp.trans hP
                    have p5' : W5.P p = some (.lst acc) := by rw [p5, upd_same]
                    have ra5 := ra.le l35
                    refine ⟨acc, (w5.pin p _ p5').1, ?_, ⟨upd W5.H p (.lst (acc ++ [v])), W5.B, W5.ι, upd W5.P p (.lst (acc ++ [v]))⟩, N2, acc ++ [v], ac ++ [y0], ys2, rfl, l'.trans ⟨l35.same, l35.pre, rfl⟩, ?_, Wd.hold_put w5 p5', ra5.append (.cons r5 .nil), h6, ?_⟩
                    · have := ra.len
                      have h7 := congrArg List.length ef
                      rw [List.length_append, List.length_cons] at h7
                      omega
                    · show upd W5.P p _ = _
                      rw [p5, upd_upd]
                    · rw [List.append_assoc]
                      exact ef
                  · cases e'
                · cases e'
              · rename_i N1 h4
                refine rt σ3 W3 δ1 N _ N1 _ w3 s3 h4 fun W4 l4 w4 => ifF ?_
                have l34 : W'.Le W4 := l3.trans l4
                exact ⟨W4, N1, acc, ac, ys, rfl, up l34, l34.pp.trans hP, w4, ra.le l34, e', ef⟩
              · cases e'
      · cases e
    · cases e
  · cases e
theorem DE.lc (c : Ctx X P w K mg base k) {elt tg iter : Expr} {ifs : List Expr} {scope : Scope} {own : List (Str × Nat)} {pos} {a : AF} {g : GF} {t : TF} {f : EF} {sl : List Nat} (hN : ∀ i, (X i).N.Nodup) (hi : DI X K tg iter a) (ok : ∀ i, BlkOk (X i).N (X i).env.scope scope own)
    (hg : DG (blkF X scope) K tg g sl) (hsl : ∀ j ∈ sl, j ∈ own.map (·.2)) (ht : DTs (blkF X scope) K ifs t) (he : DE (blkF X scope) K elt f) (hs : ∀ i x, foldedSetIterable iter (X i).env x = pure x := by intro _ _; rfl) :
    DE X K (.ListComp elt [⟨tg, iter, ifs, 0⟩] scope pos) (eLc (own.map (·.2)) a g t f) := by
  obtain ⟨ti, pi, ri⟩ := hi.go
  obtain ⟨tg', pg, rg⟩ := hg.go
  obtain ⟨tt, pt, rt⟩ := ht.go
  obtain ⟨te, pe, re⟩ := he.go
  refine ⟨tLc ti tg' tt te (own.map (·.2)), fun i => pe_lc (c.calm i) (hN i) (pi i) (ok i) (fun s H C cl fp => pg (i, s, H, C, cl, fp)) (fun s H C cl fp => pt (i, s, H, C, cl, fp)) (fun s H C cl fp => pe (i, s, H, C, cl, fp)) (hs i), fun σ W δ M d M' Q w s e q => ?_⟩
  exact lc_er ri rg hsl rt re σ W δ M d M' Q w s e q
theorem DS.setLc (j : Nat) (c : Ctx X P w K mg base k) {y : Str} {py : Pos} {elt tg iter : Expr} {ifs : List Expr} {scope : Scope} {own : List (Str × Nat)} {pos spos} {a : AF} {g : GF} {t : TF} {f : EF} {sl : List Nat} (hN : ∀ i, (X i).N.Nodup) (hi : DI X K tg iter a) (ok : ∀ i, BlkOk (X i).N (X i).env.scope scope own)
    (hg : DG (blkF X scope) K tg g sl) (hsl : ∀ j ∈ sl, j ∈ own.map (·.2)) (ht : DTs (blkF X scope) K ifs t) (he : DE (blkF X scope) K elt f) (hs : ∀ i x, foldedSetIterable iter (X i).env x = pure x := by intro _ _; rfl)
    (hy : ∀ i, (X i).N[j]? = some y := by intro _; rfl) (hyl : ∀ i, (X i).env.scope.names.lookup y = some .local := by intro _; rfl) (hsw : ∀ i, swapsWith (.ListComp elt [⟨tg, iter, ifs, 0⟩] scope pos) (some (.Name y py)) spos.line (X i).env = pure true := by intro _; exact sw_true rfl rfl rfl (by decide +kernel)) :
    DS X K (.Assign [.Name y py] (.ListComp elt [⟨tg, iter, ifs, 0⟩] scope pos) spos) (sAs (eLc (own.map (·.2)) a g t f) (gN j)) := by
  obtain ⟨ti, pi, ri⟩ := hi.go
  obtain ⟨tg', pg, rg⟩ := hg.go
  obtain ⟨tt, pt, rt⟩ := ht.go
  obtain ⟨te, pe, re⟩ := he.go
  refine ⟨tAsg (tLc ti tg' tt te (own.map (·.2))) (gName j), fun i => ps_setLc (c.calm i) (hN i) (hy i) (hyl i) (hsw i) (pi i) (ok i) (fun s H C cl fp => pg (i, s, H, C, cl, fp)) (fun s H C cl fp => pt (i, s, H, C, cl, fp)) (fun s H C cl fp => pe (i, s, H, C, cl, fp)) (hs i), sr_as (sl := [j]) (lc_er ri rg hsl rt re) fun v d σ W δ δ' M Q w s r e q => ?_⟩
  cases e
  exact q _ (s.set r j) fun vs h => (wipe_set σ _ j vs).1 (h j List.mem_cons_self)
end
end Pl

namespace Pl
open PySem L2
section
variable {I : Type} {X : I → Cx} {P : Program} {w : World} {K : PySem.W.Frag} {mg : Str → Option Value} {base : Heap} {k : Nat}

/-! ### numbers -/
def gInt (h : Int → Int → D) : O2 := fun a b M => match a, b with
  | .int i, .int j => some (h i j, M)
  | _, _ => none
theorem od_int0 {g : Int → Int → V} {h : Int → Int → D} (r : ∀ B ι i j, Rep K B ι (g i j) (h i j)) : OD K (rI0 g) (gInt h) := fun W M x y a b z M' Q w ra rb e q => by
  unfold gInt at e
  split at e
  · cases ra
    cases rb
    cases e
    exact ⟨_, _, rfl, rfl, q _ W (.refl W) w (r _ _ _ _)⟩
  · cases e
theorem opAdd : OpF X K (binaryOp .Add) (gInt fun i j => .int (i + j)) := ⟨_, fun _ => op_add, od_int0 fun _ _ _ _ => .int _⟩
theorem opSub : OpF X K (binaryOp .Sub) (gInt fun i j => .int (i - j)) := ⟨_, fun _ => op_sub, od_int0 fun _ _ _ _ => .int _⟩
theorem opLt : OpF X K (compareOp .Lt) (gInt fun i j => .bl (decide (i < j))) := ⟨_, fun _ => op_lt, od_int0 fun _ _ _ _ => .bl _⟩
theorem opLe : OpF X K (compareOp .LtE) (gInt fun i j => .bl (decide (i ≤ j))) := ⟨_, fun _ => op_le, od_int0 fun _ _ _ _ => .bl _⟩
theorem opGt : OpF X K (compareOp .Gt) (gInt fun i j => .bl (decide (j < i))) := ⟨_, fun _ => op_gt, od_int0 fun _ _ _ _ => .bl _⟩
theorem opGe : OpF X K (compareOp .GtE) (gInt fun i j => .bl (decide (j ≤ i))) := ⟨_, fun _ => op_ge, od_int0 fun _ _ _ _ => .bl _⟩
def gIntC (C : Int → Int → Prop) [∀ i j, Decidable (C i j)] (h : Int → Int → D) : O2 := fun a b M => match a, b with
  | .int i, .int j => if C i j then some (h i j, M) else none
  | _, _ => none
theorem od_intC {C : Int → Int → Prop} [∀ i j, Decidable (C i j)] {C' : Int → Int → Prop} {g : Int → Int → V} {h : Int → Int → D} (hc : ∀ i j, C i j → C' i j) (r : ∀ B ι i j, Rep K B ι (g i j) (h i j)) : OD K (rI C' g) (gIntC C h) := fun W M x y a b z M' Q w ra rb e q => by
  unfold gIntC at e
  split at e
  · split at e
    · rename_i c
      cases ra
      cases rb
      cases e
      exact ⟨_, _, rfl, rfl, hc _ _ c, q _ W (.refl W) w (r _ _ _ _)⟩
    · cases e
  · cases e
abbrev MulOk (i j : Int) : Prop := (Builtin.Int.intBits i : Int) + (Builtin.Int.intBits j : Int) ≤ 134217728
theorem mulOk {i j : Int} {a b : Nat} (ha : i.natAbs < 2 ^ a) (hb : j.natAbs < 2 ^ b) (h : a + b ≤ 134217728) : MulOk i j := mulx_ok ha hb h
theorem opMul : OpF X K (binaryOp .Mult) (gIntC MulOk fun i j => .int (i * j)) := ⟨_, fun _ => op_mulX, od_intC (fun _ _ h => h) fun _ _ _ _ => .int _⟩
abbrev DivOk (_ j : Int) : Prop := j ≠ 0 ∧ j.natAbs.log2 < 9000
theorem divOk {i j : Int} {b : Nat} (h : j ≠ 0) (hb : j.natAbs < 2 ^ b) (h0 : 0 < b) (h9 : b ≤ 9000) : DivOk i j := ⟨h, Nat.lt_of_lt_of_le (PySem.Flt.log2_lt_of h0 hb) h9⟩
theorem op_fdivG {Y : Cx} : OpR Y (binaryOp .FloorDiv) (rI DivOk fun i j => .int (i.fdiv j)) := opI fun i j _ _ _ _ _ hc q =>
  PyProof.Rows.floordiv_int hc.1 q (.inl (PyProof.noPylong_of_log2 hc.2))
theorem opDiv : OpF X K (binaryOp .FloorDiv) (gIntC DivOk fun i j => .int (i.fdiv j)) := ⟨_, fun _ => op_fdivG, od_intC (fun _ _ h => h) fun _ _ _ _ => .int _⟩
theorem opMod : OpF X K (binaryOp .Mod) (gIntC (fun _ j => j ≠ 0) fun i j => .int (i.fmod j)) := ⟨_, fun _ => op_modN, od_intC (fun _ _ h => h) fun _ _ _ _ => .int _⟩
abbrev PowOk (i j : Int) : Prop := 0 ≤ j ∧ j ≤ 1000000 ∧ i.natAbs < 2 ^ 64
theorem opPow : OpF X K (binaryOp .Pow) (gIntC PowOk fun i j => .int (i ^ j.toNat)) := ⟨_, fun _ => op_pow, od_intC (fun _ _ h => h) fun _ _ _ _ => .int _⟩
def eUn (g : O1) (f : EF) : EF := fun δ M => match f δ M with
  | some (d, M1) => g d M1
  | none => none
def gNeg : O1 := fun a M => match a with
  | .int i => some (.int (-i), M)
  | _ => none
theorem DE.neg {a : Expr} {pos} {f : EF} (h : DE X K a f) : DE X K (.UnaryOp .USub a pos) (eUn gNeg f) := by
  obtain ⟨t, p, r⟩ := h.go
  refine ⟨_, fun i => pe_un un_neg (p i), fun σ W δ M d M' Q w s e q => ?_⟩
  unfold eUn at e
  split at e
  · rename_i d1 M1 h1
    unfold gNeg at e
    split at e
    · cases e
      refine r σ W δ M _ _ _ w s h1 fun v W1 l1 w1 r1 => ?_
      cases r1
      exact ⟨_, rfl, q _ W1 l1 w1 (.int _)⟩
    · cases e
  · cases e

/-! ### data -/
mutual
def toP : D → Option PyData
  | .non => some .none
  | .bl b => some (.bool b)
  | .int i => some (.int i)
  | .str x => some (.str x)
  | .tup xs => (match toPs xs with
    | some ps => some (.tuple ps)
    | none => none)
  | .lst xs => (match toPs xs with
    | some ps => some (.list ps)
    | none => none)
  | .lsk xs => (match toPs xs with
    | some ps => some (.list ps)
    | none => none)
  | .ty _ => none
  | .ob _ => none
  | .ref _ => none
def toPs : List D → Option (List PyData)
  | [] => some []
  | x :: xs => (match toP x with
    | some p => (match toPs xs with
      | some ps => some (p :: ps)
      | none => none)
    | none => none)
end
mutual
theorem Rep.dp {B H : Hp} {ι : List Addr} (s : ∀ b o, B b = some o → H b = some o) : ∀ {v : V} {d : D} {p : PyData}, Rep K B ι v d → toP d = some p → Dp K H v p
  | _, _, _, .non, e => by cases e; exact .non
  | _, _, _, .bl b, e => by cases e; exact .bl b
  | _, _, _, .int b, e => by cases e; exact .int b
  | _, _, _, .str b, e => by cases e; exact .str b
  | _, _, _, .ty b, e => by cases e
  | _, _, _, .ob b, e => by cases e
  | _, _, _, .ref b, e => by cases e
  | _, _, _, .tup h r, e => by
    unfold toP at e
    split at e
    · rename_i ps h2
      cases e
      exact .tup (sqT_mono s h) (RepL.dp s r h2)
    · cases e
  | _, _, _, .lst h r, e => by
    unfold toP at e
    split at e
    · rename_i ps h2
      cases e
      exact .lst (.inl (.inl (s _ _ h))) (RepL.dp s r h2)
    · cases e
  | _, _, _, .lsk h r, e => by
    unfold toP at e
    split at e
    · rename_i ps h2
      cases e
      exact .lst (sqL_mono s h) (RepL.dp s r h2)
    · cases e
theorem RepL.dp {B H : Hp} {ι : List Addr} (s : ∀ b o, B b = some o → H b = some o) : ∀ {v : List V} {d : List D} {p : List PyData}, RepL K B ι v d → toPs d = some p → DpAll K H v p
  | _, _, _, .nil, e => by cases e; exact .nil
  | _, _, _, .cons h r, e => by
    unfold toPs at e
    split at e
    · rename_i p h2
      split at e
      · rename_i ps h3
        cases e
        exact .cons (Rep.dp s h h2) (RepL.dp s r h3)
      · cases e
    · cases e
end
def deref (M : Mh) : D → D
  | .ref n => (match M[n]? with
    | some (.lst xs) => .lst xs
    | _ => .ref n)
  | d => d
theorem dp_of {W : Wd} {M : Mh} {v : V} {d : D} {p : PyData} (w : W.Ok K M) (r : Rep K W.B W.ι v d) (h : toP (deref M d) = some p) : Dp K W.H v p := by
  cases r with
  | ref hi =>
    rename_i a n
    unfold deref at h
    dsimp only at h
    split at h
    · rename_i xs hm
      obtain ⟨_, _, o, ho, ro⟩ := w.live _ _ _ ⟨hi, hm, fun z => by cases z⟩
      cases ro with
      | lst r1 =>
        unfold toP at h
        split at h
        · rename_i ps h2
          cases h
          exact .lst (.inl (.inl ho)) (r1.dp w.sub h2)
        · cases h
    · cases h
  | non => exact Rep.dp (d := .non) (B := W.B) (ι := W.ι) w.sub .non h
  | bl b => exact Rep.dp (B := W.B) (ι := W.ι) w.sub (.bl b) h
  | int b => exact Rep.dp (B := W.B) (ι := W.ι) w.sub (.int b) h
  | str b => exact Rep.dp (B := W.B) (ι := W.ι) w.sub (.str b) h
  | ty b => cases h
  | ob b => cases h
  | tup h1 r1 => exact Rep.dp w.sub (.tup h1 r1) h
  | lst h1 r1 => exact Rep.dp w.sub (.lst h1 r1) h
  | lsk h1 r1 => exact Rep.dp w.sub (.lsk h1 r1) h
def gEq (h : PyData → PyData → Bool) : O2 := fun a b M => match toP (deref M a), toP (deref M b) with
  | some p, some q => if SeqAt.shaped p && SeqAt.shaped q then some (.bl (h p q), M) else none
  | _, _ => none
theorem opEq (c : Ctx X P w K mg base k) : OpF X K (compareOp .Eq) (gEq PyData.eqv) := ⟨rEqD K, fun i => by
  have := op_eqD (X := X i) (c.room i).units
  rw [c.K i] at this
  exact this, fun W M x y a b z M' Q w ra rb e q => by
  unfold gEq at e
  split at e
  · rename_i p p' h1 h2
    split at e
    · rename_i hs
      cases e
      rw [Bool.and_eq_true] at hs
      exact ⟨p, p', dp_of w ra h1, dp_of w rb h2, hs.1, hs.2, q _ W (.refl W) w (.bl _)⟩
    · cases e
  · cases e⟩
theorem opNe (c : Ctx X P w K mg base k) : OpF X K (compareOp .NotEq) (gEq fun p q => !PyData.eqv p q) := ⟨rNeD K, fun i => by
  have := op_neD (X := X i) (c.room i).units
  rw [c.K i] at this
  exact this, fun W M x y a b z M' Q w ra rb e q => by
  unfold gEq at e
  split at e
  · rename_i p p' h1 h2
    split at e
    · rename_i hs
      cases e
      rw [Bool.and_eq_true] at hs
      exact ⟨p, p', dp_of w ra h1, dp_of w rb h2, hs.1, hs.2, q _ W (.refl W) w (.bl _)⟩
    · cases e
  · cases e⟩
/-- is None, is not None -/
def isN : D → Bool
  | .non => true
  | _ => false
def gIsN (h : Bool → Bool) : O2 := fun a b M => match b with
  | .non => some (.bl (h (isN a)), M)
  | _ => none
theorem rep_isN {B : Hp} {ι : List Addr} {x : V} {a : D} (r : Rep K B ι x a) : decide (x = .non) = isN a := by
  cases r <;> rfl
theorem opIsN : OpF X K (compareOp .Is) (gIsN fun b => b) := ⟨_, fun _ => op_isN, fun W M x y a b z M' Q w ra rb e q => by
  unfold gIsN at e
  split at e
  · cases rb
    cases e
    refine ⟨rfl, ?_⟩
    rw [rep_isN ra]
    exact q _ W (.refl W) w (.bl _)
  · cases e⟩
theorem opNotN : OpF X K (compareOp .IsNot) (gIsN fun b => !b) := ⟨_, fun _ => op_notN, fun W M x y a b z M' Q w ra rb e q => by
  unfold gIsN at e
  split at e
  · cases rb
    cases e
    refine ⟨rfl, ?_⟩
    rw [rep_isN ra]
    exact q _ W (.refl W) w (.bl _)
  · cases e⟩
/-- is True, is not True, of truths -/
def gIsB (h : Bool → Bool) : O2 := fun a b M => match a, b with
  | .bl x, .bl y => some (.bl (h (decide (x = y))), M)
  | _, _ => none
theorem opIsB : OpF X K (compareOp .Is) (gIsB fun b => b) := ⟨_, fun _ => op_is_bl, fun W M x y a b z M' Q w ra rb e q => by
  unfold gIsB at e
  split at e
  · cases ra
    cases rb
    cases e
    exact ⟨_, _, rfl, rfl, q _ W (.refl W) w (.bl _)⟩
  · cases e⟩
theorem opNotB : OpF X K (compareOp .IsNot) (gIsB fun b => !b) := ⟨_, fun _ => op_isnot_bl, fun W M x y a b z M' Q w ra rb e q => by
  unfold gIsB at e
  split at e
  · cases ra
    cases rb
    cases e
    exact ⟨_, _, rfl, rfl, q _ W (.refl W) w (.bl _)⟩
  · cases e⟩

/-! ### places of rows -/
theorem RepL.atI {B : Hp} {ι : List Addr} {vs : List V} {ds : List D} {i : Int} {d : D} (r : RepL K B ι vs ds) (h : L2.atI ds i = some d) : ∃ v, L2.atI vs i = some v ∧ Rep K B ι v d := by
  unfold L2.atI at h ⊢
  rw [r.len]
  cases e : ixN ds.length i with
  | none =>
    rw [e] at h
    cases h
  | some j =>
    rw [e] at h
    exact r.get (i := j) h
def gIx : O2 := fun a b M => match b with
  | .int i => (match a with
    | .tup xs => (L2.atI xs i).map fun d => (d, M)
    | .lst xs => (L2.atI xs i).map fun d => (d, M)
    | .lsk xs => (L2.atI xs i).map fun d => (d, M)
    | .ref n => (match M[n]? with
      | some (.lst xs) => (L2.atI xs i).map fun d => (d, M)
      | _ => none)
    | .str z => if z.length ≤ sizeLine then (L2.atI z.cps.toList i).map fun c => (.str ⟨#[c]⟩, M) else none
    | _ => none)
  | _ => none
theorem od_ix : OD K (rIx K) gIx := fun W M x y a b z M' Q w ra rb e q => by
  unfold gIx at e
  split at e
  · rename_i i
    cases rb
    split at e
    · rename_i xs
      cases h : L2.atI xs i with
      | none =>
        rw [h] at e
        cases e
      | some d =>
        rw [h] at e
        cases e
        cases ra with
        | tup h1 r1 =>
          obtain ⟨v, hv, rv⟩ := r1.atI h
          exact .inr (.inl ⟨_, _, _, v, rfl, rfl, sqT_mono w.sub h1, hv, q v W (.refl W) w rv⟩)
    · rename_i xs
      cases h : L2.atI xs i with
      | none =>
        rw [h] at e
        cases e
      | some d =>
        rw [h] at e
        cases e
        cases ra with
        | lst h1 r1 =>
          obtain ⟨v, hv, rv⟩ := r1.atI h
          exact .inl ⟨_, _, _, v, rfl, rfl, .inl (.inl (w.sub _ _ h1)), hv, q v W (.refl W) w rv⟩
    · rename_i xs
      cases h : L2.atI xs i with
      | none =>
        rw [h] at e
        cases e
      | some d =>
        rw [h] at e
        cases e
        cases ra with
        | lsk h1 r1 =>
          obtain ⟨v, hv, rv⟩ := r1.atI h
          exact .inl ⟨_, _, _, v, rfl, rfl, sqL_mono w.sub h1, hv, q v W (.refl W) w rv⟩
    · rename_i n
      split at e
      · rename_i xs hm
        cases h : L2.atI xs i with
        | none =>
          rw [h] at e
          cases e
        | some d =>
          rw [h] at e
          cases e
          cases ra with
          | ref h1 =>
            obtain ⟨_, _, o, ho, ro⟩ := w.live n _ _ ⟨h1, hm, fun z => by cases z⟩
            cases ro with
            | lst r1 =>
              obtain ⟨v, hv, rv⟩ := r1.atI h
              exact .inl ⟨_, _, _, v, rfl, rfl, .inl (.inl ho), hv, q v W (.refl W) w rv⟩
      · cases e
    · rename_i z0
      split at e
      · rename_i hz
        cases h : L2.atI z0.cps.toList i with
        | none =>
          rw [h] at e
          cases e
        | some c =>
          rw [h] at e
          cases e
          cases ra
          exact .inr (.inr ⟨_, _, _, rfl, rfl, hz, h, q _ W (.refl W) w (.str _)⟩)
      · cases e
    · cases e
  · cases e
theorem DE.ix (c : Ctx X P w K mg base k) {a b : Expr} {pos} {f g : EF} (ha : DE X K a f) (hb : DE X K b g) (hs : PlainIx b := by exact fun _ _ => rfl) : DE X K (.Subscript a b pos) (eOp gIx f g) := by
  obtain ⟨ta, pa, ra⟩ := ha.go
  obtain ⟨tb, pb, rb⟩ := hb.go
  refine ⟨tOp (rIx K) ta tb, fun i => ?_, er_op od_ix ra rb⟩
  have h := pe_ix (ix_seq (X := X i)) (pa i) (pb i) hs (pos := pos)
  rw [c.K i] at h
  exact h
end
end Pl

namespace Pl
open PySem L2
open PyProof.Rows (envOfC)

/-! ### what a def does to values -/
def spD (K : PySem.W.Frag) (n : Nat) (F : Fn) (vs : List V) (H : Hp) (Q : VK) : Prop :=
  ∃ W M ds d M', W.H = H ∧ W.Ok K M ∧ RepL K W.B W.ι vs ds ∧ ds.length = n ∧ F ds M = some (d, M') ∧ VR K W d M' Q
structure DFn (P : Program) (w : World) (K : PySem.W.Frag) (mg : Str → Option Value) (base : Heap) (k : Nat) (f : Addr) (fd : FuncData) (ps : List Str) (F : Fn) : Prop where
  run : ∀ (A : Around) (outer : List PySem.Env) (s : Shared) (H : Hp) (args : Args) (us : List Value) (vs : List V) (Q : VK), Room k A → A.guards = some [] → Env0 P w K mg base A outer s H → BindsTo s fd args (ps.zip us) → Vals vs us →
    spD K ps.length F vs H Q → codeAny (model P w) A (.call (.ref f) args) (CR CX0 outer P w H s Q E0) s
theorem DFn.mono {P : Program} {w : World} {K : PySem.W.Frag} {mg : Str → Option Value} {base : Heap} {j k : Nat} {f : Addr} {fd : FuncData} {ps : List Str} {F : Fn} (h : DFn P w K mg base j f fd ps F) (l : j ≤ k) : DFn P w K mg base k f fd ps F :=
  ⟨fun A outer s H args us vs Q r g => h.run A outer s H args us vs Q (r.mono l) g⟩
/-- the same values, told otherwise -/
theorem DFn.imp {P : Program} {w : World} {K : PySem.W.Frag} {mg : Str → Option Value} {base : Heap} {k : Nat} {f : Addr} {fd : FuncData} {ps : List Str} {F G : Fn} (h : DFn P w K mg base k f fd ps F) (l : ∀ ds M d M', G ds M = some (d, M') → F ds M = some (d, M')) : DFn P w K mg base k f fd ps G :=
  ⟨fun A outer s H args us vs Q r g e b v ⟨W, M, ds, d, M', a1, a2, a3, a4, a5, a6⟩ => h.run A outer s H args us vs Q r g e b v ⟨W, M, ds, d, M', a1, a2, a3, a4, l _ _ _ _ a5, a6⟩⟩
/-- from a promise of the hand layer -/
theorem DFn.hand {P : Program} {w : World} {K : PySem.W.Frag} {mg : Str → Option Value} {base : Heap} {k : Nat} {f : Addr} {fd : FuncData} {ps : List Str} {F : Fn} {sp : Sp} (h : FnOk P w K mg base CX0 k f fd ps sp) (l : ∀ vs H Q, spD K ps.length F vs H Q → sp vs H Q E0) : DFn P w K mg base k f fd ps F :=
  ⟨fun A outer s H args us vs Q r _ e b v q => h.run A outer s H args us vs Q E0 r e b v (l _ _ _ q)⟩

section
variable {I : Type} {X : I → Cx} {P : Program} {w : World} {K : PySem.W.Frag} {mg : Str → Option Value} {base : Heap} {k : Nat}
/-- the callee runs -/
theorem run_dfn {Y : Cx} {pins : List (Addr × Obj)} {σ : L2.St} {H : Hp} {s : Shared} {Q : VK} {f : Addr} {fd : FuncData} {ps ks : List Str} {F : Fn} {us ws us' : List Value} {vs : List V} (h : DFn Y.prog Y.w Y.K Y.mg Y.base k f fd ps F) (room : Room k Y.A) (grd : Y.A.guards = some [])
    (J : Inv Y pins σ H s) (hb : BindsTo s fd ⟨us, ks.zip ws⟩ (ps.zip us')) (r : Vals vs us') (q : spD Y.K ps.length F vs H Q) : wpAny (model Y.prog Y.w) Y.A (call (.ref f) us (ks.zip ws)) (EP Y pins σ Q) Y.xe s := by
  refine wpAny_call (codeAny_mono (h.run Y.A Y.stack s H _ us' vs Q room grd J.env0 hb r q) fun o s' ho => ?_)
  match o, ho with
  | .ok (.ret u), ho => exact J.after ho
  | .ok .next, ho => exact False.elim ho
  | .ok .brk, ho => exact False.elim ho
  | .ok .cont, ho => exact False.elim ho
  | .error _, ho => exact False.elim ho
def eCall (F : Fn) (g : AF) (dds : List D) : EF := fun δ M => match g δ M with
  | some (ds, M1) => F (ds ++ dds) M1
  | none => none
/-- f(e, ..): dvs the defaults that fill up -/
theorem DE.call (c : Ctx X P w K mg base k) {x : Str} {p pos : Pos} {e : Expr} {es : List Expr} {g : AF} {f : Addr} {fd : FuncData} {ps : List Str} {F : Fn} {kf : Nat} {dvs : List V} {dds : List D} {dsv : List Value} (h : DFn P w K mg base kf f fd ps F) (hk : kf ≤ k)
    (hm : mg x = some (.ref f)) (kp : PySem.W.keepIn K (.ref f) = true) (hb : Binds K fd ps dsv) (hd : Vals dvs dsv) (hr : ∀ B ι, RepL K B ι dvs dds) (hn : (e :: es).length + dds.length = ps.length) (ha : DA X K (e :: es) g) (hlen : ∀ δ M ds M', g δ M = some (ds, M') → ds.length = (e :: es).length) (hg : ∀ i, Gl (X i) x := by intro _; rfl)
    (hdbg : (x == ("__debug__" : Str)) = false := by decide) (he : ∀ i, starEach (e :: es) (X i).env = (false, eval e (X i).env) :: starEach es (X i).env := by intro _; rfl) (hpl : ∀ i, (backTo pos (starEach es (X i).env)).any (·.1) = false := by intro _; rfl) :
    DE X K (.Call (.Name x p) (e :: es) [] pos) (eCall F g dds) := by
  obtain ⟨t, pa, ra⟩ := ha.go
  refine ⟨fun σ H Q => t σ H fun vs H1 => spD K ps.length F (vs ++ dvs) H1 Q, fun i => ⟨fun pins s σ H Q J q => ?_⟩, fun σ W δ M d M' Q w s ev q => ?_⟩
  · have cK := c.K i
    refine wpAny_Call_Name_kw (ld_glob J (hg i) (by rw [c.mg i]; exact hm) ?_ hdbg)
    refine PySem.W.callWith_K (h₀ := (X i).base) J.ok.mod.kin (by rw [cK]; exact kp) (thn ((pa i).run pos pins s σ H _ J q) fun us s1 ⟨vs, H1, J1, r, q1⟩ => ⟨J1.kIn, ?_⟩) (he i) (hpl i)
    obtain ⟨W, M, ds, d, M', a1, a2, a3, a4, a5, a6⟩ := id q1
    have h' : DFn (X i).prog (X i).w (X i).K (X i).mg (X i).base k f fd ps F := by
      rw [c.prog i, c.wd i, c.K i, c.mg i, c.base i]
      exact h.mono hk
    have r2 := r.append hd
    refine run_dfn (ks := []) (ws := []) (us := us) h' (c.room i) (c.grd i) J1 (hb s1 us (by rw [← cK]; exact J1.kIn) ?_) r2 (by rw [cK]; exact q1)
    rw [← r2.length, a3.len, a4]
  · unfold eCall at ev
    split at ev
    · rename_i ds M1 h1
      refine ra σ W δ M ds M1 _ w s h1 fun vs W1 l1 w1 r1 => ⟨W1, M1, ds ++ dds, d, M', rfl, w1, r1.append (hr _ _), ?_, ev, q.le l1⟩
      rw [List.length_append, hlen _ _ _ _ h1]
      exact hn
    · cases ev
theorem aLen_cons {f : EF} {g : AF} {n : Nat} (h : ∀ δ M ds M', g δ M = some (ds, M') → ds.length = n) : ∀ δ M ds M', aCons f g δ M = some (ds, M') → ds.length = n + 1 := fun δ M ds M' e => by
  unfold aCons at e
  split at e
  · split at e
    · rename_i h2
      cases e
      exact congrArg (· + 1) (h _ _ _ _ h2)
    · cases e
  · cases e
theorem aLen_nil : ∀ δ M ds M', aNil δ M = some (ds, M') → ds.length = 0 := fun δ M ds M' e => by
  cases e
  rfl
/-- keywords -/
structure DK (X : I → Cx) (K : PySem.W.Frag) (kws : List Keyword) (f : AF) (n : Nat) : Prop where
  go : ∃ t : TA, (∀ i, PK (X i) kws t) ∧ AR K t f
  len : ∀ δ M ds M', f δ M = some (ds, M') → ds.length = n
theorem DK.nil : DK X K [] aNil 0 := ⟨⟨tNil, fun i => pk_nil, fun σ W δ M d M' Q w s e q => by
  cases e
  exact q [] W (.refl W) w .nil⟩, aLen_nil⟩
theorem DK.cons {nm} {e : Expr} {kpos} {kws : List Keyword} {f : EF} {g : AF} {n : Nat} (a : DE X K e f) (b : DK X K kws g n) : DK X K (⟨nm, e, kpos⟩ :: kws) (aCons f g) (n + 1) := by
  obtain ⟨ta, pa, ra⟩ := a.go
  obtain ⟨tb, pb, rb⟩ := b.go
  refine ⟨⟨tCons ta tb, fun i => pk_cons (pa i) (pb i), fun σ W δ M d M' Q w s e q => ?_⟩, aLen_cons b.len⟩
  unfold aCons at e
  split at e
  · rename_i d1 M1 h1
    split at e
    · rename_i ds M2 h2
      cases e
      refine ra σ W δ M d1 M1 _ w s h1 fun v W1 l1 w1 r1 => ?_
      refine rb σ W1 δ M1 ds _ _ w1 (s.le l1) h2 fun vs W2 l2 w2 r2 => ?_
      exact q _ W2 (l1.trans l2) w2 (.cons (r1.le l2) r2)
    · cases e
  · cases e
def eCallK (F : Fn) (g gk : AF) (h : List D → List D → List D) : EF := fun δ M => match g δ M with
  | some (ds, M1) => (match gk δ M1 with
    | some (zs, M2) => F (h ds zs) M2
    | none => none)
  | none => none
/-- f(e, .., k = v, ..) -/
theorem DE.callK (c : Ctx X P w K mg base k) {x : Str} {p pos : Pos} {e : Expr} {es : List Expr} {kws : List Keyword} {g gk : AF} {f : Addr} {fd : FuncData} {ps ks : List Str} {F : Fn} {kf n : Nat} {gu : List Value → List Value → List Value} {gV : List V → List V → List V} {gD : List D → List D → List D} (h : DFn P w K mg base kf f fd ps F) (hk : kf ≤ k)
    (hm : mg x = some (.ref f)) (kp : PySem.W.keepIn K (.ref f) = true) (hb : KBn K fd ps n ks gu gV) (hr : ∀ B ι vs ds zs es, RepL K B ι vs ds → RepL K B ι zs es → RepL K B ι (gV vs zs) (gD ds es)) (hn : ∀ ds zs : List D, ds.length = n → zs.length = ks.length → (gD ds zs).length = ps.length)
    (ha : DA X K (e :: es) g) (hlen : ∀ δ M ds M', g δ M = some (ds, M') → ds.length = n) (hkw : DK X K kws gk ks.length) (hall : ∀ i, (backToKw pos (keywordEach kws (X i).env)).all (·.1.isSome) = true := by intro _; rfl) (hks : ∀ i, (backToKw pos (keywordEach kws (X i).env)).filterMap (·.1) = ks := by intro _; rfl)
    (hg : ∀ i, Gl (X i) x := by intro _; rfl) (hdbg : (x == ("__debug__" : Str)) = false := by decide) (he : ∀ i, starEach (e :: es) (X i).env = (false, eval e (X i).env) :: starEach es (X i).env := by intro _; rfl)
    (hpl : ∀ i, ((backTo pos (starEach (e :: es) (X i).env)).any (·.1) || (backToKw pos (keywordEach kws (X i).env)).any (·.1.isNone)) = false := by intro _; rfl) :
    DE X K (.Call (.Name x p) (e :: es) kws pos) (eCallK F g gk gD) := by
  obtain ⟨t, pa, ra⟩ := ha.go
  obtain ⟨tk, pk, rk⟩ := hkw.go
  refine ⟨fun σ H Q => t σ H fun vs H1 => tk σ H1 fun zs H2 => vs.length = n ∧ zs.length = ks.length ∧ spD K ps.length F (gV vs zs) H2 Q, fun i => ⟨fun pins s σ H Q J q => ?_⟩, fun σ W δ M d M' Q w s ev q => ?_⟩
  · have cK := c.K i
    refine wpAny_Call_Name_kw (ld_glob J (hg i) (by rw [c.mg i]; exact hm) ?_ hdbg)
    refine PySem.W.callWith_KW (h₀ := (X i).base) J.ok.mod.kin (by rw [cK]; exact kp) (hall i) (thn ((pa i).run pos pins s σ H _ J q) fun us s1 ⟨vs, H1, J1, r, q1⟩ => ?_) (hpl i) (he i)
    refine thn ((pk i).run pos pins s1 σ H1 _ J1 q1) fun ws s2 ⟨zs, H2, J2, rz, l1, l2, q2⟩ => ⟨J2.kIn, ?_⟩
    have h' : DFn (X i).prog (X i).w (X i).K (X i).mg (X i).base k f fd ps F := by
      rw [c.prog i, c.wd i, c.K i, c.mg i, c.base i]
      exact h.mono hk
    have r2 := hb.rel r rz
    rw [hks i]
    exact run_dfn h' (c.room i) (c.grd i) J2 (hb.to s2 us ws (by rw [← cK]; exact J2.kIn) (r.length.symm.trans l1) (rz.length.symm.trans l2)) r2 (by rw [cK]; exact q2)
  · unfold eCallK at ev
    split at ev
    · rename_i ds M1 h1
      split at ev
      · rename_i zs M2 h2
        refine ra σ W δ M ds M1 _ w s h1 fun vs W1 l1 w1 r1 => ?_
        refine rk σ W1 δ M1 zs M2 _ w1 (s.le l1) h2 fun us W2 l2 w2 r2 => ?_
        have e1 := hlen _ _ _ _ h1
        have e2 := hkw.len _ _ _ _ h2
        exact ⟨by rw [r1.len]; exact e1, by rw [r2.len]; exact e2, W2, M2, gD ds zs, d, M', rfl, w2, hr _ _ _ _ _ _ (r1.le l2) r2, hn _ _ e1 e2, ev, q.le (l1.trans l2)⟩
      · cases ev
    · cases ev
end

/-! ### a def's body -/
def startD (n : Nat) (ds : List D) : Env := ds.map some ++ List.replicate (n - ds.length) none
def fnF (n : Nat) (g : SF) : Fn := fun ds M => match g (startD n ds) M with
  | some (.rt d M') => some (d, M')
  | some (.nx _ M') => some (.non, M')
  | _ => none
/-- an entry of the def -/
structure Entry (k : Nat) (qual : Str) (scope : Scope) (f : Addr) where
  cdv : Value
  A : Around
  outer : List PySem.Env
  s : Shared
  H : Hp
  room : Room k (A.deeper (envOfC qual scope s.heap.objs.size f cdv))
  grd : A.guards = some []
def bodyF (P : Program) (w : World) (K : PySem.W.Frag) (mg : Str → Option Value) (base : Heap) (N : List Str) {k : Nat} {qual : Str} {scope : Scope} {f : Addr} (e : Entry k qual scope f) : Cx := (cxOf CX0 P w K mg base N qual scope f e.cdv e.A e.outer e.s e.H E0).nox
theorem bodyF_ctx (P : Program) (w : World) (K : PySem.W.Frag) (mg : Str → Option Value) (base : Heap) (N : List Str) {k : Nat} {qual : Str} {scope : Scope} {f : Addr} : Ctx (bodyF P w K mg base N (k := k) (qual := qual) (scope := scope) (f := f)) P w K mg base k :=
  ⟨fun _ => rfl, fun _ => rfl, fun _ => rfl, fun _ => rfl, fun _ => rfl, fun e => e.room, fun e => e.grd, fun _ => rfl⟩
theorem slots_start {K : PySem.W.Frag} {W : Wd} {N : List Str} {vs : List V} {ds : List D} (r : RepL K W.B W.ι vs ds) : Slots K W (L2.start N vs) (startD N.length ds) := by
  have hl := r.len
  refine ⟨by simp [L2.start, startD, hl], fun i d h => ?_⟩
  unfold startD at h
  by_cases hi : i < ds.length
  · rw [List.getElem?_append_left (by simpa using hi), List.getElem?_map] at h
    cases e : ds[i]? with
    | none =>
      rw [e] at h
      cases h
    | some d' =>
      rw [e] at h
      cases h
      obtain ⟨v, h1, h2⟩ := r.get e
      refine ⟨v, ?_, h2⟩
      unfold L2.start
      rw [List.getElem?_append_left (by simp [hl]; exact hi), List.getElem?_map, h1]
      rfl
  · rw [List.getElem?_append_right (by simpa using hi), List.getElem?_replicate] at h
    split at h <;> cases h
/-- THE RULE of a def -/
theorem DFn.of {P : Program} {w : World} {K : PySem.W.Frag} {mg : Str → Option Value} {base : Heap} {k : Nat} {x qual : Str} {params : Arguments} {body : List Stmt} {scope : Scope} {dvs : List V} {kws : List (Str × V)} {f : Addr} {fd : FuncData} {N ps : List Str} {g : SF}
    (h : FunD K x qual params body scope dvs kws f fd) (S : FnScope N ps scope) (hb : Ctx (bodyF P w K mg base N (k := k) (qual := qual) (scope := scope) (f := f)) P w K mg base k → DB (bodyF P w K mg base N (k := k) (qual := qual) (scope := scope) (f := f)) K body g) : DFn P w K mg base (k + 1) f fd ps (fnF N.length g) := by
  obtain ⟨oc, od, dV, kV, doc, pm, an, cdv, ct, osl, rfl, lk, hcd, _, _⟩ := h.ex
  obtain ⟨t, pt, rt⟩ := (hb (bodyF_ctx P w K mg base N)).go
  refine ⟨fun A outer s H args us vs Q room grd e0 bd r q => ?_⟩
  obtain ⟨W, M, ds, d, M', rfl, a2, a3, a4, a5, a6⟩ := q
  have hl : vs.length = ps.length := a3.len.trans a4
  have KX : K.In s.heap := e0.mod.kin.keeps fun b o e => (e0.bs b o e).1
  have lim : s.heap.NoLimit := e0.mod.nolimit.keeps fun b o e => (e0.bs b o e).1
  have knd : ∀ y ∈ ps.zip us, scope.names.lookup y.1 = some .local ∨ (scope.names.lookup y.1 = some .cell ∧ ((cellsFrom (s.heap.objs.size + 1) scope.names []).lookup y.1).isSome = true) := fun y hy => by
    rcases S.par y.1 (List.of_mem_zip (a := y.1) (b := y.2) hy).1 with q | q
    · exact .inl q
    · exact .inr ⟨q, PySem.W.cellsFrom_some _ _ _ (.inl q)⟩
  refine codeAny_call_function room.depth (KX _ _ lk) rfl S.co S.gen rfl (PySem.W.codeRec_of KX hcd) (bd _ _ _ _ ?_)
  refine wpAny_newFunctionEnv_cells S.kind knd fun env he s1 xc => ?_
  subst he
  refine ⟨lim.keeps xc.toInCall.keep, codeAny_func ?_⟩
  have J : Inv (cxOf CX0 P w K mg base N qual scope f cdv A outer s W.H E0) [] (L2.start N vs) W.H s1 := inv_start S room.hd e0 hl r xc
  have ht := (pt ⟨cdv, A, outer, s, W.H, room.deeper _, grd⟩).nox
  have q2 : t { nx := fun _ H' => Q .non H', rt := Q } (L2.start N vs) W.H := by
    unfold fnF at a5
    split at a5
    · rename_i d2 M2 h2
      cases a5
      exact rt _ W _ M _ _ a2 (slots_start a3) h2 a6
    · rename_i δ2 M2 h2
      cases a5
      exact rt _ W _ M _ _ a2 (slots_start a3) h2 fun σ' W' l o s' => a6 .non W' l o .non
    · cases a5
  refine wpAny_mono (ht.run [] s1 (L2.start N vs) W.H _ J q2) (fun fl s' hs => ?_) fun e s' hs => hs
  have fin : ∀ {σ' : St} {H' : Hp} {v : V} {u : Value}, Inv (cxOf CX0 P w K mg base N qual scope f cdv A outer s W.H E0) [] σ' H' s' → RelV v u → Q v H' → CE outer P w W.H s Q u s' :=
    fun {σ' H' v u} J rv q => ⟨v, H', J.os, J.bare, J.base, J.hok, rv, q⟩
  match fl, hs with
  | .ret u, ⟨v, σ', H', J2, rv, q3⟩ => exact fin J2 rv q3
  | .next, ⟨σ', H', J2, q3⟩ => exact fin (v := V.non) (u := Value.none) J2 rfl q3
  | .brk, ⟨_, _, _, q3⟩ => exact False.elim q3
  | .cont, ⟨_, _, _, q3⟩ => exact False.elim q3
end Pl

namespace Pl
open PySem L2
section
variable {I : Type} {X : I → Cx} {P : Program} {w : World} {K : PySem.W.Frag} {mg : Str → Option Value} {base : Heap} {k : Nat}
/-! ### rows as they are read -/
def lstT (M : Mh) : D → Option (List D)
  | .lst xs => some xs
  | .ref n => (match M[n]? with
    | some (.lst xs) => some xs
    | _ => none)
  | _ => none
def lstOf (M : Mh) : D → Option (List D)
  | .lst xs => some xs
  | .lsk xs => some xs
  | .ref n => (match M[n]? with
    | some (.lst xs) => some xs
    | _ => none)
  | _ => none
theorem lstT_rep {W : Wd} {M : Mh} {x : V} {d : D} {ds : List D} (w : W.Ok K M) (r : Rep K W.B W.ι x d) (h : lstT M d = some ds) : ∃ l vs, x = .ref l ∧ W.H l = some (.lst vs) ∧ RepL K W.B W.ι vs ds := by
  unfold lstT at h
  split at h
  · cases h
    cases r with
    | lst h1 r1 => exact ⟨_, _, rfl, w.sub _ _ h1, r1⟩
  · split at h
    · rename_i hm
      cases h
      cases r with
      | ref h1 =>
        obtain ⟨_, _, o, ho, ro⟩ := w.live _ _ _ ⟨h1, hm, fun z => by cases z⟩
        cases ro with
        | lst r1 => exact ⟨_, _, rfl, ho, r1⟩
    · cases h
  · cases h
theorem lstOf_rep {W : Wd} {M : Mh} {x : V} {d : D} {ds : List D} (w : W.Ok K M) (r : Rep K W.B W.ι x d) (h : lstOf M d = some ds) : ∃ l vs, x = .ref l ∧ SqL K W.H l vs ∧ RepL K W.B W.ι vs ds := by
  unfold lstOf at h
  split at h
  · cases h
    cases r with
    | lst h1 r1 => exact ⟨_, _, rfl, .inl (.inl (w.sub _ _ h1)), r1⟩
  · cases h
    cases r with
    | lsk h1 r1 => exact ⟨_, _, rfl, sqL_mono w.sub h1, r1⟩
  · split at h
    · rename_i hm
      cases h
      cases r with
      | ref h1 =>
        obtain ⟨_, _, o, ho, ro⟩ := w.live _ _ _ ⟨h1, hm, fun z => by cases z⟩
        cases ro with
        | lst r1 => exact ⟨_, _, rfl, .inl (.inl ho), r1⟩
    · cases h
  · cases h
theorem tup_rep {W : Wd} {M : Mh} {x : V} {ds : List D} (w : W.Ok K M) (r : Rep K W.B W.ι x (.tup ds)) : ∃ l vs, x = .ref l ∧ SqT K W.H l vs ∧ RepL K W.B W.ι vs ds := by
  cases r with
  | tup h1 r1 => exact ⟨_, _, rfl, sqT_mono w.sub h1, r1⟩

/-! ### + and * -/
def gAdd : O2 := fun a b M => match a, b with
  | .int i, .int j => some (.int (i + j), M)
  | .str x, .str y => if x.length + y.length ≤ sizeLine then some (.str (x ++ y), M) else none
  | .tup xs, .tup ys => if xs.length + ys.length ≤ sizeLine then some (.tup (xs ++ ys), M) else none
  | a, b => (match lstT M a, lstT M b with
    | some xs, some ys => if xs.length + ys.length ≤ sizeLine then some (.lst (xs ++ ys), M) else none
    | _, _ => none)
def rAdd4 (K : PySem.W.Frag) : R2 := fun x y H Q => rI0 (fun i j => .int (i + j)) x y H Q ∨ (∃ i j, x = .str i ∧ y = .str j ∧ i.length + j.length ≤ sizeLine ∧ Q (.str (i ++ j)) H) ∨ rCat x y H Q ∨ rCatA K x y H Q
theorem opAdd4 (c : Ctx X P w K mg base k) : OpF X K (binaryOp .Add) gAdd := ⟨rAdd4 K, fun i => by
  have h := OpR.or (X := X i) op_add (OpR.or op_add_str (OpR.or op_cat op_catA))
  rw [c.K i] at h
  exact h, fun W M x y a b z M' Q w ra rb e q => by
  unfold gAdd at e
  split at e
  · cases ra
    cases rb
    cases e
    exact .inl ⟨_, _, rfl, rfl, q _ W (.refl W) w (.int _)⟩
  · split at e
    · rename_i hl
      cases ra
      cases rb
      cases e
      exact .inr (.inl ⟨_, _, rfl, rfl, hl, q _ W (.refl W) w (.str _)⟩)
    · cases e
  · split at e
    · rename_i hl
      cases e
      obtain ⟨a, vs, rfl, s1, r1⟩ := tup_rep w ra
      obtain ⟨b, us, rfl, s2, r2⟩ := tup_rep w rb
      refine .inr (.inr (.inr ⟨a, b, vs, us, rfl, rfl, s1, s2, by rw [r1.len, r2.len]; exact hl, fun h => ?_, fun h0 h => ?_, fun h0 h1 p hp => ?_⟩))
      · subst h
        cases r1
        exact q _ W (.refl W) w rb
      · subst h
        cases r2
        rw [List.append_nil] at q
        exact q _ W (.refl W) w ra
      · obtain ⟨l2, w2, r3⟩ := lay_tup w hp (r1.append r2)
        exact q _ _ l2 w2 r3
    · cases e
  · split at e
    · rename_i xs ys h1 h2
      split at e
      · rename_i hl
        cases e
        obtain ⟨a, vs, rfl, s1, r1⟩ := lstT_rep w ra h1
        obtain ⟨b, us, rfl, s2, r2⟩ := lstT_rep w rb h2
        refine .inr (.inr (.inl ⟨a, b, vs, us, rfl, rfl, s1, s2, by rw [r1.len, r2.len]; exact hl, fun p hp => ?_⟩))
        obtain ⟨l2, w2, r3⟩ := lay_lst w hp (r1.append r2)
        exact q _ _ l2 w2 r3
      · cases e
    · cases e⟩
theorem RepL.rep {B : Hp} {ι : List Addr} {vs : List V} {ds : List D} (r : RepL K B ι vs ds) : ∀ n : Nat, RepL K B ι (List.replicate n vs).flatten (List.replicate n ds).flatten
  | 0 => .nil
  | n + 1 => by
    rw [List.replicate_succ, List.replicate_succ, List.flatten_cons, List.flatten_cons]
    exact r.append (r.rep n)
def gMul : O2 := fun a b M => match a, b with
  | .int i, .int j => if MulOk i j then some (.int (i * j), M) else none
  | .lst xs, .int j => if -(2 ^ 63) ≤ j ∧ j < 2 ^ 63 ∧ xs.length * j.toNat ≤ sizeLine then some (.lst (List.replicate j.toNat xs).flatten, M) else none
  | _, _ => none
theorem opMul2 : OpF X K (binaryOp .Mult) gMul := ⟨_, fun i => OpR.or op_mulX op_rep, fun W M x y a b z M' Q w ra rb e q => by
  unfold gMul at e
  split at e
  · split at e
    · rename_i hc
      cases ra
      cases rb
      cases e
      exact .inl ⟨_, _, rfl, rfl, hc, q _ W (.refl W) w (.int _)⟩
    · cases e
  · split at e
    · rename_i hc
      cases rb
      cases e
      cases ra with
      | lst h1 r1 =>
        refine .inr ⟨_, _, _, rfl, rfl, w.sub _ _ h1, hc.1, hc.2.1, by rw [r1.len]; exact hc.2.2, fun p hp => ?_⟩
        obtain ⟨l2, w2, r3⟩ := lay_lst w hp (r1.rep _)
        exact q _ _ l2 w2 r3
    · cases e
  · cases e⟩

/-! ### slices -/
structure DP (X : I → Cx) (K : PySem.W.Frag) (e : Option Expr) (f : Env → Mh → Option (Option Int × Mh)) : Prop where
  go : ∃ t : St → Hp → (Option Int → Hp → Prop) → Prop, (∀ i, PO (X i) e t) ∧ ∀ (σ : St) (W : Wd) (δ : Env) (M : Mh) (d : Option Int) (M' : Mh) (Q : Option Int → Hp → Prop), W.Ok K M → Slots K W σ δ → f δ M = some (d, M') → (∀ W', W.Le W' → W'.Ok K M' → Q d W'.H) → t σ W.H Q
def pNone : Env → Mh → Option (Option Int × Mh) := fun _ M => some (none, M)
def pSome (f : EF) : Env → Mh → Option (Option Int × Mh) := fun δ M => match f δ M with
  | some (.int i, M1) => some (some i, M1)
  | _ => none
theorem DP.none : DP X K none pNone := ⟨_, fun i => po_none, fun σ W δ M d M' Q w s e q => by
  cases e
  exact q W (.refl W) w⟩
theorem DP.some {e : Expr} {f : EF} (h : DE X K e f) : DP X K (some e) (pSome f) := by
  obtain ⟨t, p, r⟩ := h.go
  refine ⟨_, fun i => po_some (p i), fun σ W δ M d M' Q w s ev q => ?_⟩
  unfold pSome at ev
  split at ev
  · rename_i h1
    cases ev
    refine r σ W δ M _ _ _ w s h1 fun v W1 l1 w1 r1 => ?_
    cases r1
    exact ⟨_, rfl, q W1 l1 w1⟩
  · cases ev
def cutD {α : Type} (xs : List α) (lo hi : Option Int) : List α := (xs.drop (HT.sIx xs.length 0 lo)).take (HT.sIx xs.length xs.length hi - HT.sIx xs.length 0 lo)
theorem RepL.cut {B : Hp} {ι : List Addr} {vs : List V} {ds : List D} (r : RepL K B ι vs ds) (lo hi : Option Int) : RepL K B ι (cutV vs lo hi) (cutD ds lo hi) := by
  unfold cutV cutD
  rw [r.len]
  exact (r.drop _).take _
theorem cutD_all {α : Type} {xs : List α} {lo hi : Option Int} (h : HT.sIx xs.length 0 lo = 0 ∧ HT.sIx xs.length xs.length hi = xs.length) : cutD xs lo hi = xs := by
  unfold cutD
  rw [h.1, h.2]
  simp
def eSl (f : EF) (p q : Env → Mh → Option (Option Int × Mh)) : EF := fun δ M => match f δ M with
  | some (a, M1) => (match p δ M1 with
    | some (lo, M2) => (match q δ M2 with
      | some (hi, M3) => (match a with
        | .tup xs => some (.tup (cutD xs lo hi), M3)
        | .str z => if z.length ≤ sizeLine then some (.str (cutS z lo hi), M3) else none
        | a => (match lstOf M3 a with
          | some xs => some (.lst (cutD xs lo hi), M3)
          | none => none))
      | none => none)
    | none => none)
  | none => none
theorem DE.sl (c : Ctx X P w K mg base k) {e : Expr} {lo hi : Option Expr} {p2 pos} {f : EF} {p q : Env → Mh → Option (Option Int × Mh)} (ha : DE X K e f) (hlo : DP X K lo p) (hhi : DP X K hi q) : DE X K (.Subscript e (.Slice lo hi none p2) pos) (eSl f p q) := by
  obtain ⟨t, pa, r⟩ := ha.go
  obtain ⟨tl, pl, rl⟩ := hlo.go
  obtain ⟨th, ph, rh⟩ := hhi.go
  refine ⟨tSl (fun x lo hi H Q => rSlL K x lo hi H Q ∨ rSlA K x lo hi H Q ∨ rSlS x lo hi H Q) t tl th, fun i => ?_, fun σ W δ M d M' Q w s ev qq => ?_⟩
  · have h := pe_slice (SlR.or (X := X i) sl_list (SlR.or sl_tupA sl_str)) (pa i) (pl i) (ph i) (p2 := p2) (pos := pos)
    rw [c.K i] at h
    exact h
  · unfold eSl at ev
    split at ev
    · rename_i a M1 h1
      split at ev
      · rename_i lo' M2 h2
        split at ev
        · rename_i hi' M3 h3
          refine r σ W δ M _ _ _ w s h1 fun v W1 l1 w1 r1 => ?_
          refine rl σ W1 δ M1 _ _ _ w1 (s.le l1) h2 fun W2 l2 w2 => ?_
          refine rh σ W2 δ M2 _ _ _ w2 (s.le (l1.trans l2)) h3 fun W3 l3 w3 => ?_
          have r3 := r1.le (l2.trans l3)
          have l13 := (l1.trans l2).trans l3
          split at ev
          · cases ev
            obtain ⟨b, vs, rfl, s1, q1⟩ := tup_rep w3 r3
            refine .inr (.inl ⟨b, vs, rfl, s1, fun h => ?_, fun h p hp => ?_⟩)
            · rw [q1.len] at h
              rw [cutD_all h] at qq
              exact qq _ W3 l13 w3 r3
            · obtain ⟨l4, w4, r4⟩ := lay_tup w3 hp (q1.cut lo' hi')
              exact qq _ _ (l13.trans l4) w4 r4
          · split at ev
            · rename_i hz
              cases ev
              cases r3
              exact .inr (.inr ⟨_, rfl, hz, qq _ W3 l13 w3 (.str _)⟩)
            · cases ev
          · split at ev
            · rename_i xs hx
              cases ev
              obtain ⟨b, vs, rfl, s1, q1⟩ := lstOf_rep w3 r3 hx
              refine .inl ⟨b, vs, rfl, s1, fun p hp => ?_⟩
              obtain ⟨l4, w4, r4⟩ := lay_lst w3 hp (q1.cut lo' hi')
              exact qq _ _ (l13.trans l4) w4 r4
            · cases ev
        · cases ev
      · cases ev
    · cases ev

/-! ### built-in calls -/
abbrev GL := List D → Mh → Option (D × Mh)
structure CalF (X : I → Cx) (K : PySem.W.Frag) (f : Value) (g : GL) : Prop where
  go : ∃ r : List V → Hp → VK → Prop, (∀ i, CallR (X i) f r) ∧ ∀ (W : Wd) (M : Mh) (vs : List V) (ds : List D) (z : D) (M' : Mh) (Q : VK), W.Ok K M → RepL K W.B W.ι vs ds → g ds M = some (z, M') → VR K W z M' Q → r vs W.H Q
def eB (g : GL) (a : AF) : EF := fun δ M => match a δ M with
  | some (ds, M1) => g ds M1
  | none => none
theorem er_b {r : List V → Hp → VK → Prop} {g : GL} {a : AF} {t : TA} (h : ∀ (W : Wd) (M : Mh) (vs : List V) (ds : List D) (z : D) (M' : Mh) (Q : VK), W.Ok K M → RepL K W.B W.ι vs ds → g ds M = some (z, M') → VR K W z M' Q → r vs W.H Q) (ra : AR K t a) : ER K (tCB r t) (eB g a) := fun σ W δ M d M' Q w s e q => by
  unfold eB at e
  split at e
  · rename_i ds M1 h1
    exact ra σ W δ M _ _ _ w s h1 fun vs W1 l1 w1 r1 => h W1 M1 vs ds d M' Q w1 r1 e (q.le l1)
  · cases e
theorem DE.callB (c : Ctx X P w K mg base k) {x : Str} {p pos : Pos} {e : Expr} {es : List Expr} {id : String} {g : GL} {a : AF} (o : CalF X K (.builtin id) g) (hm : mg x = none) (hv : bootBuiltins x = some (.builtin id)) (ha : DA X K (e :: es) a) (hg : ∀ i, Gl (X i) x := by intro _; rfl)
    (hn : x ≠ "__name__" := by decide) (hdbg : (x == ("__debug__" : Str)) = false := by decide) (he : ∀ i, starEach (e :: es) (X i).env = (false, eval e (X i).env) :: starEach es (X i).env := by intro _; rfl) (hpl : ∀ i, (backTo pos (starEach es (X i).env)).any (·.1) = false := by intro _; rfl) :
    DE X K (.Call (.Name x p) (e :: es) [] pos) (eB g a) := by
  obtain ⟨r, hc, h⟩ := o.go
  obtain ⟨t, pa, ra⟩ := ha.go
  exact ⟨_, fun i => pe_callB (hc i) (hg i) (by rw [c.mg i]; exact hm) hv (pa i) (hn := hn) (hdb := hdbg) (he := he i) (hpl := hpl i), er_b h ra⟩
theorem DE.callTy (c : Ctx X P w K mg base k) {x : Str} {p pos : Pos} {e : Expr} {es : List Expr} {id : String} {g : GL} {a : AF} (o : CalF X K (.type id) g) (hm : mg x = none) (hv : bootBuiltins x = some (.type id)) (ha : DA X K (e :: es) a) (hg : ∀ i, Gl (X i) x := by intro _; rfl)
    (hn : x ≠ "__name__" := by decide) (hdbg : (x == ("__debug__" : Str)) = false := by decide) (he : ∀ i, starEach (e :: es) (X i).env = (false, eval e (X i).env) :: starEach es (X i).env := by intro _; rfl) (hpl : ∀ i, (backTo pos (starEach es (X i).env)).any (·.1) = false := by intro _; rfl) :
    DE X K (.Call (.Name x p) (e :: es) [] pos) (eB g a) := by
  obtain ⟨r, hc, h⟩ := o.go
  obtain ⟨t, pa, ra⟩ := ha.go
  exact ⟨_, fun i => pe_callTy (hc i) (hg i) (by rw [c.mg i]; exact hm) hv (pa i) (hn := hn) (hdb := hdbg) (he := he i) (hpl := hpl i), er_b h ra⟩
/-- a built-in that the module has imported -/
theorem DE.callM (c : Ctx X P w K mg base k) {x : Str} {p pos : Pos} {e : Expr} {es : List Expr} {id : String} {g : GL} {a : AF} (o : CalF X K (.builtin id) g) (hm : mg x = some (.builtin id)) (ha : DA X K (e :: es) a) (hg : ∀ i, Gl (X i) x := by intro _; rfl)
    (hdbg : (x == ("__debug__" : Str)) = false := by decide) (he : ∀ i, starEach (e :: es) (X i).env = (false, eval e (X i).env) :: starEach es (X i).env := by intro _; rfl) (hpl : ∀ i, (backTo pos (starEach es (X i).env)).any (·.1) = false := by intro _; rfl) :
    DE X K (.Call (.Name x p) (e :: es) [] pos) (eB g a) := by
  obtain ⟨r, hc, h⟩ := o.go
  obtain ⟨t, pa, ra⟩ := ha.go
  exact ⟨_, fun i => pe_callBfun (hc i) (hg i) (by rw [c.mg i]; exact hm) (pa i) (hdb := hdbg) (he := he i) (hpl := hpl i), er_b h ra⟩
def lenOf (M : Mh) : D → Option Nat
  | .str z => if z.length ≤ sizeLine then some z.length else none
  | .tup xs => some xs.length
  | d => (lstOf M d).map (·.length)
def gLen : GL := fun ds M => match ds with
  | [d] => (lenOf M d).map fun n => (.int (n : Nat), M)
  | _ => none
theorem cLen (c : Ctx X P w K mg base k) : CalF X K (.builtin "len") gLen := ⟨fun xs H Q => ∃ x n, xs = [x] ∧ LenV K x H n ∧ Q (.int n) H, fun i => by
  have h := call_len (X := X i)
  rw [c.K i] at h
  exact h, fun W M vs ds z M' Q w r e q => by
  unfold gLen at e
  split at e
  · rename_i d
    cases hl : lenOf M d with
    | none =>
      rw [hl] at e
      cases e
    | some n =>
      rw [hl] at e
      cases e
      cases r with
      | cons r1 r2 =>
        cases r2
        refine ⟨_, n, rfl, ?_, q _ W (.refl W) w (.int _)⟩
        unfold lenOf at hl
        split at hl
        · split at hl
          · rename_i hz
            cases hl
            cases r1
            exact ⟨hz, rfl⟩
          · cases hl
        · cases hl
          obtain ⟨a, us, rfl, s1, q1⟩ := tup_rep w r1
          exact .inr ⟨us, s1, q1.len.symm⟩
        · cases hx : lstOf M d with
          | none =>
            rw [hx] at hl
            cases hl
          | some xs =>
            rw [hx] at hl
            cases hl
            obtain ⟨a, us, rfl, s1, q1⟩ := lstOf_rep w r1 hx
            exact .inl ⟨us, s1, q1.len.symm⟩
  · cases e⟩
def gL1 (h : Int → D) : GL := fun ds M => match ds with
  | [.int i] => some (h i, M)
  | _ => none
def gL2 (h : Int → Int → D) : GL := fun ds M => match ds with
  | [.int i, .int j] => some (h i j, M)
  | _ => none
theorem cAbs : CalF X K (.builtin "abs") (gL1 fun i => .int (if i < 0 then -i else i)) := ⟨_, fun i => call_abs, fun W M vs ds z M' Q w r e q => by
  unfold gL1 at e
  split at e
  · cases e
    cases r with
    | cons r1 r2 =>
      cases r1
      cases r2
      exact ⟨_, rfl, q _ W (.refl W) w (.int _)⟩
  · cases e⟩
theorem cMax2 (c : Ctx X P w K mg base k) : CalF X K (.builtin "max") (gL2 fun i j => .int (if j > i then j else i)) := ⟨_, fun i => call_max2 (c.calm i), fun W M vs ds z M' Q w r e q => by
  unfold gL2 at e
  split at e
  · cases e
    cases r with
    | cons r1 r2 =>
      cases r2 with
      | cons r2 r3 =>
        cases r1
        cases r2
        cases r3
        exact ⟨_, _, rfl, q _ W (.refl W) w (.int _)⟩
  · cases e⟩
theorem cMin2 (c : Ctx X P w K mg base k) : CalF X K (.builtin "min") (gL2 fun i j => .int (if j < i then j else i)) := ⟨_, fun i => call_min2 (c.calm i), fun W M vs ds z M' Q w r e q => by
  unfold gL2 at e
  split at e
  · cases e
    cases r with
    | cons r1 r2 =>
      cases r2 with
      | cons r2 r3 =>
        cases r1
        cases r2
        cases r3
        exact ⟨_, _, rfl, q _ W (.refl W) w (.int _)⟩
  · cases e⟩
theorem cGcd : CalF X K (.builtin "math.gcd") (gL2 fun i j => .int ((Nat.gcd i.natAbs j.natAbs : Nat) : Int)) := ⟨_, fun i => cr_gcd, fun W M vs ds z M' Q w r e q => by
  unfold gL2 at e
  split at e
  · cases e
    cases r with
    | cons r1 r2 =>
      cases r2 with
      | cons r2 r3 =>
        cases r1
        cases r2
        cases r3
        exact ⟨_, _, rfl, q _ W (.refl W) w (.int _)⟩
  · cases e⟩
def intsOf : List D → Option (List Int)
  | [] => some []
  | .int i :: r => (match intsOf r with
    | some is => some (i :: is)
    | none => none)
  | _ => none
theorem rep_ints {B : Hp} {ι : List Addr} : ∀ {vs : List V} {ds : List D} {is : List Int}, RepL K B ι vs ds → intsOf ds = some is → vs = is.map V.int
  | _, _, _, .nil, e => by
    cases e
    rfl
  | _, _, _, .cons (d := d) r t, e => by
    unfold intsOf at e
    split at e
    · rename_i h1
      cases h1
    · rename_i h1
      split at e
      · rename_i is h2
        cases e
        cases h1
        cases r
        rw [List.map_cons, rep_ints t h2]
      · cases e
    · cases e
def gSum : GL := fun ds M => match ds with
  | [d] => (match lstOf M d with
    | some xs => (match intsOf xs with
      | some is => some (.int is.sum, M)
      | none => none)
    | none => none)
  | _ => none
theorem cSum (c : Ctx X P w K mg base k) : CalF X K (.builtin "sum") gSum := ⟨rSum K, fun i => by
  have h := cr_sum (X := X i) (c.calm i)
  rw [c.K i] at h
  exact h, fun W M vs ds z M' Q w r e q => by
  unfold gSum at e
  split at e
  · split at e
    · rename_i xs h1
      split at e
      · rename_i is h2
        cases e
        cases r with
        | cons r1 r2 =>
          cases r2
          obtain ⟨a, us, rfl, s1, q1⟩ := lstOf_rep w r1 h1
          have := rep_ints q1 h2
          subst this
          exact ⟨a, is, rfl, s1, q _ W (.refl W) w (.int _)⟩
      · cases e
    · cases e
  · cases e⟩
def gTupOf : GL := fun ds M => match ds with
  | [.tup xs] => some (.tup xs, M)
  | [d] => (match lstOf M d with
    | some xs => some (.tup xs, M)
    | none => none)
  | _ => none
theorem cTupOf (c : Ctx X P w K mg base k) : CalF X K (.type "tuple") gTupOf := ⟨fun xs H Q => ∃ p ys, xs = [.ref p] ∧ ((SqL K H p ys ∧ ∀ l, H l = none → Q (.ref l) (upd H l (.tup ys))) ∨ (SqT K H p ys ∧ Q (.ref p) H)), fun i => by
  have h := call_tuple_of (X := X i)
  rw [c.K i] at h
  exact h, fun W M vs ds z M' Q w r e q => by
  unfold gTupOf at e
  split at e
  · cases e
    cases r with
    | cons r1 r2 =>
      cases r2
      obtain ⟨a, us, rfl, s1, q1⟩ := tup_rep w r1
      exact ⟨a, us, rfl, .inr ⟨s1, q _ W (.refl W) w r1⟩⟩
  · split at e
    · rename_i xs h1
      cases e
      cases r with
      | cons r1 r2 =>
        cases r2
        obtain ⟨a, us, rfl, s1, q1⟩ := lstOf_rep w r1 h1
        refine ⟨a, us, rfl, .inl ⟨s1, fun p hp => ?_⟩⟩
        obtain ⟨l2, w2, r3⟩ := lay_tup w hp q1
        exact q _ _ l2 w2 r3
    · cases e
  · cases e⟩
def gLstOf : GL := fun ds M => match ds with
  | [.tup xs] => some (.lst xs, M)
  | [d] => (match lstOf M d with
    | some xs => some (.lst xs, M)
    | none => none)
  | _ => none
theorem cLstOf (c : Ctx X P w K mg base k) : CalF X K (.type "list") gLstOf := ⟨fun xs H Q => ∃ p ys, xs = [.ref p] ∧ (SqL K H p ys ∨ SqT K H p ys) ∧ ∀ l, H l = none → Q (.ref l) (upd H l (.lst ys)), fun i => by
  have h := call_list_of (X := X i)
  rw [c.K i] at h
  exact h, fun W M vs ds z M' Q w r e q => by
  unfold gLstOf at e
  split at e
  · cases e
    cases r with
    | cons r1 r2 =>
      cases r2
      obtain ⟨a, us, rfl, s1, q1⟩ := tup_rep w r1
      refine ⟨a, us, rfl, .inr s1, fun p hp => ?_⟩
      obtain ⟨l2, w2, r3⟩ := lay_lst w hp q1
      exact q _ _ l2 w2 r3
  · split at e
    · rename_i xs h1
      cases e
      cases r with
      | cons r1 r2 =>
        cases r2
        obtain ⟨a, us, rfl, s1, q1⟩ := lstOf_rep w r1 h1
        refine ⟨a, us, rfl, .inl s1, fun p hp => ?_⟩
        obtain ⟨l2, w2, r3⟩ := lay_lst w hp q1
        exact q _ _ l2 w2 r3
    · cases e
  · cases e⟩
def gStrInt : GL := fun ds M => match ds with
  | [.int i] => if i.natAbs.log2 < 1920 then some (.str (toString i), M) else none
  | _ => none
theorem cStrInt : CalF X K (.type "str") gStrInt := ⟨_, fun i => call_str_int, fun W M vs ds z M' Q w r e q => by
  unfold gStrInt at e
  split at e
  · split at e
    · rename_i hz
      cases e
      cases r with
      | cons r1 r2 =>
        cases r1
        cases r2
        exact ⟨_, rfl, hz, q _ W (.refl W) w (.str _)⟩
    · cases e
  · cases e⟩
def gInt1 : GL := fun ds M => match ds with
  | [.int i] => some (.int i, M)
  | [.bl b] => some (.int (if b then 1 else 0), M)
  | [.str x] => (match PySem.intText? x with
    | some n => if x.length ≤ 640 then some (.int n, M) else none
    | none => none)
  | _ => none
theorem cInt1 : CalF X K (.type "int") gInt1 := ⟨_, fun i => CallR.or call_int1 call_int_str, fun W M vs ds z M' Q w r e q => by
  unfold gInt1 at e
  split at e
  · cases e
    cases r with
    | cons r1 r2 =>
      cases r1
      cases r2
      exact .inl (.inl ⟨_, rfl, q _ W (.refl W) w (.int _)⟩)
  · cases e
    cases r with
    | cons r1 r2 =>
      cases r1
      cases r2
      exact .inl (.inr ⟨_, rfl, q _ W (.refl W) w (.int _)⟩)
  · split at e
    · rename_i n h1
      split at e
      · rename_i hz
        cases e
        cases r with
        | cons r1 r2 =>
          cases r1
          cases r2
          exact .inr ⟨_, n, rfl, h1, hz, q _ W (.refl W) w (.int _)⟩
      · cases e
    · cases e
  · cases e⟩
def bsOf : List D → Option (List Bool)
  | [] => some []
  | .bl i :: r => (match bsOf r with
    | some is => some (i :: is)
    | none => none)
  | _ => none
theorem rep_bs {B : Hp} {ι : List Addr} : ∀ {vs : List V} {ds : List D} {is : List Bool}, RepL K B ι vs ds → bsOf ds = some is → vs = is.map V.bl
  | _, _, _, .nil, e => by
    cases e
    rfl
  | _, _, _, .cons (d := d) r t, e => by
    unfold bsOf at e
    split at e
    · rename_i h1
      cases h1
    · rename_i h1
      split at e
      · rename_i is h2
        cases e
        cases h1
        cases r
        rw [List.map_cons, rep_bs t h2]
      · cases e
    · cases e
def gBs (h : List Bool → Bool) : GL := fun ds M => match ds with
  | [d] => (match lstOf M d with
    | some xs => (match bsOf xs with
      | some bs => some (.bl (h bs), M)
      | none => none)
    | none => none)
  | _ => none
theorem cAll (c : Ctx X P w K mg base k) : CalF X K (.builtin "all") (gBs fun bs => bs.all id) := ⟨rAll K, fun i => by
  have h := cr_all (X := X i) (c.calm i)
  rw [c.K i] at h
  exact h, fun W M vs ds z M' Q w r e q => by
  unfold gBs at e
  split at e
  · split at e
    · rename_i xs h1
      split at e
      · rename_i is h2
        cases e
        cases r with
        | cons r1 r2 =>
          cases r2
          obtain ⟨a, us, rfl, s1, q1⟩ := lstOf_rep w r1 h1
          have := rep_bs q1 h2
          subst this
          exact ⟨a, is, rfl, s1, q _ W (.refl W) w (.bl _)⟩
      · cases e
    · cases e
  · cases e⟩
theorem cAny (c : Ctx X P w K mg base k) : CalF X K (.builtin "any") (gBs fun bs => bs.any id) := ⟨rAny K, fun i => by
  have h := cr_any (X := X i) (c.calm i)
  rw [c.K i] at h
  exact h, fun W M vs ds z M' Q w r e q => by
  unfold gBs at e
  split at e
  · split at e
    · rename_i xs h1
      split at e
      · rename_i is h2
        cases e
        cases r with
        | cons r1 r2 =>
          cases r2
          obtain ⟨a, us, rfl, s1, q1⟩ := lstOf_rep w r1 h1
          have := rep_bs q1 h2
          subst this
          exact ⟨a, is, rfl, s1, q _ W (.refl W) w (.bl _)⟩
      · cases e
    · cases e
  · cases e⟩
end
end Pl

namespace Pl
open PySem L2
section
variable {I : Type} {X : I → Cx} {P : Program} {w : World} {K : PySem.W.Frag} {mg : Str → Option Value} {base : Heap} {k : Nat}

/-! ### isinstance -/
def tyN (M : Mh) : D → Option String
  | .non => some "NoneType"
  | .bl _ => some "bool"
  | .int _ => some "int"
  | .str _ => some "str"
  | .tup _ => some "tuple"
  | .lst _ => some "list"
  | .ref n => (match M[n]? with
    | some (.lst _) => some "list"
    | some (.dic _) => some "dict"
    | _ => none)
  | _ => none
theorem sqT_ty {H : Hp} {a : Addr} {vs : List V} (h : SqT K H a vs) : TyX K H (.ref a) (.type "tuple") := by
  rcases h with h | ⟨o, its, n, h1, h2, _⟩
  · rcases h with h | ⟨o, h⟩
    · exact .base (.tup h)
    · exact .fTuple h
  · exact .kTuple h1 h2
theorem tyN_rep {W : Wd} {M : Mh} {x : V} {d : D} {n : String} (w : W.Ok K M) (r : Rep K W.B W.ι x d) (h : tyN M d = some n) : TyX K W.H x (.type n) := by
  cases r with
  | non => cases h; exact .base .non
  | bl b => cases h; exact .base (.bl b)
  | int b => cases h; exact .base (.int b)
  | str b => cases h; exact .base (.str b)
  | tup h1 _ => cases h; exact sqT_ty (sqT_mono w.sub h1)
  | lst h1 _ => cases h; exact .base (.lst (w.sub _ _ h1))
  | ty _ => cases h
  | ob _ => cases h
  | lsk _ _ => cases h
  | ref h1 =>
    unfold tyN at h
    dsimp only at h
    split at h
    · rename_i hm
      cases h
      obtain ⟨_, _, o, ho, ro⟩ := w.live _ _ _ ⟨h1, hm, fun z => by cases z⟩
      cases ro with
      | lst _ => exact .base (.lst ho)
    · rename_i hm
      cases h
      obtain ⟨_, _, o, ho, ro⟩ := w.live _ _ _ ⟨h1, hm, fun z => by cases z⟩
      cases ro with
      | dic _ => exact .base (.dK ho)
    · cases h
def gIsi : GL := fun ds M => match ds with
  | [d, .ty n] => (match tyN M d with
    | some t => (match kitB t n with
      | some b => some (.bl b, M)
      | none => none)
    | none => none)
  | _ => none
theorem cIsi (c : Ctx X P w K mg base k) : CalF X K (.builtin "isinstance") gIsi := ⟨rIsi K, fun i => by
  have h := call_isi (X := X i)
  rw [c.K i] at h
  exact h, fun W M vs ds z M' Q w r e q => by
  unfold gIsi at e
  split at e
  · split at e
    · rename_i t h1
      split at e
      · rename_i b h2
        cases e
        cases r with
        | cons r1 r2 =>
          cases r2 with
          | cons r2 r3 =>
            cases r2
            cases r3
            exact ⟨_, _, _, _, b, rfl, .ty _, tyN_rep w r1 h1, kit_ty h2, q _ W (.refl W) w (.bl _)⟩
      · cases e
    · cases e
  · cases e⟩

/-! ### in -/
theorem room_in {A : Around} {xs : List PyData} {d : PyData} (h : SeqAt.shaped d = true) (u : A.units + 65 < cLine) : A.units + 1 + min (PyData.depthAll xs) d.depth < cLine := by
  have h1 := SeqAt.depth_of_shaped h
  have h2 := Nat.min_le_right (PyData.depthAll xs) d.depth
  omega
def rInT (K : PySem.W.Frag) : R2 := fun x y H Q => ∃ d ds, Dp K H x d ∧ Dp K H y (.tuple ds) ∧ SeqAt.shaped d = true ∧ SeqAt.shaped (.tuple ds) = true ∧ Q (.bl (ds.any fun z => PyData.eqv z d)) H
def rNotInT (K : PySem.W.Frag) : R2 := fun x y H Q => ∃ d ds, Dp K H x d ∧ Dp K H y (.tuple ds) ∧ SeqAt.shaped d = true ∧ SeqAt.shaped (.tuple ds) = true ∧ Q (.bl (!ds.any fun z => PyData.eqv z d)) H
theorem op_inT {Y : Cx} (room : Y.A.units + 65 < cLine) : OpR Y (compareOp .In) (rInT Y.K) := fun pins s σ H x y v u Q J rx ry ⟨d, ds, hd, he, sd, se, q⟩ => by
  obtain ⟨as, r1⟩ := Dp.reads J d x v hd rx
  obtain ⟨bs, r2⟩ := Dp.reads J (.tuple ds) y u he ry
  exact SeqAt.in_tuple_reads r2 r1 (SeqAt.canLay_of_shaped se) (SeqAt.canLay_of_shaped sd) (room_in sd room) ⟨.bl _, H, J, rfl, q⟩
theorem op_notInT {Y : Cx} (room : Y.A.units + 65 < cLine) : OpR Y (compareOp .NotIn) (rNotInT Y.K) := fun pins s σ H x y v u Q J rx ry ⟨d, ds, hd, he, sd, se, q⟩ => by
  obtain ⟨as, r1⟩ := Dp.reads J d x v hd rx
  obtain ⟨bs, r2⟩ := Dp.reads J (.tuple ds) y u he ry
  exact SeqAt.notIn_tuple_reads r2 r1 (SeqAt.canLay_of_shaped se) (SeqAt.canLay_of_shaped sd) (room_in sd room) ⟨.bl _, H, J, rfl, q⟩
/-- a sign in a text, a thing in a row -/
def gIn (h : Bool → Bool) : O2 := fun a b M => match a, b with
  | .str ⟨⟨[s]⟩⟩, .str z => some (.bl (h (decide (s ∈ z.cps.toList))), M)
  | a, b => (match toP (deref M a), toP (deref M b) with
    | some p, some (.tuple ps) => if SeqAt.shaped p && SeqAt.shaped (.tuple ps) then some (.bl (h (ps.any fun z => PyData.eqv z p)), M) else none
    | some p, some (.list ps) => if SeqAt.shaped p && SeqAt.shaped (.list ps) then some (.bl (h (ps.any fun z => PyData.eqv z p)), M) else none
    | _, _ => none)
theorem room65 {A : Around} {j : Nat} (r : Room j A) : A.units + 65 < cLine := by
  have := r.un
  omega
theorem opIn (c : Ctx X P w K mg base k) : OpF X K (compareOp .In) (gIn fun b => b) := ⟨fun x y H Q => (∃ (c : Nat) (z : Str), x = .str ⟨#[c]⟩ ∧ y = .str z ∧ Q (.bl (decide (c ∈ z.cps.toList))) H) ∨ rInT K x y H Q ∨ rInD K x y H Q, fun i => by
  have h := OpR.or (X := X i) op_in_sign (OpR.or (op_inT (room65 (c.room i))) (op_inD (room65 (c.room i))))
  rw [c.K i] at h
  exact h, fun W M x y a b z M' Q w ra rb e q => by
  unfold gIn at e
  split at e
  · cases ra
    cases rb
    cases e
    exact .inl ⟨_, _, rfl, rfl, q _ W (.refl W) w (.bl _)⟩
  · split at e
    · rename_i h1 h2
      split at e
      · rename_i hs
        cases e
        rw [Bool.and_eq_true] at hs
        exact .inr (.inl ⟨_, _, dp_of w ra h1, dp_of w rb h2, hs.1, hs.2, q _ W (.refl W) w (.bl _)⟩)
      · cases e
    · rename_i h1 h2
      split at e
      · rename_i hs
        cases e
        rw [Bool.and_eq_true] at hs
        exact .inr (.inr ⟨_, _, dp_of w ra h1, dp_of w rb h2, hs.1, hs.2, q _ W (.refl W) w (.bl _)⟩)
      · cases e
    · cases e⟩
theorem opNotIn (c : Ctx X P w K mg base k) : OpF X K (compareOp .NotIn) (gIn fun b => !b) := ⟨fun x y H Q => (∃ (c : Nat) (z : Str), x = .str ⟨#[c]⟩ ∧ y = .str z ∧ Q (.bl (!decide (c ∈ z.cps.toList))) H) ∨ rNotInT K x y H Q ∨ rNotInD K x y H Q, fun i => by
  have h := OpR.or (X := X i) op_notIn_sign (OpR.or (op_notInT (room65 (c.room i))) (op_notInD (room65 (c.room i))))
  rw [c.K i] at h
  exact h, fun W M x y a b z M' Q w ra rb e q => by
  unfold gIn at e
  split at e
  · cases ra
    cases rb
    cases e
    exact .inl ⟨_, _, rfl, rfl, q _ W (.refl W) w (.bl _)⟩
  · split at e
    · rename_i h1 h2
      split at e
      · rename_i hs
        cases e
        rw [Bool.and_eq_true] at hs
        exact .inr (.inl ⟨_, _, dp_of w ra h1, dp_of w rb h2, hs.1, hs.2, q _ W (.refl W) w (.bl _)⟩)
      · cases e
    · rename_i h1 h2
      split at e
      · rename_i hs
        cases e
        rw [Bool.and_eq_true] at hs
        exact .inr (.inr ⟨_, _, dp_of w ra h1, dp_of w rb h2, hs.1, hs.2, q _ W (.refl W) w (.bl _)⟩)
      · cases e
    · cases e⟩

/-! ### a list of the store stands still from here on -/
def eFrz (i : Nat) : EF := fun δ M => match δ[i]? with
  | some (some (.ref n)) => (match M[n]? with
    | some (.lst ds) => some (.lst ds, M.set n .dead)
    | _ => none)
  | _ => none
theorem DE.frz (j : Nat) {x : Str} {pos : Pos} (hN : ∀ i, (X i).N[j]? = some x := by intro _; rfl) (hv : ∀ i, Vis (X i).env.scope x := by intro _; first | exact Or.inl rfl | exact Or.inr (Or.inl rfl) | exact Or.inr (Or.inr rfl)) (hd : (x == ("__debug__" : Str)) = false := by decide)
    (hcd : (x == ("__classdict__" : Str)) = false := by decide) : DE X K (.Name x pos) (eFrz j) := by
  refine ⟨tVar j, fun i => pe_var (hN i) (hv i) hd hcd, fun σ W δ M d M' Q w s e q => ?_⟩
  unfold eFrz at e
  split at e
  · rename_i n h
    split at e
    · rename_i ds hm
      cases e
      obtain ⟨v, h1, h2⟩ := s.at_ _ _ h
      refine ⟨v, h1, ?_⟩
      cases h2 with
      | ref hi =>
        have lv : Live W M n _ (.lst ds) := ⟨hi, hm, fun z => by cases z⟩
        obtain ⟨_, _, o, ho, ro⟩ := w.live _ _ _ lv
        cases ro with
        | lst r1 => exact q _ (W.frz _ _) (Wd.frz_le w lv) (Wd.frz_ok w lv ho) (.lst upd_same (r1.le (Wd.frz_le w lv)))
    · cases e
  · cases e

/-! ### lists that change -/
def eMeth2 (g : D → List D → Mh → Option (D × Mh)) (f : EF) (a : AF) : EF := fun δ M => match f δ M with
  | some (o, M1) => if (lstOf M1 o).isSome then (match a δ M1 with
    | some (ds, M2) => g o ds M2
    | none => none) else none
  | none => none
def gApp : D → List D → Mh → Option (D × Mh) := fun o ds M => match o, ds with
  | .ref n, [d] => (match M[n]? with
    | some (.lst xs) => if xs.length < sizeLine then some (.non, M.set n (.lst (xs ++ [d]))) else none
    | _ => none)
  | _, _ => none
theorem lst_live {W : Wd} {M : Mh} {x : V} {n : Nat} {xs : List D} (w : W.Ok K M) (r : Rep K W.B W.ι x (.ref n)) (hm : M[n]? = some (.lst xs)) : ∃ a vs, x = .ref a ∧ Live W M n a (.lst xs) ∧ W.H a = some (.lst vs) ∧ RepL K W.B W.ι vs xs := by
  cases r with
  | ref hi =>
    have lv : Live W M n _ (.lst xs) := ⟨hi, hm, fun z => by cases z⟩
    obtain ⟨_, _, o, ho, ro⟩ := w.live _ _ _ lv
    cases ro with
    | lst r1 => exact ⟨_, _, rfl, lv, ho, r1⟩
/-- a method of a list -/
structure MetF (X : I → Cx) (K : PySem.W.Frag) (id : String) (g : D → List D → Mh → Option (D × Mh)) : Prop where
  go : ∃ r : V → List V → Hp → VK → Prop, (∀ i, MtR (X i) id r) ∧ ∀ (W : Wd) (M : Mh) (x : V) (o : D) (vs : List V) (ds : List D) (z : D) (M' : Mh) (Q : VK), W.Ok K M → Rep K W.B W.ι x o → RepL K W.B W.ι vs ds → g o ds M = some (z, M') → VR K W z M' Q → r x vs W.H Q
theorem DE.lmeth (c : Ctx X P w K mg base k) {o e : Expr} {es : List Expr} {name : Str} {id : String} {apos cpos : Pos} {g : D → List D → Mh → Option (D × Mh)} {f : EF} {a : AF} (m : MetF X K id g) (slot : Slot "list" name id) (ty : typeOf (.builtin id) = pure (.type "method_descriptor")) (ho : DE X K o f) (ha : DA X K (e :: es) a)
    (hbase : ∀ i, attributeBase o name (X i).env (eval o (X i).env) = eval o (X i).env := by intro _; rfl)
    (hfew : ∀ i, ((backTo cpos (starEach (e :: es) (X i).env)).all (fun x => !x.1) && (backToKw cpos (keywordEach [] (X i).env)).all (fun x => x.1.isSome) && decide ((e :: es).length + ([] : List Keyword).length + (if ([] : List Keyword).isEmpty then 0 else 1) < 30)) = true := by intro _; rfl)
    (hline : (apos.endLine == cpos.line) = true := by rfl) (hs : ∀ i, starEach (e :: es) (X i).env = (false, eval e (X i).env) :: starEach es (X i).env := by intro _; rfl) (hpl : ∀ i, (backTo cpos (starEach es (X i).env)).any (·.1) = false := by intro _; rfl) :
    DE X K (.Call (.Attribute o name apos) (e :: es) [] cpos) (eMeth2 g f a) := by
  obtain ⟨t, pa, r⟩ := ho.go
  obtain ⟨ta, paa, ra⟩ := ha.go
  obtain ⟨rr, hm, hr⟩ := m.go
  refine ⟨tBM K "list" rr t ta, fun i => ?_, fun σ W δ M d M' Q w s ev q => ?_⟩
  · have h := pe_bm (X := X i) PySem.F.plainAttrs_list slot ty (hm i) (pa i) (paa i) (hbase i) (hfew i) hline (hs i) (hpl i)
    rw [c.K i] at h
    exact h
  · unfold eMeth2 at ev
    split at ev
    · rename_i od M1 h1
      split at ev
      · rename_i hso
        split at ev
        · rename_i ds M2 h2
          obtain ⟨xs, hxs⟩ := Option.isSome_iff_exists.mp hso
          refine r σ W δ M _ _ _ w s h1 fun v W1 l1 w1 r1 => ⟨?_, ?_⟩
          · obtain ⟨l, vs, rfl, s1, _⟩ := lstOf_rep w1 r1 hxs
            exact .inl ⟨rfl, vs, s1⟩
          · exact ra σ W1 δ M1 _ _ _ w1 (s.le l1) h2 fun vs W2 l2 w2 r2 => hr W2 M2 v od vs ds d M' Q w2 (r1.le l2) r2 ev (q.le (l1.trans l2))
        · cases ev
      · cases ev
    · cases ev
theorem mApp : MetF X K "list.append" gApp := ⟨_, fun i => mt_append, fun W M x o vs ds z M' Q w rx rv ev q => by
  unfold gApp at ev
  split at ev
  · split at ev
    · rename_i xs hm
      split at ev
      · rename_i hl
        cases ev
        obtain ⟨p, us, rfl, lv, hp, ru⟩ := lst_live w rx hm
        cases rv with
        | cons ry r3 =>
          cases r3
          refine ⟨p, us, _, rfl, rfl, hp, by rw [ru.len]; exact hl, ?_⟩
          exact q .non (W.put p _) Wd.put_le (Wd.put_ok w lv (.lst (ru.append (.cons ry .nil)))) .non
      · cases ev
    · cases ev
  · cases ev⟩
def gIns : D → List D → Mh → Option (D × Mh) := fun o ds M => match o, ds with
  | .ref n, [.int i, d] => (match M[n]? with
    | some (.lst xs) => if xs.length < sizeLine ∧ 0 ≤ i ∧ i < 2 ^ 63 then some (.non, M.set n (.lst (xs.take i.toNat ++ [d] ++ xs.drop i.toNat))) else none
    | _ => none)
  | _, _ => none
theorem mIns : MetF X K "list.insert" gIns := ⟨_, fun i => mt_insert, fun W M x o vs ds z M' Q w rx rv ev q => by
  unfold gIns at ev
  split at ev
  · split at ev
    · rename_i xs hm
      split at ev
      · rename_i hl
        cases ev
        obtain ⟨p, us, rfl, lv, hp, ru⟩ := lst_live w rx hm
        cases rv with
        | cons ri rv =>
          cases ri
          cases rv with
          | cons ry r3 =>
            cases r3
            refine ⟨p, us, _, _, rfl, rfl, hp, by rw [ru.len]; exact hl.1, hl.2.1, hl.2.2, ?_⟩
            exact q .non (W.put p _) Wd.put_le (Wd.put_ok w lv (.lst (((ru.take _).append (.cons ry .nil)).append (ru.drop _)))) .non
      · cases ev
    · cases ev
  · cases ev⟩

/-! ### methods of texts -/
def eS0 (g : Str → Mh → Option (D × Mh)) (f : EF) : EF := fun δ M => match f δ M with
  | some (.str x, M1) => g x M1
  | _ => none
def eS1 (g : Str → D → Mh → Option (D × Mh)) (f h : EF) : EF := fun δ M => match f δ M with
  | some (.str x, M1) => (match h δ M1 with
    | some (d, M2) => g x d M2
    | none => none)
  | _ => none
structure SmF (X : I → Cx) (K : PySem.W.Frag) (id : String) (g : Str → D → Mh → Option (D × Mh)) : Prop where
  go : ∃ r : V → List V → Hp → VK → Prop, (∀ i, MtR (X i) id r) ∧ ∀ (W : Wd) (M : Mh) (x : Str) (v : V) (d : D) (z : D) (M' : Mh) (Q : VK), W.Ok K M → Rep K W.B W.ι v d → g x d M = some (z, M') → VR K W z M' Q → r (.str x) [v] W.H Q
theorem DE.smeth {o e : Expr} {name : Str} {id : String} {apos pos : Pos} {g : Str → D → Mh → Option (D × Mh)} {f h : EF} (m : SmF X K id g) (slot : Slot "str" name id) (ty : typeOf (.builtin id) = pure (.type "method_descriptor")) (ho : DE X K o f) (he : DE X K e h)
    (hs : ∀ i, starEach [e] (X i).env = [(false, eval e (X i).env)] := by intro _; rfl) (hbase : ∀ i, attributeBase o name (X i).env (eval o (X i).env) = eval o (X i).env := by intro _; rfl) (hline : (apos.endLine == pos.line) = true := by rfl) :
    DE X K (.Call (.Attribute o name apos) [e] [] pos) (eS1 g f h) := by
  obtain ⟨t, pa, r⟩ := ho.go
  obtain ⟨te, pe, re⟩ := he.go
  obtain ⟨rr, hm, hr⟩ := m.go
  refine ⟨tM1 rr t te, fun i => pe_m1 slot ty (hm i) (pa i) (pe i) (hs i) (hbase i) hline, fun σ W δ M d M' Q w s ev q => ?_⟩
  unfold eS1 at ev
  split at ev
  · rename_i x M1 h1
    split at ev
    · rename_i d2 M2 h2
      refine r σ W δ M _ _ _ w s h1 fun v W1 l1 w1 r1 => ?_
      cases r1
      exact ⟨⟨x, rfl⟩, re σ W1 δ M1 _ _ _ w1 (s.le l1) h2 fun u W2 l2 w2 r2 => hr W2 M2 x u d2 d M' Q w2 r2 ev (q.le (l1.trans l2))⟩
    · cases ev
  · cases ev
structure SmF0 (X : I → Cx) (K : PySem.W.Frag) (id : String) (g : Str → Mh → Option (D × Mh)) : Prop where
  go : ∃ r : V → List V → Hp → VK → Prop, (∀ i, MtR (X i) id r) ∧ ∀ (W : Wd) (M : Mh) (x : Str) (z : D) (M' : Mh) (Q : VK), W.Ok K M → g x M = some (z, M') → VR K W z M' Q → r (.str x) [] W.H Q
theorem DE.smeth0 {o : Expr} {name : Str} {id : String} {apos pos : Pos} {g : Str → Mh → Option (D × Mh)} {f : EF} (m : SmF0 X K id g) (slot : Slot "str" name id) (ty : typeOf (.builtin id) = pure (.type "method_descriptor")) (ho : DE X K o f)
    (hbase : ∀ i, attributeBase o name (X i).env (eval o (X i).env) = eval o (X i).env := by intro _; rfl) (hline : (apos.endLine == pos.line) = true := by rfl) :
    DE X K (.Call (.Attribute o name apos) [] [] pos) (eS0 g f) := by
  obtain ⟨t, pa, r⟩ := ho.go
  obtain ⟨rr, hm, hr⟩ := m.go
  refine ⟨tM0 rr t, fun i => pe_m0 slot ty (hm i) (pa i) (hbase i) hline, fun σ W δ M d M' Q w s ev q => ?_⟩
  unfold eS0 at ev
  split at ev
  · rename_i x M1 h1
    refine r σ W δ M _ _ _ w s h1 fun v W1 l1 w1 r1 => ?_
    cases r1
    exact ⟨⟨x, rfl⟩, hr W1 M1 x d M' Q w1 ev (q.le l1)⟩
  · cases ev
def strsOf : List D → Option (List Str)
  | [] => some []
  | .str i :: r => (match strsOf r with
    | some is => some (i :: is)
    | none => none)
  | _ => none
theorem rep_strs {B : Hp} {ι : List Addr} : ∀ {vs : List V} {ds : List D} {is : List Str}, RepL K B ι vs ds → strsOf ds = some is → vs = is.map V.str
  | _, _, _, .nil, e => by
    cases e
    rfl
  | _, _, _, .cons (d := d) r t, e => by
    unfold strsOf at e
    split at e
    · rename_i h1
      cases h1
    · rename_i h1
      split at e
      · rename_i is h2
        cases e
        cases h1
        cases r
        rw [List.map_cons, rep_strs t h2]
      · cases e
    · cases e
theorem strs_rep {B : Hp} {ι : List Addr} : ∀ ys : List Str, RepL K B ι (ys.map V.str) (ys.map D.str)
  | [] => .nil
  | y :: ys => .cons (.str y) (strs_rep ys)
def gJoin : Str → D → Mh → Option (D × Mh) := fun a d M => match (match d with
    | .tup xs => some xs
    | d => lstOf M d) with
  | some xs => (match strsOf xs with
    | some ys => if (ys.map (·.length)).sum + ys.length * a.length ≤ 16777216 then some (.str (Txt.join a ys), M) else none
    | none => none)
  | none => none
theorem sJoin (c : Ctx X P w K mg base k) : SmF X K "str.join" gJoin := ⟨fun x xs H Q => ∃ a p, ∃ ys : List Str, x = .str a ∧ xs = [.ref p] ∧ (SqL K H p (ys.map V.str) ∨ SqT K H p (ys.map V.str)) ∧ (ys.map (·.length)).sum + ys.length * a.length ≤ 16777216 ∧ Q (.str (Txt.join a ys)) H, fun i => by
  have h := mt_join (X := X i)
  rw [c.K i] at h
  exact h, fun W M x v d z M' Q w rv ev q => by
  unfold gJoin at ev
  split at ev
  · rename_i xs h1
    split at ev
    · rename_i ys h2
      split at ev
      · rename_i hz
        cases ev
        split at h1
        · cases h1
          obtain ⟨p, us, rfl, s1, q1⟩ := tup_rep w rv
          have := rep_strs q1 h2
          subst this
          exact ⟨x, p, ys, rfl, rfl, .inr s1, hz, q _ W (.refl W) w (.str _)⟩
        · obtain ⟨p, us, rfl, s1, q1⟩ := lstOf_rep w rv h1
          have := rep_strs q1 h2
          subst this
          exact ⟨x, p, ys, rfl, rfl, .inl s1, hz, q _ W (.refl W) w (.str _)⟩
      · cases ev
    · cases ev
  · cases ev⟩
def gSplit : Str → D → Mh → Option (D × Mh) := fun a d M => match d with
  | .str b => if (b.length == 0) = false ∧ a.length + 2 ≤ sizeLine then some (.lst ((Txt.split a b).map D.str), M) else none
  | _ => none
theorem sSplit : SmF X K "str.split" gSplit := ⟨_, fun i => mt_split, fun W M x v d z M' Q w rv ev q => by
  unfold gSplit at ev
  split at ev
  · split at ev
    · rename_i hz
      cases ev
      cases rv
      refine ⟨x, _, rfl, rfl, hz.1, hz.2, fun p hp => ?_⟩
      obtain ⟨l2, w2, r3⟩ := lay_lst w hp (strs_rep (Txt.split x _))
      exact q _ _ l2 w2 r3
    · cases ev
  · cases ev⟩
def gPart : Str → D → Mh → Option (D × Mh) := fun a d M => match d with
  | .str b => if (b.length == 0) = false ∧ a.length ≤ sizeLine then some (.tup [.str (Txt.partition a b).1, .str (Txt.partition a b).2.1, .str (Txt.partition a b).2.2], M) else none
  | _ => none
theorem sPart : SmF X K "str.partition" gPart := ⟨_, fun i => mt_partition, fun W M x v d z M' Q w rv ev q => by
  unfold gPart at ev
  split at ev
  · split at ev
    · rename_i hz
      cases ev
      cases rv
      refine ⟨x, _, rfl, rfl, hz.1, hz.2, fun p hp => ?_⟩
      obtain ⟨l2, w2, r3⟩ := lay_tup w hp (.cons (.str _) (.cons (.str _) (.cons (.str _) .nil)))
      exact q _ _ l2 w2 r3
    · cases ev
  · cases ev⟩
def gUpper : Str → Mh → Option (D × Mh) := fun a M => if a.length ≤ 5592405 then some (.str (Txt.upper a), M) else none
theorem sUpper : SmF0 X K "str.upper" gUpper := ⟨_, fun i => mt_upper, fun W M x z M' Q w ev q => by
  unfold gUpper at ev
  split at ev
  · rename_i hz
    cases ev
    exact ⟨x, rfl, rfl, hz, q _ W (.refl W) w (.str _)⟩
  · cases ev⟩

/-! ### f'..' -/
def eFmt (f : EF) : EF := fun δ M => match f δ M with
  | some (.str x, M1) => if x.length ≤ sizeLine then some (.str x, M1) else none
  | some (.int i, M1) => if i.natAbs.log2 < 1920 then some (.str (toString i), M1) else none
  | _ => none
theorem DE.fmt {e : Expr} {pos : Pos} {f : EF} (h : DE X K e f) : DE X K (.FormattedValue e (-1) none pos) (eFmt f) := by
  obtain ⟨t, p, r⟩ := h.go
  refine ⟨tFmt t, fun i => pe_fmt (p i), fun σ W δ M d M' Q w s ev q => ?_⟩
  unfold eFmt at ev
  split at ev
  · rename_i x M1 h1
    split at ev
    · rename_i hz
      cases ev
      refine r σ W δ M _ _ _ w s h1 fun v W1 l1 w1 r1 => ?_
      cases r1
      exact .inl ⟨x, rfl, hz, q _ W1 l1 w1 (.str _)⟩
    · cases ev
  · rename_i x M1 h1
    split at ev
    · rename_i hz
      cases ev
      refine r σ W δ M _ _ _ w s h1 fun v W1 l1 w1 r1 => ?_
      cases r1
      exact .inr ⟨x, rfl, hz, q _ W1 l1 w1 (.str _)⟩
    · cases ev
  · cases ev
structure DJ (X : I → Cx) (K : PySem.W.Frag) (es : List Expr) (f : Str → Env → Mh → Option (D × Mh)) : Prop where
  go : ∃ ts : List TE, (∀ i, PJ (X i) es ts) ∧ ∀ (acc : Str) (σ : St) (W : Wd) (δ : Env) (M : Mh) (d : D) (M' : Mh) (Q : VK), W.Ok K M → Slots K W σ δ → f acc δ M = some (d, M') → VR K W d M' Q → tJs ts acc σ W.H (fun out H1 => Q (.str out) H1)
def jNil : Str → Env → Mh → Option (D × Mh) := fun acc _ M => some (.str acc, M)
def jCons (f : EF) (g : Str → Env → Mh → Option (D × Mh)) : Str → Env → Mh → Option (D × Mh) := fun acc δ M => match f δ M with
  | some (.str x, M1) => if (acc ++ x).length ≤ sizeLine then g (acc ++ x) δ M1 else none
  | _ => none
theorem DJ.nil : DJ X K [] jNil := ⟨[], fun i => .nil, fun acc σ W δ M d M' Q w s ev q => by
  cases ev
  exact q _ W (.refl W) w (.str _)⟩
theorem DJ.cons {e : Expr} {es : List Expr} {f : EF} {g : Str → Env → Mh → Option (D × Mh)} (a : DE X K e f) (b : DJ X K es g) : DJ X K (e :: es) (jCons f g) := by
  obtain ⟨t, p, r⟩ := a.go
  obtain ⟨ts, ps, rs⟩ := b.go
  refine ⟨t :: ts, fun i => .cons (p i) (ps i), fun acc σ W δ M d M' Q w s ev q => ?_⟩
  unfold jCons at ev
  split at ev
  · rename_i x M1 h1
    split at ev
    · rename_i hz
      refine r σ W δ M _ _ _ w s h1 fun v W1 l1 w1 r1 => ?_
      cases r1
      exact ⟨x, rfl, hz, rs _ σ W1 δ M1 d M' Q w1 (s.le l1) ev (q.le l1)⟩
    · cases ev
  · cases ev
theorem DE.joined {v1 v2 : Expr} {rest : List Expr} {pos : Pos} {f : Str → Env → Mh → Option (D × Mh)} (h : DJ X K (v1 :: v2 :: rest) f) : DE X K (.JoinedStr (v1 :: v2 :: rest) pos) (f Str.empty) := by
  obtain ⟨ts, ps, rs⟩ := h.go
  exact ⟨_, fun i => pe_joined (ps i), fun σ W δ M d M' Q w s ev q => rs Str.empty σ W δ M d M' Q w s ev q⟩

/-! ### texts, enumerate, zip walked -/
def aSigns (f : EF) : AF := fun δ M => match f δ M with
  | some (.str x, M1) => some (x.cps.toList.map fun c => .str ⟨#[c]⟩, M1)
  | _ => none
theorem DI.str {tg e : Expr} {f : EF} (h : DE X K e f) : DI X K tg e (aSigns f) := by
  obtain ⟨t, p, r⟩ := h.go
  refine ⟨iStr t, fun i => pi_str (p i), fun σ W δ M ds M' R w s ev q => ?_⟩
  unfold aSigns at ev
  split at ev
  · rename_i x M1 h1
    cases ev
    refine r σ W δ M _ _ _ w s h1 fun v W1 l1 w1 r1 => ?_
    cases r1
    refine ⟨x, rfl, q _ W1 l1 w1 fun i W2 M2 l2 w2 => ⟨fun e => ?_, fun d e => ?_⟩⟩
    · have := List.getElem?_eq_none_iff.mp e
      rw [List.length_map, Array.length_toList] at this
      exact this
    · rw [List.getElem?_map] at e
      cases hc : x.cps.toList[i]? with
      | none =>
        rw [hc] at e
        cases e
      | some c =>
        rw [hc] at e
        cases e
        have hi : i < x.cps.size := by
          have := (List.getElem?_eq_some_iff.mp hc).1
          simpa using this
        refine ⟨hi, fun y H' ⟨e1, c', e2, e3⟩ => ⟨W2, e1.symm, .refl W2, w2, ?_⟩⟩
        have e4 : some c' = some c := by rw [← e2, ← hc]; simp
        cases e4
        subst e3
        exact .str _
  · cases ev
theorem wk_pair {J : It} {W0 : Wd} {ds es : List D} {n : Nat} (hs : ∀ (W : Wd) (M : Mh), W0.Lo W → W.Ok K M → (∀ i, n ≤ i → J.stop i W.H) ∧ ∀ i a b, i < n → ds[i]? = some a → es[i]? = some b → J.go i W.H ∧ ∀ x H', J.yld i W.H x H' → ∃ T x1 x2, x = .ref T ∧ W.H T = none ∧ H' = upd W.H T (.tup [x1, x2]) ∧ Rep K W.B W.ι x1 a ∧ Rep K W.B W.ι x2 b)
    (h1 : n ≤ ds.length) (h2 : n ≤ es.length) (hn : n = min ds.length es.length) : Wk K J W0 ((ds.zip es).map fun p => .tup [p.1, p.2]) := fun i W M l w => by
  obtain ⟨hst, hgo⟩ := hs W M l w
  refine ⟨fun e => ?_, fun d e => ?_⟩
  · have := List.getElem?_eq_none_iff.mp e
    rw [List.length_map, List.length_zip] at this
    exact hst i (by omega)
  · rw [List.getElem?_map] at e
    cases hz : (ds.zip es)[i]? with
    | none =>
      rw [hz] at e
      cases e
    | some p =>
      rw [hz] at e
      cases e
      obtain ⟨a1, a2⟩ := List.getElem?_zip_eq_some.mp hz
      have hi : i < n := by
        have := (List.getElem?_eq_some_iff.mp hz).1
        rw [List.length_zip] at this
        omega
      obtain ⟨g1, g2⟩ := hgo i _ _ hi a1 a2
      refine ⟨g1, fun x H' y => ?_⟩
      obtain ⟨T, x1, x2, rfl, hT, rfl, r1, r2⟩ := g2 x H' y
      obtain ⟨l2, w2, r3⟩ := lay_tup w hT (.cons r1 (.cons r2 .nil))
      exact ⟨_, rfl, l2, w2, r3⟩
def aEnum (a : AF) : AF := fun δ M => match a δ M with
  | some ([.lst xs], M1) => some ((((List.range xs.length).map fun (i : Nat) => D.int i).zip xs).map fun p => .tup [p.1, p.2], M1)
  | some ([.lsk xs], M1) => some ((((List.range xs.length).map fun (i : Nat) => D.int i).zip xs).map fun p => .tup [p.1, p.2], M1)
  | _ => none
theorem wk_enum {W0 : Wd} {a : Addr} {vs : List V} {ds : List D} (h : SqL K W0.B a vs) (r : RepL K W0.B W0.ι vs ds) : Wk K (Ite K a) W0 ((((List.range ds.length).map fun (i : Nat) => D.int i).zip ds).map fun p => .tup [p.1, p.2]) := by
  refine wk_pair (n := ds.length) (fun W M l w => ⟨fun i hi => ?_, fun i d1 d2 hi e1 e2 => ?_⟩) (by simp) (Nat.le_refl _) (by simp)
  · exact ⟨vs, sqL_mono w.sub (sqL_mono l.same h), by rw [r.len]; exact hi⟩
  · have hs : SqL K W.H a vs := sqL_mono w.sub (sqL_mono l.same h)
    obtain ⟨v, h1, h2⟩ := (r.mono l.same l.ix).get e2
    refine ⟨⟨vs, v, hs, h1⟩, fun x H' ⟨T, x2, a1, a2, a3, a4⟩ => ⟨T, _, x2, a1, a2, a3, ?_, ?_⟩⟩
    · rw [List.getElem?_map, List.getElem?_range hi] at e1
      cases e1
      exact .int _
    · have e3 := (a4 vs hs).symm.trans h1
      cases e3
      exact h2
theorem DI.enum (c : Ctx X P w K mg base k) (hm : mg "enumerate" = none) {e : Expr} {p pos tpos : Pos} {elts : List Expr} {kk : Nat} {a : AF} (h : DA X K [e] a) (hg : ∀ i, Gl (X i) "enumerate" := by intro _; rfl) (hs : ∀ i, starEach [e] (X i).env = [(false, eval e (X i).env)] := by intro _; rfl) :
    DI X K (.Tuple elts kk tpos) (.Call (.Name "enumerate" p) [e] [] pos) (aEnum a) := by
  obtain ⟨t, pa, r⟩ := h.go
  refine ⟨iEnum K t, fun i => ?_, fun σ W δ M ds M' R w s ev q => ?_⟩
  · have h := pi_enum (X := X i) (hg i) (by rw [c.mg i]; exact hm) (pa i) (hs i) (p := p) (pos := pos) (tpos := tpos) (elts := elts) (kk := kk)
    rw [c.K i] at h
    exact h
  · unfold aEnum at ev
    split at ev
    · rename_i xs M1 h1
      cases ev
      refine r σ W δ M _ _ _ w s h1 fun vs W1 l1 w1 r1 => ?_
      cases r1 with
      | cons r1 r2 =>
        cases r2
        cases r1 with
        | lst h1 r1 => exact ⟨_, _, rfl, .inl (.inl (w1.sub _ _ h1)), q _ W1 l1 w1 (wk_enum (.inl (.inl h1)) r1)⟩
    · rename_i xs M1 h1
      cases ev
      refine r σ W δ M _ _ _ w s h1 fun vs W1 l1 w1 r1 => ?_
      cases r1 with
      | cons r1 r2 =>
        cases r2
        cases r1 with
        | lsk h1 r1 => exact ⟨_, _, rfl, sqL_mono w1.sub h1, q _ W1 l1 w1 (wk_enum h1 r1)⟩
    · cases ev
def aZip (a : AF) : AF := fun δ M => match a δ M with
  | some ([.lst xs, .lst ys], M1) => some ((xs.zip ys).map fun p => .tup [p.1, p.2], M1)
  | some ([.tup xs, .tup ys], M1) => some ((xs.zip ys).map fun p => .tup [p.1, p.2], M1)
  | _ => none
theorem wk_zip {W0 : Wd} {a b : Addr} {vs us : List V} {ds es : List D} (h : SqL K W0.B a vs) (r : RepL K W0.B W0.ι vs ds) (h' : SqL K W0.B b us) (r' : RepL K W0.B W0.ι us es) : Wk K (Itz K a b) W0 ((ds.zip es).map fun p => .tup [p.1, p.2]) := by
  refine wk_pair (n := min ds.length es.length) (fun W M l w => ⟨fun i hi => ?_, fun i d1 d2 hi e1 e2 => ?_⟩) (Nat.min_le_left _ _) (Nat.min_le_right _ _) rfl
  · exact ⟨vs, us, sqL_mono w.sub (sqL_mono l.same h), sqL_mono w.sub (sqL_mono l.same h'), by rw [r.len, r'.len]; omega⟩
  · have hs : SqL K W.H a vs := sqL_mono w.sub (sqL_mono l.same h)
    have hs' : SqL K W.H b us := sqL_mono w.sub (sqL_mono l.same h')
    obtain ⟨v, h1, h2⟩ := (r.mono l.same l.ix).get e1
    obtain ⟨u, h3, h4⟩ := (r'.mono l.same l.ix).get e2
    refine ⟨⟨vs, us, v, u, hs, hs', h1, h3⟩, fun x H' ⟨T, x1, x2, a1, a2, a3, a4, a5⟩ => ⟨T, x1, x2, a1, a2, a3, ?_, ?_⟩⟩
    · have e3 := (a4 vs hs).symm.trans h1
      cases e3
      exact h2
    · have e3 := (a5 us hs').symm.trans h3
      cases e3
      exact h4
theorem wk_zipT {W0 : Wd} {a b : Addr} {vs us : List V} {ds es : List D} (h : SqT K W0.B a vs) (r : RepL K W0.B W0.ι vs ds) (h' : SqT K W0.B b us) (r' : RepL K W0.B W0.ι us es) : Wk K (RZ.ItzT K a b) W0 ((ds.zip es).map fun p => .tup [p.1, p.2]) := by
  refine wk_pair (n := min ds.length es.length) (fun W M l w => ⟨fun i hi => ?_, fun i d1 d2 hi e1 e2 => ?_⟩) (Nat.min_le_left _ _) (Nat.min_le_right _ _) rfl
  · exact ⟨vs, us, sqT_mono w.sub (sqT_mono l.same h), sqT_mono w.sub (sqT_mono l.same h'), by rw [r.len, r'.len]; omega⟩
  · have hs : SqT K W.H a vs := sqT_mono w.sub (sqT_mono l.same h)
    have hs' : SqT K W.H b us := sqT_mono w.sub (sqT_mono l.same h')
    obtain ⟨v, h1, h2⟩ := (r.mono l.same l.ix).get e1
    obtain ⟨u, h3, h4⟩ := (r'.mono l.same l.ix).get e2
    refine ⟨⟨vs, us, v, u, hs, hs', h1, h3⟩, fun x H' ⟨T, x1, x2, a1, a2, a3, a4, a5⟩ => ⟨T, x1, x2, a1, a2, a3, ?_, ?_⟩⟩
    · have e3 := (a4 vs hs).symm.trans h1
      cases e3
      exact h2
    · have e3 := (a5 us hs').symm.trans h3
      cases e3
      exact h4
theorem DI.zip (c : Ctx X P w K mg base k) (hm : mg "zip" = none) {e e2 : Expr} {p pos tpos : Pos} {elts : List Expr} {kk : Nat} {a : AF} (h : DA X K [e, e2] a) (hg : ∀ i, Gl (X i) "zip" := by intro _; rfl) (hs : ∀ i, starEach [e, e2] (X i).env = (false, eval e (X i).env) :: starEach [e2] (X i).env := by intro _; rfl) (hpl : ∀ i, (backTo pos (starEach [e2] (X i).env)).any (·.1) = false := by intro _; rfl) :
    DI X K (.Tuple elts kk tpos) (.Call (.Name "zip" p) [e, e2] [] pos) (aZip a) := by
  obtain ⟨t, pa, r⟩ := h.go
  refine ⟨RZ.iZipA K t, fun i => ?_, fun σ W δ M ds M' R w s ev q => ?_⟩
  · have h := RZ.pi_zipA (X := X i) (hg i) (by rw [c.mg i]; exact hm) (pa i) (hs i) (hpl i) (p := p) (pos := pos) (tpos := tpos) (elts := elts) (kk := kk)
    rw [c.K i] at h
    exact h
  · unfold aZip at ev
    split at ev
    · rename_i xs ys M1 h1
      cases ev
      refine r σ W δ M _ _ _ w s h1 fun vs W1 l1 w1 r1 => ?_
      cases r1 with
      | cons r1 r2 =>
        cases r2 with
        | cons r2 r3 =>
          cases r3
          cases r1 with
          | lst h1 r1 =>
            cases r2 with
            | lst h2 r2 => exact ⟨_, _, _, _, rfl, .inl ⟨.inl (.inl (w1.sub _ _ h1)), .inl (.inl (w1.sub _ _ h2)), q _ W1 l1 w1 (wk_zip (.inl (.inl h1)) r1 (.inl (.inl h2)) r2)⟩⟩
    · rename_i xs ys M1 h1
      cases ev
      refine r σ W δ M _ _ _ w s h1 fun vs W1 l1 w1 r1 => ?_
      cases r1 with
      | cons r1 r2 =>
        cases r2 with
        | cons r2 r3 =>
          cases r3
          cases r1 with
          | tup h1 r1 =>
            cases r2 with
            | tup h2 r2 => exact ⟨_, _, _, _, rfl, .inr ⟨sqT_mono w1.sub h1, sqT_mono w1.sub h2, q _ W1 l1 w1 (wk_zipT h1 r1 h2 r2)⟩⟩
    · cases ev
end
end Pl

namespace Pl
open PySem L2
section
variable {I : Type} {X : I → Cx} {P : Program} {w : World} {K : PySem.W.Frag} {mg : Str → Option Value} {base : Heap} {k : Nat}
/-- what is never reached -/
def sNever : SF := fun _ _ => none
theorem DS.never {s : Stmt} : DS X K s sNever := ⟨tNever, fun i => ps_never, fun σ W δ M o E w s e q => by cases e⟩
theorem DB.never {s : List Stmt} : DB X K s sNever := ⟨tNever, fun i => pss_never, fun σ W δ M o E w s e q => by cases e⟩
/-- a text alone -/
theorem DS.doc {x : Str} {j pos pos'} : DS X K (.Expr (.Constant (.str x) j pos) pos') sNil := ⟨tNext, fun i => ps_doc, fun σ W δ M o E w s e q => by
  cases e
  exact q σ W (.refl W) w s⟩

/-! ### dicts -/
def dget (kvs : List (Key × D)) (q : Key) : Option D := (kvs.find? fun kv => decide (kv.1 = q)).map (·.2)
def dput (kvs : List (Key × D)) (q : Key) (v : D) : List (Key × D) :=
  if (kvs.any fun kv => decide (kv.1 = q)) = true then kvs.map (fun kv => if kv.1 = q then (kv.1, v) else kv) else kvs ++ [(q, v)]
def dmerge (kvs : List (Key × D)) : List (Key × D) := kvs.foldl (fun acc kv => dput acc kv.1 kv.2) []
section
variable {B : Hp} {ι : List Addr}
theorem RepK.len : ∀ {vs : List (Key × V)} {ds : List (Key × D)}, RepK K B ι vs ds → vs.length = ds.length
  | _, _, .nil => rfl
  | _, _, .cons _ r => congrArg (· + 1) r.len
theorem RepK.any (q : Key) : ∀ {vs : List (Key × V)} {ds : List (Key × D)}, RepK K B ι vs ds → (vs.any fun kv => decide (kv.1 = q)) = (ds.any fun kv => decide (kv.1 = q))
  | _, _, .nil => rfl
  | _, _, .cons _ r => by
    rw [List.any_cons, List.any_cons, r.any]
theorem RepK.get (q : Key) : ∀ {vs : List (Key × V)} {ds : List (Key × D)}, RepK K B ι vs ds → (dget ds q = none → valV vs q = none) ∧ ∀ d, dget ds q = some d → ∃ v, valV vs q = some v ∧ Rep K B ι v d
  | _, _, .nil => ⟨fun _ => rfl, fun d e => by cases e⟩
  | _, _, .cons (k := k0) (v := v0) (d := d0) r0 r => by
    obtain ⟨h1, h2⟩ := r.get q
    by_cases e : k0 = q
    · refine ⟨fun h => ?_, fun d h => ?_⟩
      · simp [dget, List.find?_cons, e] at h
      · simp [dget, List.find?_cons, e] at h
        subst h
        exact ⟨v0, valV_pos e, r0⟩
    · have e1 : ∀ rest : List (Key × D), dget ((k0, d0) :: rest) q = dget rest q := fun rest => by simp [dget, List.find?_cons, e]
      refine ⟨fun h => ?_, fun d h => ?_⟩
      · rw [e1] at h
        rw [valV_neg e]
        exact h1 h
      · rw [e1] at h
        rw [valV_neg e]
        exact h2 d h
theorem RepK.append : ∀ {vs us : List (Key × V)} {ds es : List (Key × D)}, RepK K B ι vs ds → RepK K B ι us es → RepK K B ι (vs ++ us) (ds ++ es)
  | _, _, _, _, .nil, s => s
  | _, _, _, _, .cons r t, s => .cons r (t.append s)
theorem RepK.map_put (q : Key) {v : V} {d : D} (rv : Rep K B ι v d) : ∀ {vs : List (Key × V)} {ds : List (Key × D)}, RepK K B ι vs ds → RepK K B ι (vs.map fun kv => if kv.1 = q then (kv.1, v) else kv) (ds.map fun kv => if kv.1 = q then (kv.1, d) else kv)
  | _, _, .nil => .nil
  | _, _, .cons (k := k0) r0 r => by
    have ih := RepK.map_put q rv r
    rw [List.map_cons, List.map_cons]
    by_cases e : k0 = q
    · simp only [e, if_true]
      exact .cons rv ih
    · simp only [e, if_false]
      exact .cons r0 ih
theorem RepK.put (q : Key) {v : V} {d : D} (rv : Rep K B ι v d) {vs : List (Key × V)} {ds : List (Key × D)} (r : RepK K B ι vs ds) : RepK K B ι (putK vs q v) (dput ds q d) := by
  unfold putK dput
  rw [r.any q]
  split
  · exact r.map_put q rv
  · exact r.append (.cons rv .nil)
theorem RepK.merge {vs : List (Key × V)} {ds : List (Key × D)} (r : RepK K B ι vs ds) : RepK K B ι (mergeK [] vs) (dmerge ds) := by
  unfold mergeK dmerge
  have h : ∀ {a : List (Key × V)} {b : List (Key × D)}, RepK K B ι a b → RepK K B ι (vs.foldl (fun acc kv => putK acc kv.1 kv.2) a) (ds.foldl (fun acc kv => dput acc kv.1 kv.2) b) := by
    induction r with
    | nil => exact fun h => h
    | @cons k0 v0 d0 vs ds r0 r ih => exact fun h => ih (h.put k0 r0)
  exact h .nil
end
def keyOf : D → Option Key
  | .int i => some (.inl i)
  | .str x => some (.inr x)
  | _ => none
theorem keyOf_rep {B : Hp} {ι : List Addr} {v : V} {d : D} {q : Key} (r : Rep K B ι v d) (h : keyOf d = some q) : v = kV q := by
  cases r <;> cases h <;> rfl
def dicOf (M : Mh) : D → Option (List (Key × D))
  | .ref n => (match M[n]? with
    | some (.dic kvs) => some kvs
    | _ => none)
  | _ => none
theorem dicOf_rep {W : Wd} {M : Mh} {x : V} {d : D} {kvs : List (Key × D)} (w : W.Ok K M) (r : Rep K W.B W.ι x d) (h : dicOf M d = some kvs) : ∃ a n vs, d = .ref n ∧ x = .ref a ∧ Live W M n a (.dic kvs) ∧ W.H a = some (.dK vs) ∧ RepK K W.B W.ι vs kvs := by
  unfold dicOf at h
  split at h
  · split at h
    · rename_i hm
      cases h
      cases r with
      | ref hi =>
        have lv : Live W M _ _ (.dic kvs) := ⟨hi, hm, fun z => by cases z⟩
        obtain ⟨_, _, o, ho, ro⟩ := w.live _ _ _ lv
        cases ro with
        | dic r1 => exact ⟨_, _, _, rfl, rfl, lv, ho, r1⟩
    · cases h
  · cases h
def gDget : O2 := fun a b M => match dicOf M a, keyOf b with
  | some kvs, some q => (dget kvs q).map fun d => (d, M)
  | _, _ => none
theorem hu1 {A : Around} {j : Nat} (r : Room j A) : A.units + 1 < cLine := by
  have := r.un
  omega
theorem DE.dgt (c : Ctx X P w K mg base k) {a b : Expr} {pos} {f g : EF} (ha : DE X K a f) (hb : DE X K b g) (hs : NoSl b := by exact fun _ _ => rfl) : DE X K (.Subscript a b pos) (eOp gDget f g) := by
  obtain ⟨ta, pa, ra⟩ := ha.go
  obtain ⟨tb, pb, rb⟩ := hb.go
  refine ⟨tDGet ta tb, fun i => pe_dget (hu1 (c.room i)) (pa i) (pb i) hs, fun σ W δ M d M' Q w s e q => ?_⟩
  unfold eOp at e
  split at e
  · rename_i a' M1 h1
    split at e
    · rename_i b' M2 h2
      refine ra σ W δ M a' M1 _ w s h1 fun x W1 l1 w1 r1 => ?_
      refine rb σ W1 δ M1 b' M2 _ w1 (s.le l1) h2 fun y W2 l2 w2 r2 => ?_
      unfold gDget at e
      split at e
      · rename_i kvs q0 h3 h4
        obtain ⟨p, n, vs, _, rfl, lv, hp, rk⟩ := dicOf_rep w2 (r1.le l2) h3
        have ey := keyOf_rep r2 h4
        subst ey
        cases hd : Pl.dget kvs q0 with
        | none =>
          rw [hd] at e
          cases e
        | some d0 =>
          rw [hd] at e
          cases e
          obtain ⟨v, hv, rv⟩ := (rk.get q0).2 _ hd
          exact ⟨p, v, rfl, by rw [← hv]; exact DGet.k hp, q v W2 (l1.trans l2) w2 rv⟩
      · cases e
    · cases e
  · cases e
def gDput (a b v : D) (M : Mh) : Option Mh := match a with
  | .ref n => (match M[n]?, keyOf b with
    | some (.dic kvs), some q => if kvs.length < sizeLine then some (M.set n (.dic (dput kvs q v))) else none
    | _, _ => none)
  | _ => none
def sDput (f g h : EF) : SF := fun δ M => match h δ M with
  | some (v, M1) => (match f δ M1 with
    | some (a, M2) => (match g δ M2 with
      | some (b, M3) => (match gDput a b v M3 with
        | some M4 => some (.nx δ M4)
        | none => none)
      | none => none)
    | none => none)
  | none => none
theorem DS.dput (c : Ctx X P w K mg base k) {o i v : Expr} {pos pos'} {f g h : EF} (ho : DE X K o f) (hi : DE X K i g) (hv : DE X K v h) (hs : ∀ j, swapsWith v (some (.Subscript o i pos')) pos.line (X j).env = pure false := by intro _; rfl) :
    DS X K (.Assign [.Subscript o i pos'] v pos) (sDput f g h) := by
  obtain ⟨to, po, ro⟩ := ho.go
  obtain ⟨ti, pi, ri⟩ := hi.go
  obtain ⟨tv, pv', rv⟩ := hv.go
  refine ⟨sDPut to ti tv, fun j => ps_dput (hu1 (c.room j)) (po j) (pi j) (pv' j) (hs j), fun σ W δ M out E w s e q => ?_⟩
  unfold sDput at e
  split at e
  · rename_i vd M1 h1
    split at e
    · rename_i od M2 h2
      split at e
      · rename_i id M3 h3
        split at e
        · rename_i M4 h4
          cases e
          refine rv σ W δ M vd M1 _ w s h1 fun v W1 l1 w1 r1 => ?_
          refine ro σ W1 δ M1 od M2 _ w1 (s.le l1) h2 fun x W2 l2 w2 r2 => ?_
          refine ri σ W2 δ M2 id M3 _ w2 (s.le (l1.trans l2)) h3 fun y W3 l3 w3 r3 => ?_
          unfold gDput at h4
          split at h4
          · rename_i n
            split at h4
            · rename_i kvs q0 h5 h6
              split at h4
              · rename_i hl
                cases h4
                obtain ⟨p, n', vs, en, rfl, lv, hp, rk⟩ := dicOf_rep (kvs := kvs) w3 (r2.le l3) (by unfold dicOf; dsimp only; rw [h5])
                cases en
                have ey := keyOf_rep r3 h6
                subst ey
                refine ⟨p, _, rfl, DPut.k hp (by rw [rk.len]; exact hl), ?_⟩
                have l13 := (l1.trans l2).trans l3
                exact q σ (W3.put p _) (l13.trans Wd.put_le) (Wd.put_ok w3 lv (.dic (rk.put q0 (r1.le (l2.trans l3))))) (s.le (l13.trans Wd.put_le))
              · cases h4
            · cases h4
          · cases h4
        · cases e
      · cases e
    · cases e
  · cases e
/-- pairs of a display -/
structure DPs (X : I → Cx) (K : PySem.W.Frag) (pos : Pos) (keys : List (Option Expr)) (values : List Expr) (f : Env → Mh → Option (List (Key × D) × Mh)) : Prop where
  go : ∃ trs : List (TE × TE), (∀ i, PPs (X i) pos keys values trs) ∧ ∀ (σ : St) (W : Wd) (δ : Env) (M : Mh) (kvs : List (Key × D)) (M' : Mh) (Q : List (V × V) → Hp → Prop), W.Ok K M → Slots K W σ δ → f δ M = some (kvs, M') →
    (∀ vs W', W.Le W' → W'.Ok K M' → RepK K W'.B W'.ι vs kvs → Q (vs.map fun kv => (kV kv.1, kv.2)) W'.H) → tPairs trs σ W.H Q
def psNil : Env → Mh → Option (List (Key × D) × Mh) := fun _ M => some ([], M)
def psCons (f g : EF) (h : Env → Mh → Option (List (Key × D) × Mh)) : Env → Mh → Option (List (Key × D) × Mh) := fun δ M => match f δ M with
  | some (a, M1) => (match g δ M1 with
    | some (v, M2) => (match keyOf a with
      | some q => (match h δ M2 with
        | some (r, M3) => some ((q, v) :: r, M3)
        | none => none)
      | none => none)
    | none => none)
  | none => none
theorem DPs.nil {pos : Pos} : DPs X K pos [] [] psNil := ⟨[], fun i => pps_nil, fun σ W δ M kvs M' Q w s e q => by
  cases e
  exact q [] W (.refl W) w .nil⟩
theorem DPs.cons {pos : Pos} {a v : Expr} {ks : List (Option Expr)} {vs : List Expr} {f g : EF} {h : Env → Mh → Option (List (Key × D) × Mh)} (ha : DE X K a f) (hv : DE X K v g) (hr : DPs X K pos ks vs h) : DPs X K pos (some a :: ks) (v :: vs) (psCons f g h) := by
  obtain ⟨ta, pa, ra⟩ := ha.go
  obtain ⟨tv, pv', rv⟩ := hv.go
  obtain ⟨ts, ps, rs⟩ := hr.go
  refine ⟨(ta, tv) :: ts, fun i => pps_cons (pa i) (pv' i) (ps i), fun σ W δ M kvs M' Q w s e q => ?_⟩
  unfold psCons at e
  split at e
  · rename_i ad M1 h1
    split at e
    · rename_i vd M2 h2
      split at e
      · rename_i q0 h3
        split at e
        · rename_i r M3 h4
          cases e
          refine ra σ W δ M _ _ _ w s h1 fun x W1 l1 w1 r1 => ?_
          refine rv σ W1 δ M1 _ _ _ w1 (s.le l1) h2 fun y W2 l2 w2 r2 => ?_
          refine rs σ W2 δ M2 _ _ _ w2 (s.le (l1.trans l2)) h4 fun us W3 l3 w3 r3 => ?_
          have ex := keyOf_rep r1 h3
          subst ex
          exact q ((q0, y) :: us) W3 ((l1.trans l2).trans l3) w3 (.cons (r2.le l3) r3)
        · cases e
      · cases e
    · cases e
  · cases e
def eDic (h : Env → Mh → Option (List (Key × D) × Mh)) : EF := fun δ M => match h δ M with
  | some (kvs, M1) => if kvs.length ≤ 15 then some (.ref M1.length, M1 ++ [.dic (dmerge kvs)]) else none
  | none => none
theorem Wd.unhold_new {W : Wd} {M : Mh} {p : Addr} {o o' : HO} {m : MO} {P0 : Hp} (w : W.Ok K M) (hP : W.P = upd P0 p o) (h0 : P0 p = none) (r : RepO K W.B W.ι p o' m) : (⟨upd W.H p o', W.B, W.ι ++ [p], P0⟩ : Wd).Ok K (M ++ [m]) := by
  have hp : W.P p = some o := by rw [hP, upd_same]
  have bp := w.pin p o hp
  have ne : ∀ {n a u}, Live W M n a u → a ≠ p := fun {n a u} h e => by
    obtain ⟨_, q, _⟩ := w.live n a u h
    rw [e, hp] at q
    cases q
  have lv : ∀ n a u, Live (⟨upd W.H p o', W.B, W.ι ++ [p], P0⟩ : Wd) (M ++ [m]) n a u → Live W M n a u ∨ (n = M.length ∧ a = p ∧ u = m) := fun n a u h => by
    obtain ⟨h1, h2, h3⟩ := h
    have h1' : (W.ι ++ [p])[n]? = some a := h1
    by_cases hn : n < M.length
    · rw [List.getElem?_append_left (by rw [w.len]; exact hn)] at h1'
      rw [List.getElem?_append_left hn] at h2
      exact .inl ⟨h1', h2, h3⟩
    · have e : n = M.length := by
        have := (List.getElem?_eq_some_iff.mp h2).1
        rw [List.length_append] at this
        simp at this
        omega
      subst e
      rw [List.getElem?_append_right (by rw [w.len]; exact Nat.le_refl _), w.len] at h1'
      rw [List.getElem?_append_right (Nat.le_refl _)] at h2
      simp at h1' h2
      exact .inr ⟨rfl, h1'.symm, h2.symm⟩
  have ln : ∀ {n a u}, Live W M n a u → n < M.length := fun {n a u} h => (List.getElem?_eq_some_iff.mp h.2.1).1
  have ix : ∀ (n : Nat) (c : Addr), W.ι[n]? = some c → (W.ι ++ [p])[n]? = some c := fun n c h => by
    rw [List.getElem?_append_left (List.getElem?_eq_some_iff.mp h).1]
    exact h
  refine ⟨fun a u h => ?_, fun a u h => ?_, ?_, fun n a u h => ?_, fun n j a u v h g => ?_⟩
  · exact (upd_ne (fun e => by
      rw [e] at h
      have h' : W.B p = some u := h
      rw [bp.2] at h'
      cases h')).trans (w.sub a u h)
  · have h' : P0 a = some u := h
    have e : a ≠ p := fun e => by
      rw [e, h0] at h'
      cases h'
    have q := w.pin a u (by rw [hP, upd_ne e]; exact h')
    exact ⟨(upd_ne e).trans q.1, q.2⟩
  · show (W.ι ++ [p]).length = _
    simp [w.len]
  · rcases lv n a u h with h | ⟨_, rfl, rfl⟩
    · obtain ⟨h1, h2, g, h3, h4⟩ := w.live n a u h
      have e := ne h
      rw [hP, upd_ne e] at h2
      exact ⟨h1, h2, g, (upd_ne e).trans h3, h4.mono (fun _ _ q => q) ix⟩
    · exact ⟨bp.2, h0, o', upd_same, r.mono (fun _ _ q => q) ix⟩
  · rcases lv n a u h with h | ⟨h1, h2, h3⟩
    · rcases lv j a v g with g | ⟨g1, g2, g3⟩
      · exact w.inj n j a u v h g
      · exact absurd g2 (ne h)
    · rcases lv j a v g with g | ⟨g1, g2, g3⟩
      · exact absurd h2 (ne g)
      · omega
theorem DE.dic {pos : Pos} {keys : List (Option Expr)} {values : List Expr} {h : Env → Mh → Option (List (Key × D) × Mh)} (hp : DPs X K pos keys values h) (hall : keys.all (·.isSome) = true := by rfl) (hl : keys.length = values.length := by rfl) (h0 : keys ≠ [] := by exact fun z => nomatch z)
    (h15 : keys.length ≤ 15 := by decide) : DE X K (.Dict keys values pos) (eDic h) := by
  obtain ⟨ts, ps, rs⟩ := hp.go
  refine ⟨tDisp ts, fun i => pe_disp (ps i) hall hl h0 h15, fun σ W δ M d M' Q w s e q => fun p hp => ?_⟩
  unfold eDic at e
  split at e
  · rename_i kvs M1 h1
    split at e
    · rename_i hlen
      cases e
      have P0 := w.pnone hp
      have B0 := w.bnone hp
      refine rs σ (W.hold p (.dK [])) δ M kvs M1 _ (Wd.hold_ok w hp) (s.cong rfl rfl) h1 fun vs W1 l1 w1 r1 => ?_
      have hP : W1.P = upd W.P p (.dK []) := l1.pp
      refine ⟨(w1.pin p _ (by rw [hP, upd_same])).1, vs, rfl, by rw [r1.len]; exact hlen, ?_⟩
      have w2 := Wd.unhold_new w1 hP P0 (.dic r1.merge)
      refine q (.ref p) ⟨upd W1.H p (.dK (mergeK [] vs)), W1.B, W1.ι ++ [p], W.P⟩ ⟨l1.same, ?_, rfl⟩ w2 (.ref ?_)
      · obtain ⟨l, hl⟩ := l1.pre
        exact ⟨l ++ [p], by
          show W1.ι ++ [p] = _
          rw [hl]
          show W.ι ++ l ++ [p] = _
          rw [List.append_assoc]⟩
      · show (W1.ι ++ [p])[M1.length]? = some p
        rw [← w1.len]
        simp
    · cases e
  · cases e
end
end Pl

namespace Pl
open PySem L2
open PyProof.Rows (IntsAre AllBare)
/-! ### the law's head -/
theorem ints_rep {K : PySem.W.Frag} {B : Hp} {ι : List Addr} : ∀ ns : List Int, RepL K B ι (ns.map V.int) (ns.map D.int)
  | [] => .nil
  | n :: ns => .cons (.int n) (ints_rep ns)
theorem law_callD {P : Program} {w : World} {K : PySem.W.Frag} {mg mb : Str → Option Value} {k : Nat} {fa a : Addr} {fd : FuncData} {x : Str} {F : Fn} {t₁ : Shared} {us : List Value} {ns : List Int}
    (kin : K.In t₁.heap) (gl : t₁.heap.Ns mainGlobals mg) (bl : t₁.heap.Ns builtinsNs mb) (blx : ∀ x : Str, x ≠ "__name__" → mb x = bootBuiltins x) (nl : t₁.heap.NoLimit) (gn : t₁.gens = #[])
    (at_a : t₁.heap.get? a = some { cls := .type "list", data := .seq us.toArray }) (isv : IntsAre us ns) (small : ns.length ≤ sizeLine) (room : Room k PySem.callerA)
    (hF : ∀ base : Heap, K.In base → base.Ns mainGlobals mg → DFn P w K mg base k fa fd [x] F) (bnd : ∀ (s : Shared) (u : Value), BindsTo s fd ⟨[u], []⟩ [(x, u)])
    (tru : ∃ M', F [.lsk (ns.map D.int)] [] = some (.bl true, M')) :
    codeAny (model P w) PySem.callerA (.call (.ref fa) ⟨[.ref a], []⟩) (fun o t' => o = .ok (.ret (.bool true)) ∧ OldK t₁.heap t'.heap ∧ t'.os = t₁.os ∧ AllBare t'.gens) t₁ := by
  have rel := vals_ints isv
  have lenU := isv.length
  have main : ∀ G : Hp, L2.Only G → SqL K G a (ns.map V.int) → HOk P w G t₁.heap → (∀ b, G b ≠ none → b = a) → (G a ≠ none → K.lookup a = none) →
      codeAny (model P w) PySem.callerA (.call (.ref fa) ⟨[.ref a], []⟩) (fun o t' => o = .ok (.ret (.bool true)) ∧ OldK t₁.heap t'.heap ∧ t'.os = t₁.os ∧ AllBare t'.gens) t₁ := fun G only seqA gok ga gk => by
    have keepB : ∀ {b : Addr} {o : Obj}, t₁.heap.get? b = some o → G b = none → (hidT t₁.heap G).get? b = some o := fun e n => hidT_get e n
    have noDict : ∀ {b : Addr} {o : Obj} {es : Array DictEntry} {ep : Nat}, t₁.heap.get? b = some o → o.data = .dict es ep → G b = none := fun {b o es ep} e dd => by
      cases gq : G b with
      | none => rfl
      | some u =>
        have eb : b = a := ga b (by rw [gq]; simp)
        rw [eb, at_a] at e
        cases e
        exact nomatch (show Data.seq us.toArray _ = Data.dict es ep from dd)
    have nsB : ∀ {b : Addr} {m : Str → Option Value}, t₁.heap.Ns b m → (hidT t₁.heap G).Ns b m := fun ⟨o, es, ep, e, dd, r⟩ => ⟨o, es, ep, keepB e (noDict e dd), dd, r⟩
    have kinB : K.In (hidT t₁.heap G) := fun b o e => keepB (kin b o e) (by
      cases gq : G b with
      | none => rfl
      | some u =>
        have eb : b = a := ga b (by rw [gq]; simp)
        rw [eb] at gq e
        rw [gk (by rw [gq]; simp)] at e
        cases e)
    have modB : Mod K mg (hidT t₁.heap G) := ⟨kinB, nsB gl, ⟨mb, nsB bl, blx⟩, let ⟨mc, n1, n2⟩ := nl; ⟨mc, nsB n1, n2⟩⟩
    have envB : Env0 P w K mg (hidT t₁.heap G) PySem.callerA [] t₁ G := ⟨rfl, modB, fun b o e => of_hidT e, Nat.le_of_eq (hidT_size _ _), trivial, fun b hb => (by cases hb), gok, .of_eq gn⟩
    obtain ⟨M', hv⟩ := tru
    have rs : RepL K G [] (ns.map V.int) (ns.map D.int) := by
      exact ints_rep ns
    have W0 : (⟨G, G, [], fun _ => none⟩ : Wd).Ok K [] := ⟨fun _ _ e => e, fun b o e => (by cases e), rfl, fun n b o l => (by cases l.1), fun n m b o u l => (by cases l.1)⟩
    refine codeAny_mono ((hF _ kinB (nsB gl)).run PySem.callerA [] t₁ G ⟨[.ref a], []⟩ [.ref a] [.ref a] (fun v _ => v = .bl true) room rfl envB (bnd t₁ (.ref a)) (.cons rfl .nil)
      ⟨⟨G, G, [], fun _ => none⟩, [], [.lsk (ns.map D.int)], .bl true, M', rfl, W0, .cons (.lsk seqA rs) .nil, rfl, hv, fun v W' _ _ r => by cases r; rfl⟩) fun o t' ho => ?_
    match o, ho with
    | .ok (.ret u), ⟨v, G', os, bare, un, gok', rv, q⟩ =>
      have q' : v = .bl true := q
      rw [q'] at rv
      have eu : u = Value.bool true := rv
      rw [eu]
      refine ⟨rfl, OldK.of_keep fun b o e => ?_, os, bare⟩
      cases gq : G b with
      | none => exact un.keep b o e gq (fun z => nomatch (show b ∈ ([] : List Addr) from z)) (fun z => nomatch z)
      | some u =>
        rcases only b with z | ⟨ob, xs, z⟩
        · rw [gq] at z
          cases z
        · have z2 := un.frzs b ob _ z
          obtain ⟨e1, _⟩ := gok b _ z
          obtain ⟨e2, _⟩ := gok' b _ z2
          rw [e] at e1
          cases e1
          exact e2
    | .ok .next, ho => exact False.elim ho
    | .ok .brk, ho => exact False.elim ho
    | .ok .cont, ho => exact False.elim ho
    | .error _, ho => exact False.elim ho
  cases lk : K.lookup a with
  | some o =>
    have e := kin a o lk
    rw [at_a] at e
    cases e
    exact main (fun _ => none) (fun _ => .inl rfl) (.inr ⟨_, us.toArray, _, lk, rfl, rfl, rfl, by rw [List.size_toArray, lenU]; exact small, by simpa using rel⟩) (fun b u z => nomatch (show (none : Option HO) = some u from z)) (fun b z => absurd rfl z) fun z => absurd rfl z
  | none =>
    refine main (fun b => if b = a then some (.frz { cls := .type "list", data := .seq us.toArray } (.lst (ns.map V.int))) else none) (fun b => ?_) (.inl (.inr ⟨{ cls := .type "list", data := .seq us.toArray }, if_pos rfl⟩)) (fun b u z => ?_) (fun b z => ?_) fun _ => lk
    · by_cases eb : b = a
      · exact .inr ⟨_, _, if_pos eb⟩
      · exact .inl (if_neg eb)
    · by_cases eb : b = a
      · have z' := (if_pos eb).symm.trans z
        cases z'
        rw [eb]
        exact ⟨at_a, by rw [List.length_map]; exact small, us, _, rel, at_a⟩
      · exact nomatch (if_neg eb).symm.trans z
    · exact Classical.byContradiction fun eb => z (if_neg eb)
theorem walk_ofD {l : PySem.W.OpenLaw} {n k : Nat} {q : Program} {loose : List Str} {XP : (Str → Option Value) → Heap → Prop} {YP : World → Heap → Prop} {d : DefRec} {K : Params → PySem.W.Frag} {F : Fn} {x : Str}
    (hn : l.most = some n) (hn2 : n ≤ sizeLine) (hdf : d.params.defaults = []) (room : Room k PySem.callerA) (hY : ∀ (w : World) (h : Heap), YP w h → (K w.params).In h)
    (hF : ∀ (w : World) (mg : Str → Option Value) (fa : Addr) (h : Heap), (K w.params).In h → h.Ns mainGlobals mg → mg d.name = some (.ref fa) →
      ∃ fd : FuncData, (∀ (s : Shared) (u : Value), BindsTo s fd ⟨[u], []⟩ [(x, u)]) ∧ ∀ base : Heap, (K w.params).In base → base.Ns mainGlobals mg → DFn l.prog w (K w.params) mg base k fa fd [x] F)
    (tru : ∀ ns : List Int, ns.length ≤ n → ∃ M', F [.lsk (ns.map D.int)] [] = some (.bl true, M')) :
    PySem.W.WalkO q loose XP YP l.row.toRowW d [] (fun f vs => PySem.call f vs) :=
  Att.attach_call hn hdf fun w _ t₁ mg _ fa _ _ _ _ a us ns G Y _ _ _ hmg obj isv len gn => by
    have kin := hY w _ Y
    obtain ⟨fd, hb, h⟩ := hF w mg fa _ kin G.T.g hmg
    exact law_callD kin G.T.g G.T.b G.T.builtins G.T.nolimit gn obj isv (Nat.le_trans len hn2) room h hb (tru ns len)

/-! ### links -/
/-- a def as it is called -/
structure Lk (P : Program) (w : World) (K : PySem.W.Frag) (mg : Str → Option Value) (base : Heap) (x : Str) (k : Nat) (ps : List Str) (F : Fn) : Prop where
  go : ∃ (f : Addr) (fd : FuncData), DFn P w K mg base k f fd ps F ∧ mg x = some (.ref f) ∧ PySem.W.keepIn K (.ref f) = true ∧ Binds K fd ps []
/-- with defaults that fill up -/
structure LkD (P : Program) (w : World) (K : PySem.W.Frag) (mg : Str → Option Value) (base : Heap) (x : Str) (k : Nat) (ps : List Str) (F : Fn) (dds : List D) : Prop where
  go : ∃ (f : Addr) (fd : FuncData) (dvs : List V) (dsv : List Value), DFn P w K mg base k f fd ps F ∧ mg x = some (.ref f) ∧ PySem.W.keepIn K (.ref f) = true ∧ Vals dvs dsv ∧ Binds K fd ps dsv ∧ ∀ B ι, RepL K B ι dvs dds
/-- with keywords -/
structure LkK (P : Program) (w : World) (K : PySem.W.Frag) (mg : Str → Option Value) (base : Heap) (x : Str) (k : Nat) (ps : List Str) (F : Fn) (n : Nat) (ks : List Str) (gD : List D → List D → List D) : Prop where
  go : ∃ (f : Addr) (fd : FuncData) (gu : List Value → List Value → List Value) (gV : List V → List V → List V), DFn P w K mg base k f fd ps F ∧ mg x = some (.ref f) ∧ PySem.W.keepIn K (.ref f) = true ∧ KBn K fd ps n ks gu gV ∧
    (∀ B ι vs ds zs es, RepL K B ι vs ds → RepL K B ι zs es → RepL K B ι (gV vs zs) (gD ds es))
  len : ∀ ds zs : List D, ds.length = n → zs.length = ks.length → (gD ds zs).length = ps.length
/-- a name of the module -/
def GV (K : PySem.W.Frag) (mg : Str → Option Value) (x : Str) (d : D) : Prop := ∃ v u, mg x = some u ∧ RelV v u ∧ ∀ B ι, Rep K B ι v d
section
variable {I : Type} {X : I → Cx} {P : Program} {w : World} {K : PySem.W.Frag} {mg : Str → Option Value} {base : Heap} {k : Nat}
theorem DE.gv (c : Ctx X P w K mg base k) {x : Str} {pos : Pos} {d : D} (h : GV K mg x d) (hg : ∀ i, Gl (X i) x := by intro _; rfl) (hd : (x == ("__debug__" : Str)) = false := by decide) : DE X K (.Name x pos) (eC d) := by
  obtain ⟨v, u, h1, h2, h3⟩ := h
  exact DE.glob c h1 h2 h3 hg hd
theorem DE.cl (c : Ctx X P w K mg base k) {x : Str} {p pos : Pos} {e : Expr} {es : List Expr} {g : AF} {ps : List Str} {F : Fn} {kf : Nat} (h : Lk P w K mg base x kf ps F) (hk : kf ≤ k) (hn : (e :: es).length = ps.length) (ha : DA X K (e :: es) g) (hlen : ∀ δ M ds M', g δ M = some (ds, M') → ds.length = (e :: es).length) (hg : ∀ i, Gl (X i) x := by intro _; rfl)
    (hdbg : (x == ("__debug__" : Str)) = false := by decide) (he : ∀ i, starEach (e :: es) (X i).env = (false, eval e (X i).env) :: starEach es (X i).env := by intro _; rfl) (hpl : ∀ i, (backTo pos (starEach es (X i).env)).any (·.1) = false := by intro _; rfl) :
    DE X K (.Call (.Name x p) (e :: es) [] pos) (eCall F g []) := by
  obtain ⟨f, fd, h1, h2, h3, h4⟩ := h.go
  exact DE.call c h1 hk h2 h3 h4 .nil (fun _ _ => .nil) hn ha hlen hg hdbg he hpl
theorem DE.clD (c : Ctx X P w K mg base k) {x : Str} {p pos : Pos} {e : Expr} {es : List Expr} {g : AF} {ps : List Str} {F : Fn} {kf : Nat} {dds : List D} (h : LkD P w K mg base x kf ps F dds) (hk : kf ≤ k) (hn : (e :: es).length + dds.length = ps.length) (ha : DA X K (e :: es) g) (hlen : ∀ δ M ds M', g δ M = some (ds, M') → ds.length = (e :: es).length) (hg : ∀ i, Gl (X i) x := by intro _; rfl)
    (hdbg : (x == ("__debug__" : Str)) = false := by decide) (he : ∀ i, starEach (e :: es) (X i).env = (false, eval e (X i).env) :: starEach es (X i).env := by intro _; rfl) (hpl : ∀ i, (backTo pos (starEach es (X i).env)).any (·.1) = false := by intro _; rfl) :
    DE X K (.Call (.Name x p) (e :: es) [] pos) (eCall F g dds) := by
  obtain ⟨f, fd, dvs, dsv, h1, h2, h3, h4, h5, h6⟩ := h.go
  exact DE.call c h1 hk h2 h3 h5 h4 h6 hn ha hlen hg hdbg he hpl
theorem DE.clK (c : Ctx X P w K mg base k) {x : Str} {p pos : Pos} {e : Expr} {es : List Expr} {kws : List Keyword} {g gk : AF} {ps ks : List Str} {F : Fn} {kf n : Nat} {gD : List D → List D → List D} (h : LkK P w K mg base x kf ps F n ks gD) (hk : kf ≤ k)
    (ha : DA X K (e :: es) g) (hlen : ∀ δ M ds M', g δ M = some (ds, M') → ds.length = n) (hkw : DK X K kws gk ks.length) (hall : ∀ i, (backToKw pos (keywordEach kws (X i).env)).all (·.1.isSome) = true := by intro _; rfl) (hks : ∀ i, (backToKw pos (keywordEach kws (X i).env)).filterMap (·.1) = ks := by intro _; rfl)
    (hg : ∀ i, Gl (X i) x := by intro _; rfl) (hdbg : (x == ("__debug__" : Str)) = false := by decide) (he : ∀ i, starEach (e :: es) (X i).env = (false, eval e (X i).env) :: starEach es (X i).env := by intro _; rfl)
    (hpl : ∀ i, ((backTo pos (starEach (e :: es) (X i).env)).any (·.1) || (backToKw pos (keywordEach kws (X i).env)).any (·.1.isNone)) = false := by intro _; rfl) :
    DE X K (.Call (.Name x p) (e :: es) kws pos) (eCallK F g gk gD) := by
  obtain ⟨f, fd, gu, gV, h1, h2, h3, h4, h5⟩ := h.go
  exact DE.callK c h1 hk h2 h3 h4 h5 h.len ha hlen hkw hall hks hg hdbg he hpl
end
end Pl

namespace Pl
open PySem L2
section
variable {I : Type} {X : I → Cx} {P : Program} {w : World} {K : PySem.W.Frag} {mg : Str → Option Value} {base : Heap} {k : Nat}
/-! ### repr -/
def reprOk (p : PyData) : Bool := p.showable && SeqAt.shaped p && !p.hasDict && decide (p.shown.length ≤ sizeLine)
def rReprD (K : PySem.W.Frag) (xs : List V) (H : Hp) (Q : VK) : Prop := ∃ x p, xs = [x] ∧ Dp K H x p ∧ reprOk p = true ∧ Q (.str p.shown) H
theorem call_reprD {Y : Cx} (hu : Y.A.units + 66 < cLine) (hg : Y.A.guards = some []) : CallR Y (.builtin "repr") (rReprD Y.K) := fun pins s σ H xs us Q J hv h => by
  obtain ⟨x, p, rfl, hp, ok, q⟩ := h
  simp only [reprOk, Bool.and_eq_true, Bool.not_eq_true', decide_eq_true_eq] at ok
  obtain ⟨⟨⟨sh, sp⟩, nd⟩, ln⟩ := ok
  cases hv with
  | cons hx hv =>
    cases hv
    have dp := SeqAt.depth_of_shaped sp
    have same : ∀ (h' : Heap) (t : Nat), (∀ b o, s.heap.get? b = some o → h'.get? b = some o) → L2.Inv Y pins σ H { heap := h', gens := s.gens, drawn := s.drawn, toks := t, os := s.os } := fun h' t kp => J.turnedL (ch := []) (fun b o _ e => kp b o e) (fun b hb => nomatch hb)
    obtain ⟨as, rd⟩ := Dp.reads J p x _ hp hx
    cases hp with
    | non =>
      cases hx
      exact P.repr_of_none ⟨.str _, H, same _ _ fun _ _ e => e, ⟨_, rfl⟩, q⟩
    | bl b =>
      cases hx
      refine P.repr_of_bool ⟨.str _, H, same _ _ fun _ _ e => e, ⟨_, rfl⟩, ?_⟩
      rw [PyData.shown] at q
      exact q
    | int i =>
      obtain ⟨t, rfl⟩ := hx
      refine P.repr_of_int ?_ ⟨.str _, H, same _ _ fun _ _ e => e, ⟨_, rfl⟩, ?_⟩
      · rw [PyData.showable] at sh
        simpa using sh
      · rw [PyData.shown] at q
        exact q
    | str y =>
      obtain ⟨t, rfl⟩ := hx
      rw [PyData.shown] at q ln
      exact P.repr_of_str ⟨.str _, H, same _ _ fun _ _ e => e, ⟨_, rfl⟩, q⟩ ln
    | lst h1 h2 =>
      cases hx
      exact repr_of_reads' rd sh (fun z => by rw [nd] at z; cases z) hg (by omega) (fun _ _ e => e) (fun h' u tk kp => ⟨.str _, H, same h' tk kp, ⟨_, rfl⟩, q⟩) ln
    | tup h1 h2 =>
      cases hx
      exact repr_of_reads' rd sh (fun z => by rw [nd] at z; cases z) hg (by omega) (fun _ _ e => e) (fun h' u tk kp => ⟨.str _, H, same h' tk kp, ⟨_, rfl⟩, q⟩) ln
def gRepr : GL := fun ds M => match ds with
  | [d] => (match toP (deref M d) with
    | some p => if reprOk p then some (.str p.shown, M) else none
    | none => none)
  | _ => none
theorem cRepr (c : Ctx X P w K mg base k) : CalF X K (.builtin "repr") gRepr := ⟨rReprD K, fun i => by
  have h := call_reprD (Y := X i) (by have := (c.room i).un; omega) (c.grd i)
  rw [c.K i] at h
  exact h, fun W M vs ds z M' Q w r e q => by
  unfold gRepr at e
  split at e
  · split at e
    · rename_i p h1
      split at e
      · rename_i h2
        cases e
        cases r with
        | cons r1 r2 =>
          cases r2
          exact ⟨_, p, rfl, dp_of w r1 h1, h2, q _ W (.refl W) w (.str _)⟩
      · cases e
    · cases e
  · cases e⟩
end
end Pl
namespace Pl
open PySem L2
section
variable {I : Type} {X : I → Cx} {P : Program} {w : World} {K : PySem.W.Frag} {mg : Str → Option Value} {base : Heap} {k : Nat}
/-! ### a text many times -/
def strMulOk (x : Str) (n : Int) : Bool := decide (-(2 ^ 63) ≤ n) && decide (n < 2 ^ 63) && decide (x.length * n.toNat ≤ 1000000)
theorem strMul_ok {x : Str} {n : Int} (h : strMulOk x n = true) : PySem.MulOk x n := by
  simp only [strMulOk, Bool.and_eq_true, decide_eq_true_eq] at h
  obtain ⟨⟨h1, h2⟩, h3⟩ := h
  refine ⟨by rw [Bool.or_eq_false_iff]; exact ⟨decide_eq_false (by omega), decide_eq_false (by omega)⟩, fun hn _ => ?_, fun hn _ => ?_⟩
  · have hp : 0 < n := by omega
    have e : (x.length : Int) * n ≤ 1000000 := by
      have : ((x.length * n.toNat : Nat) : Int) ≤ 1000000 := Int.ofNat_le.mpr h3
      rw [Int.natCast_mul, Int.toNat_of_nonneg (by omega)] at this
      exact this
    have h2 : (x.length : Int) ≤ (2 ^ 63 - 1) / n := (Int.le_ediv_iff_mul_le hp).mpr (by omega)
    omega
  · exact decide_eq_false (Nat.not_lt.mpr (Nat.le_trans h3 (by decide)))
def gMul3 : O2 := fun a b M => match a, b with
  | .str x, .int n => if strMulOk x n then some (.str (Txt.mul x n), M) else none
  | a, b => gMul a b M
theorem opMulS : OpF X K (binaryOp .Mult) gMul3 := ⟨fun x y H Q => (∃ z n, x = .str z ∧ y = .int n ∧ PySem.MulOk z n ∧ Q (.str (Txt.mul z n)) H) ∨ (rI Pl.MulOk (fun i j => .int (i * j)) x y H Q ∨ rRep x y H Q), fun i => OpR.or (fun pins s σ H x y v u Q J hx hy h => by
    obtain ⟨z, n, rfl, rfl, ok, q⟩ := h
    obtain ⟨t, rfl⟩ := hx
    obtain ⟨t2, rfl⟩ := hy
    exact SB.mul ok fun t' k => ⟨.str _, H, J.turnedL (ch := []) (fun b o _ e => e) (fun b hb => nomatch hb), ⟨_, rfl⟩, q⟩) (OpR.or op_mulX op_rep), fun W M x y a b z M' Q w ra rb e q => by
  unfold gMul3 at e
  split at e
  · split at e
    · rename_i hc
      cases ra
      cases rb
      cases e
      exact .inl ⟨_, _, rfl, rfl, strMul_ok hc, q _ W (.refl W) w (.str _)⟩
    · cases e
  · refine .inr ?_
    unfold gMul at e
    split at e
    · split at e
      · rename_i hc
        cases ra
        cases rb
        cases e
        exact .inl ⟨_, _, rfl, rfl, hc, q _ W (.refl W) w (.int _)⟩
      · cases e
    · split at e
      · rename_i hc
        cases rb
        cases e
        cases ra with
        | lst h1 r1 =>
          refine .inr ⟨_, _, _, rfl, rfl, w.sub _ _ h1, hc.1, hc.2.1, by rw [r1.len]; exact hc.2.2, fun p hp => ?_⟩
          obtain ⟨l2, w2, r3⟩ := lay_lst w hp (r1.rep _)
          exact q _ _ l2 w2 r3
      · cases e
    · cases e⟩
/-! ### an empty dict -/
def eDic0 : EF := fun _ M => some (.ref M.length, M ++ [.dic []])
theorem DE.dic0 {pos : Pos} : DE X K (.Dict [] [] pos) eDic0 := ⟨tDNewK, fun i => pe_dnewK, fun σ W δ M d M' Q w s e q => fun p hp => by
  cases e
  exact q (.ref p) (W.new p (.dK [])) Wd.new_le (Wd.new_ok w hp (.dic .nil)) (.ref (by
    show (W.ι ++ [p])[M.length]? = some p
    rw [← w.len]
    simp))⟩
end
end Pl

/-! PlX: what raises. -/
namespace Pl
open PySem L2
/-- how a statement ends: as it does, or by an exception of the module's class of that name -/
inductive XO where
  | ok (o : Out) | ex (y : Str) (δ : Env) (M : Mh)
inductive EO where
  | v (d : D) (M : Mh) | ex (y : Str) (M : Mh)
abbrev XF := Env → Mh → Option XO
abbrev EXF := Env → Mh → Option EO
abbrev FnX := List D → Mh → Option EO
def PostX (K : PySem.W.Frag) (mg : Str → Option Value) (S : WX) (E : Ends) (W : Wd) : XO → Prop
  | .ok o => Post K E W o
  | .ex y δ M => ∀ C σ W', mg y = some (.ref C) → W.Le W' → W'.Ok K M → Slots K W' σ δ → S (.ref C) none σ W'.H
theorem PostX.le {K : PySem.W.Frag} {mg : Str → Option Value} {S : WX} {E : Ends} {W W1 : Wd} {o : XO} (l : W.Le W1) (h : PostX K mg S E W o) : PostX K mg S E W1 o := by
  cases o with
  | ok o => exact Post.le l h
  | ex y δ M => exact fun C σ W' m a b c => h C σ W' m (l.trans a) b c
def PostE (K : PySem.W.Frag) (mg : Str → Option Value) (S : Value → Option Addr → Hp → Prop) (Q : VK) (W : Wd) : EO → Prop
  | .v d M => VR K W d M Q
  | .ex y M => ∀ C W', mg y = some (.ref C) → W.Le W' → W'.Ok K M → S (.ref C) none W'.H
theorem PostE.le {K : PySem.W.Frag} {mg : Str → Option Value} {S : Value → Option Addr → Hp → Prop} {Q : VK} {W W1 : Wd} {o : EO} (l : W.Le W1) (h : PostE K mg S Q W o) : PostE K mg S Q W1 o := by
  cases o with
  | v d M => exact VR.le h l
  | ex y M => exact fun C W' m a b => h C W' m (l.trans a) b
def SRX (K : PySem.W.Frag) (mg : Str → Option Value) (S : WX) (t : TS) (f : XF) : Prop := ∀ (σ : St) (W : Wd) (δ : Env) (M : Mh) (o : XO) (E : Ends), W.Ok K M → Slots K W σ δ → f δ M = some o → PostX K mg S E W o → t E σ W.H
def ERX (K : PySem.W.Frag) (mg : Str → Option Value) (S : WX) (t : TE) (f : EXF) : Prop := ∀ (σ : St) (W : Wd) (δ : Env) (M : Mh) (o : EO) (Q : VK), W.Ok K M → Slots K W σ δ → f δ M = some o → PostE K mg (fun c d H => S c d σ H) Q W o → t σ W.H Q
section
variable {I : Type}
structure DSX (X : I → Cx) (K : PySem.W.Frag) (mg : Str → Option Value) (S : WX) (s : Stmt) (f : XF) : Prop where
  go : ∃ t : TS, (∀ i, PS (X i) s t) ∧ SRX K mg S t f
structure DBX (X : I → Cx) (K : PySem.W.Frag) (mg : Str → Option Value) (S : WX) (s : List Stmt) (f : XF) : Prop where
  go : ∃ t : TS, (∀ i, PSs (X i) s t) ∧ SRX K mg S t f
structure DEX (X : I → Cx) (K : PySem.W.Frag) (mg : Str → Option Value) (S : WX) (e : Expr) (f : EXF) : Prop where
  go : ∃ t : TE, (∀ i, PE (X i) e t) ∧ ERX K mg S t f
variable {X : I → Cx} {P : Program} {w : World} {K : PySem.W.Frag} {mg : Str → Option Value} {base : Heap} {k : Nat} {S : WX}
def xOk (f : SF) : XF := fun δ M => match f δ M with
  | some o => some (.ok o)
  | none => none
theorem srx_ok {t : TS} {f : SF} (r : SR K t f) : SRX K mg S t (xOk f) := fun σ W δ M o E w s e q => by
  unfold xOk at e
  split at e
  · rename_i o' h
    cases e
    exact r σ W δ M o' E w s h q
  · cases e
theorem DBX.lift {s : List Stmt} {f : SF} (a : DB X K s f) : DBX X K mg S s (xOk f) := by
  obtain ⟨t, p, r⟩ := a.go
  exact ⟨t, p, srx_ok r⟩
theorem DSX.lift {s : Stmt} {f : SF} (a : DS X K s f) : DSX X K mg S s (xOk f) := by
  obtain ⟨t, p, r⟩ := a.go
  exact ⟨t, p, srx_ok r⟩
def xSeq (f g : XF) : XF := fun δ M => match f δ M with
  | some (.ok (.nx δ' M')) => g δ' M'
  | o => o
theorem DBX.cons {s : Stmt} {ss : List Stmt} {f g : XF} (a : DSX X K mg S s f) (b : DBX X K mg S ss g) : DBX X K mg S (s :: ss) (xSeq f g) := by
  obtain ⟨ta, pa, ra⟩ := a.go
  obtain ⟨tb, pb, rb⟩ := b.go
  refine ⟨tSeq ta tb, fun i => pss_cons (pa i) (pb i), fun σ W δ M o E w s e q => ?_⟩
  unfold xSeq at e
  split at e
  · rename_i δ' M' h1
    refine ra σ W δ M _ _ w s h1 fun σ' W1 l1 w1 s1 => ?_
    exact rb σ' W1 δ' M' o E w1 s1 e (q.le l1)
  · rename_i hn
    refine ra σ W δ M o _ w s e ?_
    match o, e, q with
    | .ok (.nx δ' M'), e, q => exact absurd e (hn δ' M')
    | .ok (.bk _ _), e, q => exact q
    | .ok (.ct _ _), e, q => exact q
    | .ok (.rt _ _), e, q => exact q
    | .ex _ _ _, e, q => exact q
theorem DBX.one {s : Stmt} {f : XF} (a : DSX X K mg S s f) : DBX X K mg S [s] f := by
  obtain ⟨t, p, r⟩ := a.go
  exact ⟨t, fun i => pss_one (p i), r⟩
def xIf (t : TF) (f g : XF) : XF := fun δ M => match t δ M with
  | some (true, M1) => f δ M1
  | some (false, M1) => g δ M1
  | none => none
theorem DSX.ite {c : Expr} {a b : List Stmt} {pos} {t : TF} {f g : XF} (h : DT X K c t) (ha : DBX X K mg S a f) (hb : DBX X K mg S b g) : DSX X K mg S (.If c a b pos) (xIf t f g) := by
  obtain ⟨tt, p, r⟩ := h.go
  obtain ⟨ta, pa, ra⟩ := ha.go
  obtain ⟨tb, pb, rb⟩ := hb.go
  refine ⟨_, fun i => ps_if (p i) (pa i) (pb i), fun σ W δ M o E w s e q => ?_⟩
  unfold xIf at e
  split at e
  · rename_i M1 h1
    exact r σ W δ M true M1 _ w s h1 fun W1 l1 w1 => ifT (ra σ W1 δ M1 o E w1 (s.le l1) e (q.le l1))
  · rename_i M1 h1
    exact r σ W δ M false M1 _ w s h1 fun W1 l1 w1 => ifF (rb σ W1 δ M1 o E w1 (s.le l1) e (q.le l1))
  · cases e
/-! ### raise -/
/-- an own exception class without own __init__, over ValueError -/
structure LkE (K : PySem.W.Frag) (mg : Str → Option Value) (x : Str) (bmB : List Value) (newId : String) (C : Addr) : Prop where
  gC : mg x = some (.ref C)
  q : PySem.W.excIn K C bmB newId = true
  kC : PySem.W.keepIn K (.ref C) = true
  r1 : PySem.W.subIn K (.ref C) (.type "BaseException") = some true
  r2 : PySem.W.typeIn K (.ref C) = some (.type "type")
def xRaise (y : Str) : XF := fun δ M => some (.ex y δ M)
theorem DSX.raise (c : Ctx X P w K mg base k) (tk : ∀ i, Takes (X i) S) {x m : Str} {j : Nat} {p p2 pos pos2 : Pos} {C : Addr} {bmB : List Value} {B newId initId : String} (F : ExcBaseFacts B newId initId bmB) (L : LkE K mg x bmB newId C) (hg : ∀ i, Gl (X i) x := by intro _; rfl)
    (hdb : (x == ("__debug__" : Str)) = false := by decide) : DSX X K mg S (.Raise (some (.Call (.Name x p) [.Constant (.str m) j p2] [] pos)) none pos2) (xRaise x) := by
  refine ⟨fun _ σ H => S (.ref C) none σ H, fun i => ?_, fun σ W δ M o E w s e q => ?_⟩
  · have cK := c.K i
    exact ps_raise (t := fun _ H Q => Q (.ref C) none H) (c.calm i) (tk i) (pmk_own F (by rw [cK]; exact L.q) (by rw [c.mg i]; exact L.gC) (by rw [cK]; exact L.kC) (raises_own (by rw [cK]; exact L.r1) (by rw [cK]; exact L.r2)) (hg i) hdb)
  · cases e
    exact q C σ W L.gC (.refl W) w s
/-! ### calls that may raise -/
def spDX (K : PySem.W.Frag) (mg : Str → Option Value) (n : Nat) (F : FnX) (vs : List V) (H : Hp) (Q : VK) (E : XK) : Prop :=
  ∃ W M ds o, W.H = H ∧ W.Ok K M ∧ RepL K W.B W.ι vs ds ∧ ds.length = n ∧ F ds M = some o ∧ PostE K mg E Q W o
structure DFnX (P : Program) (w : World) (K : PySem.W.Frag) (mg : Str → Option Value) (base : Heap) (k : Nat) (f : Addr) (fd : FuncData) (ps : List Str) (F : FnX) : Prop where
  run : ∀ (A : Around) (outer : List PySem.Env) (s : Shared) (H : Hp) (args : Args) (us : List Value) (vs : List V) (Q : VK) (E : XK), Room k A → A.guards = some [] → Env0 P w K mg base A outer s H → BindsTo s fd args (ps.zip us) → Vals vs us →
    spDX K mg ps.length F vs H Q E → codeAny (model P w) A (.call (.ref f) args) (CR (L2.CX P w) outer P w H s Q E) s
theorem DFnX.mono {f : Addr} {fd : FuncData} {ps : List Str} {F : FnX} {j : Nat} (h : DFnX P w K mg base j f fd ps F) (l : j ≤ k) : DFnX P w K mg base k f fd ps F :=
  ⟨fun A outer s H args us vs Q E r g => h.run A outer s H args us vs Q E (r.mono l) g⟩
theorem run_dfnX {Y : Cx} {pins : List (Addr × Obj)} {σ : L2.St} {H : Hp} {s : Shared} {Q : VK} {f : Addr} {fd : FuncData} {ps ks : List Str} {F : FnX} {us ws us' : List Value} {vs : List V} (h : DFnX Y.prog Y.w Y.K Y.mg Y.base k f fd ps F) (room : Room k Y.A) (grd : Y.A.guards = some []) (tk : Takes Y S)
    (J : Inv Y pins σ H s) (hb : BindsTo s fd ⟨us, ks.zip ws⟩ (ps.zip us')) (r : Vals vs us') (q : spDX Y.K Y.mg ps.length F vs H Q (fun c d H' => S c d σ H')) : wpAny (model Y.prog Y.w) Y.A (call (.ref f) us (ks.zip ws)) (EP Y pins σ Q) Y.xe s := by
  refine wpAny_call (codeAny_mono (h.run Y.A Y.stack s H _ us' vs Q _ room grd J.env0 hb r q) fun o s' ho => ?_)
  match o, ho with
  | .ok (.ret u), ho => exact J.after ho
  | .ok .next, ho => exact False.elim ho
  | .ok .brk, ho => exact False.elim ho
  | .ok .cont, ho => exact False.elim ho
  | .error _, ho => exact passAt tk σ pins H s _ s' J ho
def xCall (F : FnX) (g : AF) (dds : List D) : EXF := fun δ M => match g δ M with
  | some (ds, M1) => F (ds ++ dds) M1
  | none => none
theorem DEX.call (c : Ctx X P w K mg base k) (tk : ∀ i, Takes (X i) S) {x : Str} {p pos : Pos} {e : Expr} {es : List Expr} {g : AF} {f : Addr} {fd : FuncData} {ps : List Str} {F : FnX} {kf : Nat} {dvs : List V} {dds : List D} {dsv : List Value} (h : DFnX P w K mg base kf f fd ps F) (hk : kf ≤ k)
    (hm : mg x = some (.ref f)) (kp : PySem.W.keepIn K (.ref f) = true) (hb : Binds K fd ps dsv) (hd : Vals dvs dsv) (hr : ∀ B ι, RepL K B ι dvs dds) (hn : (e :: es).length + dds.length = ps.length) (ha : DA X K (e :: es) g) (hlen : ∀ δ M ds M', g δ M = some (ds, M') → ds.length = (e :: es).length) (hg : ∀ i, Gl (X i) x := by intro _; rfl)
    (hdbg : (x == ("__debug__" : Str)) = false := by decide) (he : ∀ i, starEach (e :: es) (X i).env = (false, eval e (X i).env) :: starEach es (X i).env := by intro _; rfl) (hpl : ∀ i, (backTo pos (starEach es (X i).env)).any (·.1) = false := by intro _; rfl) :
    DEX X K mg S (.Call (.Name x p) (e :: es) [] pos) (xCall F g dds) := by
  obtain ⟨t, pa, ra⟩ := ha.go
  refine ⟨fun σ H Q => t σ H fun vs H1 => spDX K mg ps.length F (vs ++ dvs) H1 Q (fun c d H' => S c d σ H'), fun i => ⟨fun pins s σ H Q J q => ?_⟩, fun σ W δ M o Q w s ev q => ?_⟩
  · have cK := c.K i
    have cmg := c.mg i
    refine wpAny_Call_Name_kw (ld_glob J (hg i) (by rw [c.mg i]; exact hm) ?_ hdbg)
    refine PySem.W.callWith_K (h₀ := (X i).base) J.ok.mod.kin (by rw [cK]; exact kp) (thn ((pa i).run pos pins s σ H _ J q) fun us s1 ⟨vs, H1, J1, r, q1⟩ => ⟨J1.kIn, ?_⟩) (he i) (hpl i)
    obtain ⟨W, M, ds, o, a1, a2, a3, a4, a5, a6⟩ := id q1
    have h' : DFnX (X i).prog (X i).w (X i).K (X i).mg (X i).base k f fd ps F := by
      rw [c.prog i, c.wd i, c.K i, c.mg i, c.base i]
      exact h.mono hk
    have r2 := r.append hd
    refine run_dfnX (ks := []) (ws := []) (us := us) h' (c.room i) (c.grd i) (tk i) J1 (hb s1 us (by rw [← cK]; exact J1.kIn) ?_) r2 (by rw [cK, cmg]; exact q1)
    rw [← r2.length, a3.len, a4]
  · unfold xCall at ev
    split at ev
    · rename_i ds M1 h1
      refine ra σ W δ M ds M1 _ w s h1 fun vs W1 l1 w1 r1 => ⟨W1, M1, ds ++ dds, o, rfl, w1, r1.append (hr _ _), ?_, ev, q.le l1⟩
      rw [List.length_append, hlen _ _ _ _ h1]
      exact hn
    · cases ev
structure LkX (P : Program) (w : World) (K : PySem.W.Frag) (mg : Str → Option Value) (base : Heap) (x : Str) (k : Nat) (ps : List Str) (F : FnX) : Prop where
  go : ∃ (f : Addr) (fd : FuncData), DFnX P w K mg base k f fd ps F ∧ mg x = some (.ref f) ∧ PySem.W.keepIn K (.ref f) = true ∧ Binds K fd ps []
theorem DEX.cl (c : Ctx X P w K mg base k) (tk : ∀ i, Takes (X i) S) {x : Str} {p pos : Pos} {e : Expr} {es : List Expr} {g : AF} {ps : List Str} {F : FnX} {kf : Nat} (h : LkX P w K mg base x kf ps F) (hk : kf ≤ k) (hn : (e :: es).length = ps.length) (ha : DA X K (e :: es) g) (hlen : ∀ δ M ds M', g δ M = some (ds, M') → ds.length = (e :: es).length) (hg : ∀ i, Gl (X i) x := by intro _; rfl)
    (hdbg : (x == ("__debug__" : Str)) = false := by decide) (he : ∀ i, starEach (e :: es) (X i).env = (false, eval e (X i).env) :: starEach es (X i).env := by intro _; rfl) (hpl : ∀ i, (backTo pos (starEach es (X i).env)).any (·.1) = false := by intro _; rfl) :
    DEX X K mg S (.Call (.Name x p) (e :: es) [] pos) (xCall F g []) := by
  obtain ⟨f, fd, h1, h2, h3, h4⟩ := h.go
  exact DEX.call c tk h1 hk h2 h3 h4 .nil (fun _ _ => .nil) hn ha hlen hg hdbg he hpl
def xAs (f : EXF) (j : Nat) : XF := fun δ M => match f δ M with
  | some (.v d M1) => some (.ok (.nx (δ.set j (some d)) M1))
  | some (.ex y M1) => some (.ex y δ M1)
  | none => none
theorem DSX.set (j : Nat) {x : Str} {e : Expr} {pos pos'} {f : EXF} (a : DEX X K mg S e f) (hN : ∀ i, (X i).N.Nodup) (hi : ∀ i, (X i).N[j]? = some x := by intro _; rfl) (hx : ∀ i, Loc (X i).env.scope x := by intro _; first | exact Or.inl rfl | exact Or.inr rfl)
    (hs : ∀ i, swapsWith e (some (.Name x pos')) pos.line (X i).env = pure false := by intro _; rfl) (hf : ∀ i, (X i).fn x = true ∨ (X i).env.scope.names.lookup x = some .local := by intro _; first | exact Or.inl rfl | exact Or.inr rfl) :
    DSX X K mg S (.Assign [.Name x pos'] e pos) (xAs f j) := by
  obtain ⟨t, p, r⟩ := a.go
  refine ⟨tAsg t (gName j), fun i => ps_set (hN i) (hi i) (hx i) (p i) (hs i) (hf i), fun σ W δ M o E w s ev q => ?_⟩
  unfold xAs at ev
  split at ev
  · rename_i d M1 h1
    cases ev
    exact r σ W δ M _ _ w s h1 fun v W1 l1 w1 r1 => q _ W1 l1 w1 ((s.le l1).set r1 j)
  · rename_i y M1 h1
    cases ev
    exact r σ W δ M _ _ w s h1 fun C W1 m l1 w1 => q C σ W1 m l1 w1 (s.le l1)
  · cases ev
def xRet (f : EXF) : XF := fun δ M => match f δ M with
  | some (.v d M1) => some (.ok (.rt d M1))
  | some (.ex y M1) => some (.ex y δ M1)
  | none => none
theorem DSX.ret {e : Expr} {pos} {f : EXF} (a : DEX X K mg S e f) : DSX X K mg S (.Return (some e) pos) (xRet f) := by
  obtain ⟨t, p, r⟩ := a.go
  refine ⟨tRet t, fun i => ps_ret (p i), fun σ W δ M o E w s ev q => ?_⟩
  unfold xRet at ev
  split at ev
  · rename_i d M1 h1
    cases ev
    exact r σ W δ M _ _ w s h1 q
  · rename_i y M1 h1
    cases ev
    exact r σ W δ M _ _ w s h1 fun C W1 m l1 w1 => q C σ W1 m l1 w1 (s.le l1)
  · cases ev
/-! ### try -/
def trI (X : I → Cx) (S : WX) : Type := { p : I × List (Addr × Obj) × (Value → Shared → Prop) // Takes ((X p.1).tr p.2.1 p.2.2) S ∧ PassesOwn (model (X p.1).prog (X p.1).w) (X p.1).A (X p.1).env p.2.2 }
def trF (X : I → Cx) (S : WX) (i : trI X S) : Cx := (X i.1.1).tr i.1.2.1 i.1.2.2
theorem Ctx.tr (c : Ctx X P w K mg base k) : Ctx (trF X S) P w K mg base k :=
  ⟨fun j => c.prog j.1.1, fun j => c.wd j.1.1, fun j => c.K j.1.1, fun j => c.mg j.1.1, fun j => c.base j.1.1, fun j => c.room j.1.1, fun j => c.grd j.1.1, fun j => c.calm j.1.1⟩
def suF (X : I → Cx) (i : I × Addr × Obj × List (Addr × Obj)) : Cx := (X i.1).suite i.2.1 ((i.2.1, i.2.2.1) :: i.2.2.2)
def sTry (tb : Str → Bool) (j : Nat) (fb : XF) (fs : SF) : SF := fun δ M => match fb δ M with
  | some (.ok o) => some o
  | some (.ex y δ' M') => if tb y = true then (match fs (δ'.set j none) M' with
    | some (.nx d2 M2) => some (.nx (d2.set j none) M2)
    | some (.bk d2 M2) => some (.bk (d2.set j none) M2)
    | some (.ct d2 M2) => some (.ct (d2.set j none) M2)
    | o => o) else none
  | none => none
theorem Slots.hide {W : Wd} {σ : St} {δ : Env} (s : Slots K W σ δ) (j : Nat) (u : Option V) : Slots K W (σ.set j u) (δ.set j none) :=
  ⟨by rw [List.length_set, List.length_set]; exact s.len, fun i d h => by
    rw [List.getElem?_set] at h
    rw [List.getElem?_set]
    by_cases e : j = i
    · rw [if_pos e] at h
      split at h <;> cases h
    · rw [if_neg e] at h ⊢
      exact s.at_ i d h⟩
theorem DS.tryAs (j : Nat) (c : Ctx X P w K mg base k) {x n : Str} {body suite : List Stmt} {b₀ : Stmt} {np pos pos' : Pos} {C : Addr} {fb : XF} {fs : SF} {tb : Str → Bool} (hN : ∀ i, (X i).N.Nodup) (hm : mg x = some (.ref C))
    (hx : ∀ y Cy, tb y = true → mg y = some (.ref Cy) → PySem.W.exmOne K (.ref Cy) (.ref C) = some true) (hv : ∀ y, tb y = true → ∃ Cy, mg y = some (.ref Cy)) (hb : ∀ S : WX, (∀ i, Takes (trF X S i) S) → Ctx (trF X S) P w K mg base k → DBX (trF X S) K mg S body fb) (hsu : DB (suF X) K (b₀ :: suite) fs)
    (hs : ∀ i, (X i).stack = (X i).env :: (X i).outer := by intro _; rfl) (hf : ∀ i, (X i).env.frame = some (X i).env.locals := by intro _; rfl) (hi : ∀ i, (X i).N[j]? = some n := by intro _; rfl) (hln : ∀ i, (X i).env.kindOf n = some .local := by intro _; rfl)
    (hg : ∀ i, Gl (X i) x := by intro _; rfl) (hdb : (x == ("__debug__" : Str)) = false := by decide) :
    DS X K (.Try body [.ExceptHandler (some (.Name x np)) (some n) (b₀ :: suite) pos'] [] [] pos) (sTry tb j fb fs) := by
  obtain ⟨ts, ps, rs⟩ := hsu.go
  have hb' := fun S : WX => (hb S (fun i => i.2.1) c.tr).go
  let tB : WX → TS := fun S => Classical.choose (hb' S)
  have pB : ∀ S i, PSs (trF X S i) body (tB S) := fun S => (Classical.choose_spec (hb' S)).1
  have rB : ∀ S, SRX K mg S (tB S) fb := fun S => (Classical.choose_spec (hb' S)).2
  refine ⟨fun D σ H => tB (wAs K (.ref C) j (fun _ _ _ => ts) (fun _ _ _ _ => False) D) D σ H, fun i => ?_, fun σ W δ M o E w s e q => ?_⟩
  · have h := ps_try_as (X := X i) (tb := tB) (ts := fun _ _ _ => ts) (i := j) (pos := pos) (pos' := pos') (np := np) (hs i) (hf i) (hN i) (hi i) (hln i) (show Names (X i) x (.ref C) from ⟨hg i, hdb, .inl (by rw [c.mg i]; exact hm)⟩) (takes0) (fun S pn xe tk po => pB S ⟨(i, pn, xe), tk, po⟩) (fun a oe cls d pn _ _ => ps (i, a, oe, pn))
    rw [c.K i] at h
    exact h
  · unfold sTry at e
    split at e
    · rename_i o' h1
      cases e
      exact rB _ σ W δ M _ E w s h1 q
    · rename_i y δ' M' h1
      split at e
      · rename_i hy
        refine rB _ σ W δ M _ E w s h1 fun Cy σ' W' m l w' s' => ⟨true, hx y Cy hy m, fun _ a ha => ?_, fun z => by cases z⟩
        have s2 := s'.hide j (some (.ref a))
        split at e
        · rename_i d2 M2 h2
          cases e
          exact rs _ W' _ M' _ _ w' s2 h2 fun σ3 W3 l3 w3 s3 => q _ W3 (l.trans l3) w3 (s3.hide j none)
        · rename_i d2 M2 h2
          cases e
          exact rs _ W' _ M' _ _ w' s2 h2 fun σ3 W3 l3 w3 s3 => q _ W3 (l.trans l3) w3 (s3.hide j none)
        · rename_i d2 M2 h2
          cases e
          exact rs _ W' _ M' _ _ w' s2 h2 fun σ3 W3 l3 w3 s3 => q _ W3 (l.trans l3) w3 (s3.hide j none)
        · rename_i n1 n2 n3
          match o, e, q with
          | .rt d3 M3, e, q => exact rs _ W' _ M' _ _ w' s2 e fun v W3 l3 w3 r3 => q v W3 (l.trans l3) w3 r3
          | .nx d3 M3, e, q => exact absurd e (n1 d3 M3)
          | .bk d3 M3, e, q => exact absurd e (n2 d3 M3)
          | .ct d3 M3, e, q => exact absurd e (n3 d3 M3)
      · cases e
    · cases e
end
/-! ### a def that may raise -/
def fnX (n : Nat) (g : XF) : FnX := fun ds M => match g (startD n ds) M with
  | some (.ok (.rt d M')) => some (.v d M')
  | some (.ok (.nx _ M')) => some (.v .non M')
  | some (.ex y _ M') => some (.ex y M')
  | _ => none
def bodyX (P : Program) (w : World) (K : PySem.W.Frag) (mg : Str → Option Value) (base : Heap) (N : List Str) (E : XK) {k : Nat} {qual : Str} {scope : Scope} {f : Addr} (e : Entry k qual scope f) : Cx := cxOf (L2.CX P w) P w K mg base N qual scope f e.cdv e.A e.outer e.s e.H E
theorem bodyX_ctx (P : Program) (w : World) (K : PySem.W.Frag) (mg : Str → Option Value) (base : Heap) (N : List Str) (E : XK) {k : Nat} {qual : Str} {scope : Scope} {f : Addr} : Ctx (bodyX P w K mg base N E (k := k) (qual := qual) (scope := scope) (f := f)) P w K mg base k :=
  ⟨fun _ => rfl, fun _ => rfl, fun _ => rfl, fun _ => rfl, fun _ => rfl, fun e => e.room, fun e => e.grd, fun _ => rfl⟩
theorem DFnX.of {P : Program} {w : World} {K : PySem.W.Frag} {mg : Str → Option Value} {base : Heap} {k : Nat} {x qual : Str} {params : Arguments} {body : List Stmt} {scope : Scope} {dvs : List V} {kws : List (Str × V)} {f : Addr} {fd : FuncData} {N ps : List Str} {g : XF}
    (h : FunD K x qual params body scope dvs kws f fd) (Sc : FnScope N ps scope) (hb : ∀ E : XK, Ctx (bodyX P w K mg base N E (k := k) (qual := qual) (scope := scope) (f := f)) P w K mg base k → (∀ i, Takes (bodyX P w K mg base N E (k := k) (qual := qual) (scope := scope) (f := f) i) (fun c d _ H => E c d H)) →
      DBX (bodyX P w K mg base N E (k := k) (qual := qual) (scope := scope) (f := f)) K mg (fun c d _ H => E c d H) body g) : DFnX P w K mg base (k + 1) f fd ps (fnX N.length g) := by
  obtain ⟨oc, od, dV, kV, doc, pm, an, cdv, ct, osl, rfl, lk, hcd, _, _⟩ := h.ex
  refine ⟨fun A outer s H args us vs Q E room grd e0 bd r q => ?_⟩
  obtain ⟨t, pt, rt⟩ := (hb E (bodyX_ctx P w K mg base N E) (fun i => takes_of rfl rfl rfl rfl)).go
  obtain ⟨W, M, ds, o, rfl, a2, a3, a4, a5, a6⟩ := q
  have hl : vs.length = ps.length := a3.len.trans a4
  have KX : K.In s.heap := e0.mod.kin.keeps fun b o e => (e0.bs b o e).1
  have lim : s.heap.NoLimit := e0.mod.nolimit.keeps fun b o e => (e0.bs b o e).1
  have knd : ∀ y ∈ ps.zip us, scope.names.lookup y.1 = some .local ∨ (scope.names.lookup y.1 = some .cell ∧ ((cellsFrom (s.heap.objs.size + 1) scope.names []).lookup y.1).isSome = true) := fun y hy => by
    rcases Sc.par y.1 (List.of_mem_zip (a := y.1) (b := y.2) hy).1 with q | q
    · exact .inl q
    · exact .inr ⟨q, PySem.W.cellsFrom_some _ _ _ (.inl q)⟩
  refine codeAny_call_function room.depth (KX _ _ lk) rfl Sc.co Sc.gen rfl (PySem.W.codeRec_of KX hcd) (bd _ _ _ _ ?_)
  refine wpAny_newFunctionEnv_cells Sc.kind knd fun env he s1 xc => ?_
  subst he
  refine ⟨lim.keeps xc.toInCall.keep, codeAny_func ?_⟩
  have J : Inv (cxOf (L2.CX P w) P w K mg base N qual scope f cdv A outer s W.H E) [] (L2.start N vs) W.H s1 := inv_start Sc room.hd e0 hl r xc
  have ht := pt ⟨cdv, A, outer, s, W.H, room.deeper _, grd⟩
  have q2 : t { nx := fun _ H' => Q .non H', rt := Q } (L2.start N vs) W.H := by
    unfold fnX at a5
    split at a5
    · rename_i d2 M2 h2
      cases a5
      exact rt _ W _ M _ _ a2 (slots_start a3) h2 a6
    · rename_i δ2 M2 h2
      cases a5
      exact rt _ W _ M _ _ a2 (slots_start a3) h2 fun σ' W' l o s' => a6 .non W' l o .non
    · rename_i y δ2 M2 h2
      cases a5
      exact rt _ W _ M _ _ a2 (slots_start a3) h2 fun C σ' W' m l o s' => a6 C W' m l o
    · cases a5
  refine wpAny_mono (ht.run [] s1 (L2.start N vs) W.H _ J q2) (fun fl s' hs => ?_) fun e s' hs => hs
  have fin : ∀ {σ' : St} {H' : Hp} {v : V} {u : Value}, Inv (cxOf (L2.CX P w) P w K mg base N qual scope f cdv A outer s W.H E) [] σ' H' s' → RelV v u → Q v H' → CE outer P w W.H s Q u s' :=
    fun {σ' H' v u} J rv q => ⟨v, H', J.os, J.bare, J.base, J.hok, rv, q⟩
  match fl, hs with
  | .ret u, ⟨v, σ', H', J2, rv, q3⟩ => exact fin J2 rv q3
  | .next, ⟨σ', H', J2, q3⟩ => exact fin (v := V.non) (u := Value.none) J2 rfl q3
  | .brk, ⟨_, _, _, q3⟩ => exact False.elim q3
  | .cont, ⟨_, _, _, q3⟩ => exact False.elim q3
end Pl

/-! PlT: what was caught is kept. -/
namespace L2
open PySem PySem.Spec PyProof.Rows
section
variable {X : Cx} {pins : List (Addr × Obj)} {σ : St} {H : Hp} {s : Shared}
/-- an object that stands there already is told of from here on -/
theorem Inv.told {a : Addr} {o : HO} (I : Inv X pins σ H s) (hn : H a = none) (h0 : X.s_0.heap.get? a = none) (hL : a ≠ X.env.locals) (hC : ∀ x c, X.env.cells.lookup x = some c → c ≠ a) (hP : ∀ p ∈ X.pn ++ pins, p.1 ≠ a)
    (new : ObjOk X.prog X.w (upd H a o) s.heap a o) : Inv X pins σ (upd H a o) s := by
  have ne0 : ∀ b u, X.s_0.heap.get? b = some u → b ≠ a := fun b u e z => by
    rw [z, h0] at e
    cases e
  have neH : ∀ b u, H b = some u → b ≠ a := fun b u e z => by
    rw [z, hn] at e
    cases e
  refine ⟨I.ok, I.os, I.bare, ⟨I.base.keep, I.base.slot, fun b u e n hx => ?_, I.base.there, fun b xs e => ?_, fun b u xs e => ?_, fun b ps e => ?_⟩, I.loc, I.cell, ?_, fun x c e => ?_, fun p hp => ?_, fun b u e => ?_, I.len⟩
  · rw [upd_ne (ne0 b u e)]
    exact I.base.free b u e n hx
  · have q := I.base.tups b xs e
    rw [upd_ne (neH _ _ q)]
    exact q
  · have q := I.base.frzs b u xs e
    rw [upd_ne (neH _ _ q)]
    exact q
  · obtain ⟨m, q⟩ := I.base.tbls b ps e
    exact ⟨m, by rw [upd_ne (neH _ _ q)]; exact q⟩
  · rw [upd_ne (fun z => hL z.symm)]
    exact I.free
  · rw [upd_ne (hC x c e)]
    exact I.freeC x c e
  · obtain ⟨q1, q2, q3⟩ := I.pin p hp
    exact ⟨q1, by rw [upd_ne (hP p hp)]; exact q2, q3⟩
  · by_cases hb : b = a
    · subst hb
      rw [upd_same] at e
      cases e
      exact new
    · rw [upd_ne hb] at e
      exact (I.hok b u e).stay (fun c v _ q => q) (fun c q => by rw [upd_ne (neH _ _ q)]; exact q) fun c xs q => by rw [upd_ne (neH _ _ q)]; exact q
end
open Pl in
/-- the ends of a suite behind which the caught one is kept -/
def endK (C a : Addr) (i : Nat) (D : Ends) : Ends :=
  { nx := fun σ' H' => H' a = none → D.nx (σ'.set i none) (upd H' a (Pl.ExV C a)), rt := fun v H' => H' a = none → D.rt v (upd H' a (Pl.ExV C a)), bk := fun σ' H' => H' a = none → D.bk (σ'.set i none) (upd H' a (Pl.ExV C a)), ct := fun σ' H' => H' a = none → D.ct (σ'.set i none) (upd H' a (Pl.ExV C a)) }
/-- what the clause wishes -/
def wKeep (K : PySem.W.Frag) (c : Value) (i : Nat) (ts : TS) (Wout : WX) (D : Ends) : WX := fun cls d σ H =>
  ∃ b, PySem.W.exmOne K cls c = some b ∧ (b = true → d = none ∧ ∃ C, cls = .ref C ∧ ∀ a, H a = none → ts (endK C a i D) (σ.set i (some (.ref a))) H) ∧ (b = false → Wout cls d σ H)
section
variable {X : Cx} {x n : Str} {c : Value} {i : Nat} {body suite : List Stmt} {b₀ : Stmt} {np pos pos' : Pos} {tb : WX → TS} {ts : TS} {Wout : WX}
theorem ps_try_keep (hs : X.stack = X.env :: X.outer) (hf : X.env.frame = some X.env.locals) (hex : X.ex = []) (hN : X.N.Nodup) (hi : X.N[i]? = some n) (hln : X.env.kindOf n = some .local) (hc : Names X x c) (tk : Takes X Wout)
    (hb : ∀ (W : WX) (pn : List (Addr × Obj)) (xe : Value → Shared → Prop), Takes (X.tr pn xe) W → PassesOwn (model X.prog X.w) X.A X.env xe → PSs (X.tr pn xe) body (tb W))
    (hsu : ∀ (a : Addr) (obE : Obj) (pn : List (Addr × Obj)), PSs (X.suite a ((a, obE) :: pn)) (b₀ :: suite) ts) :
    PS X (.Try body [.ExceptHandler (some (.Name x np)) (some n) (b₀ :: suite) pos'] [] [] pos) (fun D σ H => tb (wKeep X.K c i ts Wout D) D σ H) := by
  refine ⟨fun pins s σ H D I h => ?_⟩
  have ok := I.ok
  have frE : X.A.frames = some (X.env :: X.outer) := by rw [ok.frames, hs]
  have locE : Loc X.env.scope n := .inl hln
  refine wpAny_Try_except ?_
  refine wpAny_mono ((hb (wKeep X.K c i ts Wout D) (X.pn ++ pins) (fun e s₁ => wpAny (model X.prog X.w) X.A (noteFrame e X.env) (fun _ s₂ => wpAny (model X.prog X.w) X.A (setFlight e none) (fun _ s₃ =>
    wpAny (model X.prog X.w) X.A (handleBy e X.env [.ExceptHandler (some (.Name x np)) (some n) (b₀ :: suite) pos']) (SP X pins D) X.xe s₃) X.xe s₂) X.xe s₁) (fun u s' xx => ?_) PassesOwn.looking).run [] s σ H D (I.toTry _) h) (fun f s1 hend => ?_) (fun e s1 he => he)
  · obtain ⟨a, B, sI, pins', σ', H', cls, d, rfl, Jz, nb, up, sky, naA, os, ag, b, hb1, hyes, hno⟩ := xx
    have Ja : Inv X pins σ' H' sI := Jz.ofTry ok
    have skyT : Sky B (X.env :: X.outer) a (Zc cls d) X.env.locals s'.heap := by rw [← hs]; exact sky
    show wpAny (model X.prog X.w) X.A (noteFrame (.ref a) X.env) _ _ _
    refine Sky.land Zc.steady frE hf skyT fun hp3 fly3 mor3 => ?_
    have Jb : Inv X pins σ' H' { s' with heap := hp3 } := Ja.landed nb fly3.1 (up.trans mor3) os ag
    obtain ⟨ob3, fv3, at3, zc3, dt3⟩ := fly3.there
    have offFr : ∀ {h : Heap} {o : Obj} {vs : Array Value}, h.FunFrames B (X.env :: X.outer) → h.get? a = some o → o.data = .fields vs → a ∉ frs (X.env :: X.outer) := fun {h o vs} ff e dd mem_ => by
      obtain ⟨_, o', e', hnA⟩ := ff.mem mem_
      rw [e] at e'; cases e'
      exact hnA _ dd
    have nfrA := offFr fly3.2.2.1 at3 dt3
    have nLoc : a ≠ X.env.locals := fun z => nfrA (List.mem_filterMap.mpr ⟨X.env, List.mem_cons_self, by rw [hf, z]⟩)
    have nFs : a ∉ X.fs := fun mem_ => by
      obtain ⟨e, he, q⟩ := List.mem_filterMap.mp mem_
      exact nfrA (List.mem_filterMap.mpr ⟨e, List.mem_cons_of_mem _ he, q⟩)
    have nI : sI.heap.get? a = none := by
      cases e : sI.heap.get? a with
      | none => rfl
      | some o =>
        have z := nb a o e (by rw [hs]; exact nfrA)
        rw [fly3.2.1] at z
        cases z
    have nbA : X.s_0.heap.get? a = none := by
      cases e : X.s_0.heap.get? a with
      | none => rfl
      | some o =>
        obtain ⟨o', z⟩ := Ja.base.there a o e (by rw [hex]; exact fun z => nomatch z)
        rw [nI] at z
        cases z
    have nP : ∀ p ∈ X.pn ++ pins, p.1 ≠ a := fun p hp z => by
      have q := (Ja.pin p hp).1
      rw [z, nI] at q
      cases q
    have Sb := Jb.suite at3 dt3 naA nLoc nFs
    refine wpAny_handleBy_cons (codeAny_handlers_test ?_) (by intro q; cases q)
    have LtT : PySem.W.Looks (model X.prog X.w) hp3 (typeOf (.ref a)) cls := fun A Q E s k q => wpAny_typeOf_ref (k _ _ at3) (by rw [zc3.1]; exact q)
    have LmT := PySem.W.exm_one (M := model X.prog X.w) (Jb.kIn) LtT hb1
    have tstT : ∀ {Q : Value → Shared → Prop} {E : Value → Shared → Prop}, Q c { s' with heap := hp3 } → wpAny (model X.prog X.w) (X.A.mark (some (.ref a))) (eval (.Name x np) X.env) Q E { s' with heap := hp3 } := fun {Q E} q => by
      obtain ⟨hg, hdbg, mem_ | ⟨mem_, hv, hnn⟩⟩ := hc
      · exact ld_glob (X := X.suite a ((a, ob3) :: (X.pn ++ pins))) Sb hg mem_ q hdbg
      · exact ld_blt (X := X.suite a ((a, ob3) :: (X.pn ++ pins))) Sb hg mem_ hv q hnn hdbg
    refine tstT (LmT.here ?_)
    cases b with
    | true =>
      obtain ⟨rfl, C, rfl, hy⟩ := hyes rfl
      refine codeAny_handlers_suite_as ?_
      refine HandSPX.lands_againZ fly3 fun hp4 fly4 mor4 => ?_
      have Jc : Inv X pins σ' H' { s' with heap := hp4 } := Ja.landed nb fly4.1 ((up.trans mor3).trans mor4) os ag
      obtain ⟨ob4, fv4, at4, zc4, dt4⟩ := fly4.there
      have Sc := Jc.suite at4 dt4 naA nLoc nFs
      refine store_ok (X := X.suite a ((a, ob4) :: (X.pn ++ pins))) (v := .ref a) Sc hN hi locE rfl (fun sd Sd => ?_) (.inr hln)
      refine wpAny_mono ((hsu a ob4 (X.pn ++ pins)).run [] sd _ H' _ Sd (hy a naA)) (fun f s6 hend => ?_) (fun _ _ z => False.elim z)
      have end_ : ∀ {σe : St} {He : Hp} {Q : Shared → Prop}, Inv (X.suite a ((a, ob4) :: (X.pn ++ pins))) [] σe He s6 → (∀ s7, He a = none → Inv X pins (σe.set i none) (upd He a (Pl.ExV C a)) s7 → Q s7) →
          wpAny (model X.prog X.w) X.A (do bindName X.env n .none; unbindBehindTheSuite X.env n pos') (fun _ s7 => Q s7) X.xe s6 := fun {σe He Q} Se hq => by
        obtain ⟨ga, gn, _⟩ := Se.pin (a, ob4) (List.mem_append.mpr (.inl List.mem_cons_self))
        have J6 := Se.unsuite ok
        have hC : ∀ x c, X.env.cells.lookup x = some c → c ≠ a := fun x c e z => by
          obtain ⟨v, o, ho, hd⟩ := J6.cell x c e
          rw [z, ga] at ho
          cases ho
          rw [dt4] at hd
          cases hd
        have new : ObjOk X.prog X.w (upd He a (Pl.ExV C a)) s6.heap a (Pl.ExV C a) := ⟨⟨ob4, fv4, ga, zc4, dt4⟩, ⟨ob4, ga⟩, fun _ _ ⟨o, v, q, r⟩ k => ⟨o, v, k o q, r⟩⟩
        exact gone_ok (J6.told gn nbA nLoc hC nP new) hN hi hln fun s7 J7 => hq s7 gn J7
      cases f with
      | next =>
        obtain ⟨σe, He, Se, qe⟩ := hend
        exact end_ Se fun s7 gn J7 => ⟨_, _, J7, qe gn⟩
      | brk =>
        obtain ⟨σe, He, Se, qe⟩ := hend
        exact end_ Se fun s7 gn J7 => ⟨_, _, J7, qe gn⟩
      | cont =>
        obtain ⟨σe, He, Se, qe⟩ := hend
        exact end_ Se fun s7 gn J7 => ⟨_, _, J7, qe gn⟩
      | ret u =>
        obtain ⟨ve, σe, He, Se, re, qe⟩ := hend
        exact end_ Se fun s7 gn J7 => ⟨_, _, _, J7, re, qe gn⟩
    | false =>
      show wpAny _ X.A (handleBy (.ref a) X.env []) _ _ _
      refine wpAny_handleBy_nil ?_
      obtain ⟨k1, k2, k3, obE, vs, T, oT, ts', he, hz, hd, h1, hr⟩ := id fly3
      unfold PySem.passOn
      refine wpAny_bind (wpAny_field he hd h1 ?_)
      rw [if_neg (show ¬ ((Value.ref T == Value.none) = true) from by simp)]
      have finT : wpAny (model X.prog X.w) X.A (setFlight (.ref a) X.env.frame) (fun _ s4 => wpAny (model X.prog X.w) X.A (throw (.ref a) : Sem Flow) (SP X pins D) X.xe s4) X.xe { s' with heap := hp3 } := by
        rw [hf]
        refine HandSPX.setFlight_upZ fly3 fun hp4 hqD mor4 => wpAny_throw (tk _ _ ?_)
        exact ⟨a, B, sI, pins, σ', H', cls, d, rfl, Ja, nb, (up.trans mor3).trans mor4, .inr (.inr (by rw [hs]; exact hqD)), naA, os, ag, hno rfl⟩
      first
        | exact wpAny_bind (wpAny_pure (wpAny_bind finT))
        | exact wpAny_bind finT
  · cases f with
    | next =>
      obtain ⟨σ', H', Jz, q⟩ := hend
      exact wpAny_execs_nil ⟨σ', H', Jz.ofTry ok, q⟩
    | brk =>
      obtain ⟨σ', H', Jz, q⟩ := hend
      exact ⟨σ', H', Jz.ofTry ok, q⟩
    | cont =>
      obtain ⟨σ', H', Jz, q⟩ := hend
      exact ⟨σ', H', Jz.ofTry ok, q⟩
    | ret u =>
      obtain ⟨v, σ', H', Jz, r, q⟩ := hend
      exact ⟨v, σ', H', Jz.ofTry ok, r, q⟩
end
end L2

/-! PlK: a try that keeps what it caught; isinstance of that. -/
namespace Pl
open PySem L2
section
variable {I : Type} {X : I → Cx} {P : Program} {w : World} {K : PySem.W.Frag} {mg : Str → Option Value} {base : Heap} {k : Nat}
/-- one more place, nothing alive there -/
def Wd.ix1 (W : Wd) (a : Addr) : Wd := ⟨W.H, W.B, W.ι ++ [a], W.P⟩
theorem Wd.ix1_le {W : Wd} {a : Addr} : W.Le (W.ix1 a) := ⟨fun _ _ h => h, ⟨[a], rfl⟩, rfl⟩
theorem Wd.ix1_live {W : Wd} {M : Mh} {a : Addr} (w : W.Ok K M) : ∀ n b o, Live (W.ix1 a) (M ++ [.dead]) n b o → Live W M n b o := fun n b o ⟨h1, h2, h3⟩ => by
  by_cases hn : n < M.length
  · rw [List.getElem?_append_left hn] at h2
    have h1' : (W.ι ++ [a])[n]? = some b := h1
    rw [List.getElem?_append_left (by rw [w.len]; exact hn)] at h1'
    exact ⟨h1', h2, h3⟩
  · have e : n = M.length := by
      have := (List.getElem?_eq_some_iff.mp h2).1
      rw [List.length_append] at this
      simp at this
      omega
    subst e
    rw [List.getElem?_append_right (Nat.le_refl _)] at h2
    simp at h2
    exact absurd h2.symm h3
theorem Wd.ix1_ok {W : Wd} {M : Mh} {a : Addr} (w : W.Ok K M) : (W.ix1 a).Ok K (M ++ [.dead]) :=
  ⟨w.sub, w.pin, by
    show (W.ι ++ [a]).length = _
    simp [w.len], fun n b o h => by
    obtain ⟨h1, h2, u, h3, h4⟩ := w.live n b o (Wd.ix1_live w n b o h)
    exact ⟨h1, h2, u, h3, h4.mono (fun _ _ q => q) Wd.ix1_le.ix⟩, fun n m b o u h g => w.inj n m b o u (Wd.ix1_live w n b o h) (Wd.ix1_live w m b u g)⟩
/-- the caught one stands there from here on -/
def Wd.wake (W : Wd) (a : Addr) (o : HO) : Wd := ⟨upd W.H a o, W.B, W.ι, W.P⟩
theorem Wd.wake_le {W : Wd} {a : Addr} {o : HO} : W.Le (W.wake a o) := ⟨fun _ _ h => h, ⟨[], by simp [Wd.wake]⟩, rfl⟩
theorem Wd.wake_ok {W : Wd} {M : Mh} {a : Addr} {n : Nat} {o : HO} {m : MO} (w : W.Ok K M) (hn : n < M.length) (hι : W.ι[n]? = some a) (hH : W.H a = none) (r : RepO K W.B W.ι a o m) : (W.wake a o).Ok K (M.set n m) := by
  have hB := w.bnone hH
  have hP := w.pnone hH
  have lv : ∀ k b u, Live (W.wake a o) (M.set n m) k b u → (k = n ∧ b = a ∧ u = m) ∨ (k ≠ n ∧ Live W M k b u) := fun k b u ⟨h1, h2, h3⟩ => by
    by_cases e : n = k
    · subst e
      rw [List.getElem?_set_self hn] at h2
      have e1 : some b = some a := (show W.ι[n]? = some b from h1).symm.trans hι
      cases e1
      cases h2
      exact .inl ⟨rfl, rfl, rfl⟩
    · rw [List.getElem?_set_ne e] at h2
      exact .inr ⟨fun z => e z.symm, h1, h2, h3⟩
  have ne : ∀ {k b u}, Live W M k b u → b ≠ a := fun {k b u} h e => by
    obtain ⟨_, _, g, hg, _⟩ := w.live k b u h
    rw [e, hH] at hg
    cases hg
  refine ⟨fun b u h => ?_, fun b u h => ?_, by rw [List.length_set]; exact w.len, fun k b u h => ?_, fun k j b u v h g => ?_⟩
  · exact (upd_ne (fun e => by
      rw [e] at h
      have h' : W.B a = some u := h
      rw [hB] at h'
      cases h')).trans (w.sub b u h)
  · have q := w.pin b u h
    exact ⟨(upd_ne (fun e => by
      rw [e] at h
      have h' : W.P a = some u := h
      rw [hP] at h'
      cases h')).trans q.1, q.2⟩
  · rcases lv k b u h with ⟨rfl, rfl, rfl⟩ | ⟨_, h⟩
    · exact ⟨hB, hP, o, upd_same, r⟩
    · obtain ⟨h1, h2, g, h3, h4⟩ := w.live k b u h
      exact ⟨h1, h2, g, (upd_ne (ne h)).trans h3, h4⟩
  · rcases lv k b u h with ⟨rfl, rfl, rfl⟩ | ⟨_, h⟩
    · rcases lv j b v g with ⟨rfl, _, _⟩ | ⟨_, g⟩
      · rfl
      · exact absurd rfl (ne g)
    · rcases lv j b v g with ⟨_, e, _⟩ | ⟨_, g⟩
      · exact absurd e (ne h)
      · exact w.inj _ _ _ _ _ h g
def kp (n : Nat) (C : Addr) (M : Mh) : Option Mh := match M[n]? with
  | some .dead => some (M.set n (.exc C))
  | _ => none
def kpO (j n : Nat) (C : Addr) : Option Out → Option Out
  | some (.nx δ M) => (kp n C M).map fun M' => .nx (δ.set j none) M'
  | some (.bk δ M) => (kp n C M).map fun M' => .bk (δ.set j none) M'
  | some (.ct δ M) => (kp n C M).map fun M' => .ct (δ.set j none) M'
  | some (.rt d M) => (kp n C M).map fun M' => .rt d M'
  | none => none
def sTryK (tb : Str → Option Addr) (j : Nat) (fb : XF) (fs : SF) : SF := fun δ M => match fb δ M with
  | some (.ok o) => some o
  | some (.ex y δ' M') => (match tb y with
    | some C => kpO j M'.length C (fs (δ'.set j (some (.ref M'.length))) (M' ++ [.dead]))
    | none => none)
  | none => none
theorem kp_some {n : Nat} {C : Addr} {M M' : Mh} (h : kp n C M = some M') : n < M.length ∧ M' = M.set n (.exc C) := by
  unfold kp at h
  split at h
  · rename_i hd
    cases h
    exact ⟨(List.getElem?_eq_some_iff.mp hd).1, rfl⟩
  · cases h
theorem Slots.ix1 {W : Wd} {σ : St} {δ : Env} (s : Slots K W σ δ) {a : Addr} {M : Mh} (w : W.Ok K M) (j : Nat) : Slots K (W.ix1 a) (σ.set j (some (.ref a))) (δ.set j (some (.ref M.length))) :=
  (s.le Wd.ix1_le).set (.ref (by
    show (W.ι ++ [a])[M.length]? = some a
    rw [← w.len]
    simp)) j
theorem DS.tryKeep (j : Nat) (c : Ctx X P w K mg base k) {x n : Str} {body suite : List Stmt} {b₀ : Stmt} {np pos pos' : Pos} {CH : Addr} {fb : XF} {fs : SF} {tb : Str → Option Addr} (hN : ∀ i, (X i).N.Nodup) (hm : mg x = some (.ref CH))
    (hx : ∀ y C, tb y = some C → mg y = some (.ref C) ∧ PySem.W.exmOne K (.ref C) (.ref CH) = some true ∧ ExcC K C) (hb : ∀ S : WX, (∀ i, Takes (trF X S i) S) → Ctx (trF X S) P w K mg base k → DBX (trF X S) K mg S body fb) (hsu : DB (suF X) K (b₀ :: suite) fs)
    (hs : ∀ i, (X i).stack = (X i).env :: (X i).outer := by intro _; rfl) (hf : ∀ i, (X i).env.frame = some (X i).env.locals := by intro _; rfl) (hex : ∀ i, (X i).ex = [] := by intro _; rfl) (hi : ∀ i, (X i).N[j]? = some n := by intro _; rfl) (hln : ∀ i, (X i).env.kindOf n = some .local := by intro _; rfl)
    (hg : ∀ i, Gl (X i) x := by intro _; rfl) (hdb : (x == ("__debug__" : Str)) = false := by decide) :
    DS X K (.Try body [.ExceptHandler (some (.Name x np)) (some n) (b₀ :: suite) pos'] [] [] pos) (sTryK tb j fb fs) := by
  obtain ⟨ts, ps, rs⟩ := hsu.go
  have hb' := fun S : WX => (hb S (fun i => i.2.1) c.tr).go
  let tB : WX → TS := fun S => Classical.choose (hb' S)
  have pB : ∀ S i, PSs (trF X S i) body (tB S) := fun S => (Classical.choose_spec (hb' S)).1
  have rB : ∀ S, SRX K mg S (tB S) fb := fun S => (Classical.choose_spec (hb' S)).2
  refine ⟨fun D σ H => tB (wKeep K (.ref CH) j ts (fun _ _ _ _ => False) D) D σ H, fun i => ?_, fun σ W δ M o E w s e q => ?_⟩
  · have h := ps_try_keep (X := X i) (tb := tB) (ts := ts) (i := j) (pos := pos) (pos' := pos') (np := np) (hs i) (hf i) (hex i) (hN i) (hi i) (hln i) (show Names (X i) x (.ref CH) from ⟨hg i, hdb, .inl (by rw [c.mg i]; exact hm)⟩) (takes0) (fun S pn xe tk po => pB S ⟨(i, pn, xe), tk, po⟩) (fun a oe pn => ps (i, a, oe, pn))
    rw [c.K i] at h
    exact h
  · unfold sTryK at e
    split at e
    · rename_i o' h1
      cases e
      exact rB _ σ W δ M _ E w s h1 q
    · rename_i y δ' M' h1
      split at e
      · rename_i C hy
        obtain ⟨g1, g2, g3⟩ := hx y C hy
        refine rB _ σ W δ M _ E w s h1 fun Cy σ' W' m l w' s' => ?_
        have eC : Cy = C := by
          have := m.symm.trans g1
          cases this
          rfl
        subst eC
        refine ⟨true, g2, fun _ => ⟨rfl, Cy, rfl, fun a ha => ?_⟩, fun z => by cases z⟩
        have fin : ∀ {W3 : Wd} {M2 M3 : Mh}, (W'.ix1 a).Le W3 → W3.Ok K M2 → W3.H a = none → kp M'.length Cy M2 = some M3 → (W3.wake a (ExV Cy a)).Ok K M3 := fun {W3 M2 M3} l3 w3 h3 k3 => by
          obtain ⟨kn, rfl⟩ := kp_some k3
          exact Wd.wake_ok w3 kn (l3.ix _ _ (by
            show (W'.ι ++ [a])[M'.length]? = some a
            rw [← w'.len]
            simp)) h3 (.exc g3)
        have lw : ∀ {W3 : Wd}, (W'.ix1 a).Le W3 → W.Le (W3.wake a (ExV Cy a)) := fun {W3} l3 => ((l.trans Wd.ix1_le).trans l3).trans Wd.wake_le
        show ts (endK Cy a j E) (σ'.set j (some (.ref a))) (W'.ix1 a).H
        generalize hf0 : fs (δ'.set j (some (.ref M'.length))) (M' ++ [.dead]) = fo at e
        match fo, e with
        | some (.nx d2 M2), e =>
          obtain ⟨M3, e3, rfl⟩ := Option.map_eq_some_iff.mp e
          exact rs _ (W'.ix1 a) _ _ _ _ (Wd.ix1_ok w') (s'.ix1 w' j) hf0 fun σ3 W3 l3 w3 s3 h3 => q _ (W3.wake a (ExV Cy a)) (lw l3) (fin l3 w3 h3 e3) ((s3.hide j none).le Wd.wake_le)
        | some (.bk d2 M2), e =>
          obtain ⟨M3, e3, rfl⟩ := Option.map_eq_some_iff.mp e
          exact rs _ (W'.ix1 a) _ _ _ _ (Wd.ix1_ok w') (s'.ix1 w' j) hf0 fun σ3 W3 l3 w3 s3 h3 => q _ (W3.wake a (ExV Cy a)) (lw l3) (fin l3 w3 h3 e3) ((s3.hide j none).le Wd.wake_le)
        | some (.ct d2 M2), e =>
          obtain ⟨M3, e3, rfl⟩ := Option.map_eq_some_iff.mp e
          exact rs _ (W'.ix1 a) _ _ _ _ (Wd.ix1_ok w') (s'.ix1 w' j) hf0 fun σ3 W3 l3 w3 s3 h3 => q _ (W3.wake a (ExV Cy a)) (lw l3) (fin l3 w3 h3 e3) ((s3.hide j none).le Wd.wake_le)
        | some (.rt d2 M2), e =>
          obtain ⟨M3, e3, rfl⟩ := Option.map_eq_some_iff.mp e
          exact rs _ (W'.ix1 a) _ _ _ _ (Wd.ix1_ok w') (s'.ix1 w' j) hf0 fun v W3 l3 w3 r3 h3 => q v (W3.wake a (ExV Cy a)) (lw l3) (fin l3 w3 h3 e3) (r3.le Wd.wake_le)
        | none, e => cases e
      · cases e
    · cases e
/-! ### isinstance of what is kept -/
theorem GV.cls {x : Str} {C : Addr} (h : mg x = some (.ref C)) : GV K mg x (.ob C) := ⟨.ref C, .ref C, h, rfl, fun _ _ => .ob _⟩
def clV : D → Option Value
  | .ob c => some (.ref c)
  | .ty t => some (.type t)
  | _ => none
def gIsiE (isa : Addr → Value → Option Bool) : GL := fun ds M => match ds with
  | [.ref n, c] => (match M[n]?, clV c with
    | some (.exc C), some cv => (match isa C cv with
      | some b => some (.bl b, M)
      | none => none)
    | _, _ => gIsi [.ref n, c] M)
  | ds => gIsi ds M
def rIsiE (K : PySem.W.Frag) (xs : List V) (H : Hp) (Q : VK) : Prop := ∃ a C c cv b, xs = [.ref a, c] ∧ H a = some (ExV C a) ∧ ExcC K C ∧ (∀ u, RelV c u → u = cv) ∧ PySem.W.kitOne K (.ref C) cv = some b ∧ Q (.bl b) H
theorem call_isiE {Y : Cx} : CallR Y (.builtin "isinstance") (rIsiE Y.K) := fun pins s σ H xs us Q J r h => by
  obtain ⟨a, D, c, cv, b, rfl, hH, E, hcv, e, q⟩ := h
  cases r with
  | cons rx rr =>
    cases rr with
    | cons rt rr =>
      cases rr
      cases rx
      have ec := hcv _ rt
      subst ec
      obtain ⟨⟨oe, vs, hget, hz, hv⟩, _, _⟩ := J.hok a _ hH
      have I : PySem.W.InstAt s.heap a oe D none := by
        obtain ⟨oc, od, oda, osl⟩ := oe
        obtain ⟨h1, h2⟩ := hz
        dsimp only at h1 h2 hv
        subst h1 h2 hv
        exact ⟨hget, rfl, rfl, trivial⟩
      exact PySem.W.kia_one (PySem.W.handS_kitx_exc E.hg E.hk E.hs E.hd E.ha E.hn E.ht E.hm) J.kIn I e (fun z => nomatch z) fun tk => ⟨.bl b, H, J.kept (t' := tk) fun _ _ z => z, rfl, q⟩
theorem cIsiE (c : Ctx X P w K mg base k) {isa : Addr → Value → Option Bool} (hi : ∀ C v b, isa C v = some b → PySem.W.kitOne K (.ref C) v = some b) : CalF X K (.builtin "isinstance") (gIsiE isa) := by
  obtain ⟨r, hr, hq⟩ := (cIsi c).go
  refine ⟨fun xs H Q => r xs H Q ∨ rIsiE K xs H Q, fun i pins s σ H xs us Q J hv h => ?_, fun W M vs ds z M' Q w rp e q => ?_⟩
  · rcases h with h | h
    · exact hr i pins s σ H xs us Q J hv h
    · refine call_isiE pins s σ H xs us Q J hv ?_
      rw [c.K i]
      exact h
  · unfold gIsiE at e
    split at e
    · rename_i n cd
      split at e
      · rename_i C cv hm hc
        split at e
        · rename_i b hb
          cases e
          cases rp with
          | cons r1 r2 =>
            cases r2 with
            | cons r2 r3 =>
              cases r3
              cases r1 with
              | ref hι =>
                obtain ⟨_, _, o, ho, ro⟩ := w.live _ _ _ ⟨hι, hm, fun z => by cases z⟩
                cases ro with
                | exc E =>
                  refine .inr ⟨_, C, _, cv, b, rfl, ho, E, fun u ru => ?_, hi _ _ _ hb, q _ W (.refl W) w (.bl _)⟩
                  cases r2 with
                  | ob a =>
                    cases hc
                    cases ru
                    rfl
                  | ty t =>
                    cases hc
                    cases ru
                    rfl
                  | _ => cases hc
        · cases e
      · exact .inl (hq W M vs _ z M' Q w rp e q)
    · exact .inl (hq W M vs _ z M' Q w rp e q)
end
/-! ### three names at once -/
section
variable {I : Type} {X : I → Cx} {P : Program} {w : World} {K : PySem.W.Frag} {mg : Str → Option Value} {base : Heap} {k : Nat}
def sPar3 (i j l : Nat) (f g h : EF) : SF := fun δ M => match f δ M with
  | some (d, M1) => (match g δ M1 with
    | some (e, M2) => (match h δ M2 with
      | some (u, M3) => some (.nx (((δ.set i (some d)).set j (some e)).set l (some u)) M3)
      | none => none)
    | none => none)
  | none => none
theorem DS.par3 (a b d : Nat) {x y z : Str} {e1 e2 e3 : Expr} {f g h : EF} {px py pz pt : Pos} {kt k2 pt2 pos} (c : Ctx X P w K mg base k) (h1 : DE X K e1 f) (h2 : DE X K e2 g) (h3 : DE X K e3 h) (hN : ∀ i, (X i).N.Nodup) (hi : ∀ i, (X i).N[a]? = some x := by intro _; rfl) (hj : ∀ i, (X i).N[b]? = some y := by intro _; rfl) (hl : ∀ i, (X i).N[d]? = some z := by intro _; rfl)
    (hij : a ≠ b := by decide) (hil : a ≠ d := by decide) (hjl : b ≠ d := by decide) (hx : ∀ i, (X i).env.scope.names.lookup x = some .local := by intro _; rfl) (hy : ∀ i, (X i).env.scope.names.lookup y = some .local := by intro _; rfl) (hz : ∀ i, (X i).env.scope.names.lookup z = some .local := by intro _; rfl)
    (hw : ∀ i, swappedStores [.Tuple [.Name x px, .Name y py, .Name z pz] kt pt] (.Tuple [e1, e2, e3] k2 pt2) (X i).env = pure (some [x, y, z]) := by intro _; rfl)
    (hs : ∀ i, swapsWithSole [.Tuple [.Name x px, .Name y py, .Name z pz] kt pt] (.Tuple [e1, e2, e3] k2 pt2) pos.line (X i).env = pure false := by intro _; rfl)
    (he1 : ∀ i, starEach [e1, e2, e3] (X i).env = (false, eval e1 (X i).env) :: starEach [e2, e3] (X i).env := by intro _; rfl) (he2 : ∀ i, starEach [e2, e3] (X i).env = (false, eval e2 (X i).env) :: starEach [e3] (X i).env := by intro _; rfl) (he3 : ∀ i, starEach [e3] (X i).env = (false, eval e3 (X i).env) :: starEach [] (X i).env := by intro _; rfl) :
    DS X K (.Assign [.Tuple [.Name x px, .Name y py, .Name z pz] kt pt] (.Tuple [e1, e2, e3] k2 pt2) pos) (sPar3 a b d f g h) := by
  obtain ⟨ta, pa, ra⟩ := h1.go
  obtain ⟨tb, pb, rb⟩ := h2.go
  obtain ⟨tc, pc, rc⟩ := h3.go
  refine ⟨tPar3 a b d (tCons ta (tCons tb (tCons tc tNil))), fun i => ps_par3 (c.calm i) (hN i) (hi i) (hj i) (hl i) hij hil hjl (hx i) (hy i) (hz i) (pa_cons (pa i) (pa_cons (pb i) (pa_cons (pc i) pa_nil (he3 i)) (he2 i)) (he1 i)) (hw i) (hs i), fun σ W δ M o E w s e q => ?_⟩
  unfold sPar3 at e
  split at e
  · rename_i d1 M1 h1
    split at e
    · rename_i d2 M2 h2
      split at e
      · rename_i d3 M3 h3
        cases e
        refine ra σ W δ M d1 M1 _ w s h1 fun v W1 l1 w1 r1 => ?_
        refine rb σ W1 δ M1 d2 _ _ w1 (s.le l1) h2 fun u W2 l2 w2 r2 => ?_
        refine rc σ W2 δ M2 d3 _ _ w2 (s.le (l1.trans l2)) h3 fun t W3 l3 w3 r3 => ?_
        exact ⟨v, u, t, rfl, q _ W3 ((l1.trans l2).trans l3) w3 ((((s.le ((l1.trans l2).trans l3)).set (r1.le (l2.trans l3)) a).set (r2.le l3) b).set r3 d)⟩
      · cases e
    · cases e
  · cases e
end
/-! ### what isinstance says of an own exception -/
theorem kit_own {K : PySem.W.Frag} {Y X : Addr} {b : Bool} (hd : PySem.W.hasDictIn K X = true) (ht : PySem.W.typeIn K (.ref X) = some (.type "type")) (hy : PySem.W.subIn K (.ref Y) (.ref Y) = some true) (hs : PySem.W.subIn K (.ref Y) (.ref X) = some b) : PySem.W.kitOne K (.ref Y) (.ref X) = some b := by
  unfold PySem.W.kitOne
  by_cases e : (Value.ref Y == Value.ref X) = true
  · rw [if_pos e]
    have e2 : Y = X := Value.ref.inj (beq_iff_eq.mp e)
    subst e2
    rw [hy] at hs
    exact hs
  · rw [if_neg e]
    obtain ⟨cd, hc, _⟩ := PySem.W.any_some hd
    have c : ((PySem.W.clsIn K X).isSome && PySem.W.typeIn K (.ref X) == some (.type "type")) = true := by
      rw [hc, ht]
      rfl
    show (if ((PySem.W.clsIn K X).isSome && PySem.W.typeIn K (.ref X) == some (.type "type")) = true then PySem.W.subIn K (.ref Y) (.ref X) else none) = _
    rw [if_pos c]
    exact hs
theorem kit_bt {K : PySem.W.Frag} {Y : Addr} {T : String} {b : Bool} (hm : PySem.W.kitMeta T = true) (hs : PySem.W.subIn K (.ref Y) (.type T) = some b) : PySem.W.kitOne K (.ref Y) (.type T) = some b := by
  unfold PySem.W.kitOne
  rw [if_neg (show ¬ ((Value.ref Y == Value.type T) = true) from fun z => by have := beq_iff_eq.mp z; cases this)]
  show (if PySem.W.kitMeta T = true then PySem.W.subIn K (.ref Y) (.type T) else none) = _
  rw [if_pos hm]
  exact hs
/-! ### the law's head, its meaning told by where the classes stand -/
theorem walk_ofX {l : PySem.W.OpenLaw} {n k : Nat} {q : Program} {loose : List Str} {XP : (Str → Option Value) → Heap → Prop} {YP : World → Heap → Prop} {d : DefRec} {K : Params → PySem.W.Frag} {x : Str}
    (hn : l.most = some n) (hn2 : n ≤ sizeLine) (hdf : d.params.defaults = []) (room : Room k PySem.callerA) (hY : ∀ (w : World) (h : Heap), YP w h → (K w.params).In h)
    (hF : ∀ (w : World) (mg : Str → Option Value) (fa : Addr) (h : Heap), (K w.params).In h → h.Ns mainGlobals mg → mg d.name = some (.ref fa) →
      ∃ (fd : FuncData) (F : Fn), (∀ (s : Shared) (u : Value), BindsTo s fd ⟨[u], []⟩ [(x, u)]) ∧ (∀ base : Heap, (K w.params).In base → base.Ns mainGlobals mg → DFn l.prog w (K w.params) mg base k fa fd [x] F) ∧
        ∀ ns : List Int, ns.length ≤ n → ∃ M', F [.lsk (ns.map D.int)] [] = some (.bl true, M')) :
    PySem.W.WalkO q loose XP YP l.row.toRowW d [] (fun f vs => PySem.call f vs) :=
  Att.attach_call hn hdf fun w _ t₁ mg _ fa _ _ _ _ a us ns G Y _ _ _ hmg obj isv len gn => by
    have kin := hY w _ Y
    obtain ⟨fd, F, hb, h, tru⟩ := hF w mg fa _ kin G.T.g hmg
    exact law_callD kin G.T.g G.T.b G.T.builtins G.T.nolimit gn obj isv (Nat.le_trans len hn2) room h hb (tru ns len)
end Pl

namespace PySem
open Sem (wp)
abbrev IsZipU (h : Heap) (zp TI TO : Addr) (f0 : Value) (b : Bool) : Prop := h.get? zp = some { cls := .type "zip", data := .fields #[f0, .bool b, .bool false, .ref TI, .ref TO] }
section
variable {prog : Program} {w : World} {A : Around} {E : Value → Shared → Prop} {s : Shared} {zp TI TO i1 i2 : Addr} {fp1 fp2 : List Addr} {n1 n2 i : Nat} {P1 P2 : Nat → Value → Prop} {St1 St2 : Nat → Heap → Prop} {a1 a2 : Value}
theorem wpAny_loadAlive {M : Model} {a : Addr} {Q : Option Obj → Shared → Prop} (h : Q (s.heap.get? a) s) : wpAny M A (loadIfAlive a) Q E s := fun _ _ _ => h
theorem owned_used {T0 : Addr} {b : Bool} {Q : Bool → Shared → Prop} (hz : IsZipU s.heap zp TI TO (rawInt T0) b) (hT0 : ∃ o, s.heap.get? T0 = some o)
    (h : ∀ h', IsZipU h' zp TI TO (rawInt T0) true → Heap.SameBut zp s.heap h' → Q false { s with heap := h' }) : wpAny (model prog w) A (Builtin.SmallTypes.ownedTupleIsFree (.ref zp)) Q E s := by
  obtain ⟨hA, g, d, ta, os⟩ := s
  obtain ⟨oT, hT0⟩ := hT0
  unfold Builtin.SmallTypes.ownedTupleIsFree
  refine wpAny_bind (wpAny_field hz rfl (x := rawInt T0) rfl ?_)
  show wpAny _ _ (loadIfAlive (Int.toNat (T0 : Int)) >>= _) _ _ _
  refine wpAny_bind (wpAny_loadAlive ?_)
  rw [Int.toNat_natCast]
  show wpAny _ _ (if (Option.isNone (hA.get? T0)) = true then _ else _) _ _ _
  rw [show hA.get? T0 = some oT from hT0, if_neg (by simp)]
  refine wpAny_bind (wpAny_field hz rfl (x := .bool b) rfl ?_)
  cases b with
  | true =>
    show wpAny _ _ (pure false) _ _ _
    exact wpAny_pure (h hA hz (Heap.SameBut.refl _ _))
  | false =>
    show wpAny _ _ (setField (.ref zp) 1 (.bool true) >>= fun _ => pure false) _ _ _
    refine wpAny_bind (wpAny_setField_rec hz (by simp) fun h₁ hz₁ hs₁ => wpAny_pure ?_)
    exact h h₁ hz₁ hs₁
theorem zipU_next_item {T0 : Addr} {b : Bool} {Q : Value → Shared → Prop} (S : ZipSep2 zp TI TO i1 i2 fp1 fp2) (D1 : Draws prog w A i1 fp1 n1 P1 St1) (D2 : Draws prog w A i2 fp2 n2 P2 St2)
    (hz : IsZipU s.heap zp TI TO (rawInt T0) b) (hT0 : ∃ o, s.heap.get? T0 = some o) (iTI : IsTupOf2 s.heap TI (.ref i1) (.ref i2)) (st1 : St1 i s.heap) (st2 : St2 i s.heap) (lt1 : i < n1) (lt2 : i < n2)
    (hQ : ∀ u1 u2 h' tk, P1 i u1 → P2 i u2 → IsZipU h' zp TI TO (rawInt T0) true → St1 (i + 1) h' → St2 (i + 1) h' → IsTupOf2 h' s.heap.objs.size u1 u2 → h'.objs.size = s.heap.objs.size + 1 →
      (∀ c o, c ≠ zp → c ≠ i1 → c ≠ i2 → s.heap.get? c = some o → h'.get? c = some o) → Q (.ref s.heap.objs.size) { s with heap := h', toks := tk }) :
    wpAny (model prog w) A (Builtin.«zip.__next__» ⟨[.ref zp], []⟩) (fun fin s' => ∃ v, fin = .done (.ret v) ∧ Q v s') E s := by
  obtain ⟨hA, g, d, ta, os⟩ := s
  show wpAny _ _ (field (.ref zp) 2 >>= _) _ _ _
  refine wpAny_bind (wpAny_field hz rfl (x := .bool false) rfl ?_)
  show wpAny _ _ (field (.ref zp) 3 >>= _) _ _ _
  refine wpAny_bind (wpAny_field hz rfl (x := .ref TI) rfl ?_)
  refine wpAny_bind (wpAny_seqItems iTI rfl ?_)
  show wpAny _ _ (Builtin.SmallTypes.ownedTupleIsFree (.ref zp) >>= _) _ _ _
  refine wpAny_bind (owned_used hz hT0 fun mA hz0 sbA => ?_)
  replace sbA : Heap.SameBut zp hA mA := sbA
  rw [if_neg Bool.false_ne_true]
  refine wpAny_bind ?_
  simp only [← Array.forIn_toList, List.forIn_cons, List.forIn_nil]
  refine wpAny_bind (wpAny_bind (wpAny_holding ?_))
  show wpAny _ _ (Builtin.SmallTypes.nextOf (.ref i1) >>= _) _ _ ⟨mA, g, d, ta, os⟩
  refine wpAny_bind (D1.item i _ _ _ lt1 (D1.over st1 sbA S.zf1) fun u1 p1 tk1 hx1 sn1 hp1 => wpAny_pure ?_)
  replace hp1 : Heap.SameBut i1 mA p1 := hp1
  refine wpAny_pure ?_
  dsimp only
  refine wpAny_bind (wpAny_bind (wpAny_holding ?_))
  show wpAny _ _ (Builtin.SmallTypes.nextOf (.ref i2) >>= _) _ _ ⟨p1, g, d, tk1, os⟩
  refine wpAny_bind (D2.item i _ _ _ lt2 (D2.over (D2.over st2 sbA S.zf2) hp1 S.sep1_2) fun u2 p2 tk2 hx2 sn2 hp2 => wpAny_pure ?_)
  replace hp2 : Heap.SameBut i2 p1 p2 := hp2
  refine wpAny_pure ?_
  dsimp only
  refine wpAny_pure ?_
  dsimp only
  refine wpAny_bind (wpAny_newTuple ?_ (by show (2 : Nat) ≤ sizeLine; decide))
  have hsz : p2.objs.size = hA.objs.size := by rw [hp2.1, hp1.1, sbA.1]
  have hzz : IsZipU p2 zp TI TO (rawInt T0) true := hp2.extBut _ _ S.zi2 (hp1.extBut _ _ S.zi1 hz0)
  have hkk : ∀ c o, c ≠ zp → c ≠ i1 → c ≠ i2 → hA.get? c = some o → p2.get? c = some o := fun c o cz c1 c2 e => hp2.extBut _ _ c2 (hp1.extBut _ _ c1 (sbA.extBut _ _ cz e))
  have hj1 : St1 (i + 1) p2 := D1.over sn1 hp2 S.sep2_1
  refine wpAny_pure ⟨_, rfl, ?_⟩
  show Q (.ref p2.objs.size) ⟨p2.push { cls := .type "tuple", data := .seq #[u1, u2] }, g, d, tk2, os⟩
  rw [hsz]
  refine hQ u1 u2 _ tk2 hx1 hx2 (Heap.get?_push_of_some _ hzz) (D1.frame _ _ _ hj1 fun b hb o e => Heap.get?_push_of_some _ e) (D2.frame _ _ _ sn2 fun b hb o e => Heap.get?_push_of_some _ e) ?_ ?_ fun c o cz c1 c2 e => Heap.get?_push_of_some _ (hkk c o cz c1 c2 e)
  · show (p2.push { cls := .type "tuple", data := .seq #[u1, u2] }).get? hA.objs.size = _
    rw [← hsz]
    exact Heap.get?_push_size _ rfl
  · show (p2.push { cls := .type "tuple", data := .seq #[u1, u2] }).objs.size = hA.objs.size + 1
    rw [Heap.size_push, hsz]
theorem zipU_next_end {T0 : Addr} {b : Bool} {Q : Fin → Shared → Prop} (S : ZipSep2 zp TI TO i1 i2 fp1 fp2) (D1 : Draws prog w A i1 fp1 n1 P1 St1) (D2 : Draws prog w A i2 fp2 n2 P2 St2)
    (hz : IsZipU s.heap zp TI TO (rawInt T0) b) (hT0 : ∃ o, s.heap.get? T0 = some o) (iTI : IsTupOf2 s.heap TI (.ref i1) (.ref i2)) (st1 : St1 i s.heap) (st2 : St2 i s.heap) (hle1 : i ≤ n1) (hle2 : i ≤ n2) (hend : i = n1 ∨ i = n2)
    (hE : ∀ h' tk e, (∀ c o, c ≠ zp → c ≠ i1 → c ≠ i2 → s.heap.get? c = some o → h'.get? c = some o) → (∃ o, h'.get? e = some o ∧ o.cls = .type "StopIteration") → E (.ref e) { s with heap := h', toks := tk }) :
    wpAny (model prog w) A (Builtin.«zip.__next__» ⟨[.ref zp], []⟩) Q E s := by
  obtain ⟨hA, g, d, ta, os⟩ := s
  show wpAny _ _ (field (.ref zp) 2 >>= _) _ _ _
  refine wpAny_bind (wpAny_field hz rfl (x := .bool false) rfl ?_)
  show wpAny _ _ (field (.ref zp) 3 >>= _) _ _ _
  refine wpAny_bind (wpAny_field hz rfl (x := .ref TI) rfl ?_)
  refine wpAny_bind (wpAny_seqItems iTI rfl ?_)
  show wpAny _ _ (Builtin.SmallTypes.ownedTupleIsFree (.ref zp) >>= _) _ _ _
  refine wpAny_bind (owned_used hz hT0 fun mA hz0 sbA => ?_)
  replace sbA : Heap.SameBut zp hA mA := sbA
  rw [if_neg Bool.false_ne_true]
  refine wpAny_bind ?_
  simp only [← Array.forIn_toList, List.forIn_cons, List.forIn_nil]
  refine wpAny_bind (wpAny_bind (wpAny_holding ?_))
  show wpAny _ _ (Builtin.SmallTypes.nextOf (.ref i1) >>= _) _ _ ⟨mA, g, d, ta, os⟩
  by_cases lt1 : i < n1
  · refine wpAny_bind (D1.item i _ _ _ lt1 (D1.over st1 sbA S.zf1) fun u1 p1 tk1 hx1 sn1 hp1 => wpAny_pure ?_)
    replace hp1 : Heap.SameBut i1 mA p1 := hp1
    refine wpAny_pure ?_
    dsimp only
    have hi2 : i = n2 := by omega
    refine wpAny_bind (wpAny_bind (wpAny_holding ?_))
    show wpAny _ _ (Builtin.SmallTypes.nextOf (.ref i2) >>= _) _ _ ⟨p1, g, d, tk1, os⟩
    refine wpAny_bind (D2.done ⟨p1, g, d, tk1, os⟩ _ _ (by rw [← hi2]; exact (D2.over (D2.over st2 sbA S.zf2) hp1 S.sep1_2)) fun q e hq he => ?_)
    replace hq : Heap.ExtBut i2 p1 q := hq
    exact hE q tk1 e (fun c o cz c1 c2 x => hq _ _ c2 (hp1.extBut _ _ c1 (sbA.extBut _ _ cz x))) he
  · have hi1 : i = n1 := by omega
    refine wpAny_bind (D1.done ⟨mA, g, d, ta, os⟩ _ _ (by rw [← hi1]; exact (D1.over st1 sbA S.zf1)) fun q e hq he => ?_)
    replace hq : Heap.ExtBut i1 mA q := hq
    exact hE q ta e (fun c o cz c1 c2 x => hq _ _ c1 (sbA.extBut _ _ cz x)) he
/-- the next one of a zip whose last tuple is kept -/
theorem zipU_pyNext_item {T0 : Addr} {b : Bool} {Q : Option Value → Shared → Prop} (S : ZipSep2 zp TI TO i1 i2 fp1 fp2) (D1 : Draws prog w A.in1 i1 fp1 n1 P1 St1) (D2 : Draws prog w A.in1 i2 fp2 n2 P2 St2)
    (hz : IsZipU s.heap zp TI TO (rawInt T0) b) (hT0 : ∃ o, s.heap.get? T0 = some o) (iTI : IsTupOf2 s.heap TI (.ref i1) (.ref i2)) (st1 : St1 i s.heap) (st2 : St2 i s.heap) (lt1 : i < n1) (lt2 : i < n2)
    (hQ : ∀ u1 u2 h' tk, P1 i u1 → P2 i u2 → IsZipU h' zp TI TO (rawInt T0) true → St1 (i + 1) h' → St2 (i + 1) h' → IsTupOf2 h' s.heap.objs.size u1 u2 → h'.objs.size = s.heap.objs.size + 1 →
      (∀ c o, c ≠ zp → c ≠ i1 → c ≠ i2 → s.heap.get? c = some o → h'.get? c = some o) → Q (some (.ref s.heap.objs.size)) { s with heap := h', toks := tk }) :
    wpAny (model prog w) A (pyNext (.ref zp)) Q E s := by
  have tyZ : s.TypeIs (.ref zp) "zip" := ⟨_, hz, rfl⟩
  unfold pyNext
  exact wpAny_bind (wpAny_attempt (wpAny_callSpecial?_slot (name := Str.ofString "__next__") tyZ F.slot_zip_next
    (wpAny_call_entry F.slot_zip_next tyZ F.entry_zip_next
      (zipU_next_item S D1 D2 hz hT0 iTI st1 st2 lt1 lt2 fun u1 u2 h' tk a1 a2 a3 a4 a5 a6 a7 a8 => wpAny_pure (hQ u1 u2 h' tk a1 a2 a3 a4 a5 a6 a7 a8)) (F.args_zip_next_1 _))))
theorem zipU_pyNext_end {T0 : Addr} {b : Bool} {Q : Option Value → Shared → Prop} (S : ZipSep2 zp TI TO i1 i2 fp1 fp2) (D1 : Draws prog w A.in1 i1 fp1 n1 P1 St1) (D2 : Draws prog w A.in1 i2 fp2 n2 P2 St2)
    (hz : IsZipU s.heap zp TI TO (rawInt T0) b) (hT0 : ∃ o, s.heap.get? T0 = some o) (iTI : IsTupOf2 s.heap TI (.ref i1) (.ref i2)) (st1 : St1 i s.heap) (st2 : St2 i s.heap) (hle1 : i ≤ n1) (hle2 : i ≤ n2) (hend : i = n1 ∨ i = n2)
    (hQ : ∀ h' tk, (∀ c o, c ≠ zp → c ≠ i1 → c ≠ i2 → s.heap.get? c = some o → h'.get? c = some o) → Q none { s with heap := h', toks := tk }) : wpAny (model prog w) A (pyNext (.ref zp)) Q E s := by
  have tyZ : s.TypeIs (.ref zp) "zip" := ⟨_, hz, rfl⟩
  unfold pyNext
  refine wpAny_bind (wpAny_attempt (wpAny_callSpecial?_slot (name := Str.ofString "__next__") tyZ F.slot_zip_next
    (wpAny_call_entry F.slot_zip_next tyZ F.entry_zip_next (zipU_next_end S D1 D2 hz hT0 iTI st1 st2 hle1 hle2 hend fun h' tk e hk he => ?_) (F.args_zip_next_1 _))))
  obtain ⟨o, ho, hc⟩ := he
  refine wpAny_bind (wpAny_isInstance (T := "StopIteration") (b := true) ⟨o, ho, hc⟩ isSubtype_stop ?_)
  exact wpAny_pure (hQ _ _ hk)
theorem zipF_pyNext_item {Q : Option Value → Shared → Prop} (S : ZipSep2 zp TI TO i1 i2 fp1 fp2) (D1 : Draws prog w A.in1 i1 fp1 n1 P1 St1) (D2 : Draws prog w A.in1 i2 fp2 n2 P2 St2)
    (hz : IsZip s.heap zp TI TO .none) (iTI : IsTupOf2 s.heap TI (.ref i1) (.ref i2)) (iTO : IsTupOf2 s.heap TO a1 a2) (st1 : St1 i s.heap) (st2 : St2 i s.heap) (lt1 : i < n1) (lt2 : i < n2)
    (hQ : ∀ u1 u2 h' tk, P1 i u1 → P2 i u2 → IsZip h' zp TI TO (rawInt s.heap.objs.size) → St1 (i + 1) h' → St2 (i + 1) h' → IsTupOf2 h' s.heap.objs.size u1 u2 → h'.objs.size = s.heap.objs.size + 1 →
      (∀ c o, c ≠ zp → c ≠ TO → c ≠ i1 → c ≠ i2 → s.heap.get? c = some o → h'.get? c = some o) → Q (some (.ref s.heap.objs.size)) { s with heap := h', toks := tk }) :
    wpAny (model prog w) A (pyNext (.ref zp)) Q E s := by
  have tyZ : s.TypeIs (.ref zp) "zip" := ⟨_, hz, rfl⟩
  unfold pyNext
  exact wpAny_bind (wpAny_attempt (wpAny_callSpecial?_slot (name := Str.ofString "__next__") tyZ F.slot_zip_next
    (wpAny_call_entry F.slot_zip_next tyZ F.entry_zip_next
      (zipD2_next_item S D1 D2 hz iTI iTO st1 st2 lt1 lt2 fun u1 u2 h' tk a1 a2 a3 _ a5 a6 a7 a8 a9 => wpAny_pure (hQ u1 u2 h' tk a1 a2 a3 a5 a6 a7 a8 a9)) (F.args_zip_next_1 _))))
theorem zipF_pyNext_end {Q : Option Value → Shared → Prop} (S : ZipSep2 zp TI TO i1 i2 fp1 fp2) (D1 : Draws prog w A.in1 i1 fp1 n1 P1 St1) (D2 : Draws prog w A.in1 i2 fp2 n2 P2 St2)
    (hz : IsZip s.heap zp TI TO .none) (iTI : IsTupOf2 s.heap TI (.ref i1) (.ref i2)) (iTO : IsTupOf2 s.heap TO a1 a2) (st1 : St1 i s.heap) (st2 : St2 i s.heap) (hle1 : i ≤ n1) (hle2 : i ≤ n2) (hend : i = n1 ∨ i = n2)
    (hQ : ∀ h' tk, (∀ c o, c ≠ zp → c ≠ TO → c ≠ i1 → c ≠ i2 → s.heap.get? c = some o → h'.get? c = some o) → Q none { s with heap := h', toks := tk }) : wpAny (model prog w) A (pyNext (.ref zp)) Q E s := by
  have tyZ : s.TypeIs (.ref zp) "zip" := ⟨_, hz, rfl⟩
  unfold pyNext
  refine wpAny_bind (wpAny_attempt (wpAny_callSpecial?_slot (name := Str.ofString "__next__") tyZ F.slot_zip_next
    (wpAny_call_entry F.slot_zip_next tyZ F.entry_zip_next (zipD2_next_end S D1 D2 hz iTI iTO st1 st2 hle1 hle2 hend fun h' tk e hk he => ?_) (F.args_zip_next_1 _))))
  obtain ⟨o, ho, hc⟩ := he
  refine wpAny_bind (wpAny_isInstance (T := "StopIteration") (b := true) ⟨o, ho, hc⟩ isSubtype_stop ?_)
  exact wpAny_pure (hQ _ _ hk)
end
end PySem

namespace PySem
open Sem (wp)
namespace F
theorem zip_no_len : typeLookup (.type "zip") "__len__" = pure none := by rw [typeLookup_type, builtinLookup_eq_fast]; kernel_rfl
theorem zip_no_hint : typeLookup (.type "zip") "__length_hint__" = pure none := by rw [typeLookup_type, builtinLookup_eq_fast]; kernel_rfl
end F
theorem addr_ne {N T a : Addr} (h : N ≤ T) (h2 : a < N) : T ≠ a := by
  intro e
  subst e
  exact absurd h2 (Nat.not_lt.mpr h)
/-- a zip that has given i tuples, all kept -/
structure ZS (zp TI TO i1 i2 : Addr) (P1 P2 : Nat → Value → Prop) (St1 St2 : Nat → Heap → Prop) (N : Nat) (h : Heap) (i : Nat) (Ts : List Addr) : Prop where
  len : Ts.length = i
  zip : (i = 0 ∧ IsZip h zp TI TO .none) ∨ (0 < i ∧ ∃ (T0 : Addr) (b : Bool), IsZipU h zp TI TO (rawInt T0) b ∧ T0 ∈ Ts)
  ti : IsTupOf2 h TI (.ref i1) (.ref i2)
  to : i = 0 → ∃ a1 a2, IsTupOf2 h TO a1 a2
  st1 : St1 i h
  st2 : St2 i h
  tup : ∀ j T, Ts[j]? = some T → ∃ u1 u2, P1 j u1 ∧ P2 j u2 ∧ IsTupOf2 h T u1 u2
  new : ∀ T ∈ Ts, N ≤ T
  nd : Ts.Nodup
section
variable {prog : Program} {w : World} {A : Around} {R : Result → Shared → Prop} {zp TI TO i1 i2 : Addr} {fp1 fp2 : List Addr} {n1 n2 : Nat} {P1 P2 : Nat → Value → Prop} {St1 St2 : Nat → Heap → Prop}
theorem ZS.frame (D1 : Draws prog w A i1 fp1 n1 P1 St1) (D2 : Draws prog w A i2 fp2 n2 P2 St2) {N : Nat} {h h' : Heap} {i : Nat} {Ts : List Addr} {L : Addr} (x : ZS zp TI TO i1 i2 P1 P2 St1 St2 N h i Ts) (hL : L ∉ zp :: TI :: TO :: (fp1 ++ fp2)) (hN : L < N) (k : ∀ b o, b ≠ L → h.get? b = some o → h'.get? b = some o) : ZS zp TI TO i1 i2 P1 P2 St1 St2 N h' i Ts := by
  have ne : ∀ b, b ∈ zp :: TI :: TO :: (fp1 ++ fp2) → b ≠ L := fun b hb e => hL (e ▸ hb)
  refine ⟨x.len, ?_, k _ _ (ne TI (by simp)) x.ti, fun e => ?_, D1.frame _ _ _ x.st1 fun b hb o e => k b o (ne b (by simp [hb])) e, D2.frame _ _ _ x.st2 fun b hb o e => k b o (ne b (by simp [hb])) e, fun j T e => ?_, x.new, x.nd⟩
  · rcases x.zip with ⟨e, y⟩ | ⟨e, T0, b, y, m⟩
    · exact .inl ⟨e, k _ _ (ne zp (by simp)) y⟩
    · exact .inr ⟨e, T0, b, k _ _ (ne zp (by simp)) y, m⟩
  · obtain ⟨a1, a2, y⟩ := x.to e
    exact ⟨a1, a2, k _ _ (ne TO (by simp)) y⟩
  · obtain ⟨u1, u2, p1, p2, y⟩ := x.tup j T e
    exact ⟨u1, u2, p1, p2, k _ _ (addr_ne (x.new T (List.mem_of_getElem? e)) hN) y⟩
theorem zip_loop (S : ZipSep2 zp TI TO i1 i2 fp1 fp2) (D1 : Draws prog w A.in1.in1 i1 fp1 n1 P1 St1) (D2 : Draws prog w A.in1.in1 i2 fp2 n2 P2 St2) (hn : min n1 n2 ≤ sizeLine) {N : Nat} (L : Addr) (hL : L ∉ zp :: TI :: TO :: (fp1 ++ fp2)) (hLN : L < N) (hf : ∀ b ∈ zp :: TI :: TO :: (fp1 ++ fp2), b < N) (res : Value) :
    ∀ (k i : Nat) (s : Shared) (Ts : List Addr) (c : Nat), min n1 n2 - i = k → i ≤ min n1 n2 → N ≤ s.heap.objs.size → ZS zp TI TO i1 i2 P1 P2 St1 St2 N s.heap i Ts → s.heap.get? L = some { cls := .type "list", dict := none, data := .seq (Ts.map Value.ref).toArray c, slots := #[] } →
    (∀ h' tk (Ts' : List Addr) c', (∀ b o, b ≠ L → b ≠ zp → b ≠ TO → b ≠ i1 → b ≠ i2 → s.heap.get? b = some o → h'.get? b = some o) → h'.get? L = some { cls := .type "list", dict := none, data := .seq (Ts'.map Value.ref).toArray c', slots := #[] } → Ts'.length = min n1 n2 →
      (∀ j T, Ts'[j]? = some T → ∃ u1 u2, P1 j u1 ∧ P2 j u2 ∧ IsTupOf2 h' T u1 u2) → (∀ T ∈ Ts', N ≤ T) → Ts'.Nodup → R (.ok (.ret res)) { s with heap := h', toks := tk }) →
    codeAny (model prog w) A (.builtin "list.extend.loop" ⟨[.ref L, .ref zp, res], []⟩) R s := by
  have ne : ∀ b, b ∈ zp :: TI :: TO :: (fp1 ++ fp2) → b ≠ L := fun b hb e => hL (e ▸ hb)
  have nz := ne zp (by simp)
  have nTO := ne TO (by simp)
  have n1' := ne i1 (by simp [S.mem1])
  have n2' := ne i2 (by simp [S.mem2])
  have zN := hf zp (by simp)
  have TON := hf TO (by simp)
  have TIN := hf TI (by simp)
  have i1N := hf i1 (by simp [S.mem1])
  have i2N := hf i2 (by simp [S.mem2])
  intro k
  induction k with
  | zero =>
    intro i s Ts c hk hi hs Z hS hR
    have hin : i = min n1 n2 := by omega
    refine codeAny_builtin F.entry_extend_loop ?_
    rw [Around.under_plainId F.plain_extend_loop _]
    show wpAny _ A.in1 (pyNext (.ref zp) >>= _) _ _ s
    have fin : ∀ h' tk, (∀ c o, c ≠ zp → c ≠ TO → c ≠ i1 → c ≠ i2 → s.heap.get? c = some o → h'.get? c = some o) → R (.ok (.ret res)) { s with heap := h', toks := tk } := fun h' tk hk' => by
      refine hR h' tk Ts c (fun b o _ a1 a2 a3 a4 e => hk' b o a1 a2 a3 a4 e) (hk' L _ nz.symm nTO.symm n1'.symm n2'.symm hS) (by rw [Z.len, hin]) (fun j T e => ?_) Z.new Z.nd
      obtain ⟨u1, u2, p1, p2, y⟩ := Z.tup j T e
      have := Z.new T (List.mem_of_getElem? e)
      exact ⟨u1, u2, p1, p2, hk' T _ (addr_ne this zN) (addr_ne this TON) (addr_ne this i1N) (addr_ne this i2N) y⟩
    rcases Z.zip with ⟨e, y⟩ | ⟨e, T0, b, y, m⟩
    · obtain ⟨a1, a2, t⟩ := Z.to e
      exact wpAny_bind (zipF_pyNext_end S D1 D2 y Z.ti t Z.st1 Z.st2 (by omega) (by omega) (by omega) fun h' tk hk' => wpAny_pure (fin h' tk hk'))
    · obtain ⟨j, hj⟩ := List.getElem?_of_mem m
      obtain ⟨u1, u2, _, _, t⟩ := Z.tup j T0 hj
      exact wpAny_bind (zipU_pyNext_end S D1 D2 y ⟨_, t⟩ Z.ti Z.st1 Z.st2 (by omega) (by omega) (by omega) fun h' tk hk' => wpAny_pure (fin h' tk fun c o a1 _ a3 a4 e => hk' c o a1 a3 a4 e))
  | succ k ih =>
    intro i s Ts c hk hi hs Z hS hR
    have lt1 : i < n1 := by omega
    have lt2 : i < n2 := by omega
    refine codeAny_builtin F.entry_extend_loop ?_
    rw [Around.under_plainId F.plain_extend_loop _]
    show wpAny _ A.in1 (pyNext (.ref zp) >>= _) _ _ s
    have go : ∀ u1 u2 h' tk, P1 i u1 → P2 i u2 → (∃ (T0 : Addr) (b : Bool), IsZipU h' zp TI TO (rawInt T0) b ∧ T0 ∈ Ts ++ [s.heap.objs.size]) → St1 (i + 1) h' → St2 (i + 1) h' → IsTupOf2 h' s.heap.objs.size u1 u2 → h'.objs.size = s.heap.objs.size + 1 → (∀ c o, c ≠ zp → c ≠ TO → c ≠ i1 → c ≠ i2 → s.heap.get? c = some o → h'.get? c = some o) →
        wpAny (model prog w) A.in1 (updateSeq L (·.push (.ref s.heap.objs.size)) >>= fun _ => again (.builtin "list.extend.loop" ⟨[.ref L, .ref zp, res], []⟩)) (fun fin s' => match fin with | .done f => R (.ok f) s' | .again c' => c'.quiet = true ∧ codeAny (model prog w) A c' R s') (fun e s' => R (.error e) s') { s with heap := h', toks := tk } := fun u1 u2 h' tk q1 q2 qz q3 q4 qt qs qk => by
      have hS' := qk L _ nz.symm nTO.symm n1'.symm n2'.symm hS
      have Z' : ZS zp TI TO i1 i2 P1 P2 St1 St2 N h' (i + 1) (Ts ++ [s.heap.objs.size]) := by
        refine ⟨by rw [List.length_append, Z.len]; rfl, .inr ⟨by omega, qz⟩, qk _ _ S.TIz S.TITO S.TIi1 S.TIi2 Z.ti, fun e => by omega, q3, q4, fun j T e => ?_, fun T tyZ => ?_, ?_⟩
        · by_cases hj : j < Ts.length
          · rw [List.getElem?_append_left hj] at e
            obtain ⟨y1, y2, p1, p2, y⟩ := Z.tup j T e
            have := Z.new T (List.mem_of_getElem? e)
            exact ⟨y1, y2, p1, p2, qk T _ (addr_ne this zN) (addr_ne this TON) (addr_ne this i1N) (addr_ne this i2N) y⟩
          · have ej : j = Ts.length := by
              have := (List.getElem?_eq_some_iff.mp e).1
              rw [List.length_append] at this
              simp at this
              omega
            subst ej
            rw [List.getElem?_append_right (Nat.le_refl _)] at e
            simp at e
            subst e
            rw [Z.len]
            exact ⟨u1, u2, q1, q2, qt⟩
        · rcases List.mem_append.mp tyZ with h | h
          · exact Z.new T h
          · rw [List.mem_singleton.mp h]
            exact hs
        · refine List.nodup_append.mpr ⟨Z.nd, by simp, fun a ha b hb e => ?_⟩
          rw [List.mem_singleton.mp hb] at e
          obtain ⟨j, hj⟩ := List.getElem?_of_mem ha
          obtain ⟨y1, y2, _, _, y⟩ := Z.tup j a hj
          subst e
          exact absurd (Heap.lt_size y) (Nat.lt_irrefl _)
      refine wpAny_bind ?_
      refine wpAny_updateSeq hS' rfl (wpAny_pure ⟨plainId_quiet F.plain_extend_loop _, ih (i + 1) _ (Ts ++ [s.heap.objs.size]) (c + 1) (by omega) (by omega) ?_ (Z'.frame D1 D2 hL hLN fun b o hb e => (Heap.get?_update_other _ _ (fun h : L = b => hb h.symm)).trans e) ?_ fun h'' tk' Ts' c' k1 k2 k3 k4 k5 k6 => ?_⟩)
        (by simp [Z.len]; omega) (by simp [Z.len]; omega)
      · show N ≤ (h'.update L _).objs.size
        rw [Heap.size_update]
        omega
      · refine (Heap.get?_update_self _ hS' rfl).trans ?_
        simp [Obj.mapSeq]
      · refine hR h'' tk' Ts' c' (fun b o a0 a1 a2 a3 a4 e => k1 b o a0 a1 a2 a3 a4 ?_) k2 k3 k4 k5 k6
        exact (Heap.get?_update_other _ _ (fun h : L = b => a0 h.symm)).trans (qk b o a1 a2 a3 a4 e)
    rcases Z.zip with ⟨e, y⟩ | ⟨e, T0, b, y, m⟩
    · obtain ⟨a1, a2, t⟩ := Z.to e
      exact wpAny_bind (zipF_pyNext_item S D1 D2 y Z.ti t Z.st1 Z.st2 lt1 lt2 fun u1 u2 h' tk q1 q2 qz q3 q4 qt qs qk => go u1 u2 h' tk q1 q2 ⟨_, false, qz, by simp⟩ q3 q4 qt qs qk)
    · obtain ⟨j, hj⟩ := List.getElem?_of_mem m
      obtain ⟨y1, y2, _, _, t⟩ := Z.tup j T0 hj
      exact wpAny_bind (zipU_pyNext_item S D1 D2 y ⟨_, t⟩ Z.ti Z.st1 Z.st2 lt1 lt2 fun u1 u2 h' tk q1 q2 qz q3 q4 qt qs qk => go u1 u2 h' tk q1 q2 ⟨T0, true, qz, List.mem_append_left _ m⟩ q3 q4 qt qs fun c o a1 _ a3 a4 e => qk c o a1 a3 a4 e)
end
end PySem

namespace PySem
open Sem (wp)
section
variable {prog : Program} {w : World} {A : Around} {s : Shared} {R : Result → Shared → Prop} {zp TI TO i1 i2 : Addr} {fp1 fp2 : List Addr} {n1 n2 : Nat} {P1 P2 : Nat → Value → Prop} {St1 St2 : Nat → Heap → Prop}
theorem ZS.start {N : Nat} {h : Heap} {a1 a2 : Value} (hz : IsZip h zp TI TO .none) (iTI : IsTupOf2 h TI (.ref i1) (.ref i2)) (iTO : IsTupOf2 h TO a1 a2) (st1 : St1 0 h) (st2 : St2 0 h) : ZS zp TI TO i1 i2 P1 P2 St1 St2 N h 0 [] :=
  ⟨rfl, .inl ⟨rfl, hz⟩, iTI, fun _ => ⟨a1, a2, iTO⟩, st1, st2, fun j T e => by simp at e, fun T tyZ => by simp at tyZ, List.nodup_nil⟩
theorem wpAny_extend_zip (S : ZipSep2 zp TI TO i1 i2 fp1 fp2) (D1 : Draws prog w A.in1.in1 i1 fp1 n1 P1 St1) (D2 : Draws prog w A.in1.in1 i2 fp2 n2 P2 St2) (hn : min n1 n2 ≤ sizeLine) {N : Nat} (L : Addr) (hL : L ∉ zp :: TI :: TO :: (fp1 ++ fp2)) (hLN : L < N) (hf : ∀ b ∈ zp :: TI :: TO :: (fp1 ++ fp2), b < N) (res : Value)
    (hs : N ≤ s.heap.objs.size) (hz : IsZip s.heap zp TI TO .none) (Z : ZS zp TI TO i1 i2 P1 P2 St1 St2 N s.heap 0 []) (c₀ : Nat) (hS : s.heap.get? L = some { cls := .type "list", data := .seq #[] c₀ })
    (hR : ∀ h' tk (Ts' : List Addr) c', (∀ b o, b ≠ L → b ≠ zp → b ≠ TO → b ≠ i1 → b ≠ i2 → s.heap.get? b = some o → h'.get? b = some o) → h'.get? L = some { cls := .type "list", dict := none, data := .seq (Ts'.map Value.ref).toArray c', slots := #[] } → Ts'.length = min n1 n2 →
      (∀ j T, Ts'[j]? = some T → ∃ u1 u2, P1 j u1 ∧ P2 j u2 ∧ IsTupOf2 h' T u1 u2) → (∀ T ∈ Ts', N ≤ T) → Ts'.Nodup → R (.ok (.ret res)) { s with heap := h', toks := tk }) :
    wpAny (model prog w) A.in1 (Builtin.List.listExtendWith (.ref L) (.ref zp) res)
      (fun fin s' => match fin with | .done f => R (.ok f) s' | .again c' => c'.quiet = true ∧ codeAny (model prog w) A c' R s') (fun e s' => R (.error e) s') s := by
  have tyZ : s.TypeIs (.ref zp) "zip" := ⟨_, hz, rfl⟩
  have hLz : L ≠ zp := fun e => hL (e ▸ List.mem_cons_self)
  unfold Builtin.List.listExtendWith
  refine wpAny_bind (wpAny_typeOf tyZ ?_)
  have h1 : Builtin.List.listSameRef (.ref L) (.ref zp) = false := by simp [Builtin.List.listSameRef, hLz]
  have h2 : (Value.type "zip" == Value.type "list") = false := by decide
  have h3 : (Value.type "zip" == Value.type "tuple") = false := by decide
  simp only [h1, h2, h3, Bool.or_false, Bool.false_eq_true, if_false]
  refine wpAny_bind (wpAny_pyIter_zip hz ?_)
  refine wpAny_bind (wpAny_holding ?_)
  unfold Builtin.List.listLengthHint
  refine wpAny_bind (wpAny_specialOf tyZ F.zip_no_len ?_)
  show wpAny _ A.in1 (specialOf (Value.ref zp) (Str.ofString "__length_hint__") >>= _) _ _ _
  refine wpAny_bind (wpAny_specialOf tyZ F.zip_no_hint ?_)
  refine wpAny_pure ?_
  show wpAny _ A.in1 (rule "list.extend.makes-room" >>= fun _ => Builtin.List.listTouch (.ref L) >>= fun _ =>
    again (.builtin "list.extend.loop" ⟨[.ref L, .ref zp, res], []⟩)) _ _ _
  refine wpAny_bind (wpAny_rule ?_)
  refine wpAny_bind ?_
  show wpAny _ A.in1 (updateSeq L (·.push .none) >>= fun _ => updateSeq L (·.pop)) _ _ _
  refine wpAny_bind (wpAny_updateSeq hS rfl ?_)
  have lS₂ := Heap.get?_update_self (Obj.mapSeq (·.push Value.none)) hS rfl
  refine wpAny_updateSeq (hz := by seq_fits) lS₂ rfl ?_
  have lS₃ := Heap.get?_update_self (Obj.mapSeq (·.pop)) lS₂ rfl
  have rest_ : ∀ b o, b ≠ L → s.heap.get? b = some o → ((s.heap.update L (Obj.mapSeq (·.push Value.none))).update L (Obj.mapSeq (·.pop))).get? b = some o :=
    fun b o hb e => (Heap.get?_update_other _ _ (Ne.symm hb)).trans ((Heap.get?_update_other _ _ (Ne.symm hb)).trans e)
  refine wpAny_pure ⟨plainId_quiet F.plain_extend_loop _, zip_loop S D1 D2 hn L hL hLN hf res _ 0 _ [] _ rfl (Nat.zero_le _) ?_ (Z.frame D1 D2 hL hLN fun b o hb e => rest_ b o hb e) lS₃ fun h' tk Ts' c' k1 k2 k3 k4 k5 k6 => ?_⟩
  · show N ≤ ((s.heap.update L _).update L _).objs.size
    rw [Heap.size_update, Heap.size_update]
    exact hs
  · exact hR h' tk Ts' c' (fun b o a0 a1 a2 a3 a4 e => k1 b o a0 a1 a2 a3 a4 (rest_ b o a0 e)) k2 k3 k4 k5 k6
theorem wpAny_list_init_zip (S : ZipSep2 zp TI TO i1 i2 fp1 fp2) (D1 : Draws prog w A.in1.in1 i1 fp1 n1 P1 St1) (D2 : Draws prog w A.in1.in1 i2 fp2 n2 P2 St2) (hn : min n1 n2 ≤ sizeLine) {N : Nat} (L : Addr) (hL : L ∉ zp :: TI :: TO :: (fp1 ++ fp2)) (hLN : L < N) (hf : ∀ b ∈ zp :: TI :: TO :: (fp1 ++ fp2), b < N)
    (hs : N ≤ s.heap.objs.size) (hz : IsZip s.heap zp TI TO .none) (Z : ZS zp TI TO i1 i2 P1 P2 St1 St2 N s.heap 0 []) (hS : s.heap.get? L = some { cls := .type "list", data := .seq #[] })
    (hR : ∀ h' tk (Ts' : List Addr) c', (∀ b o, b ≠ L → b ≠ zp → b ≠ TO → b ≠ i1 → b ≠ i2 → s.heap.get? b = some o → h'.get? b = some o) → h'.get? L = some { cls := .type "list", dict := none, data := .seq (Ts'.map Value.ref).toArray c', slots := #[] } → Ts'.length = min n1 n2 →
      (∀ j T, Ts'[j]? = some T → ∃ u1 u2, P1 j u1 ∧ P2 j u2 ∧ IsTupOf2 h' T u1 u2) → (∀ T ∈ Ts', N ≤ T) → Ts'.Nodup → R (.ok (.ret .none)) { s with heap := h', toks := tk }) :
    wpAny (model prog w) A.in1 (Builtin.«list.__init__» ⟨[.ref L, .ref zp], []⟩)
      (fun fin s' => match fin with | .done f => R (.ok f) s' | .again c' => c'.quiet = true ∧ codeAny (model prog w) A c' R s') (fun e s' => R (.error e) s') s := by
  show wpAny _ A.in1 (do let old ← Builtin.List.listItems (.ref L); Builtin.List.listUpdate (.ref L) (fun _ => #[]); letGo old.toList.reverse; Builtin.List.listExtendWith (.ref L) (.ref zp) .none) _ _ s
  refine wpAny_bind ?_
  unfold Builtin.List.listItems
  refine wpAny_bind (wpAny_seqItems hS rfl (wpAny_pure ?_))
  show wpAny _ A.in1 (updateSeq L (fun _ => #[]) >>= fun _ => letGo (#[] : Array Value).toList.reverse >>= fun _ => Builtin.List.listExtendWith (.ref L) (.ref zp) .none) _ _ s
  refine wpAny_bind (wpAny_updateSeq hS rfl ?_)
  have lS₂ := Heap.get?_update_self (Obj.mapSeq (fun _ => (#[] : Array Value))) hS rfl
  have rest_ : ∀ b o, b ≠ L → s.heap.get? b = some o → (s.heap.update L (Obj.mapSeq (fun _ => (#[] : Array Value)))).get? b = some o :=
    fun b o hb e => (Heap.get?_update_other _ _ (Ne.symm hb)).trans e
  have hLz : zp ≠ L := fun e => hL (e ▸ List.mem_cons_self)
  refine wpAny_bind (wpAny_letGo ?_)
  refine wpAny_extend_zip S D1 D2 hn L hL hLN hf .none ?_ (rest_ _ _ hLz hz) (Z.frame D1 D2 hL hLN fun b o hb e => rest_ b o hb e) _ lS₂ fun h' tk Ts' c' k1 k2 k3 k4 k5 k6 => ?_
  · show N ≤ (s.heap.update L _).objs.size
    rw [Heap.size_update]
    exact hs
  · exact hR h' tk Ts' c' (fun b o a0 a1 a2 a3 a4 e => k1 b o a0 a1 a2 a3 a4 (rest_ b o a0 e)) k2 k3 k4 k5 k6
theorem call_list_zip {E : Value → Shared → Prop} {Q : Value → Shared → Prop} (S : ZipSep2 zp TI TO i1 i2 fp1 fp2) (D1 : Draws prog w A.in1.in1.in1 i1 fp1 n1 P1 St1) (D2 : Draws prog w A.in1.in1.in1 i2 fp2 n2 P2 St2) (hn : min n1 n2 ≤ sizeLine) (hf : ∀ b ∈ zp :: TI :: TO :: (fp1 ++ fp2), b < s.heap.objs.size)
    {a1 a2 : Value} (hz : IsZip s.heap zp TI TO .none) (iTI : IsTupOf2 s.heap TI (.ref i1) (.ref i2)) (iTO : IsTupOf2 s.heap TO a1 a2) (st1 : St1 0 s.heap) (st2 : St2 0 s.heap)
    (hQ : ∀ h' tk (Ts' : List Addr) c', (∀ b o, b ≠ zp → b ≠ TO → b ≠ i1 → b ≠ i2 → s.heap.get? b = some o → h'.get? b = some o) → h'.get? s.heap.objs.size = some { cls := .type "list", dict := none, data := .seq (Ts'.map Value.ref).toArray c', slots := #[] } → Ts'.length = min n1 n2 →
      (∀ j T, Ts'[j]? = some T → ∃ u1 u2, P1 j u1 ∧ P2 j u2 ∧ IsTupOf2 h' T u1 u2) → (∀ T ∈ Ts', s.heap.objs.size + 1 ≤ T) → Ts'.Nodup → Q (.ref s.heap.objs.size) { s with heap := h', toks := tk }) :
    wpAny (model prog w) A (call (.type "list") [.ref zp]) Q E s := by
  refine callType_codes (Q₁ := fun obj s₁ => obj = .ref s.heap.objs.size ∧ s₁ = { s with heap := s.heap.push { cls := .type "list", data := .seq #[] } }) F.called_list (F.typeCall_list_1 _) F.entry_list_init
    (code_list_new _ ⟨rfl, rfl⟩) fun obj s₁ h₁ => ?_
  obtain ⟨rfl, rfl⟩ := h₁
  have hS : (s.heap.push { cls := .type "list", data := .seq #[] }).get? s.heap.objs.size = some { cls := .type "list", data := .seq #[] } := Heap.get?_push_size _ rfl
  have up : ∀ b o, s.heap.get? b = some o → (s.heap.push { cls := .type "list", data := .seq #[] }).get? b = some o := fun b o e => Heap.get?_push_of_some _ e
  have hL : s.heap.objs.size ∉ zp :: TI :: TO :: (fp1 ++ fp2) := fun h => absurd (hf _ h) (Nat.lt_irrefl _)
  refine ⟨⟨_, hS, rfl⟩, F.args_list_init_2 _ _, wpAny_list_init_zip (N := s.heap.objs.size + 1) S D1 D2 hn _ hL (Nat.lt_succ_self _) (fun b hb => Nat.lt_succ_of_lt (hf b hb)) ?_ (up _ _ hz) ?_ hS fun h' tk Ts' c' k1 k2 k3 k4 k5 k6 => ⟨rfl, ?_⟩⟩
  · show s.heap.objs.size + 1 ≤ (s.heap.push _).objs.size
    rw [Heap.size_push]
    exact Nat.le_refl _
  · exact ZS.start (up _ _ hz) (up _ _ iTI) (up _ _ iTO) (D1.frame _ _ _ st1 fun b _ o e => up b o e) (D2.frame _ _ _ st2 fun b _ o e => up b o e)
  · exact hQ h' tk Ts' c' (fun b o a1 a2 a3 a4 e => k1 b o (fun e' => by
      subst e'
      exact absurd (Heap.lt_size e) (Nat.lt_irrefl _)) a1 a2 a3 a4 (up b o e)) k2 k3 k4 k5 k6
end
end PySem

/-! PlZ: list(zip(a, b)) -/
namespace Pl
open PySem PySem.Spec PyProof.Rows L2
/-- each pair told at its address -/
def putZ : Hp → List Addr → List (V × V) → Hp
  | H, a :: as, p :: ps => putZ (upd H a (.tup [p.1, p.2])) as ps
  | H, _, _ => H
theorem putZ_off {b : Addr} : ∀ (as : List Addr) (ps : List (V × V)) (H : Hp), b ∉ as → putZ H as ps b = H b
  | [], _, _, _ => rfl
  | _ :: _, [], _, _ => rfl
  | a :: as, p :: ps, H, h => by
    show putZ (upd H a (.tup [p.1, p.2])) as ps b = H b
    rw [putZ_off as ps _ (fun z => h (List.mem_cons_of_mem _ z)), upd_ne (fun z => h (by rw [z]; exact List.mem_cons_self))]
theorem putZ_at : ∀ (as : List Addr) (ps : List (V × V)) (H : Hp), as.length = ps.length → as.Nodup → ∀ t ∈ as, ∃ (j : Nat) (p : V × V), as[j]? = some t ∧ ps[j]? = some p ∧ putZ H as ps t = some (.tup [p.1, p.2])
  | [], _, _, _, _, t, ht => by simp at ht
  | _ :: _, [], _, h, _, _, _ => by cases h
  | a :: as, p :: ps, H, h, hn, t, ht => by
    have ndA := List.nodup_cons.mp hn
    rcases List.mem_cons.mp ht with e | ht'
    · subst e
      refine ⟨0, p, rfl, rfl, ?_⟩
      show putZ (upd H t (.tup [p.1, p.2])) as ps t = some (.tup [p.1, p.2])
      rw [putZ_off as ps _ ndA.1, upd_same]
    · obtain ⟨j, q, e1, e2, e3⟩ := putZ_at as ps (upd H a (.tup [p.1, p.2])) (Nat.succ.inj h) ndA.2 t ht'
      exact ⟨j + 1, q, by simpa using e1, by simpa using e2, e3⟩
def rZipL (K : PySem.W.Frag) : List V → Hp → VK → Prop := fun vs H Q => ∃ (a b : Addr) (xs ys : List V), vs = [.ref a, .ref b] ∧ ((SqL K H a xs ∧ SqL K H b ys) ∨ (SqT K H a xs ∧ SqT K H b ys)) ∧
  ∀ (p : Addr) (ts : List Addr), H p = none → (∀ t ∈ ts, H t = none) → ts.Nodup → p ∉ ts → ts.length = (xs.zip ys).length → Q (.ref p) (upd (putZ H ts (xs.zip ys)) p (.lst (ts.map V.ref)))
def tZipL (K : PySem.W.Frag) (ta : TA) : TE := fun σ H Q => ta σ H fun vs H1 => rZipL K vs H1 Q
theorem valsZ_refs : ∀ as : List Addr, Vals (as.map V.ref) (as.map Value.ref)
  | [] => .nil
  | _ :: as => .cons rfl (valsZ_refs as)
theorem vals_get : ∀ {xs : List V} {us : List Value}, Vals xs us → ∀ {j : Nat} {u : Value}, us[j]? = some u → ∃ x, xs[j]? = some x ∧ RelV x u
  | _, _, .nil, j, u, h => by simp at h
  | _, _, .cons r t, 0, u, h => by
    simp at h
    subst h
    exact ⟨_, rfl, r⟩
  | _, _, .cons r t, j + 1, u, h => by
    obtain ⟨x, e1, e2⟩ := vals_get t (j := j) (by simpa using h)
    exact ⟨x, by simpa using e1, e2⟩
theorem nin2 (x a b : Nat) (h1 : x ≠ a) (h2 : x ≠ b) : x ∉ [a, b] := fun h => by
  rcases List.mem_cons.mp h with e | h
  · exact h1 e
  · exact h2 (List.mem_singleton.mp h)
theorem zip_sep (n a b : Nat) (la : a < n) (lb : b < n) : ZipSep2 (n + 4) (n + 2) (n + 3) n (n + 1) [n, a] [n + 1, b] :=
  ⟨show (n + 2 : Nat) ≠ n + 4 by omega, show (n + 3 : Nat) ≠ n + 4 by omega, show (n + 2 : Nat) ≠ n + 3 by omega, show (n + 2 : Nat) ≠ n by omega, List.mem_cons_self, nin2 _ _ _ (by omega) (by omega), nin2 _ _ _ (by omega) (by omega),
    show (n + 2 : Nat) ≠ n + 1 by omega, List.mem_cons_self, nin2 _ _ _ (by omega) (by omega), nin2 _ _ _ (by omega) (by omega), nin2 _ _ _ (by omega) (by omega), nin2 _ _ _ (by omega) (by omega)⟩
theorem zip_lt (n a : Nat) (la : a < n) : ∀ b ∈ [n, a], b < n + 5 := fun b h => by
  rcases List.mem_cons.mp h with e | h
  · rw [e]
    omega
  · rw [List.mem_singleton.mp h]
    omega
theorem zip_lt1 (n a : Nat) (la : a < n) : ∀ b ∈ [n + 1, a], b < n + 5 := fun b h => by
  rcases List.mem_cons.mp h with e | h
  · rw [e]
    omega
  · rw [List.mem_singleton.mp h]
    omega
section
variable {X : Cx}
theorem zip_laid {pins : List (Addr × Obj)} {σ : L2.St} {H : Hp} {s : Shared} {h' : Heap} {tk : Nat} {xs ys : List V} {us vs : List Value} {c : Nat} {L : Addr} {as : List Addr} (I : Inv X pins σ H s) (hz : (xs.zip ys).length ≤ sizeLine) (kx : Vals xs us) (ky : Vals ys vs)
    (hk : ∀ b o, s.heap.get? b = some o → h'.get? b = some o) (hL : s.heap.objs.size ≤ L) (hS : h'.get? L = some { cls := .type "list", dict := none, data := .seq (as.map Value.ref).toArray c, slots := #[] }) (hl : as.length = (xs.zip ys).length)
    (ht : ∀ (j : Nat) (T : Addr), as[j]? = some T → ∃ x1 x2, us[j]? = some x1 ∧ vs[j]? = some x2 ∧ IsTupOf2 h' T x1 x2) (hT : ∀ T ∈ as, s.heap.objs.size ≤ T ∧ T ≠ L) (nd : as.Nodup) :
    H L = none ∧ (∀ t ∈ as, H t = none) ∧ L ∉ as ∧ Inv X pins σ (upd (putZ H as (xs.zip ys)) L (.lst (as.map V.ref))) { s with heap := h', toks := tk } := by
  have hSn : L ∉ as := fun z => (hT _ z).2 rfl
  have newA : ∀ t ∈ as, H t = none := fun t ht => I.hok.fresh (hT t ht).1
  have newL : H L = none := I.hok.fresh hL
  have atP := putZ_at as (xs.zip ys) H hl nd
  have offA : ∀ b, b ∉ as → b ≠ L → (upd (putZ H as (xs.zip ys)) L (.lst (as.map V.ref))) b = H b := fun b h1 h2 => by rw [upd_ne h2, putZ_off as _ _ h1]
  have lowA : ∀ b o, s.heap.get? b = some o → b ∉ as ∧ b ≠ L := fun b o e => ⟨fun z => absurd (Heap.lt_size e) (Nat.not_lt.mpr (hT b z).1), fun z => absurd (Heap.lt_size e) (Nat.not_lt.mpr (z ▸ hL))⟩
  have keepA : ∀ b u, H b = some u → (upd (putZ H as (xs.zip ys)) L (.lst (as.map V.ref))) b = some u := fun b u e => by
    rw [offA b (fun z => by rw [newA b z] at e; cases e) (fun z => by rw [z, newL] at e; cases e)]
    exact e
  have eS : (upd (putZ H as (xs.zip ys)) L (.lst (as.map V.ref))) L = some (.lst (as.map V.ref)) := upd_same
  refine ⟨newL, newA, hSn, ?_⟩
  refine I.call' (ch := []) rfl ⟨fun b o q _ _ _ => hk b o q, fun b o q _ _ _ => ⟨o.slots, hk b o q⟩, fun b o q n _ => ?_, fun b o q _ => ⟨o, hk b o q⟩, fun b xs q => keepA b _ q, fun b o u q => keepA b _ q, fun b ps q => ⟨#[], by rw [keepA b _ q]; simp⟩⟩ (fun b u q => ?_) I.bare fun b z => by simp at z
  · obtain ⟨z1, z2⟩ := lowA b o q
    rw [offA b z1 z2]
    exact n
  · by_cases hb : b ∈ as
    · obtain ⟨j, pk, e1, e2, e3⟩ := atP b hb
      rw [upd_ne (show b ≠ L from fun z => hSn (by rw [← z]; exact hb)), e3] at q
      cases q
      obtain ⟨a1, a2⟩ := List.getElem?_zip_eq_some.mp e2
      obtain ⟨x1, x2, f1, f2, f3⟩ := ht j b e1
      obtain ⟨y1, g1, g2⟩ := vals_get kx f1
      obtain ⟨y2, g3, g4⟩ := vals_get ky f2
      rw [a1] at g1
      cases g1
      rw [a2] at g3
      cases g3
      exact ⟨by show 2 ≤ sizeLine; decide, [x1, x2], .cons g2 (.cons g4 .nil), ⟨_, f3, rfl, _, rfl⟩⟩
    · by_cases hb2 : b = L
      · rw [hb2] at q ⊢
        rw [eS] at q
        cases q
        refine ⟨by rw [List.length_map]; omega, as.map Value.ref, c, valsZ_refs as, ?_⟩
        exact hS
      · rw [offA b hb hb2] at q
        exact (I.hok b u q).stay (fun d v _ y => hk d v y) (fun d y => keepA d _ y) fun d xs y => keepA d _ y
theorem list_zip_tail {Q : VK} {pins : List (Addr × Obj)} {σ : L2.St} {H : Hp} {s : Shared} {h' : Heap} {xs ys : List V} {us vs : List Value} {fp1 fp2 : List Addr} {St1 St2 : Nat → Heap → Prop} (I : Inv X pins σ H s) (kx : Vals xs us) (ky : Vals ys vs) (zx : xs.length ≤ sizeLine)
    (S : ZipSep2 (s.heap.objs.size + 4) (s.heap.objs.size + 2) (s.heap.objs.size + 3) s.heap.objs.size (s.heap.objs.size + 1) fp1 fp2)
    (D1 : Draws X.prog X.w X.A.in1.in1.in1 s.heap.objs.size fp1 us.toArray.size (fun i v => us.toArray[i]? = some v) St1) (D2 : Draws X.prog X.w X.A.in1.in1.in1 (s.heap.objs.size + 1) fp2 vs.toArray.size (fun i v => vs.toArray[i]? = some v) St2)
    (hz : IsZip h' (s.heap.objs.size + 4) (s.heap.objs.size + 2) (s.heap.objs.size + 3) .none) (hTI : IsPair h' (s.heap.objs.size + 2) (.ref s.heap.objs.size) (.ref (s.heap.objs.size + 1))) (hTO : IsPair h' (s.heap.objs.size + 3) .none .none) (st1 : St1 0 h') (st2 : St2 0 h') (hsz : h'.objs.size = s.heap.objs.size + 5)
    (hf1 : ∀ b ∈ fp1, b < s.heap.objs.size + 5) (hf2 : ∀ b ∈ fp2, b < s.heap.objs.size + 5) (hk : ∀ c o, s.heap.get? c = some o → h'.get? c = some o)
    (q : ∀ (p : Addr) (ts : List Addr), H p = none → (∀ t ∈ ts, H t = none) → ts.Nodup → p ∉ ts → ts.length = (xs.zip ys).length → Q (.ref p) (upd (putZ H ts (xs.zip ys)) p (.lst (ts.map V.ref)))) :
    wpAny (model X.prog X.w) X.A (call (.type "list") [.ref (s.heap.objs.size + 4)]) (EP X pins σ Q) X.xe { s with heap := h' } := by
  have lx := kx.length
  have ly := ky.length
  have hlt : ∀ b ∈ (s.heap.objs.size + 4) :: (s.heap.objs.size + 2) :: (s.heap.objs.size + 3) :: (fp1 ++ fp2), b < h'.objs.size := fun b hb => by
    rw [hsz]
    rcases List.mem_cons.mp hb with e | hb
    · rw [e]
      exact Nat.lt_succ_self _
    rcases List.mem_cons.mp hb with e | hb
    · rw [e]
      exact Nat.add_lt_add_left (by decide) _
    rcases List.mem_cons.mp hb with e | hb
    · rw [e]
      exact Nat.add_lt_add_left (by decide) _
    rcases List.mem_append.mp hb with h | h
    · exact hf1 b h
    · exact hf2 b h
  have old : ∀ b (o : Obj), s.heap.get? b = some o → b ≠ s.heap.objs.size + 4 ∧ b ≠ s.heap.objs.size + 3 ∧ b ≠ s.heap.objs.size ∧ b ≠ s.heap.objs.size + 1 := fun b o e => by
    have := Heap.lt_size e
    exact ⟨Nat.ne_of_lt (Nat.lt_add_right _ this), Nat.ne_of_lt (Nat.lt_add_right _ this), Nat.ne_of_lt this, Nat.ne_of_lt (Nat.lt_add_right _ this)⟩
  refine call_list_zip (s := { s with heap := h' }) S D1 D2 (by rw [List.size_toArray, List.size_toArray]; omega) hlt hz hTI hTO st1 st2 fun h2 tk Ts c k1 k2 k3 k4 k5 k6 => ?_
  have hl : Ts.length = (xs.zip ys).length := by
    rw [k3, List.size_toArray, List.size_toArray, List.length_zip, lx, ly]
  obtain ⟨j1, j2, j3, J⟩ := zip_laid (tk := tk) (h' := h2) (L := h'.objs.size) (as := Ts) (c := c) I (by rw [List.length_zip]; omega) kx ky (fun b o e => by
      obtain ⟨n1, n2, n3, n4⟩ := old b o e
      exact k1 b o n1 n2 n3 n4 (hk b o e)) (by rw [hsz]; exact Nat.le_add_right _ _) k2 hl (fun j T e => by
      obtain ⟨x1, x2, p1, p2, p3⟩ := k4 j T e
      exact ⟨x1, x2, by simpa using p1, by simpa using p2, p3⟩) (fun T m => by
      have h5 : h'.objs.size + 1 ≤ T := k5 T m
      refine ⟨Nat.le_trans ?_ (Nat.le_of_succ_le h5), fun e => ?_⟩
      · rw [hsz]
        exact Nat.le_add_right _ _
      · subst e
        exact Nat.not_succ_le_self _ h5) k6
  exact ⟨.ref _, _, J, rfl, q _ Ts j1 j2 k6 j3 hl⟩
theorem pe_zipL {e e2 : Expr} {ta : TA} {p p2 pos pos2 : Pos} (hc : X.calm = true) (hg : Gl X "list") (hm : X.mg "list" = none) (hg2 : Gl X "zip") (hm2 : X.mg "zip" = none) (ha : PA X [e, e2] ta)
    (hs : starEach [e, e2] X.env = (false, eval e X.env) :: starEach [e2] X.env) (hpl : (backTo pos2 (starEach [e2] X.env)).any (·.1) = false)
    (na : starEach [.Call (.Name "zip" p2) [e, e2] [] pos2] X.env = (false, eval (.Call (.Name "zip" p2) [e, e2] [] pos2) X.env) :: starEach [] X.env) :
    PE X (.Call (.Name "list" p) [.Call (.Name "zip" p2) [e, e2] [] pos2] [] pos) (tZipL X.K ta) := by
  refine ⟨fun pins s σ H Q I h => ?_⟩
  refine Call_ (ld_blt I hg hm boot_list (PyProof.Rows.callWith_type1 (args_cons (Call_ (ld_blt I hg2 hm2 PyProof.Rows.boot_zip (PyProof.Rows.callWith_type1 (thn (ha.run pos2 pins s σ H _ I h) fun us s1 ⟨vs, H1, I1, r1, q1⟩ => ?_) hs hpl))) na) na))
  obtain ⟨a, b, xs, ys, ex, hq, q⟩ := q1
  subst ex
  cases r1 with
  | cons r rr =>
    cases rr with
    | cons r' rr =>
      cases rr
      cases r
      cases r'
      rcases hq with ⟨hqx, hqy⟩ | ⟨hqx, hqy⟩
      · obtain ⟨its, rv, p1, z1⟩ := I1.list hqx
        obtain ⟨its2, rv2, p3, z2⟩ := I1.list hqy
        refine call_zip_2 p1.isList p3.isList fun h' hz hTI hTO h1 h2 hsz hk => args_nil ?_
        exact list_zip_tail I1 rv rv2 z1 (zip_sep s1.heap.objs.size a b p1.lt p3.lt)
          (Draws.list (A := X.A.in1.in1.in1) (I1.ok.hd hc) s1.heap.objs.size a (Nat.ne_of_lt p1.lt) its.toArray) (Draws.list (A := X.A.in1.in1.in1) (I1.ok.hd hc) (s1.heap.objs.size + 1) b (Nat.ne_of_lt (Nat.lt_succ_of_lt p3.lt)) its2.toArray)
          hz hTI hTO ⟨h1, p1.isList.at fun o e => hk _ o e⟩ ⟨h2, p3.isList.at fun o e => hk _ o e⟩ hsz (zip_lt _ _ p1.lt) (zip_lt1 _ _ p3.lt) hk q
      · obtain ⟨its, rv, p1, z1⟩ := I1.tuple hqx
        obtain ⟨its2, rv2, p3, z2⟩ := I1.tuple hqy
        obtain ⟨o1, ho1, _⟩ := id p1
        obtain ⟨o2, ho2, _⟩ := id p3
        have t1 : s1.heap.IsTuple a its.toArray := p1
        have t2 : s1.heap.IsTuple b its2.toArray := p3
        have l1 := Heap.lt_size ho1
        have l2 := Heap.lt_size ho2
        refine RZ.call_zipT t1 t2 fun h' hz hTI hTO h1 h2 hsz hk => args_nil ?_
        have t3 : h'.IsTuple a its.toArray := by
          obtain ⟨o, e, r⟩ := t1
          exact ⟨o, hk _ _ e, r⟩
        have t4 : h'.IsTuple b its2.toArray := by
          obtain ⟨o, e, r⟩ := t2
          exact ⟨o, hk _ _ e, r⟩
        exact list_zip_tail I1 rv rv2 z1 (zip_sep s1.heap.objs.size a b l1 l2)
          (Draws.tuple (A := X.A.in1.in1.in1) (I1.ok.hd hc) s1.heap.objs.size a (Nat.ne_of_lt l1) its.toArray) (Draws.tuple (A := X.A.in1.in1.in1) (I1.ok.hd hc) (s1.heap.objs.size + 1) b (Nat.ne_of_lt (Nat.lt_succ_of_lt l2)) its2.toArray)
          hz hTI hTO ⟨h1, t3⟩ ⟨h2, t4⟩ hsz (zip_lt _ _ l1) (zip_lt1 _ _ l2) hk q
end
/-! ### the rule of the layer -/
section
variable {I : Type} {X : I → Cx} {P : Program} {w : World} {K : PySem.W.Frag} {mg : Str → Option Value} {base : Heap} {k : Nat}
def gZipL : GL := fun ds M => match ds with
  | [.tup xs, .tup ys] => some (.lst ((xs.zip ys).map fun p => .tup [p.1, p.2]), M)
  | [a, b] => (match lstOf M a, lstOf M b with
    | some xs, some ys => some (.lst ((xs.zip ys).map fun p => .tup [p.1, p.2]), M)
    | _, _ => none)
  | _ => none
theorem lay_zip {M : Mh} : ∀ (ts : List Addr) (xs ys : List V) (ds es : List D) (W : Wd), W.Ok K M → (∀ t ∈ ts, W.H t = none) → ts.Nodup → ts.length = (xs.zip ys).length → RepL K W.B W.ι xs ds → RepL K W.B W.ι ys es →
    ∃ W' : Wd, W.Le W' ∧ W'.Ok K M ∧ W'.H = putZ W.H ts (xs.zip ys) ∧ RepL K W'.B W'.ι (ts.map V.ref) ((ds.zip es).map fun p => .tup [p.1, p.2])
  | [], xs, ys, ds, es, W, w, hn, nd, hl, r, r' => by
    refine ⟨W, .refl W, w, ?_, ?_⟩
    · cases h : xs.zip ys <;> rfl
    · have := r.len
      have := r'.len
      rw [List.length_zip] at hl
      have e : ds.zip es = [] := List.eq_nil_of_length_eq_zero (by
        rw [List.length_zip]
        simp at hl
        omega)
      rw [e]
      exact .nil
  | t :: ts, xs, ys, ds, es, W, w, hn, nd, hl, r, r' => by
    have nd' := List.nodup_cons.mp nd
    cases r with
    | nil => simp at hl
    | cons rx r =>
      cases r' with
      | nil => simp at hl
      | cons ry r' =>
        rename_i v1 d1 vs1 ds1 v2 d2 vs2 ds2
        obtain ⟨l2, w2, r3⟩ := lay_tup w (hn t List.mem_cons_self) (.cons rx (.cons ry .nil))
        obtain ⟨W3, l3, w3, e3, r4⟩ := lay_zip ts vs1 vs2 ds1 ds2 _ w2 (fun x hx => by
          show upd W.H t _ x = none
          rw [upd_ne (show x ≠ t from fun e => nd'.1 (by rw [← e]; exact hx))]
          exact hn x (List.mem_cons_of_mem _ hx)) nd'.2 (by simpa using hl) (r.le l2) (r'.le l2)
        exact ⟨W3, l2.trans l3, w3, e3, .cons (r3.le l3) r4⟩
theorem zipL_rep {W : Wd} {M M' : Mh} {vs : List V} {ds : List D} {z : D} {Q : VK} (w : W.Ok K M) (r : RepL K W.B W.ι vs ds) (e : gZipL ds M = some (z, M')) (q : VR K W z M' Q) : rZipL K vs W.H Q := by
  have fin : ∀ (a b : Addr) (xs ys : List V) (as bs : List D), RepL K W.B W.ι xs as → RepL K W.B W.ι ys bs → ((SqL K W.H a xs ∧ SqL K W.H b ys) ∨ (SqT K W.H a xs ∧ SqT K W.H b ys)) → VR K W (.lst ((as.zip bs).map fun p => .tup [p.1, p.2])) M Q → rZipL K [.ref a, .ref b] W.H Q := fun a b xs ys as bs r1 r2 h q => by
    refine ⟨a, b, xs, ys, rfl, h, fun p ts h1 h2 h3 h4 h5 => ?_⟩
    obtain ⟨W2, l2, w2, e2, r3⟩ := lay_zip ts xs ys as bs W w h2 h3 h5 r1 r2
    have hp : W2.H p = none := by
      rw [e2, putZ_off _ _ _ h4]
      exact h1
    obtain ⟨l3, w3, r4⟩ := lay_lst w2 hp r3
    rw [← e2]
    exact q _ _ (l2.trans l3) w3 r4
  unfold gZipL at e
  split at e
  · cases e
    cases r with
    | cons r1 r2 =>
      cases r2 with
      | cons r2 r3 =>
        cases r3
        obtain ⟨a, us, rfl, s1, q1⟩ := tup_rep w r1
        obtain ⟨b, us2, rfl, s2, q2⟩ := tup_rep w r2
        exact fin a b us us2 _ _ q1 q2 (.inr ⟨s1, s2⟩) q
  · split at e
    · rename_i xs ys h1 h2
      cases e
      cases r with
      | cons r1 r2 =>
        cases r2 with
        | cons r2 r3 =>
          cases r3
          obtain ⟨a, us, rfl, s1, q1⟩ := lstOf_rep w r1 h1
          obtain ⟨b, us2, rfl, s2, q2⟩ := lstOf_rep w r2 h2
          exact fin a b us us2 _ _ q1 q2 (.inl ⟨s1, s2⟩) q
    · cases e
  · cases e
theorem DE.zipL (c : Ctx X P w K mg base k) {e e2 : Expr} {p p2 pos pos2 : Pos} {a : AF} (hm : mg "list" = none) (hm2 : mg "zip" = none) (ha : DA X K [e, e2] a) (hg : ∀ i, Gl (X i) "list" := by intro _; rfl) (hg2 : ∀ i, Gl (X i) "zip" := by intro _; rfl)
    (hs : ∀ i, starEach [e, e2] (X i).env = (false, eval e (X i).env) :: starEach [e2] (X i).env := by intro _; rfl) (hpl : ∀ i, (backTo pos2 (starEach [e2] (X i).env)).any (·.1) = false := by intro _; rfl)
    (na : ∀ i, starEach [.Call (.Name "zip" p2) [e, e2] [] pos2] (X i).env = (false, eval (.Call (.Name "zip" p2) [e, e2] [] pos2) (X i).env) :: starEach [] (X i).env := by intro _; rfl) :
    DE X K (.Call (.Name "list" p) [.Call (.Name "zip" p2) [e, e2] [] pos2] [] pos) (eB gZipL a) := by
  obtain ⟨t, pa, ra⟩ := ha.go
  refine ⟨tZipL K t, fun i => ?_, fun σ W δ M d M' Q w s e q => ?_⟩
  · have h := pe_zipL (X := X i) (p := p) (pos := pos) (c.calm i) (hg i) (by rw [c.mg i]; exact hm) (hg2 i) (by rw [c.mg i]; exact hm2) (pa i) (hs i) (hpl i) (na i)
    rw [c.K i] at h
    exact h
  · unfold eB at e
    split at e
    · rename_i ds M1 h1
      exact ra σ W δ M _ _ _ w s h1 fun vs W1 l1 w1 r1 => zipL_rep w1 r1 e (q.le l1)
    · cases e
end
end Pl

/-! PlA: a = b = e -/
namespace Pl
open PySem PySem.Spec PyProof.Rows L2
section
variable {I : Type} {X : I → Cx} {P : Program} {w : World} {K : PySem.W.Frag} {mg : Str → Option Value} {base : Heap} {k : Nat}
def sAs2 (f : EF) (g h : GF) : SF := fun δ M => match f δ M with
  | some (d, M1) => (match g d δ with
    | some δ1 => (match h d δ1 with
      | some δ2 => some (.nx δ2 M1)
      | none => none)
    | none => none)
  | none => none
theorem DS.asg2 {t1 t2 e : Expr} {pos} {f : EF} {g h : GF} {sl sl2 : List Nat} (a : DE X K e f) (b : DG X K t1 g sl) (b2 : DG X K t2 h sl2) (ha : ∀ i, (assignEach [t1, t2] (X i).env).map (·.2) = [assign t1 (X i).env, assign t2 (X i).env] := by intro _; rfl) (hw : ∀ i, swappedStores [t1, t2] e (X i).env = pure none := by intro _; rfl) :
    DS X K (.Assign [t1, t2] e pos) (sAs2 f g h) := by
  obtain ⟨t, p, r⟩ := a.go
  obtain ⟨tg, pg, rg⟩ := b.go
  obtain ⟨th, ph, rh⟩ := b2.go
  refine ⟨_, fun i => ps_asg2 (p i) (pg i) (ph i) (ha i) (hw i), fun σ W δ M o E w s e q => ?_⟩
  unfold sAs2 at e
  split at e
  · rename_i d M1 h1
    split at e
    · rename_i δ1 h2
      split at e
      · rename_i δ2 h3
        cases e
        refine r σ W δ M d _ _ w s h1 fun v W1 l1 w1 r1 => ?_
        refine rg v d σ W1 δ δ1 _ _ w1 (s.le l1) r1 h2 fun σ1 s1 _ => ?_
        exact rh v d σ1 W1 δ1 δ2 _ _ w1 s1 r1 h3 fun σ2 s2 _ => q σ2 W1 l1 w1 s2
      · cases e
    · cases e
  · cases e
end
end Pl

/-! PlO: exceptions of the program's own classes, of any built-in base, as values with fields. -/
namespace PySem
namespace Ob
open PySem.W PySem.Calls PyProof.Rows PySem.HandSPX Builtin Builtin.ObjectAttr
section
variable {prog : Program} {w : World} {A : Around} {R : Result → Shared → Prop} {hp : Heap} {g : Array GenState} {d : Drawn} {t : Nat} {os : OsState} {K : W.Frag} {name : Str} {tk : Tok} {v : Value} {x C : Addr} {fv : Array Value} {B : String} {bmB : List Value}
/-- the first field of an exception: its dict is laid -/
theorem put_first (SF : StoreFacts B bmB "object.__setattr__" "object") (X : K.In hp) (hov : excOver K C bmB = true) (htk : takerIn K C name = some none) (hdi : ∃ cd, clsIn K C = some cd ∧ cd.hasDict = true) (hx : hp.get? x = some { cls := .ref C, data := .fields fv })
    (hq : ∀ h' tk' dx, (∀ b o, b ≠ x → hp.get? b = some o → h'.get? b = some o) → hp.objs.size ≤ dx → dx ≠ x → h'.get? x = some { cls := .ref C, dict := some dx, data := .fields fv } → h'.Ns1 dx (fun y => if y = name then some v else none) → R (.ok (.ret .none)) ⟨h', g, d, tk', os⟩) :
    codeAny (model prog w) A (.call (.builtin "object.__setattr__") ⟨[.ref x, .str name tk, v], []⟩) R ⟨hp, g, d, t, os⟩ := by
  obtain ⟨cd, hcd, hh⟩ := hdi
  have inst : W.InstAt hp x { cls := .ref C, data := .fields fv } C none := ⟨hx, rfl, rfl, trivial⟩
  have far : x ≠ hp.objs.size := Nat.ne_of_lt (Heap.lt_size hx)
  have cl : W.Looks (model prog w) hp (classData C) cd := W.looks_clsIn X hcd
  refine osa_openX SF X inst hov htk fun bb => ?_
  obtain ⟨c1, c2, c3, c4, c5, c6, c7, c8, c9, c10, c11⟩ := cd
  dsimp only at hh
  subst hh
  show wpAny _ _ (storeInOwnDict (.ref x) (.ref C) (.str name tk) name v bb) _ _ _
  unfold storeInOwnDict ownDictForStores
  repeat (first | with_reducible refine store_in_new ?_ ?_ | with_reducible refine wpAny_loadPart_at hx ?_ | with_reducible refine cl.at ?_ | wp_step)
  · exact ⟨_, #[], _, (Heap.get?_update_ne _ _ _ _ far.symm).trans (Heap.get?_push_at rfl rfl), rfl, fun e he => absurd he (by simp), fun _ => rfl⟩
  · intro h2 t2 n2 s2
    have at1 : (hp.push { cls := .type "dict", data := .dict #[] }).get? x = some { cls := .ref C, data := .fields fv } := Heap.get?_push_of_some _ hx
    exact hq h2 t2 hp.objs.size (fun b o hb ho => (s2.2 b (Nat.ne_of_lt (Heap.lt_size ho))).trans ((Heap.get?_update_ne _ _ _ _ hb).trans (Heap.get?_push_of_some _ ho))) (Nat.le_refl _) far.symm ((s2.2 x far).trans (Heap.get?_update_self _ at1 rfl)) n2
/-- a further field -/
theorem put_more {dx : Addr} {m0 : Str → Option Value} {nl : List Str} (SF : StoreFacts B bmB "object.__setattr__" "object") (X : K.In hp) (hov : excOver K C bmB = true) (htk : takerIn K C name = some none) (hdi : ∃ cd, clsIn K C = some cd ∧ cd.hasDict = true)
    (hx : hp.get? x = some { cls := .ref C, dict := some dx, data := .fields fv }) (hns : hp.Ns1 dx m0) (hw : Within m0 nl) (hz : nl.length ≤ 1000)
    (hq : ∀ h' tk', (∀ b o, b ≠ dx → hp.get? b = some o → h'.get? b = some o) → h'.Ns1 dx (fun y => if y = name then some v else m0 y) → R (.ok (.ret .none)) ⟨h', g, d, tk', os⟩) :
    codeAny (model prog w) A (.call (.builtin "object.__setattr__") ⟨[.ref x, .str name tk, v], []⟩) R ⟨hp, g, d, t, os⟩ := by
  obtain ⟨cd, hcd, hh⟩ := hdi
  obtain ⟨oD, esD, epD, hoD, hdD, _⟩ := hns.count hw
  have inst : W.InstAt hp x { cls := .ref C, dict := some dx, data := .fields fv } C (some oD) := ⟨hx, rfl, rfl, hoD⟩
  have cl : W.Looks (model prog w) hp (classData C) cd := W.looks_clsIn X hcd
  refine osa_openX SF X inst hov htk fun bb => ?_
  obtain ⟨c1, c2, c3, c4, c5, c6, c7, c8, c9, c10, c11⟩ := cd
  dsimp only at hh
  subst hh
  show wpAny _ _ (storeInOwnDict (.ref x) (.ref C) (.str name tk) name v bb) _ _ _
  unfold storeInOwnDict ownDictForStores
  repeat (first | with_reducible refine PySem.OEX.store_in_old hns hw hz ?_ | with_reducible refine wpAny_loadPart_at hx ?_ | with_reducible refine cl.at ?_ | wp_step)
  intro h2 t2 n2 s2
  exact hq h2 t2 (fun b o hb ho => (s2.2 b hb).trans ho) n2
end
end Ob
end PySem

namespace Pl
open PySem PySem.Spec PyProof.Rows L2
/-- what the written part says of an own exception class, whatever its built-in base -/
structure ExG (K : PySem.W.Frag) (C : Addr) (B newId initId : String) (bmB : List Value) : Prop where
  base : ExcBaseFacts B newId initId bmB
  store : StoreFacts B bmB "object.__setattr__" "object"
  ini : PySem.W.excInitIn K C bmB newId = true
  ov : PySem.W.excOver K C bmB = true
  di : ∃ cd, PySem.W.clsIn K C = some cd ∧ cd.hasDict = true
  sa : PySem.W.findIn K (.ref C) "__setattr__" = some (some (.builtin "object.__setattr__"))
  keep : PySem.W.keepIn K (.ref C) = true
section
variable {X : Cx} {pins : List (Addr × Obj)} {σ : L2.St} {H : Hp} {s : Shared} {a C dx : Addr} {f : Str} {y : V} {u : Value} {fs : List (Str × V)} {Q : Unit → Shared → Prop} {E : Value → Shared → Prop} {A : Around} {B newId initId : String} {bmB : List Value}
/-- a first field is set -/
theorem og_new (T : ExG X.K C B newId initId bmB) (I : Inv X pins σ H s) (e : H a = some (exo a C none)) (ht : PySem.W.takerIn X.K C f = some none) (ry : RelV y u)
    (h : ∀ dx s', H dx = none → dx ≠ a → Inv X pins σ (upd (upd H dx (exd dx [(f, y)])) a (exo a C (some dx))) s' → Q () s') : wpAny (model X.prog X.w) A (setAttr (.ref a) f u) Q E s := by
  obtain ⟨t1, at0⟩ := exo_at I.hok e
  obtain ⟨hA, g, d, t, os⟩ := s
  refine PySem.W.set_plain I.kIn (ox := { cls := .ref C, dict := none, data := .fields #[.ref t1, .none, .none, .none, .bool false, .none] }) (od := none) ⟨at0, rfl, rfl, trivial⟩ T.sa ?_
  refine PySem.Ob.put_first T.store I.kIn T.ov ht T.di at0 fun hB tB dB kept up ne atB nsB => ?_
  have fresh : H dB = none := I.hok.fresh up
  have notA : ∀ {b : Addr}, H b = none → b ≠ a := fun {b} n z => by
    rw [z, e] at n
    cases n
  have notD : ∀ {b : Addr} {o : Obj}, hA.get? b = some o → b ≠ dB := fun {b o} q z => absurd (Heap.lt_size q) (Nat.not_lt.mpr (z ▸ up))
  have same : ∀ {b : Addr} {o : HO}, H b = some o → (∀ z, o ≠ exo a C z) → upd (upd H dB (exd dB [(f, y)])) a (exo a C (some dB)) b = some o := fun {b o} q n => by
    rw [upd_ne (fun z => by rw [z, e] at q; exact n _ (Option.some.inj q).symm), upd_ne (ne_of_none q fresh)]
    exact q
  have U : Un X.fs [] H (upd (upd H dB (exd dB [(f, y)])) a (exo a C (some dB))) hA hB :=
    ⟨fun b o q n _ _ => kept b o (notA n) q, fun b o q n _ _ => ⟨o.slots, kept b o (notA n) q⟩, fun b o q n _ => by rw [upd_ne (notA n), upd_ne (notD q)]; exact n,
      fun b o q _ => by
        by_cases hb : b = a
        · exact ⟨_, by rw [hb]; exact atB⟩
        · exact ⟨o, kept b o hb q⟩,
      fun b xs q => same q fun z => exo_tup.symm, fun b o v q => same q fun z => exo_frz.symm, fun b ps q => ⟨#[], by rw [same q fun z => exo_tbl.symm]; simp⟩⟩
  refine h dB _ fresh ne (I.un (t' := tB) U fun b o q => ?_)
  by_cases hb : b = a
  · subst hb
    rw [upd_same] at q
    cases q
    exact exo_ok atB
  · rw [upd_ne hb] at q
    by_cases hd : b = dB
    · subst hd
      rw [upd_same] at q
      cases q
      exact exd_ok nsB (relO_put (fs := []) ry fun g => True.intro)
    · rw [upd_ne hd] at q
      refine (I.hok b o q).stay (fun c v hc z => kept c v ?_ z) (fun c hc => same hc fun z => exo_own.symm) fun c xs hc => same hc fun z => exo_tup.symm
      rcases hc with hc | hc
      · rw [hc]
        exact hb
      · exact fun z => exo_own (Option.some.inj ((z ▸ e).symm.trans hc))
/-- a further one -/
theorem og_more (T : ExG X.K C B newId initId bmB) (I : Inv X pins σ H s) (e : H a = some (exo a C (some dx))) (ed : H dx = some (exd dx fs)) (hl : fs.length ≤ 900) (ht : PySem.W.takerIn X.K C f = some none) (ry : RelV y u)
    (h : ∀ s', Inv X pins σ (upd H dx (exd dx ((f, y) :: fs))) s' → Q () s') : wpAny (model X.prog X.w) A (setAttr (.ref a) f u) Q E s := by
  obtain ⟨t1, at0⟩ := exo_at I.hok e
  obtain ⟨mA, hns, rel⟩ := exd_at I.hok ed
  have hw := within_of rel
  obtain ⟨hA, g, d, t, os⟩ := s
  obtain ⟨oD, _, _, hoD, _, _⟩ := hns.count hw
  refine PySem.W.set_plain I.kIn (ox := { cls := .ref C, dict := some dx, data := .fields #[.ref t1, .none, .none, .none, .bool false, .none] }) (od := some oD) ⟨at0, rfl, rfl, hoD⟩ T.sa ?_
  refine PySem.Ob.put_more T.store I.kIn T.ov ht T.di at0 hns hw (by rw [List.length_map]; omega) fun hB tB kept nsB => ?_
  have there : ∃ o, hB.get? dx = some o := by
    obtain ⟨o, _, _, q, _⟩ := nsB
    exact ⟨o, q⟩
  exact h _ (I.write (t' := tB) (x := dx) (e := dx) (o := exd dx ((f, y) :: fs)) (by rw [ed]; exact True.intro) (.inl rfl) kept there (exd_ok nsB (relO_put ry rel)))
end
/-- what the written part says of an own exception class's fields: they are set and read -/
def OkF (K : PySem.W.Frag) (C : Addr) (f : Str) : Prop := (∃ B newId initId bmB, ExG K C B newId initId bmB) ∧ PySem.W.takerIn K C f = some none
/-- self.f = e -/
def tOg (K : PySem.W.Frag) (f : Str) (to te : TE) : TS := fun D σ H => te σ H fun y H1 => to σ H1 fun x H2 => ∃ a C : Addr, x = .ref a ∧ OkF K C f ∧
  ((H2 a = some (exo a C none) ∧ ∀ dx, H2 dx = none → dx ≠ a → D.nx σ (upd (upd H2 dx (exd dx [(f, y)])) a (exo a C (some dx)))) ∨
    ∃ (dx : Addr) (fs : List (Str × V)), H2 a = some (exo a C (some dx)) ∧ H2 dx = some (exd dx fs) ∧ fs.length ≤ 900 ∧ D.nx σ (upd H2 dx (exd dx ((f, y) :: fs))))
/-- o.f of such an exception -/
def tGf (K : PySem.W.Frag) (f : Str) (to : TE) : TE := fun σ H Q => to σ H fun x H1 => ∃ (a C dx : Addr) (fs : List (Str × V)) (v : V), x = .ref a ∧ XfC K C ∧ PySem.W.findIn K (.ref C) f = some none ∧ H1 a = some (exo a C (some dx)) ∧ H1 dx = some (exd dx fs) ∧ fs.lookup f = some v ∧ Q v H1
section
variable {X : Cx} {o e : Expr} {to te : TE} {f : Str} {p' pos : Pos}
theorem ps_og (ho : PE X o to) (he : PE X e te) (hs : swapsWith e (some (.Attribute o f p')) pos.line X.env = pure false) : PS X (.Assign [.Attribute o f p'] e pos) (tOg X.K f to te) := by
  refine ⟨fun pinsA σA sA HA DA IA hA => ?_⟩
  refine plainObj_wpAny_Assign_Attribute (thn (he.run pinsA σA sA HA _ IA hA) fun v s1 ⟨y, H1, I1, r1, q1⟩ => thn (ho.run pinsA s1 sA H1 _ I1 q1) fun w2 s2 ⟨x, H2, I2, r2, a, C, ex, ⟨⟨_, _, _, _, T⟩, ht⟩, q⟩ => ?_) hs
  subst ex
  cases r2
  rcases q with ⟨ea, q⟩ | ⟨dx, fs, ea, ed, hl, q⟩
  · exact og_new T I2 ea ht r1 fun dx s' n ne J => ⟨_, _, J, q dx n ne⟩
  · exact og_more T I2 ea ed hl ht r1 fun s' J => ⟨_, _, J, q⟩
theorem pe_gf (ho : PE X o to) (hb : attributeBase o f X.env (eval o X.env) = eval o X.env) : PE X (.Attribute o f pos) (tGf X.K f to) := by
  refine ⟨fun pinsA sA σA HA QA IA hA => ?_⟩
  refine attr_of hb (thn (ho.run pinsA sA σA HA _ IA hA) fun w1 s1 ⟨x, H1, I1, rx, a, C, dx, fs, v, ex, T, hno, ea, ed, l, q⟩ => ?_)
  subst ex
  cases rx
  obtain ⟨t1, at0⟩ := exo_at I1.hok ea
  obtain ⟨mA, hns, hr⟩ := exd_at I1.hok ed
  obtain ⟨od, ho2, hl⟩ := lookIn_ns hns
  obtain ⟨u, hu, ru⟩ := RelO.some_of (v := v) (o := mA f) (by rw [← l]; exact hr f)
  have inst : PySem.W.InstAt s1.heap a { cls := .ref C, dict := some dx, data := .fields #[.ref t1, .none, .none, .none, .bool false, .none] } C (some od) := ⟨at0, rfl, rfl, ho2⟩
  exact HandSPX.exc_get I1.kIn inst T.ga T.gg T.exC (PySem.W.findObj_own T.hdC hno rfl (by rw [hl, hu])) (handed_of ru) ⟨v, H1, I1.tok _, ru, q⟩
end
end Pl
/-! ### the layer -/
namespace Pl
open PySem PySem.Spec PyProof.Rows L2
section
variable {I : Type} {X : I → Cx} {P : Program} {w : World} {K : PySem.W.Frag} {mg : Str → Option Value} {base : Heap} {k : Nat}
def sOg (okf : Addr → Str → Bool) (f : Str) (fo fe : EF) : SF := fun δ M => match fe δ M with
  | some (y, M1) => (match fo δ M1 with
    | some (.ref n, M2) => (match M2[n]? with
      | some (.exo C none) => if okf C f = true then some (.nx δ ((M2 ++ [MO.exd [(f, y)]]).set n (MO.exo C (some M2.length)))) else none
      | some (.exo C (some m)) => if okf C f = true then (match M2[m]? with
        | some (.exd fs) => if fs.length ≤ 900 then some (.nx δ (M2.set m (MO.exd ((f, y) :: fs)))) else none
        | _ => none) else none
      | _ => none)
    | _ => none)
  | none => none
def eGf (okg : Addr → Str → Bool) (f : Str) (fo : EF) : EF := fun δ M => match fo δ M with
  | some (.ref n, M1) => (match M1[n]? with
    | some (.exo C (some m)) => if okg C f = true then (match M1[m]? with
      | some (.exd fs) => (fs.lookup f).map fun d => (d, M1)
      | _ => none) else none
    | _ => none)
  | _ => none
theorem exo_live {W : Wd} {M : Mh} {x : V} {n : Nat} {C : Addr} (w : W.Ok K M) (r : Rep K W.B W.ι x (.ref n)) (hm : M[n]? = some (.exo C none)) : ∃ a, x = .ref a ∧ Live W M n a (.exo C none) ∧ W.H a = some (exo a C none) := by
  cases r with
  | ref hi =>
    have lv : Live W M n _ (.exo C none) := ⟨hi, hm, fun z => by cases z⟩
    obtain ⟨_, _, o, ho, ro⟩ := w.live _ _ _ lv
    cases ro with
    | exo => exact ⟨_, rfl, lv, ho⟩
theorem exoD_live {W : Wd} {M : Mh} {x : V} {n m : Nat} {C : Addr} {fs : List (Str × D)} (w : W.Ok K M) (r : Rep K W.B W.ι x (.ref n)) (hm : M[n]? = some (.exo C (some m))) (hf : M[m]? = some (.exd fs)) :
    ∃ a d vs, x = .ref a ∧ W.H a = some (exo a C (some d)) ∧ Live W M m d (.exd fs) ∧ W.H d = some (exd d vs) ∧ RepF K W.B W.ι vs fs := by
  cases r with
  | ref hi =>
    obtain ⟨_, _, o, ho, ro⟩ := w.live _ _ _ ⟨hi, hm, fun z => by cases z⟩
    cases ro with
    | exoD hd =>
      have lv : Live W M m _ (.exd fs) := ⟨hd, hf, fun z => by cases z⟩
      obtain ⟨_, _, o2, ho2, ro2⟩ := w.live _ _ _ lv
      cases ro2 with
      | exd rf => exact ⟨_, _, _, rfl, ho, lv, ho2, rf⟩
theorem DS.og {okf : Addr → Str → Bool} (hok : ∀ C f, okf C f = true → OkF K C f) (c : Ctx X P w K mg base k) {o e : Expr} {f : Str} {p' pos : Pos} {fo fe : EF} (b : DE X K o fo) (a : DE X K e fe) (hs : ∀ i, swapsWith e (some (.Attribute o f p')) pos.line (X i).env = pure false := by intro _; rfl) :
    DS X K (.Assign [.Attribute o f p'] e pos) (sOg okf f fo fe) := by
  obtain ⟨te, pe, re⟩ := a.go
  obtain ⟨tO, po, ro⟩ := b.go
  refine ⟨tOg K f tO te, fun i => ?_, fun σ W δ M oo E w s ev q => ?_⟩
  · have h := ps_og (X := X i) (po i) (pe i) (hs i)
    rw [c.K i] at h
    exact h
  · unfold sOg at ev
    split at ev
    · rename_i y M1 h1
      refine re σ W δ M y M1 _ w s h1 fun v W1 l1 w1 r1 => ?_
      split at ev
      · rename_i n M2 h2
        refine ro σ W1 δ M1 _ M2 _ w1 (s.le l1) h2 fun u W2 l2 w2 r2 => ?_
        split at ev
        · rename_i C hm
          split at ev
          · rename_i hf
            cases ev
            obtain ⟨a, rfl, lv, ha⟩ := exo_live w2 r2 hm
            refine ⟨a, C, rfl, hok _ _ hf, .inl ⟨ha, fun dx hn ne => ?_⟩⟩
            have w3 := Wd.new_ok (m := .exd [(f, y)]) (o := exd dx [(f, v)]) w2 hn (.exd (.cons (r1.le l2) .nil))
            have lv3 : Live (W2.new dx (exd dx [(f, v)])) (M2 ++ [.exd [(f, y)]]) n a (.exo C none) := by
              obtain ⟨z1, z2, z3⟩ := lv
              refine ⟨?_, ?_, z3⟩
              · show (W2.ι ++ [dx])[n]? = some a
                rw [List.getElem?_append_left (List.getElem?_eq_some_iff.mp z1).1]
                exact z1
              · rw [List.getElem?_append_left (List.getElem?_eq_some_iff.mp z2).1]
                exact z2
            have w4 := Wd.put_ok (m' := .exo C (some M2.length)) (o := exo a C (some dx)) w3 lv3 (.exoD (by
              show (W2.ι ++ [dx])[M2.length]? = some dx
              rw [← w2.len]
              simp))
            exact q σ _ (((l1.trans l2).trans Wd.new_le).trans Wd.put_le) w4 (((s.le l1).le l2).le Wd.new_le |>.le Wd.put_le)
          · cases ev
        · rename_i C m hm
          split at ev
          · rename_i hf
            split at ev
            · rename_i fs hfs
              split at ev
              · rename_i hl
                cases ev
                obtain ⟨a, d, vs, rfl, ha, lv, hd, rf⟩ := exoD_live w2 r2 hm hfs
                refine ⟨a, C, rfl, hok _ _ hf, .inr ⟨d, vs, ha, hd, by rw [rf.len]; exact hl, ?_⟩⟩
                have w3 := Wd.put_ok (m' := .exd ((f, y) :: fs)) (o := exd d ((f, v) :: vs)) w2 lv (.exd (.cons (r1.le l2) rf))
                exact q σ _ ((l1.trans l2).trans Wd.put_le) w3 (((s.le l1).le l2).le Wd.put_le)
              · cases ev
            · cases ev
          · cases ev
        · cases ev
      · cases ev
    · cases ev
theorem DE.gf {okg : Addr → Str → Bool} (hok : ∀ C f, okg C f = true → XfC K C ∧ PySem.W.findIn K (.ref C) f = some none) (c : Ctx X P w K mg base k) {o : Expr} {f : Str} {pos : Pos} {fo : EF} (b : DE X K o fo) (hb : ∀ i, attributeBase o f (X i).env (eval o (X i).env) = eval o (X i).env := by intro _; rfl) :
    DE X K (.Attribute o f pos) (eGf okg f fo) := by
  obtain ⟨tO, po, ro⟩ := b.go
  refine ⟨tGf K f tO, fun i => ?_, fun σ W δ M d M' Q w s ev q => ?_⟩
  · have h := pe_gf (X := X i) (pos := pos) (po i) (hb i)
    rw [c.K i] at h
    exact h
  · unfold eGf at ev
    split at ev
    · rename_i n M1 h1
      refine ro σ W δ M _ M1 _ w s h1 fun u W1 l1 w1 r1 => ?_
      split at ev
      · rename_i C m hm
        split at ev
        · rename_i hf
          split at ev
          · rename_i fs hfs
            cases hl : fs.lookup f with
            | none =>
              rw [hl] at ev
              cases ev
            | some z =>
              rw [hl] at ev
              cases ev
              obtain ⟨a, dd, vs, rfl, ha, lv, hd, rf⟩ := exoD_live w1 r1 hm hfs
              obtain ⟨v, e1, e2⟩ := rf.get hl
              exact ⟨a, C, dd, vs, v, rfl, (hok _ _ hf).1, (hok _ _ hf).2, ha, hd, e1, q v W1 l1 w1 e2⟩
          · cases ev
        · cases ev
      · cases ev
    · cases ev
end
end Pl

/-! PlN: C(..) of an own exception class with its own __init__, as a value. -/
namespace Pl
open PySem PySem.Spec PyProof.Rows L2
section
variable {I : Type} {X : I → Cx} {P : Program} {w : World} {K : PySem.W.Frag} {mg : Str → Option Value} {base : Heap} {k : Nat}
def eMk (C : Addr) (F : Fn) (g : AF) (dds : List D) : EF := fun δ M => match g δ M with
  | some (ds, M1) => (match F (.ref M1.length :: (ds ++ dds)) (M1 ++ [MO.exo C none]) with
    | some (.non, M2) => some (.ref M1.length, M2)
    | _ => none)
  | none => none
/-- the class is called: a new exception, then its __init__ -/
theorem mk_call {Y : Cx} {pins : List (Addr × Obj)} {σ : L2.St} {H : Hp} {s : Shared} {Q : VK} {C fI : Addr} {fd : FuncData} {ps : List Str} {F : Fn} {us dsv : List Value} {vs dvs : List V} {B newId initId : String} {bmB : List Value} {kf : Nat} (T : ExG Y.K C B newId initId bmB)
    (iC : PySem.W.findIn Y.K (.ref C) "__init__" = some (some (.ref fI))) (tI : PySem.W.typeIn Y.K (.ref fI) = some (.type "function")) (h : DFn Y.prog Y.w Y.K Y.mg Y.base kf fI fd ps F) (room : Room (kf + 1) Y.A) (grd : Y.A.guards = some [])
    (J : Inv Y pins σ H s) (hb : Binds Y.K fd ps dsv) (r : Vals vs us) (hd : Vals dvs dsv) (hz : vs.length ≤ 1000) (hl : (vs ++ dvs).length + 1 = ps.length) (q : ∀ a, H a = none → spD Y.K ps.length F (.ref a :: (vs ++ dvs)) (upd H a (exo a C none)) (fun v H2 => v = .non ∧ Q (.ref a) H2)) :
    wpAny (model Y.prog Y.w) Y.A (call (.ref C) us) (EP Y pins σ Q) Y.xe s := by
  obtain ⟨nm, N, qn, bs, bm, hdct, sn, sub, ab, col, dd, k0, k1, k2, k3, k5, hC, hct⟩ := PySem.W.excInit_of J.kIn T.ini
  obtain ⟨hA, g, dr, tk, os⟩ := s
  have new : H (hA.objs.size + 1) = none := J.hok.fresh (Nat.le_succ _)
  have up : ∀ b o, hA.get? b = some o → ((hA.push (PySem.W.kdv_tup us)).push (PySem.HandSPX.excO C hA.objs.size)).get? b = some o := fun b o e => Heap.get?_push_of_some _ (Heap.get?_push_of_some _ e)
  have atE : ((hA.push (PySem.W.kdv_tup us)).push (PySem.HandSPX.excO C hA.objs.size)).get? (hA.objs.size + 1) = some (PySem.HandSPX.excO C hA.objs.size) := by heap_get
  have J2 : Inv Y pins σ (upd H (hA.objs.size + 1) (exo (hA.objs.size + 1) C none)) ⟨(hA.push (PySem.W.kdv_tup us)).push (PySem.HandSPX.excO C hA.objs.size), g, dr, tk, os⟩ :=
    J.laid (t' := tk) (a := hA.objs.size + 1) (o := exo (hA.objs.size + 1) C none) up (Nat.le_succ _) (exo_ok atE)
  have rel : Vals (V.ref (hA.objs.size + 1) :: (vs ++ dvs)) (Value.ref (hA.objs.size + 1) :: (us ++ dsv)) := .cons rfl (r.append hd)
  have few : us.length ≤ sizeLine := by
    rw [← Paired.length r, sizeLine_eq]
    omega
  have le : (Value.ref (hA.objs.size + 1) :: us ++ dsv).length = ps.length := by
    have e := rel.length
    rw [List.length_cons] at e
    rw [← hl]
    exact e.symm
  refine wpAny_call (PySem.HandSPX.call_own T.base hct hC (PySem.W.looks_findIn J.kIn iC) (fun self => PySem.W.bind_fn J.kIn self tI) few
    (codeAny_mono (h.run _ Y.stack _ _ ⟨Value.ref (hA.objs.size + 1) :: us, []⟩ (Value.ref (hA.objs.size + 1) :: (us ++ dsv)) _ _ (room.make C us []) ?_ (J2.env0.make C us []) (hb _ (Value.ref (hA.objs.size + 1) :: us) J2.kIn le) rel (q _ new)) fun o s' ho => ?_))
  · unfold Around.under
    dsimp only
    rw [grd]
    rfl
  · match o, ho with
    | .ok (.ret u), ho =>
      obtain ⟨v, H2, J3, rv, ev, q3⟩ := J2.after ho
      subst ev
      exact ⟨rv, .ref (hA.objs.size + 1), H2, J3, rfl, q3⟩
    | .ok .next, ho => exact False.elim ho
    | .ok .brk, ho => exact False.elim ho
    | .ok .cont, ho => exact False.elim ho
    | .error _, ho => exact False.elim ho
/-- C(e, ..), dvs the defaults that fill up -/
theorem DE.mkG (c : Ctx X P w K mg base k) {x : Str} {p pos : Pos} {e : Expr} {es : List Expr} {g : AF} {C fI : Addr} {fd : FuncData} {ps : List Str} {F : Fn} {kf : Nat} {dvs : List V} {dds : List D} {dsv : List Value} {B newId initId : String} {bmB : List Value} (T : ExG K C B newId initId bmB)
    (iC : PySem.W.findIn K (.ref C) "__init__" = some (some (.ref fI))) (tI : PySem.W.typeIn K (.ref fI) = some (.type "function")) (h : DFn P w K mg base kf fI fd ps F) (hk : kf + 1 ≤ k) (hm : mg x = some (.ref C)) (hb : Binds K fd ps dsv) (hd : Vals dvs dsv) (hr : ∀ B ι, RepL K B ι dvs dds)
    (hn : (e :: es).length + dds.length + 1 = ps.length) (hz : (e :: es).length ≤ 1000) (ha : DA X K (e :: es) g) (hlen : ∀ δ M ds M', g δ M = some (ds, M') → ds.length = (e :: es).length) (hg : ∀ i, Gl (X i) x := by intro _; rfl)
    (hdbg : (x == ("__debug__" : Str)) = false := by decide) (he : ∀ i, starEach (e :: es) (X i).env = (false, eval e (X i).env) :: starEach es (X i).env := by intro _; rfl) (hpl : ∀ i, (backTo pos (starEach es (X i).env)).any (·.1) = false := by intro _; rfl) :
    DE X K (.Call (.Name x p) (e :: es) [] pos) (eMk C F g dds) := by
  obtain ⟨t, pa, ra⟩ := ha.go
  refine ⟨fun σ H Q => t σ H fun vs H1 => vs.length = (e :: es).length ∧ ∀ a, H1 a = none → spD K ps.length F (.ref a :: (vs ++ dvs)) (upd H1 a (exo a C none)) (fun v H2 => v = .non ∧ Q (.ref a) H2), fun i => ⟨fun pins s σ H Q J q => ?_⟩, fun σ W δ M d M' Q w s ev q => ?_⟩
  · have cK := c.K i
    refine wpAny_Call_Name_kw (ld_glob J (hg i) (by rw [c.mg i]; exact hm) ?_ hdbg)
    refine PySem.W.callWith_K (h₀ := (X i).base) J.ok.mod.kin (by rw [cK]; exact T.keep) (thn ((pa i).run pos pins s σ H _ J q) fun us s1 ⟨vs, H1, J1, r, hv, q1⟩ => ⟨J1.kIn, ?_⟩) (he i) (hpl i)
    have h' : DFn (X i).prog (X i).w (X i).K (X i).mg (X i).base kf fI fd ps F := by
      rw [c.prog i, c.wd i, c.K i, c.mg i, c.base i]
      exact h
    have ld : dvs.length = dds.length := (hr (fun _ => none) []).len
    exact mk_call (by rw [cK]; exact T) (by rw [cK]; exact iC) (by rw [cK]; exact tI) h' ((c.room i).mono hk) (c.grd i) J1 (by rw [cK]; exact hb) r hd (by rw [hv]; exact hz) (by rw [List.length_append, hv, ld]; exact hn) (by rw [cK]; exact q1)
  · unfold eMk at ev
    split at ev
    · rename_i ds M1 h1
      refine ra σ W δ M ds M1 _ w s h1 fun vs W1 l1 w1 r1 => ⟨by rw [r1.len, hlen _ _ _ _ h1], fun a hn1 => ?_⟩
      split at ev
      · rename_i M2 h2
        cases ev
        have w2 := Wd.new_ok (m := .exo C none) (o := exo a C none) w1 hn1 .exo
        have self : Rep K (W1.new a (exo a C none)).B (W1.new a (exo a C none)).ι (.ref a) (.ref M1.length) := .ref (by
          show (W1.ι ++ [a])[M1.length]? = some a
          rw [← w1.len]
          simp)
        refine ⟨W1.new a (exo a C none), M1 ++ [.exo C none], .ref M1.length :: (ds ++ dds), .non, _, rfl, w2, .cons self ((r1.le Wd.new_le).append (hr _ _)), ?_, h2, fun v W3 l3 w3 r3 => ?_⟩
        · rw [List.length_cons, List.length_append, hlen _ _ _ _ h1]
          exact hn
        · cases r3
          exact ⟨rfl, q _ W3 ((l1.trans Wd.new_le).trans l3) w3 (self.le l3)⟩
      · cases ev
    · cases ev
end
end Pl

/-! PlM: the class called with names. -/
namespace PySem
namespace Ob
open PySem.W PySem.Calls PyProof.Rows PySem.HandSPX
section
variable {M : Model} {prog : Program} {w : World} {A : Around} {E : Value → Shared → Prop} {R : Result → Shared → Prop} {h : Heap} {g : Array GenState} {d : Drawn} {t : Nat} {os : OsState} {nm qn : Str} {C N : Addr} {bs bm bmB : List Value} {hdct : Bool} {sn : List Str} {sub : List Value} {ab : Bool} {col : Option Bool} {dd : Option Addr} {k0 k1 k2 k3 k5 : Option Value} {B newId initId : String}
theorem kw_check (F : ExcBaseFacts B newId initId bmB) (hT : ∀ X : String, bm.contains (.type X) = bmB.contains (.type X)) {rest : List Value} {kw : List (Str × Value)} {Q : Unit → Shared → Prop}
    (hC : h.get? C = some (excClassObj nm qn C N bs bm hdct sn sub ab col dd k0 k1 k2 k3 k5 newId)) (hq : Q () ⟨h, g, d, t, os⟩) : wpAny M A (checkBuiltinCall newId ⟨.ref C :: rest, kw⟩) Q E ⟨h, g, d, t, os⟩ := by
  have has : (Value.ref C :: bm).contains (.type B) = true := by rw [List.contains_cons, hT, F.hasB, Bool.or_true]
  have st := F.noStar
  simp only [checkBuiltinCall, F.newKind, F.newSplit, F.newRow]
  repeat (first | refine wpAny_loadPart_at hC ?_ | (refine wpAny_isSubtype_exc hC ?_; rw [has]) | refine wpAny_staticBase_exc hC ?_ | refine wpAny_madeBy_exc hC ?_ | simp only [bne_self_eq_false, Bool.false_eq_true, if_false] | wp_step)
  exact hq
theorem kw_new (F : ExcBaseFacts B newId initId bmB) (hT : ∀ X : String, bm.contains (.type X) = bmB.contains (.type X)) {rest : List Value} {kw : List (Str × Value)}
    (hC : h.get? C = some (excClassObj nm qn C N bs bm hdct sn sub ab col dd k0 k1 k2 k3 k5 newId))
    (hq : R (.ok (.ret (.ref (h.objs.size + 1)))) ⟨(h.push (W.kdv_tup rest)).push (excO C h.objs.size), g, d, t, os⟩) (few : rest.length ≤ sizeLine) :
    codeAny (model prog w) A (.builtin newId ⟨.ref C :: rest, kw⟩) R ⟨h, g, d, t, os⟩ := by
  have ends := F.ends
  have has : (Value.ref C :: bm).contains (.type B) = true := by rw [List.contains_cons, hT, F.hasB, Bool.or_true]
  have hcA : (Value.ref C :: bm).contains (.type "AttributeError") = false := by rw [List.contains_cons, hT, F.noAttr]; rfl
  have hcN : (Value.ref C :: bm).contains (.type "NameError") = false := by rw [List.contains_cons, hT, F.noName]; rfl
  refine codeAny_builtinAt F.entry ?_
  unfold Builtin.«BaseException.__new__»
  refine wpAt_bind ?_
  show wpAt _ _ _ (stack >>= _) _ _ _
  refine wpAt_bind (wpAt_stack fun p below => wpAt_of_wpAny ?_)
  wp_walk
  refine wpAt_of_wpAny ?_
  rw [F.owner]
  repeat (first | with_reducible refine wpAny_madeHere_exc F.canon hC ?_ | with_reducible refine wpAny_loadPart_at hC ?_ | (with_reducible refine wpAny_isSubtype_exc hC ?_; first | rw [has] | rw [hcA] | rw [hcN]) | wp_step)
  show R _ _
  rw [Heap.size_push]
  exact hq
theorem kw_type_call (F : ExcBaseFacts B newId initId bmB) (hT : ∀ X : String, bm.contains (.type X) = bmB.contains (.type X)) {rest : List Value} {kw : List (Str × Value)} {fI : Addr} {Q : Fin → Shared → Prop}
    (hC : h.get? C = some (excClassObj nm qn C N bs bm hdct sn sub ab col dd k0 k1 k2 k3 k5 newId))
    (ini : W.Looks (model prog w) h (typeLookup (.ref C) "__init__") (some (.ref fI))) (bd : ∀ self, W.Looks (model prog w) h (bindSpecial (.ref fI) self) (.ref fI, [self])) (few : rest.length ≤ sizeLine)
    (hq : codeAny (model prog w) A (.call (.ref fI) ⟨.ref (h.objs.size + 1) :: rest, kw⟩)
      (fun r s' => match r with | .ok (.ret v) => v = .none ∧ Q (.done (.ret (.ref (h.objs.size + 1)))) s' | .ok _ => False | .error e => E e s') ⟨(h.push (W.kdv_tup rest)).push (excO C h.objs.size), g, d, t, os⟩) :
    wpAny (model prog w) A (Builtin.«type.__call__» ⟨.ref C :: rest, kw⟩) Q E ⟨h, g, d, t, os⟩ := by
  repeat (first | with_reducible refine wpAny_loadPart_at hC ?_ | with_reducible refine wpAny_madeBy_exc hC ?_ | wp_step)
  refine codeAny_call_builtin_code (Code.quiet_builtin _ F.quiet) (kw_check F hT hC (kw_new F hT hC ?_ few))
  show wpAny _ _ _ _ _ _
  have up : ∀ b o, h.get? b = some o → ((h.push (W.kdv_tup rest)).push (excO C h.objs.size)).get? b = some o := fun b o e => Heap.get?_push_of_some _ (Heap.get?_push_of_some _ e)
  have cl1 := up _ _ hC
  have obj : ((h.push (W.kdv_tup rest)).push (excO C h.objs.size)).get? (h.objs.size + 1) = some (excO C h.objs.size) := by heap_get
  have own : (Value.ref C :: bm).contains (.ref C) = true := by simp
  have i1 := ini.keeps up
  have b1 := (bd (.ref (h.objs.size + 1))).keeps up
  unfold isInstance
  repeat (first | with_reducible refine wpAny_loadPart_at obj ?_ | (with_reducible refine wpAny_isSubtype_exc cl1 ?_; rw [own]) | wp_step)
  show wpAny _ _ (typeLookup (.ref C) _) _ _ _
  refine i1.at (wpAny_holding (wpAny_bind (b1.at ?_)))
  refine wpAny_bind (wpAny_call (codeAny_mono hq fun r s' z => ?_))
  rcases r with e | (v | _ | _ | _) <;> first | exact z | exact z.elim | skip
  obtain ⟨rfl, z⟩ := z
  first
    | exact wpAny_pure (wpAny_pure z)
    | (wp_walk; exact z)
theorem kw_call (F : ExcBaseFacts B newId initId bmB) (hT : ∀ X : String, bm.contains (.type X) = bmB.contains (.type X)) {rest : List Value} {kw : List (Str × Value)} {fI : Addr}
    (hC : h.get? C = some (excClassObj nm qn C N bs bm hdct sn sub ab col dd k0 k1 k2 k3 k5 newId))
    (ini : W.Looks (model prog w) h (typeLookup (.ref C) "__init__") (some (.ref fI))) (bd : ∀ self, W.Looks (model prog w) h (bindSpecial (.ref fI) self) (.ref fI, [self])) (few : rest.length ≤ sizeLine)
    (hq : codeAny (model prog w) (A.under (.builtin "type.__call__" ⟨.ref C :: rest, kw⟩)) (.call (.ref fI) ⟨.ref (h.objs.size + 1) :: rest, kw⟩) (W.InitBack (h.objs.size + 1) R) ⟨(h.push (W.kdv_tup rest)).push (excO C h.objs.size), g, d, t, os⟩) :
    codeAny (model prog w) A (.call (.ref C) ⟨rest, kw⟩) R ⟨h, g, d, t, os⟩ := by
  have f1 := tc_lookup
  have f2 := tc_bind (.ref C)
  have ty : (⟨h, g, d, t, os⟩ : Shared).TypeIs (.ref C) "type" := ⟨_, hC, rfl⟩
  refine codeAny_of_tree ?_
  show wpAny _ _ (callAny (.ref C) _) _ _ _
  repeat (any_goals (first | assumption | with_reducible refine wpAny_loadPart_at hC ?_ | wp_step))
  refine ⟨rfl, codeAny_call_builtin_at (Code.quiet_builtin _ (by decide +kernel)) entry_typeCall (wpAny_check_type_call_sub hC (kw_type_call F hT hC ini bd few (codeAny_mono hq fun r s' z => ?_)))⟩
  rcases r with e | (v | _ | _ | _) <;> exact z
end
end Ob
end PySem
namespace Pl
open PySem PySem.Spec PyProof.Rows L2
section
variable {I : Type} {X : I → Cx} {P : Program} {w : World} {K : PySem.W.Frag} {mg : Str → Option Value} {base : Heap} {k : Nat}
/-- the class is called with names, too -/
theorem mk_callK {Y : Cx} {pins : List (Addr × Obj)} {σ : L2.St} {H : Hp} {s : Shared} {Q : VK} {C fI : Addr} {fd : FuncData} {ps ks : List Str} {F : Fn} {us ws : List Value} {vs zs : List V} {B newId initId : String} {bmB : List Value} {kf n : Nat} {gu : List Value → List Value → List Value} {gV : List V → List V → List V} (T : ExG Y.K C B newId initId bmB)
    (iC : PySem.W.findIn Y.K (.ref C) "__init__" = some (some (.ref fI))) (tI : PySem.W.typeIn Y.K (.ref fI) = some (.type "function")) (h : DFn Y.prog Y.w Y.K Y.mg Y.base kf fI fd ps F) (room : Room (kf + 1) Y.A) (grd : Y.A.guards = some [])
    (J : Inv Y pins σ H s) (hb : KBn Y.K fd ps (n + 1) ks gu gV) (r : Vals vs us) (rz : Vals zs ws) (hz : vs.length ≤ 1000) (l1 : vs.length = n) (l2 : zs.length = ks.length) (q : ∀ a, H a = none → spD Y.K ps.length F (gV (.ref a :: vs) zs) (upd H a (exo a C none)) (fun v H2 => v = .non ∧ Q (.ref a) H2)) :
    wpAny (model Y.prog Y.w) Y.A (call (.ref C) us (ks.zip ws)) (EP Y pins σ Q) Y.xe s := by
  obtain ⟨nm, N, qn, bs, bm, hdct, sn, sub, ab, col, dd, k0, k1, k2, k3, k5, hC, hct⟩ := PySem.W.excInit_of J.kIn T.ini
  obtain ⟨hA, g, dr, tk, os⟩ := s
  have new : H (hA.objs.size + 1) = none := J.hok.fresh (Nat.le_succ _)
  have up : ∀ b o, hA.get? b = some o → ((hA.push (PySem.W.kdv_tup us)).push (PySem.HandSPX.excO C hA.objs.size)).get? b = some o := fun b o e => Heap.get?_push_of_some _ (Heap.get?_push_of_some _ e)
  have atE : ((hA.push (PySem.W.kdv_tup us)).push (PySem.HandSPX.excO C hA.objs.size)).get? (hA.objs.size + 1) = some (PySem.HandSPX.excO C hA.objs.size) := by heap_get
  have J2 : Inv Y pins σ (upd H (hA.objs.size + 1) (exo (hA.objs.size + 1) C none)) ⟨(hA.push (PySem.W.kdv_tup us)).push (PySem.HandSPX.excO C hA.objs.size), g, dr, tk, os⟩ :=
    J.laid (t' := tk) (a := hA.objs.size + 1) (o := exo (hA.objs.size + 1) C none) up (Nat.le_succ _) (exo_ok atE)
  have self : Vals (V.ref (hA.objs.size + 1) :: vs) (Value.ref (hA.objs.size + 1) :: us) := .cons rfl r
  have few : us.length ≤ sizeLine := by
    rw [← Paired.length r, sizeLine_eq]
    omega
  have ul : (Value.ref (hA.objs.size + 1) :: us).length = n + 1 := by
    rw [List.length_cons, ← Paired.length r, l1]
  refine wpAny_call (PySem.Ob.kw_call T.base hct hC (PySem.W.looks_findIn J.kIn iC) (fun self => PySem.W.bind_fn J.kIn self tI) few
    (codeAny_mono (h.run _ Y.stack _ _ ⟨Value.ref (hA.objs.size + 1) :: us, ks.zip ws⟩ (gu (Value.ref (hA.objs.size + 1) :: us) ws) _ _ (room.make C us (ks.zip ws)) ?_ (J2.env0.make C us (ks.zip ws)) (hb.to _ _ ws J2.kIn ul ((Paired.length rz).symm.trans l2)) (hb.rel self rz) (q _ new)) fun o s' ho => ?_))
  · unfold Around.under
    dsimp only
    rw [grd]
    rfl
  · match o, ho with
    | .ok (.ret u), ho =>
      obtain ⟨v, H2, J3, rv, ev, q3⟩ := J2.after ho
      subst ev
      exact ⟨rv, .ref (hA.objs.size + 1), H2, J3, rfl, q3⟩
    | .ok .next, ho => exact False.elim ho
    | .ok .brk, ho => exact False.elim ho
    | .ok .cont, ho => exact False.elim ho
    | .error _, ho => exact False.elim ho
/-- C(): all by its defaults -/
theorem DE.mkG0 (c : Ctx X P w K mg base k) {x : Str} {p pos : Pos} {C fI : Addr} {fd : FuncData} {ps : List Str} {F : Fn} {kf : Nat} {dvs : List V} {dds : List D} {dsv : List Value} {B newId initId : String} {bmB : List Value} (T : ExG K C B newId initId bmB)
    (iC : PySem.W.findIn K (.ref C) "__init__" = some (some (.ref fI))) (tI : PySem.W.typeIn K (.ref fI) = some (.type "function")) (h : DFn P w K mg base kf fI fd ps F) (hk : kf + 1 ≤ k) (hm : mg x = some (.ref C)) (hb : Binds K fd ps dsv) (hd : Vals dvs dsv) (hr : ∀ B ι, RepL K B ι dvs dds)
    (hn : dds.length + 1 = ps.length) (hg : ∀ i, Gl (X i) x := by intro _; rfl) (hdbg : (x == ("__debug__" : Str)) = false := by decide) :
    DE X K (.Call (.Name x p) [] [] pos) (eMk C F aNil dds) := by
  refine ⟨fun σ H Q => ∀ a, H a = none → spD K ps.length F (.ref a :: dvs) (upd H a (exo a C none)) (fun v H2 => v = .non ∧ Q (.ref a) H2), fun i => ⟨fun pins s σ H Q J q => ?_⟩, fun σ W δ M d M' Q w s ev q => ?_⟩
  · have cK := c.K i
    refine wpAny_Call_Name_kw (ld_glob J (hg i) (by rw [c.mg i]; exact hm) ?_ hdbg)
    have h' : DFn (X i).prog (X i).w (X i).K (X i).mg (X i).base kf fI fd ps F := by
      rw [c.prog i, c.wd i, c.K i, c.mg i, c.base i]
      exact h
    have ld : dvs.length = dds.length := (hr (fun _ => none) []).len
    refine PySem.W.callWith_K0 (J.tok _).kIn (by rw [cK]; exact T.keep) ?_
    exact mk_call (vs := []) (us := []) (by rw [cK]; exact T) (by rw [cK]; exact iC) (by rw [cK]; exact tI) h' ((c.room i).mono hk) (c.grd i) (J.tok _) (by rw [cK]; exact hb) .nil hd (Nat.zero_le _) (by rw [List.nil_append, ld]; exact hn) (by rw [cK]; exact q)
  · unfold eMk aNil at ev
    dsimp only at ev
    refine fun a hn1 => ?_
    split at ev
    · rename_i M2 h2
      cases ev
      have w2 := Wd.new_ok (m := .exo C none) (o := exo a C none) w hn1 .exo
      have self : Rep K (W.new a (exo a C none)).B (W.new a (exo a C none)).ι (.ref a) (.ref M.length) := .ref (by
        show (W.ι ++ [a])[M.length]? = some a
        rw [← w.len]
        simp)
      refine ⟨W.new a (exo a C none), M ++ [.exo C none], .ref M.length :: ([] ++ dds), .non, _, rfl, w2, .cons self (hr _ _), by rw [List.length_cons]; exact hn, h2, fun v W3 l3 w3 r3 => ?_⟩
      cases r3
      exact ⟨rfl, q _ W3 (Wd.new_le.trans l3) w3 (self.le l3)⟩
    · cases ev
def eMkK (C : Addr) (F : Fn) (gk : AF) (gD : List D → List D → List D) : EF := fun δ M => match gk δ M with
  | some (zs, M1) => (match F (gD [.ref M1.length] zs) (M1 ++ [MO.exo C none]) with
    | some (.non, M2) => some (.ref M1.length, M2)
    | _ => none)
  | none => none
/-- C(f = e, ..) -/
theorem DE.mkGK (c : Ctx X P w K mg base k) {x : Str} {p pos : Pos} {kws : List Keyword} {gk : AF} {C fI : Addr} {fd : FuncData} {ps ks : List Str} {F : Fn} {kf : Nat} {gu : List Value → List Value → List Value} {gV : List V → List V → List V} {gD : List D → List D → List D} {B newId initId : String} {bmB : List Value} (T : ExG K C B newId initId bmB)
    (iC : PySem.W.findIn K (.ref C) "__init__" = some (some (.ref fI))) (tI : PySem.W.typeIn K (.ref fI) = some (.type "function")) (h : DFn P w K mg base kf fI fd ps F) (hk : kf + 1 ≤ k) (hm : mg x = some (.ref C)) (hb : KBn K fd ps (0 + 1) ks gu gV) (hr : ∀ B ι vs ds zs es, RepL K B ι vs ds → RepL K B ι zs es → RepL K B ι (gV vs zs) (gD ds es))
    (hn : ∀ ds zs : List D, ds.length = 1 → zs.length = ks.length → (gD ds zs).length = ps.length) (hkw : DK X K kws gk ks.length) (hall : ∀ i, (backToKw pos (keywordEach kws (X i).env)).all (·.1.isSome) = true := by intro _; rfl) (hks : ∀ i, (backToKw pos (keywordEach kws (X i).env)).filterMap (·.1) = ks := by intro _; rfl)
    (hg : ∀ i, Gl (X i) x := by intro _; rfl) (hdbg : (x == ("__debug__" : Str)) = false := by decide) (hpl : ∀ i, ((backTo pos (starEach [] (X i).env)).any (·.1) || (backToKw pos (keywordEach kws (X i).env)).any (·.1.isNone)) = false := by intro _; rfl) :
    DE X K (.Call (.Name x p) [] kws pos) (eMkK C F gk gD) := by
  obtain ⟨tk, pk, rk⟩ := hkw.go
  refine ⟨fun σ H Q => tk σ H fun zs H2 => zs.length = ks.length ∧ ∀ a, H2 a = none → spD K ps.length F (gV [.ref a] zs) (upd H2 a (exo a C none)) (fun v H3 => v = .non ∧ Q (.ref a) H3), fun i => ⟨fun pins s σ H Q J q => ?_⟩, fun σ W δ M d M' Q w s ev q => ?_⟩
  · have cK := c.K i
    refine wpAny_Call_Name_kw (ld_glob J (hg i) (by rw [c.mg i]; exact hm) ?_ hdbg)
    have h' : DFn (X i).prog (X i).w (X i).K (X i).mg (X i).base kf fI fd ps F := by
      rw [c.prog i, c.wd i, c.K i, c.mg i, c.base i]
      exact h
    refine PySem.W.callWith_KW0 (h₀ := (X i).base) J.ok.mod.kin (by rw [cK]; exact T.keep) (hall i) ?_ (hpl i)
    refine thn ((pk i).run pos pins _ σ H _ (J.tok _) q) fun ws s2 ⟨zs, H2, J2, rz, l2, q2⟩ => ⟨J2.kIn, ?_⟩
    rw [hks i]
    exact mk_callK (vs := []) (us := []) (n := 0) (by rw [cK]; exact T) (by rw [cK]; exact iC) (by rw [cK]; exact tI) h' ((c.room i).mono hk) (c.grd i) J2 (by rw [cK]; exact hb) .nil rz (Nat.zero_le _) rfl l2 (by rw [cK]; exact q2)
  · unfold eMkK at ev
    split at ev
    · rename_i zs M1 h1
      refine rk σ W δ M zs M1 _ w s h1 fun vs W1 l1 w1 r1 => ⟨by rw [r1.len, hkw.len _ _ _ _ h1], fun a hn1 => ?_⟩
      split at ev
      · rename_i M2 h2
        cases ev
        have w2 := Wd.new_ok (m := .exo C none) (o := exo a C none) w1 hn1 .exo
        have self : Rep K (W1.new a (exo a C none)).B (W1.new a (exo a C none)).ι (.ref a) (.ref M1.length) := .ref (by
          show (W1.ι ++ [a])[M1.length]? = some a
          rw [← w1.len]
          simp)
        refine ⟨W1.new a (exo a C none), M1 ++ [.exo C none], gD [.ref M1.length] zs, .non, _, rfl, w2, hr _ _ _ _ _ _ (.cons self .nil) (r1.le Wd.new_le), hn _ _ rfl (hkw.len _ _ _ _ h1), h2, fun v W3 l3 w3 r3 => ?_⟩
        cases r3
        exact ⟨rfl, q _ W3 ((l1.trans Wd.new_le).trans l3) w3 (self.le l3)⟩
      · cases ev
    · cases ev
end
end Pl

/-! PlP: isinstance of an own exception with fields. -/
namespace Pl
open PySem PySem.Spec PyProof.Rows L2
section
variable {I : Type} {X : I → Cx} {P : Program} {w : World} {K : PySem.W.Frag} {mg : Str → Option Value} {base : Heap} {k : Nat}
def gIsiO (isa : Addr → Value → Option Bool) : GL := fun ds M => match ds with
  | [.ref n, c] => (match M[n]?, clV c with
    | some (.exo C (some m)), some cv => (match M[m]? with
      | some (.exd _) => (match isa C cv with
        | some b => some (.bl b, M)
        | none => none)
      | _ => none)
    | _, _ => none)
  | _ => none
def rIsiO (K : PySem.W.Frag) (xs : List V) (H : Hp) (Q : VK) : Prop := ∃ (a C d : Addr) (fs : List (Str × V)) (c : V) (cv : Value) (b : Bool), xs = [.ref a, c] ∧ H a = some (exo a C (some d)) ∧ H d = some (exd d fs) ∧ ExcC K C ∧ (∀ u, RelV c u → u = cv) ∧ PySem.W.kitOne K (.ref C) cv = some b ∧ Q (.bl b) H
theorem call_isiO {Y : Cx} : CallR Y (.builtin "isinstance") (rIsiO Y.K) := fun pins s σ H xs us Q J r h => by
  obtain ⟨a, D, d, fs, c, cv, b, rfl, hH, hd, E, hcv, e, q⟩ := h
  cases r with
  | cons rx rr =>
    cases rr with
    | cons rt rr =>
      cases rr
      cases rx
      have ec := hcv _ rt
      subst ec
      obtain ⟨t1, at0⟩ := exo_at J.hok hH
      obtain ⟨mA, hns, _⟩ := exd_at J.hok hd
      obtain ⟨od, ho2, _⟩ := lookIn_ns hns
      have inst : PySem.W.InstAt s.heap a { cls := .ref D, dict := some d, data := .fields #[.ref t1, .none, .none, .none, .bool false, .none] } D (some od) := ⟨at0, rfl, rfl, ho2⟩
      exact PySem.W.kia_one (PySem.W.kitx_exc (by
        have z := E.hd
        unfold PySem.W.hasDictIn at z
        cases q2 : PySem.W.clsIn Y.K D with
        | none =>
          rw [q2] at z
          cases z
        | some cd => rfl) E.hg E.hk E.hs E.ha E.hn E.ht E.hm) J.kIn inst e (fun z => nomatch z) fun tk => ⟨.bl b, H, J.kept (t' := tk) fun _ _ z => z, rfl, q⟩
theorem cIsiO (c : Ctx X P w K mg base k) {isa : Addr → Value → Option Bool} (hi : ∀ C v b, isa C v = some b → ExcC K C ∧ PySem.W.kitOne K (.ref C) v = some b) : CalF X K (.builtin "isinstance") (gIsiO isa) := by
  refine ⟨rIsiO K, fun i pins s σ H xs us Q J hv h => ?_, fun W M vs ds z M' Q w rp e q => ?_⟩
  · refine call_isiO pins s σ H xs us Q J hv ?_
    rw [c.K i]
    exact h
  · unfold gIsiO at e
    split at e
    · rename_i n cd
      split at e
      · rename_i C m cv hm hc
        split at e
        · rename_i fs hf
          split at e
          · rename_i b hb
            cases e
            cases rp with
            | cons r1 r2 =>
              cases r2 with
              | cons r2 r3 =>
                cases r3
                obtain ⟨a, d, vs, rfl, ha, lv, hd, rf⟩ := exoD_live w r1 hm hf
                refine ⟨a, C, d, vs, _, cv, b, rfl, ha, hd, (hi _ _ _ hb).1, fun u ru => ?_, (hi _ _ _ hb).2, q _ W (.refl W) w (.bl _)⟩
                cases r2 with
                | ob a =>
                  cases hc
                  cases ru
                  rfl
                | ty t =>
                  cases hc
                  cases ru
                  rfl
                | _ => cases hc
          · cases e
        · cases e
      · cases e
    · cases e
/-! ### a class without its own __init__ -/
def eMkT (C : Addr) (f : EF) : EF := fun δ M => match f δ M with
  | some (_, M1) => some (.ref M1.length, M1 ++ [MO.exn C])
  | none => none
theorem DE.mkT (c : Ctx X P w K mg base k) {x : Str} {e : Expr} {p pos : Pos} {f : EF} {C : Addr} {B newId initId : String} {bmB : List Value} (F : ExcBaseFacts B newId initId bmB) (ec : PySem.W.excIn K C bmB newId = true) (hm : mg x = some (.ref C)) (kp : PySem.W.keepIn K (.ref C) = true)
    (a : DE X K e f) (hg : ∀ i, Gl (X i) x := by intro _; rfl) (hs : ∀ i, starEach [e] (X i).env = (false, eval e (X i).env) :: starEach [] (X i).env := by intro _; rfl) (hdb : (x == ("__debug__" : Str)) = false := by decide) :
    DE X K (.Call (.Name x p) [e] [] pos) (eMkT C f) := by
  obtain ⟨t, pe, re⟩ := a.go
  refine ⟨fun σ H Q => t σ H fun _ H1 => ∀ a, H1 a = none → Q (.ref a) (upd H1 a (ExO (.ref C) a)), fun i => ?_, fun σ W δ M d M' Q w s ev q => ?_⟩
  · exact pe_exc1 (X := X i) F (by rw [c.K i]; exact ec) (by rw [c.mg i]; exact hm) (by rw [c.K i]; exact kp) (hg i) (pe i) (hs i) hdb
  · unfold eMkT at ev
    split at ev
    · rename_i d1 M1 h1
      cases ev
      refine re σ W δ M d1 M1 _ w s h1 fun v W1 l1 w1 r1 a hn => ?_
      exact q _ (W1.new a (ExO (.ref C) a)) (l1.trans Wd.new_le) (Wd.new_ok w1 hn .exn) (.ref (by
        show (W1.ι ++ [a])[M1.length]? = some a
        rw [← w1.len]
        simp))
    · cases ev
/-! ### isinstance of either -/
def gIsiA (isa : Addr → Value → Option Bool) : GL := fun ds M => match ds with
  | [.ref n, c] => (match M[n]?, clV c with
    | some (.exn C), some cv => (match isa C cv with
      | some b => some (.bl b, M)
      | none => none)
    | _, _ => gIsiO isa [.ref n, c] M)
  | _ => none
def rIsiN (K : PySem.W.Frag) (xs : List V) (H : Hp) (Q : VK) : Prop := ∃ (a C : Addr) (c : V) (cv : Value) (b : Bool), xs = [.ref a, c] ∧ H a = some (ExO (.ref C) a) ∧ ExcC K C ∧ (∀ u, RelV c u → u = cv) ∧ PySem.W.kitOne K (.ref C) cv = some b ∧ Q (.bl b) H
theorem call_isiN {Y : Cx} : CallR Y (.builtin "isinstance") (rIsiN Y.K) := fun pins s σ H xs us Q J r h => by
  obtain ⟨a, D, c, cv, b, rfl, hH, E, hcv, e, q⟩ := h
  cases r with
  | cons rx rr =>
    cases rr with
    | cons rt rr =>
      cases rr
      cases rx
      have ec := hcv _ rt
      subst ec
      obtain ⟨⟨oe, vs, hget, hz, hv, _, _⟩, _, _⟩ := J.hok a _ hH
      have inst : PySem.W.InstAt s.heap a oe D none := by
        obtain ⟨oc, od, oda, osl⟩ := oe
        obtain ⟨h1, h2⟩ := hz
        dsimp only at h1 h2 hv
        subst h1 h2 hv
        exact ⟨hget, rfl, rfl, trivial⟩
      exact PySem.W.kia_one (PySem.W.handS_kitx_exc E.hg E.hk E.hs E.hd E.ha E.hn E.ht E.hm) J.kIn inst e (fun z => nomatch z) fun tk => ⟨.bl b, H, J.kept (t' := tk) fun _ _ z => z, rfl, q⟩
theorem cIsiA (c : Ctx X P w K mg base k) {isa : Addr → Value → Option Bool} (hi : ∀ C v b, isa C v = some b → ExcC K C ∧ PySem.W.kitOne K (.ref C) v = some b) : CalF X K (.builtin "isinstance") (gIsiA isa) := by
  obtain ⟨r, hr, hq⟩ := (cIsiO c hi).go
  refine ⟨fun xs H Q => r xs H Q ∨ rIsiN K xs H Q, fun i pins s σ H xs us Q J hv h => ?_, fun W M vs ds z M' Q w rp e q => ?_⟩
  · rcases h with h | h
    · exact hr i pins s σ H xs us Q J hv h
    · refine call_isiN pins s σ H xs us Q J hv ?_
      rw [c.K i]
      exact h
  · unfold gIsiA at e
    split at e
    · rename_i n cd
      split at e
      · rename_i C cv hm hc
        split at e
        · rename_i b hb
          cases e
          cases rp with
          | cons r1 r2 =>
            cases r2 with
            | cons r2 r3 =>
              cases r3
              cases r1 with
              | ref hι =>
                obtain ⟨_, _, o, ho, ro⟩ := w.live _ _ _ ⟨hι, hm, fun z => by cases z⟩
                cases ro with
                | exn =>
                  refine .inr ⟨_, C, _, cv, b, rfl, ho, (hi _ _ _ hb).1, fun u ru => ?_, (hi _ _ _ hb).2, q _ W (.refl W) w (.bl _)⟩
                  cases r2 with
                  | ob a =>
                    cases hc
                    cases ru
                    rfl
                  | ty t =>
                    cases hc
                    cases ru
                    rfl
                  | _ => cases hc
        · cases e
      · exact .inl (hq W M vs _ z M' Q w rp e q)
    · cases e
end
end Pl

/-! PlQ: own exception classes as they are called: links. -/
namespace Pl
open PySem PySem.Spec PyProof.Rows L2
/-- the j-th row of a class -/
def memD (s : Stmt) (j : Nat) : Stmt := match s with
  | .ClassDef _ _ _ body _ _ _ _ _ _ _ => body.getD j s
  | s => s
theorem vals_take {vs : List V} {us : List Value} (n : Nat) (r : Vals vs us) : Vals (vs.take n) (us.take n) := by
  induction n generalizing vs us with
  | zero => exact .nil
  | succ n ih =>
    cases r with
    | nil => exact .nil
    | cons h t => exact .cons h (ih t)
section
variable {K : PySem.W.Frag} {x qual : Str} {params : Arguments} {body : List Stmt} {scope : Scope} {kws : List (Str × V)} {f : Addr} {fd : FuncData} {ps : List Str}
/-- all by names, no defaults -/
theorem kb_N (F : FunD K x qual params body scope [] kws f fd) (n : Nat) (ks : List Str) (g : {α : Type} → List α → List α → List α → List α)
    (hrel : ∀ {vs zs : List V} {us ws : List Value}, Vals vs us → Vals zs ws → Vals (g vs [] zs) (g us [] ws))
    (h : ∀ (kV doc pm : Value) (an : Option Addr) (cdv ct : Value) (us ws : List Value), us.length = n → ws.length = ks.length →
      bindArgs (PySem.W.fnOf x qual params body scope .none kV doc pm an cdv ct) ⟨us, ks.zip ws⟩ = pure (ps.zip (g us [] ws))) :
    KBn K fd ps n ks (fun us ws => g us [] ws) (fun vs zs => g vs [] zs) := by
  obtain ⟨oc, od, dV, kV, doc, pm, an, cdv, ct, osl, rfl, lk, hcd, hD, hK⟩ := F.ex
  rcases hD with ⟨_, rfl⟩ | ⟨e, _⟩
  · exact ⟨fun s us ws X l1 l2 => .of_eq (h kV doc pm an cdv ct us ws l1 l2), fun r1 r2 => hrel r1 r2⟩
  · exact absurd rfl e
end
open Classical in
noncomputable def isaOf (K : PySem.W.Frag) : Addr → Value → Option Bool := fun c v => if L2.ExcC K c then PySem.W.kitOne K (.ref c) v else none
theorem isaOf_ok {K : PySem.W.Frag} : ∀ C v b, isaOf K C v = some b → L2.ExcC K C ∧ PySem.W.kitOne K (.ref C) v = some b := fun C v b h => by
  unfold isaOf at h
  split at h
  · exact ⟨by assumption, h⟩
  · cases h
theorem isaOf_map {K : PySem.W.Frag} {C : Addr} {l : List Value} {bs : List (Option Bool)} (E : L2.ExcC K C) (h : l.map (PySem.W.kitOne K (.ref C)) = bs) : l.map (isaOf K C) = bs := by
  rw [← h]
  refine List.map_congr_left fun v _ => ?_
  unfold isaOf
  rw [if_pos E]
open Classical in
noncomputable def okfOf (K : PySem.W.Frag) : Addr → Str → Bool := fun c f => decide (OkF K c f)
theorem okfOf_ok {K : PySem.W.Frag} : ∀ C f, okfOf K C f = true → OkF K C f := fun C f h => @of_decide_eq_true _ (Classical.propDecidable _) h
theorem okfOf_eq {K : PySem.W.Frag} {C : Addr} {f : Str} (h : OkF K C f) : okfOf K C f = true := @decide_eq_true _ (Classical.propDecidable _) h
open Classical in
noncomputable def okgOf (K : PySem.W.Frag) : Addr → Str → Bool := fun c f => @decide (XfC K c ∧ PySem.W.findIn K (.ref c) f = some none) (Classical.propDecidable _)
theorem okgOf_ok {K : PySem.W.Frag} : ∀ C f, okgOf K C f = true → XfC K C ∧ PySem.W.findIn K (.ref C) f = some none := fun C f h => by
  exact @of_decide_eq_true _ (Classical.propDecidable _) h
theorem okgOf_eq {K : PySem.W.Frag} {C : Addr} {f : Str} (h : XfC K C ∧ PySem.W.findIn K (.ref C) f = some none) : okgOf K C f = true := by
  exact @decide_eq_true _ (Classical.propDecidable _) h
structure LkG (P : Program) (w : World) (K : PySem.W.Frag) (mg : Str → Option Value) (base : Heap) (x : Str) (k : Nat) (ps : List Str) (F : Fn) (C : Addr) (dds : List D) : Prop where
  go : ∃ (fI : Addr) (fd : FuncData) (dvs : List V) (dsv : List Value) (B newId initId : String) (bmB : List Value), ExG K C B newId initId bmB ∧ PySem.W.findIn K (.ref C) "__init__" = some (some (.ref fI)) ∧ PySem.W.typeIn K (.ref fI) = some (.type "function") ∧
    DFn P w K mg base k fI fd ps F ∧ mg x = some (.ref C) ∧ Binds K fd ps dsv ∧ Vals dvs dsv ∧ ∀ B ι, RepL K B ι dvs dds
structure LkGK (P : Program) (w : World) (K : PySem.W.Frag) (mg : Str → Option Value) (base : Heap) (x : Str) (k : Nat) (ps : List Str) (F : Fn) (C : Addr) (ks : List Str) (gD : List D → List D → List D) : Prop where
  go : ∃ (fI : Addr) (fd : FuncData) (gu : List Value → List Value → List Value) (gV : List V → List V → List V) (B newId initId : String) (bmB : List Value), ExG K C B newId initId bmB ∧ PySem.W.findIn K (.ref C) "__init__" = some (some (.ref fI)) ∧ PySem.W.typeIn K (.ref fI) = some (.type "function") ∧
    DFn P w K mg base k fI fd ps F ∧ mg x = some (.ref C) ∧ KBn K fd ps (0 + 1) ks gu gV ∧ (∀ B ι vs ds zs es, RepL K B ι vs ds → RepL K B ι zs es → RepL K B ι (gV vs zs) (gD ds es))
  len : ∀ ds zs : List D, ds.length = 1 → zs.length = ks.length → (gD ds zs).length = ps.length
structure LkT (K : PySem.W.Frag) (mg : Str → Option Value) (x : Str) (C : Addr) : Prop where
  go : ∃ (B newId initId : String) (bmB : List Value), ExcBaseFacts B newId initId bmB ∧ PySem.W.excIn K C bmB newId = true ∧ mg x = some (.ref C) ∧ PySem.W.keepIn K (.ref C) = true
section
variable {I : Type} {X : I → Cx} {P : Program} {w : World} {K : PySem.W.Frag} {mg : Str → Option Value} {base : Heap} {k : Nat}
theorem DE.clG (c : Ctx X P w K mg base k) {x : Str} {p pos : Pos} {e : Expr} {es : List Expr} {g : AF} {C : Addr} {ps : List Str} {F : Fn} {kf : Nat} {dds : List D} (h : LkG P w K mg base x kf ps F C dds) (hk : kf + 1 ≤ k)
    (hn : (e :: es).length + dds.length + 1 = ps.length) (hz : (e :: es).length ≤ 1000) (ha : DA X K (e :: es) g) (hlen : ∀ δ M ds M', g δ M = some (ds, M') → ds.length = (e :: es).length) (hg : ∀ i, Gl (X i) x := by intro _; rfl)
    (hdbg : (x == ("__debug__" : Str)) = false := by decide) (he : ∀ i, starEach (e :: es) (X i).env = (false, eval e (X i).env) :: starEach es (X i).env := by intro _; rfl) (hpl : ∀ i, (backTo pos (starEach es (X i).env)).any (·.1) = false := by intro _; rfl) :
    DE X K (.Call (.Name x p) (e :: es) [] pos) (eMk C F g dds) := by
  obtain ⟨fI, fd, dvs, dsv, B, n1, n2, bm, h1, h2, h3, h4, h5, h6, h7, h8⟩ := h.go
  exact DE.mkG c h1 h2 h3 h4 hk h5 h6 h7 h8 hn hz ha hlen hg hdbg he hpl
theorem DE.clG0 (c : Ctx X P w K mg base k) {x : Str} {p pos : Pos} {C : Addr} {ps : List Str} {F : Fn} {kf : Nat} {dds : List D} (h : LkG P w K mg base x kf ps F C dds) (hk : kf + 1 ≤ k)
    (hn : dds.length + 1 = ps.length) (hg : ∀ i, Gl (X i) x := by intro _; rfl) (hdbg : (x == ("__debug__" : Str)) = false := by decide) :
    DE X K (.Call (.Name x p) [] [] pos) (eMk C F aNil dds) := by
  obtain ⟨fI, fd, dvs, dsv, B, n1, n2, bm, h1, h2, h3, h4, h5, h6, h7, h8⟩ := h.go
  exact DE.mkG0 c h1 h2 h3 h4 hk h5 h6 h7 h8 hn hg hdbg
theorem DE.clGK (c : Ctx X P w K mg base k) {x : Str} {p pos : Pos} {kws : List Keyword} {gk : AF} {C : Addr} {ps ks : List Str} {F : Fn} {kf : Nat} {gD : List D → List D → List D} (h : LkGK P w K mg base x kf ps F C ks gD) (hk : kf + 1 ≤ k)
    (hkw : DK X K kws gk ks.length) (hall : ∀ i, (backToKw pos (keywordEach kws (X i).env)).all (·.1.isSome) = true := by intro _; rfl) (hks : ∀ i, (backToKw pos (keywordEach kws (X i).env)).filterMap (·.1) = ks := by intro _; rfl)
    (hg : ∀ i, Gl (X i) x := by intro _; rfl) (hdbg : (x == ("__debug__" : Str)) = false := by decide) (hpl : ∀ i, ((backTo pos (starEach [] (X i).env)).any (·.1) || (backToKw pos (keywordEach kws (X i).env)).any (·.1.isNone)) = false := by intro _; rfl) :
    DE X K (.Call (.Name x p) [] kws pos) (eMkK C F gk gD) := by
  obtain ⟨fI, fd, gu, gV, B, n1, n2, bm, h1, h2, h3, h4, h5, h6, h7⟩ := h.go
  exact DE.mkGK c h1 h2 h3 h4 hk h5 h6 h7 h.len hkw hall hks hg hdbg hpl
theorem DE.clT (c : Ctx X P w K mg base k) {x : Str} {e : Expr} {p pos : Pos} {f : EF} {C : Addr} (h : LkT K mg x C)
    (a : DE X K e f) (hg : ∀ i, Gl (X i) x := by intro _; rfl) (hs : ∀ i, starEach [e] (X i).env = (false, eval e (X i).env) :: starEach [] (X i).env := by intro _; rfl) (hdb : (x == ("__debug__" : Str)) = false := by decide) :
    DE X K (.Call (.Name x p) [e] [] pos) (eMkT C f) := by
  obtain ⟨B, n1, n2, bm, h1, h2, h3, h4⟩ := h.go
  exact DE.mkT c h1 h2 h3 h4 a hg hs hdb
end
end Pl

/-! PlV: a meaning is walked step by step. -/
namespace Pl
namespace Ev
open PySem L2
section
variable {δ δ' : Pl.Env} {M M1 M2 M3 : Mh} {d e a b : D} {ds zs : List D} {r : Option Out} {u : Option (D × Mh)} {f g h : EF} {t t2 : TF} {s s2 : SF} {p : GF} {q : AF} {x : Bool}
theorem c_ : eC d δ M = some (d, M) := (fun h => h) (by unfold eC; rfl)
theorem var_ {i : Nat} (h : δ[i]? = some (some d)) : eVar i δ M = some (d, M) := by unfold eVar; rw [h]
theorem nil_ : aNil δ M = some ([], M) := (fun h => h) (by unfold aNil; rfl)
theorem cons_ (h : f δ M = some (d, M1)) (k : q δ M1 = some (ds, M2)) : aCons f q δ M = some (d :: ds, M2) := by
  unfold aCons; rw [h]; dsimp only; rw [k]
theorem tup_ (h : q δ M = some (ds, M1)) (hl : ds.length ≤ 1000) : eTup q δ M = some (.tup ds, M1) := by
  unfold eTup; rw [h]; exact if_pos (Nat.le_trans hl (by decide))
theorem lst_ (h : q δ M = some (ds, M1)) (hl : ds.length ≤ 1000) : eLst q δ M = some (.lst ds, M1) := by
  unfold eLst; rw [h]; exact if_pos (Nat.le_trans hl (by decide))
theorem new_ (h : q δ M = some (ds, M1)) (hl : ds.length ≤ 1000) : eNew q δ M = some (.ref M1.length, M1 ++ [.lst ds]) := by
  unfold eNew; rw [h]; exact if_pos (Nat.le_trans hl (by decide))
theorem op_ {o : O2} (h1 : f δ M = some (a, M1)) (h2 : g δ M1 = some (b, M2)) (h3 : o a b M2 = u) : eOp o f g δ M = u := by
  unfold eOp; rw [h1]; dsimp only; rw [h2]; exact h3
theorem un_ {o : O1} (h1 : f δ M = some (a, M1)) (h3 : o a M1 = u) : eUn o f δ M = u := by
  unfold eUn; rw [h1]; exact h3
theorem b_ {o : GL} (h1 : q δ M = some (ds, M1)) (h3 : o ds M1 = u) : eB o q δ M = u := by
  unfold eB; rw [h1]; exact h3
theorem call0_ {F : Fn} (h1 : q δ M = some (ds, M1)) (h3 : F ds M1 = u) : eCall F q [] δ M = u := by
  unfold eCall; rw [h1]; dsimp only; rw [List.append_nil]; exact h3
theorem callD_ {F : Fn} {dds : List D} (h1 : q δ M = some (ds, M1)) (h3 : F (ds ++ dds) M1 = u) : eCall F q dds δ M = u := by
  unfold eCall; rw [h1]; exact h3
theorem callK_ {F : Fn} {qk : AF} {gd : List D → List D → List D} (h1 : q δ M = some (ds, M1)) (h2 : qk δ M1 = some (zs, M2)) (h3 : F (gd ds zs) M2 = u) : eCallK F q qk gd δ M = u := by
  unfold eCallK; rw [h1]; dsimp only; rw [h2]; exact h3
theorem chain_ {o o2 : O2} (h1 : f δ M = some (a, M1)) (h2 : g δ M1 = some (b, M2)) (h3 : o a b M2 = some (.bl x, M3)) (k : (bif x then eOp o2 (eC b) h δ M3 else some (.bl false, M3)) = u) : eChain o o2 f g h δ M = u := by
  unfold eChain; rw [h1]; dsimp only; rw [h2]; dsimp only; rw [h3]
  cases x
  · exact k
  · rw [← k]
    show _ = eOp o2 (eC b) h δ M3
    unfold eOp
    rfl
theorem if_ (h1 : t δ M = some (x, M1)) (k : (bif x then f δ M1 else g δ M1) = u) : eIf t f g δ M = u := by
  unfold eIf; rw [h1]; cases x <;> exact k
theorem nt_ (h1 : f δ M = some (.bl x, M1)) : eNt f δ M = some (.bl (!x), M1) := by unfold eNt; rw [h1]
theorem an_ (h1 : f δ M = some (.bl x, M1)) (k : (bif x then g δ M1 else some (.bl false, M1)) = u) : eAn f g δ M = u := by
  unfold eAn; rw [h1]; cases x <;> exact k
theorem or_ (h1 : f δ M = some (.bl x, M1)) (k : (bif x then some (.bl true, M1) else g δ M1) = u) : eOr f g δ M = u := by
  unfold eOr; rw [h1]; cases x <;> exact k
theorem tv_ (h1 : f δ M = some (.bl x, M1)) : tV f δ M = some (x, M1) := by unfold tV; rw [h1]
theorem tnt_ (h1 : t δ M = some (x, M1)) : tNt t δ M = some (!x, M1) := by unfold tNt; rw [h1]
theorem tan_ {v : Option (Bool × Mh)} (h1 : t δ M = some (x, M1)) (k : (bif x then t2 δ M1 else some (false, M1)) = v) : tAn t t2 δ M = v := by
  unfold tAn; rw [h1]; cases x <;> exact k
theorem tor_ {v : Option (Bool × Mh)} (h1 : t δ M = some (x, M1)) (k : (bif x then some (true, M1) else t2 δ M1) = v) : tOrr t t2 δ M = v := by
  unfold tOrr; rw [h1]; cases x <;> exact k
theorem tt_ : tTrue δ M = some (true, M) := (fun h => h) (by unfold tTrue; rfl)
theorem snil_ : sNil δ M = some (.nx δ M) := (fun h => h) (by unfold sNil; rfl)
theorem sas_ (h1 : f δ M = some (d, M1)) (h2 : p d δ = some δ') : sAs f p δ M = some (.nx δ' M1) := by
  unfold sAs; rw [h1]; dsimp only; rw [h2]
theorem spar_ {i j : Nat} (h1 : f δ M = some (d, M1)) (h2 : g δ M1 = some (e, M2)) (h3 : (some ((δ.set i (some d)).set j (some e)) : Option Pl.Env) = some δ') : sPar i j f g δ M = some (.nx δ' M2) := by
  cases h3; unfold sPar; rw [h1]; dsimp only; rw [h2]
theorem spar3_ {i j l : Nat} {d3 : D} (h1 : f δ M = some (d, M1)) (h2 : g δ M1 = some (e, M2)) (h4 : h δ M2 = some (d3, M3)) (h3 : (some (((δ.set i (some d)).set j (some e)).set l (some d3)) : Option Pl.Env) = some δ') : sPar3 i j l f g h δ M = some (.nx δ' M3) := by
  cases h3; unfold sPar3; rw [h1]; dsimp only; rw [h2]; dsimp only; rw [h4]
theorem sas2_ {p2 : GF} {δ2 : Pl.Env} (h1 : f δ M = some (d, M1)) (h2 : p d δ = some δ') (h3 : p2 d δ' = some δ2) : sAs2 f p p2 δ M = some (.nx δ2 M1) := by
  unfold sAs2; rw [h1]; dsimp only; rw [h2]; dsimp only; rw [h3]
theorem seq_ (h1 : s δ M = some (.nx δ' M1)) (k : s2 δ' M1 = r) : sSeq s s2 δ M = r := by
  unfold sSeq; rw [h1]; exact k
theorem seqR_ (h1 : s δ M = some (.rt d M1)) : sSeq s s2 δ M = some (.rt d M1) := by
  unfold sSeq; rw [h1]
/-- an if without else, and what follows -/
theorem seqIf_ {s3 : SF} (h1 : t δ M = some (x, M1)) (k : (bif x then sSeq s s2 δ M1 else sSeq s3 s2 δ M1) = r) : sSeq (sIf t s s3) s2 δ M = r := by
  unfold sSeq sIf at *; rw [h1]; cases x <;> exact k
theorem seq0_ (k : s2 δ M = r) : sSeq sNil s2 δ M = r := seq_ snil_ k
theorem seqRet_ (h1 : f δ M = some (d, M1)) : sSeq (sRet f) s2 δ M = some (.rt d M1) := by
  unfold sSeq sRet; rw [h1]
theorem ret_ (h1 : f δ M = some (d, M1)) : sRet f δ M = some (.rt d M1) := by unfold sRet; rw [h1]
theorem sif_ (h1 : t δ M = some (x, M1)) (k : (bif x then s δ M1 else s2 δ M1) = r) : sIf t s s2 δ M = r := by
  unfold sIf; rw [h1]; cases x <;> exact k
theorem se_ (h1 : f δ M = some (d, M1)) : sE f δ M = some (.nx δ M1) := by unfold sE; rw [h1]
theorem for_ {s : SF} (h1 : q δ M = some (ds, M1)) (k : forGo p s ds δ M1 = r) : sFor q p s δ M = r := by
  unfold sFor; rw [h1]; exact k
theorem forN_ {s : SF} : forGo p s [] δ M = some (.nx δ M) := (fun h => h) (by unfold forGo; rfl)
theorem forC_ {s : SF} {δ1 δ2 : Pl.Env} (h1 : p d δ = some δ1) (h2 : s δ1 M = some (.nx δ2 M2)) (k : forGo p s ds δ2 M2 = r) : forGo p s (d :: ds) δ M = r := by
  unfold forGo; rw [h1]; dsimp only; rw [h2]; exact k
theorem lc_ {vs : List Nat} {ys : List D} {δ1 : Pl.Env} (h : q δ M = some (ds, M1)) (hw : (some (wipeD δ vs) : Option Pl.Env) = some δ1) (k : lcGo p t f ds δ1 M1 = some (ys, M2)) (hl : ys.length ≤ 1000) : eLc vs q p t f δ M = some (.lst ys, M2) := by
  cases hw; unfold eLc; rw [h]; dsimp only; rw [k]; exact if_pos (Nat.le_trans hl (by decide))
theorem lcN_ : lcGo p t f [] δ M = some ([], M) := (fun h => h) (by unfold lcGo; rfl)
/-- one member is told, then the others -/
def lcK (p : GF) (t : TF) (f : EF) (ds : List D) (δ δ1 : Pl.Env) (M1 : Mh) : Option (List D × Mh) := match f δ1 M1 with | some (y, M2) => (match lcGo p t f ds δ M2 with | some (ys, M3) => some (y :: ys, M3) | none => none) | none => none
theorem lcC_ {δ1 : Pl.Env} {w : Option (List D × Mh)} (h1 : p d δ = some δ1) (h2 : t δ1 M = some (x, M1)) (k : (bif x then lcK p t f ds δ δ1 M1 else lcGo p t f ds δ M1) = w) : lcGo p t f (d :: ds) δ M = w := by
  conv => lhs; unfold lcGo
  unfold lcK at k
  rw [h1]; dsimp only; rw [h2]; cases x <;> exact k
theorem lcY_ {ys : List D} {δ1 : Pl.Env} (h3 : f δ1 M1 = some (e, M2)) (k : lcGo p t f ds δ M2 = some (ys, M3)) : lcK p t f ds δ δ1 M1 = some (e :: ys, M3) := by
  unfold lcK; rw [h3]; dsimp only; rw [k]
theorem fn_ {n : Nat} {s : SF} {δ0 : Pl.Env} (h0 : (some (startD n ds) : Option Pl.Env) = some δ0) (h : s δ0 M = some (.rt d M1)) : fnF n s ds M = some (d, M1) := by
  cases h0; unfold fnF; rw [h]
theorem fnN_ {n : Nat} {s : SF} {δ0 : Pl.Env} (h0 : (some (startD n ds) : Option Pl.Env) = some δ0) (h : s δ0 M = some (.nx δ' M1)) : fnF n s ds M = some (.non, M1) := by
  cases h0; unfold fnF; rw [h]
theorem rng1_ {j : Int} (h : q δ M = some ([.int j], M1)) (hj : -(2 ^ 62) ≤ j ∧ j < 2 ^ 62) : aRng1 q δ M = some (rng 0 j, M1) := by
  unfold aRng1; rw [h]; exact if_pos hj
theorem itemsT_ (h : f δ M = some (.tup ds, M1)) : aItems f δ M = some (ds, M1) := by unfold aItems; rw [h]
theorem itemsL_ (h : f δ M = some (.lst ds, M1)) : aItems f δ M = some (ds, M1) := by unfold aItems; rw [h]
theorem s1_ {o : Str → D → Mh → Option (D × Mh)} {z : Str} (h1 : f δ M = some (.str z, M1)) (h2 : g δ M1 = some (d, M2)) (h3 : o z d M2 = u) : eS1 o f g δ M = u := by
  unfold eS1; rw [h1]; dsimp only; rw [h2]; exact h3
theorem cond_tt {α : Type} {A B r : α} {x : Bool} (h : x = true) (k : A = r) : (bif x then A else B) = r := by cases h; exact k
theorem cond_ff {α : Type} {A B r : α} {x : Bool} (h : x = false) (k : B = r) : (bif x then A else B) = r := by cases h; exact k
end
end Ev
end Pl

namespace Law
open PySem L2 Pl
structure CT where
  BadSketch : Addr
  BadRow : Addr
  BadOutline : Addr
  BadBlock : Addr
  BadField : Addr
  BadFeature : Addr
  BadWay : Addr
  BadTools : Addr
  Clash : Addr
  BadPaper : Addr
  OutOfPlace : Addr
  Twice : Addr
  NoPoint : Addr
  TooGreat : Addr
  NoFeature : Addr
  NoSaying : Addr
  Nothing : Addr
  NoTool : Addr
  Lifted : Addr
  NoToolThere : Addr
  Beyond : Addr
  Lowered : Addr
  TooDeep : Addr
  Blocked : Addr
  WorksError : Addr
  MissError : Addr
  FaultError : Addr
  isa : Addr → Value → Option Bool
  okf : Addr → Str → Bool
  okg : Addr → Str → Bool
def isal (ct : CT) : List Value := [.ref ct.BadRow, .ref ct.BadSketch, .ref ct.BadBlock, .ref ct.BadOutline, .ref ct.BadFeature, .ref ct.BadField, .ref ct.BadTools, .ref ct.BadWay, .ref ct.BadPaper, .ref ct.Clash, .ref ct.Twice, .ref ct.OutOfPlace, .ref ct.TooGreat, .ref ct.NoPoint, .ref ct.NoSaying, .ref ct.NoFeature, .ref ct.NoTool, .ref ct.Nothing, .ref ct.NoToolThere, .ref ct.Lifted, .ref ct.Lowered, .ref ct.Beyond, .ref ct.Blocked, .ref ct.TooDeep, .ref ct.WorksError, .type "ValueError", .ref ct.MissError, .type "LookupError", .ref ct.FaultError, .type "RuntimeError"]
structure Isa (ct : CT) : Prop where
  l_BadFeature : (isal ct).map (ct.isa ct.BadFeature) = [some false, some false, some false, some false, some true, some false, some false, some false, some false, some false, some false, some false, some false, some false, some false, some false, some false, some false, some false, some false, some false, some false, some false, some false, some true, some true, some false, some false, some false, some false]
  l_BadOutline : (isal ct).map (ct.isa ct.BadOutline) = [some false, some false, some false, some true, some false, some false, some false, some false, some false, some false, some false, some false, some false, some false, some false, some false, some false, some false, some false, some false, some false, some false, some false, some false, some true, some true, some false, some false, some false, some false]
  l_BadBlock : (isal ct).map (ct.isa ct.BadBlock) = [some false, some false, some true, some false, some false, some false, some false, some false, some false, some false, some false, some false, some false, some false, some false, some false, some false, some false, some false, some false, some false, some false, some false, some false, some true, some true, some false, some false, some false, some false]
  l_BadSketch : (isal ct).map (ct.isa ct.BadSketch) = [some false, some true, some false, some false, some false, some false, some false, some false, some false, some false, some false, some false, some false, some false, some false, some false, some false, some false, some false, some false, some false, some false, some false, some false, some true, some true, some false, some false, some false, some false]
  l_BadRow : (isal ct).map (ct.isa ct.BadRow) = [some true, some false, some false, some false, some false, some false, some false, some false, some false, some false, some false, some false, some false, some false, some false, some false, some false, some false, some false, some false, some false, some false, some false, some false, some true, some true, some false, some false, some false, some false]
  l_Clash : (isal ct).map (ct.isa ct.Clash) = [some false, some false, some false, some false, some false, some false, some false, some false, some false, some true, some false, some false, some false, some false, some false, some false, some false, some false, some false, some false, some false, some false, some false, some false, some true, some true, some false, some false, some false, some false]
  l_BadPaper : (isal ct).map (ct.isa ct.BadPaper) = [some false, some false, some false, some false, some false, some false, some false, some false, some true, some false, some false, some false, some false, some false, some false, some false, some false, some false, some false, some false, some false, some false, some false, some false, some true, some true, some false, some false, some false, some false]
  l_BadWay : (isal ct).map (ct.isa ct.BadWay) = [some false, some false, some false, some false, some false, some false, some false, some true, some false, some false, some false, some false, some false, some false, some false, some false, some false, some false, some false, some false, some false, some false, some false, some false, some true, some true, some false, some false, some false, some false]
  l_BadTools : (isal ct).map (ct.isa ct.BadTools) = [some false, some false, some false, some false, some false, some false, some true, some false, some false, some false, some false, some false, some false, some false, some false, some false, some false, some false, some false, some false, some false, some false, some false, some false, some true, some true, some false, some false, some false, some false]
  l_BadField : (isal ct).map (ct.isa ct.BadField) = [some false, some false, some false, some false, some false, some true, some false, some false, some false, some false, some false, some false, some false, some false, some false, some false, some false, some false, some false, some false, some false, some false, some false, some false, some true, some true, some false, some false, some false, some false]
  l_Beyond : (isal ct).map (ct.isa ct.Beyond) = [some false, some false, some false, some false, some false, some false, some false, some false, some false, some false, some false, some false, some false, some false, some false, some false, some false, some false, some false, some false, some false, some true, some false, some false, some false, some false, some false, some false, some true, some true]
  l_NoTool : (isal ct).map (ct.isa ct.NoTool) = [some false, some false, some false, some false, some false, some false, some false, some false, some false, some false, some false, some false, some false, some false, some false, some false, some true, some false, some false, some false, some false, some false, some false, some false, some false, some false, some true, some true, some false, some false]
  l_NoFeature : (isal ct).map (ct.isa ct.NoFeature) = [some false, some false, some false, some false, some false, some false, some false, some false, some false, some false, some false, some false, some false, some false, some false, some true, some false, some false, some false, some false, some false, some false, some false, some false, some false, some false, some true, some true, some false, some false]
  l_NoSaying : (isal ct).map (ct.isa ct.NoSaying) = [some false, some false, some false, some false, some false, some false, some false, some false, some false, some false, some false, some false, some false, some false, some true, some false, some false, some false, some false, some false, some false, some false, some false, some false, some false, some false, some true, some true, some false, some false]
  l_NoPoint : (isal ct).map (ct.isa ct.NoPoint) = [some false, some false, some false, some false, some false, some false, some false, some false, some false, some false, some false, some false, some false, some true, some false, some false, some false, some false, some false, some false, some false, some false, some false, some false, some false, some false, some true, some true, some false, some false]
  l_TooDeep : (isal ct).map (ct.isa ct.TooDeep) = [some false, some false, some false, some false, some false, some false, some false, some false, some false, some false, some false, some false, some false, some false, some false, some false, some false, some false, some false, some false, some false, some false, some false, some true, some false, some false, some false, some false, some true, some true]
  l_Blocked : (isal ct).map (ct.isa ct.Blocked) = [some false, some false, some false, some false, some false, some false, some false, some false, some false, some false, some false, some false, some false, some false, some false, some false, some false, some false, some false, some false, some false, some false, some true, some false, some false, some false, some false, some false, some true, some true]
  l_NoToolThere : (isal ct).map (ct.isa ct.NoToolThere) = [some false, some false, some false, some false, some false, some false, some false, some false, some false, some false, some false, some false, some false, some false, some false, some false, some false, some false, some true, some false, some false, some false, some false, some false, some false, some false, some false, some false, some true, some true]
  l_Nothing : (isal ct).map (ct.isa ct.Nothing) = [some false, some false, some false, some false, some false, some false, some false, some false, some false, some false, some false, some false, some false, some false, some false, some false, some false, some true, some false, some false, some false, some false, some false, some false, some false, some false, some true, some true, some false, some false]
  l_TooGreat : (isal ct).map (ct.isa ct.TooGreat) = [some false, some false, some false, some false, some false, some false, some false, some false, some false, some false, some false, some false, some true, some false, some false, some false, some false, some false, some false, some false, some false, some false, some false, some false, some true, some true, some false, some false, some false, some false]
  l_OutOfPlace : (isal ct).map (ct.isa ct.OutOfPlace) = [some false, some false, some false, some false, some false, some false, some false, some false, some false, some false, some false, some true, some false, some false, some false, some false, some false, some false, some false, some false, some false, some false, some false, some false, some true, some true, some false, some false, some false, some false]
  l_Twice : (isal ct).map (ct.isa ct.Twice) = [some false, some false, some false, some false, some false, some false, some false, some false, some false, some false, some true, some false, some false, some false, some false, some false, some false, some false, some false, some false, some false, some false, some false, some false, some true, some true, some false, some false, some false, some false]
  l_Lowered : (isal ct).map (ct.isa ct.Lowered) = [some false, some false, some false, some false, some false, some false, some false, some false, some false, some false, some false, some false, some false, some false, some false, some false, some false, some false, some false, some false, some true, some false, some false, some false, some false, some false, some false, some false, some true, some true]
  l_Lifted : (isal ct).map (ct.isa ct.Lifted) = [some false, some false, some false, some false, some false, some false, some false, some false, some false, some false, some false, some false, some false, some false, some false, some false, some false, some false, some false, some true, some false, some false, some false, some false, some false, some false, some false, some false, some true, some true]
  f_BadFeature_number : ct.okf ct.BadFeature "number" = true
  g_BadFeature_number : ct.okg ct.BadFeature "number" = true
  f_BadOutline_number : ct.okf ct.BadOutline "number" = true
  g_BadOutline_number : ct.okg ct.BadOutline "number" = true
  f_BadBlock_place : ct.okf ct.BadBlock "place" = true
  g_BadBlock_place : ct.okg ct.BadBlock "place" = true
  f_BadSketch_part : ct.okf ct.BadSketch "part" = true
  g_BadSketch_part : ct.okg ct.BadSketch "part" = true
  f_BadSketch_number : ct.okf ct.BadSketch "number" = true
  g_BadSketch_number : ct.okg ct.BadSketch "number" = true
  f_BadRow_row : ct.okf ct.BadRow "row" = true
  g_BadRow_row : ct.okg ct.BadRow "row" = true
  f_BadRow_word : ct.okf ct.BadRow "word" = true
  g_BadRow_word : ct.okg ct.BadRow "word" = true
  f_Clash_number : ct.okf ct.Clash "number" = true
  g_Clash_number : ct.okg ct.Clash "number" = true
  f_BadPaper_place : ct.okf ct.BadPaper "place" = true
  g_BadPaper_place : ct.okg ct.BadPaper "place" = true
  f_BadWay_number : ct.okf ct.BadWay "number" = true
  g_BadWay_number : ct.okg ct.BadWay "number" = true
  f_BadTools_number : ct.okf ct.BadTools "number" = true
  g_BadTools_number : ct.okg ct.BadTools "number" = true
  f_BadField_place : ct.okf ct.BadField "place" = true
  g_BadField_place : ct.okg ct.BadField "place" = true
  f_Beyond_place : ct.okf ct.Beyond "place" = true
  g_Beyond_place : ct.okg ct.Beyond "place" = true
  f_NoTool_tool : ct.okf ct.NoTool "tool" = true
  g_NoTool_tool : ct.okg ct.NoTool "tool" = true
  f_NoFeature_number : ct.okf ct.NoFeature "number" = true
  g_NoFeature_number : ct.okg ct.NoFeature "number" = true
  f_NoSaying_number : ct.okf ct.NoSaying "number" = true
  g_NoSaying_number : ct.okg ct.NoSaying "number" = true
  f_NoPoint_name : ct.okf ct.NoPoint "name" = true
  g_NoPoint_name : ct.okg ct.NoPoint "name" = true
  f_TooDeep_place : ct.okf ct.TooDeep "place" = true
  g_TooDeep_place : ct.okg ct.TooDeep "place" = true
  f_Blocked_place : ct.okf ct.Blocked "place" = true
  g_Blocked_place : ct.okg ct.Blocked "place" = true
def gd_BadSketch_part (ds zs : List D) : List D := (ds ++ (((zs.drop 0).take 1) ++ (((([.non, .non] : List D).drop 1).take 1))))
def gd_BadSketch_number_part (ds zs : List D) : List D := (ds ++ (((zs.drop 1).take 1) ++ (((zs.drop 0).take 1))))
def gd_BadRow_word_row (ds zs : List D) : List D := (ds ++ (((zs.drop 1).take 1) ++ (((zs.drop 0).take 1))))
def gd_BadFeature_number (ds zs : List D) : List D := (ds ++ (((zs.drop 0).take 1)))
def gd_BadOutline_number (ds zs : List D) : List D := (ds ++ (((zs.drop 0).take 1)))
def gd_BadBlock_place (ds zs : List D) : List D := (ds ++ (((zs.drop 0).take 1)))
def gd_BadWay_number (ds zs : List D) : List D := (ds ++ (((zs.drop 0).take 1)))
def gd_BadTools_number (ds zs : List D) : List D := (ds ++ (((zs.drop 0).take 1)))
def gd_BadField_place (ds zs : List D) : List D := (ds ++ (((zs.drop 0).take 1)))
def gd_NoSaying_number (ds zs : List D) : List D := (ds ++ (((zs.drop 0).take 1)))
def gd_Clash_number (ds zs : List D) : List D := (ds ++ (((zs.drop 0).take 1)))
def gd_BadPaper_place (ds zs : List D) : List D := (ds ++ (((zs.drop 0).take 1)))
def gd_Beyond_place (ds zs : List D) : List D := (ds ++ (((zs.drop 0).take 1)))
def gd_NoTool_tool (ds zs : List D) : List D := (ds ++ (((zs.drop 0).take 1)))
def gd_NoFeature_number (ds zs : List D) : List D := (ds ++ (((zs.drop 0).take 1)))
def gd_TooDeep_place (ds zs : List D) : List D := (ds ++ (((zs.drop 0).take 1)))
def gd_Blocked_place (ds zs : List D) : List D := (ds ++ (((zs.drop 0).take 1)))
def gd_NoPoint_name (ds zs : List D) : List D := (ds ++ (((zs.drop 0).take 1)))
def nn_law_mixed : List Str := ["cell", "k", "mixed"]
noncomputable def gg_law_mixed : SF := (sSeq (sAs (eOp gAdd (eOp gAdd (eOp (gIntC (fun _ j => j ≠ 0) fun i j => .int (i.fmod j)) (eVar 0) (eOp gIx (eLst (aCons (eC (.int 1000000007)) (aCons (eC (.int 998244353)) (aCons (eC (.int 2147483629)) (aCons (eC (.int 1000000009)) aNil))))) (eOp (gIntC (fun _ j => j ≠ 0) fun i j => .int (i.fmod j)) (eVar 1) (eC (.int 4))))) (eOp gMul (eC (.int 7919)) (eVar 1))) (eC (.int 13))) (gN 2)) (sRet (eOp (gIntC (fun _ j => j ≠ 0) fun i j => .int (i.fmod j)) (eOp gMul (eOp (gIntC (fun _ j => j ≠ 0) fun i j => .int (i.fmod j)) (eOp gMul (eVar 2) (eVar 2)) (eC (.int 2147483647))) (eC (.int 48271))) (eC (.int 2147483647)))))
noncomputable def ff_law_mixed : Fn := fnF 3 gg_law_mixed
def nn_law_draw : List Str := ["cell", "k"]
noncomputable def gg_law_draw : SF := (sRet (eDic (psCons (eC (.str "left")) (eIf (tV (eOp (gInt fun i j => .bl (decide (j ≤ i))) (eVar 0) (eOp (gIntC PowOk fun i j => .int (i ^ j.toNat)) (eC (.int 10)) (eC (.int 18))))) (eVar 0) (eC (.int 0))) (psCons (eC (.str "cell")) (eVar 0) (psCons (eC (.str "turns")) (eOp gMul (eC (.int 1000)) (eVar 1)) psNil)))))
noncomputable def ff_law_draw : Fn := fnF 2 gg_law_draw
def nn_law_digit : List Str := ["state", "many", "j", "found"]
noncomputable def gg_law_digit : SF := (sSeq (sIf (tV (eOp (gEq PyData.eqv) (eOp gDget (eVar 0) (eC (.str "left"))) (eC (.int 0)))) (sFor (aRng1 (aCons (eC (.int 4)) aNil)) (gN 2) (sSeq (sDput (eVar 0) (eC (.str "turns")) (eOp gAdd (eOp gDget (eVar 0) (eC (.str "turns"))) (eC (.int 1)))) (sDput (eVar 0) (eC (.str "left")) (eOp gAdd (eOp gMul (eOp gDget (eVar 0) (eC (.str "left"))) (eC (.int 2147483647))) (eCall ff_law_mixed (aCons (eOp gDget (eVar 0) (eC (.str "cell"))) (aCons (eOp gDget (eVar 0) (eC (.str "turns"))) aNil)) []))))) sNil) (sSeq (sAs (eOp (gIntC (fun _ j => j ≠ 0) fun i j => .int (i.fmod j)) (eOp gDget (eVar 0) (eC (.str "left"))) (eVar 1)) (gN 3)) (sSeq (sDput (eVar 0) (eC (.str "left")) (eOp (gIntC DivOk fun i j => .int (i.fdiv j)) (eOp gDget (eVar 0) (eC (.str "left"))) (eVar 1))) (sRet (eVar 3)))))
noncomputable def ff_law_digit : Fn := fnF 4 gg_law_digit
def nn_law_word : List Str := ["state", "signs", "j", "some"]
noncomputable def gg_law_word : SF := (sSeq (sAs (eLc [2] (aRng1 (aCons (eOp gAdd (eC (.int 1)) (eCall ff_law_digit (aCons (eVar 0) (aCons (eC (.int 8)) aNil)) [])) aNil)) (gN 2) tTrue (eOp gIx (eC (.str "abcdefghijklmnopqrstuvwxyz")) (eCall ff_law_digit (aCons (eVar 0) (aCons (eC (.int 26)) aNil)) []))) (gN 1)) (sSeq (sAs (eLst (aCons (eS1 gJoin (eC (.str "")) (eVar 1)) (aCons (eS1 gJoin (eC (.str "")) (eSl (eVar 1) pNone (pSome (eC (.int 2))))) (aCons (eC (.str "a")) (aCons (eC (.str "b")) (aCons (eC (.str "x")) (aCons (eC (.str "y")) (aCons (eC (.str "at")) (aCons (eC (.str "as")) (aCons (eC (.str "place")) (aCons (eC (.str "say")) (aCons (eC (.str "draw")) (aCons (eC (.str "level")) (aCons (eC (.str "work")) aNil)))))))))))))) (gN 3)) (sRet (eOp gIx (eVar 3) (eCall ff_law_digit (aCons (eVar 0) (aCons (eC (.int 13)) aNil)) [])))))
noncomputable def ff_law_word : Fn := fnF 4 gg_law_word
def nn_law_kinds : List Str := ["error", "kinds", "kind", "holds"]
noncomputable def gg_law_kinds (ct : CT) : SF := (sSeq (sAs (eLst (aCons (eTup (aCons (eC (.str "row")) (aCons (eB (gIsiA ct.isa) (aCons (eVar 0) (aCons (eC (.ob ct.BadRow)) aNil))) aNil))) (aCons (eTup (aCons (eC (.str "sketch")) (aCons (eB (gIsiA ct.isa) (aCons (eVar 0) (aCons (eC (.ob ct.BadSketch)) aNil))) aNil))) aNil))) (gN 1)) (sSeq (sAs (eOp gAdd (eVar 1) (eLst (aCons (eTup (aCons (eC (.str "block")) (aCons (eB (gIsiA ct.isa) (aCons (eVar 0) (aCons (eC (.ob ct.BadBlock)) aNil))) aNil))) (aCons (eTup (aCons (eC (.str "outline")) (aCons (eB (gIsiA ct.isa) (aCons (eVar 0) (aCons (eC (.ob ct.BadOutline)) aNil))) aNil))) aNil)))) (gN 1)) (sSeq (sAs (eOp gAdd (eVar 1) (eLst (aCons (eTup (aCons (eC (.str "feature")) (aCons (eB (gIsiA ct.isa) (aCons (eVar 0) (aCons (eC (.ob ct.BadFeature)) aNil))) aNil))) (aCons (eTup (aCons (eC (.str "field")) (aCons (eB (gIsiA ct.isa) (aCons (eVar 0) (aCons (eC (.ob ct.BadField)) aNil))) aNil))) aNil)))) (gN 1)) (sSeq (sAs (eOp gAdd (eVar 1) (eLst (aCons (eTup (aCons (eC (.str "tools")) (aCons (eB (gIsiA ct.isa) (aCons (eVar 0) (aCons (eC (.ob ct.BadTools)) aNil))) aNil))) (aCons (eTup (aCons (eC (.str "way")) (aCons (eB (gIsiA ct.isa) (aCons (eVar 0) (aCons (eC (.ob ct.BadWay)) aNil))) aNil))) aNil)))) (gN 1)) (sSeq (sAs (eOp gAdd (eVar 1) (eLst (aCons (eTup (aCons (eC (.str "paper")) (aCons (eB (gIsiA ct.isa) (aCons (eVar 0) (aCons (eC (.ob ct.BadPaper)) aNil))) aNil))) (aCons (eTup (aCons (eC (.str "clash")) (aCons (eB (gIsiA ct.isa) (aCons (eVar 0) (aCons (eC (.ob ct.Clash)) aNil))) aNil))) aNil)))) (gN 1)) (sSeq (sAs (eOp gAdd (eVar 1) (eLst (aCons (eTup (aCons (eC (.str "twice")) (aCons (eB (gIsiA ct.isa) (aCons (eVar 0) (aCons (eC (.ob ct.Twice)) aNil))) aNil))) (aCons (eTup (aCons (eC (.str "place")) (aCons (eB (gIsiA ct.isa) (aCons (eVar 0) (aCons (eC (.ob ct.OutOfPlace)) aNil))) aNil))) aNil)))) (gN 1)) (sSeq (sAs (eOp gAdd (eVar 1) (eLst (aCons (eTup (aCons (eC (.str "great")) (aCons (eB (gIsiA ct.isa) (aCons (eVar 0) (aCons (eC (.ob ct.TooGreat)) aNil))) aNil))) (aCons (eTup (aCons (eC (.str "point")) (aCons (eB (gIsiA ct.isa) (aCons (eVar 0) (aCons (eC (.ob ct.NoPoint)) aNil))) aNil))) aNil)))) (gN 1)) (sSeq (sAs (eOp gAdd (eVar 1) (eLst (aCons (eTup (aCons (eC (.str "saying")) (aCons (eB (gIsiA ct.isa) (aCons (eVar 0) (aCons (eC (.ob ct.NoSaying)) aNil))) aNil))) (aCons (eTup (aCons (eC (.str "nofeature")) (aCons (eB (gIsiA ct.isa) (aCons (eVar 0) (aCons (eC (.ob ct.NoFeature)) aNil))) aNil))) aNil)))) (gN 1)) (sSeq (sAs (eOp gAdd (eVar 1) (eLst (aCons (eTup (aCons (eC (.str "tool")) (aCons (eB (gIsiA ct.isa) (aCons (eVar 0) (aCons (eC (.ob ct.NoTool)) aNil))) aNil))) (aCons (eTup (aCons (eC (.str "nothing")) (aCons (eB (gIsiA ct.isa) (aCons (eVar 0) (aCons (eC (.ob ct.Nothing)) aNil))) aNil))) aNil)))) (gN 1)) (sSeq (sAs (eOp gAdd (eVar 1) (eLst (aCons (eTup (aCons (eC (.str "notool")) (aCons (eB (gIsiA ct.isa) (aCons (eVar 0) (aCons (eC (.ob ct.NoToolThere)) aNil))) aNil))) (aCons (eTup (aCons (eC (.str "lifted")) (aCons (eB (gIsiA ct.isa) (aCons (eVar 0) (aCons (eC (.ob ct.Lifted)) aNil))) aNil))) aNil)))) (gN 1)) (sSeq (sAs (eOp gAdd (eVar 1) (eLst (aCons (eTup (aCons (eC (.str "lowered")) (aCons (eB (gIsiA ct.isa) (aCons (eVar 0) (aCons (eC (.ob ct.Lowered)) aNil))) aNil))) (aCons (eTup (aCons (eC (.str "beyond")) (aCons (eB (gIsiA ct.isa) (aCons (eVar 0) (aCons (eC (.ob ct.Beyond)) aNil))) aNil))) aNil)))) (gN 1)) (sSeq (sAs (eOp gAdd (eVar 1) (eLst (aCons (eTup (aCons (eC (.str "blocked")) (aCons (eB (gIsiA ct.isa) (aCons (eVar 0) (aCons (eC (.ob ct.Blocked)) aNil))) aNil))) (aCons (eTup (aCons (eC (.str "deep")) (aCons (eB (gIsiA ct.isa) (aCons (eVar 0) (aCons (eC (.ob ct.TooDeep)) aNil))) aNil))) aNil)))) (gN 1)) (sSeq (sAs (eOp gAdd (eVar 1) (eLst (aCons (eTup (aCons (eC (.str "ours")) (aCons (eB (gIsiA ct.isa) (aCons (eVar 0) (aCons (eC (.ob ct.WorksError)) aNil))) aNil))) (aCons (eTup (aCons (eC (.str "value")) (aCons (eB (gIsiA ct.isa) (aCons (eVar 0) (aCons (eC (.ty "ValueError")) aNil))) aNil))) aNil)))) (gN 1)) (sSeq (sAs (eOp gAdd (eVar 1) (eLst (aCons (eTup (aCons (eC (.str "miss")) (aCons (eB (gIsiA ct.isa) (aCons (eVar 0) (aCons (eC (.ob ct.MissError)) aNil))) aNil))) (aCons (eTup (aCons (eC (.str "lookup")) (aCons (eB (gIsiA ct.isa) (aCons (eVar 0) (aCons (eC (.ty "LookupError")) aNil))) aNil))) aNil)))) (gN 1)) (sSeq (sAs (eOp gAdd (eVar 1) (eLst (aCons (eTup (aCons (eC (.str "fault")) (aCons (eB (gIsiA ct.isa) (aCons (eVar 0) (aCons (eC (.ob ct.FaultError)) aNil))) aNil))) (aCons (eTup (aCons (eC (.str "runtime")) (aCons (eB (gIsiA ct.isa) (aCons (eVar 0) (aCons (eC (.ty "RuntimeError")) aNil))) aNil))) aNil)))) (gN 1)) (sRet (eLc [2, 3] (aItems (eVar 1)) (gTp (gsCons (gN 2) (gsCons (gN 3) gsNil))) (tV (eVar 3)) (eVar 2))))))))))))))))))
noncomputable def ff_law_kinds (ct : CT) : Fn := fnF 4 (gg_law_kinds ct)
def nn_BadFeature_init : List Str := ["self", "number"]
noncomputable def gg_BadFeature_init (ct : CT) : SF := (sOg ct.okf "number" (eVar 0) (eVar 1))
noncomputable def ff_BadFeature_init (ct : CT) : Fn := fnF 2 (gg_BadFeature_init ct)
def nn_BadOutline_init : List Str := ["self", "number"]
noncomputable def gg_BadOutline_init (ct : CT) : SF := (sOg ct.okf "number" (eVar 0) (eVar 1))
noncomputable def ff_BadOutline_init (ct : CT) : Fn := fnF 2 (gg_BadOutline_init ct)
def nn_BadBlock_init : List Str := ["self", "place"]
noncomputable def gg_BadBlock_init (ct : CT) : SF := (sOg ct.okf "place" (eVar 0) (eVar 1))
noncomputable def ff_BadBlock_init (ct : CT) : Fn := fnF 2 (gg_BadBlock_init ct)
def nn_BadSketch_init : List Str := ["self", "part", "number"]
noncomputable def gg_BadSketch_init (ct : CT) : SF := (sSeq (sOg ct.okf "part" (eVar 0) (eVar 1)) (sOg ct.okf "number" (eVar 0) (eVar 2)))
noncomputable def ff_BadSketch_init (ct : CT) : Fn := fnF 3 (gg_BadSketch_init ct)
def nn_BadRow_init : List Str := ["self", "row", "word"]
noncomputable def gg_BadRow_init (ct : CT) : SF := (sSeq (sOg ct.okf "row" (eVar 0) (eVar 1)) (sOg ct.okf "word" (eVar 0) (eVar 2)))
noncomputable def ff_BadRow_init (ct : CT) : Fn := fnF 3 (gg_BadRow_init ct)
def nn_Clash_init : List Str := ["self", "number"]
noncomputable def gg_Clash_init (ct : CT) : SF := (sOg ct.okf "number" (eVar 0) (eVar 1))
noncomputable def ff_Clash_init (ct : CT) : Fn := fnF 2 (gg_Clash_init ct)
def nn_BadPaper_init : List Str := ["self", "place"]
noncomputable def gg_BadPaper_init (ct : CT) : SF := (sOg ct.okf "place" (eVar 0) (eVar 1))
noncomputable def ff_BadPaper_init (ct : CT) : Fn := fnF 2 (gg_BadPaper_init ct)
def nn_BadWay_init : List Str := ["self", "number"]
noncomputable def gg_BadWay_init (ct : CT) : SF := (sOg ct.okf "number" (eVar 0) (eVar 1))
noncomputable def ff_BadWay_init (ct : CT) : Fn := fnF 2 (gg_BadWay_init ct)
def nn_BadTools_init : List Str := ["self", "number"]
noncomputable def gg_BadTools_init (ct : CT) : SF := (sOg ct.okf "number" (eVar 0) (eVar 1))
noncomputable def ff_BadTools_init (ct : CT) : Fn := fnF 2 (gg_BadTools_init ct)
def nn_BadField_init : List Str := ["self", "place"]
noncomputable def gg_BadField_init (ct : CT) : SF := (sOg ct.okf "place" (eVar 0) (eVar 1))
noncomputable def ff_BadField_init (ct : CT) : Fn := fnF 2 (gg_BadField_init ct)
def nn_Beyond_init : List Str := ["self", "place"]
noncomputable def gg_Beyond_init (ct : CT) : SF := (sOg ct.okf "place" (eVar 0) (eVar 1))
noncomputable def ff_Beyond_init (ct : CT) : Fn := fnF 2 (gg_Beyond_init ct)
def nn_NoTool_init : List Str := ["self", "tool"]
noncomputable def gg_NoTool_init (ct : CT) : SF := (sOg ct.okf "tool" (eVar 0) (eVar 1))
noncomputable def ff_NoTool_init (ct : CT) : Fn := fnF 2 (gg_NoTool_init ct)
def nn_NoFeature_init : List Str := ["self", "number"]
noncomputable def gg_NoFeature_init (ct : CT) : SF := (sOg ct.okf "number" (eVar 0) (eVar 1))
noncomputable def ff_NoFeature_init (ct : CT) : Fn := fnF 2 (gg_NoFeature_init ct)
def nn_NoSaying_init : List Str := ["self", "number"]
noncomputable def gg_NoSaying_init (ct : CT) : SF := (sOg ct.okf "number" (eVar 0) (eVar 1))
noncomputable def ff_NoSaying_init (ct : CT) : Fn := fnF 2 (gg_NoSaying_init ct)
def nn_NoPoint_init : List Str := ["self", "name"]
noncomputable def gg_NoPoint_init (ct : CT) : SF := (sOg ct.okf "name" (eVar 0) (eVar 1))
noncomputable def ff_NoPoint_init (ct : CT) : Fn := fnF 2 (gg_NoPoint_init ct)
def nn_TooDeep_init : List Str := ["self", "place"]
noncomputable def gg_TooDeep_init (ct : CT) : SF := (sOg ct.okf "place" (eVar 0) (eVar 1))
noncomputable def ff_TooDeep_init (ct : CT) : Fn := fnF 2 (gg_TooDeep_init ct)
def nn_Blocked_init : List Str := ["self", "place"]
noncomputable def gg_Blocked_init (ct : CT) : SF := (sOg ct.okf "place" (eVar 0) (eVar 1))
noncomputable def ff_Blocked_init (ct : CT) : Fn := fnF 2 (gg_Blocked_init ct)
def nn_law_by_hand : List Str := ["figure", "sign", "made", "told", "more", "far", "names", "due", "kind", "error"]
noncomputable def gg_law_by_hand (ct : CT) : SF := (sSeq (sAs (eLst (aCons (eMk ct.BadRow (ff_BadRow_init ct) (aCons (eVar 0) (aCons (eC (.int 3)) aNil)) []) (aCons (eMk ct.BadSketch (ff_BadSketch_init ct) (aCons (eC (.str "points")) (aCons (eVar 0) aNil)) []) (aCons (eMk ct.BadBlock (ff_BadBlock_init ct) (aCons (eVar 0) aNil) []) (aCons (eMk ct.BadOutline (ff_BadOutline_init ct) (aCons (eVar 0) aNil) []) (aCons (eMk ct.BadFeature (ff_BadFeature_init ct) (aCons (eVar 0) aNil) []) aNil)))))) (gN 2)) (sSeq (sAs (eLst (aCons (eGf ct.okg "row" (eOp gIx (eVar 2) (eC (.int 0)))) (aCons (eGf ct.okg "word" (eOp gIx (eVar 2) (eC (.int 0)))) (aCons (eGf ct.okg "part" (eOp gIx (eVar 2) (eC (.int 1)))) (aCons (eGf ct.okg "number" (eOp gIx (eVar 2) (eC (.int 1)))) (aCons (eGf ct.okg "place" (eOp gIx (eVar 2) (eC (.int 2)))) (aCons (eGf ct.okg "number" (eOp gIx (eVar 2) (eC (.int 3)))) (aCons (eGf ct.okg "number" (eOp gIx (eVar 2) (eC (.int 4)))) aNil)))))))) (gN 3)) (sSeq (sIf (tV (eOp (gEq fun p q => !PyData.eqv p q) (eVar 3) (eLst (aCons (eVar 0) (aCons (eC (.int 3)) (aCons (eC (.str "points")) (aCons (eVar 0) (aCons (eVar 0) (aCons (eVar 0) (aCons (eVar 0) aNil)))))))))) (sRet (eC (.bl false))) sNil) (sSeq (sAs (eLst (aCons (eMk ct.BadField (ff_BadField_init ct) (aCons (eTup (aCons (eVar 1) (aCons (eVar 0) aNil))) aNil) []) (aCons (eMk ct.BadTools (ff_BadTools_init ct) (aCons (eVar 0) aNil) []) (aCons (eMk ct.BadWay (ff_BadWay_init ct) (aCons (eVar 0) aNil) []) (aCons (eMk ct.BadPaper (ff_BadPaper_init ct) (aCons (eTup (aCons (eVar 1) (aCons (eVar 0) aNil))) aNil) []) (aCons (eMk ct.Clash (ff_Clash_init ct) (aCons (eVar 0) aNil) []) aNil)))))) (gN 4)) (sSeq (sAs (eLst (aCons (eGf ct.okg "place" (eOp gIx (eVar 4) (eC (.int 0)))) (aCons (eGf ct.okg "number" (eOp gIx (eVar 4) (eC (.int 1)))) (aCons (eGf ct.okg "number" (eOp gIx (eVar 4) (eC (.int 2)))) (aCons (eGf ct.okg "place" (eOp gIx (eVar 4) (eC (.int 3)))) (aCons (eGf ct.okg "number" (eOp gIx (eVar 4) (eC (.int 4)))) aNil)))))) (gN 3)) (sSeq (sIf (tV (eOp (gEq fun p q => !PyData.eqv p q) (eVar 3) (eLst (aCons (eTup (aCons (eVar 1) (aCons (eVar 0) aNil))) (aCons (eVar 0) (aCons (eVar 0) (aCons (eTup (aCons (eVar 1) (aCons (eVar 0) aNil))) (aCons (eVar 0) aNil)))))))) (sRet (eC (.bl false))) sNil) (sSeq (sAs (eLst (aCons (eMk ct.NoPoint (ff_NoPoint_init ct) (aCons (eVar 1) aNil) []) (aCons (eMk ct.NoSaying (ff_NoSaying_init ct) (aCons (eVar 0) aNil) []) (aCons (eMk ct.NoFeature (ff_NoFeature_init ct) (aCons (eVar 0) aNil) []) (aCons (eMk ct.NoTool (ff_NoTool_init ct) (aCons (eTup (aCons (eVar 0) (aCons (eC (.int 1)) aNil))) aNil) []) (aCons (eMk ct.Beyond (ff_Beyond_init ct) (aCons (eTup (aCons (eVar 0) (aCons (eC (.int 2)) aNil))) aNil) []) aNil)))))) (gN 5)) (sSeq (sAs (eOp gAdd (eVar 5) (eLst (aCons (eMk ct.Blocked (ff_Blocked_init ct) (aCons (eTup (aCons (eC (.int 3)) (aCons (eVar 0) aNil))) aNil) []) (aCons (eMk ct.TooDeep (ff_TooDeep_init ct) (aCons (eVar 0) aNil) []) aNil)))) (gN 5)) (sSeq (sAs (eLst (aCons (eGf ct.okg "name" (eOp gIx (eVar 5) (eC (.int 0)))) (aCons (eGf ct.okg "number" (eOp gIx (eVar 5) (eC (.int 1)))) (aCons (eGf ct.okg "number" (eOp gIx (eVar 5) (eC (.int 2)))) (aCons (eGf ct.okg "tool" (eOp gIx (eVar 5) (eC (.int 3)))) (aCons (eGf ct.okg "place" (eOp gIx (eVar 5) (eC (.int 4)))) (aCons (eGf ct.okg "place" (eOp gIx (eVar 5) (eC (.int 5)))) (aCons (eGf ct.okg "place" (eOp gIx (eVar 5) (eC (.int 6)))) aNil)))))))) (gN 3)) (sSeq (sIf (tV (eOp (gEq fun p q => !PyData.eqv p q) (eVar 3) (eLst (aCons (eVar 1) (aCons (eVar 0) (aCons (eVar 0) (aCons (eTup (aCons (eVar 0) (aCons (eC (.int 1)) aNil))) (aCons (eTup (aCons (eVar 0) (aCons (eC (.int 2)) aNil))) (aCons (eTup (aCons (eC (.int 3)) (aCons (eVar 0) aNil))) (aCons (eVar 0) aNil)))))))))) (sRet (eC (.bl false))) sNil) (sSeq (sAs (eOp gAdd (eOp gAdd (eOp gAdd (eVar 2) (eVar 4)) (eVar 5)) (eLst (aCons (eMkT ct.Twice (eC (.str "x"))) (aCons (eMkT ct.OutOfPlace (eC (.str "x"))) (aCons (eMkT ct.TooGreat (eC (.str "x"))) (aCons (eMkT ct.Nothing (eC (.str "x"))) (aCons (eMkT ct.NoToolThere (eC (.str "x"))) aNil))))))) (gN 2)) (sSeq (sAs (eOp gAdd (eVar 2) (eLst (aCons (eMkT ct.Lifted (eC (.str "x"))) (aCons (eMkT ct.Lowered (eC (.str "x"))) aNil)))) (gN 2)) (sSeq (sAs (eLst (aCons (eC (.str "row")) (aCons (eC (.str "sketch")) (aCons (eC (.str "block")) (aCons (eC (.str "outline")) (aCons (eC (.str "feature")) (aCons (eC (.str "field")) (aCons (eC (.str "tools")) (aCons (eC (.str "way")) (aCons (eC (.str "paper")) (aCons (eC (.str "clash")) aNil))))))))))) (gN 6)) (sSeq (sAs (eLc [8] (aItems (eVar 6)) (gN 8) tTrue (eLst (aCons (eVar 8) (aCons (eC (.str "ours")) (aCons (eC (.str "value")) aNil))))) (gN 7)) (sSeq (sAs (eOp gAdd (eVar 7) (eLc [8] (aItems (eLst (aCons (eC (.str "point")) (aCons (eC (.str "saying")) (aCons (eC (.str "nofeature")) (aCons (eC (.str "tool")) aNil)))))) (gN 8) tTrue (eLst (aCons (eVar 8) (aCons (eC (.str "miss")) (aCons (eC (.str "lookup")) aNil)))))) (gN 7)) (sSeq (sAs (eOp gAdd (eVar 7) (eLc [8] (aItems (eLst (aCons (eC (.str "beyond")) (aCons (eC (.str "blocked")) (aCons (eC (.str "deep")) aNil))))) (gN 8) tTrue (eLst (aCons (eVar 8) (aCons (eC (.str "fault")) (aCons (eC (.str "runtime")) aNil)))))) (gN 7)) (sSeq (sAs (eOp gAdd (eOp gAdd (eVar 7) (eLc [8] (aItems (eLst (aCons (eC (.str "twice")) (aCons (eC (.str "place")) (aCons (eC (.str "great")) aNil))))) (gN 8) tTrue (eLst (aCons (eVar 8) (aCons (eC (.str "ours")) (aCons (eC (.str "value")) aNil)))))) (eLst (aCons (eLst (aCons (eC (.str "nothing")) (aCons (eC (.str "miss")) (aCons (eC (.str "lookup")) aNil)))) aNil))) (gN 7)) (sSeq (sAs (eOp gAdd (eVar 7) (eLc [8] (aItems (eLst (aCons (eC (.str "notool")) (aCons (eC (.str "lifted")) (aCons (eC (.str "lowered")) aNil))))) (gN 8) tTrue (eLst (aCons (eVar 8) (aCons (eC (.str "fault")) (aCons (eC (.str "runtime")) aNil)))))) (gN 7)) (sRet (eOp (gEq PyData.eqv) (eLc [9] (aItems (eVar 2)) (gN 9) tTrue (eCall (ff_law_kinds ct) (aCons (eVar 9) aNil) [])) (eVar 7)))))))))))))))))))))
noncomputable def ff_law_by_hand (ct : CT) : Fn := fnF 10 (gg_law_by_hand ct)
def nn_law_left_out : List Str := ["figure", "sign", "made", "error", "told"]
noncomputable def gg_law_left_out (ct : CT) : SF := (sSeq (sAs (eLst (aCons (eMk ct.BadSketch (ff_BadSketch_init ct) aNil [.non, .non]) (aCons (eMk ct.BadSketch (ff_BadSketch_init ct) (aCons (eVar 1) aNil) [.non]) (aCons (eMkK ct.BadSketch (ff_BadSketch_init ct) (aCons (eVar 1) aNil) gd_BadSketch_part) (aCons (eMk ct.BadOutline (ff_BadOutline_init ct) aNil [.non]) (aCons (eMk ct.BadFeature (ff_BadFeature_init ct) aNil [.non]) (aCons (eMk ct.BadTools (ff_BadTools_init ct) aNil [.non]) (aCons (eMk ct.BadWay (ff_BadWay_init ct) aNil [.non]) aNil)))))))) (gN 2)) (sSeq (sIf (tV (eOp (gEq fun p q => !PyData.eqv p q) (eLc [3] (aItems (eVar 2)) (gN 3) tTrue (eGf ct.okg "number" (eVar 3))) (eOp gMul (eLst (aCons (eC .non) aNil)) (eC (.int 7))))) (sRet (eC (.bl false))) sNil) (sSeq (sIf (tV (eOp (gEq fun p q => !PyData.eqv p q) (eLst (aCons (eGf ct.okg "part" (eOp gIx (eVar 2) (eC (.int 0)))) (aCons (eGf ct.okg "part" (eOp gIx (eVar 2) (eC (.int 1)))) (aCons (eGf ct.okg "part" (eOp gIx (eVar 2) (eC (.int 2)))) aNil)))) (eLst (aCons (eC .non) (aCons (eVar 1) (aCons (eVar 1) aNil)))))) (sRet (eC (.bl false))) sNil) (sSeq (sIf (tV (eOp (gEq fun p q => !PyData.eqv p q) (eLst (aCons (eGf ct.okg "place" (eMk ct.BadBlock (ff_BadBlock_init ct) aNil [.non])) (aCons (eGf ct.okg "place" (eMk ct.BadField (ff_BadField_init ct) aNil [.non])) (aCons (eGf ct.okg "place" (eMk ct.BadPaper (ff_BadPaper_init ct) aNil [.non])) aNil)))) (eOp gMul (eLst (aCons (eC .non) aNil)) (eC (.int 3))))) (sRet (eC (.bl false))) sNil) (sSeq (sAs (eLst (aCons (eGf ct.okg "word" (eMkK ct.BadRow (ff_BadRow_init ct) (aCons (eVar 0) (aCons (eC (.int 7)) aNil)) gd_BadRow_word_row)) (aCons (eGf ct.okg "row" (eMkK ct.BadRow (ff_BadRow_init ct) (aCons (eVar 0) (aCons (eC (.int 7)) aNil)) gd_BadRow_word_row)) (aCons (eGf ct.okg "number" (eMkK ct.BadSketch (ff_BadSketch_init ct) (aCons (eVar 0) (aCons (eVar 1) aNil)) gd_BadSketch_number_part)) aNil)))) (gN 4)) (sSeq (sAs (eOp gAdd (eVar 4) (eLst (aCons (eGf ct.okg "place" (eMkK ct.BadBlock (ff_BadBlock_init ct) (aCons (eVar 0) aNil) gd_BadBlock_place)) (aCons (eGf ct.okg "number" (eMkK ct.BadOutline (ff_BadOutline_init ct) (aCons (eVar 0) aNil) gd_BadOutline_number)) (aCons (eGf ct.okg "number" (eMkK ct.BadFeature (ff_BadFeature_init ct) (aCons (eVar 0) aNil) gd_BadFeature_number)) aNil))))) (gN 4)) (sSeq (sAs (eOp gAdd (eVar 4) (eLst (aCons (eGf ct.okg "place" (eMkK ct.BadField (ff_BadField_init ct) (aCons (eVar 0) aNil) gd_BadField_place)) (aCons (eGf ct.okg "number" (eMkK ct.BadTools (ff_BadTools_init ct) (aCons (eVar 0) aNil) gd_BadTools_number)) (aCons (eGf ct.okg "number" (eMkK ct.BadWay (ff_BadWay_init ct) (aCons (eVar 0) aNil) gd_BadWay_number)) aNil))))) (gN 4)) (sSeq (sAs (eOp gAdd (eVar 4) (eLst (aCons (eGf ct.okg "place" (eMkK ct.BadPaper (ff_BadPaper_init ct) (aCons (eVar 0) aNil) gd_BadPaper_place)) (aCons (eGf ct.okg "number" (eMkK ct.Clash (ff_Clash_init ct) (aCons (eVar 0) aNil) gd_Clash_number)) (aCons (eGf ct.okg "number" (eMkK ct.NoSaying (ff_NoSaying_init ct) (aCons (eVar 0) aNil) gd_NoSaying_number)) aNil))))) (gN 4)) (sSeq (sAs (eOp gAdd (eVar 4) (eLst (aCons (eGf ct.okg "number" (eMkK ct.NoFeature (ff_NoFeature_init ct) (aCons (eVar 0) aNil) gd_NoFeature_number)) (aCons (eGf ct.okg "tool" (eMkK ct.NoTool (ff_NoTool_init ct) (aCons (eVar 0) aNil) gd_NoTool_tool)) (aCons (eGf ct.okg "place" (eMkK ct.Beyond (ff_Beyond_init ct) (aCons (eVar 0) aNil) gd_Beyond_place)) aNil))))) (gN 4)) (sSeq (sAs (eOp gAdd (eVar 4) (eLst (aCons (eGf ct.okg "place" (eMkK ct.Blocked (ff_Blocked_init ct) (aCons (eVar 0) aNil) gd_Blocked_place)) (aCons (eGf ct.okg "place" (eMkK ct.TooDeep (ff_TooDeep_init ct) (aCons (eVar 0) aNil) gd_TooDeep_place)) aNil)))) (gN 4)) (sRet (eAn (eOp (gEq PyData.eqv) (eVar 4) (eOp gAdd (eLst (aCons (eVar 0) (aCons (eC (.int 7)) aNil))) (eOp gMul (eLst (aCons (eVar 0) aNil)) (eC (.int 15))))) (eOp (gEq PyData.eqv) (eGf ct.okg "name" (eMkK ct.NoPoint (ff_NoPoint_init ct) (aCons (eVar 1) aNil) gd_NoPoint_name)) (eVar 1))))))))))))))
noncomputable def ff_law_left_out (ct : CT) : Fn := fnF 5 (gg_law_left_out ct)
def nn_law : List Str := ["script", "k", "cell", "state", "figure", "sign"]
noncomputable def gg_law (ct : CT) : SF := (sSeq (sFor (aEnum (aCons (eOp gAdd (eSl (eVar 0) pNone (pSome (eC (.int 12)))) (eLst (aCons (eB gSum (aCons (eVar 0) aNil)) aNil))) aNil)) (gTp (gsCons (gN 1) (gsCons (gN 2) gsNil))) (sSeq (sAs (eCall ff_law_draw (aCons (eVar 2) (aCons (eVar 1) aNil)) []) (gN 3)) (sSeq (sAs (eOp gIx (eLst (aCons (eOp (gInt fun i j => .int (i - j)) (eCall ff_law_digit (aCons (eVar 3) (aCons (eOp (gIntC PowOk fun i j => .int (i ^ j.toNat)) (eC (.int 10)) (eC (.int 9))) aNil)) []) (eC (.int 400))) (aCons (eOp (gIntC (fun _ j => j ≠ 0) fun i j => .int (i.fmod j)) (eVar 2) (eOp (gIntC PowOk fun i j => .int (i ^ j.toNat)) (eC (.int 10)) (eC (.int 60)))) aNil))) (eCall ff_law_digit (aCons (eVar 3) (aCons (eC (.int 2)) aNil)) [])) (gN 4)) (sSeq (sAs (eCall ff_law_word (aCons (eVar 3) aNil) []) (gN 5)) (sIf (tOrr (tNt (tV (eCall (ff_law_by_hand ct) (aCons (eVar 4) (aCons (eVar 5) aNil)) []))) (tNt (tV (eCall (ff_law_left_out ct) (aCons (eVar 4) (aCons (eVar 5) aNil)) [])))) (sRet (eC (.bl false))) sNil))))) (sRet (eC (.bl true))))
noncomputable def ff_law (ct : CT) : Fn := fnF 6 (gg_law ct)
end Law

namespace Law
open PySem L2 Pl
def topS (i : Nat) : Stmt := PySem.Challenge.pw_panelworks_k05_refusals_by_hand.main.body.getD i (.Pass ⟨0, 0, 0, 0⟩)
structure Txt (ct : CT) (K : PySem.W.Frag) (mg : Str → Option Value) : Prop where
  n_range : mg "range" = none
  n_isinstance : mg "isinstance" = none
  n_ValueError : mg "ValueError" = none
  n_LookupError : mg "LookupError" = none
  n_RuntimeError : mg "RuntimeError" = none
  n_enumerate : mg "enumerate" = none
  n_sum : mg "sum" = none
  c_BadSketch : mg "BadSketch" = some (.ref ct.BadSketch)
  c_BadRow : mg "BadRow" = some (.ref ct.BadRow)
  c_BadOutline : mg "BadOutline" = some (.ref ct.BadOutline)
  c_BadBlock : mg "BadBlock" = some (.ref ct.BadBlock)
  c_BadField : mg "BadField" = some (.ref ct.BadField)
  c_BadFeature : mg "BadFeature" = some (.ref ct.BadFeature)
  c_BadWay : mg "BadWay" = some (.ref ct.BadWay)
  c_BadTools : mg "BadTools" = some (.ref ct.BadTools)
  c_Clash : mg "Clash" = some (.ref ct.Clash)
  c_BadPaper : mg "BadPaper" = some (.ref ct.BadPaper)
  c_OutOfPlace : mg "OutOfPlace" = some (.ref ct.OutOfPlace)
  c_Twice : mg "Twice" = some (.ref ct.Twice)
  c_NoPoint : mg "NoPoint" = some (.ref ct.NoPoint)
  c_TooGreat : mg "TooGreat" = some (.ref ct.TooGreat)
  c_NoFeature : mg "NoFeature" = some (.ref ct.NoFeature)
  c_NoSaying : mg "NoSaying" = some (.ref ct.NoSaying)
  c_Nothing : mg "Nothing" = some (.ref ct.Nothing)
  c_NoTool : mg "NoTool" = some (.ref ct.NoTool)
  c_Lifted : mg "Lifted" = some (.ref ct.Lifted)
  c_NoToolThere : mg "NoToolThere" = some (.ref ct.NoToolThere)
  c_Beyond : mg "Beyond" = some (.ref ct.Beyond)
  c_Lowered : mg "Lowered" = some (.ref ct.Lowered)
  c_TooDeep : mg "TooDeep" = some (.ref ct.TooDeep)
  c_Blocked : mg "Blocked" = some (.ref ct.Blocked)
  c_WorksError : mg "WorksError" = some (.ref ct.WorksError)
  c_MissError : mg "MissError" = some (.ref ct.MissError)
  c_FaultError : mg "FaultError" = some (.ref ct.FaultError)
  t_NoToolThere : LkT K mg "NoToolThere" ct.NoToolThere
  t_Nothing : LkT K mg "Nothing" ct.Nothing
  t_TooGreat : LkT K mg "TooGreat" ct.TooGreat
  t_OutOfPlace : LkT K mg "OutOfPlace" ct.OutOfPlace
  t_Twice : LkT K mg "Twice" ct.Twice
  t_Lowered : LkT K mg "Lowered" ct.Lowered
  t_Lifted : LkT K mg "Lifted" ct.Lifted
  okf : ∀ C f, ct.okf C f = true → OkF K C f
  okg : ∀ C f, ct.okg C f = true → XfC K C ∧ PySem.W.findIn K (.ref C) f = some none
  isa : ∀ C v b, ct.isa C v = some b → ExcC K C ∧ PySem.W.kitOne K (.ref C) v = some b
section
variable {P : Program} {w : World} {K : PySem.W.Frag} {mg : Str → Option Value} {base : Heap} {ct : CT}
abbrev ss_law_mixed : Stmt := topS 29
theorem sc_law_mixed : FnScope nn_law_mixed ["cell", "k"] (defScope ss_law_mixed) := ⟨rfl, rfl, rfl, by decide +kernel, rfl, by decide +kernel, by decide +kernel⟩
abbrev FF_law_mixed (K : PySem.W.Frag) (f : Addr) (fd : FuncData) : Prop := FunD K "_law_mixed" "_law_mixed" (defArgs ss_law_mixed) (defBody ss_law_mixed) (defScope ss_law_mixed) [] [] f fd
theorem ok_law_mixed (T : Txt ct K mg) {f : Addr} {fd : FuncData} (F : FF_law_mixed K f fd) : DFn P w K mg base 1 f fd ["cell", "k"] ff_law_mixed :=
  DFn.of F sc_law_mixed fun c => (DB.cons (DS.set 2 (DE.op (opAdd4 c) (DE.op (opAdd4 c) (DE.op opMod (DE.var 0) (DE.ix c (DE.lst (DA.cons DE.int (DA.cons DE.int (DA.cons DE.int (DA.cons DE.int DA.nil))))) (DE.op opMod (DE.var 1) DE.int))) (DE.op opMul2 DE.int (DE.var 1))) DE.int) (fun _ => sc_law_mixed.nd))
  (DB.one (DS.ret (DE.op opMod (DE.op opMul2 (DE.op opMod (DE.op opMul2 (DE.var 2) (DE.var 2)) DE.int) DE.int) DE.int))))
abbrev ss_law_draw : Stmt := topS 30
theorem sc_law_draw : FnScope nn_law_draw ["cell", "k"] (defScope ss_law_draw) := ⟨rfl, rfl, rfl, by decide +kernel, rfl, by decide +kernel, by decide +kernel⟩
abbrev FF_law_draw (K : PySem.W.Frag) (f : Addr) (fd : FuncData) : Prop := FunD K "_law_draw" "_law_draw" (defArgs ss_law_draw) (defBody ss_law_draw) (defScope ss_law_draw) [] [] f fd
theorem ok_law_draw (T : Txt ct K mg) {f : Addr} {fd : FuncData} (F : FF_law_draw K f fd) : DFn P w K mg base 1 f fd ["cell", "k"] ff_law_draw :=
  DFn.of F sc_law_draw fun c => (DB.one (DS.ret (DE.dic (DPs.cons DE.str (DE.ite (DC.test (DC.op opGe (DE.var 0) (DE.op opPow DE.int DE.int))) (DE.var 0) DE.int) (DPs.cons DE.str (DE.var 0) (DPs.cons DE.str (DE.op opMul2 DE.int (DE.var 1)) DPs.nil))))))
abbrev ss_law_digit : Stmt := topS 31
theorem sc_law_digit : FnScope nn_law_digit ["state", "many"] (defScope ss_law_digit) := ⟨rfl, rfl, rfl, by decide +kernel, rfl, by decide +kernel, by decide +kernel⟩
abbrev FF_law_digit (K : PySem.W.Frag) (f : Addr) (fd : FuncData) : Prop := FunD K "_law_digit" "_law_digit" (defArgs ss_law_digit) (defBody ss_law_digit) (defScope ss_law_digit) [] [] f fd
theorem ok_law_digit (T : Txt ct K mg) (L_law_mixed : Lk P w K mg base "_law_mixed" 1 ["cell", "k"] ff_law_mixed) {f : Addr} {fd : FuncData} (F : FF_law_digit K f fd) : DFn P w K mg base 2 f fd ["state", "many"] ff_law_digit :=
  DFn.of F sc_law_digit fun c => (DB.cons (DS.ite (DC.test (DC.op (opEq c) (DE.dgt c (DE.var 0) DE.str) DE.int))
  (DB.one (DS.for c (by first | exact fun _ => PassesOwn.never | exact fun _ => PassesOwn.leaving) (DI.rng1 c T.n_range (DA.cons DE.int DA.nil)) (DG.name 2 fun _ => sc_law_digit.nd)
  (DB.cons (DS.dput c (DE.var 0) DE.str (DE.op (opAdd4 c) (DE.dgt c (DE.var 0) DE.str) DE.int))
  (DB.one (DS.dput c (DE.var 0) DE.str (DE.op (opAdd4 c) (DE.op opMul2 (DE.dgt c (DE.var 0) DE.str) DE.int) (DE.cl c L_law_mixed (by decide) rfl (DA.cons (DE.dgt c (DE.var 0) DE.str) (DA.cons (DE.dgt c (DE.var 0) DE.str) DA.nil)) (aLen_cons (aLen_cons aLen_nil))))))))) DB.nil)
  (DB.cons (DS.set 3 (DE.op opMod (DE.dgt c (DE.var 0) DE.str) (DE.var 1)) (fun _ => sc_law_digit.nd))
  (DB.cons (DS.dput c (DE.var 0) DE.str (DE.op opDiv (DE.dgt c (DE.var 0) DE.str) (DE.var 1)))
  (DB.one (DS.ret (DE.var 3))))))
abbrev ss_law_word : Stmt := topS 32
theorem sc_law_word : FnScope nn_law_word ["state"] (defScope ss_law_word) := ⟨rfl, rfl, rfl, by decide +kernel, rfl, by decide +kernel, by decide +kernel⟩
abbrev FF_law_word (K : PySem.W.Frag) (f : Addr) (fd : FuncData) : Prop := FunD K "_law_word" "_law_word" (defArgs ss_law_word) (defBody ss_law_word) (defScope ss_law_word) [] [] f fd
theorem ok_law_word (T : Txt ct K mg) (L_law_digit : Lk P w K mg base "_law_digit" 2 ["state", "many"] ff_law_digit) {f : Addr} {fd : FuncData} (F : FF_law_word K f fd) : DFn P w K mg base 3 f fd ["state"] ff_law_word :=
  DFn.of F sc_law_word fun c => (DB.cons (DS.setLc 1 c (own := [("j", 2)]) (fun _ => sc_law_word.nd) (DI.rng1 c T.n_range (DA.cons (DE.op (opAdd4 c) DE.int (DE.cl c L_law_digit (by decide) rfl (DA.cons (DE.var 0) (DA.cons DE.int DA.nil)) (aLen_cons (aLen_cons aLen_nil)))) DA.nil)) (fun _ => blkOk_by (N := nn_law_word) (by rfl)) (DG.name 2 fun _ => sc_law_word.nd) (by decide) DTs.nil (DE.ix (c.blk _) DE.str (DE.cl (c.blk _) L_law_digit (by decide) rfl (DA.cons (DE.var 0) (DA.cons DE.int DA.nil)) (aLen_cons (aLen_cons aLen_nil)))))
  (DB.cons (DS.set 3 (DE.lst (DA.cons (DE.smeth (sJoin c) PySem.F.slot_str_join PySem.F.type_str_join DE.str (DE.var 1)) (DA.cons (DE.smeth (sJoin c) PySem.F.slot_str_join PySem.F.type_str_join DE.str (DE.sl c (DE.var 1) DP.none (DP.some DE.int))) (DA.cons DE.str (DA.cons DE.str (DA.cons DE.str (DA.cons DE.str (DA.cons DE.str (DA.cons DE.str (DA.cons DE.str (DA.cons DE.str (DA.cons DE.str (DA.cons DE.str (DA.cons DE.str DA.nil)))))))))))))) (fun _ => sc_law_word.nd))
  (DB.one (DS.ret (DE.ix c (DE.var 3) (DE.cl c L_law_digit (by decide) rfl (DA.cons (DE.var 0) (DA.cons DE.int DA.nil)) (aLen_cons (aLen_cons aLen_nil))))))))
abbrev ss_law_kinds : Stmt := topS 34
theorem sc_law_kinds : FnScope nn_law_kinds ["error"] (defScope ss_law_kinds) := ⟨rfl, rfl, rfl, by decide +kernel, rfl, by decide +kernel, by decide +kernel⟩
abbrev FF_law_kinds (K : PySem.W.Frag) (f : Addr) (fd : FuncData) : Prop := FunD K "_law_kinds" "_law_kinds" (defArgs ss_law_kinds) (defBody ss_law_kinds) (defScope ss_law_kinds) [] [] f fd
theorem ok_law_kinds (T : Txt ct K mg) {f : Addr} {fd : FuncData} (F : FF_law_kinds K f fd) : DFn P w K mg base 1 f fd ["error"] (ff_law_kinds ct) :=
  DFn.of F sc_law_kinds fun c => (DB.cons (DS.set 1 (DE.lst (DA.cons (DE.tup (DA.cons DE.str (DA.cons (DE.callB c (cIsiA c T.isa) T.n_isinstance (by decide +kernel) (DA.cons (DE.var 0) (DA.cons (DE.gv c (GV.cls T.c_BadRow)) DA.nil))) DA.nil))) (DA.cons (DE.tup (DA.cons DE.str (DA.cons (DE.callB c (cIsiA c T.isa) T.n_isinstance (by decide +kernel) (DA.cons (DE.var 0) (DA.cons (DE.gv c (GV.cls T.c_BadSketch)) DA.nil))) DA.nil))) DA.nil))) (fun _ => sc_law_kinds.nd))
  (DB.cons (DS.set 1 (DE.op (opAdd4 c) (DE.var 1) (DE.lst (DA.cons (DE.tup (DA.cons DE.str (DA.cons (DE.callB c (cIsiA c T.isa) T.n_isinstance (by decide +kernel) (DA.cons (DE.var 0) (DA.cons (DE.gv c (GV.cls T.c_BadBlock)) DA.nil))) DA.nil))) (DA.cons (DE.tup (DA.cons DE.str (DA.cons (DE.callB c (cIsiA c T.isa) T.n_isinstance (by decide +kernel) (DA.cons (DE.var 0) (DA.cons (DE.gv c (GV.cls T.c_BadOutline)) DA.nil))) DA.nil))) DA.nil)))) (fun _ => sc_law_kinds.nd))
  (DB.cons (DS.set 1 (DE.op (opAdd4 c) (DE.var 1) (DE.lst (DA.cons (DE.tup (DA.cons DE.str (DA.cons (DE.callB c (cIsiA c T.isa) T.n_isinstance (by decide +kernel) (DA.cons (DE.var 0) (DA.cons (DE.gv c (GV.cls T.c_BadFeature)) DA.nil))) DA.nil))) (DA.cons (DE.tup (DA.cons DE.str (DA.cons (DE.callB c (cIsiA c T.isa) T.n_isinstance (by decide +kernel) (DA.cons (DE.var 0) (DA.cons (DE.gv c (GV.cls T.c_BadField)) DA.nil))) DA.nil))) DA.nil)))) (fun _ => sc_law_kinds.nd))
  (DB.cons (DS.set 1 (DE.op (opAdd4 c) (DE.var 1) (DE.lst (DA.cons (DE.tup (DA.cons DE.str (DA.cons (DE.callB c (cIsiA c T.isa) T.n_isinstance (by decide +kernel) (DA.cons (DE.var 0) (DA.cons (DE.gv c (GV.cls T.c_BadTools)) DA.nil))) DA.nil))) (DA.cons (DE.tup (DA.cons DE.str (DA.cons (DE.callB c (cIsiA c T.isa) T.n_isinstance (by decide +kernel) (DA.cons (DE.var 0) (DA.cons (DE.gv c (GV.cls T.c_BadWay)) DA.nil))) DA.nil))) DA.nil)))) (fun _ => sc_law_kinds.nd))
  (DB.cons (DS.set 1 (DE.op (opAdd4 c) (DE.var 1) (DE.lst (DA.cons (DE.tup (DA.cons DE.str (DA.cons (DE.callB c (cIsiA c T.isa) T.n_isinstance (by decide +kernel) (DA.cons (DE.var 0) (DA.cons (DE.gv c (GV.cls T.c_BadPaper)) DA.nil))) DA.nil))) (DA.cons (DE.tup (DA.cons DE.str (DA.cons (DE.callB c (cIsiA c T.isa) T.n_isinstance (by decide +kernel) (DA.cons (DE.var 0) (DA.cons (DE.gv c (GV.cls T.c_Clash)) DA.nil))) DA.nil))) DA.nil)))) (fun _ => sc_law_kinds.nd))
  (DB.cons (DS.set 1 (DE.op (opAdd4 c) (DE.var 1) (DE.lst (DA.cons (DE.tup (DA.cons DE.str (DA.cons (DE.callB c (cIsiA c T.isa) T.n_isinstance (by decide +kernel) (DA.cons (DE.var 0) (DA.cons (DE.gv c (GV.cls T.c_Twice)) DA.nil))) DA.nil))) (DA.cons (DE.tup (DA.cons DE.str (DA.cons (DE.callB c (cIsiA c T.isa) T.n_isinstance (by decide +kernel) (DA.cons (DE.var 0) (DA.cons (DE.gv c (GV.cls T.c_OutOfPlace)) DA.nil))) DA.nil))) DA.nil)))) (fun _ => sc_law_kinds.nd))
  (DB.cons (DS.set 1 (DE.op (opAdd4 c) (DE.var 1) (DE.lst (DA.cons (DE.tup (DA.cons DE.str (DA.cons (DE.callB c (cIsiA c T.isa) T.n_isinstance (by decide +kernel) (DA.cons (DE.var 0) (DA.cons (DE.gv c (GV.cls T.c_TooGreat)) DA.nil))) DA.nil))) (DA.cons (DE.tup (DA.cons DE.str (DA.cons (DE.callB c (cIsiA c T.isa) T.n_isinstance (by decide +kernel) (DA.cons (DE.var 0) (DA.cons (DE.gv c (GV.cls T.c_NoPoint)) DA.nil))) DA.nil))) DA.nil)))) (fun _ => sc_law_kinds.nd))
  (DB.cons (DS.set 1 (DE.op (opAdd4 c) (DE.var 1) (DE.lst (DA.cons (DE.tup (DA.cons DE.str (DA.cons (DE.callB c (cIsiA c T.isa) T.n_isinstance (by decide +kernel) (DA.cons (DE.var 0) (DA.cons (DE.gv c (GV.cls T.c_NoSaying)) DA.nil))) DA.nil))) (DA.cons (DE.tup (DA.cons DE.str (DA.cons (DE.callB c (cIsiA c T.isa) T.n_isinstance (by decide +kernel) (DA.cons (DE.var 0) (DA.cons (DE.gv c (GV.cls T.c_NoFeature)) DA.nil))) DA.nil))) DA.nil)))) (fun _ => sc_law_kinds.nd))
  (DB.cons (DS.set 1 (DE.op (opAdd4 c) (DE.var 1) (DE.lst (DA.cons (DE.tup (DA.cons DE.str (DA.cons (DE.callB c (cIsiA c T.isa) T.n_isinstance (by decide +kernel) (DA.cons (DE.var 0) (DA.cons (DE.gv c (GV.cls T.c_NoTool)) DA.nil))) DA.nil))) (DA.cons (DE.tup (DA.cons DE.str (DA.cons (DE.callB c (cIsiA c T.isa) T.n_isinstance (by decide +kernel) (DA.cons (DE.var 0) (DA.cons (DE.gv c (GV.cls T.c_Nothing)) DA.nil))) DA.nil))) DA.nil)))) (fun _ => sc_law_kinds.nd))
  (DB.cons (DS.set 1 (DE.op (opAdd4 c) (DE.var 1) (DE.lst (DA.cons (DE.tup (DA.cons DE.str (DA.cons (DE.callB c (cIsiA c T.isa) T.n_isinstance (by decide +kernel) (DA.cons (DE.var 0) (DA.cons (DE.gv c (GV.cls T.c_NoToolThere)) DA.nil))) DA.nil))) (DA.cons (DE.tup (DA.cons DE.str (DA.cons (DE.callB c (cIsiA c T.isa) T.n_isinstance (by decide +kernel) (DA.cons (DE.var 0) (DA.cons (DE.gv c (GV.cls T.c_Lifted)) DA.nil))) DA.nil))) DA.nil)))) (fun _ => sc_law_kinds.nd))
  (DB.cons (DS.set 1 (DE.op (opAdd4 c) (DE.var 1) (DE.lst (DA.cons (DE.tup (DA.cons DE.str (DA.cons (DE.callB c (cIsiA c T.isa) T.n_isinstance (by decide +kernel) (DA.cons (DE.var 0) (DA.cons (DE.gv c (GV.cls T.c_Lowered)) DA.nil))) DA.nil))) (DA.cons (DE.tup (DA.cons DE.str (DA.cons (DE.callB c (cIsiA c T.isa) T.n_isinstance (by decide +kernel) (DA.cons (DE.var 0) (DA.cons (DE.gv c (GV.cls T.c_Beyond)) DA.nil))) DA.nil))) DA.nil)))) (fun _ => sc_law_kinds.nd))
  (DB.cons (DS.set 1 (DE.op (opAdd4 c) (DE.var 1) (DE.lst (DA.cons (DE.tup (DA.cons DE.str (DA.cons (DE.callB c (cIsiA c T.isa) T.n_isinstance (by decide +kernel) (DA.cons (DE.var 0) (DA.cons (DE.gv c (GV.cls T.c_Blocked)) DA.nil))) DA.nil))) (DA.cons (DE.tup (DA.cons DE.str (DA.cons (DE.callB c (cIsiA c T.isa) T.n_isinstance (by decide +kernel) (DA.cons (DE.var 0) (DA.cons (DE.gv c (GV.cls T.c_TooDeep)) DA.nil))) DA.nil))) DA.nil)))) (fun _ => sc_law_kinds.nd))
  (DB.cons (DS.set 1 (DE.op (opAdd4 c) (DE.var 1) (DE.lst (DA.cons (DE.tup (DA.cons DE.str (DA.cons (DE.callB c (cIsiA c T.isa) T.n_isinstance (by decide +kernel) (DA.cons (DE.var 0) (DA.cons (DE.gv c (GV.cls T.c_WorksError)) DA.nil))) DA.nil))) (DA.cons (DE.tup (DA.cons DE.str (DA.cons (DE.callB c (cIsiA c T.isa) T.n_isinstance (by decide +kernel) (DA.cons (DE.var 0) (DA.cons (DE.bltn c T.n_ValueError (by decide +kernel) (v := .ty "ValueError") rfl fun _ _ => .ty _) DA.nil))) DA.nil))) DA.nil)))) (fun _ => sc_law_kinds.nd))
  (DB.cons (DS.set 1 (DE.op (opAdd4 c) (DE.var 1) (DE.lst (DA.cons (DE.tup (DA.cons DE.str (DA.cons (DE.callB c (cIsiA c T.isa) T.n_isinstance (by decide +kernel) (DA.cons (DE.var 0) (DA.cons (DE.gv c (GV.cls T.c_MissError)) DA.nil))) DA.nil))) (DA.cons (DE.tup (DA.cons DE.str (DA.cons (DE.callB c (cIsiA c T.isa) T.n_isinstance (by decide +kernel) (DA.cons (DE.var 0) (DA.cons (DE.bltn c T.n_LookupError (by decide +kernel) (v := .ty "LookupError") rfl fun _ _ => .ty _) DA.nil))) DA.nil))) DA.nil)))) (fun _ => sc_law_kinds.nd))
  (DB.cons (DS.set 1 (DE.op (opAdd4 c) (DE.var 1) (DE.lst (DA.cons (DE.tup (DA.cons DE.str (DA.cons (DE.callB c (cIsiA c T.isa) T.n_isinstance (by decide +kernel) (DA.cons (DE.var 0) (DA.cons (DE.gv c (GV.cls T.c_FaultError)) DA.nil))) DA.nil))) (DA.cons (DE.tup (DA.cons DE.str (DA.cons (DE.callB c (cIsiA c T.isa) T.n_isinstance (by decide +kernel) (DA.cons (DE.var 0) (DA.cons (DE.bltn c T.n_RuntimeError (by decide +kernel) (v := .ty "RuntimeError") rfl fun _ _ => .ty _) DA.nil))) DA.nil))) DA.nil)))) (fun _ => sc_law_kinds.nd))
  (DB.one (DS.ret (DE.lc c (own := [("kind", 2), ("holds", 3)]) (fun _ => sc_law_kinds.nd) (DI.seq c (DE.var 1)) (fun _ => blkOk_by (N := nn_law_kinds) (by rfl)) (DG.tup (c.blk _) (DGs.cons (DG.name 2 fun _ => sc_law_kinds.nd) (DGs.cons (DG.name 3 fun _ => sc_law_kinds.nd) DGs.nil))) (by decide) (DTs.one (DE.test (DE.var 3))) (DE.var 2)))))))))))))))))))
abbrev ss_BadFeature_init : Stmt := memD (topS 6) 0
theorem sc_BadFeature_init : FnScope nn_BadFeature_init ["self", "number"] (defScope ss_BadFeature_init) := ⟨rfl, rfl, rfl, by decide +kernel, rfl, by decide +kernel, by decide +kernel⟩
abbrev FF_BadFeature_init (K : PySem.W.Frag) (f : Addr) (fd : FuncData) : Prop := FunD K "__init__" "BadFeature.__init__" (defArgs ss_BadFeature_init) (defBody ss_BadFeature_init) (defScope ss_BadFeature_init) [.non] [] f fd
theorem ok_BadFeature_init (T : Txt ct K mg) {f : Addr} {fd : FuncData} (F : FF_BadFeature_init K f fd) : DFn P w K mg base 1 f fd ["self", "number"] (ff_BadFeature_init ct) :=
  DFn.of F sc_BadFeature_init fun c => (DB.one (DS.og T.okf c (DE.var 0) (DE.var 1)))
abbrev ss_BadOutline_init : Stmt := memD (topS 5) 0
theorem sc_BadOutline_init : FnScope nn_BadOutline_init ["self", "number"] (defScope ss_BadOutline_init) := ⟨rfl, rfl, rfl, by decide +kernel, rfl, by decide +kernel, by decide +kernel⟩
abbrev FF_BadOutline_init (K : PySem.W.Frag) (f : Addr) (fd : FuncData) : Prop := FunD K "__init__" "BadOutline.__init__" (defArgs ss_BadOutline_init) (defBody ss_BadOutline_init) (defScope ss_BadOutline_init) [.non] [] f fd
theorem ok_BadOutline_init (T : Txt ct K mg) {f : Addr} {fd : FuncData} (F : FF_BadOutline_init K f fd) : DFn P w K mg base 1 f fd ["self", "number"] (ff_BadOutline_init ct) :=
  DFn.of F sc_BadOutline_init fun c => (DB.one (DS.og T.okf c (DE.var 0) (DE.var 1)))
abbrev ss_BadBlock_init : Stmt := memD (topS 4) 0
theorem sc_BadBlock_init : FnScope nn_BadBlock_init ["self", "place"] (defScope ss_BadBlock_init) := ⟨rfl, rfl, rfl, by decide +kernel, rfl, by decide +kernel, by decide +kernel⟩
abbrev FF_BadBlock_init (K : PySem.W.Frag) (f : Addr) (fd : FuncData) : Prop := FunD K "__init__" "BadBlock.__init__" (defArgs ss_BadBlock_init) (defBody ss_BadBlock_init) (defScope ss_BadBlock_init) [.non] [] f fd
theorem ok_BadBlock_init (T : Txt ct K mg) {f : Addr} {fd : FuncData} (F : FF_BadBlock_init K f fd) : DFn P w K mg base 1 f fd ["self", "place"] (ff_BadBlock_init ct) :=
  DFn.of F sc_BadBlock_init fun c => (DB.one (DS.og T.okf c (DE.var 0) (DE.var 1)))
abbrev ss_BadSketch_init : Stmt := memD (topS 3) 0
theorem sc_BadSketch_init : FnScope nn_BadSketch_init ["self", "part", "number"] (defScope ss_BadSketch_init) := ⟨rfl, rfl, rfl, by decide +kernel, rfl, by decide +kernel, by decide +kernel⟩
abbrev FF_BadSketch_init (K : PySem.W.Frag) (f : Addr) (fd : FuncData) : Prop := FunD K "__init__" "BadSketch.__init__" (defArgs ss_BadSketch_init) (defBody ss_BadSketch_init) (defScope ss_BadSketch_init) [.non, .non] [] f fd
theorem ok_BadSketch_init (T : Txt ct K mg) {f : Addr} {fd : FuncData} (F : FF_BadSketch_init K f fd) : DFn P w K mg base 1 f fd ["self", "part", "number"] (ff_BadSketch_init ct) :=
  DFn.of F sc_BadSketch_init fun c => (DB.cons (DS.og T.okf c (DE.var 0) (DE.var 1))
  (DB.one (DS.og T.okf c (DE.var 0) (DE.var 2))))
abbrev ss_BadRow_init : Stmt := memD (topS 2) 0
theorem sc_BadRow_init : FnScope nn_BadRow_init ["self", "row", "word"] (defScope ss_BadRow_init) := ⟨rfl, rfl, rfl, by decide +kernel, rfl, by decide +kernel, by decide +kernel⟩
abbrev FF_BadRow_init (K : PySem.W.Frag) (f : Addr) (fd : FuncData) : Prop := FunD K "__init__" "BadRow.__init__" (defArgs ss_BadRow_init) (defBody ss_BadRow_init) (defScope ss_BadRow_init) [] [] f fd
theorem ok_BadRow_init (T : Txt ct K mg) {f : Addr} {fd : FuncData} (F : FF_BadRow_init K f fd) : DFn P w K mg base 1 f fd ["self", "row", "word"] (ff_BadRow_init ct) :=
  DFn.of F sc_BadRow_init fun c => (DB.cons (DS.og T.okf c (DE.var 0) (DE.var 1))
  (DB.one (DS.og T.okf c (DE.var 0) (DE.var 2))))
abbrev ss_Clash_init : Stmt := memD (topS 11) 0
theorem sc_Clash_init : FnScope nn_Clash_init ["self", "number"] (defScope ss_Clash_init) := ⟨rfl, rfl, rfl, by decide +kernel, rfl, by decide +kernel, by decide +kernel⟩
abbrev FF_Clash_init (K : PySem.W.Frag) (f : Addr) (fd : FuncData) : Prop := FunD K "__init__" "Clash.__init__" (defArgs ss_Clash_init) (defBody ss_Clash_init) (defScope ss_Clash_init) [] [] f fd
theorem ok_Clash_init (T : Txt ct K mg) {f : Addr} {fd : FuncData} (F : FF_Clash_init K f fd) : DFn P w K mg base 1 f fd ["self", "number"] (ff_Clash_init ct) :=
  DFn.of F sc_Clash_init fun c => (DB.one (DS.og T.okf c (DE.var 0) (DE.var 1)))
abbrev ss_BadPaper_init : Stmt := memD (topS 10) 0
theorem sc_BadPaper_init : FnScope nn_BadPaper_init ["self", "place"] (defScope ss_BadPaper_init) := ⟨rfl, rfl, rfl, by decide +kernel, rfl, by decide +kernel, by decide +kernel⟩
abbrev FF_BadPaper_init (K : PySem.W.Frag) (f : Addr) (fd : FuncData) : Prop := FunD K "__init__" "BadPaper.__init__" (defArgs ss_BadPaper_init) (defBody ss_BadPaper_init) (defScope ss_BadPaper_init) [.non] [] f fd
theorem ok_BadPaper_init (T : Txt ct K mg) {f : Addr} {fd : FuncData} (F : FF_BadPaper_init K f fd) : DFn P w K mg base 1 f fd ["self", "place"] (ff_BadPaper_init ct) :=
  DFn.of F sc_BadPaper_init fun c => (DB.one (DS.og T.okf c (DE.var 0) (DE.var 1)))
abbrev ss_BadWay_init : Stmt := memD (topS 9) 0
theorem sc_BadWay_init : FnScope nn_BadWay_init ["self", "number"] (defScope ss_BadWay_init) := ⟨rfl, rfl, rfl, by decide +kernel, rfl, by decide +kernel, by decide +kernel⟩
abbrev FF_BadWay_init (K : PySem.W.Frag) (f : Addr) (fd : FuncData) : Prop := FunD K "__init__" "BadWay.__init__" (defArgs ss_BadWay_init) (defBody ss_BadWay_init) (defScope ss_BadWay_init) [.non] [] f fd
theorem ok_BadWay_init (T : Txt ct K mg) {f : Addr} {fd : FuncData} (F : FF_BadWay_init K f fd) : DFn P w K mg base 1 f fd ["self", "number"] (ff_BadWay_init ct) :=
  DFn.of F sc_BadWay_init fun c => (DB.one (DS.og T.okf c (DE.var 0) (DE.var 1)))
abbrev ss_BadTools_init : Stmt := memD (topS 8) 0
theorem sc_BadTools_init : FnScope nn_BadTools_init ["self", "number"] (defScope ss_BadTools_init) := ⟨rfl, rfl, rfl, by decide +kernel, rfl, by decide +kernel, by decide +kernel⟩
abbrev FF_BadTools_init (K : PySem.W.Frag) (f : Addr) (fd : FuncData) : Prop := FunD K "__init__" "BadTools.__init__" (defArgs ss_BadTools_init) (defBody ss_BadTools_init) (defScope ss_BadTools_init) [.non] [] f fd
theorem ok_BadTools_init (T : Txt ct K mg) {f : Addr} {fd : FuncData} (F : FF_BadTools_init K f fd) : DFn P w K mg base 1 f fd ["self", "number"] (ff_BadTools_init ct) :=
  DFn.of F sc_BadTools_init fun c => (DB.one (DS.og T.okf c (DE.var 0) (DE.var 1)))
abbrev ss_BadField_init : Stmt := memD (topS 7) 0
theorem sc_BadField_init : FnScope nn_BadField_init ["self", "place"] (defScope ss_BadField_init) := ⟨rfl, rfl, rfl, by decide +kernel, rfl, by decide +kernel, by decide +kernel⟩
abbrev FF_BadField_init (K : PySem.W.Frag) (f : Addr) (fd : FuncData) : Prop := FunD K "__init__" "BadField.__init__" (defArgs ss_BadField_init) (defBody ss_BadField_init) (defScope ss_BadField_init) [.non] [] f fd
theorem ok_BadField_init (T : Txt ct K mg) {f : Addr} {fd : FuncData} (F : FF_BadField_init K f fd) : DFn P w K mg base 1 f fd ["self", "place"] (ff_BadField_init ct) :=
  DFn.of F sc_BadField_init fun c => (DB.one (DS.og T.okf c (DE.var 0) (DE.var 1)))
abbrev ss_Beyond_init : Stmt := memD (topS 25) 0
theorem sc_Beyond_init : FnScope nn_Beyond_init ["self", "place"] (defScope ss_Beyond_init) := ⟨rfl, rfl, rfl, by decide +kernel, rfl, by decide +kernel, by decide +kernel⟩
abbrev FF_Beyond_init (K : PySem.W.Frag) (f : Addr) (fd : FuncData) : Prop := FunD K "__init__" "Beyond.__init__" (defArgs ss_Beyond_init) (defBody ss_Beyond_init) (defScope ss_Beyond_init) [] [] f fd
theorem ok_Beyond_init (T : Txt ct K mg) {f : Addr} {fd : FuncData} (F : FF_Beyond_init K f fd) : DFn P w K mg base 1 f fd ["self", "place"] (ff_Beyond_init ct) :=
  DFn.of F sc_Beyond_init fun c => (DB.one (DS.og T.okf c (DE.var 0) (DE.var 1)))
abbrev ss_NoTool_init : Stmt := memD (topS 19) 0
theorem sc_NoTool_init : FnScope nn_NoTool_init ["self", "tool"] (defScope ss_NoTool_init) := ⟨rfl, rfl, rfl, by decide +kernel, rfl, by decide +kernel, by decide +kernel⟩
abbrev FF_NoTool_init (K : PySem.W.Frag) (f : Addr) (fd : FuncData) : Prop := FunD K "__init__" "NoTool.__init__" (defArgs ss_NoTool_init) (defBody ss_NoTool_init) (defScope ss_NoTool_init) [] [] f fd
theorem ok_NoTool_init (T : Txt ct K mg) {f : Addr} {fd : FuncData} (F : FF_NoTool_init K f fd) : DFn P w K mg base 1 f fd ["self", "tool"] (ff_NoTool_init ct) :=
  DFn.of F sc_NoTool_init fun c => (DB.one (DS.og T.okf c (DE.var 0) (DE.var 1)))
abbrev ss_NoFeature_init : Stmt := memD (topS 18) 0
theorem sc_NoFeature_init : FnScope nn_NoFeature_init ["self", "number"] (defScope ss_NoFeature_init) := ⟨rfl, rfl, rfl, by decide +kernel, rfl, by decide +kernel, by decide +kernel⟩
abbrev FF_NoFeature_init (K : PySem.W.Frag) (f : Addr) (fd : FuncData) : Prop := FunD K "__init__" "NoFeature.__init__" (defArgs ss_NoFeature_init) (defBody ss_NoFeature_init) (defScope ss_NoFeature_init) [] [] f fd
theorem ok_NoFeature_init (T : Txt ct K mg) {f : Addr} {fd : FuncData} (F : FF_NoFeature_init K f fd) : DFn P w K mg base 1 f fd ["self", "number"] (ff_NoFeature_init ct) :=
  DFn.of F sc_NoFeature_init fun c => (DB.one (DS.og T.okf c (DE.var 0) (DE.var 1)))
abbrev ss_NoSaying_init : Stmt := memD (topS 17) 0
theorem sc_NoSaying_init : FnScope nn_NoSaying_init ["self", "number"] (defScope ss_NoSaying_init) := ⟨rfl, rfl, rfl, by decide +kernel, rfl, by decide +kernel, by decide +kernel⟩
abbrev FF_NoSaying_init (K : PySem.W.Frag) (f : Addr) (fd : FuncData) : Prop := FunD K "__init__" "NoSaying.__init__" (defArgs ss_NoSaying_init) (defBody ss_NoSaying_init) (defScope ss_NoSaying_init) [] [] f fd
theorem ok_NoSaying_init (T : Txt ct K mg) {f : Addr} {fd : FuncData} (F : FF_NoSaying_init K f fd) : DFn P w K mg base 1 f fd ["self", "number"] (ff_NoSaying_init ct) :=
  DFn.of F sc_NoSaying_init fun c => (DB.one (DS.og T.okf c (DE.var 0) (DE.var 1)))
abbrev ss_NoPoint_init : Stmt := memD (topS 16) 0
theorem sc_NoPoint_init : FnScope nn_NoPoint_init ["self", "name"] (defScope ss_NoPoint_init) := ⟨rfl, rfl, rfl, by decide +kernel, rfl, by decide +kernel, by decide +kernel⟩
abbrev FF_NoPoint_init (K : PySem.W.Frag) (f : Addr) (fd : FuncData) : Prop := FunD K "__init__" "NoPoint.__init__" (defArgs ss_NoPoint_init) (defBody ss_NoPoint_init) (defScope ss_NoPoint_init) [] [] f fd
theorem ok_NoPoint_init (T : Txt ct K mg) {f : Addr} {fd : FuncData} (F : FF_NoPoint_init K f fd) : DFn P w K mg base 1 f fd ["self", "name"] (ff_NoPoint_init ct) :=
  DFn.of F sc_NoPoint_init fun c => (DB.one (DS.og T.okf c (DE.var 0) (DE.var 1)))
abbrev ss_TooDeep_init : Stmt := memD (topS 27) 0
theorem sc_TooDeep_init : FnScope nn_TooDeep_init ["self", "place"] (defScope ss_TooDeep_init) := ⟨rfl, rfl, rfl, by decide +kernel, rfl, by decide +kernel, by decide +kernel⟩
abbrev FF_TooDeep_init (K : PySem.W.Frag) (f : Addr) (fd : FuncData) : Prop := FunD K "__init__" "TooDeep.__init__" (defArgs ss_TooDeep_init) (defBody ss_TooDeep_init) (defScope ss_TooDeep_init) [] [] f fd
theorem ok_TooDeep_init (T : Txt ct K mg) {f : Addr} {fd : FuncData} (F : FF_TooDeep_init K f fd) : DFn P w K mg base 1 f fd ["self", "place"] (ff_TooDeep_init ct) :=
  DFn.of F sc_TooDeep_init fun c => (DB.one (DS.og T.okf c (DE.var 0) (DE.var 1)))
abbrev ss_Blocked_init : Stmt := memD (topS 26) 0
theorem sc_Blocked_init : FnScope nn_Blocked_init ["self", "place"] (defScope ss_Blocked_init) := ⟨rfl, rfl, rfl, by decide +kernel, rfl, by decide +kernel, by decide +kernel⟩
abbrev FF_Blocked_init (K : PySem.W.Frag) (f : Addr) (fd : FuncData) : Prop := FunD K "__init__" "Blocked.__init__" (defArgs ss_Blocked_init) (defBody ss_Blocked_init) (defScope ss_Blocked_init) [] [] f fd
theorem ok_Blocked_init (T : Txt ct K mg) {f : Addr} {fd : FuncData} (F : FF_Blocked_init K f fd) : DFn P w K mg base 1 f fd ["self", "place"] (ff_Blocked_init ct) :=
  DFn.of F sc_Blocked_init fun c => (DB.one (DS.og T.okf c (DE.var 0) (DE.var 1)))
abbrev ss_law_by_hand : Stmt := topS 35
theorem sc_law_by_hand : FnScope nn_law_by_hand ["figure", "sign"] (defScope ss_law_by_hand) := ⟨rfl, rfl, rfl, by decide +kernel, rfl, by decide +kernel, by decide +kernel⟩
abbrev FF_law_by_hand (K : PySem.W.Frag) (f : Addr) (fd : FuncData) : Prop := FunD K "_law_by_hand" "_law_by_hand" (defArgs ss_law_by_hand) (defBody ss_law_by_hand) (defScope ss_law_by_hand) [] [] f fd
theorem ok_law_by_hand (T : Txt ct K mg) (L_law_kinds : Lk P w K mg base "_law_kinds" 1 ["error"] (ff_law_kinds ct)) (G_BadFeature_1 : LkG P w K mg base "BadFeature" 1 ["self", "number"] (ff_BadFeature_init ct) ct.BadFeature []) (G_BadOutline_1 : LkG P w K mg base "BadOutline" 1 ["self", "number"] (ff_BadOutline_init ct) ct.BadOutline []) (G_BadBlock_1 : LkG P w K mg base "BadBlock" 1 ["self", "place"] (ff_BadBlock_init ct) ct.BadBlock []) (G_BadSketch_2 : LkG P w K mg base "BadSketch" 1 ["self", "part", "number"] (ff_BadSketch_init ct) ct.BadSketch []) (G_BadRow_2 : LkG P w K mg base "BadRow" 1 ["self", "row", "word"] (ff_BadRow_init ct) ct.BadRow []) (G_Clash_1 : LkG P w K mg base "Clash" 1 ["self", "number"] (ff_Clash_init ct) ct.Clash []) (G_BadPaper_1 : LkG P w K mg base "BadPaper" 1 ["self", "place"] (ff_BadPaper_init ct) ct.BadPaper []) (G_BadWay_1 : LkG P w K mg base "BadWay" 1 ["self", "number"] (ff_BadWay_init ct) ct.BadWay []) (G_BadTools_1 : LkG P w K mg base "BadTools" 1 ["self", "number"] (ff_BadTools_init ct) ct.BadTools []) (G_BadField_1 : LkG P w K mg base "BadField" 1 ["self", "place"] (ff_BadField_init ct) ct.BadField []) (G_Beyond_1 : LkG P w K mg base "Beyond" 1 ["self", "place"] (ff_Beyond_init ct) ct.Beyond []) (G_NoTool_1 : LkG P w K mg base "NoTool" 1 ["self", "tool"] (ff_NoTool_init ct) ct.NoTool []) (G_NoFeature_1 : LkG P w K mg base "NoFeature" 1 ["self", "number"] (ff_NoFeature_init ct) ct.NoFeature []) (G_NoSaying_1 : LkG P w K mg base "NoSaying" 1 ["self", "number"] (ff_NoSaying_init ct) ct.NoSaying []) (G_NoPoint_1 : LkG P w K mg base "NoPoint" 1 ["self", "name"] (ff_NoPoint_init ct) ct.NoPoint []) (G_TooDeep_1 : LkG P w K mg base "TooDeep" 1 ["self", "place"] (ff_TooDeep_init ct) ct.TooDeep []) (G_Blocked_1 : LkG P w K mg base "Blocked" 1 ["self", "place"] (ff_Blocked_init ct) ct.Blocked []) {f : Addr} {fd : FuncData} (F : FF_law_by_hand K f fd) : DFn P w K mg base 3 f fd ["figure", "sign"] (ff_law_by_hand ct) :=
  DFn.of F sc_law_by_hand fun c => (DB.cons (DS.set 2 (DE.lst (DA.cons (DE.clG c G_BadRow_2 (by decide) rfl (by decide) (DA.cons (DE.var 0) (DA.cons DE.int DA.nil)) (aLen_cons (aLen_cons aLen_nil))) (DA.cons (DE.clG c G_BadSketch_2 (by decide) rfl (by decide) (DA.cons DE.str (DA.cons (DE.var 0) DA.nil)) (aLen_cons (aLen_cons aLen_nil))) (DA.cons (DE.clG c G_BadBlock_1 (by decide) rfl (by decide) (DA.cons (DE.var 0) DA.nil) (aLen_cons aLen_nil)) (DA.cons (DE.clG c G_BadOutline_1 (by decide) rfl (by decide) (DA.cons (DE.var 0) DA.nil) (aLen_cons aLen_nil)) (DA.cons (DE.clG c G_BadFeature_1 (by decide) rfl (by decide) (DA.cons (DE.var 0) DA.nil) (aLen_cons aLen_nil)) DA.nil)))))) (fun _ => sc_law_by_hand.nd))
  (DB.cons (DS.set 3 (DE.lst (DA.cons (DE.gf T.okg c (DE.ix c (DE.var 2) DE.int)) (DA.cons (DE.gf T.okg c (DE.ix c (DE.var 2) DE.int)) (DA.cons (DE.gf T.okg c (DE.ix c (DE.var 2) DE.int)) (DA.cons (DE.gf T.okg c (DE.ix c (DE.var 2) DE.int)) (DA.cons (DE.gf T.okg c (DE.ix c (DE.var 2) DE.int)) (DA.cons (DE.gf T.okg c (DE.ix c (DE.var 2) DE.int)) (DA.cons (DE.gf T.okg c (DE.ix c (DE.var 2) DE.int)) DA.nil)))))))) (fun _ => sc_law_by_hand.nd))
  (DB.cons (DS.ite (DC.test (DC.op (opNe c) (DE.var 3) (DE.lst (DA.cons (DE.var 0) (DA.cons DE.int (DA.cons DE.str (DA.cons (DE.var 0) (DA.cons (DE.var 0) (DA.cons (DE.var 0) (DA.cons (DE.var 0) DA.nil))))))))))
  (DB.one (DS.ret DE.bool)) DB.nil)
  (DB.cons (DS.set 4 (DE.lst (DA.cons (DE.clG c G_BadField_1 (by decide) rfl (by decide) (DA.cons (DE.tup (DA.cons (DE.var 1) (DA.cons (DE.var 0) DA.nil))) DA.nil) (aLen_cons aLen_nil)) (DA.cons (DE.clG c G_BadTools_1 (by decide) rfl (by decide) (DA.cons (DE.var 0) DA.nil) (aLen_cons aLen_nil)) (DA.cons (DE.clG c G_BadWay_1 (by decide) rfl (by decide) (DA.cons (DE.var 0) DA.nil) (aLen_cons aLen_nil)) (DA.cons (DE.clG c G_BadPaper_1 (by decide) rfl (by decide) (DA.cons (DE.tup (DA.cons (DE.var 1) (DA.cons (DE.var 0) DA.nil))) DA.nil) (aLen_cons aLen_nil)) (DA.cons (DE.clG c G_Clash_1 (by decide) rfl (by decide) (DA.cons (DE.var 0) DA.nil) (aLen_cons aLen_nil)) DA.nil)))))) (fun _ => sc_law_by_hand.nd))
  (DB.cons (DS.set 3 (DE.lst (DA.cons (DE.gf T.okg c (DE.ix c (DE.var 4) DE.int)) (DA.cons (DE.gf T.okg c (DE.ix c (DE.var 4) DE.int)) (DA.cons (DE.gf T.okg c (DE.ix c (DE.var 4) DE.int)) (DA.cons (DE.gf T.okg c (DE.ix c (DE.var 4) DE.int)) (DA.cons (DE.gf T.okg c (DE.ix c (DE.var 4) DE.int)) DA.nil)))))) (fun _ => sc_law_by_hand.nd))
  (DB.cons (DS.ite (DC.test (DC.op (opNe c) (DE.var 3) (DE.lst (DA.cons (DE.tup (DA.cons (DE.var 1) (DA.cons (DE.var 0) DA.nil))) (DA.cons (DE.var 0) (DA.cons (DE.var 0) (DA.cons (DE.tup (DA.cons (DE.var 1) (DA.cons (DE.var 0) DA.nil))) (DA.cons (DE.var 0) DA.nil))))))))
  (DB.one (DS.ret DE.bool)) DB.nil)
  (DB.cons (DS.set 5 (DE.lst (DA.cons (DE.clG c G_NoPoint_1 (by decide) rfl (by decide) (DA.cons (DE.var 1) DA.nil) (aLen_cons aLen_nil)) (DA.cons (DE.clG c G_NoSaying_1 (by decide) rfl (by decide) (DA.cons (DE.var 0) DA.nil) (aLen_cons aLen_nil)) (DA.cons (DE.clG c G_NoFeature_1 (by decide) rfl (by decide) (DA.cons (DE.var 0) DA.nil) (aLen_cons aLen_nil)) (DA.cons (DE.clG c G_NoTool_1 (by decide) rfl (by decide) (DA.cons (DE.tup (DA.cons (DE.var 0) (DA.cons DE.int DA.nil))) DA.nil) (aLen_cons aLen_nil)) (DA.cons (DE.clG c G_Beyond_1 (by decide) rfl (by decide) (DA.cons (DE.tup (DA.cons (DE.var 0) (DA.cons DE.int DA.nil))) DA.nil) (aLen_cons aLen_nil)) DA.nil)))))) (fun _ => sc_law_by_hand.nd))
  (DB.cons (DS.set 5 (DE.op (opAdd4 c) (DE.var 5) (DE.lst (DA.cons (DE.clG c G_Blocked_1 (by decide) rfl (by decide) (DA.cons (DE.tup (DA.cons DE.int (DA.cons (DE.var 0) DA.nil))) DA.nil) (aLen_cons aLen_nil)) (DA.cons (DE.clG c G_TooDeep_1 (by decide) rfl (by decide) (DA.cons (DE.var 0) DA.nil) (aLen_cons aLen_nil)) DA.nil)))) (fun _ => sc_law_by_hand.nd))
  (DB.cons (DS.set 3 (DE.lst (DA.cons (DE.gf T.okg c (DE.ix c (DE.var 5) DE.int)) (DA.cons (DE.gf T.okg c (DE.ix c (DE.var 5) DE.int)) (DA.cons (DE.gf T.okg c (DE.ix c (DE.var 5) DE.int)) (DA.cons (DE.gf T.okg c (DE.ix c (DE.var 5) DE.int)) (DA.cons (DE.gf T.okg c (DE.ix c (DE.var 5) DE.int)) (DA.cons (DE.gf T.okg c (DE.ix c (DE.var 5) DE.int)) (DA.cons (DE.gf T.okg c (DE.ix c (DE.var 5) DE.int)) DA.nil)))))))) (fun _ => sc_law_by_hand.nd))
  (DB.cons (DS.ite (DC.test (DC.op (opNe c) (DE.var 3) (DE.lst (DA.cons (DE.var 1) (DA.cons (DE.var 0) (DA.cons (DE.var 0) (DA.cons (DE.tup (DA.cons (DE.var 0) (DA.cons DE.int DA.nil))) (DA.cons (DE.tup (DA.cons (DE.var 0) (DA.cons DE.int DA.nil))) (DA.cons (DE.tup (DA.cons DE.int (DA.cons (DE.var 0) DA.nil))) (DA.cons (DE.var 0) DA.nil))))))))))
  (DB.one (DS.ret DE.bool)) DB.nil)
  (DB.cons (DS.set 2 (DE.op (opAdd4 c) (DE.op (opAdd4 c) (DE.op (opAdd4 c) (DE.var 2) (DE.var 4)) (DE.var 5)) (DE.lst (DA.cons (DE.clT c T.t_Twice DE.str) (DA.cons (DE.clT c T.t_OutOfPlace DE.str) (DA.cons (DE.clT c T.t_TooGreat DE.str) (DA.cons (DE.clT c T.t_Nothing DE.str) (DA.cons (DE.clT c T.t_NoToolThere DE.str) DA.nil))))))) (fun _ => sc_law_by_hand.nd))
  (DB.cons (DS.set 2 (DE.op (opAdd4 c) (DE.var 2) (DE.lst (DA.cons (DE.clT c T.t_Lifted DE.str) (DA.cons (DE.clT c T.t_Lowered DE.str) DA.nil)))) (fun _ => sc_law_by_hand.nd))
  (DB.cons (DS.set 6 (DE.lst (DA.cons DE.str (DA.cons DE.str (DA.cons DE.str (DA.cons DE.str (DA.cons DE.str (DA.cons DE.str (DA.cons DE.str (DA.cons DE.str (DA.cons DE.str (DA.cons DE.str DA.nil))))))))))) (fun _ => sc_law_by_hand.nd))
  (DB.cons (DS.setLc 7 c (own := [("kind", 8)]) (fun _ => sc_law_by_hand.nd) (DI.seq c (DE.var 6)) (fun _ => blkOk_by (N := nn_law_by_hand) (by rfl)) (DG.name 8 fun _ => sc_law_by_hand.nd) (by decide) DTs.nil (DE.lst (DA.cons (DE.var 8) (DA.cons DE.str (DA.cons DE.str DA.nil)))))
  (DB.cons (DS.set 7 (DE.op (opAdd4 c) (DE.var 7) (DE.lc c (own := [("kind", 8)]) (fun _ => sc_law_by_hand.nd) (DI.seq c (DE.lst (DA.cons DE.str (DA.cons DE.str (DA.cons DE.str (DA.cons DE.str DA.nil)))))) (fun _ => blkOk_by (N := nn_law_by_hand) (by rfl)) (DG.name 8 fun _ => sc_law_by_hand.nd) (by decide) DTs.nil (DE.lst (DA.cons (DE.var 8) (DA.cons DE.str (DA.cons DE.str DA.nil)))))) (fun _ => sc_law_by_hand.nd))
  (DB.cons (DS.set 7 (DE.op (opAdd4 c) (DE.var 7) (DE.lc c (own := [("kind", 8)]) (fun _ => sc_law_by_hand.nd) (DI.seq c (DE.lst (DA.cons DE.str (DA.cons DE.str (DA.cons DE.str DA.nil))))) (fun _ => blkOk_by (N := nn_law_by_hand) (by rfl)) (DG.name 8 fun _ => sc_law_by_hand.nd) (by decide) DTs.nil (DE.lst (DA.cons (DE.var 8) (DA.cons DE.str (DA.cons DE.str DA.nil)))))) (fun _ => sc_law_by_hand.nd))
  (DB.cons (DS.set 7 (DE.op (opAdd4 c) (DE.op (opAdd4 c) (DE.var 7) (DE.lc c (own := [("kind", 8)]) (fun _ => sc_law_by_hand.nd) (DI.seq c (DE.lst (DA.cons DE.str (DA.cons DE.str (DA.cons DE.str DA.nil))))) (fun _ => blkOk_by (N := nn_law_by_hand) (by rfl)) (DG.name 8 fun _ => sc_law_by_hand.nd) (by decide) DTs.nil (DE.lst (DA.cons (DE.var 8) (DA.cons DE.str (DA.cons DE.str DA.nil)))))) (DE.lst (DA.cons (DE.lst (DA.cons DE.str (DA.cons DE.str (DA.cons DE.str DA.nil)))) DA.nil))) (fun _ => sc_law_by_hand.nd))
  (DB.cons (DS.set 7 (DE.op (opAdd4 c) (DE.var 7) (DE.lc c (own := [("kind", 8)]) (fun _ => sc_law_by_hand.nd) (DI.seq c (DE.lst (DA.cons DE.str (DA.cons DE.str (DA.cons DE.str DA.nil))))) (fun _ => blkOk_by (N := nn_law_by_hand) (by rfl)) (DG.name 8 fun _ => sc_law_by_hand.nd) (by decide) DTs.nil (DE.lst (DA.cons (DE.var 8) (DA.cons DE.str (DA.cons DE.str DA.nil)))))) (fun _ => sc_law_by_hand.nd))
  (DB.one (DS.ret (DC.val (DC.op (opEq c) (DE.lc c (own := [("error", 9)]) (fun _ => sc_law_by_hand.nd) (DI.seq c (DE.var 2)) (fun _ => blkOk_by (N := nn_law_by_hand) (by rfl)) (DG.name 9 fun _ => sc_law_by_hand.nd) (by decide) DTs.nil (DE.cl (c.blk _) L_law_kinds (by decide) rfl (DA.cons (DE.var 9) DA.nil) (aLen_cons aLen_nil))) (DE.var 7)))))))))))))))))))))))
abbrev ss_law_left_out : Stmt := topS 36
theorem sc_law_left_out : FnScope nn_law_left_out ["figure", "sign"] (defScope ss_law_left_out) := ⟨rfl, rfl, rfl, by decide +kernel, rfl, by decide +kernel, by decide +kernel⟩
abbrev FF_law_left_out (K : PySem.W.Frag) (f : Addr) (fd : FuncData) : Prop := FunD K "_law_left_out" "_law_left_out" (defArgs ss_law_left_out) (defBody ss_law_left_out) (defScope ss_law_left_out) [] [] f fd
theorem ok_law_left_out (T : Txt ct K mg) (G_BadWay_0 : LkG P w K mg base "BadWay" 1 ["self", "number"] (ff_BadWay_init ct) ct.BadWay [.non]) (G_BadTools_0 : LkG P w K mg base "BadTools" 1 ["self", "number"] (ff_BadTools_init ct) ct.BadTools [.non]) (G_BadFeature_0 : LkG P w K mg base "BadFeature" 1 ["self", "number"] (ff_BadFeature_init ct) ct.BadFeature [.non]) (G_BadOutline_0 : LkG P w K mg base "BadOutline" 1 ["self", "number"] (ff_BadOutline_init ct) ct.BadOutline [.non]) (G_BadSketch_1 : LkG P w K mg base "BadSketch" 1 ["self", "part", "number"] (ff_BadSketch_init ct) ct.BadSketch [.non]) (G_BadSketch_0 : LkG P w K mg base "BadSketch" 1 ["self", "part", "number"] (ff_BadSketch_init ct) ct.BadSketch [.non, .non]) (G_BadPaper_0 : LkG P w K mg base "BadPaper" 1 ["self", "place"] (ff_BadPaper_init ct) ct.BadPaper [.non]) (G_BadField_0 : LkG P w K mg base "BadField" 1 ["self", "place"] (ff_BadField_init ct) ct.BadField [.non]) (G_BadBlock_0 : LkG P w K mg base "BadBlock" 1 ["self", "place"] (ff_BadBlock_init ct) ct.BadBlock [.non]) (GK_BadSketch_part : LkGK P w K mg base "BadSketch" 1 ["self", "part", "number"] (ff_BadSketch_init ct) ct.BadSketch ["part"] gd_BadSketch_part) (GK_BadSketch_number_part : LkGK P w K mg base "BadSketch" 1 ["self", "part", "number"] (ff_BadSketch_init ct) ct.BadSketch ["number", "part"] gd_BadSketch_number_part) (GK_BadRow_word_row : LkGK P w K mg base "BadRow" 1 ["self", "row", "word"] (ff_BadRow_init ct) ct.BadRow ["word", "row"] gd_BadRow_word_row) (GK_BadFeature_number : LkGK P w K mg base "BadFeature" 1 ["self", "number"] (ff_BadFeature_init ct) ct.BadFeature ["number"] gd_BadFeature_number) (GK_BadOutline_number : LkGK P w K mg base "BadOutline" 1 ["self", "number"] (ff_BadOutline_init ct) ct.BadOutline ["number"] gd_BadOutline_number) (GK_BadBlock_place : LkGK P w K mg base "BadBlock" 1 ["self", "place"] (ff_BadBlock_init ct) ct.BadBlock ["place"] gd_BadBlock_place) (GK_BadWay_number : LkGK P w K mg base "BadWay" 1 ["self", "number"] (ff_BadWay_init ct) ct.BadWay ["number"] gd_BadWay_number) (GK_BadTools_number : LkGK P w K mg base "BadTools" 1 ["self", "number"] (ff_BadTools_init ct) ct.BadTools ["number"] gd_BadTools_number) (GK_BadField_place : LkGK P w K mg base "BadField" 1 ["self", "place"] (ff_BadField_init ct) ct.BadField ["place"] gd_BadField_place) (GK_NoSaying_number : LkGK P w K mg base "NoSaying" 1 ["self", "number"] (ff_NoSaying_init ct) ct.NoSaying ["number"] gd_NoSaying_number) (GK_Clash_number : LkGK P w K mg base "Clash" 1 ["self", "number"] (ff_Clash_init ct) ct.Clash ["number"] gd_Clash_number) (GK_BadPaper_place : LkGK P w K mg base "BadPaper" 1 ["self", "place"] (ff_BadPaper_init ct) ct.BadPaper ["place"] gd_BadPaper_place) (GK_Beyond_place : LkGK P w K mg base "Beyond" 1 ["self", "place"] (ff_Beyond_init ct) ct.Beyond ["place"] gd_Beyond_place) (GK_NoTool_tool : LkGK P w K mg base "NoTool" 1 ["self", "tool"] (ff_NoTool_init ct) ct.NoTool ["tool"] gd_NoTool_tool) (GK_NoFeature_number : LkGK P w K mg base "NoFeature" 1 ["self", "number"] (ff_NoFeature_init ct) ct.NoFeature ["number"] gd_NoFeature_number) (GK_TooDeep_place : LkGK P w K mg base "TooDeep" 1 ["self", "place"] (ff_TooDeep_init ct) ct.TooDeep ["place"] gd_TooDeep_place) (GK_Blocked_place : LkGK P w K mg base "Blocked" 1 ["self", "place"] (ff_Blocked_init ct) ct.Blocked ["place"] gd_Blocked_place) (GK_NoPoint_name : LkGK P w K mg base "NoPoint" 1 ["self", "name"] (ff_NoPoint_init ct) ct.NoPoint ["name"] gd_NoPoint_name) {f : Addr} {fd : FuncData} (F : FF_law_left_out K f fd) : DFn P w K mg base 3 f fd ["figure", "sign"] (ff_law_left_out ct) :=
  DFn.of F sc_law_left_out fun c => (DB.cons (DS.set 2 (DE.lst (DA.cons (DE.clG0 c G_BadSketch_0 (by decide) rfl) (DA.cons (DE.clG c G_BadSketch_1 (by decide) rfl (by decide) (DA.cons (DE.var 1) DA.nil) (aLen_cons aLen_nil)) (DA.cons (DE.clGK c GK_BadSketch_part (by decide) (DK.cons (DE.var 1) DK.nil)) (DA.cons (DE.clG0 c G_BadOutline_0 (by decide) rfl) (DA.cons (DE.clG0 c G_BadFeature_0 (by decide) rfl) (DA.cons (DE.clG0 c G_BadTools_0 (by decide) rfl) (DA.cons (DE.clG0 c G_BadWay_0 (by decide) rfl) DA.nil)))))))) (fun _ => sc_law_left_out.nd))
  (DB.cons (DS.ite (DC.test (DC.op (opNe c) (DE.lc c (own := [("error", 3)]) (fun _ => sc_law_left_out.nd) (DI.seq c (DE.var 2)) (fun _ => blkOk_by (N := nn_law_left_out) (by rfl)) (DG.name 3 fun _ => sc_law_left_out.nd) (by decide) DTs.nil (DE.gf T.okg (c.blk _) (DE.var 3))) (DE.op opMul2 (DE.lst (DA.cons DE.non DA.nil)) DE.int)))
  (DB.one (DS.ret DE.bool)) DB.nil)
  (DB.cons (DS.ite (DC.test (DC.op (opNe c) (DE.lst (DA.cons (DE.gf T.okg c (DE.ix c (DE.var 2) DE.int)) (DA.cons (DE.gf T.okg c (DE.ix c (DE.var 2) DE.int)) (DA.cons (DE.gf T.okg c (DE.ix c (DE.var 2) DE.int)) DA.nil)))) (DE.lst (DA.cons DE.non (DA.cons (DE.var 1) (DA.cons (DE.var 1) DA.nil))))))
  (DB.one (DS.ret DE.bool)) DB.nil)
  (DB.cons (DS.ite (DC.test (DC.op (opNe c) (DE.lst (DA.cons (DE.gf T.okg c (DE.clG0 c G_BadBlock_0 (by decide) rfl)) (DA.cons (DE.gf T.okg c (DE.clG0 c G_BadField_0 (by decide) rfl)) (DA.cons (DE.gf T.okg c (DE.clG0 c G_BadPaper_0 (by decide) rfl)) DA.nil)))) (DE.op opMul2 (DE.lst (DA.cons DE.non DA.nil)) DE.int)))
  (DB.one (DS.ret DE.bool)) DB.nil)
  (DB.cons (DS.set 4 (DE.lst (DA.cons (DE.gf T.okg c (DE.clGK c GK_BadRow_word_row (by decide) (DK.cons (DE.var 0) (DK.cons DE.int DK.nil)))) (DA.cons (DE.gf T.okg c (DE.clGK c GK_BadRow_word_row (by decide) (DK.cons (DE.var 0) (DK.cons DE.int DK.nil)))) (DA.cons (DE.gf T.okg c (DE.clGK c GK_BadSketch_number_part (by decide) (DK.cons (DE.var 0) (DK.cons (DE.var 1) DK.nil)))) DA.nil)))) (fun _ => sc_law_left_out.nd))
  (DB.cons (DS.set 4 (DE.op (opAdd4 c) (DE.var 4) (DE.lst (DA.cons (DE.gf T.okg c (DE.clGK c GK_BadBlock_place (by decide) (DK.cons (DE.var 0) DK.nil))) (DA.cons (DE.gf T.okg c (DE.clGK c GK_BadOutline_number (by decide) (DK.cons (DE.var 0) DK.nil))) (DA.cons (DE.gf T.okg c (DE.clGK c GK_BadFeature_number (by decide) (DK.cons (DE.var 0) DK.nil))) DA.nil))))) (fun _ => sc_law_left_out.nd))
  (DB.cons (DS.set 4 (DE.op (opAdd4 c) (DE.var 4) (DE.lst (DA.cons (DE.gf T.okg c (DE.clGK c GK_BadField_place (by decide) (DK.cons (DE.var 0) DK.nil))) (DA.cons (DE.gf T.okg c (DE.clGK c GK_BadTools_number (by decide) (DK.cons (DE.var 0) DK.nil))) (DA.cons (DE.gf T.okg c (DE.clGK c GK_BadWay_number (by decide) (DK.cons (DE.var 0) DK.nil))) DA.nil))))) (fun _ => sc_law_left_out.nd))
  (DB.cons (DS.set 4 (DE.op (opAdd4 c) (DE.var 4) (DE.lst (DA.cons (DE.gf T.okg c (DE.clGK c GK_BadPaper_place (by decide) (DK.cons (DE.var 0) DK.nil))) (DA.cons (DE.gf T.okg c (DE.clGK c GK_Clash_number (by decide) (DK.cons (DE.var 0) DK.nil))) (DA.cons (DE.gf T.okg c (DE.clGK c GK_NoSaying_number (by decide) (DK.cons (DE.var 0) DK.nil))) DA.nil))))) (fun _ => sc_law_left_out.nd))
  (DB.cons (DS.set 4 (DE.op (opAdd4 c) (DE.var 4) (DE.lst (DA.cons (DE.gf T.okg c (DE.clGK c GK_NoFeature_number (by decide) (DK.cons (DE.var 0) DK.nil))) (DA.cons (DE.gf T.okg c (DE.clGK c GK_NoTool_tool (by decide) (DK.cons (DE.var 0) DK.nil))) (DA.cons (DE.gf T.okg c (DE.clGK c GK_Beyond_place (by decide) (DK.cons (DE.var 0) DK.nil))) DA.nil))))) (fun _ => sc_law_left_out.nd))
  (DB.cons (DS.set 4 (DE.op (opAdd4 c) (DE.var 4) (DE.lst (DA.cons (DE.gf T.okg c (DE.clGK c GK_Blocked_place (by decide) (DK.cons (DE.var 0) DK.nil))) (DA.cons (DE.gf T.okg c (DE.clGK c GK_TooDeep_place (by decide) (DK.cons (DE.var 0) DK.nil))) DA.nil)))) (fun _ => sc_law_left_out.nd))
  (DB.one (DS.ret (DE.and (DC.val (DC.op (opEq c) (DE.var 4) (DE.op (opAdd4 c) (DE.lst (DA.cons (DE.var 0) (DA.cons DE.int DA.nil))) (DE.op opMul2 (DE.lst (DA.cons (DE.var 0) DA.nil)) DE.int)))) (DE.one (DC.val (DC.op (opEq c) (DE.gf T.okg c (DE.clGK c GK_NoPoint_name (by decide) (DK.cons (DE.var 1) DK.nil))) (DE.var 1)))))))))))))))))
abbrev ss_law : Stmt := topS 37
theorem sc_law : FnScope nn_law ["script"] (defScope ss_law) := ⟨rfl, rfl, rfl, by decide +kernel, rfl, by decide +kernel, by decide +kernel⟩
abbrev FF_law (K : PySem.W.Frag) (f : Addr) (fd : FuncData) : Prop := FunD K "law" "law" (defArgs ss_law) (defBody ss_law) (defScope ss_law) [] [] f fd
theorem ok_law (T : Txt ct K mg) (L_law_draw : Lk P w K mg base "_law_draw" 1 ["cell", "k"] ff_law_draw) (L_law_digit : Lk P w K mg base "_law_digit" 2 ["state", "many"] ff_law_digit) (L_law_word : Lk P w K mg base "_law_word" 3 ["state"] ff_law_word) (L_law_by_hand : Lk P w K mg base "_law_by_hand" 3 ["figure", "sign"] (ff_law_by_hand ct)) (L_law_left_out : Lk P w K mg base "_law_left_out" 3 ["figure", "sign"] (ff_law_left_out ct)) {f : Addr} {fd : FuncData} (F : FF_law K f fd) : DFn P w K mg base 4 f fd ["script"] (ff_law ct) :=
  DFn.of F sc_law fun c => (DB.cons (DS.for c (by first | exact fun _ => PassesOwn.never | exact fun _ => PassesOwn.leaving) (DI.enum c T.n_enumerate (DA.cons (DE.op (opAdd4 c) (DE.sl c (DE.var 0) DP.none (DP.some DE.int)) (DE.lst (DA.cons (DE.callB c (cSum c) T.n_sum (by decide +kernel) (DA.cons (DE.var 0) DA.nil)) DA.nil))) DA.nil)) (DG.tup c (DGs.cons (DG.name 1 fun _ => sc_law.nd) (DGs.cons (DG.name 2 fun _ => sc_law.nd) DGs.nil)))
  (DB.cons (DS.set 3 (DE.cl c L_law_draw (by decide) rfl (DA.cons (DE.var 2) (DA.cons (DE.var 1) DA.nil)) (aLen_cons (aLen_cons aLen_nil))) (fun _ => sc_law.nd))
  (DB.cons (DS.set 4 (DE.ix c (DE.lst (DA.cons (DE.op opSub (DE.cl c L_law_digit (by decide) rfl (DA.cons (DE.var 3) (DA.cons (DE.op opPow DE.int DE.int) DA.nil)) (aLen_cons (aLen_cons aLen_nil))) DE.int) (DA.cons (DE.op opMod (DE.var 2) (DE.op opPow DE.int DE.int)) DA.nil))) (DE.cl c L_law_digit (by decide) rfl (DA.cons (DE.var 3) (DA.cons DE.int DA.nil)) (aLen_cons (aLen_cons aLen_nil)))) (fun _ => sc_law.nd))
  (DB.cons (DS.set 5 (DE.cl c L_law_word (by decide) rfl (DA.cons (DE.var 3) DA.nil) (aLen_cons aLen_nil)) (fun _ => sc_law.nd))
  (DB.one (DS.ite (DW.test (DW.or (DT.not (DE.test (DE.cl c L_law_by_hand (by decide) rfl (DA.cons (DE.var 4) (DA.cons (DE.var 5) DA.nil)) (aLen_cons (aLen_cons aLen_nil))))) (DW.or1 (DT.not (DE.test (DE.cl c L_law_left_out (by decide) rfl (DA.cons (DE.var 4) (DA.cons (DE.var 5) DA.nil)) (aLen_cons (aLen_cons aLen_nil))))))))
  (DB.one (DS.ret DE.bool)) DB.nil))))))
  (DB.one (DS.ret DE.bool)))
end
end Law

namespace Law
open PySem L2 Pl
/-- a fraction as a value -/
def R (q : Rat) : D := .tup [.int q.num, .int (q.den : Int)]
theorem dOk {t s : Int} (h : s ≠ 0) (hb : s.natAbs < 2 ^ 8000) : DivOk t s := divOk h hb (by decide) (by decide)
theorem fdiv_dvd {a s : Int} (h : s ∣ a) : a.fdiv s = a / s := by
  obtain ⟨c, rfl⟩ := h
  by_cases hs : s = 0
  · subst hs; simp
  · rw [Int.mul_fdiv_cancel_left _ hs, Int.mul_ediv_cancel_left _ hs]
end Law

namespace Law
open PySem L2 Pl
class Sz (k : outParam Nat) (q : Rat) : Prop where
  num : q.num.natAbs < 2 ^ (128 * k)
  den : q.den < 2 ^ (128 * k)
theorem ix0 {q : Rat} {M : Mh} : gIx (R q) (.int 0) M = some (.int q.num, M) := rfl
theorem ix1 {q : Rat} {M : Mh} : gIx (R q) (.int 1) M = some (.int (q.den : Int), M) := rfl
theorem mul_int {i j : Int} (h : MulOk i j) {M : Mh} : gMul (.int i) (.int j) M = some (.int (i * j), M) := if_pos h
theorem add_int {i j : Int} {M : Mh} : gAdd (.int i) (.int j) M = some (.int (i + j), M) := rfl
section
variable {a b c : Rat} {i j k : Nat}
theorem szd (h : Sz i a) : ((a.den : Nat) : Int).natAbs < 2 ^ (128 * i) := h.den
theorem mOk {x y : Int} (hx : x.natAbs < 2 ^ (128 * i)) (hy : y.natAbs < 2 ^ (128 * j)) (h : i + j ≤ 30) : MulOk x y := mulOk hx hy (by omega)
theorem mSz {x y : Nat} (hx : x < 2 ^ (128 * i)) (hy : y < 2 ^ (128 * j)) : x * y < 2 ^ (128 * (i + j)) := by
  rw [Nat.mul_add, Nat.pow_add]
  exact Nat.mul_lt_mul'' hx hy
theorem up1 {x : Nat} (h : x < 2 ^ (128 * i)) (hij : i ≤ j) : x < 2 ^ (128 * j) := Nat.lt_of_lt_of_le h (Nat.pow_le_pow_right (by decide) (by omega))
theorem up8 {x : Nat} (h : x < 2 ^ (128 * i)) (hij : i ≤ 60) : x < 2 ^ 8000 := Nat.lt_of_lt_of_le h (Nat.pow_le_pow_right (by decide) (by omega))
theorem den0 (a : Rat) : (a.den : Int) ≠ 0 := by have := a.den_pos; omega
theorem dd0 (a b : Rat) : (a.den : Int) * b.den ≠ 0 := Int.mul_ne_zero (den0 a) (den0 b)
theorem add_eq (a b : Rat) : Rat.divInt (a.num * b.den + b.num * a.den) (a.den * b.den) = a + b := by
  rw [← Rat.divInt_add_divInt _ _ (den0 a) (den0 b), Rat.num_divInt_den, Rat.num_divInt_den]
theorem sub_eq (a b : Rat) : Rat.divInt (a.num * b.den - b.num * a.den) (a.den * b.den) = a - b := by
  rw [← Rat.divInt_sub_divInt _ _ (den0 a) (den0 b), Rat.num_divInt_den, Rat.num_divInt_den]
theorem mul_eq (a b : Rat) : Rat.divInt (a.num * b.num) (a.den * b.den) = a * b := by
  rw [← Rat.divInt_mul_divInt, Rat.num_divInt_den, Rat.num_divInt_den]
theorem div_eq (a b : Rat) : Rat.divInt (a.num * b.den) (a.den * b.num) = a / b := by
  rw [← Rat.divInt_mul_divInt, Rat.num_divInt_den, Rat.div_def, Rat.inv_def]
theorem mean_eq (a b : Rat) : Rat.divInt (a.num * b.den + b.num * a.den) (2 * a.den * b.den) = (a + b) / 2 := by
  rw [Int.mul_assoc, ← Int.one_mul (a.num * b.den + b.num * a.den), ← Rat.divInt_mul_divInt, add_eq]
  have : Rat.divInt 1 2 = 1 / 2 := by decide +kernel
  rw [this]
  grind
theorem num_le {t b : Int} : (Rat.divInt t b).num.natAbs ≤ t.natAbs := by
  rw [Rat.num_divInt]
  refine Nat.le_trans (Int.natAbs_ediv_le_natAbs _ _) ?_
  rw [Int.natAbs_mul]
  have : b.sign.natAbs ≤ 1 := by
    rcases Int.lt_trichotomy b 0 with h | h | h
    · rw [Int.sign_eq_neg_one_of_neg h]; decide
    · rw [h]; decide
    · rw [Int.sign_eq_one_of_pos h]; decide
  exact Nat.le_trans (Nat.mul_le_mul_right _ this) (by omega)
theorem den_le {t b : Int} (h : b ≠ 0) : (Rat.divInt t b).den ≤ b.natAbs := by
  rw [Rat.den_divInt, if_neg h]
  exact Nat.div_le_self _ _
theorem sum_lt {x y : Int} (hx : x.natAbs < 2 ^ (128 * i)) (hy : y.natAbs < 2 ^ (128 * i)) : (x + y).natAbs < 2 ^ (128 * (i + 1)) := by
  have : 2 ^ (128 * (i + 1)) = 2 ^ (128 * i) * 2 ^ 128 := by rw [← Nat.pow_add]; congr 1
  have h2 : 2 ^ (128 * i) * 2 ≤ 2 ^ (128 * i) * 2 ^ 128 := Nat.mul_le_mul_left _ (by decide)
  have h3 := Int.natAbs_add_le x y
  omega
instance szAdd [ha : Sz i a] [hb : Sz j b] : Sz (i + j + 1) (a + b) where
  num := by
    rw [← add_eq]
    refine Nat.lt_of_le_of_lt num_le (sum_lt ?_ ?_)
    · rw [Int.natAbs_mul]; exact mSz ha.num hb.den
    · rw [Int.natAbs_mul, Nat.add_comm i j]; exact mSz hb.num ha.den
  den := by
    rw [← add_eq]
    refine Nat.lt_of_le_of_lt (den_le (dd0 a b)) (up1 (i := i + j) ?_ (by omega))
    rw [Int.natAbs_mul]; exact mSz ha.den hb.den
instance szSub [ha : Sz i a] [hb : Sz j b] : Sz (i + j + 1) (a - b) where
  num := by
    rw [← sub_eq, Int.sub_eq_add_neg]
    refine Nat.lt_of_le_of_lt num_le (sum_lt ?_ ?_)
    · rw [Int.natAbs_mul]; exact mSz ha.num hb.den
    · rw [Int.natAbs_neg, Int.natAbs_mul, Nat.add_comm i j]; exact mSz hb.num ha.den
  den := by
    rw [← sub_eq]
    refine Nat.lt_of_le_of_lt (den_le (dd0 a b)) (up1 (i := i + j) ?_ (by omega))
    rw [Int.natAbs_mul]; exact mSz ha.den hb.den
instance szMul [ha : Sz i a] [hb : Sz j b] : Sz (i + j) (a * b) where
  num := by
    rw [← mul_eq]
    refine Nat.lt_of_le_of_lt num_le ?_
    rw [Int.natAbs_mul]; exact mSz ha.num hb.num
  den := by
    rw [← mul_eq]
    refine Nat.lt_of_le_of_lt (den_le (dd0 a b)) ?_
    rw [Int.natAbs_mul]; exact mSz ha.den hb.den
instance sz0 : Sz 1 0 := ⟨by decide, by decide⟩
instance sz1 : Sz 1 1 := ⟨by decide, by decide⟩
instance sz2 : Sz 1 2 := ⟨by decide, by decide⟩
theorem two0 : (2 : Rat) ≠ 0 := by decide
instance szDiv [ha : Sz i a] [hb : Sz j b] : Sz (i + j) (a / b) where
  num := by
    rw [← div_eq]
    refine Nat.lt_of_le_of_lt num_le ?_
    rw [Int.natAbs_mul]; exact mSz ha.num hb.den
  den := by
    by_cases h : b = 0
    · rw [h, Rat.div_def, Rat.inv_zero, Rat.mul_zero]
      exact Nat.one_lt_two_pow_iff.mpr (by
        have h1 : i ≠ 0 := fun z => by subst z; have := ha.den; have := a.den_pos; omega
        omega)
    rw [← div_eq]
    refine Nat.lt_of_le_of_lt (den_le (Int.mul_ne_zero (den0 a) (fun z => h (Rat.num_eq_zero.mp z)))) ?_
    rw [Int.natAbs_mul]; exact mSz ha.den hb.num
theorem toP_R (q : Rat) : toP (R q) = some (.tuple [.int q.num, .int q.den]) := rfl
theorem eq_R (h : PyData → PyData → Bool) (p q : Rat) (M : Mh) : gEq h (R p) (R q) M = some (.bl (h (.tuple [.int p.num, .int p.den]) (.tuple [.int q.num, .int q.den])), M) := rfl
theorem eqv_R (p q : Rat) : PyData.eqv (.tuple [.int p.num, .int p.den]) (.tuple [.int q.num, .int q.den]) = decide (p = q) := by
  have e : PyData.eqv (.tuple [.int p.num, .int p.den]) (.tuple [.int q.num, .int q.den]) = ((p.num == q.num) && ((p.den : Int) == q.den)) := by
    simp [PyData.eqv, PyData.eqvAll]
  rw [e]
  by_cases h : p = q
  · subst h; simp
  · rw [decide_eq_false h]
    simp only [Bool.and_eq_false_iff, beq_eq_false_iff_ne]
    by_cases h1 : p.num = q.num
    · exact .inr fun h2 => h (Rat.ext h1 (by omega))
    · exact .inl h1
theorem ne_R (p q : Rat) (M : Mh) : gEq (fun p q => !PyData.eqv p q) (R p) (R q) M = some (.bl (!decide (p = q)), M) := by rw [eq_R, eqv_R]
theorem eq_R' (p q : Rat) (M : Mh) : gEq PyData.eqv (R p) (R q) M = some (.bl (decide (p = q)), M) := by rw [eq_R, eqv_R]
theorem eqv_int (i j : Int) : PyData.eqv (.int i) (.int j) = decide (i = j) := by
  by_cases h : i = j
  · subst h; simp [PyData.eqv]
  · rw [decide_eq_false h]; simp [PyData.eqv, h]
theorem eq_int (i j : Int) (M : Mh) : gEq PyData.eqv (.int i) (.int j) M = some (.bl (decide (i = j)), M) := by
  rw [← eqv_int]; rfl
theorem ne_int (i j : Int) (M : Mh) : gEq (fun p q => !PyData.eqv p q) (.int i) (.int j) M = some (.bl (!decide (i = j)), M) := by
  rw [← eqv_int]; rfl
theorem eq_bl (i j : Bool) (M : Mh) : gEq PyData.eqv (.bl i) (.bl j) M = some (.bl (i == j), M) := by
  cases i <;> cases j <;> rfl
theorem ne_bl (i j : Bool) (M : Mh) : gEq (fun p q => !PyData.eqv p q) (.bl i) (.bl j) M = some (.bl (!(i == j)), M) := by
  cases i <;> cases j <;> rfl
theorem r01 : D.tup [.int 0, .int 1] = R 0 := by simp [R]
theorem r11 : D.tup [.int 1, .int 1] = R 1 := by simp [R]
theorem r21 : D.tup [.int 2, .int 1] = R 2 := by simp [R]
/-- the told order -/
def cmpR (a b : Rat) : Int := if a < b then -1 else if b < a then 1 else 0
theorem kit_tt : kitB "tuple" "tuple" = some true := by decide +kernel
theorem kit_ii : kitB "int" "int" = some true := by decide +kernel
theorem kit_ib : kitB "int" "bool" = some false := by decide +kernel
theorem kit_ss : kitB "str" "str" = some true := by decide +kernel
end
end Law

namespace Law
open PySem L2 Pl
theorem x_tV {f : EF} {δ : Pl.Env} {M : Mh} : tV f δ M = (match f δ M with | some (.bl b, M1) => some (b, M1) | _ => none) := (fun h => h) (by unfold tV; rfl)
theorem x_eOp {g : O2} {fa fb : EF} {δ : Pl.Env} {M : Mh} : eOp g fa fb δ M = (match fa δ M with | some (a, M1) => (match fb δ M1 with | some (b, M2) => g a b M2 | none => none) | none => none) := (fun h => h) (by unfold eOp; rfl)
theorem x_eCall {F : Fn} {g : AF} {dds : List D} {δ : Pl.Env} {M : Mh} : eCall F g dds δ M = (match g δ M with | some (ds, M1) => F (ds ++ dds) M1 | none => none) := (fun h => h) (by unfold eCall; rfl)
theorem x_eCallK {F : Fn} {g gk : AF} {h : List D → List D → List D} {δ : Pl.Env} {M : Mh} : eCallK F g gk h δ M = (match g δ M with | some (ds, M1) => (match gk δ M1 with | some (zs, M2) => F (h ds zs) M2 | none => none) | none => none) := (fun h => h) (by unfold eCallK; rfl)
theorem x_aCons {f : EF} {g : AF} {δ : Pl.Env} {M : Mh} : aCons f g δ M = (match f δ M with | some (d, M1) => (match g δ M1 with | some (ds, M2) => some (d :: ds, M2) | none => none) | none => none) := (fun h => h) (by unfold aCons; rfl)
theorem x_aNil {δ : Pl.Env} {M : Mh} : aNil δ M = some ([], M) := (fun h => h) (by unfold aNil; rfl)
theorem x_eC {δ : Pl.Env} {M : Mh} {d : D} : eC d δ M = some (d, M) := (fun h => h) (by unfold eC; rfl)
theorem x_eVar {i : Nat} {δ : Pl.Env} {M : Mh} : eVar i δ M = (match δ[i]? with | some (some d) => some (d, M) | _ => none) := (fun h => h) (by unfold eVar; rfl)
theorem x_tNt {f : TF} {δ : Pl.Env} {M : Mh} : tNt f δ M = (match f δ M with | some (b, M1) => some (!b, M1) | none => none) := (fun h => h) (by unfold tNt; rfl)
theorem x_tAn {f g : TF} {δ : Pl.Env} {M : Mh} : tAn f g δ M = (match f δ M with | some (true, M1) => g δ M1 | some (false, M1) => some (false, M1) | none => none) := (fun h => h) (by unfold tAn; rfl)
theorem x_tOrr {f g : TF} {δ : Pl.Env} {M : Mh} : tOrr f g δ M = (match f δ M with | some (true, M1) => some (true, M1) | some (false, M1) => g δ M1 | none => none) := (fun h => h) (by unfold tOrr; rfl)
theorem x_eAn {f g : EF} {δ : Pl.Env} {M : Mh} : eAn f g δ M = (match f δ M with | some (.bl true, M1) => g δ M1 | some (.bl false, M1) => some (.bl false, M1) | _ => none) := (fun h => h) (by unfold eAn; rfl)
theorem x_eOr {f g : EF} {δ : Pl.Env} {M : Mh} : eOr f g δ M = (match f δ M with | some (.bl true, M1) => some (.bl true, M1) | some (.bl false, M1) => g δ M1 | _ => none) := (fun h => h) (by unfold eOr; rfl)
theorem x_eB {g : GL} {f : AF} {δ : Pl.Env} {M : Mh} : eB g f δ M = (match f δ M with | some (ds, M1) => g ds M1 | none => none) := (fun h => h) (by unfold eB; rfl)
theorem x_eTup {f : AF} {δ : Pl.Env} {M : Mh} {ds : List D} {M1 : Mh} (h : f δ M = some (ds, M1)) (hl : ds.length ≤ 1000) : eTup f δ M = some (.tup ds, M1) := by
  unfold eTup; rw [h]; exact if_pos (Nat.le_trans hl (by decide))
theorem x_eLst {f : AF} {δ : Pl.Env} {M : Mh} {ds : List D} {M1 : Mh} (h : f δ M = some (ds, M1)) (hl : ds.length ≤ 1000) : eLst f δ M = some (.lst ds, M1) := by
  unfold eLst; rw [h]; exact if_pos (Nat.le_trans hl (by decide))
theorem x_eNt {f : EF} {δ : Pl.Env} {M M1 : Mh} {b : Bool} (h : f δ M = some (.bl b, M1)) : eNt f δ M = some (.bl (!b), M1) := by
  unfold eNt; rw [h]
theorem seq_nx {f g : SF} {δ δ' : Pl.Env} {M M1 : Mh} {r : Option Out} (h : f δ M = some (.nx δ' M1)) (k : g δ' M1 = r) : sSeq f g δ M = r := by
  unfold sSeq; rw [h]; exact k
theorem seq_rt {f g : SF} {δ : Pl.Env} {M M1 : Mh} {d : D} (h : f δ M = some (.rt d M1)) : sSeq f g δ M = some (.rt d M1) := by
  unfold sSeq; rw [h]
theorem if_ff {t : TF} {f g : SF} {δ : Pl.Env} {M M1 : Mh} {r : Option Out} (h : t δ M = some (false, M1)) (k : g δ M1 = r) : sIf t f g δ M = r := by
  unfold sIf; rw [h]; exact k
theorem if_tt {t : TF} {f g : SF} {δ : Pl.Env} {M M1 : Mh} {r : Option Out} (h : t δ M = some (true, M1)) (k : f δ M1 = r) : sIf t f g δ M = r := by
  unfold sIf; rw [h]; exact k
theorem nil_of {δ : Pl.Env} {M : Mh} : sNil δ M = some (.nx δ M) := (fun h => h) (by unfold sNil; rfl)
theorem seq_if0 {t : TF} {f g : SF} {δ : Pl.Env} {M M1 : Mh} {r : Option Out} (h : t δ M = some (false, M1)) (k : g δ M1 = r) : sSeq (sIf t f sNil) g δ M = r :=
  seq_nx (if_ff h nil_of) k
theorem seq_if1 {t : TF} {f f2 g : SF} {δ : Pl.Env} {M M1 M2 : Mh} {d : D} (h : t δ M = some (true, M1)) (k : f δ M1 = some (.rt d M2)) : sSeq (sIf t f f2) g δ M = some (.rt d M2) :=
  seq_rt (if_tt h k)
theorem as_of {f : EF} {p : GF} {δ δ' : Pl.Env} {M M1 : Mh} {d : D} (h : f δ M = some (d, M1)) (hp : p d δ = some δ') : sAs f p δ M = some (.nx δ' M1) := by
  unfold sAs; rw [h]; dsimp only; rw [hp]
theorem seq_as {f : EF} {p : GF} {g : SF} {δ δ' : Pl.Env} {M M1 : Mh} {d : D} {r : Option Out} (h : f δ M = some (d, M1)) (hp : p d δ = some δ') (k : g δ' M1 = r) : sSeq (sAs f p) g δ M = r :=
  seq_nx (as_of h hp) k
theorem ret_of {f : EF} {δ : Pl.Env} {M M1 : Mh} {d : D} (h : f δ M = some (d, M1)) : sRet f δ M = some (.rt d M1) := by
  unfold sRet; rw [h]
theorem fn_rt {n : Nat} {g : SF} {ds : List D} {M M1 : Mh} {d : D} (h : g (startD n ds) M = some (.rt d M1)) : fnF n g ds M = some (d, M1) := by
  unfold fnF; rw [h]
theorem or0 {f g : TF} {δ : Pl.Env} {M M1 : Mh} {r : Option (Bool × Mh)} (h : f δ M = some (false, M1)) (k : g δ M1 = r) : tOrr f g δ M = r := by
  unfold tOrr; rw [h]; exact k
theorem or1 {f g : TF} {δ : Pl.Env} {M M1 : Mh} (h : f δ M = some (true, M1)) : tOrr f g δ M = some (true, M1) := by
  unfold tOrr; rw [h]
theorem an1 {f g : TF} {δ : Pl.Env} {M M1 : Mh} {r : Option (Bool × Mh)} (h : f δ M = some (true, M1)) (k : g δ M1 = r) : tAn f g δ M = r := by
  unfold tAn; rw [h]; exact k
theorem an0 {f g : TF} {δ : Pl.Env} {M M1 : Mh} (h : f δ M = some (false, M1)) : tAn f g δ M = some (false, M1) := by
  unfold tAn; rw [h]
theorem op_of {g : O2} {fa fb : EF} {δ : Pl.Env} {M M1 M2 : Mh} {a b : D} {r : Option (D × Mh)} (h1 : fa δ M = some (a, M1)) (h2 : fb δ M1 = some (b, M2)) (h3 : g a b M2 = r) : eOp g fa fb δ M = r := by
  unfold eOp; rw [h1]; dsimp only; rw [h2]; exact h3
theorem v_bl {f : EF} {δ : Pl.Env} {M M1 : Mh} {b : Bool} (h : f δ M = some (.bl b, M1)) : tV f δ M = some (b, M1) := by
  unfold tV; rw [h]
theorem nt_of {f : TF} {δ : Pl.Env} {M M1 : Mh} {b : Bool} (h : f δ M = some (b, M1)) : tNt f δ M = some (!b, M1) := by
  unfold tNt; rw [h]
theorem call_of {F : Fn} {g : AF} {dds ds : List D} {δ : Pl.Env} {M M1 : Mh} {r : Option (D × Mh)} (h : g δ M = some (ds, M1)) (k : F (ds ++ dds) M1 = r) : eCall F g dds δ M = r := by
  unfold eCall; rw [h]; exact k
theorem cons_of {f : EF} {g : AF} {δ : Pl.Env} {M M1 M2 : Mh} {d : D} {ds : List D} (h : f δ M = some (d, M1)) (k : g δ M1 = some (ds, M2)) : aCons f g δ M = some (d :: ds, M2) := by
  unfold aCons; rw [h]; dsimp only; rw [k]
theorem eq_nil (M : Mh) : gEq PyData.eqv (.lst []) (.lst []) M = some (.bl true, M) := by
  simp [gEq, toP, deref, toPs, PyData.eqv, PyData.eqvAll, SeqAt.shaped]
  decide +kernel
theorem tup01 {δ : Pl.Env} {M : Mh} : eTup (aCons (eC (.int 0)) (aCons (eC (.int 1)) aNil)) δ M = some (R 0, M) := by
  rw [← r01]; exact x_eTup (cons_of x_eC (cons_of x_eC x_aNil)) (by decide)
theorem tup11 {δ : Pl.Env} {M : Mh} : eTup (aCons (eC (.int 1)) (aCons (eC (.int 1)) aNil)) δ M = some (R 1, M) := by
  rw [← r11]; exact x_eTup (cons_of x_eC (cons_of x_eC x_aNil)) (by decide)
theorem tup21 {δ : Pl.Env} {M : Mh} : eTup (aCons (eC (.int 2)) (aCons (eC (.int 1)) aNil)) δ M = some (R 2, M) := by
  rw [← r21]; exact x_eTup (cons_of x_eC (cons_of x_eC x_aNil)) (by decide)
end Law

namespace Law
open PySem L2 Pl
section
variable {a b c : Rat}
end
end Law

namespace Law
open PySem L2 Pl
theorem c1 (a b : Rat) : cmpR a b = 0 - cmpR b a := by unfold cmpR; grind
theorem c2 (a b : Rat) : decide (cmpR a b = 0) = decide (a = b) := by unfold cmpR; grind
theorem c3 (a b c : Rat) : cmpR (a + c) (b + c) = cmpR a b := by unfold cmpR; grind
theorem c4 (a b : Rat) : cmpR (a - b) 0 = cmpR a b := by unfold cmpR; grind
theorem c5 (a b c : Rat) (h1 : ¬ c < 0) (h2 : c ≠ 0) : cmpR (a * c) (b * c) = cmpR a b := by
  have hc : 0 < c := by grind
  have e1 : (a * c < b * c) ↔ a < b := Rat.mul_lt_mul_right hc
  have e2 : (b * c < a * c) ↔ b < a := Rat.mul_lt_mul_right hc
  unfold cmpR
  simp only [e1, e2]
theorem c6 (a b : Rat) (h : a < b) : ¬ (a + b) / 2 < a ∧ ¬ b < (a + b) / 2 ∧ (a + b) / 2 ≠ a ∧ (a + b) / 2 ≠ b := by grind
theorem c7 (a : Rat) : ¬ a < (a.floor : Rat) ∧ a < (a.floor : Rat) + 1 := by
  refine ⟨?_, ?_⟩
  · have := Rat.floor_le (a := a); grind
  · have := Rat.lt_floor (x := a); grind
theorem intC_of {C : Int → Int → Prop} [∀ i j, Decidable (C i j)] {f : Int → Int → D} {i j : Int} {M : Mh} (h : C i j) : gIntC C f (.int i) (.int j) M = some (f i j, M) := if_pos h
theorem sWh_ff {c : TF} {b : SF} {δ : Pl.Env} {M M1 : Mh} (h : c δ M = some (false, M1)) : sWh c b δ M = some (.nx δ M1) := by
  rw [sWh_eq, h]
theorem sWh_tt {c : TF} {b : SF} {δ δ' : Pl.Env} {M M1 M2 : Mh} {r : Option Out} (h : c δ M = some (true, M1)) (k : b δ M1 = some (.nx δ' M2)) (q : sWh c b δ' M2 = r) : sWh c b δ M = r := by
  rw [sWh_eq, h]; dsimp only; rw [k]; exact q
section
variable {a b c : Rat} {i j : Nat}
end
end Law


namespace Law
open PySem L2 Pl
theorem in_two (p q r : Rat) (M : Mh) : gIn (fun b => b) (R p) (.tup [R q, R r]) M = some (.bl (decide (q = p) || decide (r = p)), M) := by
  have e : gIn (fun b => b) (R p) (.tup [R q, R r]) M = some (.bl ([PyData.tuple [.int q.num, .int q.den], PyData.tuple [.int r.num, .int r.den]].any fun z => PyData.eqv z (.tuple [.int p.num, .int p.den])), M) := rfl
  rw [e]
  simp only [List.any_cons, List.any_nil, eqv_R, Bool.or_false]
section
variable {a b c : Rat}
theorem szI {z : Int} (h : z.natAbs < 2 ^ 128) : Sz 1 (z : Rat) := ⟨by simpa using h, by simp⟩
theorem fl_sz [ha : Sz 1 a] : a.floor.natAbs < 2 ^ 128 := by
  rw [Rat.floor_def]
  exact Nat.lt_of_le_of_lt (Int.natAbs_ediv_le_natAbs _ _) ha.num
end
end Law

namespace Law
open PySem L2 Pl
/-- what draws are made by -/
def dk (l c t : Int) : MO := .dic [(.inr "left", .int l), (.inr "cell", .int c), (.inr "turns", .int t)]
theorem k1 : ¬ (("cell" : Str) = "left") := by decide +kernel
theorem k2 : ¬ (("turns" : Str) = "left") := by decide +kernel
theorem k3 : ¬ (("left" : Str) = "cell") := by decide +kernel
theorem k4 : ¬ (("turns" : Str) = "cell") := by decide +kernel
theorem k5 : ¬ (("left" : Str) = "turns") := by decide +kernel
theorem k6 : ¬ (("cell" : Str) = "turns") := by decide +kernel
section
variable {n : Nat} {l c t v : Int} {M : Mh}
theorem get_l (h : M[n]? = some (dk l c t)) : gDget (.ref n) (.str "left") M = some (.int l, M) := by
  simp [gDget, dicOf, h, dk, keyOf, Pl.dget]
theorem get_c (h : M[n]? = some (dk l c t)) : gDget (.ref n) (.str "cell") M = some (.int c, M) := by
  simp [gDget, dicOf, h, dk, keyOf, Pl.dget, List.find?, k3]
theorem get_t (h : M[n]? = some (dk l c t)) : gDget (.ref n) (.str "turns") M = some (.int t, M) := by
  simp [gDget, dicOf, h, dk, keyOf, Pl.dget, List.find?, k5, k6]
theorem put_l (h : M[n]? = some (dk l c t)) : gDput (.ref n) (.str "left") (.int v) M = some (M.set n (dk v c t)) := by
  simp [gDput, h, dk, keyOf, sizeLine, Pl.dput, k1, k2]
theorem put_t (h : M[n]? = some (dk l c t)) : gDput (.ref n) (.str "turns") (.int v) M = some (M.set n (dk l c v)) := by
  simp [gDput, h, dk, keyOf, sizeLine, Pl.dput, k5, k6]
theorem set_at {m m' : MO} (h : M[n]? = some m) : (M.set n m')[n]? = some m' := by
  have : n < M.length := (List.getElem?_eq_some_iff.mp h).1
  simp [this]
theorem put_of {f g h : EF} {δ : Pl.Env} {M1 M2 M3 M4 : Mh} {a b v : D} (h1 : h δ M = some (v, M1)) (h2 : f δ M1 = some (a, M2)) (h3 : g δ M2 = some (b, M3)) (h4 : gDput a b v M3 = some M4) : sDput f g h δ M = some (.nx δ M4) := by
  unfold sDput; rw [h1]; dsimp only; rw [h2]; dsimp only; rw [h3]; dsimp only; rw [h4]
theorem fm {a b : Int} (h : 0 < b) : 0 ≤ a.fmod b ∧ a.fmod b < b := ⟨Int.fmod_nonneg_of_pos _ h, Int.fmod_lt_of_pos _ h⟩
theorem mixed_ok {k : Int} (h0 : 0 ≤ k) (h1 : k < 2 ^ 60) : ∃ r : Int, ff_law_mixed [.int c, .int k] M = some (.int r, M) ∧ 0 ≤ r ∧ r < 2147483647 := by
  have hk := fm (a := k) (b := 4) (by decide)
  have ix : ∃ m : Int, gIx (.lst [.int 1000000007, .int 998244353, .int 2147483629, .int 1000000009]) (.int (k.fmod 4)) M = some (.int m, M) ∧ 0 < m ∧ m < 2 ^ 40 := by
    have : k.fmod 4 = 0 ∨ k.fmod 4 = 1 ∨ k.fmod 4 = 2 ∨ k.fmod 4 = 3 := by omega
    rcases this with e | e | e | e <;> rw [e]
    · exact ⟨1000000007, rfl, by decide, by decide⟩
    · exact ⟨998244353, rfl, by decide, by decide⟩
    · exact ⟨2147483629, rfl, by decide, by decide⟩
    · exact ⟨1000000009, rfl, by decide, by decide⟩
  obtain ⟨m, im, m0, m1⟩ := ix
  have hc := fm (a := c) m0
  have o1 : Pl.MulOk 7919 k := mulOk (a := 64) (b := 64) (by decide) (by omega) (by decide)
  have o2 : Pl.MulOk (c.fmod m + 7919 * k + 13) (c.fmod m + 7919 * k + 13) := mulOk (a := 100) (b := 100) (by omega) (by omega) (by decide)
  have h5 := fm (a := (c.fmod m + 7919 * k + 13) * (c.fmod m + 7919 * k + 13)) (b := 2147483647) (by decide)
  have o3 : Pl.MulOk (((c.fmod m + 7919 * k + 13) * (c.fmod m + 7919 * k + 13)).fmod 2147483647) 48271 := mulOk (a := 100) (b := 100) (by omega) (by decide) (by decide)
  have h6 := fm (a := ((c.fmod m + 7919 * k + 13) * (c.fmod m + 7919 * k + 13)).fmod 2147483647 * 48271) (b := 2147483647) (by decide)
  refine ⟨_, fn_rt ?_, h6.1, h6.2⟩
  show gg_law_mixed [some (.int c), some (.int k), none] M = _
  unfold gg_law_mixed
  refine seq_as (d := .int (c.fmod m + 7919 * k + 13)) (M1 := M) (δ' := [some (.int c), some (.int k), some (.int (c.fmod m + 7919 * k + 13))]) ?_ rfl ?_
  · exact op_of (op_of (op_of rfl (op_of (x_eLst (cons_of x_eC (cons_of x_eC (cons_of x_eC (cons_of x_eC x_aNil)))) (by simp)) (op_of rfl rfl (intC_of (by decide))) im) (intC_of (by omega))) (op_of rfl rfl (mul_int o1)) add_int) rfl add_int
  · exact ret_of (op_of (op_of (op_of (op_of rfl rfl (mul_int o2)) rfl (intC_of (by decide))) rfl (mul_int o3)) rfl (intC_of (by decide)))
/-- the draws' things stand there -/
def At (n : Nat) (B : Int) (M : Mh) : Prop := ∃ l c t : Int, M[n]? = some (dk l c t) ∧ 0 ≤ l ∧ 0 ≤ t ∧ t ≤ B
theorem fill_ok {t : Int} (h : M[n]? = some (dk 0 c t)) (h0 : 0 ≤ t) (h1 : t + 4 < 2 ^ 59) (x y z : Option D) : ∃ l' : Int, sFor (aRng1 (aCons (eC (.int 4)) aNil)) (gN 2) (sSeq (sDput (eVar 0) (eC (.str "turns")) (eOp gAdd (eOp gDget (eVar 0) (eC (.str "turns"))) (eC (.int 1)))) (sDput (eVar 0) (eC (.str "left")) (eOp gAdd (eOp gMul (eOp gDget (eVar 0) (eC (.str "left"))) (eC (.int 2147483647))) (eCall ff_law_mixed (aCons (eOp gDget (eVar 0) (eC (.str "cell"))) (aCons (eOp gDget (eVar 0) (eC (.str "turns"))) aNil)) [])))) [some (.ref n), x, y, z] M = some (.nx [some (.ref n), x, some (.int 3), z] (M.set n (dk l' c (t + 4)))) ∧ 0 ≤ l' := by
  have step : ∀ (l t : Int) (N : Mh) (y : Option D), N[n]? = some (dk l c t) → 0 ≤ t → t + 1 < 2 ^ 60 → 0 ≤ l → l < 2 ^ 200 → ∃ l' : Int, sSeq (sDput (eVar 0) (eC (.str "turns")) (eOp gAdd (eOp gDget (eVar 0) (eC (.str "turns"))) (eC (.int 1)))) (sDput (eVar 0) (eC (.str "left")) (eOp gAdd (eOp gMul (eOp gDget (eVar 0) (eC (.str "left"))) (eC (.int 2147483647))) (eCall ff_law_mixed (aCons (eOp gDget (eVar 0) (eC (.str "cell"))) (aCons (eOp gDget (eVar 0) (eC (.str "turns"))) aNil)) []))) [some (.ref n), x, y, z] N = some (.nx [some (.ref n), x, y, z] (N.set n (dk l' c (t + 1)))) ∧ 0 ≤ l' ∧ l' < l * 2147483647 + 2147483647 := fun l t N y hN t0 t1 l0 l1 => by
    have hN1 : (N.set n (dk l c (t + 1)))[n]? = some (dk l c (t + 1)) := set_at hN
    obtain ⟨r, hr, r0, r1⟩ := mixed_ok (c := c) (M := N.set n (dk l c (t + 1))) (k := t + 1) (by omega) (by omega)
    refine ⟨l * 2147483647 + r, ?_, by omega, by omega⟩
    have o : Pl.MulOk l 2147483647 := mulOk (a := 200) (b := 32) (by omega) (by decide) (by decide)
    have e2 : (N.set n (dk l c (t + 1))).set n (dk (l * 2147483647 + r) c (t + 1)) = N.set n (dk (l * 2147483647 + r) c (t + 1)) := List.set_set ..
    rw [← e2]
    exact seq_nx (put_of (op_of (op_of rfl rfl (get_t hN)) rfl add_int) rfl rfl (put_t hN)) (put_of (op_of (op_of (op_of rfl rfl (get_l hN1)) rfl (mul_int o)) (call_of (cons_of (op_of rfl rfl (get_c hN1)) (cons_of (op_of rfl rfl (get_t hN1)) x_aNil)) hr) add_int) rfl rfl (put_l hN1))
  obtain ⟨l1, s1, a1, b1⟩ := step 0 t M (some (.int 0)) h h0 (by omega) (by decide) (by decide)
  obtain ⟨l2, s2, a2, b2⟩ := step l1 (t + 1) _ (some (.int 1)) (set_at h) (by omega) (by omega) a1 (by omega)
  obtain ⟨l3, s3, a3, b3⟩ := step l2 (t + 1 + 1) _ (some (.int 2)) (set_at (set_at h)) (by omega) (by omega) a2 (by omega)
  obtain ⟨l4, s4, a4, b4⟩ := step l3 (t + 1 + 1 + 1) _ (some (.int 3)) (set_at (set_at (set_at h))) (by omega) (by omega) a3 (by omega)
  refine ⟨l4, ?_, a4⟩
  have er : aRng1 (aCons (eC (.int 4)) aNil) [some (.ref n), x, y, z] M = some ([.int 0, .int 1, .int 2, .int 3], M) := rfl
  unfold sFor
  rw [er]
  dsimp only [forGo, gN, List.set_cons_succ, List.set_cons_zero]
  rw [s1]
  dsimp only [forGo, gN, List.set_cons_succ, List.set_cons_zero]
  rw [s2]
  dsimp only [forGo, gN, List.set_cons_succ, List.set_cons_zero]
  rw [s3]
  dsimp only [forGo, gN, List.set_cons_succ, List.set_cons_zero]
  rw [s4]
  dsimp only [forGo]
  simp only [List.set_set]
  rw [show t + 1 + 1 + 1 + 1 = t + 4 by omega]
theorem digit_ok {B many : Int} (h : At n B M) (hB : B < 2 ^ 58) (m0 : 0 < many) (m1 : many < 2 ^ 200) : ∃ (f : Int) (M' : Mh), ff_law_digit [.ref n, .int many] M = some (.int f, M') ∧ At n (B + 4) M' ∧ 0 ≤ f ∧ f < many := by
  obtain ⟨l, c, t, hM, l0, t0, tB⟩ := h
  have om : DivOk l many := dOk (by omega) (Nat.lt_of_lt_of_le (m := 2 ^ 200) (by omega) (Nat.pow_le_pow_right (by decide) (by decide)))
  have tail : ∀ (l t : Int) (N : Mh) (x : Option D), N[n]? = some (dk l c t) → 0 ≤ l → 0 ≤ t → t ≤ B + 4 → ∃ (f : Int) (M' : Mh), sSeq (sAs (eOp (gIntC (fun _ j => j ≠ 0) fun i j => .int (i.fmod j)) (eOp gDget (eVar 0) (eC (.str "left"))) (eVar 1)) (gN 3)) (sSeq (sDput (eVar 0) (eC (.str "left")) (eOp (gIntC DivOk fun i j => .int (i.fdiv j)) (eOp gDget (eVar 0) (eC (.str "left"))) (eVar 1))) (sRet (eVar 3))) [some (.ref n), some (.int many), x, none] N = some (.rt (.int f) M') ∧ At n (B + 4) M' ∧ 0 ≤ f ∧ f < many := fun l t N x hN l0 t0 tB => by
    have om : DivOk l many := ⟨om.1, om.2⟩
    have hf := fm (a := l) m0
    refine ⟨l.fmod many, N.set n (dk (l.fdiv many) c t), ?_, ⟨l.fdiv many, c, t, set_at hN, ?_, t0, tB⟩, hf.1, hf.2⟩
    · exact seq_as (M1 := N) (δ' := [some (.ref n), some (.int many), x, some (.int (l.fmod many))]) (op_of (op_of rfl rfl (get_l hN)) rfl (intC_of (by omega))) rfl (seq_nx (put_of (op_of (op_of rfl rfl (get_l hN)) rfl (intC_of om)) rfl rfl (put_l hN)) (ret_of rfl))
    · exact Int.fdiv_nonneg l0 (by omega)
  have tst : tV (eOp (gEq PyData.eqv) (eOp gDget (eVar 0) (eC (.str "left"))) (eC (.int 0))) [some (.ref n), some (.int many), none, none] M = some (decide (l = 0), M) := v_bl (op_of (op_of rfl rfl (get_l hM)) rfl (eq_int _ _ _))
  by_cases hl : l = 0
  · subst hl
    obtain ⟨l', e1, p1⟩ := fill_ok hM t0 (by omega) (some (.int many)) none none
    obtain ⟨f, M', e2, p2⟩ := tail l' (t + 4) _ (some (.int 3)) (set_at hM) p1 (by omega) (by omega)
    refine ⟨f, M', fn_rt ?_, p2⟩
    show gg_law_digit [some (.ref n), some (.int many), none, none] M = _
    unfold gg_law_digit
    exact seq_nx (if_tt (tst.trans (by rw [decide_eq_true rfl])) e1) e2
  · obtain ⟨f, M', e2, p2⟩ := tail l t M none hM l0 t0 (by omega)
    refine ⟨f, M', fn_rt ?_, p2⟩
    show gg_law_digit [some (.ref n), some (.int many), none, none] M = _
    unfold gg_law_digit
    exact seq_if0 (tst.trans (by rw [decide_eq_false hl])) e2
end
end Law

namespace Law
open PySem L2 Pl
theorem par_of {i j : Nat} {f g : EF} {δ : Pl.Env} {M M1 M2 : Mh} {d e : D} (h1 : f δ M = some (d, M1)) (h2 : g δ M1 = some (e, M2)) : sPar i j f g δ M = some (.nx ((δ.set i (some d)).set j (some e)) M2) := by
  unfold sPar; rw [h1]; dsimp only; rw [h2]
theorem euclid (p q : Option D) (M : Mh) : ∀ (Y X : Nat), sWh (tV (eOp (gInt fun i j => .bl (decide (j < i))) (eVar 3) (eC (.int 0)))) (sPar 2 3 (eVar 3) (eOp (gIntC (fun _ j => j ≠ 0) fun i j => .int (i.fmod j)) (eVar 2) (eVar 3))) [p, q, some (.int X), some (.int Y)] M = some (.nx [p, q, some (.int (Nat.gcd X Y : Nat)), some (.int 0)] M) := by
  intro Y
  induction Y using Nat.strongRecOn with
  | ind Y ih =>
    intro X
    have tst : tV (eOp (gInt fun i j => .bl (decide (j < i))) (eVar 3) (eC (.int 0))) [p, q, some (.int X), some (.int Y)] M = some (decide ((0 : Int) < Y), M) := v_bl (op_of rfl rfl rfl)
    by_cases hy : Y = 0
    · subst hy
      rw [Nat.gcd_zero_right]
      exact sWh_ff (tst.trans (by rw [decide_eq_false (by omega)]))
    · have e : ((X : Int).fmod (Y : Int)) = ((X % Y : Nat) : Int) := by
        rw [Int.fmod_eq_emod_of_nonneg _ (by omega)]; rfl
      have r := ih (X % Y) (Nat.mod_lt _ (by omega)) Y
      rw [show Nat.gcd X Y = Nat.gcd Y (X % Y) by rw [Nat.gcd_comm X Y, Nat.gcd_rec, Nat.gcd_comm]]
      refine sWh_tt (M1 := M) (M2 := M) (δ' := [p, q, some (.int Y), some (.int (X % Y : Nat))]) (tst.trans (by rw [decide_eq_true (by omega)])) ?_ r
      rw [← e]
      exact par_of rfl (op_of rfl rfl (intC_of (by omega)))
theorem szD {t b : Int} (h : 0 < b) (ht : t.natAbs < 2 ^ 128) (hb : b.natAbs < 2 ^ 128) : Sz 1 (Rat.divInt t b) :=
  ⟨Nat.lt_of_le_of_lt num_le ht, Nat.lt_of_le_of_lt (den_le (by omega)) hb⟩
section
variable {n : Nat} {M : Mh}
theorem dg_of {B many : Int} {δ : Pl.Env} {fm : EF} {M1 : Mh} (h0 : δ[0]? = some (some (.ref n))) (hm : fm δ M = some (.int many, M1)) (h : At n B M1) (hB : B < 2 ^ 58) (m0 : 0 < many) (m1 : many < 2 ^ 200) : ∃ (f : Int) (M' : Mh), eCall ff_law_digit (aCons (eVar 0) (aCons fm aNil)) [] δ M = some (.int f, M') ∧ At n (B + 4) M' ∧ 0 ≤ f ∧ f < many := by
  obtain ⟨f, M', e, p⟩ := digit_ok h hB m0 m1
  exact ⟨f, M', call_of (cons_of (by rw [x_eVar, h0]) (cons_of hm x_aNil)) e, p⟩
theorem draw_ok {cell : Int} {k : Int} (k0 : 0 ≤ k) (k1 : k ≤ 1000) : ∃ M', ff_law_draw [.int cell, .int k] M = some (.ref M.length, M') ∧ At M.length 1000000 M' := by
  have o : Pl.MulOk 1000 k := mulOk (a := 64) (b := 64) (by decide) (by omega) (by decide)
  have p18 : eOp (gIntC PowOk fun i j => .int (i ^ j.toNat)) (eC (.int 10)) (eC (.int 18)) [some (.int cell), some (.int k)] M = some (.int (10 ^ 18), M) := op_of rfl rfl (intC_of (by decide))
  have lf : ∃ l : Int, 0 ≤ l ∧ eIf (tV (eOp (gInt fun i j => .bl (decide (j ≤ i))) (eVar 0) (eOp (gIntC PowOk fun i j => .int (i ^ j.toNat)) (eC (.int 10)) (eC (.int 18))))) (eVar 0) (eC (.int 0)) [some (.int cell), some (.int k)] M = some (.int l, M) := by
    have tst : tV (eOp (gInt fun i j => .bl (decide (j ≤ i))) (eVar 0) (eOp (gIntC PowOk fun i j => .int (i ^ j.toNat)) (eC (.int 10)) (eC (.int 18)))) [some (.int cell), some (.int k)] M = some (decide (10 ^ 18 ≤ cell), M) := v_bl (op_of rfl p18 rfl)
    by_cases hc : (10 ^ 18 : Int) ≤ cell
    · refine ⟨cell, by omega, ?_⟩
      unfold eIf
      rw [tst, decide_eq_true hc]; rfl
    · refine ⟨0, by omega, ?_⟩
      unfold eIf
      rw [tst, decide_eq_false hc]; rfl
  obtain ⟨l, l0, el⟩ := lf
  refine ⟨M ++ [dk l cell (1000 * k)], fn_rt ?_, ⟨l, cell, 1000 * k, by simp, l0, by omega, by omega⟩⟩
  show gg_law_draw [some (.int cell), some (.int k)] M = _
  unfold gg_law_draw
  refine ret_of ?_
  have pc : ∀ {f g : EF} {h : Pl.Env → Mh → Option (List (Key × D) × Mh)} {δ : Pl.Env} {a v : D} {q : Key} {r : List (Key × D)}, f δ M = some (a, M) → g δ M = some (v, M) → keyOf a = some q → h δ M = some (r, M) → psCons f g h δ M = some ((q, v) :: r, M) := fun h1 h2 h3 h4 => by
    unfold psCons; rw [h1]; dsimp only; rw [h2]; dsimp only; rw [h3]; dsimp only; rw [h4]
  have e := pc (f := eC (.str "left")) rfl el rfl (pc (f := eC (.str "cell")) (g := eVar 0) rfl rfl rfl (pc (f := eC (.str "turns")) (g := eOp gMul (eC (.int 1000)) (eVar 1)) rfl (op_of rfl rfl (mul_int o)) rfl (h := psNil) rfl))
  unfold eDic
  rw [e]
  have dm : dmerge [(.inr "left", .int l), (.inr "cell", .int cell), (.inr "turns", .int (1000 * k))] = [((.inr "left" : Key), D.int l), (.inr "cell", .int cell), (.inr "turns", .int (1000 * k))] := by
    simp [dmerge, Pl.dput, k3, k5, k6]
  show (if _ then some (D.ref M.length, M ++ [MO.dic (dmerge _)]) else none) = _
  rw [dm]
  rfl
end
end Law

namespace Law
open PySem L2 Pl
/-- a number's text -/
abbrev TT (z : Int) : Str := Str.ofString (toString z)
theorem tl_TT (z : Int) : TL.tl (TT z) = if z < 0 then 45 :: TL.numL z.natAbs else TL.numL z.natAbs := by
  cases z with
  | ofNat n =>
    rw [if_neg (by simp)]
    exact TL.tl_num n
  | negSucc n =>
    rw [if_pos (Int.negSucc_lt_zero n)]
    have e : toString (Int.negSucc n) = "-" ++ toString ((n + 1 : Nat) : Int) := rfl
    have e2 : (Int.negSucc n).natAbs = n + 1 := rfl
    rw [TT, e, TL.tl_ofString, String.toList_append, List.map_append, ← TL.tl_ofString (toString ((n + 1 : Nat) : Int)), TL.tl_num, e2]
    rfl
theorem numL_bnd : ∀ (k n : Nat), 0 < k → (TL.numL n).length ≤ k → n < 10 ^ k
  | 0, _, h, _ => absurd h (by decide)
  | k + 1, n, _, h => by
    by_cases hn : n < 10
    · exact Nat.lt_of_lt_of_le hn (by rw [Nat.pow_succ]; have := Nat.pow_pos (a := 10) (n := k) (by decide); omega)
    · rw [TL.numL_step (by omega), List.length_append, List.length_singleton] at h
      have h1 : 0 < (TL.numL (n / 10)).length := List.length_pos_iff.mpr (TL.numL_ne _)
      have := numL_bnd k (n / 10) (by omega) (by omega)
      rw [Nat.pow_succ]
      omega
theorem numL_head0 {r : List Nat} (n : Nat) (h : TL.numL n = 48 :: r) : n = 0 := by
  induction n using Nat.strongRecOn generalizing r with
  | ind n ih =>
    by_cases hn : n < 10
    · rw [TL.numL_lt hn] at h
      have := (List.cons.inj h).1
      omega
    · rw [TL.numL_step (by omega)] at h
      cases hq : TL.numL (n / 10) with
      | nil => exact absurd hq (TL.numL_ne _)
      | cons c q =>
        rw [hq] at h
        have e : c = 48 := (List.cons.inj h).1
        subst e
        have := ih (n / 10) (by omega) hq
        omega
theorem figs : ∀ c : Nat, 48 ≤ c → c ≤ 57 → decide (c ∈ ("0123456789" : Str).cps.toList) = true := fun c h1 h2 => by
  have e : ("0123456789" : Str).cps.toList = [48, 49, 50, 51, 52, 53, 54, 55, 56, 57] := by decide +kernel
  rw [e, decide_eq_true_eq]
  simp only [List.mem_cons, List.not_mem_nil, or_false]
  omega
theorem signs_go (M : Mh) (a c z : Option D) : ∀ cs : List Nat, (∀ s ∈ cs, 48 ≤ s ∧ s ≤ 57) → lcGo (gN 3) tTrue (eOp (gIn fun b => b) (eVar 3) (eVar 1)) (cs.map fun s => .str ⟨#[s]⟩) [a, some (.str "0123456789"), c, z] M = some (cs.map fun _ => .bl true, M)
  | [], _ => rfl
  | s :: cs, h => by
    have e : eOp (gIn fun b => b) (eVar 3) (eVar 1) [a, some (.str "0123456789"), c, some (.str ⟨#[s]⟩)] M = some (.bl true, M) := op_of rfl rfl (by
      show some (D.bl (decide (s ∈ ("0123456789" : Str).cps.toList)), M) = _
      rw [figs s (h s List.mem_cons_self).1 (h s List.mem_cons_self).2])
    rw [List.map_cons]
    unfold lcGo
    dsimp only [gN, List.set_cons_succ, List.set_cons_zero, tTrue]
    rw [e]
    dsimp only
    rw [signs_go M a c z cs fun q hq => h q (List.mem_cons_of_mem _ hq)]
    rfl
theorem bs_true : ∀ cs : List Nat, bsOf (cs.map fun _ => D.bl true) = some (cs.map fun _ => true)
  | [] => rfl
  | _ :: cs => by rw [List.map_cons, bsOf, bs_true cs]; rfl
theorem str_len (x : Str) : x.length = (TL.tl x).length := TL.len_tl x
theorem len_of {δ : Pl.Env} {M M1 : Mh} {f : EF} {x : Str} (h : f δ M = some (.str x, M1)) (hx : x.length ≤ 1000) : eB gLen (aCons f aNil) δ M = some (.int x.length, M1) := by
  rw [x_eB, cons_of h x_aNil]
  simp [gLen, lenOf]
  try exact Nat.le_trans hx (by decide)
theorem strOk_of {x : Str} (h : ∀ s ∈ TL.tl x, s < 1114112) : PyData.strOk x = true := by
  unfold PyData.strOk
  rw [Array.all_eq_true']
  intro c hc
  exact decide_eq_true (h c (by simpa using hc))
theorem eqv_str (x y : Str) : PyData.eqv (.str x) (.str y) = decide (x = y) := by
  by_cases h : x = y
  · subst h; simp [PyData.eqv]
  · rw [decide_eq_false h]; simp [PyData.eqv, h]
theorem str_sh {x : Str} (h : PyData.strOk x = true) : SeqAt.shaped (.str x) = true := by
  simp [SeqAt.shaped, PyData.canLay0, PyData.depth, h]
theorem eq_str {x y : Str} (hx : PyData.strOk x = true) (hy : PyData.strOk y = true) (M : Mh) : gEq PyData.eqv (.str x) (.str y) M = some (.bl (decide (x = y)), M) := by
  simp only [gEq, toP, deref, str_sh hx, str_sh hy, Bool.and_self, if_true, eqv_str]
theorem ne_str {x y : Str} (hx : PyData.strOk x = true) (hy : PyData.strOk y = true) (M : Mh) : gEq (fun p q => !PyData.eqv p q) (.str x) (.str y) M = some (.bl (!decide (x = y)), M) := by
  simp only [gEq, toP, deref, str_sh hx, str_sh hy, Bool.and_self, if_true, eqv_str]
theorem num_len {n : Nat} (h : n < 10000) : 1 ≤ (TT n).length ∧ (TT n).length ≤ 4 := by
  rw [str_len, TL.tl_num]
  exact ⟨List.length_pos_iff.mpr (TL.numL_ne _), TL.numL_len (by decide) h⟩
end Law

namespace Law
open PySem L2 Pl
theorem tl_cutS (x : Str) (lo hi : Option Int) : TL.tl (L2.cutS x lo hi) = (List.drop (HT.sIx x.length 0 lo) (TL.tl x)).take (HT.sIx x.length x.length hi - HT.sIx x.length 0 lo) := by
  unfold L2.cutS
  rw [TL.tl_mk]
theorem TT_ok (z : Int) : ∀ s ∈ TL.tl (TT z), s < 1114112 := fun s hs => by
  rw [tl_TT] at hs
  have hd := TL.numL_digits z.natAbs
  by_cases h : z < 0
  · rw [if_pos h] at hs
    rcases List.mem_cons.mp hs with e | e
    · omega
    · have := hd s e; omega
  · rw [if_neg h] at hs
    have := hd s hs; omega
theorem isstr_ok {x : Str} {M : Mh} {e : EF} {δ : Pl.Env} (h : e δ M = some (.str x, M)) : tV (eB gIsi (aCons e (aCons (eC (.ty "str")) aNil))) δ M = some (true, M) := by
  refine v_bl ?_
  rw [x_eB, cons_of h (cons_of x_eC x_aNil)]
  simp [gIsi, tyN, kit_ss]
theorem sl_hi {x : Str} {i : Int} {f : EF} {δ : Pl.Env} {M : Mh} (hx : x.length ≤ 1000) (h : f δ M = some (.str x, M)) : eSl f pNone (pSome (eC (.int i))) δ M = some (.str (L2.cutS x none (some i)), M) := by
  have p1 : pNone δ M = some (none, M) := rfl
  have p2 : pSome (eC (.int i)) δ M = some (some i, M) := rfl
  unfold eSl
  rw [h]
  dsimp only
  rw [p1]
  dsimp only
  rw [p2]
  exact if_pos (Nat.le_trans hx (by decide))
theorem sl_lo {x : Str} {i : Int} {f : EF} {δ : Pl.Env} {M : Mh} (hx : x.length ≤ 1000) (h : f δ M = some (.str x, M)) : eSl f (pSome (eC (.int i))) pNone δ M = some (.str (L2.cutS x (some i) none), M) := by
  have p1 : pNone δ M = some (none, M) := rfl
  have p2 : pSome (eC (.int i)) δ M = some (some i, M) := rfl
  unfold eSl
  rw [h]
  dsimp only
  rw [p2]
  dsimp only
  rw [p1]
  exact if_pos (Nat.le_trans hx (by decide))
/-- a fraction's text -/
def ftx (a : Rat) : Str := if a.den = 1 then TT a.num else Str.empty ++ TT a.num ++ "/" ++ TT a.den
theorem app_len (x y : Str) : (x ++ y).length = x.length + y.length := by
  rw [str_len, str_len, str_len, TL.tl_append, List.length_append]
theorem lg {n : Nat} (h : n < 2 ^ 128) : n.log2 < 1920 := Nat.lt_of_lt_of_le (PySem.Flt.log2_lt_of (by decide) h) (by decide)
theorem slash_free (z : Int) : ¬ 47 ∈ TL.tl (TT z) := fun hs => by
  rw [tl_TT] at hs
  have hd := TL.numL_digits z.natAbs
  by_cases h : z < 0
  · rw [if_pos h] at hs
    rcases List.mem_cons.mp hs with e | e
    · omega
    · have := hd 47 e; omega
  · rw [if_neg h] at hs
    have := hd 47 hs; omega
end Law

namespace Law
open PySem L2 Pl
section
variable {n : Nat} {M : Mh}
theorem At.app {B : Int} (h : At n B M) (m : MO) : At n B (M ++ [m]) := by
  obtain ⟨l, c, t, h1, h2⟩ := h
  exact ⟨l, c, t, by rw [List.getElem?_append_left (List.getElem?_eq_some_iff.mp h1).1]; exact h1, h2⟩
theorem ftx_len {a : Rat} [ha : Sz 1 a] : (ftx a).length ≤ 3843 := by
  have n1 : (TT a.num).length ≤ 1921 := PyProof.Rows.int_text_len_1921 (lg ha.num)
  have n2 : (TT a.den).length ≤ 1921 := PyProof.Rows.int_text_len_1921 (lg ha.den)
  have sl : ("/" : Str).length = 1 := by decide +kernel
  have e0 : Str.empty.length = 0 := rfl
  unfold ftx
  split
  · omega
  · rw [app_len, app_len, app_len, e0, sl]; omega
end
theorem ints_of : ∀ ns : List Int, intsOf (ns.map D.int) = some ns
  | [] => rfl
  | n :: ns => by rw [List.map_cons, intsOf, ints_of ns]
end Law


namespace Law
open PySem L2 Pl Pl.Ev
/-- equal to itself -/
theorem self_eq {d : D} {p : PyData} {M : Mh} (h : toP (deref M d) = some p) (hs : SeqAt.shaped p = true) : gEq PyData.eqv d d M = some (.bl true, M) := by
  unfold gEq
  rw [h]
  dsimp only
  rw [hs]
  have : p.canLay0 = true := by
    unfold SeqAt.shaped at hs
    exact (Bool.and_eq_true_iff.mp hs).1
  rw [SeqAt.eqv_refl p this]
  rfl
theorem self_ne {d : D} {p : PyData} {M : Mh} (h : toP (deref M d) = some p) (hs : SeqAt.shaped p = true) : gEq (fun p q => !PyData.eqv p q) d d M = some (.bl false, M) := by
  unfold gEq
  rw [h]
  dsimp only
  rw [hs]
  have : p.canLay0 = true := by
    unfold SeqAt.shaped at hs
    exact (Bool.and_eq_true_iff.mp hs).1
  rw [SeqAt.eqv_refl p this]
  rfl
/-- the store behind a class call -/
theorem putx {M : Mh} {a b : MO} (x : MO) : (M ++ [a, b]).set M.length x = M ++ [x, b] := by
  rw [List.set_append_right _ _ (Nat.le_refl _)]
  simp
theorem putx1 {M : Mh} {a b : MO} (x : MO) : (M ++ [a, b]).set (M.length + 1) x = M ++ [a, x] := by
  rw [List.set_append_right _ _ (by omega)]
  simp
theorem at0 {M : Mh} {a b : MO} : (M ++ [a, b])[M.length]? = some a := by simp
theorem at1 {M : Mh} {a b : MO} : (M ++ [a, b])[M.length + 1]? = some b := by simp
theorem og0 {okf : Addr → Str → Bool} {f : Str} {fo fe : EF} {δ : Pl.Env} {M : Mh} {C : Addr} {v : D} (ok : okf C f = true) (h1 : fe δ (M ++ [.exo C none]) = some (v, M ++ [.exo C none])) (h2 : fo δ (M ++ [.exo C none]) = some (.ref M.length, M ++ [.exo C none])) :
    sOg okf f fo fe δ (M ++ [.exo C none]) = some (.nx δ (M ++ [.exo C (some (M.length + 1)), .exd [(f, v)]])) := by
  unfold sOg
  rw [h1]
  dsimp only
  rw [h2]
  dsimp only
  have e : (M ++ [MO.exo C none])[M.length]? = some (MO.exo C none) := by simp
  rw [e]
  dsimp only
  rw [if_pos ok, List.append_assoc, List.length_append]
  show some (Out.nx δ (((M ++ [MO.exo C none, MO.exd [(f, v)]]) : Mh).set M.length (.exo C (some (M.length + 1))))) = _
  rw [putx]
theorem og1 {okf : Addr → Str → Bool} {f g : Str} {fo fe : EF} {δ : Pl.Env} {M : Mh} {C : Addr} {v w : D} (ok : okf C f = true) (h1 : fe δ (M ++ [.exo C (some (M.length + 1)), .exd [(g, w)]]) = some (v, M ++ [.exo C (some (M.length + 1)), .exd [(g, w)]])) (h2 : fo δ (M ++ [.exo C (some (M.length + 1)), .exd [(g, w)]]) = some (.ref M.length, M ++ [.exo C (some (M.length + 1)), .exd [(g, w)]])) :
    sOg okf f fo fe δ (M ++ [.exo C (some (M.length + 1)), .exd [(g, w)]]) = some (.nx δ (M ++ [.exo C (some (M.length + 1)), .exd [(f, v), (g, w)]])) := by
  unfold sOg
  rw [h1]
  dsimp only
  rw [h2]
  dsimp only
  rw [at0]
  dsimp only
  rw [if_pos ok, at1]
  show some (Out.nx δ (((M ++ [MO.exo C (some (M.length + 1)), MO.exd [(g, w)]]) : Mh).set (M.length + 1) (.exd [(f, v), (g, w)]))) = _
  rw [putx1]
theorem ini1 {okf : Addr → Str → Bool} {f : Str} {M : Mh} {C : Addr} {v : D} (ok : okf C f = true) : fnF 2 (sOg okf f (eVar 0) (eVar 1)) [.ref M.length, v] (M ++ [.exo C none]) = some (.non, M ++ [.exo C (some (M.length + 1)), .exd [(f, v)]]) :=
  fnN_ rfl (og0 ok rfl rfl)
theorem ini2 {okf : Addr → Str → Bool} {f g : Str} {M : Mh} {C : Addr} {v w : D} (ok : okf C f = true) (ok2 : okf C g = true) : fnF 3 (sSeq (sOg okf f (eVar 0) (eVar 1)) (sOg okf g (eVar 0) (eVar 2))) [.ref M.length, v, w] (M ++ [.exo C none]) = some (.non, M ++ [.exo C (some (M.length + 1)), .exd [(g, w), (f, v)]]) :=
  fnN_ rfl (seq_ (og0 ok rfl rfl) (og1 ok2 rfl rfl))
section
variable {δ : Pl.Env} {M : Mh} {l l1 l2 : List MO} {q : AF} {ds dds : List D} {C : Addr} {F : Fn} {k k1 : Nat} {fs : List (Str × D)} {d : D}
theorem mk_ (h : q δ (M ++ l) = some (ds, M ++ l1)) (hk : l1.length = k) (hF : ∀ N : Mh, F (.ref N.length :: (ds ++ dds)) (N ++ [.exo C none]) = some (.non, N ++ [.exo C (some (N.length + 1)), .exd fs]))
    (h2 : (some (l1 ++ [.exo C (some (M.length + (k + 1))), .exd fs]) : Option (List MO)) = some l2) : eMk C F q dds δ (M ++ l) = some (.ref (M.length + k), M ++ l2) := by
  cases h2
  unfold eMk
  rw [h]
  dsimp only
  rw [hF (M ++ l1)]
  dsimp only
  rw [List.length_append, hk, List.append_assoc]
  rfl
theorem mkK_ {gD : List D → List D → List D} (h : q δ (M ++ l) = some (ds, M ++ l1)) (hk : l1.length = k) (hF : ∀ N : Mh, F (gD [.ref N.length] ds) (N ++ [.exo C none]) = some (.non, N ++ [.exo C (some (N.length + 1)), .exd fs]))
    (h2 : (some (l1 ++ [.exo C (some (M.length + (k + 1))), .exd fs]) : Option (List MO)) = some l2) : eMkK C F q gD δ (M ++ l) = some (.ref (M.length + k), M ++ l2) := by
  cases h2
  unfold eMkK
  rw [h]
  dsimp only
  rw [hF (M ++ l1)]
  dsimp only
  rw [List.length_append, hk, List.append_assoc]
  rfl
theorem mkT_ {f : EF} (h : f δ (M ++ l) = some (d, M ++ l1)) (hk : l1.length = k) (h2 : (some (l1 ++ [.exn C]) : Option (List MO)) = some l2) : eMkT C f δ (M ++ l) = some (.ref (M.length + k), M ++ l2) := by
  cases h2
  unfold eMkT
  rw [h]
  dsimp only
  rw [List.length_append, hk, List.append_assoc]
theorem at_ {x : MO} (h : l[k]? = some x) : (M ++ l)[M.length + k]? = some x := by
  rw [List.getElem?_append_right (by omega)]
  simpa using h
theorem gf_ {okg : Addr → Str → Bool} {f : Str} {fo : EF} (h : fo δ (M ++ l) = some (.ref (M.length + k), M ++ l1)) (h1 : l1[k]? = some (.exo C (some (M.length + k1)))) (h2 : l1[k1]? = some (.exd fs)) (ok : okg C f = true) (h3 : fs.lookup f = some d) :
    eGf okg f fo δ (M ++ l) = some (d, M ++ l1) := by
  unfold eGf
  rw [h]
  dsimp only
  rw [at_ h1]
  dsimp only
  rw [if_pos ok, at_ h2]
  dsimp only
  rw [h3]
  rfl
end
theorem look1 {f : Str} {d : D} : [(f, d)].lookup f = some d := by simp
theorem look2 {f g : Str} {d e : D} : [(f, d), (g, e)].lookup f = some d := by simp
theorem lookW {d e : D} : [(("word" : Str), d), ("row", e)].lookup ("row" : Str) = some e := by
  have : (("row" : Str) == "word") = false := by decide +kernel
  simp [List.lookup_cons, this]
theorem lookN {d e : D} : [(("number" : Str), d), ("part", e)].lookup ("part" : Str) = some e := by
  have : (("part" : Str) == "number") = false := by decide +kernel
  simp [List.lookup_cons, this]
/-! ### kinds -/
/-- an exception that stands there -/
def Xn (M : Mh) (n : Nat) (C : Addr) : Prop := M[n]? = some (.exn C) ∨ ∃ m fs, M[n]? = some (.exo C (some m)) ∧ M[m]? = some (.exd fs)
theorem isa_ {isa : Addr → Value → Option Bool} {M : Mh} {n : Nat} {C : Addr} {c : D} {cv : Value} {b : Bool} (h : Xn M n C) (hc : clV c = some cv) (hi : isa C cv = some b) : gIsiA isa [.ref n, c] M = some (.bl b, M) := by
  rcases h with h | ⟨m, fs, h1, h2⟩
  · unfold gIsiA
    dsimp only
    rw [h, hc]
    dsimp only
    rw [hi]
  · unfold gIsiA gIsiO
    dsimp only
    rw [h1, hc]
    dsimp only
    rw [h2]
    dsimp only
    rw [hi]
theorem pick_go {M : Mh} {a b : Option D} : ∀ (xs : List (Str × Bool)) (u v : Option D), lcGo (gTp (gsCons (gN 2) (gsCons (gN 3) gsNil))) (tV (eVar 3)) (eVar 2) (xs.map fun p => .tup [.str p.1, .bl p.2]) [a, b, u, v] M = some ((xs.filter (·.2)).map fun p => .str p.1, M)
  | [], _, _ => lcN_
  | (s, true) :: xs, u, v => by
    rw [List.map_cons, List.filter_cons_of_pos rfl, List.map_cons]
    refine lcC_ (x := true) (M1 := M) (δ1 := [a, b, some (.str s), some (.bl true)]) rfl rfl ?_
    exact lcY_ (δ1 := [a, b, some (.str s), some (.bl true)]) (M1 := M) (e := .str s) (M2 := M) (ys := (xs.filter (·.2)).map fun p => .str p.1) rfl (pick_go xs u v)
  | (s, false) :: xs, u, v => by
    rw [List.map_cons, List.filter_cons_of_neg (by simp)]
    exact lcC_ (x := false) (M1 := M) (δ1 := [a, b, some (.str s), some (.bl false)]) rfl rfl (pick_go xs u v)
end Law

namespace Pl.Ev
open PySem L2
section
variable {δ δ' : Pl.Env} {M M1 M2 M3 : Mh} {d e a b : D} {ds zs : List D} {f g h : EF} {t t2 : TF} {p : GF} {q : AF} {x : Bool} {xs ys : List D}
theorem addL_ (h : xs.length + ys.length ≤ 1000) (hz : (some (xs ++ ys) : Option (List D)) = some zs) : gAdd (.lst xs) (.lst ys) M = some (.lst zs, M) := by
  cases hz
  show (if _ then _ else none) = _
  rw [if_pos (Nat.le_trans h (by decide))]
theorem mulL_ {j : Int} (h : -(2 ^ 63) ≤ j ∧ j < 2 ^ 63 ∧ xs.length * j.toNat ≤ 1000) (hz : (some (List.replicate j.toNat xs).flatten : Option (List D)) = some zs) : gMul (.lst xs) (.int j) M = some (.lst zs, M) := by
  cases hz
  show (if _ then _ else none) = _
  rw [if_pos ⟨h.1, h.2.1, Nat.le_trans h.2.2 (by decide)⟩]
end
end Pl.Ev
--EV begin
local macro_rules
  | `(tactic| walk_at "ev2") => `(tactic| first
    | (with_reducible assumption)
    | ((with_reducible show List.length _ ≤ 1000); focus (first | (simp; done) | decide))
    | ((with_reducible show _ = _); first
      | ((with_reducible show Pl.eVar _ _ _ = _); exact Pl.Ev.var_ rfl)
      | ((with_reducible show Pl.eC _ _ _ = _); exact Pl.Ev.c_)
      | ((with_reducible show Pl.aNil _ _ = _); exact Pl.Ev.nil_)
      | ((with_reducible show Pl.tTrue _ _ = _); exact Pl.Ev.tt_)
      | ((with_reducible show Pl.sNil _ _ = _); exact Pl.Ev.snil_)
      | ((with_reducible show Pl.aCons _ _ _ _ = _); exact Pl.Ev.cons_ (by walk_at "ev2") (by walk_at "ev2"))
      | ((with_reducible show Pl.eTup _ _ _ = _); exact Pl.Ev.tup_ (by walk_at "ev2") (by walk_at "ev2"))
      | ((with_reducible show Pl.eOp _ _ _ _ _ = _); exact Pl.Ev.op_ (by walk_at "ev2") (by walk_at "ev2") (by walk_at "ev2"))
      | ((with_reducible show Pl.eUn _ _ _ _ = _); exact Pl.Ev.un_ (by walk_at "ev2") (by walk_at "ev2"))
      | ((with_reducible show Pl.eB _ _ _ _ = _); exact Pl.Ev.b_ (by walk_at "ev2") (by walk_at "ev2"))
      | ((with_reducible show Pl.eCall _ _ [] _ _ = _); exact Pl.Ev.call0_ (by walk_at "ev2") (by walk_at "ev2"))
      | ((with_reducible show Pl.eCall _ _ _ _ _ = _); exact Pl.Ev.callD_ (by walk_at "ev2") (by walk_at "ev2"))
      | ((with_reducible show Pl.eCallK _ _ _ _ _ _ = _); exact Pl.Ev.callK_ (by walk_at "ev2") (by walk_at "ev2") (by walk_at "ev2"))
      | ((with_reducible show Pl.eChain _ _ _ _ _ _ _ = _); exact Pl.Ev.chain_ (by walk_at "ev2") (by walk_at "ev2") (by walk_at "ev2") (by walk_at "ev2"))
      | ((with_reducible show Pl.eIf _ _ _ _ _ = _); exact Pl.Ev.if_ (by walk_at "ev2") (by walk_at "ev2"))
      | ((with_reducible show Pl.eNt _ _ _ = _); exact Pl.Ev.nt_ (by walk_at "ev2"))
      | ((with_reducible show Pl.eAn _ _ _ _ = _); exact Pl.Ev.an_ (by walk_at "ev2") (by walk_at "ev2"))
      | ((with_reducible show Pl.eOr _ _ _ _ = _); exact Pl.Ev.or_ (by walk_at "ev2") (by walk_at "ev2"))
      | ((with_reducible show Pl.tV _ _ _ = _); exact Pl.Ev.tv_ (by walk_at "ev2"))
      | ((with_reducible show Pl.tNt _ _ _ = _); exact Pl.Ev.tnt_ (by walk_at "ev2"))
      | ((with_reducible show Pl.tAn _ _ _ _ = _); exact Pl.Ev.tan_ (by walk_at "ev2") (by walk_at "ev2"))
      | ((with_reducible show Pl.tOrr _ _ _ _ = _); exact Pl.Ev.tor_ (by walk_at "ev2") (by walk_at "ev2"))
      | ((with_reducible show Pl.eLst _ _ _ = _); exact Pl.Ev.lst_ (by walk_at "ev2") (by walk_at "ev2"))
      | ((with_reducible show Pl.eNew _ _ _ = _); exact Pl.Ev.new_ (by walk_at "ev2") (by walk_at "ev2"))
      | ((with_reducible show Pl.eS1 _ _ _ _ _ = _); exact Pl.Ev.s1_ (by walk_at "ev2") (by walk_at "ev2") (by walk_at "ev2"))
      | ((with_reducible show Pl.sSeq (Pl.sIf _ _ _) _ _ _ = _); exact Pl.Ev.seqIf_ (by walk_at "ev2") (by walk_at "ev2"))
      | ((with_reducible show Pl.sSeq Pl.sNil _ _ _ = _); exact Pl.Ev.seq0_ (by walk_at "ev2"))
      | ((with_reducible show Pl.sSeq (Pl.sRet _) _ _ _ = _); exact Pl.Ev.seqRet_ (by walk_at "ev2"))
      | ((with_reducible show Pl.sSeq _ _ _ _ = _); exact Pl.Ev.seq_ (by walk_at "ev2") (by walk_at "ev2"))
      | ((with_reducible show Pl.sRet _ _ _ = _); exact Pl.Ev.ret_ (by walk_at "ev2"))
      | ((with_reducible show Pl.sAs _ _ _ _ = _); exact Pl.Ev.sas_ (by walk_at "ev2") (by walk_at "ev2"))
      | ((with_reducible show Pl.sPar _ _ _ _ _ _ = _); exact Pl.Ev.spar_ (by walk_at "ev2") (by walk_at "ev2") (by walk_at "ev2"))
      | ((with_reducible show Pl.sPar3 _ _ _ _ _ _ _ _ = _); exact Pl.Ev.spar3_ (by walk_at "ev2") (by walk_at "ev2") (by walk_at "ev2") (by walk_at "ev2"))
      | ((with_reducible show Pl.sAs2 _ _ _ _ _ = _); exact Pl.Ev.sas2_ (by walk_at "ev2") (by walk_at "ev2") (by walk_at "ev2"))
      | ((with_reducible show Pl.sIf _ _ _ _ _ = _); exact Pl.Ev.sif_ (by walk_at "ev2") (by walk_at "ev2"))
      | ((with_reducible show Pl.sE _ _ _ = _); exact Pl.Ev.se_ (by walk_at "ev2"))
      | ((with_reducible show Pl.eLc _ _ _ _ _ _ _ = _); exact Pl.Ev.lc_ (by walk_at "ev2") (by walk_at "ev2") (by walk_at "ev2") (by walk_at "ev2"))
      | ((with_reducible show Pl.lcGo _ _ _ (_ :: _) _ _ = _); exact Pl.Ev.lcC_ (by walk_at "ev2") (by walk_at "ev2") (by walk_at "ev2"))
      | ((with_reducible show Pl.lcGo _ _ _ [] _ _ = _); exact Pl.Ev.lcN_)
      | ((with_reducible show Pl.Ev.lcK _ _ _ _ _ _ _ = _); exact Pl.Ev.lcY_ (by walk_at "ev2") (by walk_at "ev2"))
      | ((with_reducible show Pl.aItems _ _ _ = _); exact Pl.Ev.itemsL_ (by walk_at "ev2"))
      | ((with_reducible show Pl.sFor _ _ _ _ _ = _); exact Pl.Ev.for_ (by walk_at "ev2") (by walk_at "ev2"))
      | ((with_reducible show Pl.forGo _ _ [] _ _ = _); exact Pl.Ev.forN_)
      | ((with_reducible show Pl.forGo _ _ (_ :: _) _ _ = _); exact Pl.Ev.forC_ (by walk_at "ev2") (by walk_at "ev2") (by walk_at "ev2"))
      | ((with_reducible show Pl.fnF _ _ _ _ = _); exact Pl.Ev.fn_ (by walk_at "ev2") (by walk_at "ev2"))
      | ((with_reducible show cond _ _ _ = _); first | exact Pl.Ev.cond_tt (by focus (exact rfl)) (by walk_at "ev2") | exact Pl.Ev.cond_ff (by focus (exact rfl)) (by walk_at "ev2"))
      | ((with_reducible show Pl.gN _ _ _ = _); (simp only [Pl.gN, List.set_cons_zero, List.set_cons_succ]); exact rfl)
      | ((with_reducible show Pl.gTp _ _ _ = _); (simp only [Pl.gTp, Pl.gsCons, Pl.gsNil, Pl.gN, List.set_cons_zero, List.set_cons_succ]); exact rfl)
      | ((with_reducible show (some (List.set _ _ _) : Option Pl.Env) = _); (simp only [List.set_cons_zero, List.set_cons_succ]); exact rfl)
      | ((with_reducible show (some (Pl.wipeD _ _) : Option Pl.Env) = _); (simp only [Pl.wipeD, List.set_cons_zero, List.set_cons_succ]); exact rfl)
      | ((with_reducible show (some (Pl.startD _ _) : Option Pl.Env) = _); (simp only [Pl.startD, List.map_cons, List.map_nil, List.length_cons, List.length_nil, Nat.reduceAdd, Nat.reduceSub, Nat.zero_add, List.replicate_succ, List.replicate_zero, List.cons_append, List.nil_append]); exact rfl)
      | ((with_reducible show Pl.gInt _ (.int _) (.int _) _ = _); exact rfl)
      | ((with_reducible show Pl.gIsN _ _ _ _ = _); exact rfl)
      | ((with_reducible show Pl.gAdd (.int _) (.int _) _ = _); exact rfl)
      | ((with_reducible show Pl.gNeg (.int _) _ = _); exact rfl)
      | ((with_reducible show Pl.gAdd (.lst _) (.lst _) _ = _); exact Pl.Ev.addL_ (by focus (first | (simp; done) | decide)) (by walk_at "ev2"))
      | ((with_reducible show Pl.gMul (.lst _) (.int _) _ = _); exact Pl.Ev.mulL_ (by focus (first | (simp; done) | decide)) (by walk_at "ev2"))
      | ((with_reducible show (some (_ ++ _) : Option (List Pl.D)) = _); (simp only [List.cons_append, List.nil_append]); exact rfl)
      | ((with_reducible show (some (List.flatten _) : Option (List Pl.D)) = _); (simp only [Int.reduceToNat, List.replicate_succ, List.replicate_zero, List.flatten_cons, List.flatten_nil, List.cons_append, List.nil_append]); exact rfl)
      | ((with_reducible show (some (_ ++ _) : Option (List Pl.MO)) = _); (simp only [List.cons_append, List.nil_append]); exact rfl)
      | ((with_reducible show List.length _ = _); (simp only [List.length_cons, List.length_nil, Nat.reduceAdd, Nat.zero_add]); exact rfl)
      | ((with_reducible show Pl.gIx (.lst _) (.int _) _ = _); exact rfl)))
--EV end
namespace Law
open PySem L2 Pl Pl.Ev
def kinds : List Str := ["row", "sketch", "block", "outline", "feature", "field", "tools", "way", "paper", "clash", "twice", "place", "great", "point", "saying", "nofeature", "tool", "nothing", "notool", "lifted", "lowered", "beyond", "blocked", "deep", "ours", "value", "miss", "lookup", "fault", "runtime"]
theorem kinds_ok {ct : CT} {M : Mh} {n : Nat} {C : Addr} {bs : List Bool} (hX : Xn M n C) (hl : bs.length = 30) (hi : (isal ct).map (ct.isa C) = bs.map some) : ff_law_kinds ct [.ref n] M = some (.lst (((kinds.zip bs).filter (·.2)).map fun p => .str p.1), M) := by
  match bs, hl with
  | [b0, b1, b2, b3, b4, b5, b6, b7, b8, b9, c0, c1, c2, c3, c4, c5, c6, c7, c8, c9, d0, d1, d2, d3, d4, d5, d6, d7, d8, d9], _ =>
  simp only [isal, List.map_cons, List.map_nil, List.cons.injEq, and_true] at hi
  obtain ⟨i0, i1, i2, i3, i4, i5, i6, i7, i8, i9, j0, j1, j2, j3, j4, j5, j6, j7, j8, j9, k0, k1, k2, k3, k4, k5, k6, k7, k8, k9⟩ := hi
  refine fn_ (δ0 := [some (.ref n), none, none, none]) rfl ?_
  unfold gg_law_kinds
  replace i0 := isa_ (c := .ob ct.BadRow) hX rfl i0
  replace i1 := isa_ (c := .ob ct.BadSketch) hX rfl i1
  replace i2 := isa_ (c := .ob ct.BadBlock) hX rfl i2
  replace i3 := isa_ (c := .ob ct.BadOutline) hX rfl i3
  replace i4 := isa_ (c := .ob ct.BadFeature) hX rfl i4
  replace i5 := isa_ (c := .ob ct.BadField) hX rfl i5
  replace i6 := isa_ (c := .ob ct.BadTools) hX rfl i6
  replace i7 := isa_ (c := .ob ct.BadWay) hX rfl i7
  replace i8 := isa_ (c := .ob ct.BadPaper) hX rfl i8
  replace i9 := isa_ (c := .ob ct.Clash) hX rfl i9
  replace j0 := isa_ (c := .ob ct.Twice) hX rfl j0
  replace j1 := isa_ (c := .ob ct.OutOfPlace) hX rfl j1
  replace j2 := isa_ (c := .ob ct.TooGreat) hX rfl j2
  replace j3 := isa_ (c := .ob ct.NoPoint) hX rfl j3
  replace j4 := isa_ (c := .ob ct.NoSaying) hX rfl j4
  replace j5 := isa_ (c := .ob ct.NoFeature) hX rfl j5
  replace j6 := isa_ (c := .ob ct.NoTool) hX rfl j6
  replace j7 := isa_ (c := .ob ct.Nothing) hX rfl j7
  replace j8 := isa_ (c := .ob ct.NoToolThere) hX rfl j8
  replace j9 := isa_ (c := .ob ct.Lifted) hX rfl j9
  replace k0 := isa_ (c := .ob ct.Lowered) hX rfl k0
  replace k1 := isa_ (c := .ob ct.Beyond) hX rfl k1
  replace k2 := isa_ (c := .ob ct.Blocked) hX rfl k2
  replace k3 := isa_ (c := .ob ct.TooDeep) hX rfl k3
  replace k4 := isa_ (c := .ob ct.WorksError) hX rfl k4
  replace k5 := isa_ (c := .ty "ValueError") hX rfl k5
  replace k6 := isa_ (c := .ob ct.MissError) hX rfl k6
  replace k7 := isa_ (c := .ty "LookupError") hX rfl k7
  replace k8 := isa_ (c := .ob ct.FaultError) hX rfl k8
  replace k9 := isa_ (c := .ty "RuntimeError") hX rfl k9
  have P : lcGo (gTp (gsCons (gN 2) (gsCons (gN 3) gsNil))) (tV (eVar 3)) (eVar 2) [.tup [.str "row", .bl b0], .tup [.str "sketch", .bl b1], .tup [.str "block", .bl b2], .tup [.str "outline", .bl b3], .tup [.str "feature", .bl b4], .tup [.str "field", .bl b5], .tup [.str "tools", .bl b6], .tup [.str "way", .bl b7], .tup [.str "paper", .bl b8], .tup [.str "clash", .bl b9], .tup [.str "twice", .bl c0], .tup [.str "place", .bl c1], .tup [.str "great", .bl c2], .tup [.str "point", .bl c3], .tup [.str "saying", .bl c4], .tup [.str "nofeature", .bl c5], .tup [.str "tool", .bl c6], .tup [.str "nothing", .bl c7], .tup [.str "notool", .bl c8], .tup [.str "lifted", .bl c9], .tup [.str "lowered", .bl d0], .tup [.str "beyond", .bl d1], .tup [.str "blocked", .bl d2], .tup [.str "deep", .bl d3], .tup [.str "ours", .bl d4], .tup [.str "value", .bl d5], .tup [.str "miss", .bl d6], .tup [.str "lookup", .bl d7], .tup [.str "fault", .bl d8], .tup [.str "runtime", .bl d9]] [some (.ref n), some (.lst [.tup [.str "row", .bl b0], .tup [.str "sketch", .bl b1], .tup [.str "block", .bl b2], .tup [.str "outline", .bl b3], .tup [.str "feature", .bl b4], .tup [.str "field", .bl b5], .tup [.str "tools", .bl b6], .tup [.str "way", .bl b7], .tup [.str "paper", .bl b8], .tup [.str "clash", .bl b9], .tup [.str "twice", .bl c0], .tup [.str "place", .bl c1], .tup [.str "great", .bl c2], .tup [.str "point", .bl c3], .tup [.str "saying", .bl c4], .tup [.str "nofeature", .bl c5], .tup [.str "tool", .bl c6], .tup [.str "nothing", .bl c7], .tup [.str "notool", .bl c8], .tup [.str "lifted", .bl c9], .tup [.str "lowered", .bl d0], .tup [.str "beyond", .bl d1], .tup [.str "blocked", .bl d2], .tup [.str "deep", .bl d3], .tup [.str "ours", .bl d4], .tup [.str "value", .bl d5], .tup [.str "miss", .bl d6], .tup [.str "lookup", .bl d7], .tup [.str "fault", .bl d8], .tup [.str "runtime", .bl d9]]), none, none] M = some (((kinds.zip [b0, b1, b2, b3, b4, b5, b6, b7, b8, b9, c0, c1, c2, c3, c4, c5, c6, c7, c8, c9, d0, d1, d2, d3, d4, d5, d6, d7, d8, d9]).filter (·.2)).map fun p => .str p.1, M) := pick_go (kinds.zip [b0, b1, b2, b3, b4, b5, b6, b7, b8, b9, c0, c1, c2, c3, c4, c5, c6, c7, c8, c9, d0, d1, d2, d3, d4, d5, d6, d7, d8, d9]) none none
  have hl2 : (((kinds.zip [b0, b1, b2, b3, b4, b5, b6, b7, b8, b9, c0, c1, c2, c3, c4, c5, c6, c7, c8, c9, d0, d1, d2, d3, d4, d5, d6, d7, d8, d9]).filter (·.2)).map fun p => D.str p.1).length ≤ 1000 := Nat.le_trans (by rw [List.length_map]; exact List.length_filter_le _ _) (by simp [kinds])
  walk_at "ev2"
end Law

namespace Law
open PySem L2 Pl Pl.Ev
theorem exM {F : Fn} {ds : List D} {M M1 : Mh} {d : D} (h : F ds M = some (d, M1)) : ∃ M', F ds M = some (d, M') := ⟨_, h⟩
def Kd (ct : CT) (C : Addr) (ys : List D) : Prop := ∀ (M : Mh) (n : Nat), Xn M n C → ff_law_kinds ct [.ref n] M = some (.lst ys, M)
theorem kd_ {ct : CT} {C : Addr} {ys : List D} {M : Mh} {n : Nat} (hX : Xn M n C) (h : Kd ct C ys) : ff_law_kinds ct [.ref n] M = some (.lst ys, M) := h M n hX
theorem xn1 {M : Mh} {l : List MO} {k m : Nat} {C : Addr} {fs : List (Str × D)} (h1 : l[k]? = some (.exo C (some (M.length + m)))) (h2 : l[m]? = some (.exd fs)) : Xn (M ++ l) (M.length + k) C := .inr ⟨_, _, at_ h1, at_ h2⟩
theorem xnT {M : Mh} {l : List MO} {k : Nat} {C : Addr} (h1 : l[k]? = some (.exn C)) : Xn (M ++ l) (M.length + k) C := .inl (at_ h1)
theorem kd_BadRow {ct : CT} (hI : Isa ct) : Kd ct ct.BadRow [.str "row", .str "ours", .str "value"] := fun M n h => kinds_ok (bs := [true, false, false, false, false, false, false, false, false, false, false, false, false, false, false, false, false, false, false, false, false, false, false, false, true, true, false, false, false, false]) h rfl hI.l_BadRow
theorem kd_BadSketch {ct : CT} (hI : Isa ct) : Kd ct ct.BadSketch [.str "sketch", .str "ours", .str "value"] := fun M n h => kinds_ok (bs := [false, true, false, false, false, false, false, false, false, false, false, false, false, false, false, false, false, false, false, false, false, false, false, false, true, true, false, false, false, false]) h rfl hI.l_BadSketch
theorem kd_BadBlock {ct : CT} (hI : Isa ct) : Kd ct ct.BadBlock [.str "block", .str "ours", .str "value"] := fun M n h => kinds_ok (bs := [false, false, true, false, false, false, false, false, false, false, false, false, false, false, false, false, false, false, false, false, false, false, false, false, true, true, false, false, false, false]) h rfl hI.l_BadBlock
theorem kd_BadOutline {ct : CT} (hI : Isa ct) : Kd ct ct.BadOutline [.str "outline", .str "ours", .str "value"] := fun M n h => kinds_ok (bs := [false, false, false, true, false, false, false, false, false, false, false, false, false, false, false, false, false, false, false, false, false, false, false, false, true, true, false, false, false, false]) h rfl hI.l_BadOutline
theorem kd_BadFeature {ct : CT} (hI : Isa ct) : Kd ct ct.BadFeature [.str "feature", .str "ours", .str "value"] := fun M n h => kinds_ok (bs := [false, false, false, false, true, false, false, false, false, false, false, false, false, false, false, false, false, false, false, false, false, false, false, false, true, true, false, false, false, false]) h rfl hI.l_BadFeature
theorem kd_BadField {ct : CT} (hI : Isa ct) : Kd ct ct.BadField [.str "field", .str "ours", .str "value"] := fun M n h => kinds_ok (bs := [false, false, false, false, false, true, false, false, false, false, false, false, false, false, false, false, false, false, false, false, false, false, false, false, true, true, false, false, false, false]) h rfl hI.l_BadField
theorem kd_BadTools {ct : CT} (hI : Isa ct) : Kd ct ct.BadTools [.str "tools", .str "ours", .str "value"] := fun M n h => kinds_ok (bs := [false, false, false, false, false, false, true, false, false, false, false, false, false, false, false, false, false, false, false, false, false, false, false, false, true, true, false, false, false, false]) h rfl hI.l_BadTools
theorem kd_BadWay {ct : CT} (hI : Isa ct) : Kd ct ct.BadWay [.str "way", .str "ours", .str "value"] := fun M n h => kinds_ok (bs := [false, false, false, false, false, false, false, true, false, false, false, false, false, false, false, false, false, false, false, false, false, false, false, false, true, true, false, false, false, false]) h rfl hI.l_BadWay
theorem kd_BadPaper {ct : CT} (hI : Isa ct) : Kd ct ct.BadPaper [.str "paper", .str "ours", .str "value"] := fun M n h => kinds_ok (bs := [false, false, false, false, false, false, false, false, true, false, false, false, false, false, false, false, false, false, false, false, false, false, false, false, true, true, false, false, false, false]) h rfl hI.l_BadPaper
theorem kd_Clash {ct : CT} (hI : Isa ct) : Kd ct ct.Clash [.str "clash", .str "ours", .str "value"] := fun M n h => kinds_ok (bs := [false, false, false, false, false, false, false, false, false, true, false, false, false, false, false, false, false, false, false, false, false, false, false, false, true, true, false, false, false, false]) h rfl hI.l_Clash
theorem kd_Twice {ct : CT} (hI : Isa ct) : Kd ct ct.Twice [.str "twice", .str "ours", .str "value"] := fun M n h => kinds_ok (bs := [false, false, false, false, false, false, false, false, false, false, true, false, false, false, false, false, false, false, false, false, false, false, false, false, true, true, false, false, false, false]) h rfl hI.l_Twice
theorem kd_OutOfPlace {ct : CT} (hI : Isa ct) : Kd ct ct.OutOfPlace [.str "place", .str "ours", .str "value"] := fun M n h => kinds_ok (bs := [false, false, false, false, false, false, false, false, false, false, false, true, false, false, false, false, false, false, false, false, false, false, false, false, true, true, false, false, false, false]) h rfl hI.l_OutOfPlace
theorem kd_TooGreat {ct : CT} (hI : Isa ct) : Kd ct ct.TooGreat [.str "great", .str "ours", .str "value"] := fun M n h => kinds_ok (bs := [false, false, false, false, false, false, false, false, false, false, false, false, true, false, false, false, false, false, false, false, false, false, false, false, true, true, false, false, false, false]) h rfl hI.l_TooGreat
theorem kd_NoPoint {ct : CT} (hI : Isa ct) : Kd ct ct.NoPoint [.str "point", .str "miss", .str "lookup"] := fun M n h => kinds_ok (bs := [false, false, false, false, false, false, false, false, false, false, false, false, false, true, false, false, false, false, false, false, false, false, false, false, false, false, true, true, false, false]) h rfl hI.l_NoPoint
theorem kd_NoSaying {ct : CT} (hI : Isa ct) : Kd ct ct.NoSaying [.str "saying", .str "miss", .str "lookup"] := fun M n h => kinds_ok (bs := [false, false, false, false, false, false, false, false, false, false, false, false, false, false, true, false, false, false, false, false, false, false, false, false, false, false, true, true, false, false]) h rfl hI.l_NoSaying
theorem kd_NoFeature {ct : CT} (hI : Isa ct) : Kd ct ct.NoFeature [.str "nofeature", .str "miss", .str "lookup"] := fun M n h => kinds_ok (bs := [false, false, false, false, false, false, false, false, false, false, false, false, false, false, false, true, false, false, false, false, false, false, false, false, false, false, true, true, false, false]) h rfl hI.l_NoFeature
theorem kd_NoTool {ct : CT} (hI : Isa ct) : Kd ct ct.NoTool [.str "tool", .str "miss", .str "lookup"] := fun M n h => kinds_ok (bs := [false, false, false, false, false, false, false, false, false, false, false, false, false, false, false, false, true, false, false, false, false, false, false, false, false, false, true, true, false, false]) h rfl hI.l_NoTool
theorem kd_Nothing {ct : CT} (hI : Isa ct) : Kd ct ct.Nothing [.str "nothing", .str "miss", .str "lookup"] := fun M n h => kinds_ok (bs := [false, false, false, false, false, false, false, false, false, false, false, false, false, false, false, false, false, true, false, false, false, false, false, false, false, false, true, true, false, false]) h rfl hI.l_Nothing
theorem kd_NoToolThere {ct : CT} (hI : Isa ct) : Kd ct ct.NoToolThere [.str "notool", .str "fault", .str "runtime"] := fun M n h => kinds_ok (bs := [false, false, false, false, false, false, false, false, false, false, false, false, false, false, false, false, false, false, true, false, false, false, false, false, false, false, false, false, true, true]) h rfl hI.l_NoToolThere
theorem kd_Lifted {ct : CT} (hI : Isa ct) : Kd ct ct.Lifted [.str "lifted", .str "fault", .str "runtime"] := fun M n h => kinds_ok (bs := [false, false, false, false, false, false, false, false, false, false, false, false, false, false, false, false, false, false, false, true, false, false, false, false, false, false, false, false, true, true]) h rfl hI.l_Lifted
theorem kd_Lowered {ct : CT} (hI : Isa ct) : Kd ct ct.Lowered [.str "lowered", .str "fault", .str "runtime"] := fun M n h => kinds_ok (bs := [false, false, false, false, false, false, false, false, false, false, false, false, false, false, false, false, false, false, false, false, true, false, false, false, false, false, false, false, true, true]) h rfl hI.l_Lowered
theorem kd_Beyond {ct : CT} (hI : Isa ct) : Kd ct ct.Beyond [.str "beyond", .str "fault", .str "runtime"] := fun M n h => kinds_ok (bs := [false, false, false, false, false, false, false, false, false, false, false, false, false, false, false, false, false, false, false, false, false, true, false, false, false, false, false, false, true, true]) h rfl hI.l_Beyond
theorem kd_Blocked {ct : CT} (hI : Isa ct) : Kd ct ct.Blocked [.str "blocked", .str "fault", .str "runtime"] := fun M n h => kinds_ok (bs := [false, false, false, false, false, false, false, false, false, false, false, false, false, false, false, false, false, false, false, false, false, false, true, false, false, false, false, false, true, true]) h rfl hI.l_Blocked
theorem kd_TooDeep {ct : CT} (hI : Isa ct) : Kd ct ct.TooDeep [.str "deep", .str "fault", .str "runtime"] := fun M n h => kinds_ok (bs := [false, false, false, false, false, false, false, false, false, false, false, false, false, false, false, false, false, false, false, false, false, false, false, true, false, false, false, false, true, true]) h rfl hI.l_TooDeep

end Law
--EV begin
local macro_rules
  | `(tactic| walk_at "ev3") => `(tactic| first
    | (with_reducible assumption)
    | ((with_reducible show List.length _ ≤ 1000); focus (first | (simp; done) | decide))
    | ((with_reducible show ∀ N : Pl.Mh, _ = _); intro N; first | exact Law.ini1 (by assumption) | exact Law.ini2 (by assumption) (by assumption))
    | ((with_reducible show _ = _); first
      | ((with_reducible show Pl.eVar _ _ _ = _); exact Pl.Ev.var_ rfl)
      | ((with_reducible show Pl.eC _ _ _ = _); exact Pl.Ev.c_)
      | ((with_reducible show Pl.aNil _ _ = _); exact Pl.Ev.nil_)
      | ((with_reducible show Pl.tTrue _ _ = _); exact Pl.Ev.tt_)
      | ((with_reducible show Pl.sNil _ _ = _); exact Pl.Ev.snil_)
      | ((with_reducible show Pl.aCons _ _ _ _ = _); exact Pl.Ev.cons_ (by walk_at "ev3") (by walk_at "ev3"))
      | ((with_reducible show Pl.eTup _ _ _ = _); exact Pl.Ev.tup_ (by walk_at "ev3") (by walk_at "ev3"))
      | ((with_reducible show Pl.eOp _ _ _ _ _ = _); exact Pl.Ev.op_ (by walk_at "ev3") (by walk_at "ev3") (by walk_at "ev3"))
      | ((with_reducible show Pl.eUn _ _ _ _ = _); exact Pl.Ev.un_ (by walk_at "ev3") (by walk_at "ev3"))
      | ((with_reducible show Pl.eB _ _ _ _ = _); exact Pl.Ev.b_ (by walk_at "ev3") (by walk_at "ev3"))
      | ((with_reducible show Pl.eCall _ _ [] _ _ = _); exact Pl.Ev.call0_ (by walk_at "ev3") (by walk_at "ev3"))
      | ((with_reducible show Pl.eCall _ _ _ _ _ = _); exact Pl.Ev.callD_ (by walk_at "ev3") (by walk_at "ev3"))
      | ((with_reducible show Pl.eCallK _ _ _ _ _ _ = _); exact Pl.Ev.callK_ (by walk_at "ev3") (by walk_at "ev3") (by walk_at "ev3"))
      | ((with_reducible show Pl.eChain _ _ _ _ _ _ _ = _); exact Pl.Ev.chain_ (by walk_at "ev3") (by walk_at "ev3") (by walk_at "ev3") (by walk_at "ev3"))
      | ((with_reducible show Pl.eIf _ _ _ _ _ = _); exact Pl.Ev.if_ (by walk_at "ev3") (by walk_at "ev3"))
      | ((with_reducible show Pl.eNt _ _ _ = _); exact Pl.Ev.nt_ (by walk_at "ev3"))
      | ((with_reducible show Pl.eAn _ _ _ _ = _); exact Pl.Ev.an_ (by walk_at "ev3") (by walk_at "ev3"))
      | ((with_reducible show Pl.eOr _ _ _ _ = _); exact Pl.Ev.or_ (by walk_at "ev3") (by walk_at "ev3"))
      | ((with_reducible show Pl.tV _ _ _ = _); exact Pl.Ev.tv_ (by walk_at "ev3"))
      | ((with_reducible show Pl.tNt _ _ _ = _); exact Pl.Ev.tnt_ (by walk_at "ev3"))
      | ((with_reducible show Pl.tAn _ _ _ _ = _); exact Pl.Ev.tan_ (by walk_at "ev3") (by walk_at "ev3"))
      | ((with_reducible show Pl.tOrr _ _ _ _ = _); exact Pl.Ev.tor_ (by walk_at "ev3") (by walk_at "ev3"))
      | ((with_reducible show Pl.eLst _ _ _ = _); exact Pl.Ev.lst_ (by walk_at "ev3") (by walk_at "ev3"))
      | ((with_reducible show Pl.eNew _ _ _ = _); exact Pl.Ev.new_ (by walk_at "ev3") (by walk_at "ev3"))
      | ((with_reducible show Pl.eS1 _ _ _ _ _ = _); exact Pl.Ev.s1_ (by walk_at "ev3") (by walk_at "ev3") (by walk_at "ev3"))
      | ((with_reducible show Pl.sSeq (Pl.sIf _ _ _) _ _ _ = _); exact Pl.Ev.seqIf_ (by walk_at "ev3") (by walk_at "ev3"))
      | ((with_reducible show Pl.sSeq Pl.sNil _ _ _ = _); exact Pl.Ev.seq0_ (by walk_at "ev3"))
      | ((with_reducible show Pl.sSeq (Pl.sRet _) _ _ _ = _); exact Pl.Ev.seqRet_ (by walk_at "ev3"))
      | ((with_reducible show Pl.sSeq _ _ _ _ = _); exact Pl.Ev.seq_ (by walk_at "ev3") (by walk_at "ev3"))
      | ((with_reducible show Pl.sRet _ _ _ = _); exact Pl.Ev.ret_ (by walk_at "ev3"))
      | ((with_reducible show Pl.sAs _ _ _ _ = _); exact Pl.Ev.sas_ (by walk_at "ev3") (by walk_at "ev3"))
      | ((with_reducible show Pl.sPar _ _ _ _ _ _ = _); exact Pl.Ev.spar_ (by walk_at "ev3") (by walk_at "ev3") (by walk_at "ev3"))
      | ((with_reducible show Pl.sPar3 _ _ _ _ _ _ _ _ = _); exact Pl.Ev.spar3_ (by walk_at "ev3") (by walk_at "ev3") (by walk_at "ev3") (by walk_at "ev3"))
      | ((with_reducible show Pl.sAs2 _ _ _ _ _ = _); exact Pl.Ev.sas2_ (by walk_at "ev3") (by walk_at "ev3") (by walk_at "ev3"))
      | ((with_reducible show Pl.sIf _ _ _ _ _ = _); exact Pl.Ev.sif_ (by walk_at "ev3") (by walk_at "ev3"))
      | ((with_reducible show Pl.sE _ _ _ = _); exact Pl.Ev.se_ (by walk_at "ev3"))
      | ((with_reducible show Pl.eLc _ _ _ _ _ _ _ = _); exact Pl.Ev.lc_ (by walk_at "ev3") (by walk_at "ev3") (by walk_at "ev3") (by walk_at "ev3"))
      | ((with_reducible show Pl.lcGo _ _ _ (_ :: _) _ _ = _); exact Pl.Ev.lcC_ (by walk_at "ev3") (by walk_at "ev3") (by walk_at "ev3"))
      | ((with_reducible show Pl.lcGo _ _ _ [] _ _ = _); exact Pl.Ev.lcN_)
      | ((with_reducible show Pl.Ev.lcK _ _ _ _ _ _ _ = _); exact Pl.Ev.lcY_ (by walk_at "ev3") (by walk_at "ev3"))
      | ((with_reducible show Pl.aItems _ _ _ = _); exact Pl.Ev.itemsL_ (by walk_at "ev3"))
      | ((with_reducible show Pl.sFor _ _ _ _ _ = _); exact Pl.Ev.for_ (by walk_at "ev3") (by walk_at "ev3"))
      | ((with_reducible show Pl.forGo _ _ [] _ _ = _); exact Pl.Ev.forN_)
      | ((with_reducible show Pl.forGo _ _ (_ :: _) _ _ = _); exact Pl.Ev.forC_ (by walk_at "ev3") (by walk_at "ev3") (by walk_at "ev3"))
      | ((with_reducible show Pl.fnF _ _ _ _ = _); exact Pl.Ev.fn_ (by walk_at "ev3") (by walk_at "ev3"))
      | ((with_reducible show cond _ _ _ = _); first | exact Pl.Ev.cond_tt (by focus (exact rfl)) (by walk_at "ev3") | exact Pl.Ev.cond_ff (by focus (exact rfl)) (by walk_at "ev3"))
      | ((with_reducible show Pl.gN _ _ _ = _); (simp only [Pl.gN, List.set_cons_zero, List.set_cons_succ]); exact rfl)
      | ((with_reducible show Pl.gTp _ _ _ = _); (simp only [Pl.gTp, Pl.gsCons, Pl.gsNil, Pl.gN, List.set_cons_zero, List.set_cons_succ]); exact rfl)
      | ((with_reducible show (some (List.set _ _ _) : Option Pl.Env) = _); (simp only [List.set_cons_zero, List.set_cons_succ]); exact rfl)
      | ((with_reducible show (some (Pl.wipeD _ _) : Option Pl.Env) = _); (simp only [Pl.wipeD, List.set_cons_zero, List.set_cons_succ]); exact rfl)
      | ((with_reducible show (some (Pl.startD _ _) : Option Pl.Env) = _); (simp only [Pl.startD, List.map_cons, List.map_nil, List.length_cons, List.length_nil, Nat.reduceAdd, Nat.reduceSub, Nat.zero_add, List.replicate_succ, List.replicate_zero, List.cons_append, List.nil_append]); exact rfl)
      | ((with_reducible show Pl.gInt _ (.int _) (.int _) _ = _); exact rfl)
      | ((with_reducible show Pl.gIsN _ _ _ _ = _); exact rfl)
      | ((with_reducible show Pl.gAdd (.int _) (.int _) _ = _); exact rfl)
      | ((with_reducible show Pl.gNeg (.int _) _ = _); exact rfl)
      | ((with_reducible show Pl.gAdd (.lst _) (.lst _) _ = _); exact Pl.Ev.addL_ (by focus (first | (simp; done) | decide)) (by walk_at "ev3"))
      | ((with_reducible show Pl.gMul (.lst _) (.int _) _ = _); exact Pl.Ev.mulL_ (by focus (first | (simp; done) | decide)) (by walk_at "ev3"))
      | ((with_reducible show (some (_ ++ _) : Option (List Pl.D)) = _); (simp only [List.cons_append, List.nil_append]); exact rfl)
      | ((with_reducible show (some (List.flatten _) : Option (List Pl.D)) = _); (simp only [Int.reduceToNat, List.replicate_succ, List.replicate_zero, List.flatten_cons, List.flatten_nil, List.cons_append, List.nil_append]); exact rfl)
      | ((with_reducible show (some (_ ++ _) : Option (List Pl.MO)) = _); (simp only [List.cons_append, List.nil_append]); exact rfl)
      | ((with_reducible show List.length _ = _); (simp only [List.length_cons, List.length_nil, Nat.reduceAdd, Nat.zero_add]); exact rfl)
      | ((with_reducible show Pl.gIx (.lst _) (.int _) _ = _); exact rfl)
      | ((with_reducible show Pl.eMk _ _ _ _ _ _ = _); exact Law.mk_ (by walk_at "ev3") (by walk_at "ev3") (by walk_at "ev3") (by walk_at "ev3"))
      | ((with_reducible show Pl.eMkK _ _ _ _ _ _ = _); exact Law.mkK_ (by walk_at "ev3") (by walk_at "ev3") (by walk_at "ev3") (by walk_at "ev3"))
      | ((with_reducible show Pl.eMkT _ _ _ _ = _); exact Law.mkT_ (by walk_at "ev3") (by walk_at "ev3") (by walk_at "ev3"))
      | ((with_reducible show Pl.eGf _ _ _ _ _ = _); exact Law.gf_ (by walk_at "ev3") (by walk_at "ev3") (by walk_at "ev3") (by walk_at "ev3") (by walk_at "ev3"))
      | ((with_reducible show Law.ff_law_kinds _ _ _ = _); exact Law.kd_ (by first | exact Law.xnT rfl | exact Law.xn1 rfl rfl) (by assumption))
      | (with_reducible exact Law.look1)
      | (with_reducible exact Law.look2)
      | (with_reducible exact Law.lookW)
      | (with_reducible exact Law.lookN)
      | ((with_reducible show Pl.gEq PySem.PyData.eqv _ _ _ = _); exact Law.self_eq (by walk_at "ev3") (by walk_at "ev3"))
      | ((with_reducible show Pl.gEq _ _ _ _ = _); exact Law.self_ne (by walk_at "ev3") (by walk_at "ev3"))
      | ((with_reducible show Pl.toP _ = _); exact rfl)
      | ((with_reducible show PySem.SeqAt.shaped _ = true); focus (first | decide +kernel | (simp [PySem.SeqAt.shaped, PySem.PyData.canLay0, PySem.PyData.canLayAll0, PySem.PyData.depth, PySem.PyData.depthAll, *]; done)))
      | ((with_reducible show _[_]? = _); exact rfl)))
--EV end
namespace Law
open PySem L2 Pl Pl.Ev
theorem by_hand {ct : CT} (hI : Isa ct) {f : Int} {s : Str} (hs : PyData.strOk s = true) (M : Mh) : ∃ M', ff_law_by_hand ct [.int f, .str s] M = some (.bl true, M') := by
  have K_BadRow := kd_BadRow hI
  have K_BadSketch := kd_BadSketch hI
  have K_BadBlock := kd_BadBlock hI
  have K_BadOutline := kd_BadOutline hI
  have K_BadFeature := kd_BadFeature hI
  have K_BadField := kd_BadField hI
  have K_BadTools := kd_BadTools hI
  have K_BadWay := kd_BadWay hI
  have K_BadPaper := kd_BadPaper hI
  have K_Clash := kd_Clash hI
  have K_Twice := kd_Twice hI
  have K_OutOfPlace := kd_OutOfPlace hI
  have K_TooGreat := kd_TooGreat hI
  have K_NoPoint := kd_NoPoint hI
  have K_NoSaying := kd_NoSaying hI
  have K_NoFeature := kd_NoFeature hI
  have K_NoTool := kd_NoTool hI
  have K_Nothing := kd_Nothing hI
  have K_NoToolThere := kd_NoToolThere hI
  have K_Lifted := kd_Lifted hI
  have K_Lowered := kd_Lowered hI
  have K_Beyond := kd_Beyond hI
  have K_Blocked := kd_Blocked hI
  have K_TooDeep := kd_TooDeep hI
  have s1 : PyData.strOk "points" = true := by decide +kernel
  cases hI
  rw [← List.append_nil M]
  unfold ff_law_by_hand gg_law_by_hand
  exact exM (by walk_at "ev3")
end Law

--EV begin
local macro_rules
  | `(tactic| walk_at "ev3") => `(tactic| first
    | (with_reducible assumption)
    | ((with_reducible show List.length _ ≤ 1000); focus (first | (simp; done) | decide))
    | ((with_reducible show ∀ N : Pl.Mh, _ = _); intro N; first | exact Law.ini1 (by assumption) | exact Law.ini2 (by assumption) (by assumption))
    | ((with_reducible show _ = _); first
      | ((with_reducible show Pl.eVar _ _ _ = _); exact Pl.Ev.var_ rfl)
      | ((with_reducible show Pl.eC _ _ _ = _); exact Pl.Ev.c_)
      | ((with_reducible show Pl.aNil _ _ = _); exact Pl.Ev.nil_)
      | ((with_reducible show Pl.tTrue _ _ = _); exact Pl.Ev.tt_)
      | ((with_reducible show Pl.sNil _ _ = _); exact Pl.Ev.snil_)
      | ((with_reducible show Pl.aCons _ _ _ _ = _); exact Pl.Ev.cons_ (by walk_at "ev3") (by walk_at "ev3"))
      | ((with_reducible show Pl.eTup _ _ _ = _); exact Pl.Ev.tup_ (by walk_at "ev3") (by walk_at "ev3"))
      | ((with_reducible show Pl.eOp _ _ _ _ _ = _); exact Pl.Ev.op_ (by walk_at "ev3") (by walk_at "ev3") (by walk_at "ev3"))
      | ((with_reducible show Pl.eUn _ _ _ _ = _); exact Pl.Ev.un_ (by walk_at "ev3") (by walk_at "ev3"))
      | ((with_reducible show Pl.eB _ _ _ _ = _); exact Pl.Ev.b_ (by walk_at "ev3") (by walk_at "ev3"))
      | ((with_reducible show Pl.eCall _ _ [] _ _ = _); exact Pl.Ev.call0_ (by walk_at "ev3") (by walk_at "ev3"))
      | ((with_reducible show Pl.eCall _ _ _ _ _ = _); exact Pl.Ev.callD_ (by walk_at "ev3") (by walk_at "ev3"))
      | ((with_reducible show Pl.eCallK _ _ _ _ _ _ = _); exact Pl.Ev.callK_ (by walk_at "ev3") (by walk_at "ev3") (by walk_at "ev3"))
      | ((with_reducible show Pl.eChain _ _ _ _ _ _ _ = _); exact Pl.Ev.chain_ (by walk_at "ev3") (by walk_at "ev3") (by walk_at "ev3") (by walk_at "ev3"))
      | ((with_reducible show Pl.eIf _ _ _ _ _ = _); exact Pl.Ev.if_ (by walk_at "ev3") (by walk_at "ev3"))
      | ((with_reducible show Pl.eNt _ _ _ = _); exact Pl.Ev.nt_ (by walk_at "ev3"))
      | ((with_reducible show Pl.eAn _ _ _ _ = _); exact Pl.Ev.an_ (by walk_at "ev3") (by walk_at "ev3"))
      | ((with_reducible show Pl.eOr _ _ _ _ = _); exact Pl.Ev.or_ (by walk_at "ev3") (by walk_at "ev3"))
      | ((with_reducible show Pl.tV _ _ _ = _); exact Pl.Ev.tv_ (by walk_at "ev3"))
      | ((with_reducible show Pl.tNt _ _ _ = _); exact Pl.Ev.tnt_ (by walk_at "ev3"))
      | ((with_reducible show Pl.tAn _ _ _ _ = _); exact Pl.Ev.tan_ (by walk_at "ev3") (by walk_at "ev3"))
      | ((with_reducible show Pl.tOrr _ _ _ _ = _); exact Pl.Ev.tor_ (by walk_at "ev3") (by walk_at "ev3"))
      | ((with_reducible show Pl.eLst _ _ _ = _); exact Pl.Ev.lst_ (by walk_at "ev3") (by walk_at "ev3"))
      | ((with_reducible show Pl.eNew _ _ _ = _); exact Pl.Ev.new_ (by walk_at "ev3") (by walk_at "ev3"))
      | ((with_reducible show Pl.eS1 _ _ _ _ _ = _); exact Pl.Ev.s1_ (by walk_at "ev3") (by walk_at "ev3") (by walk_at "ev3"))
      | ((with_reducible show Pl.sSeq (Pl.sIf _ _ _) _ _ _ = _); exact Pl.Ev.seqIf_ (by walk_at "ev3") (by walk_at "ev3"))
      | ((with_reducible show Pl.sSeq Pl.sNil _ _ _ = _); exact Pl.Ev.seq0_ (by walk_at "ev3"))
      | ((with_reducible show Pl.sSeq (Pl.sRet _) _ _ _ = _); exact Pl.Ev.seqRet_ (by walk_at "ev3"))
      | ((with_reducible show Pl.sSeq _ _ _ _ = _); exact Pl.Ev.seq_ (by walk_at "ev3") (by walk_at "ev3"))
      | ((with_reducible show Pl.sRet _ _ _ = _); exact Pl.Ev.ret_ (by walk_at "ev3"))
      | ((with_reducible show Pl.sAs _ _ _ _ = _); exact Pl.Ev.sas_ (by walk_at "ev3") (by walk_at "ev3"))
      | ((with_reducible show Pl.sPar _ _ _ _ _ _ = _); exact Pl.Ev.spar_ (by walk_at "ev3") (by walk_at "ev3") (by walk_at "ev3"))
      | ((with_reducible show Pl.sPar3 _ _ _ _ _ _ _ _ = _); exact Pl.Ev.spar3_ (by walk_at "ev3") (by walk_at "ev3") (by walk_at "ev3") (by walk_at "ev3"))
      | ((with_reducible show Pl.sAs2 _ _ _ _ _ = _); exact Pl.Ev.sas2_ (by walk_at "ev3") (by walk_at "ev3") (by walk_at "ev3"))
      | ((with_reducible show Pl.sIf _ _ _ _ _ = _); exact Pl.Ev.sif_ (by walk_at "ev3") (by walk_at "ev3"))
      | ((with_reducible show Pl.sE _ _ _ = _); exact Pl.Ev.se_ (by walk_at "ev3"))
      | ((with_reducible show Pl.eLc _ _ _ _ _ _ _ = _); exact Pl.Ev.lc_ (by walk_at "ev3") (by walk_at "ev3") (by walk_at "ev3") (by walk_at "ev3"))
      | ((with_reducible show Pl.lcGo _ _ _ (_ :: _) _ _ = _); exact Pl.Ev.lcC_ (by walk_at "ev3") (by walk_at "ev3") (by walk_at "ev3"))
      | ((with_reducible show Pl.lcGo _ _ _ [] _ _ = _); exact Pl.Ev.lcN_)
      | ((with_reducible show Pl.Ev.lcK _ _ _ _ _ _ _ = _); exact Pl.Ev.lcY_ (by walk_at "ev3") (by walk_at "ev3"))
      | ((with_reducible show Pl.aItems _ _ _ = _); exact Pl.Ev.itemsL_ (by walk_at "ev3"))
      | ((with_reducible show Pl.sFor _ _ _ _ _ = _); exact Pl.Ev.for_ (by walk_at "ev3") (by walk_at "ev3"))
      | ((with_reducible show Pl.forGo _ _ [] _ _ = _); exact Pl.Ev.forN_)
      | ((with_reducible show Pl.forGo _ _ (_ :: _) _ _ = _); exact Pl.Ev.forC_ (by walk_at "ev3") (by walk_at "ev3") (by walk_at "ev3"))
      | ((with_reducible show Pl.fnF _ _ _ _ = _); exact Pl.Ev.fn_ (by walk_at "ev3") (by walk_at "ev3"))
      | ((with_reducible show cond _ _ _ = _); first | exact Pl.Ev.cond_tt (by focus (exact rfl)) (by walk_at "ev3") | exact Pl.Ev.cond_ff (by focus (exact rfl)) (by walk_at "ev3"))
      | ((with_reducible show Pl.gN _ _ _ = _); (simp only [Pl.gN, List.set_cons_zero, List.set_cons_succ]); exact rfl)
      | ((with_reducible show Pl.gTp _ _ _ = _); (simp only [Pl.gTp, Pl.gsCons, Pl.gsNil, Pl.gN, List.set_cons_zero, List.set_cons_succ]); exact rfl)
      | ((with_reducible show (some (List.set _ _ _) : Option Pl.Env) = _); (simp only [List.set_cons_zero, List.set_cons_succ]); exact rfl)
      | ((with_reducible show (some (Pl.wipeD _ _) : Option Pl.Env) = _); (simp only [Pl.wipeD, List.set_cons_zero, List.set_cons_succ]); exact rfl)
      | ((with_reducible show (some (Pl.startD _ _) : Option Pl.Env) = _); (simp only [Pl.startD, List.map_cons, List.map_nil, List.length_cons, List.length_nil, Nat.reduceAdd, Nat.reduceSub, Nat.zero_add, List.replicate_succ, List.replicate_zero, List.cons_append, List.nil_append]); exact rfl)
      | ((with_reducible show Pl.gInt _ (.int _) (.int _) _ = _); exact rfl)
      | ((with_reducible show Pl.gIsN _ _ _ _ = _); exact rfl)
      | ((with_reducible show Pl.gAdd (.int _) (.int _) _ = _); exact rfl)
      | ((with_reducible show Pl.gNeg (.int _) _ = _); exact rfl)
      | ((with_reducible show Pl.gAdd (.lst _) (.lst _) _ = _); exact Pl.Ev.addL_ (by focus (first | (simp; done) | decide)) (by walk_at "ev3"))
      | ((with_reducible show Pl.gMul (.lst _) (.int _) _ = _); exact Pl.Ev.mulL_ (by focus (first | (simp; done) | decide)) (by walk_at "ev3"))
      | ((with_reducible show (some (_ ++ _) : Option (List Pl.D)) = _); (simp only [List.cons_append, List.nil_append]); exact rfl)
      | ((with_reducible show (some (List.flatten _) : Option (List Pl.D)) = _); (simp only [Int.reduceToNat, List.replicate_succ, List.replicate_zero, List.flatten_cons, List.flatten_nil, List.cons_append, List.nil_append]); exact rfl)
      | ((with_reducible show (some (_ ++ _) : Option (List Pl.MO)) = _); (simp only [List.cons_append, List.nil_append]); exact rfl)
      | ((with_reducible show List.length _ = _); (simp only [List.length_cons, List.length_nil, Nat.reduceAdd, Nat.zero_add]); exact rfl)
      | ((with_reducible show Pl.gIx (.lst _) (.int _) _ = _); exact rfl)
      | ((with_reducible show Pl.eMk _ _ _ _ _ _ = _); exact Law.mk_ (by walk_at "ev3") (by walk_at "ev3") (by walk_at "ev3") (by walk_at "ev3"))
      | ((with_reducible show Pl.eMkK _ _ _ _ _ _ = _); exact Law.mkK_ (by walk_at "ev3") (by walk_at "ev3") (by walk_at "ev3") (by walk_at "ev3"))
      | ((with_reducible show Pl.eMkT _ _ _ _ = _); exact Law.mkT_ (by walk_at "ev3") (by walk_at "ev3") (by walk_at "ev3"))
      | ((with_reducible show Pl.eGf _ _ _ _ _ = _); exact Law.gf_ (by walk_at "ev3") (by walk_at "ev3") (by walk_at "ev3") (by walk_at "ev3") (by walk_at "ev3"))
      | ((with_reducible show Law.ff_law_kinds _ _ _ = _); exact Law.kd_ (by first | exact Law.xnT rfl | exact Law.xn1 rfl rfl) (by assumption))
      | (with_reducible exact Law.look1)
      | (with_reducible exact Law.look2)
      | (with_reducible exact Law.lookW)
      | (with_reducible exact Law.lookN)
      | ((with_reducible show Pl.gEq PySem.PyData.eqv _ _ _ = _); exact Law.self_eq (by walk_at "ev3") (by walk_at "ev3"))
      | ((with_reducible show Pl.gEq _ _ _ _ = _); exact Law.self_ne (by walk_at "ev3") (by walk_at "ev3"))
      | ((with_reducible show Pl.toP _ = _); exact rfl)
      | ((with_reducible show PySem.SeqAt.shaped _ = true); focus (first | decide +kernel | (simp [PySem.SeqAt.shaped, PySem.PyData.canLay0, PySem.PyData.canLayAll0, PySem.PyData.depth, PySem.PyData.depthAll, *]; done)))
      | ((with_reducible show _[_]? = _); exact rfl)))
--EV end
namespace Law
open PySem L2 Pl Pl.Ev
theorem left_out {ct : CT} (hI : Isa ct) {f : Int} {s : Str} (hs : PyData.strOk s = true) (M : Mh) : ∃ M', ff_law_left_out ct [.int f, .str s] M = some (.bl true, M') := by
  have s1 : PyData.strOk "points" = true := by decide +kernel
  cases hI
  rw [← List.append_nil M]
  unfold ff_law_left_out gg_law_left_out
  exact exM (by walk_at "ev3")
end Law

--EV begin
local macro_rules
  | `(tactic| walk_at "ev2") => `(tactic| first
    | (with_reducible assumption)
    | ((with_reducible show List.length _ ≤ 1000); focus (first | (simp; done) | decide))
    | ((with_reducible show _ = _); first
      | ((with_reducible show Pl.eVar _ _ _ = _); exact Pl.Ev.var_ rfl)
      | ((with_reducible show Pl.eC _ _ _ = _); exact Pl.Ev.c_)
      | ((with_reducible show Pl.aNil _ _ = _); exact Pl.Ev.nil_)
      | ((with_reducible show Pl.tTrue _ _ = _); exact Pl.Ev.tt_)
      | ((with_reducible show Pl.sNil _ _ = _); exact Pl.Ev.snil_)
      | ((with_reducible show Pl.aCons _ _ _ _ = _); exact Pl.Ev.cons_ (by walk_at "ev2") (by walk_at "ev2"))
      | ((with_reducible show Pl.eTup _ _ _ = _); exact Pl.Ev.tup_ (by walk_at "ev2") (by walk_at "ev2"))
      | ((with_reducible show Pl.eOp _ _ _ _ _ = _); exact Pl.Ev.op_ (by walk_at "ev2") (by walk_at "ev2") (by walk_at "ev2"))
      | ((with_reducible show Pl.eUn _ _ _ _ = _); exact Pl.Ev.un_ (by walk_at "ev2") (by walk_at "ev2"))
      | ((with_reducible show Pl.eB _ _ _ _ = _); exact Pl.Ev.b_ (by walk_at "ev2") (by walk_at "ev2"))
      | ((with_reducible show Pl.eCall _ _ [] _ _ = _); exact Pl.Ev.call0_ (by walk_at "ev2") (by walk_at "ev2"))
      | ((with_reducible show Pl.eCall _ _ _ _ _ = _); exact Pl.Ev.callD_ (by walk_at "ev2") (by walk_at "ev2"))
      | ((with_reducible show Pl.eCallK _ _ _ _ _ _ = _); exact Pl.Ev.callK_ (by walk_at "ev2") (by walk_at "ev2") (by walk_at "ev2"))
      | ((with_reducible show Pl.eChain _ _ _ _ _ _ _ = _); exact Pl.Ev.chain_ (by walk_at "ev2") (by walk_at "ev2") (by walk_at "ev2") (by walk_at "ev2"))
      | ((with_reducible show Pl.eIf _ _ _ _ _ = _); exact Pl.Ev.if_ (by walk_at "ev2") (by walk_at "ev2"))
      | ((with_reducible show Pl.eNt _ _ _ = _); exact Pl.Ev.nt_ (by walk_at "ev2"))
      | ((with_reducible show Pl.eAn _ _ _ _ = _); exact Pl.Ev.an_ (by walk_at "ev2") (by walk_at "ev2"))
      | ((with_reducible show Pl.eOr _ _ _ _ = _); exact Pl.Ev.or_ (by walk_at "ev2") (by walk_at "ev2"))
      | ((with_reducible show Pl.tV _ _ _ = _); exact Pl.Ev.tv_ (by walk_at "ev2"))
      | ((with_reducible show Pl.tNt _ _ _ = _); exact Pl.Ev.tnt_ (by walk_at "ev2"))
      | ((with_reducible show Pl.tAn _ _ _ _ = _); exact Pl.Ev.tan_ (by walk_at "ev2") (by walk_at "ev2"))
      | ((with_reducible show Pl.tOrr _ _ _ _ = _); exact Pl.Ev.tor_ (by walk_at "ev2") (by walk_at "ev2"))
      | ((with_reducible show Pl.eLst _ _ _ = _); exact Pl.Ev.lst_ (by walk_at "ev2") (by walk_at "ev2"))
      | ((with_reducible show Pl.eNew _ _ _ = _); exact Pl.Ev.new_ (by walk_at "ev2") (by walk_at "ev2"))
      | ((with_reducible show Pl.eS1 _ _ _ _ _ = _); exact Pl.Ev.s1_ (by walk_at "ev2") (by walk_at "ev2") (by walk_at "ev2"))
      | ((with_reducible show Pl.sSeq (Pl.sIf _ _ _) _ _ _ = _); exact Pl.Ev.seqIf_ (by walk_at "ev2") (by walk_at "ev2"))
      | ((with_reducible show Pl.sSeq Pl.sNil _ _ _ = _); exact Pl.Ev.seq0_ (by walk_at "ev2"))
      | ((with_reducible show Pl.sSeq (Pl.sRet _) _ _ _ = _); exact Pl.Ev.seqRet_ (by walk_at "ev2"))
      | ((with_reducible show Pl.sSeq _ _ _ _ = _); exact Pl.Ev.seq_ (by walk_at "ev2") (by walk_at "ev2"))
      | ((with_reducible show Pl.sRet _ _ _ = _); exact Pl.Ev.ret_ (by walk_at "ev2"))
      | ((with_reducible show Pl.sAs _ _ _ _ = _); exact Pl.Ev.sas_ (by walk_at "ev2") (by walk_at "ev2"))
      | ((with_reducible show Pl.sPar _ _ _ _ _ _ = _); exact Pl.Ev.spar_ (by walk_at "ev2") (by walk_at "ev2") (by walk_at "ev2"))
      | ((with_reducible show Pl.sPar3 _ _ _ _ _ _ _ _ = _); exact Pl.Ev.spar3_ (by walk_at "ev2") (by walk_at "ev2") (by walk_at "ev2") (by walk_at "ev2"))
      | ((with_reducible show Pl.sAs2 _ _ _ _ _ = _); exact Pl.Ev.sas2_ (by walk_at "ev2") (by walk_at "ev2") (by walk_at "ev2"))
      | ((with_reducible show Pl.sIf _ _ _ _ _ = _); exact Pl.Ev.sif_ (by walk_at "ev2") (by walk_at "ev2"))
      | ((with_reducible show Pl.sE _ _ _ = _); exact Pl.Ev.se_ (by walk_at "ev2"))
      | ((with_reducible show Pl.eLc _ _ _ _ _ _ _ = _); exact Pl.Ev.lc_ (by walk_at "ev2") (by walk_at "ev2") (by walk_at "ev2") (by walk_at "ev2"))
      | ((with_reducible show Pl.lcGo _ _ _ (_ :: _) _ _ = _); exact Pl.Ev.lcC_ (by walk_at "ev2") (by walk_at "ev2") (by walk_at "ev2"))
      | ((with_reducible show Pl.lcGo _ _ _ [] _ _ = _); exact Pl.Ev.lcN_)
      | ((with_reducible show Pl.Ev.lcK _ _ _ _ _ _ _ = _); exact Pl.Ev.lcY_ (by walk_at "ev2") (by walk_at "ev2"))
      | ((with_reducible show Pl.aItems _ _ _ = _); exact Pl.Ev.itemsL_ (by walk_at "ev2"))
      | ((with_reducible show Pl.sFor _ _ _ _ _ = _); exact Pl.Ev.for_ (by walk_at "ev2") (by walk_at "ev2"))
      | ((with_reducible show Pl.forGo _ _ [] _ _ = _); exact Pl.Ev.forN_)
      | ((with_reducible show Pl.forGo _ _ (_ :: _) _ _ = _); exact Pl.Ev.forC_ (by walk_at "ev2") (by walk_at "ev2") (by walk_at "ev2"))
      | ((with_reducible show Pl.fnF _ _ _ _ = _); exact Pl.Ev.fn_ (by walk_at "ev2") (by walk_at "ev2"))
      | ((with_reducible show cond _ _ _ = _); first | exact Pl.Ev.cond_tt (by focus (exact rfl)) (by walk_at "ev2") | exact Pl.Ev.cond_ff (by focus (exact rfl)) (by walk_at "ev2"))
      | ((with_reducible show Pl.gN _ _ _ = _); (simp only [Pl.gN, List.set_cons_zero, List.set_cons_succ]); exact rfl)
      | ((with_reducible show Pl.gTp _ _ _ = _); (simp only [Pl.gTp, Pl.gsCons, Pl.gsNil, Pl.gN, List.set_cons_zero, List.set_cons_succ]); exact rfl)
      | ((with_reducible show (some (List.set _ _ _) : Option Pl.Env) = _); (simp only [List.set_cons_zero, List.set_cons_succ]); exact rfl)
      | ((with_reducible show (some (Pl.wipeD _ _) : Option Pl.Env) = _); (simp only [Pl.wipeD, List.set_cons_zero, List.set_cons_succ]); exact rfl)
      | ((with_reducible show (some (Pl.startD _ _) : Option Pl.Env) = _); (simp only [Pl.startD, List.map_cons, List.map_nil, List.length_cons, List.length_nil, Nat.reduceAdd, Nat.reduceSub, Nat.zero_add, List.replicate_succ, List.replicate_zero, List.cons_append, List.nil_append]); exact rfl)
      | ((with_reducible show Pl.gInt _ (.int _) (.int _) _ = _); exact rfl)
      | ((with_reducible show Pl.gIsN _ _ _ _ = _); exact rfl)
      | ((with_reducible show Pl.gAdd (.int _) (.int _) _ = _); exact rfl)
      | ((with_reducible show Pl.gNeg (.int _) _ = _); exact rfl)
      | ((with_reducible show Pl.gAdd (.lst _) (.lst _) _ = _); exact Pl.Ev.addL_ (by focus (first | (simp; done) | decide)) (by walk_at "ev2"))
      | ((with_reducible show Pl.gMul (.lst _) (.int _) _ = _); exact Pl.Ev.mulL_ (by focus (first | (simp; done) | decide)) (by walk_at "ev2"))
      | ((with_reducible show (some (_ ++ _) : Option (List Pl.D)) = _); (simp only [List.cons_append, List.nil_append]); exact rfl)
      | ((with_reducible show (some (List.flatten _) : Option (List Pl.D)) = _); (simp only [Int.reduceToNat, List.replicate_succ, List.replicate_zero, List.flatten_cons, List.flatten_nil, List.cons_append, List.nil_append]); exact rfl)
      | ((with_reducible show (some (_ ++ _) : Option (List Pl.MO)) = _); (simp only [List.cons_append, List.nil_append]); exact rfl)
      | ((with_reducible show List.length _ = _); (simp only [List.length_cons, List.length_nil, Nat.reduceAdd, Nat.zero_add]); exact rfl)
      | ((with_reducible show Pl.gIx (.lst _) (.int _) _ = _); exact rfl)))
--EV end
namespace Law
open PySem L2 Pl Pl.Ev
theorem At.up {n : Nat} {B C : Int} {M : Mh} (h : At n B M) (hc : B ≤ C) : At n C M := by
  obtain ⟨l, c, t, h1, h2, h3, h4⟩ := h
  exact ⟨l, c, t, h1, h2, h3, by omega⟩
theorem rng_len (j : Int) : (rng 0 j).length = j.toNat := by
  unfold rng
  simp
/-- a letter -/
def Let (d : D) : Prop := ∃ c : Nat, c < 1114112 ∧ d = .str ⟨#[c]⟩
theorem abc {f : Int} {M : Mh} (f0 : 0 ≤ f) (f1 : f < 26) : ∃ d, Let d ∧ gIx (.str "abcdefghijklmnopqrstuvwxyz") (.int f) M = some (d, M) := by
  obtain ⟨k, rfl⟩ := Int.eq_ofNat_of_zero_le f0
  have e : ("abcdefghijklmnopqrstuvwxyz" : Str).cps.toList = [97, 98, 99, 100, 101, 102, 103, 104, 105, 106, 107, 108, 109, 110, 111, 112, 113, 114, 115, 116, 117, 118, 119, 120, 121, 122] := by decide +kernel
  have l : ("abcdefghijklmnopqrstuvwxyz" : Str).length = 26 := by decide +kernel
  have hk : k < 26 := by omega
  have a : ∀ k : Fin 26, L2.atI [97, 98, 99, 100, 101, 102, 103, 104, 105, 106, 107, 108, 109, 110, 111, 112, 113, 114, 115, 116, 117, 118, 119, 120, 121, 122] ((k.val : Nat) : Int) = some (97 + k.val) := by decide
  have this : ∃ c : Nat, c < 1114112 ∧ L2.atI [97, 98, 99, 100, 101, 102, 103, 104, 105, 106, 107, 108, 109, 110, 111, 112, 113, 114, 115, 116, 117, 118, 119, 120, 121, 122] (k : Int) = some c := ⟨97 + k, by omega, a ⟨k, hk⟩⟩
  obtain ⟨c, hc, hx⟩ := this
  refine ⟨.str ⟨#[c]⟩, ⟨c, hc, rfl⟩, ?_⟩
  unfold gIx
  dsimp only
  rw [l, e, if_pos (by decide)]
  have hx' : L2.atI [97, 98, 99, 100, 101, 102, 103, 104, 105, 106, 107, 108, 109, 110, 111, 112, 113, 114, 115, 116, 117, 118, 119, 120, 121, 122] (k : Int) = some c := hx
  exact congrArg (Option.map fun c => (D.str ⟨#[c]⟩, M)) hx'
section
variable {n : Nat} (a1 a3 : Option D)
theorem let_go : ∀ (xs : List D) (B : Int) (M : Mh) (z : Option D), At n B M → B + 4 * xs.length < 2 ^ 57 → ∃ (ys : List D) (M' : Mh), ys.length = xs.length ∧ (∀ y ∈ ys, Let y) ∧ lcGo (gN 2) tTrue (eOp gIx (eC (.str "abcdefghijklmnopqrstuvwxyz")) (eCall ff_law_digit (aCons (eVar 0) (aCons (eC (.int 26)) aNil)) [])) xs [some (.ref n), a1, z, a3] M = some (ys, M') ∧ At n (B + 4 * xs.length) M'
  | [], B, M, z, h, _ => ⟨[], M, rfl, fun q hq => by simp at hq, lcN_, by simpa using h⟩
  | x :: xs, B, M, z, h, hb => by
    rw [List.length_cons] at hb
    obtain ⟨f, M1, e1, h1, f0, f1⟩ := digit_ok (many := 26) h (by omega) (by decide) (by decide)
    obtain ⟨d, hd, e2⟩ := abc (M := M1) f0 f1
    obtain ⟨ys, M2, l2, a2, e3, h2⟩ := let_go xs (B + 4) M1 z h1 (by omega)
    refine ⟨d :: ys, M2, by rw [List.length_cons, List.length_cons, l2], fun y hy => ?_, ?_, h2.up (by rw [List.length_cons]; omega)⟩
    · rcases List.mem_cons.mp hy with q | q
      · rw [q]; exact hd
      · exact a2 y q
    · walk_at "ev2"
end
theorem strs_let : ∀ ys : List D, (∀ y ∈ ys, Let y) → ∃ zs : List Str, strsOf ys = some zs ∧ zs.length = ys.length ∧ ∀ z ∈ zs, PyData.strOk z = true ∧ z.length = 1
  | [], _ => ⟨[], rfl, rfl, fun z hz => by simp at hz⟩
  | y :: ys, h => by
    obtain ⟨c, hc, rfl⟩ := h y List.mem_cons_self
    obtain ⟨zs, e, l, a⟩ := strs_let ys fun q hq => h q (List.mem_cons_of_mem _ hq)
    refine ⟨⟨#[c]⟩ :: zs, by unfold strsOf; rw [e], by rw [List.length_cons, List.length_cons, l], fun z hz => ?_⟩
    rcases List.mem_cons.mp hz with q | q
    · rw [q]
      exact ⟨by simp [PyData.strOk, hc], rfl⟩
    · exact a z q
theorem joinL_mem : ∀ (ps : List (List Nat)) (c : Nat), c ∈ TL.joinL [] ps → ∃ p ∈ ps, c ∈ p
  | [], c, h => by simp [TL.joinL] at h
  | [p], c, h => ⟨p, List.mem_singleton.mpr rfl, h⟩
  | p :: q :: r, c, h => by
    have h' : c ∈ p ++ ([] ++ TL.joinL [] (q :: r)) := h
    rw [List.nil_append] at h'
    rcases List.mem_append.mp h' with z | z
    · exact ⟨p, List.mem_cons_self, z⟩
    · obtain ⟨p', h1, h2⟩ := joinL_mem (q :: r) c z
      exact ⟨p', List.mem_cons_of_mem _ h1, h2⟩
theorem joinOk {zs : List Str} (h : ∀ z ∈ zs, PyData.strOk z = true ∧ z.length = 1) : PyData.strOk (Txt.join "" zs) = true := by
  refine strOk_of fun s hs => ?_
  rw [TL.join_eq, TL.tl_join, show TL.tl ("" : Str) = [] by decide +kernel] at hs
  obtain ⟨p, hp, hc⟩ := joinL_mem _ _ hs
  obtain ⟨z, hz, rfl⟩ := List.mem_map.mp hp
  have := (h z hz).1
  unfold PyData.strOk at this
  rw [Array.all_eq_true'] at this
  exact of_decide_eq_true (this s (by simpa [TL.tl] using hc))
theorem sum_one : ∀ zs : List Str, (∀ z ∈ zs, z.length = 1) → (zs.map (·.length)).sum = zs.length
  | [], _ => rfl
  | z :: zs, h => by
    rw [List.map_cons, List.sum_cons, sum_one zs fun q hq => h q (List.mem_cons_of_mem _ hq), h z List.mem_cons_self, List.length_cons]
    omega
theorem join_ok {ys : List D} {M : Mh} (h : ∀ y ∈ ys, Let y) (hl : ys.length ≤ 1000) : ∃ z : Str, PyData.strOk z = true ∧ gJoin "" (.lst ys) M = some (.str z, M) := by
  obtain ⟨zs, e, l, a⟩ := strs_let ys h
  refine ⟨Txt.join "" zs, joinOk a, ?_⟩
  unfold gJoin
  dsimp only [lstOf]
  rw [e]
  dsimp only
  rw [if_pos]
  rw [sum_one zs fun z hz => (a z hz).2]
  have : ("" : Str).length = 0 := by decide +kernel
  rw [this, l]
  omega
theorem slL {xs : List D} {i : Int} {f : EF} {δ : Pl.Env} {M M1 : Mh} (h : f δ M = some (.lst xs, M1)) : eSl f pNone (pSome (eC (.int i))) δ M = some (.lst (cutD xs none (some i)), M1) := by
  have p1 : pNone δ M1 = some (none, M1) := rfl
  have p2 : pSome (eC (.int i)) δ M1 = some (some i, M1) := rfl
  unfold eSl
  rw [h]
  dsimp only
  rw [p1]
  dsimp only
  rw [p2]
  rfl
theorem cut_mem {xs : List D} {lo hi : Option Int} {y : D} (h : y ∈ cutD xs lo hi) : y ∈ xs := by
  unfold cutD at h
  exact List.mem_of_mem_drop (List.mem_of_mem_take h)
theorem cut_len {xs : List D} {lo hi : Option Int} : (cutD xs lo hi).length ≤ xs.length := by
  unfold cutD
  rw [List.length_take, List.length_drop]
  omega
theorem word_ok {n : Nat} {B : Int} {M : Mh} (h : At n B M) (hB : B < 2 ^ 56) : ∃ (z : Str) (M' : Mh), PyData.strOk z = true ∧ ff_law_word [.ref n] M = some (.str z, M') ∧ At n (B + 40) M' := by
  obtain ⟨f, M1, e1, h1, f0, f1⟩ := digit_ok (many := 8) h (by omega) (by decide) (by decide)
  obtain ⟨ys, M2, l2, a2, e2, h2⟩ := let_go none none (rng 0 (1 + f)) (B + 4) M1 none h1 (by rw [rng_len]; simp; omega)
  rw [rng_len] at l2 h2
  have l8 : ys.length ≤ 8 := by rw [l2]; simp; omega
  obtain ⟨z1, o1, e3⟩ := join_ok (M := M2) a2 (by omega)
  obtain ⟨z2, o2, e4⟩ := join_ok (M := M2) (ys := cutD ys none (some 2)) (fun y hy => a2 y (cut_mem hy)) (Nat.le_trans cut_len (by omega))
  obtain ⟨g, M3, e5, h3, g0, g1⟩ := digit_ok (many := 13) h2 (by simp; omega) (by decide) (by decide)
  have pick : ∃ z : Str, PyData.strOk z = true ∧ gIx (.lst [.str z1, .str z2, .str "a", .str "b", .str "x", .str "y", .str "at", .str "as", .str "place", .str "say", .str "draw", .str "level", .str "work"]) (.int g) M3 = some (.str z, M3) := by
    have : g = 0 ∨ g = 1 ∨ g = 2 ∨ g = 3 ∨ g = 4 ∨ g = 5 ∨ g = 6 ∨ g = 7 ∨ g = 8 ∨ g = 9 ∨ g = 10 ∨ g = 11 ∨ g = 12 := by omega
    rcases this with q | q | q | q | q | q | q | q | q | q | q | q | q <;> rw [q]
    · exact ⟨z1, o1, rfl⟩
    · exact ⟨z2, o2, rfl⟩
    all_goals exact ⟨_, by decide +kernel, rfl⟩
  obtain ⟨z, oz, e6⟩ := pick
  refine ⟨z, M3, oz, ?_, h3.up (by simp; omega)⟩
  unfold ff_law_word gg_law_word
  have hr1 : aRng1 (aCons (eOp gAdd (eC (.int 1)) (eCall ff_law_digit (aCons (eVar 0) (aCons (eC (.int 8)) aNil)) [])) aNil) [some (.ref n), none, none, none] M = some (rng 0 (1 + f), M1) := rng1_ (by walk_at "ev2") ⟨by omega, by omega⟩
  have hr2 : ys.length ≤ 1000 := Nat.le_trans l8 (by decide)
  have hr3 : eSl (eVar 1) pNone (pSome (eC (.int 2))) [some (.ref n), some (.lst ys), none, none] M2 = some (.lst (cutD ys none (some 2)), M2) := slL (var_ rfl)
  walk_at "ev2"
/-! ### the law -/
theorem for_of {a : AF} {g : GF} {b : SF} {ds : List D} {δ : Pl.Env} {M M1 : Mh} {r : Option Out} (h : a δ M = some (ds, M1)) (k : forGo g b ds δ M1 = r) : sFor a g b δ M = r := for_ h k
section
variable {ct : CT}
noncomputable abbrev cellS (ct : CT) : SF := (sSeq (sAs (eCall ff_law_draw (aCons (eVar 2) (aCons (eVar 1) aNil)) []) (gN 3)) (sSeq (sAs (eOp gIx (eLst (aCons (eOp (gInt fun i j => .int (i - j)) (eCall ff_law_digit (aCons (eVar 3) (aCons (eOp (gIntC PowOk fun i j => .int (i ^ j.toNat)) (eC (.int 10)) (eC (.int 9))) aNil)) []) (eC (.int 400))) (aCons (eOp (gIntC (fun _ j => j ≠ 0) fun i j => .int (i.fmod j)) (eVar 2) (eOp (gIntC PowOk fun i j => .int (i ^ j.toNat)) (eC (.int 10)) (eC (.int 60)))) aNil))) (eCall ff_law_digit (aCons (eVar 3) (aCons (eC (.int 2)) aNil)) [])) (gN 4)) (sSeq (sAs (eCall ff_law_word (aCons (eVar 3) aNil) []) (gN 5)) (sIf (tOrr (tNt (tV (eCall (ff_law_by_hand ct) (aCons (eVar 4) (aCons (eVar 5) aNil)) []))) (tNt (tV (eCall (ff_law_left_out ct) (aCons (eVar 4) (aCons (eVar 5) aNil)) [])))) (sRet (eC (.bl false))) sNil))))
theorem cell_ok (hI : Isa ct) {M : Mh} {k cl : Int} (k0 : 0 ≤ k) (k1 : k ≤ 1000) (s x3 x4 x5 : Option D) : ∃ (y3 y4 y5 : Option D) (M' : Mh), cellS ct [s, some (.int k), some (.int cl), x3, x4, x5] M = some (.nx [s, some (.int k), some (.int cl), y3, y4, y5] M') := by
  obtain ⟨M1, e1, a1⟩ := draw_ok (M := M) (cell := cl) k0 k1
  obtain ⟨f, M2, e2, a2, f0, f1⟩ := digit_ok (many := 10 ^ 9) a1 (by decide) (by decide) (by decide)
  obtain ⟨g, M3, e3, a3, g0, g1⟩ := digit_ok (many := 2) a2 (by decide) (by decide) (by decide)
  obtain ⟨z, M4, oz, e4, a4⟩ := word_ok a3 (by decide)
  have pick : ∃ v : Int, gIx (.lst [.int (f - 400), .int (cl.fmod (10 ^ 60))]) (.int g) M3 = some (.int v, M3) := by
    have : g = 0 ∨ g = 1 := by omega
    rcases this with q | q <;> rw [q]
    · exact ⟨_, rfl⟩
    · exact ⟨_, rfl⟩
  obtain ⟨v, ev_⟩ := pick
  obtain ⟨M5, e5⟩ := by_hand hI (f := v) oz M4
  obtain ⟨M6, e6⟩ := left_out hI (f := v) oz M5
  have p9 : ∀ N : Mh, (gIntC PowOk fun i j => .int (i ^ j.toNat)) (.int 10) (.int 9) N = some (.int (10 ^ 9), N) := fun N => intC_of (by decide)
  have p60 : ∀ N : Mh, (gIntC PowOk fun i j => .int (i ^ j.toNat)) (.int 10) (.int 60) N = some (.int (10 ^ 60), N) := fun N => intC_of (by decide)
  have pm : ∀ N : Mh, (gIntC (fun _ j => j ≠ 0) fun i j => .int (i.fmod j)) (.int cl) (.int (10 ^ 60)) N = some (.int (cl.fmod (10 ^ 60)), N) := fun N => intC_of (by decide)
  refine ⟨some (.ref M.length), some (.int v), some (.str z), M6, ?_⟩
  have q1 := p9 M1
  have q2 := p60 M2
  have q3 := pm M2
  unfold cellS
  walk_at "ev2"
theorem cells_ok (hI : Isa ct) (s : Option D) : ∀ (L : List D), (∀ d ∈ L, ∃ k c : Int, d = .tup [.int k, .int c] ∧ 0 ≤ k ∧ k ≤ 1000) → ∀ (M : Mh) (x1 x2 x3 x4 x5 : Option D), ∃ (y1 y2 y3 y4 y5 : Option D) (M' : Mh), forGo (gTp (gsCons (gN 1) (gsCons (gN 2) gsNil))) (cellS ct) L [s, x1, x2, x3, x4, x5] M = some (.nx [s, y1, y2, y3, y4, y5] M')
  | [], _, M, x1, x2, x3, x4, x5 => ⟨x1, x2, x3, x4, x5, M, forN_⟩
  | d :: L, h, M, x1, x2, x3, x4, x5 => by
    obtain ⟨k, c, rfl, k0, k1⟩ := h d List.mem_cons_self
    obtain ⟨y3, y4, y5, M1, e⟩ := cell_ok hI (M := M) (cl := c) k0 k1 s x3 x4 x5
    obtain ⟨z1, z2, z3, z4, z5, M', e2⟩ := cells_ok hI s L (fun q hq => h q (List.mem_cons_of_mem _ hq)) M1 (some (.int k)) (some (.int c)) y3 y4 y5
    exact ⟨z1, z2, z3, z4, z5, M', forC_ (δ1 := [s, some (.int k), some (.int c), x3, x4, x5]) rfl e e2⟩
end
theorem ints_of1 : ∀ ns : List Int, intsOf (ns.map D.int) = some ns
  | [] => rfl
  | n :: ns => by rw [List.map_cons, intsOf, ints_of1 ns]
/-- enumerate(script[:k] + [sum(script)]) -/
theorem enum_ok {w : Nat} (hw : w ≤ 900) (ns : List Int) (r : Pl.Env) (M : Mh) : ∃ L : List D, aEnum (aCons (eOp gAdd (eSl (eVar 0) pNone (pSome (eC (.int w)))) (eLst (aCons (eB gSum (aCons (eVar 0) aNil)) aNil))) aNil) (some (.lsk (ns.map D.int)) :: r) M = some (L, M) ∧ ∀ d ∈ L, ∃ k c : Int, d = .tup [.int k, .int c] ∧ 0 ≤ k ∧ k ≤ 1000 := by
  have cut : ∃ ys : List Int, cutD (ns.map D.int) none (some (w : Int)) = ys.map D.int ∧ ys.length ≤ w := by
    have z : HT.sIx (ns.map D.int).length (ns.map D.int).length (some (w : Int)) = min w ns.length := by
      unfold HT.sIx
      rw [List.length_map]
      dsimp only
      split <;> omega
    have z0 : HT.sIx (ns.map D.int).length 0 none = 0 := rfl
    refine ⟨ns.take w, ?_, by rw [List.length_take]; omega⟩
    unfold cutD
    rw [z, z0, List.drop_zero, ← List.map_take, Nat.sub_zero, Nat.min_comm, ← List.take_take, List.take_of_length_le (by rw [List.length_take]; omega)]
  obtain ⟨ys, ey, ly⟩ := cut
  have e0 : eVar 0 (some (.lsk (ns.map D.int)) :: r) M = some (.lsk (ns.map D.int), M) := rfl
  have sm : eB gSum (aCons (eVar 0) aNil) (some (.lsk (ns.map D.int)) :: r) M = some (.int ns.sum, M) := by
    exact b_ (cons_ (var_ rfl) nil_) (by simp [gSum, lstOf, ints_of1])
  have s0 : eSl (eVar 0) pNone (pSome (eC (.int w))) (some (.lsk (ns.map D.int)) :: r) M = some (.lst (ys.map D.int), M) := by
    have p1 : ∀ δ, pNone δ M = some (none, M) := fun δ => rfl
    have p2 : ∀ δ, pSome (eC (.int w)) δ M = some (some (w : Int), M) := fun δ => rfl
    unfold eSl
    rw [e0]
    dsimp only
    rw [p1]
    dsimp only
    rw [p2]
    dsimp only [lstOf]
    rw [ey]
  have s1 : eOp gAdd (eSl (eVar 0) pNone (pSome (eC (.int w)))) (eLst (aCons (eB gSum (aCons (eVar 0) aNil)) aNil)) (some (.lsk (ns.map D.int)) :: r) M = some (.lst (ys.map D.int ++ [.int ns.sum]), M) := by
    refine op_ s0 (lst_ (cons_ sm nil_) (by simp)) ?_
    show (if _ then _ else none) = _
    rw [if_pos (by rw [List.length_map]; exact Nat.le_trans (show _ ≤ 901 by simp; omega) (by decide))]
  unfold aEnum
  rw [cons_ s1 nil_]
  refine ⟨_, rfl, fun d hd => ?_⟩
  obtain ⟨⟨p, q⟩, hp, rfl⟩ := List.mem_map.mp hd
  obtain ⟨hp1, hp2⟩ := List.of_mem_zip hp
  obtain ⟨i, hi, rfl⟩ := List.mem_map.mp hp1
  have hi' := List.mem_range.mp hi
  rw [List.length_append, List.length_map] at hi'
  have hq : ∃ c : Int, q = .int c := by
    rcases List.mem_append.mp hp2 with z | z
    · obtain ⟨c, _, rfl⟩ := List.mem_map.mp z
      exact ⟨c, rfl⟩
    · exact ⟨_, List.mem_singleton.mp z⟩
  obtain ⟨c, rfl⟩ := hq
  exact ⟨i, c, rfl, by omega, by simp at hi'; omega⟩
theorem truth (ct : CT) (hI : Isa ct) (ns : List Int) (hn : ns.length ≤ 63) : ∃ M', ff_law ct [.lsk (ns.map D.int)] [] = some (.bl true, M') := by
  obtain ⟨L, e, hL⟩ := enum_ok (w := 12) (by decide) ns [none, none, none, none, none] []
  obtain ⟨y1, y2, y3, y4, y5, M', ec⟩ := cells_ok hI (some (.lsk (ns.map D.int))) L hL [] none none none none none
  refine ⟨M', fn_ (δ0 := [some (.lsk (ns.map D.int)), none, none, none, none, none]) rfl ?_⟩
  unfold gg_law
  exact seq_ (for_ e ec) (Ev.ret_ c_)
end Law

namespace Law
open PySem L2 Pl
theorem all_mk {l : PySem.W.OpenLaw} {w : World} {K : PySem.W.Frag} {h : Heap} {mg : Str → Option Value} {fa : Addr} (X : K.In h) (G : h.Ns mainGlobals mg) (hfa : mg "law" = some (.ref fa))
    {C_BadSketch : Addr}
    {C_BadRow : Addr}
    {C_BadOutline : Addr}
    {C_BadBlock : Addr}
    {C_BadField : Addr}
    {C_BadFeature : Addr}
    {C_BadWay : Addr}
    {C_BadTools : Addr}
    {C_Clash : Addr}
    {C_BadPaper : Addr}
    {C_OutOfPlace : Addr}
    {C_Twice : Addr}
    {C_NoPoint : Addr}
    {C_TooGreat : Addr}
    {C_NoFeature : Addr}
    {C_NoSaying : Addr}
    {C_Nothing : Addr}
    {C_NoTool : Addr}
    {C_Lifted : Addr}
    {C_NoToolThere : Addr}
    {C_Beyond : Addr}
    {C_Lowered : Addr}
    {C_TooDeep : Addr}
    {C_Blocked : Addr}
    {C_WorksError : Addr}
    {C_MissError : Addr}
    {C_FaultError : Addr}
    {f_law_mixed : Addr} {od_law_mixed an_law_mixed : Option Addr} {sl_law_mixed : Array (Option Value)} {oc_law_mixed dc_law_mixed pm_law_mixed cd_law_mixed ct_law_mixed : Value}
    {kV_law_mixed : Value}
    {f_law_draw : Addr} {od_law_draw an_law_draw : Option Addr} {sl_law_draw : Array (Option Value)} {oc_law_draw dc_law_draw pm_law_draw cd_law_draw ct_law_draw : Value}
    {kV_law_draw : Value}
    {f_law_digit : Addr} {od_law_digit an_law_digit : Option Addr} {sl_law_digit : Array (Option Value)} {oc_law_digit dc_law_digit pm_law_digit cd_law_digit ct_law_digit : Value}
    {kV_law_digit : Value}
    {f_law_word : Addr} {od_law_word an_law_word : Option Addr} {sl_law_word : Array (Option Value)} {oc_law_word dc_law_word pm_law_word cd_law_word ct_law_word : Value}
    {kV_law_word : Value}
    {f_law_kinds : Addr} {od_law_kinds an_law_kinds : Option Addr} {sl_law_kinds : Array (Option Value)} {oc_law_kinds dc_law_kinds pm_law_kinds cd_law_kinds ct_law_kinds : Value}
    {kV_law_kinds : Value}
    {f_BadFeature_init : Addr} {od_BadFeature_init an_BadFeature_init : Option Addr} {sl_BadFeature_init : Array (Option Value)} {oc_BadFeature_init dc_BadFeature_init pm_BadFeature_init cd_BadFeature_init ct_BadFeature_init : Value}
    {dT_BadFeature_init : Addr} {dO_BadFeature_init : Obj} {dI_BadFeature_init : Array Value} {dN_BadFeature_init : Nat}
    {kV_BadFeature_init : Value}
    {f_BadOutline_init : Addr} {od_BadOutline_init an_BadOutline_init : Option Addr} {sl_BadOutline_init : Array (Option Value)} {oc_BadOutline_init dc_BadOutline_init pm_BadOutline_init cd_BadOutline_init ct_BadOutline_init : Value}
    {dT_BadOutline_init : Addr} {dO_BadOutline_init : Obj} {dI_BadOutline_init : Array Value} {dN_BadOutline_init : Nat}
    {kV_BadOutline_init : Value}
    {f_BadBlock_init : Addr} {od_BadBlock_init an_BadBlock_init : Option Addr} {sl_BadBlock_init : Array (Option Value)} {oc_BadBlock_init dc_BadBlock_init pm_BadBlock_init cd_BadBlock_init ct_BadBlock_init : Value}
    {dT_BadBlock_init : Addr} {dO_BadBlock_init : Obj} {dI_BadBlock_init : Array Value} {dN_BadBlock_init : Nat}
    {kV_BadBlock_init : Value}
    {f_BadSketch_init : Addr} {od_BadSketch_init an_BadSketch_init : Option Addr} {sl_BadSketch_init : Array (Option Value)} {oc_BadSketch_init dc_BadSketch_init pm_BadSketch_init cd_BadSketch_init ct_BadSketch_init : Value}
    {dT_BadSketch_init : Addr} {dO_BadSketch_init : Obj} {dI_BadSketch_init : Array Value} {dN_BadSketch_init : Nat}
    {kV_BadSketch_init : Value}
    {f_BadRow_init : Addr} {od_BadRow_init an_BadRow_init : Option Addr} {sl_BadRow_init : Array (Option Value)} {oc_BadRow_init dc_BadRow_init pm_BadRow_init cd_BadRow_init ct_BadRow_init : Value}
    {kV_BadRow_init : Value}
    {f_Clash_init : Addr} {od_Clash_init an_Clash_init : Option Addr} {sl_Clash_init : Array (Option Value)} {oc_Clash_init dc_Clash_init pm_Clash_init cd_Clash_init ct_Clash_init : Value}
    {kV_Clash_init : Value}
    {f_BadPaper_init : Addr} {od_BadPaper_init an_BadPaper_init : Option Addr} {sl_BadPaper_init : Array (Option Value)} {oc_BadPaper_init dc_BadPaper_init pm_BadPaper_init cd_BadPaper_init ct_BadPaper_init : Value}
    {dT_BadPaper_init : Addr} {dO_BadPaper_init : Obj} {dI_BadPaper_init : Array Value} {dN_BadPaper_init : Nat}
    {kV_BadPaper_init : Value}
    {f_BadWay_init : Addr} {od_BadWay_init an_BadWay_init : Option Addr} {sl_BadWay_init : Array (Option Value)} {oc_BadWay_init dc_BadWay_init pm_BadWay_init cd_BadWay_init ct_BadWay_init : Value}
    {dT_BadWay_init : Addr} {dO_BadWay_init : Obj} {dI_BadWay_init : Array Value} {dN_BadWay_init : Nat}
    {kV_BadWay_init : Value}
    {f_BadTools_init : Addr} {od_BadTools_init an_BadTools_init : Option Addr} {sl_BadTools_init : Array (Option Value)} {oc_BadTools_init dc_BadTools_init pm_BadTools_init cd_BadTools_init ct_BadTools_init : Value}
    {dT_BadTools_init : Addr} {dO_BadTools_init : Obj} {dI_BadTools_init : Array Value} {dN_BadTools_init : Nat}
    {kV_BadTools_init : Value}
    {f_BadField_init : Addr} {od_BadField_init an_BadField_init : Option Addr} {sl_BadField_init : Array (Option Value)} {oc_BadField_init dc_BadField_init pm_BadField_init cd_BadField_init ct_BadField_init : Value}
    {dT_BadField_init : Addr} {dO_BadField_init : Obj} {dI_BadField_init : Array Value} {dN_BadField_init : Nat}
    {kV_BadField_init : Value}
    {f_Beyond_init : Addr} {od_Beyond_init an_Beyond_init : Option Addr} {sl_Beyond_init : Array (Option Value)} {oc_Beyond_init dc_Beyond_init pm_Beyond_init cd_Beyond_init ct_Beyond_init : Value}
    {kV_Beyond_init : Value}
    {f_NoTool_init : Addr} {od_NoTool_init an_NoTool_init : Option Addr} {sl_NoTool_init : Array (Option Value)} {oc_NoTool_init dc_NoTool_init pm_NoTool_init cd_NoTool_init ct_NoTool_init : Value}
    {kV_NoTool_init : Value}
    {f_NoFeature_init : Addr} {od_NoFeature_init an_NoFeature_init : Option Addr} {sl_NoFeature_init : Array (Option Value)} {oc_NoFeature_init dc_NoFeature_init pm_NoFeature_init cd_NoFeature_init ct_NoFeature_init : Value}
    {kV_NoFeature_init : Value}
    {f_NoSaying_init : Addr} {od_NoSaying_init an_NoSaying_init : Option Addr} {sl_NoSaying_init : Array (Option Value)} {oc_NoSaying_init dc_NoSaying_init pm_NoSaying_init cd_NoSaying_init ct_NoSaying_init : Value}
    {kV_NoSaying_init : Value}
    {f_NoPoint_init : Addr} {od_NoPoint_init an_NoPoint_init : Option Addr} {sl_NoPoint_init : Array (Option Value)} {oc_NoPoint_init dc_NoPoint_init pm_NoPoint_init cd_NoPoint_init ct_NoPoint_init : Value}
    {kV_NoPoint_init : Value}
    {f_TooDeep_init : Addr} {od_TooDeep_init an_TooDeep_init : Option Addr} {sl_TooDeep_init : Array (Option Value)} {oc_TooDeep_init dc_TooDeep_init pm_TooDeep_init cd_TooDeep_init ct_TooDeep_init : Value}
    {kV_TooDeep_init : Value}
    {f_Blocked_init : Addr} {od_Blocked_init an_Blocked_init : Option Addr} {sl_Blocked_init : Array (Option Value)} {oc_Blocked_init dc_Blocked_init pm_Blocked_init cd_Blocked_init ct_Blocked_init : Value}
    {kV_Blocked_init : Value}
    {f_law_by_hand : Addr} {od_law_by_hand an_law_by_hand : Option Addr} {sl_law_by_hand : Array (Option Value)} {oc_law_by_hand dc_law_by_hand pm_law_by_hand cd_law_by_hand ct_law_by_hand : Value}
    {kV_law_by_hand : Value}
    {f_law_left_out : Addr} {od_law_left_out an_law_left_out : Option Addr} {sl_law_left_out : Array (Option Value)} {oc_law_left_out dc_law_left_out pm_law_left_out cd_law_left_out ct_law_left_out : Value}
    {kV_law_left_out : Value}
    {f_law : Addr} {od_law an_law : Option Addr} {sl_law : Array (Option Value)} {oc_law dc_law pm_law cd_law ct_law : Value}
    {kV_law : Value}
    (z_range : PySem.W.nsIn K mainGlobals "range" = some none)
    (z_isinstance : PySem.W.nsIn K mainGlobals "isinstance" = some none)
    (z_ValueError : PySem.W.nsIn K mainGlobals "ValueError" = some none)
    (z_LookupError : PySem.W.nsIn K mainGlobals "LookupError" = some none)
    (z_RuntimeError : PySem.W.nsIn K mainGlobals "RuntimeError" = some none)
    (z_enumerate : PySem.W.nsIn K mainGlobals "enumerate" = some none)
    (z_sum : PySem.W.nsIn K mainGlobals "sum" = some none)
    (a_BadSketch : PySem.W.nsIn K mainGlobals "BadSketch" = some (some (.ref C_BadSketch)))
    (a_BadRow : PySem.W.nsIn K mainGlobals "BadRow" = some (some (.ref C_BadRow)))
    (a_BadOutline : PySem.W.nsIn K mainGlobals "BadOutline" = some (some (.ref C_BadOutline)))
    (a_BadBlock : PySem.W.nsIn K mainGlobals "BadBlock" = some (some (.ref C_BadBlock)))
    (a_BadField : PySem.W.nsIn K mainGlobals "BadField" = some (some (.ref C_BadField)))
    (a_BadFeature : PySem.W.nsIn K mainGlobals "BadFeature" = some (some (.ref C_BadFeature)))
    (a_BadWay : PySem.W.nsIn K mainGlobals "BadWay" = some (some (.ref C_BadWay)))
    (a_BadTools : PySem.W.nsIn K mainGlobals "BadTools" = some (some (.ref C_BadTools)))
    (a_Clash : PySem.W.nsIn K mainGlobals "Clash" = some (some (.ref C_Clash)))
    (a_BadPaper : PySem.W.nsIn K mainGlobals "BadPaper" = some (some (.ref C_BadPaper)))
    (a_OutOfPlace : PySem.W.nsIn K mainGlobals "OutOfPlace" = some (some (.ref C_OutOfPlace)))
    (a_Twice : PySem.W.nsIn K mainGlobals "Twice" = some (some (.ref C_Twice)))
    (a_NoPoint : PySem.W.nsIn K mainGlobals "NoPoint" = some (some (.ref C_NoPoint)))
    (a_TooGreat : PySem.W.nsIn K mainGlobals "TooGreat" = some (some (.ref C_TooGreat)))
    (a_NoFeature : PySem.W.nsIn K mainGlobals "NoFeature" = some (some (.ref C_NoFeature)))
    (a_NoSaying : PySem.W.nsIn K mainGlobals "NoSaying" = some (some (.ref C_NoSaying)))
    (a_Nothing : PySem.W.nsIn K mainGlobals "Nothing" = some (some (.ref C_Nothing)))
    (a_NoTool : PySem.W.nsIn K mainGlobals "NoTool" = some (some (.ref C_NoTool)))
    (a_Lifted : PySem.W.nsIn K mainGlobals "Lifted" = some (some (.ref C_Lifted)))
    (a_NoToolThere : PySem.W.nsIn K mainGlobals "NoToolThere" = some (some (.ref C_NoToolThere)))
    (a_Beyond : PySem.W.nsIn K mainGlobals "Beyond" = some (some (.ref C_Beyond)))
    (a_Lowered : PySem.W.nsIn K mainGlobals "Lowered" = some (some (.ref C_Lowered)))
    (a_TooDeep : PySem.W.nsIn K mainGlobals "TooDeep" = some (some (.ref C_TooDeep)))
    (a_Blocked : PySem.W.nsIn K mainGlobals "Blocked" = some (some (.ref C_Blocked)))
    (a_WorksError : PySem.W.nsIn K mainGlobals "WorksError" = some (some (.ref C_WorksError)))
    (a_MissError : PySem.W.nsIn K mainGlobals "MissError" = some (some (.ref C_MissError)))
    (a_FaultError : PySem.W.nsIn K mainGlobals "FaultError" = some (some (.ref C_FaultError)))
    (e1_BadFeature : PySem.W.excInitIn K C_BadFeature [.type "ValueError", .type "Exception", .type "BaseException", .type "object"] "ValueError.__new__" = true) (e2_BadFeature : PySem.W.excOver K C_BadFeature [.type "ValueError", .type "Exception", .type "BaseException", .type "object"] = true) (sa_BadFeature : PySem.W.findIn K (.ref C_BadFeature) "__setattr__" = some (some (.builtin "object.__setattr__")))
    (ii_BadFeature : PySem.W.findIn K (.ref C_BadFeature) "__init__" = some (some (.ref f_BadFeature_init))) (ti_BadFeature : PySem.W.typeIn K (.ref f_BadFeature_init) = some (.type "function"))
    (tk_BadFeature_number : PySem.W.takerIn K C_BadFeature "number" = some none) (fn_BadFeature_number : PySem.W.findIn K (.ref C_BadFeature) "number" = some none)
    (e1_BadOutline : PySem.W.excInitIn K C_BadOutline [.type "ValueError", .type "Exception", .type "BaseException", .type "object"] "ValueError.__new__" = true) (e2_BadOutline : PySem.W.excOver K C_BadOutline [.type "ValueError", .type "Exception", .type "BaseException", .type "object"] = true) (sa_BadOutline : PySem.W.findIn K (.ref C_BadOutline) "__setattr__" = some (some (.builtin "object.__setattr__")))
    (ii_BadOutline : PySem.W.findIn K (.ref C_BadOutline) "__init__" = some (some (.ref f_BadOutline_init))) (ti_BadOutline : PySem.W.typeIn K (.ref f_BadOutline_init) = some (.type "function"))
    (tk_BadOutline_number : PySem.W.takerIn K C_BadOutline "number" = some none) (fn_BadOutline_number : PySem.W.findIn K (.ref C_BadOutline) "number" = some none)
    (e1_BadBlock : PySem.W.excInitIn K C_BadBlock [.type "ValueError", .type "Exception", .type "BaseException", .type "object"] "ValueError.__new__" = true) (e2_BadBlock : PySem.W.excOver K C_BadBlock [.type "ValueError", .type "Exception", .type "BaseException", .type "object"] = true) (sa_BadBlock : PySem.W.findIn K (.ref C_BadBlock) "__setattr__" = some (some (.builtin "object.__setattr__")))
    (ii_BadBlock : PySem.W.findIn K (.ref C_BadBlock) "__init__" = some (some (.ref f_BadBlock_init))) (ti_BadBlock : PySem.W.typeIn K (.ref f_BadBlock_init) = some (.type "function"))
    (tk_BadBlock_place : PySem.W.takerIn K C_BadBlock "place" = some none) (fn_BadBlock_place : PySem.W.findIn K (.ref C_BadBlock) "place" = some none)
    (e1_BadSketch : PySem.W.excInitIn K C_BadSketch [.type "ValueError", .type "Exception", .type "BaseException", .type "object"] "ValueError.__new__" = true) (e2_BadSketch : PySem.W.excOver K C_BadSketch [.type "ValueError", .type "Exception", .type "BaseException", .type "object"] = true) (sa_BadSketch : PySem.W.findIn K (.ref C_BadSketch) "__setattr__" = some (some (.builtin "object.__setattr__")))
    (ii_BadSketch : PySem.W.findIn K (.ref C_BadSketch) "__init__" = some (some (.ref f_BadSketch_init))) (ti_BadSketch : PySem.W.typeIn K (.ref f_BadSketch_init) = some (.type "function"))
    (tk_BadSketch_part : PySem.W.takerIn K C_BadSketch "part" = some none) (fn_BadSketch_part : PySem.W.findIn K (.ref C_BadSketch) "part" = some none)
    (tk_BadSketch_number : PySem.W.takerIn K C_BadSketch "number" = some none) (fn_BadSketch_number : PySem.W.findIn K (.ref C_BadSketch) "number" = some none)
    (e1_BadRow : PySem.W.excInitIn K C_BadRow [.type "ValueError", .type "Exception", .type "BaseException", .type "object"] "ValueError.__new__" = true) (e2_BadRow : PySem.W.excOver K C_BadRow [.type "ValueError", .type "Exception", .type "BaseException", .type "object"] = true) (sa_BadRow : PySem.W.findIn K (.ref C_BadRow) "__setattr__" = some (some (.builtin "object.__setattr__")))
    (ii_BadRow : PySem.W.findIn K (.ref C_BadRow) "__init__" = some (some (.ref f_BadRow_init))) (ti_BadRow : PySem.W.typeIn K (.ref f_BadRow_init) = some (.type "function"))
    (tk_BadRow_row : PySem.W.takerIn K C_BadRow "row" = some none) (fn_BadRow_row : PySem.W.findIn K (.ref C_BadRow) "row" = some none)
    (tk_BadRow_word : PySem.W.takerIn K C_BadRow "word" = some none) (fn_BadRow_word : PySem.W.findIn K (.ref C_BadRow) "word" = some none)
    (e1_Clash : PySem.W.excInitIn K C_Clash [.type "ValueError", .type "Exception", .type "BaseException", .type "object"] "ValueError.__new__" = true) (e2_Clash : PySem.W.excOver K C_Clash [.type "ValueError", .type "Exception", .type "BaseException", .type "object"] = true) (sa_Clash : PySem.W.findIn K (.ref C_Clash) "__setattr__" = some (some (.builtin "object.__setattr__")))
    (ii_Clash : PySem.W.findIn K (.ref C_Clash) "__init__" = some (some (.ref f_Clash_init))) (ti_Clash : PySem.W.typeIn K (.ref f_Clash_init) = some (.type "function"))
    (tk_Clash_number : PySem.W.takerIn K C_Clash "number" = some none) (fn_Clash_number : PySem.W.findIn K (.ref C_Clash) "number" = some none)
    (e1_BadPaper : PySem.W.excInitIn K C_BadPaper [.type "ValueError", .type "Exception", .type "BaseException", .type "object"] "ValueError.__new__" = true) (e2_BadPaper : PySem.W.excOver K C_BadPaper [.type "ValueError", .type "Exception", .type "BaseException", .type "object"] = true) (sa_BadPaper : PySem.W.findIn K (.ref C_BadPaper) "__setattr__" = some (some (.builtin "object.__setattr__")))
    (ii_BadPaper : PySem.W.findIn K (.ref C_BadPaper) "__init__" = some (some (.ref f_BadPaper_init))) (ti_BadPaper : PySem.W.typeIn K (.ref f_BadPaper_init) = some (.type "function"))
    (tk_BadPaper_place : PySem.W.takerIn K C_BadPaper "place" = some none) (fn_BadPaper_place : PySem.W.findIn K (.ref C_BadPaper) "place" = some none)
    (e1_BadWay : PySem.W.excInitIn K C_BadWay [.type "ValueError", .type "Exception", .type "BaseException", .type "object"] "ValueError.__new__" = true) (e2_BadWay : PySem.W.excOver K C_BadWay [.type "ValueError", .type "Exception", .type "BaseException", .type "object"] = true) (sa_BadWay : PySem.W.findIn K (.ref C_BadWay) "__setattr__" = some (some (.builtin "object.__setattr__")))
    (ii_BadWay : PySem.W.findIn K (.ref C_BadWay) "__init__" = some (some (.ref f_BadWay_init))) (ti_BadWay : PySem.W.typeIn K (.ref f_BadWay_init) = some (.type "function"))
    (tk_BadWay_number : PySem.W.takerIn K C_BadWay "number" = some none) (fn_BadWay_number : PySem.W.findIn K (.ref C_BadWay) "number" = some none)
    (e1_BadTools : PySem.W.excInitIn K C_BadTools [.type "ValueError", .type "Exception", .type "BaseException", .type "object"] "ValueError.__new__" = true) (e2_BadTools : PySem.W.excOver K C_BadTools [.type "ValueError", .type "Exception", .type "BaseException", .type "object"] = true) (sa_BadTools : PySem.W.findIn K (.ref C_BadTools) "__setattr__" = some (some (.builtin "object.__setattr__")))
    (ii_BadTools : PySem.W.findIn K (.ref C_BadTools) "__init__" = some (some (.ref f_BadTools_init))) (ti_BadTools : PySem.W.typeIn K (.ref f_BadTools_init) = some (.type "function"))
    (tk_BadTools_number : PySem.W.takerIn K C_BadTools "number" = some none) (fn_BadTools_number : PySem.W.findIn K (.ref C_BadTools) "number" = some none)
    (e1_BadField : PySem.W.excInitIn K C_BadField [.type "ValueError", .type "Exception", .type "BaseException", .type "object"] "ValueError.__new__" = true) (e2_BadField : PySem.W.excOver K C_BadField [.type "ValueError", .type "Exception", .type "BaseException", .type "object"] = true) (sa_BadField : PySem.W.findIn K (.ref C_BadField) "__setattr__" = some (some (.builtin "object.__setattr__")))
    (ii_BadField : PySem.W.findIn K (.ref C_BadField) "__init__" = some (some (.ref f_BadField_init))) (ti_BadField : PySem.W.typeIn K (.ref f_BadField_init) = some (.type "function"))
    (tk_BadField_place : PySem.W.takerIn K C_BadField "place" = some none) (fn_BadField_place : PySem.W.findIn K (.ref C_BadField) "place" = some none)
    (e1_Beyond : PySem.W.excInitIn K C_Beyond [.type "RuntimeError", .type "Exception", .type "BaseException", .type "object"] "RuntimeError.__new__" = true) (e2_Beyond : PySem.W.excOver K C_Beyond [.type "RuntimeError", .type "Exception", .type "BaseException", .type "object"] = true) (sa_Beyond : PySem.W.findIn K (.ref C_Beyond) "__setattr__" = some (some (.builtin "object.__setattr__")))
    (ii_Beyond : PySem.W.findIn K (.ref C_Beyond) "__init__" = some (some (.ref f_Beyond_init))) (ti_Beyond : PySem.W.typeIn K (.ref f_Beyond_init) = some (.type "function"))
    (tk_Beyond_place : PySem.W.takerIn K C_Beyond "place" = some none) (fn_Beyond_place : PySem.W.findIn K (.ref C_Beyond) "place" = some none)
    (e1_NoTool : PySem.W.excInitIn K C_NoTool [.type "LookupError", .type "Exception", .type "BaseException", .type "object"] "LookupError.__new__" = true) (e2_NoTool : PySem.W.excOver K C_NoTool [.type "LookupError", .type "Exception", .type "BaseException", .type "object"] = true) (sa_NoTool : PySem.W.findIn K (.ref C_NoTool) "__setattr__" = some (some (.builtin "object.__setattr__")))
    (ii_NoTool : PySem.W.findIn K (.ref C_NoTool) "__init__" = some (some (.ref f_NoTool_init))) (ti_NoTool : PySem.W.typeIn K (.ref f_NoTool_init) = some (.type "function"))
    (tk_NoTool_tool : PySem.W.takerIn K C_NoTool "tool" = some none) (fn_NoTool_tool : PySem.W.findIn K (.ref C_NoTool) "tool" = some none)
    (e1_NoFeature : PySem.W.excInitIn K C_NoFeature [.type "LookupError", .type "Exception", .type "BaseException", .type "object"] "LookupError.__new__" = true) (e2_NoFeature : PySem.W.excOver K C_NoFeature [.type "LookupError", .type "Exception", .type "BaseException", .type "object"] = true) (sa_NoFeature : PySem.W.findIn K (.ref C_NoFeature) "__setattr__" = some (some (.builtin "object.__setattr__")))
    (ii_NoFeature : PySem.W.findIn K (.ref C_NoFeature) "__init__" = some (some (.ref f_NoFeature_init))) (ti_NoFeature : PySem.W.typeIn K (.ref f_NoFeature_init) = some (.type "function"))
    (tk_NoFeature_number : PySem.W.takerIn K C_NoFeature "number" = some none) (fn_NoFeature_number : PySem.W.findIn K (.ref C_NoFeature) "number" = some none)
    (e1_NoSaying : PySem.W.excInitIn K C_NoSaying [.type "LookupError", .type "Exception", .type "BaseException", .type "object"] "LookupError.__new__" = true) (e2_NoSaying : PySem.W.excOver K C_NoSaying [.type "LookupError", .type "Exception", .type "BaseException", .type "object"] = true) (sa_NoSaying : PySem.W.findIn K (.ref C_NoSaying) "__setattr__" = some (some (.builtin "object.__setattr__")))
    (ii_NoSaying : PySem.W.findIn K (.ref C_NoSaying) "__init__" = some (some (.ref f_NoSaying_init))) (ti_NoSaying : PySem.W.typeIn K (.ref f_NoSaying_init) = some (.type "function"))
    (tk_NoSaying_number : PySem.W.takerIn K C_NoSaying "number" = some none) (fn_NoSaying_number : PySem.W.findIn K (.ref C_NoSaying) "number" = some none)
    (e1_NoPoint : PySem.W.excInitIn K C_NoPoint [.type "LookupError", .type "Exception", .type "BaseException", .type "object"] "LookupError.__new__" = true) (e2_NoPoint : PySem.W.excOver K C_NoPoint [.type "LookupError", .type "Exception", .type "BaseException", .type "object"] = true) (sa_NoPoint : PySem.W.findIn K (.ref C_NoPoint) "__setattr__" = some (some (.builtin "object.__setattr__")))
    (ii_NoPoint : PySem.W.findIn K (.ref C_NoPoint) "__init__" = some (some (.ref f_NoPoint_init))) (ti_NoPoint : PySem.W.typeIn K (.ref f_NoPoint_init) = some (.type "function"))
    (tk_NoPoint_name : PySem.W.takerIn K C_NoPoint "name" = some none) (fn_NoPoint_name : PySem.W.findIn K (.ref C_NoPoint) "name" = some none)
    (e1_TooDeep : PySem.W.excInitIn K C_TooDeep [.type "RuntimeError", .type "Exception", .type "BaseException", .type "object"] "RuntimeError.__new__" = true) (e2_TooDeep : PySem.W.excOver K C_TooDeep [.type "RuntimeError", .type "Exception", .type "BaseException", .type "object"] = true) (sa_TooDeep : PySem.W.findIn K (.ref C_TooDeep) "__setattr__" = some (some (.builtin "object.__setattr__")))
    (ii_TooDeep : PySem.W.findIn K (.ref C_TooDeep) "__init__" = some (some (.ref f_TooDeep_init))) (ti_TooDeep : PySem.W.typeIn K (.ref f_TooDeep_init) = some (.type "function"))
    (tk_TooDeep_place : PySem.W.takerIn K C_TooDeep "place" = some none) (fn_TooDeep_place : PySem.W.findIn K (.ref C_TooDeep) "place" = some none)
    (e1_Blocked : PySem.W.excInitIn K C_Blocked [.type "RuntimeError", .type "Exception", .type "BaseException", .type "object"] "RuntimeError.__new__" = true) (e2_Blocked : PySem.W.excOver K C_Blocked [.type "RuntimeError", .type "Exception", .type "BaseException", .type "object"] = true) (sa_Blocked : PySem.W.findIn K (.ref C_Blocked) "__setattr__" = some (some (.builtin "object.__setattr__")))
    (ii_Blocked : PySem.W.findIn K (.ref C_Blocked) "__init__" = some (some (.ref f_Blocked_init))) (ti_Blocked : PySem.W.typeIn K (.ref f_Blocked_init) = some (.type "function"))
    (tk_Blocked_place : PySem.W.takerIn K C_Blocked "place" = some none) (fn_Blocked_place : PySem.W.findIn K (.ref C_Blocked) "place" = some none)
    (xe_NoToolThere : PySem.W.excIn K C_NoToolThere [.type "RuntimeError", .type "Exception", .type "BaseException", .type "object"] "RuntimeError.__new__" = true)
    (xe_Nothing : PySem.W.excIn K C_Nothing [.type "LookupError", .type "Exception", .type "BaseException", .type "object"] "LookupError.__new__" = true)
    (xe_TooGreat : PySem.W.excIn K C_TooGreat [.type "ValueError", .type "Exception", .type "BaseException", .type "object"] "ValueError.__new__" = true)
    (xe_OutOfPlace : PySem.W.excIn K C_OutOfPlace [.type "ValueError", .type "Exception", .type "BaseException", .type "object"] "ValueError.__new__" = true)
    (xe_Twice : PySem.W.excIn K C_Twice [.type "ValueError", .type "Exception", .type "BaseException", .type "object"] "ValueError.__new__" = true)
    (xe_Lowered : PySem.W.excIn K C_Lowered [.type "RuntimeError", .type "Exception", .type "BaseException", .type "object"] "RuntimeError.__new__" = true)
    (xe_Lifted : PySem.W.excIn K C_Lifted [.type "RuntimeError", .type "Exception", .type "BaseException", .type "object"] "RuntimeError.__new__" = true)
    (ke_BadFeature : PySem.W.keepIn K (.ref C_BadFeature) = true) (be_BadFeature : PySem.W.subIn K (.ref C_BadFeature) (.type "BaseException") = some true)
    (q1_BadFeature : PySem.W.findIn K (.ref C_BadFeature) "__getattribute__" = some (some (.builtin "BaseException.__getattribute__"))) (q2_BadFeature : PySem.W.findIn K (.ref C_BadFeature) "__getattr__" = some none) (q3_BadFeature : PySem.W.hasDictIn K C_BadFeature = true)
    (q4_BadFeature : PySem.W.findIn K (.ref C_BadFeature) "__class__" = some (some (.builtin "object.__class__"))) (q7_BadFeature : PySem.W.mroIn K C_BadFeature (.type "object") = some true)
    (il_BadFeature : ([.ref C_BadRow, .ref C_BadSketch, .ref C_BadBlock, .ref C_BadOutline, .ref C_BadFeature, .ref C_BadField, .ref C_BadTools, .ref C_BadWay, .ref C_BadPaper, .ref C_Clash, .ref C_Twice, .ref C_OutOfPlace, .ref C_TooGreat, .ref C_NoPoint, .ref C_NoSaying, .ref C_NoFeature, .ref C_NoTool, .ref C_Nothing, .ref C_NoToolThere, .ref C_Lifted, .ref C_Lowered, .ref C_Beyond, .ref C_Blocked, .ref C_TooDeep, .ref C_WorksError, .type "ValueError", .ref C_MissError, .type "LookupError", .ref C_FaultError, .type "RuntimeError"] : List Value).map (PySem.W.kitOne K (.ref C_BadFeature)) = [some false, some false, some false, some false, some true, some false, some false, some false, some false, some false, some false, some false, some false, some false, some false, some false, some false, some false, some false, some false, some false, some false, some false, some false, some true, some true, some false, some false, some false, some false])
    (ke_BadOutline : PySem.W.keepIn K (.ref C_BadOutline) = true) (be_BadOutline : PySem.W.subIn K (.ref C_BadOutline) (.type "BaseException") = some true)
    (q1_BadOutline : PySem.W.findIn K (.ref C_BadOutline) "__getattribute__" = some (some (.builtin "BaseException.__getattribute__"))) (q2_BadOutline : PySem.W.findIn K (.ref C_BadOutline) "__getattr__" = some none) (q3_BadOutline : PySem.W.hasDictIn K C_BadOutline = true)
    (q4_BadOutline : PySem.W.findIn K (.ref C_BadOutline) "__class__" = some (some (.builtin "object.__class__"))) (q7_BadOutline : PySem.W.mroIn K C_BadOutline (.type "object") = some true)
    (il_BadOutline : ([.ref C_BadRow, .ref C_BadSketch, .ref C_BadBlock, .ref C_BadOutline, .ref C_BadFeature, .ref C_BadField, .ref C_BadTools, .ref C_BadWay, .ref C_BadPaper, .ref C_Clash, .ref C_Twice, .ref C_OutOfPlace, .ref C_TooGreat, .ref C_NoPoint, .ref C_NoSaying, .ref C_NoFeature, .ref C_NoTool, .ref C_Nothing, .ref C_NoToolThere, .ref C_Lifted, .ref C_Lowered, .ref C_Beyond, .ref C_Blocked, .ref C_TooDeep, .ref C_WorksError, .type "ValueError", .ref C_MissError, .type "LookupError", .ref C_FaultError, .type "RuntimeError"] : List Value).map (PySem.W.kitOne K (.ref C_BadOutline)) = [some false, some false, some false, some true, some false, some false, some false, some false, some false, some false, some false, some false, some false, some false, some false, some false, some false, some false, some false, some false, some false, some false, some false, some false, some true, some true, some false, some false, some false, some false])
    (ke_BadBlock : PySem.W.keepIn K (.ref C_BadBlock) = true) (be_BadBlock : PySem.W.subIn K (.ref C_BadBlock) (.type "BaseException") = some true)
    (q1_BadBlock : PySem.W.findIn K (.ref C_BadBlock) "__getattribute__" = some (some (.builtin "BaseException.__getattribute__"))) (q2_BadBlock : PySem.W.findIn K (.ref C_BadBlock) "__getattr__" = some none) (q3_BadBlock : PySem.W.hasDictIn K C_BadBlock = true)
    (q4_BadBlock : PySem.W.findIn K (.ref C_BadBlock) "__class__" = some (some (.builtin "object.__class__"))) (q7_BadBlock : PySem.W.mroIn K C_BadBlock (.type "object") = some true)
    (il_BadBlock : ([.ref C_BadRow, .ref C_BadSketch, .ref C_BadBlock, .ref C_BadOutline, .ref C_BadFeature, .ref C_BadField, .ref C_BadTools, .ref C_BadWay, .ref C_BadPaper, .ref C_Clash, .ref C_Twice, .ref C_OutOfPlace, .ref C_TooGreat, .ref C_NoPoint, .ref C_NoSaying, .ref C_NoFeature, .ref C_NoTool, .ref C_Nothing, .ref C_NoToolThere, .ref C_Lifted, .ref C_Lowered, .ref C_Beyond, .ref C_Blocked, .ref C_TooDeep, .ref C_WorksError, .type "ValueError", .ref C_MissError, .type "LookupError", .ref C_FaultError, .type "RuntimeError"] : List Value).map (PySem.W.kitOne K (.ref C_BadBlock)) = [some false, some false, some true, some false, some false, some false, some false, some false, some false, some false, some false, some false, some false, some false, some false, some false, some false, some false, some false, some false, some false, some false, some false, some false, some true, some true, some false, some false, some false, some false])
    (ke_BadSketch : PySem.W.keepIn K (.ref C_BadSketch) = true) (be_BadSketch : PySem.W.subIn K (.ref C_BadSketch) (.type "BaseException") = some true)
    (q1_BadSketch : PySem.W.findIn K (.ref C_BadSketch) "__getattribute__" = some (some (.builtin "BaseException.__getattribute__"))) (q2_BadSketch : PySem.W.findIn K (.ref C_BadSketch) "__getattr__" = some none) (q3_BadSketch : PySem.W.hasDictIn K C_BadSketch = true)
    (q4_BadSketch : PySem.W.findIn K (.ref C_BadSketch) "__class__" = some (some (.builtin "object.__class__"))) (q7_BadSketch : PySem.W.mroIn K C_BadSketch (.type "object") = some true)
    (il_BadSketch : ([.ref C_BadRow, .ref C_BadSketch, .ref C_BadBlock, .ref C_BadOutline, .ref C_BadFeature, .ref C_BadField, .ref C_BadTools, .ref C_BadWay, .ref C_BadPaper, .ref C_Clash, .ref C_Twice, .ref C_OutOfPlace, .ref C_TooGreat, .ref C_NoPoint, .ref C_NoSaying, .ref C_NoFeature, .ref C_NoTool, .ref C_Nothing, .ref C_NoToolThere, .ref C_Lifted, .ref C_Lowered, .ref C_Beyond, .ref C_Blocked, .ref C_TooDeep, .ref C_WorksError, .type "ValueError", .ref C_MissError, .type "LookupError", .ref C_FaultError, .type "RuntimeError"] : List Value).map (PySem.W.kitOne K (.ref C_BadSketch)) = [some false, some true, some false, some false, some false, some false, some false, some false, some false, some false, some false, some false, some false, some false, some false, some false, some false, some false, some false, some false, some false, some false, some false, some false, some true, some true, some false, some false, some false, some false])
    (ke_BadRow : PySem.W.keepIn K (.ref C_BadRow) = true) (be_BadRow : PySem.W.subIn K (.ref C_BadRow) (.type "BaseException") = some true)
    (q1_BadRow : PySem.W.findIn K (.ref C_BadRow) "__getattribute__" = some (some (.builtin "BaseException.__getattribute__"))) (q2_BadRow : PySem.W.findIn K (.ref C_BadRow) "__getattr__" = some none) (q3_BadRow : PySem.W.hasDictIn K C_BadRow = true)
    (q4_BadRow : PySem.W.findIn K (.ref C_BadRow) "__class__" = some (some (.builtin "object.__class__"))) (q7_BadRow : PySem.W.mroIn K C_BadRow (.type "object") = some true)
    (il_BadRow : ([.ref C_BadRow, .ref C_BadSketch, .ref C_BadBlock, .ref C_BadOutline, .ref C_BadFeature, .ref C_BadField, .ref C_BadTools, .ref C_BadWay, .ref C_BadPaper, .ref C_Clash, .ref C_Twice, .ref C_OutOfPlace, .ref C_TooGreat, .ref C_NoPoint, .ref C_NoSaying, .ref C_NoFeature, .ref C_NoTool, .ref C_Nothing, .ref C_NoToolThere, .ref C_Lifted, .ref C_Lowered, .ref C_Beyond, .ref C_Blocked, .ref C_TooDeep, .ref C_WorksError, .type "ValueError", .ref C_MissError, .type "LookupError", .ref C_FaultError, .type "RuntimeError"] : List Value).map (PySem.W.kitOne K (.ref C_BadRow)) = [some true, some false, some false, some false, some false, some false, some false, some false, some false, some false, some false, some false, some false, some false, some false, some false, some false, some false, some false, some false, some false, some false, some false, some false, some true, some true, some false, some false, some false, some false])
    (ke_Clash : PySem.W.keepIn K (.ref C_Clash) = true) (be_Clash : PySem.W.subIn K (.ref C_Clash) (.type "BaseException") = some true)
    (q1_Clash : PySem.W.findIn K (.ref C_Clash) "__getattribute__" = some (some (.builtin "BaseException.__getattribute__"))) (q2_Clash : PySem.W.findIn K (.ref C_Clash) "__getattr__" = some none) (q3_Clash : PySem.W.hasDictIn K C_Clash = true)
    (q4_Clash : PySem.W.findIn K (.ref C_Clash) "__class__" = some (some (.builtin "object.__class__"))) (q7_Clash : PySem.W.mroIn K C_Clash (.type "object") = some true)
    (il_Clash : ([.ref C_BadRow, .ref C_BadSketch, .ref C_BadBlock, .ref C_BadOutline, .ref C_BadFeature, .ref C_BadField, .ref C_BadTools, .ref C_BadWay, .ref C_BadPaper, .ref C_Clash, .ref C_Twice, .ref C_OutOfPlace, .ref C_TooGreat, .ref C_NoPoint, .ref C_NoSaying, .ref C_NoFeature, .ref C_NoTool, .ref C_Nothing, .ref C_NoToolThere, .ref C_Lifted, .ref C_Lowered, .ref C_Beyond, .ref C_Blocked, .ref C_TooDeep, .ref C_WorksError, .type "ValueError", .ref C_MissError, .type "LookupError", .ref C_FaultError, .type "RuntimeError"] : List Value).map (PySem.W.kitOne K (.ref C_Clash)) = [some false, some false, some false, some false, some false, some false, some false, some false, some false, some true, some false, some false, some false, some false, some false, some false, some false, some false, some false, some false, some false, some false, some false, some false, some true, some true, some false, some false, some false, some false])
    (ke_BadPaper : PySem.W.keepIn K (.ref C_BadPaper) = true) (be_BadPaper : PySem.W.subIn K (.ref C_BadPaper) (.type "BaseException") = some true)
    (q1_BadPaper : PySem.W.findIn K (.ref C_BadPaper) "__getattribute__" = some (some (.builtin "BaseException.__getattribute__"))) (q2_BadPaper : PySem.W.findIn K (.ref C_BadPaper) "__getattr__" = some none) (q3_BadPaper : PySem.W.hasDictIn K C_BadPaper = true)
    (q4_BadPaper : PySem.W.findIn K (.ref C_BadPaper) "__class__" = some (some (.builtin "object.__class__"))) (q7_BadPaper : PySem.W.mroIn K C_BadPaper (.type "object") = some true)
    (il_BadPaper : ([.ref C_BadRow, .ref C_BadSketch, .ref C_BadBlock, .ref C_BadOutline, .ref C_BadFeature, .ref C_BadField, .ref C_BadTools, .ref C_BadWay, .ref C_BadPaper, .ref C_Clash, .ref C_Twice, .ref C_OutOfPlace, .ref C_TooGreat, .ref C_NoPoint, .ref C_NoSaying, .ref C_NoFeature, .ref C_NoTool, .ref C_Nothing, .ref C_NoToolThere, .ref C_Lifted, .ref C_Lowered, .ref C_Beyond, .ref C_Blocked, .ref C_TooDeep, .ref C_WorksError, .type "ValueError", .ref C_MissError, .type "LookupError", .ref C_FaultError, .type "RuntimeError"] : List Value).map (PySem.W.kitOne K (.ref C_BadPaper)) = [some false, some false, some false, some false, some false, some false, some false, some false, some true, some false, some false, some false, some false, some false, some false, some false, some false, some false, some false, some false, some false, some false, some false, some false, some true, some true, some false, some false, some false, some false])
    (ke_BadWay : PySem.W.keepIn K (.ref C_BadWay) = true) (be_BadWay : PySem.W.subIn K (.ref C_BadWay) (.type "BaseException") = some true)
    (q1_BadWay : PySem.W.findIn K (.ref C_BadWay) "__getattribute__" = some (some (.builtin "BaseException.__getattribute__"))) (q2_BadWay : PySem.W.findIn K (.ref C_BadWay) "__getattr__" = some none) (q3_BadWay : PySem.W.hasDictIn K C_BadWay = true)
    (q4_BadWay : PySem.W.findIn K (.ref C_BadWay) "__class__" = some (some (.builtin "object.__class__"))) (q7_BadWay : PySem.W.mroIn K C_BadWay (.type "object") = some true)
    (il_BadWay : ([.ref C_BadRow, .ref C_BadSketch, .ref C_BadBlock, .ref C_BadOutline, .ref C_BadFeature, .ref C_BadField, .ref C_BadTools, .ref C_BadWay, .ref C_BadPaper, .ref C_Clash, .ref C_Twice, .ref C_OutOfPlace, .ref C_TooGreat, .ref C_NoPoint, .ref C_NoSaying, .ref C_NoFeature, .ref C_NoTool, .ref C_Nothing, .ref C_NoToolThere, .ref C_Lifted, .ref C_Lowered, .ref C_Beyond, .ref C_Blocked, .ref C_TooDeep, .ref C_WorksError, .type "ValueError", .ref C_MissError, .type "LookupError", .ref C_FaultError, .type "RuntimeError"] : List Value).map (PySem.W.kitOne K (.ref C_BadWay)) = [some false, some false, some false, some false, some false, some false, some false, some true, some false, some false, some false, some false, some false, some false, some false, some false, some false, some false, some false, some false, some false, some false, some false, some false, some true, some true, some false, some false, some false, some false])
    (ke_BadTools : PySem.W.keepIn K (.ref C_BadTools) = true) (be_BadTools : PySem.W.subIn K (.ref C_BadTools) (.type "BaseException") = some true)
    (q1_BadTools : PySem.W.findIn K (.ref C_BadTools) "__getattribute__" = some (some (.builtin "BaseException.__getattribute__"))) (q2_BadTools : PySem.W.findIn K (.ref C_BadTools) "__getattr__" = some none) (q3_BadTools : PySem.W.hasDictIn K C_BadTools = true)
    (q4_BadTools : PySem.W.findIn K (.ref C_BadTools) "__class__" = some (some (.builtin "object.__class__"))) (q7_BadTools : PySem.W.mroIn K C_BadTools (.type "object") = some true)
    (il_BadTools : ([.ref C_BadRow, .ref C_BadSketch, .ref C_BadBlock, .ref C_BadOutline, .ref C_BadFeature, .ref C_BadField, .ref C_BadTools, .ref C_BadWay, .ref C_BadPaper, .ref C_Clash, .ref C_Twice, .ref C_OutOfPlace, .ref C_TooGreat, .ref C_NoPoint, .ref C_NoSaying, .ref C_NoFeature, .ref C_NoTool, .ref C_Nothing, .ref C_NoToolThere, .ref C_Lifted, .ref C_Lowered, .ref C_Beyond, .ref C_Blocked, .ref C_TooDeep, .ref C_WorksError, .type "ValueError", .ref C_MissError, .type "LookupError", .ref C_FaultError, .type "RuntimeError"] : List Value).map (PySem.W.kitOne K (.ref C_BadTools)) = [some false, some false, some false, some false, some false, some false, some true, some false, some false, some false, some false, some false, some false, some false, some false, some false, some false, some false, some false, some false, some false, some false, some false, some false, some true, some true, some false, some false, some false, some false])
    (ke_BadField : PySem.W.keepIn K (.ref C_BadField) = true) (be_BadField : PySem.W.subIn K (.ref C_BadField) (.type "BaseException") = some true)
    (q1_BadField : PySem.W.findIn K (.ref C_BadField) "__getattribute__" = some (some (.builtin "BaseException.__getattribute__"))) (q2_BadField : PySem.W.findIn K (.ref C_BadField) "__getattr__" = some none) (q3_BadField : PySem.W.hasDictIn K C_BadField = true)
    (q4_BadField : PySem.W.findIn K (.ref C_BadField) "__class__" = some (some (.builtin "object.__class__"))) (q7_BadField : PySem.W.mroIn K C_BadField (.type "object") = some true)
    (il_BadField : ([.ref C_BadRow, .ref C_BadSketch, .ref C_BadBlock, .ref C_BadOutline, .ref C_BadFeature, .ref C_BadField, .ref C_BadTools, .ref C_BadWay, .ref C_BadPaper, .ref C_Clash, .ref C_Twice, .ref C_OutOfPlace, .ref C_TooGreat, .ref C_NoPoint, .ref C_NoSaying, .ref C_NoFeature, .ref C_NoTool, .ref C_Nothing, .ref C_NoToolThere, .ref C_Lifted, .ref C_Lowered, .ref C_Beyond, .ref C_Blocked, .ref C_TooDeep, .ref C_WorksError, .type "ValueError", .ref C_MissError, .type "LookupError", .ref C_FaultError, .type "RuntimeError"] : List Value).map (PySem.W.kitOne K (.ref C_BadField)) = [some false, some false, some false, some false, some false, some true, some false, some false, some false, some false, some false, some false, some false, some false, some false, some false, some false, some false, some false, some false, some false, some false, some false, some false, some true, some true, some false, some false, some false, some false])
    (ke_Beyond : PySem.W.keepIn K (.ref C_Beyond) = true) (be_Beyond : PySem.W.subIn K (.ref C_Beyond) (.type "BaseException") = some true)
    (q1_Beyond : PySem.W.findIn K (.ref C_Beyond) "__getattribute__" = some (some (.builtin "BaseException.__getattribute__"))) (q2_Beyond : PySem.W.findIn K (.ref C_Beyond) "__getattr__" = some none) (q3_Beyond : PySem.W.hasDictIn K C_Beyond = true)
    (q4_Beyond : PySem.W.findIn K (.ref C_Beyond) "__class__" = some (some (.builtin "object.__class__"))) (q7_Beyond : PySem.W.mroIn K C_Beyond (.type "object") = some true)
    (il_Beyond : ([.ref C_BadRow, .ref C_BadSketch, .ref C_BadBlock, .ref C_BadOutline, .ref C_BadFeature, .ref C_BadField, .ref C_BadTools, .ref C_BadWay, .ref C_BadPaper, .ref C_Clash, .ref C_Twice, .ref C_OutOfPlace, .ref C_TooGreat, .ref C_NoPoint, .ref C_NoSaying, .ref C_NoFeature, .ref C_NoTool, .ref C_Nothing, .ref C_NoToolThere, .ref C_Lifted, .ref C_Lowered, .ref C_Beyond, .ref C_Blocked, .ref C_TooDeep, .ref C_WorksError, .type "ValueError", .ref C_MissError, .type "LookupError", .ref C_FaultError, .type "RuntimeError"] : List Value).map (PySem.W.kitOne K (.ref C_Beyond)) = [some false, some false, some false, some false, some false, some false, some false, some false, some false, some false, some false, some false, some false, some false, some false, some false, some false, some false, some false, some false, some false, some true, some false, some false, some false, some false, some false, some false, some true, some true])
    (ke_NoTool : PySem.W.keepIn K (.ref C_NoTool) = true) (be_NoTool : PySem.W.subIn K (.ref C_NoTool) (.type "BaseException") = some true)
    (q1_NoTool : PySem.W.findIn K (.ref C_NoTool) "__getattribute__" = some (some (.builtin "BaseException.__getattribute__"))) (q2_NoTool : PySem.W.findIn K (.ref C_NoTool) "__getattr__" = some none) (q3_NoTool : PySem.W.hasDictIn K C_NoTool = true)
    (q4_NoTool : PySem.W.findIn K (.ref C_NoTool) "__class__" = some (some (.builtin "object.__class__"))) (q7_NoTool : PySem.W.mroIn K C_NoTool (.type "object") = some true)
    (il_NoTool : ([.ref C_BadRow, .ref C_BadSketch, .ref C_BadBlock, .ref C_BadOutline, .ref C_BadFeature, .ref C_BadField, .ref C_BadTools, .ref C_BadWay, .ref C_BadPaper, .ref C_Clash, .ref C_Twice, .ref C_OutOfPlace, .ref C_TooGreat, .ref C_NoPoint, .ref C_NoSaying, .ref C_NoFeature, .ref C_NoTool, .ref C_Nothing, .ref C_NoToolThere, .ref C_Lifted, .ref C_Lowered, .ref C_Beyond, .ref C_Blocked, .ref C_TooDeep, .ref C_WorksError, .type "ValueError", .ref C_MissError, .type "LookupError", .ref C_FaultError, .type "RuntimeError"] : List Value).map (PySem.W.kitOne K (.ref C_NoTool)) = [some false, some false, some false, some false, some false, some false, some false, some false, some false, some false, some false, some false, some false, some false, some false, some false, some true, some false, some false, some false, some false, some false, some false, some false, some false, some false, some true, some true, some false, some false])
    (ke_NoFeature : PySem.W.keepIn K (.ref C_NoFeature) = true) (be_NoFeature : PySem.W.subIn K (.ref C_NoFeature) (.type "BaseException") = some true)
    (q1_NoFeature : PySem.W.findIn K (.ref C_NoFeature) "__getattribute__" = some (some (.builtin "BaseException.__getattribute__"))) (q2_NoFeature : PySem.W.findIn K (.ref C_NoFeature) "__getattr__" = some none) (q3_NoFeature : PySem.W.hasDictIn K C_NoFeature = true)
    (q4_NoFeature : PySem.W.findIn K (.ref C_NoFeature) "__class__" = some (some (.builtin "object.__class__"))) (q7_NoFeature : PySem.W.mroIn K C_NoFeature (.type "object") = some true)
    (il_NoFeature : ([.ref C_BadRow, .ref C_BadSketch, .ref C_BadBlock, .ref C_BadOutline, .ref C_BadFeature, .ref C_BadField, .ref C_BadTools, .ref C_BadWay, .ref C_BadPaper, .ref C_Clash, .ref C_Twice, .ref C_OutOfPlace, .ref C_TooGreat, .ref C_NoPoint, .ref C_NoSaying, .ref C_NoFeature, .ref C_NoTool, .ref C_Nothing, .ref C_NoToolThere, .ref C_Lifted, .ref C_Lowered, .ref C_Beyond, .ref C_Blocked, .ref C_TooDeep, .ref C_WorksError, .type "ValueError", .ref C_MissError, .type "LookupError", .ref C_FaultError, .type "RuntimeError"] : List Value).map (PySem.W.kitOne K (.ref C_NoFeature)) = [some false, some false, some false, some false, some false, some false, some false, some false, some false, some false, some false, some false, some false, some false, some false, some true, some false, some false, some false, some false, some false, some false, some false, some false, some false, some false, some true, some true, some false, some false])
    (ke_NoSaying : PySem.W.keepIn K (.ref C_NoSaying) = true) (be_NoSaying : PySem.W.subIn K (.ref C_NoSaying) (.type "BaseException") = some true)
    (q1_NoSaying : PySem.W.findIn K (.ref C_NoSaying) "__getattribute__" = some (some (.builtin "BaseException.__getattribute__"))) (q2_NoSaying : PySem.W.findIn K (.ref C_NoSaying) "__getattr__" = some none) (q3_NoSaying : PySem.W.hasDictIn K C_NoSaying = true)
    (q4_NoSaying : PySem.W.findIn K (.ref C_NoSaying) "__class__" = some (some (.builtin "object.__class__"))) (q7_NoSaying : PySem.W.mroIn K C_NoSaying (.type "object") = some true)
    (il_NoSaying : ([.ref C_BadRow, .ref C_BadSketch, .ref C_BadBlock, .ref C_BadOutline, .ref C_BadFeature, .ref C_BadField, .ref C_BadTools, .ref C_BadWay, .ref C_BadPaper, .ref C_Clash, .ref C_Twice, .ref C_OutOfPlace, .ref C_TooGreat, .ref C_NoPoint, .ref C_NoSaying, .ref C_NoFeature, .ref C_NoTool, .ref C_Nothing, .ref C_NoToolThere, .ref C_Lifted, .ref C_Lowered, .ref C_Beyond, .ref C_Blocked, .ref C_TooDeep, .ref C_WorksError, .type "ValueError", .ref C_MissError, .type "LookupError", .ref C_FaultError, .type "RuntimeError"] : List Value).map (PySem.W.kitOne K (.ref C_NoSaying)) = [some false, some false, some false, some false, some false, some false, some false, some false, some false, some false, some false, some false, some false, some false, some true, some false, some false, some false, some false, some false, some false, some false, some false, some false, some false, some false, some true, some true, some false, some false])
    (ke_NoPoint : PySem.W.keepIn K (.ref C_NoPoint) = true) (be_NoPoint : PySem.W.subIn K (.ref C_NoPoint) (.type "BaseException") = some true)
    (q1_NoPoint : PySem.W.findIn K (.ref C_NoPoint) "__getattribute__" = some (some (.builtin "BaseException.__getattribute__"))) (q2_NoPoint : PySem.W.findIn K (.ref C_NoPoint) "__getattr__" = some none) (q3_NoPoint : PySem.W.hasDictIn K C_NoPoint = true)
    (q4_NoPoint : PySem.W.findIn K (.ref C_NoPoint) "__class__" = some (some (.builtin "object.__class__"))) (q7_NoPoint : PySem.W.mroIn K C_NoPoint (.type "object") = some true)
    (il_NoPoint : ([.ref C_BadRow, .ref C_BadSketch, .ref C_BadBlock, .ref C_BadOutline, .ref C_BadFeature, .ref C_BadField, .ref C_BadTools, .ref C_BadWay, .ref C_BadPaper, .ref C_Clash, .ref C_Twice, .ref C_OutOfPlace, .ref C_TooGreat, .ref C_NoPoint, .ref C_NoSaying, .ref C_NoFeature, .ref C_NoTool, .ref C_Nothing, .ref C_NoToolThere, .ref C_Lifted, .ref C_Lowered, .ref C_Beyond, .ref C_Blocked, .ref C_TooDeep, .ref C_WorksError, .type "ValueError", .ref C_MissError, .type "LookupError", .ref C_FaultError, .type "RuntimeError"] : List Value).map (PySem.W.kitOne K (.ref C_NoPoint)) = [some false, some false, some false, some false, some false, some false, some false, some false, some false, some false, some false, some false, some false, some true, some false, some false, some false, some false, some false, some false, some false, some false, some false, some false, some false, some false, some true, some true, some false, some false])
    (ke_TooDeep : PySem.W.keepIn K (.ref C_TooDeep) = true) (be_TooDeep : PySem.W.subIn K (.ref C_TooDeep) (.type "BaseException") = some true)
    (q1_TooDeep : PySem.W.findIn K (.ref C_TooDeep) "__getattribute__" = some (some (.builtin "BaseException.__getattribute__"))) (q2_TooDeep : PySem.W.findIn K (.ref C_TooDeep) "__getattr__" = some none) (q3_TooDeep : PySem.W.hasDictIn K C_TooDeep = true)
    (q4_TooDeep : PySem.W.findIn K (.ref C_TooDeep) "__class__" = some (some (.builtin "object.__class__"))) (q7_TooDeep : PySem.W.mroIn K C_TooDeep (.type "object") = some true)
    (il_TooDeep : ([.ref C_BadRow, .ref C_BadSketch, .ref C_BadBlock, .ref C_BadOutline, .ref C_BadFeature, .ref C_BadField, .ref C_BadTools, .ref C_BadWay, .ref C_BadPaper, .ref C_Clash, .ref C_Twice, .ref C_OutOfPlace, .ref C_TooGreat, .ref C_NoPoint, .ref C_NoSaying, .ref C_NoFeature, .ref C_NoTool, .ref C_Nothing, .ref C_NoToolThere, .ref C_Lifted, .ref C_Lowered, .ref C_Beyond, .ref C_Blocked, .ref C_TooDeep, .ref C_WorksError, .type "ValueError", .ref C_MissError, .type "LookupError", .ref C_FaultError, .type "RuntimeError"] : List Value).map (PySem.W.kitOne K (.ref C_TooDeep)) = [some false, some false, some false, some false, some false, some false, some false, some false, some false, some false, some false, some false, some false, some false, some false, some false, some false, some false, some false, some false, some false, some false, some false, some true, some false, some false, some false, some false, some true, some true])
    (ke_Blocked : PySem.W.keepIn K (.ref C_Blocked) = true) (be_Blocked : PySem.W.subIn K (.ref C_Blocked) (.type "BaseException") = some true)
    (q1_Blocked : PySem.W.findIn K (.ref C_Blocked) "__getattribute__" = some (some (.builtin "BaseException.__getattribute__"))) (q2_Blocked : PySem.W.findIn K (.ref C_Blocked) "__getattr__" = some none) (q3_Blocked : PySem.W.hasDictIn K C_Blocked = true)
    (q4_Blocked : PySem.W.findIn K (.ref C_Blocked) "__class__" = some (some (.builtin "object.__class__"))) (q7_Blocked : PySem.W.mroIn K C_Blocked (.type "object") = some true)
    (il_Blocked : ([.ref C_BadRow, .ref C_BadSketch, .ref C_BadBlock, .ref C_BadOutline, .ref C_BadFeature, .ref C_BadField, .ref C_BadTools, .ref C_BadWay, .ref C_BadPaper, .ref C_Clash, .ref C_Twice, .ref C_OutOfPlace, .ref C_TooGreat, .ref C_NoPoint, .ref C_NoSaying, .ref C_NoFeature, .ref C_NoTool, .ref C_Nothing, .ref C_NoToolThere, .ref C_Lifted, .ref C_Lowered, .ref C_Beyond, .ref C_Blocked, .ref C_TooDeep, .ref C_WorksError, .type "ValueError", .ref C_MissError, .type "LookupError", .ref C_FaultError, .type "RuntimeError"] : List Value).map (PySem.W.kitOne K (.ref C_Blocked)) = [some false, some false, some false, some false, some false, some false, some false, some false, some false, some false, some false, some false, some false, some false, some false, some false, some false, some false, some false, some false, some false, some false, some true, some false, some false, some false, some false, some false, some true, some true])
    (ke_NoToolThere : PySem.W.keepIn K (.ref C_NoToolThere) = true) (be_NoToolThere : PySem.W.subIn K (.ref C_NoToolThere) (.type "BaseException") = some true)
    (q1_NoToolThere : PySem.W.findIn K (.ref C_NoToolThere) "__getattribute__" = some (some (.builtin "BaseException.__getattribute__"))) (q2_NoToolThere : PySem.W.findIn K (.ref C_NoToolThere) "__getattr__" = some none) (q3_NoToolThere : PySem.W.hasDictIn K C_NoToolThere = true)
    (q4_NoToolThere : PySem.W.findIn K (.ref C_NoToolThere) "__class__" = some (some (.builtin "object.__class__"))) (q7_NoToolThere : PySem.W.mroIn K C_NoToolThere (.type "object") = some true)
    (il_NoToolThere : ([.ref C_BadRow, .ref C_BadSketch, .ref C_BadBlock, .ref C_BadOutline, .ref C_BadFeature, .ref C_BadField, .ref C_BadTools, .ref C_BadWay, .ref C_BadPaper, .ref C_Clash, .ref C_Twice, .ref C_OutOfPlace, .ref C_TooGreat, .ref C_NoPoint, .ref C_NoSaying, .ref C_NoFeature, .ref C_NoTool, .ref C_Nothing, .ref C_NoToolThere, .ref C_Lifted, .ref C_Lowered, .ref C_Beyond, .ref C_Blocked, .ref C_TooDeep, .ref C_WorksError, .type "ValueError", .ref C_MissError, .type "LookupError", .ref C_FaultError, .type "RuntimeError"] : List Value).map (PySem.W.kitOne K (.ref C_NoToolThere)) = [some false, some false, some false, some false, some false, some false, some false, some false, some false, some false, some false, some false, some false, some false, some false, some false, some false, some false, some true, some false, some false, some false, some false, some false, some false, some false, some false, some false, some true, some true])
    (ke_Nothing : PySem.W.keepIn K (.ref C_Nothing) = true) (be_Nothing : PySem.W.subIn K (.ref C_Nothing) (.type "BaseException") = some true)
    (q1_Nothing : PySem.W.findIn K (.ref C_Nothing) "__getattribute__" = some (some (.builtin "BaseException.__getattribute__"))) (q2_Nothing : PySem.W.findIn K (.ref C_Nothing) "__getattr__" = some none) (q3_Nothing : PySem.W.hasDictIn K C_Nothing = true)
    (q4_Nothing : PySem.W.findIn K (.ref C_Nothing) "__class__" = some (some (.builtin "object.__class__"))) (q7_Nothing : PySem.W.mroIn K C_Nothing (.type "object") = some true)
    (il_Nothing : ([.ref C_BadRow, .ref C_BadSketch, .ref C_BadBlock, .ref C_BadOutline, .ref C_BadFeature, .ref C_BadField, .ref C_BadTools, .ref C_BadWay, .ref C_BadPaper, .ref C_Clash, .ref C_Twice, .ref C_OutOfPlace, .ref C_TooGreat, .ref C_NoPoint, .ref C_NoSaying, .ref C_NoFeature, .ref C_NoTool, .ref C_Nothing, .ref C_NoToolThere, .ref C_Lifted, .ref C_Lowered, .ref C_Beyond, .ref C_Blocked, .ref C_TooDeep, .ref C_WorksError, .type "ValueError", .ref C_MissError, .type "LookupError", .ref C_FaultError, .type "RuntimeError"] : List Value).map (PySem.W.kitOne K (.ref C_Nothing)) = [some false, some false, some false, some false, some false, some false, some false, some false, some false, some false, some false, some false, some false, some false, some false, some false, some false, some true, some false, some false, some false, some false, some false, some false, some false, some false, some true, some true, some false, some false])
    (ke_TooGreat : PySem.W.keepIn K (.ref C_TooGreat) = true) (be_TooGreat : PySem.W.subIn K (.ref C_TooGreat) (.type "BaseException") = some true)
    (q1_TooGreat : PySem.W.findIn K (.ref C_TooGreat) "__getattribute__" = some (some (.builtin "BaseException.__getattribute__"))) (q2_TooGreat : PySem.W.findIn K (.ref C_TooGreat) "__getattr__" = some none) (q3_TooGreat : PySem.W.hasDictIn K C_TooGreat = true)
    (q4_TooGreat : PySem.W.findIn K (.ref C_TooGreat) "__class__" = some (some (.builtin "object.__class__"))) (q7_TooGreat : PySem.W.mroIn K C_TooGreat (.type "object") = some true)
    (il_TooGreat : ([.ref C_BadRow, .ref C_BadSketch, .ref C_BadBlock, .ref C_BadOutline, .ref C_BadFeature, .ref C_BadField, .ref C_BadTools, .ref C_BadWay, .ref C_BadPaper, .ref C_Clash, .ref C_Twice, .ref C_OutOfPlace, .ref C_TooGreat, .ref C_NoPoint, .ref C_NoSaying, .ref C_NoFeature, .ref C_NoTool, .ref C_Nothing, .ref C_NoToolThere, .ref C_Lifted, .ref C_Lowered, .ref C_Beyond, .ref C_Blocked, .ref C_TooDeep, .ref C_WorksError, .type "ValueError", .ref C_MissError, .type "LookupError", .ref C_FaultError, .type "RuntimeError"] : List Value).map (PySem.W.kitOne K (.ref C_TooGreat)) = [some false, some false, some false, some false, some false, some false, some false, some false, some false, some false, some false, some false, some true, some false, some false, some false, some false, some false, some false, some false, some false, some false, some false, some false, some true, some true, some false, some false, some false, some false])
    (ke_OutOfPlace : PySem.W.keepIn K (.ref C_OutOfPlace) = true) (be_OutOfPlace : PySem.W.subIn K (.ref C_OutOfPlace) (.type "BaseException") = some true)
    (q1_OutOfPlace : PySem.W.findIn K (.ref C_OutOfPlace) "__getattribute__" = some (some (.builtin "BaseException.__getattribute__"))) (q2_OutOfPlace : PySem.W.findIn K (.ref C_OutOfPlace) "__getattr__" = some none) (q3_OutOfPlace : PySem.W.hasDictIn K C_OutOfPlace = true)
    (q4_OutOfPlace : PySem.W.findIn K (.ref C_OutOfPlace) "__class__" = some (some (.builtin "object.__class__"))) (q7_OutOfPlace : PySem.W.mroIn K C_OutOfPlace (.type "object") = some true)
    (il_OutOfPlace : ([.ref C_BadRow, .ref C_BadSketch, .ref C_BadBlock, .ref C_BadOutline, .ref C_BadFeature, .ref C_BadField, .ref C_BadTools, .ref C_BadWay, .ref C_BadPaper, .ref C_Clash, .ref C_Twice, .ref C_OutOfPlace, .ref C_TooGreat, .ref C_NoPoint, .ref C_NoSaying, .ref C_NoFeature, .ref C_NoTool, .ref C_Nothing, .ref C_NoToolThere, .ref C_Lifted, .ref C_Lowered, .ref C_Beyond, .ref C_Blocked, .ref C_TooDeep, .ref C_WorksError, .type "ValueError", .ref C_MissError, .type "LookupError", .ref C_FaultError, .type "RuntimeError"] : List Value).map (PySem.W.kitOne K (.ref C_OutOfPlace)) = [some false, some false, some false, some false, some false, some false, some false, some false, some false, some false, some false, some true, some false, some false, some false, some false, some false, some false, some false, some false, some false, some false, some false, some false, some true, some true, some false, some false, some false, some false])
    (ke_Twice : PySem.W.keepIn K (.ref C_Twice) = true) (be_Twice : PySem.W.subIn K (.ref C_Twice) (.type "BaseException") = some true)
    (q1_Twice : PySem.W.findIn K (.ref C_Twice) "__getattribute__" = some (some (.builtin "BaseException.__getattribute__"))) (q2_Twice : PySem.W.findIn K (.ref C_Twice) "__getattr__" = some none) (q3_Twice : PySem.W.hasDictIn K C_Twice = true)
    (q4_Twice : PySem.W.findIn K (.ref C_Twice) "__class__" = some (some (.builtin "object.__class__"))) (q7_Twice : PySem.W.mroIn K C_Twice (.type "object") = some true)
    (il_Twice : ([.ref C_BadRow, .ref C_BadSketch, .ref C_BadBlock, .ref C_BadOutline, .ref C_BadFeature, .ref C_BadField, .ref C_BadTools, .ref C_BadWay, .ref C_BadPaper, .ref C_Clash, .ref C_Twice, .ref C_OutOfPlace, .ref C_TooGreat, .ref C_NoPoint, .ref C_NoSaying, .ref C_NoFeature, .ref C_NoTool, .ref C_Nothing, .ref C_NoToolThere, .ref C_Lifted, .ref C_Lowered, .ref C_Beyond, .ref C_Blocked, .ref C_TooDeep, .ref C_WorksError, .type "ValueError", .ref C_MissError, .type "LookupError", .ref C_FaultError, .type "RuntimeError"] : List Value).map (PySem.W.kitOne K (.ref C_Twice)) = [some false, some false, some false, some false, some false, some false, some false, some false, some false, some false, some true, some false, some false, some false, some false, some false, some false, some false, some false, some false, some false, some false, some false, some false, some true, some true, some false, some false, some false, some false])
    (ke_Lowered : PySem.W.keepIn K (.ref C_Lowered) = true) (be_Lowered : PySem.W.subIn K (.ref C_Lowered) (.type "BaseException") = some true)
    (q1_Lowered : PySem.W.findIn K (.ref C_Lowered) "__getattribute__" = some (some (.builtin "BaseException.__getattribute__"))) (q2_Lowered : PySem.W.findIn K (.ref C_Lowered) "__getattr__" = some none) (q3_Lowered : PySem.W.hasDictIn K C_Lowered = true)
    (q4_Lowered : PySem.W.findIn K (.ref C_Lowered) "__class__" = some (some (.builtin "object.__class__"))) (q7_Lowered : PySem.W.mroIn K C_Lowered (.type "object") = some true)
    (il_Lowered : ([.ref C_BadRow, .ref C_BadSketch, .ref C_BadBlock, .ref C_BadOutline, .ref C_BadFeature, .ref C_BadField, .ref C_BadTools, .ref C_BadWay, .ref C_BadPaper, .ref C_Clash, .ref C_Twice, .ref C_OutOfPlace, .ref C_TooGreat, .ref C_NoPoint, .ref C_NoSaying, .ref C_NoFeature, .ref C_NoTool, .ref C_Nothing, .ref C_NoToolThere, .ref C_Lifted, .ref C_Lowered, .ref C_Beyond, .ref C_Blocked, .ref C_TooDeep, .ref C_WorksError, .type "ValueError", .ref C_MissError, .type "LookupError", .ref C_FaultError, .type "RuntimeError"] : List Value).map (PySem.W.kitOne K (.ref C_Lowered)) = [some false, some false, some false, some false, some false, some false, some false, some false, some false, some false, some false, some false, some false, some false, some false, some false, some false, some false, some false, some false, some true, some false, some false, some false, some false, some false, some false, some false, some true, some true])
    (ke_Lifted : PySem.W.keepIn K (.ref C_Lifted) = true) (be_Lifted : PySem.W.subIn K (.ref C_Lifted) (.type "BaseException") = some true)
    (q1_Lifted : PySem.W.findIn K (.ref C_Lifted) "__getattribute__" = some (some (.builtin "BaseException.__getattribute__"))) (q2_Lifted : PySem.W.findIn K (.ref C_Lifted) "__getattr__" = some none) (q3_Lifted : PySem.W.hasDictIn K C_Lifted = true)
    (q4_Lifted : PySem.W.findIn K (.ref C_Lifted) "__class__" = some (some (.builtin "object.__class__"))) (q7_Lifted : PySem.W.mroIn K C_Lifted (.type "object") = some true)
    (il_Lifted : ([.ref C_BadRow, .ref C_BadSketch, .ref C_BadBlock, .ref C_BadOutline, .ref C_BadFeature, .ref C_BadField, .ref C_BadTools, .ref C_BadWay, .ref C_BadPaper, .ref C_Clash, .ref C_Twice, .ref C_OutOfPlace, .ref C_TooGreat, .ref C_NoPoint, .ref C_NoSaying, .ref C_NoFeature, .ref C_NoTool, .ref C_Nothing, .ref C_NoToolThere, .ref C_Lifted, .ref C_Lowered, .ref C_Beyond, .ref C_Blocked, .ref C_TooDeep, .ref C_WorksError, .type "ValueError", .ref C_MissError, .type "LookupError", .ref C_FaultError, .type "RuntimeError"] : List Value).map (PySem.W.kitOne K (.ref C_Lifted)) = [some false, some false, some false, some false, some false, some false, some false, some false, some false, some false, some false, some false, some false, some false, some false, some false, some false, some false, some false, some true, some false, some false, some false, some false, some false, some false, some false, some false, some true, some true])
    (q5_ : PySem.W.specialIn K (.builtin "object.__class__") "__get__" = some (some (.builtin "getset_descriptor.__get__"))) (q6_ : PySem.W.takesIn K (.builtin "object.__class__") = some true)
    (a_law_mixed : PySem.W.nsIn K mainGlobals "_law_mixed" = some (some (.ref f_law_mixed)))
    (l_law_mixed : K.lookup f_law_mixed = some ⟨oc_law_mixed, od_law_mixed, .func (PySem.W.fnOf "_law_mixed" "_law_mixed" (defArgs ss_law_mixed) (defBody ss_law_mixed) (defScope ss_law_mixed) .none kV_law_mixed dc_law_mixed pm_law_mixed an_law_mixed cd_law_mixed ct_law_mixed), sl_law_mixed⟩)
    (c_law_mixed : PySem.W.codeIn K cd_law_mixed "_law_mixed" = true) (k_law_mixed : PySem.W.keepIn K (.ref f_law_mixed) = true)
    (a_law_draw : PySem.W.nsIn K mainGlobals "_law_draw" = some (some (.ref f_law_draw)))
    (l_law_draw : K.lookup f_law_draw = some ⟨oc_law_draw, od_law_draw, .func (PySem.W.fnOf "_law_draw" "_law_draw" (defArgs ss_law_draw) (defBody ss_law_draw) (defScope ss_law_draw) .none kV_law_draw dc_law_draw pm_law_draw an_law_draw cd_law_draw ct_law_draw), sl_law_draw⟩)
    (c_law_draw : PySem.W.codeIn K cd_law_draw "_law_draw" = true) (k_law_draw : PySem.W.keepIn K (.ref f_law_draw) = true)
    (a_law_digit : PySem.W.nsIn K mainGlobals "_law_digit" = some (some (.ref f_law_digit)))
    (l_law_digit : K.lookup f_law_digit = some ⟨oc_law_digit, od_law_digit, .func (PySem.W.fnOf "_law_digit" "_law_digit" (defArgs ss_law_digit) (defBody ss_law_digit) (defScope ss_law_digit) .none kV_law_digit dc_law_digit pm_law_digit an_law_digit cd_law_digit ct_law_digit), sl_law_digit⟩)
    (c_law_digit : PySem.W.codeIn K cd_law_digit "_law_digit" = true) (k_law_digit : PySem.W.keepIn K (.ref f_law_digit) = true)
    (a_law_word : PySem.W.nsIn K mainGlobals "_law_word" = some (some (.ref f_law_word)))
    (l_law_word : K.lookup f_law_word = some ⟨oc_law_word, od_law_word, .func (PySem.W.fnOf "_law_word" "_law_word" (defArgs ss_law_word) (defBody ss_law_word) (defScope ss_law_word) .none kV_law_word dc_law_word pm_law_word an_law_word cd_law_word ct_law_word), sl_law_word⟩)
    (c_law_word : PySem.W.codeIn K cd_law_word "_law_word" = true) (k_law_word : PySem.W.keepIn K (.ref f_law_word) = true)
    (a_law_kinds : PySem.W.nsIn K mainGlobals "_law_kinds" = some (some (.ref f_law_kinds)))
    (l_law_kinds : K.lookup f_law_kinds = some ⟨oc_law_kinds, od_law_kinds, .func (PySem.W.fnOf "_law_kinds" "_law_kinds" (defArgs ss_law_kinds) (defBody ss_law_kinds) (defScope ss_law_kinds) .none kV_law_kinds dc_law_kinds pm_law_kinds an_law_kinds cd_law_kinds ct_law_kinds), sl_law_kinds⟩)
    (c_law_kinds : PySem.W.codeIn K cd_law_kinds "_law_kinds" = true) (k_law_kinds : PySem.W.keepIn K (.ref f_law_kinds) = true)
    (l_BadFeature_init : K.lookup f_BadFeature_init = some ⟨oc_BadFeature_init, od_BadFeature_init, .func (PySem.W.fnOf "__init__" "BadFeature.__init__" (defArgs ss_BadFeature_init) (defBody ss_BadFeature_init) (defScope ss_BadFeature_init) (.ref dT_BadFeature_init) kV_BadFeature_init dc_BadFeature_init pm_BadFeature_init an_BadFeature_init cd_BadFeature_init ct_BadFeature_init), sl_BadFeature_init⟩)
    (c_BadFeature_init : PySem.W.codeIn K cd_BadFeature_init "BadFeature.__init__" = true) (k_BadFeature_init : PySem.W.keepIn K (.ref f_BadFeature_init) = true)
    (dl_BadFeature_init : K.lookup dT_BadFeature_init = some dO_BadFeature_init) (dd_BadFeature_init : dO_BadFeature_init.data = .seq dI_BadFeature_init dN_BadFeature_init) (dv_BadFeature_init : Vals [.non] dI_BadFeature_init.toList)
    (l_BadOutline_init : K.lookup f_BadOutline_init = some ⟨oc_BadOutline_init, od_BadOutline_init, .func (PySem.W.fnOf "__init__" "BadOutline.__init__" (defArgs ss_BadOutline_init) (defBody ss_BadOutline_init) (defScope ss_BadOutline_init) (.ref dT_BadOutline_init) kV_BadOutline_init dc_BadOutline_init pm_BadOutline_init an_BadOutline_init cd_BadOutline_init ct_BadOutline_init), sl_BadOutline_init⟩)
    (c_BadOutline_init : PySem.W.codeIn K cd_BadOutline_init "BadOutline.__init__" = true) (k_BadOutline_init : PySem.W.keepIn K (.ref f_BadOutline_init) = true)
    (dl_BadOutline_init : K.lookup dT_BadOutline_init = some dO_BadOutline_init) (dd_BadOutline_init : dO_BadOutline_init.data = .seq dI_BadOutline_init dN_BadOutline_init) (dv_BadOutline_init : Vals [.non] dI_BadOutline_init.toList)
    (l_BadBlock_init : K.lookup f_BadBlock_init = some ⟨oc_BadBlock_init, od_BadBlock_init, .func (PySem.W.fnOf "__init__" "BadBlock.__init__" (defArgs ss_BadBlock_init) (defBody ss_BadBlock_init) (defScope ss_BadBlock_init) (.ref dT_BadBlock_init) kV_BadBlock_init dc_BadBlock_init pm_BadBlock_init an_BadBlock_init cd_BadBlock_init ct_BadBlock_init), sl_BadBlock_init⟩)
    (c_BadBlock_init : PySem.W.codeIn K cd_BadBlock_init "BadBlock.__init__" = true) (k_BadBlock_init : PySem.W.keepIn K (.ref f_BadBlock_init) = true)
    (dl_BadBlock_init : K.lookup dT_BadBlock_init = some dO_BadBlock_init) (dd_BadBlock_init : dO_BadBlock_init.data = .seq dI_BadBlock_init dN_BadBlock_init) (dv_BadBlock_init : Vals [.non] dI_BadBlock_init.toList)
    (l_BadSketch_init : K.lookup f_BadSketch_init = some ⟨oc_BadSketch_init, od_BadSketch_init, .func (PySem.W.fnOf "__init__" "BadSketch.__init__" (defArgs ss_BadSketch_init) (defBody ss_BadSketch_init) (defScope ss_BadSketch_init) (.ref dT_BadSketch_init) kV_BadSketch_init dc_BadSketch_init pm_BadSketch_init an_BadSketch_init cd_BadSketch_init ct_BadSketch_init), sl_BadSketch_init⟩)
    (c_BadSketch_init : PySem.W.codeIn K cd_BadSketch_init "BadSketch.__init__" = true) (k_BadSketch_init : PySem.W.keepIn K (.ref f_BadSketch_init) = true)
    (dl_BadSketch_init : K.lookup dT_BadSketch_init = some dO_BadSketch_init) (dd_BadSketch_init : dO_BadSketch_init.data = .seq dI_BadSketch_init dN_BadSketch_init) (dv_BadSketch_init : Vals [.non, .non] dI_BadSketch_init.toList)
    (l_BadRow_init : K.lookup f_BadRow_init = some ⟨oc_BadRow_init, od_BadRow_init, .func (PySem.W.fnOf "__init__" "BadRow.__init__" (defArgs ss_BadRow_init) (defBody ss_BadRow_init) (defScope ss_BadRow_init) .none kV_BadRow_init dc_BadRow_init pm_BadRow_init an_BadRow_init cd_BadRow_init ct_BadRow_init), sl_BadRow_init⟩)
    (c_BadRow_init : PySem.W.codeIn K cd_BadRow_init "BadRow.__init__" = true) (k_BadRow_init : PySem.W.keepIn K (.ref f_BadRow_init) = true)
    (l_Clash_init : K.lookup f_Clash_init = some ⟨oc_Clash_init, od_Clash_init, .func (PySem.W.fnOf "__init__" "Clash.__init__" (defArgs ss_Clash_init) (defBody ss_Clash_init) (defScope ss_Clash_init) .none kV_Clash_init dc_Clash_init pm_Clash_init an_Clash_init cd_Clash_init ct_Clash_init), sl_Clash_init⟩)
    (c_Clash_init : PySem.W.codeIn K cd_Clash_init "Clash.__init__" = true) (k_Clash_init : PySem.W.keepIn K (.ref f_Clash_init) = true)
    (l_BadPaper_init : K.lookup f_BadPaper_init = some ⟨oc_BadPaper_init, od_BadPaper_init, .func (PySem.W.fnOf "__init__" "BadPaper.__init__" (defArgs ss_BadPaper_init) (defBody ss_BadPaper_init) (defScope ss_BadPaper_init) (.ref dT_BadPaper_init) kV_BadPaper_init dc_BadPaper_init pm_BadPaper_init an_BadPaper_init cd_BadPaper_init ct_BadPaper_init), sl_BadPaper_init⟩)
    (c_BadPaper_init : PySem.W.codeIn K cd_BadPaper_init "BadPaper.__init__" = true) (k_BadPaper_init : PySem.W.keepIn K (.ref f_BadPaper_init) = true)
    (dl_BadPaper_init : K.lookup dT_BadPaper_init = some dO_BadPaper_init) (dd_BadPaper_init : dO_BadPaper_init.data = .seq dI_BadPaper_init dN_BadPaper_init) (dv_BadPaper_init : Vals [.non] dI_BadPaper_init.toList)
    (l_BadWay_init : K.lookup f_BadWay_init = some ⟨oc_BadWay_init, od_BadWay_init, .func (PySem.W.fnOf "__init__" "BadWay.__init__" (defArgs ss_BadWay_init) (defBody ss_BadWay_init) (defScope ss_BadWay_init) (.ref dT_BadWay_init) kV_BadWay_init dc_BadWay_init pm_BadWay_init an_BadWay_init cd_BadWay_init ct_BadWay_init), sl_BadWay_init⟩)
    (c_BadWay_init : PySem.W.codeIn K cd_BadWay_init "BadWay.__init__" = true) (k_BadWay_init : PySem.W.keepIn K (.ref f_BadWay_init) = true)
    (dl_BadWay_init : K.lookup dT_BadWay_init = some dO_BadWay_init) (dd_BadWay_init : dO_BadWay_init.data = .seq dI_BadWay_init dN_BadWay_init) (dv_BadWay_init : Vals [.non] dI_BadWay_init.toList)
    (l_BadTools_init : K.lookup f_BadTools_init = some ⟨oc_BadTools_init, od_BadTools_init, .func (PySem.W.fnOf "__init__" "BadTools.__init__" (defArgs ss_BadTools_init) (defBody ss_BadTools_init) (defScope ss_BadTools_init) (.ref dT_BadTools_init) kV_BadTools_init dc_BadTools_init pm_BadTools_init an_BadTools_init cd_BadTools_init ct_BadTools_init), sl_BadTools_init⟩)
    (c_BadTools_init : PySem.W.codeIn K cd_BadTools_init "BadTools.__init__" = true) (k_BadTools_init : PySem.W.keepIn K (.ref f_BadTools_init) = true)
    (dl_BadTools_init : K.lookup dT_BadTools_init = some dO_BadTools_init) (dd_BadTools_init : dO_BadTools_init.data = .seq dI_BadTools_init dN_BadTools_init) (dv_BadTools_init : Vals [.non] dI_BadTools_init.toList)
    (l_BadField_init : K.lookup f_BadField_init = some ⟨oc_BadField_init, od_BadField_init, .func (PySem.W.fnOf "__init__" "BadField.__init__" (defArgs ss_BadField_init) (defBody ss_BadField_init) (defScope ss_BadField_init) (.ref dT_BadField_init) kV_BadField_init dc_BadField_init pm_BadField_init an_BadField_init cd_BadField_init ct_BadField_init), sl_BadField_init⟩)
    (c_BadField_init : PySem.W.codeIn K cd_BadField_init "BadField.__init__" = true) (k_BadField_init : PySem.W.keepIn K (.ref f_BadField_init) = true)
    (dl_BadField_init : K.lookup dT_BadField_init = some dO_BadField_init) (dd_BadField_init : dO_BadField_init.data = .seq dI_BadField_init dN_BadField_init) (dv_BadField_init : Vals [.non] dI_BadField_init.toList)
    (l_Beyond_init : K.lookup f_Beyond_init = some ⟨oc_Beyond_init, od_Beyond_init, .func (PySem.W.fnOf "__init__" "Beyond.__init__" (defArgs ss_Beyond_init) (defBody ss_Beyond_init) (defScope ss_Beyond_init) .none kV_Beyond_init dc_Beyond_init pm_Beyond_init an_Beyond_init cd_Beyond_init ct_Beyond_init), sl_Beyond_init⟩)
    (c_Beyond_init : PySem.W.codeIn K cd_Beyond_init "Beyond.__init__" = true) (k_Beyond_init : PySem.W.keepIn K (.ref f_Beyond_init) = true)
    (l_NoTool_init : K.lookup f_NoTool_init = some ⟨oc_NoTool_init, od_NoTool_init, .func (PySem.W.fnOf "__init__" "NoTool.__init__" (defArgs ss_NoTool_init) (defBody ss_NoTool_init) (defScope ss_NoTool_init) .none kV_NoTool_init dc_NoTool_init pm_NoTool_init an_NoTool_init cd_NoTool_init ct_NoTool_init), sl_NoTool_init⟩)
    (c_NoTool_init : PySem.W.codeIn K cd_NoTool_init "NoTool.__init__" = true) (k_NoTool_init : PySem.W.keepIn K (.ref f_NoTool_init) = true)
    (l_NoFeature_init : K.lookup f_NoFeature_init = some ⟨oc_NoFeature_init, od_NoFeature_init, .func (PySem.W.fnOf "__init__" "NoFeature.__init__" (defArgs ss_NoFeature_init) (defBody ss_NoFeature_init) (defScope ss_NoFeature_init) .none kV_NoFeature_init dc_NoFeature_init pm_NoFeature_init an_NoFeature_init cd_NoFeature_init ct_NoFeature_init), sl_NoFeature_init⟩)
    (c_NoFeature_init : PySem.W.codeIn K cd_NoFeature_init "NoFeature.__init__" = true) (k_NoFeature_init : PySem.W.keepIn K (.ref f_NoFeature_init) = true)
    (l_NoSaying_init : K.lookup f_NoSaying_init = some ⟨oc_NoSaying_init, od_NoSaying_init, .func (PySem.W.fnOf "__init__" "NoSaying.__init__" (defArgs ss_NoSaying_init) (defBody ss_NoSaying_init) (defScope ss_NoSaying_init) .none kV_NoSaying_init dc_NoSaying_init pm_NoSaying_init an_NoSaying_init cd_NoSaying_init ct_NoSaying_init), sl_NoSaying_init⟩)
    (c_NoSaying_init : PySem.W.codeIn K cd_NoSaying_init "NoSaying.__init__" = true) (k_NoSaying_init : PySem.W.keepIn K (.ref f_NoSaying_init) = true)
    (l_NoPoint_init : K.lookup f_NoPoint_init = some ⟨oc_NoPoint_init, od_NoPoint_init, .func (PySem.W.fnOf "__init__" "NoPoint.__init__" (defArgs ss_NoPoint_init) (defBody ss_NoPoint_init) (defScope ss_NoPoint_init) .none kV_NoPoint_init dc_NoPoint_init pm_NoPoint_init an_NoPoint_init cd_NoPoint_init ct_NoPoint_init), sl_NoPoint_init⟩)
    (c_NoPoint_init : PySem.W.codeIn K cd_NoPoint_init "NoPoint.__init__" = true) (k_NoPoint_init : PySem.W.keepIn K (.ref f_NoPoint_init) = true)
    (l_TooDeep_init : K.lookup f_TooDeep_init = some ⟨oc_TooDeep_init, od_TooDeep_init, .func (PySem.W.fnOf "__init__" "TooDeep.__init__" (defArgs ss_TooDeep_init) (defBody ss_TooDeep_init) (defScope ss_TooDeep_init) .none kV_TooDeep_init dc_TooDeep_init pm_TooDeep_init an_TooDeep_init cd_TooDeep_init ct_TooDeep_init), sl_TooDeep_init⟩)
    (c_TooDeep_init : PySem.W.codeIn K cd_TooDeep_init "TooDeep.__init__" = true) (k_TooDeep_init : PySem.W.keepIn K (.ref f_TooDeep_init) = true)
    (l_Blocked_init : K.lookup f_Blocked_init = some ⟨oc_Blocked_init, od_Blocked_init, .func (PySem.W.fnOf "__init__" "Blocked.__init__" (defArgs ss_Blocked_init) (defBody ss_Blocked_init) (defScope ss_Blocked_init) .none kV_Blocked_init dc_Blocked_init pm_Blocked_init an_Blocked_init cd_Blocked_init ct_Blocked_init), sl_Blocked_init⟩)
    (c_Blocked_init : PySem.W.codeIn K cd_Blocked_init "Blocked.__init__" = true) (k_Blocked_init : PySem.W.keepIn K (.ref f_Blocked_init) = true)
    (a_law_by_hand : PySem.W.nsIn K mainGlobals "_law_by_hand" = some (some (.ref f_law_by_hand)))
    (l_law_by_hand : K.lookup f_law_by_hand = some ⟨oc_law_by_hand, od_law_by_hand, .func (PySem.W.fnOf "_law_by_hand" "_law_by_hand" (defArgs ss_law_by_hand) (defBody ss_law_by_hand) (defScope ss_law_by_hand) .none kV_law_by_hand dc_law_by_hand pm_law_by_hand an_law_by_hand cd_law_by_hand ct_law_by_hand), sl_law_by_hand⟩)
    (c_law_by_hand : PySem.W.codeIn K cd_law_by_hand "_law_by_hand" = true) (k_law_by_hand : PySem.W.keepIn K (.ref f_law_by_hand) = true)
    (a_law_left_out : PySem.W.nsIn K mainGlobals "_law_left_out" = some (some (.ref f_law_left_out)))
    (l_law_left_out : K.lookup f_law_left_out = some ⟨oc_law_left_out, od_law_left_out, .func (PySem.W.fnOf "_law_left_out" "_law_left_out" (defArgs ss_law_left_out) (defBody ss_law_left_out) (defScope ss_law_left_out) .none kV_law_left_out dc_law_left_out pm_law_left_out an_law_left_out cd_law_left_out ct_law_left_out), sl_law_left_out⟩)
    (c_law_left_out : PySem.W.codeIn K cd_law_left_out "_law_left_out" = true) (k_law_left_out : PySem.W.keepIn K (.ref f_law_left_out) = true)
    (a_law : PySem.W.nsIn K mainGlobals "law" = some (some (.ref f_law)))
    (l_law : K.lookup f_law = some ⟨oc_law, od_law, .func (PySem.W.fnOf "law" "law" (defArgs ss_law) (defBody ss_law) (defScope ss_law) .none kV_law dc_law pm_law an_law cd_law ct_law), sl_law⟩)
    (c_law : PySem.W.codeIn K cd_law "law" = true) (k_law : PySem.W.keepIn K (.ref f_law) = true)
    : ∃ (fd : FuncData) (F : Fn), (∀ (s : Shared) (v : Value), BindsTo s fd ⟨[v], []⟩ [("script", v)]) ∧ (∀ base : Heap, K.In base → base.Ns mainGlobals mg → DFn l.prog w K mg base 4 fa fd ["script"] F) ∧ ∀ ns : List Int, ns.length ≤ 63 → ∃ M', F [.lsk (ns.map D.int)] [] = some (.bl true, M') := by
  have e := hfa.symm.trans (PySem.W.mg_of X G a_law)
  cases e
  have EC_BadFeature : ExcC K C_BadFeature := ⟨q1_BadFeature, q2_BadFeature, be_BadFeature, q3_BadFeature, q4_BadFeature, q5_, q6_, q7_BadFeature⟩
  have EC_BadOutline : ExcC K C_BadOutline := ⟨q1_BadOutline, q2_BadOutline, be_BadOutline, q3_BadOutline, q4_BadOutline, q5_, q6_, q7_BadOutline⟩
  have EC_BadBlock : ExcC K C_BadBlock := ⟨q1_BadBlock, q2_BadBlock, be_BadBlock, q3_BadBlock, q4_BadBlock, q5_, q6_, q7_BadBlock⟩
  have EC_BadSketch : ExcC K C_BadSketch := ⟨q1_BadSketch, q2_BadSketch, be_BadSketch, q3_BadSketch, q4_BadSketch, q5_, q6_, q7_BadSketch⟩
  have EC_BadRow : ExcC K C_BadRow := ⟨q1_BadRow, q2_BadRow, be_BadRow, q3_BadRow, q4_BadRow, q5_, q6_, q7_BadRow⟩
  have EC_Clash : ExcC K C_Clash := ⟨q1_Clash, q2_Clash, be_Clash, q3_Clash, q4_Clash, q5_, q6_, q7_Clash⟩
  have EC_BadPaper : ExcC K C_BadPaper := ⟨q1_BadPaper, q2_BadPaper, be_BadPaper, q3_BadPaper, q4_BadPaper, q5_, q6_, q7_BadPaper⟩
  have EC_BadWay : ExcC K C_BadWay := ⟨q1_BadWay, q2_BadWay, be_BadWay, q3_BadWay, q4_BadWay, q5_, q6_, q7_BadWay⟩
  have EC_BadTools : ExcC K C_BadTools := ⟨q1_BadTools, q2_BadTools, be_BadTools, q3_BadTools, q4_BadTools, q5_, q6_, q7_BadTools⟩
  have EC_BadField : ExcC K C_BadField := ⟨q1_BadField, q2_BadField, be_BadField, q3_BadField, q4_BadField, q5_, q6_, q7_BadField⟩
  have EC_Beyond : ExcC K C_Beyond := ⟨q1_Beyond, q2_Beyond, be_Beyond, q3_Beyond, q4_Beyond, q5_, q6_, q7_Beyond⟩
  have EC_NoTool : ExcC K C_NoTool := ⟨q1_NoTool, q2_NoTool, be_NoTool, q3_NoTool, q4_NoTool, q5_, q6_, q7_NoTool⟩
  have EC_NoFeature : ExcC K C_NoFeature := ⟨q1_NoFeature, q2_NoFeature, be_NoFeature, q3_NoFeature, q4_NoFeature, q5_, q6_, q7_NoFeature⟩
  have EC_NoSaying : ExcC K C_NoSaying := ⟨q1_NoSaying, q2_NoSaying, be_NoSaying, q3_NoSaying, q4_NoSaying, q5_, q6_, q7_NoSaying⟩
  have EC_NoPoint : ExcC K C_NoPoint := ⟨q1_NoPoint, q2_NoPoint, be_NoPoint, q3_NoPoint, q4_NoPoint, q5_, q6_, q7_NoPoint⟩
  have EC_TooDeep : ExcC K C_TooDeep := ⟨q1_TooDeep, q2_TooDeep, be_TooDeep, q3_TooDeep, q4_TooDeep, q5_, q6_, q7_TooDeep⟩
  have EC_Blocked : ExcC K C_Blocked := ⟨q1_Blocked, q2_Blocked, be_Blocked, q3_Blocked, q4_Blocked, q5_, q6_, q7_Blocked⟩
  have EC_NoToolThere : ExcC K C_NoToolThere := ⟨q1_NoToolThere, q2_NoToolThere, be_NoToolThere, q3_NoToolThere, q4_NoToolThere, q5_, q6_, q7_NoToolThere⟩
  have EC_Nothing : ExcC K C_Nothing := ⟨q1_Nothing, q2_Nothing, be_Nothing, q3_Nothing, q4_Nothing, q5_, q6_, q7_Nothing⟩
  have EC_TooGreat : ExcC K C_TooGreat := ⟨q1_TooGreat, q2_TooGreat, be_TooGreat, q3_TooGreat, q4_TooGreat, q5_, q6_, q7_TooGreat⟩
  have EC_OutOfPlace : ExcC K C_OutOfPlace := ⟨q1_OutOfPlace, q2_OutOfPlace, be_OutOfPlace, q3_OutOfPlace, q4_OutOfPlace, q5_, q6_, q7_OutOfPlace⟩
  have EC_Twice : ExcC K C_Twice := ⟨q1_Twice, q2_Twice, be_Twice, q3_Twice, q4_Twice, q5_, q6_, q7_Twice⟩
  have EC_Lowered : ExcC K C_Lowered := ⟨q1_Lowered, q2_Lowered, be_Lowered, q3_Lowered, q4_Lowered, q5_, q6_, q7_Lowered⟩
  have EC_Lifted : ExcC K C_Lifted := ⟨q1_Lifted, q2_Lifted, be_Lifted, q3_Lifted, q4_Lifted, q5_, q6_, q7_Lifted⟩
  have EG_BadFeature : ExG K C_BadFeature "ValueError" "ValueError.__new__" "ValueError.__init__" [.type "ValueError", .type "Exception", .type "BaseException", .type "object"] := ⟨PySem.F.excBase_ValueError, PySem.F.store_ValueError, e1_BadFeature, e2_BadFeature, PySem.W.any_some q3_BadFeature, sa_BadFeature, ke_BadFeature⟩
  have EG_BadOutline : ExG K C_BadOutline "ValueError" "ValueError.__new__" "ValueError.__init__" [.type "ValueError", .type "Exception", .type "BaseException", .type "object"] := ⟨PySem.F.excBase_ValueError, PySem.F.store_ValueError, e1_BadOutline, e2_BadOutline, PySem.W.any_some q3_BadOutline, sa_BadOutline, ke_BadOutline⟩
  have EG_BadBlock : ExG K C_BadBlock "ValueError" "ValueError.__new__" "ValueError.__init__" [.type "ValueError", .type "Exception", .type "BaseException", .type "object"] := ⟨PySem.F.excBase_ValueError, PySem.F.store_ValueError, e1_BadBlock, e2_BadBlock, PySem.W.any_some q3_BadBlock, sa_BadBlock, ke_BadBlock⟩
  have EG_BadSketch : ExG K C_BadSketch "ValueError" "ValueError.__new__" "ValueError.__init__" [.type "ValueError", .type "Exception", .type "BaseException", .type "object"] := ⟨PySem.F.excBase_ValueError, PySem.F.store_ValueError, e1_BadSketch, e2_BadSketch, PySem.W.any_some q3_BadSketch, sa_BadSketch, ke_BadSketch⟩
  have EG_BadRow : ExG K C_BadRow "ValueError" "ValueError.__new__" "ValueError.__init__" [.type "ValueError", .type "Exception", .type "BaseException", .type "object"] := ⟨PySem.F.excBase_ValueError, PySem.F.store_ValueError, e1_BadRow, e2_BadRow, PySem.W.any_some q3_BadRow, sa_BadRow, ke_BadRow⟩
  have EG_Clash : ExG K C_Clash "ValueError" "ValueError.__new__" "ValueError.__init__" [.type "ValueError", .type "Exception", .type "BaseException", .type "object"] := ⟨PySem.F.excBase_ValueError, PySem.F.store_ValueError, e1_Clash, e2_Clash, PySem.W.any_some q3_Clash, sa_Clash, ke_Clash⟩
  have EG_BadPaper : ExG K C_BadPaper "ValueError" "ValueError.__new__" "ValueError.__init__" [.type "ValueError", .type "Exception", .type "BaseException", .type "object"] := ⟨PySem.F.excBase_ValueError, PySem.F.store_ValueError, e1_BadPaper, e2_BadPaper, PySem.W.any_some q3_BadPaper, sa_BadPaper, ke_BadPaper⟩
  have EG_BadWay : ExG K C_BadWay "ValueError" "ValueError.__new__" "ValueError.__init__" [.type "ValueError", .type "Exception", .type "BaseException", .type "object"] := ⟨PySem.F.excBase_ValueError, PySem.F.store_ValueError, e1_BadWay, e2_BadWay, PySem.W.any_some q3_BadWay, sa_BadWay, ke_BadWay⟩
  have EG_BadTools : ExG K C_BadTools "ValueError" "ValueError.__new__" "ValueError.__init__" [.type "ValueError", .type "Exception", .type "BaseException", .type "object"] := ⟨PySem.F.excBase_ValueError, PySem.F.store_ValueError, e1_BadTools, e2_BadTools, PySem.W.any_some q3_BadTools, sa_BadTools, ke_BadTools⟩
  have EG_BadField : ExG K C_BadField "ValueError" "ValueError.__new__" "ValueError.__init__" [.type "ValueError", .type "Exception", .type "BaseException", .type "object"] := ⟨PySem.F.excBase_ValueError, PySem.F.store_ValueError, e1_BadField, e2_BadField, PySem.W.any_some q3_BadField, sa_BadField, ke_BadField⟩
  have EG_Beyond : ExG K C_Beyond "RuntimeError" "RuntimeError.__new__" "RuntimeError.__init__" [.type "RuntimeError", .type "Exception", .type "BaseException", .type "object"] := ⟨PySem.F.excBase_RuntimeError, PySem.F.store_RuntimeError, e1_Beyond, e2_Beyond, PySem.W.any_some q3_Beyond, sa_Beyond, ke_Beyond⟩
  have EG_NoTool : ExG K C_NoTool "LookupError" "LookupError.__new__" "LookupError.__init__" [.type "LookupError", .type "Exception", .type "BaseException", .type "object"] := ⟨PySem.F.excBase_LookupError, PySem.F.store_LookupError, e1_NoTool, e2_NoTool, PySem.W.any_some q3_NoTool, sa_NoTool, ke_NoTool⟩
  have EG_NoFeature : ExG K C_NoFeature "LookupError" "LookupError.__new__" "LookupError.__init__" [.type "LookupError", .type "Exception", .type "BaseException", .type "object"] := ⟨PySem.F.excBase_LookupError, PySem.F.store_LookupError, e1_NoFeature, e2_NoFeature, PySem.W.any_some q3_NoFeature, sa_NoFeature, ke_NoFeature⟩
  have EG_NoSaying : ExG K C_NoSaying "LookupError" "LookupError.__new__" "LookupError.__init__" [.type "LookupError", .type "Exception", .type "BaseException", .type "object"] := ⟨PySem.F.excBase_LookupError, PySem.F.store_LookupError, e1_NoSaying, e2_NoSaying, PySem.W.any_some q3_NoSaying, sa_NoSaying, ke_NoSaying⟩
  have EG_NoPoint : ExG K C_NoPoint "LookupError" "LookupError.__new__" "LookupError.__init__" [.type "LookupError", .type "Exception", .type "BaseException", .type "object"] := ⟨PySem.F.excBase_LookupError, PySem.F.store_LookupError, e1_NoPoint, e2_NoPoint, PySem.W.any_some q3_NoPoint, sa_NoPoint, ke_NoPoint⟩
  have EG_TooDeep : ExG K C_TooDeep "RuntimeError" "RuntimeError.__new__" "RuntimeError.__init__" [.type "RuntimeError", .type "Exception", .type "BaseException", .type "object"] := ⟨PySem.F.excBase_RuntimeError, PySem.F.store_RuntimeError, e1_TooDeep, e2_TooDeep, PySem.W.any_some q3_TooDeep, sa_TooDeep, ke_TooDeep⟩
  have EG_Blocked : ExG K C_Blocked "RuntimeError" "RuntimeError.__new__" "RuntimeError.__init__" [.type "RuntimeError", .type "Exception", .type "BaseException", .type "object"] := ⟨PySem.F.excBase_RuntimeError, PySem.F.store_RuntimeError, e1_Blocked, e2_Blocked, PySem.W.any_some q3_Blocked, sa_Blocked, ke_Blocked⟩
  have T : Txt (⟨C_BadSketch, C_BadRow, C_BadOutline, C_BadBlock, C_BadField, C_BadFeature, C_BadWay, C_BadTools, C_Clash, C_BadPaper, C_OutOfPlace, C_Twice, C_NoPoint, C_TooGreat, C_NoFeature, C_NoSaying, C_Nothing, C_NoTool, C_Lifted, C_NoToolThere, C_Beyond, C_Lowered, C_TooDeep, C_Blocked, C_WorksError, C_MissError, C_FaultError, Pl.isaOf K, Pl.okfOf K, Pl.okgOf K⟩ : CT) K mg := ⟨PySem.W.mg_none_of X G z_range, PySem.W.mg_none_of X G z_isinstance, PySem.W.mg_none_of X G z_ValueError, PySem.W.mg_none_of X G z_LookupError, PySem.W.mg_none_of X G z_RuntimeError, PySem.W.mg_none_of X G z_enumerate, PySem.W.mg_none_of X G z_sum, PySem.W.mg_of X G a_BadSketch, PySem.W.mg_of X G a_BadRow, PySem.W.mg_of X G a_BadOutline, PySem.W.mg_of X G a_BadBlock, PySem.W.mg_of X G a_BadField, PySem.W.mg_of X G a_BadFeature, PySem.W.mg_of X G a_BadWay, PySem.W.mg_of X G a_BadTools, PySem.W.mg_of X G a_Clash, PySem.W.mg_of X G a_BadPaper, PySem.W.mg_of X G a_OutOfPlace, PySem.W.mg_of X G a_Twice, PySem.W.mg_of X G a_NoPoint, PySem.W.mg_of X G a_TooGreat, PySem.W.mg_of X G a_NoFeature, PySem.W.mg_of X G a_NoSaying, PySem.W.mg_of X G a_Nothing, PySem.W.mg_of X G a_NoTool, PySem.W.mg_of X G a_Lifted, PySem.W.mg_of X G a_NoToolThere, PySem.W.mg_of X G a_Beyond, PySem.W.mg_of X G a_Lowered, PySem.W.mg_of X G a_TooDeep, PySem.W.mg_of X G a_Blocked, PySem.W.mg_of X G a_WorksError, PySem.W.mg_of X G a_MissError, PySem.W.mg_of X G a_FaultError, ⟨⟨_, _, _, _, PySem.F.excBase_RuntimeError, xe_NoToolThere, PySem.W.mg_of X G a_NoToolThere, ke_NoToolThere⟩⟩, ⟨⟨_, _, _, _, PySem.F.excBase_LookupError, xe_Nothing, PySem.W.mg_of X G a_Nothing, ke_Nothing⟩⟩, ⟨⟨_, _, _, _, PySem.F.excBase_ValueError, xe_TooGreat, PySem.W.mg_of X G a_TooGreat, ke_TooGreat⟩⟩, ⟨⟨_, _, _, _, PySem.F.excBase_ValueError, xe_OutOfPlace, PySem.W.mg_of X G a_OutOfPlace, ke_OutOfPlace⟩⟩, ⟨⟨_, _, _, _, PySem.F.excBase_ValueError, xe_Twice, PySem.W.mg_of X G a_Twice, ke_Twice⟩⟩, ⟨⟨_, _, _, _, PySem.F.excBase_RuntimeError, xe_Lowered, PySem.W.mg_of X G a_Lowered, ke_Lowered⟩⟩, ⟨⟨_, _, _, _, PySem.F.excBase_RuntimeError, xe_Lifted, PySem.W.mg_of X G a_Lifted, ke_Lifted⟩⟩, Pl.okfOf_ok, Pl.okgOf_ok, Pl.isaOf_ok⟩
  have F_law_mixed : FF_law_mixed K f_law_mixed _ := ⟨⟨_, _, _, _, _, _, _, _, _, _, rfl, l_law_mixed, c_law_mixed, .inl ⟨rfl, rfl⟩, .inl rfl⟩, k_law_mixed⟩
  have b_law_mixed := F_law_mixed.bindsN (ps := ["cell", "k"]) fun _ _ _ _ _ _ us hl => match us, hl with | [_, _], _ => rfl
  have F_law_draw : FF_law_draw K f_law_draw _ := ⟨⟨_, _, _, _, _, _, _, _, _, _, rfl, l_law_draw, c_law_draw, .inl ⟨rfl, rfl⟩, .inl rfl⟩, k_law_draw⟩
  have b_law_draw := F_law_draw.bindsN (ps := ["cell", "k"]) fun _ _ _ _ _ _ us hl => match us, hl with | [_, _], _ => rfl
  have F_law_digit : FF_law_digit K f_law_digit _ := ⟨⟨_, _, _, _, _, _, _, _, _, _, rfl, l_law_digit, c_law_digit, .inl ⟨rfl, rfl⟩, .inl rfl⟩, k_law_digit⟩
  have b_law_digit := F_law_digit.bindsN (ps := ["state", "many"]) fun _ _ _ _ _ _ us hl => match us, hl with | [_, _], _ => rfl
  have F_law_word : FF_law_word K f_law_word _ := ⟨⟨_, _, _, _, _, _, _, _, _, _, rfl, l_law_word, c_law_word, .inl ⟨rfl, rfl⟩, .inl rfl⟩, k_law_word⟩
  have b_law_word := F_law_word.bindsN (ps := ["state"]) fun _ _ _ _ _ _ us hl => match us, hl with | [_], _ => rfl
  have F_law_kinds : FF_law_kinds K f_law_kinds _ := ⟨⟨_, _, _, _, _, _, _, _, _, _, rfl, l_law_kinds, c_law_kinds, .inl ⟨rfl, rfl⟩, .inl rfl⟩, k_law_kinds⟩
  have b_law_kinds := F_law_kinds.bindsN (ps := ["error"]) fun _ _ _ _ _ _ us hl => match us, hl with | [_], _ => rfl
  have F_BadFeature_init : FF_BadFeature_init K f_BadFeature_init _ := ⟨⟨_, _, _, _, _, _, _, _, _, _, rfl, l_BadFeature_init, c_BadFeature_init, .inr ⟨by decide, dT_BadFeature_init, dO_BadFeature_init, dI_BadFeature_init.toList, dN_BadFeature_init, rfl, dl_BadFeature_init, by simpa using dd_BadFeature_init, dv_BadFeature_init⟩, .inl rfl⟩, k_BadFeature_init⟩
  have F_BadOutline_init : FF_BadOutline_init K f_BadOutline_init _ := ⟨⟨_, _, _, _, _, _, _, _, _, _, rfl, l_BadOutline_init, c_BadOutline_init, .inr ⟨by decide, dT_BadOutline_init, dO_BadOutline_init, dI_BadOutline_init.toList, dN_BadOutline_init, rfl, dl_BadOutline_init, by simpa using dd_BadOutline_init, dv_BadOutline_init⟩, .inl rfl⟩, k_BadOutline_init⟩
  have F_BadBlock_init : FF_BadBlock_init K f_BadBlock_init _ := ⟨⟨_, _, _, _, _, _, _, _, _, _, rfl, l_BadBlock_init, c_BadBlock_init, .inr ⟨by decide, dT_BadBlock_init, dO_BadBlock_init, dI_BadBlock_init.toList, dN_BadBlock_init, rfl, dl_BadBlock_init, by simpa using dd_BadBlock_init, dv_BadBlock_init⟩, .inl rfl⟩, k_BadBlock_init⟩
  have F_BadSketch_init : FF_BadSketch_init K f_BadSketch_init _ := ⟨⟨_, _, _, _, _, _, _, _, _, _, rfl, l_BadSketch_init, c_BadSketch_init, .inr ⟨by decide, dT_BadSketch_init, dO_BadSketch_init, dI_BadSketch_init.toList, dN_BadSketch_init, rfl, dl_BadSketch_init, by simpa using dd_BadSketch_init, dv_BadSketch_init⟩, .inl rfl⟩, k_BadSketch_init⟩
  have F_BadRow_init : FF_BadRow_init K f_BadRow_init _ := ⟨⟨_, _, _, _, _, _, _, _, _, _, rfl, l_BadRow_init, c_BadRow_init, .inl ⟨rfl, rfl⟩, .inl rfl⟩, k_BadRow_init⟩
  have F_Clash_init : FF_Clash_init K f_Clash_init _ := ⟨⟨_, _, _, _, _, _, _, _, _, _, rfl, l_Clash_init, c_Clash_init, .inl ⟨rfl, rfl⟩, .inl rfl⟩, k_Clash_init⟩
  have F_BadPaper_init : FF_BadPaper_init K f_BadPaper_init _ := ⟨⟨_, _, _, _, _, _, _, _, _, _, rfl, l_BadPaper_init, c_BadPaper_init, .inr ⟨by decide, dT_BadPaper_init, dO_BadPaper_init, dI_BadPaper_init.toList, dN_BadPaper_init, rfl, dl_BadPaper_init, by simpa using dd_BadPaper_init, dv_BadPaper_init⟩, .inl rfl⟩, k_BadPaper_init⟩
  have F_BadWay_init : FF_BadWay_init K f_BadWay_init _ := ⟨⟨_, _, _, _, _, _, _, _, _, _, rfl, l_BadWay_init, c_BadWay_init, .inr ⟨by decide, dT_BadWay_init, dO_BadWay_init, dI_BadWay_init.toList, dN_BadWay_init, rfl, dl_BadWay_init, by simpa using dd_BadWay_init, dv_BadWay_init⟩, .inl rfl⟩, k_BadWay_init⟩
  have F_BadTools_init : FF_BadTools_init K f_BadTools_init _ := ⟨⟨_, _, _, _, _, _, _, _, _, _, rfl, l_BadTools_init, c_BadTools_init, .inr ⟨by decide, dT_BadTools_init, dO_BadTools_init, dI_BadTools_init.toList, dN_BadTools_init, rfl, dl_BadTools_init, by simpa using dd_BadTools_init, dv_BadTools_init⟩, .inl rfl⟩, k_BadTools_init⟩
  have F_BadField_init : FF_BadField_init K f_BadField_init _ := ⟨⟨_, _, _, _, _, _, _, _, _, _, rfl, l_BadField_init, c_BadField_init, .inr ⟨by decide, dT_BadField_init, dO_BadField_init, dI_BadField_init.toList, dN_BadField_init, rfl, dl_BadField_init, by simpa using dd_BadField_init, dv_BadField_init⟩, .inl rfl⟩, k_BadField_init⟩
  have F_Beyond_init : FF_Beyond_init K f_Beyond_init _ := ⟨⟨_, _, _, _, _, _, _, _, _, _, rfl, l_Beyond_init, c_Beyond_init, .inl ⟨rfl, rfl⟩, .inl rfl⟩, k_Beyond_init⟩
  have F_NoTool_init : FF_NoTool_init K f_NoTool_init _ := ⟨⟨_, _, _, _, _, _, _, _, _, _, rfl, l_NoTool_init, c_NoTool_init, .inl ⟨rfl, rfl⟩, .inl rfl⟩, k_NoTool_init⟩
  have F_NoFeature_init : FF_NoFeature_init K f_NoFeature_init _ := ⟨⟨_, _, _, _, _, _, _, _, _, _, rfl, l_NoFeature_init, c_NoFeature_init, .inl ⟨rfl, rfl⟩, .inl rfl⟩, k_NoFeature_init⟩
  have F_NoSaying_init : FF_NoSaying_init K f_NoSaying_init _ := ⟨⟨_, _, _, _, _, _, _, _, _, _, rfl, l_NoSaying_init, c_NoSaying_init, .inl ⟨rfl, rfl⟩, .inl rfl⟩, k_NoSaying_init⟩
  have F_NoPoint_init : FF_NoPoint_init K f_NoPoint_init _ := ⟨⟨_, _, _, _, _, _, _, _, _, _, rfl, l_NoPoint_init, c_NoPoint_init, .inl ⟨rfl, rfl⟩, .inl rfl⟩, k_NoPoint_init⟩
  have F_TooDeep_init : FF_TooDeep_init K f_TooDeep_init _ := ⟨⟨_, _, _, _, _, _, _, _, _, _, rfl, l_TooDeep_init, c_TooDeep_init, .inl ⟨rfl, rfl⟩, .inl rfl⟩, k_TooDeep_init⟩
  have F_Blocked_init : FF_Blocked_init K f_Blocked_init _ := ⟨⟨_, _, _, _, _, _, _, _, _, _, rfl, l_Blocked_init, c_Blocked_init, .inl ⟨rfl, rfl⟩, .inl rfl⟩, k_Blocked_init⟩
  have F_law_by_hand : FF_law_by_hand K f_law_by_hand _ := ⟨⟨_, _, _, _, _, _, _, _, _, _, rfl, l_law_by_hand, c_law_by_hand, .inl ⟨rfl, rfl⟩, .inl rfl⟩, k_law_by_hand⟩
  have b_law_by_hand := F_law_by_hand.bindsN (ps := ["figure", "sign"]) fun _ _ _ _ _ _ us hl => match us, hl with | [_, _], _ => rfl
  have F_law_left_out : FF_law_left_out K f_law_left_out _ := ⟨⟨_, _, _, _, _, _, _, _, _, _, rfl, l_law_left_out, c_law_left_out, .inl ⟨rfl, rfl⟩, .inl rfl⟩, k_law_left_out⟩
  have b_law_left_out := F_law_left_out.bindsN (ps := ["figure", "sign"]) fun _ _ _ _ _ _ us hl => match us, hl with | [_, _], _ => rfl
  have F_law : FF_law K fa _ := ⟨⟨_, _, _, _, _, _, _, _, _, _, rfl, l_law, c_law, .inl ⟨rfl, rfl⟩, .inl rfl⟩, k_law⟩
  have b_law := F_law.bindsN (ps := ["script"]) fun _ _ _ _ _ _ us hl => match us, hl with | [_], _ => rfl
  refine ⟨_, ff_law (⟨C_BadSketch, C_BadRow, C_BadOutline, C_BadBlock, C_BadField, C_BadFeature, C_BadWay, C_BadTools, C_Clash, C_BadPaper, C_OutOfPlace, C_Twice, C_NoPoint, C_TooGreat, C_NoFeature, C_NoSaying, C_Nothing, C_NoTool, C_Lifted, C_NoToolThere, C_Beyond, C_Lowered, C_TooDeep, C_Blocked, C_WorksError, C_MissError, C_FaultError, Pl.isaOf K, Pl.okfOf K, Pl.okgOf K⟩ : CT), fun s v => F_law.bindsA (ps := ["script"]) (fun _ _ _ _ _ _ us hl => match us, hl with | [_], _ => rfl) s [v] rfl, fun base _ _ => ?_, Law.truth (⟨C_BadSketch, C_BadRow, C_BadOutline, C_BadBlock, C_BadField, C_BadFeature, C_BadWay, C_BadTools, C_Clash, C_BadPaper, C_OutOfPlace, C_Twice, C_NoPoint, C_TooGreat, C_NoFeature, C_NoSaying, C_Nothing, C_NoTool, C_Lifted, C_NoToolThere, C_Beyond, C_Lowered, C_TooDeep, C_Blocked, C_WorksError, C_MissError, C_FaultError, Pl.isaOf K, Pl.okfOf K, Pl.okgOf K⟩ : CT) ⟨Pl.isaOf_map EC_BadFeature il_BadFeature, Pl.isaOf_map EC_BadOutline il_BadOutline, Pl.isaOf_map EC_BadBlock il_BadBlock, Pl.isaOf_map EC_BadSketch il_BadSketch, Pl.isaOf_map EC_BadRow il_BadRow, Pl.isaOf_map EC_Clash il_Clash, Pl.isaOf_map EC_BadPaper il_BadPaper, Pl.isaOf_map EC_BadWay il_BadWay, Pl.isaOf_map EC_BadTools il_BadTools, Pl.isaOf_map EC_BadField il_BadField, Pl.isaOf_map EC_Beyond il_Beyond, Pl.isaOf_map EC_NoTool il_NoTool, Pl.isaOf_map EC_NoFeature il_NoFeature, Pl.isaOf_map EC_NoSaying il_NoSaying, Pl.isaOf_map EC_NoPoint il_NoPoint, Pl.isaOf_map EC_TooDeep il_TooDeep, Pl.isaOf_map EC_Blocked il_Blocked, Pl.isaOf_map EC_NoToolThere il_NoToolThere, Pl.isaOf_map EC_Nothing il_Nothing, Pl.isaOf_map EC_TooGreat il_TooGreat, Pl.isaOf_map EC_OutOfPlace il_OutOfPlace, Pl.isaOf_map EC_Twice il_Twice, Pl.isaOf_map EC_Lowered il_Lowered, Pl.isaOf_map EC_Lifted il_Lifted, Pl.okfOf_eq ⟨⟨_, _, _, _, EG_BadFeature⟩, tk_BadFeature_number⟩, Pl.okgOf_eq ⟨⟨q1_BadFeature, q2_BadFeature, be_BadFeature, q3_BadFeature⟩, fn_BadFeature_number⟩, Pl.okfOf_eq ⟨⟨_, _, _, _, EG_BadOutline⟩, tk_BadOutline_number⟩, Pl.okgOf_eq ⟨⟨q1_BadOutline, q2_BadOutline, be_BadOutline, q3_BadOutline⟩, fn_BadOutline_number⟩, Pl.okfOf_eq ⟨⟨_, _, _, _, EG_BadBlock⟩, tk_BadBlock_place⟩, Pl.okgOf_eq ⟨⟨q1_BadBlock, q2_BadBlock, be_BadBlock, q3_BadBlock⟩, fn_BadBlock_place⟩, Pl.okfOf_eq ⟨⟨_, _, _, _, EG_BadSketch⟩, tk_BadSketch_part⟩, Pl.okgOf_eq ⟨⟨q1_BadSketch, q2_BadSketch, be_BadSketch, q3_BadSketch⟩, fn_BadSketch_part⟩, Pl.okfOf_eq ⟨⟨_, _, _, _, EG_BadSketch⟩, tk_BadSketch_number⟩, Pl.okgOf_eq ⟨⟨q1_BadSketch, q2_BadSketch, be_BadSketch, q3_BadSketch⟩, fn_BadSketch_number⟩, Pl.okfOf_eq ⟨⟨_, _, _, _, EG_BadRow⟩, tk_BadRow_row⟩, Pl.okgOf_eq ⟨⟨q1_BadRow, q2_BadRow, be_BadRow, q3_BadRow⟩, fn_BadRow_row⟩, Pl.okfOf_eq ⟨⟨_, _, _, _, EG_BadRow⟩, tk_BadRow_word⟩, Pl.okgOf_eq ⟨⟨q1_BadRow, q2_BadRow, be_BadRow, q3_BadRow⟩, fn_BadRow_word⟩, Pl.okfOf_eq ⟨⟨_, _, _, _, EG_Clash⟩, tk_Clash_number⟩, Pl.okgOf_eq ⟨⟨q1_Clash, q2_Clash, be_Clash, q3_Clash⟩, fn_Clash_number⟩, Pl.okfOf_eq ⟨⟨_, _, _, _, EG_BadPaper⟩, tk_BadPaper_place⟩, Pl.okgOf_eq ⟨⟨q1_BadPaper, q2_BadPaper, be_BadPaper, q3_BadPaper⟩, fn_BadPaper_place⟩, Pl.okfOf_eq ⟨⟨_, _, _, _, EG_BadWay⟩, tk_BadWay_number⟩, Pl.okgOf_eq ⟨⟨q1_BadWay, q2_BadWay, be_BadWay, q3_BadWay⟩, fn_BadWay_number⟩, Pl.okfOf_eq ⟨⟨_, _, _, _, EG_BadTools⟩, tk_BadTools_number⟩, Pl.okgOf_eq ⟨⟨q1_BadTools, q2_BadTools, be_BadTools, q3_BadTools⟩, fn_BadTools_number⟩, Pl.okfOf_eq ⟨⟨_, _, _, _, EG_BadField⟩, tk_BadField_place⟩, Pl.okgOf_eq ⟨⟨q1_BadField, q2_BadField, be_BadField, q3_BadField⟩, fn_BadField_place⟩, Pl.okfOf_eq ⟨⟨_, _, _, _, EG_Beyond⟩, tk_Beyond_place⟩, Pl.okgOf_eq ⟨⟨q1_Beyond, q2_Beyond, be_Beyond, q3_Beyond⟩, fn_Beyond_place⟩, Pl.okfOf_eq ⟨⟨_, _, _, _, EG_NoTool⟩, tk_NoTool_tool⟩, Pl.okgOf_eq ⟨⟨q1_NoTool, q2_NoTool, be_NoTool, q3_NoTool⟩, fn_NoTool_tool⟩, Pl.okfOf_eq ⟨⟨_, _, _, _, EG_NoFeature⟩, tk_NoFeature_number⟩, Pl.okgOf_eq ⟨⟨q1_NoFeature, q2_NoFeature, be_NoFeature, q3_NoFeature⟩, fn_NoFeature_number⟩, Pl.okfOf_eq ⟨⟨_, _, _, _, EG_NoSaying⟩, tk_NoSaying_number⟩, Pl.okgOf_eq ⟨⟨q1_NoSaying, q2_NoSaying, be_NoSaying, q3_NoSaying⟩, fn_NoSaying_number⟩, Pl.okfOf_eq ⟨⟨_, _, _, _, EG_NoPoint⟩, tk_NoPoint_name⟩, Pl.okgOf_eq ⟨⟨q1_NoPoint, q2_NoPoint, be_NoPoint, q3_NoPoint⟩, fn_NoPoint_name⟩, Pl.okfOf_eq ⟨⟨_, _, _, _, EG_TooDeep⟩, tk_TooDeep_place⟩, Pl.okgOf_eq ⟨⟨q1_TooDeep, q2_TooDeep, be_TooDeep, q3_TooDeep⟩, fn_TooDeep_place⟩, Pl.okfOf_eq ⟨⟨_, _, _, _, EG_Blocked⟩, tk_Blocked_place⟩, Pl.okgOf_eq ⟨⟨q1_Blocked, q2_Blocked, be_Blocked, q3_Blocked⟩, fn_Blocked_place⟩⟩⟩
  have O_law_mixed := ok_law_mixed (P := l.prog) (w := w) (base := base) T  F_law_mixed
  have L_law_mixed : Lk l.prog w K mg base "_law_mixed" 1 ["cell", "k"] ff_law_mixed := ⟨_, _, O_law_mixed, PySem.W.mg_of X G a_law_mixed, k_law_mixed, b_law_mixed⟩
  have O_law_draw := ok_law_draw (P := l.prog) (w := w) (base := base) T  F_law_draw
  have L_law_draw : Lk l.prog w K mg base "_law_draw" 1 ["cell", "k"] ff_law_draw := ⟨_, _, O_law_draw, PySem.W.mg_of X G a_law_draw, k_law_draw, b_law_draw⟩
  have O_law_digit := ok_law_digit (P := l.prog) (w := w) (base := base) T L_law_mixed F_law_digit
  have L_law_digit : Lk l.prog w K mg base "_law_digit" 2 ["state", "many"] ff_law_digit := ⟨_, _, O_law_digit, PySem.W.mg_of X G a_law_digit, k_law_digit, b_law_digit⟩
  have O_law_word := ok_law_word (P := l.prog) (w := w) (base := base) T L_law_digit F_law_word
  have L_law_word : Lk l.prog w K mg base "_law_word" 3 ["state"] ff_law_word := ⟨_, _, O_law_word, PySem.W.mg_of X G a_law_word, k_law_word, b_law_word⟩
  have O_law_kinds := ok_law_kinds (P := l.prog) (w := w) (base := base) T  F_law_kinds
  have L_law_kinds : Lk l.prog w K mg base "_law_kinds" 1 ["error"] (ff_law_kinds _) := ⟨_, _, O_law_kinds, PySem.W.mg_of X G a_law_kinds, k_law_kinds, b_law_kinds⟩
  have O_BadFeature_init := ok_BadFeature_init (P := l.prog) (w := w) (base := base) T  F_BadFeature_init
  have G_BadFeature_1 : LkG l.prog w K mg base "BadFeature" 1 ["self", "number"] (ff_BadFeature_init (⟨C_BadSketch, C_BadRow, C_BadOutline, C_BadBlock, C_BadField, C_BadFeature, C_BadWay, C_BadTools, C_Clash, C_BadPaper, C_OutOfPlace, C_Twice, C_NoPoint, C_TooGreat, C_NoFeature, C_NoSaying, C_Nothing, C_NoTool, C_Lifted, C_NoToolThere, C_Beyond, C_Lowered, C_TooDeep, C_Blocked, C_WorksError, C_MissError, C_FaultError, Pl.isaOf K, Pl.okfOf K, Pl.okgOf K⟩ : CT)) C_BadFeature [] := by
    obtain ⟨ds, h1, h2⟩ := F_BadFeature_init.binds1 (ps := ["self", "number"]) 2 1 (by simp) rfl (fun D kV doc pm an cdv ct us its hu hk => match us, hu, its, hk with | [_, _], _, [_], _ => ⟨_, rfl, rfl⟩)
    exact ⟨⟨_, _, [], ds, _, _, _, _, EG_BadFeature, ii_BadFeature, ti_BadFeature, O_BadFeature_init, PySem.W.mg_of X G a_BadFeature, h2, h1, fun _ _ => .nil⟩⟩
  have G_BadFeature_0 : LkG l.prog w K mg base "BadFeature" 1 ["self", "number"] (ff_BadFeature_init (⟨C_BadSketch, C_BadRow, C_BadOutline, C_BadBlock, C_BadField, C_BadFeature, C_BadWay, C_BadTools, C_Clash, C_BadPaper, C_OutOfPlace, C_Twice, C_NoPoint, C_TooGreat, C_NoFeature, C_NoSaying, C_Nothing, C_NoTool, C_Lifted, C_NoToolThere, C_Beyond, C_Lowered, C_TooDeep, C_Blocked, C_WorksError, C_MissError, C_FaultError, Pl.isaOf K, Pl.okfOf K, Pl.okgOf K⟩ : CT)) C_BadFeature [.non] := by
    obtain ⟨ds, h1, h2⟩ := F_BadFeature_init.binds1 (ps := ["self", "number"]) 1 0 (by simp) rfl (fun D kV doc pm an cdv ct us its hu hk => match us, hu, its, hk with | [_], _, [_], _ => ⟨_, rfl, rfl⟩)
    exact ⟨⟨_, _, [.non], ds, _, _, _, _, EG_BadFeature, ii_BadFeature, ti_BadFeature, O_BadFeature_init, PySem.W.mg_of X G a_BadFeature, h2, h1, fun _ _ => (.cons (.non) .nil)⟩⟩
  have GK_BadFeature_number : LkGK l.prog w K mg base "BadFeature" 1 ["self", "number"] (ff_BadFeature_init (⟨C_BadSketch, C_BadRow, C_BadOutline, C_BadBlock, C_BadField, C_BadFeature, C_BadWay, C_BadTools, C_Clash, C_BadPaper, C_OutOfPlace, C_Twice, C_NoPoint, C_TooGreat, C_NoFeature, C_NoSaying, C_Nothing, C_NoTool, C_Lifted, C_NoToolThere, C_Beyond, C_Lowered, C_TooDeep, C_Blocked, C_WorksError, C_MissError, C_FaultError, Pl.isaOf K, Pl.okfOf K, Pl.okgOf K⟩ : CT)) C_BadFeature ["number"] gd_BadFeature_number := by
    obtain ⟨its, h⟩ := F_BadFeature_init.kbindsD (ps := ["self", "number"]) (0 + 1) ["number"] (fun us ds ws => us ++ ((ws.drop 0).take 1)) (by simp) (fun r rd rz => r.append (vals_take 1 (rz.drop 0))) (fun T kV doc pm an cdv ct us its ws hu hi hw => match us, hu, its, hi, ws, hw with | [_], _, [_], _, [_], _ => ⟨_, rfl, rfl⟩)
    exact ⟨⟨_, _, _, _, _, _, _, _, EG_BadFeature, ii_BadFeature, ti_BadFeature, O_BadFeature_init, PySem.W.mg_of X G a_BadFeature, h, fun B ι vs ds zs es r1 r2 => by
      have rd : RepL K B ι [.non] [.non] := (.cons (.non) .nil)
      exact r1.append ((r2.drop 0).take 1)⟩, fun ds zs h1 h2 => match ds, zs, h1, h2 with | [_], [_], _, _ => rfl⟩
  have O_BadOutline_init := ok_BadOutline_init (P := l.prog) (w := w) (base := base) T  F_BadOutline_init
  have G_BadOutline_1 : LkG l.prog w K mg base "BadOutline" 1 ["self", "number"] (ff_BadOutline_init (⟨C_BadSketch, C_BadRow, C_BadOutline, C_BadBlock, C_BadField, C_BadFeature, C_BadWay, C_BadTools, C_Clash, C_BadPaper, C_OutOfPlace, C_Twice, C_NoPoint, C_TooGreat, C_NoFeature, C_NoSaying, C_Nothing, C_NoTool, C_Lifted, C_NoToolThere, C_Beyond, C_Lowered, C_TooDeep, C_Blocked, C_WorksError, C_MissError, C_FaultError, Pl.isaOf K, Pl.okfOf K, Pl.okgOf K⟩ : CT)) C_BadOutline [] := by
    obtain ⟨ds, h1, h2⟩ := F_BadOutline_init.binds1 (ps := ["self", "number"]) 2 1 (by simp) rfl (fun D kV doc pm an cdv ct us its hu hk => match us, hu, its, hk with | [_, _], _, [_], _ => ⟨_, rfl, rfl⟩)
    exact ⟨⟨_, _, [], ds, _, _, _, _, EG_BadOutline, ii_BadOutline, ti_BadOutline, O_BadOutline_init, PySem.W.mg_of X G a_BadOutline, h2, h1, fun _ _ => .nil⟩⟩
  have G_BadOutline_0 : LkG l.prog w K mg base "BadOutline" 1 ["self", "number"] (ff_BadOutline_init (⟨C_BadSketch, C_BadRow, C_BadOutline, C_BadBlock, C_BadField, C_BadFeature, C_BadWay, C_BadTools, C_Clash, C_BadPaper, C_OutOfPlace, C_Twice, C_NoPoint, C_TooGreat, C_NoFeature, C_NoSaying, C_Nothing, C_NoTool, C_Lifted, C_NoToolThere, C_Beyond, C_Lowered, C_TooDeep, C_Blocked, C_WorksError, C_MissError, C_FaultError, Pl.isaOf K, Pl.okfOf K, Pl.okgOf K⟩ : CT)) C_BadOutline [.non] := by
    obtain ⟨ds, h1, h2⟩ := F_BadOutline_init.binds1 (ps := ["self", "number"]) 1 0 (by simp) rfl (fun D kV doc pm an cdv ct us its hu hk => match us, hu, its, hk with | [_], _, [_], _ => ⟨_, rfl, rfl⟩)
    exact ⟨⟨_, _, [.non], ds, _, _, _, _, EG_BadOutline, ii_BadOutline, ti_BadOutline, O_BadOutline_init, PySem.W.mg_of X G a_BadOutline, h2, h1, fun _ _ => (.cons (.non) .nil)⟩⟩
  have GK_BadOutline_number : LkGK l.prog w K mg base "BadOutline" 1 ["self", "number"] (ff_BadOutline_init (⟨C_BadSketch, C_BadRow, C_BadOutline, C_BadBlock, C_BadField, C_BadFeature, C_BadWay, C_BadTools, C_Clash, C_BadPaper, C_OutOfPlace, C_Twice, C_NoPoint, C_TooGreat, C_NoFeature, C_NoSaying, C_Nothing, C_NoTool, C_Lifted, C_NoToolThere, C_Beyond, C_Lowered, C_TooDeep, C_Blocked, C_WorksError, C_MissError, C_FaultError, Pl.isaOf K, Pl.okfOf K, Pl.okgOf K⟩ : CT)) C_BadOutline ["number"] gd_BadOutline_number := by
    obtain ⟨its, h⟩ := F_BadOutline_init.kbindsD (ps := ["self", "number"]) (0 + 1) ["number"] (fun us ds ws => us ++ ((ws.drop 0).take 1)) (by simp) (fun r rd rz => r.append (vals_take 1 (rz.drop 0))) (fun T kV doc pm an cdv ct us its ws hu hi hw => match us, hu, its, hi, ws, hw with | [_], _, [_], _, [_], _ => ⟨_, rfl, rfl⟩)
    exact ⟨⟨_, _, _, _, _, _, _, _, EG_BadOutline, ii_BadOutline, ti_BadOutline, O_BadOutline_init, PySem.W.mg_of X G a_BadOutline, h, fun B ι vs ds zs es r1 r2 => by
      have rd : RepL K B ι [.non] [.non] := (.cons (.non) .nil)
      exact r1.append ((r2.drop 0).take 1)⟩, fun ds zs h1 h2 => match ds, zs, h1, h2 with | [_], [_], _, _ => rfl⟩
  have O_BadBlock_init := ok_BadBlock_init (P := l.prog) (w := w) (base := base) T  F_BadBlock_init
  have G_BadBlock_1 : LkG l.prog w K mg base "BadBlock" 1 ["self", "place"] (ff_BadBlock_init (⟨C_BadSketch, C_BadRow, C_BadOutline, C_BadBlock, C_BadField, C_BadFeature, C_BadWay, C_BadTools, C_Clash, C_BadPaper, C_OutOfPlace, C_Twice, C_NoPoint, C_TooGreat, C_NoFeature, C_NoSaying, C_Nothing, C_NoTool, C_Lifted, C_NoToolThere, C_Beyond, C_Lowered, C_TooDeep, C_Blocked, C_WorksError, C_MissError, C_FaultError, Pl.isaOf K, Pl.okfOf K, Pl.okgOf K⟩ : CT)) C_BadBlock [] := by
    obtain ⟨ds, h1, h2⟩ := F_BadBlock_init.binds1 (ps := ["self", "place"]) 2 1 (by simp) rfl (fun D kV doc pm an cdv ct us its hu hk => match us, hu, its, hk with | [_, _], _, [_], _ => ⟨_, rfl, rfl⟩)
    exact ⟨⟨_, _, [], ds, _, _, _, _, EG_BadBlock, ii_BadBlock, ti_BadBlock, O_BadBlock_init, PySem.W.mg_of X G a_BadBlock, h2, h1, fun _ _ => .nil⟩⟩
  have G_BadBlock_0 : LkG l.prog w K mg base "BadBlock" 1 ["self", "place"] (ff_BadBlock_init (⟨C_BadSketch, C_BadRow, C_BadOutline, C_BadBlock, C_BadField, C_BadFeature, C_BadWay, C_BadTools, C_Clash, C_BadPaper, C_OutOfPlace, C_Twice, C_NoPoint, C_TooGreat, C_NoFeature, C_NoSaying, C_Nothing, C_NoTool, C_Lifted, C_NoToolThere, C_Beyond, C_Lowered, C_TooDeep, C_Blocked, C_WorksError, C_MissError, C_FaultError, Pl.isaOf K, Pl.okfOf K, Pl.okgOf K⟩ : CT)) C_BadBlock [.non] := by
    obtain ⟨ds, h1, h2⟩ := F_BadBlock_init.binds1 (ps := ["self", "place"]) 1 0 (by simp) rfl (fun D kV doc pm an cdv ct us its hu hk => match us, hu, its, hk with | [_], _, [_], _ => ⟨_, rfl, rfl⟩)
    exact ⟨⟨_, _, [.non], ds, _, _, _, _, EG_BadBlock, ii_BadBlock, ti_BadBlock, O_BadBlock_init, PySem.W.mg_of X G a_BadBlock, h2, h1, fun _ _ => (.cons (.non) .nil)⟩⟩
  have GK_BadBlock_place : LkGK l.prog w K mg base "BadBlock" 1 ["self", "place"] (ff_BadBlock_init (⟨C_BadSketch, C_BadRow, C_BadOutline, C_BadBlock, C_BadField, C_BadFeature, C_BadWay, C_BadTools, C_Clash, C_BadPaper, C_OutOfPlace, C_Twice, C_NoPoint, C_TooGreat, C_NoFeature, C_NoSaying, C_Nothing, C_NoTool, C_Lifted, C_NoToolThere, C_Beyond, C_Lowered, C_TooDeep, C_Blocked, C_WorksError, C_MissError, C_FaultError, Pl.isaOf K, Pl.okfOf K, Pl.okgOf K⟩ : CT)) C_BadBlock ["place"] gd_BadBlock_place := by
    obtain ⟨its, h⟩ := F_BadBlock_init.kbindsD (ps := ["self", "place"]) (0 + 1) ["place"] (fun us ds ws => us ++ ((ws.drop 0).take 1)) (by simp) (fun r rd rz => r.append (vals_take 1 (rz.drop 0))) (fun T kV doc pm an cdv ct us its ws hu hi hw => match us, hu, its, hi, ws, hw with | [_], _, [_], _, [_], _ => ⟨_, rfl, rfl⟩)
    exact ⟨⟨_, _, _, _, _, _, _, _, EG_BadBlock, ii_BadBlock, ti_BadBlock, O_BadBlock_init, PySem.W.mg_of X G a_BadBlock, h, fun B ι vs ds zs es r1 r2 => by
      have rd : RepL K B ι [.non] [.non] := (.cons (.non) .nil)
      exact r1.append ((r2.drop 0).take 1)⟩, fun ds zs h1 h2 => match ds, zs, h1, h2 with | [_], [_], _, _ => rfl⟩
  have O_BadSketch_init := ok_BadSketch_init (P := l.prog) (w := w) (base := base) T  F_BadSketch_init
  have G_BadSketch_2 : LkG l.prog w K mg base "BadSketch" 1 ["self", "part", "number"] (ff_BadSketch_init (⟨C_BadSketch, C_BadRow, C_BadOutline, C_BadBlock, C_BadField, C_BadFeature, C_BadWay, C_BadTools, C_Clash, C_BadPaper, C_OutOfPlace, C_Twice, C_NoPoint, C_TooGreat, C_NoFeature, C_NoSaying, C_Nothing, C_NoTool, C_Lifted, C_NoToolThere, C_Beyond, C_Lowered, C_TooDeep, C_Blocked, C_WorksError, C_MissError, C_FaultError, Pl.isaOf K, Pl.okfOf K, Pl.okgOf K⟩ : CT)) C_BadSketch [] := by
    obtain ⟨ds, h1, h2⟩ := F_BadSketch_init.binds1 (ps := ["self", "part", "number"]) 3 2 (by simp) rfl (fun D kV doc pm an cdv ct us its hu hk => match us, hu, its, hk with | [_, _, _], _, [_, _], _ => ⟨_, rfl, rfl⟩)
    exact ⟨⟨_, _, [], ds, _, _, _, _, EG_BadSketch, ii_BadSketch, ti_BadSketch, O_BadSketch_init, PySem.W.mg_of X G a_BadSketch, h2, h1, fun _ _ => .nil⟩⟩
  have G_BadSketch_1 : LkG l.prog w K mg base "BadSketch" 1 ["self", "part", "number"] (ff_BadSketch_init (⟨C_BadSketch, C_BadRow, C_BadOutline, C_BadBlock, C_BadField, C_BadFeature, C_BadWay, C_BadTools, C_Clash, C_BadPaper, C_OutOfPlace, C_Twice, C_NoPoint, C_TooGreat, C_NoFeature, C_NoSaying, C_Nothing, C_NoTool, C_Lifted, C_NoToolThere, C_Beyond, C_Lowered, C_TooDeep, C_Blocked, C_WorksError, C_MissError, C_FaultError, Pl.isaOf K, Pl.okfOf K, Pl.okgOf K⟩ : CT)) C_BadSketch [.non] := by
    obtain ⟨ds, h1, h2⟩ := F_BadSketch_init.binds1 (ps := ["self", "part", "number"]) 2 1 (by simp) rfl (fun D kV doc pm an cdv ct us its hu hk => match us, hu, its, hk with | [_, _], _, [_, _], _ => ⟨_, rfl, rfl⟩)
    exact ⟨⟨_, _, [.non], ds, _, _, _, _, EG_BadSketch, ii_BadSketch, ti_BadSketch, O_BadSketch_init, PySem.W.mg_of X G a_BadSketch, h2, h1, fun _ _ => (.cons (.non) .nil)⟩⟩
  have G_BadSketch_0 : LkG l.prog w K mg base "BadSketch" 1 ["self", "part", "number"] (ff_BadSketch_init (⟨C_BadSketch, C_BadRow, C_BadOutline, C_BadBlock, C_BadField, C_BadFeature, C_BadWay, C_BadTools, C_Clash, C_BadPaper, C_OutOfPlace, C_Twice, C_NoPoint, C_TooGreat, C_NoFeature, C_NoSaying, C_Nothing, C_NoTool, C_Lifted, C_NoToolThere, C_Beyond, C_Lowered, C_TooDeep, C_Blocked, C_WorksError, C_MissError, C_FaultError, Pl.isaOf K, Pl.okfOf K, Pl.okgOf K⟩ : CT)) C_BadSketch [.non, .non] := by
    obtain ⟨ds, h1, h2⟩ := F_BadSketch_init.binds1 (ps := ["self", "part", "number"]) 1 0 (by simp) rfl (fun D kV doc pm an cdv ct us its hu hk => match us, hu, its, hk with | [_], _, [_, _], _ => ⟨_, rfl, rfl⟩)
    exact ⟨⟨_, _, [.non, .non], ds, _, _, _, _, EG_BadSketch, ii_BadSketch, ti_BadSketch, O_BadSketch_init, PySem.W.mg_of X G a_BadSketch, h2, h1, fun _ _ => (.cons (.non) (.cons (.non) .nil))⟩⟩
  have GK_BadSketch_part : LkGK l.prog w K mg base "BadSketch" 1 ["self", "part", "number"] (ff_BadSketch_init (⟨C_BadSketch, C_BadRow, C_BadOutline, C_BadBlock, C_BadField, C_BadFeature, C_BadWay, C_BadTools, C_Clash, C_BadPaper, C_OutOfPlace, C_Twice, C_NoPoint, C_TooGreat, C_NoFeature, C_NoSaying, C_Nothing, C_NoTool, C_Lifted, C_NoToolThere, C_Beyond, C_Lowered, C_TooDeep, C_Blocked, C_WorksError, C_MissError, C_FaultError, Pl.isaOf K, Pl.okfOf K, Pl.okgOf K⟩ : CT)) C_BadSketch ["part"] gd_BadSketch_part := by
    obtain ⟨its, h⟩ := F_BadSketch_init.kbindsD (ps := ["self", "part", "number"]) (0 + 1) ["part"] (fun us ds ws => us ++ (((ws.drop 0).take 1) ++ ((ds.drop 1).take 1))) (by simp) (fun r rd rz => r.append ((vals_take 1 (rz.drop 0)).append (vals_take 1 (rd.drop 1)))) (fun T kV doc pm an cdv ct us its ws hu hi hw => match us, hu, its, hi, ws, hw with | [_], _, [_, _], _, [_], _ => ⟨_, rfl, rfl⟩)
    exact ⟨⟨_, _, _, _, _, _, _, _, EG_BadSketch, ii_BadSketch, ti_BadSketch, O_BadSketch_init, PySem.W.mg_of X G a_BadSketch, h, fun B ι vs ds zs es r1 r2 => by
      have rd : RepL K B ι [.non, .non] [.non, .non] := (.cons (.non) (.cons (.non) .nil))
      exact r1.append (((r2.drop 0).take 1).append ((rd.drop 1).take 1))⟩, fun ds zs h1 h2 => match ds, zs, h1, h2 with | [_], [_], _, _ => rfl⟩
  have GK_BadSketch_number_part : LkGK l.prog w K mg base "BadSketch" 1 ["self", "part", "number"] (ff_BadSketch_init (⟨C_BadSketch, C_BadRow, C_BadOutline, C_BadBlock, C_BadField, C_BadFeature, C_BadWay, C_BadTools, C_Clash, C_BadPaper, C_OutOfPlace, C_Twice, C_NoPoint, C_TooGreat, C_NoFeature, C_NoSaying, C_Nothing, C_NoTool, C_Lifted, C_NoToolThere, C_Beyond, C_Lowered, C_TooDeep, C_Blocked, C_WorksError, C_MissError, C_FaultError, Pl.isaOf K, Pl.okfOf K, Pl.okgOf K⟩ : CT)) C_BadSketch ["number", "part"] gd_BadSketch_number_part := by
    obtain ⟨its, h⟩ := F_BadSketch_init.kbindsD (ps := ["self", "part", "number"]) (0 + 1) ["number", "part"] (fun us ds ws => us ++ (((ws.drop 1).take 1) ++ ((ws.drop 0).take 1))) (by simp) (fun r rd rz => r.append ((vals_take 1 (rz.drop 1)).append (vals_take 1 (rz.drop 0)))) (fun T kV doc pm an cdv ct us its ws hu hi hw => match us, hu, its, hi, ws, hw with | [_], _, [_, _], _, [_, _], _ => ⟨_, rfl, rfl⟩)
    exact ⟨⟨_, _, _, _, _, _, _, _, EG_BadSketch, ii_BadSketch, ti_BadSketch, O_BadSketch_init, PySem.W.mg_of X G a_BadSketch, h, fun B ι vs ds zs es r1 r2 => by
      have rd : RepL K B ι [.non, .non] [.non, .non] := (.cons (.non) (.cons (.non) .nil))
      exact r1.append (((r2.drop 1).take 1).append ((r2.drop 0).take 1))⟩, fun ds zs h1 h2 => match ds, zs, h1, h2 with | [_], [_, _], _, _ => rfl⟩
  have O_BadRow_init := ok_BadRow_init (P := l.prog) (w := w) (base := base) T  F_BadRow_init
  have G_BadRow_2 : LkG l.prog w K mg base "BadRow" 1 ["self", "row", "word"] (ff_BadRow_init (⟨C_BadSketch, C_BadRow, C_BadOutline, C_BadBlock, C_BadField, C_BadFeature, C_BadWay, C_BadTools, C_Clash, C_BadPaper, C_OutOfPlace, C_Twice, C_NoPoint, C_TooGreat, C_NoFeature, C_NoSaying, C_Nothing, C_NoTool, C_Lifted, C_NoToolThere, C_Beyond, C_Lowered, C_TooDeep, C_Blocked, C_WorksError, C_MissError, C_FaultError, Pl.isaOf K, Pl.okfOf K, Pl.okgOf K⟩ : CT)) C_BadRow [] := ⟨⟨_, _, [], [], _, _, _, _, EG_BadRow, ii_BadRow, ti_BadRow, O_BadRow_init, PySem.W.mg_of X G a_BadRow, F_BadRow_init.bindsN (ps := ["self", "row", "word"]) (fun _ _ _ _ _ _ us hl => match us, hl with | [_, _, _], _ => rfl), .nil, fun _ _ => .nil⟩⟩
  have GK_BadRow_word_row : LkGK l.prog w K mg base "BadRow" 1 ["self", "row", "word"] (ff_BadRow_init (⟨C_BadSketch, C_BadRow, C_BadOutline, C_BadBlock, C_BadField, C_BadFeature, C_BadWay, C_BadTools, C_Clash, C_BadPaper, C_OutOfPlace, C_Twice, C_NoPoint, C_TooGreat, C_NoFeature, C_NoSaying, C_Nothing, C_NoTool, C_Lifted, C_NoToolThere, C_Beyond, C_Lowered, C_TooDeep, C_Blocked, C_WorksError, C_MissError, C_FaultError, Pl.isaOf K, Pl.okfOf K, Pl.okgOf K⟩ : CT)) C_BadRow ["word", "row"] gd_BadRow_word_row := by
    have h := kb_N F_BadRow_init (ps := ["self", "row", "word"]) (0 + 1) ["word", "row"] (fun us ds ws => us ++ (((ws.drop 1).take 1) ++ ((ws.drop 0).take 1))) (fun r rz => r.append ((vals_take 1 (rz.drop 1)).append (vals_take 1 (rz.drop 0)))) (fun kV doc pm an cdv ct us ws hu hw => match us, hu, ws, hw with | [_], _, [_, _], _ => rfl)
    exact ⟨⟨_, _, _, _, _, _, _, _, EG_BadRow, ii_BadRow, ti_BadRow, O_BadRow_init, PySem.W.mg_of X G a_BadRow, h, fun B ι vs ds zs es r1 r2 => by
      have rd : RepL K B ι [] [] := .nil
      exact r1.append (((r2.drop 1).take 1).append ((r2.drop 0).take 1))⟩, fun ds zs h1 h2 => match ds, zs, h1, h2 with | [_], [_, _], _, _ => rfl⟩
  have O_Clash_init := ok_Clash_init (P := l.prog) (w := w) (base := base) T  F_Clash_init
  have G_Clash_1 : LkG l.prog w K mg base "Clash" 1 ["self", "number"] (ff_Clash_init (⟨C_BadSketch, C_BadRow, C_BadOutline, C_BadBlock, C_BadField, C_BadFeature, C_BadWay, C_BadTools, C_Clash, C_BadPaper, C_OutOfPlace, C_Twice, C_NoPoint, C_TooGreat, C_NoFeature, C_NoSaying, C_Nothing, C_NoTool, C_Lifted, C_NoToolThere, C_Beyond, C_Lowered, C_TooDeep, C_Blocked, C_WorksError, C_MissError, C_FaultError, Pl.isaOf K, Pl.okfOf K, Pl.okgOf K⟩ : CT)) C_Clash [] := ⟨⟨_, _, [], [], _, _, _, _, EG_Clash, ii_Clash, ti_Clash, O_Clash_init, PySem.W.mg_of X G a_Clash, F_Clash_init.bindsN (ps := ["self", "number"]) (fun _ _ _ _ _ _ us hl => match us, hl with | [_, _], _ => rfl), .nil, fun _ _ => .nil⟩⟩
  have GK_Clash_number : LkGK l.prog w K mg base "Clash" 1 ["self", "number"] (ff_Clash_init (⟨C_BadSketch, C_BadRow, C_BadOutline, C_BadBlock, C_BadField, C_BadFeature, C_BadWay, C_BadTools, C_Clash, C_BadPaper, C_OutOfPlace, C_Twice, C_NoPoint, C_TooGreat, C_NoFeature, C_NoSaying, C_Nothing, C_NoTool, C_Lifted, C_NoToolThere, C_Beyond, C_Lowered, C_TooDeep, C_Blocked, C_WorksError, C_MissError, C_FaultError, Pl.isaOf K, Pl.okfOf K, Pl.okgOf K⟩ : CT)) C_Clash ["number"] gd_Clash_number := by
    have h := kb_N F_Clash_init (ps := ["self", "number"]) (0 + 1) ["number"] (fun us ds ws => us ++ ((ws.drop 0).take 1)) (fun r rz => r.append (vals_take 1 (rz.drop 0))) (fun kV doc pm an cdv ct us ws hu hw => match us, hu, ws, hw with | [_], _, [_], _ => rfl)
    exact ⟨⟨_, _, _, _, _, _, _, _, EG_Clash, ii_Clash, ti_Clash, O_Clash_init, PySem.W.mg_of X G a_Clash, h, fun B ι vs ds zs es r1 r2 => by
      have rd : RepL K B ι [] [] := .nil
      exact r1.append ((r2.drop 0).take 1)⟩, fun ds zs h1 h2 => match ds, zs, h1, h2 with | [_], [_], _, _ => rfl⟩
  have O_BadPaper_init := ok_BadPaper_init (P := l.prog) (w := w) (base := base) T  F_BadPaper_init
  have G_BadPaper_1 : LkG l.prog w K mg base "BadPaper" 1 ["self", "place"] (ff_BadPaper_init (⟨C_BadSketch, C_BadRow, C_BadOutline, C_BadBlock, C_BadField, C_BadFeature, C_BadWay, C_BadTools, C_Clash, C_BadPaper, C_OutOfPlace, C_Twice, C_NoPoint, C_TooGreat, C_NoFeature, C_NoSaying, C_Nothing, C_NoTool, C_Lifted, C_NoToolThere, C_Beyond, C_Lowered, C_TooDeep, C_Blocked, C_WorksError, C_MissError, C_FaultError, Pl.isaOf K, Pl.okfOf K, Pl.okgOf K⟩ : CT)) C_BadPaper [] := by
    obtain ⟨ds, h1, h2⟩ := F_BadPaper_init.binds1 (ps := ["self", "place"]) 2 1 (by simp) rfl (fun D kV doc pm an cdv ct us its hu hk => match us, hu, its, hk with | [_, _], _, [_], _ => ⟨_, rfl, rfl⟩)
    exact ⟨⟨_, _, [], ds, _, _, _, _, EG_BadPaper, ii_BadPaper, ti_BadPaper, O_BadPaper_init, PySem.W.mg_of X G a_BadPaper, h2, h1, fun _ _ => .nil⟩⟩
  have G_BadPaper_0 : LkG l.prog w K mg base "BadPaper" 1 ["self", "place"] (ff_BadPaper_init (⟨C_BadSketch, C_BadRow, C_BadOutline, C_BadBlock, C_BadField, C_BadFeature, C_BadWay, C_BadTools, C_Clash, C_BadPaper, C_OutOfPlace, C_Twice, C_NoPoint, C_TooGreat, C_NoFeature, C_NoSaying, C_Nothing, C_NoTool, C_Lifted, C_NoToolThere, C_Beyond, C_Lowered, C_TooDeep, C_Blocked, C_WorksError, C_MissError, C_FaultError, Pl.isaOf K, Pl.okfOf K, Pl.okgOf K⟩ : CT)) C_BadPaper [.non] := by
    obtain ⟨ds, h1, h2⟩ := F_BadPaper_init.binds1 (ps := ["self", "place"]) 1 0 (by simp) rfl (fun D kV doc pm an cdv ct us its hu hk => match us, hu, its, hk with | [_], _, [_], _ => ⟨_, rfl, rfl⟩)
    exact ⟨⟨_, _, [.non], ds, _, _, _, _, EG_BadPaper, ii_BadPaper, ti_BadPaper, O_BadPaper_init, PySem.W.mg_of X G a_BadPaper, h2, h1, fun _ _ => (.cons (.non) .nil)⟩⟩
  have GK_BadPaper_place : LkGK l.prog w K mg base "BadPaper" 1 ["self", "place"] (ff_BadPaper_init (⟨C_BadSketch, C_BadRow, C_BadOutline, C_BadBlock, C_BadField, C_BadFeature, C_BadWay, C_BadTools, C_Clash, C_BadPaper, C_OutOfPlace, C_Twice, C_NoPoint, C_TooGreat, C_NoFeature, C_NoSaying, C_Nothing, C_NoTool, C_Lifted, C_NoToolThere, C_Beyond, C_Lowered, C_TooDeep, C_Blocked, C_WorksError, C_MissError, C_FaultError, Pl.isaOf K, Pl.okfOf K, Pl.okgOf K⟩ : CT)) C_BadPaper ["place"] gd_BadPaper_place := by
    obtain ⟨its, h⟩ := F_BadPaper_init.kbindsD (ps := ["self", "place"]) (0 + 1) ["place"] (fun us ds ws => us ++ ((ws.drop 0).take 1)) (by simp) (fun r rd rz => r.append (vals_take 1 (rz.drop 0))) (fun T kV doc pm an cdv ct us its ws hu hi hw => match us, hu, its, hi, ws, hw with | [_], _, [_], _, [_], _ => ⟨_, rfl, rfl⟩)
    exact ⟨⟨_, _, _, _, _, _, _, _, EG_BadPaper, ii_BadPaper, ti_BadPaper, O_BadPaper_init, PySem.W.mg_of X G a_BadPaper, h, fun B ι vs ds zs es r1 r2 => by
      have rd : RepL K B ι [.non] [.non] := (.cons (.non) .nil)
      exact r1.append ((r2.drop 0).take 1)⟩, fun ds zs h1 h2 => match ds, zs, h1, h2 with | [_], [_], _, _ => rfl⟩
  have O_BadWay_init := ok_BadWay_init (P := l.prog) (w := w) (base := base) T  F_BadWay_init
  have G_BadWay_1 : LkG l.prog w K mg base "BadWay" 1 ["self", "number"] (ff_BadWay_init (⟨C_BadSketch, C_BadRow, C_BadOutline, C_BadBlock, C_BadField, C_BadFeature, C_BadWay, C_BadTools, C_Clash, C_BadPaper, C_OutOfPlace, C_Twice, C_NoPoint, C_TooGreat, C_NoFeature, C_NoSaying, C_Nothing, C_NoTool, C_Lifted, C_NoToolThere, C_Beyond, C_Lowered, C_TooDeep, C_Blocked, C_WorksError, C_MissError, C_FaultError, Pl.isaOf K, Pl.okfOf K, Pl.okgOf K⟩ : CT)) C_BadWay [] := by
    obtain ⟨ds, h1, h2⟩ := F_BadWay_init.binds1 (ps := ["self", "number"]) 2 1 (by simp) rfl (fun D kV doc pm an cdv ct us its hu hk => match us, hu, its, hk with | [_, _], _, [_], _ => ⟨_, rfl, rfl⟩)
    exact ⟨⟨_, _, [], ds, _, _, _, _, EG_BadWay, ii_BadWay, ti_BadWay, O_BadWay_init, PySem.W.mg_of X G a_BadWay, h2, h1, fun _ _ => .nil⟩⟩
  have G_BadWay_0 : LkG l.prog w K mg base "BadWay" 1 ["self", "number"] (ff_BadWay_init (⟨C_BadSketch, C_BadRow, C_BadOutline, C_BadBlock, C_BadField, C_BadFeature, C_BadWay, C_BadTools, C_Clash, C_BadPaper, C_OutOfPlace, C_Twice, C_NoPoint, C_TooGreat, C_NoFeature, C_NoSaying, C_Nothing, C_NoTool, C_Lifted, C_NoToolThere, C_Beyond, C_Lowered, C_TooDeep, C_Blocked, C_WorksError, C_MissError, C_FaultError, Pl.isaOf K, Pl.okfOf K, Pl.okgOf K⟩ : CT)) C_BadWay [.non] := by
    obtain ⟨ds, h1, h2⟩ := F_BadWay_init.binds1 (ps := ["self", "number"]) 1 0 (by simp) rfl (fun D kV doc pm an cdv ct us its hu hk => match us, hu, its, hk with | [_], _, [_], _ => ⟨_, rfl, rfl⟩)
    exact ⟨⟨_, _, [.non], ds, _, _, _, _, EG_BadWay, ii_BadWay, ti_BadWay, O_BadWay_init, PySem.W.mg_of X G a_BadWay, h2, h1, fun _ _ => (.cons (.non) .nil)⟩⟩
  have GK_BadWay_number : LkGK l.prog w K mg base "BadWay" 1 ["self", "number"] (ff_BadWay_init (⟨C_BadSketch, C_BadRow, C_BadOutline, C_BadBlock, C_BadField, C_BadFeature, C_BadWay, C_BadTools, C_Clash, C_BadPaper, C_OutOfPlace, C_Twice, C_NoPoint, C_TooGreat, C_NoFeature, C_NoSaying, C_Nothing, C_NoTool, C_Lifted, C_NoToolThere, C_Beyond, C_Lowered, C_TooDeep, C_Blocked, C_WorksError, C_MissError, C_FaultError, Pl.isaOf K, Pl.okfOf K, Pl.okgOf K⟩ : CT)) C_BadWay ["number"] gd_BadWay_number := by
    obtain ⟨its, h⟩ := F_BadWay_init.kbindsD (ps := ["self", "number"]) (0 + 1) ["number"] (fun us ds ws => us ++ ((ws.drop 0).take 1)) (by simp) (fun r rd rz => r.append (vals_take 1 (rz.drop 0))) (fun T kV doc pm an cdv ct us its ws hu hi hw => match us, hu, its, hi, ws, hw with | [_], _, [_], _, [_], _ => ⟨_, rfl, rfl⟩)
    exact ⟨⟨_, _, _, _, _, _, _, _, EG_BadWay, ii_BadWay, ti_BadWay, O_BadWay_init, PySem.W.mg_of X G a_BadWay, h, fun B ι vs ds zs es r1 r2 => by
      have rd : RepL K B ι [.non] [.non] := (.cons (.non) .nil)
      exact r1.append ((r2.drop 0).take 1)⟩, fun ds zs h1 h2 => match ds, zs, h1, h2 with | [_], [_], _, _ => rfl⟩
  have O_BadTools_init := ok_BadTools_init (P := l.prog) (w := w) (base := base) T  F_BadTools_init
  have G_BadTools_1 : LkG l.prog w K mg base "BadTools" 1 ["self", "number"] (ff_BadTools_init (⟨C_BadSketch, C_BadRow, C_BadOutline, C_BadBlock, C_BadField, C_BadFeature, C_BadWay, C_BadTools, C_Clash, C_BadPaper, C_OutOfPlace, C_Twice, C_NoPoint, C_TooGreat, C_NoFeature, C_NoSaying, C_Nothing, C_NoTool, C_Lifted, C_NoToolThere, C_Beyond, C_Lowered, C_TooDeep, C_Blocked, C_WorksError, C_MissError, C_FaultError, Pl.isaOf K, Pl.okfOf K, Pl.okgOf K⟩ : CT)) C_BadTools [] := by
    obtain ⟨ds, h1, h2⟩ := F_BadTools_init.binds1 (ps := ["self", "number"]) 2 1 (by simp) rfl (fun D kV doc pm an cdv ct us its hu hk => match us, hu, its, hk with | [_, _], _, [_], _ => ⟨_, rfl, rfl⟩)
    exact ⟨⟨_, _, [], ds, _, _, _, _, EG_BadTools, ii_BadTools, ti_BadTools, O_BadTools_init, PySem.W.mg_of X G a_BadTools, h2, h1, fun _ _ => .nil⟩⟩
  have G_BadTools_0 : LkG l.prog w K mg base "BadTools" 1 ["self", "number"] (ff_BadTools_init (⟨C_BadSketch, C_BadRow, C_BadOutline, C_BadBlock, C_BadField, C_BadFeature, C_BadWay, C_BadTools, C_Clash, C_BadPaper, C_OutOfPlace, C_Twice, C_NoPoint, C_TooGreat, C_NoFeature, C_NoSaying, C_Nothing, C_NoTool, C_Lifted, C_NoToolThere, C_Beyond, C_Lowered, C_TooDeep, C_Blocked, C_WorksError, C_MissError, C_FaultError, Pl.isaOf K, Pl.okfOf K, Pl.okgOf K⟩ : CT)) C_BadTools [.non] := by
    obtain ⟨ds, h1, h2⟩ := F_BadTools_init.binds1 (ps := ["self", "number"]) 1 0 (by simp) rfl (fun D kV doc pm an cdv ct us its hu hk => match us, hu, its, hk with | [_], _, [_], _ => ⟨_, rfl, rfl⟩)
    exact ⟨⟨_, _, [.non], ds, _, _, _, _, EG_BadTools, ii_BadTools, ti_BadTools, O_BadTools_init, PySem.W.mg_of X G a_BadTools, h2, h1, fun _ _ => (.cons (.non) .nil)⟩⟩
  have GK_BadTools_number : LkGK l.prog w K mg base "BadTools" 1 ["self", "number"] (ff_BadTools_init (⟨C_BadSketch, C_BadRow, C_BadOutline, C_BadBlock, C_BadField, C_BadFeature, C_BadWay, C_BadTools, C_Clash, C_BadPaper, C_OutOfPlace, C_Twice, C_NoPoint, C_TooGreat, C_NoFeature, C_NoSaying, C_Nothing, C_NoTool, C_Lifted, C_NoToolThere, C_Beyond, C_Lowered, C_TooDeep, C_Blocked, C_WorksError, C_MissError, C_FaultError, Pl.isaOf K, Pl.okfOf K, Pl.okgOf K⟩ : CT)) C_BadTools ["number"] gd_BadTools_number := by
    obtain ⟨its, h⟩ := F_BadTools_init.kbindsD (ps := ["self", "number"]) (0 + 1) ["number"] (fun us ds ws => us ++ ((ws.drop 0).take 1)) (by simp) (fun r rd rz => r.append (vals_take 1 (rz.drop 0))) (fun T kV doc pm an cdv ct us its ws hu hi hw => match us, hu, its, hi, ws, hw with | [_], _, [_], _, [_], _ => ⟨_, rfl, rfl⟩)
    exact ⟨⟨_, _, _, _, _, _, _, _, EG_BadTools, ii_BadTools, ti_BadTools, O_BadTools_init, PySem.W.mg_of X G a_BadTools, h, fun B ι vs ds zs es r1 r2 => by
      have rd : RepL K B ι [.non] [.non] := (.cons (.non) .nil)
      exact r1.append ((r2.drop 0).take 1)⟩, fun ds zs h1 h2 => match ds, zs, h1, h2 with | [_], [_], _, _ => rfl⟩
  have O_BadField_init := ok_BadField_init (P := l.prog) (w := w) (base := base) T  F_BadField_init
  have G_BadField_1 : LkG l.prog w K mg base "BadField" 1 ["self", "place"] (ff_BadField_init (⟨C_BadSketch, C_BadRow, C_BadOutline, C_BadBlock, C_BadField, C_BadFeature, C_BadWay, C_BadTools, C_Clash, C_BadPaper, C_OutOfPlace, C_Twice, C_NoPoint, C_TooGreat, C_NoFeature, C_NoSaying, C_Nothing, C_NoTool, C_Lifted, C_NoToolThere, C_Beyond, C_Lowered, C_TooDeep, C_Blocked, C_WorksError, C_MissError, C_FaultError, Pl.isaOf K, Pl.okfOf K, Pl.okgOf K⟩ : CT)) C_BadField [] := by
    obtain ⟨ds, h1, h2⟩ := F_BadField_init.binds1 (ps := ["self", "place"]) 2 1 (by simp) rfl (fun D kV doc pm an cdv ct us its hu hk => match us, hu, its, hk with | [_, _], _, [_], _ => ⟨_, rfl, rfl⟩)
    exact ⟨⟨_, _, [], ds, _, _, _, _, EG_BadField, ii_BadField, ti_BadField, O_BadField_init, PySem.W.mg_of X G a_BadField, h2, h1, fun _ _ => .nil⟩⟩
  have G_BadField_0 : LkG l.prog w K mg base "BadField" 1 ["self", "place"] (ff_BadField_init (⟨C_BadSketch, C_BadRow, C_BadOutline, C_BadBlock, C_BadField, C_BadFeature, C_BadWay, C_BadTools, C_Clash, C_BadPaper, C_OutOfPlace, C_Twice, C_NoPoint, C_TooGreat, C_NoFeature, C_NoSaying, C_Nothing, C_NoTool, C_Lifted, C_NoToolThere, C_Beyond, C_Lowered, C_TooDeep, C_Blocked, C_WorksError, C_MissError, C_FaultError, Pl.isaOf K, Pl.okfOf K, Pl.okgOf K⟩ : CT)) C_BadField [.non] := by
    obtain ⟨ds, h1, h2⟩ := F_BadField_init.binds1 (ps := ["self", "place"]) 1 0 (by simp) rfl (fun D kV doc pm an cdv ct us its hu hk => match us, hu, its, hk with | [_], _, [_], _ => ⟨_, rfl, rfl⟩)
    exact ⟨⟨_, _, [.non], ds, _, _, _, _, EG_BadField, ii_BadField, ti_BadField, O_BadField_init, PySem.W.mg_of X G a_BadField, h2, h1, fun _ _ => (.cons (.non) .nil)⟩⟩
  have GK_BadField_place : LkGK l.prog w K mg base "BadField" 1 ["self", "place"] (ff_BadField_init (⟨C_BadSketch, C_BadRow, C_BadOutline, C_BadBlock, C_BadField, C_BadFeature, C_BadWay, C_BadTools, C_Clash, C_BadPaper, C_OutOfPlace, C_Twice, C_NoPoint, C_TooGreat, C_NoFeature, C_NoSaying, C_Nothing, C_NoTool, C_Lifted, C_NoToolThere, C_Beyond, C_Lowered, C_TooDeep, C_Blocked, C_WorksError, C_MissError, C_FaultError, Pl.isaOf K, Pl.okfOf K, Pl.okgOf K⟩ : CT)) C_BadField ["place"] gd_BadField_place := by
    obtain ⟨its, h⟩ := F_BadField_init.kbindsD (ps := ["self", "place"]) (0 + 1) ["place"] (fun us ds ws => us ++ ((ws.drop 0).take 1)) (by simp) (fun r rd rz => r.append (vals_take 1 (rz.drop 0))) (fun T kV doc pm an cdv ct us its ws hu hi hw => match us, hu, its, hi, ws, hw with | [_], _, [_], _, [_], _ => ⟨_, rfl, rfl⟩)
    exact ⟨⟨_, _, _, _, _, _, _, _, EG_BadField, ii_BadField, ti_BadField, O_BadField_init, PySem.W.mg_of X G a_BadField, h, fun B ι vs ds zs es r1 r2 => by
      have rd : RepL K B ι [.non] [.non] := (.cons (.non) .nil)
      exact r1.append ((r2.drop 0).take 1)⟩, fun ds zs h1 h2 => match ds, zs, h1, h2 with | [_], [_], _, _ => rfl⟩
  have O_Beyond_init := ok_Beyond_init (P := l.prog) (w := w) (base := base) T  F_Beyond_init
  have G_Beyond_1 : LkG l.prog w K mg base "Beyond" 1 ["self", "place"] (ff_Beyond_init (⟨C_BadSketch, C_BadRow, C_BadOutline, C_BadBlock, C_BadField, C_BadFeature, C_BadWay, C_BadTools, C_Clash, C_BadPaper, C_OutOfPlace, C_Twice, C_NoPoint, C_TooGreat, C_NoFeature, C_NoSaying, C_Nothing, C_NoTool, C_Lifted, C_NoToolThere, C_Beyond, C_Lowered, C_TooDeep, C_Blocked, C_WorksError, C_MissError, C_FaultError, Pl.isaOf K, Pl.okfOf K, Pl.okgOf K⟩ : CT)) C_Beyond [] := ⟨⟨_, _, [], [], _, _, _, _, EG_Beyond, ii_Beyond, ti_Beyond, O_Beyond_init, PySem.W.mg_of X G a_Beyond, F_Beyond_init.bindsN (ps := ["self", "place"]) (fun _ _ _ _ _ _ us hl => match us, hl with | [_, _], _ => rfl), .nil, fun _ _ => .nil⟩⟩
  have GK_Beyond_place : LkGK l.prog w K mg base "Beyond" 1 ["self", "place"] (ff_Beyond_init (⟨C_BadSketch, C_BadRow, C_BadOutline, C_BadBlock, C_BadField, C_BadFeature, C_BadWay, C_BadTools, C_Clash, C_BadPaper, C_OutOfPlace, C_Twice, C_NoPoint, C_TooGreat, C_NoFeature, C_NoSaying, C_Nothing, C_NoTool, C_Lifted, C_NoToolThere, C_Beyond, C_Lowered, C_TooDeep, C_Blocked, C_WorksError, C_MissError, C_FaultError, Pl.isaOf K, Pl.okfOf K, Pl.okgOf K⟩ : CT)) C_Beyond ["place"] gd_Beyond_place := by
    have h := kb_N F_Beyond_init (ps := ["self", "place"]) (0 + 1) ["place"] (fun us ds ws => us ++ ((ws.drop 0).take 1)) (fun r rz => r.append (vals_take 1 (rz.drop 0))) (fun kV doc pm an cdv ct us ws hu hw => match us, hu, ws, hw with | [_], _, [_], _ => rfl)
    exact ⟨⟨_, _, _, _, _, _, _, _, EG_Beyond, ii_Beyond, ti_Beyond, O_Beyond_init, PySem.W.mg_of X G a_Beyond, h, fun B ι vs ds zs es r1 r2 => by
      have rd : RepL K B ι [] [] := .nil
      exact r1.append ((r2.drop 0).take 1)⟩, fun ds zs h1 h2 => match ds, zs, h1, h2 with | [_], [_], _, _ => rfl⟩
  have O_NoTool_init := ok_NoTool_init (P := l.prog) (w := w) (base := base) T  F_NoTool_init
  have G_NoTool_1 : LkG l.prog w K mg base "NoTool" 1 ["self", "tool"] (ff_NoTool_init (⟨C_BadSketch, C_BadRow, C_BadOutline, C_BadBlock, C_BadField, C_BadFeature, C_BadWay, C_BadTools, C_Clash, C_BadPaper, C_OutOfPlace, C_Twice, C_NoPoint, C_TooGreat, C_NoFeature, C_NoSaying, C_Nothing, C_NoTool, C_Lifted, C_NoToolThere, C_Beyond, C_Lowered, C_TooDeep, C_Blocked, C_WorksError, C_MissError, C_FaultError, Pl.isaOf K, Pl.okfOf K, Pl.okgOf K⟩ : CT)) C_NoTool [] := ⟨⟨_, _, [], [], _, _, _, _, EG_NoTool, ii_NoTool, ti_NoTool, O_NoTool_init, PySem.W.mg_of X G a_NoTool, F_NoTool_init.bindsN (ps := ["self", "tool"]) (fun _ _ _ _ _ _ us hl => match us, hl with | [_, _], _ => rfl), .nil, fun _ _ => .nil⟩⟩
  have GK_NoTool_tool : LkGK l.prog w K mg base "NoTool" 1 ["self", "tool"] (ff_NoTool_init (⟨C_BadSketch, C_BadRow, C_BadOutline, C_BadBlock, C_BadField, C_BadFeature, C_BadWay, C_BadTools, C_Clash, C_BadPaper, C_OutOfPlace, C_Twice, C_NoPoint, C_TooGreat, C_NoFeature, C_NoSaying, C_Nothing, C_NoTool, C_Lifted, C_NoToolThere, C_Beyond, C_Lowered, C_TooDeep, C_Blocked, C_WorksError, C_MissError, C_FaultError, Pl.isaOf K, Pl.okfOf K, Pl.okgOf K⟩ : CT)) C_NoTool ["tool"] gd_NoTool_tool := by
    have h := kb_N F_NoTool_init (ps := ["self", "tool"]) (0 + 1) ["tool"] (fun us ds ws => us ++ ((ws.drop 0).take 1)) (fun r rz => r.append (vals_take 1 (rz.drop 0))) (fun kV doc pm an cdv ct us ws hu hw => match us, hu, ws, hw with | [_], _, [_], _ => rfl)
    exact ⟨⟨_, _, _, _, _, _, _, _, EG_NoTool, ii_NoTool, ti_NoTool, O_NoTool_init, PySem.W.mg_of X G a_NoTool, h, fun B ι vs ds zs es r1 r2 => by
      have rd : RepL K B ι [] [] := .nil
      exact r1.append ((r2.drop 0).take 1)⟩, fun ds zs h1 h2 => match ds, zs, h1, h2 with | [_], [_], _, _ => rfl⟩
  have O_NoFeature_init := ok_NoFeature_init (P := l.prog) (w := w) (base := base) T  F_NoFeature_init
  have G_NoFeature_1 : LkG l.prog w K mg base "NoFeature" 1 ["self", "number"] (ff_NoFeature_init (⟨C_BadSketch, C_BadRow, C_BadOutline, C_BadBlock, C_BadField, C_BadFeature, C_BadWay, C_BadTools, C_Clash, C_BadPaper, C_OutOfPlace, C_Twice, C_NoPoint, C_TooGreat, C_NoFeature, C_NoSaying, C_Nothing, C_NoTool, C_Lifted, C_NoToolThere, C_Beyond, C_Lowered, C_TooDeep, C_Blocked, C_WorksError, C_MissError, C_FaultError, Pl.isaOf K, Pl.okfOf K, Pl.okgOf K⟩ : CT)) C_NoFeature [] := ⟨⟨_, _, [], [], _, _, _, _, EG_NoFeature, ii_NoFeature, ti_NoFeature, O_NoFeature_init, PySem.W.mg_of X G a_NoFeature, F_NoFeature_init.bindsN (ps := ["self", "number"]) (fun _ _ _ _ _ _ us hl => match us, hl with | [_, _], _ => rfl), .nil, fun _ _ => .nil⟩⟩
  have GK_NoFeature_number : LkGK l.prog w K mg base "NoFeature" 1 ["self", "number"] (ff_NoFeature_init (⟨C_BadSketch, C_BadRow, C_BadOutline, C_BadBlock, C_BadField, C_BadFeature, C_BadWay, C_BadTools, C_Clash, C_BadPaper, C_OutOfPlace, C_Twice, C_NoPoint, C_TooGreat, C_NoFeature, C_NoSaying, C_Nothing, C_NoTool, C_Lifted, C_NoToolThere, C_Beyond, C_Lowered, C_TooDeep, C_Blocked, C_WorksError, C_MissError, C_FaultError, Pl.isaOf K, Pl.okfOf K, Pl.okgOf K⟩ : CT)) C_NoFeature ["number"] gd_NoFeature_number := by
    have h := kb_N F_NoFeature_init (ps := ["self", "number"]) (0 + 1) ["number"] (fun us ds ws => us ++ ((ws.drop 0).take 1)) (fun r rz => r.append (vals_take 1 (rz.drop 0))) (fun kV doc pm an cdv ct us ws hu hw => match us, hu, ws, hw with | [_], _, [_], _ => rfl)
    exact ⟨⟨_, _, _, _, _, _, _, _, EG_NoFeature, ii_NoFeature, ti_NoFeature, O_NoFeature_init, PySem.W.mg_of X G a_NoFeature, h, fun B ι vs ds zs es r1 r2 => by
      have rd : RepL K B ι [] [] := .nil
      exact r1.append ((r2.drop 0).take 1)⟩, fun ds zs h1 h2 => match ds, zs, h1, h2 with | [_], [_], _, _ => rfl⟩
  have O_NoSaying_init := ok_NoSaying_init (P := l.prog) (w := w) (base := base) T  F_NoSaying_init
  have G_NoSaying_1 : LkG l.prog w K mg base "NoSaying" 1 ["self", "number"] (ff_NoSaying_init (⟨C_BadSketch, C_BadRow, C_BadOutline, C_BadBlock, C_BadField, C_BadFeature, C_BadWay, C_BadTools, C_Clash, C_BadPaper, C_OutOfPlace, C_Twice, C_NoPoint, C_TooGreat, C_NoFeature, C_NoSaying, C_Nothing, C_NoTool, C_Lifted, C_NoToolThere, C_Beyond, C_Lowered, C_TooDeep, C_Blocked, C_WorksError, C_MissError, C_FaultError, Pl.isaOf K, Pl.okfOf K, Pl.okgOf K⟩ : CT)) C_NoSaying [] := ⟨⟨_, _, [], [], _, _, _, _, EG_NoSaying, ii_NoSaying, ti_NoSaying, O_NoSaying_init, PySem.W.mg_of X G a_NoSaying, F_NoSaying_init.bindsN (ps := ["self", "number"]) (fun _ _ _ _ _ _ us hl => match us, hl with | [_, _], _ => rfl), .nil, fun _ _ => .nil⟩⟩
  have GK_NoSaying_number : LkGK l.prog w K mg base "NoSaying" 1 ["self", "number"] (ff_NoSaying_init (⟨C_BadSketch, C_BadRow, C_BadOutline, C_BadBlock, C_BadField, C_BadFeature, C_BadWay, C_BadTools, C_Clash, C_BadPaper, C_OutOfPlace, C_Twice, C_NoPoint, C_TooGreat, C_NoFeature, C_NoSaying, C_Nothing, C_NoTool, C_Lifted, C_NoToolThere, C_Beyond, C_Lowered, C_TooDeep, C_Blocked, C_WorksError, C_MissError, C_FaultError, Pl.isaOf K, Pl.okfOf K, Pl.okgOf K⟩ : CT)) C_NoSaying ["number"] gd_NoSaying_number := by
    have h := kb_N F_NoSaying_init (ps := ["self", "number"]) (0 + 1) ["number"] (fun us ds ws => us ++ ((ws.drop 0).take 1)) (fun r rz => r.append (vals_take 1 (rz.drop 0))) (fun kV doc pm an cdv ct us ws hu hw => match us, hu, ws, hw with | [_], _, [_], _ => rfl)
    exact ⟨⟨_, _, _, _, _, _, _, _, EG_NoSaying, ii_NoSaying, ti_NoSaying, O_NoSaying_init, PySem.W.mg_of X G a_NoSaying, h, fun B ι vs ds zs es r1 r2 => by
      have rd : RepL K B ι [] [] := .nil
      exact r1.append ((r2.drop 0).take 1)⟩, fun ds zs h1 h2 => match ds, zs, h1, h2 with | [_], [_], _, _ => rfl⟩
  have O_NoPoint_init := ok_NoPoint_init (P := l.prog) (w := w) (base := base) T  F_NoPoint_init
  have G_NoPoint_1 : LkG l.prog w K mg base "NoPoint" 1 ["self", "name"] (ff_NoPoint_init (⟨C_BadSketch, C_BadRow, C_BadOutline, C_BadBlock, C_BadField, C_BadFeature, C_BadWay, C_BadTools, C_Clash, C_BadPaper, C_OutOfPlace, C_Twice, C_NoPoint, C_TooGreat, C_NoFeature, C_NoSaying, C_Nothing, C_NoTool, C_Lifted, C_NoToolThere, C_Beyond, C_Lowered, C_TooDeep, C_Blocked, C_WorksError, C_MissError, C_FaultError, Pl.isaOf K, Pl.okfOf K, Pl.okgOf K⟩ : CT)) C_NoPoint [] := ⟨⟨_, _, [], [], _, _, _, _, EG_NoPoint, ii_NoPoint, ti_NoPoint, O_NoPoint_init, PySem.W.mg_of X G a_NoPoint, F_NoPoint_init.bindsN (ps := ["self", "name"]) (fun _ _ _ _ _ _ us hl => match us, hl with | [_, _], _ => rfl), .nil, fun _ _ => .nil⟩⟩
  have GK_NoPoint_name : LkGK l.prog w K mg base "NoPoint" 1 ["self", "name"] (ff_NoPoint_init (⟨C_BadSketch, C_BadRow, C_BadOutline, C_BadBlock, C_BadField, C_BadFeature, C_BadWay, C_BadTools, C_Clash, C_BadPaper, C_OutOfPlace, C_Twice, C_NoPoint, C_TooGreat, C_NoFeature, C_NoSaying, C_Nothing, C_NoTool, C_Lifted, C_NoToolThere, C_Beyond, C_Lowered, C_TooDeep, C_Blocked, C_WorksError, C_MissError, C_FaultError, Pl.isaOf K, Pl.okfOf K, Pl.okgOf K⟩ : CT)) C_NoPoint ["name"] gd_NoPoint_name := by
    have h := kb_N F_NoPoint_init (ps := ["self", "name"]) (0 + 1) ["name"] (fun us ds ws => us ++ ((ws.drop 0).take 1)) (fun r rz => r.append (vals_take 1 (rz.drop 0))) (fun kV doc pm an cdv ct us ws hu hw => match us, hu, ws, hw with | [_], _, [_], _ => rfl)
    exact ⟨⟨_, _, _, _, _, _, _, _, EG_NoPoint, ii_NoPoint, ti_NoPoint, O_NoPoint_init, PySem.W.mg_of X G a_NoPoint, h, fun B ι vs ds zs es r1 r2 => by
      have rd : RepL K B ι [] [] := .nil
      exact r1.append ((r2.drop 0).take 1)⟩, fun ds zs h1 h2 => match ds, zs, h1, h2 with | [_], [_], _, _ => rfl⟩
  have O_TooDeep_init := ok_TooDeep_init (P := l.prog) (w := w) (base := base) T  F_TooDeep_init
  have G_TooDeep_1 : LkG l.prog w K mg base "TooDeep" 1 ["self", "place"] (ff_TooDeep_init (⟨C_BadSketch, C_BadRow, C_BadOutline, C_BadBlock, C_BadField, C_BadFeature, C_BadWay, C_BadTools, C_Clash, C_BadPaper, C_OutOfPlace, C_Twice, C_NoPoint, C_TooGreat, C_NoFeature, C_NoSaying, C_Nothing, C_NoTool, C_Lifted, C_NoToolThere, C_Beyond, C_Lowered, C_TooDeep, C_Blocked, C_WorksError, C_MissError, C_FaultError, Pl.isaOf K, Pl.okfOf K, Pl.okgOf K⟩ : CT)) C_TooDeep [] := ⟨⟨_, _, [], [], _, _, _, _, EG_TooDeep, ii_TooDeep, ti_TooDeep, O_TooDeep_init, PySem.W.mg_of X G a_TooDeep, F_TooDeep_init.bindsN (ps := ["self", "place"]) (fun _ _ _ _ _ _ us hl => match us, hl with | [_, _], _ => rfl), .nil, fun _ _ => .nil⟩⟩
  have GK_TooDeep_place : LkGK l.prog w K mg base "TooDeep" 1 ["self", "place"] (ff_TooDeep_init (⟨C_BadSketch, C_BadRow, C_BadOutline, C_BadBlock, C_BadField, C_BadFeature, C_BadWay, C_BadTools, C_Clash, C_BadPaper, C_OutOfPlace, C_Twice, C_NoPoint, C_TooGreat, C_NoFeature, C_NoSaying, C_Nothing, C_NoTool, C_Lifted, C_NoToolThere, C_Beyond, C_Lowered, C_TooDeep, C_Blocked, C_WorksError, C_MissError, C_FaultError, Pl.isaOf K, Pl.okfOf K, Pl.okgOf K⟩ : CT)) C_TooDeep ["place"] gd_TooDeep_place := by
    have h := kb_N F_TooDeep_init (ps := ["self", "place"]) (0 + 1) ["place"] (fun us ds ws => us ++ ((ws.drop 0).take 1)) (fun r rz => r.append (vals_take 1 (rz.drop 0))) (fun kV doc pm an cdv ct us ws hu hw => match us, hu, ws, hw with | [_], _, [_], _ => rfl)
    exact ⟨⟨_, _, _, _, _, _, _, _, EG_TooDeep, ii_TooDeep, ti_TooDeep, O_TooDeep_init, PySem.W.mg_of X G a_TooDeep, h, fun B ι vs ds zs es r1 r2 => by
      have rd : RepL K B ι [] [] := .nil
      exact r1.append ((r2.drop 0).take 1)⟩, fun ds zs h1 h2 => match ds, zs, h1, h2 with | [_], [_], _, _ => rfl⟩
  have O_Blocked_init := ok_Blocked_init (P := l.prog) (w := w) (base := base) T  F_Blocked_init
  have G_Blocked_1 : LkG l.prog w K mg base "Blocked" 1 ["self", "place"] (ff_Blocked_init (⟨C_BadSketch, C_BadRow, C_BadOutline, C_BadBlock, C_BadField, C_BadFeature, C_BadWay, C_BadTools, C_Clash, C_BadPaper, C_OutOfPlace, C_Twice, C_NoPoint, C_TooGreat, C_NoFeature, C_NoSaying, C_Nothing, C_NoTool, C_Lifted, C_NoToolThere, C_Beyond, C_Lowered, C_TooDeep, C_Blocked, C_WorksError, C_MissError, C_FaultError, Pl.isaOf K, Pl.okfOf K, Pl.okgOf K⟩ : CT)) C_Blocked [] := ⟨⟨_, _, [], [], _, _, _, _, EG_Blocked, ii_Blocked, ti_Blocked, O_Blocked_init, PySem.W.mg_of X G a_Blocked, F_Blocked_init.bindsN (ps := ["self", "place"]) (fun _ _ _ _ _ _ us hl => match us, hl with | [_, _], _ => rfl), .nil, fun _ _ => .nil⟩⟩
  have GK_Blocked_place : LkGK l.prog w K mg base "Blocked" 1 ["self", "place"] (ff_Blocked_init (⟨C_BadSketch, C_BadRow, C_BadOutline, C_BadBlock, C_BadField, C_BadFeature, C_BadWay, C_BadTools, C_Clash, C_BadPaper, C_OutOfPlace, C_Twice, C_NoPoint, C_TooGreat, C_NoFeature, C_NoSaying, C_Nothing, C_NoTool, C_Lifted, C_NoToolThere, C_Beyond, C_Lowered, C_TooDeep, C_Blocked, C_WorksError, C_MissError, C_FaultError, Pl.isaOf K, Pl.okfOf K, Pl.okgOf K⟩ : CT)) C_Blocked ["place"] gd_Blocked_place := by
    have h := kb_N F_Blocked_init (ps := ["self", "place"]) (0 + 1) ["place"] (fun us ds ws => us ++ ((ws.drop 0).take 1)) (fun r rz => r.append (vals_take 1 (rz.drop 0))) (fun kV doc pm an cdv ct us ws hu hw => match us, hu, ws, hw with | [_], _, [_], _ => rfl)
    exact ⟨⟨_, _, _, _, _, _, _, _, EG_Blocked, ii_Blocked, ti_Blocked, O_Blocked_init, PySem.W.mg_of X G a_Blocked, h, fun B ι vs ds zs es r1 r2 => by
      have rd : RepL K B ι [] [] := .nil
      exact r1.append ((r2.drop 0).take 1)⟩, fun ds zs h1 h2 => match ds, zs, h1, h2 with | [_], [_], _, _ => rfl⟩
  have O_law_by_hand := ok_law_by_hand (P := l.prog) (w := w) (base := base) T L_law_kinds G_BadFeature_1 G_BadOutline_1 G_BadBlock_1 G_BadSketch_2 G_BadRow_2 G_Clash_1 G_BadPaper_1 G_BadWay_1 G_BadTools_1 G_BadField_1 G_Beyond_1 G_NoTool_1 G_NoFeature_1 G_NoSaying_1 G_NoPoint_1 G_TooDeep_1 G_Blocked_1 F_law_by_hand
  have L_law_by_hand : Lk l.prog w K mg base "_law_by_hand" 3 ["figure", "sign"] (ff_law_by_hand _) := ⟨_, _, O_law_by_hand, PySem.W.mg_of X G a_law_by_hand, k_law_by_hand, b_law_by_hand⟩
  have O_law_left_out := ok_law_left_out (P := l.prog) (w := w) (base := base) T G_BadWay_0 G_BadTools_0 G_BadFeature_0 G_BadOutline_0 G_BadSketch_1 G_BadSketch_0 G_BadPaper_0 G_BadField_0 G_BadBlock_0 GK_BadSketch_part GK_BadSketch_number_part GK_BadRow_word_row GK_BadFeature_number GK_BadOutline_number GK_BadBlock_place GK_BadWay_number GK_BadTools_number GK_BadField_place GK_NoSaying_number GK_Clash_number GK_BadPaper_place GK_Beyond_place GK_NoTool_tool GK_NoFeature_number GK_TooDeep_place GK_Blocked_place GK_NoPoint_name F_law_left_out
  have L_law_left_out : Lk l.prog w K mg base "_law_left_out" 3 ["figure", "sign"] (ff_law_left_out _) := ⟨_, _, O_law_left_out, PySem.W.mg_of X G a_law_left_out, k_law_left_out, b_law_left_out⟩
  have O_law := ok_law (P := l.prog) (w := w) (base := base) T L_law_draw L_law_digit L_law_word L_law_by_hand L_law_left_out F_law
  exact O_law
end Law
open PySem PySem.W PyProof.Rows
set_option maxRecDepth 100000 in
set_option maxHeartbeats 0 in
theorem PySem.Challenge.cw_panelworks_k05_refusals_by_hand_holds : PySem.Challenge.rw_panelworks_k05_refusals_by_hand.Holds := by
  w_on; o_law; k_head; (case hw => w_witness2)
  k_fill
  refine Pl.walk_ofX (l := PySem.Challenge.rw_panelworks_k05_refusals_by_hand) (n := 63) (k := 4) (x := "script") rfl (by decide) rfl ⟨rfl, by decide, by decide⟩ (fun w h Y => PySem.W.kIn_of Y) ?F
  case F =>
    intro w mg fa h KX G hmg
    refine' Law.all_mk KX G hmg ?q_z_range ?q_z_isinstance ?q_z_ValueError ?q_z_LookupError ?q_z_RuntimeError ?q_z_enumerate ?q_z_sum ?q_a_BadSketch ?q_a_BadRow ?q_a_BadOutline ?q_a_BadBlock ?q_a_BadField ?q_a_BadFeature ?q_a_BadWay ?q_a_BadTools ?q_a_Clash ?q_a_BadPaper ?q_a_OutOfPlace ?q_a_Twice ?q_a_NoPoint ?q_a_TooGreat ?q_a_NoFeature ?q_a_NoSaying ?q_a_Nothing ?q_a_NoTool ?q_a_Lifted ?q_a_NoToolThere ?q_a_Beyond ?q_a_Lowered ?q_a_TooDeep ?q_a_Blocked ?q_a_WorksError ?q_a_MissError ?q_a_FaultError ?q_e1_BadFeature ?q_e2_BadFeature ?q_sa_BadFeature ?q_ii_BadFeature ?q_ti_BadFeature ?q_tk_BadFeature_number ?q_fn_BadFeature_number ?q_e1_BadOutline ?q_e2_BadOutline ?q_sa_BadOutline ?q_ii_BadOutline ?q_ti_BadOutline ?q_tk_BadOutline_number ?q_fn_BadOutline_number ?q_e1_BadBlock ?q_e2_BadBlock ?q_sa_BadBlock ?q_ii_BadBlock ?q_ti_BadBlock ?q_tk_BadBlock_place ?q_fn_BadBlock_place ?q_e1_BadSketch ?q_e2_BadSketch ?q_sa_BadSketch ?q_ii_BadSketch ?q_ti_BadSketch ?q_tk_BadSketch_part ?q_fn_BadSketch_part ?q_tk_BadSketch_number ?q_fn_BadSketch_number ?q_e1_BadRow ?q_e2_BadRow ?q_sa_BadRow ?q_ii_BadRow ?q_ti_BadRow ?q_tk_BadRow_row ?q_fn_BadRow_row ?q_tk_BadRow_word ?q_fn_BadRow_word ?q_e1_Clash ?q_e2_Clash ?q_sa_Clash ?q_ii_Clash ?q_ti_Clash ?q_tk_Clash_number ?q_fn_Clash_number ?q_e1_BadPaper ?q_e2_BadPaper ?q_sa_BadPaper ?q_ii_BadPaper ?q_ti_BadPaper ?q_tk_BadPaper_place ?q_fn_BadPaper_place ?q_e1_BadWay ?q_e2_BadWay ?q_sa_BadWay ?q_ii_BadWay ?q_ti_BadWay ?q_tk_BadWay_number ?q_fn_BadWay_number ?q_e1_BadTools ?q_e2_BadTools ?q_sa_BadTools ?q_ii_BadTools ?q_ti_BadTools ?q_tk_BadTools_number ?q_fn_BadTools_number ?q_e1_BadField ?q_e2_BadField ?q_sa_BadField ?q_ii_BadField ?q_ti_BadField ?q_tk_BadField_place ?q_fn_BadField_place ?q_e1_Beyond ?q_e2_Beyond ?q_sa_Beyond ?q_ii_Beyond ?q_ti_Beyond ?q_tk_Beyond_place ?q_fn_Beyond_place ?q_e1_NoTool ?q_e2_NoTool ?q_sa_NoTool ?q_ii_NoTool ?q_ti_NoTool ?q_tk_NoTool_tool ?q_fn_NoTool_tool ?q_e1_NoFeature ?q_e2_NoFeature ?q_sa_NoFeature ?q_ii_NoFeature ?q_ti_NoFeature ?q_tk_NoFeature_number ?q_fn_NoFeature_number ?q_e1_NoSaying ?q_e2_NoSaying ?q_sa_NoSaying ?q_ii_NoSaying ?q_ti_NoSaying ?q_tk_NoSaying_number ?q_fn_NoSaying_number ?q_e1_NoPoint ?q_e2_NoPoint ?q_sa_NoPoint ?q_ii_NoPoint ?q_ti_NoPoint ?q_tk_NoPoint_name ?q_fn_NoPoint_name ?q_e1_TooDeep ?q_e2_TooDeep ?q_sa_TooDeep ?q_ii_TooDeep ?q_ti_TooDeep ?q_tk_TooDeep_place ?q_fn_TooDeep_place ?q_e1_Blocked ?q_e2_Blocked ?q_sa_Blocked ?q_ii_Blocked ?q_ti_Blocked ?q_tk_Blocked_place ?q_fn_Blocked_place ?q_xe_NoToolThere ?q_xe_Nothing ?q_xe_TooGreat ?q_xe_OutOfPlace ?q_xe_Twice ?q_xe_Lowered ?q_xe_Lifted ?q_ke_BadFeature ?q_be_BadFeature ?q_q1_BadFeature ?q_q2_BadFeature ?q_q3_BadFeature ?q_q4_BadFeature ?q_q7_BadFeature ?q_il_BadFeature ?q_ke_BadOutline ?q_be_BadOutline ?q_q1_BadOutline ?q_q2_BadOutline ?q_q3_BadOutline ?q_q4_BadOutline ?q_q7_BadOutline ?q_il_BadOutline ?q_ke_BadBlock ?q_be_BadBlock ?q_q1_BadBlock ?q_q2_BadBlock ?q_q3_BadBlock ?q_q4_BadBlock ?q_q7_BadBlock ?q_il_BadBlock ?q_ke_BadSketch ?q_be_BadSketch ?q_q1_BadSketch ?q_q2_BadSketch ?q_q3_BadSketch ?q_q4_BadSketch ?q_q7_BadSketch ?q_il_BadSketch ?q_ke_BadRow ?q_be_BadRow ?q_q1_BadRow ?q_q2_BadRow ?q_q3_BadRow ?q_q4_BadRow ?q_q7_BadRow ?q_il_BadRow ?q_ke_Clash ?q_be_Clash ?q_q1_Clash ?q_q2_Clash ?q_q3_Clash ?q_q4_Clash ?q_q7_Clash ?q_il_Clash ?q_ke_BadPaper ?q_be_BadPaper ?q_q1_BadPaper ?q_q2_BadPaper ?q_q3_BadPaper ?q_q4_BadPaper ?q_q7_BadPaper ?q_il_BadPaper ?q_ke_BadWay ?q_be_BadWay ?q_q1_BadWay ?q_q2_BadWay ?q_q3_BadWay ?q_q4_BadWay ?q_q7_BadWay ?q_il_BadWay ?q_ke_BadTools ?q_be_BadTools ?q_q1_BadTools ?q_q2_BadTools ?q_q3_BadTools ?q_q4_BadTools ?q_q7_BadTools ?q_il_BadTools ?q_ke_BadField ?q_be_BadField ?q_q1_BadField ?q_q2_BadField ?q_q3_BadField ?q_q4_BadField ?q_q7_BadField ?q_il_BadField ?q_ke_Beyond ?q_be_Beyond ?q_q1_Beyond ?q_q2_Beyond ?q_q3_Beyond ?q_q4_Beyond ?q_q7_Beyond ?q_il_Beyond ?q_ke_NoTool ?q_be_NoTool ?q_q1_NoTool ?q_q2_NoTool ?q_q3_NoTool ?q_q4_NoTool ?q_q7_NoTool ?q_il_NoTool ?q_ke_NoFeature ?q_be_NoFeature ?q_q1_NoFeature ?q_q2_NoFeature ?q_q3_NoFeature ?q_q4_NoFeature ?q_q7_NoFeature ?q_il_NoFeature ?q_ke_NoSaying ?q_be_NoSaying ?q_q1_NoSaying ?q_q2_NoSaying ?q_q3_NoSaying ?q_q4_NoSaying ?q_q7_NoSaying ?q_il_NoSaying ?q_ke_NoPoint ?q_be_NoPoint ?q_q1_NoPoint ?q_q2_NoPoint ?q_q3_NoPoint ?q_q4_NoPoint ?q_q7_NoPoint ?q_il_NoPoint ?q_ke_TooDeep ?q_be_TooDeep ?q_q1_TooDeep ?q_q2_TooDeep ?q_q3_TooDeep ?q_q4_TooDeep ?q_q7_TooDeep ?q_il_TooDeep ?q_ke_Blocked ?q_be_Blocked ?q_q1_Blocked ?q_q2_Blocked ?q_q3_Blocked ?q_q4_Blocked ?q_q7_Blocked ?q_il_Blocked ?q_ke_NoToolThere ?q_be_NoToolThere ?q_q1_NoToolThere ?q_q2_NoToolThere ?q_q3_NoToolThere ?q_q4_NoToolThere ?q_q7_NoToolThere ?q_il_NoToolThere ?q_ke_Nothing ?q_be_Nothing ?q_q1_Nothing ?q_q2_Nothing ?q_q3_Nothing ?q_q4_Nothing ?q_q7_Nothing ?q_il_Nothing ?q_ke_TooGreat ?q_be_TooGreat ?q_q1_TooGreat ?q_q2_TooGreat ?q_q3_TooGreat ?q_q4_TooGreat ?q_q7_TooGreat ?q_il_TooGreat ?q_ke_OutOfPlace ?q_be_OutOfPlace ?q_q1_OutOfPlace ?q_q2_OutOfPlace ?q_q3_OutOfPlace ?q_q4_OutOfPlace ?q_q7_OutOfPlace ?q_il_OutOfPlace ?q_ke_Twice ?q_be_Twice ?q_q1_Twice ?q_q2_Twice ?q_q3_Twice ?q_q4_Twice ?q_q7_Twice ?q_il_Twice ?q_ke_Lowered ?q_be_Lowered ?q_q1_Lowered ?q_q2_Lowered ?q_q3_Lowered ?q_q4_Lowered ?q_q7_Lowered ?q_il_Lowered ?q_ke_Lifted ?q_be_Lifted ?q_q1_Lifted ?q_q2_Lifted ?q_q3_Lifted ?q_q4_Lifted ?q_q7_Lifted ?q_il_Lifted ?q_q5_ ?q_q6_ ?q_a_law_mixed ?q_l_law_mixed ?q_c_law_mixed ?q_k_law_mixed ?q_a_law_draw ?q_l_law_draw ?q_c_law_draw ?q_k_law_draw ?q_a_law_digit ?q_l_law_digit ?q_c_law_digit ?q_k_law_digit ?q_a_law_word ?q_l_law_word ?q_c_law_word ?q_k_law_word ?q_a_law_kinds ?q_l_law_kinds ?q_c_law_kinds ?q_k_law_kinds ?q_l_BadFeature_init ?q_c_BadFeature_init ?q_k_BadFeature_init ?q_dl_BadFeature_init ?q_dd_BadFeature_init ?q_dv_BadFeature_init ?q_l_BadOutline_init ?q_c_BadOutline_init ?q_k_BadOutline_init ?q_dl_BadOutline_init ?q_dd_BadOutline_init ?q_dv_BadOutline_init ?q_l_BadBlock_init ?q_c_BadBlock_init ?q_k_BadBlock_init ?q_dl_BadBlock_init ?q_dd_BadBlock_init ?q_dv_BadBlock_init ?q_l_BadSketch_init ?q_c_BadSketch_init ?q_k_BadSketch_init ?q_dl_BadSketch_init ?q_dd_BadSketch_init ?q_dv_BadSketch_init ?q_l_BadRow_init ?q_c_BadRow_init ?q_k_BadRow_init ?q_l_Clash_init ?q_c_Clash_init ?q_k_Clash_init ?q_l_BadPaper_init ?q_c_BadPaper_init ?q_k_BadPaper_init ?q_dl_BadPaper_init ?q_dd_BadPaper_init ?q_dv_BadPaper_init ?q_l_BadWay_init ?q_c_BadWay_init ?q_k_BadWay_init ?q_dl_BadWay_init ?q_dd_BadWay_init ?q_dv_BadWay_init ?q_l_BadTools_init ?q_c_BadTools_init ?q_k_BadTools_init ?q_dl_BadTools_init ?q_dd_BadTools_init ?q_dv_BadTools_init ?q_l_BadField_init ?q_c_BadField_init ?q_k_BadField_init ?q_dl_BadField_init ?q_dd_BadField_init ?q_dv_BadField_init ?q_l_Beyond_init ?q_c_Beyond_init ?q_k_Beyond_init ?q_l_NoTool_init ?q_c_NoTool_init ?q_k_NoTool_init ?q_l_NoFeature_init ?q_c_NoFeature_init ?q_k_NoFeature_init ?q_l_NoSaying_init ?q_c_NoSaying_init ?q_k_NoSaying_init ?q_l_NoPoint_init ?q_c_NoPoint_init ?q_k_NoPoint_init ?q_l_TooDeep_init ?q_c_TooDeep_init ?q_k_TooDeep_init ?q_l_Blocked_init ?q_c_Blocked_init ?q_k_Blocked_init ?q_a_law_by_hand ?q_l_law_by_hand ?q_c_law_by_hand ?q_k_law_by_hand ?q_a_law_left_out ?q_l_law_left_out ?q_c_law_left_out ?q_k_law_left_out ?q_a_law ?q_l_law ?q_c_law ?q_k_law
    (case q_z_range => k_is)
    (case q_z_isinstance => k_is)
    (case q_z_ValueError => k_is)
    (case q_z_LookupError => k_is)
    (case q_z_RuntimeError => k_is)
    (case q_z_enumerate => k_is)
    (case q_z_sum => k_is)
    (case q_a_BadSketch => k_is)
    (case q_a_BadRow => k_is)
    (case q_a_BadOutline => k_is)
    (case q_a_BadBlock => k_is)
    (case q_a_BadField => k_is)
    (case q_a_BadFeature => k_is)
    (case q_a_BadWay => k_is)
    (case q_a_BadTools => k_is)
    (case q_a_Clash => k_is)
    (case q_a_BadPaper => k_is)
    (case q_a_OutOfPlace => k_is)
    (case q_a_Twice => k_is)
    (case q_a_NoPoint => k_is)
    (case q_a_TooGreat => k_is)
    (case q_a_NoFeature => k_is)
    (case q_a_NoSaying => k_is)
    (case q_a_Nothing => k_is)
    (case q_a_NoTool => k_is)
    (case q_a_Lifted => k_is)
    (case q_a_NoToolThere => k_is)
    (case q_a_Beyond => k_is)
    (case q_a_Lowered => k_is)
    (case q_a_TooDeep => k_is)
    (case q_a_Blocked => k_is)
    (case q_a_WorksError => k_is)
    (case q_a_MissError => k_is)
    (case q_a_FaultError => k_is)
    (case q_e1_BadFeature => kernel_rfl)
    (case q_e2_BadFeature => kernel_rfl)
    (case q_sa_BadFeature => k_is)
    (case q_ii_BadFeature => k_is)
    (case q_ti_BadFeature => k_is)
    (case q_tk_BadFeature_number => k_is)
    (case q_fn_BadFeature_number => k_is)
    (case q_e1_BadOutline => kernel_rfl)
    (case q_e2_BadOutline => kernel_rfl)
    (case q_sa_BadOutline => k_is)
    (case q_ii_BadOutline => k_is)
    (case q_ti_BadOutline => k_is)
    (case q_tk_BadOutline_number => k_is)
    (case q_fn_BadOutline_number => k_is)
    (case q_e1_BadBlock => kernel_rfl)
    (case q_e2_BadBlock => kernel_rfl)
    (case q_sa_BadBlock => k_is)
    (case q_ii_BadBlock => k_is)
    (case q_ti_BadBlock => k_is)
    (case q_tk_BadBlock_place => k_is)
    (case q_fn_BadBlock_place => k_is)
    (case q_e1_BadSketch => kernel_rfl)
    (case q_e2_BadSketch => kernel_rfl)
    (case q_sa_BadSketch => k_is)
    (case q_ii_BadSketch => k_is)
    (case q_ti_BadSketch => k_is)
    (case q_tk_BadSketch_part => k_is)
    (case q_fn_BadSketch_part => k_is)
    (case q_tk_BadSketch_number => k_is)
    (case q_fn_BadSketch_number => k_is)
    (case q_e1_BadRow => kernel_rfl)
    (case q_e2_BadRow => kernel_rfl)
    (case q_sa_BadRow => k_is)
    (case q_ii_BadRow => k_is)
    (case q_ti_BadRow => k_is)
    (case q_tk_BadRow_row => k_is)
    (case q_fn_BadRow_row => k_is)
    (case q_tk_BadRow_word => k_is)
    (case q_fn_BadRow_word => k_is)
    (case q_e1_Clash => kernel_rfl)
    (case q_e2_Clash => kernel_rfl)
    (case q_sa_Clash => k_is)
    (case q_ii_Clash => k_is)
    (case q_ti_Clash => k_is)
    (case q_tk_Clash_number => k_is)
    (case q_fn_Clash_number => k_is)
    (case q_e1_BadPaper => kernel_rfl)
    (case q_e2_BadPaper => kernel_rfl)
    (case q_sa_BadPaper => k_is)
    (case q_ii_BadPaper => k_is)
    (case q_ti_BadPaper => k_is)
    (case q_tk_BadPaper_place => k_is)
    (case q_fn_BadPaper_place => k_is)
    (case q_e1_BadWay => kernel_rfl)
    (case q_e2_BadWay => kernel_rfl)
    (case q_sa_BadWay => k_is)
    (case q_ii_BadWay => k_is)
    (case q_ti_BadWay => k_is)
    (case q_tk_BadWay_number => k_is)
    (case q_fn_BadWay_number => k_is)
    (case q_e1_BadTools => kernel_rfl)
    (case q_e2_BadTools => kernel_rfl)
    (case q_sa_BadTools => k_is)
    (case q_ii_BadTools => k_is)
    (case q_ti_BadTools => k_is)
    (case q_tk_BadTools_number => k_is)
    (case q_fn_BadTools_number => k_is)
    (case q_e1_BadField => kernel_rfl)
    (case q_e2_BadField => kernel_rfl)
    (case q_sa_BadField => k_is)
    (case q_ii_BadField => k_is)
    (case q_ti_BadField => k_is)
    (case q_tk_BadField_place => k_is)
    (case q_fn_BadField_place => k_is)
    (case q_e1_Beyond => kernel_rfl)
    (case q_e2_Beyond => kernel_rfl)
    (case q_sa_Beyond => k_is)
    (case q_ii_Beyond => k_is)
    (case q_ti_Beyond => k_is)
    (case q_tk_Beyond_place => k_is)
    (case q_fn_Beyond_place => k_is)
    (case q_e1_NoTool => kernel_rfl)
    (case q_e2_NoTool => kernel_rfl)
    (case q_sa_NoTool => k_is)
    (case q_ii_NoTool => k_is)
    (case q_ti_NoTool => k_is)
    (case q_tk_NoTool_tool => k_is)
    (case q_fn_NoTool_tool => k_is)
    (case q_e1_NoFeature => kernel_rfl)
    (case q_e2_NoFeature => kernel_rfl)
    (case q_sa_NoFeature => k_is)
    (case q_ii_NoFeature => k_is)
    (case q_ti_NoFeature => k_is)
    (case q_tk_NoFeature_number => k_is)
    (case q_fn_NoFeature_number => k_is)
    (case q_e1_NoSaying => kernel_rfl)
    (case q_e2_NoSaying => kernel_rfl)
    (case q_sa_NoSaying => k_is)
    (case q_ii_NoSaying => k_is)
    (case q_ti_NoSaying => k_is)
    (case q_tk_NoSaying_number => k_is)
    (case q_fn_NoSaying_number => k_is)
    (case q_e1_NoPoint => kernel_rfl)
    (case q_e2_NoPoint => kernel_rfl)
    (case q_sa_NoPoint => k_is)
    (case q_ii_NoPoint => k_is)
    (case q_ti_NoPoint => k_is)
    (case q_tk_NoPoint_name => k_is)
    (case q_fn_NoPoint_name => k_is)
    (case q_e1_TooDeep => kernel_rfl)
    (case q_e2_TooDeep => kernel_rfl)
    (case q_sa_TooDeep => k_is)
    (case q_ii_TooDeep => k_is)
    (case q_ti_TooDeep => k_is)
    (case q_tk_TooDeep_place => k_is)
    (case q_fn_TooDeep_place => k_is)
    (case q_e1_Blocked => kernel_rfl)
    (case q_e2_Blocked => kernel_rfl)
    (case q_sa_Blocked => k_is)
    (case q_ii_Blocked => k_is)
    (case q_ti_Blocked => k_is)
    (case q_tk_Blocked_place => k_is)
    (case q_fn_Blocked_place => k_is)
    (case q_xe_NoToolThere => k_exc)
    (case q_xe_Nothing => k_exc)
    (case q_xe_TooGreat => k_exc)
    (case q_xe_OutOfPlace => k_exc)
    (case q_xe_Twice => k_exc)
    (case q_xe_Lowered => k_exc)
    (case q_xe_Lifted => k_exc)
    (case q_ke_BadFeature => k_is)
    (case q_be_BadFeature => k_is)
    (case q_q1_BadFeature => k_is)
    (case q_q2_BadFeature => k_is)
    (case q_q3_BadFeature => k_is)
    (case q_q4_BadFeature => k_is)
    (case q_q7_BadFeature => k_is)
    (case q_il_BadFeature => kernel_rfl)
    (case q_ke_BadOutline => k_is)
    (case q_be_BadOutline => k_is)
    (case q_q1_BadOutline => k_is)
    (case q_q2_BadOutline => k_is)
    (case q_q3_BadOutline => k_is)
    (case q_q4_BadOutline => k_is)
    (case q_q7_BadOutline => k_is)
    (case q_il_BadOutline => kernel_rfl)
    (case q_ke_BadBlock => k_is)
    (case q_be_BadBlock => k_is)
    (case q_q1_BadBlock => k_is)
    (case q_q2_BadBlock => k_is)
    (case q_q3_BadBlock => k_is)
    (case q_q4_BadBlock => k_is)
    (case q_q7_BadBlock => k_is)
    (case q_il_BadBlock => kernel_rfl)
    (case q_ke_BadSketch => k_is)
    (case q_be_BadSketch => k_is)
    (case q_q1_BadSketch => k_is)
    (case q_q2_BadSketch => k_is)
    (case q_q3_BadSketch => k_is)
    (case q_q4_BadSketch => k_is)
    (case q_q7_BadSketch => k_is)
    (case q_il_BadSketch => kernel_rfl)
    (case q_ke_BadRow => k_is)
    (case q_be_BadRow => k_is)
    (case q_q1_BadRow => k_is)
    (case q_q2_BadRow => k_is)
    (case q_q3_BadRow => k_is)
    (case q_q4_BadRow => k_is)
    (case q_q7_BadRow => k_is)
    (case q_il_BadRow => kernel_rfl)
    (case q_ke_Clash => k_is)
    (case q_be_Clash => k_is)
    (case q_q1_Clash => k_is)
    (case q_q2_Clash => k_is)
    (case q_q3_Clash => k_is)
    (case q_q4_Clash => k_is)
    (case q_q7_Clash => k_is)
    (case q_il_Clash => kernel_rfl)
    (case q_ke_BadPaper => k_is)
    (case q_be_BadPaper => k_is)
    (case q_q1_BadPaper => k_is)
    (case q_q2_BadPaper => k_is)
    (case q_q3_BadPaper => k_is)
    (case q_q4_BadPaper => k_is)
    (case q_q7_BadPaper => k_is)
    (case q_il_BadPaper => kernel_rfl)
    (case q_ke_BadWay => k_is)
    (case q_be_BadWay => k_is)
    (case q_q1_BadWay => k_is)
    (case q_q2_BadWay => k_is)
    (case q_q3_BadWay => k_is)
    (case q_q4_BadWay => k_is)
    (case q_q7_BadWay => k_is)
    (case q_il_BadWay => kernel_rfl)
    (case q_ke_BadTools => k_is)
    (case q_be_BadTools => k_is)
    (case q_q1_BadTools => k_is)
    (case q_q2_BadTools => k_is)
    (case q_q3_BadTools => k_is)
    (case q_q4_BadTools => k_is)
    (case q_q7_BadTools => k_is)
    (case q_il_BadTools => kernel_rfl)
    (case q_ke_BadField => k_is)
    (case q_be_BadField => k_is)
    (case q_q1_BadField => k_is)
    (case q_q2_BadField => k_is)
    (case q_q3_BadField => k_is)
    (case q_q4_BadField => k_is)
    (case q_q7_BadField => k_is)
    (case q_il_BadField => kernel_rfl)
    (case q_ke_Beyond => k_is)
    (case q_be_Beyond => k_is)
    (case q_q1_Beyond => k_is)
    (case q_q2_Beyond => k_is)
    (case q_q3_Beyond => k_is)
    (case q_q4_Beyond => k_is)
    (case q_q7_Beyond => k_is)
    (case q_il_Beyond => kernel_rfl)
    (case q_ke_NoTool => k_is)
    (case q_be_NoTool => k_is)
    (case q_q1_NoTool => k_is)
    (case q_q2_NoTool => k_is)
    (case q_q3_NoTool => k_is)
    (case q_q4_NoTool => k_is)
    (case q_q7_NoTool => k_is)
    (case q_il_NoTool => kernel_rfl)
    (case q_ke_NoFeature => k_is)
    (case q_be_NoFeature => k_is)
    (case q_q1_NoFeature => k_is)
    (case q_q2_NoFeature => k_is)
    (case q_q3_NoFeature => k_is)
    (case q_q4_NoFeature => k_is)
    (case q_q7_NoFeature => k_is)
    (case q_il_NoFeature => kernel_rfl)
    (case q_ke_NoSaying => k_is)
    (case q_be_NoSaying => k_is)
    (case q_q1_NoSaying => k_is)
    (case q_q2_NoSaying => k_is)
    (case q_q3_NoSaying => k_is)
    (case q_q4_NoSaying => k_is)
    (case q_q7_NoSaying => k_is)
    (case q_il_NoSaying => kernel_rfl)
    (case q_ke_NoPoint => k_is)
    (case q_be_NoPoint => k_is)
    (case q_q1_NoPoint => k_is)
    (case q_q2_NoPoint => k_is)
    (case q_q3_NoPoint => k_is)
    (case q_q4_NoPoint => k_is)
    (case q_q7_NoPoint => k_is)
    (case q_il_NoPoint => kernel_rfl)
    (case q_ke_TooDeep => k_is)
    (case q_be_TooDeep => k_is)
    (case q_q1_TooDeep => k_is)
    (case q_q2_TooDeep => k_is)
    (case q_q3_TooDeep => k_is)
    (case q_q4_TooDeep => k_is)
    (case q_q7_TooDeep => k_is)
    (case q_il_TooDeep => kernel_rfl)
    (case q_ke_Blocked => k_is)
    (case q_be_Blocked => k_is)
    (case q_q1_Blocked => k_is)
    (case q_q2_Blocked => k_is)
    (case q_q3_Blocked => k_is)
    (case q_q4_Blocked => k_is)
    (case q_q7_Blocked => k_is)
    (case q_il_Blocked => kernel_rfl)
    (case q_ke_NoToolThere => k_is)
    (case q_be_NoToolThere => k_is)
    (case q_q1_NoToolThere => k_is)
    (case q_q2_NoToolThere => k_is)
    (case q_q3_NoToolThere => k_is)
    (case q_q4_NoToolThere => k_is)
    (case q_q7_NoToolThere => k_is)
    (case q_il_NoToolThere => kernel_rfl)
    (case q_ke_Nothing => k_is)
    (case q_be_Nothing => k_is)
    (case q_q1_Nothing => k_is)
    (case q_q2_Nothing => k_is)
    (case q_q3_Nothing => k_is)
    (case q_q4_Nothing => k_is)
    (case q_q7_Nothing => k_is)
    (case q_il_Nothing => kernel_rfl)
    (case q_ke_TooGreat => k_is)
    (case q_be_TooGreat => k_is)
    (case q_q1_TooGreat => k_is)
    (case q_q2_TooGreat => k_is)
    (case q_q3_TooGreat => k_is)
    (case q_q4_TooGreat => k_is)
    (case q_q7_TooGreat => k_is)
    (case q_il_TooGreat => kernel_rfl)
    (case q_ke_OutOfPlace => k_is)
    (case q_be_OutOfPlace => k_is)
    (case q_q1_OutOfPlace => k_is)
    (case q_q2_OutOfPlace => k_is)
    (case q_q3_OutOfPlace => k_is)
    (case q_q4_OutOfPlace => k_is)
    (case q_q7_OutOfPlace => k_is)
    (case q_il_OutOfPlace => kernel_rfl)
    (case q_ke_Twice => k_is)
    (case q_be_Twice => k_is)
    (case q_q1_Twice => k_is)
    (case q_q2_Twice => k_is)
    (case q_q3_Twice => k_is)
    (case q_q4_Twice => k_is)
    (case q_q7_Twice => k_is)
    (case q_il_Twice => kernel_rfl)
    (case q_ke_Lowered => k_is)
    (case q_be_Lowered => k_is)
    (case q_q1_Lowered => k_is)
    (case q_q2_Lowered => k_is)
    (case q_q3_Lowered => k_is)
    (case q_q4_Lowered => k_is)
    (case q_q7_Lowered => k_is)
    (case q_il_Lowered => kernel_rfl)
    (case q_ke_Lifted => k_is)
    (case q_be_Lifted => k_is)
    (case q_q1_Lifted => k_is)
    (case q_q2_Lifted => k_is)
    (case q_q3_Lifted => k_is)
    (case q_q4_Lifted => k_is)
    (case q_q7_Lifted => k_is)
    (case q_il_Lifted => kernel_rfl)
    (case q_q5_ => k_is)
    (case q_q6_ => k_is)
    (case q_a_law_mixed => k_is)
    (case q_l_law_mixed => k_is)
    (case q_c_law_mixed => k_is)
    (case q_k_law_mixed => k_is)
    (case q_a_law_draw => k_is)
    (case q_l_law_draw => k_is)
    (case q_c_law_draw => k_is)
    (case q_k_law_draw => k_is)
    (case q_a_law_digit => k_is)
    (case q_l_law_digit => k_is)
    (case q_c_law_digit => k_is)
    (case q_k_law_digit => k_is)
    (case q_a_law_word => k_is)
    (case q_l_law_word => k_is)
    (case q_c_law_word => k_is)
    (case q_k_law_word => k_is)
    (case q_a_law_kinds => k_is)
    (case q_l_law_kinds => k_is)
    (case q_c_law_kinds => k_is)
    (case q_k_law_kinds => k_is)
    (case q_l_BadFeature_init => k_is)
    (case q_c_BadFeature_init => k_is)
    (case q_k_BadFeature_init => k_is)
    (case q_dl_BadFeature_init => k_is)
    (case q_dd_BadFeature_init => rfl)
    (case q_dv_BadFeature_init => exact (.cons rfl .nil))
    (case q_l_BadOutline_init => k_is)
    (case q_c_BadOutline_init => k_is)
    (case q_k_BadOutline_init => k_is)
    (case q_dl_BadOutline_init => k_is)
    (case q_dd_BadOutline_init => rfl)
    (case q_dv_BadOutline_init => exact (.cons rfl .nil))
    (case q_l_BadBlock_init => k_is)
    (case q_c_BadBlock_init => k_is)
    (case q_k_BadBlock_init => k_is)
    (case q_dl_BadBlock_init => k_is)
    (case q_dd_BadBlock_init => rfl)
    (case q_dv_BadBlock_init => exact (.cons rfl .nil))
    (case q_l_BadSketch_init => k_is)
    (case q_c_BadSketch_init => k_is)
    (case q_k_BadSketch_init => k_is)
    (case q_dl_BadSketch_init => k_is)
    (case q_dd_BadSketch_init => rfl)
    (case q_dv_BadSketch_init => exact (.cons rfl (.cons rfl .nil)))
    (case q_l_BadRow_init => k_is)
    (case q_c_BadRow_init => k_is)
    (case q_k_BadRow_init => k_is)
    (case q_l_Clash_init => k_is)
    (case q_c_Clash_init => k_is)
    (case q_k_Clash_init => k_is)
    (case q_l_BadPaper_init => k_is)
    (case q_c_BadPaper_init => k_is)
    (case q_k_BadPaper_init => k_is)
    (case q_dl_BadPaper_init => k_is)
    (case q_dd_BadPaper_init => rfl)
    (case q_dv_BadPaper_init => exact (.cons rfl .nil))
    (case q_l_BadWay_init => k_is)
    (case q_c_BadWay_init => k_is)
    (case q_k_BadWay_init => k_is)
    (case q_dl_BadWay_init => k_is)
    (case q_dd_BadWay_init => rfl)
    (case q_dv_BadWay_init => exact (.cons rfl .nil))
    (case q_l_BadTools_init => k_is)
    (case q_c_BadTools_init => k_is)
    (case q_k_BadTools_init => k_is)
    (case q_dl_BadTools_init => k_is)
    (case q_dd_BadTools_init => rfl)
    (case q_dv_BadTools_init => exact (.cons rfl .nil))
    (case q_l_BadField_init => k_is)
    (case q_c_BadField_init => k_is)
    (case q_k_BadField_init => k_is)
    (case q_dl_BadField_init => k_is)
    (case q_dd_BadField_init => rfl)
    (case q_dv_BadField_init => exact (.cons rfl .nil))
    (case q_l_Beyond_init => k_is)
    (case q_c_Beyond_init => k_is)
    (case q_k_Beyond_init => k_is)
    (case q_l_NoTool_init => k_is)
    (case q_c_NoTool_init => k_is)
    (case q_k_NoTool_init => k_is)
    (case q_l_NoFeature_init => k_is)
    (case q_c_NoFeature_init => k_is)
    (case q_k_NoFeature_init => k_is)
    (case q_l_NoSaying_init => k_is)
    (case q_c_NoSaying_init => k_is)
    (case q_k_NoSaying_init => k_is)
    (case q_l_NoPoint_init => k_is)
    (case q_c_NoPoint_init => k_is)
    (case q_k_NoPoint_init => k_is)
    (case q_l_TooDeep_init => k_is)
    (case q_c_TooDeep_init => k_is)
    (case q_k_TooDeep_init => k_is)
    (case q_l_Blocked_init => k_is)
    (case q_c_Blocked_init => k_is)
    (case q_k_Blocked_init => k_is)
    (case q_a_law_by_hand => k_is)
    (case q_l_law_by_hand => k_is)
    (case q_c_law_by_hand => k_is)
    (case q_k_law_by_hand => k_is)
    (case q_a_law_left_out => k_is)
    (case q_l_law_left_out => k_is)
    (case q_c_law_left_out => k_is)
    (case q_k_law_left_out => k_is)
    (case q_a_law => k_is)
    (case q_l_law => k_is)
    (case q_c_law => k_is)
    (case q_k_law => k_is)

