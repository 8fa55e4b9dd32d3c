import PyProof.Rows.All
import Wide.All
import OpenK.AllK
import Wide.FinOn
import HandS.Base
import HandS.Call
import HandS.List
import HandS.Comp
import HandS.ExcIs
import HandS.ExcInit
import HandS.ExcValue
import HandS.Words
import HandS.WordsList
import HandS.NoneIn
import HandS.Wide
import HandS.WideBits
import HandS.Gcd
import HandS.TupAny
import HandS.Text
import HandS.Deep
import HandS.TupLe
import HandS.Defaults
import HandS.IsInst
import HandS.FStr
import HandS.More
import HandS.Zip
import HandS.Iter
import HandS.Dict
import HandS.Ends
import PyProof.ReprRoads
import HandS.Exc
import HandS.ExcOwn
import HandS.WordsExc
import HandS.TryOnly
import HandS.Style
import KE.GoesMore
import PyProof.ListNew
import HandS.Flow
import KE.KExcInit
import HandS.ExcField
import KE.KExcIs
import HandS.MakeKw
import HandS.TupMul
import HandS.RaiseMore
import PyProof.ListStr
import KE.GoesZip
import HandS.Replace
import HandS.MakeKwOnly
import PySem.Challenge.RW_panelworks_k65_texts_of_no_way
set_option Elab.async false
set_option linter.all false
set_option maxRecDepth 100000
set_option maxHeartbeats 8000000
/-! Pl: values without addresses, over the hand layer. -/
namespace Pl
open PySem L2

/-- a value without addresses; ref n: the n-th of the store of what changes -/
inductive D where
  | non | bl (b : Bool) | int (i : Int) | str (x : Str) | ty (n : String) | ob (a : Addr)
  | tup (xs : List D) | lst (xs : List D) | lsk (xs : List D) | ref (n : Nat)
/-- what changes -/
inductive MO where
  | dead | lst (xs : List D) | dic (kvs : List (Key × D)) | exc (C : Addr)
  | exo (C : Addr) (d : Option Nat) | exd (fs : List (Str × D)) | exn (C : Addr)
  /-- caught, its dict the m-th -/
  | exf (C : Addr) (m : Nat)
  /-- the dict of one that was caught -/
  | exg (fs : List (Str × D))
abbrev Mh := List MO
abbrev Env := List (Option D)

section
variable (K : PySem.W.Frag) (B : Hp) (ι : List Addr)
mutual
inductive Rep : V → D → Prop
  | non : Rep .non .non
  | bl (b : Bool) : Rep (.bl b) (.bl b)
  | int (i : Int) : Rep (.int i) (.int i)
  | str (x : Str) : Rep (.str x) (.str x)
  | ty (n : String) : Rep (.ty n) (.ty n)
  | ob (a : Addr) : Rep (.ref a) (.ob a)
  | tup {a : Addr} {vs : List V} {ds : List D} : SqT K B a vs → RepL vs ds → Rep (.ref a) (.tup ds)
  | lst {a : Addr} {vs : List V} {ds : List D} : B a = some (.lst vs) → RepL vs ds → Rep (.ref a) (.lst ds)
  | lsk {a : Addr} {vs : List V} {ds : List D} : SqL K B a vs → RepL vs ds → Rep (.ref a) (.lsk ds)
  | ref {a : Addr} {n : Nat} : ι[n]? = some a → Rep (.ref a) (.ref n)
inductive RepL : List V → List D → Prop
  | nil : RepL [] []
  | cons {v : V} {d : D} {vs : List V} {ds : List D} : Rep v d → RepL vs ds → RepL (v :: vs) (d :: ds)
end
/-- a dict's pairs -/
inductive RepK : List (Key × V) → List (Key × D) → Prop
  | nil : RepK [] []
  | cons {k : Key} {v : V} {d : D} {vs : List (Key × V)} {ds : List (Key × D)} : Rep K B ι v d → RepK vs ds → RepK ((k, v) :: vs) ((k, d) :: ds)
end

theorem sqT_mono {K : PySem.W.Frag} {B B' : Hp} (s : ∀ b o, B b = some o → B' b = some o) {a : Addr} {vs : List V} (h : SqT K B a vs) : SqT K B' a vs := by
  rcases h with h | h
  · refine .inl ?_
    rcases h with h | ⟨o, h⟩
    · exact .inl (s _ _ h)
    · exact .inr ⟨o, s _ _ h⟩
  · exact .inr h
theorem sqL_mono {K : PySem.W.Frag} {B B' : Hp} (s : ∀ b o, B b = some o → B' b = some o) {a : Addr} {vs : List V} (h : SqL K B a vs) : SqL K B' a vs := by
  rcases h with h | h
  · refine .inl ?_
    rcases h with h | ⟨o, h⟩
    · exact .inl (s _ _ h)
    · exact .inr ⟨o, s _ _ h⟩
  · exact .inr h

section
variable {K : PySem.W.Frag} {B B' : Hp} {ι ι' : List Addr}
mutual
theorem Rep.mono (s : ∀ b o, B b = some o → B' b = some o) (p : ∀ (n : Nat) (a : Addr), ι[n]? = some a → ι'[n]? = some a) : ∀ {v : V} {d : D}, Rep K B ι v d → Rep K B' ι' v d
  | _, _, .non => .non
  | _, _, .bl b => .bl b
  | _, _, .int i => .int i
  | _, _, .str x => .str x
  | _, _, .ty n => .ty n
  | _, _, .ob a => .ob a
  | _, _, .tup h r => .tup (sqT_mono s h) (RepL.mono s p r)
  | _, _, .lst h r => .lst (s _ _ h) (RepL.mono s p r)
  | _, _, .lsk h r => .lsk (sqL_mono s h) (RepL.mono s p r)
  | _, _, .ref h => .ref (p _ _ h)
theorem RepL.mono (s : ∀ b o, B b = some o → B' b = some o) (p : ∀ (n : Nat) (a : Addr), ι[n]? = some a → ι'[n]? = some a) : ∀ {vs : List V} {ds : List D}, RepL K B ι vs ds → RepL K B' ι' vs ds
  | _, _, .nil => .nil
  | _, _, .cons h r => .cons (Rep.mono s p h) (RepL.mono s p r)
end
theorem RepK.mono (s : ∀ b o, B b = some o → B' b = some o) (p : ∀ (n : Nat) (a : Addr), ι[n]? = some a → ι'[n]? = some a) : ∀ {vs : List (Key × V)} {ds : List (Key × D)}, RepK K B ι vs ds → RepK K B' ι' vs ds
  | _, _, .nil => .nil
  | _, _, .cons h r => .cons (h.mono s p) (RepK.mono s p r)
theorem RepL.len : ∀ {vs : List V} {ds : List D}, RepL K B ι vs ds → vs.length = ds.length
  | _, _, .nil => rfl
  | _, _, .cons _ r => congrArg (· + 1) r.len
theorem RepL.get : ∀ {vs : List V} {ds : List D} {i : Nat} {d : D}, RepL K B ι vs ds → ds[i]? = some d → ∃ v, vs[i]? = some v ∧ Rep K B ι v d
  | _, _, _, _, .nil, e => by simp at e
  | _, _, 0, _, .cons r _, e => by
    simp at e
    subst e
    exact ⟨_, rfl, r⟩
  | _, _, i + 1, _, .cons _ t, e => by
    obtain ⟨v, h1, h2⟩ := RepL.get (i := i) t (by simpa using e)
    exact ⟨v, by simpa using h1, h2⟩
theorem RepL.getV : ∀ {vs : List V} {ds : List D} {i : Nat} {v : V}, RepL K B ι vs ds → vs[i]? = some v → ∃ d, ds[i]? = some d ∧ Rep K B ι v d
  | _, _, _, _, .nil, e => by simp at e
  | _, _, 0, _, .cons r _, e => by
    simp at e
    subst e
    exact ⟨_, rfl, r⟩
  | _, _, i + 1, _, .cons _ t, e => by
    obtain ⟨v, h1, h2⟩ := RepL.getV (i := i) t (by simpa using e)
    exact ⟨v, by simpa using h1, h2⟩
theorem RepL.append : ∀ {vs ws : List V} {ds es : List D}, RepL K B ι vs ds → RepL K B ι ws es → RepL K B ι (vs ++ ws) (ds ++ es)
  | _, _, _, _, .nil, s => s
  | _, _, _, _, .cons r t, s => .cons r (t.append s)
theorem RepL.take : ∀ {vs : List V} {ds : List D} (n : Nat), RepL K B ι vs ds → RepL K B ι (vs.take n) (ds.take n)
  | _, _, 0, _ => .nil
  | _, _, _ + 1, .nil => .nil
  | _, _, n + 1, .cons r t => .cons r (t.take n)
theorem RepL.drop : ∀ {vs : List V} {ds : List D} (n : Nat), RepL K B ι vs ds → RepL K B ι (vs.drop n) (ds.drop n)
  | _, _, 0, r => r
  | _, _, _ + 1, .nil => .nil
  | _, _, n + 1, .cons _ t => t.drop n
theorem RepL.set {v : V} {d : D} (r : Rep K B ι v d) : ∀ {vs : List V} {ds : List D} (i : Nat), RepL K B ι vs ds → RepL K B ι (vs.set i v) (ds.set i d)
  | _, _, _, .nil => .nil
  | _, _, 0, .cons _ t => .cons r t
  | _, _, i + 1, .cons q t => .cons q (RepL.set r i t)
theorem RepL.reverse : ∀ {vs : List V} {ds : List D}, RepL K B ι vs ds → RepL K B ι vs.reverse ds.reverse
  | _, _, .nil => .nil
  | _, _, .cons r t => by
    rw [List.reverse_cons, List.reverse_cons]
    exact t.reverse.append (.cons r .nil)
end

/-! ### worlds: H all, B what stands for good, ι where the store's things are, P what is another's -/
structure Wd where
  H : Hp
  B : Hp
  ι : List Addr
  P : Hp
/-- alive at a -/
def Live (W : Wd) (M : Mh) (n : Nat) (a : Addr) (o : MO) : Prop := W.ι[n]? = some a ∧ M[n]? = some o ∧ o ≠ .dead
/-- an exception that was caught and is kept -/
def ExV (C a : Addr) : HO := .ext fun h => ∃ (oe : Obj) (vs : Array Value), h.get? a = some oe ∧ Zc (.ref C) none oe ∧ oe.data = .fields vs
/-- a caught exception with its dict -/
def ExVD (C d a : Addr) : HO := .ext fun h => ∃ (oe : Obj) (vs : Array Value), h.get? a = some oe ∧ Zc (.ref C) (some d) oe ∧ oe.data = .fields vs
/-- an exception's fields -/
inductive RepF (K : PySem.W.Frag) (B : Hp) (ι : List Addr) : List (Str × V) → List (Str × D) → Prop
  | nil : RepF K B ι [] []
  | cons {f : Str} {v : V} {d : D} {vs : List (Str × V)} {ds : List (Str × D)} : Rep K B ι v d → RepF K B ι vs ds → RepF K B ι ((f, v) :: vs) ((f, d) :: ds)
theorem RepF.mono {K : PySem.W.Frag} {B B' : Hp} {ι ι' : List Addr} (s : ∀ b o, B b = some o → B' b = some o) (p : ∀ (n : Nat) (a : Addr), ι[n]? = some a → ι'[n]? = some a) : ∀ {vs : List (Str × V)} {ds : List (Str × D)}, RepF K B ι vs ds → RepF K B' ι' vs ds
  | _, _, .nil => .nil
  | _, _, .cons h r => .cons (h.mono s p) (r.mono s p)
theorem RepF.len {K : PySem.W.Frag} {B : Hp} {ι : List Addr} : ∀ {vs : List (Str × V)} {ds : List (Str × D)}, RepF K B ι vs ds → vs.length = ds.length
  | _, _, .nil => rfl
  | _, _, .cons _ r => congrArg (· + 1) r.len
theorem RepF.get {K : PySem.W.Frag} {B : Hp} {ι : List Addr} : ∀ {vs : List (Str × V)} {ds : List (Str × D)} {f : Str} {d : D}, RepF K B ι vs ds → ds.lookup f = some d → ∃ v, vs.lookup f = some v ∧ Rep K B ι v d
  | _, _, _, _, .nil, e => by simp at e
  | _, _, f, d, .cons (f := g) h r, e => by
    rw [List.lookup_cons] at e ⊢
    by_cases q : f == g
    · rw [q] at e ⊢
      cases e
      exact ⟨_, rfl, h⟩
    · have q' : (f == g) = false := by simpa using q
      rw [q'] at e ⊢
      exact r.get e
inductive RepO (K : PySem.W.Frag) (B : Hp) (ι : List Addr) (a : Addr) : HO → MO → Prop
  | lst {vs : List V} {ds : List D} : RepL K B ι vs ds → RepO K B ι a (.lst vs) (.lst ds)
  | dic {vs : List (Key × V)} {ds : List (Key × D)} : RepK K B ι vs ds → RepO K B ι a (.dK vs) (.dic ds)
  | exc {C : Addr} : ExcC K C → RepO K B ι a (ExV C a) (.exc C)
  | exo {C : Addr} : RepO K B ι a (exo a C none) (.exo C none)
  | exoD {C d : Addr} {m : Nat} : ι[m]? = some d → RepO K B ι a (exo a C (some d)) (.exo C (some m))
  | exd {fs : List (Str × V)} {ds : List (Str × D)} : RepF K B ι fs ds → RepO K B ι a (exd a fs) (.exd ds)
  | exn {C : Addr} : RepO K B ι a (ExO (.ref C) a) (.exn C)
  | exg {fs : List (Str × V)} {ds : List (Str × D)} : RepF K B ι fs ds → RepO K B ι a (.xd fs) (.exg ds)
  | exf {C d : Addr} {m : Nat} : ExcC K C → ι[m]? = some d → RepO K B ι a (ExVD C d a) (.exf C m)
theorem RepO.mono {K : PySem.W.Frag} {B B' : Hp} {ι ι' : List Addr} (s : ∀ b o, B b = some o → B' b = some o) (p : ∀ (n : Nat) (a : Addr), ι[n]? = some a → ι'[n]? = some a) {a : Addr} {o : HO} {m : MO} : RepO K B ι a o m → RepO K B' ι' a o m
  | .lst r => .lst (r.mono s p)
  | .dic r => .dic (r.mono s p)
  | .exc h => .exc h
  | .exo => .exo
  | .exoD h => .exoD (p _ _ h)
  | .exd r => .exd (r.mono s p)
  | .exn => .exn
  | .exf h q => .exf h (p _ _ q)
  | .exg r => .exg (r.mono s p)
structure Wd.Ok (K : PySem.W.Frag) (W : Wd) (M : Mh) : Prop where
  sub : ∀ a o, W.B a = some o → W.H a = some o
  pin : ∀ a o, W.P a = some o → W.H a = some o ∧ W.B a = none
  len : W.ι.length = M.length
  live : ∀ n a o, Live W M n a o → W.B a = none ∧ W.P a = none ∧ ∃ h, W.H a = some h ∧ RepO K W.B W.ι a h o
  inj : ∀ n m a o u, Live W M n a o → Live W M m a u → n = m
structure Wd.Le (W W' : Wd) : Prop where
  same : ∀ b o, W.B b = some o → W'.B b = some o
  pre : ∃ l, W'.ι = W.ι ++ l
  pp : W'.P = W.P
theorem Wd.Le.refl (W : Wd) : W.Le W := ⟨fun _ _ h => h, ⟨[], by simp⟩, rfl⟩
theorem Wd.Le.trans {W W1 W2 : Wd} (a : W.Le W1) (b : W1.Le W2) : W.Le W2 := by
  obtain ⟨l, hl⟩ := a.pre
  obtain ⟨m, hm⟩ := b.pre
  exact ⟨fun c o h => b.same c o (a.same c o h), ⟨l ++ m, by rw [hm, hl, List.append_assoc]⟩, b.pp.trans a.pp⟩
theorem Wd.Le.ix {W W' : Wd} (a : W.Le W') : ∀ (n : Nat) (c : Addr), W.ι[n]? = some c → W'.ι[n]? = some c := fun n c h => by
  obtain ⟨l, hl⟩ := a.pre
  rw [hl, List.getElem?_append_left (List.getElem?_eq_some_iff.mp h).1]
  exact h
theorem Rep.le {K : PySem.W.Frag} {W W' : Wd} (a : W.Le W') {v : V} {d : D} (r : Rep K W.B W.ι v d) : Rep K W'.B W'.ι v d := r.mono a.same a.ix
theorem RepL.le {K : PySem.W.Frag} {W W' : Wd} (a : W.Le W') {v : List V} {d : List D} (r : RepL K W.B W.ι v d) : RepL K W'.B W'.ι v d := r.mono a.same a.ix

/-- the same, whatever is held -/
structure Wd.Lo (W W' : Wd) : Prop where
  same : ∀ b o, W.B b = some o → W'.B b = some o
  pre : ∃ l, W'.ι = W.ι ++ l
theorem Wd.Le.lo {W W' : Wd} (a : W.Le W') : W.Lo W' := ⟨a.same, a.pre⟩
theorem Wd.Lo.ix {W W' : Wd} (a : W.Lo W') : ∀ (n : Nat) (c : Addr), W.ι[n]? = some c → W'.ι[n]? = some c := fun n c h => by
  obtain ⟨l, hl⟩ := a.pre
  rw [hl, List.getElem?_append_left (List.getElem?_eq_some_iff.mp h).1]
  exact h
/-- the slots -/
structure Slots (K : PySem.W.Frag) (W : Wd) (σ : St) (δ : Env) : Prop where
  len : σ.length = δ.length
  at_ : ∀ (i : Nat) (d : D), δ[i]? = some (some d) → ∃ v, σ[i]? = some (some v) ∧ Rep K W.B W.ι v d
theorem Slots.le {K : PySem.W.Frag} {W W' : Wd} (a : W.Le W') {σ : St} {δ : Env} (s : Slots K W σ δ) : Slots K W' σ δ :=
  ⟨s.len, fun i d h => by
    obtain ⟨v, h1, h2⟩ := s.at_ i d h
    exact ⟨v, h1, h2.le a⟩⟩
theorem Slots.set {K : PySem.W.Frag} {W : Wd} {σ : St} {δ : Env} {v : V} {d : D} (s : Slots K W σ δ) (r : Rep K W.B W.ι v d) (i : Nat) : Slots K W (σ.set i (some v)) (δ.set i (some d)) :=
  ⟨by rw [List.length_set, List.length_set]; exact s.len, fun j e h => by
    rw [List.getElem?_set] at h
    rw [List.getElem?_set]
    by_cases hij : i = j
    · subst hij
      rw [if_pos rfl] at h
      rw [if_pos rfl]
      by_cases hl : i < δ.length
      · rw [if_pos hl] at h
        rw [if_pos (by rw [s.len]; exact hl)]
        cases h
        exact ⟨v, rfl, r⟩
      · rw [if_neg hl] at h
        cases h
    · rw [if_neg hij] at h
      rw [if_neg hij]
      exact s.at_ j e h⟩

/-! ### laying, changing, letting go -/
section
variable {K : PySem.W.Frag} {W : Wd} {M : Mh} {p : Addr} {o : HO}
def Wd.lay (W : Wd) (p : Addr) (o : HO) : Wd := ⟨upd W.H p o, upd W.B p o, W.ι, W.P⟩
theorem updk {H : Hp} {p : Addr} {o : HO} (h : H p = none) : ∀ b u, H b = some u → upd H p o b = some u := fun b u e => by
  rw [upd_ne (ne_of_none e h)]
  exact e
theorem Wd.Ok.bnone (w : W.Ok K M) (hp : W.H p = none) : W.B p = none := by
  cases e : W.B p with
  | none => rfl
  | some u =>
    have := w.sub p u e
    rw [hp] at this
    cases this
theorem Wd.Ok.pnone (w : W.Ok K M) (hp : W.H p = none) : W.P p = none := by
  cases e : W.P p with
  | none => rfl
  | some u =>
    have := (w.pin p u e).1
    rw [hp] at this
    cases this
theorem Wd.lay_le (w : W.Ok K M) (hp : W.H p = none) : W.Le (W.lay p o) := ⟨updk (w.bnone hp), ⟨[], by simp [Wd.lay]⟩, rfl⟩
theorem Wd.lay_ok (w : W.Ok K M) (hp : W.H p = none) : (W.lay p o).Ok K M := by
  have lv : ∀ n a u, Live (W.lay p o) M n a u → Live W M n a u := fun n a u h => h
  have ne : ∀ {n a u}, Live W M n a u → a ≠ p := fun {n a u} h e => by
    obtain ⟨_, _, k, hk, _⟩ := w.live n a u h
    rw [e, hp] at hk
    cases hk
  refine ⟨fun a u h => ?_, fun a u h => ?_, w.len, fun n a u h => ?_, fun n m a u v h k => w.inj n m a u v (lv _ _ _ h) (lv _ _ _ k)⟩
  · by_cases e : a = p
    · subst e
      show upd W.H a o a = _
      have h' : upd W.B a o a = some u := h
      rw [upd_same] at h' ⊢
      exact h'
    · show upd W.H p o a = _
      have h' : upd W.B p o a = some u := h
      rw [upd_ne e] at h' ⊢
      exact w.sub a u h'
  · have q := w.pin a u h
    have e : a ≠ p := fun e => by
      rw [e, hp] at q
      cases q.1
    exact ⟨(upd_ne e).trans q.1, (upd_ne e).trans q.2⟩
  · obtain ⟨h1, h2, k, h3, h4⟩ := w.live n a u (lv _ _ _ h)
    have e := ne (lv _ _ _ h)
    exact ⟨(upd_ne e).trans h1, h2, k, (upd_ne e).trans h3, h4.mono (updk (w.bnone hp)) fun _ _ q => q⟩
/-- a new thing of the store -/
def Wd.new (W : Wd) (p : Addr) (o : HO) : Wd := ⟨upd W.H p o, W.B, W.ι ++ [p], W.P⟩
theorem Wd.new_le : W.Le (W.new p o) := ⟨fun _ _ h => h, ⟨[p], rfl⟩, rfl⟩
theorem Wd.new_ok {m : MO} (w : W.Ok K M) (hp : W.H p = none) (r : RepO K W.B W.ι p o m) : (W.new p o).Ok K (M ++ [m]) := by
  have lv : ∀ n a u, Live (W.new p o) (M ++ [m]) n a u → Live W M n a u ∨ (n = M.length ∧ a = p ∧ u = m) := fun n a u h => by
    obtain ⟨h1, h2, h3⟩ := h
    have h1' : (W.ι ++ [p])[n]? = some a := h1
    by_cases hn : n < M.length
    · rw [List.getElem?_append_left (by rw [w.len]; exact hn)] at h1'
      rw [List.getElem?_append_left hn] at h2
      exact .inl ⟨h1', h2, h3⟩
    · have e : n = M.length := by
        have := (List.getElem?_eq_some_iff.mp h2).1
        rw [List.length_append] at this
        simp at this
        omega
      subst e
      rw [List.getElem?_append_right (by rw [w.len]; exact Nat.le_refl _), w.len] at h1'
      rw [List.getElem?_append_right (Nat.le_refl _)] at h2
      simp at h1' h2
      exact .inr ⟨rfl, h1'.symm, h2.symm⟩
  have ne : ∀ {n a u}, Live W M n a u → a ≠ p := fun {n a u} h e => by
    obtain ⟨_, _, k, hk, _⟩ := w.live n a u h
    rw [e, hp] at hk
    cases hk
  have ln : ∀ {n a u}, Live W M n a u → n < M.length := fun {n a u} h => (List.getElem?_eq_some_iff.mp h.2.1).1
  refine ⟨fun a u h => ?_, fun a u h => ?_, ?_, fun n a u h => ?_, fun n k a u v h g => ?_⟩
  · exact (upd_ne (fun e => by
      rw [e] at h
      have := w.bnone hp
      rw [show (W.new p o).B p = W.B p from rfl, this] at h
      cases h)).trans (w.sub a u h)
  · have q := w.pin a u h
    have e : a ≠ p := fun e => by
      rw [e, hp] at q
      cases q.1
    exact ⟨(upd_ne e).trans q.1, q.2⟩
  · show (W.ι ++ [p]).length = _
    simp [w.len]
  · rcases lv n a u h with h | ⟨_, rfl, rfl⟩
    · obtain ⟨h1, h2, k, h3, h4⟩ := w.live n a u h
      exact ⟨h1, h2, k, (upd_ne (ne h)).trans h3, h4.mono (fun _ _ q => q) Wd.new_le.ix⟩
    · exact ⟨w.bnone hp, w.pnone hp, o, upd_same, r.mono (fun _ _ q => q) Wd.new_le.ix⟩
  · rcases lv n a u h with h | ⟨h1, h2, h3⟩
    · rcases lv k a v g with g | ⟨g1, g2, g3⟩
      · exact w.inj n k a u v h g
      · exact absurd g2 (ne h)
    · rcases lv k a v g with g | ⟨g1, g2, g3⟩
      · exact absurd h2 (ne g)
      · omega
/-- a thing of the store changed -/
def Wd.put (W : Wd) (p : Addr) (o : HO) : Wd := ⟨upd W.H p o, W.B, W.ι, W.P⟩
theorem Wd.put_le : W.Le (W.put p o) := ⟨fun _ _ h => h, ⟨[], by simp [Wd.put]⟩, rfl⟩
theorem Wd.put_ok {n : Nat} {m m' : MO} (w : W.Ok K M) (lv0 : Live W M n p m) (r : RepO K W.B W.ι p o m') : (W.put p o).Ok K (M.set n m') := by
  have hn : n < M.length := (List.getElem?_eq_some_iff.mp lv0.2.1).1
  have lv : ∀ k a u, Live (W.put p o) (M.set n m') k a u → (k = n ∧ a = p ∧ u = m') ∨ (k ≠ n ∧ Live W M k a u) := fun k a u h => by
    obtain ⟨h1, h2, h3⟩ := h
    by_cases e : n = k
    · subst e
      rw [List.getElem?_set_self hn] at h2
      have e1 : some a = some p := (show W.ι[n]? = some a from h1).symm.trans lv0.1
      cases e1
      cases h2
      exact .inl ⟨rfl, rfl, rfl⟩
    · rw [List.getElem?_set_ne e] at h2
      exact .inr ⟨fun z => e z.symm, h1, h2, h3⟩
  have ne : ∀ {k a u}, k ≠ n → Live W M k a u → a ≠ p := fun {k a u} hk h e => by
    subst e
    exact hk (w.inj _ _ _ _ _ h lv0)
  obtain ⟨b0, p0, _⟩ := w.live n p m lv0
  refine ⟨fun a u h => ?_, fun a u h => ?_, ?_, fun k a u h => ?_, fun k j a u v h g => ?_⟩
  · exact (upd_ne (fun e => by
      rw [e] at h
      rw [show (W.put p o).B p = W.B p from rfl, b0] at h
      cases h)).trans (w.sub a u h)
  · have e : a ≠ p := fun e => by
      rw [e] at h
      rw [show (W.put p o).P p = W.P p from rfl, p0] at h
      cases h
    have q := w.pin a u h
    exact ⟨(upd_ne e).trans q.1, q.2⟩
  · show W.ι.length = _
    rw [List.length_set]
    exact w.len
  · rcases lv k a u h with ⟨rfl, rfl, rfl⟩ | ⟨hk, h⟩
    · exact ⟨b0, p0, o, upd_same, r⟩
    · obtain ⟨h1, h2, g, h3, h4⟩ := w.live k a u h
      exact ⟨h1, h2, g, (upd_ne (ne hk h)).trans h3, h4⟩
  · rcases lv k a u h with ⟨rfl, rfl, rfl⟩ | ⟨hk, h2⟩
    · rcases lv j a v g with ⟨rfl, _, _⟩ | ⟨hj, g⟩
      · rfl
      · exact absurd rfl (ne hj g)
    · rcases lv j a v g with ⟨_, e2, _⟩ | ⟨hj, g⟩
      · exact absurd e2 (ne hk h2)
      · exact w.inj _ _ _ _ _ h2 g
/-- a list of the store stands still from here on -/
def Wd.frz (W : Wd) (p : Addr) (o : HO) : Wd := ⟨W.H, upd W.B p o, W.ι, W.P⟩
theorem Wd.frz_le {n : Nat} {m : MO} (w : W.Ok K M) (lv0 : Live W M n p m) : W.Le (W.frz p o) := ⟨updk (w.live n p m lv0).1, ⟨[], by simp [Wd.frz]⟩, rfl⟩
theorem Wd.frz_ok {n : Nat} {m : MO} (w : W.Ok K M) (lv0 : Live W M n p m) (ho : W.H p = some o) : (W.frz p o).Ok K (M.set n .dead) := by
  have hn : n < M.length := (List.getElem?_eq_some_iff.mp lv0.2.1).1
  have lv : ∀ k a u, Live (W.frz p o) (M.set n .dead) k a u → k ≠ n ∧ Live W M k a u := fun k a u h => by
    obtain ⟨h1, h2, h3⟩ := h
    by_cases e : n = k
    · subst e
      rw [List.getElem?_set_self hn] at h2
      cases h2
      exact absurd rfl h3
    · rw [List.getElem?_set_ne e] at h2
      exact ⟨fun z => e z.symm, h1, h2, h3⟩
  have ne : ∀ {k a u}, k ≠ n → Live W M k a u → a ≠ p := fun {k a u} hk h e => by
    subst e
    exact hk (w.inj _ _ _ _ _ h lv0)
  obtain ⟨b0, p0, _⟩ := w.live n p m lv0
  refine ⟨fun a u h => ?_, fun a u h => ?_, ?_, fun k a u h => ?_, fun k j a u v h g => ?_⟩
  · by_cases e : a = p
    · subst e
      have h' : upd W.B a o a = some u := h
      rw [upd_same] at h'
      cases h'
      exact ho
    · have h' : upd W.B p o a = some u := h
      rw [upd_ne e] at h'
      exact w.sub a u h'
  · have q := w.pin a u h
    have e : a ≠ p := fun e => by
      rw [e] at h
      rw [show (W.frz p o).P p = W.P p from rfl, p0] at h
      cases h
    exact ⟨q.1, (upd_ne e).trans q.2⟩
  · show W.ι.length = _
    rw [List.length_set]
    exact w.len
  · obtain ⟨hk, h⟩ := lv k a u h
    obtain ⟨h1, h2, g, h3, h4⟩ := w.live k a u h
    exact ⟨(upd_ne (ne hk h)).trans h1, h2, g, h3, h4.mono (updk b0) fun _ _ q => q⟩
  · exact w.inj _ _ _ _ _ (lv k a u h).2 (lv j a v g).2
/-- something of another's, while it is looked at -/
def Wd.hold (W : Wd) (p : Addr) (o : HO) : Wd := ⟨upd W.H p o, W.B, W.ι, upd W.P p o⟩
theorem Wd.hold_ok (w : W.Ok K M) (hp : W.H p = none) : (W.hold p o).Ok K M := by
  have ne : ∀ {n a u}, Live W M n a u → a ≠ p := fun {n a u} h e => by
    obtain ⟨_, _, k, hk, _⟩ := w.live n a u h
    rw [e, hp] at hk
    cases hk
  refine ⟨fun a u h => ?_, fun a u h => ?_, w.len, fun n a u h => ?_, fun n m a u v h k => w.inj n m a u v h k⟩
  · exact (upd_ne (fun e => by
      rw [e] at h
      have := w.bnone hp
      rw [show (W.hold p o).B p = W.B p from rfl, this] at h
      cases h)).trans (w.sub a u h)
  · by_cases e : a = p
    · subst e
      have h' : upd W.P a o a = some u := h
      rw [upd_same] at h'
      exact ⟨upd_same.trans h', w.bnone hp⟩
    · have h' : upd W.P p o a = some u := h
      rw [upd_ne e] at h'
      have q := w.pin a u h'
      exact ⟨(upd_ne e).trans q.1, q.2⟩
  · obtain ⟨h1, h2, k, h3, h4⟩ := w.live n a u h
    exact ⟨h1, (upd_ne (ne h)).trans h2, k, (upd_ne (ne h)).trans h3, h4⟩
end
end Pl

namespace Pl
open PySem L2

theorem ifF {A B : Prop} (h : B) : if false = true then A else B := by
  rw [if_neg Bool.false_ne_true]
  exact h
theorem ifT {A B : Prop} (h : A) : if true = true then A else B := by
  rw [if_pos rfl]
  exact h
abbrev EF := Env → Mh → Option (D × Mh)
abbrev TF := Env → Mh → Option (Bool × Mh)
abbrev AF := Env → Mh → Option (List D × Mh)
abbrev GF := D → Env → Option Env
inductive Out where
  | nx (δ : Env) (M : Mh) | rt (d : D) (M : Mh) | bk (δ : Env) (M : Mh) | ct (δ : Env) (M : Mh)
abbrev SF := Env → Mh → Option Out
abbrev Fn := List D → Mh → Option (D × Mh)

/-- what is wanted of a value d behind, the store M' -/
def VR (K : PySem.W.Frag) (W : Wd) (d : D) (M' : Mh) (Q : VK) : Prop := ∀ v W', W.Le W' → W'.Ok K M' → Rep K W'.B W'.ι v d → Q v W'.H
def VRL (K : PySem.W.Frag) (W : Wd) (d : List D) (M' : Mh) (Q : List V → Hp → Prop) : Prop := ∀ v W', W.Le W' → W'.Ok K M' → RepL K W'.B W'.ι v d → Q v W'.H
theorem VR.le {K : PySem.W.Frag} {W W1 : Wd} {d : D} {M' : Mh} {Q : VK} (h : VR K W d M' Q) (l : W.Le W1) : VR K W1 d M' Q := fun v W' a o r => h v W' (l.trans a) o r
def ER (K : PySem.W.Frag) (t : TE) (f : EF) : Prop := ∀ (σ : St) (W : Wd) (δ : Env) (M : Mh) (d : D) (M' : Mh) (Q : VK), W.Ok K M → Slots K W σ δ → f δ M = some (d, M') → VR K W d M' Q → t σ W.H Q
def AR (K : PySem.W.Frag) (t : TA) (f : AF) : Prop := ∀ (σ : St) (W : Wd) (δ : Env) (M : Mh) (d : List D) (M' : Mh) (Q : List V → Hp → Prop), W.Ok K M → Slots K W σ δ → f δ M = some (d, M') → VRL K W d M' Q → t σ W.H Q
def TR (K : PySem.W.Frag) (t : TT) (f : TF) : Prop := ∀ (σ : St) (W : Wd) (δ : Env) (M : Mh) (b : Bool) (M' : Mh) (Q : Bool → Hp → Prop), W.Ok K M → Slots K W σ δ → f δ M = some (b, M') → (∀ W', W.Le W' → W'.Ok K M' → Q b W'.H) → t σ W.H Q

/-- what is wanted behind a statement -/
def Post (K : PySem.W.Frag) (E : Ends) (W : Wd) : Out → Prop
  | .nx δ M => ∀ σ W', W.Le W' → W'.Ok K M → Slots K W' σ δ → E.nx σ W'.H
  | .bk δ M => ∀ σ W', W.Le W' → W'.Ok K M → Slots K W' σ δ → E.bk σ W'.H
  | .ct δ M => ∀ σ W', W.Le W' → W'.Ok K M → Slots K W' σ δ → E.ct σ W'.H
  | .rt d M => VR K W d M E.rt
theorem Post.le {K : PySem.W.Frag} {E : Ends} {W W1 : Wd} {o : Out} (l : W.Le W1) (h : Post K E W o) : Post K E W1 o := by
  cases o with
  | nx δ M => exact fun σ W' a b c => h σ W' (l.trans a) b c
  | bk δ M => exact fun σ W' a b c => h σ W' (l.trans a) b c
  | ct δ M => exact fun σ W' a b c => h σ W' (l.trans a) b c
  | rt d M => exact fun v W' a b c => h v W' (l.trans a) b c
def SR (K : PySem.W.Frag) (t : TS) (f : SF) : Prop := ∀ (σ : St) (W : Wd) (δ : Env) (M : Mh) (o : Out) (E : Ends), W.Ok K M → Slots K W σ δ → f δ M = some o → Post K E W o → t E σ W.H

section
variable {I : Type}
structure DE (X : I → Cx) (K : PySem.W.Frag) (e : Expr) (f : EF) : Prop where
  go : ∃ t : TE, (∀ i, PE (X i) e t) ∧ ER K t f
structure DA (X : I → Cx) (K : PySem.W.Frag) (es : List Expr) (f : AF) : Prop where
  go : ∃ t : TA, (∀ i, PA (X i) es t) ∧ AR K t f
structure DT (X : I → Cx) (K : PySem.W.Frag) (e : Expr) (f : TF) : Prop where
  go : ∃ t : TT, (∀ i, PT (X i) e t) ∧ TR K t f
structure DW (X : I → Cx) (K : PySem.W.Frag) (e : Expr) (f : TF) : Prop where
  go : ∃ t : TT, (∀ i, PW (X i) e t) ∧ TR K t f
structure DS (X : I → Cx) (K : PySem.W.Frag) (s : Stmt) (f : SF) : Prop where
  go : ∃ t : TS, (∀ i, PS (X i) s t) ∧ SR K t f
structure DB (X : I → Cx) (K : PySem.W.Frag) (s : List Stmt) (f : SF) : Prop where
  go : ∃ t : TS, (∀ i, PSs (X i) s t) ∧ SR K t f
/-- a comparison: both as a value and as a test -/
structure DC (X : I → Cx) (K : PySem.W.Frag) (e : Expr) (f : EF) : Prop where
  go : ∃ t : TE, (∀ i, PE (X i) e t) ∧ (∀ i, PT (X i) e (tTest t)) ∧ ER K t f

/-- what all contexts of the family have in common -/
structure Ctx (X : I → Cx) (P : Program) (w : World) (K : PySem.W.Frag) (mg : Str → Option Value) (base : Heap) (k : Nat) : Prop where
  prog : ∀ i, (X i).prog = P
  wd : ∀ i, (X i).w = w
  K : ∀ i, (X i).K = K
  mg : ∀ i, (X i).mg = mg
  base : ∀ i, (X i).base = base
  room : ∀ i, Room k (X i).A
  grd : ∀ i, (X i).A.guards = some []
  calm : ∀ i, (X i).calm = true

variable {X : I → Cx} {P : Program} {w : World} {K : PySem.W.Frag} {mg : Str → Option Value} {base : Heap} {k : Nat}

/-! ### values -/
def eVar (i : Nat) : EF := fun δ M => match δ[i]? with
  | some (some d) => some (d, M)
  | _ => none
theorem DE.var (j : Nat) {x : Str} {pos : Pos} (hN : ∀ i, (X i).N[j]? = some x := by intro _; rfl) (hv : ∀ i, Vis (X i).env.scope x := by intro _; first | exact Or.inl rfl | exact Or.inr (Or.inl rfl) | exact Or.inr (Or.inr rfl)) (hd : (x == ("__debug__" : Str)) = false := by decide)
    (hcd : (x == ("__classdict__" : Str)) = false := by decide) : DE X K (.Name x pos) (eVar j) := by
  refine ⟨tVar j, fun i => pe_var (hN i) (hv i) hd hcd, fun σ W δ M d M' Q w s e q => ?_⟩
  unfold eVar at e
  split at e
  · rename_i d' h
    cases e
    obtain ⟨v, h1, h2⟩ := s.at_ _ _ h
    exact ⟨v, h1, q v W (.refl W) w h2⟩
  · cases e
def eC (d : D) : EF := fun _ M => some (d, M)
theorem er_c {v : V} {d : D} (r : ∀ B ι, Rep K B ι v d) : ER K (tC v) (eC d) := fun σ W δ M d' M' Q w s e q => by
  cases e
  exact q v W (.refl W) w (r _ _)
theorem DE.int {n : Int} {j pos} : DE X K (.Constant (.int n) j pos) (eC (.int n)) := ⟨_, fun i => pe_int, er_c fun _ _ => .int n⟩
theorem DE.bool {b : Bool} {j pos} : DE X K (.Constant (.bool b) j pos) (eC (.bl b)) := ⟨_, fun i => pe_bl, er_c fun _ _ => .bl b⟩
theorem DE.non {j pos} : DE X K (.Constant .none j pos) (eC .non) := ⟨_, fun i => pe_non, er_c fun _ _ => .non⟩
theorem DE.str {x : Str} {j pos} : DE X K (.Constant (.str x) j pos) (eC (.str x)) := ⟨_, fun i => pe_str, er_c fun _ _ => .str x⟩
/-- a name of the module -/
theorem DE.glob (c : Ctx X P w K mg base k) {x : Str} {pos : Pos} {v : V} {u : Value} {d : D} (hm : mg x = some u) (r : RelV v u) (q : ∀ B ι, Rep K B ι v d) (hg : ∀ i, Gl (X i) x := by intro _; rfl)
    (hd : (x == ("__debug__" : Str)) = false := by decide) : DE X K (.Name x pos) (eC d) :=
  ⟨_, fun i => pe_glob (hg i) (by rw [c.mg i]; exact hm) r (hd := hd), er_c q⟩
/-- a built-in's name, not called -/
theorem DE.bltn (c : Ctx X P w K mg base k) {x : Str} {pos : Pos} {v : V} {u : Value} {d : D} (hm : mg x = none) (hv : bootBuiltins x = some u) (r : RelV v u) (q : ∀ B ι, Rep K B ι v d) (hg : ∀ i, Gl (X i) x := by intro _; rfl)
    (hn : x ≠ "__name__" := by decide) (hd : (x == ("__debug__" : Str)) = false := by decide) : DE X K (.Name x pos) (eC d) :=
  ⟨_, fun i => pe_bltn (hg i) (by rw [c.mg i]; exact hm) hv r (hn := hn) (hd := hd), er_c q⟩

/-! ### arguments, displays -/
def aNil : AF := fun _ M => some ([], M)
def aCons (f : EF) (g : AF) : AF := fun δ M => match f δ M with
  | some (d, M1) => (match g δ M1 with
    | some (ds, M2) => some (d :: ds, M2)
    | none => none)
  | none => none
theorem DA.nil : DA X K [] aNil := ⟨tNil, fun i => pa_nil, fun σ W δ M d M' Q w s e q => by
  cases e
  exact q [] W (.refl W) w .nil⟩
theorem DA.cons {e : Expr} {es : List Expr} {f : EF} {g : AF} (a : DE X K e f) (b : DA X K es g) (he : ∀ i, starEach (e :: es) (X i).env = (false, eval e (X i).env) :: starEach es (X i).env := by intro _; rfl) : DA X K (e :: es) (aCons f g) := by
  obtain ⟨ta, pa, ra⟩ := a.go
  obtain ⟨tb, pb, rb⟩ := b.go
  refine ⟨tCons ta tb, fun i => pa_cons (pa i) (pb i) (he i), fun σ W δ M d M' Q w s e q => ?_⟩
  unfold aCons at e
  split at e
  · rename_i d1 M1 h1
    split at e
    · rename_i ds M2 h2
      cases e
      refine ra σ W δ M d1 M1 _ w s h1 fun v W1 l1 w1 r1 => ?_
      refine rb σ W1 δ M1 ds _ _ w1 (s.le l1) h2 fun vs W2 l2 w2 r2 => ?_
      exact q _ W2 (l1.trans l2) w2 (.cons (r1.le l2) r2)
    · cases e
  · cases e
def eTup (g : AF) : EF := fun δ M => match g δ M with
  | some (ds, M1) => if ds.length ≤ sizeLine then some (.tup ds, M1) else none
  | none => none
def eLst (g : AF) : EF := fun δ M => match g δ M with
  | some (ds, M1) => if ds.length ≤ sizeLine then some (.lst ds, M1) else none
  | none => none
/-- a new list of the store -/
def eNew (g : AF) : EF := fun δ M => match g δ M with
  | some (ds, M1) => if ds.length ≤ sizeLine then some (.ref M1.length, M1 ++ [.lst ds]) else none
  | none => none
theorem lay_tup {W : Wd} {M : Mh} {p : Addr} {vs : List V} {ds : List D} (w : W.Ok K M) (hp : W.H p = none) (r : RepL K W.B W.ι vs ds) :
    W.Le (W.lay p (.tup vs)) ∧ (W.lay p (.tup vs)).Ok K M ∧ Rep K (W.lay p (.tup vs)).B (W.lay p (.tup vs)).ι (.ref p) (.tup ds) :=
  ⟨Wd.lay_le w hp, Wd.lay_ok w hp, .tup (.inl (.inl upd_same)) (r.le (Wd.lay_le w hp))⟩
theorem lay_lst {W : Wd} {M : Mh} {p : Addr} {vs : List V} {ds : List D} (w : W.Ok K M) (hp : W.H p = none) (r : RepL K W.B W.ι vs ds) :
    W.Le (W.lay p (.lst vs)) ∧ (W.lay p (.lst vs)).Ok K M ∧ Rep K (W.lay p (.lst vs)).B (W.lay p (.lst vs)).ι (.ref p) (.lst ds) :=
  ⟨Wd.lay_le w hp, Wd.lay_ok w hp, .lst upd_same (r.le (Wd.lay_le w hp))⟩
theorem new_lst {W : Wd} {M : Mh} {p : Addr} {vs : List V} {ds : List D} (w : W.Ok K M) (hp : W.H p = none) (r : RepL K W.B W.ι vs ds) :
    W.Le (W.new p (.lst vs)) ∧ (W.new p (.lst vs)).Ok K (M ++ [.lst ds]) ∧ Rep K (W.new p (.lst vs)).B (W.new p (.lst vs)).ι (.ref p) (.ref M.length) :=
  ⟨Wd.new_le, Wd.new_ok w hp (.lst r), .ref (by
    show (W.ι ++ [p])[M.length]? = some p
    rw [← w.len]
    simp)⟩
theorem DE.tup {es : List Expr} {j pos} {g : AF} (a : DA X K es g) (hpl : ∀ i, (backTo pos (starEach es (X i).env)).any (·.1) = false := by intro _; rfl) : DE X K (.Tuple es j pos) (eTup g) := by
  obtain ⟨ta, pa, ra⟩ := a.go
  refine ⟨tTup ta, fun i => pe_tup (pa i), fun σ W δ M d M' Q w s e q => ?_⟩
  unfold eTup at e
  split at e
  · rename_i ds M1 h1
    split at e
    · rename_i hl
      cases e
      refine ra σ W δ M ds _ _ w s h1 fun vs W1 l1 w1 r1 => ⟨by rw [r1.len]; exact hl, fun p hp => ?_⟩
      obtain ⟨l2, w2, r2⟩ := lay_tup w1 hp r1
      exact q _ _ (l1.trans l2) w2 r2
    · cases e
  · cases e
theorem DE.lst {es : List Expr} {pos} {g : AF} (a : DA X K es g) : DE X K (.List es pos) (eLst g) := by
  obtain ⟨ta, pa, ra⟩ := a.go
  refine ⟨tLst ta, fun i => pe_lst (pa i), fun σ W δ M d M' Q w s e q => ?_⟩
  unfold eLst at e
  split at e
  · rename_i ds M1 h1
    split at e
    · rename_i hl
      cases e
      refine ra σ W δ M ds _ _ w s h1 fun vs W1 l1 w1 r1 => ⟨by rw [r1.len]; exact hl, fun p hp => ?_⟩
      obtain ⟨l2, w2, r2⟩ := lay_lst w1 hp r1
      exact q _ _ (l1.trans l2) w2 r2
    · cases e
  · cases e
theorem DE.new {es : List Expr} {pos} {g : AF} (a : DA X K es g) : DE X K (.List es pos) (eNew g) := by
  obtain ⟨ta, pa, ra⟩ := a.go
  refine ⟨tLst ta, fun i => pe_lst (pa i), fun σ W δ M d M' Q w s e q => ?_⟩
  unfold eNew at e
  split at e
  · rename_i ds M1 h1
    split at e
    · rename_i hl
      cases e
      refine ra σ W δ M ds _ _ w s h1 fun vs W1 l1 w1 r1 => ⟨by rw [r1.len]; exact hl, fun p hp => ?_⟩
      obtain ⟨l2, w2, r2⟩ := new_lst w1 hp r1
      exact q _ _ (l1.trans l2) w2 r2
    · cases e
  · cases e

/-! ### operators by values -/
abbrev O1 := D → Mh → Option (D × Mh)
abbrev O2 := D → D → Mh → Option (D × Mh)
def OD (K : PySem.W.Frag) (r : R2) (g : O2) : Prop := ∀ (W : Wd) (M : Mh) (x y : V) (a b : D) (z : D) (M' : Mh) (Q : VK), W.Ok K M → Rep K W.B W.ι x a → Rep K W.B W.ι y b → g a b M = some (z, M') → VR K W z M' Q → r x y W.H Q
def eOp (g : O2) (fa fb : EF) : EF := fun δ M => match fa δ M with
  | some (a, M1) => (match fb δ M1 with
    | some (b, M2) => g a b M2
    | none => none)
  | none => none
theorem er_op {r : R2} {g : O2} {ta tb : TE} {fa fb : EF} (o : OD K r g) (ra : ER K ta fa) (rb : ER K tb fb) : ER K (tOp r ta tb) (eOp g fa fb) := fun σ W δ M d M' Q w s e q => by
  unfold eOp at e
  split at e
  · rename_i a M1 h1
    split at e
    · rename_i b M2 h2
      refine ra σ W δ M a M1 _ w s h1 fun x W1 l1 w1 r1 => ?_
      refine rb σ W1 δ M1 b M2 _ w1 (s.le l1) h2 fun y W2 l2 w2 r2 => ?_
      exact o W2 M2 x y a b d M' Q w2 (r1.le l2) r2 e (q.le (l1.trans l2))
    · cases e
  · cases e
/-- a rule for an operator in every context -/
structure OpF (X : I → Cx) (K : PySem.W.Frag) (f : Value → Value → Sem Value) (g : O2) : Prop where
  go : ∃ r : R2, (∀ i, OpR (X i) f r) ∧ OD K r g
theorem DE.op {op : Operator} {a b : Expr} {pos} {g : O2} {fa fb : EF} (o : OpF X K (binaryOp op) g) (ha : DE X K a fa) (hb : DE X K b fb) : DE X K (.BinOp a op b pos) (eOp g fa fb) := by
  obtain ⟨r, ho, od⟩ := o.go
  obtain ⟨ta, pa, ra⟩ := ha.go
  obtain ⟨tb, pb, rb⟩ := hb.go
  exact ⟨_, fun i => pe_op (ho i) (pa i) (pb i), er_op od ra rb⟩
theorem DC.op {op : CmpOp} {a b : Expr} {pos} {g : O2} {fa fb : EF} (o : OpF X K (compareOp op) g) (ha : DE X K a fa) (hb : DE X K b fb) (hm : behindInMarks op b = false := by first | exact nomark _ | rfl) : DC X K (.Compare a [op] [b] pos) (eOp g fa fb) := by
  obtain ⟨r, ho, od⟩ := o.go
  obtain ⟨ta, pa, ra⟩ := ha.go
  obtain ⟨tb, pb, rb⟩ := hb.go
  exact ⟨_, fun i => pe_cmpR (ho i) (pa i) (pb i) hm, fun i => pt_cmpR (ho i) (pa i) (pb i) hm, er_op od ra rb⟩
/-- x < y < z -/
def eChain (g g' : O2) (fa fb fc : EF) : EF := fun δ M => match fa δ M with
  | some (a, M1) => (match fb δ M1 with
    | some (b, M2) => (match g a b M2 with
      | some (.bl true, M3) => (match fc δ M3 with
        | some (c, M4) => g' b c M4
        | none => none)
      | some (.bl false, M3) => some (.bl false, M3)
      | _ => none)
    | none => none)
  | none => none
theorem er_chain {r r' : R2} {g g' : O2} {ta tb tc : TE} {fa fb fc : EF} (o : OD K r g) (o' : OD K r' g') (ra : ER K ta fa) (rb : ER K tb fb) (rc : ER K tc fc) : ER K (tChain r r' ta tb tc) (eChain g g' fa fb fc) := fun σ W δ M d M' Q w s e q => by
  unfold eChain at e
  split at e
  · rename_i a M1 h1
    split at e
    · rename_i b M2 h2
      refine ra σ W δ M a M1 _ w s h1 fun x W1 l1 w1 r1 => ?_
      refine rb σ W1 δ M1 b M2 _ w1 (s.le l1) h2 fun y W2 l2 w2 r2 => ?_
      split at e
      · rename_i M3 h3
        split at e
        · rename_i c M4 h4
          refine o W2 M2 x y a b _ M3 _ w2 (r1.le l2) r2 h3 fun v W3 l3 w3 r3 => ?_
          cases r3
          refine ⟨true, rfl, ifT ?_⟩
          refine rc σ W3 δ M3 c M4 _ w3 (s.le ((l1.trans l2).trans l3)) h4 fun z W4 l4 w4 r4 => ?_
          exact o' W4 M4 y z b c d M' Q w4 (r2.le (l3.trans l4)) r4 e (q.le (((l1.trans l2).trans l3).trans l4))
        · cases e
      · rename_i M3 h3
        cases e
        refine o W2 M2 x y a b _ _ _ w2 (r1.le l2) r2 h3 fun v W3 l3 w3 r3 => ?_
        cases r3
        exact ⟨false, rfl, ifF (q _ W3 ((l1.trans l2).trans l3) w3 (.bl false))⟩
      · cases e
    · cases e
  · cases e
theorem DC.chain {op op' : CmpOp} {a b c : Expr} {pos} {g g' : O2} {fa fb fc : EF} (o : OpF X K (compareOp op) g) (o' : OpF X K (compareOp op') g') (ha : DE X K a fa) (hb : DE X K b fb) (hc : DE X K c fc) (hm : lastMarks [op, op'] [b, c] = false := by rfl) :
    DC X K (.Compare a [op, op'] [b, c] pos) (eChain g g' fa fb fc) := by
  obtain ⟨r, ho, od⟩ := o.go
  obtain ⟨r', ho', od'⟩ := o'.go
  obtain ⟨ta, pa, ra⟩ := ha.go
  obtain ⟨tb, pb, rb⟩ := hb.go
  obtain ⟨tc, pc, rc⟩ := hc.go
  exact ⟨_, fun i => pe_chain (ho i) (ho' i) (pa i) (pb i) (pc i) (hm := hm), fun i => pt_chain (ho i) (ho' i) (pa i) (pb i) (pc i) (hm := hm), er_chain od od' ra rb rc⟩
theorem DC.val {e : Expr} {f : EF} (h : DC X K e f) : DE X K e f := by
  obtain ⟨t, a, _, c⟩ := h.go
  exact ⟨t, a, c⟩
def tV (f : EF) : TF := fun δ M => match f δ M with
  | some (.bl b, M1) => some (b, M1)
  | _ => none
theorem tr_test {t : TE} {f : EF} (r : ER K t f) : TR K (tTest t) (tV f) := fun σ W δ M b M' Q w s e q => by
  unfold tV at e
  split at e
  · rename_i c M1 h1
    cases e
    refine r σ W δ M _ _ _ w s h1 fun v W1 l1 w1 r1 => ?_
    cases r1
    exact ⟨b, rfl, q W1 l1 w1⟩
  · cases e
theorem DC.test {e : Expr} {f : EF} (h : DC X K e f) : DT X K e (tV f) := by
  obtain ⟨t, _, b, c⟩ := h.go
  exact ⟨_, b, tr_test c⟩
theorem DE.test {e : Expr} {f : EF} (h : DE X K e f) (he : ∀ i whole, isTrue e (X i).env whole = (do let v ← whole; standAt e.pos; holding [v] (truthy v)) := by intro _ _; rfl) : DT X K e (tV f) := by
  obtain ⟨t, a, c⟩ := h.go
  exact ⟨_, fun i => pt_val (a i) (he i), tr_test c⟩
/-! ### and, or, not, if else -/
def tNt (f : TF) : TF := fun δ M => match f δ M with
  | some (b, M1) => some (!b, M1)
  | none => none
theorem DT.not {a : Expr} {pos} {f : TF} (h : DT X K a f) : DT X K (.UnaryOp .Not a pos) (tNt f) := by
  obtain ⟨t, p, r⟩ := h.go
  refine ⟨_, fun i => pt_not (p i), fun σ W δ M b M' Q w s e q => ?_⟩
  unfold tNt at e
  split at e
  · rename_i c M1 h1
    cases e
    exact r σ W δ M c _ _ w s h1 q
  · cases e
def tAn (f g : TF) : TF := fun δ M => match f δ M with
  | some (true, M1) => g δ M1
  | some (false, M1) => some (false, M1)
  | none => none
def tOrr (f g : TF) : TF := fun δ M => match f δ M with
  | some (true, M1) => some (true, M1)
  | some (false, M1) => g δ M1
  | none => none
theorem DW.and1 {a : Expr} {pos} {f : TF} (h : DT X K a f) : DW X K (.BoolOp .And [a] pos) f := by
  obtain ⟨t, p, r⟩ := h.go
  exact ⟨t, fun i => pw_and1 (p i), r⟩
theorem DW.or1 {a : Expr} {pos} {f : TF} (h : DT X K a f) : DW X K (.BoolOp .Or [a] pos) f := by
  obtain ⟨t, p, r⟩ := h.go
  exact ⟨t, fun i => pw_or1 (p i), r⟩
theorem DW.and {a b : Expr} {es : List Expr} {pos} {f g : TF} (h : DT X K a f) (h' : DW X K (.BoolOp .And (b :: es) pos) g) : DW X K (.BoolOp .And (a :: b :: es) pos) (tAn f g) := by
  obtain ⟨t, p, r⟩ := h.go
  obtain ⟨t', p', r'⟩ := h'.go
  refine ⟨_, fun i => pw_and (p i) (p' i), fun σ W δ M b M' Q w s e q => ?_⟩
  unfold tAn at e
  split at e
  · rename_i M1 h1
    refine r σ W δ M true M1 _ w s h1 fun W1 l1 w1 => ifT ?_
    exact r' σ W1 δ M1 b M' Q w1 (s.le l1) e fun W2 l2 w2 => q W2 (l1.trans l2) w2
  · rename_i M1 h1
    cases e
    exact r σ W δ M false _ _ w s h1 fun W1 l1 w1 => ifF (q W1 l1 w1)
  · cases e
theorem DW.or {a b : Expr} {es : List Expr} {pos} {f g : TF} (h : DT X K a f) (h' : DW X K (.BoolOp .Or (b :: es) pos) g) : DW X K (.BoolOp .Or (a :: b :: es) pos) (tOrr f g) := by
  obtain ⟨t, p, r⟩ := h.go
  obtain ⟨t', p', r'⟩ := h'.go
  refine ⟨_, fun i => pw_or (p i) (p' i), fun σ W δ M b M' Q w s e q => ?_⟩
  unfold tOrr at e
  split at e
  · rename_i M1 h1
    cases e
    exact r σ W δ M true _ _ w s h1 fun W1 l1 w1 => ifT (q W1 l1 w1)
  · rename_i M1 h1
    refine r σ W δ M false M1 _ w s h1 fun W1 l1 w1 => ifF ?_
    exact r' σ W1 δ M1 b M' Q w1 (s.le l1) e fun W2 l2 w2 => q W2 (l1.trans l2) w2
  · cases e
theorem DW.test {e : Expr} {f : TF} (h : DW X K e f) : DT X K e f := by
  obtain ⟨t, p, r⟩ := h.go
  exact ⟨t, fun i => PW.pt (p i), r⟩
def eIf (t : TF) (f g : EF) : EF := fun δ M => match t δ M with
  | some (true, M1) => f δ M1
  | some (false, M1) => g δ M1
  | none => none
theorem DE.ite {c a b : Expr} {pos} {t : TF} {f g : EF} (h : DT X K c t) (ha : DE X K a f) (hb : DE X K b g) : DE X K (.IfExp c a b pos) (eIf t f g) := by
  obtain ⟨tt, p, r⟩ := h.go
  obtain ⟨ta, pa, ra⟩ := ha.go
  obtain ⟨tb, pb, rb⟩ := hb.go
  refine ⟨_, fun i => pe_ifExp (p i) (pa i) (pb i), fun σ W δ M d M' Q w s e q => ?_⟩
  unfold eIf at e
  split at e
  · rename_i M1 h1
    exact r σ W δ M true M1 _ w s h1 fun W1 l1 w1 => ifT (ra σ W1 δ M1 d M' Q w1 (s.le l1) e (q.le l1))
  · rename_i M1 h1
    exact r σ W δ M false M1 _ w s h1 fun W1 l1 w1 => ifF (rb σ W1 δ M1 d M' Q w1 (s.le l1) e (q.le l1))
  · cases e
/-- not a, a and b, a or b as values, all of them True or False -/
def eNt (f : EF) : EF := fun δ M => match f δ M with
  | some (.bl b, M1) => some (.bl (!b), M1)
  | _ => none
def eAn (f g : EF) : EF := fun δ M => match f δ M with
  | some (.bl true, M1) => g δ M1
  | some (.bl false, M1) => some (.bl false, M1)
  | _ => none
def eOr (f g : EF) : EF := fun δ M => match f δ M with
  | some (.bl true, M1) => some (.bl true, M1)
  | some (.bl false, M1) => g δ M1
  | _ => none
theorem DE.not {a : Expr} {pos} {f : EF} (h : DE X K a f) (he : ∀ i whole, isTrue a (X i).env whole = (do let v ← whole; standAt a.pos; holding [v] (truthy v)) := by intro _ _; rfl) : DE X K (.UnaryOp .Not a pos) (eNt f) := by
  obtain ⟨t, p, r⟩ := h.go
  refine ⟨_, fun i => pe_not (p i), fun σ W δ M d M' Q w s e q => ?_⟩
  unfold eNt at e
  split at e
  · rename_i b M1 h1
    cases e
    refine r σ W δ M _ _ _ w s h1 fun v W1 l1 w1 r1 => ?_
    cases r1
    exact ⟨b, rfl, q _ W1 l1 w1 (.bl _)⟩
  · cases e
theorem DE.one {op : BoolOp} {a : Expr} {pos} {f : EF} (h : DE X K a f) : DE X K (.BoolOp op [a] pos) f := by
  obtain ⟨t, p, r⟩ := h.go
  exact ⟨t, fun i => pe_one (p i), r⟩
theorem DE.and {a b : Expr} {es : List Expr} {pos} {f g : EF} (h : DE X K a f) (h' : DE X K (.BoolOp .And (b :: es) pos) g) : DE X K (.BoolOp .And (a :: b :: es) pos) (eAn f g) := by
  obtain ⟨t, p, r⟩ := h.go
  obtain ⟨t', p', r'⟩ := h'.go
  refine ⟨_, fun i => pe_and (p i) (p' i), fun σ W δ M d M' Q w s e q => ?_⟩
  unfold eAn at e
  split at e
  · rename_i M1 h1
    refine r σ W δ M _ M1 _ w s h1 fun v W1 l1 w1 r1 => ?_
    cases r1
    exact ⟨true, rfl, ifT (r' σ W1 δ M1 d M' Q w1 (s.le l1) e (q.le l1))⟩
  · rename_i M1 h1
    cases e
    refine r σ W δ M _ _ _ w s h1 fun v W1 l1 w1 r1 => ?_
    cases r1
    exact ⟨false, rfl, ifF (q _ W1 l1 w1 (.bl _))⟩
  · cases e
theorem DE.or {a b : Expr} {es : List Expr} {pos} {f g : EF} (h : DE X K a f) (h' : DE X K (.BoolOp .Or (b :: es) pos) g) : DE X K (.BoolOp .Or (a :: b :: es) pos) (eOr f g) := by
  obtain ⟨t, p, r⟩ := h.go
  obtain ⟨t', p', r'⟩ := h'.go
  refine ⟨_, fun i => pe_or (p i) (p' i), fun σ W δ M d M' Q w s e q => ?_⟩
  unfold eOr at e
  split at e
  · rename_i M1 h1
    cases e
    refine r σ W δ M _ _ _ w s h1 fun v W1 l1 w1 r1 => ?_
    cases r1
    exact ⟨true, rfl, ifT (q _ W1 l1 w1 (.bl _))⟩
  · rename_i M1 h1
    refine r σ W δ M _ M1 _ w s h1 fun v W1 l1 w1 r1 => ?_
    cases r1
    exact ⟨false, rfl, ifF (r' σ W1 δ M1 d M' Q w1 (s.le l1) e (q.le l1))⟩
  · cases e
end
end Pl

namespace Pl
open PySem L2
section
variable {I : Type} {X : I → Cx} {P : Program} {w : World} {K : PySem.W.Frag} {mg : Str → Option Value} {base : Heap} {k : Nat}

/-! ### blocks and statements -/
def sNil : SF := fun δ M => some (.nx δ M)
def sSeq (f g : SF) : SF := fun δ M => match f δ M with
  | some (.nx δ' M') => g δ' M'
  | o => o
theorem DB.nil : DB X K [] sNil := ⟨tNext, fun i => pss_nil, fun σ W δ M o E w s e q => by
  cases e
  exact q σ W (.refl W) w s⟩
theorem DB.cons {s : Stmt} {ss : List Stmt} {f g : SF} (a : DS X K s f) (b : DB X K ss g) : DB X K (s :: ss) (sSeq f g) := by
  obtain ⟨ta, pa, ra⟩ := a.go
  obtain ⟨tb, pb, rb⟩ := b.go
  refine ⟨tSeq ta tb, fun i => pss_cons (pa i) (pb i), fun σ W δ M o E w s e q => ?_⟩
  unfold sSeq at e
  split at e
  · rename_i δ' M' h1
    refine ra σ W δ M _ _ w s h1 fun σ' W1 l1 w1 s1 => ?_
    exact rb σ' W1 δ' M' o E w1 s1 e (q.le l1)
  · rename_i hn
    refine ra σ W δ M o _ w s e ?_
    cases o with
    | nx δ' M' => exact absurd e (hn δ' M')
    | bk _ _ => exact q
    | ct _ _ => exact q
    | rt _ _ => exact q
theorem DB.one {s : Stmt} {f : SF} (a : DS X K s f) : DB X K [s] f := by
  obtain ⟨ta, pa, ra⟩ := a.go
  exact ⟨ta, fun i => pss_one (pa i), ra⟩
theorem DS.pass {pos} : DS X K (.Pass pos) sNil := ⟨tNext, fun i => ps_pass, fun σ W δ M o E w s e q => by
  cases e
  exact q σ W (.refl W) w s⟩
theorem DS.brk {pos} : DS X K (.Break pos) (fun δ M => some (.bk δ M)) := ⟨tBreak, fun i => ps_break, fun σ W δ M o E w s e q => by
  cases e
  exact q σ W (.refl W) w s⟩
theorem DS.cont {pos} : DS X K (.Continue pos) (fun δ M => some (.ct δ M)) := ⟨tCont, fun i => ps_continue, fun σ W δ M o E w s e q => by
  cases e
  exact q σ W (.refl W) w s⟩
def sE (f : EF) : SF := fun δ M => match f δ M with
  | some (_, M') => some (.nx δ M')
  | none => none
theorem DS.expr {e : Expr} {pos} {f : EF} (a : DE X K e f) (hs : ∀ i, swapsWith e none pos.line (X i).env = pure false := by intro _; rfl) : DS X K (.Expr e pos) (sE f) := by
  obtain ⟨ta, pa, ra⟩ := a.go
  refine ⟨tDrop ta, fun i => ps_expr (pa i) (hs i), fun σ W δ M o E w s e q => ?_⟩
  unfold sE at e
  split at e
  · rename_i d M' h1
    cases e
    exact ra σ W δ M _ _ _ w s h1 fun v W1 l1 w1 r1 => q σ W1 l1 w1 (s.le l1)
  · cases e
def sRet (f : EF) : SF := fun δ M => match f δ M with
  | some (d, M') => some (.rt d M')
  | none => none
theorem DS.ret {e : Expr} {pos} {f : EF} (a : DE X K e f) : DS X K (.Return (some e) pos) (sRet f) := by
  obtain ⟨ta, pa, ra⟩ := a.go
  refine ⟨tRet ta, fun i => ps_ret (pa i), fun σ W δ M o E w s e q => ?_⟩
  unfold sRet at e
  split at e
  · rename_i d M' h1
    cases e
    exact ra σ W δ M _ _ _ w s h1 q
  · cases e
theorem DS.retN {pos} : DS X K (.Return none pos) (sRet (eC .non)) := ⟨tRetN, fun i => ps_retN, fun σ W δ M o E w s e q => by
  cases e
  exact q .non W (.refl W) w .non⟩
def sIf (t : TF) (f g : SF) : SF := fun δ M => match t δ M with
  | some (true, M1) => f δ M1
  | some (false, M1) => g δ M1
  | none => none
theorem DS.ite {c : Expr} {a b : List Stmt} {pos} {t : TF} {f g : SF} (h : DT X K c t) (ha : DB X K a f) (hb : DB X K b g) : DS X K (.If c a b pos) (sIf t f g) := by
  obtain ⟨tt, p, r⟩ := h.go
  obtain ⟨ta, pa, ra⟩ := ha.go
  obtain ⟨tb, pb, rb⟩ := hb.go
  refine ⟨_, fun i => ps_if (p i) (pa i) (pb i), fun σ W δ M o E w s e q => ?_⟩
  unfold sIf at e
  split at e
  · rename_i M1 h1
    exact r σ W δ M true M1 _ w s h1 fun W1 l1 w1 => ifT (ra σ W1 δ M1 o E w1 (s.le l1) e (q.le l1))
  · rename_i M1 h1
    exact r σ W δ M false M1 _ w s h1 fun W1 l1 w1 => ifF (rb σ W1 δ M1 o E w1 (s.le l1) e (q.le l1))
  · cases e

/-! ### targets -/
def GR (K : PySem.W.Frag) (t : TG) (f : GF) (sl : List Nat) : Prop := ∀ (v : V) (d : D) (σ : St) (W : Wd) (δ δ' : Env) (M : Mh) (Q : St → Hp → Prop), W.Ok K M → Slots K W σ δ → Rep K W.B W.ι v d → f d δ = some δ' →
  (∀ σ', Slots K W σ' δ' → (∀ vs : List Nat, (∀ j ∈ sl, j ∈ vs) → wipe σ' vs = wipe σ vs) → Q σ' W.H) → t v σ W.H Q
def GRs (K : PySem.W.Frag) (t : TGs) (f : List D → Env → Option Env) (sl : List Nat) : Prop := ∀ (v : List V) (d : List D) (σ : St) (W : Wd) (δ δ' : Env) (M : Mh) (Q : St → Hp → Prop), W.Ok K M → Slots K W σ δ → RepL K W.B W.ι v d → f d δ = some δ' →
  (∀ σ', Slots K W σ' δ' → (∀ vs : List Nat, (∀ j ∈ sl, j ∈ vs) → wipe σ' vs = wipe σ vs) → Q σ' W.H) → t v σ W.H Q
structure DG (X : I → Cx) (K : PySem.W.Frag) (tg : Expr) (f : GF) (sl : List Nat) : Prop where
  go : ∃ t : TG, (∀ i, PG (X i) tg t) ∧ GR K t f sl
structure DGs (X : I → Cx) (K : PySem.W.Frag) (tg : List Expr) (f : List D → Env → Option Env) (sl : List Nat) (n : Nat) : Prop where
  go : ∃ t : TGs, (∀ i, PGs (X i) tg t) ∧ GRs K t f sl
  len : ∀ ds δ δ', f ds δ = some δ' → ds.length = n
theorem wipe_set (σ : St) (o : Option V) (i : Nat) : ∀ vs : List Nat, (i ∈ vs → wipe (σ.set i o) vs = wipe σ vs) ∧ (i ∉ vs → wipe (σ.set i o) vs = (wipe σ vs).set i o)
  | [] => ⟨fun h => absurd h (by simp), fun _ => rfl⟩
  | v :: vs => by
    obtain ⟨h1, h2⟩ := wipe_set σ o i vs
    refine ⟨fun h => ?_, fun h => ?_⟩
    · show (wipe (σ.set i o) vs).set v none = (wipe σ vs).set v none
      by_cases hm : i ∈ vs
      · rw [h1 hm]
      · have e : i = v := by
          rcases List.mem_cons.mp h with e | e
          · exact e
          · exact absurd e hm
        rw [h2 hm, ← e, List.set_set]
    · show (wipe (σ.set i o) vs).set v none = ((wipe σ vs).set v none).set i o
      have hv : i ≠ v := fun e => h (by rw [e]; exact List.mem_cons_self)
      rw [h2 fun z => h (List.mem_cons_of_mem _ z), List.set_comm _ _ hv]
def gN (i : Nat) : GF := fun d δ => some (δ.set i (some d))
theorem DG.name (j : Nat) {x : Str} {pos} (hN : ∀ i, (X i).N.Nodup) (hi : ∀ i, (X i).N[j]? = some x := by intro _; rfl) (hx : ∀ i, Loc (X i).env.scope x := by intro _; first | exact Or.inl rfl | exact Or.inr rfl)
    (hf : ∀ i, (X i).fn x = true ∨ (X i).env.scope.names.lookup x = some .local := by intro _; first | exact Or.inl rfl | exact Or.inr rfl) : DG X K (.Name x pos) (gN j) [j] :=
  ⟨gName j, fun i => pg_name (hN i) (hi i) (hx i) (hf i), fun v d σ W δ δ' M Q w s r e q => by
    cases e
    exact q _ (s.set r j) fun vs h => (wipe_set σ _ j vs).1 (h j List.mem_cons_self)⟩
def gsNil : List D → Env → Option Env := fun ds δ => match ds with
  | [] => some δ
  | _ => none
def gsCons (f : GF) (g : List D → Env → Option Env) : List D → Env → Option Env := fun ds δ => match ds with
  | [] => none
  | d :: r => (match f d δ with
    | some δ1 => g r δ1
    | none => none)
theorem DGs.nil : DGs X K [] gsNil [] 0 := ⟨⟨gNil, fun i => pgs_nil, fun v d σ W δ δ' M Q w s r e q => by
  cases r with
  | nil =>
    cases e
    exact ⟨rfl, q σ s fun _ _ => rfl⟩
  | cons _ _ => cases e⟩, fun ds δ δ' h => by
    cases ds with
    | nil => rfl
    | cons _ _ => cases h⟩
theorem DGs.cons {e : Expr} {es : List Expr} {f : GF} {g : List D → Env → Option Env} {sl sm : List Nat} {n : Nat} (a : DG X K e f sl) (b : DGs X K es g sm n)
    (hs : ∀ i, (assignEach (e :: es) (X i).env).map (·.2) = assign e (X i).env :: (assignEach es (X i).env).map (·.2) := by intro _; rfl) : DGs X K (e :: es) (gsCons f g) (sl ++ sm) (n + 1) := by
  obtain ⟨ta, pa, ra⟩ := a.go
  obtain ⟨tb, pb, rb⟩ := b.go
  refine ⟨⟨gCons ta tb, fun i => pgs_cons (pa i) (pb i) (hs i), fun v d σ W δ δ' M Q w s r e q => ?_⟩, fun ds δ δ' h => ?_⟩
  · cases r with
    | nil => cases e
    | cons r1 r2 =>
      have e' : (match f _ δ with
        | some δ1 => g _ δ1
        | none => none) = some δ' := e
      split at e'
      · rename_i δ1 h1
        refine ⟨_, _, rfl, ra _ _ σ W δ δ1 M _ w s r1 h1 fun σ1 s1 k1 => ?_⟩
        refine rb _ _ σ1 W δ1 δ' M _ w s1 r2 e' fun σ2 s2 k2 => ?_
        exact q σ2 s2 fun vs hv => (k2 vs fun j hj => hv j (List.mem_append_right _ hj)).trans (k1 vs fun j hj => hv j (List.mem_append_left _ hj))
      · cases e'
  · cases ds with
    | nil => cases h
    | cons d r =>
      have h' : (match f d δ with
        | some δ1 => g r δ1
        | none => none) = some δ' := h
      split at h'
      · exact congrArg (· + 1) (b.len _ _ _ h')
      · cases h'
def gTp (f : List D → Env → Option Env) : GF := fun d δ => match d with
  | .tup ds => f ds δ
  | .lst ds => f ds δ
  | .lsk ds => f ds δ
  | _ => none
theorem pg_or {Y : Cx} {tg : Expr} {t u : TG} (a : PG Y tg t) (b : PG Y tg u) : PG Y tg (fun v σ H Q => t v σ H Q ∨ u v σ H Q) := ⟨fun pins s σ H v us Q I r h => by
  rcases h with h | h
  · exact a.run pins s σ H v us Q I r h
  · exact b.run pins s σ H v us Q I r h⟩
/-- a list's own rule -/
structure UnlR (X : I → Cx) (K : PySem.W.Frag) : Prop where
  run : ∀ (es : List Expr) (k : Nat) (pos : Pos) (t : TGs) (n : Nat), (∀ i, PGs (X i) es t) → (∀ i, (assignEach es (X i).env).length = n) → (∀ i, (assignEach es (X i).env).findIdx? (·.1) = none) → ∀ i, PG (X i) (.Tuple es k pos) (gUnl K n t)
theorem DG.tup (c : Ctx X P w K mg base k) {es : List Expr} {m : Nat} {pos} {f : List D → Env → Option Env} {sl : List Nat} {n : Nat} (a : DGs X K es f sl n) (hn : ∀ i, (assignEach es (X i).env).length = n := by intro _; rfl)
    (hst : ∀ i, (assignEach es (X i).env).findIdx? (·.1) = none := by intro _; rfl) : DG X K (.Tuple es m pos) (gTp f) sl := by
  obtain ⟨ta, pa, ra⟩ := a.go
  refine ⟨fun v σ H Q => gTup K n ta v σ H Q ∨ gUnl K n ta v σ H Q, fun i => ?_, fun v d σ W δ δ' M Q w s r e q => ?_⟩
  · have h1 := pg_tup (c.calm i) (pa i) (hn i) (hst i) (k := m) (pos := pos)
    have h2 := pg_unl (c.calm i) (pa i) (hn i) (hst i) (k := m) (pos := pos)
    rw [c.K i] at h1 h2
    exact pg_or h1 h2
  · cases r with
    | tup h r =>
      have e' : f _ δ = some δ' := e
      exact .inl ⟨_, _, rfl, sqT_mono w.sub h, by rw [r.len]; exact a.len _ _ _ e', ra _ _ σ W δ δ' M Q w s r e' q⟩
    | lst h r =>
      have e' : f _ δ = some δ' := e
      exact .inr ⟨_, _, rfl, .inl (.inl (w.sub _ _ h)), by rw [r.len]; exact a.len _ _ _ e', ra _ _ σ W δ δ' M Q w s r e' q⟩
    | lsk h r =>
      have e' : f _ δ = some δ' := e
      exact .inr ⟨_, _, rfl, sqL_mono w.sub h, by rw [r.len]; exact a.len _ _ _ e', ra _ _ σ W δ δ' M Q w s r e' q⟩
    | _ => cases e
/-! ### assignments -/
def sAs (f : EF) (g : GF) : SF := fun δ M => match f δ M with
  | some (d, M1) => (match g d δ with
    | some δ' => some (.nx δ' M1)
    | none => none)
  | none => none
theorem sr_as {te : TE} {t : TG} {f : EF} {g : GF} {sl : List Nat} (re : ER K te f) (rg : GR K t g sl) : SR K (tAsg te t) (sAs f g) := fun σ W δ M o E w s e q => by
  unfold sAs at e
  split at e
  · rename_i d M1 h1
    split at e
    · rename_i δ' h2
      cases e
      refine re σ W δ M d _ _ w s h1 fun v W1 l1 w1 r1 => ?_
      exact rg v d σ W1 δ δ' _ _ w1 (s.le l1) r1 h2 fun σ' s' _ => q σ' W1 l1 w1 s'
    · cases e
  · cases e
theorem DS.set (j : Nat) {x : Str} {e : Expr} {pos pos'} {f : EF} (a : DE X K e f) (hN : ∀ i, (X i).N.Nodup) (hi : ∀ i, (X i).N[j]? = some x := by intro _; rfl) (hx : ∀ i, Loc (X i).env.scope x := by intro _; first | exact Or.inl rfl | exact Or.inr rfl)
    (hs : ∀ i, swapsWith e (some (.Name x pos')) pos.line (X i).env = pure false := by intro _; rfl) (hf : ∀ i, (X i).fn x = true ∨ (X i).env.scope.names.lookup x = some .local := by intro _; first | exact Or.inl rfl | exact Or.inr rfl) :
    DS X K (.Assign [.Name x pos'] e pos) (sAs f (gN j)) := by
  obtain ⟨t, p, r⟩ := a.go
  obtain ⟨tg, _, rg⟩ := (⟨gName j, fun i => pg_name (hN i) (hi i) (hx i) (hf i), fun v d σ W δ δ' M Q w s r e q => by
    cases e
    exact q _ (s.set r j) fun vs h => (wipe_set σ _ j vs).1 (h j List.mem_cons_self)⟩ : ∃ t : TG, (∀ i, PG (X i) (.Name x pos') t) ∧ GR K t (gN j) [j])
  refine ⟨tAsg t (gName j), fun i => ps_set (hN i) (hi i) (hx i) (p i) (hs i) (hf i), sr_as r (sl := [j]) fun v d σ W δ δ' M Q w s r e q => ?_⟩
  cases e
  exact q _ (s.set r j) fun vs h => (wipe_set σ _ j vs).1 (h j List.mem_cons_self)
theorem DS.asg {tg e : Expr} {pos} {f : EF} {g : GF} {sl : List Nat} (a : DE X K e f) (b : DG X K tg g sl) (hs : ∀ i, swapsWithSole [tg] e pos.line (X i).env = pure false := by intro _; rfl) (hw : ∀ i, swappedStores [tg] e (X i).env = pure none := by intro _; rfl)
    (h1 : ∀ i, (assignEach [tg] (X i).env).map (·.2) = [assign tg (X i).env] := by intro _; rfl) : DS X K (.Assign [tg] e pos) (sAs f g) := by
  obtain ⟨t, p, r⟩ := a.go
  obtain ⟨tg, pg, rg⟩ := b.go
  exact ⟨_, fun i => ps_asg (p i) (pg i) (hs i) (hw i) (h1 i), sr_as r rg⟩
def sPar (i j : Nat) (f g : EF) : SF := fun δ M => match f δ M with
  | some (d, M1) => (match g δ M1 with
    | some (e, M2) => some (.nx ((δ.set i (some d)).set j (some e)) M2)
    | none => none)
  | none => none
theorem DS.par (a b : Nat) {x y : Str} {e1 e2 : Expr} {f g : EF} {px py pt : Pos} {kt k2 pt2 pos} (c : Ctx X P w K mg base k) (h1 : DE X K e1 f) (h2 : DE X K e2 g) (hN : ∀ i, (X i).N.Nodup) (hi : ∀ i, (X i).N[a]? = some x := by intro _; rfl) (hj : ∀ i, (X i).N[b]? = some y := by intro _; rfl)
    (hij : a ≠ b := by decide) (hx : ∀ i, (X i).env.scope.names.lookup x = some .local := by intro _; rfl) (hy : ∀ i, (X i).env.scope.names.lookup y = some .local := by intro _; rfl)
    (hw : ∀ i, swappedStores [.Tuple [.Name x px, .Name y py] kt pt] (.Tuple [e1, e2] k2 pt2) (X i).env = pure (some [x, y]) := by intro _; rfl)
    (hs : ∀ i, swapsWithSole [.Tuple [.Name x px, .Name y py] kt pt] (.Tuple [e1, e2] k2 pt2) pos.line (X i).env = pure false := by intro _; rfl)
    (he1 : ∀ i, starEach [e1, e2] (X i).env = (false, eval e1 (X i).env) :: starEach [e2] (X i).env := by intro _; rfl) (he2 : ∀ i, starEach [e2] (X i).env = (false, eval e2 (X i).env) :: starEach [] (X i).env := by intro _; rfl) :
    DS X K (.Assign [.Tuple [.Name x px, .Name y py] kt pt] (.Tuple [e1, e2] k2 pt2) pos) (sPar a b f g) := by
  obtain ⟨ta, pa, ra⟩ := h1.go
  obtain ⟨tb, pb, rb⟩ := h2.go
  refine ⟨tPar a b (tCons ta (tCons tb tNil)), fun i => ps_par (c.calm i) (hN i) (hi i) (hj i) hij (hx i) (hy i) (pa_cons (pa i) (pa_cons (pb i) pa_nil (he2 i)) (he1 i)) (hw i) (hs i), fun σ W δ M o E w s e q => ?_⟩
  unfold sPar at e
  split at e
  · rename_i d M1 h1
    split at e
    · rename_i d2 M2 h2
      cases e
      refine ra σ W δ M d M1 _ w s h1 fun v W1 l1 w1 r1 => ?_
      refine rb σ W1 δ M1 d2 _ _ w1 (s.le l1) h2 fun u W2 l2 w2 r2 => ?_
      exact ⟨v, u, rfl, q _ W2 (l1.trans l2) w2 (((s.le (l1.trans l2)).set (r1.le l2) a).set r2 b)⟩
    · cases e
  · cases e

/-! ### what is walked -/
/-- from W0 on an iterator gives ds -/
def Wk (K : PySem.W.Frag) (J : It) (W0 : Wd) (ds : List D) : Prop := ∀ (i : Nat) (W : Wd) (M : Mh), W0.Lo W → W.Ok K M →
  (ds[i]? = none → J.stop i W.H) ∧ (∀ d, ds[i]? = some d → J.go i W.H ∧ ∀ x H', J.yld i W.H x H' → ∃ W', W'.H = H' ∧ W.Le W' ∧ W'.Ok K M ∧ Rep K W'.B W'.ι x d)
structure DI (X : I → Cx) (K : PySem.W.Frag) (tg iter : Expr) (f : AF) : Prop where
  go : ∃ t : TI, (∀ i, PI (X i) tg iter t) ∧ ∀ (σ : St) (W : Wd) (δ : Env) (M : Mh) (ds : List D) (M' : Mh) (R : It → Hp → Prop), W.Ok K M → Slots K W σ δ → f δ M = some (ds, M') → (∀ J W', W.Le W' → W'.Ok K M' → Wk K J W' ds → R J W'.H) → t σ W.H R
theorem wk_list {W0 : Wd} {a : Addr} {vs : List V} {ds : List D} (h : SqL K W0.B a vs) (r : RepL K W0.B W0.ι vs ds) : Wk K (Itl K a) W0 ds := fun i W M l w => by
  have hs : SqL K W.H a vs := sqL_mono w.sub (sqL_mono l.same h)
  have r' := r.mono l.same l.ix
  refine ⟨fun e => ⟨vs, hs, by rw [r.len]; exact List.getElem?_eq_none_iff.mp e⟩, fun d e => ?_⟩
  obtain ⟨v, h1, h2⟩ := r'.get e
  refine ⟨⟨vs, v, hs, h1⟩, fun x H' y => ?_⟩
  obtain ⟨e1, e2⟩ := y
  have e3 := (e2 vs hs).symm.trans h1
  cases e3
  exact ⟨W, e1.symm, .refl W, w, h2⟩
theorem wk_tup {W0 : Wd} {a : Addr} {vs : List V} {ds : List D} (h : SqT K W0.B a vs) (r : RepL K W0.B W0.ι vs ds) : Wk K (Itt K a) W0 ds := fun i W M l w => by
  have hs : SqT K W.H a vs := sqT_mono w.sub (sqT_mono l.same h)
  have r' := r.mono l.same l.ix
  refine ⟨fun e => ⟨vs, hs, by rw [r.len]; exact List.getElem?_eq_none_iff.mp e⟩, fun d e => ?_⟩
  obtain ⟨v, h1, h2⟩ := r'.get e
  refine ⟨⟨vs, v, hs, h1⟩, fun x H' y => ?_⟩
  obtain ⟨e1, e2⟩ := y
  have e3 := (e2 vs hs).symm.trans h1
  cases e3
  exact ⟨W, e1.symm, .refl W, w, h2⟩
def aItems (f : EF) : AF := fun δ M => match f δ M with
  | some (.lst ds, M1) => some (ds, M1)
  | some (.lsk ds, M1) => some (ds, M1)
  | some (.tup ds, M1) => some (ds, M1)
  | _ => none
theorem pi_or {Y : Cx} {tg e : Expr} {t u : TI} (a : PI Y tg e t) (b : PI Y tg e u) : PI Y tg e (fun σ H R => t σ H R ∨ u σ H R) := ⟨fun pins s σ H R I h => by
  rcases h with h | h
  · exact a.run pins s σ H R I h
  · exact b.run pins s σ H R I h⟩
theorem DI.seq (c : Ctx X P w K mg base k) {tg e : Expr} {f : EF} (a : DE X K e f) : DI X K tg e (aItems f) := by
  obtain ⟨t, p, r⟩ := a.go
  refine ⟨fun σ H R => iList K t σ H R ∨ iTup K t σ H R, fun i => ?_, fun σ W δ M ds M' R w s e q => ?_⟩
  · have h1 := pi_list (tg := tg) (p i)
    have h2 := pi_tup (tg := tg) (p i)
    rw [c.K i] at h1 h2
    exact pi_or h1 h2
  · unfold aItems at e
    split at e
    · rename_i es M1 h
      cases e
      refine .inl (r σ W δ M _ _ _ w s h fun v W1 l1 w1 r1 => ?_)
      cases r1 with
      | lst h1 r1 => exact ⟨_, rfl, ⟨_, .inl (.inl (w1.sub _ _ h1))⟩, q _ W1 l1 w1 (wk_list (.inl (.inl h1)) r1)⟩
    · rename_i es M1 h
      cases e
      refine .inl (r σ W δ M _ _ _ w s h fun v W1 l1 w1 r1 => ?_)
      cases r1 with
      | lsk h1 r1 => exact ⟨_, rfl, ⟨_, sqL_mono w1.sub h1⟩, q _ W1 l1 w1 (wk_list h1 r1)⟩
    · rename_i es M1 h
      cases e
      refine .inr (r σ W δ M _ _ _ w s h fun v W1 l1 w1 r1 => ?_)
      cases r1 with
      | tup h1 r1 => exact ⟨_, rfl, ⟨_, sqT_mono w1.sub h1⟩, q _ W1 l1 w1 (wk_tup h1 r1)⟩
    · cases e
/-- lo, lo + 1, .. below hi -/
def rng (lo hi : Int) : List D := (List.range (hi - lo).toNat).map fun i => .int (lo + (i : Nat))
theorem wk_rng {W0 : Wd} {lo hi : Int} : Wk K (Itr lo (hi - lo).toNat) W0 (rng lo hi) := fun i W M l w => by
  refine ⟨fun e => ?_, fun d e => ?_⟩
  · have h := List.getElem?_eq_none_iff.mp e
    rw [show (rng lo hi).length = (hi - lo).toNat by simp [rng]] at h
    exact h
  · have h := (List.getElem?_eq_some_iff.mp e).1
    rw [show (rng lo hi).length = (hi - lo).toNat by simp [rng]] at h
    refine ⟨h, fun x H' y => ?_⟩
    obtain ⟨e1, e2⟩ := y
    subst e2
    have e3 : d = .int (lo + (i : Nat)) := by
      unfold rng at e
      rw [List.getElem?_map, List.getElem?_range h] at e
      exact (Option.some.inj e).symm
    subst e3
    exact ⟨W, e1.symm, .refl W, w, .int _⟩
def aRng1 (f : AF) : AF := fun δ M => match f δ M with
  | some ([.int j], M1) => if -(2 ^ 62) ≤ j ∧ j < 2 ^ 62 then some (rng 0 j, M1) else none
  | _ => none
def aRng2 (f : AF) : AF := fun δ M => match f δ M with
  | some ([.int i, .int j], M1) => if -(2 ^ 62) ≤ i ∧ i < 2 ^ 62 ∧ -(2 ^ 62) ≤ j ∧ j < 2 ^ 62 then some (rng i j, M1) else none
  | _ => none
theorem DI.rng1 (c : Ctx X P w K mg base k) (hm : mg "range" = none) {tg a : Expr} {p pos : Pos} {f : AF} (h : DA X K [a] f) (hg : ∀ i, Gl (X i) "range" := by intro _; rfl) (hs : ∀ i, starEach [a] (X i).env = [(false, eval a (X i).env)] := by intro _; rfl) :
    DI X K tg (.Call (.Name "range" p) [a] [] pos) (aRng1 f) := by
  obtain ⟨t, pa, r⟩ := h.go
  refine ⟨iRng1 t, fun i => pi_range1 (hg i) (by rw [c.mg i]; exact hm) (pa i) (hs i), fun σ W δ M ds M' R w s e q => ?_⟩
  unfold aRng1 at e
  split at e
  · rename_i j M1 h1
    split at e
    · rename_i hb
      cases e
      refine r σ W δ M _ _ _ w s h1 fun v W1 l1 w1 r1 => ?_
      cases r1 with
      | cons r1 r2 =>
        cases r1
        cases r2
        refine ⟨j, rfl, hb.1, hb.2, ?_⟩
        have := q (Itr 0 (j - 0).toNat) W1 l1 w1 wk_rng
        rw [Int.sub_zero] at this
        exact this
    · cases e
  · cases e
theorem DI.rng2 (c : Ctx X P w K mg base k) (hm : mg "range" = none) {tg a b : Expr} {p pos : Pos} {f : AF} (h : DA X K [a, b] f) (hg : ∀ i, Gl (X i) "range" := by intro _; rfl) (hs : ∀ i, starEach [a, b] (X i).env = [(false, eval a (X i).env), (false, eval b (X i).env)] := by intro _; rfl)
    (hs2 : ∀ i, starEach [b] (X i).env = [(false, eval b (X i).env)] := by intro _; rfl) :
    DI X K tg (.Call (.Name "range" p) [a, b] [] pos) (aRng2 f) := by
  obtain ⟨t, pa, r⟩ := h.go
  refine ⟨iRng2 t, fun i => pi_range2 (hg i) (by rw [c.mg i]; exact hm) (pa i) (hs i) (hs2 i), fun σ W δ M ds M' R w s e q => ?_⟩
  unfold aRng2 at e
  split at e
  · rename_i i j M1 h1
    split at e
    · rename_i hb
      cases e
      refine r σ W δ M _ _ _ w s h1 fun v W1 l1 w1 r1 => ?_
      cases r1 with
      | cons r1 r2 =>
        cases r1
        cases r2 with
        | cons r2 r3 =>
          cases r2
          cases r3
          exact ⟨i, j, rfl, hb, q (Itr i (j - i).toNat) W1 l1 w1 wk_rng⟩
    · cases e
  · cases e

/-! ### for -/
def forGo (g : GF) (b : SF) : List D → Env → Mh → Option Out
  | [], δ, M => some (.nx δ M)
  | x :: xs, δ, M => match g x δ with
    | none => none
    | some δ1 => match b δ1 M with
      | some (.nx δ' M') => forGo g b xs δ' M'
      | some (.ct δ' M') => forGo g b xs δ' M'
      | some (.bk δ' M') => some (.nx δ' M')
      | some (.rt d M') => some (.rt d M')
      | none => none
def sFor (a : AF) (g : GF) (b : SF) : SF := fun δ M => match a δ M with
  | some (ds, M1) => forGo g b ds δ M1
  | none => none
theorem DS.for (c : Ctx X P w K mg base k) {tg iter : Expr} {body : List Stmt} {pos} {a : AF} {g : GF} {b : SF} {sl : List Nat} (hp : ∀ i, PassesOwn (model (X i).prog (X i).w) (X i).A (X i).env (X i).xe) (hi : DI X K tg iter a) (hg : DG X K tg g sl) (hb : DB X K body b)
    (hs : ∀ i x, foldedSetIterable iter (X i).env x = pure x := by intro _ _; rfl) : DS X K (.For tg iter body [] pos) (sFor a g b) := by
  obtain ⟨ti, pi, ri⟩ := hi.go
  obtain ⟨tg, pg, rg⟩ := hg.go
  obtain ⟨tb, pb, rb⟩ := hb.go
  refine ⟨tFor ti tg tb, fun i => ps_for (hp i) (c.calm i) (pi i) (pg i) (pb i) (hs i), fun σ W δ M o E w s e q => ?_⟩
  unfold sFor at e
  split at e
  · rename_i ds M1 h1
    refine ri σ W δ M ds M1 _ w s h1 fun J W1 l1 w1 wk => ?_
    refine ⟨fun i m σ' H => ∃ W' δ' M', W'.H = H ∧ W1.Le W' ∧ W'.Ok K M' ∧ Slots K W' σ' δ' ∧ i + m = ds.length ∧ forGo g b (ds.drop i) δ' M' = some o, ⟨ds.length, W1, δ, M1, rfl, .refl W1, w1, s.le l1, by omega, e⟩, ?_⟩
    rintro i m σ' H ⟨W', δ', M', rfl, l', w', s', em, e'⟩
    obtain ⟨k1, k2⟩ := wk i W' M' l'.lo w'
    cases hd : ds[i]? with
    | none =>
      have hl : ds.length ≤ i := List.getElem?_eq_none_iff.mp hd
      rw [List.drop_of_length_le hl] at e'
      cases e'
      exact .inl ⟨k1 hd, q σ' W' (l1.trans l') w' s'⟩
    | some d =>
      obtain ⟨hgo, hy⟩ := k2 d hd
      have hl : i < ds.length := (List.getElem?_eq_some_iff.mp hd).1
      have hdr : ds.drop i = d :: ds.drop (i + 1) := by
        rw [List.drop_eq_getElem_cons hl]
        congr 1
        exact Option.some.inj ((List.getElem?_eq_getElem hl).symm.trans hd)
      rw [hdr] at e'
      unfold forGo at e'
      refine .inr ⟨hgo, fun σ2 H2 => ∃ W2 δ2 M2, W2.H = H2 ∧ W1.Le W2 ∧ W2.Ok K M2 ∧ Slots K W2 σ2 δ2 ∧ forGo g b (ds.drop (i + 1)) δ2 M2 = some o, fun σ2 H2 ⟨W2, δ2, M2, a1, a2, a3, a4, a5⟩ => ⟨m - 1, by omega, W2, δ2, M2, a1, a2, a3, a4, by omega, a5⟩, fun x H' y => ?_⟩
      obtain ⟨W3, rfl, l3, w3, r3⟩ := hy x H' y
      split at e'
      · cases e'
      · rename_i δ1 h2
        refine rg x d σ' W3 δ' δ1 M' _ w3 (s'.le l3) r3 h2 fun σ3 s3 _ => ?_
        split at e'
        · rename_i δ4 M4 h3
          exact rb σ3 W3 δ1 M' _ _ w3 s3 h3 fun σ4 W4 l4 w4 s4 => ⟨W4, δ4, M4, rfl, (l'.trans l3).trans l4, w4, s4, e'⟩
        · rename_i δ4 M4 h3
          exact rb σ3 W3 δ1 M' _ _ w3 s3 h3 fun σ4 W4 l4 w4 s4 => ⟨W4, δ4, M4, rfl, (l'.trans l3).trans l4, w4, s4, e'⟩
        · rename_i δ4 M4 h3
          cases e'
          exact rb σ3 W3 δ1 M' _ _ w3 s3 h3 fun σ4 W4 l4 w4 s4 => q σ4 W4 (((l1.trans l').trans l3).trans l4) w4 s4
        · rename_i d4 M4 h3
          cases e'
          exact rb σ3 W3 δ1 M' _ _ w3 s3 h3 fun v W4 l4 w4 r4 => q v W4 (((l1.trans l').trans l3).trans l4) w4 r4
        · cases e'
  · cases e
/-! ### while -/
def whN (c : TF) (b : SF) : Nat → Env → Mh → Option Out
  | 0, _, _ => none
  | n + 1, δ, M => match c δ M with
    | some (true, M1) => (match b δ M1 with
      | some (.nx δ' M') => whN c b n δ' M'
      | some (.ct δ' M') => whN c b n δ' M'
      | some (.bk δ' M') => some (.nx δ' M')
      | some (.rt d M') => some (.rt d M')
      | none => none)
    | some (false, M1) => some (.nx δ M1)
    | none => none
open Classical in
noncomputable def sWh (c : TF) (b : SF) : SF := fun δ M => if h : ∃ n o, whN c b n δ M = some o then some (Classical.choose (Classical.choose_spec h)) else none
theorem whN_mono (c : TF) (b : SF) : ∀ (n m : Nat) (δ : Env) (M : Mh) (o : Out), n ≤ m → whN c b n δ M = some o → whN c b m δ M = some o
  | 0, _, _, _, _, _, h => by cases h
  | n + 1, 0, _, _, _, hl, _ => absurd hl (by omega)
  | n + 1, m + 1, δ, M, o, hl, h => by
    unfold whN at h ⊢
    split at h
    · split at h
      · exact whN_mono c b n m _ _ o (by omega) h
      · exact whN_mono c b n m _ _ o (by omega) h
      · exact h
      · exact h
      · cases h
    · exact h
    · cases h
theorem sWh_of {c : TF} {b : SF} {n : Nat} {δ : Env} {M : Mh} {o : Out} (h : whN c b n δ M = some o) : sWh c b δ M = some o := by
  have hx : ∃ n o, whN c b n δ M = some o := ⟨n, o, h⟩
  unfold sWh
  rw [dif_pos hx]
  have h2 := Classical.choose_spec (Classical.choose_spec hx)
  have a := whN_mono c b _ (max n (Classical.choose hx)) δ M _ (Nat.le_max_right _ _) h2
  have d := whN_mono c b _ (max n (Classical.choose hx)) δ M _ (Nat.le_max_left _ _) h
  exact a.symm.trans d
theorem of_sWh {c : TF} {b : SF} {δ : Env} {M : Mh} {o : Out} (h : sWh c b δ M = some o) : ∃ n, whN c b n δ M = some o := by
  unfold sWh at h
  split at h
  · rename_i hx
    have h2 := Classical.choose_spec (Classical.choose_spec hx)
    cases h
    exact ⟨_, h2⟩
  · cases h
/-- one turn -/
theorem sWh_eq (c : TF) (b : SF) (δ : Env) (M : Mh) : sWh c b δ M = (match c δ M with
    | some (true, M1) => (match b δ M1 with
      | some (.nx δ' M') => sWh c b δ' M'
      | some (.ct δ' M') => sWh c b δ' M'
      | some (.bk δ' M') => some (.nx δ' M')
      | some (.rt d M') => some (.rt d M')
      | none => none)
    | some (false, M1) => some (.nx δ M1)
    | none => none) := by
  apply Option.ext
  intro o
  constructor
  · intro h
    obtain ⟨n, hn⟩ := of_sWh h
    cases n with
    | zero => cases hn
    | succ n =>
      unfold whN at hn
      split at hn
      · split at hn
        · exact sWh_of hn
        · exact sWh_of hn
        · exact hn
        · exact hn
        · cases hn
      · exact hn
      · cases hn
  · intro h
    split at h
    · rename_i M1 h1
      split at h
      · rename_i δ' M' h2
        obtain ⟨n, hn⟩ := of_sWh h
        refine sWh_of (n := n + 1) ?_
        unfold whN
        rw [h1]
        dsimp only
        rw [h2]
        exact hn
      · rename_i δ' M' h2
        obtain ⟨n, hn⟩ := of_sWh h
        refine sWh_of (n := n + 1) ?_
        unfold whN
        rw [h1]
        dsimp only
        rw [h2]
        exact hn
      · rename_i δ' M' h2
        refine sWh_of (n := 1) ?_
        unfold whN
        rw [h1]
        dsimp only
        rw [h2]
        exact h
      · rename_i d' M' h2
        refine sWh_of (n := 1) ?_
        unfold whN
        rw [h1]
        dsimp only
        rw [h2]
        exact h
      · cases h
    · rename_i M1 h1
      refine sWh_of (n := 1) ?_
      unfold whN
      rw [h1]
      exact h
    · cases h
theorem DS.wh {cnd : Expr} {body : List Stmt} {pos} {t : TF} {b : SF} (hp : ∀ i, PassesOwn (model (X i).prog (X i).w) (X i).A (X i).env (X i).xe) (hc : DT X K cnd t) (hb : DB X K body b) : DS X K (.While cnd body [] pos) (sWh t b) := by
  obtain ⟨tt, pt, rt⟩ := hc.go
  obtain ⟨tb, pb, rb⟩ := hb.go
  refine ⟨tWhile tt tb, fun i => ps_while (hp i) (pt i) (pb i), fun σ W δ M o E w s e q => ?_⟩
  obtain ⟨n, hn⟩ := of_sWh e
  refine ⟨fun m σ' H => ∃ W' δ' M', W'.H = H ∧ W.Le W' ∧ W'.Ok K M' ∧ Slots K W' σ' δ' ∧ whN t b m δ' M' = some o, ⟨n, W, δ, M, rfl, .refl W, w, s, hn⟩, ?_⟩
  rintro m σ' H ⟨W', δ', M', rfl, l', w', s', e'⟩
  cases m with
  | zero => cases e'
  | succ m =>
    unfold whN at e'
    split at e'
    · rename_i M1 h1
      refine rt σ' W' δ' M' _ M1 _ w' s' h1 fun W1 l1 w1 => ifT ?_
      refine ⟨fun σ2 H2 => ∃ W2 δ2 M2, W2.H = H2 ∧ W.Le W2 ∧ W2.Ok K M2 ∧ Slots K W2 σ2 δ2 ∧ whN t b m δ2 M2 = some o, fun σ2 H2 ⟨W2, δ2, M2, a1, a2, a3, a4, a5⟩ => ⟨m, by omega, W2, δ2, M2, a1, a2, a3, a4, a5⟩, ?_⟩
      split at e'
      · rename_i δ4 M4 h3
        exact rb σ' W1 δ' M1 _ _ w1 (s'.le l1) h3 fun σ4 W4 l4 w4 s4 => ⟨W4, δ4, M4, rfl, (l'.trans l1).trans l4, w4, s4, e'⟩
      · rename_i δ4 M4 h3
        exact rb σ' W1 δ' M1 _ _ w1 (s'.le l1) h3 fun σ4 W4 l4 w4 s4 => ⟨W4, δ4, M4, rfl, (l'.trans l1).trans l4, w4, s4, e'⟩
      · rename_i δ4 M4 h3
        cases e'
        exact rb σ' W1 δ' M1 _ _ w1 (s'.le l1) h3 fun σ4 W4 l4 w4 s4 => q σ4 W4 ((l'.trans l1).trans l4) w4 s4
      · rename_i d4 M4 h3
        cases e'
        exact rb σ' W1 δ' M1 _ _ w1 (s'.le l1) h3 fun v W4 l4 w4 r4 => q v W4 ((l'.trans l1).trans l4) w4 r4
      · cases e'
    · rename_i M1 h1
      cases e'
      exact rt σ' W' δ' M' _ _ _ w' s' h1 fun W1 l1 w1 => ifF (q σ' W1 (l'.trans l1) w1 (s'.le l1))
    · cases e'
end
end Pl

namespace Pl
open PySem L2
section
variable {I : Type} {X : I → Cx} {P : Program} {w : World} {K : PySem.W.Frag} {mg : Str → Option Value} {base : Heap} {k : Nat}

/-! ### list comprehensions -/
/-- the block's contexts -/
def blkF (X : I → Cx) (scope : Scope) (j : I × Shared × Hp × Addr × List (Str × Addr) × List Addr) : Cx := (X j.1).blk j.2.1 j.2.2.1 scope (compEnvC scope j.2.2.2.2.1 j.2.2.2.1 (X j.1).env) j.2.2.2.2.2
theorem Ctx.blk (c : Ctx X P w K mg base k) (scope : Scope) : Ctx (blkF X scope) P w K mg base k :=
  ⟨fun j => c.prog j.1, fun j => c.wd j.1, fun j => c.K j.1, fun j => c.mg j.1, fun j => c.base j.1, fun j => c.room j.1, fun j => c.grd j.1, fun j => c.calm j.1⟩
structure DTs (X : I → Cx) (K : PySem.W.Frag) (ifs : List Expr) (f : TF) : Prop where
  go : ∃ t : TT, (∀ i, PTs (X i) ifs t) ∧ TR K t f
def tTrue : TF := fun _ M => some (true, M)
theorem DTs.nil : DTs X K [] tTrue := ⟨tYes, fun i => pts_nil, fun σ W δ M b M' Q w s e q => by
  cases e
  exact q W (.refl W) w⟩
theorem DTs.one {e : Expr} {f : TF} (h : DT X K e f) : DTs X K [e] f := by
  obtain ⟨t, p, r⟩ := h.go
  exact ⟨t, fun i => pts_one (p i), r⟩
def wipeD (δ : Env) : List Nat → Env
  | [] => δ
  | v :: vs => (wipeD δ vs).set v none
theorem Slots.wipe {W : Wd} {σ : St} {δ : Env} (s : Slots K W σ δ) : ∀ vs : List Nat, Slots K W (wipe σ vs) (wipeD δ vs)
  | [] => s
  | v :: vs => by
    have ih := s.wipe vs
    refine ⟨?_, fun i d h => ?_⟩
    · show ((L2.wipe σ vs).set v none).length = ((wipeD δ vs).set v none).length
      rw [List.length_set, List.length_set]
      exact ih.len
    · have h' : ((wipeD δ vs).set v none)[i]? = some (some d) := h
      show ∃ u, ((L2.wipe σ vs).set v none)[i]? = some (some u) ∧ _
      rw [List.getElem?_set] at h' ⊢
      by_cases e : v = i
      · rw [if_pos e] at h'
        split at h' <;> cases h'
      · rw [if_neg e] at h' ⊢
        exact ih.at_ i d h'
def lcGo (g : GF) (t : TF) (f : EF) : List D → Env → Mh → Option (List D × Mh)
  | [], _, M => some ([], M)
  | x :: xs, δ, M => match g x δ with
    | none => none
    | some δ1 => match t δ1 M with
      | some (true, M1) => (match f δ1 M1 with
        | some (y, M2) => (match lcGo g t f xs δ M2 with
          | some (ys, M3) => some (y :: ys, M3)
          | none => none)
        | none => none)
      | some (false, M1) => lcGo g t f xs δ M1
      | none => none
def eLc (vs : List Nat) (a : AF) (g : GF) (t : TF) (f : EF) : EF := fun δ M => match a δ M with
  | some (ds, M1) => (match lcGo g t f ds (wipeD δ vs) M1 with
    | some (ys, M2) => if ys.length ≤ sizeLine then some (.lst ys, M2) else none
    | none => none)
  | none => none
/-- the world while a list is made at p -/
def Wd.mk' (W : Wd) (H : Hp) (P : Hp) : Wd := ⟨H, W.B, W.ι, P⟩
theorem Slots.cong {W W' : Wd} {σ : St} {δ : Env} (s : Slots K W σ δ) (h1 : W'.B = W.B) (h2 : W'.ι = W.ι) : Slots K W' σ δ := ⟨s.len, fun i d h => by
  rw [h1, h2]
  exact s.at_ i d h⟩
theorem Wd.hold_put {W : Wd} {M : Mh} {p : Addr} {o o' : HO} (w : W.Ok K M) (hp : W.P p = some o) : (⟨upd W.H p o', W.B, W.ι, upd W.P p o'⟩ : Wd).Ok K M := by
  have ne : ∀ {n a u}, Live W M n a u → a ≠ p := fun {n a u} h e => by
    obtain ⟨_, q, _⟩ := w.live n a u h
    rw [e, hp] at q
    cases q
  have bp := (w.pin p o hp).2
  refine ⟨fun a u h => ?_, fun a u h => ?_, w.len, fun n a u h => ?_, fun n m a u v h k => w.inj n m a u v h k⟩
  · exact (upd_ne (fun e => by
      rw [e] at h
      have h' : W.B p = some u := h
      rw [bp] at h'
      cases h')).trans (w.sub a u h)
  · by_cases e : a = p
    · subst e
      have h' : upd W.P a o' a = some u := h
      rw [upd_same] at h'
      exact ⟨upd_same.trans h', bp⟩
    · have h' : upd W.P p o' a = some u := h
      rw [upd_ne e] at h'
      have q := w.pin a u h'
      exact ⟨(upd_ne e).trans q.1, q.2⟩
  · obtain ⟨h1, h2, k, h3, h4⟩ := w.live n a u h
    exact ⟨h1, (upd_ne (ne h)).trans h2, k, (upd_ne (ne h)).trans h3, h4⟩
theorem Wd.unhold {W : Wd} {M : Mh} {p : Addr} {o : HO} {P0 : Hp} (w : W.Ok K M) (hP : W.P = upd P0 p o) (h0 : P0 p = none) : (⟨W.H, upd W.B p o, W.ι, P0⟩ : Wd).Ok K M := by
  have hp : W.P p = some o := by rw [hP, upd_same]
  have ne : ∀ {n a u}, Live W M n a u → a ≠ p := fun {n a u} h e => by
    obtain ⟨_, q, _⟩ := w.live n a u h
    rw [e, hp] at q
    cases q
  have bp := (w.pin p o hp)
  refine ⟨fun a u h => ?_, fun a u h => ?_, w.len, fun n a u h => ?_, fun n m a u v h k => w.inj n m a u v h k⟩
  · by_cases e : a = p
    · subst e
      have h' : upd W.B a o a = some u := h
      rw [upd_same] at h'
      cases h'
      exact bp.1
    · have h' : upd W.B p o a = some u := h
      rw [upd_ne e] at h'
      exact w.sub a u h'
  · have h' : P0 a = some u := h
    have e : a ≠ p := fun e => by
      rw [e, h0] at h'
      cases h'
    have q := w.pin a u (by rw [hP, upd_ne e]; exact h')
    exact ⟨q.1, (upd_ne e).trans q.2⟩
  · obtain ⟨h1, h2, k, h3, h4⟩ := w.live n a u h
    have e := ne h
    rw [hP, upd_ne e] at h2
    exact ⟨(upd_ne e).trans h1, h2, k, h3, h4.mono (updk bp.2) fun _ _ q => q⟩
theorem wipe_twice (σ : St) : ∀ vs : List Nat, L2.wipe (L2.wipe σ vs) vs = L2.wipe σ vs := fun vs => by
  have h : ∀ us : List Nat, (∀ j ∈ us, j ∈ vs) → L2.wipe (L2.wipe σ us) vs = L2.wipe σ vs := fun us => by
    induction us with
    | nil => exact fun _ => rfl
    | cons u us ih =>
      intro hu
      show L2.wipe ((L2.wipe σ us).set u none) vs = _
      rw [(wipe_set _ none u vs).1 (hu u List.mem_cons_self)]
      exact ih fun j hj => hu j (List.mem_cons_of_mem _ hj)
  exact h vs fun _ z => z
/-- the reading of a comprehension, from its parts' -/
theorem lc_er {ti : TI} {tg : TG} {tt : TT} {te : TE} {vs : List Nat} {a : AF} {g : GF} {t : TF} {f : EF} {sl : List Nat}
    (ri : ∀ (σ : St) (W : Wd) (δ : Env) (M : Mh) (ds : List D) (M' : Mh) (R : It → Hp → Prop), W.Ok K M → Slots K W σ δ → a δ M = some (ds, M') → (∀ J W', W.Le W' → W'.Ok K M' → Wk K J W' ds → R J W'.H) → ti σ W.H R)
    (rg : GR K tg g sl) (hsl : ∀ j ∈ sl, j ∈ vs) (rt : TR K tt t) (re : ER K te f) : ER K (tLc ti tg tt te vs) (eLc vs a g t f) := fun σ W δ M d M' Q w s e q => by
  unfold eLc at e
  split at e
  · rename_i ds M1 h1
    split at e
    · rename_i fin M2 h2
      split at e
      · rename_i hlen
        cases e
        refine ri σ W δ M ds M1 _ w s h1 fun J W1 l1 w1 wk => fun p hp => ?_
        have P0 : W1.P p = none := w1.pnone hp
        have B0 : W1.B p = none := w1.bnone hp
        refine ⟨fun i m H => ∃ (W' : Wd) (N : Mh) (acc : List V) (ac ys : List D), W'.H = H ∧ W1.Le (W'.mk' W'.H W1.P) ∧ W'.P = upd W1.P p (.lst acc) ∧ W'.Ok K N ∧ RepL K W'.B W'.ι acc ac ∧ i + m = ds.length ∧ lcGo g t f (ds.drop i) (wipeD δ vs) N = some (ys, M') ∧ ac ++ ys = fin,
          ⟨ds.length, W1.hold p (.lst []), M1, [], [], fin, rfl, ⟨fun _ _ h => h, ⟨[], by simp [Wd.mk', Wd.hold]⟩, rfl⟩, rfl, Wd.hold_ok w1 hp, .nil, by omega, h2, rfl⟩, ?_⟩
        rintro i m H ⟨W', N, acc, ac, ys, rfl, l', hP, w', ra, em, e', ef⟩
        obtain ⟨k1, k2⟩ := wk i W' N ⟨l'.same, l'.pre⟩ w'
        cases hd : ds[i]? with
        | none =>
          have hl : ds.length ≤ i := List.getElem?_eq_none_iff.mp hd
          rw [List.drop_of_length_le hl] at e'
          cases e'
          rw [List.append_nil] at ef
          subst ef
          have u := Wd.unhold w' hP P0
          refine .inl ⟨k1 hd, q _ ⟨W'.H, upd W'.B p (.lst acc), W'.ι, W1.P⟩ (l1.trans ⟨fun b o h => ?_, l'.pre, rfl⟩) u (.lst upd_same (ra.mono (updk (w'.pin p (.lst acc) (by rw [hP, upd_same])).2) fun _ _ z => z))⟩
          have hb : b ≠ p := fun z => by
            rw [z, B0] at h
            cases h
          show upd W'.B p (.lst acc) b = some o
          rw [upd_ne hb]
          exact l'.same b o h
        | some x0 =>
          obtain ⟨hgo, hy⟩ := k2 x0 hd
          have hl : i < ds.length := (List.getElem?_eq_some_iff.mp hd).1
          have hdr : ds.drop i = x0 :: ds.drop (i + 1) := by
            rw [List.drop_eq_getElem_cons hl]
            congr 1
            exact Option.some.inj ((List.getElem?_eq_getElem hl).symm.trans hd)
          rw [hdr] at e'
          unfold lcGo at e'
          refine .inr ⟨hgo, fun H2 => ∃ (W2 : Wd) (N2 : Mh) (acc2 : List V) (ac2 ys2 : List D), W2.H = H2 ∧ W1.Le (W2.mk' W2.H W1.P) ∧ W2.P = upd W1.P p (.lst acc2) ∧ W2.Ok K N2 ∧ RepL K W2.B W2.ι acc2 ac2 ∧ lcGo g t f (ds.drop (i + 1)) (wipeD δ vs) N2 = some (ys2, M') ∧ ac2 ++ ys2 = fin,
            fun H2 ⟨W2, N2, acc2, ac2, ys2, a1, a2, a3, a4, a5, a6, a7⟩ => ⟨m - 1, by omega, W2, N2, acc2, ac2, ys2, a1, a2, a3, a4, a5, by omega, a6, a7⟩, fun x H' y => ?_⟩
          obtain ⟨W3, rfl, l3, w3, r3⟩ := hy x H' y
          have sw : Slots K W3 (L2.wipe σ vs) (wipeD δ vs) := ((((s.le l1).wipe vs).le l').cong (W' := W') rfl rfl).le l3
          have up : ∀ {W4 : Wd}, W'.Le W4 → W1.Le (W4.mk' W4.H W1.P) := fun {W4} l => l'.trans ⟨l.same, l.pre, rfl⟩
          split at e'
          · cases e'
          · rename_i δ1 h3
            refine rg x x0 _ W3 _ δ1 N _ w3 sw r3 h3 fun σ3 s3 hw => ⟨(hw vs hsl).trans ?_, ?_⟩
            · exact wipe_twice σ vs
            · split at e'
              · rename_i N1 h4
                refine rt σ3 W3 δ1 N _ N1 _ w3 s3 h4 fun W4 l4 w4 => ifT ?_
                split at e'
                · rename_i y0 N2 h5
                  split at e'
                  · rename_i ys2 N3 h6
                    cases e'
                    refine re σ3 W4 δ1 N1 y0 N2 _ w4 (s3.le l4) h5 fun v W5 l5 w5 r5 => ?_
                    have l35 : W'.Le W5 := (l3.trans l4).trans l5
                    have p5 : W5.P = upd W1.P p (.lst acc) := l35.pp.trans hP
                    have p5' : W5.P p = some (.lst acc) := by rw [p5, upd_same]
                    have ra5 := ra.le l35
                    refine ⟨acc, (w5.pin p _ p5').1, ?_, ⟨upd W5.H p (.lst (acc ++ [v])), W5.B, W5.ι, upd W5.P p (.lst (acc ++ [v]))⟩, N2, acc ++ [v], ac ++ [y0], ys2, rfl, l'.trans ⟨l35.same, l35.pre, rfl⟩, ?_, Wd.hold_put w5 p5', ra5.append (.cons r5 .nil), h6, ?_⟩
                    · have := ra.len
                      have h7 := congrArg List.length ef
                      rw [List.length_append, List.length_cons] at h7
                      omega
                    · show upd W5.P p _ = _
                      rw [p5, upd_upd]
                    · rw [List.append_assoc]
                      exact ef
                  · cases e'
                · cases e'
              · rename_i N1 h4
                refine rt σ3 W3 δ1 N _ N1 _ w3 s3 h4 fun W4 l4 w4 => ifF ?_
                have l34 : W'.Le W4 := l3.trans l4
                exact ⟨W4, N1, acc, ac, ys, rfl, up l34, l34.pp.trans hP, w4, ra.le l34, e', ef⟩
              · cases e'
      · cases e
    · cases e
  · cases e
theorem DE.lc (c : Ctx X P w K mg base k) {elt tg iter : Expr} {ifs : List Expr} {scope : Scope} {own : List (Str × Nat)} {pos} {a : AF} {g : GF} {t : TF} {f : EF} {sl : List Nat} (hN : ∀ i, (X i).N.Nodup) (hi : DI X K tg iter a) (ok : ∀ i, BlkOk (X i).N (X i).env.scope scope own)
    (hg : DG (blkF X scope) K tg g sl) (hsl : ∀ j ∈ sl, j ∈ own.map (·.2)) (ht : DTs (blkF X scope) K ifs t) (he : DE (blkF X scope) K elt f) (hs : ∀ i x, foldedSetIterable iter (X i).env x = pure x := by intro _ _; rfl) :
    DE X K (.ListComp elt [⟨tg, iter, ifs, 0⟩] scope pos) (eLc (own.map (·.2)) a g t f) := by
  obtain ⟨ti, pi, ri⟩ := hi.go
  obtain ⟨tg', pg, rg⟩ := hg.go
  obtain ⟨tt, pt, rt⟩ := ht.go
  obtain ⟨te, pe, re⟩ := he.go
  refine ⟨tLc ti tg' tt te (own.map (·.2)), fun i => pe_lc (c.calm i) (hN i) (pi i) (ok i) (fun s H C cl fp => pg (i, s, H, C, cl, fp)) (fun s H C cl fp => pt (i, s, H, C, cl, fp)) (fun s H C cl fp => pe (i, s, H, C, cl, fp)) (hs i), fun σ W δ M d M' Q w s e q => ?_⟩
  exact lc_er ri rg hsl rt re σ W δ M d M' Q w s e q
theorem DS.setLc (j : Nat) (c : Ctx X P w K mg base k) {y : Str} {py : Pos} {elt tg iter : Expr} {ifs : List Expr} {scope : Scope} {own : List (Str × Nat)} {pos spos} {a : AF} {g : GF} {t : TF} {f : EF} {sl : List Nat} (hN : ∀ i, (X i).N.Nodup) (hi : DI X K tg iter a) (ok : ∀ i, BlkOk (X i).N (X i).env.scope scope own)
    (hg : DG (blkF X scope) K tg g sl) (hsl : ∀ j ∈ sl, j ∈ own.map (·.2)) (ht : DTs (blkF X scope) K ifs t) (he : DE (blkF X scope) K elt f) (hs : ∀ i x, foldedSetIterable iter (X i).env x = pure x := by intro _ _; rfl)
    (hy : ∀ i, (X i).N[j]? = some y := by intro _; rfl) (hyl : ∀ i, (X i).env.scope.names.lookup y = some .local := by intro _; rfl) (hsw : ∀ i, swapsWith (.ListComp elt [⟨tg, iter, ifs, 0⟩] scope pos) (some (.Name y py)) spos.line (X i).env = pure true := by intro _; exact sw_true rfl rfl rfl (by decide +kernel)) :
    DS X K (.Assign [.Name y py] (.ListComp elt [⟨tg, iter, ifs, 0⟩] scope pos) spos) (sAs (eLc (own.map (·.2)) a g t f) (gN j)) := by
  obtain ⟨ti, pi, ri⟩ := hi.go
  obtain ⟨tg', pg, rg⟩ := hg.go
  obtain ⟨tt, pt, rt⟩ := ht.go
  obtain ⟨te, pe, re⟩ := he.go
  refine ⟨tAsg (tLc ti tg' tt te (own.map (·.2))) (gName j), fun i => ps_setLc (c.calm i) (hN i) (hy i) (hyl i) (hsw i) (pi i) (ok i) (fun s H C cl fp => pg (i, s, H, C, cl, fp)) (fun s H C cl fp => pt (i, s, H, C, cl, fp)) (fun s H C cl fp => pe (i, s, H, C, cl, fp)) (hs i), sr_as (sl := [j]) (lc_er ri rg hsl rt re) fun v d σ W δ δ' M Q w s r e q => ?_⟩
  cases e
  exact q _ (s.set r j) fun vs h => (wipe_set σ _ j vs).1 (h j List.mem_cons_self)
end
end Pl

namespace Pl
open PySem L2
section
variable {I : Type} {X : I → Cx} {P : Program} {w : World} {K : PySem.W.Frag} {mg : Str → Option Value} {base : Heap} {k : Nat}

/-! ### numbers -/
def gInt (h : Int → Int → D) : O2 := fun a b M => match a, b with
  | .int i, .int j => some (h i j, M)
  | _, _ => none
theorem od_int0 {g : Int → Int → V} {h : Int → Int → D} (r : ∀ B ι i j, Rep K B ι (g i j) (h i j)) : OD K (rI0 g) (gInt h) := fun W M x y a b z M' Q w ra rb e q => by
  unfold gInt at e
  split at e
  · cases ra
    cases rb
    cases e
    exact ⟨_, _, rfl, rfl, q _ W (.refl W) w (r _ _ _ _)⟩
  · cases e
theorem opAdd : OpF X K (binaryOp .Add) (gInt fun i j => .int (i + j)) := ⟨_, fun _ => op_add, od_int0 fun _ _ _ _ => .int _⟩
theorem opSub : OpF X K (binaryOp .Sub) (gInt fun i j => .int (i - j)) := ⟨_, fun _ => op_sub, od_int0 fun _ _ _ _ => .int _⟩
theorem opLt : OpF X K (compareOp .Lt) (gInt fun i j => .bl (decide (i < j))) := ⟨_, fun _ => op_lt, od_int0 fun _ _ _ _ => .bl _⟩
theorem opLe : OpF X K (compareOp .LtE) (gInt fun i j => .bl (decide (i ≤ j))) := ⟨_, fun _ => op_le, od_int0 fun _ _ _ _ => .bl _⟩
theorem opGt : OpF X K (compareOp .Gt) (gInt fun i j => .bl (decide (j < i))) := ⟨_, fun _ => op_gt, od_int0 fun _ _ _ _ => .bl _⟩
theorem opGe : OpF X K (compareOp .GtE) (gInt fun i j => .bl (decide (j ≤ i))) := ⟨_, fun _ => op_ge, od_int0 fun _ _ _ _ => .bl _⟩
def gIntC (C : Int → Int → Prop) [∀ i j, Decidable (C i j)] (h : Int → Int → D) : O2 := fun a b M => match a, b with
  | .int i, .int j => if C i j then some (h i j, M) else none
  | _, _ => none
theorem od_intC {C : Int → Int → Prop} [∀ i j, Decidable (C i j)] {C' : Int → Int → Prop} {g : Int → Int → V} {h : Int → Int → D} (hc : ∀ i j, C i j → C' i j) (r : ∀ B ι i j, Rep K B ι (g i j) (h i j)) : OD K (rI C' g) (gIntC C h) := fun W M x y a b z M' Q w ra rb e q => by
  unfold gIntC at e
  split at e
  · split at e
    · rename_i c
      cases ra
      cases rb
      cases e
      exact ⟨_, _, rfl, rfl, hc _ _ c, q _ W (.refl W) w (r _ _ _ _)⟩
    · cases e
  · cases e
abbrev MulOk (i j : Int) : Prop := (Builtin.Int.intBits i : Int) + (Builtin.Int.intBits j : Int) ≤ 134217728
theorem mulOk {i j : Int} {a b : Nat} (ha : i.natAbs < 2 ^ a) (hb : j.natAbs < 2 ^ b) (h : a + b ≤ 134217728) : MulOk i j := mulx_ok ha hb h
theorem opMul : OpF X K (binaryOp .Mult) (gIntC MulOk fun i j => .int (i * j)) := ⟨_, fun _ => op_mulX, od_intC (fun _ _ h => h) fun _ _ _ _ => .int _⟩
abbrev DivOk (_ j : Int) : Prop := j ≠ 0 ∧ j.natAbs.log2 < 9000
theorem divOk {i j : Int} {b : Nat} (h : j ≠ 0) (hb : j.natAbs < 2 ^ b) (h0 : 0 < b) (h9 : b ≤ 9000) : DivOk i j := ⟨h, Nat.lt_of_lt_of_le (PySem.Flt.log2_lt_of h0 hb) h9⟩
theorem op_fdivG {Y : Cx} : OpR Y (binaryOp .FloorDiv) (rI DivOk fun i j => .int (i.fdiv j)) := opI fun i j _ _ _ _ _ hc q =>
  PyProof.Rows.floordiv_int hc.1 q (.inl (PyProof.noPylong_of_log2 hc.2))
theorem opDiv : OpF X K (binaryOp .FloorDiv) (gIntC DivOk fun i j => .int (i.fdiv j)) := ⟨_, fun _ => op_fdivG, od_intC (fun _ _ h => h) fun _ _ _ _ => .int _⟩
theorem opMod : OpF X K (binaryOp .Mod) (gIntC (fun _ j => j ≠ 0) fun i j => .int (i.fmod j)) := ⟨_, fun _ => op_modN, od_intC (fun _ _ h => h) fun _ _ _ _ => .int _⟩
abbrev PowOk (i j : Int) : Prop := 0 ≤ j ∧ j ≤ 1000000 ∧ i.natAbs < 2 ^ 64
theorem opPow : OpF X K (binaryOp .Pow) (gIntC PowOk fun i j => .int (i ^ j.toNat)) := ⟨_, fun _ => op_pow, od_intC (fun _ _ h => h) fun _ _ _ _ => .int _⟩
def eUn (g : O1) (f : EF) : EF := fun δ M => match f δ M with
  | some (d, M1) => g d M1
  | none => none
def gNeg : O1 := fun a M => match a with
  | .int i => some (.int (-i), M)
  | _ => none
theorem DE.neg {a : Expr} {pos} {f : EF} (h : DE X K a f) : DE X K (.UnaryOp .USub a pos) (eUn gNeg f) := by
  obtain ⟨t, p, r⟩ := h.go
  refine ⟨_, fun i => pe_un un_neg (p i), fun σ W δ M d M' Q w s e q => ?_⟩
  unfold eUn at e
  split at e
  · rename_i d1 M1 h1
    unfold gNeg at e
    split at e
    · cases e
      refine r σ W δ M _ _ _ w s h1 fun v W1 l1 w1 r1 => ?_
      cases r1
      exact ⟨_, rfl, q _ W1 l1 w1 (.int _)⟩
    · cases e
  · cases e

/-! ### data -/
mutual
def toP : D → Option PyData
  | .non => some .none
  | .bl b => some (.bool b)
  | .int i => some (.int i)
  | .str x => some (.str x)
  | .tup xs => (match toPs xs with
    | some ps => some (.tuple ps)
    | none => none)
  | .lst xs => (match toPs xs with
    | some ps => some (.list ps)
    | none => none)
  | .lsk xs => (match toPs xs with
    | some ps => some (.list ps)
    | none => none)
  | .ty _ => none
  | .ob _ => none
  | .ref _ => none
def toPs : List D → Option (List PyData)
  | [] => some []
  | x :: xs => (match toP x with
    | some p => (match toPs xs with
      | some ps => some (p :: ps)
      | none => none)
    | none => none)
end
mutual
theorem Rep.dp {B H : Hp} {ι : List Addr} (s : ∀ b o, B b = some o → H b = some o) : ∀ {v : V} {d : D} {p : PyData}, Rep K B ι v d → toP d = some p → Dp K H v p
  | _, _, _, .non, e => by cases e; exact .non
  | _, _, _, .bl b, e => by cases e; exact .bl b
  | _, _, _, .int b, e => by cases e; exact .int b
  | _, _, _, .str b, e => by cases e; exact .str b
  | _, _, _, .ty b, e => by cases e
  | _, _, _, .ob b, e => by cases e
  | _, _, _, .ref b, e => by cases e
  | _, _, _, .tup h r, e => by
    unfold toP at e
    split at e
    · rename_i ps h2
      cases e
      exact .tup (sqT_mono s h) (RepL.dp s r h2)
    · cases e
  | _, _, _, .lst h r, e => by
    unfold toP at e
    split at e
    · rename_i ps h2
      cases e
      exact .lst (.inl (.inl (s _ _ h))) (RepL.dp s r h2)
    · cases e
  | _, _, _, .lsk h r, e => by
    unfold toP at e
    split at e
    · rename_i ps h2
      cases e
      exact .lst (sqL_mono s h) (RepL.dp s r h2)
    · cases e
theorem RepL.dp {B H : Hp} {ι : List Addr} (s : ∀ b o, B b = some o → H b = some o) : ∀ {v : List V} {d : List D} {p : List PyData}, RepL K B ι v d → toPs d = some p → DpAll K H v p
  | _, _, _, .nil, e => by cases e; exact .nil
  | _, _, _, .cons h r, e => by
    unfold toPs at e
    split at e
    · rename_i p h2
      split at e
      · rename_i ps h3
        cases e
        exact .cons (Rep.dp s h h2) (RepL.dp s r h3)
      · cases e
    · cases e
end
def deref (M : Mh) : D → D
  | .ref n => (match M[n]? with
    | some (.lst xs) => .lst xs
    | _ => .ref n)
  | d => d
theorem dp_of {W : Wd} {M : Mh} {v : V} {d : D} {p : PyData} (w : W.Ok K M) (r : Rep K W.B W.ι v d) (h : toP (deref M d) = some p) : Dp K W.H v p := by
  cases r with
  | ref hi =>
    rename_i a n
    unfold deref at h
    dsimp only at h
    split at h
    · rename_i xs hm
      obtain ⟨_, _, o, ho, ro⟩ := w.live _ _ _ ⟨hi, hm, fun z => by cases z⟩
      cases ro with
      | lst r1 =>
        unfold toP at h
        split at h
        · rename_i ps h2
          cases h
          exact .lst (.inl (.inl ho)) (r1.dp w.sub h2)
        · cases h
    · cases h
  | non => exact Rep.dp (d := .non) (B := W.B) (ι := W.ι) w.sub .non h
  | bl b => exact Rep.dp (B := W.B) (ι := W.ι) w.sub (.bl b) h
  | int b => exact Rep.dp (B := W.B) (ι := W.ι) w.sub (.int b) h
  | str b => exact Rep.dp (B := W.B) (ι := W.ι) w.sub (.str b) h
  | ty b => cases h
  | ob b => cases h
  | tup h1 r1 => exact Rep.dp w.sub (.tup h1 r1) h
  | lst h1 r1 => exact Rep.dp w.sub (.lst h1 r1) h
  | lsk h1 r1 => exact Rep.dp w.sub (.lsk h1 r1) h
def gEq (h : PyData → PyData → Bool) : O2 := fun a b M => match toP (deref M a), toP (deref M b) with
  | some p, some q => if SeqAt.shaped p && SeqAt.shaped q then some (.bl (h p q), M) else none
  | _, _ => none
theorem opEq (c : Ctx X P w K mg base k) : OpF X K (compareOp .Eq) (gEq PyData.eqv) := ⟨rEqD K, fun i => by
  have := op_eqD (X := X i) (c.room i).units
  rw [c.K i] at this
  exact this, fun W M x y a b z M' Q w ra rb e q => by
  unfold gEq at e
  split at e
  · rename_i p p' h1 h2
    split at e
    · rename_i hs
      cases e
      rw [Bool.and_eq_true] at hs
      exact ⟨p, p', dp_of w ra h1, dp_of w rb h2, hs.1, hs.2, q _ W (.refl W) w (.bl _)⟩
    · cases e
  · cases e⟩
theorem opNe (c : Ctx X P w K mg base k) : OpF X K (compareOp .NotEq) (gEq fun p q => !PyData.eqv p q) := ⟨rNeD K, fun i => by
  have := op_neD (X := X i) (c.room i).units
  rw [c.K i] at this
  exact this, fun W M x y a b z M' Q w ra rb e q => by
  unfold gEq at e
  split at e
  · rename_i p p' h1 h2
    split at e
    · rename_i hs
      cases e
      rw [Bool.and_eq_true] at hs
      exact ⟨p, p', dp_of w ra h1, dp_of w rb h2, hs.1, hs.2, q _ W (.refl W) w (.bl _)⟩
    · cases e
  · cases e⟩
/-- is None, is not None -/
def isN : D → Bool
  | .non => true
  | _ => false
def gIsN (h : Bool → Bool) : O2 := fun a b M => match b with
  | .non => some (.bl (h (isN a)), M)
  | _ => none
theorem rep_isN {B : Hp} {ι : List Addr} {x : V} {a : D} (r : Rep K B ι x a) : decide (x = .non) = isN a := by
  cases r <;> rfl
theorem opIsN : OpF X K (compareOp .Is) (gIsN fun b => b) := ⟨_, fun _ => op_isN, fun W M x y a b z M' Q w ra rb e q => by
  unfold gIsN at e
  split at e
  · cases rb
    cases e
    refine ⟨rfl, ?_⟩
    rw [rep_isN ra]
    exact q _ W (.refl W) w (.bl _)
  · cases e⟩
theorem opNotN : OpF X K (compareOp .IsNot) (gIsN fun b => !b) := ⟨_, fun _ => op_notN, fun W M x y a b z M' Q w ra rb e q => by
  unfold gIsN at e
  split at e
  · cases rb
    cases e
    refine ⟨rfl, ?_⟩
    rw [rep_isN ra]
    exact q _ W (.refl W) w (.bl _)
  · cases e⟩
/-- is True, is not True, of truths -/
def gIsB (h : Bool → Bool) : O2 := fun a b M => match a, b with
  | .bl x, .bl y => some (.bl (h (decide (x = y))), M)
  | _, _ => none
theorem opIsB : OpF X K (compareOp .Is) (gIsB fun b => b) := ⟨_, fun _ => op_is_bl, fun W M x y a b z M' Q w ra rb e q => by
  unfold gIsB at e
  split at e
  · cases ra
    cases rb
    cases e
    exact ⟨_, _, rfl, rfl, q _ W (.refl W) w (.bl _)⟩
  · cases e⟩
theorem opNotB : OpF X K (compareOp .IsNot) (gIsB fun b => !b) := ⟨_, fun _ => op_isnot_bl, fun W M x y a b z M' Q w ra rb e q => by
  unfold gIsB at e
  split at e
  · cases ra
    cases rb
    cases e
    exact ⟨_, _, rfl, rfl, q _ W (.refl W) w (.bl _)⟩
  · cases e⟩

/-! ### places of rows -/
theorem RepL.atI {B : Hp} {ι : List Addr} {vs : List V} {ds : List D} {i : Int} {d : D} (r : RepL K B ι vs ds) (h : L2.atI ds i = some d) : ∃ v, L2.atI vs i = some v ∧ Rep K B ι v d := by
  unfold L2.atI at h ⊢
  rw [r.len]
  cases e : ixN ds.length i with
  | none =>
    rw [e] at h
    cases h
  | some j =>
    rw [e] at h
    exact r.get (i := j) h
def gIx : O2 := fun a b M => match b with
  | .int i => (match a with
    | .tup xs => (L2.atI xs i).map fun d => (d, M)
    | .lst xs => (L2.atI xs i).map fun d => (d, M)
    | .lsk xs => (L2.atI xs i).map fun d => (d, M)
    | .ref n => (match M[n]? with
      | some (.lst xs) => (L2.atI xs i).map fun d => (d, M)
      | _ => none)
    | .str z => if z.length ≤ sizeLine then (L2.atI z.cps.toList i).map fun c => (.str ⟨#[c]⟩, M) else none
    | _ => none)
  | _ => none
theorem od_ix : OD K (rIx K) gIx := fun W M x y a b z M' Q w ra rb e q => by
  unfold gIx at e
  split at e
  · rename_i i
    cases rb
    split at e
    · rename_i xs
      cases h : L2.atI xs i with
      | none =>
        rw [h] at e
        cases e
      | some d =>
        rw [h] at e
        cases e
        cases ra with
        | tup h1 r1 =>
          obtain ⟨v, hv, rv⟩ := r1.atI h
          exact .inr (.inl ⟨_, _, _, v, rfl, rfl, sqT_mono w.sub h1, hv, q v W (.refl W) w rv⟩)
    · rename_i xs
      cases h : L2.atI xs i with
      | none =>
        rw [h] at e
        cases e
      | some d =>
        rw [h] at e
        cases e
        cases ra with
        | lst h1 r1 =>
          obtain ⟨v, hv, rv⟩ := r1.atI h
          exact .inl ⟨_, _, _, v, rfl, rfl, .inl (.inl (w.sub _ _ h1)), hv, q v W (.refl W) w rv⟩
    · rename_i xs
      cases h : L2.atI xs i with
      | none =>
        rw [h] at e
        cases e
      | some d =>
        rw [h] at e
        cases e
        cases ra with
        | lsk h1 r1 =>
          obtain ⟨v, hv, rv⟩ := r1.atI h
          exact .inl ⟨_, _, _, v, rfl, rfl, sqL_mono w.sub h1, hv, q v W (.refl W) w rv⟩
    · rename_i n
      split at e
      · rename_i xs hm
        cases h : L2.atI xs i with
        | none =>
          rw [h] at e
          cases e
        | some d =>
          rw [h] at e
          cases e
          cases ra with
          | ref h1 =>
            obtain ⟨_, _, o, ho, ro⟩ := w.live n _ _ ⟨h1, hm, fun z => by cases z⟩
            cases ro with
            | lst r1 =>
              obtain ⟨v, hv, rv⟩ := r1.atI h
              exact .inl ⟨_, _, _, v, rfl, rfl, .inl (.inl ho), hv, q v W (.refl W) w rv⟩
      · cases e
    · rename_i z0
      split at e
      · rename_i hz
        cases h : L2.atI z0.cps.toList i with
        | none =>
          rw [h] at e
          cases e
        | some c =>
          rw [h] at e
          cases e
          cases ra
          exact .inr (.inr ⟨_, _, _, rfl, rfl, hz, h, q _ W (.refl W) w (.str _)⟩)
      · cases e
    · cases e
  · cases e
theorem DE.ix (c : Ctx X P w K mg base k) {a b : Expr} {pos} {f g : EF} (ha : DE X K a f) (hb : DE X K b g) (hs : PlainIx b := by exact fun _ _ => rfl) : DE X K (.Subscript a b pos) (eOp gIx f g) := by
  obtain ⟨ta, pa, ra⟩ := ha.go
  obtain ⟨tb, pb, rb⟩ := hb.go
  refine ⟨tOp (rIx K) ta tb, fun i => ?_, er_op od_ix ra rb⟩
  have h := pe_ix (ix_seq (X := X i)) (pa i) (pb i) hs (pos := pos)
  rw [c.K i] at h
  exact h
end
end Pl

namespace Pl
open PySem L2
open PyProof.Rows (envOfC)

/-! ### what a def does to values -/
def spD (K : PySem.W.Frag) (n : Nat) (F : Fn) (vs : List V) (H : Hp) (Q : VK) : Prop :=
  ∃ W M ds d M', W.H = H ∧ W.Ok K M ∧ RepL K W.B W.ι vs ds ∧ ds.length = n ∧ F ds M = some (d, M') ∧ VR K W d M' Q
structure DFn (P : Program) (w : World) (K : PySem.W.Frag) (mg : Str → Option Value) (base : Heap) (k : Nat) (f : Addr) (fd : FuncData) (ps : List Str) (F : Fn) : Prop where
  run : ∀ (A : Around) (outer : List PySem.Env) (s : Shared) (H : Hp) (args : Args) (us : List Value) (vs : List V) (Q : VK), Room k A → A.guards = some [] → Env0 P w K mg base A outer s H → BindsTo s fd args (ps.zip us) → Vals vs us →
    spD K ps.length F vs H Q → codeAny (model P w) A (.call (.ref f) args) (CR CX0 outer P w H s Q E0) s
theorem DFn.mono {P : Program} {w : World} {K : PySem.W.Frag} {mg : Str → Option Value} {base : Heap} {j k : Nat} {f : Addr} {fd : FuncData} {ps : List Str} {F : Fn} (h : DFn P w K mg base j f fd ps F) (l : j ≤ k) : DFn P w K mg base k f fd ps F :=
  ⟨fun A outer s H args us vs Q r g => h.run A outer s H args us vs Q (r.mono l) g⟩
/-- the same values, told otherwise -/
theorem DFn.imp {P : Program} {w : World} {K : PySem.W.Frag} {mg : Str → Option Value} {base : Heap} {k : Nat} {f : Addr} {fd : FuncData} {ps : List Str} {F G : Fn} (h : DFn P w K mg base k f fd ps F) (l : ∀ ds M d M', G ds M = some (d, M') → F ds M = some (d, M')) : DFn P w K mg base k f fd ps G :=
  ⟨fun A outer s H args us vs Q r g e b v ⟨W, M, ds, d, M', a1, a2, a3, a4, a5, a6⟩ => h.run A outer s H args us vs Q r g e b v ⟨W, M, ds, d, M', a1, a2, a3, a4, l _ _ _ _ a5, a6⟩⟩
/-- from a promise of the hand layer -/
theorem DFn.hand {P : Program} {w : World} {K : PySem.W.Frag} {mg : Str → Option Value} {base : Heap} {k : Nat} {f : Addr} {fd : FuncData} {ps : List Str} {F : Fn} {sp : Sp} (h : FnOk P w K mg base CX0 k f fd ps sp) (l : ∀ vs H Q, spD K ps.length F vs H Q → sp vs H Q E0) : DFn P w K mg base k f fd ps F :=
  ⟨fun A outer s H args us vs Q r _ e b v q => h.run A outer s H args us vs Q E0 r e b v (l _ _ _ q)⟩

section
variable {I : Type} {X : I → Cx} {P : Program} {w : World} {K : PySem.W.Frag} {mg : Str → Option Value} {base : Heap} {k : Nat}
/-- the callee runs -/
theorem run_dfn {Y : Cx} {pins : List (Addr × Obj)} {σ : L2.St} {H : Hp} {s : Shared} {Q : VK} {f : Addr} {fd : FuncData} {ps ks : List Str} {F : Fn} {us ws us' : List Value} {vs : List V} (h : DFn Y.prog Y.w Y.K Y.mg Y.base k f fd ps F) (room : Room k Y.A) (grd : Y.A.guards = some [])
    (J : Inv Y pins σ H s) (hb : BindsTo s fd ⟨us, ks.zip ws⟩ (ps.zip us')) (r : Vals vs us') (q : spD Y.K ps.length F vs H Q) : wpAny (model Y.prog Y.w) Y.A (call (.ref f) us (ks.zip ws)) (EP Y pins σ Q) Y.xe s := by
  refine wpAny_call (codeAny_mono (h.run Y.A Y.stack s H _ us' vs Q room grd J.env0 hb r q) fun o s' ho => ?_)
  match o, ho with
  | .ok (.ret u), ho => exact J.after ho
  | .ok .next, ho => exact False.elim ho
  | .ok .brk, ho => exact False.elim ho
  | .ok .cont, ho => exact False.elim ho
  | .error _, ho => exact False.elim ho
def eCall (F : Fn) (g : AF) (dds : List D) : EF := fun δ M => match g δ M with
  | some (ds, M1) => F (ds ++ dds) M1
  | none => none
/-- f(e, ..): dvs the defaults that fill up -/
theorem DE.call (c : Ctx X P w K mg base k) {x : Str} {p pos : Pos} {e : Expr} {es : List Expr} {g : AF} {f : Addr} {fd : FuncData} {ps : List Str} {F : Fn} {kf : Nat} {dvs : List V} {dds : List D} {dsv : List Value} (h : DFn P w K mg base kf f fd ps F) (hk : kf ≤ k)
    (hm : mg x = some (.ref f)) (kp : PySem.W.keepIn K (.ref f) = true) (hb : Binds K fd ps dsv) (hd : Vals dvs dsv) (hr : ∀ B ι, RepL K B ι dvs dds) (hn : (e :: es).length + dds.length = ps.length) (ha : DA X K (e :: es) g) (hlen : ∀ δ M ds M', g δ M = some (ds, M') → ds.length = (e :: es).length) (hg : ∀ i, Gl (X i) x := by intro _; rfl)
    (hdbg : (x == ("__debug__" : Str)) = false := by decide) (he : ∀ i, starEach (e :: es) (X i).env = (false, eval e (X i).env) :: starEach es (X i).env := by intro _; rfl) (hpl : ∀ i, (backTo pos (starEach es (X i).env)).any (·.1) = false := by intro _; rfl) :
    DE X K (.Call (.Name x p) (e :: es) [] pos) (eCall F g dds) := by
  obtain ⟨t, pa, ra⟩ := ha.go
  refine ⟨fun σ H Q => t σ H fun vs H1 => spD K ps.length F (vs ++ dvs) H1 Q, fun i => ⟨fun pins s σ H Q J q => ?_⟩, fun σ W δ M d M' Q w s ev q => ?_⟩
  · have cK := c.K i
    refine wpAny_Call_Name_kw (ld_glob J (hg i) (by rw [c.mg i]; exact hm) ?_ hdbg)
    refine PySem.W.callWith_K (h₀ := (X i).base) J.ok.mod.kin (by rw [cK]; exact kp) (thn ((pa i).run pos pins s σ H _ J q) fun us s1 ⟨vs, H1, J1, r, q1⟩ => ⟨J1.kIn, ?_⟩) (he i) (hpl i)
    obtain ⟨W, M, ds, d, M', a1, a2, a3, a4, a5, a6⟩ := id q1
    have h' : DFn (X i).prog (X i).w (X i).K (X i).mg (X i).base k f fd ps F := by
      rw [c.prog i, c.wd i, c.K i, c.mg i, c.base i]
      exact h.mono hk
    have r2 := r.append hd
    refine run_dfn (ks := []) (ws := []) (us := us) h' (c.room i) (c.grd i) J1 (hb s1 us (by rw [← cK]; exact J1.kIn) ?_) r2 (by rw [cK]; exact q1)
    rw [← r2.length, a3.len, a4]
  · unfold eCall at ev
    split at ev
    · rename_i ds M1 h1
      refine ra σ W δ M ds M1 _ w s h1 fun vs W1 l1 w1 r1 => ⟨W1, M1, ds ++ dds, d, M', rfl, w1, r1.append (hr _ _), ?_, ev, q.le l1⟩
      rw [List.length_append, hlen _ _ _ _ h1]
      exact hn
    · cases ev
theorem aLen_cons {f : EF} {g : AF} {n : Nat} (h : ∀ δ M ds M', g δ M = some (ds, M') → ds.length = n) : ∀ δ M ds M', aCons f g δ M = some (ds, M') → ds.length = n + 1 := fun δ M ds M' e => by
  unfold aCons at e
  split at e
  · split at e
    · rename_i h2
      cases e
      exact congrArg (· + 1) (h _ _ _ _ h2)
    · cases e
  · cases e
theorem aLen_nil : ∀ δ M ds M', aNil δ M = some (ds, M') → ds.length = 0 := fun δ M ds M' e => by
  cases e
  rfl
/-- keywords -/
structure DK (X : I → Cx) (K : PySem.W.Frag) (kws : List Keyword) (f : AF) (n : Nat) : Prop where
  go : ∃ t : TA, (∀ i, PK (X i) kws t) ∧ AR K t f
  len : ∀ δ M ds M', f δ M = some (ds, M') → ds.length = n
theorem DK.nil : DK X K [] aNil 0 := ⟨⟨tNil, fun i => pk_nil, fun σ W δ M d M' Q w s e q => by
  cases e
  exact q [] W (.refl W) w .nil⟩, aLen_nil⟩
theorem DK.cons {nm} {e : Expr} {kpos} {kws : List Keyword} {f : EF} {g : AF} {n : Nat} (a : DE X K e f) (b : DK X K kws g n) : DK X K (⟨nm, e, kpos⟩ :: kws) (aCons f g) (n + 1) := by
  obtain ⟨ta, pa, ra⟩ := a.go
  obtain ⟨tb, pb, rb⟩ := b.go
  refine ⟨⟨tCons ta tb, fun i => pk_cons (pa i) (pb i), fun σ W δ M d M' Q w s e q => ?_⟩, aLen_cons b.len⟩
  unfold aCons at e
  split at e
  · rename_i d1 M1 h1
    split at e
    · rename_i ds M2 h2
      cases e
      refine ra σ W δ M d1 M1 _ w s h1 fun v W1 l1 w1 r1 => ?_
      refine rb σ W1 δ M1 ds _ _ w1 (s.le l1) h2 fun vs W2 l2 w2 r2 => ?_
      exact q _ W2 (l1.trans l2) w2 (.cons (r1.le l2) r2)
    · cases e
  · cases e
def eCallK (F : Fn) (g gk : AF) (h : List D → List D → List D) : EF := fun δ M => match g δ M with
  | some (ds, M1) => (match gk δ M1 with
    | some (zs, M2) => F (h ds zs) M2
    | none => none)
  | none => none
/-- f(e, .., k = v, ..) -/
theorem DE.callK (c : Ctx X P w K mg base k) {x : Str} {p pos : Pos} {e : Expr} {es : List Expr} {kws : List Keyword} {g gk : AF} {f : Addr} {fd : FuncData} {ps ks : List Str} {F : Fn} {kf n : Nat} {gu : List Value → List Value → List Value} {gV : List V → List V → List V} {gD : List D → List D → List D} (h : DFn P w K mg base kf f fd ps F) (hk : kf ≤ k)
    (hm : mg x = some (.ref f)) (kp : PySem.W.keepIn K (.ref f) = true) (hb : KBn K fd ps n ks gu gV) (hr : ∀ B ι vs ds zs es, RepL K B ι vs ds → RepL K B ι zs es → RepL K B ι (gV vs zs) (gD ds es)) (hn : ∀ ds zs : List D, ds.length = n → zs.length = ks.length → (gD ds zs).length = ps.length)
    (ha : DA X K (e :: es) g) (hlen : ∀ δ M ds M', g δ M = some (ds, M') → ds.length = n) (hkw : DK X K kws gk ks.length) (hall : ∀ i, (backToKw pos (keywordEach kws (X i).env)).all (·.1.isSome) = true := by intro _; rfl) (hks : ∀ i, (backToKw pos (keywordEach kws (X i).env)).filterMap (·.1) = ks := by intro _; rfl)
    (hg : ∀ i, Gl (X i) x := by intro _; rfl) (hdbg : (x == ("__debug__" : Str)) = false := by decide) (he : ∀ i, starEach (e :: es) (X i).env = (false, eval e (X i).env) :: starEach es (X i).env := by intro _; rfl)
    (hpl : ∀ i, ((backTo pos (starEach (e :: es) (X i).env)).any (·.1) || (backToKw pos (keywordEach kws (X i).env)).any (·.1.isNone)) = false := by intro _; rfl) :
    DE X K (.Call (.Name x p) (e :: es) kws pos) (eCallK F g gk gD) := by
  obtain ⟨t, pa, ra⟩ := ha.go
  obtain ⟨tk, pk, rk⟩ := hkw.go
  refine ⟨fun σ H Q => t σ H fun vs H1 => tk σ H1 fun zs H2 => vs.length = n ∧ zs.length = ks.length ∧ spD K ps.length F (gV vs zs) H2 Q, fun i => ⟨fun pins s σ H Q J q => ?_⟩, fun σ W δ M d M' Q w s ev q => ?_⟩
  · have cK := c.K i
    refine wpAny_Call_Name_kw (ld_glob J (hg i) (by rw [c.mg i]; exact hm) ?_ hdbg)
    refine PySem.W.callWith_KW (h₀ := (X i).base) J.ok.mod.kin (by rw [cK]; exact kp) (hall i) (thn ((pa i).run pos pins s σ H _ J q) fun us s1 ⟨vs, H1, J1, r, q1⟩ => ?_) (hpl i) (he i)
    refine thn ((pk i).run pos pins s1 σ H1 _ J1 q1) fun ws s2 ⟨zs, H2, J2, rz, l1, l2, q2⟩ => ⟨J2.kIn, ?_⟩
    have h' : DFn (X i).prog (X i).w (X i).K (X i).mg (X i).base k f fd ps F := by
      rw [c.prog i, c.wd i, c.K i, c.mg i, c.base i]
      exact h.mono hk
    have r2 := hb.rel r rz
    rw [hks i]
    exact run_dfn h' (c.room i) (c.grd i) J2 (hb.to s2 us ws (by rw [← cK]; exact J2.kIn) (r.length.symm.trans l1) (rz.length.symm.trans l2)) r2 (by rw [cK]; exact q2)
  · unfold eCallK at ev
    split at ev
    · rename_i ds M1 h1
      split at ev
      · rename_i zs M2 h2
        refine ra σ W δ M ds M1 _ w s h1 fun vs W1 l1 w1 r1 => ?_
        refine rk σ W1 δ M1 zs M2 _ w1 (s.le l1) h2 fun us W2 l2 w2 r2 => ?_
        have e1 := hlen _ _ _ _ h1
        have e2 := hkw.len _ _ _ _ h2
        exact ⟨by rw [r1.len]; exact e1, by rw [r2.len]; exact e2, W2, M2, gD ds zs, d, M', rfl, w2, hr _ _ _ _ _ _ (r1.le l2) r2, hn _ _ e1 e2, ev, q.le (l1.trans l2)⟩
      · cases ev
    · cases ev
end

/-! ### a def's body -/
def startD (n : Nat) (ds : List D) : Env := ds.map some ++ List.replicate (n - ds.length) none
def fnF (n : Nat) (g : SF) : Fn := fun ds M => match g (startD n ds) M with
  | some (.rt d M') => some (d, M')
  | some (.nx _ M') => some (.non, M')
  | _ => none
/-- an entry of the def -/
structure Entry (k : Nat) (qual : Str) (scope : Scope) (f : Addr) where
  cdv : Value
  A : Around
  outer : List PySem.Env
  s : Shared
  H : Hp
  room : Room k (A.deeper (envOfC qual scope s.heap.objs.size f cdv))
  grd : A.guards = some []
def bodyF (P : Program) (w : World) (K : PySem.W.Frag) (mg : Str → Option Value) (base : Heap) (N : List Str) {k : Nat} {qual : Str} {scope : Scope} {f : Addr} (e : Entry k qual scope f) : Cx := (cxOf CX0 P w K mg base N qual scope f e.cdv e.A e.outer e.s e.H E0).nox
theorem bodyF_ctx (P : Program) (w : World) (K : PySem.W.Frag) (mg : Str → Option Value) (base : Heap) (N : List Str) {k : Nat} {qual : Str} {scope : Scope} {f : Addr} : Ctx (bodyF P w K mg base N (k := k) (qual := qual) (scope := scope) (f := f)) P w K mg base k :=
  ⟨fun _ => rfl, fun _ => rfl, fun _ => rfl, fun _ => rfl, fun _ => rfl, fun e => e.room, fun e => e.grd, fun _ => rfl⟩
theorem slots_start {K : PySem.W.Frag} {W : Wd} {N : List Str} {vs : List V} {ds : List D} (r : RepL K W.B W.ι vs ds) : Slots K W (L2.start N vs) (startD N.length ds) := by
  have hl := r.len
  refine ⟨by simp [L2.start, startD, hl], fun i d h => ?_⟩
  unfold startD at h
  by_cases hi : i < ds.length
  · rw [List.getElem?_append_left (by simpa using hi), List.getElem?_map] at h
    cases e : ds[i]? with
    | none =>
      rw [e] at h
      cases h
    | some d' =>
      rw [e] at h
      cases h
      obtain ⟨v, h1, h2⟩ := r.get e
      refine ⟨v, ?_, h2⟩
      unfold L2.start
      rw [List.getElem?_append_left (by simp [hl]; exact hi), List.getElem?_map, h1]
      rfl
  · rw [List.getElem?_append_right (by simpa using hi), List.getElem?_replicate] at h
    split at h <;> cases h
/-- THE RULE of a def -/
theorem DFn.of {P : Program} {w : World} {K : PySem.W.Frag} {mg : Str → Option Value} {base : Heap} {k : Nat} {x qual : Str} {params : Arguments} {body : List Stmt} {scope : Scope} {dvs : List V} {kws : List (Str × V)} {f : Addr} {fd : FuncData} {N ps : List Str} {g : SF}
    (h : FunD K x qual params body scope dvs kws f fd) (S : FnScope N ps scope) (hb : Ctx (bodyF P w K mg base N (k := k) (qual := qual) (scope := scope) (f := f)) P w K mg base k → DB (bodyF P w K mg base N (k := k) (qual := qual) (scope := scope) (f := f)) K body g) : DFn P w K mg base (k + 1) f fd ps (fnF N.length g) := by
  obtain ⟨oc, od, dV, kV, doc, pm, an, cdv, ct, osl, rfl, lk, hcd, _, _⟩ := h.ex
  obtain ⟨t, pt, rt⟩ := (hb (bodyF_ctx P w K mg base N)).go
  refine ⟨fun A outer s H args us vs Q room grd e0 bd r q => ?_⟩
  obtain ⟨W, M, ds, d, M', rfl, a2, a3, a4, a5, a6⟩ := q
  have hl : vs.length = ps.length := a3.len.trans a4
  have KX : K.In s.heap := e0.mod.kin.keeps fun b o e => (e0.bs b o e).1
  have lim : s.heap.NoLimit := e0.mod.nolimit.keeps fun b o e => (e0.bs b o e).1
  have knd : ∀ y ∈ ps.zip us, scope.names.lookup y.1 = some .local ∨ (scope.names.lookup y.1 = some .cell ∧ ((cellsFrom (s.heap.objs.size + 1) scope.names []).lookup y.1).isSome = true) := fun y hy => by
    rcases S.par y.1 (List.of_mem_zip (a := y.1) (b := y.2) hy).1 with q | q
    · exact .inl q
    · exact .inr ⟨q, PySem.W.cellsFrom_some _ _ _ (.inl q)⟩
  refine codeAny_call_function room.depth (KX _ _ lk) rfl S.co S.gen rfl (PySem.W.codeRec_of KX hcd) (bd _ _ _ _ ?_)
  refine wpAny_newFunctionEnv_cells S.kind knd fun env he s1 xc => ?_
  subst he
  refine ⟨lim.keeps xc.toInCall.keep, codeAny_func ?_⟩
  have J : Inv (cxOf CX0 P w K mg base N qual scope f cdv A outer s W.H E0) [] (L2.start N vs) W.H s1 := inv_start S room.hd e0 hl r xc
  have ht := (pt ⟨cdv, A, outer, s, W.H, room.deeper _, grd⟩).nox
  have q2 : t { nx := fun _ H' => Q .non H', rt := Q } (L2.start N vs) W.H := by
    unfold fnF at a5
    split at a5
    · rename_i d2 M2 h2
      cases a5
      exact rt _ W _ M _ _ a2 (slots_start a3) h2 a6
    · rename_i δ2 M2 h2
      cases a5
      exact rt _ W _ M _ _ a2 (slots_start a3) h2 fun σ' W' l o s' => a6 .non W' l o .non
    · cases a5
  refine wpAny_mono (ht.run [] s1 (L2.start N vs) W.H _ J q2) (fun fl s' hs => ?_) fun e s' hs => hs
  have fin : ∀ {σ' : St} {H' : Hp} {v : V} {u : Value}, Inv (cxOf CX0 P w K mg base N qual scope f cdv A outer s W.H E0) [] σ' H' s' → RelV v u → Q v H' → CE outer P w W.H s Q u s' :=
    fun {σ' H' v u} J rv q => ⟨v, H', J.os, J.bare, J.base, J.hok, rv, q⟩
  match fl, hs with
  | .ret u, ⟨v, σ', H', J2, rv, q3⟩ => exact fin J2 rv q3
  | .next, ⟨σ', H', J2, q3⟩ => exact fin (v := V.non) (u := Value.none) J2 rfl q3
  | .brk, ⟨_, _, _, q3⟩ => exact False.elim q3
  | .cont, ⟨_, _, _, q3⟩ => exact False.elim q3
end Pl

namespace Pl
open PySem L2
section
variable {I : Type} {X : I → Cx} {P : Program} {w : World} {K : PySem.W.Frag} {mg : Str → Option Value} {base : Heap} {k : Nat}
/-! ### rows as they are read -/
def lstT (M : Mh) : D → Option (List D)
  | .lst xs => some xs
  | .ref n => (match M[n]? with
    | some (.lst xs) => some xs
    | _ => none)
  | _ => none
def lstOf (M : Mh) : D → Option (List D)
  | .lst xs => some xs
  | .lsk xs => some xs
  | .ref n => (match M[n]? with
    | some (.lst xs) => some xs
    | _ => none)
  | _ => none
theorem lstT_rep {W : Wd} {M : Mh} {x : V} {d : D} {ds : List D} (w : W.Ok K M) (r : Rep K W.B W.ι x d) (h : lstT M d = some ds) : ∃ l vs, x = .ref l ∧ W.H l = some (.lst vs) ∧ RepL K W.B W.ι vs ds := by
  unfold lstT at h
  split at h
  · cases h
    cases r with
    | lst h1 r1 => exact ⟨_, _, rfl, w.sub _ _ h1, r1⟩
  · split at h
    · rename_i hm
      cases h
      cases r with
      | ref h1 =>
        obtain ⟨_, _, o, ho, ro⟩ := w.live _ _ _ ⟨h1, hm, fun z => by cases z⟩
        cases ro with
        | lst r1 => exact ⟨_, _, rfl, ho, r1⟩
    · cases h
  · cases h
theorem lstOf_rep {W : Wd} {M : Mh} {x : V} {d : D} {ds : List D} (w : W.Ok K M) (r : Rep K W.B W.ι x d) (h : lstOf M d = some ds) : ∃ l vs, x = .ref l ∧ SqL K W.H l vs ∧ RepL K W.B W.ι vs ds := by
  unfold lstOf at h
  split at h
  · cases h
    cases r with
    | lst h1 r1 => exact ⟨_, _, rfl, .inl (.inl (w.sub _ _ h1)), r1⟩
  · cases h
    cases r with
    | lsk h1 r1 => exact ⟨_, _, rfl, sqL_mono w.sub h1, r1⟩
  · split at h
    · rename_i hm
      cases h
      cases r with
      | ref h1 =>
        obtain ⟨_, _, o, ho, ro⟩ := w.live _ _ _ ⟨h1, hm, fun z => by cases z⟩
        cases ro with
        | lst r1 => exact ⟨_, _, rfl, .inl (.inl ho), r1⟩
    · cases h
  · cases h
theorem tup_rep {W : Wd} {M : Mh} {x : V} {ds : List D} (w : W.Ok K M) (r : Rep K W.B W.ι x (.tup ds)) : ∃ l vs, x = .ref l ∧ SqT K W.H l vs ∧ RepL K W.B W.ι vs ds := by
  cases r with
  | tup h1 r1 => exact ⟨_, _, rfl, sqT_mono w.sub h1, r1⟩

/-! ### + and * -/
def gAdd : O2 := fun a b M => match a, b with
  | .int i, .int j => some (.int (i + j), M)
  | .str x, .str y => if x.length + y.length ≤ sizeLine then some (.str (x ++ y), M) else none
  | .tup xs, .tup ys => if xs.length + ys.length ≤ sizeLine then some (.tup (xs ++ ys), M) else none
  | a, b => (match lstT M a, lstT M b with
    | some xs, some ys => if xs.length + ys.length ≤ sizeLine then some (.lst (xs ++ ys), M) else none
    | _, _ => none)
def rAdd4 (K : PySem.W.Frag) : R2 := fun x y H Q => rI0 (fun i j => .int (i + j)) x y H Q ∨ (∃ i j, x = .str i ∧ y = .str j ∧ i.length + j.length ≤ sizeLine ∧ Q (.str (i ++ j)) H) ∨ rCat x y H Q ∨ rCatA K x y H Q
theorem opAdd4 (c : Ctx X P w K mg base k) : OpF X K (binaryOp .Add) gAdd := ⟨rAdd4 K, fun i => by
  have h := OpR.or (X := X i) op_add (OpR.or op_add_str (OpR.or op_cat op_catA))
  rw [c.K i] at h
  exact h, fun W M x y a b z M' Q w ra rb e q => by
  unfold gAdd at e
  split at e
  · cases ra
    cases rb
    cases e
    exact .inl ⟨_, _, rfl, rfl, q _ W (.refl W) w (.int _)⟩
  · split at e
    · rename_i hl
      cases ra
      cases rb
      cases e
      exact .inr (.inl ⟨_, _, rfl, rfl, hl, q _ W (.refl W) w (.str _)⟩)
    · cases e
  · split at e
    · rename_i hl
      cases e
      obtain ⟨a, vs, rfl, s1, r1⟩ := tup_rep w ra
      obtain ⟨b, us, rfl, s2, r2⟩ := tup_rep w rb
      refine .inr (.inr (.inr ⟨a, b, vs, us, rfl, rfl, s1, s2, by rw [r1.len, r2.len]; exact hl, fun h => ?_, fun h0 h => ?_, fun h0 h1 p hp => ?_⟩))
      · subst h
        cases r1
        exact q _ W (.refl W) w rb
      · subst h
        cases r2
        rw [List.append_nil] at q
        exact q _ W (.refl W) w ra
      · obtain ⟨l2, w2, r3⟩ := lay_tup w hp (r1.append r2)
        exact q _ _ l2 w2 r3
    · cases e
  · split at e
    · rename_i xs ys h1 h2
      split at e
      · rename_i hl
        cases e
        obtain ⟨a, vs, rfl, s1, r1⟩ := lstT_rep w ra h1
        obtain ⟨b, us, rfl, s2, r2⟩ := lstT_rep w rb h2
        refine .inr (.inr (.inl ⟨a, b, vs, us, rfl, rfl, s1, s2, by rw [r1.len, r2.len]; exact hl, fun p hp => ?_⟩))
        obtain ⟨l2, w2, r3⟩ := lay_lst w hp (r1.append r2)
        exact q _ _ l2 w2 r3
      · cases e
    · cases e⟩
theorem RepL.rep {B : Hp} {ι : List Addr} {vs : List V} {ds : List D} (r : RepL K B ι vs ds) : ∀ n : Nat, RepL K B ι (List.replicate n vs).flatten (List.replicate n ds).flatten
  | 0 => .nil
  | n + 1 => by
    rw [List.replicate_succ, List.replicate_succ, List.flatten_cons, List.flatten_cons]
    exact r.append (r.rep n)
def gMul : O2 := fun a b M => match a, b with
  | .int i, .int j => if MulOk i j then some (.int (i * j), M) else none
  | .lst xs, .int j => if -(2 ^ 63) ≤ j ∧ j < 2 ^ 63 ∧ xs.length * j.toNat ≤ sizeLine then some (.lst (List.replicate j.toNat xs).flatten, M) else none
  | _, _ => none
theorem opMul2 : OpF X K (binaryOp .Mult) gMul := ⟨_, fun i => OpR.or op_mulX op_rep, fun W M x y a b z M' Q w ra rb e q => by
  unfold gMul at e
  split at e
  · split at e
    · rename_i hc
      cases ra
      cases rb
      cases e
      exact .inl ⟨_, _, rfl, rfl, hc, q _ W (.refl W) w (.int _)⟩
    · cases e
  · split at e
    · rename_i hc
      cases rb
      cases e
      cases ra with
      | lst h1 r1 =>
        refine .inr ⟨_, _, _, rfl, rfl, w.sub _ _ h1, hc.1, hc.2.1, by rw [r1.len]; exact hc.2.2, fun p hp => ?_⟩
        obtain ⟨l2, w2, r3⟩ := lay_lst w hp (r1.rep _)
        exact q _ _ l2 w2 r3
    · cases e
  · cases e⟩

/-! ### slices -/
structure DP (X : I → Cx) (K : PySem.W.Frag) (e : Option Expr) (f : Env → Mh → Option (Option Int × Mh)) : Prop where
  go : ∃ t : St → Hp → (Option Int → Hp → Prop) → Prop, (∀ i, PO (X i) e t) ∧ ∀ (σ : St) (W : Wd) (δ : Env) (M : Mh) (d : Option Int) (M' : Mh) (Q : Option Int → Hp → Prop), W.Ok K M → Slots K W σ δ → f δ M = some (d, M') → (∀ W', W.Le W' → W'.Ok K M' → Q d W'.H) → t σ W.H Q
def pNone : Env → Mh → Option (Option Int × Mh) := fun _ M => some (none, M)
def pSome (f : EF) : Env → Mh → Option (Option Int × Mh) := fun δ M => match f δ M with
  | some (.int i, M1) => some (some i, M1)
  | _ => none
theorem DP.none : DP X K none pNone := ⟨_, fun i => po_none, fun σ W δ M d M' Q w s e q => by
  cases e
  exact q W (.refl W) w⟩
theorem DP.some {e : Expr} {f : EF} (h : DE X K e f) : DP X K (some e) (pSome f) := by
  obtain ⟨t, p, r⟩ := h.go
  refine ⟨_, fun i => po_some (p i), fun σ W δ M d M' Q w s ev q => ?_⟩
  unfold pSome at ev
  split at ev
  · rename_i h1
    cases ev
    refine r σ W δ M _ _ _ w s h1 fun v W1 l1 w1 r1 => ?_
    cases r1
    exact ⟨_, rfl, q W1 l1 w1⟩
  · cases ev
def cutD {α : Type} (xs : List α) (lo hi : Option Int) : List α := (xs.drop (HT.sIx xs.length 0 lo)).take (HT.sIx xs.length xs.length hi - HT.sIx xs.length 0 lo)
theorem RepL.cut {B : Hp} {ι : List Addr} {vs : List V} {ds : List D} (r : RepL K B ι vs ds) (lo hi : Option Int) : RepL K B ι (cutV vs lo hi) (cutD ds lo hi) := by
  unfold cutV cutD
  rw [r.len]
  exact (r.drop _).take _
theorem cutD_all {α : Type} {xs : List α} {lo hi : Option Int} (h : HT.sIx xs.length 0 lo = 0 ∧ HT.sIx xs.length xs.length hi = xs.length) : cutD xs lo hi = xs := by
  unfold cutD
  rw [h.1, h.2]
  simp
def eSl (f : EF) (p q : Env → Mh → Option (Option Int × Mh)) : EF := fun δ M => match f δ M with
  | some (a, M1) => (match p δ M1 with
    | some (lo, M2) => (match q δ M2 with
      | some (hi, M3) => (match a with
        | .tup xs => some (.tup (cutD xs lo hi), M3)
        | .str z => if z.length ≤ sizeLine then some (.str (cutS z lo hi), M3) else none
        | a => (match lstOf M3 a with
          | some xs => some (.lst (cutD xs lo hi), M3)
          | none => none))
      | none => none)
    | none => none)
  | none => none
theorem DE.sl (c : Ctx X P w K mg base k) {e : Expr} {lo hi : Option Expr} {p2 pos} {f : EF} {p q : Env → Mh → Option (Option Int × Mh)} (ha : DE X K e f) (hlo : DP X K lo p) (hhi : DP X K hi q) : DE X K (.Subscript e (.Slice lo hi none p2) pos) (eSl f p q) := by
  obtain ⟨t, pa, r⟩ := ha.go
  obtain ⟨tl, pl, rl⟩ := hlo.go
  obtain ⟨th, ph, rh⟩ := hhi.go
  refine ⟨tSl (fun x lo hi H Q => rSlL K x lo hi H Q ∨ rSlA K x lo hi H Q ∨ rSlS x lo hi H Q) t tl th, fun i => ?_, fun σ W δ M d M' Q w s ev qq => ?_⟩
  · have h := pe_slice (SlR.or (X := X i) sl_list (SlR.or sl_tupA sl_str)) (pa i) (pl i) (ph i) (p2 := p2) (pos := pos)
    rw [c.K i] at h
    exact h
  · unfold eSl at ev
    split at ev
    · rename_i a M1 h1
      split at ev
      · rename_i lo' M2 h2
        split at ev
        · rename_i hi' M3 h3
          refine r σ W δ M _ _ _ w s h1 fun v W1 l1 w1 r1 => ?_
          refine rl σ W1 δ M1 _ _ _ w1 (s.le l1) h2 fun W2 l2 w2 => ?_
          refine rh σ W2 δ M2 _ _ _ w2 (s.le (l1.trans l2)) h3 fun W3 l3 w3 => ?_
          have r3 := r1.le (l2.trans l3)
          have l13 := (l1.trans l2).trans l3
          split at ev
          · cases ev
            obtain ⟨b, vs, rfl, s1, q1⟩ := tup_rep w3 r3
            refine .inr (.inl ⟨b, vs, rfl, s1, fun h => ?_, fun h p hp => ?_⟩)
            · rw [q1.len] at h
              rw [cutD_all h] at qq
              exact qq _ W3 l13 w3 r3
            · obtain ⟨l4, w4, r4⟩ := lay_tup w3 hp (q1.cut lo' hi')
              exact qq _ _ (l13.trans l4) w4 r4
          · split at ev
            · rename_i hz
              cases ev
              cases r3
              exact .inr (.inr ⟨_, rfl, hz, qq _ W3 l13 w3 (.str _)⟩)
            · cases ev
          · split at ev
            · rename_i xs hx
              cases ev
              obtain ⟨b, vs, rfl, s1, q1⟩ := lstOf_rep w3 r3 hx
              refine .inl ⟨b, vs, rfl, s1, fun p hp => ?_⟩
              obtain ⟨l4, w4, r4⟩ := lay_lst w3 hp (q1.cut lo' hi')
              exact qq _ _ (l13.trans l4) w4 r4
            · cases ev
        · cases ev
      · cases ev
    · cases ev

/-! ### built-in calls -/
abbrev GL := List D → Mh → Option (D × Mh)
structure CalF (X : I → Cx) (K : PySem.W.Frag) (f : Value) (g : GL) : Prop where
  go : ∃ r : List V → Hp → VK → Prop, (∀ i, CallR (X i) f r) ∧ ∀ (W : Wd) (M : Mh) (vs : List V) (ds : List D) (z : D) (M' : Mh) (Q : VK), W.Ok K M → RepL K W.B W.ι vs ds → g ds M = some (z, M') → VR K W z M' Q → r vs W.H Q
def eB (g : GL) (a : AF) : EF := fun δ M => match a δ M with
  | some (ds, M1) => g ds M1
  | none => none
theorem er_b {r : List V → Hp → VK → Prop} {g : GL} {a : AF} {t : TA} (h : ∀ (W : Wd) (M : Mh) (vs : List V) (ds : List D) (z : D) (M' : Mh) (Q : VK), W.Ok K M → RepL K W.B W.ι vs ds → g ds M = some (z, M') → VR K W z M' Q → r vs W.H Q) (ra : AR K t a) : ER K (tCB r t) (eB g a) := fun σ W δ M d M' Q w s e q => by
  unfold eB at e
  split at e
  · rename_i ds M1 h1
    exact ra σ W δ M _ _ _ w s h1 fun vs W1 l1 w1 r1 => h W1 M1 vs ds d M' Q w1 r1 e (q.le l1)
  · cases e
theorem DE.callB (c : Ctx X P w K mg base k) {x : Str} {p pos : Pos} {e : Expr} {es : List Expr} {id : String} {g : GL} {a : AF} (o : CalF X K (.builtin id) g) (hm : mg x = none) (hv : bootBuiltins x = some (.builtin id)) (ha : DA X K (e :: es) a) (hg : ∀ i, Gl (X i) x := by intro _; rfl)
    (hn : x ≠ "__name__" := by decide) (hdbg : (x == ("__debug__" : Str)) = false := by decide) (he : ∀ i, starEach (e :: es) (X i).env = (false, eval e (X i).env) :: starEach es (X i).env := by intro _; rfl) (hpl : ∀ i, (backTo pos (starEach es (X i).env)).any (·.1) = false := by intro _; rfl) :
    DE X K (.Call (.Name x p) (e :: es) [] pos) (eB g a) := by
  obtain ⟨r, hc, h⟩ := o.go
  obtain ⟨t, pa, ra⟩ := ha.go
  exact ⟨_, fun i => pe_callB (hc i) (hg i) (by rw [c.mg i]; exact hm) hv (pa i) (hn := hn) (hdb := hdbg) (he := he i) (hpl := hpl i), er_b h ra⟩
theorem DE.callTy (c : Ctx X P w K mg base k) {x : Str} {p pos : Pos} {e : Expr} {es : List Expr} {id : String} {g : GL} {a : AF} (o : CalF X K (.type id) g) (hm : mg x = none) (hv : bootBuiltins x = some (.type id)) (ha : DA X K (e :: es) a) (hg : ∀ i, Gl (X i) x := by intro _; rfl)
    (hn : x ≠ "__name__" := by decide) (hdbg : (x == ("__debug__" : Str)) = false := by decide) (he : ∀ i, starEach (e :: es) (X i).env = (false, eval e (X i).env) :: starEach es (X i).env := by intro _; rfl) (hpl : ∀ i, (backTo pos (starEach es (X i).env)).any (·.1) = false := by intro _; rfl) :
    DE X K (.Call (.Name x p) (e :: es) [] pos) (eB g a) := by
  obtain ⟨r, hc, h⟩ := o.go
  obtain ⟨t, pa, ra⟩ := ha.go
  exact ⟨_, fun i => pe_callTy (hc i) (hg i) (by rw [c.mg i]; exact hm) hv (pa i) (hn := hn) (hdb := hdbg) (he := he i) (hpl := hpl i), er_b h ra⟩
/-- a built-in that the module has imported -/
theorem DE.callM (c : Ctx X P w K mg base k) {x : Str} {p pos : Pos} {e : Expr} {es : List Expr} {id : String} {g : GL} {a : AF} (o : CalF X K (.builtin id) g) (hm : mg x = some (.builtin id)) (ha : DA X K (e :: es) a) (hg : ∀ i, Gl (X i) x := by intro _; rfl)
    (hdbg : (x == ("__debug__" : Str)) = false := by decide) (he : ∀ i, starEach (e :: es) (X i).env = (false, eval e (X i).env) :: starEach es (X i).env := by intro _; rfl) (hpl : ∀ i, (backTo pos (starEach es (X i).env)).any (·.1) = false := by intro _; rfl) :
    DE X K (.Call (.Name x p) (e :: es) [] pos) (eB g a) := by
  obtain ⟨r, hc, h⟩ := o.go
  obtain ⟨t, pa, ra⟩ := ha.go
  exact ⟨_, fun i => pe_callBfun (hc i) (hg i) (by rw [c.mg i]; exact hm) (pa i) (hdb := hdbg) (he := he i) (hpl := hpl i), er_b h ra⟩
def lenOf (M : Mh) : D → Option Nat
  | .str z => if z.length ≤ sizeLine then some z.length else none
  | .tup xs => some xs.length
  | d => (lstOf M d).map (·.length)
def gLen : GL := fun ds M => match ds with
  | [d] => (lenOf M d).map fun n => (.int (n : Nat), M)
  | _ => none
theorem cLen (c : Ctx X P w K mg base k) : CalF X K (.builtin "len") gLen := ⟨fun xs H Q => ∃ x n, xs = [x] ∧ LenV K x H n ∧ Q (.int n) H, fun i => by
  have h := call_len (X := X i)
  rw [c.K i] at h
  exact h, fun W M vs ds z M' Q w r e q => by
  unfold gLen at e
  split at e
  · rename_i d
    cases hl : lenOf M d with
    | none =>
      rw [hl] at e
      cases e
    | some n =>
      rw [hl] at e
      cases e
      cases r with
      | cons r1 r2 =>
        cases r2
        refine ⟨_, n, rfl, ?_, q _ W (.refl W) w (.int _)⟩
        unfold lenOf at hl
        split at hl
        · split at hl
          · rename_i hz
            cases hl
            cases r1
            exact ⟨hz, rfl⟩
          · cases hl
        · cases hl
          obtain ⟨a, us, rfl, s1, q1⟩ := tup_rep w r1
          exact .inr ⟨us, s1, q1.len.symm⟩
        · cases hx : lstOf M d with
          | none =>
            rw [hx] at hl
            cases hl
          | some xs =>
            rw [hx] at hl
            cases hl
            obtain ⟨a, us, rfl, s1, q1⟩ := lstOf_rep w r1 hx
            exact .inl ⟨us, s1, q1.len.symm⟩
  · cases e⟩
def gL1 (h : Int → D) : GL := fun ds M => match ds with
  | [.int i] => some (h i, M)
  | _ => none
def gL2 (h : Int → Int → D) : GL := fun ds M => match ds with
  | [.int i, .int j] => some (h i j, M)
  | _ => none
theorem cAbs : CalF X K (.builtin "abs") (gL1 fun i => .int (if i < 0 then -i else i)) := ⟨_, fun i => call_abs, fun W M vs ds z M' Q w r e q => by
  unfold gL1 at e
  split at e
  · cases e
    cases r with
    | cons r1 r2 =>
      cases r1
      cases r2
      exact ⟨_, rfl, q _ W (.refl W) w (.int _)⟩
  · cases e⟩
theorem cMax2 (c : Ctx X P w K mg base k) : CalF X K (.builtin "max") (gL2 fun i j => .int (if j > i then j else i)) := ⟨_, fun i => call_max2 (c.calm i), fun W M vs ds z M' Q w r e q => by
  unfold gL2 at e
  split at e
  · cases e
    cases r with
    | cons r1 r2 =>
      cases r2 with
      | cons r2 r3 =>
        cases r1
        cases r2
        cases r3
        exact ⟨_, _, rfl, q _ W (.refl W) w (.int _)⟩
  · cases e⟩
theorem cMin2 (c : Ctx X P w K mg base k) : CalF X K (.builtin "min") (gL2 fun i j => .int (if j < i then j else i)) := ⟨_, fun i => call_min2 (c.calm i), fun W M vs ds z M' Q w r e q => by
  unfold gL2 at e
  split at e
  · cases e
    cases r with
    | cons r1 r2 =>
      cases r2 with
      | cons r2 r3 =>
        cases r1
        cases r2
        cases r3
        exact ⟨_, _, rfl, q _ W (.refl W) w (.int _)⟩
  · cases e⟩
theorem cGcd : CalF X K (.builtin "math.gcd") (gL2 fun i j => .int ((Nat.gcd i.natAbs j.natAbs : Nat) : Int)) := ⟨_, fun i => cr_gcd, fun W M vs ds z M' Q w r e q => by
  unfold gL2 at e
  split at e
  · cases e
    cases r with
    | cons r1 r2 =>
      cases r2 with
      | cons r2 r3 =>
        cases r1
        cases r2
        cases r3
        exact ⟨_, _, rfl, q _ W (.refl W) w (.int _)⟩
  · cases e⟩
def intsOf : List D → Option (List Int)
  | [] => some []
  | .int i :: r => (match intsOf r with
    | some is => some (i :: is)
    | none => none)
  | _ => none
theorem rep_ints {B : Hp} {ι : List Addr} : ∀ {vs : List V} {ds : List D} {is : List Int}, RepL K B ι vs ds → intsOf ds = some is → vs = is.map V.int
  | _, _, _, .nil, e => by
    cases e
    rfl
  | _, _, _, .cons (d := d) r t, e => by
    unfold intsOf at e
    split at e
    · rename_i h1
      cases h1
    · rename_i h1
      split at e
      · rename_i is h2
        cases e
        cases h1
        cases r
        rw [List.map_cons, rep_ints t h2]
      · cases e
    · cases e
def gSum : GL := fun ds M => match ds with
  | [d] => (match lstOf M d with
    | some xs => (match intsOf xs with
      | some is => some (.int is.sum, M)
      | none => none)
    | none => none)
  | _ => none
theorem cSum (c : Ctx X P w K mg base k) : CalF X K (.builtin "sum") gSum := ⟨rSum K, fun i => by
  have h := cr_sum (X := X i) (c.calm i)
  rw [c.K i] at h
  exact h, fun W M vs ds z M' Q w r e q => by
  unfold gSum at e
  split at e
  · split at e
    · rename_i xs h1
      split at e
      · rename_i is h2
        cases e
        cases r with
        | cons r1 r2 =>
          cases r2
          obtain ⟨a, us, rfl, s1, q1⟩ := lstOf_rep w r1 h1
          have := rep_ints q1 h2
          subst this
          exact ⟨a, is, rfl, s1, q _ W (.refl W) w (.int _)⟩
      · cases e
    · cases e
  · cases e⟩
def gTupOf : GL := fun ds M => match ds with
  | [.tup xs] => some (.tup xs, M)
  | [d] => (match lstOf M d with
    | some xs => some (.tup xs, M)
    | none => none)
  | _ => none
theorem cTupOf (c : Ctx X P w K mg base k) : CalF X K (.type "tuple") gTupOf := ⟨fun xs H Q => ∃ p ys, xs = [.ref p] ∧ ((SqL K H p ys ∧ ∀ l, H l = none → Q (.ref l) (upd H l (.tup ys))) ∨ (SqT K H p ys ∧ Q (.ref p) H)), fun i => by
  have h := call_tuple_of (X := X i)
  rw [c.K i] at h
  exact h, fun W M vs ds z M' Q w r e q => by
  unfold gTupOf at e
  split at e
  · cases e
    cases r with
    | cons r1 r2 =>
      cases r2
      obtain ⟨a, us, rfl, s1, q1⟩ := tup_rep w r1
      exact ⟨a, us, rfl, .inr ⟨s1, q _ W (.refl W) w r1⟩⟩
  · split at e
    · rename_i xs h1
      cases e
      cases r with
      | cons r1 r2 =>
        cases r2
        obtain ⟨a, us, rfl, s1, q1⟩ := lstOf_rep w r1 h1
        refine ⟨a, us, rfl, .inl ⟨s1, fun p hp => ?_⟩⟩
        obtain ⟨l2, w2, r3⟩ := lay_tup w hp q1
        exact q _ _ l2 w2 r3
    · cases e
  · cases e⟩
def gLstOf : GL := fun ds M => match ds with
  | [.tup xs] => some (.lst xs, M)
  | [d] => (match lstOf M d with
    | some xs => some (.lst xs, M)
    | none => none)
  | _ => none
theorem cLstOf (c : Ctx X P w K mg base k) : CalF X K (.type "list") gLstOf := ⟨fun xs H Q => ∃ p ys, xs = [.ref p] ∧ (SqL K H p ys ∨ SqT K H p ys) ∧ ∀ l, H l = none → Q (.ref l) (upd H l (.lst ys)), fun i => by
  have h := call_list_of (X := X i)
  rw [c.K i] at h
  exact h, fun W M vs ds z M' Q w r e q => by
  unfold gLstOf at e
  split at e
  · cases e
    cases r with
    | cons r1 r2 =>
      cases r2
      obtain ⟨a, us, rfl, s1, q1⟩ := tup_rep w r1
      refine ⟨a, us, rfl, .inr s1, fun p hp => ?_⟩
      obtain ⟨l2, w2, r3⟩ := lay_lst w hp q1
      exact q _ _ l2 w2 r3
  · split at e
    · rename_i xs h1
      cases e
      cases r with
      | cons r1 r2 =>
        cases r2
        obtain ⟨a, us, rfl, s1, q1⟩ := lstOf_rep w r1 h1
        refine ⟨a, us, rfl, .inl s1, fun p hp => ?_⟩
        obtain ⟨l2, w2, r3⟩ := lay_lst w hp q1
        exact q _ _ l2 w2 r3
    · cases e
  · cases e⟩
def gStrInt : GL := fun ds M => match ds with
  | [.int i] => if i.natAbs.log2 < 1920 then some (.str (toString i), M) else none
  | _ => none
theorem cStrInt : CalF X K (.type "str") gStrInt := ⟨_, fun i => call_str_int, fun W M vs ds z M' Q w r e q => by
  unfold gStrInt at e
  split at e
  · split at e
    · rename_i hz
      cases e
      cases r with
      | cons r1 r2 =>
        cases r1
        cases r2
        exact ⟨_, rfl, hz, q _ W (.refl W) w (.str _)⟩
    · cases e
  · cases e⟩
def gInt1 : GL := fun ds M => match ds with
  | [.int i] => some (.int i, M)
  | [.bl b] => some (.int (if b then 1 else 0), M)
  | [.str x] => (match PySem.intText? x with
    | some n => if x.length ≤ 640 then some (.int n, M) else none
    | none => none)
  | _ => none
theorem cInt1 : CalF X K (.type "int") gInt1 := ⟨_, fun i => CallR.or call_int1 call_int_str, fun W M vs ds z M' Q w r e q => by
  unfold gInt1 at e
  split at e
  · cases e
    cases r with
    | cons r1 r2 =>
      cases r1
      cases r2
      exact .inl (.inl ⟨_, rfl, q _ W (.refl W) w (.int _)⟩)
  · cases e
    cases r with
    | cons r1 r2 =>
      cases r1
      cases r2
      exact .inl (.inr ⟨_, rfl, q _ W (.refl W) w (.int _)⟩)
  · split at e
    · rename_i n h1
      split at e
      · rename_i hz
        cases e
        cases r with
        | cons r1 r2 =>
          cases r1
          cases r2
          exact .inr ⟨_, n, rfl, h1, hz, q _ W (.refl W) w (.int _)⟩
      · cases e
    · cases e
  · cases e⟩
def bsOf : List D → Option (List Bool)
  | [] => some []
  | .bl i :: r => (match bsOf r with
    | some is => some (i :: is)
    | none => none)
  | _ => none
theorem rep_bs {B : Hp} {ι : List Addr} : ∀ {vs : List V} {ds : List D} {is : List Bool}, RepL K B ι vs ds → bsOf ds = some is → vs = is.map V.bl
  | _, _, _, .nil, e => by
    cases e
    rfl
  | _, _, _, .cons (d := d) r t, e => by
    unfold bsOf at e
    split at e
    · rename_i h1
      cases h1
    · rename_i h1
      split at e
      · rename_i is h2
        cases e
        cases h1
        cases r
        rw [List.map_cons, rep_bs t h2]
      · cases e
    · cases e
def gBs (h : List Bool → Bool) : GL := fun ds M => match ds with
  | [d] => (match lstOf M d with
    | some xs => (match bsOf xs with
      | some bs => some (.bl (h bs), M)
      | none => none)
    | none => none)
  | _ => none
theorem cAll (c : Ctx X P w K mg base k) : CalF X K (.builtin "all") (gBs fun bs => bs.all id) := ⟨rAll K, fun i => by
  have h := cr_all (X := X i) (c.calm i)
  rw [c.K i] at h
  exact h, fun W M vs ds z M' Q w r e q => by
  unfold gBs at e
  split at e
  · split at e
    · rename_i xs h1
      split at e
      · rename_i is h2
        cases e
        cases r with
        | cons r1 r2 =>
          cases r2
          obtain ⟨a, us, rfl, s1, q1⟩ := lstOf_rep w r1 h1
          have := rep_bs q1 h2
          subst this
          exact ⟨a, is, rfl, s1, q _ W (.refl W) w (.bl _)⟩
      · cases e
    · cases e
  · cases e⟩
theorem cAny (c : Ctx X P w K mg base k) : CalF X K (.builtin "any") (gBs fun bs => bs.any id) := ⟨rAny K, fun i => by
  have h := cr_any (X := X i) (c.calm i)
  rw [c.K i] at h
  exact h, fun W M vs ds z M' Q w r e q => by
  unfold gBs at e
  split at e
  · split at e
    · rename_i xs h1
      split at e
      · rename_i is h2
        cases e
        cases r with
        | cons r1 r2 =>
          cases r2
          obtain ⟨a, us, rfl, s1, q1⟩ := lstOf_rep w r1 h1
          have := rep_bs q1 h2
          subst this
          exact ⟨a, is, rfl, s1, q _ W (.refl W) w (.bl _)⟩
      · cases e
    · cases e
  · cases e⟩
end
end Pl

namespace Pl
open PySem L2
section
variable {I : Type} {X : I → Cx} {P : Program} {w : World} {K : PySem.W.Frag} {mg : Str → Option Value} {base : Heap} {k : Nat}

/-! ### isinstance -/
def tyN (M : Mh) : D → Option String
  | .non => some "NoneType"
  | .bl _ => some "bool"
  | .int _ => some "int"
  | .str _ => some "str"
  | .tup _ => some "tuple"
  | .lst _ => some "list"
  | .ref n => (match M[n]? with
    | some (.lst _) => some "list"
    | some (.dic _) => some "dict"
    | _ => none)
  | _ => none
theorem sqT_ty {H : Hp} {a : Addr} {vs : List V} (h : SqT K H a vs) : TyX K H (.ref a) (.type "tuple") := by
  rcases h with h | ⟨o, its, n, h1, h2, _⟩
  · rcases h with h | ⟨o, h⟩
    · exact .base (.tup h)
    · exact .fTuple h
  · exact .kTuple h1 h2
theorem tyN_rep {W : Wd} {M : Mh} {x : V} {d : D} {n : String} (w : W.Ok K M) (r : Rep K W.B W.ι x d) (h : tyN M d = some n) : TyX K W.H x (.type n) := by
  cases r with
  | non => cases h; exact .base .non
  | bl b => cases h; exact .base (.bl b)
  | int b => cases h; exact .base (.int b)
  | str b => cases h; exact .base (.str b)
  | tup h1 _ => cases h; exact sqT_ty (sqT_mono w.sub h1)
  | lst h1 _ => cases h; exact .base (.lst (w.sub _ _ h1))
  | ty _ => cases h
  | ob _ => cases h
  | lsk _ _ => cases h
  | ref h1 =>
    unfold tyN at h
    dsimp only at h
    split at h
    · rename_i hm
      cases h
      obtain ⟨_, _, o, ho, ro⟩ := w.live _ _ _ ⟨h1, hm, fun z => by cases z⟩
      cases ro with
      | lst _ => exact .base (.lst ho)
    · rename_i hm
      cases h
      obtain ⟨_, _, o, ho, ro⟩ := w.live _ _ _ ⟨h1, hm, fun z => by cases z⟩
      cases ro with
      | dic _ => exact .base (.dK ho)
    · cases h
def gIsi : GL := fun ds M => match ds with
  | [d, .ty n] => (match tyN M d with
    | some t => (match kitB t n with
      | some b => some (.bl b, M)
      | none => none)
    | none => none)
  | _ => none
theorem cIsi (c : Ctx X P w K mg base k) : CalF X K (.builtin "isinstance") gIsi := ⟨rIsi K, fun i => by
  have h := call_isi (X := X i)
  rw [c.K i] at h
  exact h, fun W M vs ds z M' Q w r e q => by
  unfold gIsi at e
  split at e
  · split at e
    · rename_i t h1
      split at e
      · rename_i b h2
        cases e
        cases r with
        | cons r1 r2 =>
          cases r2 with
          | cons r2 r3 =>
            cases r2
            cases r3
            exact ⟨_, _, _, _, b, rfl, .ty _, tyN_rep w r1 h1, kit_ty h2, q _ W (.refl W) w (.bl _)⟩
      · cases e
    · cases e
  · cases e⟩

/-! ### in -/
theorem room_in {A : Around} {xs : List PyData} {d : PyData} (h : SeqAt.shaped d = true) (u : A.units + 65 < cLine) : A.units + 1 + min (PyData.depthAll xs) d.depth < cLine := by
  have h1 := SeqAt.depth_of_shaped h
  have h2 := Nat.min_le_right (PyData.depthAll xs) d.depth
  omega
def rInT (K : PySem.W.Frag) : R2 := fun x y H Q => ∃ d ds, Dp K H x d ∧ Dp K H y (.tuple ds) ∧ SeqAt.shaped d = true ∧ SeqAt.shaped (.tuple ds) = true ∧ Q (.bl (ds.any fun z => PyData.eqv z d)) H
def rNotInT (K : PySem.W.Frag) : R2 := fun x y H Q => ∃ d ds, Dp K H x d ∧ Dp K H y (.tuple ds) ∧ SeqAt.shaped d = true ∧ SeqAt.shaped (.tuple ds) = true ∧ Q (.bl (!ds.any fun z => PyData.eqv z d)) H
theorem op_inT {Y : Cx} (room : Y.A.units + 65 < cLine) : OpR Y (compareOp .In) (rInT Y.K) := fun pins s σ H x y v u Q J rx ry ⟨d, ds, hd, he, sd, se, q⟩ => by
  obtain ⟨as, r1⟩ := Dp.reads J d x v hd rx
  obtain ⟨bs, r2⟩ := Dp.reads J (.tuple ds) y u he ry
  exact SeqAt.in_tuple_reads r2 r1 (SeqAt.canLay_of_shaped se) (SeqAt.canLay_of_shaped sd) (room_in sd room) ⟨.bl _, H, J, rfl, q⟩
theorem op_notInT {Y : Cx} (room : Y.A.units + 65 < cLine) : OpR Y (compareOp .NotIn) (rNotInT Y.K) := fun pins s σ H x y v u Q J rx ry ⟨d, ds, hd, he, sd, se, q⟩ => by
  obtain ⟨as, r1⟩ := Dp.reads J d x v hd rx
  obtain ⟨bs, r2⟩ := Dp.reads J (.tuple ds) y u he ry
  exact SeqAt.notIn_tuple_reads r2 r1 (SeqAt.canLay_of_shaped se) (SeqAt.canLay_of_shaped sd) (room_in sd room) ⟨.bl _, H, J, rfl, q⟩
/-- a sign in a text, a thing in a row -/
def gIn (h : Bool → Bool) : O2 := fun a b M => match a, b with
  | .str ⟨⟨[s]⟩⟩, .str z => some (.bl (h (decide (s ∈ z.cps.toList))), M)
  | a, b => (match toP (deref M a), toP (deref M b) with
    | some p, some (.tuple ps) => if SeqAt.shaped p && SeqAt.shaped (.tuple ps) then some (.bl (h (ps.any fun z => PyData.eqv z p)), M) else none
    | some p, some (.list ps) => if SeqAt.shaped p && SeqAt.shaped (.list ps) then some (.bl (h (ps.any fun z => PyData.eqv z p)), M) else none
    | _, _ => none)
theorem room65 {A : Around} {j : Nat} (r : Room j A) : A.units + 65 < cLine := by
  have := r.un
  omega
theorem opIn (c : Ctx X P w K mg base k) : OpF X K (compareOp .In) (gIn fun b => b) := ⟨fun x y H Q => (∃ (c : Nat) (z : Str), x = .str ⟨#[c]⟩ ∧ y = .str z ∧ Q (.bl (decide (c ∈ z.cps.toList))) H) ∨ rInT K x y H Q ∨ rInD K x y H Q, fun i => by
  have h := OpR.or (X := X i) op_in_sign (OpR.or (op_inT (room65 (c.room i))) (op_inD (room65 (c.room i))))
  rw [c.K i] at h
  exact h, fun W M x y a b z M' Q w ra rb e q => by
  unfold gIn at e
  split at e
  · cases ra
    cases rb
    cases e
    exact .inl ⟨_, _, rfl, rfl, q _ W (.refl W) w (.bl _)⟩
  · split at e
    · rename_i h1 h2
      split at e
      · rename_i hs
        cases e
        rw [Bool.and_eq_true] at hs
        exact .inr (.inl ⟨_, _, dp_of w ra h1, dp_of w rb h2, hs.1, hs.2, q _ W (.refl W) w (.bl _)⟩)
      · cases e
    · rename_i h1 h2
      split at e
      · rename_i hs
        cases e
        rw [Bool.and_eq_true] at hs
        exact .inr (.inr ⟨_, _, dp_of w ra h1, dp_of w rb h2, hs.1, hs.2, q _ W (.refl W) w (.bl _)⟩)
      · cases e
    · cases e⟩
theorem opNotIn (c : Ctx X P w K mg base k) : OpF X K (compareOp .NotIn) (gIn fun b => !b) := ⟨fun x y H Q => (∃ (c : Nat) (z : Str), x = .str ⟨#[c]⟩ ∧ y = .str z ∧ Q (.bl (!decide (c ∈ z.cps.toList))) H) ∨ rNotInT K x y H Q ∨ rNotInD K x y H Q, fun i => by
  have h := OpR.or (X := X i) op_notIn_sign (OpR.or (op_notInT (room65 (c.room i))) (op_notInD (room65 (c.room i))))
  rw [c.K i] at h
  exact h, fun W M x y a b z M' Q w ra rb e q => by
  unfold gIn at e
  split at e
  · cases ra
    cases rb
    cases e
    exact .inl ⟨_, _, rfl, rfl, q _ W (.refl W) w (.bl _)⟩
  · split at e
    · rename_i h1 h2
      split at e
      · rename_i hs
        cases e
        rw [Bool.and_eq_true] at hs
        exact .inr (.inl ⟨_, _, dp_of w ra h1, dp_of w rb h2, hs.1, hs.2, q _ W (.refl W) w (.bl _)⟩)
      · cases e
    · rename_i h1 h2
      split at e
      · rename_i hs
        cases e
        rw [Bool.and_eq_true] at hs
        exact .inr (.inr ⟨_, _, dp_of w ra h1, dp_of w rb h2, hs.1, hs.2, q _ W (.refl W) w (.bl _)⟩)
      · cases e
    · cases e⟩

/-! ### a list of the store stands still from here on -/
def eFrz (i : Nat) : EF := fun δ M => match δ[i]? with
  | some (some (.ref n)) => (match M[n]? with
    | some (.lst ds) => some (.lst ds, M.set n .dead)
    | _ => none)
  | _ => none
theorem DE.frz (j : Nat) {x : Str} {pos : Pos} (hN : ∀ i, (X i).N[j]? = some x := by intro _; rfl) (hv : ∀ i, Vis (X i).env.scope x := by intro _; first | exact Or.inl rfl | exact Or.inr (Or.inl rfl) | exact Or.inr (Or.inr rfl)) (hd : (x == ("__debug__" : Str)) = false := by decide)
    (hcd : (x == ("__classdict__" : Str)) = false := by decide) : DE X K (.Name x pos) (eFrz j) := by
  refine ⟨tVar j, fun i => pe_var (hN i) (hv i) hd hcd, fun σ W δ M d M' Q w s e q => ?_⟩
  unfold eFrz at e
  split at e
  · rename_i n h
    split at e
    · rename_i ds hm
      cases e
      obtain ⟨v, h1, h2⟩ := s.at_ _ _ h
      refine ⟨v, h1, ?_⟩
      cases h2 with
      | ref hi =>
        have lv : Live W M n _ (.lst ds) := ⟨hi, hm, fun z => by cases z⟩
        obtain ⟨_, _, o, ho, ro⟩ := w.live _ _ _ lv
        cases ro with
        | lst r1 => exact q _ (W.frz _ _) (Wd.frz_le w lv) (Wd.frz_ok w lv ho) (.lst upd_same (r1.le (Wd.frz_le w lv)))
    · cases e
  · cases e

/-! ### lists that change -/
def eMeth2 (g : D → List D → Mh → Option (D × Mh)) (f : EF) (a : AF) : EF := fun δ M => match f δ M with
  | some (o, M1) => if (lstOf M1 o).isSome then (match a δ M1 with
    | some (ds, M2) => g o ds M2
    | none => none) else none
  | none => none
def gApp : D → List D → Mh → Option (D × Mh) := fun o ds M => match o, ds with
  | .ref n, [d] => (match M[n]? with
    | some (.lst xs) => if xs.length < sizeLine then some (.non, M.set n (.lst (xs ++ [d]))) else none
    | _ => none)
  | _, _ => none
theorem lst_live {W : Wd} {M : Mh} {x : V} {n : Nat} {xs : List D} (w : W.Ok K M) (r : Rep K W.B W.ι x (.ref n)) (hm : M[n]? = some (.lst xs)) : ∃ a vs, x = .ref a ∧ Live W M n a (.lst xs) ∧ W.H a = some (.lst vs) ∧ RepL K W.B W.ι vs xs := by
  cases r with
  | ref hi =>
    have lv : Live W M n _ (.lst xs) := ⟨hi, hm, fun z => by cases z⟩
    obtain ⟨_, _, o, ho, ro⟩ := w.live _ _ _ lv
    cases ro with
    | lst r1 => exact ⟨_, _, rfl, lv, ho, r1⟩
/-- a method of a list -/
structure MetF (X : I → Cx) (K : PySem.W.Frag) (id : String) (g : D → List D → Mh → Option (D × Mh)) : Prop where
  go : ∃ r : V → List V → Hp → VK → Prop, (∀ i, MtR (X i) id r) ∧ ∀ (W : Wd) (M : Mh) (x : V) (o : D) (vs : List V) (ds : List D) (z : D) (M' : Mh) (Q : VK), W.Ok K M → Rep K W.B W.ι x o → RepL K W.B W.ι vs ds → g o ds M = some (z, M') → VR K W z M' Q → r x vs W.H Q
theorem DE.lmeth (c : Ctx X P w K mg base k) {o e : Expr} {es : List Expr} {name : Str} {id : String} {apos cpos : Pos} {g : D → List D → Mh → Option (D × Mh)} {f : EF} {a : AF} (m : MetF X K id g) (slot : Slot "list" name id) (ty : typeOf (.builtin id) = pure (.type "method_descriptor")) (ho : DE X K o f) (ha : DA X K (e :: es) a)
    (hbase : ∀ i, attributeBase o name (X i).env (eval o (X i).env) = eval o (X i).env := by intro _; rfl)
    (hfew : ∀ i, ((backTo cpos (starEach (e :: es) (X i).env)).all (fun x => !x.1) && (backToKw cpos (keywordEach [] (X i).env)).all (fun x => x.1.isSome) && decide ((e :: es).length + ([] : List Keyword).length + (if ([] : List Keyword).isEmpty then 0 else 1) < 30)) = true := by intro _; rfl)
    (hline : (apos.endLine == cpos.line) = true := by rfl) (hs : ∀ i, starEach (e :: es) (X i).env = (false, eval e (X i).env) :: starEach es (X i).env := by intro _; rfl) (hpl : ∀ i, (backTo cpos (starEach es (X i).env)).any (·.1) = false := by intro _; rfl) :
    DE X K (.Call (.Attribute o name apos) (e :: es) [] cpos) (eMeth2 g f a) := by
  obtain ⟨t, pa, r⟩ := ho.go
  obtain ⟨ta, paa, ra⟩ := ha.go
  obtain ⟨rr, hm, hr⟩ := m.go
  refine ⟨tBM K "list" rr t ta, fun i => ?_, fun σ W δ M d M' Q w s ev q => ?_⟩
  · have h := pe_bm (X := X i) PySem.F.plainAttrs_list slot ty (hm i) (pa i) (paa i) (hbase i) (hfew i) hline (hs i) (hpl i)
    rw [c.K i] at h
    exact h
  · unfold eMeth2 at ev
    split at ev
    · rename_i od M1 h1
      split at ev
      · rename_i hso
        split at ev
        · rename_i ds M2 h2
          obtain ⟨xs, hxs⟩ := Option.isSome_iff_exists.mp hso
          refine r σ W δ M _ _ _ w s h1 fun v W1 l1 w1 r1 => ⟨?_, ?_⟩
          · obtain ⟨l, vs, rfl, s1, _⟩ := lstOf_rep w1 r1 hxs
            exact .inl ⟨rfl, vs, s1⟩
          · exact ra σ W1 δ M1 _ _ _ w1 (s.le l1) h2 fun vs W2 l2 w2 r2 => hr W2 M2 v od vs ds d M' Q w2 (r1.le l2) r2 ev (q.le (l1.trans l2))
        · cases ev
      · cases ev
    · cases ev
theorem mApp : MetF X K "list.append" gApp := ⟨_, fun i => mt_append, fun W M x o vs ds z M' Q w rx rv ev q => by
  unfold gApp at ev
  split at ev
  · split at ev
    · rename_i xs hm
      split at ev
      · rename_i hl
        cases ev
        obtain ⟨p, us, rfl, lv, hp, ru⟩ := lst_live w rx hm
        cases rv with
        | cons ry r3 =>
          cases r3
          refine ⟨p, us, _, rfl, rfl, hp, by rw [ru.len]; exact hl, ?_⟩
          exact q .non (W.put p _) Wd.put_le (Wd.put_ok w lv (.lst (ru.append (.cons ry .nil)))) .non
      · cases ev
    · cases ev
  · cases ev⟩
def gIns : D → List D → Mh → Option (D × Mh) := fun o ds M => match o, ds with
  | .ref n, [.int i, d] => (match M[n]? with
    | some (.lst xs) => if xs.length < sizeLine ∧ 0 ≤ i ∧ i < 2 ^ 63 then some (.non, M.set n (.lst (xs.take i.toNat ++ [d] ++ xs.drop i.toNat))) else none
    | _ => none)
  | _, _ => none
theorem mIns : MetF X K "list.insert" gIns := ⟨_, fun i => mt_insert, fun W M x o vs ds z M' Q w rx rv ev q => by
  unfold gIns at ev
  split at ev
  · split at ev
    · rename_i xs hm
      split at ev
      · rename_i hl
        cases ev
        obtain ⟨p, us, rfl, lv, hp, ru⟩ := lst_live w rx hm
        cases rv with
        | cons ri rv =>
          cases ri
          cases rv with
          | cons ry r3 =>
            cases r3
            refine ⟨p, us, _, _, rfl, rfl, hp, by rw [ru.len]; exact hl.1, hl.2.1, hl.2.2, ?_⟩
            exact q .non (W.put p _) Wd.put_le (Wd.put_ok w lv (.lst (((ru.take _).append (.cons ry .nil)).append (ru.drop _)))) .non
      · cases ev
    · cases ev
  · cases ev⟩

/-! ### methods of texts -/
def eS0 (g : Str → Mh → Option (D × Mh)) (f : EF) : EF := fun δ M => match f δ M with
  | some (.str x, M1) => g x M1
  | _ => none
def eS1 (g : Str → D → Mh → Option (D × Mh)) (f h : EF) : EF := fun δ M => match f δ M with
  | some (.str x, M1) => (match h δ M1 with
    | some (d, M2) => g x d M2
    | none => none)
  | _ => none
structure SmF (X : I → Cx) (K : PySem.W.Frag) (id : String) (g : Str → D → Mh → Option (D × Mh)) : Prop where
  go : ∃ r : V → List V → Hp → VK → Prop, (∀ i, MtR (X i) id r) ∧ ∀ (W : Wd) (M : Mh) (x : Str) (v : V) (d : D) (z : D) (M' : Mh) (Q : VK), W.Ok K M → Rep K W.B W.ι v d → g x d M = some (z, M') → VR K W z M' Q → r (.str x) [v] W.H Q
theorem DE.smeth {o e : Expr} {name : Str} {id : String} {apos pos : Pos} {g : Str → D → Mh → Option (D × Mh)} {f h : EF} (m : SmF X K id g) (slot : Slot "str" name id) (ty : typeOf (.builtin id) = pure (.type "method_descriptor")) (ho : DE X K o f) (he : DE X K e h)
    (hs : ∀ i, starEach [e] (X i).env = [(false, eval e (X i).env)] := by intro _; rfl) (hbase : ∀ i, attributeBase o name (X i).env (eval o (X i).env) = eval o (X i).env := by intro _; rfl) (hline : (apos.endLine == pos.line) = true := by rfl) :
    DE X K (.Call (.Attribute o name apos) [e] [] pos) (eS1 g f h) := by
  obtain ⟨t, pa, r⟩ := ho.go
  obtain ⟨te, pe, re⟩ := he.go
  obtain ⟨rr, hm, hr⟩ := m.go
  refine ⟨tM1 rr t te, fun i => pe_m1 slot ty (hm i) (pa i) (pe i) (hs i) (hbase i) hline, fun σ W δ M d M' Q w s ev q => ?_⟩
  unfold eS1 at ev
  split at ev
  · rename_i x M1 h1
    split at ev
    · rename_i d2 M2 h2
      refine r σ W δ M _ _ _ w s h1 fun v W1 l1 w1 r1 => ?_
      cases r1
      exact ⟨⟨x, rfl⟩, re σ W1 δ M1 _ _ _ w1 (s.le l1) h2 fun u W2 l2 w2 r2 => hr W2 M2 x u d2 d M' Q w2 r2 ev (q.le (l1.trans l2))⟩
    · cases ev
  · cases ev
structure SmF0 (X : I → Cx) (K : PySem.W.Frag) (id : String) (g : Str → Mh → Option (D × Mh)) : Prop where
  go : ∃ r : V → List V → Hp → VK → Prop, (∀ i, MtR (X i) id r) ∧ ∀ (W : Wd) (M : Mh) (x : Str) (z : D) (M' : Mh) (Q : VK), W.Ok K M → g x M = some (z, M') → VR K W z M' Q → r (.str x) [] W.H Q
theorem DE.smeth0 {o : Expr} {name : Str} {id : String} {apos pos : Pos} {g : Str → Mh → Option (D × Mh)} {f : EF} (m : SmF0 X K id g) (slot : Slot "str" name id) (ty : typeOf (.builtin id) = pure (.type "method_descriptor")) (ho : DE X K o f)
    (hbase : ∀ i, attributeBase o name (X i).env (eval o (X i).env) = eval o (X i).env := by intro _; rfl) (hline : (apos.endLine == pos.line) = true := by rfl) :
    DE X K (.Call (.Attribute o name apos) [] [] pos) (eS0 g f) := by
  obtain ⟨t, pa, r⟩ := ho.go
  obtain ⟨rr, hm, hr⟩ := m.go
  refine ⟨tM0 rr t, fun i => pe_m0 slot ty (hm i) (pa i) (hbase i) hline, fun σ W δ M d M' Q w s ev q => ?_⟩
  unfold eS0 at ev
  split at ev
  · rename_i x M1 h1
    refine r σ W δ M _ _ _ w s h1 fun v W1 l1 w1 r1 => ?_
    cases r1
    exact ⟨⟨x, rfl⟩, hr W1 M1 x d M' Q w1 ev (q.le l1)⟩
  · cases ev
def strsOf : List D → Option (List Str)
  | [] => some []
  | .str i :: r => (match strsOf r with
    | some is => some (i :: is)
    | none => none)
  | _ => none
theorem rep_strs {B : Hp} {ι : List Addr} : ∀ {vs : List V} {ds : List D} {is : List Str}, RepL K B ι vs ds → strsOf ds = some is → vs = is.map V.str
  | _, _, _, .nil, e => by
    cases e
    rfl
  | _, _, _, .cons (d := d) r t, e => by
    unfold strsOf at e
    split at e
    · rename_i h1
      cases h1
    · rename_i h1
      split at e
      · rename_i is h2
        cases e
        cases h1
        cases r
        rw [List.map_cons, rep_strs t h2]
      · cases e
    · cases e
theorem strs_rep {B : Hp} {ι : List Addr} : ∀ ys : List Str, RepL K B ι (ys.map V.str) (ys.map D.str)
  | [] => .nil
  | y :: ys => .cons (.str y) (strs_rep ys)
def gJoin : Str → D → Mh → Option (D × Mh) := fun a d M => match (match d with
    | .tup xs => some xs
    | d => lstOf M d) with
  | some xs => (match strsOf xs with
    | some ys => if (ys.map (·.length)).sum + ys.length * a.length ≤ 16777216 then some (.str (Txt.join a ys), M) else none
    | none => none)
  | none => none
theorem sJoin (c : Ctx X P w K mg base k) : SmF X K "str.join" gJoin := ⟨fun x xs H Q => ∃ a p, ∃ ys : List Str, x = .str a ∧ xs = [.ref p] ∧ (SqL K H p (ys.map V.str) ∨ SqT K H p (ys.map V.str)) ∧ (ys.map (·.length)).sum + ys.length * a.length ≤ 16777216 ∧ Q (.str (Txt.join a ys)) H, fun i => by
  have h := mt_join (X := X i)
  rw [c.K i] at h
  exact h, fun W M x v d z M' Q w rv ev q => by
  unfold gJoin at ev
  split at ev
  · rename_i xs h1
    split at ev
    · rename_i ys h2
      split at ev
      · rename_i hz
        cases ev
        split at h1
        · cases h1
          obtain ⟨p, us, rfl, s1, q1⟩ := tup_rep w rv
          have := rep_strs q1 h2
          subst this
          exact ⟨x, p, ys, rfl, rfl, .inr s1, hz, q _ W (.refl W) w (.str _)⟩
        · obtain ⟨p, us, rfl, s1, q1⟩ := lstOf_rep w rv h1
          have := rep_strs q1 h2
          subst this
          exact ⟨x, p, ys, rfl, rfl, .inl s1, hz, q _ W (.refl W) w (.str _)⟩
      · cases ev
    · cases ev
  · cases ev⟩
def gSplit : Str → D → Mh → Option (D × Mh) := fun a d M => match d with
  | .str b => if (b.length == 0) = false ∧ a.length + 2 ≤ sizeLine then some (.lst ((Txt.split a b).map D.str), M) else none
  | _ => none
theorem sSplit : SmF X K "str.split" gSplit := ⟨_, fun i => mt_split, fun W M x v d z M' Q w rv ev q => by
  unfold gSplit at ev
  split at ev
  · split at ev
    · rename_i hz
      cases ev
      cases rv
      refine ⟨x, _, rfl, rfl, hz.1, hz.2, fun p hp => ?_⟩
      obtain ⟨l2, w2, r3⟩ := lay_lst w hp (strs_rep (Txt.split x _))
      exact q _ _ l2 w2 r3
    · cases ev
  · cases ev⟩
def gPart : Str → D → Mh → Option (D × Mh) := fun a d M => match d with
  | .str b => if (b.length == 0) = false ∧ a.length ≤ sizeLine then some (.tup [.str (Txt.partition a b).1, .str (Txt.partition a b).2.1, .str (Txt.partition a b).2.2], M) else none
  | _ => none
theorem sPart : SmF X K "str.partition" gPart := ⟨_, fun i => mt_partition, fun W M x v d z M' Q w rv ev q => by
  unfold gPart at ev
  split at ev
  · split at ev
    · rename_i hz
      cases ev
      cases rv
      refine ⟨x, _, rfl, rfl, hz.1, hz.2, fun p hp => ?_⟩
      obtain ⟨l2, w2, r3⟩ := lay_tup w hp (.cons (.str _) (.cons (.str _) (.cons (.str _) .nil)))
      exact q _ _ l2 w2 r3
    · cases ev
  · cases ev⟩
def gUpper : Str → Mh → Option (D × Mh) := fun a M => if a.length ≤ 5592405 then some (.str (Txt.upper a), M) else none
theorem sUpper : SmF0 X K "str.upper" gUpper := ⟨_, fun i => mt_upper, fun W M x z M' Q w ev q => by
  unfold gUpper at ev
  split at ev
  · rename_i hz
    cases ev
    exact ⟨x, rfl, rfl, hz, q _ W (.refl W) w (.str _)⟩
  · cases ev⟩

/-! ### f'..' -/
def eFmt (f : EF) : EF := fun δ M => match f δ M with
  | some (.str x, M1) => if x.length ≤ sizeLine then some (.str x, M1) else none
  | some (.int i, M1) => if i.natAbs.log2 < 1920 then some (.str (toString i), M1) else none
  | _ => none
theorem DE.fmt {e : Expr} {pos : Pos} {f : EF} (h : DE X K e f) : DE X K (.FormattedValue e (-1) none pos) (eFmt f) := by
  obtain ⟨t, p, r⟩ := h.go
  refine ⟨tFmt t, fun i => pe_fmt (p i), fun σ W δ M d M' Q w s ev q => ?_⟩
  unfold eFmt at ev
  split at ev
  · rename_i x M1 h1
    split at ev
    · rename_i hz
      cases ev
      refine r σ W δ M _ _ _ w s h1 fun v W1 l1 w1 r1 => ?_
      cases r1
      exact .inl ⟨x, rfl, hz, q _ W1 l1 w1 (.str _)⟩
    · cases ev
  · rename_i x M1 h1
    split at ev
    · rename_i hz
      cases ev
      refine r σ W δ M _ _ _ w s h1 fun v W1 l1 w1 r1 => ?_
      cases r1
      exact .inr ⟨x, rfl, hz, q _ W1 l1 w1 (.str _)⟩
    · cases ev
  · cases ev
structure DJ (X : I → Cx) (K : PySem.W.Frag) (es : List Expr) (f : Str → Env → Mh → Option (D × Mh)) : Prop where
  go : ∃ ts : List TE, (∀ i, PJ (X i) es ts) ∧ ∀ (acc : Str) (σ : St) (W : Wd) (δ : Env) (M : Mh) (d : D) (M' : Mh) (Q : VK), W.Ok K M → Slots K W σ δ → f acc δ M = some (d, M') → VR K W d M' Q → tJs ts acc σ W.H (fun out H1 => Q (.str out) H1)
def jNil : Str → Env → Mh → Option (D × Mh) := fun acc _ M => some (.str acc, M)
def jCons (f : EF) (g : Str → Env → Mh → Option (D × Mh)) : Str → Env → Mh → Option (D × Mh) := fun acc δ M => match f δ M with
  | some (.str x, M1) => if (acc ++ x).length ≤ sizeLine then g (acc ++ x) δ M1 else none
  | _ => none
theorem DJ.nil : DJ X K [] jNil := ⟨[], fun i => .nil, fun acc σ W δ M d M' Q w s ev q => by
  cases ev
  exact q _ W (.refl W) w (.str _)⟩
theorem DJ.cons {e : Expr} {es : List Expr} {f : EF} {g : Str → Env → Mh → Option (D × Mh)} (a : DE X K e f) (b : DJ X K es g) : DJ X K (e :: es) (jCons f g) := by
  obtain ⟨t, p, r⟩ := a.go
  obtain ⟨ts, ps, rs⟩ := b.go
  refine ⟨t :: ts, fun i => .cons (p i) (ps i), fun acc σ W δ M d M' Q w s ev q => ?_⟩
  unfold jCons at ev
  split at ev
  · rename_i x M1 h1
    split at ev
    · rename_i hz
      refine r σ W δ M _ _ _ w s h1 fun v W1 l1 w1 r1 => ?_
      cases r1
      exact ⟨x, rfl, hz, rs _ σ W1 δ M1 d M' Q w1 (s.le l1) ev (q.le l1)⟩
    · cases ev
  · cases ev
theorem DE.joined {v1 v2 : Expr} {rest : List Expr} {pos : Pos} {f : Str → Env → Mh → Option (D × Mh)} (h : DJ X K (v1 :: v2 :: rest) f) : DE X K (.JoinedStr (v1 :: v2 :: rest) pos) (f Str.empty) := by
  obtain ⟨ts, ps, rs⟩ := h.go
  exact ⟨_, fun i => pe_joined (ps i), fun σ W δ M d M' Q w s ev q => rs Str.empty σ W δ M d M' Q w s ev q⟩

/-! ### texts, enumerate, zip walked -/
def aSigns (f : EF) : AF := fun δ M => match f δ M with
  | some (.str x, M1) => some (x.cps.toList.map fun c => .str ⟨#[c]⟩, M1)
  | _ => none
theorem DI.str {tg e : Expr} {f : EF} (h : DE X K e f) : DI X K tg e (aSigns f) := by
  obtain ⟨t, p, r⟩ := h.go
  refine ⟨iStr t, fun i => pi_str (p i), fun σ W δ M ds M' R w s ev q => ?_⟩
  unfold aSigns at ev
  split at ev
  · rename_i x M1 h1
    cases ev
    refine r σ W δ M _ _ _ w s h1 fun v W1 l1 w1 r1 => ?_
    cases r1
    refine ⟨x, rfl, q _ W1 l1 w1 fun i W2 M2 l2 w2 => ⟨fun e => ?_, fun d e => ?_⟩⟩
    · have := List.getElem?_eq_none_iff.mp e
      rw [List.length_map, Array.length_toList] at this
      exact this
    · rw [List.getElem?_map] at e
      cases hc : x.cps.toList[i]? with
      | none =>
        rw [hc] at e
        cases e
      | some c =>
        rw [hc] at e
        cases e
        have hi : i < x.cps.size := by
          have := (List.getElem?_eq_some_iff.mp hc).1
          simpa using this
        refine ⟨hi, fun y H' ⟨e1, c', e2, e3⟩ => ⟨W2, e1.symm, .refl W2, w2, ?_⟩⟩
        have e4 : some c' = some c := by rw [← e2, ← hc]; simp
        cases e4
        subst e3
        exact .str _
  · cases ev
theorem wk_pair {J : It} {W0 : Wd} {ds es : List D} {n : Nat} (hs : ∀ (W : Wd) (M : Mh), W0.Lo W → W.Ok K M → (∀ i, n ≤ i → J.stop i W.H) ∧ ∀ i a b, i < n → ds[i]? = some a → es[i]? = some b → J.go i W.H ∧ ∀ x H', J.yld i W.H x H' → ∃ T x1 x2, x = .ref T ∧ W.H T = none ∧ H' = upd W.H T (.tup [x1, x2]) ∧ Rep K W.B W.ι x1 a ∧ Rep K W.B W.ι x2 b)
    (h1 : n ≤ ds.length) (h2 : n ≤ es.length) (hn : n = min ds.length es.length) : Wk K J W0 ((ds.zip es).map fun p => .tup [p.1, p.2]) := fun i W M l w => by
  obtain ⟨hst, hgo⟩ := hs W M l w
  refine ⟨fun e => ?_, fun d e => ?_⟩
  · have := List.getElem?_eq_none_iff.mp e
    rw [List.length_map, List.length_zip] at this
    exact hst i (by omega)
  · rw [List.getElem?_map] at e
    cases hz : (ds.zip es)[i]? with
    | none =>
      rw [hz] at e
      cases e
    | some p =>
      rw [hz] at e
      cases e
      obtain ⟨a1, a2⟩ := List.getElem?_zip_eq_some.mp hz
      have hi : i < n := by
        have := (List.getElem?_eq_some_iff.mp hz).1
        rw [List.length_zip] at this
        omega
      obtain ⟨g1, g2⟩ := hgo i _ _ hi a1 a2
      refine ⟨g1, fun x H' y => ?_⟩
      obtain ⟨T, x1, x2, rfl, hT, rfl, r1, r2⟩ := g2 x H' y
      obtain ⟨l2, w2, r3⟩ := lay_tup w hT (.cons r1 (.cons r2 .nil))
      exact ⟨_, rfl, l2, w2, r3⟩
def aEnum (a : AF) : AF := fun δ M => match a δ M with
  | some ([.lst xs], M1) => some ((((List.range xs.length).map fun (i : Nat) => D.int i).zip xs).map fun p => .tup [p.1, p.2], M1)
  | some ([.lsk xs], M1) => some ((((List.range xs.length).map fun (i : Nat) => D.int i).zip xs).map fun p => .tup [p.1, p.2], M1)
  | _ => none
theorem wk_enum {W0 : Wd} {a : Addr} {vs : List V} {ds : List D} (h : SqL K W0.B a vs) (r : RepL K W0.B W0.ι vs ds) : Wk K (Ite K a) W0 ((((List.range ds.length).map fun (i : Nat) => D.int i).zip ds).map fun p => .tup [p.1, p.2]) := by
  refine wk_pair (n := ds.length) (fun W M l w => ⟨fun i hi => ?_, fun i d1 d2 hi e1 e2 => ?_⟩) (by simp) (Nat.le_refl _) (by simp)
  · exact ⟨vs, sqL_mono w.sub (sqL_mono l.same h), by rw [r.len]; exact hi⟩
  · have hs : SqL K W.H a vs := sqL_mono w.sub (sqL_mono l.same h)
    obtain ⟨v, h1, h2⟩ := (r.mono l.same l.ix).get e2
    refine ⟨⟨vs, v, hs, h1⟩, fun x H' ⟨T, x2, a1, a2, a3, a4⟩ => ⟨T, _, x2, a1, a2, a3, ?_, ?_⟩⟩
    · rw [List.getElem?_map, List.getElem?_range hi] at e1
      cases e1
      exact .int _
    · have e3 := (a4 vs hs).symm.trans h1
      cases e3
      exact h2
theorem DI.enum (c : Ctx X P w K mg base k) (hm : mg "enumerate" = none) {e : Expr} {p pos tpos : Pos} {elts : List Expr} {kk : Nat} {a : AF} (h : DA X K [e] a) (hg : ∀ i, Gl (X i) "enumerate" := by intro _; rfl) (hs : ∀ i, starEach [e] (X i).env = [(false, eval e (X i).env)] := by intro _; rfl) :
    DI X K (.Tuple elts kk tpos) (.Call (.Name "enumerate" p) [e] [] pos) (aEnum a) := by
  obtain ⟨t, pa, r⟩ := h.go
  refine ⟨iEnum K t, fun i => ?_, fun σ W δ M ds M' R w s ev q => ?_⟩
  · have h := pi_enum (X := X i) (hg i) (by rw [c.mg i]; exact hm) (pa i) (hs i) (p := p) (pos := pos) (tpos := tpos) (elts := elts) (kk := kk)
    rw [c.K i] at h
    exact h
  · unfold aEnum at ev
    split at ev
    · rename_i xs M1 h1
      cases ev
      refine r σ W δ M _ _ _ w s h1 fun vs W1 l1 w1 r1 => ?_
      cases r1 with
      | cons r1 r2 =>
        cases r2
        cases r1 with
        | lst h1 r1 => exact ⟨_, _, rfl, .inl (.inl (w1.sub _ _ h1)), q _ W1 l1 w1 (wk_enum (.inl (.inl h1)) r1)⟩
    · rename_i xs M1 h1
      cases ev
      refine r σ W δ M _ _ _ w s h1 fun vs W1 l1 w1 r1 => ?_
      cases r1 with
      | cons r1 r2 =>
        cases r2
        cases r1 with
        | lsk h1 r1 => exact ⟨_, _, rfl, sqL_mono w1.sub h1, q _ W1 l1 w1 (wk_enum h1 r1)⟩
    · cases ev
def aZip (a : AF) : AF := fun δ M => match a δ M with
  | some ([.lst xs, .lst ys], M1) => some ((xs.zip ys).map fun p => .tup [p.1, p.2], M1)
  | some ([.tup xs, .tup ys], M1) => some ((xs.zip ys).map fun p => .tup [p.1, p.2], M1)
  | _ => none
theorem wk_zip {W0 : Wd} {a b : Addr} {vs us : List V} {ds es : List D} (h : SqL K W0.B a vs) (r : RepL K W0.B W0.ι vs ds) (h' : SqL K W0.B b us) (r' : RepL K W0.B W0.ι us es) : Wk K (Itz K a b) W0 ((ds.zip es).map fun p => .tup [p.1, p.2]) := by
  refine wk_pair (n := min ds.length es.length) (fun W M l w => ⟨fun i hi => ?_, fun i d1 d2 hi e1 e2 => ?_⟩) (Nat.min_le_left _ _) (Nat.min_le_right _ _) rfl
  · exact ⟨vs, us, sqL_mono w.sub (sqL_mono l.same h), sqL_mono w.sub (sqL_mono l.same h'), by rw [r.len, r'.len]; omega⟩
  · have hs : SqL K W.H a vs := sqL_mono w.sub (sqL_mono l.same h)
    have hs' : SqL K W.H b us := sqL_mono w.sub (sqL_mono l.same h')
    obtain ⟨v, h1, h2⟩ := (r.mono l.same l.ix).get e1
    obtain ⟨u, h3, h4⟩ := (r'.mono l.same l.ix).get e2
    refine ⟨⟨vs, us, v, u, hs, hs', h1, h3⟩, fun x H' ⟨T, x1, x2, a1, a2, a3, a4, a5⟩ => ⟨T, x1, x2, a1, a2, a3, ?_, ?_⟩⟩
    · have e3 := (a4 vs hs).symm.trans h1
      cases e3
      exact h2
    · have e3 := (a5 us hs').symm.trans h3
      cases e3
      exact h4
theorem wk_zipT {W0 : Wd} {a b : Addr} {vs us : List V} {ds es : List D} (h : SqT K W0.B a vs) (r : RepL K W0.B W0.ι vs ds) (h' : SqT K W0.B b us) (r' : RepL K W0.B W0.ι us es) : Wk K (RZ.ItzT K a b) W0 ((ds.zip es).map fun p => .tup [p.1, p.2]) := by
  refine wk_pair (n := min ds.length es.length) (fun W M l w => ⟨fun i hi => ?_, fun i d1 d2 hi e1 e2 => ?_⟩) (Nat.min_le_left _ _) (Nat.min_le_right _ _) rfl
  · exact ⟨vs, us, sqT_mono w.sub (sqT_mono l.same h), sqT_mono w.sub (sqT_mono l.same h'), by rw [r.len, r'.len]; omega⟩
  · have hs : SqT K W.H a vs := sqT_mono w.sub (sqT_mono l.same h)
    have hs' : SqT K W.H b us := sqT_mono w.sub (sqT_mono l.same h')
    obtain ⟨v, h1, h2⟩ := (r.mono l.same l.ix).get e1
    obtain ⟨u, h3, h4⟩ := (r'.mono l.same l.ix).get e2
    refine ⟨⟨vs, us, v, u, hs, hs', h1, h3⟩, fun x H' ⟨T, x1, x2, a1, a2, a3, a4, a5⟩ => ⟨T, x1, x2, a1, a2, a3, ?_, ?_⟩⟩
    · have e3 := (a4 vs hs).symm.trans h1
      cases e3
      exact h2
    · have e3 := (a5 us hs').symm.trans h3
      cases e3
      exact h4
theorem DI.zip (c : Ctx X P w K mg base k) (hm : mg "zip" = none) {e e2 : Expr} {p pos tpos : Pos} {elts : List Expr} {kk : Nat} {a : AF} (h : DA X K [e, e2] a) (hg : ∀ i, Gl (X i) "zip" := by intro _; rfl) (hs : ∀ i, starEach [e, e2] (X i).env = (false, eval e (X i).env) :: starEach [e2] (X i).env := by intro _; rfl) (hpl : ∀ i, (backTo pos (starEach [e2] (X i).env)).any (·.1) = false := by intro _; rfl) :
    DI X K (.Tuple elts kk tpos) (.Call (.Name "zip" p) [e, e2] [] pos) (aZip a) := by
  obtain ⟨t, pa, r⟩ := h.go
  refine ⟨RZ.iZipA K t, fun i => ?_, fun σ W δ M ds M' R w s ev q => ?_⟩
  · have h := RZ.pi_zipA (X := X i) (hg i) (by rw [c.mg i]; exact hm) (pa i) (hs i) (hpl i) (p := p) (pos := pos) (tpos := tpos) (elts := elts) (kk := kk)
    rw [c.K i] at h
    exact h
  · unfold aZip at ev
    split at ev
    · rename_i xs ys M1 h1
      cases ev
      refine r σ W δ M _ _ _ w s h1 fun vs W1 l1 w1 r1 => ?_
      cases r1 with
      | cons r1 r2 =>
        cases r2 with
        | cons r2 r3 =>
          cases r3
          cases r1 with
          | lst h1 r1 =>
            cases r2 with
            | lst h2 r2 => exact ⟨_, _, _, _, rfl, .inl ⟨.inl (.inl (w1.sub _ _ h1)), .inl (.inl (w1.sub _ _ h2)), q _ W1 l1 w1 (wk_zip (.inl (.inl h1)) r1 (.inl (.inl h2)) r2)⟩⟩
    · rename_i xs ys M1 h1
      cases ev
      refine r σ W δ M _ _ _ w s h1 fun vs W1 l1 w1 r1 => ?_
      cases r1 with
      | cons r1 r2 =>
        cases r2 with
        | cons r2 r3 =>
          cases r3
          cases r1 with
          | tup h1 r1 =>
            cases r2 with
            | tup h2 r2 => exact ⟨_, _, _, _, rfl, .inr ⟨sqT_mono w1.sub h1, sqT_mono w1.sub h2, q _ W1 l1 w1 (wk_zipT h1 r1 h2 r2)⟩⟩
    · cases ev
end
end Pl

namespace Pl
open PySem L2
section
variable {I : Type} {X : I → Cx} {P : Program} {w : World} {K : PySem.W.Frag} {mg : Str → Option Value} {base : Heap} {k : Nat}
/-- what is never reached -/
def sNever : SF := fun _ _ => none
theorem DS.never {s : Stmt} : DS X K s sNever := ⟨tNever, fun i => ps_never, fun σ W δ M o E w s e q => by cases e⟩
theorem DB.never {s : List Stmt} : DB X K s sNever := ⟨tNever, fun i => pss_never, fun σ W δ M o E w s e q => by cases e⟩
/-- a text alone -/
theorem DS.doc {x : Str} {j pos pos'} : DS X K (.Expr (.Constant (.str x) j pos) pos') sNil := ⟨tNext, fun i => ps_doc, fun σ W δ M o E w s e q => by
  cases e
  exact q σ W (.refl W) w s⟩

/-! ### dicts -/
def dget (kvs : List (Key × D)) (q : Key) : Option D := (kvs.find? fun kv => decide (kv.1 = q)).map (·.2)
def dput (kvs : List (Key × D)) (q : Key) (v : D) : List (Key × D) :=
  if (kvs.any fun kv => decide (kv.1 = q)) = true then kvs.map (fun kv => if kv.1 = q then (kv.1, v) else kv) else kvs ++ [(q, v)]
def dmerge (kvs : List (Key × D)) : List (Key × D) := kvs.foldl (fun acc kv => dput acc kv.1 kv.2) []
section
variable {B : Hp} {ι : List Addr}
theorem RepK.len : ∀ {vs : List (Key × V)} {ds : List (Key × D)}, RepK K B ι vs ds → vs.length = ds.length
  | _, _, .nil => rfl
  | _, _, .cons _ r => congrArg (· + 1) r.len
theorem RepK.any (q : Key) : ∀ {vs : List (Key × V)} {ds : List (Key × D)}, RepK K B ι vs ds → (vs.any fun kv => decide (kv.1 = q)) = (ds.any fun kv => decide (kv.1 = q))
  | _, _, .nil => rfl
  | _, _, .cons _ r => by
    rw [List.any_cons, List.any_cons, r.any]
theorem RepK.get (q : Key) : ∀ {vs : List (Key × V)} {ds : List (Key × D)}, RepK K B ι vs ds → (dget ds q = none → valV vs q = none) ∧ ∀ d, dget ds q = some d → ∃ v, valV vs q = some v ∧ Rep K B ι v d
  | _, _, .nil => ⟨fun _ => rfl, fun d e => by cases e⟩
  | _, _, .cons (k := k0) (v := v0) (d := d0) r0 r => by
    obtain ⟨h1, h2⟩ := r.get q
    by_cases e : k0 = q
    · refine ⟨fun h => ?_, fun d h => ?_⟩
      · simp [dget, List.find?_cons, e] at h
      · simp [dget, List.find?_cons, e] at h
        subst h
        exact ⟨v0, valV_pos e, r0⟩
    · have e1 : ∀ rest : List (Key × D), dget ((k0, d0) :: rest) q = dget rest q := fun rest => by simp [dget, List.find?_cons, e]
      refine ⟨fun h => ?_, fun d h => ?_⟩
      · rw [e1] at h
        rw [valV_neg e]
        exact h1 h
      · rw [e1] at h
        rw [valV_neg e]
        exact h2 d h
theorem RepK.append : ∀ {vs us : List (Key × V)} {ds es : List (Key × D)}, RepK K B ι vs ds → RepK K B ι us es → RepK K B ι (vs ++ us) (ds ++ es)
  | _, _, _, _, .nil, s => s
  | _, _, _, _, .cons r t, s => .cons r (t.append s)
theorem RepK.map_put (q : Key) {v : V} {d : D} (rv : Rep K B ι v d) : ∀ {vs : List (Key × V)} {ds : List (Key × D)}, RepK K B ι vs ds → RepK K B ι (vs.map fun kv => if kv.1 = q then (kv.1, v) else kv) (ds.map fun kv => if kv.1 = q then (kv.1, d) else kv)
  | _, _, .nil => .nil
  | _, _, .cons (k := k0) r0 r => by
    have ih := RepK.map_put q rv r
    rw [List.map_cons, List.map_cons]
    by_cases e : k0 = q
    · simp only [e, if_true]
      exact .cons rv ih
    · simp only [e, if_false]
      exact .cons r0 ih
theorem RepK.put (q : Key) {v : V} {d : D} (rv : Rep K B ι v d) {vs : List (Key × V)} {ds : List (Key × D)} (r : RepK K B ι vs ds) : RepK K B ι (putK vs q v) (dput ds q d) := by
  unfold putK dput
  rw [r.any q]
  split
  · exact r.map_put q rv
  · exact r.append (.cons rv .nil)
theorem RepK.merge {vs : List (Key × V)} {ds : List (Key × D)} (r : RepK K B ι vs ds) : RepK K B ι (mergeK [] vs) (dmerge ds) := by
  unfold mergeK dmerge
  have h : ∀ {a : List (Key × V)} {b : List (Key × D)}, RepK K B ι a b → RepK K B ι (vs.foldl (fun acc kv => putK acc kv.1 kv.2) a) (ds.foldl (fun acc kv => dput acc kv.1 kv.2) b) := by
    induction r with
    | nil => exact fun h => h
    | @cons k0 v0 d0 vs ds r0 r ih => exact fun h => ih (h.put k0 r0)
  exact h .nil
end
def keyOf : D → Option Key
  | .int i => some (.inl i)
  | .str x => some (.inr x)
  | _ => none
theorem keyOf_rep {B : Hp} {ι : List Addr} {v : V} {d : D} {q : Key} (r : Rep K B ι v d) (h : keyOf d = some q) : v = kV q := by
  cases r <;> cases h <;> rfl
def dicOf (M : Mh) : D → Option (List (Key × D))
  | .ref n => (match M[n]? with
    | some (.dic kvs) => some kvs
    | _ => none)
  | _ => none
theorem dicOf_rep {W : Wd} {M : Mh} {x : V} {d : D} {kvs : List (Key × D)} (w : W.Ok K M) (r : Rep K W.B W.ι x d) (h : dicOf M d = some kvs) : ∃ a n vs, d = .ref n ∧ x = .ref a ∧ Live W M n a (.dic kvs) ∧ W.H a = some (.dK vs) ∧ RepK K W.B W.ι vs kvs := by
  unfold dicOf at h
  split at h
  · split at h
    · rename_i hm
      cases h
      cases r with
      | ref hi =>
        have lv : Live W M _ _ (.dic kvs) := ⟨hi, hm, fun z => by cases z⟩
        obtain ⟨_, _, o, ho, ro⟩ := w.live _ _ _ lv
        cases ro with
        | dic r1 => exact ⟨_, _, _, rfl, rfl, lv, ho, r1⟩
    · cases h
  · cases h
def gDget : O2 := fun a b M => match dicOf M a, keyOf b with
  | some kvs, some q => (dget kvs q).map fun d => (d, M)
  | _, _ => none
theorem hu1 {A : Around} {j : Nat} (r : Room j A) : A.units + 1 < cLine := by
  have := r.un
  omega
theorem DE.dgt (c : Ctx X P w K mg base k) {a b : Expr} {pos} {f g : EF} (ha : DE X K a f) (hb : DE X K b g) (hs : NoSl b := by exact fun _ _ => rfl) : DE X K (.Subscript a b pos) (eOp gDget f g) := by
  obtain ⟨ta, pa, ra⟩ := ha.go
  obtain ⟨tb, pb, rb⟩ := hb.go
  refine ⟨tDGet ta tb, fun i => pe_dget (hu1 (c.room i)) (pa i) (pb i) hs, fun σ W δ M d M' Q w s e q => ?_⟩
  unfold eOp at e
  split at e
  · rename_i a' M1 h1
    split at e
    · rename_i b' M2 h2
      refine ra σ W δ M a' M1 _ w s h1 fun x W1 l1 w1 r1 => ?_
      refine rb σ W1 δ M1 b' M2 _ w1 (s.le l1) h2 fun y W2 l2 w2 r2 => ?_
      unfold gDget at e
      split at e
      · rename_i kvs q0 h3 h4
        obtain ⟨p, n, vs, _, rfl, lv, hp, rk⟩ := dicOf_rep w2 (r1.le l2) h3
        have ey := keyOf_rep r2 h4
        subst ey
        cases hd : Pl.dget kvs q0 with
        | none =>
          rw [hd] at e
          cases e
        | some d0 =>
          rw [hd] at e
          cases e
          obtain ⟨v, hv, rv⟩ := (rk.get q0).2 _ hd
          exact ⟨p, v, rfl, by rw [← hv]; exact DGet.k hp, q v W2 (l1.trans l2) w2 rv⟩
      · cases e
    · cases e
  · cases e
def gDput (a b v : D) (M : Mh) : Option Mh := match a with
  | .ref n => (match M[n]?, keyOf b with
    | some (.dic kvs), some q => if kvs.length < sizeLine then some (M.set n (.dic (dput kvs q v))) else none
    | _, _ => none)
  | _ => none
def sDput (f g h : EF) : SF := fun δ M => match h δ M with
  | some (v, M1) => (match f δ M1 with
    | some (a, M2) => (match g δ M2 with
      | some (b, M3) => (match gDput a b v M3 with
        | some M4 => some (.nx δ M4)
        | none => none)
      | none => none)
    | none => none)
  | none => none
theorem DS.dput (c : Ctx X P w K mg base k) {o i v : Expr} {pos pos'} {f g h : EF} (ho : DE X K o f) (hi : DE X K i g) (hv : DE X K v h) (hs : ∀ j, swapsWith v (some (.Subscript o i pos')) pos.line (X j).env = pure false := by intro _; rfl) :
    DS X K (.Assign [.Subscript o i pos'] v pos) (sDput f g h) := by
  obtain ⟨to, po, ro⟩ := ho.go
  obtain ⟨ti, pi, ri⟩ := hi.go
  obtain ⟨tv, pv', rv⟩ := hv.go
  refine ⟨sDPut to ti tv, fun j => ps_dput (hu1 (c.room j)) (po j) (pi j) (pv' j) (hs j), fun σ W δ M out E w s e q => ?_⟩
  unfold sDput at e
  split at e
  · rename_i vd M1 h1
    split at e
    · rename_i od M2 h2
      split at e
      · rename_i id M3 h3
        split at e
        · rename_i M4 h4
          cases e
          refine rv σ W δ M vd M1 _ w s h1 fun v W1 l1 w1 r1 => ?_
          refine ro σ W1 δ M1 od M2 _ w1 (s.le l1) h2 fun x W2 l2 w2 r2 => ?_
          refine ri σ W2 δ M2 id M3 _ w2 (s.le (l1.trans l2)) h3 fun y W3 l3 w3 r3 => ?_
          unfold gDput at h4
          split at h4
          · rename_i n
            split at h4
            · rename_i kvs q0 h5 h6
              split at h4
              · rename_i hl
                cases h4
                obtain ⟨p, n', vs, en, rfl, lv, hp, rk⟩ := dicOf_rep (kvs := kvs) w3 (r2.le l3) (by unfold dicOf; dsimp only; rw [h5])
                cases en
                have ey := keyOf_rep r3 h6
                subst ey
                refine ⟨p, _, rfl, DPut.k hp (by rw [rk.len]; exact hl), ?_⟩
                have l13 := (l1.trans l2).trans l3
                exact q σ (W3.put p _) (l13.trans Wd.put_le) (Wd.put_ok w3 lv (.dic (rk.put q0 (r1.le (l2.trans l3))))) (s.le (l13.trans Wd.put_le))
              · cases h4
            · cases h4
          · cases h4
        · cases e
      · cases e
    · cases e
  · cases e
/-- pairs of a display -/
structure DPs (X : I → Cx) (K : PySem.W.Frag) (pos : Pos) (keys : List (Option Expr)) (values : List Expr) (f : Env → Mh → Option (List (Key × D) × Mh)) : Prop where
  go : ∃ trs : List (TE × TE), (∀ i, PPs (X i) pos keys values trs) ∧ ∀ (σ : St) (W : Wd) (δ : Env) (M : Mh) (kvs : List (Key × D)) (M' : Mh) (Q : List (V × V) → Hp → Prop), W.Ok K M → Slots K W σ δ → f δ M = some (kvs, M') →
    (∀ vs W', W.Le W' → W'.Ok K M' → RepK K W'.B W'.ι vs kvs → Q (vs.map fun kv => (kV kv.1, kv.2)) W'.H) → tPairs trs σ W.H Q
def psNil : Env → Mh → Option (List (Key × D) × Mh) := fun _ M => some ([], M)
def psCons (f g : EF) (h : Env → Mh → Option (List (Key × D) × Mh)) : Env → Mh → Option (List (Key × D) × Mh) := fun δ M => match f δ M with
  | some (a, M1) => (match g δ M1 with
    | some (v, M2) => (match keyOf a with
      | some q => (match h δ M2 with
        | some (r, M3) => some ((q, v) :: r, M3)
        | none => none)
      | none => none)
    | none => none)
  | none => none
theorem DPs.nil {pos : Pos} : DPs X K pos [] [] psNil := ⟨[], fun i => pps_nil, fun σ W δ M kvs M' Q w s e q => by
  cases e
  exact q [] W (.refl W) w .nil⟩
theorem DPs.cons {pos : Pos} {a v : Expr} {ks : List (Option Expr)} {vs : List Expr} {f g : EF} {h : Env → Mh → Option (List (Key × D) × Mh)} (ha : DE X K a f) (hv : DE X K v g) (hr : DPs X K pos ks vs h) : DPs X K pos (some a :: ks) (v :: vs) (psCons f g h) := by
  obtain ⟨ta, pa, ra⟩ := ha.go
  obtain ⟨tv, pv', rv⟩ := hv.go
  obtain ⟨ts, ps, rs⟩ := hr.go
  refine ⟨(ta, tv) :: ts, fun i => pps_cons (pa i) (pv' i) (ps i), fun σ W δ M kvs M' Q w s e q => ?_⟩
  unfold psCons at e
  split at e
  · rename_i ad M1 h1
    split at e
    · rename_i vd M2 h2
      split at e
      · rename_i q0 h3
        split at e
        · rename_i r M3 h4
          cases e
          refine ra σ W δ M _ _ _ w s h1 fun x W1 l1 w1 r1 => ?_
          refine rv σ W1 δ M1 _ _ _ w1 (s.le l1) h2 fun y W2 l2 w2 r2 => ?_
          refine rs σ W2 δ M2 _ _ _ w2 (s.le (l1.trans l2)) h4 fun us W3 l3 w3 r3 => ?_
          have ex := keyOf_rep r1 h3
          subst ex
          exact q ((q0, y) :: us) W3 ((l1.trans l2).trans l3) w3 (.cons (r2.le l3) r3)
        · cases e
      · cases e
    · cases e
  · cases e
def eDic (h : Env → Mh → Option (List (Key × D) × Mh)) : EF := fun δ M => match h δ M with
  | some (kvs, M1) => if kvs.length ≤ 15 then some (.ref M1.length, M1 ++ [.dic (dmerge kvs)]) else none
  | none => none
theorem Wd.unhold_new {W : Wd} {M : Mh} {p : Addr} {o o' : HO} {m : MO} {P0 : Hp} (w : W.Ok K M) (hP : W.P = upd P0 p o) (h0 : P0 p = none) (r : RepO K W.B W.ι p o' m) : (⟨upd W.H p o', W.B, W.ι ++ [p], P0⟩ : Wd).Ok K (M ++ [m]) := by
  have hp : W.P p = some o := by rw [hP, upd_same]
  have bp := w.pin p o hp
  have ne : ∀ {n a u}, Live W M n a u → a ≠ p := fun {n a u} h e => by
    obtain ⟨_, q, _⟩ := w.live n a u h
    rw [e, hp] at q
    cases q
  have lv : ∀ n a u, Live (⟨upd W.H p o', W.B, W.ι ++ [p], P0⟩ : Wd) (M ++ [m]) n a u → Live W M n a u ∨ (n = M.length ∧ a = p ∧ u = m) := fun n a u h => by
    obtain ⟨h1, h2, h3⟩ := h
    have h1' : (W.ι ++ [p])[n]? = some a := h1
    by_cases hn : n < M.length
    · rw [List.getElem?_append_left (by rw [w.len]; exact hn)] at h1'
      rw [List.getElem?_append_left hn] at h2
      exact .inl ⟨h1', h2, h3⟩
    · have e : n = M.length := by
        have := (List.getElem?_eq_some_iff.mp h2).1
        rw [List.length_append] at this
        simp at this
        omega
      subst e
      rw [List.getElem?_append_right (by rw [w.len]; exact Nat.le_refl _), w.len] at h1'
      rw [List.getElem?_append_right (Nat.le_refl _)] at h2
      simp at h1' h2
      exact .inr ⟨rfl, h1'.symm, h2.symm⟩
  have ln : ∀ {n a u}, Live W M n a u → n < M.length := fun {n a u} h => (List.getElem?_eq_some_iff.mp h.2.1).1
  have ix : ∀ (n : Nat) (c : Addr), W.ι[n]? = some c → (W.ι ++ [p])[n]? = some c := fun n c h => by
    rw [List.getElem?_append_left (List.getElem?_eq_some_iff.mp h).1]
    exact h
  refine ⟨fun a u h => ?_, fun a u h => ?_, ?_, fun n a u h => ?_, fun n j a u v h g => ?_⟩
  · exact (upd_ne (fun e => by
      rw [e] at h
      have h' : W.B p = some u := h
      rw [bp.2] at h'
      cases h')).trans (w.sub a u h)
  · have h' : P0 a = some u := h
    have e : a ≠ p := fun e => by
      rw [e, h0] at h'
      cases h'
    have q := w.pin a u (by rw [hP, upd_ne e]; exact h')
    exact ⟨(upd_ne e).trans q.1, q.2⟩
  · show (W.ι ++ [p]).length = _
    simp [w.len]
  · rcases lv n a u h with h | ⟨_, rfl, rfl⟩
    · obtain ⟨h1, h2, g, h3, h4⟩ := w.live n a u h
      have e := ne h
      rw [hP, upd_ne e] at h2
      exact ⟨h1, h2, g, (upd_ne e).trans h3, h4.mono (fun _ _ q => q) ix⟩
    · exact ⟨bp.2, h0, o', upd_same, r.mono (fun _ _ q => q) ix⟩
  · rcases lv n a u h with h | ⟨h1, h2, h3⟩
    · rcases lv j a v g with g | ⟨g1, g2, g3⟩
      · exact w.inj n j a u v h g
      · exact absurd g2 (ne h)
    · rcases lv j a v g with g | ⟨g1, g2, g3⟩
      · exact absurd h2 (ne g)
      · omega
theorem DE.dic {pos : Pos} {keys : List (Option Expr)} {values : List Expr} {h : Env → Mh → Option (List (Key × D) × Mh)} (hp : DPs X K pos keys values h) (hall : keys.all (·.isSome) = true := by rfl) (hl : keys.length = values.length := by rfl) (h0 : keys ≠ [] := by exact fun z => nomatch z)
    (h15 : keys.length ≤ 15 := by decide) : DE X K (.Dict keys values pos) (eDic h) := by
  obtain ⟨ts, ps, rs⟩ := hp.go
  refine ⟨tDisp ts, fun i => pe_disp (ps i) hall hl h0 h15, fun σ W δ M d M' Q w s e q => fun p hp => ?_⟩
  unfold eDic at e
  split at e
  · rename_i kvs M1 h1
    split at e
    · rename_i hlen
      cases e
      have P0 := w.pnone hp
      have B0 := w.bnone hp
      refine rs σ (W.hold p (.dK [])) δ M kvs M1 _ (Wd.hold_ok w hp) (s.cong rfl rfl) h1 fun vs W1 l1 w1 r1 => ?_
      have hP : W1.P = upd W.P p (.dK []) := l1.pp
      refine ⟨(w1.pin p _ (by rw [hP, upd_same])).1, vs, rfl, by rw [r1.len]; exact hlen, ?_⟩
      have w2 := Wd.unhold_new w1 hP P0 (.dic r1.merge)
      refine q (.ref p) ⟨upd W1.H p (.dK (mergeK [] vs)), W1.B, W1.ι ++ [p], W.P⟩ ⟨l1.same, ?_, rfl⟩ w2 (.ref ?_)
      · obtain ⟨l, hl⟩ := l1.pre
        exact ⟨l ++ [p], by
          show W1.ι ++ [p] = _
          rw [hl]
          show W.ι ++ l ++ [p] = _
          rw [List.append_assoc]⟩
      · show (W1.ι ++ [p])[M1.length]? = some p
        rw [← w1.len]
        simp
    · cases e
  · cases e
end
end Pl

namespace Pl
open PySem L2
open PyProof.Rows (IntsAre AllBare)
/-! ### the law's head -/
theorem ints_rep {K : PySem.W.Frag} {B : Hp} {ι : List Addr} : ∀ ns : List Int, RepL K B ι (ns.map V.int) (ns.map D.int)
  | [] => .nil
  | n :: ns => .cons (.int n) (ints_rep ns)
theorem law_callD {P : Program} {w : World} {K : PySem.W.Frag} {mg mb : Str → Option Value} {k : Nat} {fa a : Addr} {fd : FuncData} {x : Str} {F : Fn} {t₁ : Shared} {us : List Value} {ns : List Int}
    (kin : K.In t₁.heap) (gl : t₁.heap.Ns mainGlobals mg) (bl : t₁.heap.Ns builtinsNs mb) (blx : ∀ x : Str, x ≠ "__name__" → mb x = bootBuiltins x) (nl : t₁.heap.NoLimit) (gn : t₁.gens = #[])
    (at_a : t₁.heap.get? a = some { cls := .type "list", data := .seq us.toArray }) (isv : IntsAre us ns) (small : ns.length ≤ sizeLine) (room : Room k PySem.callerA)
    (hF : ∀ base : Heap, K.In base → base.Ns mainGlobals mg → DFn P w K mg base k fa fd [x] F) (bnd : ∀ (s : Shared) (u : Value), BindsTo s fd ⟨[u], []⟩ [(x, u)])
    (tru : ∃ M', F [.lsk (ns.map D.int)] [] = some (.bl true, M')) :
    codeAny (model P w) PySem.callerA (.call (.ref fa) ⟨[.ref a], []⟩) (fun o t' => o = .ok (.ret (.bool true)) ∧ OldK t₁.heap t'.heap ∧ t'.os = t₁.os ∧ AllBare t'.gens) t₁ := by
  have rel := vals_ints isv
  have lenU := isv.length
  have main : ∀ G : Hp, L2.Only G → SqL K G a (ns.map V.int) → HOk P w G t₁.heap → (∀ b, G b ≠ none → b = a) → (G a ≠ none → K.lookup a = none) →
      codeAny (model P w) PySem.callerA (.call (.ref fa) ⟨[.ref a], []⟩) (fun o t' => o = .ok (.ret (.bool true)) ∧ OldK t₁.heap t'.heap ∧ t'.os = t₁.os ∧ AllBare t'.gens) t₁ := fun G only seqA gok ga gk => by
    have keepB : ∀ {b : Addr} {o : Obj}, t₁.heap.get? b = some o → G b = none → (hidT t₁.heap G).get? b = some o := fun e n => hidT_get e n
    have noDict : ∀ {b : Addr} {o : Obj} {es : Array DictEntry} {ep : Nat}, t₁.heap.get? b = some o → o.data = .dict es ep → G b = none := fun {b o es ep} e dd => by
      cases gq : G b with
      | none => rfl
      | some u =>
        have eb : b = a := ga b (by rw [gq]; simp)
        rw [eb, at_a] at e
        cases e
        exact nomatch (show Data.seq us.toArray _ = Data.dict es ep from dd)
    have nsB : ∀ {b : Addr} {m : Str → Option Value}, t₁.heap.Ns b m → (hidT t₁.heap G).Ns b m := fun ⟨o, es, ep, e, dd, r⟩ => ⟨o, es, ep, keepB e (noDict e dd), dd, r⟩
    have kinB : K.In (hidT t₁.heap G) := fun b o e => keepB (kin b o e) (by
      cases gq : G b with
      | none => rfl
      | some u =>
        have eb : b = a := ga b (by rw [gq]; simp)
        rw [eb] at gq e
        rw [gk (by rw [gq]; simp)] at e
        cases e)
    have modB : Mod K mg (hidT t₁.heap G) := ⟨kinB, nsB gl, ⟨mb, nsB bl, blx⟩, let ⟨mc, n1, n2⟩ := nl; ⟨mc, nsB n1, n2⟩⟩
    have envB : Env0 P w K mg (hidT t₁.heap G) PySem.callerA [] t₁ G := ⟨rfl, modB, fun b o e => of_hidT e, Nat.le_of_eq (hidT_size _ _), trivial, fun b hb => (by cases hb), gok, .of_eq gn⟩
    obtain ⟨M', hv⟩ := tru
    have rs : RepL K G [] (ns.map V.int) (ns.map D.int) := by
      exact ints_rep ns
    have W0 : (⟨G, G, [], fun _ => none⟩ : Wd).Ok K [] := ⟨fun _ _ e => e, fun b o e => (by cases e), rfl, fun n b o l => (by cases l.1), fun n m b o u l => (by cases l.1)⟩
    refine codeAny_mono ((hF _ kinB (nsB gl)).run PySem.callerA [] t₁ G ⟨[.ref a], []⟩ [.ref a] [.ref a] (fun v _ => v = .bl true) room rfl envB (bnd t₁ (.ref a)) (.cons rfl .nil)
      ⟨⟨G, G, [], fun _ => none⟩, [], [.lsk (ns.map D.int)], .bl true, M', rfl, W0, .cons (.lsk seqA rs) .nil, rfl, hv, fun v W' _ _ r => by cases r; rfl⟩) fun o t' ho => ?_
    match o, ho with
    | .ok (.ret u), ⟨v, G', os, bare, un, gok', rv, q⟩ =>
      have q' : v = .bl true := q
      rw [q'] at rv
      have eu : u = Value.bool true := rv
      rw [eu]
      refine ⟨rfl, OldK.of_keep fun b o e => ?_, os, bare⟩
      cases gq : G b with
      | none => exact un.keep b o e gq (fun z => nomatch (show b ∈ ([] : List Addr) from z)) (fun z => nomatch z)
      | some u =>
        rcases only b with z | ⟨ob, xs, z⟩
        · rw [gq] at z
          cases z
        · have z2 := un.frzs b ob _ z
          obtain ⟨e1, _⟩ := gok b _ z
          obtain ⟨e2, _⟩ := gok' b _ z2
          rw [e] at e1
          cases e1
          exact e2
    | .ok .next, ho => exact False.elim ho
    | .ok .brk, ho => exact False.elim ho
    | .ok .cont, ho => exact False.elim ho
    | .error _, ho => exact False.elim ho
  cases lk : K.lookup a with
  | some o =>
    have e := kin a o lk
    rw [at_a] at e
    cases e
    exact main (fun _ => none) (fun _ => .inl rfl) (.inr ⟨_, us.toArray, _, lk, rfl, rfl, rfl, by rw [List.size_toArray, lenU]; exact small, by simpa using rel⟩) (fun b u z => nomatch (show (none : Option HO) = some u from z)) (fun b z => absurd rfl z) fun z => absurd rfl z
  | none =>
    refine main (fun b => if b = a then some (.frz { cls := .type "list", data := .seq us.toArray } (.lst (ns.map V.int))) else none) (fun b => ?_) (.inl (.inr ⟨{ cls := .type "list", data := .seq us.toArray }, if_pos rfl⟩)) (fun b u z => ?_) (fun b z => ?_) fun _ => lk
    · by_cases eb : b = a
      · exact .inr ⟨_, _, if_pos eb⟩
      · exact .inl (if_neg eb)
    · by_cases eb : b = a
      · have z' := (if_pos eb).symm.trans z
        cases z'
        rw [eb]
        exact ⟨at_a, by rw [List.length_map]; exact small, us, _, rel, at_a⟩
      · exact nomatch (if_neg eb).symm.trans z
    · exact Classical.byContradiction fun eb => z (if_neg eb)
theorem walk_ofD {l : PySem.W.OpenLaw} {n k : Nat} {q : Program} {loose : List Str} {XP : (Str → Option Value) → Heap → Prop} {YP : World → Heap → Prop} {d : DefRec} {K : Params → PySem.W.Frag} {F : Fn} {x : Str}
    (hn : l.most = some n) (hn2 : n ≤ sizeLine) (hdf : d.params.defaults = []) (room : Room k PySem.callerA) (hY : ∀ (w : World) (h : Heap), YP w h → (K w.params).In h)
    (hF : ∀ (w : World) (mg : Str → Option Value) (fa : Addr) (h : Heap), (K w.params).In h → h.Ns mainGlobals mg → mg d.name = some (.ref fa) →
      ∃ fd : FuncData, (∀ (s : Shared) (u : Value), BindsTo s fd ⟨[u], []⟩ [(x, u)]) ∧ ∀ base : Heap, (K w.params).In base → base.Ns mainGlobals mg → DFn l.prog w (K w.params) mg base k fa fd [x] F)
    (tru : ∀ ns : List Int, ns.length ≤ n → ∃ M', F [.lsk (ns.map D.int)] [] = some (.bl true, M')) :
    PySem.W.WalkO q loose XP YP l.row.toRowW d [] (fun f vs => PySem.call f vs) :=
  Att.attach_call hn hdf fun w _ t₁ mg _ fa _ _ _ _ a us ns G Y _ _ _ hmg obj isv len gn => by
    have kin := hY w _ Y
    obtain ⟨fd, hb, h⟩ := hF w mg fa _ kin G.T.g hmg
    exact law_callD kin G.T.g G.T.b G.T.builtins G.T.nolimit gn obj isv (Nat.le_trans len hn2) room h hb (tru ns len)

/-! ### links -/
/-- a def as it is called -/
structure Lk (P : Program) (w : World) (K : PySem.W.Frag) (mg : Str → Option Value) (base : Heap) (x : Str) (k : Nat) (ps : List Str) (F : Fn) : Prop where
  go : ∃ (f : Addr) (fd : FuncData), DFn P w K mg base k f fd ps F ∧ mg x = some (.ref f) ∧ PySem.W.keepIn K (.ref f) = true ∧ Binds K fd ps []
/-- with defaults that fill up -/
structure LkD (P : Program) (w : World) (K : PySem.W.Frag) (mg : Str → Option Value) (base : Heap) (x : Str) (k : Nat) (ps : List Str) (F : Fn) (dds : List D) : Prop where
  go : ∃ (f : Addr) (fd : FuncData) (dvs : List V) (dsv : List Value), DFn P w K mg base k f fd ps F ∧ mg x = some (.ref f) ∧ PySem.W.keepIn K (.ref f) = true ∧ Vals dvs dsv ∧ Binds K fd ps dsv ∧ ∀ B ι, RepL K B ι dvs dds
/-- with keywords -/
structure LkK (P : Program) (w : World) (K : PySem.W.Frag) (mg : Str → Option Value) (base : Heap) (x : Str) (k : Nat) (ps : List Str) (F : Fn) (n : Nat) (ks : List Str) (gD : List D → List D → List D) : Prop where
  go : ∃ (f : Addr) (fd : FuncData) (gu : List Value → List Value → List Value) (gV : List V → List V → List V), DFn P w K mg base k f fd ps F ∧ mg x = some (.ref f) ∧ PySem.W.keepIn K (.ref f) = true ∧ KBn K fd ps n ks gu gV ∧
    (∀ B ι vs ds zs es, RepL K B ι vs ds → RepL K B ι zs es → RepL K B ι (gV vs zs) (gD ds es))
  len : ∀ ds zs : List D, ds.length = n → zs.length = ks.length → (gD ds zs).length = ps.length
/-- a name of the module -/
def GV (K : PySem.W.Frag) (mg : Str → Option Value) (x : Str) (d : D) : Prop := ∃ v u, mg x = some u ∧ RelV v u ∧ ∀ B ι, Rep K B ι v d
section
variable {I : Type} {X : I → Cx} {P : Program} {w : World} {K : PySem.W.Frag} {mg : Str → Option Value} {base : Heap} {k : Nat}
theorem DE.gv (c : Ctx X P w K mg base k) {x : Str} {pos : Pos} {d : D} (h : GV K mg x d) (hg : ∀ i, Gl (X i) x := by intro _; rfl) (hd : (x == ("__debug__" : Str)) = false := by decide) : DE X K (.Name x pos) (eC d) := by
  obtain ⟨v, u, h1, h2, h3⟩ := h
  exact DE.glob c h1 h2 h3 hg hd
theorem DE.cl (c : Ctx X P w K mg base k) {x : Str} {p pos : Pos} {e : Expr} {es : List Expr} {g : AF} {ps : List Str} {F : Fn} {kf : Nat} (h : Lk P w K mg base x kf ps F) (hk : kf ≤ k) (hn : (e :: es).length = ps.length) (ha : DA X K (e :: es) g) (hlen : ∀ δ M ds M', g δ M = some (ds, M') → ds.length = (e :: es).length) (hg : ∀ i, Gl (X i) x := by intro _; rfl)
    (hdbg : (x == ("__debug__" : Str)) = false := by decide) (he : ∀ i, starEach (e :: es) (X i).env = (false, eval e (X i).env) :: starEach es (X i).env := by intro _; rfl) (hpl : ∀ i, (backTo pos (starEach es (X i).env)).any (·.1) = false := by intro _; rfl) :
    DE X K (.Call (.Name x p) (e :: es) [] pos) (eCall F g []) := by
  obtain ⟨f, fd, h1, h2, h3, h4⟩ := h.go
  exact DE.call c h1 hk h2 h3 h4 .nil (fun _ _ => .nil) hn ha hlen hg hdbg he hpl
theorem DE.clD (c : Ctx X P w K mg base k) {x : Str} {p pos : Pos} {e : Expr} {es : List Expr} {g : AF} {ps : List Str} {F : Fn} {kf : Nat} {dds : List D} (h : LkD P w K mg base x kf ps F dds) (hk : kf ≤ k) (hn : (e :: es).length + dds.length = ps.length) (ha : DA X K (e :: es) g) (hlen : ∀ δ M ds M', g δ M = some (ds, M') → ds.length = (e :: es).length) (hg : ∀ i, Gl (X i) x := by intro _; rfl)
    (hdbg : (x == ("__debug__" : Str)) = false := by decide) (he : ∀ i, starEach (e :: es) (X i).env = (false, eval e (X i).env) :: starEach es (X i).env := by intro _; rfl) (hpl : ∀ i, (backTo pos (starEach es (X i).env)).any (·.1) = false := by intro _; rfl) :
    DE X K (.Call (.Name x p) (e :: es) [] pos) (eCall F g dds) := by
  obtain ⟨f, fd, dvs, dsv, h1, h2, h3, h4, h5, h6⟩ := h.go
  exact DE.call c h1 hk h2 h3 h5 h4 h6 hn ha hlen hg hdbg he hpl
theorem DE.clK (c : Ctx X P w K mg base k) {x : Str} {p pos : Pos} {e : Expr} {es : List Expr} {kws : List Keyword} {g gk : AF} {ps ks : List Str} {F : Fn} {kf n : Nat} {gD : List D → List D → List D} (h : LkK P w K mg base x kf ps F n ks gD) (hk : kf ≤ k)
    (ha : DA X K (e :: es) g) (hlen : ∀ δ M ds M', g δ M = some (ds, M') → ds.length = n) (hkw : DK X K kws gk ks.length) (hall : ∀ i, (backToKw pos (keywordEach kws (X i).env)).all (·.1.isSome) = true := by intro _; rfl) (hks : ∀ i, (backToKw pos (keywordEach kws (X i).env)).filterMap (·.1) = ks := by intro _; rfl)
    (hg : ∀ i, Gl (X i) x := by intro _; rfl) (hdbg : (x == ("__debug__" : Str)) = false := by decide) (he : ∀ i, starEach (e :: es) (X i).env = (false, eval e (X i).env) :: starEach es (X i).env := by intro _; rfl)
    (hpl : ∀ i, ((backTo pos (starEach (e :: es) (X i).env)).any (·.1) || (backToKw pos (keywordEach kws (X i).env)).any (·.1.isNone)) = false := by intro _; rfl) :
    DE X K (.Call (.Name x p) (e :: es) kws pos) (eCallK F g gk gD) := by
  obtain ⟨f, fd, gu, gV, h1, h2, h3, h4, h5⟩ := h.go
  exact DE.callK c h1 hk h2 h3 h4 h5 h.len ha hlen hkw hall hks hg hdbg he hpl
end
end Pl

namespace Pl
open PySem L2
section
variable {I : Type} {X : I → Cx} {P : Program} {w : World} {K : PySem.W.Frag} {mg : Str → Option Value} {base : Heap} {k : Nat}
/-! ### repr -/
def reprOk (p : PyData) : Bool := p.showable && SeqAt.shaped p && !p.hasDict && decide (p.shown.length ≤ sizeLine)
def rReprD (K : PySem.W.Frag) (xs : List V) (H : Hp) (Q : VK) : Prop := ∃ x p, xs = [x] ∧ Dp K H x p ∧ reprOk p = true ∧ Q (.str p.shown) H
theorem call_reprD {Y : Cx} (hu : Y.A.units + 66 < cLine) (hg : Y.A.guards = some []) : CallR Y (.builtin "repr") (rReprD Y.K) := fun pins s σ H xs us Q J hv h => by
  obtain ⟨x, p, rfl, hp, ok, q⟩ := h
  simp only [reprOk, Bool.and_eq_true, Bool.not_eq_true', decide_eq_true_eq] at ok
  obtain ⟨⟨⟨sh, sp⟩, nd⟩, ln⟩ := ok
  cases hv with
  | cons hx hv =>
    cases hv
    have dp := SeqAt.depth_of_shaped sp
    have same : ∀ (h' : Heap) (t : Nat), (∀ b o, s.heap.get? b = some o → h'.get? b = some o) → L2.Inv Y pins σ H { heap := h', gens := s.gens, drawn := s.drawn, toks := t, os := s.os } := fun h' t kp => J.turnedL (ch := []) (fun b o _ e => kp b o e) (fun b hb => nomatch hb)
    obtain ⟨as, rd⟩ := Dp.reads J p x _ hp hx
    cases hp with
    | non =>
      cases hx
      exact P.repr_of_none ⟨.str _, H, same _ _ fun _ _ e => e, ⟨_, rfl⟩, q⟩
    | bl b =>
      cases hx
      refine P.repr_of_bool ⟨.str _, H, same _ _ fun _ _ e => e, ⟨_, rfl⟩, ?_⟩
      rw [PyData.shown] at q
      exact q
    | int i =>
      obtain ⟨t, rfl⟩ := hx
      refine P.repr_of_int ?_ ⟨.str _, H, same _ _ fun _ _ e => e, ⟨_, rfl⟩, ?_⟩
      · rw [PyData.showable] at sh
        simpa using sh
      · rw [PyData.shown] at q
        exact q
    | str y =>
      obtain ⟨t, rfl⟩ := hx
      rw [PyData.shown] at q ln
      exact P.repr_of_str ⟨.str _, H, same _ _ fun _ _ e => e, ⟨_, rfl⟩, q⟩ ln
    | lst h1 h2 =>
      cases hx
      exact repr_of_reads' rd sh (fun z => by rw [nd] at z; cases z) hg (by omega) (fun _ _ e => e) (fun h' u tk kp => ⟨.str _, H, same h' tk kp, ⟨_, rfl⟩, q⟩) ln
    | tup h1 h2 =>
      cases hx
      exact repr_of_reads' rd sh (fun z => by rw [nd] at z; cases z) hg (by omega) (fun _ _ e => e) (fun h' u tk kp => ⟨.str _, H, same h' tk kp, ⟨_, rfl⟩, q⟩) ln
def gRepr : GL := fun ds M => match ds with
  | [d] => (match toP (deref M d) with
    | some p => if reprOk p then some (.str p.shown, M) else none
    | none => none)
  | _ => none
theorem cRepr (c : Ctx X P w K mg base k) : CalF X K (.builtin "repr") gRepr := ⟨rReprD K, fun i => by
  have h := call_reprD (Y := X i) (by have := (c.room i).un; omega) (c.grd i)
  rw [c.K i] at h
  exact h, fun W M vs ds z M' Q w r e q => by
  unfold gRepr at e
  split at e
  · split at e
    · rename_i p h1
      split at e
      · rename_i h2
        cases e
        cases r with
        | cons r1 r2 =>
          cases r2
          exact ⟨_, p, rfl, dp_of w r1 h1, h2, q _ W (.refl W) w (.str _)⟩
      · cases e
    · cases e
  · cases e⟩
end
end Pl
namespace Pl
open PySem L2
section
variable {I : Type} {X : I → Cx} {P : Program} {w : World} {K : PySem.W.Frag} {mg : Str → Option Value} {base : Heap} {k : Nat}
/-! ### a text many times -/
def strMulOk (x : Str) (n : Int) : Bool := decide (-(2 ^ 63) ≤ n) && decide (n < 2 ^ 63) && decide (x.length * n.toNat ≤ 1000000)
theorem strMul_ok {x : Str} {n : Int} (h : strMulOk x n = true) : PySem.MulOk x n := by
  simp only [strMulOk, Bool.and_eq_true, decide_eq_true_eq] at h
  obtain ⟨⟨h1, h2⟩, h3⟩ := h
  refine ⟨by rw [Bool.or_eq_false_iff]; exact ⟨decide_eq_false (by omega), decide_eq_false (by omega)⟩, fun hn _ => ?_, fun hn _ => ?_⟩
  · have hp : 0 < n := by omega
    have e : (x.length : Int) * n ≤ 1000000 := by
      have : ((x.length * n.toNat : Nat) : Int) ≤ 1000000 := Int.ofNat_le.mpr h3
      rw [Int.natCast_mul, Int.toNat_of_nonneg (by omega)] at this
      exact this
    have h2 : (x.length : Int) ≤ (2 ^ 63 - 1) / n := (Int.le_ediv_iff_mul_le hp).mpr (by omega)
    omega
  · exact decide_eq_false (Nat.not_lt.mpr (Nat.le_trans h3 (by decide)))
def gMul3 : O2 := fun a b M => match a, b with
  | .str x, .int n => if strMulOk x n then some (.str (Txt.mul x n), M) else none
  | a, b => gMul a b M
theorem opMulS : OpF X K (binaryOp .Mult) gMul3 := ⟨fun x y H Q => (∃ z n, x = .str z ∧ y = .int n ∧ PySem.MulOk z n ∧ Q (.str (Txt.mul z n)) H) ∨ (rI Pl.MulOk (fun i j => .int (i * j)) x y H Q ∨ rRep x y H Q), fun i => OpR.or (fun pins s σ H x y v u Q J hx hy h => by
    obtain ⟨z, n, rfl, rfl, ok, q⟩ := h
    obtain ⟨t, rfl⟩ := hx
    obtain ⟨t2, rfl⟩ := hy
    exact SB.mul ok fun t' k => ⟨.str _, H, J.turnedL (ch := []) (fun b o _ e => e) (fun b hb => nomatch hb), ⟨_, rfl⟩, q⟩) (OpR.or op_mulX op_rep), fun W M x y a b z M' Q w ra rb e q => by
  unfold gMul3 at e
  split at e
  · split at e
    · rename_i hc
      cases ra
      cases rb
      cases e
      exact .inl ⟨_, _, rfl, rfl, strMul_ok hc, q _ W (.refl W) w (.str _)⟩
    · cases e
  · refine .inr ?_
    unfold gMul at e
    split at e
    · split at e
      · rename_i hc
        cases ra
        cases rb
        cases e
        exact .inl ⟨_, _, rfl, rfl, hc, q _ W (.refl W) w (.int _)⟩
      · cases e
    · split at e
      · rename_i hc
        cases rb
        cases e
        cases ra with
        | lst h1 r1 =>
          refine .inr ⟨_, _, _, rfl, rfl, w.sub _ _ h1, hc.1, hc.2.1, by rw [r1.len]; exact hc.2.2, fun p hp => ?_⟩
          obtain ⟨l2, w2, r3⟩ := lay_lst w hp (r1.rep _)
          exact q _ _ l2 w2 r3
      · cases e
    · cases e⟩
/-! ### an empty dict -/
def eDic0 : EF := fun _ M => some (.ref M.length, M ++ [.dic []])
theorem DE.dic0 {pos : Pos} : DE X K (.Dict [] [] pos) eDic0 := ⟨tDNewK, fun i => pe_dnewK, fun σ W δ M d M' Q w s e q => fun p hp => by
  cases e
  exact q (.ref p) (W.new p (.dK [])) Wd.new_le (Wd.new_ok w hp (.dic .nil)) (.ref (by
    show (W.ι ++ [p])[M.length]? = some p
    rw [← w.len]
    simp))⟩
end
end Pl

/-! PlX: what raises. -/
namespace Pl
open PySem L2
/-- how a statement ends: as it does, or by an exception of the module's class of that name -/
inductive XO where
  | ok (o : Out) | ex (y : Str) (δ : Env) (M : Mh)
inductive EO where
  | v (d : D) (M : Mh) | ex (y : Str) (M : Mh)
abbrev XF := Env → Mh → Option XO
abbrev EXF := Env → Mh → Option EO
abbrev FnX := List D → Mh → Option EO
def PostX (K : PySem.W.Frag) (mg : Str → Option Value) (S : WX) (E : Ends) (W : Wd) : XO → Prop
  | .ok o => Post K E W o
  | .ex y δ M => ∀ C σ W', mg y = some (.ref C) → W.Le W' → W'.Ok K M → Slots K W' σ δ → S (.ref C) none σ W'.H
theorem PostX.le {K : PySem.W.Frag} {mg : Str → Option Value} {S : WX} {E : Ends} {W W1 : Wd} {o : XO} (l : W.Le W1) (h : PostX K mg S E W o) : PostX K mg S E W1 o := by
  cases o with
  | ok o => exact Post.le l h
  | ex y δ M => exact fun C σ W' m a b c => h C σ W' m (l.trans a) b c
def PostE (K : PySem.W.Frag) (mg : Str → Option Value) (S : Value → Option Addr → Hp → Prop) (Q : VK) (W : Wd) : EO → Prop
  | .v d M => VR K W d M Q
  | .ex y M => ∀ C W', mg y = some (.ref C) → W.Le W' → W'.Ok K M → S (.ref C) none W'.H
theorem PostE.le {K : PySem.W.Frag} {mg : Str → Option Value} {S : Value → Option Addr → Hp → Prop} {Q : VK} {W W1 : Wd} {o : EO} (l : W.Le W1) (h : PostE K mg S Q W o) : PostE K mg S Q W1 o := by
  cases o with
  | v d M => exact VR.le h l
  | ex y M => exact fun C W' m a b => h C W' m (l.trans a) b
def SRX (K : PySem.W.Frag) (mg : Str → Option Value) (S : WX) (t : TS) (f : XF) : Prop := ∀ (σ : St) (W : Wd) (δ : Env) (M : Mh) (o : XO) (E : Ends), W.Ok K M → Slots K W σ δ → f δ M = some o → PostX K mg S E W o → t E σ W.H
def ERX (K : PySem.W.Frag) (mg : Str → Option Value) (S : WX) (t : TE) (f : EXF) : Prop := ∀ (σ : St) (W : Wd) (δ : Env) (M : Mh) (o : EO) (Q : VK), W.Ok K M → Slots K W σ δ → f δ M = some o → PostE K mg (fun c d H => S c d σ H) Q W o → t σ W.H Q
section
variable {I : Type}
structure DSX (X : I → Cx) (K : PySem.W.Frag) (mg : Str → Option Value) (S : WX) (s : Stmt) (f : XF) : Prop where
  go : ∃ t : TS, (∀ i, PS (X i) s t) ∧ SRX K mg S t f
structure DBX (X : I → Cx) (K : PySem.W.Frag) (mg : Str → Option Value) (S : WX) (s : List Stmt) (f : XF) : Prop where
  go : ∃ t : TS, (∀ i, PSs (X i) s t) ∧ SRX K mg S t f
structure DEX (X : I → Cx) (K : PySem.W.Frag) (mg : Str → Option Value) (S : WX) (e : Expr) (f : EXF) : Prop where
  go : ∃ t : TE, (∀ i, PE (X i) e t) ∧ ERX K mg S t f
variable {X : I → Cx} {P : Program} {w : World} {K : PySem.W.Frag} {mg : Str → Option Value} {base : Heap} {k : Nat} {S : WX}
def xOk (f : SF) : XF := fun δ M => match f δ M with
  | some o => some (.ok o)
  | none => none
theorem srx_ok {t : TS} {f : SF} (r : SR K t f) : SRX K mg S t (xOk f) := fun σ W δ M o E w s e q => by
  unfold xOk at e
  split at e
  · rename_i o' h
    cases e
    exact r σ W δ M o' E w s h q
  · cases e
theorem DBX.lift {s : List Stmt} {f : SF} (a : DB X K s f) : DBX X K mg S s (xOk f) := by
  obtain ⟨t, p, r⟩ := a.go
  exact ⟨t, p, srx_ok r⟩
theorem DSX.lift {s : Stmt} {f : SF} (a : DS X K s f) : DSX X K mg S s (xOk f) := by
  obtain ⟨t, p, r⟩ := a.go
  exact ⟨t, p, srx_ok r⟩
def xSeq (f g : XF) : XF := fun δ M => match f δ M with
  | some (.ok (.nx δ' M')) => g δ' M'
  | o => o
theorem DBX.cons {s : Stmt} {ss : List Stmt} {f g : XF} (a : DSX X K mg S s f) (b : DBX X K mg S ss g) : DBX X K mg S (s :: ss) (xSeq f g) := by
  obtain ⟨ta, pa, ra⟩ := a.go
  obtain ⟨tb, pb, rb⟩ := b.go
  refine ⟨tSeq ta tb, fun i => pss_cons (pa i) (pb i), fun σ W δ M o E w s e q => ?_⟩
  unfold xSeq at e
  split at e
  · rename_i δ' M' h1
    refine ra σ W δ M _ _ w s h1 fun σ' W1 l1 w1 s1 => ?_
    exact rb σ' W1 δ' M' o E w1 s1 e (q.le l1)
  · rename_i hn
    refine ra σ W δ M o _ w s e ?_
    match o, e, q with
    | .ok (.nx δ' M'), e, q => exact absurd e (hn δ' M')
    | .ok (.bk _ _), e, q => exact q
    | .ok (.ct _ _), e, q => exact q
    | .ok (.rt _ _), e, q => exact q
    | .ex _ _ _, e, q => exact q
theorem DBX.one {s : Stmt} {f : XF} (a : DSX X K mg S s f) : DBX X K mg S [s] f := by
  obtain ⟨t, p, r⟩ := a.go
  exact ⟨t, fun i => pss_one (p i), r⟩
def xIf (t : TF) (f g : XF) : XF := fun δ M => match t δ M with
  | some (true, M1) => f δ M1
  | some (false, M1) => g δ M1
  | none => none
theorem DSX.ite {c : Expr} {a b : List Stmt} {pos} {t : TF} {f g : XF} (h : DT X K c t) (ha : DBX X K mg S a f) (hb : DBX X K mg S b g) : DSX X K mg S (.If c a b pos) (xIf t f g) := by
  obtain ⟨tt, p, r⟩ := h.go
  obtain ⟨ta, pa, ra⟩ := ha.go
  obtain ⟨tb, pb, rb⟩ := hb.go
  refine ⟨_, fun i => ps_if (p i) (pa i) (pb i), fun σ W δ M o E w s e q => ?_⟩
  unfold xIf at e
  split at e
  · rename_i M1 h1
    exact r σ W δ M true M1 _ w s h1 fun W1 l1 w1 => ifT (ra σ W1 δ M1 o E w1 (s.le l1) e (q.le l1))
  · rename_i M1 h1
    exact r σ W δ M false M1 _ w s h1 fun W1 l1 w1 => ifF (rb σ W1 δ M1 o E w1 (s.le l1) e (q.le l1))
  · cases e
/-! ### raise -/
/-- an own exception class without own __init__, over ValueError -/
structure LkE (K : PySem.W.Frag) (mg : Str → Option Value) (x : Str) (bmB : List Value) (newId : String) (C : Addr) : Prop where
  gC : mg x = some (.ref C)
  q : PySem.W.excIn K C bmB newId = true
  kC : PySem.W.keepIn K (.ref C) = true
  r1 : PySem.W.subIn K (.ref C) (.type "BaseException") = some true
  r2 : PySem.W.typeIn K (.ref C) = some (.type "type")
def xRaise (y : Str) : XF := fun δ M => some (.ex y δ M)
theorem DSX.raise (c : Ctx X P w K mg base k) (tk : ∀ i, Takes (X i) S) {x m : Str} {j : Nat} {p p2 pos pos2 : Pos} {C : Addr} {bmB : List Value} {B newId initId : String} (F : ExcBaseFacts B newId initId bmB) (L : LkE K mg x bmB newId C) (hg : ∀ i, Gl (X i) x := by intro _; rfl)
    (hdb : (x == ("__debug__" : Str)) = false := by decide) : DSX X K mg S (.Raise (some (.Call (.Name x p) [.Constant (.str m) j p2] [] pos)) none pos2) (xRaise x) := by
  refine ⟨fun _ σ H => S (.ref C) none σ H, fun i => ?_, fun σ W δ M o E w s e q => ?_⟩
  · have cK := c.K i
    exact ps_raise (t := fun _ H Q => Q (.ref C) none H) (c.calm i) (tk i) (pmk_own F (by rw [cK]; exact L.q) (by rw [c.mg i]; exact L.gC) (by rw [cK]; exact L.kC) (raises_own (by rw [cK]; exact L.r1) (by rw [cK]; exact L.r2)) (hg i) hdb)
  · cases e
    exact q C σ W L.gC (.refl W) w s
/-! ### calls that may raise -/
def spDX (K : PySem.W.Frag) (mg : Str → Option Value) (n : Nat) (F : FnX) (vs : List V) (H : Hp) (Q : VK) (E : XK) : Prop :=
  ∃ W M ds o, W.H = H ∧ W.Ok K M ∧ RepL K W.B W.ι vs ds ∧ ds.length = n ∧ F ds M = some o ∧ PostE K mg E Q W o
structure DFnX (P : Program) (w : World) (K : PySem.W.Frag) (mg : Str → Option Value) (base : Heap) (k : Nat) (f : Addr) (fd : FuncData) (ps : List Str) (F : FnX) : Prop where
  run : ∀ (A : Around) (outer : List PySem.Env) (s : Shared) (H : Hp) (args : Args) (us : List Value) (vs : List V) (Q : VK) (E : XK), Room k A → A.guards = some [] → Env0 P w K mg base A outer s H → BindsTo s fd args (ps.zip us) → Vals vs us →
    spDX K mg ps.length F vs H Q E → codeAny (model P w) A (.call (.ref f) args) (CR (L2.CX P w) outer P w H s Q E) s
theorem DFnX.mono {f : Addr} {fd : FuncData} {ps : List Str} {F : FnX} {j : Nat} (h : DFnX P w K mg base j f fd ps F) (l : j ≤ k) : DFnX P w K mg base k f fd ps F :=
  ⟨fun A outer s H args us vs Q E r g => h.run A outer s H args us vs Q E (r.mono l) g⟩
theorem run_dfnX {Y : Cx} {pins : List (Addr × Obj)} {σ : L2.St} {H : Hp} {s : Shared} {Q : VK} {f : Addr} {fd : FuncData} {ps ks : List Str} {F : FnX} {us ws us' : List Value} {vs : List V} (h : DFnX Y.prog Y.w Y.K Y.mg Y.base k f fd ps F) (room : Room k Y.A) (grd : Y.A.guards = some []) (tk : Takes Y S)
    (J : Inv Y pins σ H s) (hb : BindsTo s fd ⟨us, ks.zip ws⟩ (ps.zip us')) (r : Vals vs us') (q : spDX Y.K Y.mg ps.length F vs H Q (fun c d H' => S c d σ H')) : wpAny (model Y.prog Y.w) Y.A (call (.ref f) us (ks.zip ws)) (EP Y pins σ Q) Y.xe s := by
  refine wpAny_call (codeAny_mono (h.run Y.A Y.stack s H _ us' vs Q _ room grd J.env0 hb r q) fun o s' ho => ?_)
  match o, ho with
  | .ok (.ret u), ho => exact J.after ho
  | .ok .next, ho => exact False.elim ho
  | .ok .brk, ho => exact False.elim ho
  | .ok .cont, ho => exact False.elim ho
  | .error _, ho => exact passAt tk σ pins H s _ s' J ho
def xCall (F : FnX) (g : AF) (dds : List D) : EXF := fun δ M => match g δ M with
  | some (ds, M1) => F (ds ++ dds) M1
  | none => none
theorem DEX.call (c : Ctx X P w K mg base k) (tk : ∀ i, Takes (X i) S) {x : Str} {p pos : Pos} {e : Expr} {es : List Expr} {g : AF} {f : Addr} {fd : FuncData} {ps : List Str} {F : FnX} {kf : Nat} {dvs : List V} {dds : List D} {dsv : List Value} (h : DFnX P w K mg base kf f fd ps F) (hk : kf ≤ k)
    (hm : mg x = some (.ref f)) (kp : PySem.W.keepIn K (.ref f) = true) (hb : Binds K fd ps dsv) (hd : Vals dvs dsv) (hr : ∀ B ι, RepL K B ι dvs dds) (hn : (e :: es).length + dds.length = ps.length) (ha : DA X K (e :: es) g) (hlen : ∀ δ M ds M', g δ M = some (ds, M') → ds.length = (e :: es).length) (hg : ∀ i, Gl (X i) x := by intro _; rfl)
    (hdbg : (x == ("__debug__" : Str)) = false := by decide) (he : ∀ i, starEach (e :: es) (X i).env = (false, eval e (X i).env) :: starEach es (X i).env := by intro _; rfl) (hpl : ∀ i, (backTo pos (starEach es (X i).env)).any (·.1) = false := by intro _; rfl) :
    DEX X K mg S (.Call (.Name x p) (e :: es) [] pos) (xCall F g dds) := by
  obtain ⟨t, pa, ra⟩ := ha.go
  refine ⟨fun σ H Q => t σ H fun vs H1 => spDX K mg ps.length F (vs ++ dvs) H1 Q (fun c d H' => S c d σ H'), fun i => ⟨fun pins s σ H Q J q => ?_⟩, fun σ W δ M o Q w s ev q => ?_⟩
  · have cK := c.K i
    have cmg := c.mg i
    refine wpAny_Call_Name_kw (ld_glob J (hg i) (by rw [c.mg i]; exact hm) ?_ hdbg)
    refine PySem.W.callWith_K (h₀ := (X i).base) J.ok.mod.kin (by rw [cK]; exact kp) (thn ((pa i).run pos pins s σ H _ J q) fun us s1 ⟨vs, H1, J1, r, q1⟩ => ⟨J1.kIn, ?_⟩) (he i) (hpl i)
    obtain ⟨W, M, ds, o, a1, a2, a3, a4, a5, a6⟩ := id q1
    have h' : DFnX (X i).prog (X i).w (X i).K (X i).mg (X i).base k f fd ps F := by
      rw [c.prog i, c.wd i, c.K i, c.mg i, c.base i]
      exact h.mono hk
    have r2 := r.append hd
    refine run_dfnX (ks := []) (ws := []) (us := us) h' (c.room i) (c.grd i) (tk i) J1 (hb s1 us (by rw [← cK]; exact J1.kIn) ?_) r2 (by rw [cK, cmg]; exact q1)
    rw [← r2.length, a3.len, a4]
  · unfold xCall at ev
    split at ev
    · rename_i ds M1 h1
      refine ra σ W δ M ds M1 _ w s h1 fun vs W1 l1 w1 r1 => ⟨W1, M1, ds ++ dds, o, rfl, w1, r1.append (hr _ _), ?_, ev, q.le l1⟩
      rw [List.length_append, hlen _ _ _ _ h1]
      exact hn
    · cases ev
structure LkX (P : Program) (w : World) (K : PySem.W.Frag) (mg : Str → Option Value) (base : Heap) (x : Str) (k : Nat) (ps : List Str) (F : FnX) : Prop where
  go : ∃ (f : Addr) (fd : FuncData), DFnX P w K mg base k f fd ps F ∧ mg x = some (.ref f) ∧ PySem.W.keepIn K (.ref f) = true ∧ Binds K fd ps []
theorem DEX.cl (c : Ctx X P w K mg base k) (tk : ∀ i, Takes (X i) S) {x : Str} {p pos : Pos} {e : Expr} {es : List Expr} {g : AF} {ps : List Str} {F : FnX} {kf : Nat} (h : LkX P w K mg base x kf ps F) (hk : kf ≤ k) (hn : (e :: es).length = ps.length) (ha : DA X K (e :: es) g) (hlen : ∀ δ M ds M', g δ M = some (ds, M') → ds.length = (e :: es).length) (hg : ∀ i, Gl (X i) x := by intro _; rfl)
    (hdbg : (x == ("__debug__" : Str)) = false := by decide) (he : ∀ i, starEach (e :: es) (X i).env = (false, eval e (X i).env) :: starEach es (X i).env := by intro _; rfl) (hpl : ∀ i, (backTo pos (starEach es (X i).env)).any (·.1) = false := by intro _; rfl) :
    DEX X K mg S (.Call (.Name x p) (e :: es) [] pos) (xCall F g []) := by
  obtain ⟨f, fd, h1, h2, h3, h4⟩ := h.go
  exact DEX.call c tk h1 hk h2 h3 h4 .nil (fun _ _ => .nil) hn ha hlen hg hdbg he hpl
def xAs (f : EXF) (j : Nat) : XF := fun δ M => match f δ M with
  | some (.v d M1) => some (.ok (.nx (δ.set j (some d)) M1))
  | some (.ex y M1) => some (.ex y δ M1)
  | none => none
theorem DSX.set (j : Nat) {x : Str} {e : Expr} {pos pos'} {f : EXF} (a : DEX X K mg S e f) (hN : ∀ i, (X i).N.Nodup) (hi : ∀ i, (X i).N[j]? = some x := by intro _; rfl) (hx : ∀ i, Loc (X i).env.scope x := by intro _; first | exact Or.inl rfl | exact Or.inr rfl)
    (hs : ∀ i, swapsWith e (some (.Name x pos')) pos.line (X i).env = pure false := by intro _; rfl) (hf : ∀ i, (X i).fn x = true ∨ (X i).env.scope.names.lookup x = some .local := by intro _; first | exact Or.inl rfl | exact Or.inr rfl) :
    DSX X K mg S (.Assign [.Name x pos'] e pos) (xAs f j) := by
  obtain ⟨t, p, r⟩ := a.go
  refine ⟨tAsg t (gName j), fun i => ps_set (hN i) (hi i) (hx i) (p i) (hs i) (hf i), fun σ W δ M o E w s ev q => ?_⟩
  unfold xAs at ev
  split at ev
  · rename_i d M1 h1
    cases ev
    exact r σ W δ M _ _ w s h1 fun v W1 l1 w1 r1 => q _ W1 l1 w1 ((s.le l1).set r1 j)
  · rename_i y M1 h1
    cases ev
    exact r σ W δ M _ _ w s h1 fun C W1 m l1 w1 => q C σ W1 m l1 w1 (s.le l1)
  · cases ev
def xRet (f : EXF) : XF := fun δ M => match f δ M with
  | some (.v d M1) => some (.ok (.rt d M1))
  | some (.ex y M1) => some (.ex y δ M1)
  | none => none
theorem DSX.ret {e : Expr} {pos} {f : EXF} (a : DEX X K mg S e f) : DSX X K mg S (.Return (some e) pos) (xRet f) := by
  obtain ⟨t, p, r⟩ := a.go
  refine ⟨tRet t, fun i => ps_ret (p i), fun σ W δ M o E w s ev q => ?_⟩
  unfold xRet at ev
  split at ev
  · rename_i d M1 h1
    cases ev
    exact r σ W δ M _ _ w s h1 q
  · rename_i y M1 h1
    cases ev
    exact r σ W δ M _ _ w s h1 fun C W1 m l1 w1 => q C σ W1 m l1 w1 (s.le l1)
  · cases ev
/-! ### try -/
def trI (X : I → Cx) (S : WX) : Type := { p : I × List (Addr × Obj) × (Value → Shared → Prop) // Takes ((X p.1).tr p.2.1 p.2.2) S ∧ PassesOwn (model (X p.1).prog (X p.1).w) (X p.1).A (X p.1).env p.2.2 }
def trF (X : I → Cx) (S : WX) (i : trI X S) : Cx := (X i.1.1).tr i.1.2.1 i.1.2.2
theorem Ctx.tr (c : Ctx X P w K mg base k) : Ctx (trF X S) P w K mg base k :=
  ⟨fun j => c.prog j.1.1, fun j => c.wd j.1.1, fun j => c.K j.1.1, fun j => c.mg j.1.1, fun j => c.base j.1.1, fun j => c.room j.1.1, fun j => c.grd j.1.1, fun j => c.calm j.1.1⟩
def suF (X : I → Cx) (i : I × Addr × Obj × List (Addr × Obj)) : Cx := (X i.1).suite i.2.1 ((i.2.1, i.2.2.1) :: i.2.2.2)
def sTry (tb : Str → Bool) (j : Nat) (fb : XF) (fs : SF) : SF := fun δ M => match fb δ M with
  | some (.ok o) => some o
  | some (.ex y δ' M') => if tb y = true then (match fs (δ'.set j none) M' with
    | some (.nx d2 M2) => some (.nx (d2.set j none) M2)
    | some (.bk d2 M2) => some (.bk (d2.set j none) M2)
    | some (.ct d2 M2) => some (.ct (d2.set j none) M2)
    | o => o) else none
  | none => none
theorem Slots.hide {W : Wd} {σ : St} {δ : Env} (s : Slots K W σ δ) (j : Nat) (u : Option V) : Slots K W (σ.set j u) (δ.set j none) :=
  ⟨by rw [List.length_set, List.length_set]; exact s.len, fun i d h => by
    rw [List.getElem?_set] at h
    rw [List.getElem?_set]
    by_cases e : j = i
    · rw [if_pos e] at h
      split at h <;> cases h
    · rw [if_neg e] at h ⊢
      exact s.at_ i d h⟩
theorem DS.tryAs (j : Nat) (c : Ctx X P w K mg base k) {x n : Str} {body suite : List Stmt} {b₀ : Stmt} {np pos pos' : Pos} {C : Addr} {fb : XF} {fs : SF} {tb : Str → Bool} (hN : ∀ i, (X i).N.Nodup) (hm : mg x = some (.ref C))
    (hx : ∀ y Cy, tb y = true → mg y = some (.ref Cy) → PySem.W.exmOne K (.ref Cy) (.ref C) = some true) (hv : ∀ y, tb y = true → ∃ Cy, mg y = some (.ref Cy)) (hb : ∀ S : WX, (∀ i, Takes (trF X S i) S) → Ctx (trF X S) P w K mg base k → DBX (trF X S) K mg S body fb) (hsu : DB (suF X) K (b₀ :: suite) fs)
    (hs : ∀ i, (X i).stack = (X i).env :: (X i).outer := by intro _; rfl) (hf : ∀ i, (X i).env.frame = some (X i).env.locals := by intro _; rfl) (hi : ∀ i, (X i).N[j]? = some n := by intro _; rfl) (hln : ∀ i, (X i).env.kindOf n = some .local := by intro _; rfl)
    (hg : ∀ i, Gl (X i) x := by intro _; rfl) (hdb : (x == ("__debug__" : Str)) = false := by decide) :
    DS X K (.Try body [.ExceptHandler (some (.Name x np)) (some n) (b₀ :: suite) pos'] [] [] pos) (sTry tb j fb fs) := by
  obtain ⟨ts, ps, rs⟩ := hsu.go
  have hb' := fun S : WX => (hb S (fun i => i.2.1) c.tr).go
  let tB : WX → TS := fun S => Classical.choose (hb' S)
  have pB : ∀ S i, PSs (trF X S i) body (tB S) := fun S => (Classical.choose_spec (hb' S)).1
  have rB : ∀ S, SRX K mg S (tB S) fb := fun S => (Classical.choose_spec (hb' S)).2
  refine ⟨fun D σ H => tB (wAs K (.ref C) j (fun _ _ _ => ts) (fun _ _ _ _ => False) D) D σ H, fun i => ?_, fun σ W δ M o E w s e q => ?_⟩
  · have h := ps_try_as (X := X i) (tb := tB) (ts := fun _ _ _ => ts) (i := j) (pos := pos) (pos' := pos') (np := np) (hs i) (hf i) (hN i) (hi i) (hln i) (show Names (X i) x (.ref C) from ⟨hg i, hdb, .inl (by rw [c.mg i]; exact hm)⟩) (takes0) (fun S pn xe tk po => pB S ⟨(i, pn, xe), tk, po⟩) (fun a oe cls d pn _ _ => ps (i, a, oe, pn))
    rw [c.K i] at h
    exact h
  · unfold sTry at e
    split at e
    · rename_i o' h1
      cases e
      exact rB _ σ W δ M _ E w s h1 q
    · rename_i y δ' M' h1
      split at e
      · rename_i hy
        refine rB _ σ W δ M _ E w s h1 fun Cy σ' W' m l w' s' => ⟨true, hx y Cy hy m, fun _ a ha => ?_, fun z => by cases z⟩
        have s2 := s'.hide j (some (.ref a))
        split at e
        · rename_i d2 M2 h2
          cases e
          exact rs _ W' _ M' _ _ w' s2 h2 fun σ3 W3 l3 w3 s3 => q _ W3 (l.trans l3) w3 (s3.hide j none)
        · rename_i d2 M2 h2
          cases e
          exact rs _ W' _ M' _ _ w' s2 h2 fun σ3 W3 l3 w3 s3 => q _ W3 (l.trans l3) w3 (s3.hide j none)
        · rename_i d2 M2 h2
          cases e
          exact rs _ W' _ M' _ _ w' s2 h2 fun σ3 W3 l3 w3 s3 => q _ W3 (l.trans l3) w3 (s3.hide j none)
        · rename_i n1 n2 n3
          match o, e, q with
          | .rt d3 M3, e, q => exact rs _ W' _ M' _ _ w' s2 e fun v W3 l3 w3 r3 => q v W3 (l.trans l3) w3 r3
          | .nx d3 M3, e, q => exact absurd e (n1 d3 M3)
          | .bk d3 M3, e, q => exact absurd e (n2 d3 M3)
          | .ct d3 M3, e, q => exact absurd e (n3 d3 M3)
      · cases e
    · cases e
end
/-! ### a def that may raise -/
def fnX (n : Nat) (g : XF) : FnX := fun ds M => match g (startD n ds) M with
  | some (.ok (.rt d M')) => some (.v d M')
  | some (.ok (.nx _ M')) => some (.v .non M')
  | some (.ex y _ M') => some (.ex y M')
  | _ => none
def bodyX (P : Program) (w : World) (K : PySem.W.Frag) (mg : Str → Option Value) (base : Heap) (N : List Str) (E : XK) {k : Nat} {qual : Str} {scope : Scope} {f : Addr} (e : Entry k qual scope f) : Cx := cxOf (L2.CX P w) P w K mg base N qual scope f e.cdv e.A e.outer e.s e.H E
theorem bodyX_ctx (P : Program) (w : World) (K : PySem.W.Frag) (mg : Str → Option Value) (base : Heap) (N : List Str) (E : XK) {k : Nat} {qual : Str} {scope : Scope} {f : Addr} : Ctx (bodyX P w K mg base N E (k := k) (qual := qual) (scope := scope) (f := f)) P w K mg base k :=
  ⟨fun _ => rfl, fun _ => rfl, fun _ => rfl, fun _ => rfl, fun _ => rfl, fun e => e.room, fun e => e.grd, fun _ => rfl⟩
theorem DFnX.of {P : Program} {w : World} {K : PySem.W.Frag} {mg : Str → Option Value} {base : Heap} {k : Nat} {x qual : Str} {params : Arguments} {body : List Stmt} {scope : Scope} {dvs : List V} {kws : List (Str × V)} {f : Addr} {fd : FuncData} {N ps : List Str} {g : XF}
    (h : FunD K x qual params body scope dvs kws f fd) (Sc : FnScope N ps scope) (hb : ∀ E : XK, Ctx (bodyX P w K mg base N E (k := k) (qual := qual) (scope := scope) (f := f)) P w K mg base k → (∀ i, Takes (bodyX P w K mg base N E (k := k) (qual := qual) (scope := scope) (f := f) i) (fun c d _ H => E c d H)) →
      DBX (bodyX P w K mg base N E (k := k) (qual := qual) (scope := scope) (f := f)) K mg (fun c d _ H => E c d H) body g) : DFnX P w K mg base (k + 1) f fd ps (fnX N.length g) := by
  obtain ⟨oc, od, dV, kV, doc, pm, an, cdv, ct, osl, rfl, lk, hcd, _, _⟩ := h.ex
  refine ⟨fun A outer s H args us vs Q E room grd e0 bd r q => ?_⟩
  obtain ⟨t, pt, rt⟩ := (hb E (bodyX_ctx P w K mg base N E) (fun i => takes_of rfl rfl rfl rfl)).go
  obtain ⟨W, M, ds, o, rfl, a2, a3, a4, a5, a6⟩ := q
  have hl : vs.length = ps.length := a3.len.trans a4
  have KX : K.In s.heap := e0.mod.kin.keeps fun b o e => (e0.bs b o e).1
  have lim : s.heap.NoLimit := e0.mod.nolimit.keeps fun b o e => (e0.bs b o e).1
  have knd : ∀ y ∈ ps.zip us, scope.names.lookup y.1 = some .local ∨ (scope.names.lookup y.1 = some .cell ∧ ((cellsFrom (s.heap.objs.size + 1) scope.names []).lookup y.1).isSome = true) := fun y hy => by
    rcases Sc.par y.1 (List.of_mem_zip (a := y.1) (b := y.2) hy).1 with q | q
    · exact .inl q
    · exact .inr ⟨q, PySem.W.cellsFrom_some _ _ _ (.inl q)⟩
  refine codeAny_call_function room.depth (KX _ _ lk) rfl Sc.co Sc.gen rfl (PySem.W.codeRec_of KX hcd) (bd _ _ _ _ ?_)
  refine wpAny_newFunctionEnv_cells Sc.kind knd fun env he s1 xc => ?_
  subst he
  refine ⟨lim.keeps xc.toInCall.keep, codeAny_func ?_⟩
  have J : Inv (cxOf (L2.CX P w) P w K mg base N qual scope f cdv A outer s W.H E) [] (L2.start N vs) W.H s1 := inv_start Sc room.hd e0 hl r xc
  have ht := pt ⟨cdv, A, outer, s, W.H, room.deeper _, grd⟩
  have q2 : t { nx := fun _ H' => Q .non H', rt := Q } (L2.start N vs) W.H := by
    unfold fnX at a5
    split at a5
    · rename_i d2 M2 h2
      cases a5
      exact rt _ W _ M _ _ a2 (slots_start a3) h2 a6
    · rename_i δ2 M2 h2
      cases a5
      exact rt _ W _ M _ _ a2 (slots_start a3) h2 fun σ' W' l o s' => a6 .non W' l o .non
    · rename_i y δ2 M2 h2
      cases a5
      exact rt _ W _ M _ _ a2 (slots_start a3) h2 fun C σ' W' m l o s' => a6 C W' m l o
    · cases a5
  refine wpAny_mono (ht.run [] s1 (L2.start N vs) W.H _ J q2) (fun fl s' hs => ?_) fun e s' hs => hs
  have fin : ∀ {σ' : St} {H' : Hp} {v : V} {u : Value}, Inv (cxOf (L2.CX P w) P w K mg base N qual scope f cdv A outer s W.H E) [] σ' H' s' → RelV v u → Q v H' → CE outer P w W.H s Q u s' :=
    fun {σ' H' v u} J rv q => ⟨v, H', J.os, J.bare, J.base, J.hok, rv, q⟩
  match fl, hs with
  | .ret u, ⟨v, σ', H', J2, rv, q3⟩ => exact fin J2 rv q3
  | .next, ⟨σ', H', J2, q3⟩ => exact fin (v := V.non) (u := Value.none) J2 rfl q3
  | .brk, ⟨_, _, _, q3⟩ => exact False.elim q3
  | .cont, ⟨_, _, _, q3⟩ => exact False.elim q3
end Pl

/-! PlT: what was caught is kept. -/
namespace L2
open PySem PySem.Spec PyProof.Rows
section
variable {X : Cx} {pins : List (Addr × Obj)} {σ : St} {H : Hp} {s : Shared}
/-- an object that stands there already is told of from here on -/
theorem Inv.told {a : Addr} {o : HO} (I : Inv X pins σ H s) (hn : H a = none) (h0 : X.s_0.heap.get? a = none) (hL : a ≠ X.env.locals) (hC : ∀ x c, X.env.cells.lookup x = some c → c ≠ a) (hP : ∀ p ∈ X.pn ++ pins, p.1 ≠ a)
    (new : ObjOk X.prog X.w (upd H a o) s.heap a o) : Inv X pins σ (upd H a o) s := by
  have ne0 : ∀ b u, X.s_0.heap.get? b = some u → b ≠ a := fun b u e z => by
    rw [z, h0] at e
    cases e
  have neH : ∀ b u, H b = some u → b ≠ a := fun b u e z => by
    rw [z, hn] at e
    cases e
  refine ⟨I.ok, I.os, I.bare, ⟨I.base.keep, I.base.slot, fun b u e n hx => ?_, I.base.there, fun b xs e => ?_, fun b u xs e => ?_, fun b ps e => ?_⟩, I.loc, I.cell, ?_, fun x c e => ?_, fun p hp => ?_, fun b u e => ?_, I.len⟩
  · rw [upd_ne (ne0 b u e)]
    exact I.base.free b u e n hx
  · have q := I.base.tups b xs e
    rw [upd_ne (neH _ _ q)]
    exact q
  · have q := I.base.frzs b u xs e
    rw [upd_ne (neH _ _ q)]
    exact q
  · obtain ⟨m, q⟩ := I.base.tbls b ps e
    exact ⟨m, by rw [upd_ne (neH _ _ q)]; exact q⟩
  · rw [upd_ne (fun z => hL z.symm)]
    exact I.free
  · rw [upd_ne (hC x c e)]
    exact I.freeC x c e
  · obtain ⟨q1, q2, q3⟩ := I.pin p hp
    exact ⟨q1, by rw [upd_ne (hP p hp)]; exact q2, q3⟩
  · by_cases hb : b = a
    · subst hb
      rw [upd_same] at e
      cases e
      exact new
    · rw [upd_ne hb] at e
      exact (I.hok b u e).stay (fun c v _ q => q) (fun c q => by rw [upd_ne (neH _ _ q)]; exact q) fun c xs q => by rw [upd_ne (neH _ _ q)]; exact q
end
open Pl in
/-- the ends of a suite behind which the caught one is kept -/
def endK (C a : Addr) (i : Nat) (D : Ends) : Ends :=
  { nx := fun σ' H' => H' a = none → D.nx (σ'.set i none) (upd H' a (Pl.ExV C a)), rt := fun v H' => H' a = none → D.rt v (upd H' a (Pl.ExV C a)), bk := fun σ' H' => H' a = none → D.bk (σ'.set i none) (upd H' a (Pl.ExV C a)), ct := fun σ' H' => H' a = none → D.ct (σ'.set i none) (upd H' a (Pl.ExV C a)) }
/-- what the clause wishes -/
def wKeep (K : PySem.W.Frag) (c : Value) (i : Nat) (ts : TS) (Wout : WX) (D : Ends) : WX := fun cls d σ H =>
  ∃ b, PySem.W.exmOne K cls c = some b ∧ (b = true → d = none ∧ ∃ C, cls = .ref C ∧ ∀ a, H a = none → ts (endK C a i D) (σ.set i (some (.ref a))) H) ∧ (b = false → Wout cls d σ H)
section
variable {X : Cx} {x n : Str} {c : Value} {i : Nat} {body suite : List Stmt} {b₀ : Stmt} {np pos pos' : Pos} {tb : WX → TS} {ts : TS} {Wout : WX}
theorem ps_try_keep (hs : X.stack = X.env :: X.outer) (hf : X.env.frame = some X.env.locals) (hex : X.ex = []) (hN : X.N.Nodup) (hi : X.N[i]? = some n) (hln : X.env.kindOf n = some .local) (hc : Names X x c) (tk : Takes X Wout)
    (hb : ∀ (W : WX) (pn : List (Addr × Obj)) (xe : Value → Shared → Prop), Takes (X.tr pn xe) W → PassesOwn (model X.prog X.w) X.A X.env xe → PSs (X.tr pn xe) body (tb W))
    (hsu : ∀ (a : Addr) (obE : Obj) (pn : List (Addr × Obj)), PSs (X.suite a ((a, obE) :: pn)) (b₀ :: suite) ts) :
    PS X (.Try body [.ExceptHandler (some (.Name x np)) (some n) (b₀ :: suite) pos'] [] [] pos) (fun D σ H => tb (wKeep X.K c i ts Wout D) D σ H) := by
  refine ⟨fun pins s σ H D I h => ?_⟩
  have ok := I.ok
  have frE : X.A.frames = some (X.env :: X.outer) := by rw [ok.frames, hs]
  have locE : Loc X.env.scope n := .inl hln
  refine wpAny_Try_except ?_
  refine wpAny_mono ((hb (wKeep X.K c i ts Wout D) (X.pn ++ pins) (fun e s₁ => wpAny (model X.prog X.w) X.A (noteFrame e X.env) (fun _ s₂ => wpAny (model X.prog X.w) X.A (setFlight e none) (fun _ s₃ =>
    wpAny (model X.prog X.w) X.A (handleBy e X.env [.ExceptHandler (some (.Name x np)) (some n) (b₀ :: suite) pos']) (SP X pins D) X.xe s₃) X.xe s₂) X.xe s₁) (fun u s' xx => ?_) PassesOwn.looking).run [] s σ H D (I.toTry _) h) (fun f s1 hend => ?_) (fun e s1 he => he)
  · obtain ⟨a, B, sI, pins', σ', H', cls, d, rfl, Jz, nb, up, sky, naA, os, ag, b, hb1, hyes, hno⟩ := xx
    have Ja : Inv X pins σ' H' sI := Jz.ofTry ok
    have skyT : Sky B (X.env :: X.outer) a (Zc cls d) X.env.locals s'.heap := by rw [← hs]; exact sky
    show wpAny (model X.prog X.w) X.A (noteFrame (.ref a) X.env) _ _ _
    refine Sky.land Zc.steady frE hf skyT fun hp3 fly3 mor3 => ?_
    have Jb : Inv X pins σ' H' { s' with heap := hp3 } := Ja.landed nb fly3.1 (up.trans mor3) os ag
    obtain ⟨ob3, fv3, at3, zc3, dt3⟩ := fly3.there
    have offFr : ∀ {h : Heap} {o : Obj} {vs : Array Value}, h.FunFrames B (X.env :: X.outer) → h.get? a = some o → o.data = .fields vs → a ∉ frs (X.env :: X.outer) := fun {h o vs} ff e dd mem_ => by
      obtain ⟨_, o', e', hnA⟩ := ff.mem mem_
      rw [e] at e'; cases e'
      exact hnA _ dd
    have nfrA := offFr fly3.2.2.1 at3 dt3
    have nLoc : a ≠ X.env.locals := fun z => nfrA (List.mem_filterMap.mpr ⟨X.env, List.mem_cons_self, by rw [hf, z]⟩)
    have nFs : a ∉ X.fs := fun mem_ => by
      obtain ⟨e, he, q⟩ := List.mem_filterMap.mp mem_
      exact nfrA (List.mem_filterMap.mpr ⟨e, List.mem_cons_of_mem _ he, q⟩)
    have nI : sI.heap.get? a = none := by
      cases e : sI.heap.get? a with
      | none => rfl
      | some o =>
        have z := nb a o e (by rw [hs]; exact nfrA)
        rw [fly3.2.1] at z
        cases z
    have nbA : X.s_0.heap.get? a = none := by
      cases e : X.s_0.heap.get? a with
      | none => rfl
      | some o =>
        obtain ⟨o', z⟩ := Ja.base.there a o e (by rw [hex]; exact fun z => nomatch z)
        rw [nI] at z
        cases z
    have nP : ∀ p ∈ X.pn ++ pins, p.1 ≠ a := fun p hp z => by
      have q := (Ja.pin p hp).1
      rw [z, nI] at q
      cases q
    have Sb := Jb.suite at3 dt3 naA nLoc nFs
    refine wpAny_handleBy_cons (codeAny_handlers_test ?_) (by intro q; cases q)
    have LtT : PySem.W.Looks (model X.prog X.w) hp3 (typeOf (.ref a)) cls := fun A Q E s k q => wpAny_typeOf_ref (k _ _ at3) (by rw [zc3.1]; exact q)
    have LmT := PySem.W.exm_one (M := model X.prog X.w) (Jb.kIn) LtT hb1
    have tstT : ∀ {Q : Value → Shared → Prop} {E : Value → Shared → Prop}, Q c { s' with heap := hp3 } → wpAny (model X.prog X.w) (X.A.mark (some (.ref a))) (eval (.Name x np) X.env) Q E { s' with heap := hp3 } := fun {Q E} q => by
      obtain ⟨hg, hdbg, mem_ | ⟨mem_, hv, hnn⟩⟩ := hc
      · exact ld_glob (X := X.suite a ((a, ob3) :: (X.pn ++ pins))) Sb hg mem_ q hdbg
      · exact ld_blt (X := X.suite a ((a, ob3) :: (X.pn ++ pins))) Sb hg mem_ hv q hnn hdbg
    refine tstT (LmT.here ?_)
    cases b with
    | true =>
      obtain ⟨rfl, C, rfl, hy⟩ := hyes rfl
      refine codeAny_handlers_suite_as ?_
      refine HandSPX.lands_againZ fly3 fun hp4 fly4 mor4 => ?_
      have Jc : Inv X pins σ' H' { s' with heap := hp4 } := Ja.landed nb fly4.1 ((up.trans mor3).trans mor4) os ag
      obtain ⟨ob4, fv4, at4, zc4, dt4⟩ := fly4.there
      have Sc := Jc.suite at4 dt4 naA nLoc nFs
      refine store_ok (X := X.suite a ((a, ob4) :: (X.pn ++ pins))) (v := .ref a) Sc hN hi locE rfl (fun sd Sd => ?_) (.inr hln)
      refine wpAny_mono ((hsu a ob4 (X.pn ++ pins)).run [] sd _ H' _ Sd (hy a naA)) (fun f s6 hend => ?_) (fun _ _ z => False.elim z)
      have end_ : ∀ {σe : St} {He : Hp} {Q : Shared → Prop}, Inv (X.suite a ((a, ob4) :: (X.pn ++ pins))) [] σe He s6 → (∀ s7, He a = none → Inv X pins (σe.set i none) (upd He a (Pl.ExV C a)) s7 → Q s7) →
          wpAny (model X.prog X.w) X.A (do bindName X.env n .none; unbindBehindTheSuite X.env n pos') (fun _ s7 => Q s7) X.xe s6 := fun {σe He Q} Se hq => by
        obtain ⟨ga, gn, _⟩ := Se.pin (a, ob4) (List.mem_append.mpr (.inl List.mem_cons_self))
        have J6 := Se.unsuite ok
        have hC : ∀ x c, X.env.cells.lookup x = some c → c ≠ a := fun x c e z => by
          obtain ⟨v, o, ho, hd⟩ := J6.cell x c e
          rw [z, ga] at ho
          cases ho
          rw [dt4] at hd
          cases hd
        have new : ObjOk X.prog X.w (upd He a (Pl.ExV C a)) s6.heap a (Pl.ExV C a) := ⟨⟨ob4, fv4, ga, zc4, dt4⟩, ⟨ob4, ga⟩, fun _ _ ⟨o, v, q, r⟩ k => ⟨o, v, k o q, r⟩⟩
        exact gone_ok (J6.told gn nbA nLoc hC nP new) hN hi hln fun s7 J7 => hq s7 gn J7
      cases f with
      | next =>
        obtain ⟨σe, He, Se, qe⟩ := hend
        exact end_ Se fun s7 gn J7 => ⟨_, _, J7, qe gn⟩
      | brk =>
        obtain ⟨σe, He, Se, qe⟩ := hend
        exact end_ Se fun s7 gn J7 => ⟨_, _, J7, qe gn⟩
      | cont =>
        obtain ⟨σe, He, Se, qe⟩ := hend
        exact end_ Se fun s7 gn J7 => ⟨_, _, J7, qe gn⟩
      | ret u =>
        obtain ⟨ve, σe, He, Se, re, qe⟩ := hend
        exact end_ Se fun s7 gn J7 => ⟨_, _, _, J7, re, qe gn⟩
    | false =>
      show wpAny _ X.A (handleBy (.ref a) X.env []) _ _ _
      refine wpAny_handleBy_nil ?_
      obtain ⟨k1, k2, k3, obE, vs, T, oT, ts', he, hz, hd, h1, hr⟩ := id fly3
      unfold PySem.passOn
      refine wpAny_bind (wpAny_field he hd h1 ?_)
      rw [if_neg (show ¬ ((Value.ref T == Value.none) = true) from by simp)]
      have finT : wpAny (model X.prog X.w) X.A (setFlight (.ref a) X.env.frame) (fun _ s4 => wpAny (model X.prog X.w) X.A (throw (.ref a) : Sem Flow) (SP X pins D) X.xe s4) X.xe { s' with heap := hp3 } := by
        rw [hf]
        refine HandSPX.setFlight_upZ fly3 fun hp4 hqD mor4 => wpAny_throw (tk _ _ ?_)
        exact ⟨a, B, sI, pins, σ', H', cls, d, rfl, Ja, nb, (up.trans mor3).trans mor4, .inr (.inr (by rw [hs]; exact hqD)), naA, os, ag, hno rfl⟩
      first
        | exact wpAny_bind (wpAny_pure (wpAny_bind finT))
        | exact wpAny_bind finT
  · cases f with
    | next =>
      obtain ⟨σ', H', Jz, q⟩ := hend
      exact wpAny_execs_nil ⟨σ', H', Jz.ofTry ok, q⟩
    | brk =>
      obtain ⟨σ', H', Jz, q⟩ := hend
      exact ⟨σ', H', Jz.ofTry ok, q⟩
    | cont =>
      obtain ⟨σ', H', Jz, q⟩ := hend
      exact ⟨σ', H', Jz.ofTry ok, q⟩
    | ret u =>
      obtain ⟨v, σ', H', Jz, r, q⟩ := hend
      exact ⟨v, σ', H', Jz.ofTry ok, r, q⟩
end
end L2

/-! PlK: a try that keeps what it caught; isinstance of that. -/
namespace Pl
open PySem L2
section
variable {I : Type} {X : I → Cx} {P : Program} {w : World} {K : PySem.W.Frag} {mg : Str → Option Value} {base : Heap} {k : Nat}
/-- one more place, nothing alive there -/
def Wd.ix1 (W : Wd) (a : Addr) : Wd := ⟨W.H, W.B, W.ι ++ [a], W.P⟩
theorem Wd.ix1_le {W : Wd} {a : Addr} : W.Le (W.ix1 a) := ⟨fun _ _ h => h, ⟨[a], rfl⟩, rfl⟩
theorem Wd.ix1_live {W : Wd} {M : Mh} {a : Addr} (w : W.Ok K M) : ∀ n b o, Live (W.ix1 a) (M ++ [.dead]) n b o → Live W M n b o := fun n b o ⟨h1, h2, h3⟩ => by
  by_cases hn : n < M.length
  · rw [List.getElem?_append_left hn] at h2
    have h1' : (W.ι ++ [a])[n]? = some b := h1
    rw [List.getElem?_append_left (by rw [w.len]; exact hn)] at h1'
    exact ⟨h1', h2, h3⟩
  · have e : n = M.length := by
      have := (List.getElem?_eq_some_iff.mp h2).1
      rw [List.length_append] at this
      simp at this
      omega
    subst e
    rw [List.getElem?_append_right (Nat.le_refl _)] at h2
    simp at h2
    exact absurd h2.symm h3
theorem Wd.ix1_ok {W : Wd} {M : Mh} {a : Addr} (w : W.Ok K M) : (W.ix1 a).Ok K (M ++ [.dead]) :=
  ⟨w.sub, w.pin, by
    show (W.ι ++ [a]).length = _
    simp [w.len], fun n b o h => by
    obtain ⟨h1, h2, u, h3, h4⟩ := w.live n b o (Wd.ix1_live w n b o h)
    exact ⟨h1, h2, u, h3, h4.mono (fun _ _ q => q) Wd.ix1_le.ix⟩, fun n m b o u h g => w.inj n m b o u (Wd.ix1_live w n b o h) (Wd.ix1_live w m b u g)⟩
/-- the caught one stands there from here on -/
def Wd.wake (W : Wd) (a : Addr) (o : HO) : Wd := ⟨upd W.H a o, W.B, W.ι, W.P⟩
theorem Wd.wake_le {W : Wd} {a : Addr} {o : HO} : W.Le (W.wake a o) := ⟨fun _ _ h => h, ⟨[], by simp [Wd.wake]⟩, rfl⟩
theorem Wd.wake_ok {W : Wd} {M : Mh} {a : Addr} {n : Nat} {o : HO} {m : MO} (w : W.Ok K M) (hn : n < M.length) (hι : W.ι[n]? = some a) (hH : W.H a = none) (r : RepO K W.B W.ι a o m) : (W.wake a o).Ok K (M.set n m) := by
  have hB := w.bnone hH
  have hP := w.pnone hH
  have lv : ∀ k b u, Live (W.wake a o) (M.set n m) k b u → (k = n ∧ b = a ∧ u = m) ∨ (k ≠ n ∧ Live W M k b u) := fun k b u ⟨h1, h2, h3⟩ => by
    by_cases e : n = k
    · subst e
      rw [List.getElem?_set_self hn] at h2
      have e1 : some b = some a := (show W.ι[n]? = some b from h1).symm.trans hι
      cases e1
      cases h2
      exact .inl ⟨rfl, rfl, rfl⟩
    · rw [List.getElem?_set_ne e] at h2
      exact .inr ⟨fun z => e z.symm, h1, h2, h3⟩
  have ne : ∀ {k b u}, Live W M k b u → b ≠ a := fun {k b u} h e => by
    obtain ⟨_, _, g, hg, _⟩ := w.live k b u h
    rw [e, hH] at hg
    cases hg
  refine ⟨fun b u h => ?_, fun b u h => ?_, by rw [List.length_set]; exact w.len, fun k b u h => ?_, fun k j b u v h g => ?_⟩
  · exact (upd_ne (fun e => by
      rw [e] at h
      have h' : W.B a = some u := h
      rw [hB] at h'
      cases h')).trans (w.sub b u h)
  · have q := w.pin b u h
    exact ⟨(upd_ne (fun e => by
      rw [e] at h
      have h' : W.P a = some u := h
      rw [hP] at h'
      cases h')).trans q.1, q.2⟩
  · rcases lv k b u h with ⟨rfl, rfl, rfl⟩ | ⟨_, h⟩
    · exact ⟨hB, hP, o, upd_same, r⟩
    · obtain ⟨h1, h2, g, h3, h4⟩ := w.live k b u h
      exact ⟨h1, h2, g, (upd_ne (ne h)).trans h3, h4⟩
  · rcases lv k b u h with ⟨rfl, rfl, rfl⟩ | ⟨_, h⟩
    · rcases lv j b v g with ⟨rfl, _, _⟩ | ⟨_, g⟩
      · rfl
      · exact absurd rfl (ne g)
    · rcases lv j b v g with ⟨_, e, _⟩ | ⟨_, g⟩
      · exact absurd e (ne h)
      · exact w.inj _ _ _ _ _ h g
def kp (n : Nat) (C : Addr) (M : Mh) : Option Mh := match M[n]? with
  | some .dead => some (M.set n (.exc C))
  | _ => none
def kpO (j n : Nat) (C : Addr) : Option Out → Option Out
  | some (.nx δ M) => (kp n C M).map fun M' => .nx (δ.set j none) M'
  | some (.bk δ M) => (kp n C M).map fun M' => .bk (δ.set j none) M'
  | some (.ct δ M) => (kp n C M).map fun M' => .ct (δ.set j none) M'
  | some (.rt d M) => (kp n C M).map fun M' => .rt d M'
  | none => none
def sTryK (tb : Str → Option Addr) (j : Nat) (fb : XF) (fs : SF) : SF := fun δ M => match fb δ M with
  | some (.ok o) => some o
  | some (.ex y δ' M') => (match tb y with
    | some C => kpO j M'.length C (fs (δ'.set j (some (.ref M'.length))) (M' ++ [.dead]))
    | none => none)
  | none => none
theorem kp_some {n : Nat} {C : Addr} {M M' : Mh} (h : kp n C M = some M') : n < M.length ∧ M' = M.set n (.exc C) := by
  unfold kp at h
  split at h
  · rename_i hd
    cases h
    exact ⟨(List.getElem?_eq_some_iff.mp hd).1, rfl⟩
  · cases h
theorem Slots.ix1 {W : Wd} {σ : St} {δ : Env} (s : Slots K W σ δ) {a : Addr} {M : Mh} (w : W.Ok K M) (j : Nat) : Slots K (W.ix1 a) (σ.set j (some (.ref a))) (δ.set j (some (.ref M.length))) :=
  (s.le Wd.ix1_le).set (.ref (by
    show (W.ι ++ [a])[M.length]? = some a
    rw [← w.len]
    simp)) j
theorem DS.tryKeep (j : Nat) (c : Ctx X P w K mg base k) {x n : Str} {body suite : List Stmt} {b₀ : Stmt} {np pos pos' : Pos} {CH : Addr} {fb : XF} {fs : SF} {tb : Str → Option Addr} (hN : ∀ i, (X i).N.Nodup) (hm : mg x = some (.ref CH))
    (hx : ∀ y C, tb y = some C → mg y = some (.ref C) ∧ PySem.W.exmOne K (.ref C) (.ref CH) = some true ∧ ExcC K C) (hb : ∀ S : WX, (∀ i, Takes (trF X S i) S) → Ctx (trF X S) P w K mg base k → DBX (trF X S) K mg S body fb) (hsu : DB (suF X) K (b₀ :: suite) fs)
    (hs : ∀ i, (X i).stack = (X i).env :: (X i).outer := by intro _; rfl) (hf : ∀ i, (X i).env.frame = some (X i).env.locals := by intro _; rfl) (hex : ∀ i, (X i).ex = [] := by intro _; rfl) (hi : ∀ i, (X i).N[j]? = some n := by intro _; rfl) (hln : ∀ i, (X i).env.kindOf n = some .local := by intro _; rfl)
    (hg : ∀ i, Gl (X i) x := by intro _; rfl) (hdb : (x == ("__debug__" : Str)) = false := by decide) :
    DS X K (.Try body [.ExceptHandler (some (.Name x np)) (some n) (b₀ :: suite) pos'] [] [] pos) (sTryK tb j fb fs) := by
  obtain ⟨ts, ps, rs⟩ := hsu.go
  have hb' := fun S : WX => (hb S (fun i => i.2.1) c.tr).go
  let tB : WX → TS := fun S => Classical.choose (hb' S)
  have pB : ∀ S i, PSs (trF X S i) body (tB S) := fun S => (Classical.choose_spec (hb' S)).1
  have rB : ∀ S, SRX K mg S (tB S) fb := fun S => (Classical.choose_spec (hb' S)).2
  refine ⟨fun D σ H => tB (wKeep K (.ref CH) j ts (fun _ _ _ _ => False) D) D σ H, fun i => ?_, fun σ W δ M o E w s e q => ?_⟩
  · have h := ps_try_keep (X := X i) (tb := tB) (ts := ts) (i := j) (pos := pos) (pos' := pos') (np := np) (hs i) (hf i) (hex i) (hN i) (hi i) (hln i) (show Names (X i) x (.ref CH) from ⟨hg i, hdb, .inl (by rw [c.mg i]; exact hm)⟩) (takes0) (fun S pn xe tk po => pB S ⟨(i, pn, xe), tk, po⟩) (fun a oe pn => ps (i, a, oe, pn))
    rw [c.K i] at h
    exact h
  · unfold sTryK at e
    split at e
    · rename_i o' h1
      cases e
      exact rB _ σ W δ M _ E w s h1 q
    · rename_i y δ' M' h1
      split at e
      · rename_i C hy
        obtain ⟨g1, g2, g3⟩ := hx y C hy
        refine rB _ σ W δ M _ E w s h1 fun Cy σ' W' m l w' s' => ?_
        have eC : Cy = C := by
          have := m.symm.trans g1
          cases this
          rfl
        subst eC
        refine ⟨true, g2, fun _ => ⟨rfl, Cy, rfl, fun a ha => ?_⟩, fun z => by cases z⟩
        have fin : ∀ {W3 : Wd} {M2 M3 : Mh}, (W'.ix1 a).Le W3 → W3.Ok K M2 → W3.H a = none → kp M'.length Cy M2 = some M3 → (W3.wake a (ExV Cy a)).Ok K M3 := fun {W3 M2 M3} l3 w3 h3 k3 => by
          obtain ⟨kn, rfl⟩ := kp_some k3
          exact Wd.wake_ok w3 kn (l3.ix _ _ (by
            show (W'.ι ++ [a])[M'.length]? = some a
            rw [← w'.len]
            simp)) h3 (.exc g3)
        have lw : ∀ {W3 : Wd}, (W'.ix1 a).Le W3 → W.Le (W3.wake a (ExV Cy a)) := fun {W3} l3 => ((l.trans Wd.ix1_le).trans l3).trans Wd.wake_le
        show ts (endK Cy a j E) (σ'.set j (some (.ref a))) (W'.ix1 a).H
        generalize hf0 : fs (δ'.set j (some (.ref M'.length))) (M' ++ [.dead]) = fo at e
        match fo, e with
        | some (.nx d2 M2), e =>
          obtain ⟨M3, e3, rfl⟩ := Option.map_eq_some_iff.mp e
          exact rs _ (W'.ix1 a) _ _ _ _ (Wd.ix1_ok w') (s'.ix1 w' j) hf0 fun σ3 W3 l3 w3 s3 h3 => q _ (W3.wake a (ExV Cy a)) (lw l3) (fin l3 w3 h3 e3) ((s3.hide j none).le Wd.wake_le)
        | some (.bk d2 M2), e =>
          obtain ⟨M3, e3, rfl⟩ := Option.map_eq_some_iff.mp e
          exact rs _ (W'.ix1 a) _ _ _ _ (Wd.ix1_ok w') (s'.ix1 w' j) hf0 fun σ3 W3 l3 w3 s3 h3 => q _ (W3.wake a (ExV Cy a)) (lw l3) (fin l3 w3 h3 e3) ((s3.hide j none).le Wd.wake_le)
        | some (.ct d2 M2), e =>
          obtain ⟨M3, e3, rfl⟩ := Option.map_eq_some_iff.mp e
          exact rs _ (W'.ix1 a) _ _ _ _ (Wd.ix1_ok w') (s'.ix1 w' j) hf0 fun σ3 W3 l3 w3 s3 h3 => q _ (W3.wake a (ExV Cy a)) (lw l3) (fin l3 w3 h3 e3) ((s3.hide j none).le Wd.wake_le)
        | some (.rt d2 M2), e =>
          obtain ⟨M3, e3, rfl⟩ := Option.map_eq_some_iff.mp e
          exact rs _ (W'.ix1 a) _ _ _ _ (Wd.ix1_ok w') (s'.ix1 w' j) hf0 fun v W3 l3 w3 r3 h3 => q v (W3.wake a (ExV Cy a)) (lw l3) (fin l3 w3 h3 e3) (r3.le Wd.wake_le)
        | none, e => cases e
      · cases e
    · cases e
/-! ### isinstance of what is kept -/
theorem GV.cls {x : Str} {C : Addr} (h : mg x = some (.ref C)) : GV K mg x (.ob C) := ⟨.ref C, .ref C, h, rfl, fun _ _ => .ob _⟩
def clV : D → Option Value
  | .ob c => some (.ref c)
  | .ty t => some (.type t)
  | _ => none
def gIsiE (isa : Addr → Value → Option Bool) : GL := fun ds M => match ds with
  | [.ref n, c] => (match M[n]?, clV c with
    | some (.exc C), some cv => (match isa C cv with
      | some b => some (.bl b, M)
      | none => none)
    | _, _ => gIsi [.ref n, c] M)
  | ds => gIsi ds M
def rIsiE (K : PySem.W.Frag) (xs : List V) (H : Hp) (Q : VK) : Prop := ∃ a C c cv b, xs = [.ref a, c] ∧ H a = some (ExV C a) ∧ ExcC K C ∧ (∀ u, RelV c u → u = cv) ∧ PySem.W.kitOne K (.ref C) cv = some b ∧ Q (.bl b) H
theorem call_isiE {Y : Cx} : CallR Y (.builtin "isinstance") (rIsiE Y.K) := fun pins s σ H xs us Q J r h => by
  obtain ⟨a, D, c, cv, b, rfl, hH, E, hcv, e, q⟩ := h
  cases r with
  | cons rx rr =>
    cases rr with
    | cons rt rr =>
      cases rr
      cases rx
      have ec := hcv _ rt
      subst ec
      obtain ⟨⟨oe, vs, hget, hz, hv⟩, _, _⟩ := J.hok a _ hH
      have I : PySem.W.InstAt s.heap a oe D none := by
        obtain ⟨oc, od, oda, osl⟩ := oe
        obtain ⟨h1, h2⟩ := hz
        dsimp only at h1 h2 hv
        subst h1 h2 hv
        exact ⟨hget, rfl, rfl, trivial⟩
      exact PySem.W.kia_one (PySem.W.handS_kitx_exc E.hg E.hk E.hs E.hd E.ha E.hn E.ht E.hm) J.kIn I e (fun z => nomatch z) fun tk => ⟨.bl b, H, J.kept (t' := tk) fun _ _ z => z, rfl, q⟩
theorem cIsiE (c : Ctx X P w K mg base k) {isa : Addr → Value → Option Bool} (hi : ∀ C v b, isa C v = some b → PySem.W.kitOne K (.ref C) v = some b) : CalF X K (.builtin "isinstance") (gIsiE isa) := by
  obtain ⟨r, hr, hq⟩ := (cIsi c).go
  refine ⟨fun xs H Q => r xs H Q ∨ rIsiE K xs H Q, fun i pins s σ H xs us Q J hv h => ?_, fun W M vs ds z M' Q w rp e q => ?_⟩
  · rcases h with h | h
    · exact hr i pins s σ H xs us Q J hv h
    · refine call_isiE pins s σ H xs us Q J hv ?_
      rw [c.K i]
      exact h
  · unfold gIsiE at e
    split at e
    · rename_i n cd
      split at e
      · rename_i C cv hm hc
        split at e
        · rename_i b hb
          cases e
          cases rp with
          | cons r1 r2 =>
            cases r2 with
            | cons r2 r3 =>
              cases r3
              cases r1 with
              | ref hι =>
                obtain ⟨_, _, o, ho, ro⟩ := w.live _ _ _ ⟨hι, hm, fun z => by cases z⟩
                cases ro with
                | exc E =>
                  refine .inr ⟨_, C, _, cv, b, rfl, ho, E, fun u ru => ?_, hi _ _ _ hb, q _ W (.refl W) w (.bl _)⟩
                  cases r2 with
                  | ob a =>
                    cases hc
                    cases ru
                    rfl
                  | ty t =>
                    cases hc
                    cases ru
                    rfl
                  | _ => cases hc
        · cases e
      · exact .inl (hq W M vs _ z M' Q w rp e q)
    · exact .inl (hq W M vs _ z M' Q w rp e q)
end
/-! ### three names at once -/
section
variable {I : Type} {X : I → Cx} {P : Program} {w : World} {K : PySem.W.Frag} {mg : Str → Option Value} {base : Heap} {k : Nat}
def sPar3 (i j l : Nat) (f g h : EF) : SF := fun δ M => match f δ M with
  | some (d, M1) => (match g δ M1 with
    | some (e, M2) => (match h δ M2 with
      | some (u, M3) => some (.nx (((δ.set i (some d)).set j (some e)).set l (some u)) M3)
      | none => none)
    | none => none)
  | none => none
theorem DS.par3 (a b d : Nat) {x y z : Str} {e1 e2 e3 : Expr} {f g h : EF} {px py pz pt : Pos} {kt k2 pt2 pos} (c : Ctx X P w K mg base k) (h1 : DE X K e1 f) (h2 : DE X K e2 g) (h3 : DE X K e3 h) (hN : ∀ i, (X i).N.Nodup) (hi : ∀ i, (X i).N[a]? = some x := by intro _; rfl) (hj : ∀ i, (X i).N[b]? = some y := by intro _; rfl) (hl : ∀ i, (X i).N[d]? = some z := by intro _; rfl)
    (hij : a ≠ b := by decide) (hil : a ≠ d := by decide) (hjl : b ≠ d := by decide) (hx : ∀ i, (X i).env.scope.names.lookup x = some .local := by intro _; rfl) (hy : ∀ i, (X i).env.scope.names.lookup y = some .local := by intro _; rfl) (hz : ∀ i, (X i).env.scope.names.lookup z = some .local := by intro _; rfl)
    (hw : ∀ i, swappedStores [.Tuple [.Name x px, .Name y py, .Name z pz] kt pt] (.Tuple [e1, e2, e3] k2 pt2) (X i).env = pure (some [x, y, z]) := by intro _; rfl)
    (hs : ∀ i, swapsWithSole [.Tuple [.Name x px, .Name y py, .Name z pz] kt pt] (.Tuple [e1, e2, e3] k2 pt2) pos.line (X i).env = pure false := by intro _; rfl)
    (he1 : ∀ i, starEach [e1, e2, e3] (X i).env = (false, eval e1 (X i).env) :: starEach [e2, e3] (X i).env := by intro _; rfl) (he2 : ∀ i, starEach [e2, e3] (X i).env = (false, eval e2 (X i).env) :: starEach [e3] (X i).env := by intro _; rfl) (he3 : ∀ i, starEach [e3] (X i).env = (false, eval e3 (X i).env) :: starEach [] (X i).env := by intro _; rfl) :
    DS X K (.Assign [.Tuple [.Name x px, .Name y py, .Name z pz] kt pt] (.Tuple [e1, e2, e3] k2 pt2) pos) (sPar3 a b d f g h) := by
  obtain ⟨ta, pa, ra⟩ := h1.go
  obtain ⟨tb, pb, rb⟩ := h2.go
  obtain ⟨tc, pc, rc⟩ := h3.go
  refine ⟨tPar3 a b d (tCons ta (tCons tb (tCons tc tNil))), fun i => ps_par3 (c.calm i) (hN i) (hi i) (hj i) (hl i) hij hil hjl (hx i) (hy i) (hz i) (pa_cons (pa i) (pa_cons (pb i) (pa_cons (pc i) pa_nil (he3 i)) (he2 i)) (he1 i)) (hw i) (hs i), fun σ W δ M o E w s e q => ?_⟩
  unfold sPar3 at e
  split at e
  · rename_i d1 M1 h1
    split at e
    · rename_i d2 M2 h2
      split at e
      · rename_i d3 M3 h3
        cases e
        refine ra σ W δ M d1 M1 _ w s h1 fun v W1 l1 w1 r1 => ?_
        refine rb σ W1 δ M1 d2 _ _ w1 (s.le l1) h2 fun u W2 l2 w2 r2 => ?_
        refine rc σ W2 δ M2 d3 _ _ w2 (s.le (l1.trans l2)) h3 fun t W3 l3 w3 r3 => ?_
        exact ⟨v, u, t, rfl, q _ W3 ((l1.trans l2).trans l3) w3 ((((s.le ((l1.trans l2).trans l3)).set (r1.le (l2.trans l3)) a).set (r2.le l3) b).set r3 d)⟩
      · cases e
    · cases e
  · cases e
end
/-! ### what isinstance says of an own exception -/
theorem kit_own {K : PySem.W.Frag} {Y X : Addr} {b : Bool} (hd : PySem.W.hasDictIn K X = true) (ht : PySem.W.typeIn K (.ref X) = some (.type "type")) (hy : PySem.W.subIn K (.ref Y) (.ref Y) = some true) (hs : PySem.W.subIn K (.ref Y) (.ref X) = some b) : PySem.W.kitOne K (.ref Y) (.ref X) = some b := by
  unfold PySem.W.kitOne
  by_cases e : (Value.ref Y == Value.ref X) = true
  · rw [if_pos e]
    have e2 : Y = X := Value.ref.inj (beq_iff_eq.mp e)
    subst e2
    rw [hy] at hs
    exact hs
  · rw [if_neg e]
    obtain ⟨cd, hc, _⟩ := PySem.W.any_some hd
    have c : ((PySem.W.clsIn K X).isSome && PySem.W.typeIn K (.ref X) == some (.type "type")) = true := by
      rw [hc, ht]
      rfl
    show (if ((PySem.W.clsIn K X).isSome && PySem.W.typeIn K (.ref X) == some (.type "type")) = true then PySem.W.subIn K (.ref Y) (.ref X) else none) = _
    rw [if_pos c]
    exact hs
theorem kit_bt {K : PySem.W.Frag} {Y : Addr} {T : String} {b : Bool} (hm : PySem.W.kitMeta T = true) (hs : PySem.W.subIn K (.ref Y) (.type T) = some b) : PySem.W.kitOne K (.ref Y) (.type T) = some b := by
  unfold PySem.W.kitOne
  rw [if_neg (show ¬ ((Value.ref Y == Value.type T) = true) from fun z => by have := beq_iff_eq.mp z; cases this)]
  show (if PySem.W.kitMeta T = true then PySem.W.subIn K (.ref Y) (.type T) else none) = _
  rw [if_pos hm]
  exact hs
/-! ### the law's head, its meaning told by where the classes stand -/
theorem walk_ofX {l : PySem.W.OpenLaw} {n k : Nat} {q : Program} {loose : List Str} {XP : (Str → Option Value) → Heap → Prop} {YP : World → Heap → Prop} {d : DefRec} {K : Params → PySem.W.Frag} {x : Str}
    (hn : l.most = some n) (hn2 : n ≤ sizeLine) (hdf : d.params.defaults = []) (room : Room k PySem.callerA) (hY : ∀ (w : World) (h : Heap), YP w h → (K w.params).In h)
    (hF : ∀ (w : World) (mg : Str → Option Value) (fa : Addr) (h : Heap), (K w.params).In h → h.Ns mainGlobals mg → mg d.name = some (.ref fa) →
      ∃ (fd : FuncData) (F : Fn), (∀ (s : Shared) (u : Value), BindsTo s fd ⟨[u], []⟩ [(x, u)]) ∧ (∀ base : Heap, (K w.params).In base → base.Ns mainGlobals mg → DFn l.prog w (K w.params) mg base k fa fd [x] F) ∧
        ∀ ns : List Int, ns.length ≤ n → ∃ M', F [.lsk (ns.map D.int)] [] = some (.bl true, M')) :
    PySem.W.WalkO q loose XP YP l.row.toRowW d [] (fun f vs => PySem.call f vs) :=
  Att.attach_call hn hdf fun w _ t₁ mg _ fa _ _ _ _ a us ns G Y _ _ _ hmg obj isv len gn => by
    have kin := hY w _ Y
    obtain ⟨fd, F, hb, h, tru⟩ := hF w mg fa _ kin G.T.g hmg
    exact law_callD kin G.T.g G.T.b G.T.builtins G.T.nolimit gn obj isv (Nat.le_trans len hn2) room h hb (tru ns len)
end Pl

namespace PySem
open Sem (wp)
abbrev IsZipU (h : Heap) (zp TI TO : Addr) (f0 : Value) (b : Bool) : Prop := h.get? zp = some { cls := .type "zip", data := .fields #[f0, .bool b, .bool false, .ref TI, .ref TO] }
section
variable {prog : Program} {w : World} {A : Around} {E : Value → Shared → Prop} {s : Shared} {zp TI TO i1 i2 : Addr} {fp1 fp2 : List Addr} {n1 n2 i : Nat} {P1 P2 : Nat → Value → Prop} {St1 St2 : Nat → Heap → Prop} {a1 a2 : Value}
theorem wpAny_loadAlive {M : Model} {a : Addr} {Q : Option Obj → Shared → Prop} (h : Q (s.heap.get? a) s) : wpAny M A (loadIfAlive a) Q E s := fun _ _ _ => h
theorem owned_used {T0 : Addr} {b : Bool} {Q : Bool → Shared → Prop} (hz : IsZipU s.heap zp TI TO (rawInt T0) b) (hT0 : ∃ o, s.heap.get? T0 = some o)
    (h : ∀ h', IsZipU h' zp TI TO (rawInt T0) true → Heap.SameBut zp s.heap h' → Q false { s with heap := h' }) : wpAny (model prog w) A (Builtin.SmallTypes.ownedTupleIsFree (.ref zp)) Q E s := by
  obtain ⟨hA, g, d, ta, os⟩ := s
  obtain ⟨oT, hT0⟩ := hT0
  unfold Builtin.SmallTypes.ownedTupleIsFree
  refine wpAny_bind (wpAny_field hz rfl (x := rawInt T0) rfl ?_)
  show wpAny _ _ (loadIfAlive (Int.toNat (T0 : Int)) >>= _) _ _ _
  refine wpAny_bind (wpAny_loadAlive ?_)
  rw [Int.toNat_natCast]
  show wpAny _ _ (if (Option.isNone (hA.get? T0)) = true then _ else _) _ _ _
  rw [show hA.get? T0 = some oT from hT0, if_neg (by simp)]
  refine wpAny_bind (wpAny_field hz rfl (x := .bool b) rfl ?_)
  cases b with
  | true =>
    show wpAny _ _ (pure false) _ _ _
    exact wpAny_pure (h hA hz (Heap.SameBut.refl _ _))
  | false =>
    show wpAny _ _ (setField (.ref zp) 1 (.bool true) >>= fun _ => pure false) _ _ _
    refine wpAny_bind (wpAny_setField_rec hz (by simp) fun h₁ hz₁ hs₁ => wpAny_pure ?_)
    exact h h₁ hz₁ hs₁
theorem zipU_next_item {T0 : Addr} {b : Bool} {Q : Value → Shared → Prop} (S : ZipSep2 zp TI TO i1 i2 fp1 fp2) (D1 : Draws prog w A i1 fp1 n1 P1 St1) (D2 : Draws prog w A i2 fp2 n2 P2 St2)
    (hz : IsZipU s.heap zp TI TO (rawInt T0) b) (hT0 : ∃ o, s.heap.get? T0 = some o) (iTI : IsTupOf2 s.heap TI (.ref i1) (.ref i2)) (st1 : St1 i s.heap) (st2 : St2 i s.heap) (lt1 : i < n1) (lt2 : i < n2)
    (hQ : ∀ u1 u2 h' tk, P1 i u1 → P2 i u2 → IsZipU h' zp TI TO (rawInt T0) true → St1 (i + 1) h' → St2 (i + 1) h' → IsTupOf2 h' s.heap.objs.size u1 u2 → h'.objs.size = s.heap.objs.size + 1 →
      (∀ c o, c ≠ zp → c ≠ i1 → c ≠ i2 → s.heap.get? c = some o → h'.get? c = some o) → Q (.ref s.heap.objs.size) { s with heap := h', toks := tk }) :
    wpAny (model prog w) A (Builtin.«zip.__next__» ⟨[.ref zp], []⟩) (fun fin s' => ∃ v, fin = .done (.ret v) ∧ Q v s') E s := by
  obtain ⟨hA, g, d, ta, os⟩ := s
  show wpAny _ _ (field (.ref zp) 2 >>= _) _ _ _
  refine wpAny_bind (wpAny_field hz rfl (x := .bool false) rfl ?_)
  show wpAny _ _ (field (.ref zp) 3 >>= _) _ _ _
  refine wpAny_bind (wpAny_field hz rfl (x := .ref TI) rfl ?_)
  refine wpAny_bind (wpAny_seqItems iTI rfl ?_)
  show wpAny _ _ (Builtin.SmallTypes.ownedTupleIsFree (.ref zp) >>= _) _ _ _
  refine wpAny_bind (owned_used hz hT0 fun mA hz0 sbA => ?_)
  replace sbA : Heap.SameBut zp hA mA := sbA
  rw [if_neg Bool.false_ne_true]
  refine wpAny_bind ?_
  simp only [← Array.forIn_toList, List.forIn_cons, List.forIn_nil]
  refine wpAny_bind (wpAny_bind (wpAny_holding ?_))
  show wpAny _ _ (Builtin.SmallTypes.nextOf (.ref i1) >>= _) _ _ ⟨mA, g, d, ta, os⟩
  refine wpAny_bind (D1.item i _ _ _ lt1 (D1.over st1 sbA S.zf1) fun u1 p1 tk1 hx1 sn1 hp1 => wpAny_pure ?_)
  replace hp1 : Heap.SameBut i1 mA p1 := hp1
  refine wpAny_pure ?_
  dsimp only
  refine wpAny_bind (wpAny_bind (wpAny_holding ?_))
  show wpAny _ _ (Builtin.SmallTypes.nextOf (.ref i2) >>= _) _ _ ⟨p1, g, d, tk1, os⟩
  refine wpAny_bind (D2.item i _ _ _ lt2 (D2.over (D2.over st2 sbA S.zf2) hp1 S.sep1_2) fun u2 p2 tk2 hx2 sn2 hp2 => wpAny_pure ?_)
  replace hp2 : Heap.SameBut i2 p1 p2 := hp2
  refine wpAny_pure ?_
  dsimp only
  refine wpAny_pure ?_
  dsimp only
  refine wpAny_bind (wpAny_newTuple ?_ (by show (2 : Nat) ≤ sizeLine; decide))
  have hsz : p2.objs.size = hA.objs.size := by rw [hp2.1, hp1.1, sbA.1]
  have hzz : IsZipU p2 zp TI TO (rawInt T0) true := hp2.extBut _ _ S.zi2 (hp1.extBut _ _ S.zi1 hz0)
  have hkk : ∀ c o, c ≠ zp → c ≠ i1 → c ≠ i2 → hA.get? c = some o → p2.get? c = some o := fun c o cz c1 c2 e => hp2.extBut _ _ c2 (hp1.extBut _ _ c1 (sbA.extBut _ _ cz e))
  have hj1 : St1 (i + 1) p2 := D1.over sn1 hp2 S.sep2_1
  refine wpAny_pure ⟨_, rfl, ?_⟩
  show Q (.ref p2.objs.size) ⟨p2.push { cls := .type "tuple", data := .seq #[u1, u2] }, g, d, tk2, os⟩
  rw [hsz]
  refine hQ u1 u2 _ tk2 hx1 hx2 (Heap.get?_push_of_some _ hzz) (D1.frame _ _ _ hj1 fun b hb o e => Heap.get?_push_of_some _ e) (D2.frame _ _ _ sn2 fun b hb o e => Heap.get?_push_of_some _ e) ?_ ?_ fun c o cz c1 c2 e => Heap.get?_push_of_some _ (hkk c o cz c1 c2 e)
  · show (p2.push { cls := .type "tuple", data := .seq #[u1, u2] }).get? hA.objs.size = _
    rw [← hsz]
    exact Heap.get?_push_size _ rfl
  · show (p2.push { cls := .type "tuple", data := .seq #[u1, u2] }).objs.size = hA.objs.size + 1
    rw [Heap.size_push, hsz]
theorem zipU_next_end {T0 : Addr} {b : Bool} {Q : Fin → Shared → Prop} (S : ZipSep2 zp TI TO i1 i2 fp1 fp2) (D1 : Draws prog w A i1 fp1 n1 P1 St1) (D2 : Draws prog w A i2 fp2 n2 P2 St2)
    (hz : IsZipU s.heap zp TI TO (rawInt T0) b) (hT0 : ∃ o, s.heap.get? T0 = some o) (iTI : IsTupOf2 s.heap TI (.ref i1) (.ref i2)) (st1 : St1 i s.heap) (st2 : St2 i s.heap) (hle1 : i ≤ n1) (hle2 : i ≤ n2) (hend : i = n1 ∨ i = n2)
    (hE : ∀ h' tk e, (∀ c o, c ≠ zp → c ≠ i1 → c ≠ i2 → s.heap.get? c = some o → h'.get? c = some o) → (∃ o, h'.get? e = some o ∧ o.cls = .type "StopIteration") → E (.ref e) { s with heap := h', toks := tk }) :
    wpAny (model prog w) A (Builtin.«zip.__next__» ⟨[.ref zp], []⟩) Q E s := by
  obtain ⟨hA, g, d, ta, os⟩ := s
  show wpAny _ _ (field (.ref zp) 2 >>= _) _ _ _
  refine wpAny_bind (wpAny_field hz rfl (x := .bool false) rfl ?_)
  show wpAny _ _ (field (.ref zp) 3 >>= _) _ _ _
  refine wpAny_bind (wpAny_field hz rfl (x := .ref TI) rfl ?_)
  refine wpAny_bind (wpAny_seqItems iTI rfl ?_)
  show wpAny _ _ (Builtin.SmallTypes.ownedTupleIsFree (.ref zp) >>= _) _ _ _
  refine wpAny_bind (owned_used hz hT0 fun mA hz0 sbA => ?_)
  replace sbA : Heap.SameBut zp hA mA := sbA
  rw [if_neg Bool.false_ne_true]
  refine wpAny_bind ?_
  simp only [← Array.forIn_toList, List.forIn_cons, List.forIn_nil]
  refine wpAny_bind (wpAny_bind (wpAny_holding ?_))
  show wpAny _ _ (Builtin.SmallTypes.nextOf (.ref i1) >>= _) _ _ ⟨mA, g, d, ta, os⟩
  by_cases lt1 : i < n1
  · refine wpAny_bind (D1.item i _ _ _ lt1 (D1.over st1 sbA S.zf1) fun u1 p1 tk1 hx1 sn1 hp1 => wpAny_pure ?_)
    replace hp1 : Heap.SameBut i1 mA p1 := hp1
    refine wpAny_pure ?_
    dsimp only
    have hi2 : i = n2 := by omega
    refine wpAny_bind (wpAny_bind (wpAny_holding ?_))
    show wpAny _ _ (Builtin.SmallTypes.nextOf (.ref i2) >>= _) _ _ ⟨p1, g, d, tk1, os⟩
    refine wpAny_bind (D2.done ⟨p1, g, d, tk1, os⟩ _ _ (by rw [← hi2]; exact (D2.over (D2.over st2 sbA S.zf2) hp1 S.sep1_2)) fun q e hq he => ?_)
    replace hq : Heap.ExtBut i2 p1 q := hq
    exact hE q tk1 e (fun c o cz c1 c2 x => hq _ _ c2 (hp1.extBut _ _ c1 (sbA.extBut _ _ cz x))) he
  · have hi1 : i = n1 := by omega
    refine wpAny_bind (D1.done ⟨mA, g, d, ta, os⟩ _ _ (by rw [← hi1]; exact (D1.over st1 sbA S.zf1)) fun q e hq he => ?_)
    replace hq : Heap.ExtBut i1 mA q := hq
    exact hE q ta e (fun c o cz c1 c2 x => hq _ _ c1 (sbA.extBut _ _ cz x)) he
/-- the next one of a zip whose last tuple is kept -/
theorem zipU_pyNext_item {T0 : Addr} {b : Bool} {Q : Option Value → Shared → Prop} (S : ZipSep2 zp TI TO i1 i2 fp1 fp2) (D1 : Draws prog w A.in1 i1 fp1 n1 P1 St1) (D2 : Draws prog w A.in1 i2 fp2 n2 P2 St2)
    (hz : IsZipU s.heap zp TI TO (rawInt T0) b) (hT0 : ∃ o, s.heap.get? T0 = some o) (iTI : IsTupOf2 s.heap TI (.ref i1) (.ref i2)) (st1 : St1 i s.heap) (st2 : St2 i s.heap) (lt1 : i < n1) (lt2 : i < n2)
    (hQ : ∀ u1 u2 h' tk, P1 i u1 → P2 i u2 → IsZipU h' zp TI TO (rawInt T0) true → St1 (i + 1) h' → St2 (i + 1) h' → IsTupOf2 h' s.heap.objs.size u1 u2 → h'.objs.size = s.heap.objs.size + 1 →
      (∀ c o, c ≠ zp → c ≠ i1 → c ≠ i2 → s.heap.get? c = some o → h'.get? c = some o) → Q (some (.ref s.heap.objs.size)) { s with heap := h', toks := tk }) :
    wpAny (model prog w) A (pyNext (.ref zp)) Q E s := by
  have tyZ : s.TypeIs (.ref zp) "zip" := ⟨_, hz, rfl⟩
  unfold pyNext
  exact wpAny_bind (wpAny_attempt (wpAny_callSpecial?_slot (name := Str.ofString "__next__") tyZ F.slot_zip_next
    (wpAny_call_entry F.slot_zip_next tyZ F.entry_zip_next
      (zipU_next_item S D1 D2 hz hT0 iTI st1 st2 lt1 lt2 fun u1 u2 h' tk a1 a2 a3 a4 a5 a6 a7 a8 => wpAny_pure (hQ u1 u2 h' tk a1 a2 a3 a4 a5 a6 a7 a8)) (F.args_zip_next_1 _))))
theorem zipU_pyNext_end {T0 : Addr} {b : Bool} {Q : Option Value → Shared → Prop} (S : ZipSep2 zp TI TO i1 i2 fp1 fp2) (D1 : Draws prog w A.in1 i1 fp1 n1 P1 St1) (D2 : Draws prog w A.in1 i2 fp2 n2 P2 St2)
    (hz : IsZipU s.heap zp TI TO (rawInt T0) b) (hT0 : ∃ o, s.heap.get? T0 = some o) (iTI : IsTupOf2 s.heap TI (.ref i1) (.ref i2)) (st1 : St1 i s.heap) (st2 : St2 i s.heap) (hle1 : i ≤ n1) (hle2 : i ≤ n2) (hend : i = n1 ∨ i = n2)
    (hQ : ∀ h' tk, (∀ c o, c ≠ zp → c ≠ i1 → c ≠ i2 → s.heap.get? c = some o → h'.get? c = some o) → Q none { s with heap := h', toks := tk }) : wpAny (model prog w) A (pyNext (.ref zp)) Q E s := by
  have tyZ : s.TypeIs (.ref zp) "zip" := ⟨_, hz, rfl⟩
  unfold pyNext
  refine wpAny_bind (wpAny_attempt (wpAny_callSpecial?_slot (name := Str.ofString "__next__") tyZ F.slot_zip_next
    (wpAny_call_entry F.slot_zip_next tyZ F.entry_zip_next (zipU_next_end S D1 D2 hz hT0 iTI st1 st2 hle1 hle2 hend fun h' tk e hk he => ?_) (F.args_zip_next_1 _))))
  obtain ⟨o, ho, hc⟩ := he
  refine wpAny_bind (wpAny_isInstance (T := "StopIteration") (b := true) ⟨o, ho, hc⟩ isSubtype_stop ?_)
  exact wpAny_pure (hQ _ _ hk)
theorem zipF_pyNext_item {Q : Option Value → Shared → Prop} (S : ZipSep2 zp TI TO i1 i2 fp1 fp2) (D1 : Draws prog w A.in1 i1 fp1 n1 P1 St1) (D2 : Draws prog w A.in1 i2 fp2 n2 P2 St2)
    (hz : IsZip s.heap zp TI TO .none) (iTI : IsTupOf2 s.heap TI (.ref i1) (.ref i2)) (iTO : IsTupOf2 s.heap TO a1 a2) (st1 : St1 i s.heap) (st2 : St2 i s.heap) (lt1 : i < n1) (lt2 : i < n2)
    (hQ : ∀ u1 u2 h' tk, P1 i u1 → P2 i u2 → IsZip h' zp TI TO (rawInt s.heap.objs.size) → St1 (i + 1) h' → St2 (i + 1) h' → IsTupOf2 h' s.heap.objs.size u1 u2 → h'.objs.size = s.heap.objs.size + 1 →
      (∀ c o, c ≠ zp → c ≠ TO → c ≠ i1 → c ≠ i2 → s.heap.get? c = some o → h'.get? c = some o) → Q (some (.ref s.heap.objs.size)) { s with heap := h', toks := tk }) :
    wpAny (model prog w) A (pyNext (.ref zp)) Q E s := by
  have tyZ : s.TypeIs (.ref zp) "zip" := ⟨_, hz, rfl⟩
  unfold pyNext
  exact wpAny_bind (wpAny_attempt (wpAny_callSpecial?_slot (name := Str.ofString "__next__") tyZ F.slot_zip_next
    (wpAny_call_entry F.slot_zip_next tyZ F.entry_zip_next
      (zipD2_next_item S D1 D2 hz iTI iTO st1 st2 lt1 lt2 fun u1 u2 h' tk a1 a2 a3 _ a5 a6 a7 a8 a9 => wpAny_pure (hQ u1 u2 h' tk a1 a2 a3 a5 a6 a7 a8 a9)) (F.args_zip_next_1 _))))
theorem zipF_pyNext_end {Q : Option Value → Shared → Prop} (S : ZipSep2 zp TI TO i1 i2 fp1 fp2) (D1 : Draws prog w A.in1 i1 fp1 n1 P1 St1) (D2 : Draws prog w A.in1 i2 fp2 n2 P2 St2)
    (hz : IsZip s.heap zp TI TO .none) (iTI : IsTupOf2 s.heap TI (.ref i1) (.ref i2)) (iTO : IsTupOf2 s.heap TO a1 a2) (st1 : St1 i s.heap) (st2 : St2 i s.heap) (hle1 : i ≤ n1) (hle2 : i ≤ n2) (hend : i = n1 ∨ i = n2)
    (hQ : ∀ h' tk, (∀ c o, c ≠ zp → c ≠ TO → c ≠ i1 → c ≠ i2 → s.heap.get? c = some o → h'.get? c = some o) → Q none { s with heap := h', toks := tk }) : wpAny (model prog w) A (pyNext (.ref zp)) Q E s := by
  have tyZ : s.TypeIs (.ref zp) "zip" := ⟨_, hz, rfl⟩
  unfold pyNext
  refine wpAny_bind (wpAny_attempt (wpAny_callSpecial?_slot (name := Str.ofString "__next__") tyZ F.slot_zip_next
    (wpAny_call_entry F.slot_zip_next tyZ F.entry_zip_next (zipD2_next_end S D1 D2 hz iTI iTO st1 st2 hle1 hle2 hend fun h' tk e hk he => ?_) (F.args_zip_next_1 _))))
  obtain ⟨o, ho, hc⟩ := he
  refine wpAny_bind (wpAny_isInstance (T := "StopIteration") (b := true) ⟨o, ho, hc⟩ isSubtype_stop ?_)
  exact wpAny_pure (hQ _ _ hk)
end
end PySem

namespace PySem
open Sem (wp)
namespace F
theorem zip_no_len : typeLookup (.type "zip") "__len__" = pure none := by rw [typeLookup_type, builtinLookup_eq_fast]; kernel_rfl
theorem zip_no_hint : typeLookup (.type "zip") "__length_hint__" = pure none := by rw [typeLookup_type, builtinLookup_eq_fast]; kernel_rfl
end F
theorem addr_ne {N T a : Addr} (h : N ≤ T) (h2 : a < N) : T ≠ a := by
  intro e
  subst e
  exact absurd h2 (Nat.not_lt.mpr h)
/-- a zip that has given i tuples, all kept -/
structure ZS (zp TI TO i1 i2 : Addr) (P1 P2 : Nat → Value → Prop) (St1 St2 : Nat → Heap → Prop) (N : Nat) (h : Heap) (i : Nat) (Ts : List Addr) : Prop where
  len : Ts.length = i
  zip : (i = 0 ∧ IsZip h zp TI TO .none) ∨ (0 < i ∧ ∃ (T0 : Addr) (b : Bool), IsZipU h zp TI TO (rawInt T0) b ∧ T0 ∈ Ts)
  ti : IsTupOf2 h TI (.ref i1) (.ref i2)
  to : i = 0 → ∃ a1 a2, IsTupOf2 h TO a1 a2
  st1 : St1 i h
  st2 : St2 i h
  tup : ∀ j T, Ts[j]? = some T → ∃ u1 u2, P1 j u1 ∧ P2 j u2 ∧ IsTupOf2 h T u1 u2
  new : ∀ T ∈ Ts, N ≤ T
  nd : Ts.Nodup
section
variable {prog : Program} {w : World} {A : Around} {R : Result → Shared → Prop} {zp TI TO i1 i2 : Addr} {fp1 fp2 : List Addr} {n1 n2 : Nat} {P1 P2 : Nat → Value → Prop} {St1 St2 : Nat → Heap → Prop}
theorem ZS.frame (D1 : Draws prog w A i1 fp1 n1 P1 St1) (D2 : Draws prog w A i2 fp2 n2 P2 St2) {N : Nat} {h h' : Heap} {i : Nat} {Ts : List Addr} {L : Addr} (x : ZS zp TI TO i1 i2 P1 P2 St1 St2 N h i Ts) (hL : L ∉ zp :: TI :: TO :: (fp1 ++ fp2)) (hN : L < N) (k : ∀ b o, b ≠ L → h.get? b = some o → h'.get? b = some o) : ZS zp TI TO i1 i2 P1 P2 St1 St2 N h' i Ts := by
  have ne : ∀ b, b ∈ zp :: TI :: TO :: (fp1 ++ fp2) → b ≠ L := fun b hb e => hL (e ▸ hb)
  refine ⟨x.len, ?_, k _ _ (ne TI (by simp)) x.ti, fun e => ?_, D1.frame _ _ _ x.st1 fun b hb o e => k b o (ne b (by simp [hb])) e, D2.frame _ _ _ x.st2 fun b hb o e => k b o (ne b (by simp [hb])) e, fun j T e => ?_, x.new, x.nd⟩
  · rcases x.zip with ⟨e, y⟩ | ⟨e, T0, b, y, m⟩
    · exact .inl ⟨e, k _ _ (ne zp (by simp)) y⟩
    · exact .inr ⟨e, T0, b, k _ _ (ne zp (by simp)) y, m⟩
  · obtain ⟨a1, a2, y⟩ := x.to e
    exact ⟨a1, a2, k _ _ (ne TO (by simp)) y⟩
  · obtain ⟨u1, u2, p1, p2, y⟩ := x.tup j T e
    exact ⟨u1, u2, p1, p2, k _ _ (addr_ne (x.new T (List.mem_of_getElem? e)) hN) y⟩
theorem zip_loop (S : ZipSep2 zp TI TO i1 i2 fp1 fp2) (D1 : Draws prog w A.in1.in1 i1 fp1 n1 P1 St1) (D2 : Draws prog w A.in1.in1 i2 fp2 n2 P2 St2) (hn : min n1 n2 ≤ sizeLine) {N : Nat} (L : Addr) (hL : L ∉ zp :: TI :: TO :: (fp1 ++ fp2)) (hLN : L < N) (hf : ∀ b ∈ zp :: TI :: TO :: (fp1 ++ fp2), b < N) (res : Value) :
    ∀ (k i : Nat) (s : Shared) (Ts : List Addr) (c : Nat), min n1 n2 - i = k → i ≤ min n1 n2 → N ≤ s.heap.objs.size → ZS zp TI TO i1 i2 P1 P2 St1 St2 N s.heap i Ts → s.heap.get? L = some { cls := .type "list", dict := none, data := .seq (Ts.map Value.ref).toArray c, slots := #[] } →
    (∀ h' tk (Ts' : List Addr) c', (∀ b o, b ≠ L → b ≠ zp → b ≠ TO → b ≠ i1 → b ≠ i2 → s.heap.get? b = some o → h'.get? b = some o) → h'.get? L = some { cls := .type "list", dict := none, data := .seq (Ts'.map Value.ref).toArray c', slots := #[] } → Ts'.length = min n1 n2 →
      (∀ j T, Ts'[j]? = some T → ∃ u1 u2, P1 j u1 ∧ P2 j u2 ∧ IsTupOf2 h' T u1 u2) → (∀ T ∈ Ts', N ≤ T) → Ts'.Nodup → R (.ok (.ret res)) { s with heap := h', toks := tk }) →
    codeAny (model prog w) A (.builtin "list.extend.loop" ⟨[.ref L, .ref zp, res], []⟩) R s := by
  have ne : ∀ b, b ∈ zp :: TI :: TO :: (fp1 ++ fp2) → b ≠ L := fun b hb e => hL (e ▸ hb)
  have nz := ne zp (by simp)
  have nTO := ne TO (by simp)
  have n1' := ne i1 (by simp [S.mem1])
  have n2' := ne i2 (by simp [S.mem2])
  have zN := hf zp (by simp)
  have TON := hf TO (by simp)
  have TIN := hf TI (by simp)
  have i1N := hf i1 (by simp [S.mem1])
  have i2N := hf i2 (by simp [S.mem2])
  intro k
  induction k with
  | zero =>
    intro i s Ts c hk hi hs Z hS hR
    have hin : i = min n1 n2 := by omega
    refine codeAny_builtin F.entry_extend_loop ?_
    rw [Around.under_plainId F.plain_extend_loop _]
    show wpAny _ A.in1 (pyNext (.ref zp) >>= _) _ _ s
    have fin : ∀ h' tk, (∀ c o, c ≠ zp → c ≠ TO → c ≠ i1 → c ≠ i2 → s.heap.get? c = some o → h'.get? c = some o) → R (.ok (.ret res)) { s with heap := h', toks := tk } := fun h' tk hk' => by
      refine hR h' tk Ts c (fun b o _ a1 a2 a3 a4 e => hk' b o a1 a2 a3 a4 e) (hk' L _ nz.symm nTO.symm n1'.symm n2'.symm hS) (by rw [Z.len, hin]) (fun j T e => ?_) Z.new Z.nd
      obtain ⟨u1, u2, p1, p2, y⟩ := Z.tup j T e
      have := Z.new T (List.mem_of_getElem? e)
      exact ⟨u1, u2, p1, p2, hk' T _ (addr_ne this zN) (addr_ne this TON) (addr_ne this i1N) (addr_ne this i2N) y⟩
    rcases Z.zip with ⟨e, y⟩ | ⟨e, T0, b, y, m⟩
    · obtain ⟨a1, a2, t⟩ := Z.to e
      exact wpAny_bind (zipF_pyNext_end S D1 D2 y Z.ti t Z.st1 Z.st2 (by omega) (by omega) (by omega) fun h' tk hk' => wpAny_pure (fin h' tk hk'))
    · obtain ⟨j, hj⟩ := List.getElem?_of_mem m
      obtain ⟨u1, u2, _, _, t⟩ := Z.tup j T0 hj
      exact wpAny_bind (zipU_pyNext_end S D1 D2 y ⟨_, t⟩ Z.ti Z.st1 Z.st2 (by omega) (by omega) (by omega) fun h' tk hk' => wpAny_pure (fin h' tk fun c o a1 _ a3 a4 e => hk' c o a1 a3 a4 e))
  | succ k ih =>
    intro i s Ts c hk hi hs Z hS hR
    have lt1 : i < n1 := by omega
    have lt2 : i < n2 := by omega
    refine codeAny_builtin F.entry_extend_loop ?_
    rw [Around.under_plainId F.plain_extend_loop _]
    show wpAny _ A.in1 (pyNext (.ref zp) >>= _) _ _ s
    have go : ∀ u1 u2 h' tk, P1 i u1 → P2 i u2 → (∃ (T0 : Addr) (b : Bool), IsZipU h' zp TI TO (rawInt T0) b ∧ T0 ∈ Ts ++ [s.heap.objs.size]) → St1 (i + 1) h' → St2 (i + 1) h' → IsTupOf2 h' s.heap.objs.size u1 u2 → h'.objs.size = s.heap.objs.size + 1 → (∀ c o, c ≠ zp → c ≠ TO → c ≠ i1 → c ≠ i2 → s.heap.get? c = some o → h'.get? c = some o) →
        wpAny (model prog w) A.in1 (updateSeq L (·.push (.ref s.heap.objs.size)) >>= fun _ => again (.builtin "list.extend.loop" ⟨[.ref L, .ref zp, res], []⟩)) (fun fin s' => match fin with | .done f => R (.ok f) s' | .again c' => c'.quiet = true ∧ codeAny (model prog w) A c' R s') (fun e s' => R (.error e) s') { s with heap := h', toks := tk } := fun u1 u2 h' tk q1 q2 qz q3 q4 qt qs qk => by
      have hS' := qk L _ nz.symm nTO.symm n1'.symm n2'.symm hS
      have Z' : ZS zp TI TO i1 i2 P1 P2 St1 St2 N h' (i + 1) (Ts ++ [s.heap.objs.size]) := by
        refine ⟨by rw [List.length_append, Z.len]; rfl, .inr ⟨by omega, qz⟩, qk _ _ S.TIz S.TITO S.TIi1 S.TIi2 Z.ti, fun e => by omega, q3, q4, fun j T e => ?_, fun T tyZ => ?_, ?_⟩
        · by_cases hj : j < Ts.length
          · rw [List.getElem?_append_left hj] at e
            obtain ⟨y1, y2, p1, p2, y⟩ := Z.tup j T e
            have := Z.new T (List.mem_of_getElem? e)
            exact ⟨y1, y2, p1, p2, qk T _ (addr_ne this zN) (addr_ne this TON) (addr_ne this i1N) (addr_ne this i2N) y⟩
          · have ej : j = Ts.length := by
              have := (List.getElem?_eq_some_iff.mp e).1
              rw [List.length_append] at this
              simp at this
              omega
            subst ej
            rw [List.getElem?_append_right (Nat.le_refl _)] at e
            simp at e
            subst e
            rw [Z.len]
            exact ⟨u1, u2, q1, q2, qt⟩
        · rcases List.mem_append.mp tyZ with h | h
          · exact Z.new T h
          · rw [List.mem_singleton.mp h]
            exact hs
        · refine List.nodup_append.mpr ⟨Z.nd, by simp, fun a ha b hb e => ?_⟩
          rw [List.mem_singleton.mp hb] at e
          obtain ⟨j, hj⟩ := List.getElem?_of_mem ha
          obtain ⟨y1, y2, _, _, y⟩ := Z.tup j a hj
          subst e
          exact absurd (Heap.lt_size y) (Nat.lt_irrefl _)
      refine wpAny_bind ?_
      refine wpAny_updateSeq hS' rfl (wpAny_pure ⟨plainId_quiet F.plain_extend_loop _, ih (i + 1) _ (Ts ++ [s.heap.objs.size]) (c + 1) (by omega) (by omega) ?_ (Z'.frame D1 D2 hL hLN fun b o hb e => (Heap.get?_update_other _ _ (fun h : L = b => hb h.symm)).trans e) ?_ fun h'' tk' Ts' c' k1 k2 k3 k4 k5 k6 => ?_⟩)
        (by simp [Z.len]; omega) (by simp [Z.len]; omega)
      · show N ≤ (h'.update L _).objs.size
        rw [Heap.size_update]
        omega
      · refine (Heap.get?_update_self _ hS' rfl).trans ?_
        simp [Obj.mapSeq]
      · refine hR h'' tk' Ts' c' (fun b o a0 a1 a2 a3 a4 e => k1 b o a0 a1 a2 a3 a4 ?_) k2 k3 k4 k5 k6
        exact (Heap.get?_update_other _ _ (fun h : L = b => a0 h.symm)).trans (qk b o a1 a2 a3 a4 e)
    rcases Z.zip with ⟨e, y⟩ | ⟨e, T0, b, y, m⟩
    · obtain ⟨a1, a2, t⟩ := Z.to e
      exact wpAny_bind (zipF_pyNext_item S D1 D2 y Z.ti t Z.st1 Z.st2 lt1 lt2 fun u1 u2 h' tk q1 q2 qz q3 q4 qt qs qk => go u1 u2 h' tk q1 q2 ⟨_, false, qz, by simp⟩ q3 q4 qt qs qk)
    · obtain ⟨j, hj⟩ := List.getElem?_of_mem m
      obtain ⟨y1, y2, _, _, t⟩ := Z.tup j T0 hj
      exact wpAny_bind (zipU_pyNext_item S D1 D2 y ⟨_, t⟩ Z.ti Z.st1 Z.st2 lt1 lt2 fun u1 u2 h' tk q1 q2 qz q3 q4 qt qs qk => go u1 u2 h' tk q1 q2 ⟨T0, true, qz, List.mem_append_left _ m⟩ q3 q4 qt qs fun c o a1 _ a3 a4 e => qk c o a1 a3 a4 e)
end
end PySem

namespace PySem
open Sem (wp)
section
variable {prog : Program} {w : World} {A : Around} {s : Shared} {R : Result → Shared → Prop} {zp TI TO i1 i2 : Addr} {fp1 fp2 : List Addr} {n1 n2 : Nat} {P1 P2 : Nat → Value → Prop} {St1 St2 : Nat → Heap → Prop}
theorem ZS.start {N : Nat} {h : Heap} {a1 a2 : Value} (hz : IsZip h zp TI TO .none) (iTI : IsTupOf2 h TI (.ref i1) (.ref i2)) (iTO : IsTupOf2 h TO a1 a2) (st1 : St1 0 h) (st2 : St2 0 h) : ZS zp TI TO i1 i2 P1 P2 St1 St2 N h 0 [] :=
  ⟨rfl, .inl ⟨rfl, hz⟩, iTI, fun _ => ⟨a1, a2, iTO⟩, st1, st2, fun j T e => by simp at e, fun T tyZ => by simp at tyZ, List.nodup_nil⟩
theorem wpAny_extend_zip (S : ZipSep2 zp TI TO i1 i2 fp1 fp2) (D1 : Draws prog w A.in1.in1 i1 fp1 n1 P1 St1) (D2 : Draws prog w A.in1.in1 i2 fp2 n2 P2 St2) (hn : min n1 n2 ≤ sizeLine) {N : Nat} (L : Addr) (hL : L ∉ zp :: TI :: TO :: (fp1 ++ fp2)) (hLN : L < N) (hf : ∀ b ∈ zp :: TI :: TO :: (fp1 ++ fp2), b < N) (res : Value)
    (hs : N ≤ s.heap.objs.size) (hz : IsZip s.heap zp TI TO .none) (Z : ZS zp TI TO i1 i2 P1 P2 St1 St2 N s.heap 0 []) (c₀ : Nat) (hS : s.heap.get? L = some { cls := .type "list", data := .seq #[] c₀ })
    (hR : ∀ h' tk (Ts' : List Addr) c', (∀ b o, b ≠ L → b ≠ zp → b ≠ TO → b ≠ i1 → b ≠ i2 → s.heap.get? b = some o → h'.get? b = some o) → h'.get? L = some { cls := .type "list", dict := none, data := .seq (Ts'.map Value.ref).toArray c', slots := #[] } → Ts'.length = min n1 n2 →
      (∀ j T, Ts'[j]? = some T → ∃ u1 u2, P1 j u1 ∧ P2 j u2 ∧ IsTupOf2 h' T u1 u2) → (∀ T ∈ Ts', N ≤ T) → Ts'.Nodup → R (.ok (.ret res)) { s with heap := h', toks := tk }) :
    wpAny (model prog w) A.in1 (Builtin.List.listExtendWith (.ref L) (.ref zp) res)
      (fun fin s' => match fin with | .done f => R (.ok f) s' | .again c' => c'.quiet = true ∧ codeAny (model prog w) A c' R s') (fun e s' => R (.error e) s') s := by
  have tyZ : s.TypeIs (.ref zp) "zip" := ⟨_, hz, rfl⟩
  have hLz : L ≠ zp := fun e => hL (e ▸ List.mem_cons_self)
  unfold Builtin.List.listExtendWith
  refine wpAny_bind (wpAny_typeOf tyZ ?_)
  have h1 : Builtin.List.listSameRef (.ref L) (.ref zp) = false := by simp [Builtin.List.listSameRef, hLz]
  have h2 : (Value.type "zip" == Value.type "list") = false := by decide
  have h3 : (Value.type "zip" == Value.type "tuple") = false := by decide
  simp only [h1, h2, h3, Bool.or_false, Bool.false_eq_true, if_false]
  refine wpAny_bind (wpAny_pyIter_zip hz ?_)
  refine wpAny_bind (wpAny_holding ?_)
  unfold Builtin.List.listLengthHint
  refine wpAny_bind (wpAny_specialOf tyZ F.zip_no_len ?_)
  show wpAny _ A.in1 (specialOf (Value.ref zp) (Str.ofString "__length_hint__") >>= _) _ _ _
  refine wpAny_bind (wpAny_specialOf tyZ F.zip_no_hint ?_)
  refine wpAny_pure ?_
  show wpAny _ A.in1 (rule "list.extend.makes-room" >>= fun _ => Builtin.List.listTouch (.ref L) >>= fun _ =>
    again (.builtin "list.extend.loop" ⟨[.ref L, .ref zp, res], []⟩)) _ _ _
  refine wpAny_bind (wpAny_rule ?_)
  refine wpAny_bind ?_
  show wpAny _ A.in1 (updateSeq L (·.push .none) >>= fun _ => updateSeq L (·.pop)) _ _ _
  refine wpAny_bind (wpAny_updateSeq hS rfl ?_)
  have lS₂ := Heap.get?_update_self (Obj.mapSeq (·.push Value.none)) hS rfl
  refine wpAny_updateSeq (hz := by seq_fits) lS₂ rfl ?_
  have lS₃ := Heap.get?_update_self (Obj.mapSeq (·.pop)) lS₂ rfl
  have rest_ : ∀ b o, b ≠ L → s.heap.get? b = some o → ((s.heap.update L (Obj.mapSeq (·.push Value.none))).update L (Obj.mapSeq (·.pop))).get? b = some o :=
    fun b o hb e => (Heap.get?_update_other _ _ (Ne.symm hb)).trans ((Heap.get?_update_other _ _ (Ne.symm hb)).trans e)
  refine wpAny_pure ⟨plainId_quiet F.plain_extend_loop _, zip_loop S D1 D2 hn L hL hLN hf res _ 0 _ [] _ rfl (Nat.zero_le _) ?_ (Z.frame D1 D2 hL hLN fun b o hb e => rest_ b o hb e) lS₃ fun h' tk Ts' c' k1 k2 k3 k4 k5 k6 => ?_⟩
  · show N ≤ ((s.heap.update L _).update L _).objs.size
    rw [Heap.size_update, Heap.size_update]
    exact hs
  · exact hR h' tk Ts' c' (fun b o a0 a1 a2 a3 a4 e => k1 b o a0 a1 a2 a3 a4 (rest_ b o a0 e)) k2 k3 k4 k5 k6
theorem wpAny_list_init_zip (S : ZipSep2 zp TI TO i1 i2 fp1 fp2) (D1 : Draws prog w A.in1.in1 i1 fp1 n1 P1 St1) (D2 : Draws prog w A.in1.in1 i2 fp2 n2 P2 St2) (hn : min n1 n2 ≤ sizeLine) {N : Nat} (L : Addr) (hL : L ∉ zp :: TI :: TO :: (fp1 ++ fp2)) (hLN : L < N) (hf : ∀ b ∈ zp :: TI :: TO :: (fp1 ++ fp2), b < N)
    (hs : N ≤ s.heap.objs.size) (hz : IsZip s.heap zp TI TO .none) (Z : ZS zp TI TO i1 i2 P1 P2 St1 St2 N s.heap 0 []) (hS : s.heap.get? L = some { cls := .type "list", data := .seq #[] })
    (hR : ∀ h' tk (Ts' : List Addr) c', (∀ b o, b ≠ L → b ≠ zp → b ≠ TO → b ≠ i1 → b ≠ i2 → s.heap.get? b = some o → h'.get? b = some o) → h'.get? L = some { cls := .type "list", dict := none, data := .seq (Ts'.map Value.ref).toArray c', slots := #[] } → Ts'.length = min n1 n2 →
      (∀ j T, Ts'[j]? = some T → ∃ u1 u2, P1 j u1 ∧ P2 j u2 ∧ IsTupOf2 h' T u1 u2) → (∀ T ∈ Ts', N ≤ T) → Ts'.Nodup → R (.ok (.ret .none)) { s with heap := h', toks := tk }) :
    wpAny (model prog w) A.in1 (Builtin.«list.__init__» ⟨[.ref L, .ref zp], []⟩)
      (fun fin s' => match fin with | .done f => R (.ok f) s' | .again c' => c'.quiet = true ∧ codeAny (model prog w) A c' R s') (fun e s' => R (.error e) s') s := by
  show wpAny _ A.in1 (do let old ← Builtin.List.listItems (.ref L); Builtin.List.listUpdate (.ref L) (fun _ => #[]); letGo old.toList.reverse; Builtin.List.listExtendWith (.ref L) (.ref zp) .none) _ _ s
  refine wpAny_bind ?_
  unfold Builtin.List.listItems
  refine wpAny_bind (wpAny_seqItems hS rfl (wpAny_pure ?_))
  show wpAny _ A.in1 (updateSeq L (fun _ => #[]) >>= fun _ => letGo (#[] : Array Value).toList.reverse >>= fun _ => Builtin.List.listExtendWith (.ref L) (.ref zp) .none) _ _ s
  refine wpAny_bind (wpAny_updateSeq hS rfl ?_)
  have lS₂ := Heap.get?_update_self (Obj.mapSeq (fun _ => (#[] : Array Value))) hS rfl
  have rest_ : ∀ b o, b ≠ L → s.heap.get? b = some o → (s.heap.update L (Obj.mapSeq (fun _ => (#[] : Array Value)))).get? b = some o :=
    fun b o hb e => (Heap.get?_update_other _ _ (Ne.symm hb)).trans e
  have hLz : zp ≠ L := fun e => hL (e ▸ List.mem_cons_self)
  refine wpAny_bind (wpAny_letGo ?_)
  refine wpAny_extend_zip S D1 D2 hn L hL hLN hf .none ?_ (rest_ _ _ hLz hz) (Z.frame D1 D2 hL hLN fun b o hb e => rest_ b o hb e) _ lS₂ fun h' tk Ts' c' k1 k2 k3 k4 k5 k6 => ?_
  · show N ≤ (s.heap.update L _).objs.size
    rw [Heap.size_update]
    exact hs
  · exact hR h' tk Ts' c' (fun b o a0 a1 a2 a3 a4 e => k1 b o a0 a1 a2 a3 a4 (rest_ b o a0 e)) k2 k3 k4 k5 k6
theorem call_list_zip {E : Value → Shared → Prop} {Q : Value → Shared → Prop} (S : ZipSep2 zp TI TO i1 i2 fp1 fp2) (D1 : Draws prog w A.in1.in1.in1 i1 fp1 n1 P1 St1) (D2 : Draws prog w A.in1.in1.in1 i2 fp2 n2 P2 St2) (hn : min n1 n2 ≤ sizeLine) (hf : ∀ b ∈ zp :: TI :: TO :: (fp1 ++ fp2), b < s.heap.objs.size)
    {a1 a2 : Value} (hz : IsZip s.heap zp TI TO .none) (iTI : IsTupOf2 s.heap TI (.ref i1) (.ref i2)) (iTO : IsTupOf2 s.heap TO a1 a2) (st1 : St1 0 s.heap) (st2 : St2 0 s.heap)
    (hQ : ∀ h' tk (Ts' : List Addr) c', (∀ b o, b ≠ zp → b ≠ TO → b ≠ i1 → b ≠ i2 → s.heap.get? b = some o → h'.get? b = some o) → h'.get? s.heap.objs.size = some { cls := .type "list", dict := none, data := .seq (Ts'.map Value.ref).toArray c', slots := #[] } → Ts'.length = min n1 n2 →
      (∀ j T, Ts'[j]? = some T → ∃ u1 u2, P1 j u1 ∧ P2 j u2 ∧ IsTupOf2 h' T u1 u2) → (∀ T ∈ Ts', s.heap.objs.size + 1 ≤ T) → Ts'.Nodup → Q (.ref s.heap.objs.size) { s with heap := h', toks := tk }) :
    wpAny (model prog w) A (call (.type "list") [.ref zp]) Q E s := by
  refine callType_codes (Q₁ := fun obj s₁ => obj = .ref s.heap.objs.size ∧ s₁ = { s with heap := s.heap.push { cls := .type "list", data := .seq #[] } }) F.called_list (F.typeCall_list_1 _) F.entry_list_init
    (code_list_new _ ⟨rfl, rfl⟩) fun obj s₁ h₁ => ?_
  obtain ⟨rfl, rfl⟩ := h₁
  have hS : (s.heap.push { cls := .type "list", data := .seq #[] }).get? s.heap.objs.size = some { cls := .type "list", data := .seq #[] } := Heap.get?_push_size _ rfl
  have up : ∀ b o, s.heap.get? b = some o → (s.heap.push { cls := .type "list", data := .seq #[] }).get? b = some o := fun b o e => Heap.get?_push_of_some _ e
  have hL : s.heap.objs.size ∉ zp :: TI :: TO :: (fp1 ++ fp2) := fun h => absurd (hf _ h) (Nat.lt_irrefl _)
  refine ⟨⟨_, hS, rfl⟩, F.args_list_init_2 _ _, wpAny_list_init_zip (N := s.heap.objs.size + 1) S D1 D2 hn _ hL (Nat.lt_succ_self _) (fun b hb => Nat.lt_succ_of_lt (hf b hb)) ?_ (up _ _ hz) ?_ hS fun h' tk Ts' c' k1 k2 k3 k4 k5 k6 => ⟨rfl, ?_⟩⟩
  · show s.heap.objs.size + 1 ≤ (s.heap.push _).objs.size
    rw [Heap.size_push]
    exact Nat.le_refl _
  · exact ZS.start (up _ _ hz) (up _ _ iTI) (up _ _ iTO) (D1.frame _ _ _ st1 fun b _ o e => up b o e) (D2.frame _ _ _ st2 fun b _ o e => up b o e)
  · exact hQ h' tk Ts' c' (fun b o a1 a2 a3 a4 e => k1 b o (fun e' => by
      subst e'
      exact absurd (Heap.lt_size e) (Nat.lt_irrefl _)) a1 a2 a3 a4 (up b o e)) k2 k3 k4 k5 k6
end
end PySem

/-! PlZ: list(zip(a, b)) -/
namespace Pl
open PySem PySem.Spec PyProof.Rows L2
/-- each pair told at its address -/
def putZ : Hp → List Addr → List (V × V) → Hp
  | H, a :: as, p :: ps => putZ (upd H a (.tup [p.1, p.2])) as ps
  | H, _, _ => H
theorem putZ_off {b : Addr} : ∀ (as : List Addr) (ps : List (V × V)) (H : Hp), b ∉ as → putZ H as ps b = H b
  | [], _, _, _ => rfl
  | _ :: _, [], _, _ => rfl
  | a :: as, p :: ps, H, h => by
    show putZ (upd H a (.tup [p.1, p.2])) as ps b = H b
    rw [putZ_off as ps _ (fun z => h (List.mem_cons_of_mem _ z)), upd_ne (fun z => h (by rw [z]; exact List.mem_cons_self))]
theorem putZ_at : ∀ (as : List Addr) (ps : List (V × V)) (H : Hp), as.length = ps.length → as.Nodup → ∀ t ∈ as, ∃ (j : Nat) (p : V × V), as[j]? = some t ∧ ps[j]? = some p ∧ putZ H as ps t = some (.tup [p.1, p.2])
  | [], _, _, _, _, t, ht => by simp at ht
  | _ :: _, [], _, h, _, _, _ => by cases h
  | a :: as, p :: ps, H, h, hn, t, ht => by
    have ndA := List.nodup_cons.mp hn
    rcases List.mem_cons.mp ht with e | ht'
    · subst e
      refine ⟨0, p, rfl, rfl, ?_⟩
      show putZ (upd H t (.tup [p.1, p.2])) as ps t = some (.tup [p.1, p.2])
      rw [putZ_off as ps _ ndA.1, upd_same]
    · obtain ⟨j, q, e1, e2, e3⟩ := putZ_at as ps (upd H a (.tup [p.1, p.2])) (Nat.succ.inj h) ndA.2 t ht'
      exact ⟨j + 1, q, by simpa using e1, by simpa using e2, e3⟩
def rZipL (K : PySem.W.Frag) : List V → Hp → VK → Prop := fun vs H Q => ∃ (a b : Addr) (xs ys : List V), vs = [.ref a, .ref b] ∧ ((SqL K H a xs ∧ SqL K H b ys) ∨ (SqT K H a xs ∧ SqT K H b ys)) ∧
  ∀ (p : Addr) (ts : List Addr), H p = none → (∀ t ∈ ts, H t = none) → ts.Nodup → p ∉ ts → ts.length = (xs.zip ys).length → Q (.ref p) (upd (putZ H ts (xs.zip ys)) p (.lst (ts.map V.ref)))
def tZipL (K : PySem.W.Frag) (ta : TA) : TE := fun σ H Q => ta σ H fun vs H1 => rZipL K vs H1 Q
theorem valsZ_refs : ∀ as : List Addr, Vals (as.map V.ref) (as.map Value.ref)
  | [] => .nil
  | _ :: as => .cons rfl (valsZ_refs as)
theorem vals_get : ∀ {xs : List V} {us : List Value}, Vals xs us → ∀ {j : Nat} {u : Value}, us[j]? = some u → ∃ x, xs[j]? = some x ∧ RelV x u
  | _, _, .nil, j, u, h => by simp at h
  | _, _, .cons r t, 0, u, h => by
    simp at h
    subst h
    exact ⟨_, rfl, r⟩
  | _, _, .cons r t, j + 1, u, h => by
    obtain ⟨x, e1, e2⟩ := vals_get t (j := j) (by simpa using h)
    exact ⟨x, by simpa using e1, e2⟩
theorem nin2 (x a b : Nat) (h1 : x ≠ a) (h2 : x ≠ b) : x ∉ [a, b] := fun h => by
  rcases List.mem_cons.mp h with e | h
  · exact h1 e
  · exact h2 (List.mem_singleton.mp h)
theorem zip_sep (n a b : Nat) (la : a < n) (lb : b < n) : ZipSep2 (n + 4) (n + 2) (n + 3) n (n + 1) [n, a] [n + 1, b] :=
  ⟨show (n + 2 : Nat) ≠ n + 4 by omega, show (n + 3 : Nat) ≠ n + 4 by omega, show (n + 2 : Nat) ≠ n + 3 by omega, show (n + 2 : Nat) ≠ n by omega, List.mem_cons_self, nin2 _ _ _ (by omega) (by omega), nin2 _ _ _ (by omega) (by omega),
    show (n + 2 : Nat) ≠ n + 1 by omega, List.mem_cons_self, nin2 _ _ _ (by omega) (by omega), nin2 _ _ _ (by omega) (by omega), nin2 _ _ _ (by omega) (by omega), nin2 _ _ _ (by omega) (by omega)⟩
theorem zip_lt (n a : Nat) (la : a < n) : ∀ b ∈ [n, a], b < n + 5 := fun b h => by
  rcases List.mem_cons.mp h with e | h
  · rw [e]
    omega
  · rw [List.mem_singleton.mp h]
    omega
theorem zip_lt1 (n a : Nat) (la : a < n) : ∀ b ∈ [n + 1, a], b < n + 5 := fun b h => by
  rcases List.mem_cons.mp h with e | h
  · rw [e]
    omega
  · rw [List.mem_singleton.mp h]
    omega
section
variable {X : Cx}
theorem zip_laid {pins : List (Addr × Obj)} {σ : L2.St} {H : Hp} {s : Shared} {h' : Heap} {tk : Nat} {xs ys : List V} {us vs : List Value} {c : Nat} {L : Addr} {as : List Addr} (I : Inv X pins σ H s) (hz : (xs.zip ys).length ≤ sizeLine) (kx : Vals xs us) (ky : Vals ys vs)
    (hk : ∀ b o, s.heap.get? b = some o → h'.get? b = some o) (hL : s.heap.objs.size ≤ L) (hS : h'.get? L = some { cls := .type "list", dict := none, data := .seq (as.map Value.ref).toArray c, slots := #[] }) (hl : as.length = (xs.zip ys).length)
    (ht : ∀ (j : Nat) (T : Addr), as[j]? = some T → ∃ x1 x2, us[j]? = some x1 ∧ vs[j]? = some x2 ∧ IsTupOf2 h' T x1 x2) (hT : ∀ T ∈ as, s.heap.objs.size ≤ T ∧ T ≠ L) (nd : as.Nodup) :
    H L = none ∧ (∀ t ∈ as, H t = none) ∧ L ∉ as ∧ Inv X pins σ (upd (putZ H as (xs.zip ys)) L (.lst (as.map V.ref))) { s with heap := h', toks := tk } := by
  have hSn : L ∉ as := fun z => (hT _ z).2 rfl
  have newA : ∀ t ∈ as, H t = none := fun t ht => I.hok.fresh (hT t ht).1
  have newL : H L = none := I.hok.fresh hL
  have atP := putZ_at as (xs.zip ys) H hl nd
  have offA : ∀ b, b ∉ as → b ≠ L → (upd (putZ H as (xs.zip ys)) L (.lst (as.map V.ref))) b = H b := fun b h1 h2 => by rw [upd_ne h2, putZ_off as _ _ h1]
  have lowA : ∀ b o, s.heap.get? b = some o → b ∉ as ∧ b ≠ L := fun b o e => ⟨fun z => absurd (Heap.lt_size e) (Nat.not_lt.mpr (hT b z).1), fun z => absurd (Heap.lt_size e) (Nat.not_lt.mpr (z ▸ hL))⟩
  have keepA : ∀ b u, H b = some u → (upd (putZ H as (xs.zip ys)) L (.lst (as.map V.ref))) b = some u := fun b u e => by
    rw [offA b (fun z => by rw [newA b z] at e; cases e) (fun z => by rw [z, newL] at e; cases e)]
    exact e
  have eS : (upd (putZ H as (xs.zip ys)) L (.lst (as.map V.ref))) L = some (.lst (as.map V.ref)) := upd_same
  refine ⟨newL, newA, hSn, ?_⟩
  refine I.call' (ch := []) rfl ⟨fun b o q _ _ _ => hk b o q, fun b o q _ _ _ => ⟨o.slots, hk b o q⟩, fun b o q n _ => ?_, fun b o q _ => ⟨o, hk b o q⟩, fun b xs q => keepA b _ q, fun b o u q => keepA b _ q, fun b ps q => ⟨#[], by rw [keepA b _ q]; simp⟩⟩ (fun b u q => ?_) I.bare fun b z => by simp at z
  · obtain ⟨z1, z2⟩ := lowA b o q
    rw [offA b z1 z2]
    exact n
  · by_cases hb : b ∈ as
    · obtain ⟨j, pk, e1, e2, e3⟩ := atP b hb
      rw [upd_ne (show b ≠ L from fun z => hSn (by rw [← z]; exact hb)), e3] at q
      cases q
      obtain ⟨a1, a2⟩ := List.getElem?_zip_eq_some.mp e2
      obtain ⟨x1, x2, f1, f2, f3⟩ := ht j b e1
      obtain ⟨y1, g1, g2⟩ := vals_get kx f1
      obtain ⟨y2, g3, g4⟩ := vals_get ky f2
      rw [a1] at g1
      cases g1
      rw [a2] at g3
      cases g3
      exact ⟨by show 2 ≤ sizeLine; decide, [x1, x2], .cons g2 (.cons g4 .nil), ⟨_, f3, rfl, _, rfl⟩⟩
    · by_cases hb2 : b = L
      · rw [hb2] at q ⊢
        rw [eS] at q
        cases q
        refine ⟨by rw [List.length_map]; omega, as.map Value.ref, c, valsZ_refs as, ?_⟩
        exact hS
      · rw [offA b hb hb2] at q
        exact (I.hok b u q).stay (fun d v _ y => hk d v y) (fun d y => keepA d _ y) fun d xs y => keepA d _ y
theorem list_zip_tail {Q : VK} {pins : List (Addr × Obj)} {σ : L2.St} {H : Hp} {s : Shared} {h' : Heap} {xs ys : List V} {us vs : List Value} {fp1 fp2 : List Addr} {St1 St2 : Nat → Heap → Prop} (I : Inv X pins σ H s) (kx : Vals xs us) (ky : Vals ys vs) (zx : xs.length ≤ sizeLine)
    (S : ZipSep2 (s.heap.objs.size + 4) (s.heap.objs.size + 2) (s.heap.objs.size + 3) s.heap.objs.size (s.heap.objs.size + 1) fp1 fp2)
    (D1 : Draws X.prog X.w X.A.in1.in1.in1 s.heap.objs.size fp1 us.toArray.size (fun i v => us.toArray[i]? = some v) St1) (D2 : Draws X.prog X.w X.A.in1.in1.in1 (s.heap.objs.size + 1) fp2 vs.toArray.size (fun i v => vs.toArray[i]? = some v) St2)
    (hz : IsZip h' (s.heap.objs.size + 4) (s.heap.objs.size + 2) (s.heap.objs.size + 3) .none) (hTI : IsPair h' (s.heap.objs.size + 2) (.ref s.heap.objs.size) (.ref (s.heap.objs.size + 1))) (hTO : IsPair h' (s.heap.objs.size + 3) .none .none) (st1 : St1 0 h') (st2 : St2 0 h') (hsz : h'.objs.size = s.heap.objs.size + 5)
    (hf1 : ∀ b ∈ fp1, b < s.heap.objs.size + 5) (hf2 : ∀ b ∈ fp2, b < s.heap.objs.size + 5) (hk : ∀ c o, s.heap.get? c = some o → h'.get? c = some o)
    (q : ∀ (p : Addr) (ts : List Addr), H p = none → (∀ t ∈ ts, H t = none) → ts.Nodup → p ∉ ts → ts.length = (xs.zip ys).length → Q (.ref p) (upd (putZ H ts (xs.zip ys)) p (.lst (ts.map V.ref)))) :
    wpAny (model X.prog X.w) X.A (call (.type "list") [.ref (s.heap.objs.size + 4)]) (EP X pins σ Q) X.xe { s with heap := h' } := by
  have lx := kx.length
  have ly := ky.length
  have hlt : ∀ b ∈ (s.heap.objs.size + 4) :: (s.heap.objs.size + 2) :: (s.heap.objs.size + 3) :: (fp1 ++ fp2), b < h'.objs.size := fun b hb => by
    rw [hsz]
    rcases List.mem_cons.mp hb with e | hb
    · rw [e]
      exact Nat.lt_succ_self _
    rcases List.mem_cons.mp hb with e | hb
    · rw [e]
      exact Nat.add_lt_add_left (by decide) _
    rcases List.mem_cons.mp hb with e | hb
    · rw [e]
      exact Nat.add_lt_add_left (by decide) _
    rcases List.mem_append.mp hb with h | h
    · exact hf1 b h
    · exact hf2 b h
  have old : ∀ b (o : Obj), s.heap.get? b = some o → b ≠ s.heap.objs.size + 4 ∧ b ≠ s.heap.objs.size + 3 ∧ b ≠ s.heap.objs.size ∧ b ≠ s.heap.objs.size + 1 := fun b o e => by
    have := Heap.lt_size e
    exact ⟨Nat.ne_of_lt (Nat.lt_add_right _ this), Nat.ne_of_lt (Nat.lt_add_right _ this), Nat.ne_of_lt this, Nat.ne_of_lt (Nat.lt_add_right _ this)⟩
  refine call_list_zip (s := { s with heap := h' }) S D1 D2 (by rw [List.size_toArray, List.size_toArray]; omega) hlt hz hTI hTO st1 st2 fun h2 tk Ts c k1 k2 k3 k4 k5 k6 => ?_
  have hl : Ts.length = (xs.zip ys).length := by
    rw [k3, List.size_toArray, List.size_toArray, List.length_zip, lx, ly]
  obtain ⟨j1, j2, j3, J⟩ := zip_laid (tk := tk) (h' := h2) (L := h'.objs.size) (as := Ts) (c := c) I (by rw [List.length_zip]; omega) kx ky (fun b o e => by
      obtain ⟨n1, n2, n3, n4⟩ := old b o e
      exact k1 b o n1 n2 n3 n4 (hk b o e)) (by rw [hsz]; exact Nat.le_add_right _ _) k2 hl (fun j T e => by
      obtain ⟨x1, x2, p1, p2, p3⟩ := k4 j T e
      exact ⟨x1, x2, by simpa using p1, by simpa using p2, p3⟩) (fun T m => by
      have h5 : h'.objs.size + 1 ≤ T := k5 T m
      refine ⟨Nat.le_trans ?_ (Nat.le_of_succ_le h5), fun e => ?_⟩
      · rw [hsz]
        exact Nat.le_add_right _ _
      · subst e
        exact Nat.not_succ_le_self _ h5) k6
  exact ⟨.ref _, _, J, rfl, q _ Ts j1 j2 k6 j3 hl⟩
theorem pe_zipL {e e2 : Expr} {ta : TA} {p p2 pos pos2 : Pos} (hc : X.calm = true) (hg : Gl X "list") (hm : X.mg "list" = none) (hg2 : Gl X "zip") (hm2 : X.mg "zip" = none) (ha : PA X [e, e2] ta)
    (hs : starEach [e, e2] X.env = (false, eval e X.env) :: starEach [e2] X.env) (hpl : (backTo pos2 (starEach [e2] X.env)).any (·.1) = false)
    (na : starEach [.Call (.Name "zip" p2) [e, e2] [] pos2] X.env = (false, eval (.Call (.Name "zip" p2) [e, e2] [] pos2) X.env) :: starEach [] X.env) :
    PE X (.Call (.Name "list" p) [.Call (.Name "zip" p2) [e, e2] [] pos2] [] pos) (tZipL X.K ta) := by
  refine ⟨fun pins s σ H Q I h => ?_⟩
  refine Call_ (ld_blt I hg hm boot_list (PyProof.Rows.callWith_type1 (args_cons (Call_ (ld_blt I hg2 hm2 PyProof.Rows.boot_zip (PyProof.Rows.callWith_type1 (thn (ha.run pos2 pins s σ H _ I h) fun us s1 ⟨vs, H1, I1, r1, q1⟩ => ?_) hs hpl))) na) na))
  obtain ⟨a, b, xs, ys, ex, hq, q⟩ := q1
  subst ex
  cases r1 with
  | cons r rr =>
    cases rr with
    | cons r' rr =>
      cases rr
      cases r
      cases r'
      rcases hq with ⟨hqx, hqy⟩ | ⟨hqx, hqy⟩
      · obtain ⟨its, rv, p1, z1⟩ := I1.list hqx
        obtain ⟨its2, rv2, p3, z2⟩ := I1.list hqy
        refine call_zip_2 p1.isList p3.isList fun h' hz hTI hTO h1 h2 hsz hk => args_nil ?_
        exact list_zip_tail I1 rv rv2 z1 (zip_sep s1.heap.objs.size a b p1.lt p3.lt)
          (Draws.list (A := X.A.in1.in1.in1) (I1.ok.hd hc) s1.heap.objs.size a (Nat.ne_of_lt p1.lt) its.toArray) (Draws.list (A := X.A.in1.in1.in1) (I1.ok.hd hc) (s1.heap.objs.size + 1) b (Nat.ne_of_lt (Nat.lt_succ_of_lt p3.lt)) its2.toArray)
          hz hTI hTO ⟨h1, p1.isList.at fun o e => hk _ o e⟩ ⟨h2, p3.isList.at fun o e => hk _ o e⟩ hsz (zip_lt _ _ p1.lt) (zip_lt1 _ _ p3.lt) hk q
      · obtain ⟨its, rv, p1, z1⟩ := I1.tuple hqx
        obtain ⟨its2, rv2, p3, z2⟩ := I1.tuple hqy
        obtain ⟨o1, ho1, _⟩ := id p1
        obtain ⟨o2, ho2, _⟩ := id p3
        have t1 : s1.heap.IsTuple a its.toArray := p1
        have t2 : s1.heap.IsTuple b its2.toArray := p3
        have l1 := Heap.lt_size ho1
        have l2 := Heap.lt_size ho2
        refine RZ.call_zipT t1 t2 fun h' hz hTI hTO h1 h2 hsz hk => args_nil ?_
        have t3 : h'.IsTuple a its.toArray := by
          obtain ⟨o, e, r⟩ := t1
          exact ⟨o, hk _ _ e, r⟩
        have t4 : h'.IsTuple b its2.toArray := by
          obtain ⟨o, e, r⟩ := t2
          exact ⟨o, hk _ _ e, r⟩
        exact list_zip_tail I1 rv rv2 z1 (zip_sep s1.heap.objs.size a b l1 l2)
          (Draws.tuple (A := X.A.in1.in1.in1) (I1.ok.hd hc) s1.heap.objs.size a (Nat.ne_of_lt l1) its.toArray) (Draws.tuple (A := X.A.in1.in1.in1) (I1.ok.hd hc) (s1.heap.objs.size + 1) b (Nat.ne_of_lt (Nat.lt_succ_of_lt l2)) its2.toArray)
          hz hTI hTO ⟨h1, t3⟩ ⟨h2, t4⟩ hsz (zip_lt _ _ l1) (zip_lt1 _ _ l2) hk q
end
/-! ### the rule of the layer -/
section
variable {I : Type} {X : I → Cx} {P : Program} {w : World} {K : PySem.W.Frag} {mg : Str → Option Value} {base : Heap} {k : Nat}
def gZipL : GL := fun ds M => match ds with
  | [.tup xs, .tup ys] => some (.lst ((xs.zip ys).map fun p => .tup [p.1, p.2]), M)
  | [a, b] => (match lstOf M a, lstOf M b with
    | some xs, some ys => some (.lst ((xs.zip ys).map fun p => .tup [p.1, p.2]), M)
    | _, _ => none)
  | _ => none
theorem lay_zip {M : Mh} : ∀ (ts : List Addr) (xs ys : List V) (ds es : List D) (W : Wd), W.Ok K M → (∀ t ∈ ts, W.H t = none) → ts.Nodup → ts.length = (xs.zip ys).length → RepL K W.B W.ι xs ds → RepL K W.B W.ι ys es →
    ∃ W' : Wd, W.Le W' ∧ W'.Ok K M ∧ W'.H = putZ W.H ts (xs.zip ys) ∧ RepL K W'.B W'.ι (ts.map V.ref) ((ds.zip es).map fun p => .tup [p.1, p.2])
  | [], xs, ys, ds, es, W, w, hn, nd, hl, r, r' => by
    refine ⟨W, .refl W, w, ?_, ?_⟩
    · cases h : xs.zip ys <;> rfl
    · have := r.len
      have := r'.len
      rw [List.length_zip] at hl
      have e : ds.zip es = [] := List.eq_nil_of_length_eq_zero (by
        rw [List.length_zip]
        simp at hl
        omega)
      rw [e]
      exact .nil
  | t :: ts, xs, ys, ds, es, W, w, hn, nd, hl, r, r' => by
    have nd' := List.nodup_cons.mp nd
    cases r with
    | nil => simp at hl
    | cons rx r =>
      cases r' with
      | nil => simp at hl
      | cons ry r' =>
        rename_i v1 d1 vs1 ds1 v2 d2 vs2 ds2
        obtain ⟨l2, w2, r3⟩ := lay_tup w (hn t List.mem_cons_self) (.cons rx (.cons ry .nil))
        obtain ⟨W3, l3, w3, e3, r4⟩ := lay_zip ts vs1 vs2 ds1 ds2 _ w2 (fun x hx => by
          show upd W.H t _ x = none
          rw [upd_ne (show x ≠ t from fun e => nd'.1 (by rw [← e]; exact hx))]
          exact hn x (List.mem_cons_of_mem _ hx)) nd'.2 (by simpa using hl) (r.le l2) (r'.le l2)
        exact ⟨W3, l2.trans l3, w3, e3, .cons (r3.le l3) r4⟩
theorem zipL_rep {W : Wd} {M M' : Mh} {vs : List V} {ds : List D} {z : D} {Q : VK} (w : W.Ok K M) (r : RepL K W.B W.ι vs ds) (e : gZipL ds M = some (z, M')) (q : VR K W z M' Q) : rZipL K vs W.H Q := by
  have fin : ∀ (a b : Addr) (xs ys : List V) (as bs : List D), RepL K W.B W.ι xs as → RepL K W.B W.ι ys bs → ((SqL K W.H a xs ∧ SqL K W.H b ys) ∨ (SqT K W.H a xs ∧ SqT K W.H b ys)) → VR K W (.lst ((as.zip bs).map fun p => .tup [p.1, p.2])) M Q → rZipL K [.ref a, .ref b] W.H Q := fun a b xs ys as bs r1 r2 h q => by
    refine ⟨a, b, xs, ys, rfl, h, fun p ts h1 h2 h3 h4 h5 => ?_⟩
    obtain ⟨W2, l2, w2, e2, r3⟩ := lay_zip ts xs ys as bs W w h2 h3 h5 r1 r2
    have hp : W2.H p = none := by
      rw [e2, putZ_off _ _ _ h4]
      exact h1
    obtain ⟨l3, w3, r4⟩ := lay_lst w2 hp r3
    rw [← e2]
    exact q _ _ (l2.trans l3) w3 r4
  unfold gZipL at e
  split at e
  · cases e
    cases r with
    | cons r1 r2 =>
      cases r2 with
      | cons r2 r3 =>
        cases r3
        obtain ⟨a, us, rfl, s1, q1⟩ := tup_rep w r1
        obtain ⟨b, us2, rfl, s2, q2⟩ := tup_rep w r2
        exact fin a b us us2 _ _ q1 q2 (.inr ⟨s1, s2⟩) q
  · split at e
    · rename_i xs ys h1 h2
      cases e
      cases r with
      | cons r1 r2 =>
        cases r2 with
        | cons r2 r3 =>
          cases r3
          obtain ⟨a, us, rfl, s1, q1⟩ := lstOf_rep w r1 h1
          obtain ⟨b, us2, rfl, s2, q2⟩ := lstOf_rep w r2 h2
          exact fin a b us us2 _ _ q1 q2 (.inl ⟨s1, s2⟩) q
    · cases e
  · cases e
theorem DE.zipL (c : Ctx X P w K mg base k) {e e2 : Expr} {p p2 pos pos2 : Pos} {a : AF} (hm : mg "list" = none) (hm2 : mg "zip" = none) (ha : DA X K [e, e2] a) (hg : ∀ i, Gl (X i) "list" := by intro _; rfl) (hg2 : ∀ i, Gl (X i) "zip" := by intro _; rfl)
    (hs : ∀ i, starEach [e, e2] (X i).env = (false, eval e (X i).env) :: starEach [e2] (X i).env := by intro _; rfl) (hpl : ∀ i, (backTo pos2 (starEach [e2] (X i).env)).any (·.1) = false := by intro _; rfl)
    (na : ∀ i, starEach [.Call (.Name "zip" p2) [e, e2] [] pos2] (X i).env = (false, eval (.Call (.Name "zip" p2) [e, e2] [] pos2) (X i).env) :: starEach [] (X i).env := by intro _; rfl) :
    DE X K (.Call (.Name "list" p) [.Call (.Name "zip" p2) [e, e2] [] pos2] [] pos) (eB gZipL a) := by
  obtain ⟨t, pa, ra⟩ := ha.go
  refine ⟨tZipL K t, fun i => ?_, fun σ W δ M d M' Q w s e q => ?_⟩
  · have h := pe_zipL (X := X i) (p := p) (pos := pos) (c.calm i) (hg i) (by rw [c.mg i]; exact hm) (hg2 i) (by rw [c.mg i]; exact hm2) (pa i) (hs i) (hpl i) (na i)
    rw [c.K i] at h
    exact h
  · unfold eB at e
    split at e
    · rename_i ds M1 h1
      exact ra σ W δ M _ _ _ w s h1 fun vs W1 l1 w1 r1 => zipL_rep w1 r1 e (q.le l1)
    · cases e
end
end Pl

/-! PlA: a = b = e -/
namespace Pl
open PySem PySem.Spec PyProof.Rows L2
section
variable {I : Type} {X : I → Cx} {P : Program} {w : World} {K : PySem.W.Frag} {mg : Str → Option Value} {base : Heap} {k : Nat}
def sAs2 (f : EF) (g h : GF) : SF := fun δ M => match f δ M with
  | some (d, M1) => (match g d δ with
    | some δ1 => (match h d δ1 with
      | some δ2 => some (.nx δ2 M1)
      | none => none)
    | none => none)
  | none => none
theorem DS.asg2 {t1 t2 e : Expr} {pos} {f : EF} {g h : GF} {sl sl2 : List Nat} (a : DE X K e f) (b : DG X K t1 g sl) (b2 : DG X K t2 h sl2) (ha : ∀ i, (assignEach [t1, t2] (X i).env).map (·.2) = [assign t1 (X i).env, assign t2 (X i).env] := by intro _; rfl) (hw : ∀ i, swappedStores [t1, t2] e (X i).env = pure none := by intro _; rfl) :
    DS X K (.Assign [t1, t2] e pos) (sAs2 f g h) := by
  obtain ⟨t, p, r⟩ := a.go
  obtain ⟨tg, pg, rg⟩ := b.go
  obtain ⟨th, ph, rh⟩ := b2.go
  refine ⟨_, fun i => ps_asg2 (p i) (pg i) (ph i) (ha i) (hw i), fun σ W δ M o E w s e q => ?_⟩
  unfold sAs2 at e
  split at e
  · rename_i d M1 h1
    split at e
    · rename_i δ1 h2
      split at e
      · rename_i δ2 h3
        cases e
        refine r σ W δ M d _ _ w s h1 fun v W1 l1 w1 r1 => ?_
        refine rg v d σ W1 δ δ1 _ _ w1 (s.le l1) r1 h2 fun σ1 s1 _ => ?_
        exact rh v d σ1 W1 δ1 δ2 _ _ w1 s1 r1 h3 fun σ2 s2 _ => q σ2 W1 l1 w1 s2
      · cases e
    · cases e
  · cases e
end
end Pl

/-! PlO: exceptions of the program's own classes, of any built-in base, as values with fields. -/
namespace PySem
namespace Ob
open PySem.W PySem.Calls PyProof.Rows PySem.HandSPX Builtin Builtin.ObjectAttr
section
variable {prog : Program} {w : World} {A : Around} {R : Result → Shared → Prop} {hp : Heap} {g : Array GenState} {d : Drawn} {t : Nat} {os : OsState} {K : W.Frag} {name : Str} {tk : Tok} {v : Value} {x C : Addr} {fv : Array Value} {B : String} {bmB : List Value}
/-- the first field of an exception: its dict is laid -/
theorem put_first (SF : StoreFacts B bmB "object.__setattr__" "object") (X : K.In hp) (hov : excOver K C bmB = true) (htk : takerIn K C name = some none) (hdi : ∃ cd, clsIn K C = some cd ∧ cd.hasDict = true) (hx : hp.get? x = some { cls := .ref C, data := .fields fv })
    (hq : ∀ h' tk' dx, (∀ b o, b ≠ x → hp.get? b = some o → h'.get? b = some o) → hp.objs.size ≤ dx → dx ≠ x → h'.get? x = some { cls := .ref C, dict := some dx, data := .fields fv } → h'.Ns1 dx (fun y => if y = name then some v else none) → R (.ok (.ret .none)) ⟨h', g, d, tk', os⟩) :
    codeAny (model prog w) A (.call (.builtin "object.__setattr__") ⟨[.ref x, .str name tk, v], []⟩) R ⟨hp, g, d, t, os⟩ := by
  obtain ⟨cd, hcd, hh⟩ := hdi
  have inst : W.InstAt hp x { cls := .ref C, data := .fields fv } C none := ⟨hx, rfl, rfl, trivial⟩
  have far : x ≠ hp.objs.size := Nat.ne_of_lt (Heap.lt_size hx)
  have cl : W.Looks (model prog w) hp (classData C) cd := W.looks_clsIn X hcd
  refine osa_openX SF X inst hov htk fun bb => ?_
  obtain ⟨c1, c2, c3, c4, c5, c6, c7, c8, c9, c10, c11⟩ := cd
  dsimp only at hh
  subst hh
  show wpAny _ _ (storeInOwnDict (.ref x) (.ref C) (.str name tk) name v bb) _ _ _
  unfold storeInOwnDict ownDictForStores
  repeat (first | with_reducible refine store_in_new ?_ ?_ | with_reducible refine wpAny_loadPart_at hx ?_ | with_reducible refine cl.at ?_ | wp_step)
  · exact ⟨_, #[], _, (Heap.get?_update_ne _ _ _ _ far.symm).trans (Heap.get?_push_at rfl rfl), rfl, fun e he => absurd he (by simp), fun _ => rfl⟩
  · intro h2 t2 n2 s2
    have at1 : (hp.push { cls := .type "dict", data := .dict #[] }).get? x = some { cls := .ref C, data := .fields fv } := Heap.get?_push_of_some _ hx
    exact hq h2 t2 hp.objs.size (fun b o hb ho => (s2.2 b (Nat.ne_of_lt (Heap.lt_size ho))).trans ((Heap.get?_update_ne _ _ _ _ hb).trans (Heap.get?_push_of_some _ ho))) (Nat.le_refl _) far.symm ((s2.2 x far).trans (Heap.get?_update_self _ at1 rfl)) n2
/-- a further field -/
theorem put_more {dx : Addr} {m0 : Str → Option Value} {nl : List Str} (SF : StoreFacts B bmB "object.__setattr__" "object") (X : K.In hp) (hov : excOver K C bmB = true) (htk : takerIn K C name = some none) (hdi : ∃ cd, clsIn K C = some cd ∧ cd.hasDict = true)
    (hx : hp.get? x = some { cls := .ref C, dict := some dx, data := .fields fv }) (hns : hp.Ns1 dx m0) (hw : Within m0 nl) (hz : nl.length ≤ 1000)
    (hq : ∀ h' tk', (∀ b o, b ≠ dx → hp.get? b = some o → h'.get? b = some o) → h'.Ns1 dx (fun y => if y = name then some v else m0 y) → R (.ok (.ret .none)) ⟨h', g, d, tk', os⟩) :
    codeAny (model prog w) A (.call (.builtin "object.__setattr__") ⟨[.ref x, .str name tk, v], []⟩) R ⟨hp, g, d, t, os⟩ := by
  obtain ⟨cd, hcd, hh⟩ := hdi
  obtain ⟨oD, esD, epD, hoD, hdD, _⟩ := hns.count hw
  have inst : W.InstAt hp x { cls := .ref C, dict := some dx, data := .fields fv } C (some oD) := ⟨hx, rfl, rfl, hoD⟩
  have cl : W.Looks (model prog w) hp (classData C) cd := W.looks_clsIn X hcd
  refine osa_openX SF X inst hov htk fun bb => ?_
  obtain ⟨c1, c2, c3, c4, c5, c6, c7, c8, c9, c10, c11⟩ := cd
  dsimp only at hh
  subst hh
  show wpAny _ _ (storeInOwnDict (.ref x) (.ref C) (.str name tk) name v bb) _ _ _
  unfold storeInOwnDict ownDictForStores
  repeat (first | with_reducible refine PySem.OEX.store_in_old hns hw hz ?_ | with_reducible refine wpAny_loadPart_at hx ?_ | with_reducible refine cl.at ?_ | wp_step)
  intro h2 t2 n2 s2
  exact hq h2 t2 (fun b o hb ho => (s2.2 b hb).trans ho) n2
end
end Ob
end PySem

namespace Pl
open PySem PySem.Spec PyProof.Rows L2
/-- what the written part says of an own exception class, whatever its built-in base -/
structure ExG (K : PySem.W.Frag) (C : Addr) (B newId initId : String) (bmB : List Value) : Prop where
  base : ExcBaseFacts B newId initId bmB
  store : StoreFacts B bmB "object.__setattr__" "object"
  ini : PySem.W.excInitIn K C bmB newId = true
  ov : PySem.W.excOver K C bmB = true
  di : ∃ cd, PySem.W.clsIn K C = some cd ∧ cd.hasDict = true
  sa : PySem.W.findIn K (.ref C) "__setattr__" = some (some (.builtin "object.__setattr__"))
  keep : PySem.W.keepIn K (.ref C) = true
section
variable {X : Cx} {pins : List (Addr × Obj)} {σ : L2.St} {H : Hp} {s : Shared} {a C dx : Addr} {f : Str} {y : V} {u : Value} {fs : List (Str × V)} {Q : Unit → Shared → Prop} {E : Value → Shared → Prop} {A : Around} {B newId initId : String} {bmB : List Value}
/-- a first field is set -/
theorem og_new (T : ExG X.K C B newId initId bmB) (I : Inv X pins σ H s) (e : H a = some (exo a C none)) (ht : PySem.W.takerIn X.K C f = some none) (ry : RelV y u)
    (h : ∀ dx s', H dx = none → dx ≠ a → Inv X pins σ (upd (upd H dx (exd dx [(f, y)])) a (exo a C (some dx))) s' → Q () s') : wpAny (model X.prog X.w) A (setAttr (.ref a) f u) Q E s := by
  obtain ⟨t1, at0⟩ := exo_at I.hok e
  obtain ⟨hA, g, d, t, os⟩ := s
  refine PySem.W.set_plain I.kIn (ox := { cls := .ref C, dict := none, data := .fields #[.ref t1, .none, .none, .none, .bool false, .none] }) (od := none) ⟨at0, rfl, rfl, trivial⟩ T.sa ?_
  refine PySem.Ob.put_first T.store I.kIn T.ov ht T.di at0 fun hB tB dB kept up ne atB nsB => ?_
  have fresh : H dB = none := I.hok.fresh up
  have notA : ∀ {b : Addr}, H b = none → b ≠ a := fun {b} n z => by
    rw [z, e] at n
    cases n
  have notD : ∀ {b : Addr} {o : Obj}, hA.get? b = some o → b ≠ dB := fun {b o} q z => absurd (Heap.lt_size q) (Nat.not_lt.mpr (z ▸ up))
  have same : ∀ {b : Addr} {o : HO}, H b = some o → (∀ z, o ≠ exo a C z) → upd (upd H dB (exd dB [(f, y)])) a (exo a C (some dB)) b = some o := fun {b o} q n => by
    rw [upd_ne (fun z => by rw [z, e] at q; exact n _ (Option.some.inj q).symm), upd_ne (ne_of_none q fresh)]
    exact q
  have U : Un X.fs [] H (upd (upd H dB (exd dB [(f, y)])) a (exo a C (some dB))) hA hB :=
    ⟨fun b o q n _ _ => kept b o (notA n) q, fun b o q n _ _ => ⟨o.slots, kept b o (notA n) q⟩, fun b o q n _ => by rw [upd_ne (notA n), upd_ne (notD q)]; exact n,
      fun b o q _ => by
        by_cases hb : b = a
        · exact ⟨_, by rw [hb]; exact atB⟩
        · exact ⟨o, kept b o hb q⟩,
      fun b xs q => same q fun z => exo_tup.symm, fun b o v q => same q fun z => exo_frz.symm, fun b ps q => ⟨#[], by rw [same q fun z => exo_tbl.symm]; simp⟩⟩
  refine h dB _ fresh ne (I.un (t' := tB) U fun b o q => ?_)
  by_cases hb : b = a
  · subst hb
    rw [upd_same] at q
    cases q
    exact exo_ok atB
  · rw [upd_ne hb] at q
    by_cases hd : b = dB
    · subst hd
      rw [upd_same] at q
      cases q
      exact exd_ok nsB (relO_put (fs := []) ry fun g => True.intro)
    · rw [upd_ne hd] at q
      refine (I.hok b o q).stay (fun c v hc z => kept c v ?_ z) (fun c hc => same hc fun z => exo_own.symm) fun c xs hc => same hc fun z => exo_tup.symm
      rcases hc with hc | hc
      · rw [hc]
        exact hb
      · exact fun z => exo_own (Option.some.inj ((z ▸ e).symm.trans hc))
/-- a further one -/
theorem og_more (T : ExG X.K C B newId initId bmB) (I : Inv X pins σ H s) (e : H a = some (exo a C (some dx))) (ed : H dx = some (exd dx fs)) (hl : fs.length ≤ 900) (ht : PySem.W.takerIn X.K C f = some none) (ry : RelV y u)
    (h : ∀ s', Inv X pins σ (upd H dx (exd dx ((f, y) :: fs))) s' → Q () s') : wpAny (model X.prog X.w) A (setAttr (.ref a) f u) Q E s := by
  obtain ⟨t1, at0⟩ := exo_at I.hok e
  obtain ⟨mA, hns, rel⟩ := exd_at I.hok ed
  have hw := within_of rel
  obtain ⟨hA, g, d, t, os⟩ := s
  obtain ⟨oD, _, _, hoD, _, _⟩ := hns.count hw
  refine PySem.W.set_plain I.kIn (ox := { cls := .ref C, dict := some dx, data := .fields #[.ref t1, .none, .none, .none, .bool false, .none] }) (od := some oD) ⟨at0, rfl, rfl, hoD⟩ T.sa ?_
  refine PySem.Ob.put_more T.store I.kIn T.ov ht T.di at0 hns hw (by rw [List.length_map]; omega) fun hB tB kept nsB => ?_
  have there : ∃ o, hB.get? dx = some o := by
    obtain ⟨o, _, _, q, _⟩ := nsB
    exact ⟨o, q⟩
  exact h _ (I.write (t' := tB) (x := dx) (e := dx) (o := exd dx ((f, y) :: fs)) (by rw [ed]; exact True.intro) (.inl rfl) kept there (exd_ok nsB (relO_put ry rel)))
end
/-- what the written part says of an own exception class's fields: they are set and read -/
def OkF (K : PySem.W.Frag) (C : Addr) (f : Str) : Prop := (∃ B newId initId bmB, ExG K C B newId initId bmB) ∧ PySem.W.takerIn K C f = some none
/-- self.f = e -/
def tOg (K : PySem.W.Frag) (f : Str) (to te : TE) : TS := fun D σ H => te σ H fun y H1 => to σ H1 fun x H2 => ∃ a C : Addr, x = .ref a ∧ OkF K C f ∧
  ((H2 a = some (exo a C none) ∧ ∀ dx, H2 dx = none → dx ≠ a → D.nx σ (upd (upd H2 dx (exd dx [(f, y)])) a (exo a C (some dx)))) ∨
    ∃ (dx : Addr) (fs : List (Str × V)), H2 a = some (exo a C (some dx)) ∧ H2 dx = some (exd dx fs) ∧ fs.length ≤ 900 ∧ D.nx σ (upd H2 dx (exd dx ((f, y) :: fs))))
/-- o.f of such an exception -/
def tGf (K : PySem.W.Frag) (f : Str) (to : TE) : TE := fun σ H Q => to σ H fun x H1 => ∃ (a C dx : Addr) (fs : List (Str × V)) (v : V), x = .ref a ∧ XfC K C ∧ PySem.W.findIn K (.ref C) f = some none ∧ H1 a = some (exo a C (some dx)) ∧ H1 dx = some (exd dx fs) ∧ fs.lookup f = some v ∧ Q v H1
section
variable {X : Cx} {o e : Expr} {to te : TE} {f : Str} {p' pos : Pos}
theorem ps_og (ho : PE X o to) (he : PE X e te) (hs : swapsWith e (some (.Attribute o f p')) pos.line X.env = pure false) : PS X (.Assign [.Attribute o f p'] e pos) (tOg X.K f to te) := by
  refine ⟨fun pinsA σA sA HA DA IA hA => ?_⟩
  refine plainObj_wpAny_Assign_Attribute (thn (he.run pinsA σA sA HA _ IA hA) fun v s1 ⟨y, H1, I1, r1, q1⟩ => thn (ho.run pinsA s1 sA H1 _ I1 q1) fun w2 s2 ⟨x, H2, I2, r2, a, C, ex, ⟨⟨_, _, _, _, T⟩, ht⟩, q⟩ => ?_) hs
  subst ex
  cases r2
  rcases q with ⟨ea, q⟩ | ⟨dx, fs, ea, ed, hl, q⟩
  · exact og_new T I2 ea ht r1 fun dx s' n ne J => ⟨_, _, J, q dx n ne⟩
  · exact og_more T I2 ea ed hl ht r1 fun s' J => ⟨_, _, J, q⟩
theorem pe_gf (ho : PE X o to) (hb : attributeBase o f X.env (eval o X.env) = eval o X.env) : PE X (.Attribute o f pos) (tGf X.K f to) := by
  refine ⟨fun pinsA sA σA HA QA IA hA => ?_⟩
  refine attr_of hb (thn (ho.run pinsA sA σA HA _ IA hA) fun w1 s1 ⟨x, H1, I1, rx, a, C, dx, fs, v, ex, T, hno, ea, ed, l, q⟩ => ?_)
  subst ex
  cases rx
  obtain ⟨t1, at0⟩ := exo_at I1.hok ea
  obtain ⟨mA, hns, hr⟩ := exd_at I1.hok ed
  obtain ⟨od, ho2, hl⟩ := lookIn_ns hns
  obtain ⟨u, hu, ru⟩ := RelO.some_of (v := v) (o := mA f) (by rw [← l]; exact hr f)
  have inst : PySem.W.InstAt s1.heap a { cls := .ref C, dict := some dx, data := .fields #[.ref t1, .none, .none, .none, .bool false, .none] } C (some od) := ⟨at0, rfl, rfl, ho2⟩
  exact HandSPX.exc_get I1.kIn inst T.ga T.gg T.exC (PySem.W.findObj_own T.hdC hno rfl (by rw [hl, hu])) (handed_of ru) ⟨v, H1, I1.tok _, ru, q⟩
end
end Pl
/-! ### the layer -/
namespace Pl
open PySem PySem.Spec PyProof.Rows L2
section
variable {I : Type} {X : I → Cx} {P : Program} {w : World} {K : PySem.W.Frag} {mg : Str → Option Value} {base : Heap} {k : Nat}
def sOg (okf : Addr → Str → Bool) (f : Str) (fo fe : EF) : SF := fun δ M => match fe δ M with
  | some (y, M1) => (match fo δ M1 with
    | some (.ref n, M2) => (match M2[n]? with
      | some (.exo C none) => if okf C f = true then some (.nx δ ((M2 ++ [MO.exd [(f, y)]]).set n (MO.exo C (some M2.length)))) else none
      | some (.exo C (some m)) => if okf C f = true then (match M2[m]? with
        | some (.exd fs) => if fs.length ≤ 900 then some (.nx δ (M2.set m (MO.exd ((f, y) :: fs)))) else none
        | _ => none) else none
      | _ => none)
    | _ => none)
  | none => none
def eGf (okg : Addr → Str → Bool) (f : Str) (fo : EF) : EF := fun δ M => match fo δ M with
  | some (.ref n, M1) => (match M1[n]? with
    | some (.exo C (some m)) => if okg C f = true then (match M1[m]? with
      | some (.exd fs) => (fs.lookup f).map fun d => (d, M1)
      | _ => none) else none
    | _ => none)
  | _ => none
theorem exo_live {W : Wd} {M : Mh} {x : V} {n : Nat} {C : Addr} (w : W.Ok K M) (r : Rep K W.B W.ι x (.ref n)) (hm : M[n]? = some (.exo C none)) : ∃ a, x = .ref a ∧ Live W M n a (.exo C none) ∧ W.H a = some (exo a C none) := by
  cases r with
  | ref hi =>
    have lv : Live W M n _ (.exo C none) := ⟨hi, hm, fun z => by cases z⟩
    obtain ⟨_, _, o, ho, ro⟩ := w.live _ _ _ lv
    cases ro with
    | exo => exact ⟨_, rfl, lv, ho⟩
theorem exoD_live {W : Wd} {M : Mh} {x : V} {n m : Nat} {C : Addr} {fs : List (Str × D)} (w : W.Ok K M) (r : Rep K W.B W.ι x (.ref n)) (hm : M[n]? = some (.exo C (some m))) (hf : M[m]? = some (.exd fs)) :
    ∃ a d vs, x = .ref a ∧ W.H a = some (exo a C (some d)) ∧ Live W M m d (.exd fs) ∧ W.H d = some (exd d vs) ∧ RepF K W.B W.ι vs fs := by
  cases r with
  | ref hi =>
    obtain ⟨_, _, o, ho, ro⟩ := w.live _ _ _ ⟨hi, hm, fun z => by cases z⟩
    cases ro with
    | exoD hd =>
      have lv : Live W M m _ (.exd fs) := ⟨hd, hf, fun z => by cases z⟩
      obtain ⟨_, _, o2, ho2, ro2⟩ := w.live _ _ _ lv
      cases ro2 with
      | exd rf => exact ⟨_, _, _, rfl, ho, lv, ho2, rf⟩
theorem DS.og {okf : Addr → Str → Bool} (hok : ∀ C f, okf C f = true → OkF K C f) (c : Ctx X P w K mg base k) {o e : Expr} {f : Str} {p' pos : Pos} {fo fe : EF} (b : DE X K o fo) (a : DE X K e fe) (hs : ∀ i, swapsWith e (some (.Attribute o f p')) pos.line (X i).env = pure false := by intro _; rfl) :
    DS X K (.Assign [.Attribute o f p'] e pos) (sOg okf f fo fe) := by
  obtain ⟨te, pe, re⟩ := a.go
  obtain ⟨tO, po, ro⟩ := b.go
  refine ⟨tOg K f tO te, fun i => ?_, fun σ W δ M oo E w s ev q => ?_⟩
  · have h := ps_og (X := X i) (po i) (pe i) (hs i)
    rw [c.K i] at h
    exact h
  · unfold sOg at ev
    split at ev
    · rename_i y M1 h1
      refine re σ W δ M y M1 _ w s h1 fun v W1 l1 w1 r1 => ?_
      split at ev
      · rename_i n M2 h2
        refine ro σ W1 δ M1 _ M2 _ w1 (s.le l1) h2 fun u W2 l2 w2 r2 => ?_
        split at ev
        · rename_i C hm
          split at ev
          · rename_i hf
            cases ev
            obtain ⟨a, rfl, lv, ha⟩ := exo_live w2 r2 hm
            refine ⟨a, C, rfl, hok _ _ hf, .inl ⟨ha, fun dx hn ne => ?_⟩⟩
            have w3 := Wd.new_ok (m := .exd [(f, y)]) (o := exd dx [(f, v)]) w2 hn (.exd (.cons (r1.le l2) .nil))
            have lv3 : Live (W2.new dx (exd dx [(f, v)])) (M2 ++ [.exd [(f, y)]]) n a (.exo C none) := by
              obtain ⟨z1, z2, z3⟩ := lv
              refine ⟨?_, ?_, z3⟩
              · show (W2.ι ++ [dx])[n]? = some a
                rw [List.getElem?_append_left (List.getElem?_eq_some_iff.mp z1).1]
                exact z1
              · rw [List.getElem?_append_left (List.getElem?_eq_some_iff.mp z2).1]
                exact z2
            have w4 := Wd.put_ok (m' := .exo C (some M2.length)) (o := exo a C (some dx)) w3 lv3 (.exoD (by
              show (W2.ι ++ [dx])[M2.length]? = some dx
              rw [← w2.len]
              simp))
            exact q σ _ (((l1.trans l2).trans Wd.new_le).trans Wd.put_le) w4 (((s.le l1).le l2).le Wd.new_le |>.le Wd.put_le)
          · cases ev
        · rename_i C m hm
          split at ev
          · rename_i hf
            split at ev
            · rename_i fs hfs
              split at ev
              · rename_i hl
                cases ev
                obtain ⟨a, d, vs, rfl, ha, lv, hd, rf⟩ := exoD_live w2 r2 hm hfs
                refine ⟨a, C, rfl, hok _ _ hf, .inr ⟨d, vs, ha, hd, by rw [rf.len]; exact hl, ?_⟩⟩
                have w3 := Wd.put_ok (m' := .exd ((f, y) :: fs)) (o := exd d ((f, v) :: vs)) w2 lv (.exd (.cons (r1.le l2) rf))
                exact q σ _ ((l1.trans l2).trans Wd.put_le) w3 (((s.le l1).le l2).le Wd.put_le)
              · cases ev
            · cases ev
          · cases ev
        · cases ev
      · cases ev
    · cases ev
theorem DE.gf {okg : Addr → Str → Bool} (hok : ∀ C f, okg C f = true → XfC K C ∧ PySem.W.findIn K (.ref C) f = some none) (c : Ctx X P w K mg base k) {o : Expr} {f : Str} {pos : Pos} {fo : EF} (b : DE X K o fo) (hb : ∀ i, attributeBase o f (X i).env (eval o (X i).env) = eval o (X i).env := by intro _; rfl) :
    DE X K (.Attribute o f pos) (eGf okg f fo) := by
  obtain ⟨tO, po, ro⟩ := b.go
  refine ⟨tGf K f tO, fun i => ?_, fun σ W δ M d M' Q w s ev q => ?_⟩
  · have h := pe_gf (X := X i) (pos := pos) (po i) (hb i)
    rw [c.K i] at h
    exact h
  · unfold eGf at ev
    split at ev
    · rename_i n M1 h1
      refine ro σ W δ M _ M1 _ w s h1 fun u W1 l1 w1 r1 => ?_
      split at ev
      · rename_i C m hm
        split at ev
        · rename_i hf
          split at ev
          · rename_i fs hfs
            cases hl : fs.lookup f with
            | none =>
              rw [hl] at ev
              cases ev
            | some z =>
              rw [hl] at ev
              cases ev
              obtain ⟨a, dd, vs, rfl, ha, lv, hd, rf⟩ := exoD_live w1 r1 hm hfs
              obtain ⟨v, e1, e2⟩ := rf.get hl
              exact ⟨a, C, dd, vs, v, rfl, (hok _ _ hf).1, (hok _ _ hf).2, ha, hd, e1, q v W1 l1 w1 e2⟩
          · cases ev
        · cases ev
      · cases ev
    · cases ev
end
end Pl

/-! PlN: C(..) of an own exception class with its own __init__, as a value. -/
namespace Pl
open PySem PySem.Spec PyProof.Rows L2
section
variable {I : Type} {X : I → Cx} {P : Program} {w : World} {K : PySem.W.Frag} {mg : Str → Option Value} {base : Heap} {k : Nat}
def eMk (C : Addr) (F : Fn) (g : AF) (dds : List D) : EF := fun δ M => match g δ M with
  | some (ds, M1) => (match F (.ref M1.length :: (ds ++ dds)) (M1 ++ [MO.exo C none]) with
    | some (.non, M2) => some (.ref M1.length, M2)
    | _ => none)
  | none => none
/-- the class is called: a new exception, then its __init__ -/
theorem mk_call {Y : Cx} {pins : List (Addr × Obj)} {σ : L2.St} {H : Hp} {s : Shared} {Q : VK} {C fI : Addr} {fd : FuncData} {ps : List Str} {F : Fn} {us dsv : List Value} {vs dvs : List V} {B newId initId : String} {bmB : List Value} {kf : Nat} (T : ExG Y.K C B newId initId bmB)
    (iC : PySem.W.findIn Y.K (.ref C) "__init__" = some (some (.ref fI))) (tI : PySem.W.typeIn Y.K (.ref fI) = some (.type "function")) (h : DFn Y.prog Y.w Y.K Y.mg Y.base kf fI fd ps F) (room : Room (kf + 1) Y.A) (grd : Y.A.guards = some [])
    (J : Inv Y pins σ H s) (hb : Binds Y.K fd ps dsv) (r : Vals vs us) (hd : Vals dvs dsv) (hz : vs.length ≤ 1000) (hl : (vs ++ dvs).length + 1 = ps.length) (q : ∀ a, H a = none → spD Y.K ps.length F (.ref a :: (vs ++ dvs)) (upd H a (exo a C none)) (fun v H2 => v = .non ∧ Q (.ref a) H2)) :
    wpAny (model Y.prog Y.w) Y.A (call (.ref C) us) (EP Y pins σ Q) Y.xe s := by
  obtain ⟨nm, N, qn, bs, bm, hdct, sn, sub, ab, col, dd, k0, k1, k2, k3, k5, hC, hct⟩ := PySem.W.excInit_of J.kIn T.ini
  obtain ⟨hA, g, dr, tk, os⟩ := s
  have new : H (hA.objs.size + 1) = none := J.hok.fresh (Nat.le_succ _)
  have up : ∀ b o, hA.get? b = some o → ((hA.push (PySem.W.kdv_tup us)).push (PySem.HandSPX.excO C hA.objs.size)).get? b = some o := fun b o e => Heap.get?_push_of_some _ (Heap.get?_push_of_some _ e)
  have atE : ((hA.push (PySem.W.kdv_tup us)).push (PySem.HandSPX.excO C hA.objs.size)).get? (hA.objs.size + 1) = some (PySem.HandSPX.excO C hA.objs.size) := by heap_get
  have J2 : Inv Y pins σ (upd H (hA.objs.size + 1) (exo (hA.objs.size + 1) C none)) ⟨(hA.push (PySem.W.kdv_tup us)).push (PySem.HandSPX.excO C hA.objs.size), g, dr, tk, os⟩ :=
    J.laid (t' := tk) (a := hA.objs.size + 1) (o := exo (hA.objs.size + 1) C none) up (Nat.le_succ _) (exo_ok atE)
  have rel : Vals (V.ref (hA.objs.size + 1) :: (vs ++ dvs)) (Value.ref (hA.objs.size + 1) :: (us ++ dsv)) := .cons rfl (r.append hd)
  have few : us.length ≤ sizeLine := by
    rw [← Paired.length r, sizeLine_eq]
    omega
  have le : (Value.ref (hA.objs.size + 1) :: us ++ dsv).length = ps.length := by
    have e := rel.length
    rw [List.length_cons] at e
    rw [← hl]
    exact e.symm
  refine wpAny_call (PySem.HandSPX.call_own T.base hct hC (PySem.W.looks_findIn J.kIn iC) (fun self => PySem.W.bind_fn J.kIn self tI) few
    (codeAny_mono (h.run _ Y.stack _ _ ⟨Value.ref (hA.objs.size + 1) :: us, []⟩ (Value.ref (hA.objs.size + 1) :: (us ++ dsv)) _ _ (room.make C us []) ?_ (J2.env0.make C us []) (hb _ (Value.ref (hA.objs.size + 1) :: us) J2.kIn le) rel (q _ new)) fun o s' ho => ?_))
  · unfold Around.under
    dsimp only
    rw [grd]
    rfl
  · match o, ho with
    | .ok (.ret u), ho =>
      obtain ⟨v, H2, J3, rv, ev, q3⟩ := J2.after ho
      subst ev
      exact ⟨rv, .ref (hA.objs.size + 1), H2, J3, rfl, q3⟩
    | .ok .next, ho => exact False.elim ho
    | .ok .brk, ho => exact False.elim ho
    | .ok .cont, ho => exact False.elim ho
    | .error _, ho => exact False.elim ho
/-- C(e, ..), dvs the defaults that fill up -/
theorem DE.mkG (c : Ctx X P w K mg base k) {x : Str} {p pos : Pos} {e : Expr} {es : List Expr} {g : AF} {C fI : Addr} {fd : FuncData} {ps : List Str} {F : Fn} {kf : Nat} {dvs : List V} {dds : List D} {dsv : List Value} {B newId initId : String} {bmB : List Value} (T : ExG K C B newId initId bmB)
    (iC : PySem.W.findIn K (.ref C) "__init__" = some (some (.ref fI))) (tI : PySem.W.typeIn K (.ref fI) = some (.type "function")) (h : DFn P w K mg base kf fI fd ps F) (hk : kf + 1 ≤ k) (hm : mg x = some (.ref C)) (hb : Binds K fd ps dsv) (hd : Vals dvs dsv) (hr : ∀ B ι, RepL K B ι dvs dds)
    (hn : (e :: es).length + dds.length + 1 = ps.length) (hz : (e :: es).length ≤ 1000) (ha : DA X K (e :: es) g) (hlen : ∀ δ M ds M', g δ M = some (ds, M') → ds.length = (e :: es).length) (hg : ∀ i, Gl (X i) x := by intro _; rfl)
    (hdbg : (x == ("__debug__" : Str)) = false := by decide) (he : ∀ i, starEach (e :: es) (X i).env = (false, eval e (X i).env) :: starEach es (X i).env := by intro _; rfl) (hpl : ∀ i, (backTo pos (starEach es (X i).env)).any (·.1) = false := by intro _; rfl) :
    DE X K (.Call (.Name x p) (e :: es) [] pos) (eMk C F g dds) := by
  obtain ⟨t, pa, ra⟩ := ha.go
  refine ⟨fun σ H Q => t σ H fun vs H1 => vs.length = (e :: es).length ∧ ∀ a, H1 a = none → spD K ps.length F (.ref a :: (vs ++ dvs)) (upd H1 a (exo a C none)) (fun v H2 => v = .non ∧ Q (.ref a) H2), fun i => ⟨fun pins s σ H Q J q => ?_⟩, fun σ W δ M d M' Q w s ev q => ?_⟩
  · have cK := c.K i
    refine wpAny_Call_Name_kw (ld_glob J (hg i) (by rw [c.mg i]; exact hm) ?_ hdbg)
    refine PySem.W.callWith_K (h₀ := (X i).base) J.ok.mod.kin (by rw [cK]; exact T.keep) (thn ((pa i).run pos pins s σ H _ J q) fun us s1 ⟨vs, H1, J1, r, hv, q1⟩ => ⟨J1.kIn, ?_⟩) (he i) (hpl i)
    have h' : DFn (X i).prog (X i).w (X i).K (X i).mg (X i).base kf fI fd ps F := by
      rw [c.prog i, c.wd i, c.K i, c.mg i, c.base i]
      exact h
    have ld : dvs.length = dds.length := (hr (fun _ => none) []).len
    exact mk_call (by rw [cK]; exact T) (by rw [cK]; exact iC) (by rw [cK]; exact tI) h' ((c.room i).mono hk) (c.grd i) J1 (by rw [cK]; exact hb) r hd (by rw [hv]; exact hz) (by rw [List.length_append, hv, ld]; exact hn) (by rw [cK]; exact q1)
  · unfold eMk at ev
    split at ev
    · rename_i ds M1 h1
      refine ra σ W δ M ds M1 _ w s h1 fun vs W1 l1 w1 r1 => ⟨by rw [r1.len, hlen _ _ _ _ h1], fun a hn1 => ?_⟩
      split at ev
      · rename_i M2 h2
        cases ev
        have w2 := Wd.new_ok (m := .exo C none) (o := exo a C none) w1 hn1 .exo
        have self : Rep K (W1.new a (exo a C none)).B (W1.new a (exo a C none)).ι (.ref a) (.ref M1.length) := .ref (by
          show (W1.ι ++ [a])[M1.length]? = some a
          rw [← w1.len]
          simp)
        refine ⟨W1.new a (exo a C none), M1 ++ [.exo C none], .ref M1.length :: (ds ++ dds), .non, _, rfl, w2, .cons self ((r1.le Wd.new_le).append (hr _ _)), ?_, h2, fun v W3 l3 w3 r3 => ?_⟩
        · rw [List.length_cons, List.length_append, hlen _ _ _ _ h1]
          exact hn
        · cases r3
          exact ⟨rfl, q _ W3 ((l1.trans Wd.new_le).trans l3) w3 (self.le l3)⟩
      · cases ev
    · cases ev
end
end Pl

/-! PlM: the class called with names. -/
namespace PySem
namespace Ob
open PySem.W PySem.Calls PyProof.Rows PySem.HandSPX
section
variable {M : Model} {prog : Program} {w : World} {A : Around} {E : Value → Shared → Prop} {R : Result → Shared → Prop} {h : Heap} {g : Array GenState} {d : Drawn} {t : Nat} {os : OsState} {nm qn : Str} {C N : Addr} {bs bm bmB : List Value} {hdct : Bool} {sn : List Str} {sub : List Value} {ab : Bool} {col : Option Bool} {dd : Option Addr} {k0 k1 k2 k3 k5 : Option Value} {B newId initId : String}
theorem kw_check (F : ExcBaseFacts B newId initId bmB) (hT : ∀ X : String, bm.contains (.type X) = bmB.contains (.type X)) {rest : List Value} {kw : List (Str × Value)} {Q : Unit → Shared → Prop}
    (hC : h.get? C = some (excClassObj nm qn C N bs bm hdct sn sub ab col dd k0 k1 k2 k3 k5 newId)) (hq : Q () ⟨h, g, d, t, os⟩) : wpAny M A (checkBuiltinCall newId ⟨.ref C :: rest, kw⟩) Q E ⟨h, g, d, t, os⟩ := by
  have has : (Value.ref C :: bm).contains (.type B) = true := by rw [List.contains_cons, hT, F.hasB, Bool.or_true]
  have st := F.noStar
  simp only [checkBuiltinCall, F.newKind, F.newSplit, F.newRow]
  repeat (first | refine wpAny_loadPart_at hC ?_ | (refine wpAny_isSubtype_exc hC ?_; rw [has]) | refine wpAny_staticBase_exc hC ?_ | refine wpAny_madeBy_exc hC ?_ | simp only [bne_self_eq_false, Bool.false_eq_true, if_false] | wp_step)
  exact hq
theorem kw_new (F : ExcBaseFacts B newId initId bmB) (hT : ∀ X : String, bm.contains (.type X) = bmB.contains (.type X)) {rest : List Value} {kw : List (Str × Value)}
    (hC : h.get? C = some (excClassObj nm qn C N bs bm hdct sn sub ab col dd k0 k1 k2 k3 k5 newId))
    (hq : R (.ok (.ret (.ref (h.objs.size + 1)))) ⟨(h.push (W.kdv_tup rest)).push (excO C h.objs.size), g, d, t, os⟩) (few : rest.length ≤ sizeLine) :
    codeAny (model prog w) A (.builtin newId ⟨.ref C :: rest, kw⟩) R ⟨h, g, d, t, os⟩ := by
  have ends := F.ends
  have has : (Value.ref C :: bm).contains (.type B) = true := by rw [List.contains_cons, hT, F.hasB, Bool.or_true]
  have hcA : (Value.ref C :: bm).contains (.type "AttributeError") = false := by rw [List.contains_cons, hT, F.noAttr]; rfl
  have hcN : (Value.ref C :: bm).contains (.type "NameError") = false := by rw [List.contains_cons, hT, F.noName]; rfl
  refine codeAny_builtinAt F.entry ?_
  unfold Builtin.«BaseException.__new__»
  refine wpAt_bind ?_
  show wpAt _ _ _ (stack >>= _) _ _ _
  refine wpAt_bind (wpAt_stack fun p below => wpAt_of_wpAny ?_)
  wp_walk
  refine wpAt_of_wpAny ?_
  rw [F.owner]
  repeat (first | with_reducible refine wpAny_madeHere_exc F.canon hC ?_ | with_reducible refine wpAny_loadPart_at hC ?_ | (with_reducible refine wpAny_isSubtype_exc hC ?_; first | rw [has] | rw [hcA] | rw [hcN]) | wp_step)
  show R _ _
  rw [Heap.size_push]
  exact hq
theorem kw_type_call (F : ExcBaseFacts B newId initId bmB) (hT : ∀ X : String, bm.contains (.type X) = bmB.contains (.type X)) {rest : List Value} {kw : List (Str × Value)} {fI : Addr} {Q : Fin → Shared → Prop}
    (hC : h.get? C = some (excClassObj nm qn C N bs bm hdct sn sub ab col dd k0 k1 k2 k3 k5 newId))
    (ini : W.Looks (model prog w) h (typeLookup (.ref C) "__init__") (some (.ref fI))) (bd : ∀ self, W.Looks (model prog w) h (bindSpecial (.ref fI) self) (.ref fI, [self])) (few : rest.length ≤ sizeLine)
    (hq : codeAny (model prog w) A (.call (.ref fI) ⟨.ref (h.objs.size + 1) :: rest, kw⟩)
      (fun r s' => match r with | .ok (.ret v) => v = .none ∧ Q (.done (.ret (.ref (h.objs.size + 1)))) s' | .ok _ => False | .error e => E e s') ⟨(h.push (W.kdv_tup rest)).push (excO C h.objs.size), g, d, t, os⟩) :
    wpAny (model prog w) A (Builtin.«type.__call__» ⟨.ref C :: rest, kw⟩) Q E ⟨h, g, d, t, os⟩ := by
  repeat (first | with_reducible refine wpAny_loadPart_at hC ?_ | with_reducible refine wpAny_madeBy_exc hC ?_ | wp_step)
  refine codeAny_call_builtin_code (Code.quiet_builtin _ F.quiet) (kw_check F hT hC (kw_new F hT hC ?_ few))
  show wpAny _ _ _ _ _ _
  have up : ∀ b o, h.get? b = some o → ((h.push (W.kdv_tup rest)).push (excO C h.objs.size)).get? b = some o := fun b o e => Heap.get?_push_of_some _ (Heap.get?_push_of_some _ e)
  have cl1 := up _ _ hC
  have obj : ((h.push (W.kdv_tup rest)).push (excO C h.objs.size)).get? (h.objs.size + 1) = some (excO C h.objs.size) := by heap_get
  have own : (Value.ref C :: bm).contains (.ref C) = true := by simp
  have i1 := ini.keeps up
  have b1 := (bd (.ref (h.objs.size + 1))).keeps up
  unfold isInstance
  repeat (first | with_reducible refine wpAny_loadPart_at obj ?_ | (with_reducible refine wpAny_isSubtype_exc cl1 ?_; rw [own]) | wp_step)
  show wpAny _ _ (typeLookup (.ref C) _) _ _ _
  refine i1.at (wpAny_holding (wpAny_bind (b1.at ?_)))
  refine wpAny_bind (wpAny_call (codeAny_mono hq fun r s' z => ?_))
  rcases r with e | (v | _ | _ | _) <;> first | exact z | exact z.elim | skip
  obtain ⟨rfl, z⟩ := z
  first
    | exact wpAny_pure (wpAny_pure z)
    | (wp_walk; exact z)
theorem kw_call (F : ExcBaseFacts B newId initId bmB) (hT : ∀ X : String, bm.contains (.type X) = bmB.contains (.type X)) {rest : List Value} {kw : List (Str × Value)} {fI : Addr}
    (hC : h.get? C = some (excClassObj nm qn C N bs bm hdct sn sub ab col dd k0 k1 k2 k3 k5 newId))
    (ini : W.Looks (model prog w) h (typeLookup (.ref C) "__init__") (some (.ref fI))) (bd : ∀ self, W.Looks (model prog w) h (bindSpecial (.ref fI) self) (.ref fI, [self])) (few : rest.length ≤ sizeLine)
    (hq : codeAny (model prog w) (A.under (.builtin "type.__call__" ⟨.ref C :: rest, kw⟩)) (.call (.ref fI) ⟨.ref (h.objs.size + 1) :: rest, kw⟩) (W.InitBack (h.objs.size + 1) R) ⟨(h.push (W.kdv_tup rest)).push (excO C h.objs.size), g, d, t, os⟩) :
    codeAny (model prog w) A (.call (.ref C) ⟨rest, kw⟩) R ⟨h, g, d, t, os⟩ := by
  have f1 := tc_lookup
  have f2 := tc_bind (.ref C)
  have ty : (⟨h, g, d, t, os⟩ : Shared).TypeIs (.ref C) "type" := ⟨_, hC, rfl⟩
  refine codeAny_of_tree ?_
  show wpAny _ _ (callAny (.ref C) _) _ _ _
  repeat (any_goals (first | assumption | with_reducible refine wpAny_loadPart_at hC ?_ | wp_step))
  refine ⟨rfl, codeAny_call_builtin_at (Code.quiet_builtin _ (by decide +kernel)) entry_typeCall (wpAny_check_type_call_sub hC (kw_type_call F hT hC ini bd few (codeAny_mono hq fun r s' z => ?_)))⟩
  rcases r with e | (v | _ | _ | _) <;> exact z
end
end Ob
end PySem
namespace Pl
open PySem PySem.Spec PyProof.Rows L2
section
variable {I : Type} {X : I → Cx} {P : Program} {w : World} {K : PySem.W.Frag} {mg : Str → Option Value} {base : Heap} {k : Nat}
/-- the class is called with names, too -/
theorem mk_callK {Y : Cx} {pins : List (Addr × Obj)} {σ : L2.St} {H : Hp} {s : Shared} {Q : VK} {C fI : Addr} {fd : FuncData} {ps ks : List Str} {F : Fn} {us ws : List Value} {vs zs : List V} {B newId initId : String} {bmB : List Value} {kf n : Nat} {gu : List Value → List Value → List Value} {gV : List V → List V → List V} (T : ExG Y.K C B newId initId bmB)
    (iC : PySem.W.findIn Y.K (.ref C) "__init__" = some (some (.ref fI))) (tI : PySem.W.typeIn Y.K (.ref fI) = some (.type "function")) (h : DFn Y.prog Y.w Y.K Y.mg Y.base kf fI fd ps F) (room : Room (kf + 1) Y.A) (grd : Y.A.guards = some [])
    (J : Inv Y pins σ H s) (hb : KBn Y.K fd ps (n + 1) ks gu gV) (r : Vals vs us) (rz : Vals zs ws) (hz : vs.length ≤ 1000) (l1 : vs.length = n) (l2 : zs.length = ks.length) (q : ∀ a, H a = none → spD Y.K ps.length F (gV (.ref a :: vs) zs) (upd H a (exo a C none)) (fun v H2 => v = .non ∧ Q (.ref a) H2)) :
    wpAny (model Y.prog Y.w) Y.A (call (.ref C) us (ks.zip ws)) (EP Y pins σ Q) Y.xe s := by
  obtain ⟨nm, N, qn, bs, bm, hdct, sn, sub, ab, col, dd, k0, k1, k2, k3, k5, hC, hct⟩ := PySem.W.excInit_of J.kIn T.ini
  obtain ⟨hA, g, dr, tk, os⟩ := s
  have new : H (hA.objs.size + 1) = none := J.hok.fresh (Nat.le_succ _)
  have up : ∀ b o, hA.get? b = some o → ((hA.push (PySem.W.kdv_tup us)).push (PySem.HandSPX.excO C hA.objs.size)).get? b = some o := fun b o e => Heap.get?_push_of_some _ (Heap.get?_push_of_some _ e)
  have atE : ((hA.push (PySem.W.kdv_tup us)).push (PySem.HandSPX.excO C hA.objs.size)).get? (hA.objs.size + 1) = some (PySem.HandSPX.excO C hA.objs.size) := by heap_get
  have J2 : Inv Y pins σ (upd H (hA.objs.size + 1) (exo (hA.objs.size + 1) C none)) ⟨(hA.push (PySem.W.kdv_tup us)).push (PySem.HandSPX.excO C hA.objs.size), g, dr, tk, os⟩ :=
    J.laid (t' := tk) (a := hA.objs.size + 1) (o := exo (hA.objs.size + 1) C none) up (Nat.le_succ _) (exo_ok atE)
  have self : Vals (V.ref (hA.objs.size + 1) :: vs) (Value.ref (hA.objs.size + 1) :: us) := .cons rfl r
  have few : us.length ≤ sizeLine := by
    rw [← Paired.length r, sizeLine_eq]
    omega
  have ul : (Value.ref (hA.objs.size + 1) :: us).length = n + 1 := by
    rw [List.length_cons, ← Paired.length r, l1]
  refine wpAny_call (PySem.Ob.kw_call T.base hct hC (PySem.W.looks_findIn J.kIn iC) (fun self => PySem.W.bind_fn J.kIn self tI) few
    (codeAny_mono (h.run _ Y.stack _ _ ⟨Value.ref (hA.objs.size + 1) :: us, ks.zip ws⟩ (gu (Value.ref (hA.objs.size + 1) :: us) ws) _ _ (room.make C us (ks.zip ws)) ?_ (J2.env0.make C us (ks.zip ws)) (hb.to _ _ ws J2.kIn ul ((Paired.length rz).symm.trans l2)) (hb.rel self rz) (q _ new)) fun o s' ho => ?_))
  · unfold Around.under
    dsimp only
    rw [grd]
    rfl
  · match o, ho with
    | .ok (.ret u), ho =>
      obtain ⟨v, H2, J3, rv, ev, q3⟩ := J2.after ho
      subst ev
      exact ⟨rv, .ref (hA.objs.size + 1), H2, J3, rfl, q3⟩
    | .ok .next, ho => exact False.elim ho
    | .ok .brk, ho => exact False.elim ho
    | .ok .cont, ho => exact False.elim ho
    | .error _, ho => exact False.elim ho
/-- C(): all by its defaults -/
theorem DE.mkG0 (c : Ctx X P w K mg base k) {x : Str} {p pos : Pos} {C fI : Addr} {fd : FuncData} {ps : List Str} {F : Fn} {kf : Nat} {dvs : List V} {dds : List D} {dsv : List Value} {B newId initId : String} {bmB : List Value} (T : ExG K C B newId initId bmB)
    (iC : PySem.W.findIn K (.ref C) "__init__" = some (some (.ref fI))) (tI : PySem.W.typeIn K (.ref fI) = some (.type "function")) (h : DFn P w K mg base kf fI fd ps F) (hk : kf + 1 ≤ k) (hm : mg x = some (.ref C)) (hb : Binds K fd ps dsv) (hd : Vals dvs dsv) (hr : ∀ B ι, RepL K B ι dvs dds)
    (hn : dds.length + 1 = ps.length) (hg : ∀ i, Gl (X i) x := by intro _; rfl) (hdbg : (x == ("__debug__" : Str)) = false := by decide) :
    DE X K (.Call (.Name x p) [] [] pos) (eMk C F aNil dds) := by
  refine ⟨fun σ H Q => ∀ a, H a = none → spD K ps.length F (.ref a :: dvs) (upd H a (exo a C none)) (fun v H2 => v = .non ∧ Q (.ref a) H2), fun i => ⟨fun pins s σ H Q J q => ?_⟩, fun σ W δ M d M' Q w s ev q => ?_⟩
  · have cK := c.K i
    refine wpAny_Call_Name_kw (ld_glob J (hg i) (by rw [c.mg i]; exact hm) ?_ hdbg)
    have h' : DFn (X i).prog (X i).w (X i).K (X i).mg (X i).base kf fI fd ps F := by
      rw [c.prog i, c.wd i, c.K i, c.mg i, c.base i]
      exact h
    have ld : dvs.length = dds.length := (hr (fun _ => none) []).len
    refine PySem.W.callWith_K0 (J.tok _).kIn (by rw [cK]; exact T.keep) ?_
    exact mk_call (vs := []) (us := []) (by rw [cK]; exact T) (by rw [cK]; exact iC) (by rw [cK]; exact tI) h' ((c.room i).mono hk) (c.grd i) (J.tok _) (by rw [cK]; exact hb) .nil hd (Nat.zero_le _) (by rw [List.nil_append, ld]; exact hn) (by rw [cK]; exact q)
  · unfold eMk aNil at ev
    dsimp only at ev
    refine fun a hn1 => ?_
    split at ev
    · rename_i M2 h2
      cases ev
      have w2 := Wd.new_ok (m := .exo C none) (o := exo a C none) w hn1 .exo
      have self : Rep K (W.new a (exo a C none)).B (W.new a (exo a C none)).ι (.ref a) (.ref M.length) := .ref (by
        show (W.ι ++ [a])[M.length]? = some a
        rw [← w.len]
        simp)
      refine ⟨W.new a (exo a C none), M ++ [.exo C none], .ref M.length :: ([] ++ dds), .non, _, rfl, w2, .cons self (hr _ _), by rw [List.length_cons]; exact hn, h2, fun v W3 l3 w3 r3 => ?_⟩
      cases r3
      exact ⟨rfl, q _ W3 (Wd.new_le.trans l3) w3 (self.le l3)⟩
    · cases ev
def eMkK (C : Addr) (F : Fn) (gk : AF) (gD : List D → List D → List D) : EF := fun δ M => match gk δ M with
  | some (zs, M1) => (match F (gD [.ref M1.length] zs) (M1 ++ [MO.exo C none]) with
    | some (.non, M2) => some (.ref M1.length, M2)
    | _ => none)
  | none => none
/-- C(f = e, ..) -/
theorem DE.mkGK (c : Ctx X P w K mg base k) {x : Str} {p pos : Pos} {kws : List Keyword} {gk : AF} {C fI : Addr} {fd : FuncData} {ps ks : List Str} {F : Fn} {kf : Nat} {gu : List Value → List Value → List Value} {gV : List V → List V → List V} {gD : List D → List D → List D} {B newId initId : String} {bmB : List Value} (T : ExG K C B newId initId bmB)
    (iC : PySem.W.findIn K (.ref C) "__init__" = some (some (.ref fI))) (tI : PySem.W.typeIn K (.ref fI) = some (.type "function")) (h : DFn P w K mg base kf fI fd ps F) (hk : kf + 1 ≤ k) (hm : mg x = some (.ref C)) (hb : KBn K fd ps (0 + 1) ks gu gV) (hr : ∀ B ι vs ds zs es, RepL K B ι vs ds → RepL K B ι zs es → RepL K B ι (gV vs zs) (gD ds es))
    (hn : ∀ ds zs : List D, ds.length = 1 → zs.length = ks.length → (gD ds zs).length = ps.length) (hkw : DK X K kws gk ks.length) (hall : ∀ i, (backToKw pos (keywordEach kws (X i).env)).all (·.1.isSome) = true := by intro _; rfl) (hks : ∀ i, (backToKw pos (keywordEach kws (X i).env)).filterMap (·.1) = ks := by intro _; rfl)
    (hg : ∀ i, Gl (X i) x := by intro _; rfl) (hdbg : (x == ("__debug__" : Str)) = false := by decide) (hpl : ∀ i, ((backTo pos (starEach [] (X i).env)).any (·.1) || (backToKw pos (keywordEach kws (X i).env)).any (·.1.isNone)) = false := by intro _; rfl) :
    DE X K (.Call (.Name x p) [] kws pos) (eMkK C F gk gD) := by
  obtain ⟨tk, pk, rk⟩ := hkw.go
  refine ⟨fun σ H Q => tk σ H fun zs H2 => zs.length = ks.length ∧ ∀ a, H2 a = none → spD K ps.length F (gV [.ref a] zs) (upd H2 a (exo a C none)) (fun v H3 => v = .non ∧ Q (.ref a) H3), fun i => ⟨fun pins s σ H Q J q => ?_⟩, fun σ W δ M d M' Q w s ev q => ?_⟩
  · have cK := c.K i
    refine wpAny_Call_Name_kw (ld_glob J (hg i) (by rw [c.mg i]; exact hm) ?_ hdbg)
    have h' : DFn (X i).prog (X i).w (X i).K (X i).mg (X i).base kf fI fd ps F := by
      rw [c.prog i, c.wd i, c.K i, c.mg i, c.base i]
      exact h
    refine PySem.W.callWith_KW0 (h₀ := (X i).base) J.ok.mod.kin (by rw [cK]; exact T.keep) (hall i) ?_ (hpl i)
    refine thn ((pk i).run pos pins _ σ H _ (J.tok _) q) fun ws s2 ⟨zs, H2, J2, rz, l2, q2⟩ => ⟨J2.kIn, ?_⟩
    rw [hks i]
    exact mk_callK (vs := []) (us := []) (n := 0) (by rw [cK]; exact T) (by rw [cK]; exact iC) (by rw [cK]; exact tI) h' ((c.room i).mono hk) (c.grd i) J2 (by rw [cK]; exact hb) .nil rz (Nat.zero_le _) rfl l2 (by rw [cK]; exact q2)
  · unfold eMkK at ev
    split at ev
    · rename_i zs M1 h1
      refine rk σ W δ M zs M1 _ w s h1 fun vs W1 l1 w1 r1 => ⟨by rw [r1.len, hkw.len _ _ _ _ h1], fun a hn1 => ?_⟩
      split at ev
      · rename_i M2 h2
        cases ev
        have w2 := Wd.new_ok (m := .exo C none) (o := exo a C none) w1 hn1 .exo
        have self : Rep K (W1.new a (exo a C none)).B (W1.new a (exo a C none)).ι (.ref a) (.ref M1.length) := .ref (by
          show (W1.ι ++ [a])[M1.length]? = some a
          rw [← w1.len]
          simp)
        refine ⟨W1.new a (exo a C none), M1 ++ [.exo C none], gD [.ref M1.length] zs, .non, _, rfl, w2, hr _ _ _ _ _ _ (.cons self .nil) (r1.le Wd.new_le), hn _ _ rfl (hkw.len _ _ _ _ h1), h2, fun v W3 l3 w3 r3 => ?_⟩
        cases r3
        exact ⟨rfl, q _ W3 ((l1.trans Wd.new_le).trans l3) w3 (self.le l3)⟩
      · cases ev
    · cases ev
end
end Pl

/-! PlP: isinstance of an own exception with fields. -/
namespace Pl
open PySem PySem.Spec PyProof.Rows L2
section
variable {I : Type} {X : I → Cx} {P : Program} {w : World} {K : PySem.W.Frag} {mg : Str → Option Value} {base : Heap} {k : Nat}
def gIsiO (isa : Addr → Value → Option Bool) : GL := fun ds M => match ds with
  | [.ref n, c] => (match M[n]?, clV c with
    | some (.exo C (some m)), some cv => (match M[m]? with
      | some (.exd _) => (match isa C cv with
        | some b => some (.bl b, M)
        | none => none)
      | _ => none)
    | _, _ => none)
  | _ => none
def rIsiO (K : PySem.W.Frag) (xs : List V) (H : Hp) (Q : VK) : Prop := ∃ (a C d : Addr) (fs : List (Str × V)) (c : V) (cv : Value) (b : Bool), xs = [.ref a, c] ∧ H a = some (exo a C (some d)) ∧ H d = some (exd d fs) ∧ ExcC K C ∧ (∀ u, RelV c u → u = cv) ∧ PySem.W.kitOne K (.ref C) cv = some b ∧ Q (.bl b) H
theorem call_isiO {Y : Cx} : CallR Y (.builtin "isinstance") (rIsiO Y.K) := fun pins s σ H xs us Q J r h => by
  obtain ⟨a, D, d, fs, c, cv, b, rfl, hH, hd, E, hcv, e, q⟩ := h
  cases r with
  | cons rx rr =>
    cases rr with
    | cons rt rr =>
      cases rr
      cases rx
      have ec := hcv _ rt
      subst ec
      obtain ⟨t1, at0⟩ := exo_at J.hok hH
      obtain ⟨mA, hns, _⟩ := exd_at J.hok hd
      obtain ⟨od, ho2, _⟩ := lookIn_ns hns
      have inst : PySem.W.InstAt s.heap a { cls := .ref D, dict := some d, data := .fields #[.ref t1, .none, .none, .none, .bool false, .none] } D (some od) := ⟨at0, rfl, rfl, ho2⟩
      exact PySem.W.kia_one (PySem.W.kitx_exc (by
        have z := E.hd
        unfold PySem.W.hasDictIn at z
        cases q2 : PySem.W.clsIn Y.K D with
        | none =>
          rw [q2] at z
          cases z
        | some cd => rfl) E.hg E.hk E.hs E.ha E.hn E.ht E.hm) J.kIn inst e (fun z => nomatch z) fun tk => ⟨.bl b, H, J.kept (t' := tk) fun _ _ z => z, rfl, q⟩
theorem cIsiO (c : Ctx X P w K mg base k) {isa : Addr → Value → Option Bool} (hi : ∀ C v b, isa C v = some b → ExcC K C ∧ PySem.W.kitOne K (.ref C) v = some b) : CalF X K (.builtin "isinstance") (gIsiO isa) := by
  refine ⟨rIsiO K, fun i pins s σ H xs us Q J hv h => ?_, fun W M vs ds z M' Q w rp e q => ?_⟩
  · refine call_isiO pins s σ H xs us Q J hv ?_
    rw [c.K i]
    exact h
  · unfold gIsiO at e
    split at e
    · rename_i n cd
      split at e
      · rename_i C m cv hm hc
        split at e
        · rename_i fs hf
          split at e
          · rename_i b hb
            cases e
            cases rp with
            | cons r1 r2 =>
              cases r2 with
              | cons r2 r3 =>
                cases r3
                obtain ⟨a, d, vs, rfl, ha, lv, hd, rf⟩ := exoD_live w r1 hm hf
                refine ⟨a, C, d, vs, _, cv, b, rfl, ha, hd, (hi _ _ _ hb).1, fun u ru => ?_, (hi _ _ _ hb).2, q _ W (.refl W) w (.bl _)⟩
                cases r2 with
                | ob a =>
                  cases hc
                  cases ru
                  rfl
                | ty t =>
                  cases hc
                  cases ru
                  rfl
                | _ => cases hc
          · cases e
        · cases e
      · cases e
    · cases e
/-! ### a class without its own __init__ -/
def eMkT (C : Addr) (f : EF) : EF := fun δ M => match f δ M with
  | some (_, M1) => some (.ref M1.length, M1 ++ [MO.exn C])
  | none => none
theorem DE.mkT (c : Ctx X P w K mg base k) {x : Str} {e : Expr} {p pos : Pos} {f : EF} {C : Addr} {B newId initId : String} {bmB : List Value} (F : ExcBaseFacts B newId initId bmB) (ec : PySem.W.excIn K C bmB newId = true) (hm : mg x = some (.ref C)) (kp : PySem.W.keepIn K (.ref C) = true)
    (a : DE X K e f) (hg : ∀ i, Gl (X i) x := by intro _; rfl) (hs : ∀ i, starEach [e] (X i).env = (false, eval e (X i).env) :: starEach [] (X i).env := by intro _; rfl) (hdb : (x == ("__debug__" : Str)) = false := by decide) :
    DE X K (.Call (.Name x p) [e] [] pos) (eMkT C f) := by
  obtain ⟨t, pe, re⟩ := a.go
  refine ⟨fun σ H Q => t σ H fun _ H1 => ∀ a, H1 a = none → Q (.ref a) (upd H1 a (ExO (.ref C) a)), fun i => ?_, fun σ W δ M d M' Q w s ev q => ?_⟩
  · exact pe_exc1 (X := X i) F (by rw [c.K i]; exact ec) (by rw [c.mg i]; exact hm) (by rw [c.K i]; exact kp) (hg i) (pe i) (hs i) hdb
  · unfold eMkT at ev
    split at ev
    · rename_i d1 M1 h1
      cases ev
      refine re σ W δ M d1 M1 _ w s h1 fun v W1 l1 w1 r1 a hn => ?_
      exact q _ (W1.new a (ExO (.ref C) a)) (l1.trans Wd.new_le) (Wd.new_ok w1 hn .exn) (.ref (by
        show (W1.ι ++ [a])[M1.length]? = some a
        rw [← w1.len]
        simp))
    · cases ev
/-! ### isinstance of either -/
def gIsiA (isa : Addr → Value → Option Bool) : GL := fun ds M => match ds with
  | [.ref n, c] => (match M[n]?, clV c with
    | some (.exn C), some cv => (match isa C cv with
      | some b => some (.bl b, M)
      | none => none)
    | _, _ => gIsiO isa [.ref n, c] M)
  | _ => none
def rIsiN (K : PySem.W.Frag) (xs : List V) (H : Hp) (Q : VK) : Prop := ∃ (a C : Addr) (c : V) (cv : Value) (b : Bool), xs = [.ref a, c] ∧ H a = some (ExO (.ref C) a) ∧ ExcC K C ∧ (∀ u, RelV c u → u = cv) ∧ PySem.W.kitOne K (.ref C) cv = some b ∧ Q (.bl b) H
theorem call_isiN {Y : Cx} : CallR Y (.builtin "isinstance") (rIsiN Y.K) := fun pins s σ H xs us Q J r h => by
  obtain ⟨a, D, c, cv, b, rfl, hH, E, hcv, e, q⟩ := h
  cases r with
  | cons rx rr =>
    cases rr with
    | cons rt rr =>
      cases rr
      cases rx
      have ec := hcv _ rt
      subst ec
      obtain ⟨⟨oe, vs, hget, hz, hv, _, _⟩, _, _⟩ := J.hok a _ hH
      have inst : PySem.W.InstAt s.heap a oe D none := by
        obtain ⟨oc, od, oda, osl⟩ := oe
        obtain ⟨h1, h2⟩ := hz
        dsimp only at h1 h2 hv
        subst h1 h2 hv
        exact ⟨hget, rfl, rfl, trivial⟩
      exact PySem.W.kia_one (PySem.W.handS_kitx_exc E.hg E.hk E.hs E.hd E.ha E.hn E.ht E.hm) J.kIn inst e (fun z => nomatch z) fun tk => ⟨.bl b, H, J.kept (t' := tk) fun _ _ z => z, rfl, q⟩
theorem cIsiA (c : Ctx X P w K mg base k) {isa : Addr → Value → Option Bool} (hi : ∀ C v b, isa C v = some b → ExcC K C ∧ PySem.W.kitOne K (.ref C) v = some b) : CalF X K (.builtin "isinstance") (gIsiA isa) := by
  obtain ⟨r, hr, hq⟩ := (cIsiO c hi).go
  refine ⟨fun xs H Q => r xs H Q ∨ rIsiN K xs H Q, fun i pins s σ H xs us Q J hv h => ?_, fun W M vs ds z M' Q w rp e q => ?_⟩
  · rcases h with h | h
    · exact hr i pins s σ H xs us Q J hv h
    · refine call_isiN pins s σ H xs us Q J hv ?_
      rw [c.K i]
      exact h
  · unfold gIsiA at e
    split at e
    · rename_i n cd
      split at e
      · rename_i C cv hm hc
        split at e
        · rename_i b hb
          cases e
          cases rp with
          | cons r1 r2 =>
            cases r2 with
            | cons r2 r3 =>
              cases r3
              cases r1 with
              | ref hι =>
                obtain ⟨_, _, o, ho, ro⟩ := w.live _ _ _ ⟨hι, hm, fun z => by cases z⟩
                cases ro with
                | exn =>
                  refine .inr ⟨_, C, _, cv, b, rfl, ho, (hi _ _ _ hb).1, fun u ru => ?_, (hi _ _ _ hb).2, q _ W (.refl W) w (.bl _)⟩
                  cases r2 with
                  | ob a =>
                    cases hc
                    cases ru
                    rfl
                  | ty t =>
                    cases hc
                    cases ru
                    rfl
                  | _ => cases hc
        · cases e
      · exact .inl (hq W M vs _ z M' Q w rp e q)
    · cases e
end
end Pl

/-! PlQ: own exception classes as they are called: links. -/
namespace Pl
open PySem PySem.Spec PyProof.Rows L2
/-- the j-th row of a class -/
def memD (s : Stmt) (j : Nat) : Stmt := match s with
  | .ClassDef _ _ _ body _ _ _ _ _ _ _ => body.getD j s
  | s => s
theorem vals_take {vs : List V} {us : List Value} (n : Nat) (r : Vals vs us) : Vals (vs.take n) (us.take n) := by
  induction n generalizing vs us with
  | zero => exact .nil
  | succ n ih =>
    cases r with
    | nil => exact .nil
    | cons h t => exact .cons h (ih t)
section
variable {K : PySem.W.Frag} {x qual : Str} {params : Arguments} {body : List Stmt} {scope : Scope} {kws : List (Str × V)} {f : Addr} {fd : FuncData} {ps : List Str}
/-- all by names, no defaults -/
theorem kb_N (F : FunD K x qual params body scope [] kws f fd) (n : Nat) (ks : List Str) (g : {α : Type} → List α → List α → List α → List α)
    (hrel : ∀ {vs zs : List V} {us ws : List Value}, Vals vs us → Vals zs ws → Vals (g vs [] zs) (g us [] ws))
    (h : ∀ (kV doc pm : Value) (an : Option Addr) (cdv ct : Value) (us ws : List Value), us.length = n → ws.length = ks.length →
      bindArgs (PySem.W.fnOf x qual params body scope .none kV doc pm an cdv ct) ⟨us, ks.zip ws⟩ = pure (ps.zip (g us [] ws))) :
    KBn K fd ps n ks (fun us ws => g us [] ws) (fun vs zs => g vs [] zs) := by
  obtain ⟨oc, od, dV, kV, doc, pm, an, cdv, ct, osl, rfl, lk, hcd, hD, hK⟩ := F.ex
  rcases hD with ⟨_, rfl⟩ | ⟨e, _⟩
  · exact ⟨fun s us ws X l1 l2 => .of_eq (h kV doc pm an cdv ct us ws l1 l2), fun r1 r2 => hrel r1 r2⟩
  · exact absurd rfl e
end
open Classical in
noncomputable def isaOf (K : PySem.W.Frag) : Addr → Value → Option Bool := fun c v => if L2.ExcC K c then PySem.W.kitOne K (.ref c) v else none
theorem isaOf_ok {K : PySem.W.Frag} : ∀ C v b, isaOf K C v = some b → L2.ExcC K C ∧ PySem.W.kitOne K (.ref C) v = some b := fun C v b h => by
  unfold isaOf at h
  split at h
  · exact ⟨by assumption, h⟩
  · cases h
theorem isaOf_map {K : PySem.W.Frag} {C : Addr} {l : List Value} {bs : List (Option Bool)} (E : L2.ExcC K C) (h : l.map (PySem.W.kitOne K (.ref C)) = bs) : l.map (isaOf K C) = bs := by
  rw [← h]
  refine List.map_congr_left fun v _ => ?_
  unfold isaOf
  rw [if_pos E]
open Classical in
noncomputable def okfOf (K : PySem.W.Frag) : Addr → Str → Bool := fun c f => decide (OkF K c f)
theorem okfOf_ok {K : PySem.W.Frag} : ∀ C f, okfOf K C f = true → OkF K C f := fun C f h => @of_decide_eq_true _ (Classical.propDecidable _) h
theorem okfOf_eq {K : PySem.W.Frag} {C : Addr} {f : Str} (h : OkF K C f) : okfOf K C f = true := @decide_eq_true _ (Classical.propDecidable _) h
open Classical in
noncomputable def okgOf (K : PySem.W.Frag) : Addr → Str → Bool := fun c f => @decide (XfC K c ∧ PySem.W.findIn K (.ref c) f = some none) (Classical.propDecidable _)
theorem okgOf_ok {K : PySem.W.Frag} : ∀ C f, okgOf K C f = true → XfC K C ∧ PySem.W.findIn K (.ref C) f = some none := fun C f h => by
  exact @of_decide_eq_true _ (Classical.propDecidable _) h
theorem okgOf_eq {K : PySem.W.Frag} {C : Addr} {f : Str} (h : XfC K C ∧ PySem.W.findIn K (.ref C) f = some none) : okgOf K C f = true := by
  exact @decide_eq_true _ (Classical.propDecidable _) h
structure LkG (P : Program) (w : World) (K : PySem.W.Frag) (mg : Str → Option Value) (base : Heap) (x : Str) (k : Nat) (ps : List Str) (F : Fn) (C : Addr) (dds : List D) : Prop where
  go : ∃ (fI : Addr) (fd : FuncData) (dvs : List V) (dsv : List Value) (B newId initId : String) (bmB : List Value), ExG K C B newId initId bmB ∧ PySem.W.findIn K (.ref C) "__init__" = some (some (.ref fI)) ∧ PySem.W.typeIn K (.ref fI) = some (.type "function") ∧
    DFn P w K mg base k fI fd ps F ∧ mg x = some (.ref C) ∧ Binds K fd ps dsv ∧ Vals dvs dsv ∧ ∀ B ι, RepL K B ι dvs dds
structure LkGK (P : Program) (w : World) (K : PySem.W.Frag) (mg : Str → Option Value) (base : Heap) (x : Str) (k : Nat) (ps : List Str) (F : Fn) (C : Addr) (ks : List Str) (gD : List D → List D → List D) : Prop where
  go : ∃ (fI : Addr) (fd : FuncData) (gu : List Value → List Value → List Value) (gV : List V → List V → List V) (B newId initId : String) (bmB : List Value), ExG K C B newId initId bmB ∧ PySem.W.findIn K (.ref C) "__init__" = some (some (.ref fI)) ∧ PySem.W.typeIn K (.ref fI) = some (.type "function") ∧
    DFn P w K mg base k fI fd ps F ∧ mg x = some (.ref C) ∧ KBn K fd ps (0 + 1) ks gu gV ∧ (∀ B ι vs ds zs es, RepL K B ι vs ds → RepL K B ι zs es → RepL K B ι (gV vs zs) (gD ds es))
  len : ∀ ds zs : List D, ds.length = 1 → zs.length = ks.length → (gD ds zs).length = ps.length
structure LkT (K : PySem.W.Frag) (mg : Str → Option Value) (x : Str) (C : Addr) : Prop where
  go : ∃ (B newId initId : String) (bmB : List Value), ExcBaseFacts B newId initId bmB ∧ PySem.W.excIn K C bmB newId = true ∧ mg x = some (.ref C) ∧ PySem.W.keepIn K (.ref C) = true
section
variable {I : Type} {X : I → Cx} {P : Program} {w : World} {K : PySem.W.Frag} {mg : Str → Option Value} {base : Heap} {k : Nat}
theorem DE.clG (c : Ctx X P w K mg base k) {x : Str} {p pos : Pos} {e : Expr} {es : List Expr} {g : AF} {C : Addr} {ps : List Str} {F : Fn} {kf : Nat} {dds : List D} (h : LkG P w K mg base x kf ps F C dds) (hk : kf + 1 ≤ k)
    (hn : (e :: es).length + dds.length + 1 = ps.length) (hz : (e :: es).length ≤ 1000) (ha : DA X K (e :: es) g) (hlen : ∀ δ M ds M', g δ M = some (ds, M') → ds.length = (e :: es).length) (hg : ∀ i, Gl (X i) x := by intro _; rfl)
    (hdbg : (x == ("__debug__" : Str)) = false := by decide) (he : ∀ i, starEach (e :: es) (X i).env = (false, eval e (X i).env) :: starEach es (X i).env := by intro _; rfl) (hpl : ∀ i, (backTo pos (starEach es (X i).env)).any (·.1) = false := by intro _; rfl) :
    DE X K (.Call (.Name x p) (e :: es) [] pos) (eMk C F g dds) := by
  obtain ⟨fI, fd, dvs, dsv, B, n1, n2, bm, h1, h2, h3, h4, h5, h6, h7, h8⟩ := h.go
  exact DE.mkG c h1 h2 h3 h4 hk h5 h6 h7 h8 hn hz ha hlen hg hdbg he hpl
theorem DE.clG0 (c : Ctx X P w K mg base k) {x : Str} {p pos : Pos} {C : Addr} {ps : List Str} {F : Fn} {kf : Nat} {dds : List D} (h : LkG P w K mg base x kf ps F C dds) (hk : kf + 1 ≤ k)
    (hn : dds.length + 1 = ps.length) (hg : ∀ i, Gl (X i) x := by intro _; rfl) (hdbg : (x == ("__debug__" : Str)) = false := by decide) :
    DE X K (.Call (.Name x p) [] [] pos) (eMk C F aNil dds) := by
  obtain ⟨fI, fd, dvs, dsv, B, n1, n2, bm, h1, h2, h3, h4, h5, h6, h7, h8⟩ := h.go
  exact DE.mkG0 c h1 h2 h3 h4 hk h5 h6 h7 h8 hn hg hdbg
theorem DE.clGK (c : Ctx X P w K mg base k) {x : Str} {p pos : Pos} {kws : List Keyword} {gk : AF} {C : Addr} {ps ks : List Str} {F : Fn} {kf : Nat} {gD : List D → List D → List D} (h : LkGK P w K mg base x kf ps F C ks gD) (hk : kf + 1 ≤ k)
    (hkw : DK X K kws gk ks.length) (hall : ∀ i, (backToKw pos (keywordEach kws (X i).env)).all (·.1.isSome) = true := by intro _; rfl) (hks : ∀ i, (backToKw pos (keywordEach kws (X i).env)).filterMap (·.1) = ks := by intro _; rfl)
    (hg : ∀ i, Gl (X i) x := by intro _; rfl) (hdbg : (x == ("__debug__" : Str)) = false := by decide) (hpl : ∀ i, ((backTo pos (starEach [] (X i).env)).any (·.1) || (backToKw pos (keywordEach kws (X i).env)).any (·.1.isNone)) = false := by intro _; rfl) :
    DE X K (.Call (.Name x p) [] kws pos) (eMkK C F gk gD) := by
  obtain ⟨fI, fd, gu, gV, B, n1, n2, bm, h1, h2, h3, h4, h5, h6, h7⟩ := h.go
  exact DE.mkGK c h1 h2 h3 h4 hk h5 h6 h7 h.len hkw hall hks hg hdbg hpl
theorem DE.clT (c : Ctx X P w K mg base k) {x : Str} {e : Expr} {p pos : Pos} {f : EF} {C : Addr} (h : LkT K mg x C)
    (a : DE X K e f) (hg : ∀ i, Gl (X i) x := by intro _; rfl) (hs : ∀ i, starEach [e] (X i).env = (false, eval e (X i).env) :: starEach [] (X i).env := by intro _; rfl) (hdb : (x == ("__debug__" : Str)) = false := by decide) :
    DE X K (.Call (.Name x p) [e] [] pos) (eMkT C f) := by
  obtain ⟨B, n1, n2, bm, h1, h2, h3, h4⟩ := h.go
  exact DE.mkT c h1 h2 h3 h4 a hg hs hdb
end
end Pl

/-! PlV: a meaning is walked step by step. -/
namespace Pl
namespace Ev
open PySem L2
section
variable {δ δ' : Pl.Env} {M M1 M2 M3 : Mh} {d e a b : D} {ds zs : List D} {r : Option Out} {u : Option (D × Mh)} {f g h : EF} {t t2 : TF} {s s2 : SF} {p : GF} {q : AF} {x : Bool}
theorem c_ : eC d δ M = some (d, M) := (fun h => h) (by unfold eC; rfl)
theorem var_ {i : Nat} (h : δ[i]? = some (some d)) : eVar i δ M = some (d, M) := by unfold eVar; rw [h]
theorem nil_ : aNil δ M = some ([], M) := (fun h => h) (by unfold aNil; rfl)
theorem cons_ (h : f δ M = some (d, M1)) (k : q δ M1 = some (ds, M2)) : aCons f q δ M = some (d :: ds, M2) := by
  unfold aCons; rw [h]; dsimp only; rw [k]
theorem tup_ (h : q δ M = some (ds, M1)) (hl : ds.length ≤ 1000) : eTup q δ M = some (.tup ds, M1) := by
  unfold eTup; rw [h]; exact if_pos (Nat.le_trans hl (by decide))
theorem lst_ (h : q δ M = some (ds, M1)) (hl : ds.length ≤ 1000) : eLst q δ M = some (.lst ds, M1) := by
  unfold eLst; rw [h]; exact if_pos (Nat.le_trans hl (by decide))
theorem new_ (h : q δ M = some (ds, M1)) (hl : ds.length ≤ 1000) : eNew q δ M = some (.ref M1.length, M1 ++ [.lst ds]) := by
  unfold eNew; rw [h]; exact if_pos (Nat.le_trans hl (by decide))
theorem op_ {o : O2} (h1 : f δ M = some (a, M1)) (h2 : g δ M1 = some (b, M2)) (h3 : o a b M2 = u) : eOp o f g δ M = u := by
  unfold eOp; rw [h1]; dsimp only; rw [h2]; exact h3
theorem un_ {o : O1} (h1 : f δ M = some (a, M1)) (h3 : o a M1 = u) : eUn o f δ M = u := by
  unfold eUn; rw [h1]; exact h3
theorem b_ {o : GL} (h1 : q δ M = some (ds, M1)) (h3 : o ds M1 = u) : eB o q δ M = u := by
  unfold eB; rw [h1]; exact h3
theorem call0_ {F : Fn} (h1 : q δ M = some (ds, M1)) (h3 : F ds M1 = u) : eCall F q [] δ M = u := by
  unfold eCall; rw [h1]; dsimp only; rw [List.append_nil]; exact h3
theorem callD_ {F : Fn} {dds : List D} (h1 : q δ M = some (ds, M1)) (h3 : F (ds ++ dds) M1 = u) : eCall F q dds δ M = u := by
  unfold eCall; rw [h1]; exact h3
theorem callK_ {F : Fn} {qk : AF} {gd : List D → List D → List D} (h1 : q δ M = some (ds, M1)) (h2 : qk δ M1 = some (zs, M2)) (h3 : F (gd ds zs) M2 = u) : eCallK F q qk gd δ M = u := by
  unfold eCallK; rw [h1]; dsimp only; rw [h2]; exact h3
theorem chain_ {o o2 : O2} (h1 : f δ M = some (a, M1)) (h2 : g δ M1 = some (b, M2)) (h3 : o a b M2 = some (.bl x, M3)) (k : (bif x then eOp o2 (eC b) h δ M3 else some (.bl false, M3)) = u) : eChain o o2 f g h δ M = u := by
  unfold eChain; rw [h1]; dsimp only; rw [h2]; dsimp only; rw [h3]
  cases x
  · exact k
  · rw [← k]
    show _ = eOp o2 (eC b) h δ M3
    unfold eOp
    rfl
theorem if_ (h1 : t δ M = some (x, M1)) (k : (bif x then f δ M1 else g δ M1) = u) : eIf t f g δ M = u := by
  unfold eIf; rw [h1]; cases x <;> exact k
theorem nt_ (h1 : f δ M = some (.bl x, M1)) : eNt f δ M = some (.bl (!x), M1) := by unfold eNt; rw [h1]
theorem an_ (h1 : f δ M = some (.bl x, M1)) (k : (bif x then g δ M1 else some (.bl false, M1)) = u) : eAn f g δ M = u := by
  unfold eAn; rw [h1]; cases x <;> exact k
theorem or_ (h1 : f δ M = some (.bl x, M1)) (k : (bif x then some (.bl true, M1) else g δ M1) = u) : eOr f g δ M = u := by
  unfold eOr; rw [h1]; cases x <;> exact k
theorem tv_ (h1 : f δ M = some (.bl x, M1)) : tV f δ M = some (x, M1) := by unfold tV; rw [h1]
theorem tnt_ (h1 : t δ M = some (x, M1)) : tNt t δ M = some (!x, M1) := by unfold tNt; rw [h1]
theorem tan_ {v : Option (Bool × Mh)} (h1 : t δ M = some (x, M1)) (k : (bif x then t2 δ M1 else some (false, M1)) = v) : tAn t t2 δ M = v := by
  unfold tAn; rw [h1]; cases x <;> exact k
theorem tor_ {v : Option (Bool × Mh)} (h1 : t δ M = some (x, M1)) (k : (bif x then some (true, M1) else t2 δ M1) = v) : tOrr t t2 δ M = v := by
  unfold tOrr; rw [h1]; cases x <;> exact k
theorem tt_ : tTrue δ M = some (true, M) := (fun h => h) (by unfold tTrue; rfl)
theorem snil_ : sNil δ M = some (.nx δ M) := (fun h => h) (by unfold sNil; rfl)
theorem sas_ (h1 : f δ M = some (d, M1)) (h2 : p d δ = some δ') : sAs f p δ M = some (.nx δ' M1) := by
  unfold sAs; rw [h1]; dsimp only; rw [h2]
theorem spar_ {i j : Nat} (h1 : f δ M = some (d, M1)) (h2 : g δ M1 = some (e, M2)) (h3 : (some ((δ.set i (some d)).set j (some e)) : Option Pl.Env) = some δ') : sPar i j f g δ M = some (.nx δ' M2) := by
  cases h3; unfold sPar; rw [h1]; dsimp only; rw [h2]
theorem spar3_ {i j l : Nat} {d3 : D} (h1 : f δ M = some (d, M1)) (h2 : g δ M1 = some (e, M2)) (h4 : h δ M2 = some (d3, M3)) (h3 : (some (((δ.set i (some d)).set j (some e)).set l (some d3)) : Option Pl.Env) = some δ') : sPar3 i j l f g h δ M = some (.nx δ' M3) := by
  cases h3; unfold sPar3; rw [h1]; dsimp only; rw [h2]; dsimp only; rw [h4]
theorem sas2_ {p2 : GF} {δ2 : Pl.Env} (h1 : f δ M = some (d, M1)) (h2 : p d δ = some δ') (h3 : p2 d δ' = some δ2) : sAs2 f p p2 δ M = some (.nx δ2 M1) := by
  unfold sAs2; rw [h1]; dsimp only; rw [h2]; dsimp only; rw [h3]
theorem seq_ (h1 : s δ M = some (.nx δ' M1)) (k : s2 δ' M1 = r) : sSeq s s2 δ M = r := by
  unfold sSeq; rw [h1]; exact k
theorem seqR_ (h1 : s δ M = some (.rt d M1)) : sSeq s s2 δ M = some (.rt d M1) := by
  unfold sSeq; rw [h1]
/-- an if without else, and what follows -/
theorem seqIf_ {s3 : SF} (h1 : t δ M = some (x, M1)) (k : (bif x then sSeq s s2 δ M1 else sSeq s3 s2 δ M1) = r) : sSeq (sIf t s s3) s2 δ M = r := by
  unfold sSeq sIf at *; rw [h1]; cases x <;> exact k
theorem seq0_ (k : s2 δ M = r) : sSeq sNil s2 δ M = r := seq_ snil_ k
theorem seqRet_ (h1 : f δ M = some (d, M1)) : sSeq (sRet f) s2 δ M = some (.rt d M1) := by
  unfold sSeq sRet; rw [h1]
theorem ret_ (h1 : f δ M = some (d, M1)) : sRet f δ M = some (.rt d M1) := by unfold sRet; rw [h1]
theorem sif_ (h1 : t δ M = some (x, M1)) (k : (bif x then s δ M1 else s2 δ M1) = r) : sIf t s s2 δ M = r := by
  unfold sIf; rw [h1]; cases x <;> exact k
theorem se_ (h1 : f δ M = some (d, M1)) : sE f δ M = some (.nx δ M1) := by unfold sE; rw [h1]
theorem for_ {s : SF} (h1 : q δ M = some (ds, M1)) (k : forGo p s ds δ M1 = r) : sFor q p s δ M = r := by
  unfold sFor; rw [h1]; exact k
theorem forN_ {s : SF} : forGo p s [] δ M = some (.nx δ M) := (fun h => h) (by unfold forGo; rfl)
theorem forC_ {s : SF} {δ1 δ2 : Pl.Env} (h1 : p d δ = some δ1) (h2 : s δ1 M = some (.nx δ2 M2)) (k : forGo p s ds δ2 M2 = r) : forGo p s (d :: ds) δ M = r := by
  unfold forGo; rw [h1]; dsimp only; rw [h2]; exact k
theorem lc_ {vs : List Nat} {ys : List D} {δ1 : Pl.Env} (h : q δ M = some (ds, M1)) (hw : (some (wipeD δ vs) : Option Pl.Env) = some δ1) (k : lcGo p t f ds δ1 M1 = some (ys, M2)) (hl : ys.length ≤ 1000) : eLc vs q p t f δ M = some (.lst ys, M2) := by
  cases hw; unfold eLc; rw [h]; dsimp only; rw [k]; exact if_pos (Nat.le_trans hl (by decide))
theorem lcN_ : lcGo p t f [] δ M = some ([], M) := (fun h => h) (by unfold lcGo; rfl)
/-- one member is told, then the others -/
def lcK (p : GF) (t : TF) (f : EF) (ds : List D) (δ δ1 : Pl.Env) (M1 : Mh) : Option (List D × Mh) := match f δ1 M1 with | some (y, M2) => (match lcGo p t f ds δ M2 with | some (ys, M3) => some (y :: ys, M3) | none => none) | none => none
theorem lcC_ {δ1 : Pl.Env} {w : Option (List D × Mh)} (h1 : p d δ = some δ1) (h2 : t δ1 M = some (x, M1)) (k : (bif x then lcK p t f ds δ δ1 M1 else lcGo p t f ds δ M1) = w) : lcGo p t f (d :: ds) δ M = w := by
  conv => lhs; unfold lcGo
  unfold lcK at k
  rw [h1]; dsimp only; rw [h2]; cases x <;> exact k
theorem lcY_ {ys : List D} {δ1 : Pl.Env} (h3 : f δ1 M1 = some (e, M2)) (k : lcGo p t f ds δ M2 = some (ys, M3)) : lcK p t f ds δ δ1 M1 = some (e :: ys, M3) := by
  unfold lcK; rw [h3]; dsimp only; rw [k]
theorem fn_ {n : Nat} {s : SF} {δ0 : Pl.Env} (h0 : (some (startD n ds) : Option Pl.Env) = some δ0) (h : s δ0 M = some (.rt d M1)) : fnF n s ds M = some (d, M1) := by
  cases h0; unfold fnF; rw [h]
theorem fnN_ {n : Nat} {s : SF} {δ0 : Pl.Env} (h0 : (some (startD n ds) : Option Pl.Env) = some δ0) (h : s δ0 M = some (.nx δ' M1)) : fnF n s ds M = some (.non, M1) := by
  cases h0; unfold fnF; rw [h]
theorem rng1_ {j : Int} (h : q δ M = some ([.int j], M1)) (hj : -(2 ^ 62) ≤ j ∧ j < 2 ^ 62) : aRng1 q δ M = some (rng 0 j, M1) := by
  unfold aRng1; rw [h]; exact if_pos hj
theorem itemsT_ (h : f δ M = some (.tup ds, M1)) : aItems f δ M = some (ds, M1) := by unfold aItems; rw [h]
theorem itemsL_ (h : f δ M = some (.lst ds, M1)) : aItems f δ M = some (ds, M1) := by unfold aItems; rw [h]
theorem s1_ {o : Str → D → Mh → Option (D × Mh)} {z : Str} (h1 : f δ M = some (.str z, M1)) (h2 : g δ M1 = some (d, M2)) (h3 : o z d M2 = u) : eS1 o f g δ M = u := by
  unfold eS1; rw [h1]; dsimp only; rw [h2]; exact h3
theorem cond_tt {α : Type} {A B r : α} {x : Bool} (h : x = true) (k : A = r) : (bif x then A else B) = r := by cases h; exact k
theorem cond_ff {α : Type} {A B r : α} {x : Bool} (h : x = false) (k : B = r) : (bif x then A else B) = r := by cases h; exact k
end
end Ev
end Pl

/-! PlF: functions as values; dicts of the module with texts as keys; a tuple many times; str of a text. -/
namespace Pl
open PySem PySem.Spec PyProof.Rows L2
section
variable {I : Type} {X : I → Cx} {P : Program} {w : World} {K : PySem.W.Frag} {mg : Str → Option Value} {base : Heap} {k : Nat}
/-! ### a function held by a name -/
/-- each function that a name may hold here, by its address -/
structure LkV (P : Program) (w : World) (K : PySem.W.Frag) (mg : Str → Option Value) (base : Heap) (k n : Nat) (tab : Addr → Option Fn) : Prop where
  go : ∀ a F, tab a = some F → ∃ (fd : FuncData) (ps : List Str), DFn P w K mg base k a fd ps F ∧ ps.length = n ∧ PySem.W.keepIn K (.ref a) = true ∧ Binds K fd ps []
def eCallV (tab : Addr → Option Fn) (j : Nat) (g : AF) : EF := fun δ M => match δ[j]? with
  | some (some (.ob a)) => (match tab a with
    | some F => (match g δ M with
      | some (ds, M1) => F ds M1
      | none => none)
    | none => none)
  | _ => none
theorem DE.cv (j : Nat) (c : Ctx X P w K mg base k) {x : Str} {p pos : Pos} {e : Expr} {es : List Expr} {g : AF} {tab : Addr → Option Fn} {kf n : Nat} (h : LkV P w K mg base kf n tab) (hk : kf ≤ k) (hn : (e :: es).length = n) (ha : DA X K (e :: es) g)
    (hlen : ∀ δ M ds M', g δ M = some (ds, M') → ds.length = (e :: es).length) (hN : ∀ i, (X i).N[j]? = some x := by intro _; rfl) (hv : ∀ i, Vis (X i).env.scope x := by intro _; first | exact Or.inl rfl | exact Or.inr (Or.inl rfl) | exact Or.inr (Or.inr rfl))
    (hdbg : (x == ("__debug__" : Str)) = false := by decide) (hcd : (x == ("__classdict__" : Str)) = false := by decide) (he : ∀ i, starEach (e :: es) (X i).env = (false, eval e (X i).env) :: starEach es (X i).env := by intro _; rfl) (hpl : ∀ i, (backTo pos (starEach es (X i).env)).any (·.1) = false := by intro _; rfl) :
    DE X K (.Call (.Name x p) (e :: es) [] pos) (eCallV tab j g) := by
  obtain ⟨t, pa, ra⟩ := ha.go
  refine ⟨fun σ H Q => ∃ (a : Addr) (F : Fn) (fd : FuncData) (ps : List Str), σ[j]? = some (some (.ref a)) ∧ DFn P w K mg base kf a fd ps F ∧ PySem.W.keepIn K (.ref a) = true ∧ Binds K fd ps [] ∧ t σ H fun vs H1 => spD K ps.length F vs H1 Q, fun i => ⟨fun pins s σ H Q J q => ?_⟩, fun σ W δ M d M' Q w s ev q => ?_⟩
  · obtain ⟨a, F, fd, ps, ea, hF, kp, hb, q⟩ := q
    have cK := c.K i
    have var := (pe_var (X := X i) (pos := p) (hN i) (hv i) hdbg hcd).run pins s σ H (fun v H' => v = .ref a ∧ H' = H) J ⟨.ref a, ea, rfl, rfl⟩
    refine wpAny_Call_Name_kw (thn var fun u s0 ⟨v, H0, J0, r0, e1, e2⟩ => ?_)
    subst e1 e2
    cases r0
    refine PySem.W.callWith_K (h₀ := (X i).base) J0.ok.mod.kin (by rw [cK]; exact kp) (thn ((pa i).run pos pins s0 σ H0 _ J0 q) fun us s1 ⟨vs, H1, J1, r, q1⟩ => ⟨J1.kIn, ?_⟩) (he i) (hpl i)
    obtain ⟨W, M, ds, d, M', a1, a2, a3, a4, a5, a6⟩ := id q1
    have h' : DFn (X i).prog (X i).w (X i).K (X i).mg (X i).base k a fd ps F := by
      rw [c.prog i, c.wd i, c.K i, c.mg i, c.base i]
      exact hF.mono hk
    refine run_dfn (ks := []) (ws := []) (us := us) (us' := us) h' (c.room i) (c.grd i) J1 (by
      have := hb s1 us (by rw [← cK]; exact J1.kIn) (by rw [List.append_nil, ← r.length, a3.len, a4])
      rw [List.append_nil] at this
      exact this) r (by rw [cK]; exact q1)
  · unfold eCallV at ev
    split at ev
    · rename_i a hd
      split at ev
      · rename_i F hF
        split at ev
        · rename_i ds M1 h1
          obtain ⟨v, hv1, rv⟩ := s.at_ _ _ hd
          cases rv
          obtain ⟨fd, ps, f1, f2, f3, f4⟩ := h.go a F hF
          refine ⟨a, F, fd, ps, hv1, f1, f3, f4, ?_⟩
          refine ra σ W δ M ds M1 _ w s h1 fun vs W1 l1 w1 r1 => ⟨W1, M1, ds, d, M', rfl, w1, r1, ?_, ev, q.le l1⟩
          rw [hlen _ _ _ _ h1, f2, hn]
        · cases ev
      · cases ev
    · cases ev
/-! ### a dict of the module, with texts as keys -/
inductive KEs (K : PySem.W.Frag) : List DictEntry → List (Str × D) → Prop
  | nil : KEs K [] []
  | cons {e : DictEntry} {x : Str} {d : D} {es : List DictEntry} {ds : List (Str × D)} : (∃ t, e.key = .str x t) → (∃ v, RelV v e.val ∧ ∀ B ι, Rep K B ι v d) → KEs K es ds → KEs K (e :: es) ((x, d) :: ds)
structure KTab (w : World) (K : PySem.W.Frag) (mg : Str → Option Value) (x : Str) (a : Addr) (tab : List (Str × D)) : Prop where
  gv : mg x = some (.ref a)
  ex : ∃ (es : List DictEntry) (n : Nat), K.lookup a = some ⟨.type "dict", none, .dict es.toArray n, #[]⟩ ∧ PySem.W.KeysLit w.params es ∧ KEs K es tab
  lo : (a == sysModules) = false
theorem kes_find {K : PySem.W.Frag} : ∀ {es : List DictEntry} {tab : List (Str × D)}, KEs K es tab → ∀ z : Str, (tab.lookup z = none ∧ findBy Value.isStrOf es.toArray z = none) ∨ ∃ d v u, tab.lookup z = some d ∧ findBy Value.isStrOf es.toArray z = some u ∧ RelV v u ∧ ∀ B ι, Rep K B ι v d
  | _, _, .nil, z => .inl ⟨rfl, rfl⟩
  | _, _, .cons (e := e) (x := x) (d := d) (es := es) (ds := ds) hk hv r, z => by
    obtain ⟨t, hk⟩ := hk
    obtain ⟨v, rv, rd⟩ := hv
    have hh : Value.isStrOf z e.key = (x == z) := by
      rw [hk]
      rfl
    rw [List.lookup_cons]
    unfold findBy
    rw [List.find?_toArray, List.find?_cons, hh]
    by_cases q : x = z
    · subst q
      rw [beq_self_eq_true]
      dsimp only
      exact .inr ⟨d, v, e.val, by simp, rfl, rv, rd⟩
    · have q1 : (x == z) = false := by simpa using q
      have q2 : (z == x) = false := by simpa using fun h => q h.symm
      rw [q1, q2]
      dsimp only
      have ih := kes_find r z
      unfold findBy at ih
      rw [List.find?_toArray] at ih
      exact ih
def gInK (a0 : Addr) (tab : List (Str × D)) (h : Bool → Bool) : O2 := fun a b M => match a, b with
  | .str z, .ob c => if c = a0 then some (.bl (h (tab.lookup z).isSome), M) else none
  | _, _ => none
theorem opInK (c : Ctx X P w K mg base k) {x : Str} {a0 : Addr} {tab : List (Str × D)} (T : KTab w K mg x a0 tab) : OpF X K (compareOp .In) (gInK a0 tab fun b => b) :=
  ⟨fun x y H Q => ∃ z, x = .str z ∧ y = .ref a0 ∧ Q (.bl (tab.lookup z).isSome) H, fun i pins s σ H x y v u Q J hx hy h => by
    obtain ⟨z, rfl, rfl, q⟩ := h
    obtain ⟨t, rfl⟩ := hx
    cases hy
    obtain ⟨es, n, hl, hk, hE⟩ := T.ex
    have hm := PySem.W.mapOf_K (prog := (X i).prog) (w := (X i).w) (K := (X i).K) J.kIn (by rw [c.K i]; exact hl) (by rw [c.wd i]; exact hk)
    refine wpAny_in_of (strKind_is (X i).prog (X i).w z t) T.lo hm ⟨.bl (tab.lookup z).isSome, H, J.tok _, ?_, q⟩
    rcases kes_find hE z with ⟨e1, e2⟩ | ⟨d, v, u, e1, e2, _⟩
    · rw [e1, e2]
      rfl
    · rw [e1, e2]
      rfl, fun W M x y a b z M' Q w ra rb e q => by
    unfold gInK at e
    split at e
    · split at e
      · rename_i hc
        cases e
        subst hc
        cases ra
        cases rb
        exact ⟨_, rfl, rfl, q _ W (.refl W) w (.bl _)⟩
      · cases e
    · cases e⟩
def gIxK (a0 : Addr) (tab : List (Str × D)) : O2 := fun a b M => match a, b with
  | .ob c, .str z => if c = a0 then (tab.lookup z).map fun d => (d, M) else none
  | _, _ => none
theorem DE.kix (c : Ctx X P w K mg base k) {x : Str} {a0 : Addr} {tab : List (Str × D)} (T : KTab w K mg x a0 tab) {a b : Expr} {pos} {f g : EF} (ha : DE X K a f) (hb : DE X K b g) (hs : PlainIx b := by exact fun _ _ => rfl) : DE X K (.Subscript a b pos) (eOp (gIxK a0 tab) f g) := by
  obtain ⟨ta, pa, ra⟩ := ha.go
  obtain ⟨tb, pb, rb⟩ := hb.go
  refine ⟨tOp (rIxD K w) ta tb, fun i => ?_, er_op (fun W M x y a b z M' Q w ra rb e q => ?_) ra rb⟩
  · have h := pe_ix (ix_kdict (X := X i)) (pa i) (pb i) hs (pos := pos)
    rw [c.K i, c.wd i] at h
    exact h
  · unfold gIxK at e
    split at e
    · rename_i c0 z0
      split at e
      · rename_i hc
        subst hc
        cases ra
        cases rb
        obtain ⟨es, n, hl, hk, hE⟩ := T.ex
        rcases kes_find hE z0 with ⟨e1, e2⟩ | ⟨d, v, u, e1, e2, rv, rd⟩
        · rw [e1] at e
          cases e
        · rw [e1] at e
          cases e
          refine ⟨_, z0, v, rfl, rfl, ⟨es.toArray, n, u, hl, hk, ?_, rv⟩, q v W (.refl W) w (rd _ _)⟩
          unfold PySem.W.nsIn
          rw [hl]
          dsimp only
          unfold findBy at e2
          rw [List.find?_toArray] at e2
          have q' : (fun d : DictEntry => d.key.isStr z0) = fun d => Value.isStrOf z0 d.key := funext fun d => PySem.W.isStr_of z0 d.key
          rw [q']
          cases hf : List.find? (fun d => Value.isStrOf z0 d.key) es with
          | none =>
            rw [hf] at e2
            cases e2
          | some en =>
            rw [hf] at e2
            cases e2
            rfl
      · cases e
    · cases e
/-! ### d.get(k) -/
def eGetK (a0 : Addr) (tab : List (Str × D)) (f g : EF) : EF := fun δ M => match f δ M with
  | some (.ob c, M1) => if c = a0 then (match g δ M1 with
    | some (.str z, M2) => some ((tab.lookup z).getD .non, M2)
    | _ => none) else none
  | _ => none
theorem DE.kget (c : Ctx X P w K mg base k) {x : Str} {a0 : Addr} {tab : List (Str × D)} (T : KTab w K mg x a0 tab) {o e : Expr} {apos cpos : Pos} {f g : EF} (ho : DE X K o f) (he : DE X K e g) (m : ∀ i, M1 (X i) o "get" apos e cpos := by intro i; exact ⟨rfl, rfl, rfl, rfl⟩) :
    DE X K (.Call (.Attribute o "get" apos) [e] [] cpos) (eGetK a0 tab f g) := by
  obtain ⟨to, po, ro⟩ := ho.go
  obtain ⟨te, pe, re⟩ := he.go
  obtain ⟨es, n, hl, hk, hE⟩ := T.ex
  refine ⟨fun σ H Q => to σ H fun x H1 => x = .ref a0 ∧ te σ H1 fun y H2 => ∃ z v, y = .str z ∧ (∀ u, (findBy Value.isStrOf es.toArray z).getD .none = u → RelV v u) ∧ Q v H2, fun i => ⟨fun pins s σ H Q J q => ?_⟩, fun σ W δ M d M' Q w s ev q => ?_⟩
  · refine wpAny_Call_method (m i).base (m i).few (m i).line PySem.F.plainAttrs_dict PySem.F.slot_dict_get PySem.F.type_dict_get (thn ((po i).run pins s σ H _ J q) fun u s1 ⟨x, H1, J1, rx, ex, q1⟩ => ?_)
    subst ex
    cases rx
    have hm := fun (s : Shared) (kin : (X i).K.In s.heap) => PySem.W.mapOf_K (prog := (X i).prog) (w := (X i).w) (K := (X i).K) kin (by rw [c.K i]; exact hl) (by rw [c.wd i]; exact hk)
    have at_ : ∀ s : Shared, (X i).K.In s.heap → s.heap.get? a0 = some ⟨.type "dict", none, .dict es.toArray n, #[]⟩ := fun s kin => kin _ _ (by rw [c.K i]; exact hl)
    refine ⟨⟨_, at_ s1 J1.kIn, rfl⟩, fun b z => ?_, ?_⟩
    · cases z
      exact ⟨_, at_ s1 J1.kIn, rfl⟩
    · rw [(m i).trees]
      refine Calls.callWith_builtin rfl (Calls.evalArgs_plain (Calls.spliced_cons (thn ((pe i).run pins s1 σ H1 _ J1 q1) fun iv s2 ⟨y, H2, J2, ry, z, v, ey, hv, q2⟩ => Calls.spliced_nil ?_)))
      subst ey
      obtain ⟨t, rfl⟩ := ry
      refine call_meetsIn PySem.F.slot_dict_get ⟨_, at_ s2 J2.kIn, rfl⟩ PySem.F.entry_dict_get (PySem.F.args_dict_get_2 _ _) (meets_dict_get (strKind (X i).prog (X i).w) a0 (strKind_is (X i).prog (X i).w z t) T.lo) ⟨_, hm s2 J2.kIn, ?_⟩
      exact ⟨v, H2, J2.tok _, hv _ rfl, q2⟩
  · unfold eGetK at ev
    split at ev
    · rename_i c0 M1 h1
      split at ev
      · rename_i hc
        subst hc
        split at ev
        · rename_i z M2 h2
          cases ev
          refine ro σ W δ M _ M1 _ w s h1 fun x W1 l1 w1 r1 => ?_
          cases r1
          refine ⟨rfl, re σ W1 δ _ _ _ _ w1 (s.le l1) h2 fun y W2 l2 w2 r2 => ?_⟩
          cases r2
          rcases kes_find hE z with ⟨e1, e2⟩ | ⟨d, v, u, e1, e2, rv, rd⟩
          · refine ⟨z, .non, rfl, fun u hu => ?_, ?_⟩
            · rw [e2] at hu
              subst hu
              rfl
            · have := q .non W2 (l1.trans l2) w2
              rw [e1] at this
              exact this .non
          · refine ⟨z, v, rfl, fun u' hu => ?_, ?_⟩
            · rw [e2] at hu
              subst hu
              exact rv
            · have := q v W2 (l1.trans l2) w2
              rw [e1] at this
              exact this (rd _ _)
        · cases ev
      · cases ev
    · cases ev
/-! ### a tuple many times; str of a text -/
def gMulT : O2 := fun a b M => match a, b with
  | .tup xs, .int j => if xs ≠ [] ∧ 2 ≤ j ∧ j ≤ 1000 ∧ xs.length ≤ 1000 then some (.tup (List.replicate j.toNat xs).flatten, M) else none
  | a, b => gMul3 a b M
end
end Pl

/-! PlG: a text as a list; tuples many times; lists that are added and change on; zips of mixed kinds. -/
namespace Pl
open PySem PySem.Spec PyProof.Rows L2
section
variable {X : Cx}
theorem call_list_txt (hc : X.calm = true) : CallR X (.type "list") (fun xs H Q => ∃ x : Str, xs = [.str x] ∧ x.length ≤ sizeLine ∧ ∀ l, H l = none → Q (.ref l) (upd H l (.lst (x.cps.toList.map fun c => .str ⟨#[c]⟩)))) := by
  intro pins s σ H xs us Q J r h
  obtain ⟨x, rfl, hz, q⟩ := h
  obtain ⟨u, rfl, rx⟩ := vals1 r
  obtain ⟨t, rfl⟩ := rx
  refine call_list_str (J.ok.hd hc) x t (fun h' tk acc c' kp hS hI => ?_) hz
  have rel : Vals (x.cps.toList.map fun c => V.str ⟨#[c]⟩) acc.toList := by
    obtain ⟨sz, hat⟩ := hI
    have go : ∀ (l : List Nat) (us : List Value), us.length = l.length → (∀ (j : Nat) (v : Value), us[j]? = some v → ∃ (c : Nat) (u : Tok), l[j]? = some c ∧ v = .str ⟨#[c]⟩ u) → Vals (l.map fun c => V.str ⟨#[c]⟩) us := by
      intro l
      induction l with
      | nil =>
        intro us hl _
        cases us with
        | nil => exact .nil
        | cons _ _ => cases hl
      | cons c l ih =>
        intro us hl h
        cases us with
        | nil => cases hl
        | cons v us =>
          obtain ⟨c', u, e1, e2⟩ := h 0 v rfl
          cases e1
          exact .cons ⟨u, e2⟩ (ih us (Nat.succ.inj hl) fun j w e => h (j + 1) w e)
    refine go _ _ (by rw [Array.length_toList, Array.length_toList, sz]) fun j v e => ?_
    obtain ⟨c, u, e1, e2⟩ := hat j v (by simpa using e)
    exact ⟨c, u, by simpa using e1, e2⟩
  exact ⟨.ref s.heap.objs.size, _, J.laid (t' := tk) kp (Nat.le_refl _) (show ObjOk X.prog X.w _ h' _ (.lst _) from ⟨by rw [List.length_map, Array.length_toList]; exact hz, acc.toList, c', rel, by simpa using hS⟩), rfl, q _ (J.hok.fresh (Nat.le_refl _))⟩
end
section
variable {I : Type} {X : I → Cx} {P : Program} {w : World} {K : PySem.W.Frag} {mg : Str → Option Value} {base : Heap} {k : Nat}
theorem signs_rep {B : Hp} {ι : List Addr} : ∀ l : List Nat, RepL K B ι (l.map fun c => V.str ⟨#[c]⟩) (l.map fun c => D.str ⟨#[c]⟩)
  | [] => .nil
  | _ :: l => .cons (.str _) (signs_rep l)
def gLstA : GL := fun ds M => match ds with
  | [.str x] => if x.length ≤ sizeLine then some (.lst (x.cps.toList.map fun c => .str ⟨#[c]⟩), M) else none
  | ds => gLstOf ds M
theorem cLstA (c : Ctx X P w K mg base k) : CalF X K (.type "list") gLstA := by
  obtain ⟨r, hr, hq⟩ := (cLstOf c).go
  refine ⟨fun xs H Q => (∃ x : Str, xs = [.str x] ∧ x.length ≤ sizeLine ∧ ∀ l, H l = none → Q (.ref l) (upd H l (.lst (x.cps.toList.map fun c => .str ⟨#[c]⟩)))) ∨ r xs H Q, fun i => CallR.or (call_list_txt (c.calm i)) (hr i), fun W M vs ds z M' Q w rp e q => ?_⟩
  unfold gLstA at e
  split at e
  · rename_i x
    split at e
    · rename_i hz
      cases e
      cases rp with
      | cons r1 r2 =>
        cases r2
        cases r1
        refine .inl ⟨x, rfl, hz, fun l hl => ?_⟩
        obtain ⟨l2, w2, r3⟩ := lay_lst w hl (signs_rep x.cps.toList)
        exact q _ _ l2 w2 r3
    · cases e
  · exact .inr (hq W M vs _ z M' Q w rp e q)
def gStrA : GL := fun ds M => match ds with
  | [.str x] => some (.str x, M)
  | ds => gStrInt ds M
theorem cStrA : CalF X K (.type "str") gStrA := by
  obtain ⟨r, hr, hq⟩ := (cStrInt (X := X) (K := K)).go
  refine ⟨fun xs H Q => (∃ a, xs = [.str a] ∧ Q (.str a) H) ∨ r xs H Q, fun i => CallR.or SkE.call_str_str (hr i), fun W M vs ds z M' Q w rp e q => ?_⟩
  unfold gStrA at e
  split at e
  · cases e
    cases rp with
    | cons r1 r2 =>
      cases r2
      cases r1
      exact .inl ⟨_, rfl, q _ W (.refl W) w (.str _)⟩
  · exact .inr (hq W M vs _ z M' Q w rp e q)
theorem opMulT (c : Ctx X P w K mg base k) : OpF X K (binaryOp .Mult) gMulT := by
  obtain ⟨r, hr, hq⟩ := (opMulS (X := X) (K := K)).go
  refine ⟨fun x y H Q => rRepT K x y H Q ∨ r x y H Q, fun i => ?_, fun W M x y a b z M' Q w ra rb e q => ?_⟩
  · have h := op_repT (X := X i)
    rw [c.K i] at h
    exact OpR.or h (hr i)
  · unfold gMulT at e
    split at e
    · split at e
      · rename_i hc
        obtain ⟨h1, h2, h3, h4⟩ := hc
        cases e
        cases rb
        obtain ⟨l, vs, rfl, s1, r1⟩ := tup_rep w ra
        refine .inl ⟨l, _, vs, rfl, rfl, s1, fun z => h1 ?_, h2, h3, by rw [r1.len]; exact h4, fun p hp => ?_⟩
        · subst z
          cases r1
          rfl
        · obtain ⟨l2, w2, r3⟩ := lay_tup w hp (r1.rep _)
          exact q _ _ l2 w2 r3
      · cases e
    · exact .inr (hq W M x y a b z M' Q w ra rb e q)
/-- a + b, two lists, as a list that changes on -/
def eAddN (f g : EF) : EF := fun δ M => match f δ M with
  | some (a, M1) => (match g δ M1 with
    | some (b, M2) => (match lstT M2 a, lstT M2 b with
      | some xs, some ys => if xs.length + ys.length ≤ sizeLine then some (.ref M2.length, M2 ++ [.lst (xs ++ ys)]) else none
      | _, _ => none)
    | none => none)
  | none => none
theorem DE.addN {a b : Expr} {pos : Pos} {f g : EF} (ha : DE X K a f) (hb : DE X K b g) : DE X K (.BinOp a .Add b pos) (eAddN f g) := by
  obtain ⟨ta, pa, ra⟩ := ha.go
  obtain ⟨tb, pb, rb⟩ := hb.go
  refine ⟨tOp rCat ta tb, fun i => pe_op op_cat (pa i) (pb i), fun σ W δ M d M' Q w s e q => ?_⟩
  unfold eAddN at e
  split at e
  · rename_i a' M1 h1
    split at e
    · rename_i b' M2 h2
      split at e
      · rename_i xs ys h3 h4
        split at e
        · rename_i hz
          cases e
          refine ra σ W δ M a' M1 _ w s h1 fun x W1 l1 w1 r1 => ?_
          refine rb σ W1 δ M1 b' M2 _ w1 (s.le l1) h2 fun y W2 l2 w2 r2 => ?_
          obtain ⟨p1, vs, rfl, e1, q1⟩ := lstT_rep w2 (r1.le l2) h3
          obtain ⟨p2, us, rfl, e2, q2⟩ := lstT_rep w2 r2 h4
          refine ⟨p1, p2, vs, us, rfl, rfl, e1, e2, by rw [q1.len, q2.len]; exact hz, fun p hp => ?_⟩
          exact q _ (W2.new p (.lst (vs ++ us))) ((l1.trans l2).trans Wd.new_le) (Wd.new_ok w2 hp (.lst (q1.append q2))) (.ref (by
            show (W2.ι ++ [p])[M2.length]? = some p
            rw [← w2.len]
            simp))
        · cases e
      · cases e
    · cases e
  · cases e
end
end Pl

/-! PlH: zip of a tuple and a list, walked; list(zip(a list, a text)). -/
namespace Pl
open PySem PySem.Spec PyProof.Rows L2
/-! ### a tuple and a list, pair by pair -/
def ItzM (K : PySem.W.Frag) (n1 n2 : Nat) (a b : Addr) : It :=
  ⟨fun i H => ∃ (xs ys : List V) (x y : V), SqT K H a xs ∧ SqL K H b ys ∧ xs.length = n1 ∧ ys.length = n2 ∧ xs[i]? = some x ∧ ys[i]? = some y,
    fun i H v H' => ∃ T x y, v = .ref T ∧ H T = none ∧ H' = upd H T (.tup [x, y]) ∧ (∀ xs, SqT K H a xs → xs[i]? = some x) ∧ ∀ ys, SqL K H b ys → ys[i]? = some y,
    fun i H => ∃ xs ys : List V, SqT K H a xs ∧ SqL K H b ys ∧ xs.length = n1 ∧ ys.length = n2 ∧ (n1 ≤ i ∨ n2 ≤ i)⟩
theorem five {z a b c d x : Nat} (h : x ∈ [z, a, b, c, d]) : x = z ∨ x = a ∨ x = b ∨ x = c ∨ x = d := by simpa using h
theorem five_le {n x : Nat} (h : x ∈ [n + 4, n + 2, n + 3, n, n + 1]) : x ≤ n + 4 := by
  rcases five h with q | q | q | q | q <;> omega
theorem turn_mixed {P : Program} {w : World} {K : PySem.W.Frag} {elts : List Expr} {kk : Nat} {tpos : Pos} {n n1 n2 a b : Nat} (la : a < n) (lb : b < n) :
    Turn P w K (.Tuple elts kk tpos) (ItzM K n1 n2 a b) [n + 4, n + 2, n + 3, n, n + 1] (n + 4) (fun i h => IsZip h (n + 4) (n + 2) (n + 3) .none ∧ IsPair h (n + 2) (.ref n) (.ref (n + 1)) ∧ (∃ x y, IsPair h (n + 3) x y) ∧ h.IsTupleIter n a i ∧ h.IsListIter (n + 1) b i ∧ i ≤ n1 ∧ i ≤ n2) := by
  have S := zip_sep n a b la lb
  have n4 : (n + 4 : Nat) ∈ [n + 4, n + 2, n + 3, n, n + 1] := by simp
  have n2 : (n + 2 : Nat) ∈ [n + 4, n + 2, n + 3, n, n + 1] := by simp
  have n3 : (n + 3 : Nat) ∈ [n + 4, n + 2, n + 3, n, n + 1] := by simp
  have n0 : n ∈ [n + 4, n + 2, n + 3, n, n + 1] := by simp
  have n1 : (n + 1 : Nat) ∈ [n + 4, n + 2, n + 3, n, n + 1] := by simp
  refine ⟨n4, fun i h st c hc => ?_, fun i h h' st k => ?_, ?_, ?_, fun A i s Q E st h => wpAny_pyIter_zip st.1 h⟩
  · obtain ⟨hz, hTI, ⟨x, y, hTO⟩, ⟨o1, e1, _, d1⟩, ⟨o2, e2, _, d2⟩, _, _⟩ := st
    rcases five hc with q | q | q | q | q <;> rw [q]
    · exact ⟨_, hz, fun v q => nomatch q⟩
    · exact ⟨_, hTI, fun v q => nomatch q⟩
    · exact ⟨_, hTO, fun v q => nomatch q⟩
    · exact ⟨o1, e1, fun v q => by rw [d1] at q; cases q⟩
    · exact ⟨o2, e2, fun v q => by rw [d2] at q; cases q⟩
  · obtain ⟨hz, hTI, ⟨x, y, hTO⟩, h1, h2, l1, l2⟩ := st
    exact ⟨k _ n4 _ hz, k _ n2 _ hTI, ⟨x, y, k _ n3 _ hTO⟩, h1.at fun o q => k _ n0 o q, h2.at fun o q => k _ n1 o q, l1, l2⟩
  · intro X hP hw hK hc i pins s σ H E J hf st hg
    subst hP hw hK
    obtain ⟨hz, hTI, ⟨x0, y0, hTO⟩, h1, h2, i1, i2⟩ := st
    obtain ⟨xs, ys, x, y, hqx, hqy, l1, l2, hx, hy⟩ := hg
    obtain ⟨its, rv, p, _⟩ := J.tuple hqx
    obtain ⟨its2, rv2, p2, _⟩ := J.list hqy
    obtain ⟨u, hu, ru⟩ := rv.get hx
    obtain ⟨u2, hu2, ru2⟩ := rv2.get hy
    have t1 : s.heap.IsTuple a its.toArray := p
    have hzl : n + 4 < s.heap.objs.size := Heap.lt_size hz
    have D1 := Draws.tuple (prog := X.prog) (w := X.w) (A := X.A.in1) (J.ok.hd hc) n a (Nat.ne_of_lt la) its.toArray
    have D2 := Draws.list (prog := X.prog) (w := X.w) (A := X.A.in1) (J.ok.hd hc) (n + 1) b (Nat.ne_of_lt (Nat.lt_succ_of_lt lb)) its2.toArray
    have m1 : i < its.toArray.size := by
      have := (List.getElem?_eq_some_iff.mp hu).1
      simpa using this
    have m2 : i < its2.toArray.size := by
      have := (List.getElem?_eq_some_iff.mp hu2).1
      simpa using this
    refine wpAny_pyNext_zipD2_item S D1 D2 hz hTI hTO ⟨h1, t1⟩ ⟨h2, p2.isList⟩ m1 m2 fun v1 v2 h' tk q1 q2 z' TO' s1 s2 hT hsz hk => ?_
    have ev1 : v1 = u := by
      rw [show its.toArray[i]? = some u by simpa using hu] at q1
      exact (Option.some.inj q1).symm
    have ev2 : v2 = u2 := by
      rw [show its2.toArray[i]? = some u2 by simpa using hu2] at q2
      exact (Option.some.inj q2).symm
    subst ev1 ev2
    refine ⟨_, rfl, wpAny_letOwnedTupleGo_zip (s := { s with heap := h', toks := tk }) z' fun h'' z'' sb => ?_⟩
    have nz : ∀ c : Nat, c ≠ n + 4 → ∀ o, h'.get? c = some o → h''.get? c = some o := fun c e o q => (sb.2 _ e).trans q
    have hT2 : h''.get? s.heap.objs.size = some { cls := .type "tuple", data := .seq #[v1, v2] } := nz _ (Nat.ne_of_gt hzl) _ hT
    have new : ObjOk X.prog X.w (upd H s.heap.objs.size (.tup [x, y])) h'' s.heap.objs.size (.tup [x, y]) :=
      ⟨by show 2 ≤ sizeLine; decide, [v1, v2], .cons ru (.cons ru2 .nil), ⟨_, hT2, rfl, _, rfl⟩⟩
    have J1 : Inv X pins σ (upd H s.heap.objs.size (.tup [x, y])) { s with heap := h'', toks := tk } :=
      J.turnedNew (t' := tk) (ch := [n + 4, n + 2, n + 3, n, n + 1]) (fun c o hb q => nz c (fun e => hb (by rw [e]; exact n4)) o (hk c o (fun e => hb (by rw [e]; exact n4)) (fun e => hb (by rw [e]; exact n3)) (fun e => hb (by rw [e]; exact n0)) (fun e => hb (by rw [e]; exact n1)) q)) hf (Nat.le_refl _) new
    refine ⟨.ref s.heap.objs.size, _, J1, rfl, ⟨_, x, y, rfl, J.hok.fresh (Nat.le_refl _), rfl, fun l hl => by rw [J.tuple_inj hl hqx]; exact hx, fun l hl => by rw [J.list_inj hl hqy]; exact hy⟩, ⟨z'', ?_, ⟨v1, v2, ?_⟩, ?_, ?_, ?_, ?_⟩, fun c hcm => ?_⟩
    · exact nz _ S.TIz _ (hk _ _ S.TIz S.TITO S.TIi1 S.TIi2 hTI)
    · exact nz _ (show (n + 3 : Nat) ≠ n + 4 by omega) _ TO'
    · exact s1.1.at fun o q => nz _ (show (n : Nat) ≠ n + 4 by omega) o q
    · exact s2.1.at fun o q => nz _ (show (n + 1 : Nat) ≠ n + 4 by omega) o q
    · have := (List.getElem?_eq_some_iff.mp hx).1
      omega
    · have := (List.getElem?_eq_some_iff.mp hy).1
      omega
    · have hlt : c < s.heap.objs.size := Nat.lt_of_le_of_lt (five_le hcm) hzl
      rw [upd_ne (Nat.ne_of_lt hlt)]
      exact (hf c hcm).1
  · intro X hP hw hK hc i pins s σ H E J hf st hg
    subst hP hw hK
    obtain ⟨hz, hTI, ⟨x0, y0, hTO⟩, h1, h2, i1, i2⟩ := st
    obtain ⟨xs, ys, hqx, hqy, e1, e2, hend⟩ := hg
    obtain ⟨its, rv, p, _⟩ := J.tuple hqx
    obtain ⟨its2, rv2, p2, _⟩ := J.list hqy
    have l1 := rv.length
    have l2 := rv2.length
    have t1 : s.heap.IsTuple a its.toArray := p
    have D1 := Draws.tuple (prog := X.prog) (w := X.w) (A := X.A.in1) (J.ok.hd hc) n a (Nat.ne_of_lt la) its.toArray
    have D2 := Draws.list (prog := X.prog) (w := X.w) (A := X.A.in1) (J.ok.hd hc) (n + 1) b (Nat.ne_of_lt (Nat.lt_succ_of_lt lb)) its2.toArray
    refine wpAny_pyNext_zipD2_end S D1 D2 hz hTI hTO ⟨h1, t1⟩ ⟨h2, p2.isList⟩ (by rw [List.size_toArray]; omega) (by rw [List.size_toArray]; omega) (by rw [List.size_toArray, List.size_toArray]; omega) fun h' tk hk => ⟨rfl, ?_⟩
    exact J.turnedL (t' := tk) (ch := [n + 4, n + 2, n + 3, n, n + 1]) (fun c o hb q => hk c o (fun e => hb (by rw [e]; exact n4)) (fun e => hb (by rw [e]; exact n3)) (fun e => hb (by rw [e]; exact n0)) (fun e => hb (by rw [e]; exact n1)) q) hf
def iZipM (K : PySem.W.Frag) (ta : TA) : TI := fun σ H R => ta σ H fun vs H1 => ∃ a b xs ys, vs = [.ref a, .ref b] ∧ SqT K H1 a xs ∧ SqL K H1 b ys ∧ R (ItzM K xs.length ys.length a b) H1
theorem pi_mixed {X : Cx} {e e2 : Expr} {ta : TA} {p pos tpos : Pos} {elts : List Expr} {kk : Nat} (hg : Gl X "zip") (hm : X.mg "zip" = none) (ha : PA X [e, e2] ta)
    (hs : starEach [e, e2] X.env = (false, eval e X.env) :: starEach [e2] X.env) (hpl : (backTo pos (starEach [e2] X.env)).any (·.1) = false) :
    PI X (.Tuple elts kk tpos) (.Call (.Name "zip" p) [e, e2] [] pos) (iZipM X.K ta) := by
  refine ⟨fun pins s σ H R J h => ?_⟩
  refine Call_ (ld_blt J hg hm PyProof.Rows.boot_zip (PyProof.Rows.callWith_type1 (thn (ha.run pos pins s σ H _ J h) fun us s1 ⟨vs, H1, J1, r1, q1⟩ => ?_) hs hpl))
  obtain ⟨a, b, xs, ys, ex, hqx, hqy, q⟩ := q1
  subst ex
  cases r1 with
  | cons r rr =>
    cases rr with
    | cons r' rr =>
      cases rr
      cases r
      cases r'
      obtain ⟨its, rv, p1, _⟩ := J1.tuple hqx
      obtain ⟨its2, rv2, p2, _⟩ := J1.list hqy
      have t1 : s1.heap.IsTuple a its.toArray := p1
      obtain ⟨o1, ho1, _⟩ := id p1
      have fresh : ∀ c, c ∈ [s1.heap.objs.size + 4, s1.heap.objs.size + 2, s1.heap.objs.size + 3, s1.heap.objs.size, s1.heap.objs.size + 1] → FpOk X pins H1 c := fun c hcm => by
        have hle : s1.heap.objs.size ≤ c := by
          rcases five hcm with z | z | z | z | z <;> rw [z]
          · exact Nat.le_add_right _ _
          · exact Nat.le_add_right _ _
          · exact Nat.le_add_right _ _
          · exact Nat.le_refl _
          · exact Nat.le_add_right _ _
        exact J1.fpOk hle (J1.hok.fresh hle)
      refine zip_begins2 (begins_tuple a its.toArray) (begins_list b its2.toArray) t1 p2.isList fun h' hz hTI hTO g1 g2 hsz hk => wpAny_pyIter_zip hz ?_
      have J2 : Inv X pins σ H1 { s1 with heap := h' } := J1.kept (t' := s1.toks) hk
      exact ⟨s1.heap.objs.size + 4, [s1.heap.objs.size + 4, s1.heap.objs.size + 2, s1.heap.objs.size + 3, s1.heap.objs.size, s1.heap.objs.size + 1], _, _, H1, rfl, J2, turn_mixed (Heap.lt_size ho1) p2.lt, ⟨hz, hTI, ⟨_, _, hTO⟩, ⟨_, g1, rfl, rfl⟩, ⟨_, g2, rfl, rfl⟩, Nat.zero_le _, Nat.zero_le _⟩, fresh, q⟩
section
variable {I : Type} {X : I → Cx} {P : Program} {w : World} {K : PySem.W.Frag} {mg : Str → Option Value} {base : Heap} {k : Nat}
theorem wk_zipM {W0 : Wd} {a b : Addr} {vs us : List V} {ds es : List D} (h : SqT K W0.B a vs) (r : RepL K W0.B W0.ι vs ds) (h' : SqL K W0.B b us) (r' : RepL K W0.B W0.ι us es) : Wk K (ItzM K vs.length us.length a b) W0 ((ds.zip es).map fun p => .tup [p.1, p.2]) := by
  refine wk_pair (n := min ds.length es.length) (fun W M l w => ⟨fun i hi => ?_, fun i d1 d2 hi e1 e2 => ?_⟩) (Nat.min_le_left _ _) (Nat.min_le_right _ _) rfl
  · exact ⟨vs, us, sqT_mono w.sub (sqT_mono l.same h), sqL_mono w.sub (sqL_mono l.same h'), rfl, rfl, by rw [r.len, r'.len]; omega⟩
  · have hs : SqT K W.H a vs := sqT_mono w.sub (sqT_mono l.same h)
    have hs' : SqL K W.H b us := sqL_mono w.sub (sqL_mono l.same h')
    obtain ⟨v, h1, h2⟩ := (r.mono l.same l.ix).get e1
    obtain ⟨u, h3, h4⟩ := (r'.mono l.same l.ix).get e2
    refine ⟨⟨vs, us, v, u, hs, hs', rfl, rfl, h1, h3⟩, fun x H' ⟨T, x1, x2, a1, a2, a3, a4, a5⟩ => ⟨T, x1, x2, a1, a2, a3, ?_, ?_⟩⟩
    · have e3 := (a4 vs hs).symm.trans h1
      cases e3
      exact h2
    · have e3 := (a5 us hs').symm.trans h3
      cases e3
      exact h4
/-- zip of two lists, two tuples, or a tuple and a list -/
def aZipM (a : AF) : AF := fun δ M => match a δ M with
  | some ([.tup xs, .lst ys], M1) => some ((xs.zip ys).map fun p => .tup [p.1, p.2], M1)
  | _ => none
theorem DI.zipM (c : Ctx X P w K mg base k) (hm : mg "zip" = none) {e e2 : Expr} {p pos tpos : Pos} {elts : List Expr} {kk : Nat} {a : AF} (h : DA X K [e, e2] a) (hg : ∀ i, Gl (X i) "zip" := by intro _; rfl) (hs : ∀ i, starEach [e, e2] (X i).env = (false, eval e (X i).env) :: starEach [e2] (X i).env := by intro _; rfl) (hpl : ∀ i, (backTo pos (starEach [e2] (X i).env)).any (·.1) = false := by intro _; rfl) :
    DI X K (.Tuple elts kk tpos) (.Call (.Name "zip" p) [e, e2] [] pos) (aZipM a) := by
  obtain ⟨t, pa, r⟩ := h.go
  refine ⟨iZipM K t, fun i => ?_, fun σ W δ M ds M' R w s ev q => ?_⟩
  · have h := pi_mixed (X := X i) (hg i) (by rw [c.mg i]; exact hm) (pa i) (hs i) (hpl i) (p := p) (pos := pos) (tpos := tpos) (elts := elts) (kk := kk)
    rw [c.K i] at h
    exact h
  · unfold aZipM at ev
    split at ev
    · rename_i xs ys M1 h1
      cases ev
      refine r σ W δ M _ _ _ w s h1 fun vs W1 l1 w1 r1 => ?_
      cases r1 with
      | cons r1 r2 =>
        cases r2 with
        | cons r2 r3 =>
          cases r3
          cases r1 with
          | tup h1 r1 =>
            cases r2 with
            | lst h2 r2 => exact ⟨_, _, _, _, rfl, sqT_mono w1.sub h1, .inl (.inl (w1.sub _ _ h2)), q _ W1 l1 w1 (wk_zipM h1 r1 (.inl (.inl h2)) r2)⟩
    · cases ev
end
end Pl

/-! PlJ: list(zip(a list, a text)); a dict that lives, asked for a key. -/
namespace Pl
open PySem PySem.Spec PyProof.Rows L2
section
variable {X : Cx}
theorem zip_laidP {pins : List (Addr × Obj)} {σ : L2.St} {H : Hp} {s : Shared} {h' : Heap} {tk : Nat} {xs ys : List V} {P1 P2 : Nat → Value → Prop} {c : Nat} {L : Addr} {as : List Addr} (I : Inv X pins σ H s) (hz : (xs.zip ys).length ≤ sizeLine) (kx : ∀ j u, P1 j u → ∃ x, xs[j]? = some x ∧ RelV x u) (ky : ∀ j u, P2 j u → ∃ x, ys[j]? = some x ∧ RelV x u)
    (hk : ∀ b o, s.heap.get? b = some o → h'.get? b = some o) (hL : s.heap.objs.size ≤ L) (hS : h'.get? L = some { cls := .type "list", dict := none, data := .seq (as.map Value.ref).toArray c, slots := #[] }) (hl : as.length = (xs.zip ys).length)
    (ht : ∀ (j : Nat) (T : Addr), as[j]? = some T → ∃ x1 x2, P1 j x1 ∧ P2 j x2 ∧ IsTupOf2 h' T x1 x2) (hT : ∀ T ∈ as, s.heap.objs.size ≤ T ∧ T ≠ L) (nd : as.Nodup) :
    H L = none ∧ (∀ t ∈ as, H t = none) ∧ L ∉ as ∧ Inv X pins σ (upd (putZ H as (xs.zip ys)) L (.lst (as.map V.ref))) { s with heap := h', toks := tk } := by
  have hSn : L ∉ as := fun z => (hT _ z).2 rfl
  have newA : ∀ t ∈ as, H t = none := fun t ht => I.hok.fresh (hT t ht).1
  have newL : H L = none := I.hok.fresh hL
  have atP := putZ_at as (xs.zip ys) H hl nd
  have offA : ∀ b, b ∉ as → b ≠ L → (upd (putZ H as (xs.zip ys)) L (.lst (as.map V.ref))) b = H b := fun b h1 h2 => by rw [upd_ne h2, putZ_off as _ _ h1]
  have lowA : ∀ b o, s.heap.get? b = some o → b ∉ as ∧ b ≠ L := fun b o e => ⟨fun z => absurd (Heap.lt_size e) (Nat.not_lt.mpr (hT b z).1), fun z => absurd (Heap.lt_size e) (Nat.not_lt.mpr (z ▸ hL))⟩
  have keepA : ∀ b u, H b = some u → (upd (putZ H as (xs.zip ys)) L (.lst (as.map V.ref))) b = some u := fun b u e => by
    rw [offA b (fun z => by rw [newA b z] at e; cases e) (fun z => by rw [z, newL] at e; cases e)]
    exact e
  have eS : (upd (putZ H as (xs.zip ys)) L (.lst (as.map V.ref))) L = some (.lst (as.map V.ref)) := upd_same
  refine ⟨newL, newA, hSn, ?_⟩
  refine I.call' (ch := []) rfl ⟨fun b o q _ _ _ => hk b o q, fun b o q _ _ _ => ⟨o.slots, hk b o q⟩, fun b o q n _ => ?_, fun b o q _ => ⟨o, hk b o q⟩, fun b xs q => keepA b _ q, fun b o u q => keepA b _ q, fun b ps q => ⟨#[], by rw [keepA b _ q]; simp⟩⟩ (fun b u q => ?_) I.bare fun b z => by simp at z
  · obtain ⟨z1, z2⟩ := lowA b o q
    rw [offA b z1 z2]
    exact n
  · by_cases hb : b ∈ as
    · obtain ⟨j, pk, e1, e2, e3⟩ := atP b hb
      rw [upd_ne (show b ≠ L from fun z => hSn (by rw [← z]; exact hb)), e3] at q
      cases q
      obtain ⟨a1, a2⟩ := List.getElem?_zip_eq_some.mp e2
      obtain ⟨x1, x2, f1, f2, f3⟩ := ht j b e1
      obtain ⟨y1, g1, g2⟩ := kx _ _ f1
      obtain ⟨y2, g3, g4⟩ := ky _ _ f2
      rw [a1] at g1
      cases g1
      rw [a2] at g3
      cases g3
      exact ⟨by show 2 ≤ sizeLine; decide, [x1, x2], .cons g2 (.cons g4 .nil), ⟨_, f3, rfl, _, rfl⟩⟩
    · by_cases hb2 : b = L
      · rw [hb2] at q ⊢
        rw [eS] at q
        cases q
        refine ⟨by rw [List.length_map]; omega, as.map Value.ref, c, valsZ_refs as, ?_⟩
        exact hS
      · rw [offA b hb hb2] at q
        exact (I.hok b u q).stay (fun d v _ y => hk d v y) (fun d y => keepA d _ y) fun d xs y => keepA d _ y
theorem list_zip_tailP {Q : VK} {pins : List (Addr × Obj)} {σ : L2.St} {H : Hp} {s : Shared} {h' : Heap} {xs ys : List V} {P1 P2 : Nat → Value → Prop} {n1 n2 : Nat} {fp1 fp2 : List Addr} {St1 St2 : Nat → Heap → Prop} (I : Inv X pins σ H s) (kx : ∀ j u, P1 j u → ∃ x, xs[j]? = some x ∧ RelV x u) (ky : ∀ j u, P2 j u → ∃ x, ys[j]? = some x ∧ RelV x u) (lx : xs.length = n1) (ly : ys.length = n2) (zx : xs.length ≤ sizeLine)
    (S : ZipSep2 (s.heap.objs.size + 4) (s.heap.objs.size + 2) (s.heap.objs.size + 3) s.heap.objs.size (s.heap.objs.size + 1) fp1 fp2)
    (D1 : Draws X.prog X.w X.A.in1.in1.in1 s.heap.objs.size fp1 n1 P1 St1) (D2 : Draws X.prog X.w X.A.in1.in1.in1 (s.heap.objs.size + 1) fp2 n2 P2 St2)
    (hz : IsZip h' (s.heap.objs.size + 4) (s.heap.objs.size + 2) (s.heap.objs.size + 3) .none) (hTI : IsPair h' (s.heap.objs.size + 2) (.ref s.heap.objs.size) (.ref (s.heap.objs.size + 1))) (hTO : IsPair h' (s.heap.objs.size + 3) .none .none) (st1 : St1 0 h') (st2 : St2 0 h') (hsz : h'.objs.size = s.heap.objs.size + 5)
    (hf1 : ∀ b ∈ fp1, b < s.heap.objs.size + 5) (hf2 : ∀ b ∈ fp2, b < s.heap.objs.size + 5) (hk : ∀ c o, s.heap.get? c = some o → h'.get? c = some o)
    (q : ∀ (p : Addr) (ts : List Addr), H p = none → (∀ t ∈ ts, H t = none) → ts.Nodup → p ∉ ts → ts.length = (xs.zip ys).length → Q (.ref p) (upd (putZ H ts (xs.zip ys)) p (.lst (ts.map V.ref)))) :
    wpAny (model X.prog X.w) X.A (call (.type "list") [.ref (s.heap.objs.size + 4)]) (EP X pins σ Q) X.xe { s with heap := h' } := by
  have hlt : ∀ b ∈ (s.heap.objs.size + 4) :: (s.heap.objs.size + 2) :: (s.heap.objs.size + 3) :: (fp1 ++ fp2), b < h'.objs.size := fun b hb => by
    rw [hsz]
    rcases List.mem_cons.mp hb with e | hb
    · rw [e]
      exact Nat.lt_succ_self _
    rcases List.mem_cons.mp hb with e | hb
    · rw [e]
      exact Nat.add_lt_add_left (by decide) _
    rcases List.mem_cons.mp hb with e | hb
    · rw [e]
      exact Nat.add_lt_add_left (by decide) _
    rcases List.mem_append.mp hb with h | h
    · exact hf1 b h
    · exact hf2 b h
  have old : ∀ b (o : Obj), s.heap.get? b = some o → b ≠ s.heap.objs.size + 4 ∧ b ≠ s.heap.objs.size + 3 ∧ b ≠ s.heap.objs.size ∧ b ≠ s.heap.objs.size + 1 := fun b o e => by
    have := Heap.lt_size e
    exact ⟨Nat.ne_of_lt (Nat.lt_add_right _ this), Nat.ne_of_lt (Nat.lt_add_right _ this), Nat.ne_of_lt this, Nat.ne_of_lt (Nat.lt_add_right _ this)⟩
  refine call_list_zip (s := { s with heap := h' }) S D1 D2 (by omega) hlt hz hTI hTO st1 st2 fun h2 tk Ts c k1 k2 k3 k4 k5 k6 => ?_
  have hl : Ts.length = (xs.zip ys).length := by
    rw [k3, List.length_zip, lx, ly]
  obtain ⟨j1, j2, j3, J⟩ := zip_laidP (tk := tk) (h' := h2) (L := h'.objs.size) (as := Ts) (c := c) I (by rw [List.length_zip]; omega) kx ky (fun b o e => by
      obtain ⟨n1, n2, n3, n4⟩ := old b o e
      exact k1 b o n1 n2 n3 n4 (hk b o e)) (by rw [hsz]; exact Nat.le_add_right _ _) k2 hl (fun j T e => by
      obtain ⟨x1, x2, p1, p2, p3⟩ := k4 j T e
      exact ⟨x1, x2, p1, p2, p3⟩) (fun T m => by
      have h5 : h'.objs.size + 1 ≤ T := k5 T m
      refine ⟨Nat.le_trans ?_ (Nat.le_of_succ_le h5), fun e => ?_⟩
      · rw [hsz]
        exact Nat.le_add_right _ _
      · subst e
        exact Nat.not_succ_le_self _ h5) k6
  exact ⟨.ref _, _, J, rfl, q _ Ts j1 j2 k6 j3 hl⟩

theorem zip_sepS (n a : Nat) (la : a < n) : ZipSep2 (n + 4) (n + 2) (n + 3) n (n + 1) [n, a] [n + 1] := by
  have n1 : ∀ m : Nat, m ≠ n + 1 → m ∉ [n + 1] := fun m h e => h (List.mem_singleton.mp e)
  exact ⟨show (n + 2 : Nat) ≠ n + 4 by omega, show (n + 3 : Nat) ≠ n + 4 by omega, show (n + 2 : Nat) ≠ n + 3 by omega, show (n + 2 : Nat) ≠ n by omega, List.mem_cons_self, nin2 _ _ _ (by omega) (by omega), nin2 _ _ _ (by omega) (by omega),
    show (n + 2 : Nat) ≠ n + 1 by omega, List.mem_cons_self, n1 (n + 4) (by omega), n1 (n + 3) (by omega), n1 n (by omega), nin2 (n + 1) n a (by omega) (by omega)⟩
theorem zip_lt2 (n : Nat) : ∀ b ∈ [n + 1], b < n + 5 := fun b h => by
  rw [List.mem_singleton.mp h]
  omega
/-- the signs of a text -/
def signsV (x : Str) : List V := x.cps.toList.map fun c => V.str ⟨#[c]⟩
def rZipS (K : PySem.W.Frag) : List V → Hp → VK → Prop := fun vs H Q => ∃ (a : Addr) (x : Str) (xs : List V), vs = [.ref a, .str x] ∧ SqL K H a xs ∧
  ∀ (p : Addr) (ts : List Addr), H p = none → (∀ t ∈ ts, H t = none) → ts.Nodup → p ∉ ts → ts.length = (xs.zip (signsV x)).length → Q (.ref p) (upd (putZ H ts (xs.zip (signsV x))) p (.lst (ts.map V.ref)))
def tZipS (K : PySem.W.Frag) (ta : TA) : TE := fun σ H Q => ta σ H fun vs H1 => rZipS K vs H1 Q
theorem pe_zipS {e e2 : Expr} {ta : TA} {p p2 pos pos2 : Pos} (hc : X.calm = true) (hg : Gl X "list") (hm : X.mg "list" = none) (hg2 : Gl X "zip") (hm2 : X.mg "zip" = none) (ha : PA X [e, e2] ta)
    (hs : starEach [e, e2] X.env = (false, eval e X.env) :: starEach [e2] X.env) (hpl : (backTo pos2 (starEach [e2] X.env)).any (·.1) = false)
    (na : starEach [.Call (.Name "zip" p2) [e, e2] [] pos2] X.env = (false, eval (.Call (.Name "zip" p2) [e, e2] [] pos2) X.env) :: starEach [] X.env) :
    PE X (.Call (.Name "list" p) [.Call (.Name "zip" p2) [e, e2] [] pos2] [] pos) (tZipS X.K ta) := by
  refine ⟨fun pins s σ H Q I h => ?_⟩
  refine Call_ (ld_blt I hg hm boot_list (PyProof.Rows.callWith_type1 (args_cons (Call_ (ld_blt I hg2 hm2 PyProof.Rows.boot_zip (PyProof.Rows.callWith_type1 (thn (ha.run pos2 pins s σ H _ I h) fun us s1 ⟨vs, H1, I1, r1, q1⟩ => ?_) hs hpl))) na) na))
  obtain ⟨a, x, xs, ex, hqx, q⟩ := q1
  subst ex
  cases r1 with
  | cons r rr =>
    cases rr with
    | cons r' rr =>
      cases rr
      cases r
      obtain ⟨t, rfl⟩ := r'
      obtain ⟨its, rv, p1, z1⟩ := I1.list hqx
      refine zip_begins2 (begins_list a its.toArray) (begins_text x t) p1.isList trivial fun h' hz hTI hTO g1 g2 hsz hk => args_nil ?_
      have hs2 : h'.IsStrIter (s1.heap.objs.size + 1) (strIterType x) x t 0 := ⟨_, g2, rfl, rfl⟩
      have hs1 : h'.IsListIter s1.heap.objs.size a 0 := ⟨_, g1, rfl, rfl⟩
      have S := zip_sepS s1.heap.objs.size a p1.lt
      have r2 := list_zip_tailP (X := X) (Q := Q) (ys := signsV x) (n1 := its.toArray.size) (n2 := x.cps.size) I1 (P1 := fun i v => its.toArray[i]? = some v) (P2 := fun i v => ∃ c u, x.cps[i]? = some c ∧ v = .str ⟨#[c]⟩ u)
        (fun j u h => vals_get rv (by simpa using h)) (fun j u ⟨c, u', e1, e2⟩ => ⟨.str ⟨#[c]⟩, by
          unfold signsV
          rw [List.getElem?_map, Array.getElem?_toList, e1]
          rfl, u', e2⟩) (by rw [List.size_toArray]; exact rv.length) (by unfold signsV; rw [List.length_map, Array.length_toList]) z1 S
        (Draws.list (A := X.A.in1.in1.in1) (I1.ok.hd hc) s1.heap.objs.size a (Nat.ne_of_lt p1.lt) its.toArray) (Draws.text (A := X.A.in1.in1.in1) (I1.ok.hd hc) (s1.heap.objs.size + 1) x t)
        hz hTI hTO ⟨hs1, p1.isList.at fun o e => hk _ o e⟩ hs2 hsz (zip_lt _ _ p1.lt) (zip_lt2 _) hk q
      exact r2
end
section
variable {I : Type} {X : I → Cx} {P : Program} {w : World} {K : PySem.W.Frag} {mg : Str → Option Value} {base : Heap} {k : Nat}
def gZipS : GL := fun ds M => match ds with
  | [a, .str x] => (match lstOf M a with
    | some xs => some (.lst ((xs.zip (x.cps.toList.map fun c => D.str ⟨#[c]⟩)).map fun p => .tup [p.1, p.2]), M)
    | none => none)
  | _ => none
theorem DE.zipS (c : Ctx X P w K mg base k) {e e2 : Expr} {p p2 pos pos2 : Pos} {a : AF} (hm : mg "list" = none) (hm2 : mg "zip" = none) (ha : DA X K [e, e2] a) (hg : ∀ i, Gl (X i) "list" := by intro _; rfl) (hg2 : ∀ i, Gl (X i) "zip" := by intro _; rfl)
    (hs : ∀ i, starEach [e, e2] (X i).env = (false, eval e (X i).env) :: starEach [e2] (X i).env := by intro _; rfl) (hpl : ∀ i, (backTo pos2 (starEach [e2] (X i).env)).any (·.1) = false := by intro _; rfl)
    (na : ∀ i, starEach [.Call (.Name "zip" p2) [e, e2] [] pos2] (X i).env = (false, eval (.Call (.Name "zip" p2) [e, e2] [] pos2) (X i).env) :: starEach [] (X i).env := by intro _; rfl) :
    DE X K (.Call (.Name "list" p) [.Call (.Name "zip" p2) [e, e2] [] pos2] [] pos) (eB gZipS a) := by
  obtain ⟨t, pa, ra⟩ := ha.go
  refine ⟨tZipS K t, fun i => ?_, fun σ W δ M d M' Q w s e q => ?_⟩
  · have h := pe_zipS (X := X i) (p := p) (pos := pos) (c.calm i) (hg i) (by rw [c.mg i]; exact hm) (hg2 i) (by rw [c.mg i]; exact hm2) (pa i) (hs i) (hpl i) (na i)
    rw [c.K i] at h
    exact h
  · unfold eB at e
    split at e
    · rename_i ds M1 h1
      refine ra σ W δ M _ _ _ w s h1 fun vs W1 l1 w1 r1 => ?_
      unfold gZipS at e
      split at e
      · split at e
        · rename_i xs h2
          cases e
          cases r1 with
          | cons r1 r2 =>
            cases r2 with
            | cons r2 r3 =>
              cases r3
              cases r2
              obtain ⟨a, us, rfl, s1, q1⟩ := lstOf_rep w1 r1 h2
              refine ⟨a, _, us, rfl, s1, fun p ts h1 h2 h3 h4 h5 => ?_⟩
              obtain ⟨W2, l2, w2, e2, r3⟩ := lay_zip ts us _ xs _ W1 w1 h2 h3 h5 q1 (signs_rep _)
              have hp : W2.H p = none := by
                rw [e2, putZ_off _ _ _ h4]
                exact h1
              obtain ⟨l3, w3, r4⟩ := lay_lst w2 hp r3
              unfold signsV
              have e2' := e2.symm
              unfold signsV at *
              rw [e2']
              exact q _ _ ((l1.trans l2).trans l3) w3 r4
        · cases e
      · cases e
    · cases e
/-! ### asked for a key -/
def gInL (h : Bool → Bool) : O2 := fun a b M => match dicOf M b, keyOf a with
  | some kvs, some q => some (.bl (h (dget kvs q).isSome), M)
  | _, _ => none
theorem opInL (c : Ctx X P w K mg base k) : OpF X K (compareOp .In) (gInL fun b => b) :=
  ⟨fun y x H Q => ∃ a o, x = .ref a ∧ DGet H a y o ∧ Q (.bl o.isSome) H, fun i pins s σ H y x v u Q J hy hx h => by
    obtain ⟨a, o, rfl, g, q⟩ := h
    cases hx
    exact d_in (hu1 (c.room i)) J g hy fun s3 I3 => ⟨.bl o.isSome, H, I3, rfl, q⟩, fun W M y x b a z M' Q w rb ra e q => by
    unfold gInL at e
    split at e
    · rename_i kvs q0 h3 h4
      cases e
      obtain ⟨p, n, vs, _, rfl, lv, hp, rk⟩ := dicOf_rep w ra h3
      have ey := keyOf_rep rb h4
      subst ey
      refine ⟨p, valV vs q0, rfl, DGet.k hp, ?_⟩
      have hh : (valV vs q0).isSome = (dget kvs q0).isSome := by
        cases hd : Pl.dget kvs q0 with
        | none => rw [(rk.get q0).1 hd]; rfl
        | some d0 =>
          obtain ⟨v, hv, rv⟩ := (rk.get q0).2 _ hd
          rw [hv]
          rfl
      rw [hh]
      exact q _ W (.refl W) w (.bl _)
    · cases e⟩
theorem opNotInL (c : Ctx X P w K mg base k) : OpF X K (compareOp .NotIn) (gInL fun b => !b) :=
  ⟨fun y x H Q => ∃ a o, x = .ref a ∧ DGet H a y o ∧ Q (.bl (!o.isSome)) H, fun i pins s σ H y x v u Q J hy hx h => by
    obtain ⟨a, o, rfl, g, q⟩ := h
    cases hx
    exact d_notIn (hu1 (c.room i)) J g hy fun s3 I3 => ⟨.bl (!o.isSome), H, I3, rfl, q⟩, fun W M y x b a z M' Q w rb ra e q => by
    unfold gInL at e
    split at e
    · rename_i kvs q0 h3 h4
      cases e
      obtain ⟨p, n, vs, _, rfl, lv, hp, rk⟩ := dicOf_rep w ra h3
      have ey := keyOf_rep rb h4
      subst ey
      refine ⟨p, valV vs q0, rfl, DGet.k hp, ?_⟩
      have hh : (valV vs q0).isSome = (dget kvs q0).isSome := by
        cases hd : Pl.dget kvs q0 with
        | none => rw [(rk.get q0).1 hd]; rfl
        | some d0 =>
          obtain ⟨v, hv, rv⟩ := (rk.get q0).2 _ hd
          rw [hv]
          rfl
      rw [hh]
      exact q _ W (.refl W) w (.bl _)
    · cases e⟩
theorem opNinK (c : Ctx X P w K mg base k) {x : Str} {a0 : Addr} {tab : List (Str × D)} (T : KTab w K mg x a0 tab) : OpF X K (compareOp .NotIn) (gInK a0 tab fun b => !b) :=
  ⟨fun x y H Q => ∃ z, x = .str z ∧ y = .ref a0 ∧ Q (.bl (!(tab.lookup z).isSome)) H, fun i pins s σ H x y v u Q J hx hy h => by
    obtain ⟨z, rfl, rfl, q⟩ := h
    obtain ⟨t, rfl⟩ := hx
    cases hy
    obtain ⟨es, n, hl, hk, hE⟩ := T.ex
    have hm := PySem.W.mapOf_K (prog := (X i).prog) (w := (X i).w) (K := (X i).K) J.kIn (by rw [c.K i]; exact hl) (by rw [c.wd i]; exact hk)
    refine wpAny_notIn_of (strKind_is (X i).prog (X i).w z t) T.lo hm ⟨.bl (!(tab.lookup z).isSome), H, J.tok _, ?_, q⟩
    rcases kes_find hE z with ⟨e1, e2⟩ | ⟨d, v, u, e1, e2, _⟩
    · rw [e1, e2]
      rfl
    · rw [e1, e2]
      rfl, fun W M x y a b z M' Q w ra rb e q => by
    unfold gInK at e
    split at e
    · split at e
      · rename_i hc
        cases e
        subst hc
        cases ra
        cases rb
        exact ⟨_, rfl, rfl, q _ W (.refl W) w (.bl _)⟩
      · cases e
    · cases e⟩
theorem DFn.none {f : Addr} {fd : FuncData} {ps : List Str} : DFn P w K mg base k f fd ps (fun _ _ => none) :=
  ⟨fun A outer s H args us vs Q r g e b v q => by
    obtain ⟨W, M, ds, d, M', a1, a2, a3, a4, a5, a6⟩ := id q
    cases a5⟩
end
end Pl

/-! PlI: where a text stands in a text; repr of an empty dict, too. -/
namespace Pl
open PySem L2
section
variable {I : Type} {X : I → Cx} {P : Program} {w : World} {K : PySem.W.Frag} {mg : Str → Option Value} {base : Heap} {k : Nat}
def gIdx : Str → D → Mh → Option (D × Mh) := fun a d M => match d with
  | .str b => (match Builtin.Str.occurrences a b 0 a.length 1 with
    | i :: _ => some (.int (i : Nat), M)
    | [] => none)
  | _ => none
theorem sIdx : SmF X K "str.index" gIdx := ⟨_, fun i => mt_sindex, fun W M x v d z M' Q w rv ev q => by
  unfold gIdx at ev
  split at ev
  · split at ev
    · rename_i i rest ho
      cases ev
      cases rv
      exact ⟨x, _, i, rest, rfl, rfl, ho, q _ W (.refl W) w (.int _)⟩
    · cases ev
  · cases ev⟩
def rRepr0 (H : Hp) (xs : List V) (Q : VK) : Prop := ∃ a, xs = [.ref a] ∧ H a = some (.dK []) ∧ Q (.str "{}") H
theorem call_repr0 {Y : Cx} (hu : Y.A.units + 66 < cLine) (hg : Y.A.guards = some []) : CallR Y (.builtin "repr") (fun xs H Q => rRepr0 H xs Q) := fun pins s σ H xs us Q J hv h => by
  obtain ⟨a, rfl, ha, q⟩ := h
  cases hv with
  | cons hx hv =>
    cases hv
    cases hx
    obtain ⟨_, hs, vs, kv, o, es, ep, ho, hx, hd, _, hp, _⟩ := dk_of J.hok ha
    have ev : vs = [] := by
      cases kv
      rfl
    subst ev
    have ee : es.toList = [] := by
      generalize es.toList = l at hp
      cases hp
      rfl
    have rd : Reads s.heap (.ref a) (.dict []) (a :: [] ++ []) := .dict ho hx.1 hd (by rw [ee]; exact .nil) (by rw [ee]; exact .nil)
    have same : ∀ (h' : Heap) (t : Nat), (∀ b o, s.heap.get? b = some o → h'.get? b = some o) → L2.Inv Y pins σ H { heap := h', gens := s.gens, drawn := s.drawn, toks := t, os := s.os } := fun h' t kp => J.turnedL (ch := []) (fun b o _ e => kp b o e) (fun b hb => nomatch hb)
    have hsm : sysModules ∉ (a :: [] ++ [] : List Addr) := by
      have : a ≠ sysModules := fun e => by
        rw [e] at hs
        simp at hs
      simp only [List.append_nil, List.mem_cons, List.not_mem_nil, or_false]
      exact fun e => this e.symm
    have sh : (PyData.dict []).shown = ("{}" : Str) := by decide +kernel
    exact repr_of_reads' rd (by decide +kernel) (fun _ => hsm) hg (by rw [show (PyData.dict []).depth = 1 by decide +kernel]; omega) (fun _ _ e => e) (fun h' u tk kp => ⟨.str _, H, same h' tk kp, ⟨_, rfl⟩, by rw [sh]; exact q⟩) (by rw [sh]; decide +kernel)
def gReprX : GL := fun ds M => match ds with
  | [.ref n] => (match M[n]? with
    | some (.dic []) => some (.str "{}", M)
    | _ => gRepr [.ref n] M)
  | ds => gRepr ds M
theorem cReprX (c : Ctx X P w K mg base k) : CalF X K (.builtin "repr") gReprX := by
  obtain ⟨r, hr, hq⟩ := (cRepr c).go
  refine ⟨fun xs H Q => r xs H Q ∨ rRepr0 H xs Q, fun i pins s σ H xs us Q J hv h => ?_, fun W M vs ds z M' Q w rp e q => ?_⟩
  · rcases h with h | h
    · exact hr i pins s σ H xs us Q J hv h
    · exact call_repr0 (by have := (c.room i).un; omega) (c.grd i) pins s σ H xs us Q J hv h
  · unfold gReprX at e
    split at e
    · rename_i n
      split at e
      · rename_i hm
        cases e
        cases rp with
        | cons r1 r2 =>
          cases r2
          cases r1 with
          | ref hi =>
            obtain ⟨_, _, o, ho, ro⟩ := w.live _ _ _ ⟨hi, hm, fun z => by cases z⟩
            cases ro with
            | dic rk =>
              cases rk
              exact .inr ⟨_, rfl, ho, q _ W (.refl W) w (.str _)⟩
      · exact .inl (hq W M vs _ z M' Q w rp e q)
    · exact .inl (hq W M vs _ z M' Q w rp e q)
end
end Pl

/-! PlY: an exception leaves a comprehension. -/
namespace L2
open PySem PySem.Spec PyProof.Rows
section
variable {M : Model} {A : Around} {E : Value → Shared → Prop} {s : Shared} {env : Env}
def compPostX (M : Model) (A : Around) (E : Value → Shared → Prop) (Q : Value → Shared → Prop) (acc : Value) (cenv : Env) (r : Result) (s' : Shared) : Prop :=
  match r with
  | .ok _ => ∃ m, s'.heap.Ns cenv.locals m ∧ ∀ h', Heap.SameBut cenv.locals s'.heap h' → Q acc { s' with heap := h' }
  | .error x => ∃ m, s'.heap.Ns cenv.locals m ∧ ∀ h', Heap.SameBut cenv.locals s'.heap h' → wpAny M A (passOn "comprehension.variables-let-go" x cenv : Sem Value) (fun _ _ => False) E { s' with heap := h' }
theorem wpAny_comprehension_X {e : Expr} {scope : Scope} {pos : Pos} {newAcc first : Sem Value} {g : Comprehension} {gs : List Comprehension} {cl : List (Str × Addr)} {Q : Value → Shared → Prop}
    (hcl : clausesOf e = g :: gs) (hs : ∀ x, foldedSetIterable g.iter env x = pure x) (hclos : closureFor scope env = pure cl)
    (hkind : scope.kind = .function) (hnames : ∀ x ∈ scope.names, x.2 = .local → scope.names.lookup x.1 = some .local)
    (h : wpAny M A first (fun x s₁ => wpAny M A (pyIter x) (fun it s₂ => wpAny M A newAcc (fun acc s₃ =>
      wpAny M A (newFunctionEnv scope env.globals cl [] env.qual none .none (some env)) (fun cenv s₄ =>
        codeAny M A (.compStart e 0 it acc { cenv with scope := relabel scope env }) (compPostX M A E Q acc { cenv with scope := relabel scope env }) s₄) E s₃) E s₂) E s₁) E s) :
    wpAny M A (comprehension e scope env pos newAcc false first none) Q E s := by
  unfold comprehension
  rw [hclos, hcl]
  refine wpAny_bind (wpAny_mono h (fun x s₁ h₁ => wpAny_bind (wpAny_standAt (wpAny_bind (wpAny_of_eq (hs x) (wpAny_bind (wpAny_holding (wpAny_mono h₁ (fun it s₂ h₂ =>
    wpAny_standIf (wpAny_bind (wpAny_mono h₂ (fun acc s₃ h₃ => wpAny_bind (wpAny_pure (wpAny_bind (wpAny_mono h₃ (fun cenv s₄ h₄ => ?_) fun _ _ h' => h')))) fun _ _ h' => h')))
      fun _ _ h' => h'))))))) fun _ _ h' => h')
  dsimp only
  have hv : ∀ x ∈ (scope.names.filter fun x => (x.2 == .local || x.2 == .cell) && x.1 != (".0" : Str)).reverse, x.2 = .local →
      Env.kindOf { cenv with scope := relabel scope env } x.1 = some .local := fun x hx hl => lookup_relabel_local (hnames x (List.mem_filter.mp (List.mem_reverse.mp hx)).1 hl)
  refine wpAny_holding (wpAny_bind (wpAny_attempt (wpAny_holding (wpAny_run (codeAny_mono h₄ fun r s' hr => ?_)))))
  cases r with
  | ok f =>
    obtain ⟨m, hn, hr⟩ := hr
    exact wpAny_bind (wpAny_holding (wpAny_comp_letGo (cenv := { cenv with scope := relabel scope env }) hkind _ s' m hv hn fun h' m' _ hs' => wpAny_pure (hr h' hs')))
  | error x =>
    obtain ⟨m, hn, hr⟩ := hr
    exact wpAny_bind (wpAny_holding (wpAny_comp_letGo (cenv := { cenv with scope := relabel scope env }) hkind _ s' m hv hn fun h' m' _ hs' => wpAny_mono (hr h' hs') (fun _ _ f => f.elim) fun _ _ y => y))
/-- the frame alone counts -/
theorem note_same {e : Value} {env1 env2 : Env} (h : env1.frame = env2.frame) : noteFrame e env1 = noteFrame e env2 := by
  unfold noteFrame PySem.frameOf
  rw [h]
end
/-! ### what is in the air is noted, whatever it says of its flight -/
section
variable {M : Model} {A : Around} {E : Value → Shared → Prop} {s : Shared} {env : Env} {outer : List Env} {base : Heap} {e L : Addr} {Z : Obj → Prop}
theorem looks_anyZ {fl : Value} {Q : Unit → Shared → Prop} (hZ : HandSPX.Steady Z) (hfr : A.frames = some (env :: outer)) (hf : env.frame = some L) (hne : (fl == rawInt L) = false)
    (hkb : base.StaysIn s.heap) (hen : base.get? e = none) (hl : s.heap.FunFrames base (env :: outer)) (ht : HandSPX.TracedZ s.heap base e Z fl)
    (hQ : ∀ h', HandSPX.HeldZ base (env :: outer) e Z L h' → s.heap.UpToSlots h' → Q () { s with heap := h' }) : wpAny M A (noteFrame (.ref e) env) Q E s := by
  obtain ⟨oe, vs, T, oT, ts, he, hz, hd, h1, hnT, hTe, hT, hdT, h3⟩ := ht
  unfold noteFrame
  simp only [hf]
  refine wpAny_bind (wpAny_field he hd h1 ?_)
  rw [if_pos (show (Value.ref T != Value.none) = true from by simp)]
  refine wpAny_bind (wpAny_field hT hdT h3 ?_)
  rw [if_neg (by rw [hne]; decide)]
  refine wpAny_bind (wpAny_setField hT hdT (Array.getElem?_eq_some_iff.mp h3).1 ?_)
  have other : ∀ b, b ≠ T → (s.heap.update T (Obj.mapFields (·.setIfInBounds 3 Value.none))).get? b = s.heap.get? b := fun b hb => Heap.get?_update_other _ _ (Ne.symm hb)
  have noRecord : ∀ b o, s.heap.get? b = some o → (∀ vs, o.data ≠ .fields vs) → b ≠ T := fun b o hb hnf q => by
    rw [q, hT] at hb; injection hb with hb; subst hb; exact hnf ts hdT
  refine HandSPX.wpAny_entryZ hZ hfr (hl.of_keeps fun b o hb hnf => ⟨o, (other b (noRecord b o hb hnf)).trans hb, rfl⟩) hf ((other e (Ne.symm hTe)).trans he)
    (fun b o hbo => (other b fun q => by rw [q, hnT] at hbo; cases hbo).trans (hkb b o hbo)) hen hd (Array.getElem?_eq_some_iff.mp h1).1 hz fun h' hN => ?_
  obtain ⟨x1, x2, x3, x4⟩ := hN
  exact hQ h' ⟨x1, hen, x2, x3⟩ fun b o hb hnf => x4 b o ((other b (noRecord b o hb hnf)).trans hb) hnf
theorem Sky.noteX {L' : Addr} {Q : Unit → Shared → Prop} (hZ : HandSPX.Steady Z) (hfr : A.frames = some (env :: outer)) (hf : env.frame = some L) (hne : L' ≠ L)
    (x : Sky base (env :: outer) e Z L' s.heap) (hQ : ∀ h', HandSPX.HeldZ base (env :: outer) e Z L h' → s.heap.UpToSlots h' → Q () { s with heap := h' }) : wpAny M A (noteFrame (.ref e) env) Q E s := by
  rcases x with ⟨hB, hn, hl, oe, vs, he, hz, hd, h1⟩ | ⟨f1, f2, f3, f4⟩ | ⟨f1, f2, f3, f4⟩
  · exact HandSPX.look_newZ hZ hfr hl hf he hB hn hd h1 hz hQ
  · exact looks_anyZ hZ hfr hf (by simp [rawInt]) f1 f2 f3 f4 hQ
  · refine looks_anyZ hZ hfr hf ?_ f1 f2 f3 f4 hQ
    unfold rawInt
    simp
    exact fun h => hne (Int.ofNat.inj h)
end
theorem ff_move {h h' B B' : Heap} {C : Addr} : ∀ {l : List Env}, h.FunFrames B l → (∀ b, b ≠ C → h'.get? b = h.get? b) → (∀ b, B.get? b = none → B'.get? b = none) → C ∉ frs l → h'.FunFrames B' l
  | [], _, _, _, _ => trivial
  | env :: rest, ⟨hk, ⟨L, o, hf, hn, ho, hd⟩, hr⟩, kh, kb, hC => by
    unfold frs at hC
    rw [List.filterMap_cons, hf, List.mem_cons, not_or] at hC
    exact ⟨hk, ⟨L, o, hf, kb L hn, (kh L (fun e => hC.1 e.symm)).trans ho, hd⟩, ff_move hr kh kb hC.2⟩
section
variable {X : Cx}
theorem lc_coreX {pins : List (Addr × Obj)} {s : Shared} {σ : St} {H : Hp} {Q : VK} {elt tg iter : Expr} {ifs : List Expr} {scope : Scope} {own : List (Str × Nat)} {pos : Pos} {wi : TI} {g : TG} {tt : TT} {te : TE} {Wout : WX}
    (hst : X.stack = X.env :: X.outer) (hfr : X.env.frame = some X.env.locals) (tk : Takes X Wout)
    (hc : X.calm = true) (hN : X.N.Nodup) (I : Inv X pins σ H s) (hi : PI X tg iter wi) (ok : BlkOk X.N X.env.scope scope own)
    (hg : ∀ (s : Shared) (H : Hp) (C : Addr) (cl : List (Str × Addr)) (fp : List Addr), PG (X.blk s H scope (compEnvC scope cl C X.env) fp) tg g) (ht : ∀ (s : Shared) (H : Hp) (C : Addr) (cl : List (Str × Addr)) (fp : List Addr), PTs (X.blk s H scope (compEnvC scope cl C X.env) fp) ifs tt)
    (he : ∀ (s : Shared) (H : Hp) (C : Addr) (cl : List (Str × Addr)) (fp : List Addr) (pn : List (Addr × Obj)) (xe : Value → Shared → Prop), Takes ((X.blk s H scope (compEnvC scope cl C X.env) fp).tr pn xe) (fun cls d _ H' => Wout cls d σ H') →
      PassesOwn (model X.prog X.w) X.A (compEnvC scope cl C X.env) xe → PE ((X.blk s H scope (compEnvC scope cl C X.env) fp).tr pn xe) elt te) (hs : ∀ x, foldedSetIterable iter X.env x = pure x)
    (h : tLc wi g tt te (own.map (·.2)) σ H Q) :
    wpAny (model X.prog X.w) X.A (eval (.ListComp elt [⟨tg, iter, ifs, 0⟩] scope pos) X.env) (EP X pins σ Q) X.xe s := by
  rw [eval_ListComp]
  have hfree : ∀ y ∈ scope.names, y.2 = .free → ∃ c, X.env.cells.lookup y.1 = some c := fun y hy e => by
    rcases ok.free y hy e with k | k
    · exact I.ok.has _ (.inl k)
    · exact I.ok.has _ (.inr k)
  refine wpAny_comprehension_X rfl hs (closure_ok hfree) ok.kind (fun y hy e => by rw [ok.uniq y hy, e])
    (thn (hi.run pins s σ H _ I h) fun xv s1 hx => thn hx fun itv s2 h2 => ?_)
  obtain ⟨it, fp, tn, J, H2, e, I2, T, st2, f2, q⟩ := h2
  subst e
  refine wpAny_newObj_type (newEnv_comp ?_) (by show 0 ≤ sizeLine; decide)
  generalize hD : s2.heap.objs.size = D
  have hDn : H2 D = none := I2.hok.fresh (Nat.le_of_eq hD)
  obtain ⟨W, ⟨m0, w0⟩, turn⟩ := q D hDn
  -- the new list
  generalize hs3 : ({ s2 with heap := s2.heap.push { cls := .type "list", data := .seq ([] : List Value).toArray } } : Shared) = s3
  have I3 : Inv X pins σ (upd H2 D (.lst [])) s3 := by
    rw [← hs3]
    refine I2.laid (t' := s2.toks) (fun b o e => Heap.get?_push_of_some _ e) (Nat.le_of_eq hD) ⟨Nat.zero_le _, [], 0, .nil, ?_⟩
    rw [← hD]
    exact Heap.get?_push_size _ rfl
  have h3 : s3.heap = s2.heap.push { cls := .type "list", data := .seq ([] : List Value).toArray } := by rw [← hs3]
  have sz : ∀ b ∈ fp, b < s2.heap.objs.size := fun b hb => by
    obtain ⟨o, e, _⟩ := T.obj _ _ st2 b hb
    exact Heap.lt_size e
  have f3 : ∀ b ∈ fp, FpOk X pins (upd H2 D (.lst [])) b ∧ b < s3.heap.objs.size := fun b hb => by
    have hlt := sz b hb
    refine ⟨⟨?_, (f2 b hb).2⟩, by rw [h3, Heap.size_push]; exact Nat.lt_succ_of_lt hlt⟩
    rw [upd_ne (by rw [← hD]; exact Nat.ne_of_lt hlt)]
    exact (f2 b hb).1
  have st3 : tn 0 s3.heap := T.keep _ _ _ st2 fun b _ o e => by rw [h3]; exact Heap.get?_push_of_some _ e
  have I4 := block_start I3 ok hN f3
  have pg := hg s3 (upd H2 D (.lst [])) s3.heap.objs.size (cellsFrom (s3.heap.objs.size + 1) scope.names (cloFrom X.env.cells scope.names [])) fp
  have pt := ht s3 (upd H2 D (.lst [])) s3.heap.objs.size (cellsFrom (s3.heap.objs.size + 1) scope.names (cloFrom X.env.cells scope.names [])) fp
  have pe := he s3 (upd H2 D (.lst [])) s3.heap.objs.size (cellsFrom (s3.heap.objs.size + 1) scope.names (cloFrom X.env.cells scope.names [])) fp
  show codeAny _ _ (.compStart (.ListComp elt [⟨tg, iter, ifs, 0⟩] scope pos) 0 (.ref it) (.ref D) (compEnvC scope (cellsFrom (s3.heap.objs.size + 1) scope.names (cloFrom X.env.cells scope.names [])) s3.heap.objs.size X.env)) (compPostX (model X.prog X.w) X.A X.xe (EP X pins σ Q) (.ref D) (compEnvC scope (cellsFrom (s3.heap.objs.size + 1) scope.names (cloFrom X.env.cells scope.names [])) s3.heap.objs.size X.env)) { s3 with heap := pushCells (s3.heap.push { cls := .type "dict", data := .dict #[] }) scope.names }
  have nfp : ∀ b ∈ fp, (upd H2 D (.lst [])) b = none := fun b hb => (f3 b hb).1.1
  have cF : (compEnvC scope (cellsFrom (s3.heap.objs.size + 1) scope.names (cloFrom X.env.cells scope.names [])) s3.heap.objs.size X.env).frame = X.env.frame := rfl
  generalize hce : compEnvC scope (cellsFrom (s3.heap.objs.size + 1) scope.names (cloFrom X.env.cells scope.names [])) s3.heap.objs.size X.env = ce at I4 pg pt pe cF ⊢
  have cL : ce.locals = s3.heap.objs.size := by subst hce; rfl
  generalize hH3 : upd H2 D (.lst []) = H3 at I3 I4 pg pt pe w0 nfp f3
  generalize hs4 : ({ s3 with heap := pushCells (s3.heap.push { cls := .type "dict", data := .dict #[] }) scope.names } : Shared) = s4 at I4 ⊢
  have st4 : tn 0 s4.heap := T.keep _ _ _ st3 fun b _ o e => by rw [← hs4]; exact pushCells_keeps _ _ _ _ (Heap.get?_push_of_some _ e)
  have stat : ∀ {σ' : St} {H' : Hp} {s' : Shared}, Inv (X.blk s3 H3 scope ce fp) [] σ' H' s' → (∀ b ∈ fp, H' b = none) → ∀ b ∈ fp, FpOk (X.blk s3 H3 scope ce fp) [] H' b := fun {σ' H' s'} I' hn b hb =>
    ⟨hn b hb, (I'.ok.exf b hb).1, I'.ok.exfs b hb, .inl hb, fun x c e => (I'.ok.exf b hb).2 x c e, fun p hp => absurd (show p ∈ ([] : List (Addr × Obj)) ++ [] from hp) (by simp)⟩
  -- from the block to the def
  have back : ∀ {pins' : List (Addr × Obj)} {σ' : St} {H' : Hp} {s' : Shared}, Inv (X.blk s3 H3 scope ce fp) pins' σ' H' s' → Inv X pins σ H' s' ∧ (∃ m, s'.heap.Ns ce.locals m) ∧ FpOk X pins H' ce.locals := fun {pins' σ' H' s'} I6 => by
    have I7 : Inv X pins σ H' s' := I3.call' (ch := fp) I6.os I6.base I6.hok I6.bare fun b hb => ⟨(f3 b hb).1.2.2.2.1, (f3 b hb).1.2.1, (f3 b hb).1.2.2.2.2.1, (f3 b hb).1.2.2.2.2.2⟩
    have nC : H' ce.locals = none := I6.free
    obtain ⟨m, hn, _⟩ := I6.loc
    exact ⟨I7, ⟨m, hn⟩, I3.fpOk (by rw [cL]; exact Nat.le_refl _) nC⟩
  have loop : codeAny (model X.prog X.w) X.A (.compLoop (.ListComp elt [⟨tg, iter, ifs, 0⟩] scope pos) 0 (.ref it) (.ref D) ce) (compPostX (model X.prog X.w) X.A X.xe (EP X pins σ Q) (.ref D) ce) s4 := by
    refine compLoop_any (fun n s' => ∃ i H', Inv (X.blk s3 H3 scope ce fp) [] (wipe σ (own.map (·.2))) H' s' ∧ tn i s'.heap ∧ (∀ b ∈ fp, H' b = none) ∧ W i n H') ?_ m0 ⟨0, H3, I4, st4, nfp, w0⟩
    rintro n s5 ⟨i, H5, I5, st5, n5, w5⟩
    rcases turn i n H5 w5 with ⟨stop, qq⟩ | ⟨go, Nx, hNx, step⟩
    · have td := T.done (X.blk s3 H3 scope ce fp) rfl rfl rfl hc i [] s5 _ H5 (fun _ _ => False) I5 (stat I5 n5) st5 stop
      refine thnF td fun r s6 ⟨hr, I6⟩ => ?_
      subst hr
      obtain ⟨I7, ⟨m, hn⟩, f⟩ := back I6
      refine ⟨m, hn, fun h'' sb => ?_⟩
      obtain ⟨f0, f1, f2, f3, f4, f5⟩ := f
      exact ⟨.ref D, H5, I7.turned (t' := s6.toks) (fun b o hb e => (sb.2 b hb).trans e) f0 f1 f3 f4 f5, rfl, qq⟩
    · have ti := T.item (X.blk s3 H3 scope ce fp) rfl rfl rfl hc i [] s5 _ H5 (fun _ _ => False) I5 (stat I5 n5) st5 go
      refine thnF ti fun r s6 ⟨u, hr, h6⟩ => ?_
      subst hr
      refine thnF h6 fun _ s7 ⟨x, H7, I7, r7, y7, st7, n7⟩ => ?_
      have I7' := I7.pinned (stat I7 n7) (T.obj _ _ st7)
      refine thnF (pg.run _ s7 _ H7 x u _ I7' r7 (step x H7 y7)) fun _ s8 ⟨σ8, H8, I8, hw8, q8⟩ => ?_
      refine thnF (pt.run _ s8 σ8 H8 _ I8 q8) fun b s9 ⟨H9, I9, q9⟩ => ?_
      -- the turn's end
      have fin : ∀ {s' : Shared} {H' : Hp}, Inv (X.blk s3 H3 scope ce fp) ([] ++ pinsAt fp s7.heap) σ8 H' s' → Nx H' → ∃ m, m < n ∧ ∃ i H', Inv (X.blk s3 H3 scope ce fp) [] (wipe σ (own.map (·.2))) H' s' ∧ tn i s'.heap ∧ (∀ b ∈ fp, H' b = none) ∧ W i m H' := fun {s' H'} I' nx => by
        obtain ⟨m', hm, w'⟩ := hNx H' nx
        have pin' : ∀ b ∈ fp, ∀ o, s7.heap.get? b = some o → s'.heap.get? b = some o ∧ H' b = none := fun b hb o e =>
          let z := I'.pin (b, o) (List.mem_append_right _ (List.mem_append_right _ (mem_pinsAt hb e)))
          ⟨z.1, z.2.1⟩
        have hl : (wipe σ (own.map (·.2))).length = σ8.length := by rw [← hw8, wipe_length]
        refine ⟨m', hm, i + 1, H', (I'.unpinned (pins := [])).weak hl (fun j v e => ?_), T.keep _ _ _ st7 fun b hb o e => (pin' b hb o e).1, fun b hb => ?_, w'⟩
        · rw [← hw8] at e
          exact (wipe_some e).1
        · obtain ⟨o, e, _⟩ := T.obj _ _ st7 b hb
          exact (pin' b hb o e).2
      cases b with
      | false =>
        simp only [Bool.false_eq_true, if_false] at q9 ⊢
        exact fin I9 q9
      | true =>
        simp only [if_true] at q9 ⊢
        -- what raises
        have tkB : Takes ((X.blk s3 H3 scope ce fp).tr ((X.blk s3 H3 scope ce fp).pn ++ ([] ++ pinsAt fp s7.heap)) (notedBy (model X.prog X.w) X.A ce fun e s' => compPostX (model X.prog X.w) X.A X.xe (EP X pins σ Q) (.ref D) ce (.error e) s')) (fun cls d _ H' => Wout cls d σ H') := by
          rintro u s' ⟨a, B, sI, pins', σ', H', cls, d, rfl, Jz, nb, up, sky, naA, os, ag, hw⟩
          have Ja : Inv (X.blk s3 H3 scope ce fp) ([] ++ pinsAt fp s7.heap) σ' H' sI := Jz.ofTry I9.ok
          have frE : X.A.frames = some (X.env :: X.outer) := by rw [I3.ok.frames, hst]
          have nL : ce.locals ≠ X.env.locals := by
            rw [cL]
            exact Nat.ne_of_gt I3.lt
          have sky' : Sky B (X.env :: X.outer) a (Zc cls d) ce.locals s'.heap := by rw [← hst]; exact sky
          show wpAny (model X.prog X.w) X.A (noteFrame (.ref a) ce) _ _ _
          rw [note_same cF]
          refine Sky.noteX Zc.steady frE hfr nL sky' fun h1 hh up1 => ?_
          obtain ⟨k1, k2, k3, k4⟩ := id hh
          have nb' : ∀ b o, sI.heap.get? b = some o → b ∉ frs (X.blk s3 H3 scope ce fp).stack → B.get? b = some o := nb
          have Jb : Inv (X.blk s3 H3 scope ce fp) ([] ++ pinsAt fp s7.heap) σ' H' { s' with heap := h1 } := Ja.landed nb' k1 (up.trans up1) os ag
          obtain ⟨_, ⟨m, hn⟩, _⟩ := back Jb
          obtain ⟨IX0, _, f⟩ := back Ja
          refine ⟨m, hn, fun h2 sb => ?_⟩
          obtain ⟨oe, vs, Tb, oT, ts, ae, hz, hd, e1, hnT, hTe, hT, hdT, e3⟩ := k4
          obtain ⟨oN, es, ep, eN, rN⟩ := id hn
          have nCa : a ≠ ce.locals := fun z => by
            rw [z, eN] at ae
            cases ae
            rcases rN with ⟨dN, _⟩
            rw [dN] at hd
            cases hd
          have nCT : Tb ≠ ce.locals := fun z => by
            rw [z, eN] at hT
            cases hT
            rcases rN with ⟨dN, _⟩
            rw [dN] at hdT
            cases hdT
          obtain ⟨B', g1, g2⟩ := restrict B fun b => decide (b ≠ ce.locals)
          have gB : ∀ b, b ≠ ce.locals → B'.get? b = B.get? b := fun b hb => g1 b (decide_eq_true hb)
          have gC : B'.get? ce.locals = none := g2 _ (by simp)
          have gle : ∀ b o, B'.get? b = some o → b ≠ ce.locals ∧ B.get? b = some o := fun b o e => by
            by_cases hb : b = ce.locals
            · rw [hb, gC] at e; cases e
            · exact ⟨hb, (gB b hb).symm.trans e⟩
          have gno : ∀ b, B.get? b = none → B'.get? b = none := fun b e => by
            by_cases hb : b = ce.locals
            · rw [hb]; exact gC
            · rw [gB b hb]; exact e
          have st' : B'.StaysIn h2 := fun b o e => by
            obtain ⟨hb, e'⟩ := gle b o e
            exact (sb.2 b hb).trans (k1 b o e')
          have nFr : ce.locals ∉ frs (X.env :: X.outer) := fun z => by
            unfold frs at z
            rw [List.filterMap_cons, hfr] at z
            rcases List.mem_cons.mp z with e | e
            · exact f.2.1 e
            · exact f.2.2.1 e
          have ff' : h2.FunFrames B' (X.env :: X.outer) := ff_move k3 sb.2 gno nFr
          have tr' : HandSPX.TracedZ h2 B' a (Zc cls d) (rawInt X.env.locals) := ⟨oe, vs, Tb, oT, ts, (sb.2 a nCa).trans ae, hz, hd, e1, gno Tb hnT, hTe, (sb.2 Tb nCT).trans hT, hdT, e3⟩
          obtain ⟨G, q1, q2⟩ := restrict sI.heap fun b => decide (b ≠ ce.locals)
          have gG : ∀ b, b ≠ ce.locals → G.get? b = sI.heap.get? b := fun b hb => q1 b (decide_eq_true hb)
          have gGC : G.get? ce.locals = none := q2 _ (by simp)
          have gGle : ∀ b o, G.get? b = some o → b ≠ ce.locals ∧ sI.heap.get? b = some o := fun b o e => by
            by_cases hb : b = ce.locals
            · rw [hb, gGC] at e; cases e
            · exact ⟨hb, (gG b hb).symm.trans e⟩
          obtain ⟨f0, f1, f2', f3', f4, f5⟩ := f
          have IX : Inv X pins σ H' { sI with heap := G } := IX0.turned (t' := sI.toks) (fun b o hb e => (gG b hb).trans e) f0 f1 f3' f4 f5
          have fl : wpAny (model X.prog X.w) X.A (setFlight (.ref a) ce.frame) (fun _ s4 => wpAny (model X.prog X.w) X.A (throw (.ref a) : Sem Value) (fun _ _ => False) X.xe s4) X.xe { s' with heap := h2 } := by
            rw [cF, hfr]
            refine HandSPX.setFlight_anyZ (base := B') (fr := some X.env.locals) st' ff' tr' fun h3 w1 w2 w3 w4 => wpAny_throw (tk _ _ ?_)
            refine ⟨a, B', { sI with heap := G }, pins, σ, H', cls, d, rfl, IX, fun b o e hb => ?_, fun b o e hnf => ?_, .inr (.inr ?_), naA, os, ag, hw⟩
            · obtain ⟨hbC, e'⟩ := gGle b o e
              rw [gB b hbC]
              exact nb b o e' hb
            · obtain ⟨hbC, e'⟩ := gGle b o e
              obtain ⟨sl, e2⟩ := (up.trans up1) b o e' hnf
              exact w4 b _ ((sb.2 b hbC).trans e2) hnf |>.imp fun sl2 z => z
            · rw [hst]
              exact ⟨w1, gno a k2, w2, w3⟩
          unfold PySem.passOn
          refine wpAny_bind (wpAny_field ((sb.2 a nCa).trans ae) hd e1 ?_)
          rw [if_neg (show ¬ ((Value.ref Tb == Value.none) = true) from by simp)]
          first
            | exact wpAny_bind (wpAny_pure (wpAny_bind fl))
            | exact wpAny_bind fl
        refine thn ((pe _ _ tkB (by first | exact PassesOwn.looking | skip)).run [] s9 σ8 H9 _ (I9.toTry _) q9) fun z s10 ⟨yv, H10, I10', r10, acc, hD10, hz10, nx⟩ => ?_
        have I10 : Inv (X.blk s3 H3 scope ce fp) ([] ++ pinsAt fp s7.heap) σ8 H10 s10 := I10'.ofTry I9.ok
        exact app_ok (X := X.blk s3 H3 scope ce fp) I10 hD10 hz10 r10 fun s11 I11 => fin I11 nx
  exact codeAny_compStart_list loop (T.self X.A 0 _ _ _ st4 loop)
end
end L2

/-! PlXQ: what raises an exception that carries fields (PlX, the exception with its dict). -/
namespace Pl
open PySem L2
/-- how a statement ends: as it does, or by an exception of the module's class of that name -/
inductive XOQ where
  | ok (o : Out) | ex (y : Str) (fs : List (Str × D)) (δ : Env) (M : Mh)
inductive EOQ where
  | v (d : D) (M : Mh) | ex (y : Str) (fs : List (Str × D)) (M : Mh)
abbrev XFQ := Env → Mh → Option XOQ
abbrev EXQ := Env → Mh → Option EOQ
abbrev FnQ := List D → Mh → Option EOQ
/-- an exception's dict, told -/
def FsAt (K : PySem.W.Frag) (W : Wd) (M : Mh) (dx : Addr) (vs : List (Str × V)) (fs : List (Str × D)) : Prop := W.H dx = some (.xd vs) ∧ RepF K W.B W.ι vs fs ∧ W.B dx = none ∧ W.P dx = none ∧ ∀ n o, ¬ Live W M n dx o
def PostXQ (K : PySem.W.Frag) (mg : Str → Option Value) (S : WX) (E : Ends) (W : Wd) : XOQ → Prop
  | .ok o => Post K E W o
  | .ex y fs δ M => ∀ C σ W' dx vs, mg y = some (.ref C) → W.Le W' → W'.Ok K M → Slots K W' σ δ → FsAt K W' M dx vs fs → S (.ref C) (some dx) σ W'.H
theorem PostXQ.le {K : PySem.W.Frag} {mg : Str → Option Value} {S : WX} {E : Ends} {W W1 : Wd} {o : XOQ} (l : W.Le W1) (h : PostXQ K mg S E W o) : PostXQ K mg S E W1 o := by
  cases o with
  | ok o => exact Post.le l h
  | ex y fs δ M => exact fun C σ W' dx vs m a b c z => h C σ W' dx vs m (l.trans a) b c z
def PostEQ (K : PySem.W.Frag) (mg : Str → Option Value) (S : Value → Option Addr → Hp → Prop) (Q : VK) (W : Wd) : EOQ → Prop
  | .v d M => VR K W d M Q
  | .ex y fs M => ∀ C W' dx vs, mg y = some (.ref C) → W.Le W' → W'.Ok K M → FsAt K W' M dx vs fs → S (.ref C) (some dx) W'.H
theorem PostEQ.le {K : PySem.W.Frag} {mg : Str → Option Value} {S : Value → Option Addr → Hp → Prop} {Q : VK} {W W1 : Wd} {o : EOQ} (l : W.Le W1) (h : PostEQ K mg S Q W o) : PostEQ K mg S Q W1 o := by
  cases o with
  | v d M => exact VR.le h l
  | ex y fs M => exact fun C W' dx vs m a b z => h C W' dx vs m (l.trans a) b z
def SRQ (K : PySem.W.Frag) (mg : Str → Option Value) (S : WX) (t : TS) (f : XFQ) : Prop := ∀ (σ : St) (W : Wd) (δ : Env) (M : Mh) (o : XOQ) (E : Ends), W.Ok K M → Slots K W σ δ → f δ M = some o → PostXQ K mg S E W o → t E σ W.H
def ERQ (K : PySem.W.Frag) (mg : Str → Option Value) (S : WX) (t : TE) (f : EXQ) : Prop := ∀ (σ : St) (W : Wd) (δ : Env) (M : Mh) (o : EOQ) (Q : VK), W.Ok K M → Slots K W σ δ → f δ M = some o → PostEQ K mg (fun c d H => S c d σ H) Q W o → t σ W.H Q
section
variable {I : Type}
structure DSQ (X : I → Cx) (K : PySem.W.Frag) (mg : Str → Option Value) (S : WX) (s : Stmt) (f : XFQ) : Prop where
  go : ∃ t : TS, (∀ i, PS (X i) s t) ∧ SRQ K mg S t f
structure DBQ (X : I → Cx) (K : PySem.W.Frag) (mg : Str → Option Value) (S : WX) (s : List Stmt) (f : XFQ) : Prop where
  go : ∃ t : TS, (∀ i, PSs (X i) s t) ∧ SRQ K mg S t f
structure DEQ (X : I → Cx) (K : PySem.W.Frag) (mg : Str → Option Value) (S : WX) (e : Expr) (f : EXQ) : Prop where
  go : ∃ t : TE, (∀ i, PE (X i) e t) ∧ ERQ K mg S t f
variable {X : I → Cx} {P : Program} {w : World} {K : PySem.W.Frag} {mg : Str → Option Value} {base : Heap} {k : Nat} {S : WX}
def qOk (f : SF) : XFQ := fun δ M => match f δ M with
  | some o => some (.ok o)
  | none => none
theorem srq_ok {t : TS} {f : SF} (r : SR K t f) : SRQ K mg S t (qOk f) := fun σ W δ M o E w s e q => by
  unfold qOk at e
  split at e
  · rename_i o' h
    cases e
    exact r σ W δ M o' E w s h q
  · cases e
theorem DBQ.lift {s : List Stmt} {f : SF} (a : DB X K s f) : DBQ X K mg S s (qOk f) := by
  obtain ⟨t, p, r⟩ := a.go
  exact ⟨t, p, srq_ok r⟩
theorem DSQ.lift {s : Stmt} {f : SF} (a : DS X K s f) : DSQ X K mg S s (qOk f) := by
  obtain ⟨t, p, r⟩ := a.go
  exact ⟨t, p, srq_ok r⟩
def qSeq (f g : XFQ) : XFQ := fun δ M => match f δ M with
  | some (.ok (.nx δ' M')) => g δ' M'
  | o => o
theorem DBQ.cons {s : Stmt} {ss : List Stmt} {f g : XFQ} (a : DSQ X K mg S s f) (b : DBQ X K mg S ss g) : DBQ X K mg S (s :: ss) (qSeq f g) := by
  obtain ⟨ta, pa, ra⟩ := a.go
  obtain ⟨tb, pb, rb⟩ := b.go
  refine ⟨tSeq ta tb, fun i => pss_cons (pa i) (pb i), fun σ W δ M o E w s e q => ?_⟩
  unfold qSeq at e
  split at e
  · rename_i δ' M' h1
    refine ra σ W δ M _ _ w s h1 fun σ' W1 l1 w1 s1 => ?_
    exact rb σ' W1 δ' M' o E w1 s1 e (q.le l1)
  · rename_i hn
    refine ra σ W δ M o _ w s e ?_
    match o, e, q with
    | .ok (.nx δ' M'), e, q => exact absurd e (hn δ' M')
    | .ok (.bk _ _), e, q => exact q
    | .ok (.ct _ _), e, q => exact q
    | .ok (.rt _ _), e, q => exact q
    | .ex _ _ _ _, e, q => exact q
theorem DBQ.one {s : Stmt} {f : XFQ} (a : DSQ X K mg S s f) : DBQ X K mg S [s] f := by
  obtain ⟨t, p, r⟩ := a.go
  exact ⟨t, fun i => pss_one (p i), r⟩
def qIf (t : TF) (f g : XFQ) : XFQ := fun δ M => match t δ M with
  | some (true, M1) => f δ M1
  | some (false, M1) => g δ M1
  | none => none
theorem DSQ.ite {c : Expr} {a b : List Stmt} {pos} {t : TF} {f g : XFQ} (h : DT X K c t) (ha : DBQ X K mg S a f) (hb : DBQ X K mg S b g) : DSQ X K mg S (.If c a b pos) (qIf t f g) := by
  obtain ⟨tt, p, r⟩ := h.go
  obtain ⟨ta, pa, ra⟩ := ha.go
  obtain ⟨tb, pb, rb⟩ := hb.go
  refine ⟨_, fun i => ps_if (p i) (pa i) (pb i), fun σ W δ M o E w s e q => ?_⟩
  unfold qIf at e
  split at e
  · rename_i M1 h1
    exact r σ W δ M true M1 _ w s h1 fun W1 l1 w1 => ifT (ra σ W1 δ M1 o E w1 (s.le l1) e (q.le l1))
  · rename_i M1 h1
    exact r σ W δ M false M1 _ w s h1 fun W1 l1 w1 => ifF (rb σ W1 δ M1 o E w1 (s.le l1) e (q.le l1))
  · cases e
/-! ### calls that may raise -/
def spDQ (K : PySem.W.Frag) (mg : Str → Option Value) (n : Nat) (F : FnQ) (vs : List V) (H : Hp) (Q : VK) (E : XK) : Prop :=
  ∃ W M ds o, W.H = H ∧ W.Ok K M ∧ RepL K W.B W.ι vs ds ∧ ds.length = n ∧ F ds M = some o ∧ PostEQ K mg E Q W o
structure DFnQ (P : Program) (w : World) (K : PySem.W.Frag) (mg : Str → Option Value) (base : Heap) (k : Nat) (f : Addr) (fd : FuncData) (ps : List Str) (F : FnQ) : Prop where
  run : ∀ (A : Around) (outer : List PySem.Env) (s : Shared) (H : Hp) (args : Args) (us : List Value) (vs : List V) (Q : VK) (E : XK), Room k A → A.guards = some [] → Env0 P w K mg base A outer s H → BindsTo s fd args (ps.zip us) → Vals vs us →
    spDQ K mg ps.length F vs H Q E → codeAny (model P w) A (.call (.ref f) args) (CR (L2.CX P w) outer P w H s Q E) s
theorem DFnQ.mono {f : Addr} {fd : FuncData} {ps : List Str} {F : FnQ} {j : Nat} (h : DFnQ P w K mg base j f fd ps F) (l : j ≤ k) : DFnQ P w K mg base k f fd ps F :=
  ⟨fun A outer s H args us vs Q E r g => h.run A outer s H args us vs Q E (r.mono l) g⟩
theorem run_dfnQ {Y : Cx} {pins : List (Addr × Obj)} {σ : L2.St} {H : Hp} {s : Shared} {Q : VK} {f : Addr} {fd : FuncData} {ps ks : List Str} {F : FnQ} {us ws us' : List Value} {vs : List V} (h : DFnQ Y.prog Y.w Y.K Y.mg Y.base k f fd ps F) (room : Room k Y.A) (grd : Y.A.guards = some []) (tk : Takes Y S)
    (J : Inv Y pins σ H s) (hb : BindsTo s fd ⟨us, ks.zip ws⟩ (ps.zip us')) (r : Vals vs us') (q : spDQ Y.K Y.mg ps.length F vs H Q (fun c d H' => S c d σ H')) : wpAny (model Y.prog Y.w) Y.A (call (.ref f) us (ks.zip ws)) (EP Y pins σ Q) Y.xe s := by
  refine wpAny_call (codeAny_mono (h.run Y.A Y.stack s H _ us' vs Q _ room grd J.env0 hb r q) fun o s' ho => ?_)
  match o, ho with
  | .ok (.ret u), ho => exact J.after ho
  | .ok .next, ho => exact False.elim ho
  | .ok .brk, ho => exact False.elim ho
  | .ok .cont, ho => exact False.elim ho
  | .error _, ho => exact passAt tk σ pins H s _ s' J ho
def qCall (F : FnQ) (g : AF) (dds : List D) : EXQ := fun δ M => match g δ M with
  | some (ds, M1) => F (ds ++ dds) M1
  | none => none
theorem DEQ.call (c : Ctx X P w K mg base k) (tk : ∀ i, Takes (X i) S) {x : Str} {p pos : Pos} {e : Expr} {es : List Expr} {g : AF} {f : Addr} {fd : FuncData} {ps : List Str} {F : FnQ} {kf : Nat} {dvs : List V} {dds : List D} {dsv : List Value} (h : DFnQ P w K mg base kf f fd ps F) (hk : kf ≤ k)
    (hm : mg x = some (.ref f)) (kp : PySem.W.keepIn K (.ref f) = true) (hb : Binds K fd ps dsv) (hd : Vals dvs dsv) (hr : ∀ B ι, RepL K B ι dvs dds) (hn : (e :: es).length + dds.length = ps.length) (ha : DA X K (e :: es) g) (hlen : ∀ δ M ds M', g δ M = some (ds, M') → ds.length = (e :: es).length) (hg : ∀ i, Gl (X i) x := by intro _; rfl)
    (hdbg : (x == ("__debug__" : Str)) = false := by decide) (he : ∀ i, starEach (e :: es) (X i).env = (false, eval e (X i).env) :: starEach es (X i).env := by intro _; rfl) (hpl : ∀ i, (backTo pos (starEach es (X i).env)).any (·.1) = false := by intro _; rfl) :
    DEQ X K mg S (.Call (.Name x p) (e :: es) [] pos) (qCall F g dds) := by
  obtain ⟨t, pa, ra⟩ := ha.go
  refine ⟨fun σ H Q => t σ H fun vs H1 => spDQ K mg ps.length F (vs ++ dvs) H1 Q (fun c d H' => S c d σ H'), fun i => ⟨fun pins s σ H Q J q => ?_⟩, fun σ W δ M o Q w s ev q => ?_⟩
  · have cK := c.K i
    have cmg := c.mg i
    refine wpAny_Call_Name_kw (ld_glob J (hg i) (by rw [c.mg i]; exact hm) ?_ hdbg)
    refine PySem.W.callWith_K (h₀ := (X i).base) J.ok.mod.kin (by rw [cK]; exact kp) (thn ((pa i).run pos pins s σ H _ J q) fun us s1 ⟨vs, H1, J1, r, q1⟩ => ⟨J1.kIn, ?_⟩) (he i) (hpl i)
    obtain ⟨W, M, ds, o, a1, a2, a3, a4, a5, a6⟩ := id q1
    have h' : DFnQ (X i).prog (X i).w (X i).K (X i).mg (X i).base k f fd ps F := by
      rw [c.prog i, c.wd i, c.K i, c.mg i, c.base i]
      exact h.mono hk
    have r2 := r.append hd
    refine run_dfnQ (ks := []) (ws := []) (us := us) h' (c.room i) (c.grd i) (tk i) J1 (hb s1 us (by rw [← cK]; exact J1.kIn) ?_) r2 (by rw [cK, cmg]; exact q1)
    rw [← r2.length, a3.len, a4]
  · unfold qCall at ev
    split at ev
    · rename_i ds M1 h1
      refine ra σ W δ M ds M1 _ w s h1 fun vs W1 l1 w1 r1 => ⟨W1, M1, ds ++ dds, o, rfl, w1, r1.append (hr _ _), ?_, ev, q.le l1⟩
      rw [List.length_append, hlen _ _ _ _ h1]
      exact hn
    · cases ev
structure LkQ (P : Program) (w : World) (K : PySem.W.Frag) (mg : Str → Option Value) (base : Heap) (x : Str) (k : Nat) (ps : List Str) (F : FnQ) : Prop where
  go : ∃ (f : Addr) (fd : FuncData), DFnQ P w K mg base k f fd ps F ∧ mg x = some (.ref f) ∧ PySem.W.keepIn K (.ref f) = true ∧ Binds K fd ps []
theorem DEQ.cl (c : Ctx X P w K mg base k) (tk : ∀ i, Takes (X i) S) {x : Str} {p pos : Pos} {e : Expr} {es : List Expr} {g : AF} {ps : List Str} {F : FnQ} {kf : Nat} (h : LkQ P w K mg base x kf ps F) (hk : kf ≤ k) (hn : (e :: es).length = ps.length) (ha : DA X K (e :: es) g) (hlen : ∀ δ M ds M', g δ M = some (ds, M') → ds.length = (e :: es).length) (hg : ∀ i, Gl (X i) x := by intro _; rfl)
    (hdbg : (x == ("__debug__" : Str)) = false := by decide) (he : ∀ i, starEach (e :: es) (X i).env = (false, eval e (X i).env) :: starEach es (X i).env := by intro _; rfl) (hpl : ∀ i, (backTo pos (starEach es (X i).env)).any (·.1) = false := by intro _; rfl) :
    DEQ X K mg S (.Call (.Name x p) (e :: es) [] pos) (qCall F g []) := by
  obtain ⟨f, fd, h1, h2, h3, h4⟩ := h.go
  exact DEQ.call c tk h1 hk h2 h3 h4 .nil (fun _ _ => .nil) hn ha hlen hg hdbg he hpl
def qAs (f : EXQ) (j : Nat) : XFQ := fun δ M => match f δ M with
  | some (.v d M1) => some (.ok (.nx (δ.set j (some d)) M1))
  | some (.ex y fs M1) => some (.ex y fs δ M1)
  | none => none
theorem DSQ.set (j : Nat) {x : Str} {e : Expr} {pos pos'} {f : EXQ} (a : DEQ X K mg S e f) (hN : ∀ i, (X i).N.Nodup) (hi : ∀ i, (X i).N[j]? = some x := by intro _; rfl) (hx : ∀ i, Loc (X i).env.scope x := by intro _; first | exact Or.inl rfl | exact Or.inr rfl)
    (hs : ∀ i, swapsWith e (some (.Name x pos')) pos.line (X i).env = pure false := by intro _; rfl) (hf : ∀ i, (X i).fn x = true ∨ (X i).env.scope.names.lookup x = some .local := by intro _; first | exact Or.inl rfl | exact Or.inr rfl) :
    DSQ X K mg S (.Assign [.Name x pos'] e pos) (qAs f j) := by
  obtain ⟨t, p, r⟩ := a.go
  refine ⟨tAsg t (gName j), fun i => ps_set (hN i) (hi i) (hx i) (p i) (hs i) (hf i), fun σ W δ M o E w s ev q => ?_⟩
  unfold qAs at ev
  split at ev
  · rename_i d M1 h1
    cases ev
    exact r σ W δ M _ _ w s h1 fun v W1 l1 w1 r1 => q _ W1 l1 w1 ((s.le l1).set r1 j)
  · rename_i y fs M1 h1
    cases ev
    exact r σ W δ M _ _ w s h1 fun C W1 dx vs m l1 w1 z => q C σ W1 dx vs m l1 w1 (s.le l1) z
  · cases ev
def qRet (f : EXQ) : XFQ := fun δ M => match f δ M with
  | some (.v d M1) => some (.ok (.rt d M1))
  | some (.ex y fs M1) => some (.ex y fs δ M1)
  | none => none
theorem DSQ.ret {e : Expr} {pos} {f : EXQ} (a : DEQ X K mg S e f) : DSQ X K mg S (.Return (some e) pos) (qRet f) := by
  obtain ⟨t, p, r⟩ := a.go
  refine ⟨tRet t, fun i => ps_ret (p i), fun σ W δ M o E w s ev q => ?_⟩
  unfold qRet at ev
  split at ev
  · rename_i d M1 h1
    cases ev
    exact r σ W δ M _ _ w s h1 q
  · rename_i y fs M1 h1
    cases ev
    exact r σ W δ M _ _ w s h1 fun C W1 dx vs m l1 w1 z => q C σ W1 dx vs m l1 w1 (s.le l1) z
  · cases ev
end
/-! ### a def that may raise -/
def fnQ (n : Nat) (g : XFQ) : FnQ := fun ds M => match g (startD n ds) M with
  | some (.ok (.rt d M')) => some (.v d M')
  | some (.ok (.nx _ M')) => some (.v .non M')
  | some (.ex y fs _ M') => some (.ex y fs M')
  | _ => none
theorem DFnQ.of {P : Program} {w : World} {K : PySem.W.Frag} {mg : Str → Option Value} {base : Heap} {k : Nat} {x qual : Str} {params : Arguments} {body : List Stmt} {scope : Scope} {dvs : List V} {kws : List (Str × V)} {f : Addr} {fd : FuncData} {N ps : List Str} {g : XFQ}
    (h : FunD K x qual params body scope dvs kws f fd) (Sc : FnScope N ps scope) (hb : ∀ E : XK, Ctx (bodyX P w K mg base N E (k := k) (qual := qual) (scope := scope) (f := f)) P w K mg base k → (∀ i, Takes (bodyX P w K mg base N E (k := k) (qual := qual) (scope := scope) (f := f) i) (fun c d _ H => E c d H)) →
      DBQ (bodyX P w K mg base N E (k := k) (qual := qual) (scope := scope) (f := f)) K mg (fun c d _ H => E c d H) body g) : DFnQ P w K mg base (k + 1) f fd ps (fnQ N.length g) := by
  obtain ⟨oc, od, dV, kV, doc, pm, an, cdv, ct, osl, rfl, lk, hcd, _, _⟩ := h.ex
  refine ⟨fun A outer s H args us vs Q E room grd e0 bd r q => ?_⟩
  obtain ⟨t, pt, rt⟩ := (hb E (bodyX_ctx P w K mg base N E) (fun i => takes_of rfl rfl rfl rfl)).go
  obtain ⟨W, M, ds, o, rfl, a2, a3, a4, a5, a6⟩ := q
  have hl : vs.length = ps.length := a3.len.trans a4
  have KX : K.In s.heap := e0.mod.kin.keeps fun b o e => (e0.bs b o e).1
  have lim : s.heap.NoLimit := e0.mod.nolimit.keeps fun b o e => (e0.bs b o e).1
  have knd : ∀ y ∈ ps.zip us, scope.names.lookup y.1 = some .local ∨ (scope.names.lookup y.1 = some .cell ∧ ((cellsFrom (s.heap.objs.size + 1) scope.names []).lookup y.1).isSome = true) := fun y hy => by
    rcases Sc.par y.1 (List.of_mem_zip (a := y.1) (b := y.2) hy).1 with q | q
    · exact .inl q
    · exact .inr ⟨q, PySem.W.cellsFrom_some _ _ _ (.inl q)⟩
  refine codeAny_call_function room.depth (KX _ _ lk) rfl Sc.co Sc.gen rfl (PySem.W.codeRec_of KX hcd) (bd _ _ _ _ ?_)
  refine wpAny_newFunctionEnv_cells Sc.kind knd fun env he s1 xc => ?_
  subst he
  refine ⟨lim.keeps xc.toInCall.keep, codeAny_func ?_⟩
  have J : Inv (cxOf (L2.CX P w) P w K mg base N qual scope f cdv A outer s W.H E) [] (L2.start N vs) W.H s1 := inv_start Sc room.hd e0 hl r xc
  have ht := pt ⟨cdv, A, outer, s, W.H, room.deeper _, grd⟩
  have q2 : t { nx := fun _ H' => Q .non H', rt := Q } (L2.start N vs) W.H := by
    unfold fnQ at a5
    split at a5
    · rename_i d2 M2 h2
      cases a5
      exact rt _ W _ M _ _ a2 (slots_start a3) h2 a6
    · rename_i δ2 M2 h2
      cases a5
      exact rt _ W _ M _ _ a2 (slots_start a3) h2 fun σ' W' l o s' => a6 .non W' l o .non
    · rename_i y fs δ2 M2 h2
      cases a5
      exact rt _ W _ M _ _ a2 (slots_start a3) h2 fun C σ' W' dx vs m l o s' z => a6 C W' dx vs m l o z
    · cases a5
  refine wpAny_mono (ht.run [] s1 (L2.start N vs) W.H _ J q2) (fun fl s' hs => ?_) fun e s' hs => hs
  have fin : ∀ {σ' : St} {H' : Hp} {v : V} {u : Value}, Inv (cxOf (L2.CX P w) P w K mg base N qual scope f cdv A outer s W.H E) [] σ' H' s' → RelV v u → Q v H' → CE outer P w W.H s Q u s' :=
    fun {σ' H' v u} J rv q => ⟨v, H', J.os, J.bare, J.base, J.hok, rv, q⟩
  match fl, hs with
  | .ret u, ⟨v, σ', H', J2, rv, q3⟩ => exact fin J2 rv q3
  | .next, ⟨σ', H', J2, q3⟩ => exact fin (v := V.non) (u := Value.none) J2 rfl q3
  | .brk, ⟨_, _, _, q3⟩ => exact False.elim q3
  | .cont, ⟨_, _, _, q3⟩ => exact False.elim q3
end Pl

/-! PlRQ: raise C(e, ..) of a class with its own __init__. -/
namespace L2
open PySem PySem.Spec PyProof.Rows
theorem exd_frz' {e : Addr} {fs : List (Str × V)} {o : Obj} {u : HO} : exd e fs ≠ .frz o u := fun z => by
  have z' : HO.ext _ = HO.frz o u := z
  cases z'
theorem exd_tbl' {e : Addr} {fs : List (Str × V)} {ps : Array Value} : exd e fs ≠ .tbl ps := fun z => by
  have z' : HO.ext _ = HO.tbl ps := z
  cases z'
section
variable {X : Cx} {pins : List (Addr × Obj)} {σ : St} {H : Hp} {s : Shared} {a C d : Addr} {fs : List (Str × V)}
/-- an exception is told of no more; its dict is an exception's dict from here on -/
theorem Inv.letGo (I : Inv X pins σ H s) (ea : H a = some (exo a C (some d))) (ed : H d = some (exd d fs)) : Inv X pins σ (upd (del H a) d (.xd fs)) s := by
  have off : ∀ b, b ≠ a → b ≠ d → upd (del H a) d (.xd fs) b = H b := fun b h1 h2 => by rw [upd_ne h2, del_ne h1]
  have no : ∀ b, H b = none → upd (del H a) d (.xd fs) b = none := fun b e => by
    rw [off b (fun z => by rw [z, ea] at e; cases e) (fun z => by rw [z, ed] at e; cases e)]
    exact e
  have tup : ∀ b xs, H b = some (.tup xs) → upd (del H a) d (.xd fs) b = some (.tup xs) := fun b xs e => by
    rw [off b (at_ne ea e exo_tup) (at_ne ed e exd_tup)]
    exact e
  refine ⟨I.ok, I.os, I.bare, ⟨I.base.keep, I.base.slot, fun b u e n hx => no b (I.base.free b u e n hx), I.base.there, fun b xs e => tup b xs (I.base.tups b xs e), fun b u xs e => ?_, fun b ps e => ?_⟩, I.loc, I.cell, no _ I.free, fun x c e => no c (I.freeC x c e), fun p hp => ?_, fun b u e => ?_, I.len⟩
  · have q := I.base.frzs b u xs e
    rw [off b (at_ne ea q exo_frz) (at_ne ed q exd_frz')]
    exact q
  · obtain ⟨m, q⟩ := I.base.tbls b ps e
    exact ⟨m, by rw [off b (at_ne ea q exo_tbl) (at_ne ed q exd_tbl')]; exact q⟩
  · obtain ⟨q1, q2, q3⟩ := I.pin p hp
    exact ⟨q1, no _ q2, q3⟩
  · by_cases hb : b = d
    · subst hb
      rw [upd_same] at e
      cases e
      obtain ⟨mA, h1, h2⟩ := exd_at I.hok ed
      exact ⟨mA, h1, h2⟩
    · have hba : b ≠ a := fun z => by
        rw [z, upd_ne (fun y => hb (z.trans y)), del_same] at e
        cases e
      rw [off b hba hb] at e
      exact (I.hok b u e).stay (fun c v _ q => q) (fun c q => by rw [off c (at_ne ea q exo_own) (at_ne ed q exd_own)]; exact q) fun c xs q => tup c xs q
end
end L2
namespace Pl
open PySem PySem.Spec PyProof.Rows L2
section
variable {I : Type} {X : I → Cx} {P : Program} {w : World} {K : PySem.W.Frag} {mg : Str → Option Value} {base : Heap} {k : Nat} {S : WX}
/-- what is live no more -/
theorem Wd.drop_ok {W : Wd} {M : Mh} {n : Nat} {a : Addr} {u : MO} {H' : Hp} (w : W.Ok K M) (lv : Live W M n a u) (hH : ∀ b, b ≠ a → H' b = W.H b) : (⟨H', W.B, W.ι, W.P⟩ : Wd).Ok K (M.set n .dead) := by
  obtain ⟨nb, np, _⟩ := w.live n a u lv
  have old : ∀ {m b o}, Live (⟨H', W.B, W.ι, W.P⟩ : Wd) (M.set n .dead) m b o → m ≠ n ∧ Live W M m b o := fun {m b o} ⟨h1, h2, h3⟩ => by
    by_cases e : m = n
    · subst e
      have : (M.set m MO.dead)[m]? = some .dead := by
        have lt : m < M.length := (List.getElem?_eq_some_iff.mp lv.2.1).1
        simp [lt]
      rw [this] at h2
      cases h2
      exact absurd rfl h3
    · rw [List.getElem?_set_ne (Ne.symm e)] at h2
      exact ⟨e, h1, h2, h3⟩
  have ne : ∀ {m b o}, m ≠ n → Live W M m b o → b ≠ a := fun {m b o} hm h e => by
    subst e
    exact hm (w.inj m n b o u h lv)
  refine ⟨fun b o h => ?_, fun b o h => ?_, by rw [List.length_set]; exact w.len, fun m b o h => ?_, fun m m' b o o' h h' => ?_⟩
  · have : b ≠ a := fun e => by
      rw [e] at h
      have h0 : W.B a = some o := h
      rw [nb] at h0
      cases h0
    exact (hH b this).trans (w.sub b o h)
  · have : b ≠ a := fun e => by
      rw [e] at h
      have h0 : W.P a = some o := h
      rw [np] at h0
      cases h0
    obtain ⟨q1, q2⟩ := w.pin b o h
    exact ⟨(hH b this).trans q1, q2⟩
  · obtain ⟨hm, h0⟩ := old h
    obtain ⟨q1, q2, g, q3, q4⟩ := w.live m b o h0
    exact ⟨q1, q2, g, (hH b (ne hm h0)).trans q3, q4⟩
  · exact w.inj m m' b o o' (old h).2 (old h').2
def qRaise (C : Addr) (y : Str) (F : Fn) (g : AF) (dds : List D) : XFQ := fun δ M => match g δ M with
  | some (ds, M1) => (match F (.ref M1.length :: (ds ++ dds)) (M1 ++ [MO.exo C none]) with
    | some (.non, M2) => (match M2[M1.length]? with
      | some (.exo C' (some m)) => if C' = C ∧ m ≠ M1.length then (match M2[m]? with
        | some (.exd fs) => some (.ex y fs δ ((M2.set M1.length .dead).set m .dead))
        | _ => none) else none
      | _ => none)
    | _ => none)
  | none => none
/-- the class is called, the exception let go of -/
theorem pmk_G {Y : Cx} {x : Str} {p pos : Pos} {e : Expr} {es : List Expr} {t : TA} {C fI : Addr} {fd : FuncData} {ps : List Str} {F : Fn} {kf n : Nat} {dvs : List V} {dsv : List Value} {B newId initId : String} {bmB : List Value} (T : ExG Y.K C B newId initId bmB) (rs : Raises Y (.ref C))
    (iC : PySem.W.findIn Y.K (.ref C) "__init__" = some (some (.ref fI))) (tI : PySem.W.typeIn Y.K (.ref fI) = some (.type "function")) (h : DFn Y.prog Y.w Y.K Y.mg Y.base kf fI fd ps F) (room : Room (kf + 1) Y.A) (grd : Y.A.guards = some []) (hb : Binds Y.K fd ps dsv) (hd : Vals dvs dsv)
    (hm : Y.mg x = some (.ref C)) (hg : Gl Y x) (ha : PA Y (e :: es) t) (hn : n ≤ 1000) (hl : n + dvs.length + 1 = ps.length) (hdbg : (x == ("__debug__" : Str)) = false) (he : starEach (e :: es) Y.env = (false, eval e Y.env) :: starEach es Y.env) (hpl : (backTo pos (starEach es Y.env)).any (·.1) = false) :
    PMk Y (.Call (.Name x p) (e :: es) [] pos) (fun σ H Q => t σ H fun vs H1 => vs.length = n ∧ ∀ a, H1 a = none → spD Y.K ps.length F (.ref a :: (vs ++ dvs)) (upd H1 a (exo a C none)) fun v H2 => v = .non ∧ ∃ dx fs, H2 a = some (exo a C (some dx)) ∧ H2 dx = some (exd dx fs) ∧ Q (.ref C) (some dx) (upd (del H2 a) dx (.xd fs))) := by
  intro pins s σ H Q J q
  refine wpAny_Call_Name_kw (ld_glob J hg hm ?_ hdbg)
  refine PySem.W.callWith_K (h₀ := Y.base) J.ok.mod.kin T.keep (thn (ha.run pos pins s σ H _ J q) fun us s1 ⟨vs, H1, J1, r, hv, q1⟩ => ⟨J1.kIn, ?_⟩) he hpl
  obtain ⟨nm, N, qn, bs, bm, hdct, sn, sub, ab, col, dd, k0, k1, k2, k3, k5, hC, hct⟩ := PySem.W.excInit_of J1.kIn T.ini
  obtain ⟨hA, g, dr, tk, os⟩ := s1
  have new : H1 (hA.objs.size + 1) = none := J1.hok.fresh (Nat.le_succ _)
  have up : ∀ b o, hA.get? b = some o → ((hA.push (PySem.W.kdv_tup us)).push (PySem.HandSPX.excO C hA.objs.size)).get? b = some o := fun b o e => Heap.get?_push_of_some _ (Heap.get?_push_of_some _ e)
  have atE : ((hA.push (PySem.W.kdv_tup us)).push (PySem.HandSPX.excO C hA.objs.size)).get? (hA.objs.size + 1) = some (PySem.HandSPX.excO C hA.objs.size) := by heap_get
  have J2 : Inv Y pins σ (upd H1 (hA.objs.size + 1) (exo (hA.objs.size + 1) C none)) ⟨(hA.push (PySem.W.kdv_tup us)).push (PySem.HandSPX.excO C hA.objs.size), g, dr, tk, os⟩ :=
    J1.laid (t' := tk) (a := hA.objs.size + 1) (o := exo (hA.objs.size + 1) C none) up (Nat.le_succ _) (exo_ok atE)
  have rel : Vals (V.ref (hA.objs.size + 1) :: (vs ++ dvs)) (Value.ref (hA.objs.size + 1) :: (us ++ dsv)) := .cons rfl (r.append hd)
  have few : us.length ≤ sizeLine := by
    rw [← Paired.length r, sizeLine_eq]
    omega
  have le : (Value.ref (hA.objs.size + 1) :: us ++ dsv).length = ps.length := by
    have e := rel.length
    rw [List.length_cons, List.length_append, hv] at e
    rw [← hl, e]
    rfl
  refine wpAny_call (PySem.HandSPX.call_own T.base hct hC (PySem.W.looks_findIn J1.kIn iC) (fun self => PySem.W.bind_fn J1.kIn self tI) few
    (codeAny_mono (h.run _ Y.stack _ _ ⟨Value.ref (hA.objs.size + 1) :: us, []⟩ (Value.ref (hA.objs.size + 1) :: (us ++ dsv)) _ _ (room.make C us []) ?_ (J2.env0.make C us []) (hb _ (Value.ref (hA.objs.size + 1) :: us) J2.kIn le) rel (q1 _ new)) fun o s' ho => ?_))
  · unfold Around.under
    dsimp only
    rw [grd]
    rfl
  · match o, ho with
    | .ok (.ret u), ho =>
      obtain ⟨v, H2, os2, bare2, un2, hok2, rv, ev, d, fs, ea, ed, q2⟩ := ho
      subst ev
      obtain ⟨h2, g2, d2, t2, os'⟩ := s'
      have J3 : Inv Y pins σ H2 ⟨h2, g2, d2, t2, os'⟩ := J2.call' (ch := []) os2 un2 hok2 bare2 fun b z => absurd z (by simp)
      obtain ⟨t0, hoe⟩ := exo_at hok2 ea
      have hda : d ≠ hA.objs.size + 1 := fun z => by
        obtain ⟨mA, ⟨oD, es, ep, e1, e2, _⟩, _⟩ := exd_at hok2 ed
        rw [z, hoe] at e1
        cases e1
        cases e2
      have na : (upd (del H2 (hA.objs.size + 1)) d (.xd fs)) (hA.objs.size + 1) = none := by rw [upd_ne (Ne.symm hda), del_same]
      obtain ⟨f0, f1, f2, f3, f4, f5⟩ := J1.fpOk (b := hA.objs.size + 1) (Nat.le_succ _) na
      obtain ⟨G, r1, r2⟩ := restrict h2 fun b => decide (b ≠ hA.objs.size + 1)
      have gk : ∀ b, b ≠ hA.objs.size + 1 → G.get? b = h2.get? b := fun b hb => r1 b (decide_eq_true hb)
      have ge : G.get? (hA.objs.size + 1) = none := r2 _ (by simp)
      have JG := (J3.letGo ea ed).turned (h' := G) (t' := t2) (fun b o hb e => (gk b hb).trans e) f0 f1 f3 f4 f5
      have kG : ∀ b o, G.get? b = some o → h2.get? b = some o := fun b o e => by
        by_cases hb : b = hA.objs.size + 1
        · rw [hb, ge] at e; cases e
        · exact (gk b hb).symm.trans e
      exact ⟨rv, _, _, _, ⟨G, g2, d2, t2, os'⟩, _, .ref C, some d, rfl, JG, kG, ge, hoe, ⟨rfl, rfl⟩, rfl, rfl, na, rfl, bare2, rs, q2⟩
    | .ok .next, ho => exact False.elim ho
    | .ok .brk, ho => exact False.elim ho
    | .ok .cont, ho => exact False.elim ho
    | .error _, ho => exact False.elim ho
theorem DSQ.raise (c : Ctx X P w K mg base k) (tk : ∀ i, Takes (X i) S) {x : Str} {p pos pos2 : Pos} {e : Expr} {es : List Expr} {g : AF} {ps : List Str} {F : Fn} {C : Addr} {dds : List D} {kf : Nat} (h : LkG P w K mg base x kf ps F C dds)
    (b1 : PySem.W.subIn K (.ref C) (.type "BaseException") = some true) (b2 : PySem.W.typeIn K (.ref C) = some (.type "type")) (hk : kf + 1 ≤ k) (hn : (e :: es).length + dds.length + 1 = ps.length) (hz : (e :: es).length ≤ 1000) (ha : DA X K (e :: es) g) (hlen : ∀ δ M ds M', g δ M = some (ds, M') → ds.length = (e :: es).length)
    (hg : ∀ i, Gl (X i) x := by intro _; rfl) (hdbg : (x == ("__debug__" : Str)) = false := by decide) (he : ∀ i, starEach (e :: es) (X i).env = (false, eval e (X i).env) :: starEach es (X i).env := by intro _; rfl) (hpl : ∀ i, (backTo pos (starEach es (X i).env)).any (·.1) = false := by intro _; rfl) :
    DSQ X K mg S (.Raise (some (.Call (.Name x p) (e :: es) [] pos)) none pos2) (qRaise C x F g dds) := by
  obtain ⟨fI, fd, dvs, dsv, Bb, newId, initId, bmB, T, iC, tI, hF, hm, hb, hd, hr⟩ := h.go
  obtain ⟨t, pa, ra⟩ := ha.go
  have ld : dvs.length = dds.length := (hr (fun _ => none) []).len
  refine ⟨fun _ σ H => t σ H fun vs H1 => vs.length = (e :: es).length ∧ ∀ a, H1 a = none → spD K ps.length F (.ref a :: (vs ++ dvs)) (upd H1 a (exo a C none)) fun v H2 => v = .non ∧ ∃ dx fs, H2 a = some (exo a C (some dx)) ∧ H2 dx = some (exd dx fs) ∧ S (.ref C) (some dx) σ (upd (del H2 a) dx (.xd fs)), fun i => ?_, fun σ W δ M o E w s ev q => ?_⟩
  · have cK := c.K i
    have hF' : DFn (X i).prog (X i).w (X i).K (X i).mg (X i).base kf fI fd ps F := by
      rw [c.prog i, c.wd i, c.K i, c.mg i, c.base i]
      exact hF
    have := ps_raise (pos := pos2) (c.calm i) (tk i) (pmk_G (Y := X i) (p := p) (pos := pos) (n := (e :: es).length) (dvs := dvs) (dsv := dsv) (by rw [cK]; exact T) (raises_own (by rw [cK]; exact b1) (by rw [cK]; exact b2)) (by rw [cK]; exact iC) (by rw [cK]; exact tI) hF' ((c.room i).mono hk) (c.grd i) (by rw [cK]; exact hb) hd (by rw [c.mg i]; exact hm) (hg i) (pa i) hz (by rw [ld]; exact hn) hdbg (he i) (hpl i))
    rw [cK] at this
    exact this
  · unfold qRaise at ev
    split at ev
    · rename_i ds M1 h1
      refine ra σ W δ M ds M1 _ w s h1 fun vs W1 l1 w1 r1 => ⟨by rw [r1.len, hlen _ _ _ _ h1], fun a hn1 => ?_⟩
      split at ev
      · rename_i M2 h2
        split at ev
        · rename_i C' m hM
          split at ev
          · rename_i hc
            obtain ⟨rfl, hmn⟩ := hc
            split at ev
            · rename_i fs hM2
              cases ev
              have w2 := Wd.new_ok (m := .exo C' none) (o := exo a C' none) w1 hn1 .exo
              have self : Rep K (W1.new a (exo a C' none)).B (W1.new a (exo a C' none)).ι (.ref a) (.ref M1.length) := .ref (by
                show (W1.ι ++ [a])[M1.length]? = some a
                rw [← w1.len]
                simp)
              refine ⟨W1.new a (exo a C' none), M1 ++ [.exo C' none], .ref M1.length :: (ds ++ dds), .non, _, rfl, w2, .cons self ((r1.le Wd.new_le).append (hr _ _)), ?_, h2, fun v W3 l3 w3 r3 => ?_⟩
              · rw [List.length_cons, List.length_append, hlen _ _ _ _ h1]
                exact hn
              · cases r3
                refine ⟨rfl, ?_⟩
                have self3 := self.le l3
                cases self3 with
                | ref hi =>
                  have lv : Live W3 M2 M1.length a (.exo C' (some m)) := ⟨hi, hM, fun z => by cases z⟩
                  obtain ⟨_, _, g1, hg1, ro⟩ := w3.live _ _ _ lv
                  cases ro with
                  | @exoD _ d _ hm1 =>
                    have lvm : Live W3 M2 m d (.exd fs) := ⟨hm1, hM2, fun z => by cases z⟩
                    obtain ⟨_, _, g2, hg2, ro2⟩ := w3.live _ _ _ lvm
                    cases ro2 with
                    | @exd vs' _ rf =>
                      refine ⟨d, vs', hg1, hg2, ?_⟩
                      have w4 := Wd.drop_ok (H' := del W3.H a) w3 lv fun b hb => del_ne hb
                      have lvm' : Live (⟨del W3.H a, W3.B, W3.ι, W3.P⟩ : Wd) (M2.set M1.length .dead) m d (.exd fs) := ⟨hm1, by rw [List.getElem?_set_ne (Ne.symm hmn)]; exact hM2, fun z => by cases z⟩
                      have w5 := Wd.drop_ok (H' := upd (del W3.H a) d (.xd vs')) w4 lvm' fun b hb => upd_ne hb
                      have l5 : W.Le (⟨upd (del W3.H a) d (.xd vs'), W3.B, W3.ι, W3.P⟩ : Wd) := ((l1.trans Wd.new_le).trans l3).trans ⟨fun _ _ h => h, ⟨[], by simp⟩, rfl⟩
                      obtain ⟨nB, nP, _⟩ := w4.live _ _ _ lvm'
                      refine q C' σ _ d vs' hm l5 w5 (s.le l5) ⟨upd_same, rf, nB, nP, fun n o lv6 => ?_⟩
                      obtain ⟨z1, z2, z3⟩ := lv6
                      by_cases hnm : n = m
                      · subst hnm
                        have lt : n < (M2.set M1.length .dead).length := (List.getElem?_eq_some_iff.mp lvm'.2.1).1
                        have z : ((M2.set M1.length MO.dead).set n MO.dead)[n]? = some .dead := by simp only [List.getElem?_set_self lt]
                        rw [z] at z2
                        cases z2
                        exact absurd rfl z3
                      · rw [List.getElem?_set_ne (Ne.symm hnm)] at z2
                        exact hnm (w4.inj _ _ _ _ _ (⟨z1, z2, z3⟩ : Live (⟨del W3.H a, W3.B, W3.ι, W3.P⟩ : Wd) (M2.set M1.length .dead) n d o) lvm')
            · cases ev
          · cases ev
        · cases ev
      · cases ev
    · cases ev
end
end Pl

/-! PlSQ: a list comprehension whose element may raise an exception with fields. -/
namespace Pl
open PySem L2
variable {K : PySem.W.Frag}
theorem Wd.unpin {W : Wd} {M : Mh} {p : Addr} {o : HO} {P0 : Hp} (w : W.Ok K M) (hP : W.P = upd P0 p o) (h0 : P0 p = none) : (⟨W.H, W.B, W.ι, P0⟩ : Wd).Ok K M := by
  refine ⟨fun a u h => w.sub a u h, fun a u h => ?_, w.len, fun n a u h => ?_, fun n m a u v h k => w.inj n m a u v h k⟩
  · have h' : P0 a = some u := h
    have e : a ≠ p := fun e => by
      rw [e, h0] at h'
      cases h'
    have q := w.pin a u (by rw [hP, upd_ne e]; exact h')
    exact q
  · obtain ⟨h1, h2, k, h3, h4⟩ := w.live n a u h
    have ne : a ≠ p := fun e => by
      rw [hP, e, upd_same] at h2
      cases h2
    rw [hP, upd_ne ne] at h2
    exact ⟨h1, h2, k, h3, h4⟩
inductive LOQ where
  | v (ys : List D) (M : Mh) | ex (y : Str) (fs : List (Str × D)) (M : Mh)
def lcGoQ (g : GF) (t : TF) (f : EXQ) : List D → Env → Mh → Option LOQ
  | [], _, M => some (.v [] M)
  | x :: xs, δ, M => match g x δ with
    | none => none
    | some δ1 => match t δ1 M with
      | some (true, M1) => (match f δ1 M1 with
        | some (.v y M2) => (match lcGoQ g t f xs δ M2 with
          | some (.v ys M3) => some (.v (y :: ys) M3)
          | some (.ex z fs M3) => some (.ex z fs M3)
          | none => none)
        | some (.ex z fs M2) => some (.ex z fs M2)
        | none => none)
      | some (false, M1) => lcGoQ g t f xs δ M1
      | none => none
def qLc (vs : List Nat) (a : AF) (g : GF) (t : TF) (f : EXQ) : EXQ := fun δ M => match a δ M with
  | some (ds, M1) => if ds.length ≤ sizeLine then (match lcGoQ g t f ds (wipeD δ vs) M1 with
    | some (.v ys M2) => some (.v (.lst ys) M2)
    | some (.ex z fs M2) => some (.ex z fs M2)
    | none => none) else none
  | none => none
/-- what the rest of the turns leads to, the list so far being ac -/
def LOQ.on (ac : List D) : LOQ → LOQ
  | .v ys M => .v (ac ++ ys) M
  | .ex z fs M => .ex z fs M
variable {mg : Str → Option Value} {S : WX}
theorem lc_qr {ti : TI} {tg : TG} {tt : TT} {te : WX → TE} {vs : List Nat} {a : AF} {g : GF} {t : TF} {f : EXQ} {sl : List Nat}
    (ri : ∀ (σ : St) (W : Wd) (δ : Env) (M : Mh) (ds : List D) (M' : Mh) (R : It → Hp → Prop), W.Ok K M → Slots K W σ δ → a δ M = some (ds, M') → (∀ J W', W.Le W' → W'.Ok K M' → Wk K J W' ds → R J W'.H) → ti σ W.H R)
    (rg : GR K tg g sl) (hsl : ∀ j ∈ sl, j ∈ vs) (rt : TR K tt t) (re : ∀ S' : WX, ERQ K mg S' (te S') f) : ERQ K mg S (fun σ H Q => tLc ti tg tt (te fun c d _ H' => S c d σ H') vs σ H Q) (qLc vs a g t f) := fun σ W δ M o Q w s e q => by
  unfold qLc at e
  split at e
  · rename_i ds M1 h1
    split at e
    · rename_i hlen
      have e0 : ∃ r, lcGoQ g t f ds (wipeD δ vs) M1 = some r ∧ o = (match r with | .v ys M2 => .v (.lst ys) M2 | .ex z fs M2 => .ex z fs M2) := by
        split at e
        · rename_i ys M2 h2
          cases e
          exact ⟨_, h2, rfl⟩
        · rename_i z fs M2 h2
          cases e
          exact ⟨_, h2, rfl⟩
        · cases e
      obtain ⟨fin, h2, ho⟩ := e0
      subst ho
      clear e
      refine ri σ W δ M ds M1 _ w s h1 fun J W1 l1 w1 wk => fun p hp => ?_
      have P0 : W1.P p = none := w1.pnone hp
      have B0 : W1.B p = none := w1.bnone hp
      refine ⟨fun i m H => ∃ (W' : Wd) (N : Mh) (acc : List V) (ac : List D) (r : LOQ), W'.H = H ∧ W1.Le (W'.mk' W'.H W1.P) ∧ W'.P = upd W1.P p (.lst acc) ∧ W'.Ok K N ∧ RepL K W'.B W'.ι acc ac ∧ i + m = ds.length ∧ lcGoQ g t f (ds.drop i) (wipeD δ vs) N = some r ∧ ac.length ≤ i ∧ r.on ac = fin,
        ⟨ds.length, W1.hold p (.lst []), M1, [], [], fin, rfl, ⟨fun _ _ h => h, ⟨[], by simp [Wd.mk', Wd.hold]⟩, rfl⟩, rfl, Wd.hold_ok w1 hp, .nil, by omega, h2, by simp, by cases fin <;> rfl⟩, ?_⟩
      rintro i m H ⟨W', N, acc, ac, r, rfl, l', hP, w', ra, em, e', hac, ef⟩
      obtain ⟨k1, k2⟩ := wk i W' N ⟨l'.same, l'.pre⟩ w'
      cases hd : ds[i]? with
      | none =>
        have hl : ds.length ≤ i := List.getElem?_eq_none_iff.mp hd
        rw [List.drop_of_length_le hl] at e'
        cases e'
        have ef' : LOQ.v (ac ++ []) N = fin := ef
        rw [List.append_nil] at ef'
        subst ef'
        have u := Wd.unhold w' hP P0
        refine .inl ⟨k1 hd, q _ ⟨W'.H, upd W'.B p (.lst acc), W'.ι, W1.P⟩ (l1.trans ⟨fun b o h => ?_, l'.pre, rfl⟩) u (.lst upd_same (ra.mono (updk (w'.pin p (.lst acc) (by rw [hP, upd_same])).2) fun _ _ z => z))⟩
        have hb : b ≠ p := fun z => by
          rw [z, B0] at h
          cases h
        show upd W'.B p (.lst acc) b = some o
        rw [upd_ne hb]
        exact l'.same b o h
      | some x0 =>
        obtain ⟨hgo, hy⟩ := k2 x0 hd
        have hl : i < ds.length := (List.getElem?_eq_some_iff.mp hd).1
        have hdr : ds.drop i = x0 :: ds.drop (i + 1) := by
          rw [List.drop_eq_getElem_cons hl]
          congr 1
          exact Option.some.inj ((List.getElem?_eq_getElem hl).symm.trans hd)
        rw [hdr] at e'
        unfold lcGoQ at e'
        refine .inr ⟨hgo, fun H2 => ∃ (W2 : Wd) (N2 : Mh) (acc2 : List V) (ac2 : List D) (r2 : LOQ), W2.H = H2 ∧ W1.Le (W2.mk' W2.H W1.P) ∧ W2.P = upd W1.P p (.lst acc2) ∧ W2.Ok K N2 ∧ RepL K W2.B W2.ι acc2 ac2 ∧ lcGoQ g t f (ds.drop (i + 1)) (wipeD δ vs) N2 = some r2 ∧ ac2.length ≤ i + 1 ∧ r2.on ac2 = fin,
          fun H2 ⟨W2, N2, acc2, ac2, r2, a1, a2, a3, a4, a5, a6, a7, a8⟩ => ⟨m - 1, by omega, W2, N2, acc2, ac2, r2, a1, a2, a3, a4, a5, by omega, a6, a7, a8⟩, fun x H' y => ?_⟩
        obtain ⟨W3, rfl, l3, w3, r3⟩ := hy x H' y
        have sw : Slots K W3 (L2.wipe σ vs) (wipeD δ vs) := ((((s.le l1).wipe vs).le l').cong (W' := W') rfl rfl).le l3
        have up : ∀ {W4 : Wd}, W'.Le W4 → W1.Le (W4.mk' W4.H W1.P) := fun {W4} l => l'.trans ⟨l.same, l.pre, rfl⟩
        split at e'
        · cases e'
        · rename_i δ1 h3
          refine rg x x0 _ W3 _ δ1 N _ w3 sw r3 h3 fun σ3 s3 hw => ⟨(hw vs hsl).trans ?_, ?_⟩
          · exact wipe_twice σ vs
          · split at e'
            · rename_i N1 h4
              refine rt σ3 W3 δ1 N _ N1 _ w3 s3 h4 fun W4 l4 w4 => ifT ?_
              split at e'
              · rename_i y0 N2 h5
                have e1 : ∃ r', lcGoQ g t f (ds.drop (i + 1)) (wipeD δ vs) N2 = some r' ∧ r = r'.on [y0] := by
                  split at e'
                  · rename_i ys M3 h6
                    cases e'
                    exact ⟨_, h6, rfl⟩
                  · rename_i z fs M3 h6
                    cases e'
                    exact ⟨_, h6, rfl⟩
                  · cases e'
                obtain ⟨r', h6, hr⟩ := e1
                refine re _ σ3 W4 δ1 N1 (.v y0 N2) _ w4 (s3.le l4) h5 fun v W5 l5 w5 r5 => ?_
                have l35 : W'.Le W5 := (l3.trans l4).trans l5
                have p5 : W5.P = upd W1.P p (.lst acc) := l35.pp.trans hP
                have p5' : W5.P p = some (.lst acc) := by rw [p5, upd_same]
                have ra5 := ra.le l35
                refine ⟨acc, (w5.pin p _ p5').1, ?_, ⟨upd W5.H p (.lst (acc ++ [v])), W5.B, W5.ι, upd W5.P p (.lst (acc ++ [v]))⟩, N2, acc ++ [v], ac ++ [y0], r', rfl, l'.trans ⟨l35.same, l35.pre, rfl⟩, ?_, Wd.hold_put w5 p5', ra5.append (.cons r5 .nil), h6, ?_, ?_⟩
                · have := ra.len
                  omega
                · show upd W5.P p _ = _
                  rw [p5, upd_upd]
                · rw [List.length_append]
                  show ac.length + 1 ≤ i + 1
                  omega
                · rw [← ef, hr]
                  cases r' with
                  | v ys M3 =>
                    show LOQ.v ((ac ++ [y0]) ++ ys) M3 = LOQ.v (ac ++ ([y0] ++ ys)) M3
                    rw [List.append_assoc]
                  | ex z fs M3 => rfl
              · rename_i z fs N2 h5
                cases e'
                have ef' : LOQ.ex z fs N2 = fin := ef
                subst ef'
                refine re _ σ3 W4 δ1 N1 (.ex z fs N2) _ w4 (s3.le l4) h5 fun C W5 dx xs hm l5 w5 fa => ?_
                have l35 : W'.Le W5 := (l3.trans l4).trans l5
                have p5 : W5.P = upd W1.P p (.lst acc) := l35.pp.trans hP
                obtain ⟨f1, f2, f3, f4, f5⟩ := fa
                refine q C (W5.mk' W5.H W1.P) dx xs hm (l1.trans (up l35)) (Wd.unpin w5 p5 P0) ⟨f1, f2, f3, ?_, fun n o lv => f5 n o lv⟩
                show W1.P dx = none
                rw [p5] at f4
                by_cases hdp : dx = p
                · rw [hdp]; exact P0
                · rw [upd_ne hdp] at f4; exact f4
              · cases e'
            · rename_i N1 h4
              refine rt σ3 W3 δ1 N _ N1 _ w3 s3 h4 fun W4 l4 w4 => ifF ?_
              have l34 : W'.Le W4 := l3.trans l4
              exact ⟨W4, N1, acc, ac, r, rfl, up l34, l34.pp.trans hP, w4, ra.le l34, e', by omega, ef⟩
            · cases e'
    · cases e
  · cases e
section
variable {I : Type} {X : I → Cx} {P : Program} {w : World} {base : Heap} {k : Nat}
theorem DEQ.lc (c : Ctx X P w K mg base k) (tk : ∀ i, Takes (X i) S) {elt tg iter : Expr} {ifs : List Expr} {scope : Scope} {own : List (Str × Nat)} {pos} {a : AF} {g : GF} {t : TF} {f : EXQ} {sl : List Nat} (hN : ∀ i, (X i).N.Nodup) (hi : DI X K tg iter a) (ok : ∀ i, BlkOk (X i).N (X i).env.scope scope own)
    (hg : DG (blkF X scope) K tg g sl) (hsl : ∀ j ∈ sl, j ∈ own.map (·.2)) (ht : DTs (blkF X scope) K ifs t)
    (he : ∀ S' : WX, (∀ i, Takes (trF (blkF X scope) S' i) S') → Ctx (trF (blkF X scope) S') P w K mg base k → DEQ (trF (blkF X scope) S') K mg S' elt f)
    (hst : ∀ i, (X i).stack = (X i).env :: (X i).outer := by intro _; rfl) (hfr : ∀ i, (X i).env.frame = some (X i).env.locals := by intro _; rfl) (hs : ∀ i x, foldedSetIterable iter (X i).env x = pure x := by intro _ _; rfl) :
    DEQ X K mg S (.ListComp elt [⟨tg, iter, ifs, 0⟩] scope pos) (qLc (own.map (·.2)) a g t f) := by
  obtain ⟨ti, pi, ri⟩ := hi.go
  obtain ⟨tg', pg, rg⟩ := hg.go
  obtain ⟨tt, pt, rt⟩ := ht.go
  have he' := fun S' : WX => (he S' (fun i => i.2.1) (c.blk scope).tr).go
  let te : WX → TE := fun S' => Classical.choose (he' S')
  have pE : ∀ S' i, PE (trF (blkF X scope) S' i) elt (te S') := fun S' => (Classical.choose_spec (he' S')).1
  have rE : ∀ S', ERQ K mg S' (te S') f := fun S' => (Classical.choose_spec (he' S')).2
  exact ⟨_, fun i => ⟨fun pins s σ H Q J h => lc_coreX (hst i) (hfr i) (tk i) (c.calm i) (hN i) J (pi i) (ok i) (fun s H C cl fp => pg (i, s, H, C, cl, fp)) (fun s H C cl fp => pt (i, s, H, C, cl, fp)) (fun s H C cl fp pn xe tk' po => pE _ ⟨((i, s, H, C, cl, fp), pn, xe), tk', po⟩) (hs i) h⟩, lc_qr ri rg hsl rt rE⟩
end
end Pl

/-! PlUQ: arguments that may raise an exception with fields; calls over them. -/
namespace Pl
open PySem L2
inductive AOQ where
  | v (ds : List D) (M : Mh) | ex (y : Str) (fs : List (Str × D)) (M : Mh)
abbrev AXQ := Env → Mh → Option AOQ
def PostAQ (K : PySem.W.Frag) (mg : Str → Option Value) (S : Value → Option Addr → Hp → Prop) (Q : List V → Hp → Prop) (W : Wd) : AOQ → Prop
  | .v ds M => VRL K W ds M Q
  | .ex y fs M => ∀ C W' dx vs, mg y = some (.ref C) → W.Le W' → W'.Ok K M → FsAt K W' M dx vs fs → S (.ref C) (some dx) W'.H
def ARQ (K : PySem.W.Frag) (mg : Str → Option Value) (S : WX) (t : TA) (f : AXQ) : Prop := ∀ (σ : St) (W : Wd) (δ : Env) (M : Mh) (o : AOQ) (Q : List V → Hp → Prop), W.Ok K M → Slots K W σ δ → f δ M = some o → PostAQ K mg (fun c d H => S c d σ H) Q W o → t σ W.H Q
section
variable {I : Type}
structure DAQ (X : I → Cx) (K : PySem.W.Frag) (mg : Str → Option Value) (S : WX) (es : List Expr) (f : AXQ) : Prop where
  go : ∃ t : TA, (∀ i, PA (X i) es t) ∧ ARQ K mg S t f
variable {X : I → Cx} {P : Program} {w : World} {K : PySem.W.Frag} {mg : Str → Option Value} {base : Heap} {k : Nat} {S : WX}
def qLift (f : EF) : EXQ := fun δ M => match f δ M with
  | some (d, M1) => some (.v d M1)
  | none => none
theorem DEQ.lift {e : Expr} {f : EF} (a : DE X K e f) : DEQ X K mg S e (qLift f) := by
  obtain ⟨t, p, r⟩ := a.go
  refine ⟨t, p, fun σ W δ M o Q w s ev q => ?_⟩
  unfold qLift at ev
  split at ev
  · rename_i d M1 h1
    cases ev
    exact r σ W δ M d M1 Q w s h1 q
  · cases ev
def qaNil : AXQ := fun _ M => some (.v [] M)
theorem DAQ.nil : DAQ X K mg S [] qaNil := ⟨tNil, fun i => pa_nil, fun σ W δ M o Q w s e q => by
  cases e
  exact q [] W (.refl W) w .nil⟩
def qaCons (f : EXQ) (g : AXQ) : AXQ := fun δ M => match f δ M with
  | some (.v d M1) => (match g δ M1 with
    | some (.v ds M2) => some (.v (d :: ds) M2)
    | some (.ex y fs M2) => some (.ex y fs M2)
    | none => none)
  | some (.ex y fs M1) => some (.ex y fs M1)
  | none => none
theorem DAQ.cons {e : Expr} {es : List Expr} {f : EXQ} {g : AXQ} (a : DEQ X K mg S e f) (b : DAQ X K mg S es g) (he : ∀ i, starEach (e :: es) (X i).env = (false, eval e (X i).env) :: starEach es (X i).env := by intro _; rfl) : DAQ X K mg S (e :: es) (qaCons f g) := by
  obtain ⟨ta, pa, ra⟩ := a.go
  obtain ⟨tb, pb, rb⟩ := b.go
  refine ⟨tCons ta tb, fun i => pa_cons (pa i) (pb i) (he i), fun σ W δ M o Q w s ev q => ?_⟩
  unfold qaCons at ev
  split at ev
  · rename_i d1 M1 h1
    split at ev
    · rename_i ds M2 h2
      cases ev
      refine ra σ W δ M (.v d1 M1) _ w s h1 fun v W1 l1 w1 r1 => ?_
      refine rb σ W1 δ M1 (.v ds M2) _ w1 (s.le l1) h2 fun vs W2 l2 w2 r2 => ?_
      exact q _ W2 (l1.trans l2) w2 (.cons (r1.le l2) r2)
    · rename_i y fs M2 h2
      cases ev
      refine ra σ W δ M (.v d1 M1) _ w s h1 fun v W1 l1 w1 r1 => ?_
      exact rb σ W1 δ M1 (.ex y fs M2) _ w1 (s.le l1) h2 fun C W2 dx vs m l2 w2 z => q C W2 dx vs m (l1.trans l2) w2 z
    · cases ev
  · rename_i y fs M1 h1
    cases ev
    exact ra σ W δ M (.ex y fs M1) _ w s h1 q
  · cases ev
def qB (g : GL) (a : AXQ) : EXQ := fun δ M => match a δ M with
  | some (.v ds M1) => (match g ds M1 with
    | some (d, M2) => some (.v d M2)
    | none => none)
  | some (.ex y fs M1) => some (.ex y fs M1)
  | none => none
theorem er_bq {r : List V → Hp → VK → Prop} {g : GL} {a : AXQ} {t : TA} (h : ∀ (W : Wd) (M : Mh) (vs : List V) (ds : List D) (z : D) (M' : Mh) (Q : VK), W.Ok K M → RepL K W.B W.ι vs ds → g ds M = some (z, M') → VR K W z M' Q → r vs W.H Q) (ra : ARQ K mg S t a) : ERQ K mg S (tCB r t) (qB g a) := fun σ W δ M o Q w s ev q => by
  unfold qB at ev
  split at ev
  · rename_i ds M1 h1
    split at ev
    · rename_i d M2 h2
      cases ev
      exact ra σ W δ M (.v ds M1) _ w s h1 fun vs W1 l1 w1 r1 => h W1 M1 vs ds d M2 Q w1 r1 h2 (VR.le q l1)
    · cases ev
  · rename_i y fs M1 h1
    cases ev
    exact ra σ W δ M (.ex y fs M1) _ w s h1 q
  · cases ev
theorem DEQ.callB (c : Ctx X P w K mg base k) {x : Str} {p pos : Pos} {e : Expr} {es : List Expr} {id : String} {g : GL} {a : AXQ} (o : CalF X K (.builtin id) g) (hm : mg x = none) (hv : bootBuiltins x = some (.builtin id)) (ha : DAQ X K mg S (e :: es) a) (hg : ∀ i, Gl (X i) x := by intro _; rfl)
    (hn : x ≠ "__name__" := by decide) (hdbg : (x == ("__debug__" : Str)) = false := by decide) (he : ∀ i, starEach (e :: es) (X i).env = (false, eval e (X i).env) :: starEach es (X i).env := by intro _; rfl) (hpl : ∀ i, (backTo pos (starEach es (X i).env)).any (·.1) = false := by intro _; rfl) :
    DEQ X K mg S (.Call (.Name x p) (e :: es) [] pos) (qB g a) := by
  obtain ⟨r, hc, h⟩ := o.go
  obtain ⟨t, pa, ra⟩ := ha.go
  exact ⟨_, fun i => pe_callB (hc i) (hg i) (by rw [c.mg i]; exact hm) hv (pa i) (hn := hn) (hdb := hdbg) (he := he i) (hpl := hpl i), er_bq h ra⟩
theorem DEQ.callTy (c : Ctx X P w K mg base k) {x : Str} {p pos : Pos} {e : Expr} {es : List Expr} {id : String} {g : GL} {a : AXQ} (o : CalF X K (.type id) g) (hm : mg x = none) (hv : bootBuiltins x = some (.type id)) (ha : DAQ X K mg S (e :: es) a) (hg : ∀ i, Gl (X i) x := by intro _; rfl)
    (hn : x ≠ "__name__" := by decide) (hdbg : (x == ("__debug__" : Str)) = false := by decide) (he : ∀ i, starEach (e :: es) (X i).env = (false, eval e (X i).env) :: starEach es (X i).env := by intro _; rfl) (hpl : ∀ i, (backTo pos (starEach es (X i).env)).any (·.1) = false := by intro _; rfl) :
    DEQ X K mg S (.Call (.Name x p) (e :: es) [] pos) (qB g a) := by
  obtain ⟨r, hc, h⟩ := o.go
  obtain ⟨t, pa, ra⟩ := ha.go
  exact ⟨_, fun i => pe_callTy (hc i) (hg i) (by rw [c.mg i]; exact hm) hv (pa i) (hn := hn) (hdb := hdbg) (he := he i) (hpl := hpl i), er_bq h ra⟩
end
end Pl

/-! PlVQ: what was caught is kept, its dict too; its fields are read. -/
namespace L2
open PySem PySem.Spec PyProof.Rows
open Pl in
/-- the ends of a suite behind which the caught one is kept -/
def endKD (C dx a : Addr) (i : Nat) (D : Ends) : Ends :=
  { nx := fun σ' H' => H' a = none → D.nx (σ'.set i none) (upd H' a (Pl.ExVD C dx a)), rt := fun v H' => H' a = none → D.rt v (upd H' a (Pl.ExVD C dx a)), bk := fun σ' H' => H' a = none → D.bk (σ'.set i none) (upd H' a (Pl.ExVD C dx a)), ct := fun σ' H' => H' a = none → D.ct (σ'.set i none) (upd H' a (Pl.ExVD C dx a)) }
/-- what the clause wishes -/
def wKeepD (K : PySem.W.Frag) (c : Value) (i : Nat) (ts : TS) (Wout : WX) (D : Ends) : WX := fun cls d σ H =>
  ∃ b, PySem.W.exmOne K cls c = some b ∧ (b = true → ∃ C dx, cls = .ref C ∧ d = some dx ∧ ∀ a, H a = none → ts (endKD C dx a i D) (σ.set i (some (.ref a))) H) ∧ (b = false → Wout cls d σ H)
section
variable {X : Cx} {x n : Str} {c : Value} {i : Nat} {body suite : List Stmt} {b₀ : Stmt} {np pos pos' : Pos} {tb : WX → TS} {ts : TS} {Wout : WX}
theorem ps_try_keepD (hs : X.stack = X.env :: X.outer) (hf : X.env.frame = some X.env.locals) (hex : X.ex = []) (hN : X.N.Nodup) (hi : X.N[i]? = some n) (hln : X.env.kindOf n = some .local) (hc : Names X x c) (tk : Takes X Wout)
    (hb : ∀ (W : WX) (pn : List (Addr × Obj)) (xe : Value → Shared → Prop), Takes (X.tr pn xe) W → PassesOwn (model X.prog X.w) X.A X.env xe → PSs (X.tr pn xe) body (tb W))
    (hsu : ∀ (a : Addr) (obE : Obj) (pn : List (Addr × Obj)), PSs (X.suite a ((a, obE) :: pn)) (b₀ :: suite) ts) :
    PS X (.Try body [.ExceptHandler (some (.Name x np)) (some n) (b₀ :: suite) pos'] [] [] pos) (fun D σ H => tb (wKeepD X.K c i ts Wout D) D σ H) := by
  refine ⟨fun pins s σ H D I h => ?_⟩
  have ok := I.ok
  have frE : X.A.frames = some (X.env :: X.outer) := by rw [ok.frames, hs]
  have locE : Loc X.env.scope n := .inl hln
  refine wpAny_Try_except ?_
  refine wpAny_mono ((hb (wKeepD X.K c i ts Wout D) (X.pn ++ pins) (fun e s₁ => wpAny (model X.prog X.w) X.A (noteFrame e X.env) (fun _ s₂ => wpAny (model X.prog X.w) X.A (setFlight e none) (fun _ s₃ =>
    wpAny (model X.prog X.w) X.A (handleBy e X.env [.ExceptHandler (some (.Name x np)) (some n) (b₀ :: suite) pos']) (SP X pins D) X.xe s₃) X.xe s₂) X.xe s₁) (fun u s' xx => ?_) PassesOwn.looking).run [] s σ H D (I.toTry _) h) (fun f s1 hend => ?_) (fun e s1 he => he)
  · obtain ⟨a, B, sI, pins', σ', H', cls, d, rfl, Jz, nb, up, sky, naA, os, ag, b, hb1, hyes, hno⟩ := xx
    have Ja : Inv X pins σ' H' sI := Jz.ofTry ok
    have skyT : Sky B (X.env :: X.outer) a (Zc cls d) X.env.locals s'.heap := by rw [← hs]; exact sky
    show wpAny (model X.prog X.w) X.A (noteFrame (.ref a) X.env) _ _ _
    refine Sky.land Zc.steady frE hf skyT fun hp3 fly3 mor3 => ?_
    have Jb : Inv X pins σ' H' { s' with heap := hp3 } := Ja.landed nb fly3.1 (up.trans mor3) os ag
    obtain ⟨ob3, fv3, at3, zc3, dt3⟩ := fly3.there
    have offFr : ∀ {h : Heap} {o : Obj} {vs : Array Value}, h.FunFrames B (X.env :: X.outer) → h.get? a = some o → o.data = .fields vs → a ∉ frs (X.env :: X.outer) := fun {h o vs} ff e dd mem_ => by
      obtain ⟨_, o', e', hnA⟩ := ff.mem mem_
      rw [e] at e'; cases e'
      exact hnA _ dd
    have nfrA := offFr fly3.2.2.1 at3 dt3
    have nLoc : a ≠ X.env.locals := fun z => nfrA (List.mem_filterMap.mpr ⟨X.env, List.mem_cons_self, by rw [hf, z]⟩)
    have nFs : a ∉ X.fs := fun mem_ => by
      obtain ⟨e, he, q⟩ := List.mem_filterMap.mp mem_
      exact nfrA (List.mem_filterMap.mpr ⟨e, List.mem_cons_of_mem _ he, q⟩)
    have nI : sI.heap.get? a = none := by
      cases e : sI.heap.get? a with
      | none => rfl
      | some o =>
        have z := nb a o e (by rw [hs]; exact nfrA)
        rw [fly3.2.1] at z
        cases z
    have nbA : X.s_0.heap.get? a = none := by
      cases e : X.s_0.heap.get? a with
      | none => rfl
      | some o =>
        obtain ⟨o', z⟩ := Ja.base.there a o e (by rw [hex]; exact fun z => nomatch z)
        rw [nI] at z
        cases z
    have nP : ∀ p ∈ X.pn ++ pins, p.1 ≠ a := fun p hp z => by
      have q := (Ja.pin p hp).1
      rw [z, nI] at q
      cases q
    have Sb := Jb.suite at3 dt3 naA nLoc nFs
    refine wpAny_handleBy_cons (codeAny_handlers_test ?_) (by intro q; cases q)
    have LtT : PySem.W.Looks (model X.prog X.w) hp3 (typeOf (.ref a)) cls := fun A Q E s k q => wpAny_typeOf_ref (k _ _ at3) (by rw [zc3.1]; exact q)
    have LmT := PySem.W.exm_one (M := model X.prog X.w) (Jb.kIn) LtT hb1
    have tstT : ∀ {Q : Value → Shared → Prop} {E : Value → Shared → Prop}, Q c { s' with heap := hp3 } → wpAny (model X.prog X.w) (X.A.mark (some (.ref a))) (eval (.Name x np) X.env) Q E { s' with heap := hp3 } := fun {Q E} q => by
      obtain ⟨hg, hdbg, mem_ | ⟨mem_, hv, hnn⟩⟩ := hc
      · exact ld_glob (X := X.suite a ((a, ob3) :: (X.pn ++ pins))) Sb hg mem_ q hdbg
      · exact ld_blt (X := X.suite a ((a, ob3) :: (X.pn ++ pins))) Sb hg mem_ hv q hnn hdbg
    refine tstT (LmT.here ?_)
    cases b with
    | true =>
      obtain ⟨C, dx, rfl, rfl, hy⟩ := hyes rfl
      refine codeAny_handlers_suite_as ?_
      refine HandSPX.lands_againZ fly3 fun hp4 fly4 mor4 => ?_
      have Jc : Inv X pins σ' H' { s' with heap := hp4 } := Ja.landed nb fly4.1 ((up.trans mor3).trans mor4) os ag
      obtain ⟨ob4, fv4, at4, zc4, dt4⟩ := fly4.there
      have Sc := Jc.suite at4 dt4 naA nLoc nFs
      refine store_ok (X := X.suite a ((a, ob4) :: (X.pn ++ pins))) (v := .ref a) Sc hN hi locE rfl (fun sd Sd => ?_) (.inr hln)
      refine wpAny_mono ((hsu a ob4 (X.pn ++ pins)).run [] sd _ H' _ Sd (hy a naA)) (fun f s6 hend => ?_) (fun _ _ z => False.elim z)
      have end_ : ∀ {σe : St} {He : Hp} {Q : Shared → Prop}, Inv (X.suite a ((a, ob4) :: (X.pn ++ pins))) [] σe He s6 → (∀ s7, He a = none → Inv X pins (σe.set i none) (upd He a (Pl.ExVD C dx a)) s7 → Q s7) →
          wpAny (model X.prog X.w) X.A (do bindName X.env n .none; unbindBehindTheSuite X.env n pos') (fun _ s7 => Q s7) X.xe s6 := fun {σe He Q} Se hq => by
        obtain ⟨ga, gn, _⟩ := Se.pin (a, ob4) (List.mem_append.mpr (.inl List.mem_cons_self))
        have J6 := Se.unsuite ok
        have hC : ∀ x c, X.env.cells.lookup x = some c → c ≠ a := fun x c e z => by
          obtain ⟨v, o, ho, hd⟩ := J6.cell x c e
          rw [z, ga] at ho
          cases ho
          rw [dt4] at hd
          cases hd
        have new : ObjOk X.prog X.w (upd He a (Pl.ExVD C dx a)) s6.heap a (Pl.ExVD C dx a) := ⟨⟨ob4, fv4, ga, zc4, dt4⟩, ⟨ob4, ga⟩, fun _ _ ⟨o, v, q, r⟩ k => ⟨o, v, k o q, r⟩⟩
        exact gone_ok (J6.told gn nbA nLoc hC nP new) hN hi hln fun s7 J7 => hq s7 gn J7
      cases f with
      | next =>
        obtain ⟨σe, He, Se, qe⟩ := hend
        exact end_ Se fun s7 gn J7 => ⟨_, _, J7, qe gn⟩
      | brk =>
        obtain ⟨σe, He, Se, qe⟩ := hend
        exact end_ Se fun s7 gn J7 => ⟨_, _, J7, qe gn⟩
      | cont =>
        obtain ⟨σe, He, Se, qe⟩ := hend
        exact end_ Se fun s7 gn J7 => ⟨_, _, J7, qe gn⟩
      | ret u =>
        obtain ⟨ve, σe, He, Se, re, qe⟩ := hend
        exact end_ Se fun s7 gn J7 => ⟨_, _, _, J7, re, qe gn⟩
    | false =>
      show wpAny _ X.A (handleBy (.ref a) X.env []) _ _ _
      refine wpAny_handleBy_nil ?_
      obtain ⟨k1, k2, k3, obE, vs, T, oT, ts', he, hz, hd, h1, hr⟩ := id fly3
      unfold PySem.passOn
      refine wpAny_bind (wpAny_field he hd h1 ?_)
      rw [if_neg (show ¬ ((Value.ref T == Value.none) = true) from by simp)]
      have finT : wpAny (model X.prog X.w) X.A (setFlight (.ref a) X.env.frame) (fun _ s4 => wpAny (model X.prog X.w) X.A (throw (.ref a) : Sem Flow) (SP X pins D) X.xe s4) X.xe { s' with heap := hp3 } := by
        rw [hf]
        refine HandSPX.setFlight_upZ fly3 fun hp4 hqD mor4 => wpAny_throw (tk _ _ ?_)
        exact ⟨a, B, sI, pins, σ', H', cls, d, rfl, Ja, nb, (up.trans mor3).trans mor4, .inr (.inr (by rw [hs]; exact hqD)), naA, os, ag, hno rfl⟩
      first
        | exact wpAny_bind (wpAny_pure (wpAny_bind finT))
        | exact wpAny_bind finT
  · cases f with
    | next =>
      obtain ⟨σ', H', Jz, q⟩ := hend
      exact wpAny_execs_nil ⟨σ', H', Jz.ofTry ok, q⟩
    | brk =>
      obtain ⟨σ', H', Jz, q⟩ := hend
      exact ⟨σ', H', Jz.ofTry ok, q⟩
    | cont =>
      obtain ⟨σ', H', Jz, q⟩ := hend
      exact ⟨σ', H', Jz.ofTry ok, q⟩
    | ret u =>
      obtain ⟨v, σ', H', Jz, r, q⟩ := hend
      exact ⟨v, σ', H', Jz.ofTry ok, r, q⟩
end
end L2

/-! ### reading its fields -/
namespace Pl
open PySem PySem.Spec PyProof.Rows L2
def tGv (K : PySem.W.Frag) (f : Str) (to : TE) : TE := fun σ H Q => to σ H fun x H1 => ∃ (a C dx : Addr) (fs : List (Str × V)) (v : V), x = .ref a ∧ XfC K C ∧ PySem.W.findIn K (.ref C) f = some none ∧ H1 a = some (ExVD C dx a) ∧ H1 dx = some (.xd fs) ∧ fs.lookup f = some v ∧ Q v H1
section
variable {X : Cx} {o e : Expr} {to te : TE} {f : Str} {p' pos : Pos}
theorem pe_gv (ho : PE X o to) (hb : attributeBase o f X.env (eval o X.env) = eval o X.env) : PE X (.Attribute o f pos) (tGv X.K f to) := by
  refine ⟨fun pinsA sA σA HA QA IA hA => ?_⟩
  refine attr_of hb (thn (ho.run pinsA sA σA HA _ IA hA) fun w1 s1 ⟨x, H1, I1, rx, a, C, dx, fs, v, ex, T, hno, ea, ed, l, q⟩ => ?_)
  subst ex
  cases rx
  obtain ⟨⟨oe, vs, at0, hz, hv⟩, _, _⟩ := I1.hok a _ ea
  obtain ⟨mA, hns, hr⟩ := I1.hok dx _ ed
  obtain ⟨od, ho2, hl⟩ := lookIn_ns hns
  obtain ⟨u, hu, ru⟩ := RelO.some_of (v := v) (o := mA f) (by rw [← l]; exact hr f)
  have inst : PySem.W.InstAt s1.heap a oe C (some od) := by
    obtain ⟨oc, odd, oda, osl⟩ := oe
    obtain ⟨h1, h2⟩ := hz
    dsimp only at h1 h2 hv
    subst h1 h2 hv
    exact ⟨at0, rfl, rfl, ho2⟩
  exact HandSPX.exc_get I1.kIn inst T.ga T.gg T.exC (PySem.W.findObj_own T.hdC hno rfl (by rw [hl, hu])) (handed_of ru) ⟨v, H1, I1.tok _, ru, q⟩
end
section
variable {I : Type} {X : I → Cx} {P : Program} {w : World} {K : PySem.W.Frag} {mg : Str → Option Value} {base : Heap} {k : Nat}
def eGv (okg : Addr → Str → Bool) (f : Str) (fo : EF) : EF := fun δ M => match fo δ M with
  | some (.ref n, M1) => (match M1[n]? with
    | some (.exf C m) => if okg C f = true then (match M1[m]? with
      | some (.exg fs) => (fs.lookup f).map fun d => (d, M1)
      | _ => none) else none
    | _ => none)
  | _ => none
theorem exf_live {W : Wd} {M : Mh} {x : V} {n m : Nat} {C : Addr} {fs : List (Str × D)} (w : W.Ok K M) (r : Rep K W.B W.ι x (.ref n)) (hm : M[n]? = some (.exf C m)) (hf : M[m]? = some (.exg fs)) :
    ∃ a d vs, x = .ref a ∧ W.H a = some (ExVD C d a) ∧ ExcC K C ∧ Live W M m d (.exg fs) ∧ W.H d = some (.xd vs) ∧ RepF K W.B W.ι vs fs := by
  cases r with
  | ref h =>
    obtain ⟨_, _, o, ho, ro⟩ := w.live _ _ _ (⟨h, hm, fun z => by cases z⟩ : Live W M n _ (.exf C m))
    cases ro with
    | exf g hd =>
      have lv : Live W M m _ (.exg fs) := ⟨hd, hf, fun z => by cases z⟩
      obtain ⟨_, _, o2, ho2, ro2⟩ := w.live _ _ _ lv
      cases ro2 with
      | exg rf => exact ⟨_, _, _, rfl, ho, g, lv, ho2, rf⟩
theorem DE.gvx {okg : Addr → Str → Bool} (hok : ∀ C f, okg C f = true → XfC K C ∧ PySem.W.findIn K (.ref C) f = some none) (c : Ctx X P w K mg base k) {o : Expr} {f : Str} {pos : Pos} {fo : EF} (b : DE X K o fo) (hb : ∀ i, attributeBase o f (X i).env (eval o (X i).env) = eval o (X i).env := by intro _; rfl) :
    DE X K (.Attribute o f pos) (eGv okg f fo) := by
  obtain ⟨tO, po, ro⟩ := b.go
  refine ⟨tGv K f tO, fun i => ?_, fun σ W δ M d M' Q w s ev q => ?_⟩
  · have h := pe_gv (X := X i) (pos := pos) (po i) (hb i)
    rw [c.K i] at h
    exact h
  · unfold eGv at ev
    split at ev
    · rename_i n M1 h1
      refine ro σ W δ M _ M1 _ w s h1 fun u W1 l1 w1 r1 => ?_
      split at ev
      · rename_i C m hm
        split at ev
        · rename_i hf
          split at ev
          · rename_i fs hfs
            cases hl : fs.lookup f with
            | none =>
              rw [hl] at ev
              cases ev
            | some z =>
              rw [hl] at ev
              cases ev
              obtain ⟨a, dd, vs, rfl, ha, _, lv, hd, rf⟩ := exf_live w1 r1 hm hfs
              obtain ⟨v, e1, e2⟩ := rf.get hl
              exact ⟨a, C, dd, vs, v, rfl, (hok _ _ hf).1, (hok _ _ hf).2, ha, hd, e1, q v W1 l1 w1 e2⟩
          · cases ev
        · cases ev
      · cases ev
    · cases ev
end
end Pl

/-! PlWQ: try .. except C as e, what was caught kept with its fields. -/
namespace Pl
open PySem L2
section
variable {I : Type} {X : I → Cx} {P : Program} {w : World} {K : PySem.W.Frag} {mg : Str → Option Value} {base : Heap} {k : Nat}
theorem Wd.adopt_live {W : Wd} {M : Mh} {dx : Addr} {fs : List (Str × D)} (w : W.Ok K M) : ∀ n b o, Live (W.ix1 dx) (M ++ [.exg fs]) n b o → Live W M n b o ∨ (n = M.length ∧ b = dx ∧ o = .exg fs) := fun n b o ⟨h1, h2, h3⟩ => by
  have h1' : (W.ι ++ [dx])[n]? = some b := h1
  by_cases hn : n < M.length
  · rw [List.getElem?_append_left hn] at h2
    rw [List.getElem?_append_left (by rw [w.len]; exact hn)] at h1'
    exact .inl ⟨h1', h2, h3⟩
  · have lt : n < (M ++ [MO.exg fs]).length := (List.getElem?_eq_some_iff.mp h2).1
    rw [List.length_append] at lt
    have e : n = M.length := by
      have : n < M.length + 1 := lt
      omega
    subst e
    rw [List.getElem?_append_right (Nat.le_refl _), Nat.sub_self] at h2
    rw [← w.len, List.getElem?_append_right (Nat.le_refl _), Nat.sub_self] at h1'
    cases h2
    cases h1'
    exact .inr ⟨rfl, rfl, rfl⟩
theorem Wd.adopt_ok {W : Wd} {M : Mh} {dx : Addr} {vs : List (Str × V)} {fs : List (Str × D)} (w : W.Ok K M) (fa : FsAt K W M dx vs fs) : (W.ix1 dx).Ok K (M ++ [.exg fs]) := by
  obtain ⟨f1, f2, f3, f4, f5⟩ := fa
  refine ⟨w.sub, w.pin, by
    show (W.ι ++ [dx]).length = _
    simp [w.len], fun n b o h => ?_, fun n m b o u h g => ?_⟩
  · rcases Wd.adopt_live w n b o h with h | ⟨rfl, rfl, rfl⟩
    · obtain ⟨h1, h2, u, h3, h4⟩ := w.live n b o h
      exact ⟨h1, h2, u, h3, h4.mono (fun _ _ q => q) Wd.ix1_le.ix⟩
    · exact ⟨f3, f4, _, f1, .exg (f2.mono (fun _ _ q => q) Wd.ix1_le.ix)⟩
  · rcases Wd.adopt_live w n b o h with hL | ⟨e1, e2, e3⟩
    · rcases Wd.adopt_live w m b u g with gL | ⟨e4, e5, e6⟩
      · exact w.inj n m b o u hL gL
      · rw [e5] at hL
        exact absurd hL (f5 _ _)
    · rcases Wd.adopt_live w m b u g with gL | ⟨e4, e5, e6⟩
      · rw [e2] at gL
        exact absurd gL (f5 _ _)
      · rw [e1, e4]
def kpD (m n : Nat) (C : Addr) (M : Mh) : Option Mh := match M[n]? with
  | some .dead => some (M.set n (.exf C m))
  | _ => none
theorem kpD_some {m n : Nat} {C : Addr} {M M' : Mh} (h : kpD m n C M = some M') : n < M.length ∧ M' = M.set n (.exf C m) := by
  unfold kpD at h
  split at h
  · rename_i hd
    cases h
    exact ⟨(List.getElem?_eq_some_iff.mp hd).1, rfl⟩
  · cases h
def kpOD (j m n : Nat) (C : Addr) : Option Out → Option Out
  | some (.nx δ M) => (kpD m n C M).map fun M' => .nx (δ.set j none) M'
  | some (.bk δ M) => (kpD m n C M).map fun M' => .bk (δ.set j none) M'
  | some (.ct δ M) => (kpD m n C M).map fun M' => .ct (δ.set j none) M'
  | some (.rt d M) => (kpD m n C M).map fun M' => .rt d M'
  | none => none
def sTryKQ (tb : Str → Option Addr) (j : Nat) (fb : XFQ) (fs : SF) : SF := fun δ M => match fb δ M with
  | some (.ok o) => some o
  | some (.ex y ys δ' M') => (match tb y with
    | some C => kpOD j M'.length (M' ++ [MO.exg ys]).length C (fs (δ'.set j (some (.ref (M' ++ [MO.exg ys]).length))) ((M' ++ [.exg ys]) ++ [.dead]))
    | none => none)
  | none => none
theorem DS.tryKeepQ (j : Nat) (c : Ctx X P w K mg base k) {x n : Str} {body suite : List Stmt} {b₀ : Stmt} {np pos pos' : Pos} {CH : Addr} {fb : XFQ} {fs : SF} {tb : Str → Option Addr} (hN : ∀ i, (X i).N.Nodup) (hm : mg x = some (.ref CH))
    (hx : ∀ y C, tb y = some C → mg y = some (.ref C) ∧ PySem.W.exmOne K (.ref C) (.ref CH) = some true ∧ ExcC K C) (hb : ∀ S : WX, (∀ i, Takes (trF X S i) S) → Ctx (trF X S) P w K mg base k → DBQ (trF X S) K mg S body fb) (hsu : DB (suF X) K (b₀ :: suite) fs)
    (hs : ∀ i, (X i).stack = (X i).env :: (X i).outer := by intro _; rfl) (hf : ∀ i, (X i).env.frame = some (X i).env.locals := by intro _; rfl) (hex : ∀ i, (X i).ex = [] := by intro _; rfl) (hi : ∀ i, (X i).N[j]? = some n := by intro _; rfl) (hln : ∀ i, (X i).env.kindOf n = some .local := by intro _; rfl)
    (hg : ∀ i, Gl (X i) x := by intro _; rfl) (hdb : (x == ("__debug__" : Str)) = false := by decide) :
    DS X K (.Try body [.ExceptHandler (some (.Name x np)) (some n) (b₀ :: suite) pos'] [] [] pos) (sTryKQ tb j fb fs) := by
  obtain ⟨ts, ps, rs⟩ := hsu.go
  have hb' := fun S : WX => (hb S (fun i => i.2.1) c.tr).go
  let tB : WX → TS := fun S => Classical.choose (hb' S)
  have pB : ∀ S i, PSs (trF X S i) body (tB S) := fun S => (Classical.choose_spec (hb' S)).1
  have rB : ∀ S, SRQ K mg S (tB S) fb := fun S => (Classical.choose_spec (hb' S)).2
  refine ⟨fun D σ H => tB (wKeepD K (.ref CH) j ts (fun _ _ _ _ => False) D) D σ H, fun i => ?_, fun σ W δ M o E w s e q => ?_⟩
  · have h := ps_try_keepD (X := X i) (tb := tB) (ts := ts) (i := j) (pos := pos) (pos' := pos') (np := np) (hs i) (hf i) (hex i) (hN i) (hi i) (hln i) (show Names (X i) x (.ref CH) from ⟨hg i, hdb, .inl (by rw [c.mg i]; exact hm)⟩) (takes0) (fun S pn xe tk po => pB S ⟨(i, pn, xe), tk, po⟩) (fun a oe pn => ps (i, a, oe, pn))
    rw [c.K i] at h
    exact h
  · unfold sTryKQ at e
    split at e
    · rename_i o' h1
      cases e
      exact rB _ σ W δ M _ E w s h1 q
    · rename_i y ys δ' M' h1
      split at e
      · rename_i C hy
        obtain ⟨g1, g2, g3⟩ := hx y C hy
        refine rB _ σ W δ M _ E w s h1 fun Cy σ' W0 dx vs m l0 w0 s0 fa => ?_
        have eC : Cy = C := by
          have := m.symm.trans g1
          cases this
          rfl
        subst eC
        have w' := Wd.adopt_ok w0 fa
        have l : W.Le (W0.ix1 dx) := l0.trans Wd.ix1_le
        have s' := s0.le (Wd.ix1_le (a := dx))
        have at0 : (W0.ix1 dx).ι[M'.length]? = some dx := by
          show (W0.ι ++ [dx])[M'.length]? = some dx
          rw [← w0.len]
          simp
        refine ⟨true, g2, fun _ => ⟨Cy, dx, rfl, rfl, fun a ha => ?_⟩, fun z => by cases z⟩
        generalize hW : W0.ix1 dx = W' at w' l s' at0
        generalize hM : M' ++ [MO.exg ys] = M0 at e w'
        have hH : W'.H = W0.H := by rw [← hW]; rfl
        have fin : ∀ {W3 : Wd} {M2 M3 : Mh}, (W'.ix1 a).Le W3 → W3.Ok K M2 → W3.H a = none → kpD M'.length M0.length Cy M2 = some M3 → (W3.wake a (ExVD Cy dx a)).Ok K M3 := fun {W3 M2 M3} l3 w3 h3 k3 => by
          obtain ⟨kn, rfl⟩ := kpD_some k3
          exact Wd.wake_ok w3 kn (l3.ix _ _ (by
            show (W'.ι ++ [a])[M0.length]? = some a
            rw [← w'.len]
            simp)) h3 (.exf g3 (l3.ix _ _ (Wd.ix1_le.ix _ _ at0)))
        have lw : ∀ {W3 : Wd}, (W'.ix1 a).Le W3 → W.Le (W3.wake a (ExVD Cy dx a)) := fun {W3} l3 => ((l.trans Wd.ix1_le).trans l3).trans Wd.wake_le
        show ts (endKD Cy dx a j E) (σ'.set j (some (.ref a))) W0.H
        rw [← hH]
        show ts (endKD Cy dx a j E) (σ'.set j (some (.ref a))) (W'.ix1 a).H
        generalize hf0 : fs (δ'.set j (some (.ref M0.length))) (M0 ++ [.dead]) = fo at e
        match fo, e with
        | some (.nx d2 M2), e =>
          obtain ⟨M3, e3, rfl⟩ := Option.map_eq_some_iff.mp e
          exact rs _ (W'.ix1 a) _ _ _ _ (Wd.ix1_ok w') (s'.ix1 w' j) hf0 fun σ3 W3 l3 w3 s3 h3 => q _ (W3.wake a (ExVD Cy dx a)) (lw l3) (fin l3 w3 h3 e3) ((s3.hide j none).le Wd.wake_le)
        | some (.bk d2 M2), e =>
          obtain ⟨M3, e3, rfl⟩ := Option.map_eq_some_iff.mp e
          exact rs _ (W'.ix1 a) _ _ _ _ (Wd.ix1_ok w') (s'.ix1 w' j) hf0 fun σ3 W3 l3 w3 s3 h3 => q _ (W3.wake a (ExVD Cy dx a)) (lw l3) (fin l3 w3 h3 e3) ((s3.hide j none).le Wd.wake_le)
        | some (.ct d2 M2), e =>
          obtain ⟨M3, e3, rfl⟩ := Option.map_eq_some_iff.mp e
          exact rs _ (W'.ix1 a) _ _ _ _ (Wd.ix1_ok w') (s'.ix1 w' j) hf0 fun σ3 W3 l3 w3 s3 h3 => q _ (W3.wake a (ExVD Cy dx a)) (lw l3) (fin l3 w3 h3 e3) ((s3.hide j none).le Wd.wake_le)
        | some (.rt d2 M2), e =>
          obtain ⟨M3, e3, rfl⟩ := Option.map_eq_some_iff.mp e
          exact rs _ (W'.ix1 a) _ _ _ _ (Wd.ix1_ok w') (s'.ix1 w' j) hf0 fun v W3 l3 w3 r3 h3 => q v (W3.wake a (ExVD Cy dx a)) (lw l3) (fin l3 w3 h3 e3) (r3.le Wd.wake_le)
        | none, e => cases e
      · cases e
    · cases e
end
end Pl

/-! PlYQ: isinstance of a kept exception with fields. -/
namespace Pl
open PySem PySem.Spec PyProof.Rows L2
section
variable {I : Type} {X : I → Cx} {P : Program} {w : World} {K : PySem.W.Frag} {mg : Str → Option Value} {base : Heap} {k : Nat}
def gIsiF (isa : Addr → Value → Option Bool) : GL := fun ds M => match ds with
  | [.ref n, c] => (match M[n]?, clV c with
    | some (.exf C m), some cv => (match M[m]? with
      | some (.exg _) => (match isa C cv with
        | some b => some (.bl b, M)
        | none => none)
      | _ => none)
    | _, _ => gIsiE isa [.ref n, c] M)
  | ds => gIsiE isa ds M
def rIsiF (K : PySem.W.Frag) (xs : List V) (H : Hp) (Q : VK) : Prop := ∃ (a C d : Addr) (fs : List (Str × V)) (c : V) (cv : Value) (b : Bool), xs = [.ref a, c] ∧ H a = some (ExVD C d a) ∧ H d = some (.xd fs) ∧ ExcC K C ∧ (∀ u, RelV c u → u = cv) ∧ PySem.W.kitOne K (.ref C) cv = some b ∧ Q (.bl b) H
theorem call_isiF {Y : Cx} : CallR Y (.builtin "isinstance") (rIsiF Y.K) := fun pins s σ H xs us Q J r h => by
  obtain ⟨a, D, d, fs, c, cv, b, rfl, hH, hd, E, hcv, e, q⟩ := h
  cases r with
  | cons rx rr =>
    cases rr with
    | cons rt rr =>
      cases rr
      cases rx
      have ec := hcv _ rt
      subst ec
      obtain ⟨⟨oe, vs, at0, hz, hv⟩, _, _⟩ := J.hok a _ hH
      obtain ⟨mA, hns, _⟩ := J.hok d _ hd
      obtain ⟨od, ho2, _⟩ := lookIn_ns hns
      have inst : PySem.W.InstAt s.heap a oe D (some od) := by
        obtain ⟨oc, odd, oda, osl⟩ := oe
        obtain ⟨h1, h2⟩ := hz
        dsimp only at h1 h2 hv
        subst h1 h2 hv
        exact ⟨at0, rfl, rfl, ho2⟩
      exact PySem.W.kia_one (PySem.W.kitx_exc (by
        have z := E.hd
        unfold PySem.W.hasDictIn at z
        cases q2 : PySem.W.clsIn Y.K D with
        | none =>
          rw [q2] at z
          cases z
        | some cd => rfl) E.hg E.hk E.hs E.ha E.hn E.ht E.hm) J.kIn inst e (fun z => nomatch z) fun tk => ⟨.bl b, H, J.kept (t' := tk) fun _ _ z => z, rfl, q⟩
theorem cIsiF (c : Ctx X P w K mg base k) {isa : Addr → Value → Option Bool} (hi : ∀ C v b, isa C v = some b → ExcC K C ∧ PySem.W.kitOne K (.ref C) v = some b) : CalF X K (.builtin "isinstance") (gIsiF isa) := by
  obtain ⟨r, hr, hq⟩ := (cIsiE c fun C v b h => (hi C v b h).2).go
  refine ⟨fun xs H Q => r xs H Q ∨ rIsiF K xs H Q, fun i pins s σ H xs us Q J hv h => ?_, fun W M vs ds z M' Q w rp e q => ?_⟩
  · rcases h with h | h
    · exact hr i pins s σ H xs us Q J hv h
    · refine call_isiF pins s σ H xs us Q J hv ?_
      rw [c.K i]
      exact h
  · unfold gIsiF at e
    split at e
    · rename_i n cd
      split at e
      · rename_i C m cv hm hc
        split at e
        · rename_i fs hf
          split at e
          · rename_i b hb
            cases e
            cases rp with
            | cons r1 r2 =>
              cases r2 with
              | cons r2 r3 =>
                cases r3
                obtain ⟨a, d, vs, rfl, ha, _, lv, hd, rf⟩ := exf_live w r1 hm hf
                refine .inr ⟨a, C, d, vs, _, cv, b, rfl, ha, hd, (hi _ _ _ hb).1, fun u ru => ?_, (hi _ _ _ hb).2, q _ W (.refl W) w (.bl _)⟩
                cases r2 with
                | ob a =>
                  cases hc
                  cases ru
                  rfl
                | ty t =>
                  cases hc
                  cases ru
                  rfl
                | _ => cases hc
          · cases e
        · cases e
      · exact .inl (hq W M vs _ z M' Q w rp e q)
    · exact .inl (hq W M vs _ z M' Q w rp e q)
end
end Pl

namespace Law
open PySem L2 Pl
structure CT where
  BadRow : Addr
  WorksError : Addr
  d_STEP_FORMS : Addr
  fn_read_part : Addr
  isa : Addr → Value → Option Bool
  okf : Addr → Str → Bool
  okg : Addr → Str → Bool
def isal (ct : CT) : List Value := [.ref ct.BadRow]
structure Isa (ct : CT) : Prop where
  l_BadRow : (isal ct).map (ct.isa ct.BadRow) = [some true]
  f_BadRow_row : ct.okf ct.BadRow "row" = true
  g_BadRow_row : ct.okg ct.BadRow "row" = true
  f_BadRow_word : ct.okf ct.BadRow "word" = true
  g_BadRow_word : ct.okg ct.BadRow "word" = true
def tb_STEP_FORMS : List (Str × D) := [("tool", (.tup [(.str "side"), (.str "length")])), ("go", (.tup [(.str "place"), (.str "place")])), ("down", (.tup [(.str "height")])), ("cut", (.tup [(.str "place"), (.str "place")])), ("up", (.tup []))]
def nn_is_whole : List Str := ["thing"]
noncomputable def gg_is_whole : SF := (sRet (eAn (eB gIsi (aCons (eVar 0) (aCons (eC (.ty "int")) aNil))) (eNt (eB gIsi (aCons (eVar 0) (aCons (eC (.ty "bool")) aNil))))))
noncomputable def ff_is_whole : Fn := fnF 1 gg_is_whole
def nn_is_among : List Str := ["thing", "least", "most"]
noncomputable def gg_is_among : SF := (sSeq (sIf (tOrr (tNt (tV (eCall ff_is_whole (aCons (eVar 0) aNil) []))) (tOrr (tNt (tV (eCall ff_is_whole (aCons (eVar 1) aNil) []))) (tNt (tV (eCall ff_is_whole (aCons (eVar 2) aNil) []))))) (sRet (eC (.bl false))) sNil) (sRet (eChain (gInt fun i j => .bl (decide (i ≤ j))) (gInt fun i j => .bl (decide (i ≤ j))) (eVar 1) (eVar 0) (eVar 2))))
noncomputable def ff_is_among : Fn := fnF 3 gg_is_among
def nn_is_text_of : List Str := ["thing", "signs", "most", "sign"]
noncomputable def gg_is_text_of : SF := (sSeq (sIf (tOrr (tNt (tV (eB gIsi (aCons (eVar 0) (aCons (eC (.ty "str")) aNil))))) (tNt (tV (eChain (gInt fun i j => .bl (decide (i ≤ j))) (gInt fun i j => .bl (decide (i ≤ j))) (eC (.int 1)) (eB gLen (aCons (eVar 0) aNil)) (eVar 2))))) (sRet (eC (.bl false))) sNil) (sRet (eB (gBs fun bs => bs.all id) (aCons (eLc [3] (aSigns (eVar 0)) (gN 3) tTrue (eOp (gIn fun b => b) (eVar 3) (eVar 1))) aNil))))
noncomputable def ff_is_text_of : Fn := fnF 4 gg_is_text_of
def nn_number_of : List Str := ["word"]
noncomputable def gg_number_of : SF := (sSeq (sIf (tNt (tV (eCall ff_is_text_of (aCons (eVar 0) (aCons (eC (.str "0123456789")) (aCons (eC (.int 4)) aNil))) []))) (sRet (eC .non)) sNil) (sSeq (sIf (tAn (tV (eOp (gEq PyData.eqv) (eOp gIx (eVar 0) (eC (.int 0))) (eC (.str "0")))) (tV (eOp (gEq fun p q => !PyData.eqv p q) (eVar 0) (eC (.str "0"))))) (sRet (eC .non)) sNil) (sRet (eB gInt1 (aCons (eVar 0) aNil)))))
noncomputable def ff_number_of : Fn := fnF 1 gg_number_of
def nn_signed_of : List Str := ["word", "number"]
noncomputable def gg_signed_of : SF := (sSeq (sIf (tOrr (tNt (tV (eB gIsi (aCons (eVar 0) (aCons (eC (.ty "str")) aNil))))) (tV (eOp (gEq fun p q => !PyData.eqv p q) (eSl (eVar 0) pNone (pSome (eC (.int 1)))) (eC (.str "-"))))) (sRet (eCall ff_number_of (aCons (eVar 0) aNil) [])) sNil) (sSeq (sAs (eCall ff_number_of (aCons (eSl (eVar 0) (pSome (eC (.int 1))) pNone) aNil) []) (gN 1)) (sSeq (sIf (tOrr (tV (eOp (gIsN fun b => b) (eVar 1) (eC .non))) (tV (eOp (gEq PyData.eqv) (eVar 1) (eC (.int 0))))) (sRet (eC .non)) sNil) (sRet (eUn gNeg (eVar 1))))))
noncomputable def ff_signed_of : Fn := fnF 2 gg_signed_of
def nn_words_of : List Str := ["row", "words"]
noncomputable def gg_words_of : SF := (sSeq (sIf (tNt (tV (eB gIsi (aCons (eVar 0) (aCons (eC (.ty "str")) aNil))))) (sRet (eC .non)) sNil) (sSeq (sAs (eS1 gSplit (eVar 0) (eC (.str " "))) (gN 1)) (sSeq (sIf (tV (eOp (gIn fun b => b) (eC (.str "")) (eVar 1))) (sRet (eC .non)) sNil) (sRet (eVar 1)))))
noncomputable def ff_words_of : Fn := fnF 2 gg_words_of
def nn_fits_step : List Str := ["kind", "part"]
noncomputable def gg_fits_step : SF := (sSeq (sIf (tV (eOp (gEq PyData.eqv) (eVar 0) (eC (.str "side")))) (sRet (eCall ff_is_among (aCons (eVar 1) (aCons (eC (.int 1)) (aCons (eC (.int 4)) aNil))) [])) sNil) (sSeq (sIf (tV (eOp (gEq PyData.eqv) (eVar 0) (eC (.str "length")))) (sRet (eCall ff_is_among (aCons (eVar 1) (aCons (eC (.int 1)) (aCons (eC (.int 6)) aNil))) [])) sNil) (sSeq (sIf (tV (eOp (gEq PyData.eqv) (eVar 0) (eC (.str "height")))) (sRet (eCall ff_is_among (aCons (eVar 1) (aCons (eC (.int 0)) (aCons (eOp (gInt fun i j => .int (i - j)) (eC (.int 6)) (eC (.int 1))) aNil))) [])) sNil) (sRet (eCall ff_is_among (aCons (eVar 1) (aCons (eOp (gInt fun i j => .int (i - j)) (eC (.int 1)) (eC (.int 4))) (aCons (eOp (gInt fun i j => .int (i - j)) (eC (.int 8)) (eC (.int 1))) aNil))) [])))))
noncomputable def ff_fits_step : Fn := fnF 2 gg_fits_step
def nn_read_part : List Str := ["kind", "word", "part"]
noncomputable def gg_read_part : SF := (sSeq (sAs (eCall ff_signed_of (aCons (eVar 1) aNil) []) (gN 2)) (sSeq (sIf (tNt (tV (eCall ff_fits_step (aCons (eVar 0) (aCons (eVar 2) aNil)) []))) (sRet (eC .non)) sNil) (sRet (eVar 2))))
noncomputable def ff_read_part : Fn := fnF 3 gg_read_part
def nn_parts_by : List Str := ["kinds", "words", "read", "parts", "kind", "word", "part"]
noncomputable def tab (ct : CT) : Addr → Option Fn := fun a => if a = ct.fn_read_part then some ff_read_part else none
noncomputable def gg_parts_by (ct : CT) : SF := (sSeq (sAs (eNew aNil) (gN 3)) (sSeq (sFor (aZipM (aCons (eVar 0) (aCons (eVar 1) aNil))) (gTp (gsCons (gN 4) (gsCons (gN 5) gsNil))) (sSeq (sAs (eCallV (tab ct) 2 (aCons (eVar 4) (aCons (eVar 5) aNil))) (gN 6)) (sSeq (sIf (tV (eOp (gIsN fun b => b) (eVar 6) (eC .non))) (fun δ M => some (.bk δ M)) sNil) (sE (eMeth2 gApp (eVar 3) (aCons (eVar 6) aNil)))))) (sSeq (sIf (tV (eChain (gEq PyData.eqv) (gEq PyData.eqv) (eB gLen (aCons (eVar 3) aNil)) (eB gLen (aCons (eVar 0) aNil)) (eB gLen (aCons (eVar 1) aNil)))) (sRet (eTup (aCons (eB gTupOf (aCons (eVar 3) aNil)) (aCons (eC .non) aNil)))) sNil) (sRet (eTup (aCons (eB gTupOf (aCons (eVar 3) aNil)) (aCons (eOp gAdd (eB gLen (aCons (eVar 3) aNil)) (eC (.int 1))) aNil)))))))
noncomputable def ff_parts_by (ct : CT) : Fn := fnF 7 (gg_parts_by ct)
def nn_BadRow_init : List Str := ["self", "row", "word"]
noncomputable def gg_BadRow_init (ct : CT) : SF := (sSeq (sOg ct.okf "row" (eVar 0) (eVar 1)) (sOg ct.okf "word" (eVar 0) (eVar 2)))
noncomputable def ff_BadRow_init (ct : CT) : Fn := fnF 3 (gg_BadRow_init ct)
def nn_rows_of : List Str := ["text"]
noncomputable def gg_rows_of (ct : CT) : SF := (sSeq (sIf (tNt (tV (eB gIsi (aCons (eVar 0) (aCons (eC (.ty "str")) aNil))))) sNever sNil) (sRet (eS1 gSplit (eVar 0) (eC (.str "\n")))))
noncomputable def ff_rows_of (ct : CT) : Fn := fnF 1 (gg_rows_of ct)
noncomputable def qg_rows_of (ct : CT) : XFQ := (qSeq (qIf (tNt (tV (eB gIsi (aCons (eVar 0) (aCons (eC (.ty "str")) aNil))))) (qRaise ct.BadRow "BadRow" (ff_BadRow_init ct) (aCons (eC (.int 0)) (aCons (eC (.int 0)) aNil)) []) (qOk sNil)) (qOk (sRet (eS1 gSplit (eVar 0) (eC (.str "\n"))))))
noncomputable def qq_rows_of (ct : CT) : FnQ := fnQ 1 (qg_rows_of ct)
def nn_words_in : List Str := ["row", "number", "words"]
noncomputable def gg_words_in (ct : CT) : SF := (sSeq (sAs (eCall ff_words_of (aCons (eVar 0) aNil) []) (gN 2)) (sSeq (sIf (tV (eOp (gIsN fun b => b) (eVar 2) (eC .non))) sNever sNil) (sRet (eVar 2))))
noncomputable def ff_words_in (ct : CT) : Fn := fnF 3 (gg_words_in ct)
noncomputable def qg_words_in (ct : CT) : XFQ := (qSeq (qOk (sAs (eCall ff_words_of (aCons (eVar 0) aNil) []) (gN 2))) (qSeq (qIf (tV (eOp (gIsN fun b => b) (eVar 2) (eC .non))) (qRaise ct.BadRow "BadRow" (ff_BadRow_init ct) (aCons (eVar 1) (aCons (eC (.int 0)) aNil)) []) (qOk sNil)) (qOk (sRet (eVar 2)))))
noncomputable def qq_words_in (ct : CT) : FnQ := fnQ 3 (qg_words_in ct)
def nn_read_step : List Str := ["row", "number", "words", "word", "parts", "wrong"]
noncomputable def gg_read_step (ct : CT) : SF := (sSeq (sAs (eCall (ff_words_in ct) (aCons (eVar 0) (aCons (eVar 1) aNil)) []) (gN 2)) (sSeq (sAs (eOp gIx (eVar 2) (eC (.int 0))) (gN 3)) (sSeq (sIf (tV (eOp (gInK ct.d_STEP_FORMS tb_STEP_FORMS fun b => !b) (eVar 3) (eC (.ob ct.d_STEP_FORMS)))) sNever sNil) (sSeq (sAs (eCall (ff_parts_by ct) (aCons (eOp (gIxK ct.d_STEP_FORMS tb_STEP_FORMS) (eC (.ob ct.d_STEP_FORMS)) (eVar 3)) (aCons (eSl (eVar 2) (pSome (eC (.int 1))) pNone) (aCons (eC (.ob ct.fn_read_part)) aNil))) []) (gTp (gsCons (gN 4) (gsCons (gN 5) gsNil)))) (sSeq (sIf (tV (eOp (gIsN fun b => !b) (eVar 5) (eC .non))) sNever sNil) (sRet (eOp gAdd (eTup (aCons (eVar 3) aNil)) (eVar 4))))))))
noncomputable def ff_read_step (ct : CT) : Fn := fnF 6 (gg_read_step ct)
noncomputable def qg_read_step (ct : CT) : XFQ := (qSeq (qAs (qCall (qq_words_in ct) (aCons (eVar 0) (aCons (eVar 1) aNil)) []) 2) (qSeq (qOk (sAs (eOp gIx (eVar 2) (eC (.int 0))) (gN 3))) (qSeq (qIf (tV (eOp (gInK ct.d_STEP_FORMS tb_STEP_FORMS fun b => !b) (eVar 3) (eC (.ob ct.d_STEP_FORMS)))) (qRaise ct.BadRow "BadRow" (ff_BadRow_init ct) (aCons (eVar 1) (aCons (eC (.int 1)) aNil)) []) (qOk sNil)) (qSeq (qOk (sAs (eCall (ff_parts_by ct) (aCons (eOp (gIxK ct.d_STEP_FORMS tb_STEP_FORMS) (eC (.ob ct.d_STEP_FORMS)) (eVar 3)) (aCons (eSl (eVar 2) (pSome (eC (.int 1))) pNone) (aCons (eC (.ob ct.fn_read_part)) aNil))) []) (gTp (gsCons (gN 4) (gsCons (gN 5) gsNil))))) (qSeq (qIf (tV (eOp (gIsN fun b => !b) (eVar 5) (eC .non))) (qRaise ct.BadRow "BadRow" (ff_BadRow_init ct) (aCons (eVar 1) (aCons (eOp gAdd (eC (.int 1)) (eVar 5)) aNil)) []) (qOk sNil)) (qOk (sRet (eOp gAdd (eTup (aCons (eVar 3) aNil)) (eVar 4)))))))))
noncomputable def qq_read_step (ct : CT) : FnQ := fnQ 6 (qg_read_step ct)
def nn_read_way : List Str := ["text", "rows", "number", "row"]
noncomputable def gg_read_way (ct : CT) : SF := (sSeq (sAs (eCall (ff_rows_of ct) (aCons (eVar 0) aNil) []) (gN 1)) (sSeq (sIf (tV (eOp (gEq PyData.eqv) (eVar 0) (eC (.str "")))) (sRet (eTup aNil)) sNil) (sRet (eB gTupOf (aCons (eLc [2, 3] (aEnum (aCons (eVar 1) aNil)) (gTp (gsCons (gN 2) (gsCons (gN 3) gsNil))) tTrue (eCall (ff_read_step ct) (aCons (eVar 3) (aCons (eOp gAdd (eVar 2) (eC (.int 1))) aNil)) [])) aNil)))))
noncomputable def ff_read_way (ct : CT) : Fn := fnF 4 (gg_read_way ct)
noncomputable def qg_read_way (ct : CT) : XFQ := (qSeq (qAs (qCall (qq_rows_of ct) (aCons (eVar 0) aNil) []) 1) (qSeq (qOk (sIf (tV (eOp (gEq PyData.eqv) (eVar 0) (eC (.str "")))) (sRet (eTup aNil)) sNil)) (qRet (qB gTupOf (qaCons (qLc [2, 3] (aEnum (aCons (eVar 1) aNil)) (gTp (gsCons (gN 2) (gsCons (gN 3) gsNil))) tTrue (qCall (qq_read_step ct) (aCons (eVar 3) (aCons (eOp gAdd (eVar 2) (eC (.int 1))) aNil)) [])) qaNil)))))
noncomputable def qq_read_way (ct : CT) : FnQ := fnQ 4 (qg_read_way ct)
def nn_law_mixed : List Str := ["cell", "k", "number"]
noncomputable def gg_law_mixed : SF := (sSeq (sAs (eOp gAdd (eOp gAdd (eOp (gIntC (fun _ j => j ≠ 0) fun i j => .int (i.fmod j)) (eVar 0) (eOp gIx (eLst (aCons (eC (.int 1000000007)) (aCons (eC (.int 998244353)) (aCons (eC (.int 2147483629)) (aCons (eC (.int 1000000009)) aNil))))) (eOp (gIntC (fun _ j => j ≠ 0) fun i j => .int (i.fmod j)) (eVar 1) (eC (.int 4))))) (eOp gMul (eC (.int 7919)) (eVar 1))) (eC (.int 13))) (gN 2)) (sRet (eOp (gIntC (fun _ j => j ≠ 0) fun i j => .int (i.fmod j)) (eOp gMul (eOp (gIntC (fun _ j => j ≠ 0) fun i j => .int (i.fmod j)) (eOp gMul (eVar 2) (eVar 2)) (eC (.int 2147483647))) (eC (.int 48271))) (eC (.int 2147483647)))))
noncomputable def ff_law_mixed : Fn := fnF 3 gg_law_mixed
def nn_law_draw : List Str := ["cell", "k"]
noncomputable def gg_law_draw : SF := (sRet (eDic (psCons (eC (.str "left")) (eIf (tV (eOp (gInt fun i j => .bl (decide (j ≤ i))) (eVar 0) (eOp (gIntC PowOk fun i j => .int (i ^ j.toNat)) (eC (.int 10)) (eC (.int 18))))) (eVar 0) (eC (.int 0))) (psCons (eC (.str "cell")) (eVar 0) (psCons (eC (.str "turns")) (eOp gMul (eC (.int 1000)) (eVar 1)) psNil)))))
noncomputable def ff_law_draw : Fn := fnF 2 gg_law_draw
def nn_law_digit : List Str := ["state", "many", "j", "found"]
noncomputable def gg_law_digit : SF := (sSeq (sIf (tV (eOp (gEq PyData.eqv) (eOp gDget (eVar 0) (eC (.str "left"))) (eC (.int 0)))) (sFor (aRng1 (aCons (eC (.int 4)) aNil)) (gN 2) (sSeq (sDput (eVar 0) (eC (.str "turns")) (eOp gAdd (eOp gDget (eVar 0) (eC (.str "turns"))) (eC (.int 1)))) (sDput (eVar 0) (eC (.str "left")) (eOp gAdd (eOp gMul (eOp gDget (eVar 0) (eC (.str "left"))) (eC (.int 2147483647))) (eCall ff_law_mixed (aCons (eOp gDget (eVar 0) (eC (.str "cell"))) (aCons (eOp gDget (eVar 0) (eC (.str "turns"))) aNil)) []))))) sNil) (sSeq (sAs (eOp (gIntC (fun _ j => j ≠ 0) fun i j => .int (i.fmod j)) (eOp gDget (eVar 0) (eC (.str "left"))) (eVar 1)) (gN 3)) (sSeq (sDput (eVar 0) (eC (.str "left")) (eOp (gIntC DivOk fun i j => .int (i.fdiv j)) (eOp gDget (eVar 0) (eC (.str "left"))) (eVar 1))) (sRet (eVar 3)))))
noncomputable def ff_law_digit : Fn := fnF 4 gg_law_digit
def nn_law_any_step : List Str := ["state", "spots", "j", "side", "length", "some"]
noncomputable def gg_law_any_step : SF := (sSeq (sAs (eLc [2] (aRng1 (aCons (eC (.int 2)) aNil)) (gN 2) tTrue (eOp gIx (eLst (aCons (eUn gNeg (eC (.int 3))) (aCons (eC (.int 7)) (aCons (eC (.int 0)) (aCons (eOp (gInt fun i j => .int (i - j)) (eCall ff_law_digit (aCons (eVar 0) (aCons (eC (.int 11)) aNil)) []) (eC (.int 3))) aNil))))) (eCall ff_law_digit (aCons (eVar 0) (aCons (eC (.int 4)) aNil)) []))) (gN 1)) (sSeq (sAs (eOp gIx (eLst (aCons (eC (.int 1)) (aCons (eC (.int 4)) (aCons (eOp gAdd (eC (.int 1)) (eCall ff_law_digit (aCons (eVar 0) (aCons (eC (.int 4)) aNil)) [])) aNil)))) (eCall ff_law_digit (aCons (eVar 0) (aCons (eC (.int 3)) aNil)) [])) (gN 3)) (sSeq (sAs (eOp gIx (eLst (aCons (eC (.int 1)) (aCons (eC (.int 6)) (aCons (eOp gAdd (eC (.int 1)) (eCall ff_law_digit (aCons (eVar 0) (aCons (eC (.int 6)) aNil)) [])) aNil)))) (eCall ff_law_digit (aCons (eVar 0) (aCons (eC (.int 3)) aNil)) [])) (gN 4)) (sSeq (sAs (eLst (aCons (eTup (aCons (eC (.str "tool")) (aCons (eVar 3) (aCons (eVar 4) aNil)))) (aCons (eOp gAdd (eTup (aCons (eC (.str "go")) aNil)) (eB gTupOf (aCons (eVar 1) aNil))) (aCons (eTup (aCons (eC (.str "down")) (aCons (eCall ff_law_digit (aCons (eVar 0) (aCons (eC (.int 6)) aNil)) []) aNil))) (aCons (eOp gAdd (eTup (aCons (eC (.str "cut")) aNil)) (eB gTupOf (aCons (eVar 1) aNil))) aNil))))) (gN 5)) (sRet (eOp gIx (eOp gAdd (eVar 5) (eLst (aCons (eTup (aCons (eC (.str "up")) aNil)) aNil))) (eCall ff_law_digit (aCons (eVar 0) (aCons (eC (.int 5)) aNil)) [])))))))
noncomputable def ff_law_any_step : Fn := fnF 6 gg_law_any_step
def nn_law_row : List Str := ["step", "row", "number"]
noncomputable def gg_law_row : SF := (sSeq (sAs (eOp gIx (eVar 0) (eC (.int 0))) (gN 1)) (sSeq (sFor (aItems (eSl (eVar 0) (pSome (eC (.int 1))) pNone)) (gN 2) (sAs (eOp gAdd (eOp gAdd (eOp gAdd (eVar 1) (eC (.str " "))) (eIf (tV (eOp (gInt fun i j => .bl (decide (i < j))) (eVar 2) (eC (.int 0)))) (eC (.str "-")) (eC (.str "")))) (eOp gIx (eC (.str "0123456789")) (eB (gL1 fun i => .int (if i < 0 then -i else i)) (aCons (eVar 2) aNil)))) (gN 1))) (sRet (eVar 1))))
noncomputable def ff_law_row : Fn := fnF 3 gg_law_row
def nn_law_number : List Str := ["word", "figures", "sign", "number"]
noncomputable def gg_law_number : SF := (sSeq (sAs (eIf (tV (eOp (gEq PyData.eqv) (eSl (eVar 0) pNone (pSome (eC (.int 1)))) (eC (.str "-")))) (eSl (eVar 0) (pSome (eC (.int 1))) pNone) (eVar 0)) (gN 1)) (sSeq (sIf (tOrr (tV (eOp (gEq PyData.eqv) (eVar 1) (eC (.str "")))) (tOrr (tV (eOp (gInt fun i j => .bl (decide (j < i))) (eB gLen (aCons (eVar 1) aNil)) (eC (.int 4)))) (tV (eOp (gEq fun p q => !PyData.eqv p q) (eLc [2] (aSigns (eVar 1)) (gN 2) (tV (eOp (gIn fun b => !b) (eVar 2) (eC (.str "0123456789")))) (eVar 2)) (eLst aNil))))) (sRet (eC .non)) sNil) (sSeq (sIf (tOrr (tAn (tV (eOp (gInt fun i j => .bl (decide (j < i))) (eB gLen (aCons (eVar 1) aNil)) (eC (.int 1)))) (tV (eOp (gEq PyData.eqv) (eOp gIx (eVar 1) (eC (.int 0))) (eC (.str "0"))))) (tV (eOp (gEq PyData.eqv) (eVar 0) (eC (.str "-0"))))) (sRet (eC .non)) sNil) (sSeq (sAs (eC (.int 0)) (gN 3)) (sSeq (sFor (aSigns (eVar 1)) (gN 2) (sAs (eOp gAdd (eOp gMul (eC (.int 10)) (eVar 3)) (eS1 gIdx (eC (.str "0123456789")) (eVar 2))) (gN 3))) (sRet (eIf (tV (eOp (gEq PyData.eqv) (eVar 1) (eVar 0))) (eVar 3) (eOp (gInt fun i j => .int (i - j)) (eC (.int 0)) (eVar 3)))))))))
noncomputable def ff_law_number : Fn := fnF 4 gg_law_number
def nn_law_read_row : List Str := ["row", "words", "spots", "known", "found", "j", "least", "most", "number"]
noncomputable def gg_law_read_row : SF := (sSeq (sPar 1 2 (eS1 gSplit (eVar 0) (eC (.str " "))) (eLst (aCons (eTup (aCons (eUn gNeg (eC (.int 3))) (aCons (eC (.int 7)) aNil))) (aCons (eTup (aCons (eUn gNeg (eC (.int 3))) (aCons (eC (.int 7)) aNil))) aNil)))) (sSeq (sIf (tV (eOp (gIn fun b => b) (eC (.str "")) (eVar 1))) (sRet (eC (.int 0))) sNil) (sSeq (sAs (eDic (psCons (eC (.str "tool")) (eLst (aCons (eTup (aCons (eC (.int 1)) (aCons (eC (.int 4)) aNil))) (aCons (eTup (aCons (eC (.int 1)) (aCons (eC (.int 6)) aNil))) aNil))) (psCons (eC (.str "go")) (eVar 2) (psCons (eC (.str "down")) (eLst (aCons (eTup (aCons (eC (.int 0)) (aCons (eC (.int 5)) aNil))) aNil)) (psCons (eC (.str "cut")) (eVar 2) (psCons (eC (.str "up")) (eLst aNil) psNil)))))) (gN 3)) (sSeq (sIf (tV (eOp (gInL fun b => !b) (eOp gIx (eVar 1) (eC (.int 0))) (eVar 3))) (sRet (eC (.int 1))) sNil) (sSeq (sAs (eNew (aCons (eOp gIx (eVar 1) (eC (.int 0))) aNil)) (gN 4)) (sSeq (sFor (aEnum (aCons (eOp gDget (eVar 3) (eOp gIx (eVar 1) (eC (.int 0)))) aNil)) (gTp (gsCons (gN 5) (gsCons (gTp (gsCons (gN 6) (gsCons (gN 7) gsNil))) gsNil))) (sSeq (sAs (eIf (tV (eOp (gInt fun i j => .bl (decide (i < j))) (eOp gAdd (eVar 5) (eC (.int 1))) (eB gLen (aCons (eVar 1) aNil)))) (eCall ff_law_number (aCons (eOp gIx (eVar 1) (eOp gAdd (eVar 5) (eC (.int 1)))) aNil) []) (eC .non)) (gN 8)) (sSeq (sIf (tOrr (tV (eOp (gIsN fun b => b) (eVar 8) (eC .non))) (tNt (tV (eChain (gInt fun i j => .bl (decide (i ≤ j))) (gInt fun i j => .bl (decide (i ≤ j))) (eVar 6) (eVar 8) (eVar 7))))) (sRet (eOp gAdd (eVar 5) (eC (.int 2)))) sNil) (sE (eMeth2 gApp (eVar 4) (aCons (eVar 8) aNil)))))) (sRet (eIf (tV (eOp (gEq PyData.eqv) (eB gLen (aCons (eVar 1) aNil)) (eB gLen (aCons (eVar 4) aNil)))) (eLst (aCons (eB gTupOf (aCons (eVar 4) aNil)) aNil)) (eOp gAdd (eB gLen (aCons (eVar 4) aNil)) (eC (.int 1)))))))))))
noncomputable def ff_law_read_row : Fn := fnF 9 gg_law_read_row
def nn_law_due : List Str := ["text", "found", "j", "row", "step"]
noncomputable def gg_law_due : SF := (sSeq (sAs (eNew aNil) (gN 1)) (sSeq (sFor (aEnum (aCons (eIf (tV (eOp (gEq fun p q => !PyData.eqv p q) (eVar 0) (eC (.str "")))) (eS1 gSplit (eVar 0) (eC (.str "\n"))) (eLst aNil)) aNil)) (gTp (gsCons (gN 2) (gsCons (gN 3) gsNil))) (sSeq (sAs (eCall ff_law_read_row (aCons (eVar 3) aNil) []) (gN 4)) (sSeq (sIf (tV (eB gIsi (aCons (eVar 4) (aCons (eC (.ty "int")) aNil)))) (sRet (eTup (aCons (eOp gAdd (eVar 2) (eC (.int 1))) (aCons (eVar 4) aNil)))) sNil) (sE (eMeth2 gApp (eVar 1) (aCons (eOp gIx (eVar 4) (eC (.int 0))) aNil)))))) (sRet (eLst (aCons (eB gTupOf (aCons (eVar 1) aNil)) aNil)))))
noncomputable def ff_law_due : Fn := fnF 5 gg_law_due
def nn_law_bent : List Str := ["state", "text", "way", "at", "sign", "rows", "spot", "words", "j", "some", "word", "first", "last"]
noncomputable def gg_law_bent : SF := (sSeq (sAs (eCall ff_law_digit (aCons (eVar 0) (aCons (eC (.int 9)) aNil)) []) (gN 2)) (sSeq (sAs (eCall ff_law_digit (aCons (eVar 0) (aCons (eOp gAdd (eB gLen (aCons (eVar 1) aNil)) (eC (.int 1))) aNil)) []) (gN 3)) (sSeq (sIf (tV (eOp (gEq PyData.eqv) (eVar 2) (eC (.int 0)))) (sSeq (sAs (eOp gIx (eLst (aCons (eC (.str " ")) (aCons (eC (.str "\n")) (aCons (eC (.str "-")) (aCons (eC (.str "0")) (aCons (eC (.str "1")) (aCons (eC (.str "a")) (aCons (eC (.str "U")) (aCons (eC (.str ".")) (aCons (eC (.str "  ")) (aCons (eC (.str "\n\n")) aNil))))))))))) (eCall ff_law_digit (aCons (eVar 0) (aCons (eC (.int 10)) aNil)) [])) (gN 4)) (sRet (eOp gAdd (eOp gAdd (eSl (eVar 1) pNone (pSome (eVar 3))) (eVar 4)) (eSl (eVar 1) (pSome (eOp gAdd (eVar 3) (eCall ff_law_digit (aCons (eVar 0) (aCons (eC (.int 2)) aNil)) []))) pNone)))) sNil) (sSeq (sIf (tV (eOp (gEq PyData.eqv) (eVar 2) (eC (.int 1)))) (sRet (eSl (eVar 1) pNone (pSome (eVar 3)))) sNil) (sSeq (sAs (eS1 gSplit (eVar 1) (eC (.str "\n"))) (gN 5)) (sSeq (sAs (eCall ff_law_digit (aCons (eVar 0) (aCons (eB gLen (aCons (eVar 5) aNil)) aNil)) []) (gN 6)) (sSeq (sIf (tV (eOp (gEq PyData.eqv) (eVar 2) (eC (.int 2)))) (sRet (eS1 gJoin (eC (.str "\n")) (eOp gAdd (eOp gAdd (eSl (eVar 5) pNone (pSome (eVar 6))) (eOp gMul (eSl (eVar 5) (pSome (eVar 6)) (pSome (eOp gAdd (eVar 6) (eC (.int 1))))) (eC (.int 2)))) (eSl (eVar 5) (pSome (eOp gAdd (eVar 6) (eC (.int 1)))) pNone)))) sNil) (sSeq (sIf (tV (eOp (gEq PyData.eqv) (eVar 2) (eC (.int 3)))) (sRet (eS1 gJoin (eC (.str "\n")) (eOp gAdd (eOp gAdd (eSl (eVar 5) pNone (pSome (eVar 6))) (eLst (aCons (eC (.str "")) aNil))) (eSl (eVar 5) (pSome (eVar 6)) pNone)))) sNil) (sSeq (sAs (eS1 gSplit (eOp gIx (eVar 5) (eVar 6)) (eC (.str " "))) (gN 7)) (sSeq (sAs (eCall ff_law_digit (aCons (eVar 0) (aCons (eOp gAdd (eB gLen (aCons (eVar 7) aNil)) (eC (.int 1))) aNil)) []) (gN 8)) (sSeq (sAs (eLst (aCons (eC (.str "tool")) (aCons (eC (.str "up")) (aCons (eC (.str "cut")) (aCons (eC (.str "Down")) (aCons (eC (.str "8")) (aCons (eC (.str "-4")) (aCons (eC (.str "7")) (aCons (eC (.str "-3")) (aCons (eC (.str "0")) (aCons (eC (.str "6")) (aCons (eC (.str "5")) (aCons (eC (.str "-0")) (aCons (eC (.str "00")) (aCons (eC (.str "07")) (aCons (eC (.str "12345")) (aCons (eC (.str "-")) (aCons (eC (.str "1_0")) (aCons (eC (.str "")) aNil))))))))))))))))))) (gN 9)) (sSeq (sAs (eOp gIx (eOp gAdd (eVar 9) (eLst (aCons (eC (.str "99")) (aCons (eC (.str "+1")) (aCons (eC (.str "1.0")) aNil))))) (eCall ff_law_digit (aCons (eVar 0) (aCons (eC (.int 21)) aNil)) [])) (gN 10)) (sSeq (sPar 11 12 (eSl (eVar 7) pNone (pSome (eVar 8))) (eSl (eVar 7) (pSome (eVar 8)) pNone)) (sSeq (sAs (eOp gIx (eLst (aCons (eOp gAdd (eOp gAdd (eVar 11) (eLst (aCons (eVar 10) aNil))) (eSl (eVar 12) (pSome (eC (.int 1))) pNone)) (aCons (eOp gAdd (eOp gAdd (eVar 11) (eLst (aCons (eVar 10) aNil))) (eVar 12)) (aCons (eOp gAdd (eVar 11) (eSl (eVar 12) (pSome (eC (.int 1))) pNone)) (aCons (eVar 11) (aCons (eVar 12) aNil)))))) (eOp (gInt fun i j => .int (i - j)) (eVar 2) (eC (.int 4)))) (gN 7)) (sRet (eS1 gJoin (eC (.str "\n")) (eOp gAdd (eOp gAdd (eSl (eVar 5) pNone (pSome (eVar 6))) (eLst (aCons (eS1 gJoin (eC (.str " ")) (eVar 7)) aNil))) (eSl (eVar 5) (pSome (eOp gAdd (eVar 6) (eC (.int 1)))) pNone))))))))))))))))))
noncomputable def ff_law_bent : Fn := fnF 13 gg_law_bent
def nn_law_said : List Str := ["text", "wrong", "told", "e"]
noncomputable def gg_law_said (ct : CT) : SF := (sSeq (sAs (eTup (aCons (eC .non) (aCons (eC .non) aNil))) (gTp (gsCons (gN 1) (gsCons (gN 2) gsNil)))) (sSeq (sTryKQ (fun y => if y = "BadRow" then some ct.BadRow else none) 3 (qAs (qCall (qq_read_way ct) (aCons (eVar 0) aNil) []) 2) (sAs (eVar 3) (gN 1))) (sSeq (sIf (tV (eOp (gIsN fun b => b) (eVar 1) (eC .non))) (sRet (eLst (aCons (eVar 2) aNil))) sNil) (sRet (eIf (tV (eB (gIsiF ct.isa) (aCons (eVar 1) (aCons (eC (.ob ct.BadRow)) aNil)))) (eTup (aCons (eGv ct.okg "row" (eVar 1)) (aCons (eGv ct.okg "word" (eVar 1)) aNil))) (eC .non))))))
noncomputable def ff_law_said (ct : CT) : Fn := fnF 4 (gg_law_said ct)
def nn_law : List Str := ["script", "k", "cell", "state", "text", "j", "turn", "bent", "none"]
noncomputable def gg_law (ct : CT) : SF := (sSeq (sFor (aEnum (aCons (eOp gAdd (eSl (eVar 0) pNone (pSome (eC (.int 6)))) (eLst (aCons (eB gSum (aCons (eVar 0) aNil)) aNil))) aNil)) (gTp (gsCons (gN 1) (gsCons (gN 2) gsNil))) (sSeq (sAs (eCall ff_law_draw (aCons (eVar 2) (aCons (eVar 1) aNil)) []) (gN 3)) (sSeq (sAs (eS1 gJoin (eC (.str "\n")) (eLc [5] (aRng1 (aCons (eCall ff_law_digit (aCons (eVar 3) (aCons (eC (.int 7)) aNil)) []) aNil)) (gN 5) tTrue (eCall ff_law_row (aCons (eCall ff_law_any_step (aCons (eVar 3) aNil) []) aNil) []))) (gN 4)) (sSeq (sIf (tV (eOp (gEq fun p q => !PyData.eqv p q) (eB gRepr (aCons (eCall (ff_law_said ct) (aCons (eVar 4) aNil) []) aNil)) (eB gRepr (aCons (eCall ff_law_due (aCons (eVar 4) aNil) []) aNil)))) (sRet (eC (.bl false))) sNil) (sSeq (sFor (aRng1 (aCons (eC (.int 8)) aNil)) (gN 6) (sSeq (sAs (eCall ff_law_bent (aCons (eVar 3) (aCons (eVar 4) aNil)) []) (gN 7)) (sSeq (sAs (eIf (tV (eOp (gEq PyData.eqv) (eCall ff_law_digit (aCons (eVar 3) (aCons (eC (.int 3)) aNil)) []) (eC (.int 0)))) (eCall ff_law_bent (aCons (eVar 3) (aCons (eVar 7) aNil)) []) (eVar 7)) (gN 7)) (sIf (tV (eOp (gEq fun p q => !PyData.eqv p q) (eB gRepr (aCons (eCall (ff_law_said ct) (aCons (eVar 7) aNil) []) aNil)) (eB gRepr (aCons (eCall ff_law_due (aCons (eVar 7) aNil) []) aNil)))) (sRet (eC (.bl false))) sNil)))) (sSeq (sAs (eOp gIx (eLst (aCons (eC .non) (aCons (eC (.int 5)) (aCons (eTup (aCons (eC (.str "up")) aNil)) (aCons (eLst (aCons (eC (.str "up")) aNil)) (aCons (eC (.bl true)) aNil)))))) (eCall ff_law_digit (aCons (eVar 3) (aCons (eC (.int 5)) aNil)) [])) (gN 8)) (sIf (tV (eOp (gEq fun p q => !PyData.eqv p q) (eCall (ff_law_said ct) (aCons (eVar 8) aNil) []) (eTup (aCons (eC (.int 0)) (aCons (eC (.int 0)) aNil))))) (sRet (eC (.bl false))) sNil))))))) (sRet (eC (.bl true))))
noncomputable def ff_law (ct : CT) : Fn := fnF 9 (gg_law ct)
end Law

namespace Law
open PySem L2 Pl
def topS (i : Nat) : Stmt := PySem.Challenge.pw_panelworks_k65_texts_of_no_way.main.body.getD i (.Pass ⟨0, 0, 0, 0⟩)
structure Txt (ct : CT) (w : World) (K : PySem.W.Frag) (mg : Str → Option Value) : Prop where
  n_int : mg "int" = none
  n_isinstance : mg "isinstance" = none
  n_bool : mg "bool" = none
  n_str : mg "str" = none
  n_len : mg "len" = none
  n_all : mg "all" = none
  n_zip : mg "zip" = none
  n_tuple : mg "tuple" = none
  n_enumerate : mg "enumerate" = none
  n_range : mg "range" = none
  n_abs : mg "abs" = none
  n_sum : mg "sum" = none
  n_repr : mg "repr" = none
  g_MOST_FIGURES : GV K mg "MOST_FIGURES" (.int 4)
  g_FIGURES : GV K mg "FIGURES" (.str "0123456789")
  g_MOST_TOOL : GV K mg "MOST_TOOL" (.int 4)
  g_MOST_LENGTH : GV K mg "MOST_LENGTH" (.int 6)
  g_MOST_HIGH : GV K mg "MOST_HIGH" (.int 6)
  g_MOST_SIDE : GV K mg "MOST_SIDE" (.int 8)
  c_BadRow : mg "BadRow" = some (.ref ct.BadRow)
  c_WorksError : mg "WorksError" = some (.ref ct.WorksError)
  d_STEP_FORMS : KTab w K mg "STEP_FORMS" ct.d_STEP_FORMS tb_STEP_FORMS
  v_read_part : mg "_read_part" = some (.ref ct.fn_read_part)
  okf : ∀ C f, ct.okf C f = true → OkF K C f
  okg : ∀ C f, ct.okg C f = true → XfC K C ∧ PySem.W.findIn K (.ref C) f = some none
  isa : ∀ C v b, ct.isa C v = some b → ExcC K C ∧ PySem.W.kitOne K (.ref C) v = some b
  sb_BadRow : PySem.W.subIn K (.ref ct.BadRow) (.type "BaseException") = some true
  ty_BadRow : PySem.W.typeIn K (.ref ct.BadRow) = some (.type "type")
  q_BadRow : ExcC K ct.BadRow
  x_BadRow_WorksError : PySem.W.exmOne K (.ref ct.BadRow) (.ref ct.WorksError) = some true
section
variable {P : Program} {w : World} {K : PySem.W.Frag} {mg : Str → Option Value} {base : Heap} {ct : CT}
abbrev ss_is_whole : Stmt := topS 10
theorem sc_is_whole : FnScope nn_is_whole ["thing"] (defScope ss_is_whole) := ⟨rfl, rfl, rfl, by decide +kernel, rfl, by decide +kernel, by decide +kernel⟩
abbrev FF_is_whole (K : PySem.W.Frag) (f : Addr) (fd : FuncData) : Prop := FunD K "is_whole" "is_whole" (defArgs ss_is_whole) (defBody ss_is_whole) (defScope ss_is_whole) [] [] f fd
theorem ok_is_whole (T : Txt ct w K mg) {f : Addr} {fd : FuncData} (F : FF_is_whole K f fd) : DFn P w K mg base 1 f fd ["thing"] ff_is_whole :=
  DFn.of F sc_is_whole fun c => (DB.one (DS.ret (DE.and (DE.callB c (cIsi c) T.n_isinstance (by decide +kernel) (DA.cons (DE.var 0) (DA.cons (DE.bltn c T.n_int (by decide +kernel) (v := .ty "int") rfl fun _ _ => .ty _) DA.nil))) (DE.one (DE.not (DE.callB c (cIsi c) T.n_isinstance (by decide +kernel) (DA.cons (DE.var 0) (DA.cons (DE.bltn c T.n_bool (by decide +kernel) (v := .ty "bool") rfl fun _ _ => .ty _) DA.nil))))))))
abbrev ss_is_among : Stmt := topS 11
theorem sc_is_among : FnScope nn_is_among ["thing", "least", "most"] (defScope ss_is_among) := ⟨rfl, rfl, rfl, by decide +kernel, rfl, by decide +kernel, by decide +kernel⟩
abbrev FF_is_among (K : PySem.W.Frag) (f : Addr) (fd : FuncData) : Prop := FunD K "is_among" "is_among" (defArgs ss_is_among) (defBody ss_is_among) (defScope ss_is_among) [] [] f fd
theorem ok_is_among (T : Txt ct w K mg) (L_is_whole : Lk P w K mg base "is_whole" 1 ["thing"] ff_is_whole) {f : Addr} {fd : FuncData} (F : FF_is_among K f fd) : DFn P w K mg base 2 f fd ["thing", "least", "most"] ff_is_among :=
  DFn.of F sc_is_among fun c => (DB.cons (DS.ite (DW.test (DW.or (DT.not (DE.test (DE.cl c L_is_whole (by decide) rfl (DA.cons (DE.var 0) DA.nil) (aLen_cons aLen_nil)))) (DW.or (DT.not (DE.test (DE.cl c L_is_whole (by decide) rfl (DA.cons (DE.var 1) DA.nil) (aLen_cons aLen_nil)))) (DW.or1 (DT.not (DE.test (DE.cl c L_is_whole (by decide) rfl (DA.cons (DE.var 2) DA.nil) (aLen_cons aLen_nil))))))))
  (DB.one (DS.ret DE.bool)) DB.nil)
  (DB.one (DS.ret (DC.val (DC.chain opLe opLe (DE.var 1) (DE.var 0) (DE.var 2))))))
abbrev ss_is_text_of : Stmt := topS 15
theorem sc_is_text_of : FnScope nn_is_text_of ["thing", "signs", "most"] (defScope ss_is_text_of) := ⟨rfl, rfl, rfl, by decide +kernel, rfl, by decide +kernel, by decide +kernel⟩
abbrev FF_is_text_of (K : PySem.W.Frag) (f : Addr) (fd : FuncData) : Prop := FunD K "_is_text_of" "_is_text_of" (defArgs ss_is_text_of) (defBody ss_is_text_of) (defScope ss_is_text_of) [] [] f fd
theorem ok_is_text_of (T : Txt ct w K mg) {f : Addr} {fd : FuncData} (F : FF_is_text_of K f fd) : DFn P w K mg base 1 f fd ["thing", "signs", "most"] ff_is_text_of :=
  DFn.of F sc_is_text_of fun c => (DB.cons (DS.ite (DW.test (DW.or (DT.not (DE.test (DE.callB c (cIsi c) T.n_isinstance (by decide +kernel) (DA.cons (DE.var 0) (DA.cons (DE.bltn c T.n_str (by decide +kernel) (v := .ty "str") rfl fun _ _ => .ty _) DA.nil))))) (DW.or1 (DT.not (DC.test (DC.chain opLe opLe DE.int (DE.callB c (cLen c) T.n_len (by decide +kernel) (DA.cons (DE.var 0) DA.nil)) (DE.var 2)))))))
  (DB.one (DS.ret DE.bool)) DB.nil)
  (DB.one (DS.ret (DE.callB c (cAll c) T.n_all (by decide +kernel) (DA.cons (DE.lc c (own := [("sign", 3)]) (fun _ => sc_is_text_of.nd) (DI.str (DE.var 0)) (fun _ => blkOk_by (N := nn_is_text_of) (by rfl)) (DG.name 3 fun _ => sc_is_text_of.nd) (by decide) DTs.nil (DC.val (DC.op (opIn (c.blk _)) (DE.var 3) (DE.var 1)))) DA.nil)))))
abbrev ss_number_of : Stmt := topS 12
theorem sc_number_of : FnScope nn_number_of ["word"] (defScope ss_number_of) := ⟨rfl, rfl, rfl, by decide +kernel, rfl, by decide +kernel, by decide +kernel⟩
abbrev FF_number_of (K : PySem.W.Frag) (f : Addr) (fd : FuncData) : Prop := FunD K "number_of" "number_of" (defArgs ss_number_of) (defBody ss_number_of) (defScope ss_number_of) [] [] f fd
theorem ok_number_of (T : Txt ct w K mg) (L_is_text_of : Lk P w K mg base "_is_text_of" 1 ["thing", "signs", "most"] ff_is_text_of) {f : Addr} {fd : FuncData} (F : FF_number_of K f fd) : DFn P w K mg base 2 f fd ["word"] ff_number_of :=
  DFn.of F sc_number_of fun c => (DB.cons (DS.ite (DT.not (DE.test (DE.cl c L_is_text_of (by decide) rfl (DA.cons (DE.var 0) (DA.cons (DE.gv c T.g_FIGURES) (DA.cons (DE.gv c T.g_MOST_FIGURES) DA.nil))) (aLen_cons (aLen_cons (aLen_cons aLen_nil))))))
  (DB.one (DS.ret DE.non)) DB.nil)
  (DB.cons (DS.ite (DW.test (DW.and (DC.test (DC.op (opEq c) (DE.ix c (DE.var 0) DE.int) DE.str)) (DW.and1 (DC.test (DC.op (opNe c) (DE.var 0) DE.str)))))
  (DB.one (DS.ret DE.non)) DB.nil)
  (DB.one (DS.ret (DE.callTy c cInt1 T.n_int (by decide +kernel) (DA.cons (DE.var 0) DA.nil))))))
abbrev ss_signed_of : Stmt := topS 13
theorem sc_signed_of : FnScope nn_signed_of ["word"] (defScope ss_signed_of) := ⟨rfl, rfl, rfl, by decide +kernel, rfl, by decide +kernel, by decide +kernel⟩
abbrev FF_signed_of (K : PySem.W.Frag) (f : Addr) (fd : FuncData) : Prop := FunD K "signed_of" "signed_of" (defArgs ss_signed_of) (defBody ss_signed_of) (defScope ss_signed_of) [] [] f fd
theorem ok_signed_of (T : Txt ct w K mg) (L_number_of : Lk P w K mg base "number_of" 2 ["word"] ff_number_of) {f : Addr} {fd : FuncData} (F : FF_signed_of K f fd) : DFn P w K mg base 3 f fd ["word"] ff_signed_of :=
  DFn.of F sc_signed_of fun c => (DB.cons (DS.ite (DW.test (DW.or (DT.not (DE.test (DE.callB c (cIsi c) T.n_isinstance (by decide +kernel) (DA.cons (DE.var 0) (DA.cons (DE.bltn c T.n_str (by decide +kernel) (v := .ty "str") rfl fun _ _ => .ty _) DA.nil))))) (DW.or1 (DC.test (DC.op (opNe c) (DE.sl c (DE.var 0) DP.none (DP.some DE.int)) DE.str)))))
  (DB.one (DS.ret (DE.cl c L_number_of (by decide) rfl (DA.cons (DE.var 0) DA.nil) (aLen_cons aLen_nil)))) DB.nil)
  (DB.cons (DS.set 1 (DE.cl c L_number_of (by decide) rfl (DA.cons (DE.sl c (DE.var 0) (DP.some DE.int) DP.none) DA.nil) (aLen_cons aLen_nil)) (fun _ => sc_signed_of.nd))
  (DB.cons (DS.ite (DW.test (DW.or (DC.test (DC.op opIsN (DE.var 1) DE.non)) (DW.or1 (DC.test (DC.op (opEq c) (DE.var 1) DE.int)))))
  (DB.one (DS.ret DE.non)) DB.nil)
  (DB.one (DS.ret (DE.neg (DE.var 1)))))))
abbrev ss_words_of : Stmt := topS 14
theorem sc_words_of : FnScope nn_words_of ["row"] (defScope ss_words_of) := ⟨rfl, rfl, rfl, by decide +kernel, rfl, by decide +kernel, by decide +kernel⟩
abbrev FF_words_of (K : PySem.W.Frag) (f : Addr) (fd : FuncData) : Prop := FunD K "words_of" "words_of" (defArgs ss_words_of) (defBody ss_words_of) (defScope ss_words_of) [] [] f fd
theorem ok_words_of (T : Txt ct w K mg) {f : Addr} {fd : FuncData} (F : FF_words_of K f fd) : DFn P w K mg base 1 f fd ["row"] ff_words_of :=
  DFn.of F sc_words_of fun c => (DB.cons (DS.ite (DT.not (DE.test (DE.callB c (cIsi c) T.n_isinstance (by decide +kernel) (DA.cons (DE.var 0) (DA.cons (DE.bltn c T.n_str (by decide +kernel) (v := .ty "str") rfl fun _ _ => .ty _) DA.nil)))))
  (DB.one (DS.ret DE.non)) DB.nil)
  (DB.cons (DS.set 1 (DE.smeth sSplit PySem.F.slot_str_split PySem.F.type_str_split (DE.var 0) DE.str) (fun _ => sc_words_of.nd))
  (DB.cons (DS.ite (DC.test (DC.op (opIn c) DE.str (DE.var 1)))
  (DB.one (DS.ret DE.non)) DB.nil)
  (DB.one (DS.ret (DE.var 1))))))
abbrev ss_fits_step : Stmt := topS 22
theorem sc_fits_step : FnScope nn_fits_step ["kind", "part"] (defScope ss_fits_step) := ⟨rfl, rfl, rfl, by decide +kernel, rfl, by decide +kernel, by decide +kernel⟩
abbrev FF_fits_step (K : PySem.W.Frag) (f : Addr) (fd : FuncData) : Prop := FunD K "fits_step" "fits_step" (defArgs ss_fits_step) (defBody ss_fits_step) (defScope ss_fits_step) [] [] f fd
theorem ok_fits_step (T : Txt ct w K mg) (L_is_among : Lk P w K mg base "is_among" 2 ["thing", "least", "most"] ff_is_among) {f : Addr} {fd : FuncData} (F : FF_fits_step K f fd) : DFn P w K mg base 3 f fd ["kind", "part"] ff_fits_step :=
  DFn.of F sc_fits_step fun c => (DB.cons (DS.ite (DC.test (DC.op (opEq c) (DE.var 0) DE.str))
  (DB.one (DS.ret (DE.cl c L_is_among (by decide) rfl (DA.cons (DE.var 1) (DA.cons DE.int (DA.cons (DE.gv c T.g_MOST_TOOL) DA.nil))) (aLen_cons (aLen_cons (aLen_cons aLen_nil)))))) DB.nil)
  (DB.cons (DS.ite (DC.test (DC.op (opEq c) (DE.var 0) DE.str))
  (DB.one (DS.ret (DE.cl c L_is_among (by decide) rfl (DA.cons (DE.var 1) (DA.cons DE.int (DA.cons (DE.gv c T.g_MOST_LENGTH) DA.nil))) (aLen_cons (aLen_cons (aLen_cons aLen_nil)))))) DB.nil)
  (DB.cons (DS.ite (DC.test (DC.op (opEq c) (DE.var 0) DE.str))
  (DB.one (DS.ret (DE.cl c L_is_among (by decide) rfl (DA.cons (DE.var 1) (DA.cons DE.int (DA.cons (DE.op opSub (DE.gv c T.g_MOST_HIGH) DE.int) DA.nil))) (aLen_cons (aLen_cons (aLen_cons aLen_nil)))))) DB.nil)
  (DB.one (DS.ret (DE.cl c L_is_among (by decide) rfl (DA.cons (DE.var 1) (DA.cons (DE.op opSub DE.int (DE.gv c T.g_MOST_TOOL)) (DA.cons (DE.op opSub (DE.gv c T.g_MOST_SIDE) DE.int) DA.nil))) (aLen_cons (aLen_cons (aLen_cons aLen_nil)))))))))
abbrev ss_read_part : Stmt := topS 26
theorem sc_read_part : FnScope nn_read_part ["kind", "word"] (defScope ss_read_part) := ⟨rfl, rfl, rfl, by decide +kernel, rfl, by decide +kernel, by decide +kernel⟩
abbrev FF_read_part (K : PySem.W.Frag) (f : Addr) (fd : FuncData) : Prop := FunD K "_read_part" "_read_part" (defArgs ss_read_part) (defBody ss_read_part) (defScope ss_read_part) [] [] f fd
theorem ok_read_part (T : Txt ct w K mg) (L_signed_of : Lk P w K mg base "signed_of" 3 ["word"] ff_signed_of) (L_fits_step : Lk P w K mg base "fits_step" 3 ["kind", "part"] ff_fits_step) {f : Addr} {fd : FuncData} (F : FF_read_part K f fd) : DFn P w K mg base 4 f fd ["kind", "word"] ff_read_part :=
  DFn.of F sc_read_part fun c => (DB.cons (DS.set 2 (DE.cl c L_signed_of (by decide) rfl (DA.cons (DE.var 1) DA.nil) (aLen_cons aLen_nil)) (fun _ => sc_read_part.nd))
  (DB.cons (DS.ite (DT.not (DE.test (DE.cl c L_fits_step (by decide) rfl (DA.cons (DE.var 0) (DA.cons (DE.var 2) DA.nil)) (aLen_cons (aLen_cons aLen_nil)))))
  (DB.one (DS.ret DE.non)) DB.nil)
  (DB.one (DS.ret (DE.var 2)))))
abbrev ss_parts_by : Stmt := topS 17
theorem sc_parts_by : FnScope nn_parts_by ["kinds", "words", "read"] (defScope ss_parts_by) := ⟨rfl, rfl, rfl, by decide +kernel, rfl, by decide +kernel, by decide +kernel⟩
abbrev FF_parts_by (K : PySem.W.Frag) (f : Addr) (fd : FuncData) : Prop := FunD K "parts_by" "parts_by" (defArgs ss_parts_by) (defBody ss_parts_by) (defScope ss_parts_by) [] [] f fd
theorem ok_parts_by (T : Txt ct w K mg) (V_tab : LkV P w K mg base 4 2 (tab ct)) {f : Addr} {fd : FuncData} (F : FF_parts_by K f fd) : DFn P w K mg base 5 f fd ["kinds", "words", "read"] (ff_parts_by ct) :=
  DFn.of F sc_parts_by fun c => (DB.cons (DS.set 3 (DE.new DA.nil) (fun _ => sc_parts_by.nd))
  (DB.cons (DS.for c (by first | exact fun _ => PassesOwn.never | exact fun _ => PassesOwn.leaving) (DI.zipM c T.n_zip (DA.cons (DE.var 0) (DA.cons (DE.var 1) DA.nil))) (DG.tup c (DGs.cons (DG.name 4 fun _ => sc_parts_by.nd) (DGs.cons (DG.name 5 fun _ => sc_parts_by.nd) DGs.nil)))
  (DB.cons (DS.set 6 (DE.cv 2 c V_tab (by decide) rfl (DA.cons (DE.var 4) (DA.cons (DE.var 5) DA.nil)) (aLen_cons (aLen_cons aLen_nil))) (fun _ => sc_parts_by.nd))
  (DB.cons (DS.ite (DC.test (DC.op opIsN (DE.var 6) DE.non))
  (DB.one DS.brk) DB.nil)
  (DB.one (DS.expr (DE.lmeth c mApp PySem.F.slot_list_append PySem.F.type_list_append (DE.var 3) (DA.cons (DE.var 6) DA.nil)))))))
  (DB.cons (DS.ite (DC.test (DC.chain (opEq c) (opEq c) (DE.callB c (cLen c) T.n_len (by decide +kernel) (DA.cons (DE.var 3) DA.nil)) (DE.callB c (cLen c) T.n_len (by decide +kernel) (DA.cons (DE.var 0) DA.nil)) (DE.callB c (cLen c) T.n_len (by decide +kernel) (DA.cons (DE.var 1) DA.nil))))
  (DB.one (DS.ret (DE.tup (DA.cons (DE.callTy c (cTupOf c) T.n_tuple (by decide +kernel) (DA.cons (DE.var 3) DA.nil)) (DA.cons DE.non DA.nil))))) DB.nil)
  (DB.one (DS.ret (DE.tup (DA.cons (DE.callTy c (cTupOf c) T.n_tuple (by decide +kernel) (DA.cons (DE.var 3) DA.nil)) (DA.cons (DE.op (opAdd4 c) (DE.callB c (cLen c) T.n_len (by decide +kernel) (DA.cons (DE.var 3) DA.nil)) DE.int) DA.nil))))))))
abbrev ss_BadRow_init : Stmt := memD (topS 2) 0
theorem sc_BadRow_init : FnScope nn_BadRow_init ["self", "row", "word"] (defScope ss_BadRow_init) := ⟨rfl, rfl, rfl, by decide +kernel, rfl, by decide +kernel, by decide +kernel⟩
abbrev FF_BadRow_init (K : PySem.W.Frag) (f : Addr) (fd : FuncData) : Prop := FunD K "__init__" "BadRow.__init__" (defArgs ss_BadRow_init) (defBody ss_BadRow_init) (defScope ss_BadRow_init) [] [] f fd
theorem ok_BadRow_init (T : Txt ct w K mg) {f : Addr} {fd : FuncData} (F : FF_BadRow_init K f fd) : DFn P w K mg base 1 f fd ["self", "row", "word"] (ff_BadRow_init ct) :=
  DFn.of F sc_BadRow_init fun c => (DB.cons (DS.og T.okf c (DE.var 0) (DE.var 1))
  (DB.one (DS.og T.okf c (DE.var 0) (DE.var 2))))
abbrev ss_rows_of : Stmt := topS 18
theorem sc_rows_of : FnScope nn_rows_of ["text"] (defScope ss_rows_of) := ⟨rfl, rfl, rfl, by decide +kernel, rfl, by decide +kernel, by decide +kernel⟩
abbrev FF_rows_of (K : PySem.W.Frag) (f : Addr) (fd : FuncData) : Prop := FunD K "rows_of" "rows_of" (defArgs ss_rows_of) (defBody ss_rows_of) (defScope ss_rows_of) [] [] f fd
theorem ok_rows_of (T : Txt ct w K mg) (G_BadRow_2 : LkG P w K mg base "BadRow" 1 ["self", "row", "word"] (ff_BadRow_init ct) ct.BadRow []) {f : Addr} {fd : FuncData} (F : FF_rows_of K f fd) : DFn P w K mg base 3 f fd ["text"] (ff_rows_of ct) :=
  DFn.of F sc_rows_of fun c => (DB.cons (DS.ite (DT.not (DE.test (DE.callB c (cIsi c) T.n_isinstance (by decide +kernel) (DA.cons (DE.var 0) (DA.cons (DE.bltn c T.n_str (by decide +kernel) (v := .ty "str") rfl fun _ _ => .ty _) DA.nil)))))
  (DB.one DS.never) DB.nil)
  (DB.one (DS.ret (DE.smeth sSplit PySem.F.slot_str_split PySem.F.type_str_split (DE.var 0) DE.str))))
theorem okq_rows_of (T : Txt ct w K mg) (G_BadRow_2 : LkG P w K mg base "BadRow" 1 ["self", "row", "word"] (ff_BadRow_init ct) ct.BadRow []) {f : Addr} {fd : FuncData} (F : FF_rows_of K f fd) : DFnQ P w K mg base 3 f fd ["text"] (qq_rows_of ct) :=
  DFnQ.of F sc_rows_of fun E c tk => (DBQ.cons (DSQ.ite (DT.not (DE.test (DE.callB c (cIsi c) T.n_isinstance (by decide +kernel) (DA.cons (DE.var 0) (DA.cons (DE.bltn c T.n_str (by decide +kernel) (v := .ty "str") rfl fun _ _ => .ty _) DA.nil)))))
  (DBQ.one (DSQ.raise c tk G_BadRow_2 T.sb_BadRow T.ty_BadRow (by decide) rfl (by decide) (DA.cons DE.int (DA.cons DE.int DA.nil)) (aLen_cons (aLen_cons aLen_nil)))) (DBQ.lift DB.nil))
  (DBQ.lift (DB.one (DS.ret (DE.smeth sSplit PySem.F.slot_str_split PySem.F.type_str_split (DE.var 0) DE.str)))))
abbrev ss_words_in : Stmt := topS 19
theorem sc_words_in : FnScope nn_words_in ["row", "number"] (defScope ss_words_in) := ⟨rfl, rfl, rfl, by decide +kernel, rfl, by decide +kernel, by decide +kernel⟩
abbrev FF_words_in (K : PySem.W.Frag) (f : Addr) (fd : FuncData) : Prop := FunD K "words_in" "words_in" (defArgs ss_words_in) (defBody ss_words_in) (defScope ss_words_in) [] [] f fd
theorem ok_words_in (T : Txt ct w K mg) (L_words_of : Lk P w K mg base "words_of" 1 ["row"] ff_words_of) (G_BadRow_2 : LkG P w K mg base "BadRow" 1 ["self", "row", "word"] (ff_BadRow_init ct) ct.BadRow []) {f : Addr} {fd : FuncData} (F : FF_words_in K f fd) : DFn P w K mg base 3 f fd ["row", "number"] (ff_words_in ct) :=
  DFn.of F sc_words_in fun c => (DB.cons (DS.set 2 (DE.cl c L_words_of (by decide) rfl (DA.cons (DE.var 0) DA.nil) (aLen_cons aLen_nil)) (fun _ => sc_words_in.nd))
  (DB.cons (DS.ite (DC.test (DC.op opIsN (DE.var 2) DE.non))
  (DB.one DS.never) DB.nil)
  (DB.one (DS.ret (DE.var 2)))))
theorem okq_words_in (T : Txt ct w K mg) (L_words_of : Lk P w K mg base "words_of" 1 ["row"] ff_words_of) (G_BadRow_2 : LkG P w K mg base "BadRow" 1 ["self", "row", "word"] (ff_BadRow_init ct) ct.BadRow []) {f : Addr} {fd : FuncData} (F : FF_words_in K f fd) : DFnQ P w K mg base 3 f fd ["row", "number"] (qq_words_in ct) :=
  DFnQ.of F sc_words_in fun E c tk => (DBQ.cons (DSQ.lift (DS.set 2 (DE.cl c L_words_of (by decide) rfl (DA.cons (DE.var 0) DA.nil) (aLen_cons aLen_nil)) (fun _ => sc_words_in.nd)))
  (DBQ.cons (DSQ.ite (DC.test (DC.op opIsN (DE.var 2) DE.non))
  (DBQ.one (DSQ.raise c tk G_BadRow_2 T.sb_BadRow T.ty_BadRow (by decide) rfl (by decide) (DA.cons (DE.var 1) (DA.cons DE.int DA.nil)) (aLen_cons (aLen_cons aLen_nil)))) (DBQ.lift DB.nil))
  (DBQ.lift (DB.one (DS.ret (DE.var 2))))))
abbrev ss_read_step : Stmt := topS 25
theorem sc_read_step : FnScope nn_read_step ["row", "number"] (defScope ss_read_step) := ⟨rfl, rfl, rfl, by decide +kernel, rfl, by decide +kernel, by decide +kernel⟩
abbrev FF_read_step (K : PySem.W.Frag) (f : Addr) (fd : FuncData) : Prop := FunD K "_read_step" "_read_step" (defArgs ss_read_step) (defBody ss_read_step) (defScope ss_read_step) [] [] f fd
theorem ok_read_step (T : Txt ct w K mg) (L_words_in : Lk P w K mg base "words_in" 3 ["row", "number"] (ff_words_in ct)) (L_parts_by : Lk P w K mg base "parts_by" 5 ["kinds", "words", "read"] (ff_parts_by ct)) (Q_words_in : LkQ P w K mg base "words_in" 3 ["row", "number"] (qq_words_in ct)) (G_BadRow_2 : LkG P w K mg base "BadRow" 1 ["self", "row", "word"] (ff_BadRow_init ct) ct.BadRow []) {f : Addr} {fd : FuncData} (F : FF_read_step K f fd) : DFn P w K mg base 6 f fd ["row", "number"] (ff_read_step ct) :=
  DFn.of F sc_read_step fun c => (DB.cons (DS.set 2 (DE.cl c L_words_in (by decide) rfl (DA.cons (DE.var 0) (DA.cons (DE.var 1) DA.nil)) (aLen_cons (aLen_cons aLen_nil))) (fun _ => sc_read_step.nd))
  (DB.cons (DS.set 3 (DE.ix c (DE.var 2) DE.int) (fun _ => sc_read_step.nd))
  (DB.cons (DS.ite (DC.test (DC.op (opNinK c T.d_STEP_FORMS) (DE.var 3) (DE.gv c (GV.cls T.d_STEP_FORMS.gv))))
  (DB.one DS.never) DB.nil)
  (DB.cons (DS.asg (DE.cl c L_parts_by (by decide) rfl (DA.cons (DE.kix c T.d_STEP_FORMS (DE.gv c (GV.cls T.d_STEP_FORMS.gv)) (DE.var 3)) (DA.cons (DE.sl c (DE.var 2) (DP.some DE.int) DP.none) (DA.cons (DE.gv c (GV.cls T.v_read_part)) DA.nil))) (aLen_cons (aLen_cons (aLen_cons aLen_nil)))) (DG.tup c (DGs.cons (DG.name 4 fun _ => sc_read_step.nd) (DGs.cons (DG.name 5 fun _ => sc_read_step.nd) DGs.nil))))
  (DB.cons (DS.ite (DC.test (DC.op opNotN (DE.var 5) DE.non))
  (DB.one DS.never) DB.nil)
  (DB.one (DS.ret (DE.op (opAdd4 c) (DE.tup (DA.cons (DE.var 3) DA.nil)) (DE.var 4)))))))))
theorem okq_read_step (T : Txt ct w K mg) (L_words_in : Lk P w K mg base "words_in" 3 ["row", "number"] (ff_words_in ct)) (L_parts_by : Lk P w K mg base "parts_by" 5 ["kinds", "words", "read"] (ff_parts_by ct)) (Q_words_in : LkQ P w K mg base "words_in" 3 ["row", "number"] (qq_words_in ct)) (G_BadRow_2 : LkG P w K mg base "BadRow" 1 ["self", "row", "word"] (ff_BadRow_init ct) ct.BadRow []) {f : Addr} {fd : FuncData} (F : FF_read_step K f fd) : DFnQ P w K mg base 6 f fd ["row", "number"] (qq_read_step ct) :=
  DFnQ.of F sc_read_step fun E c tk => (DBQ.cons (DSQ.set 2 (DEQ.cl c tk Q_words_in (by decide) rfl (DA.cons (DE.var 0) (DA.cons (DE.var 1) DA.nil)) (aLen_cons (aLen_cons aLen_nil))) (fun _ => sc_read_step.nd))
  (DBQ.cons (DSQ.lift (DS.set 3 (DE.ix c (DE.var 2) DE.int) (fun _ => sc_read_step.nd)))
  (DBQ.cons (DSQ.ite (DC.test (DC.op (opNinK c T.d_STEP_FORMS) (DE.var 3) (DE.gv c (GV.cls T.d_STEP_FORMS.gv))))
  (DBQ.one (DSQ.raise c tk G_BadRow_2 T.sb_BadRow T.ty_BadRow (by decide) rfl (by decide) (DA.cons (DE.var 1) (DA.cons DE.int DA.nil)) (aLen_cons (aLen_cons aLen_nil)))) (DBQ.lift DB.nil))
  (DBQ.cons (DSQ.lift (DS.asg (DE.cl c L_parts_by (by decide) rfl (DA.cons (DE.kix c T.d_STEP_FORMS (DE.gv c (GV.cls T.d_STEP_FORMS.gv)) (DE.var 3)) (DA.cons (DE.sl c (DE.var 2) (DP.some DE.int) DP.none) (DA.cons (DE.gv c (GV.cls T.v_read_part)) DA.nil))) (aLen_cons (aLen_cons (aLen_cons aLen_nil)))) (DG.tup c (DGs.cons (DG.name 4 fun _ => sc_read_step.nd) (DGs.cons (DG.name 5 fun _ => sc_read_step.nd) DGs.nil)))))
  (DBQ.cons (DSQ.ite (DC.test (DC.op opNotN (DE.var 5) DE.non))
  (DBQ.one (DSQ.raise c tk G_BadRow_2 T.sb_BadRow T.ty_BadRow (by decide) rfl (by decide) (DA.cons (DE.var 1) (DA.cons (DE.op (opAdd4 c) DE.int (DE.var 5)) DA.nil)) (aLen_cons (aLen_cons aLen_nil)))) (DBQ.lift DB.nil))
  (DBQ.lift (DB.one (DS.ret (DE.op (opAdd4 c) (DE.tup (DA.cons (DE.var 3) DA.nil)) (DE.var 4))))))))))
abbrev ss_read_way : Stmt := topS 24
theorem sc_read_way : FnScope nn_read_way ["text"] (defScope ss_read_way) := ⟨rfl, rfl, rfl, by decide +kernel, rfl, by decide +kernel, by decide +kernel⟩
abbrev FF_read_way (K : PySem.W.Frag) (f : Addr) (fd : FuncData) : Prop := FunD K "read_way" "read_way" (defArgs ss_read_way) (defBody ss_read_way) (defScope ss_read_way) [] [] f fd
theorem ok_read_way (T : Txt ct w K mg) (L_rows_of : Lk P w K mg base "rows_of" 3 ["text"] (ff_rows_of ct)) (L_read_step : Lk P w K mg base "_read_step" 6 ["row", "number"] (ff_read_step ct)) (Q_rows_of : LkQ P w K mg base "rows_of" 3 ["text"] (qq_rows_of ct)) (Q_read_step : LkQ P w K mg base "_read_step" 6 ["row", "number"] (qq_read_step ct)) {f : Addr} {fd : FuncData} (F : FF_read_way K f fd) : DFn P w K mg base 7 f fd ["text"] (ff_read_way ct) :=
  DFn.of F sc_read_way fun c => (DB.cons (DS.set 1 (DE.cl c L_rows_of (by decide) rfl (DA.cons (DE.var 0) DA.nil) (aLen_cons aLen_nil)) (fun _ => sc_read_way.nd))
  (DB.cons (DS.ite (DC.test (DC.op (opEq c) (DE.var 0) DE.str))
  (DB.one (DS.ret (DE.tup DA.nil))) DB.nil)
  (DB.one (DS.ret (DE.callTy c (cTupOf c) T.n_tuple (by decide +kernel) (DA.cons (DE.lc c (own := [("number", 2), ("row", 3)]) (fun _ => sc_read_way.nd) (DI.enum c T.n_enumerate (DA.cons (DE.var 1) DA.nil)) (fun _ => blkOk_by (N := nn_read_way) (by rfl)) (DG.tup (c.blk _) (DGs.cons (DG.name 2 fun _ => sc_read_way.nd) (DGs.cons (DG.name 3 fun _ => sc_read_way.nd) DGs.nil))) (by decide) DTs.nil (DE.cl (c.blk _) L_read_step (by decide) rfl (DA.cons (DE.var 3) (DA.cons (DE.op (opAdd4 (c.blk _)) (DE.var 2) DE.int) DA.nil)) (aLen_cons (aLen_cons aLen_nil)))) DA.nil))))))
theorem okq_read_way (T : Txt ct w K mg) (L_rows_of : Lk P w K mg base "rows_of" 3 ["text"] (ff_rows_of ct)) (L_read_step : Lk P w K mg base "_read_step" 6 ["row", "number"] (ff_read_step ct)) (Q_rows_of : LkQ P w K mg base "rows_of" 3 ["text"] (qq_rows_of ct)) (Q_read_step : LkQ P w K mg base "_read_step" 6 ["row", "number"] (qq_read_step ct)) {f : Addr} {fd : FuncData} (F : FF_read_way K f fd) : DFnQ P w K mg base 7 f fd ["text"] (qq_read_way ct) :=
  DFnQ.of F sc_read_way fun E c tk => (DBQ.cons (DSQ.set 1 (DEQ.cl c tk Q_rows_of (by decide) rfl (DA.cons (DE.var 0) DA.nil) (aLen_cons aLen_nil)) (fun _ => sc_read_way.nd))
  (DBQ.cons (DSQ.lift (DS.ite (DC.test (DC.op (opEq c) (DE.var 0) DE.str))
  (DB.one (DS.ret (DE.tup DA.nil))) DB.nil))
  (DBQ.one (DSQ.ret (DEQ.callTy c (cTupOf c) T.n_tuple (by decide +kernel) (DAQ.cons (DEQ.lc c tk (own := [("number", 2), ("row", 3)]) (fun _ => sc_read_way.nd) (DI.enum c T.n_enumerate (DA.cons (DE.var 1) DA.nil)) (fun _ => blkOk_by (N := nn_read_way) (by rfl)) (DG.tup (c.blk _) (DGs.cons (DG.name 2 fun _ => sc_read_way.nd) (DGs.cons (DG.name 3 fun _ => sc_read_way.nd) DGs.nil))) (by decide) DTs.nil (fun S3 tk3 c3 => (DEQ.cl c3 tk3 Q_read_step (by decide) rfl (DA.cons (DE.var 3) (DA.cons (DE.op (opAdd4 c3) (DE.var 2) DE.int) DA.nil)) (aLen_cons (aLen_cons aLen_nil))))) DAQ.nil))))))
abbrev ss_law_mixed : Stmt := topS 28
theorem sc_law_mixed : FnScope nn_law_mixed ["cell", "k"] (defScope ss_law_mixed) := ⟨rfl, rfl, rfl, by decide +kernel, rfl, by decide +kernel, by decide +kernel⟩
abbrev FF_law_mixed (K : PySem.W.Frag) (f : Addr) (fd : FuncData) : Prop := FunD K "_law_mixed" "_law_mixed" (defArgs ss_law_mixed) (defBody ss_law_mixed) (defScope ss_law_mixed) [] [] f fd
theorem ok_law_mixed (T : Txt ct w K mg) {f : Addr} {fd : FuncData} (F : FF_law_mixed K f fd) : DFn P w K mg base 1 f fd ["cell", "k"] ff_law_mixed :=
  DFn.of F sc_law_mixed fun c => (DB.cons (DS.set 2 (DE.op (opAdd4 c) (DE.op (opAdd4 c) (DE.op opMod (DE.var 0) (DE.ix c (DE.lst (DA.cons DE.int (DA.cons DE.int (DA.cons DE.int (DA.cons DE.int DA.nil))))) (DE.op opMod (DE.var 1) DE.int))) (DE.op opMul2 DE.int (DE.var 1))) DE.int) (fun _ => sc_law_mixed.nd))
  (DB.one (DS.ret (DE.op opMod (DE.op opMul2 (DE.op opMod (DE.op opMul2 (DE.var 2) (DE.var 2)) DE.int) DE.int) DE.int))))
abbrev ss_law_draw : Stmt := topS 29
theorem sc_law_draw : FnScope nn_law_draw ["cell", "k"] (defScope ss_law_draw) := ⟨rfl, rfl, rfl, by decide +kernel, rfl, by decide +kernel, by decide +kernel⟩
abbrev FF_law_draw (K : PySem.W.Frag) (f : Addr) (fd : FuncData) : Prop := FunD K "_law_draw" "_law_draw" (defArgs ss_law_draw) (defBody ss_law_draw) (defScope ss_law_draw) [] [] f fd
theorem ok_law_draw (T : Txt ct w K mg) {f : Addr} {fd : FuncData} (F : FF_law_draw K f fd) : DFn P w K mg base 1 f fd ["cell", "k"] ff_law_draw :=
  DFn.of F sc_law_draw fun c => (DB.one (DS.ret (DE.dic (DPs.cons DE.str (DE.ite (DC.test (DC.op opGe (DE.var 0) (DE.op opPow DE.int DE.int))) (DE.var 0) DE.int) (DPs.cons DE.str (DE.var 0) (DPs.cons DE.str (DE.op opMul2 DE.int (DE.var 1)) DPs.nil))))))
abbrev ss_law_digit : Stmt := topS 30
theorem sc_law_digit : FnScope nn_law_digit ["state", "many"] (defScope ss_law_digit) := ⟨rfl, rfl, rfl, by decide +kernel, rfl, by decide +kernel, by decide +kernel⟩
abbrev FF_law_digit (K : PySem.W.Frag) (f : Addr) (fd : FuncData) : Prop := FunD K "_law_digit" "_law_digit" (defArgs ss_law_digit) (defBody ss_law_digit) (defScope ss_law_digit) [] [] f fd
theorem ok_law_digit (T : Txt ct w K mg) (L_law_mixed : Lk P w K mg base "_law_mixed" 1 ["cell", "k"] ff_law_mixed) {f : Addr} {fd : FuncData} (F : FF_law_digit K f fd) : DFn P w K mg base 2 f fd ["state", "many"] ff_law_digit :=
  DFn.of F sc_law_digit fun c => (DB.cons (DS.ite (DC.test (DC.op (opEq c) (DE.dgt c (DE.var 0) DE.str) DE.int))
  (DB.one (DS.for c (by first | exact fun _ => PassesOwn.never | exact fun _ => PassesOwn.leaving) (DI.rng1 c T.n_range (DA.cons DE.int DA.nil)) (DG.name 2 fun _ => sc_law_digit.nd)
  (DB.cons (DS.dput c (DE.var 0) DE.str (DE.op (opAdd4 c) (DE.dgt c (DE.var 0) DE.str) DE.int))
  (DB.one (DS.dput c (DE.var 0) DE.str (DE.op (opAdd4 c) (DE.op opMul2 (DE.dgt c (DE.var 0) DE.str) DE.int) (DE.cl c L_law_mixed (by decide) rfl (DA.cons (DE.dgt c (DE.var 0) DE.str) (DA.cons (DE.dgt c (DE.var 0) DE.str) DA.nil)) (aLen_cons (aLen_cons aLen_nil))))))))) DB.nil)
  (DB.cons (DS.set 3 (DE.op opMod (DE.dgt c (DE.var 0) DE.str) (DE.var 1)) (fun _ => sc_law_digit.nd))
  (DB.cons (DS.dput c (DE.var 0) DE.str (DE.op opDiv (DE.dgt c (DE.var 0) DE.str) (DE.var 1)))
  (DB.one (DS.ret (DE.var 3))))))
abbrev ss_law_any_step : Stmt := topS 31
theorem sc_law_any_step : FnScope nn_law_any_step ["state"] (defScope ss_law_any_step) := ⟨rfl, rfl, rfl, by decide +kernel, rfl, by decide +kernel, by decide +kernel⟩
abbrev FF_law_any_step (K : PySem.W.Frag) (f : Addr) (fd : FuncData) : Prop := FunD K "_law_any_step" "_law_any_step" (defArgs ss_law_any_step) (defBody ss_law_any_step) (defScope ss_law_any_step) [] [] f fd
theorem ok_law_any_step (T : Txt ct w K mg) (L_law_digit : Lk P w K mg base "_law_digit" 2 ["state", "many"] ff_law_digit) {f : Addr} {fd : FuncData} (F : FF_law_any_step K f fd) : DFn P w K mg base 3 f fd ["state"] ff_law_any_step :=
  DFn.of F sc_law_any_step fun c => (DB.cons (DS.setLc 1 c (own := [("j", 2)]) (fun _ => sc_law_any_step.nd) (DI.rng1 c T.n_range (DA.cons DE.int DA.nil)) (fun _ => blkOk_by (N := nn_law_any_step) (by rfl)) (DG.name 2 fun _ => sc_law_any_step.nd) (by decide) DTs.nil (DE.ix (c.blk _) (DE.lst (DA.cons (DE.neg DE.int) (DA.cons DE.int (DA.cons DE.int (DA.cons (DE.op opSub (DE.cl (c.blk _) L_law_digit (by decide) rfl (DA.cons (DE.var 0) (DA.cons DE.int DA.nil)) (aLen_cons (aLen_cons aLen_nil))) DE.int) DA.nil))))) (DE.cl (c.blk _) L_law_digit (by decide) rfl (DA.cons (DE.var 0) (DA.cons DE.int DA.nil)) (aLen_cons (aLen_cons aLen_nil)))))
  (DB.cons (DS.set 3 (DE.ix c (DE.lst (DA.cons DE.int (DA.cons DE.int (DA.cons (DE.op (opAdd4 c) DE.int (DE.cl c L_law_digit (by decide) rfl (DA.cons (DE.var 0) (DA.cons DE.int DA.nil)) (aLen_cons (aLen_cons aLen_nil)))) DA.nil)))) (DE.cl c L_law_digit (by decide) rfl (DA.cons (DE.var 0) (DA.cons DE.int DA.nil)) (aLen_cons (aLen_cons aLen_nil)))) (fun _ => sc_law_any_step.nd))
  (DB.cons (DS.set 4 (DE.ix c (DE.lst (DA.cons DE.int (DA.cons DE.int (DA.cons (DE.op (opAdd4 c) DE.int (DE.cl c L_law_digit (by decide) rfl (DA.cons (DE.var 0) (DA.cons DE.int DA.nil)) (aLen_cons (aLen_cons aLen_nil)))) DA.nil)))) (DE.cl c L_law_digit (by decide) rfl (DA.cons (DE.var 0) (DA.cons DE.int DA.nil)) (aLen_cons (aLen_cons aLen_nil)))) (fun _ => sc_law_any_step.nd))
  (DB.cons (DS.set 5 (DE.lst (DA.cons (DE.tup (DA.cons DE.str (DA.cons (DE.var 3) (DA.cons (DE.var 4) DA.nil)))) (DA.cons (DE.op (opAdd4 c) (DE.tup (DA.cons DE.str DA.nil)) (DE.callTy c (cTupOf c) T.n_tuple (by decide +kernel) (DA.cons (DE.var 1) DA.nil))) (DA.cons (DE.tup (DA.cons DE.str (DA.cons (DE.cl c L_law_digit (by decide) rfl (DA.cons (DE.var 0) (DA.cons DE.int DA.nil)) (aLen_cons (aLen_cons aLen_nil))) DA.nil))) (DA.cons (DE.op (opAdd4 c) (DE.tup (DA.cons DE.str DA.nil)) (DE.callTy c (cTupOf c) T.n_tuple (by decide +kernel) (DA.cons (DE.var 1) DA.nil))) DA.nil))))) (fun _ => sc_law_any_step.nd))
  (DB.one (DS.ret (DE.ix c (DE.op (opAdd4 c) (DE.var 5) (DE.lst (DA.cons (DE.tup (DA.cons DE.str DA.nil)) DA.nil))) (DE.cl c L_law_digit (by decide) rfl (DA.cons (DE.var 0) (DA.cons DE.int DA.nil)) (aLen_cons (aLen_cons aLen_nil))))))))))
abbrev ss_law_row : Stmt := topS 32
theorem sc_law_row : FnScope nn_law_row ["step"] (defScope ss_law_row) := ⟨rfl, rfl, rfl, by decide +kernel, rfl, by decide +kernel, by decide +kernel⟩
abbrev FF_law_row (K : PySem.W.Frag) (f : Addr) (fd : FuncData) : Prop := FunD K "_law_row" "_law_row" (defArgs ss_law_row) (defBody ss_law_row) (defScope ss_law_row) [] [] f fd
theorem ok_law_row (T : Txt ct w K mg) {f : Addr} {fd : FuncData} (F : FF_law_row K f fd) : DFn P w K mg base 1 f fd ["step"] ff_law_row :=
  DFn.of F sc_law_row fun c => (DB.cons (DS.set 1 (DE.ix c (DE.var 0) DE.int) (fun _ => sc_law_row.nd))
  (DB.cons (DS.for c (by first | exact fun _ => PassesOwn.never | exact fun _ => PassesOwn.leaving) (DI.seq c (DE.sl c (DE.var 0) (DP.some DE.int) DP.none)) (DG.name 2 fun _ => sc_law_row.nd)
  (DB.one (DS.set 1 (DE.op (opAdd4 c) (DE.op (opAdd4 c) (DE.op (opAdd4 c) (DE.var 1) DE.str) (DE.ite (DC.test (DC.op opLt (DE.var 2) DE.int)) DE.str DE.str)) (DE.ix c DE.str (DE.callB c cAbs T.n_abs (by decide +kernel) (DA.cons (DE.var 2) DA.nil)))) (fun _ => sc_law_row.nd))))
  (DB.one (DS.ret (DE.var 1)))))
abbrev ss_law_number : Stmt := topS 33
theorem sc_law_number : FnScope nn_law_number ["word"] (defScope ss_law_number) := ⟨rfl, rfl, rfl, by decide +kernel, rfl, by decide +kernel, by decide +kernel⟩
abbrev FF_law_number (K : PySem.W.Frag) (f : Addr) (fd : FuncData) : Prop := FunD K "_law_number" "_law_number" (defArgs ss_law_number) (defBody ss_law_number) (defScope ss_law_number) [] [] f fd
theorem ok_law_number (T : Txt ct w K mg) {f : Addr} {fd : FuncData} (F : FF_law_number K f fd) : DFn P w K mg base 1 f fd ["word"] ff_law_number :=
  DFn.of F sc_law_number fun c => (DB.cons (DS.set 1 (DE.ite (DC.test (DC.op (opEq c) (DE.sl c (DE.var 0) DP.none (DP.some DE.int)) DE.str)) (DE.sl c (DE.var 0) (DP.some DE.int) DP.none) (DE.var 0)) (fun _ => sc_law_number.nd))
  (DB.cons (DS.ite (DW.test (DW.or (DC.test (DC.op (opEq c) (DE.var 1) DE.str)) (DW.or (DC.test (DC.op opGt (DE.callB c (cLen c) T.n_len (by decide +kernel) (DA.cons (DE.var 1) DA.nil)) DE.int)) (DW.or1 (DC.test (DC.op (opNe c) (DE.lc c (own := [("sign", 2)]) (fun _ => sc_law_number.nd) (DI.str (DE.var 1)) (fun _ => blkOk_by (N := nn_law_number) (by rfl)) (DG.name 2 fun _ => sc_law_number.nd) (by decide) (DTs.one (DC.test (DC.op (opNotIn (c.blk _)) (DE.var 2) DE.str))) (DE.var 2)) (DE.lst DA.nil)))))))
  (DB.one (DS.ret DE.non)) DB.nil)
  (DB.cons (DS.ite (DW.test (DW.or (DW.test (DW.and (DC.test (DC.op opGt (DE.callB c (cLen c) T.n_len (by decide +kernel) (DA.cons (DE.var 1) DA.nil)) DE.int)) (DW.and1 (DC.test (DC.op (opEq c) (DE.ix c (DE.var 1) DE.int) DE.str))))) (DW.or1 (DC.test (DC.op (opEq c) (DE.var 0) DE.str)))))
  (DB.one (DS.ret DE.non)) DB.nil)
  (DB.cons (DS.set 3 DE.int (fun _ => sc_law_number.nd))
  (DB.cons (DS.for c (by first | exact fun _ => PassesOwn.never | exact fun _ => PassesOwn.leaving) (DI.str (DE.var 1)) (DG.name 2 fun _ => sc_law_number.nd)
  (DB.one (DS.set 3 (DE.op (opAdd4 c) (DE.op opMul2 DE.int (DE.var 3)) (DE.smeth sIdx PySem.F.slot_str_index PySem.F.type_str_index DE.str (DE.var 2))) (fun _ => sc_law_number.nd))))
  (DB.one (DS.ret (DE.ite (DC.test (DC.op (opEq c) (DE.var 1) (DE.var 0))) (DE.var 3) (DE.op opSub DE.int (DE.var 3))))))))))
abbrev ss_law_read_row : Stmt := topS 34
theorem sc_law_read_row : FnScope nn_law_read_row ["row"] (defScope ss_law_read_row) := ⟨rfl, rfl, rfl, by decide +kernel, rfl, by decide +kernel, by decide +kernel⟩
abbrev FF_law_read_row (K : PySem.W.Frag) (f : Addr) (fd : FuncData) : Prop := FunD K "_law_read_row" "_law_read_row" (defArgs ss_law_read_row) (defBody ss_law_read_row) (defScope ss_law_read_row) [] [] f fd
theorem ok_law_read_row (T : Txt ct w K mg) (L_law_number : Lk P w K mg base "_law_number" 1 ["word"] ff_law_number) {f : Addr} {fd : FuncData} (F : FF_law_read_row K f fd) : DFn P w K mg base 2 f fd ["row"] ff_law_read_row :=
  DFn.of F sc_law_read_row fun c => (DB.cons (DS.par 1 2 c (DE.smeth sSplit PySem.F.slot_str_split PySem.F.type_str_split (DE.var 0) DE.str) (DE.lst (DA.cons (DE.tup (DA.cons (DE.neg DE.int) (DA.cons DE.int DA.nil))) (DA.cons (DE.tup (DA.cons (DE.neg DE.int) (DA.cons DE.int DA.nil))) DA.nil))) (fun _ => sc_law_read_row.nd))
  (DB.cons (DS.ite (DC.test (DC.op (opIn c) DE.str (DE.var 1)))
  (DB.one (DS.ret DE.int)) DB.nil)
  (DB.cons (DS.set 3 (DE.dic (DPs.cons DE.str (DE.lst (DA.cons (DE.tup (DA.cons DE.int (DA.cons DE.int DA.nil))) (DA.cons (DE.tup (DA.cons DE.int (DA.cons DE.int DA.nil))) DA.nil))) (DPs.cons DE.str (DE.var 2) (DPs.cons DE.str (DE.lst (DA.cons (DE.tup (DA.cons DE.int (DA.cons DE.int DA.nil))) DA.nil)) (DPs.cons DE.str (DE.var 2) (DPs.cons DE.str (DE.lst DA.nil) DPs.nil)))))) (fun _ => sc_law_read_row.nd))
  (DB.cons (DS.ite (DC.test (DC.op (opNotInL c) (DE.ix c (DE.var 1) DE.int) (DE.var 3)))
  (DB.one (DS.ret DE.int)) DB.nil)
  (DB.cons (DS.set 4 (DE.new (DA.cons (DE.ix c (DE.var 1) DE.int) DA.nil)) (fun _ => sc_law_read_row.nd))
  (DB.cons (DS.for c (by first | exact fun _ => PassesOwn.never | exact fun _ => PassesOwn.leaving) (DI.enum c T.n_enumerate (DA.cons (DE.dgt c (DE.var 3) (DE.ix c (DE.var 1) DE.int)) DA.nil)) (DG.tup c (DGs.cons (DG.name 5 fun _ => sc_law_read_row.nd) (DGs.cons (DG.tup c (DGs.cons (DG.name 6 fun _ => sc_law_read_row.nd) (DGs.cons (DG.name 7 fun _ => sc_law_read_row.nd) DGs.nil))) DGs.nil)))
  (DB.cons (DS.set 8 (DE.ite (DC.test (DC.op opLt (DE.op (opAdd4 c) (DE.var 5) DE.int) (DE.callB c (cLen c) T.n_len (by decide +kernel) (DA.cons (DE.var 1) DA.nil)))) (DE.cl c L_law_number (by decide) rfl (DA.cons (DE.ix c (DE.var 1) (DE.op (opAdd4 c) (DE.var 5) DE.int)) DA.nil) (aLen_cons aLen_nil)) DE.non) (fun _ => sc_law_read_row.nd))
  (DB.cons (DS.ite (DW.test (DW.or (DC.test (DC.op opIsN (DE.var 8) DE.non)) (DW.or1 (DT.not (DC.test (DC.chain opLe opLe (DE.var 6) (DE.var 8) (DE.var 7)))))))
  (DB.one (DS.ret (DE.op (opAdd4 c) (DE.var 5) DE.int))) DB.nil)
  (DB.one (DS.expr (DE.lmeth c mApp PySem.F.slot_list_append PySem.F.type_list_append (DE.var 4) (DA.cons (DE.var 8) DA.nil)))))))
  (DB.one (DS.ret (DE.ite (DC.test (DC.op (opEq c) (DE.callB c (cLen c) T.n_len (by decide +kernel) (DA.cons (DE.var 1) DA.nil)) (DE.callB c (cLen c) T.n_len (by decide +kernel) (DA.cons (DE.var 4) DA.nil)))) (DE.lst (DA.cons (DE.callTy c (cTupOf c) T.n_tuple (by decide +kernel) (DA.cons (DE.var 4) DA.nil)) DA.nil)) (DE.op (opAdd4 c) (DE.callB c (cLen c) T.n_len (by decide +kernel) (DA.cons (DE.var 4) DA.nil)) DE.int))))))))))
abbrev ss_law_due : Stmt := topS 35
theorem sc_law_due : FnScope nn_law_due ["text"] (defScope ss_law_due) := ⟨rfl, rfl, rfl, by decide +kernel, rfl, by decide +kernel, by decide +kernel⟩
abbrev FF_law_due (K : PySem.W.Frag) (f : Addr) (fd : FuncData) : Prop := FunD K "_law_due" "_law_due" (defArgs ss_law_due) (defBody ss_law_due) (defScope ss_law_due) [] [] f fd
theorem ok_law_due (T : Txt ct w K mg) (L_law_read_row : Lk P w K mg base "_law_read_row" 2 ["row"] ff_law_read_row) {f : Addr} {fd : FuncData} (F : FF_law_due K f fd) : DFn P w K mg base 3 f fd ["text"] ff_law_due :=
  DFn.of F sc_law_due fun c => (DB.cons (DS.set 1 (DE.new DA.nil) (fun _ => sc_law_due.nd))
  (DB.cons (DS.for c (by first | exact fun _ => PassesOwn.never | exact fun _ => PassesOwn.leaving) (DI.enum c T.n_enumerate (DA.cons (DE.ite (DC.test (DC.op (opNe c) (DE.var 0) DE.str)) (DE.smeth sSplit PySem.F.slot_str_split PySem.F.type_str_split (DE.var 0) DE.str) (DE.lst DA.nil)) DA.nil)) (DG.tup c (DGs.cons (DG.name 2 fun _ => sc_law_due.nd) (DGs.cons (DG.name 3 fun _ => sc_law_due.nd) DGs.nil)))
  (DB.cons (DS.set 4 (DE.cl c L_law_read_row (by decide) rfl (DA.cons (DE.var 3) DA.nil) (aLen_cons aLen_nil)) (fun _ => sc_law_due.nd))
  (DB.cons (DS.ite (DE.test (DE.callB c (cIsi c) T.n_isinstance (by decide +kernel) (DA.cons (DE.var 4) (DA.cons (DE.bltn c T.n_int (by decide +kernel) (v := .ty "int") rfl fun _ _ => .ty _) DA.nil))))
  (DB.one (DS.ret (DE.tup (DA.cons (DE.op (opAdd4 c) (DE.var 2) DE.int) (DA.cons (DE.var 4) DA.nil))))) DB.nil)
  (DB.one (DS.expr (DE.lmeth c mApp PySem.F.slot_list_append PySem.F.type_list_append (DE.var 1) (DA.cons (DE.ix c (DE.var 4) DE.int) DA.nil)))))))
  (DB.one (DS.ret (DE.lst (DA.cons (DE.callTy c (cTupOf c) T.n_tuple (by decide +kernel) (DA.cons (DE.var 1) DA.nil)) DA.nil))))))
abbrev ss_law_bent : Stmt := topS 36
theorem sc_law_bent : FnScope nn_law_bent ["state", "text"] (defScope ss_law_bent) := ⟨rfl, rfl, rfl, by decide +kernel, rfl, by decide +kernel, by decide +kernel⟩
abbrev FF_law_bent (K : PySem.W.Frag) (f : Addr) (fd : FuncData) : Prop := FunD K "_law_bent" "_law_bent" (defArgs ss_law_bent) (defBody ss_law_bent) (defScope ss_law_bent) [] [] f fd
theorem ok_law_bent (T : Txt ct w K mg) (L_law_digit : Lk P w K mg base "_law_digit" 2 ["state", "many"] ff_law_digit) {f : Addr} {fd : FuncData} (F : FF_law_bent K f fd) : DFn P w K mg base 3 f fd ["state", "text"] ff_law_bent :=
  DFn.of F sc_law_bent fun c => (DB.cons (DS.set 2 (DE.cl c L_law_digit (by decide) rfl (DA.cons (DE.var 0) (DA.cons DE.int DA.nil)) (aLen_cons (aLen_cons aLen_nil))) (fun _ => sc_law_bent.nd))
  (DB.cons (DS.set 3 (DE.cl c L_law_digit (by decide) rfl (DA.cons (DE.var 0) (DA.cons (DE.op (opAdd4 c) (DE.callB c (cLen c) T.n_len (by decide +kernel) (DA.cons (DE.var 1) DA.nil)) DE.int) DA.nil)) (aLen_cons (aLen_cons aLen_nil))) (fun _ => sc_law_bent.nd))
  (DB.cons (DS.ite (DC.test (DC.op (opEq c) (DE.var 2) DE.int))
  (DB.cons (DS.set 4 (DE.ix c (DE.lst (DA.cons DE.str (DA.cons DE.str (DA.cons DE.str (DA.cons DE.str (DA.cons DE.str (DA.cons DE.str (DA.cons DE.str (DA.cons DE.str (DA.cons DE.str (DA.cons DE.str DA.nil))))))))))) (DE.cl c L_law_digit (by decide) rfl (DA.cons (DE.var 0) (DA.cons DE.int DA.nil)) (aLen_cons (aLen_cons aLen_nil)))) (fun _ => sc_law_bent.nd))
  (DB.one (DS.ret (DE.op (opAdd4 c) (DE.op (opAdd4 c) (DE.sl c (DE.var 1) DP.none (DP.some (DE.var 3))) (DE.var 4)) (DE.sl c (DE.var 1) (DP.some (DE.op (opAdd4 c) (DE.var 3) (DE.cl c L_law_digit (by decide) rfl (DA.cons (DE.var 0) (DA.cons DE.int DA.nil)) (aLen_cons (aLen_cons aLen_nil))))) DP.none))))) DB.nil)
  (DB.cons (DS.ite (DC.test (DC.op (opEq c) (DE.var 2) DE.int))
  (DB.one (DS.ret (DE.sl c (DE.var 1) DP.none (DP.some (DE.var 3))))) DB.nil)
  (DB.cons (DS.set 5 (DE.smeth sSplit PySem.F.slot_str_split PySem.F.type_str_split (DE.var 1) DE.str) (fun _ => sc_law_bent.nd))
  (DB.cons (DS.set 6 (DE.cl c L_law_digit (by decide) rfl (DA.cons (DE.var 0) (DA.cons (DE.callB c (cLen c) T.n_len (by decide +kernel) (DA.cons (DE.var 5) DA.nil)) DA.nil)) (aLen_cons (aLen_cons aLen_nil))) (fun _ => sc_law_bent.nd))
  (DB.cons (DS.ite (DC.test (DC.op (opEq c) (DE.var 2) DE.int))
  (DB.one (DS.ret (DE.smeth (sJoin c) PySem.F.slot_str_join PySem.F.type_str_join DE.str (DE.op (opAdd4 c) (DE.op (opAdd4 c) (DE.sl c (DE.var 5) DP.none (DP.some (DE.var 6))) (DE.op opMul2 (DE.sl c (DE.var 5) (DP.some (DE.var 6)) (DP.some (DE.op (opAdd4 c) (DE.var 6) DE.int))) DE.int)) (DE.sl c (DE.var 5) (DP.some (DE.op (opAdd4 c) (DE.var 6) DE.int)) DP.none))))) DB.nil)
  (DB.cons (DS.ite (DC.test (DC.op (opEq c) (DE.var 2) DE.int))
  (DB.one (DS.ret (DE.smeth (sJoin c) PySem.F.slot_str_join PySem.F.type_str_join DE.str (DE.op (opAdd4 c) (DE.op (opAdd4 c) (DE.sl c (DE.var 5) DP.none (DP.some (DE.var 6))) (DE.lst (DA.cons DE.str DA.nil))) (DE.sl c (DE.var 5) (DP.some (DE.var 6)) DP.none))))) DB.nil)
  (DB.cons (DS.set 7 (DE.smeth sSplit PySem.F.slot_str_split PySem.F.type_str_split (DE.ix c (DE.var 5) (DE.var 6)) DE.str) (fun _ => sc_law_bent.nd))
  (DB.cons (DS.set 8 (DE.cl c L_law_digit (by decide) rfl (DA.cons (DE.var 0) (DA.cons (DE.op (opAdd4 c) (DE.callB c (cLen c) T.n_len (by decide +kernel) (DA.cons (DE.var 7) DA.nil)) DE.int) DA.nil)) (aLen_cons (aLen_cons aLen_nil))) (fun _ => sc_law_bent.nd))
  (DB.cons (DS.set 9 (DE.lst (DA.cons DE.str (DA.cons DE.str (DA.cons DE.str (DA.cons DE.str (DA.cons DE.str (DA.cons DE.str (DA.cons DE.str (DA.cons DE.str (DA.cons DE.str (DA.cons DE.str (DA.cons DE.str (DA.cons DE.str (DA.cons DE.str (DA.cons DE.str (DA.cons DE.str (DA.cons DE.str (DA.cons DE.str (DA.cons DE.str DA.nil))))))))))))))))))) (fun _ => sc_law_bent.nd))
  (DB.cons (DS.set 10 (DE.ix c (DE.op (opAdd4 c) (DE.var 9) (DE.lst (DA.cons DE.str (DA.cons DE.str (DA.cons DE.str DA.nil))))) (DE.cl c L_law_digit (by decide) rfl (DA.cons (DE.var 0) (DA.cons DE.int DA.nil)) (aLen_cons (aLen_cons aLen_nil)))) (fun _ => sc_law_bent.nd))
  (DB.cons (DS.par 11 12 c (DE.sl c (DE.var 7) DP.none (DP.some (DE.var 8))) (DE.sl c (DE.var 7) (DP.some (DE.var 8)) DP.none) (fun _ => sc_law_bent.nd))
  (DB.cons (DS.set 7 (DE.ix c (DE.lst (DA.cons (DE.op (opAdd4 c) (DE.op (opAdd4 c) (DE.var 11) (DE.lst (DA.cons (DE.var 10) DA.nil))) (DE.sl c (DE.var 12) (DP.some DE.int) DP.none)) (DA.cons (DE.op (opAdd4 c) (DE.op (opAdd4 c) (DE.var 11) (DE.lst (DA.cons (DE.var 10) DA.nil))) (DE.var 12)) (DA.cons (DE.op (opAdd4 c) (DE.var 11) (DE.sl c (DE.var 12) (DP.some DE.int) DP.none)) (DA.cons (DE.var 11) (DA.cons (DE.var 12) DA.nil)))))) (DE.op opSub (DE.var 2) DE.int)) (fun _ => sc_law_bent.nd))
  (DB.one (DS.ret (DE.smeth (sJoin c) PySem.F.slot_str_join PySem.F.type_str_join DE.str (DE.op (opAdd4 c) (DE.op (opAdd4 c) (DE.sl c (DE.var 5) DP.none (DP.some (DE.var 6))) (DE.lst (DA.cons (DE.smeth (sJoin c) PySem.F.slot_str_join PySem.F.type_str_join DE.str (DE.var 7)) DA.nil))) (DE.sl c (DE.var 5) (DP.some (DE.op (opAdd4 c) (DE.var 6) DE.int)) DP.none)))))))))))))))))))
abbrev ss_law_said : Stmt := topS 37
theorem sc_law_said : FnScope nn_law_said ["text"] (defScope ss_law_said) := ⟨rfl, rfl, rfl, by decide +kernel, rfl, by decide +kernel, by decide +kernel⟩
abbrev FF_law_said (K : PySem.W.Frag) (f : Addr) (fd : FuncData) : Prop := FunD K "_law_said" "_law_said" (defArgs ss_law_said) (defBody ss_law_said) (defScope ss_law_said) [] [] f fd
theorem ok_law_said (T : Txt ct w K mg) (Q_read_way : LkQ P w K mg base "read_way" 7 ["text"] (qq_read_way ct)) {f : Addr} {fd : FuncData} (F : FF_law_said K f fd) : DFn P w K mg base 8 f fd ["text"] (ff_law_said ct) :=
  DFn.of F sc_law_said fun c => (DB.cons (DS.asg (DE.tup (DA.cons DE.non (DA.cons DE.non DA.nil))) (DG.tup c (DGs.cons (DG.name 1 fun _ => sc_law_said.nd) (DGs.cons (DG.name 2 fun _ => sc_law_said.nd) DGs.nil))))
  (DB.cons (DS.tryKeepQ 3 c (fun _ => sc_law_said.nd) T.c_WorksError (fun y C h => by
    by_cases e_BadRow : y = "BadRow"
    · (rw [if_pos e_BadRow] at h; cases h; rw [e_BadRow]; exact ⟨T.c_BadRow, T.x_BadRow_WorksError, T.q_BadRow⟩)
    rw [if_neg e_BadRow] at h
    cases h)
  (fun S tk c2 => DBQ.one (DSQ.set 2 (DEQ.cl c2 tk Q_read_way (by decide) rfl (DA.cons (DE.var 0) DA.nil) (aLen_cons aLen_nil)) (fun _ => sc_law_said.nd)))
  (DB.one (DS.set 1 (DE.var 3) (fun _ => sc_law_said.nd))))
  (DB.cons (DS.ite (DC.test (DC.op opIsN (DE.var 1) DE.non))
  (DB.one (DS.ret (DE.lst (DA.cons (DE.var 2) DA.nil)))) DB.nil)
  (DB.one (DS.ret (DE.ite (DE.test (DE.callB c (cIsiF c T.isa) T.n_isinstance (by decide +kernel) (DA.cons (DE.var 1) (DA.cons (DE.gv c (GV.cls T.c_BadRow)) DA.nil)))) (DE.tup (DA.cons (DE.gvx T.okg c (DE.var 1)) (DA.cons (DE.gvx T.okg c (DE.var 1)) DA.nil))) DE.non))))))
abbrev ss_law : Stmt := topS 38
theorem sc_law : FnScope nn_law ["script"] (defScope ss_law) := ⟨rfl, rfl, rfl, by decide +kernel, rfl, by decide +kernel, by decide +kernel⟩
abbrev FF_law (K : PySem.W.Frag) (f : Addr) (fd : FuncData) : Prop := FunD K "law" "law" (defArgs ss_law) (defBody ss_law) (defScope ss_law) [] [] f fd
theorem ok_law (T : Txt ct w K mg) (L_law_draw : Lk P w K mg base "_law_draw" 1 ["cell", "k"] ff_law_draw) (L_law_digit : Lk P w K mg base "_law_digit" 2 ["state", "many"] ff_law_digit) (L_law_any_step : Lk P w K mg base "_law_any_step" 3 ["state"] ff_law_any_step) (L_law_row : Lk P w K mg base "_law_row" 1 ["step"] ff_law_row) (L_law_said : Lk P w K mg base "_law_said" 8 ["text"] (ff_law_said ct)) (L_law_due : Lk P w K mg base "_law_due" 3 ["text"] ff_law_due) (L_law_bent : Lk P w K mg base "_law_bent" 3 ["state", "text"] ff_law_bent) {f : Addr} {fd : FuncData} (F : FF_law K f fd) : DFn P w K mg base 9 f fd ["script"] (ff_law ct) :=
  DFn.of F sc_law fun c => (DB.cons (DS.for c (by first | exact fun _ => PassesOwn.never | exact fun _ => PassesOwn.leaving) (DI.enum c T.n_enumerate (DA.cons (DE.op (opAdd4 c) (DE.sl c (DE.var 0) DP.none (DP.some DE.int)) (DE.lst (DA.cons (DE.callB c (cSum c) T.n_sum (by decide +kernel) (DA.cons (DE.var 0) DA.nil)) DA.nil))) DA.nil)) (DG.tup c (DGs.cons (DG.name 1 fun _ => sc_law.nd) (DGs.cons (DG.name 2 fun _ => sc_law.nd) DGs.nil)))
  (DB.cons (DS.set 3 (DE.cl c L_law_draw (by decide) rfl (DA.cons (DE.var 2) (DA.cons (DE.var 1) DA.nil)) (aLen_cons (aLen_cons aLen_nil))) (fun _ => sc_law.nd))
  (DB.cons (DS.set 4 (DE.smeth (sJoin c) PySem.F.slot_str_join PySem.F.type_str_join DE.str (DE.lc c (own := [("j", 5)]) (fun _ => sc_law.nd) (DI.rng1 c T.n_range (DA.cons (DE.cl c L_law_digit (by decide) rfl (DA.cons (DE.var 3) (DA.cons DE.int DA.nil)) (aLen_cons (aLen_cons aLen_nil))) DA.nil)) (fun _ => blkOk_by (N := nn_law) (by rfl)) (DG.name 5 fun _ => sc_law.nd) (by decide) DTs.nil (DE.cl (c.blk _) L_law_row (by decide) rfl (DA.cons (DE.cl (c.blk _) L_law_any_step (by decide) rfl (DA.cons (DE.var 3) DA.nil) (aLen_cons aLen_nil)) DA.nil) (aLen_cons aLen_nil)))) (fun _ => sc_law.nd))
  (DB.cons (DS.ite (DC.test (DC.op (opNe c) (DE.callB c (cRepr c) T.n_repr (by decide +kernel) (DA.cons (DE.cl c L_law_said (by decide) rfl (DA.cons (DE.var 4) DA.nil) (aLen_cons aLen_nil)) DA.nil)) (DE.callB c (cRepr c) T.n_repr (by decide +kernel) (DA.cons (DE.cl c L_law_due (by decide) rfl (DA.cons (DE.var 4) DA.nil) (aLen_cons aLen_nil)) DA.nil))))
  (DB.one (DS.ret DE.bool)) DB.nil)
  (DB.cons (DS.for c (by first | exact fun _ => PassesOwn.never | exact fun _ => PassesOwn.leaving) (DI.rng1 c T.n_range (DA.cons DE.int DA.nil)) (DG.name 6 fun _ => sc_law.nd)
  (DB.cons (DS.set 7 (DE.cl c L_law_bent (by decide) rfl (DA.cons (DE.var 3) (DA.cons (DE.var 4) DA.nil)) (aLen_cons (aLen_cons aLen_nil))) (fun _ => sc_law.nd))
  (DB.cons (DS.set 7 (DE.ite (DC.test (DC.op (opEq c) (DE.cl c L_law_digit (by decide) rfl (DA.cons (DE.var 3) (DA.cons DE.int DA.nil)) (aLen_cons (aLen_cons aLen_nil))) DE.int)) (DE.cl c L_law_bent (by decide) rfl (DA.cons (DE.var 3) (DA.cons (DE.var 7) DA.nil)) (aLen_cons (aLen_cons aLen_nil))) (DE.var 7)) (fun _ => sc_law.nd))
  (DB.one (DS.ite (DC.test (DC.op (opNe c) (DE.callB c (cRepr c) T.n_repr (by decide +kernel) (DA.cons (DE.cl c L_law_said (by decide) rfl (DA.cons (DE.var 7) DA.nil) (aLen_cons aLen_nil)) DA.nil)) (DE.callB c (cRepr c) T.n_repr (by decide +kernel) (DA.cons (DE.cl c L_law_due (by decide) rfl (DA.cons (DE.var 7) DA.nil) (aLen_cons aLen_nil)) DA.nil))))
  (DB.one (DS.ret DE.bool)) DB.nil)))))
  (DB.cons (DS.set 8 (DE.ix c (DE.lst (DA.cons DE.non (DA.cons DE.int (DA.cons (DE.tup (DA.cons DE.str DA.nil)) (DA.cons (DE.lst (DA.cons DE.str DA.nil)) (DA.cons DE.bool DA.nil)))))) (DE.cl c L_law_digit (by decide) rfl (DA.cons (DE.var 3) (DA.cons DE.int DA.nil)) (aLen_cons (aLen_cons aLen_nil)))) (fun _ => sc_law.nd))
  (DB.one (DS.ite (DC.test (DC.op (opNe c) (DE.cl c L_law_said (by decide) rfl (DA.cons (DE.var 8) DA.nil) (aLen_cons aLen_nil)) (DE.tup (DA.cons DE.int (DA.cons DE.int DA.nil)))))
  (DB.one (DS.ret DE.bool)) DB.nil))))))))
  (DB.one (DS.ret DE.bool)))
end
end Law

namespace Law
open PySem L2 Pl
/-- a fraction as a value -/
def R (q : Rat) : D := .tup [.int q.num, .int (q.den : Int)]
theorem dOk {t s : Int} (h : s ≠ 0) (hb : s.natAbs < 2 ^ 8000) : DivOk t s := divOk h hb (by decide) (by decide)
theorem fdiv_dvd {a s : Int} (h : s ∣ a) : a.fdiv s = a / s := by
  obtain ⟨c, rfl⟩ := h
  by_cases hs : s = 0
  · subst hs; simp
  · rw [Int.mul_fdiv_cancel_left _ hs, Int.mul_ediv_cancel_left _ hs]
end Law

namespace Law
open PySem L2 Pl
class Sz (k : outParam Nat) (q : Rat) : Prop where
  num : q.num.natAbs < 2 ^ (128 * k)
  den : q.den < 2 ^ (128 * k)
theorem ix0 {q : Rat} {M : Mh} : gIx (R q) (.int 0) M = some (.int q.num, M) := rfl
theorem ix1 {q : Rat} {M : Mh} : gIx (R q) (.int 1) M = some (.int (q.den : Int), M) := rfl
theorem mul_int {i j : Int} (h : MulOk i j) {M : Mh} : gMul (.int i) (.int j) M = some (.int (i * j), M) := if_pos h
theorem add_int {i j : Int} {M : Mh} : gAdd (.int i) (.int j) M = some (.int (i + j), M) := rfl
section
variable {a b c : Rat} {i j k : Nat}
theorem szd (h : Sz i a) : ((a.den : Nat) : Int).natAbs < 2 ^ (128 * i) := h.den
theorem mOk {x y : Int} (hx : x.natAbs < 2 ^ (128 * i)) (hy : y.natAbs < 2 ^ (128 * j)) (h : i + j ≤ 30) : MulOk x y := mulOk hx hy (by omega)
theorem mSz {x y : Nat} (hx : x < 2 ^ (128 * i)) (hy : y < 2 ^ (128 * j)) : x * y < 2 ^ (128 * (i + j)) := by
  rw [Nat.mul_add, Nat.pow_add]
  exact Nat.mul_lt_mul'' hx hy
theorem up1 {x : Nat} (h : x < 2 ^ (128 * i)) (hij : i ≤ j) : x < 2 ^ (128 * j) := Nat.lt_of_lt_of_le h (Nat.pow_le_pow_right (by decide) (by omega))
theorem up8 {x : Nat} (h : x < 2 ^ (128 * i)) (hij : i ≤ 60) : x < 2 ^ 8000 := Nat.lt_of_lt_of_le h (Nat.pow_le_pow_right (by decide) (by omega))
theorem den0 (a : Rat) : (a.den : Int) ≠ 0 := by have := a.den_pos; omega
theorem dd0 (a b : Rat) : (a.den : Int) * b.den ≠ 0 := Int.mul_ne_zero (den0 a) (den0 b)
theorem add_eq (a b : Rat) : Rat.divInt (a.num * b.den + b.num * a.den) (a.den * b.den) = a + b := by
  rw [← Rat.divInt_add_divInt _ _ (den0 a) (den0 b), Rat.num_divInt_den, Rat.num_divInt_den]
theorem sub_eq (a b : Rat) : Rat.divInt (a.num * b.den - b.num * a.den) (a.den * b.den) = a - b := by
  rw [← Rat.divInt_sub_divInt _ _ (den0 a) (den0 b), Rat.num_divInt_den, Rat.num_divInt_den]
theorem mul_eq (a b : Rat) : Rat.divInt (a.num * b.num) (a.den * b.den) = a * b := by
  rw [← Rat.divInt_mul_divInt, Rat.num_divInt_den, Rat.num_divInt_den]
theorem div_eq (a b : Rat) : Rat.divInt (a.num * b.den) (a.den * b.num) = a / b := by
  rw [← Rat.divInt_mul_divInt, Rat.num_divInt_den, Rat.div_def, Rat.inv_def]
theorem mean_eq (a b : Rat) : Rat.divInt (a.num * b.den + b.num * a.den) (2 * a.den * b.den) = (a + b) / 2 := by
  rw [Int.mul_assoc, ← Int.one_mul (a.num * b.den + b.num * a.den), ← Rat.divInt_mul_divInt, add_eq]
  have : Rat.divInt 1 2 = 1 / 2 := by decide +kernel
  rw [this]
  grind
theorem num_le {t b : Int} : (Rat.divInt t b).num.natAbs ≤ t.natAbs := by
  rw [Rat.num_divInt]
  refine Nat.le_trans (Int.natAbs_ediv_le_natAbs _ _) ?_
  rw [Int.natAbs_mul]
  have : b.sign.natAbs ≤ 1 := by
    rcases Int.lt_trichotomy b 0 with h | h | h
    · rw [Int.sign_eq_neg_one_of_neg h]; decide
    · rw [h]; decide
    · rw [Int.sign_eq_one_of_pos h]; decide
  exact Nat.le_trans (Nat.mul_le_mul_right _ this) (by omega)
theorem den_le {t b : Int} (h : b ≠ 0) : (Rat.divInt t b).den ≤ b.natAbs := by
  rw [Rat.den_divInt, if_neg h]
  exact Nat.div_le_self _ _
theorem sum_lt {x y : Int} (hx : x.natAbs < 2 ^ (128 * i)) (hy : y.natAbs < 2 ^ (128 * i)) : (x + y).natAbs < 2 ^ (128 * (i + 1)) := by
  have : 2 ^ (128 * (i + 1)) = 2 ^ (128 * i) * 2 ^ 128 := by rw [← Nat.pow_add]; congr 1
  have h2 : 2 ^ (128 * i) * 2 ≤ 2 ^ (128 * i) * 2 ^ 128 := Nat.mul_le_mul_left _ (by decide)
  have h3 := Int.natAbs_add_le x y
  omega
instance szAdd [ha : Sz i a] [hb : Sz j b] : Sz (i + j + 1) (a + b) where
  num := by
    rw [← add_eq]
    refine Nat.lt_of_le_of_lt num_le (sum_lt ?_ ?_)
    · rw [Int.natAbs_mul]; exact mSz ha.num hb.den
    · rw [Int.natAbs_mul, Nat.add_comm i j]; exact mSz hb.num ha.den
  den := by
    rw [← add_eq]
    refine Nat.lt_of_le_of_lt (den_le (dd0 a b)) (up1 (i := i + j) ?_ (by omega))
    rw [Int.natAbs_mul]; exact mSz ha.den hb.den
instance szSub [ha : Sz i a] [hb : Sz j b] : Sz (i + j + 1) (a - b) where
  num := by
    rw [← sub_eq, Int.sub_eq_add_neg]
    refine Nat.lt_of_le_of_lt num_le (sum_lt ?_ ?_)
    · rw [Int.natAbs_mul]; exact mSz ha.num hb.den
    · rw [Int.natAbs_neg, Int.natAbs_mul, Nat.add_comm i j]; exact mSz hb.num ha.den
  den := by
    rw [← sub_eq]
    refine Nat.lt_of_le_of_lt (den_le (dd0 a b)) (up1 (i := i + j) ?_ (by omega))
    rw [Int.natAbs_mul]; exact mSz ha.den hb.den
instance szMul [ha : Sz i a] [hb : Sz j b] : Sz (i + j) (a * b) where
  num := by
    rw [← mul_eq]
    refine Nat.lt_of_le_of_lt num_le ?_
    rw [Int.natAbs_mul]; exact mSz ha.num hb.num
  den := by
    rw [← mul_eq]
    refine Nat.lt_of_le_of_lt (den_le (dd0 a b)) ?_
    rw [Int.natAbs_mul]; exact mSz ha.den hb.den
instance sz0 : Sz 1 0 := ⟨by decide, by decide⟩
instance sz1 : Sz 1 1 := ⟨by decide, by decide⟩
instance sz2 : Sz 1 2 := ⟨by decide, by decide⟩
theorem two0 : (2 : Rat) ≠ 0 := by decide
instance szDiv [ha : Sz i a] [hb : Sz j b] : Sz (i + j) (a / b) where
  num := by
    rw [← div_eq]
    refine Nat.lt_of_le_of_lt num_le ?_
    rw [Int.natAbs_mul]; exact mSz ha.num hb.den
  den := by
    by_cases h : b = 0
    · rw [h, Rat.div_def, Rat.inv_zero, Rat.mul_zero]
      exact Nat.one_lt_two_pow_iff.mpr (by
        have h1 : i ≠ 0 := fun z => by subst z; have := ha.den; have := a.den_pos; omega
        omega)
    rw [← div_eq]
    refine Nat.lt_of_le_of_lt (den_le (Int.mul_ne_zero (den0 a) (fun z => h (Rat.num_eq_zero.mp z)))) ?_
    rw [Int.natAbs_mul]; exact mSz ha.den hb.num
theorem toP_R (q : Rat) : toP (R q) = some (.tuple [.int q.num, .int q.den]) := rfl
theorem eq_R (h : PyData → PyData → Bool) (p q : Rat) (M : Mh) : gEq h (R p) (R q) M = some (.bl (h (.tuple [.int p.num, .int p.den]) (.tuple [.int q.num, .int q.den])), M) := rfl
theorem eqv_R (p q : Rat) : PyData.eqv (.tuple [.int p.num, .int p.den]) (.tuple [.int q.num, .int q.den]) = decide (p = q) := by
  have e : PyData.eqv (.tuple [.int p.num, .int p.den]) (.tuple [.int q.num, .int q.den]) = ((p.num == q.num) && ((p.den : Int) == q.den)) := by
    simp [PyData.eqv, PyData.eqvAll]
  rw [e]
  by_cases h : p = q
  · subst h; simp
  · rw [decide_eq_false h]
    simp only [Bool.and_eq_false_iff, beq_eq_false_iff_ne]
    by_cases h1 : p.num = q.num
    · exact .inr fun h2 => h (Rat.ext h1 (by omega))
    · exact .inl h1
theorem ne_R (p q : Rat) (M : Mh) : gEq (fun p q => !PyData.eqv p q) (R p) (R q) M = some (.bl (!decide (p = q)), M) := by rw [eq_R, eqv_R]
theorem eq_R' (p q : Rat) (M : Mh) : gEq PyData.eqv (R p) (R q) M = some (.bl (decide (p = q)), M) := by rw [eq_R, eqv_R]
theorem eqv_int (i j : Int) : PyData.eqv (.int i) (.int j) = decide (i = j) := by
  by_cases h : i = j
  · subst h; simp [PyData.eqv]
  · rw [decide_eq_false h]; simp [PyData.eqv, h]
theorem eq_int (i j : Int) (M : Mh) : gEq PyData.eqv (.int i) (.int j) M = some (.bl (decide (i = j)), M) := by
  rw [← eqv_int]; rfl
theorem ne_int (i j : Int) (M : Mh) : gEq (fun p q => !PyData.eqv p q) (.int i) (.int j) M = some (.bl (!decide (i = j)), M) := by
  rw [← eqv_int]; rfl
theorem eq_bl (i j : Bool) (M : Mh) : gEq PyData.eqv (.bl i) (.bl j) M = some (.bl (i == j), M) := by
  cases i <;> cases j <;> rfl
theorem ne_bl (i j : Bool) (M : Mh) : gEq (fun p q => !PyData.eqv p q) (.bl i) (.bl j) M = some (.bl (!(i == j)), M) := by
  cases i <;> cases j <;> rfl
theorem r01 : D.tup [.int 0, .int 1] = R 0 := by simp [R]
theorem r11 : D.tup [.int 1, .int 1] = R 1 := by simp [R]
theorem r21 : D.tup [.int 2, .int 1] = R 2 := by simp [R]
/-- the told order -/
def cmpR (a b : Rat) : Int := if a < b then -1 else if b < a then 1 else 0
theorem kit_tt : kitB "tuple" "tuple" = some true := by decide +kernel
theorem kit_ii : kitB "int" "int" = some true := by decide +kernel
theorem kit_ib : kitB "int" "bool" = some false := by decide +kernel
theorem kit_ss : kitB "str" "str" = some true := by decide +kernel
end
end Law

namespace Law
open PySem L2 Pl
theorem x_tV {f : EF} {δ : Pl.Env} {M : Mh} : tV f δ M = (match f δ M with | some (.bl b, M1) => some (b, M1) | _ => none) := (fun h => h) (by unfold tV; rfl)
theorem x_eOp {g : O2} {fa fb : EF} {δ : Pl.Env} {M : Mh} : eOp g fa fb δ M = (match fa δ M with | some (a, M1) => (match fb δ M1 with | some (b, M2) => g a b M2 | none => none) | none => none) := (fun h => h) (by unfold eOp; rfl)
theorem x_eCall {F : Fn} {g : AF} {dds : List D} {δ : Pl.Env} {M : Mh} : eCall F g dds δ M = (match g δ M with | some (ds, M1) => F (ds ++ dds) M1 | none => none) := (fun h => h) (by unfold eCall; rfl)
theorem x_eCallK {F : Fn} {g gk : AF} {h : List D → List D → List D} {δ : Pl.Env} {M : Mh} : eCallK F g gk h δ M = (match g δ M with | some (ds, M1) => (match gk δ M1 with | some (zs, M2) => F (h ds zs) M2 | none => none) | none => none) := (fun h => h) (by unfold eCallK; rfl)
theorem x_aCons {f : EF} {g : AF} {δ : Pl.Env} {M : Mh} : aCons f g δ M = (match f δ M with | some (d, M1) => (match g δ M1 with | some (ds, M2) => some (d :: ds, M2) | none => none) | none => none) := (fun h => h) (by unfold aCons; rfl)
theorem x_aNil {δ : Pl.Env} {M : Mh} : aNil δ M = some ([], M) := (fun h => h) (by unfold aNil; rfl)
theorem x_eC {δ : Pl.Env} {M : Mh} {d : D} : eC d δ M = some (d, M) := (fun h => h) (by unfold eC; rfl)
theorem x_eVar {i : Nat} {δ : Pl.Env} {M : Mh} : eVar i δ M = (match δ[i]? with | some (some d) => some (d, M) | _ => none) := (fun h => h) (by unfold eVar; rfl)
theorem x_tNt {f : TF} {δ : Pl.Env} {M : Mh} : tNt f δ M = (match f δ M with | some (b, M1) => some (!b, M1) | none => none) := (fun h => h) (by unfold tNt; rfl)
theorem x_tAn {f g : TF} {δ : Pl.Env} {M : Mh} : tAn f g δ M = (match f δ M with | some (true, M1) => g δ M1 | some (false, M1) => some (false, M1) | none => none) := (fun h => h) (by unfold tAn; rfl)
theorem x_tOrr {f g : TF} {δ : Pl.Env} {M : Mh} : tOrr f g δ M = (match f δ M with | some (true, M1) => some (true, M1) | some (false, M1) => g δ M1 | none => none) := (fun h => h) (by unfold tOrr; rfl)
theorem x_eAn {f g : EF} {δ : Pl.Env} {M : Mh} : eAn f g δ M = (match f δ M with | some (.bl true, M1) => g δ M1 | some (.bl false, M1) => some (.bl false, M1) | _ => none) := (fun h => h) (by unfold eAn; rfl)
theorem x_eOr {f g : EF} {δ : Pl.Env} {M : Mh} : eOr f g δ M = (match f δ M with | some (.bl true, M1) => some (.bl true, M1) | some (.bl false, M1) => g δ M1 | _ => none) := (fun h => h) (by unfold eOr; rfl)
theorem x_eB {g : GL} {f : AF} {δ : Pl.Env} {M : Mh} : eB g f δ M = (match f δ M with | some (ds, M1) => g ds M1 | none => none) := (fun h => h) (by unfold eB; rfl)
theorem x_eTup {f : AF} {δ : Pl.Env} {M : Mh} {ds : List D} {M1 : Mh} (h : f δ M = some (ds, M1)) (hl : ds.length ≤ 1000) : eTup f δ M = some (.tup ds, M1) := by
  unfold eTup; rw [h]; exact if_pos (Nat.le_trans hl (by decide))
theorem x_eLst {f : AF} {δ : Pl.Env} {M : Mh} {ds : List D} {M1 : Mh} (h : f δ M = some (ds, M1)) (hl : ds.length ≤ 1000) : eLst f δ M = some (.lst ds, M1) := by
  unfold eLst; rw [h]; exact if_pos (Nat.le_trans hl (by decide))
theorem x_eNt {f : EF} {δ : Pl.Env} {M M1 : Mh} {b : Bool} (h : f δ M = some (.bl b, M1)) : eNt f δ M = some (.bl (!b), M1) := by
  unfold eNt; rw [h]
theorem seq_nx {f g : SF} {δ δ' : Pl.Env} {M M1 : Mh} {r : Option Out} (h : f δ M = some (.nx δ' M1)) (k : g δ' M1 = r) : sSeq f g δ M = r := by
  unfold sSeq; rw [h]; exact k
theorem seq_rt {f g : SF} {δ : Pl.Env} {M M1 : Mh} {d : D} (h : f δ M = some (.rt d M1)) : sSeq f g δ M = some (.rt d M1) := by
  unfold sSeq; rw [h]
theorem if_ff {t : TF} {f g : SF} {δ : Pl.Env} {M M1 : Mh} {r : Option Out} (h : t δ M = some (false, M1)) (k : g δ M1 = r) : sIf t f g δ M = r := by
  unfold sIf; rw [h]; exact k
theorem if_tt {t : TF} {f g : SF} {δ : Pl.Env} {M M1 : Mh} {r : Option Out} (h : t δ M = some (true, M1)) (k : f δ M1 = r) : sIf t f g δ M = r := by
  unfold sIf; rw [h]; exact k
theorem nil_of {δ : Pl.Env} {M : Mh} : sNil δ M = some (.nx δ M) := (fun h => h) (by unfold sNil; rfl)
theorem seq_if0 {t : TF} {f g : SF} {δ : Pl.Env} {M M1 : Mh} {r : Option Out} (h : t δ M = some (false, M1)) (k : g δ M1 = r) : sSeq (sIf t f sNil) g δ M = r :=
  seq_nx (if_ff h nil_of) k
theorem seq_if1 {t : TF} {f f2 g : SF} {δ : Pl.Env} {M M1 M2 : Mh} {d : D} (h : t δ M = some (true, M1)) (k : f δ M1 = some (.rt d M2)) : sSeq (sIf t f f2) g δ M = some (.rt d M2) :=
  seq_rt (if_tt h k)
theorem as_of {f : EF} {p : GF} {δ δ' : Pl.Env} {M M1 : Mh} {d : D} (h : f δ M = some (d, M1)) (hp : p d δ = some δ') : sAs f p δ M = some (.nx δ' M1) := by
  unfold sAs; rw [h]; dsimp only; rw [hp]
theorem seq_as {f : EF} {p : GF} {g : SF} {δ δ' : Pl.Env} {M M1 : Mh} {d : D} {r : Option Out} (h : f δ M = some (d, M1)) (hp : p d δ = some δ') (k : g δ' M1 = r) : sSeq (sAs f p) g δ M = r :=
  seq_nx (as_of h hp) k
theorem ret_of {f : EF} {δ : Pl.Env} {M M1 : Mh} {d : D} (h : f δ M = some (d, M1)) : sRet f δ M = some (.rt d M1) := by
  unfold sRet; rw [h]
theorem fn_rt {n : Nat} {g : SF} {ds : List D} {M M1 : Mh} {d : D} (h : g (startD n ds) M = some (.rt d M1)) : fnF n g ds M = some (d, M1) := by
  unfold fnF; rw [h]
theorem or0 {f g : TF} {δ : Pl.Env} {M M1 : Mh} {r : Option (Bool × Mh)} (h : f δ M = some (false, M1)) (k : g δ M1 = r) : tOrr f g δ M = r := by
  unfold tOrr; rw [h]; exact k
theorem or1 {f g : TF} {δ : Pl.Env} {M M1 : Mh} (h : f δ M = some (true, M1)) : tOrr f g δ M = some (true, M1) := by
  unfold tOrr; rw [h]
theorem an1 {f g : TF} {δ : Pl.Env} {M M1 : Mh} {r : Option (Bool × Mh)} (h : f δ M = some (true, M1)) (k : g δ M1 = r) : tAn f g δ M = r := by
  unfold tAn; rw [h]; exact k
theorem an0 {f g : TF} {δ : Pl.Env} {M M1 : Mh} (h : f δ M = some (false, M1)) : tAn f g δ M = some (false, M1) := by
  unfold tAn; rw [h]
theorem op_of {g : O2} {fa fb : EF} {δ : Pl.Env} {M M1 M2 : Mh} {a b : D} {r : Option (D × Mh)} (h1 : fa δ M = some (a, M1)) (h2 : fb δ M1 = some (b, M2)) (h3 : g a b M2 = r) : eOp g fa fb δ M = r := by
  unfold eOp; rw [h1]; dsimp only; rw [h2]; exact h3
theorem v_bl {f : EF} {δ : Pl.Env} {M M1 : Mh} {b : Bool} (h : f δ M = some (.bl b, M1)) : tV f δ M = some (b, M1) := by
  unfold tV; rw [h]
theorem nt_of {f : TF} {δ : Pl.Env} {M M1 : Mh} {b : Bool} (h : f δ M = some (b, M1)) : tNt f δ M = some (!b, M1) := by
  unfold tNt; rw [h]
theorem call_of {F : Fn} {g : AF} {dds ds : List D} {δ : Pl.Env} {M M1 : Mh} {r : Option (D × Mh)} (h : g δ M = some (ds, M1)) (k : F (ds ++ dds) M1 = r) : eCall F g dds δ M = r := by
  unfold eCall; rw [h]; exact k
theorem cons_of {f : EF} {g : AF} {δ : Pl.Env} {M M1 M2 : Mh} {d : D} {ds : List D} (h : f δ M = some (d, M1)) (k : g δ M1 = some (ds, M2)) : aCons f g δ M = some (d :: ds, M2) := by
  unfold aCons; rw [h]; dsimp only; rw [k]
theorem eq_nil (M : Mh) : gEq PyData.eqv (.lst []) (.lst []) M = some (.bl true, M) := by
  simp [gEq, toP, deref, toPs, PyData.eqv, PyData.eqvAll, SeqAt.shaped]
  decide +kernel
theorem tup01 {δ : Pl.Env} {M : Mh} : eTup (aCons (eC (.int 0)) (aCons (eC (.int 1)) aNil)) δ M = some (R 0, M) := by
  rw [← r01]; exact x_eTup (cons_of x_eC (cons_of x_eC x_aNil)) (by decide)
theorem tup11 {δ : Pl.Env} {M : Mh} : eTup (aCons (eC (.int 1)) (aCons (eC (.int 1)) aNil)) δ M = some (R 1, M) := by
  rw [← r11]; exact x_eTup (cons_of x_eC (cons_of x_eC x_aNil)) (by decide)
theorem tup21 {δ : Pl.Env} {M : Mh} : eTup (aCons (eC (.int 2)) (aCons (eC (.int 1)) aNil)) δ M = some (R 2, M) := by
  rw [← r21]; exact x_eTup (cons_of x_eC (cons_of x_eC x_aNil)) (by decide)
end Law

namespace Law
open PySem L2 Pl
section
variable {a b c : Rat}
end
end Law

namespace Law
open PySem L2 Pl
theorem c1 (a b : Rat) : cmpR a b = 0 - cmpR b a := by unfold cmpR; grind
theorem c2 (a b : Rat) : decide (cmpR a b = 0) = decide (a = b) := by unfold cmpR; grind
theorem c3 (a b c : Rat) : cmpR (a + c) (b + c) = cmpR a b := by unfold cmpR; grind
theorem c4 (a b : Rat) : cmpR (a - b) 0 = cmpR a b := by unfold cmpR; grind
theorem c5 (a b c : Rat) (h1 : ¬ c < 0) (h2 : c ≠ 0) : cmpR (a * c) (b * c) = cmpR a b := by
  have hc : 0 < c := by grind
  have e1 : (a * c < b * c) ↔ a < b := Rat.mul_lt_mul_right hc
  have e2 : (b * c < a * c) ↔ b < a := Rat.mul_lt_mul_right hc
  unfold cmpR
  simp only [e1, e2]
theorem c6 (a b : Rat) (h : a < b) : ¬ (a + b) / 2 < a ∧ ¬ b < (a + b) / 2 ∧ (a + b) / 2 ≠ a ∧ (a + b) / 2 ≠ b := by grind
theorem c7 (a : Rat) : ¬ a < (a.floor : Rat) ∧ a < (a.floor : Rat) + 1 := by
  refine ⟨?_, ?_⟩
  · have := Rat.floor_le (a := a); grind
  · have := Rat.lt_floor (x := a); grind
theorem intC_of {C : Int → Int → Prop} [∀ i j, Decidable (C i j)] {f : Int → Int → D} {i j : Int} {M : Mh} (h : C i j) : gIntC C f (.int i) (.int j) M = some (f i j, M) := if_pos h
theorem sWh_ff {c : TF} {b : SF} {δ : Pl.Env} {M M1 : Mh} (h : c δ M = some (false, M1)) : sWh c b δ M = some (.nx δ M1) := by
  rw [sWh_eq, h]
theorem sWh_tt {c : TF} {b : SF} {δ δ' : Pl.Env} {M M1 M2 : Mh} {r : Option Out} (h : c δ M = some (true, M1)) (k : b δ M1 = some (.nx δ' M2)) (q : sWh c b δ' M2 = r) : sWh c b δ M = r := by
  rw [sWh_eq, h]; dsimp only; rw [k]; exact q
section
variable {a b c : Rat} {i j : Nat}
end
end Law


namespace Law
open PySem L2 Pl
theorem in_two (p q r : Rat) (M : Mh) : gIn (fun b => b) (R p) (.tup [R q, R r]) M = some (.bl (decide (q = p) || decide (r = p)), M) := by
  have e : gIn (fun b => b) (R p) (.tup [R q, R r]) M = some (.bl ([PyData.tuple [.int q.num, .int q.den], PyData.tuple [.int r.num, .int r.den]].any fun z => PyData.eqv z (.tuple [.int p.num, .int p.den])), M) := rfl
  rw [e]
  simp only [List.any_cons, List.any_nil, eqv_R, Bool.or_false]
section
variable {a b c : Rat}
theorem szI {z : Int} (h : z.natAbs < 2 ^ 128) : Sz 1 (z : Rat) := ⟨by simpa using h, by simp⟩
theorem fl_sz [ha : Sz 1 a] : a.floor.natAbs < 2 ^ 128 := by
  rw [Rat.floor_def]
  exact Nat.lt_of_le_of_lt (Int.natAbs_ediv_le_natAbs _ _) ha.num
end
end Law

namespace Law
open PySem L2 Pl
/-- what draws are made by -/
def dk (l c t : Int) : MO := .dic [(.inr "left", .int l), (.inr "cell", .int c), (.inr "turns", .int t)]
theorem k1 : ¬ (("cell" : Str) = "left") := by decide +kernel
theorem k2 : ¬ (("turns" : Str) = "left") := by decide +kernel
theorem k3 : ¬ (("left" : Str) = "cell") := by decide +kernel
theorem k4 : ¬ (("turns" : Str) = "cell") := by decide +kernel
theorem k5 : ¬ (("left" : Str) = "turns") := by decide +kernel
theorem k6 : ¬ (("cell" : Str) = "turns") := by decide +kernel
section
variable {n : Nat} {l c t v : Int} {M : Mh}
theorem get_l (h : M[n]? = some (dk l c t)) : gDget (.ref n) (.str "left") M = some (.int l, M) := by
  simp [gDget, dicOf, h, dk, keyOf, Pl.dget]
theorem get_c (h : M[n]? = some (dk l c t)) : gDget (.ref n) (.str "cell") M = some (.int c, M) := by
  simp [gDget, dicOf, h, dk, keyOf, Pl.dget, List.find?, k3]
theorem get_t (h : M[n]? = some (dk l c t)) : gDget (.ref n) (.str "turns") M = some (.int t, M) := by
  simp [gDget, dicOf, h, dk, keyOf, Pl.dget, List.find?, k5, k6]
theorem put_l (h : M[n]? = some (dk l c t)) : gDput (.ref n) (.str "left") (.int v) M = some (M.set n (dk v c t)) := by
  simp [gDput, h, dk, keyOf, sizeLine, Pl.dput, k1, k2]
theorem put_t (h : M[n]? = some (dk l c t)) : gDput (.ref n) (.str "turns") (.int v) M = some (M.set n (dk l c v)) := by
  simp [gDput, h, dk, keyOf, sizeLine, Pl.dput, k5, k6]
theorem set_at {m m' : MO} (h : M[n]? = some m) : (M.set n m')[n]? = some m' := by
  have : n < M.length := (List.getElem?_eq_some_iff.mp h).1
  simp [this]
theorem put_of {f g h : EF} {δ : Pl.Env} {M1 M2 M3 M4 : Mh} {a b v : D} (h1 : h δ M = some (v, M1)) (h2 : f δ M1 = some (a, M2)) (h3 : g δ M2 = some (b, M3)) (h4 : gDput a b v M3 = some M4) : sDput f g h δ M = some (.nx δ M4) := by
  unfold sDput; rw [h1]; dsimp only; rw [h2]; dsimp only; rw [h3]; dsimp only; rw [h4]
theorem fm {a b : Int} (h : 0 < b) : 0 ≤ a.fmod b ∧ a.fmod b < b := ⟨Int.fmod_nonneg_of_pos _ h, Int.fmod_lt_of_pos _ h⟩
theorem mixed_ok {k : Int} (h0 : 0 ≤ k) (h1 : k < 2 ^ 60) : ∃ r : Int, ff_law_mixed [.int c, .int k] M = some (.int r, M) ∧ 0 ≤ r ∧ r < 2147483647 := by
  have hk := fm (a := k) (b := 4) (by decide)
  have ix : ∃ m : Int, gIx (.lst [.int 1000000007, .int 998244353, .int 2147483629, .int 1000000009]) (.int (k.fmod 4)) M = some (.int m, M) ∧ 0 < m ∧ m < 2 ^ 40 := by
    have : k.fmod 4 = 0 ∨ k.fmod 4 = 1 ∨ k.fmod 4 = 2 ∨ k.fmod 4 = 3 := by omega
    rcases this with e | e | e | e <;> rw [e]
    · exact ⟨1000000007, rfl, by decide, by decide⟩
    · exact ⟨998244353, rfl, by decide, by decide⟩
    · exact ⟨2147483629, rfl, by decide, by decide⟩
    · exact ⟨1000000009, rfl, by decide, by decide⟩
  obtain ⟨m, im, m0, m1⟩ := ix
  have hc := fm (a := c) m0
  have o1 : Pl.MulOk 7919 k := mulOk (a := 64) (b := 64) (by decide) (by omega) (by decide)
  have o2 : Pl.MulOk (c.fmod m + 7919 * k + 13) (c.fmod m + 7919 * k + 13) := mulOk (a := 100) (b := 100) (by omega) (by omega) (by decide)
  have h5 := fm (a := (c.fmod m + 7919 * k + 13) * (c.fmod m + 7919 * k + 13)) (b := 2147483647) (by decide)
  have o3 : Pl.MulOk (((c.fmod m + 7919 * k + 13) * (c.fmod m + 7919 * k + 13)).fmod 2147483647) 48271 := mulOk (a := 100) (b := 100) (by omega) (by decide) (by decide)
  have h6 := fm (a := ((c.fmod m + 7919 * k + 13) * (c.fmod m + 7919 * k + 13)).fmod 2147483647 * 48271) (b := 2147483647) (by decide)
  refine ⟨_, fn_rt ?_, h6.1, h6.2⟩
  show gg_law_mixed [some (.int c), some (.int k), none] M = _
  unfold gg_law_mixed
  refine seq_as (d := .int (c.fmod m + 7919 * k + 13)) (M1 := M) (δ' := [some (.int c), some (.int k), some (.int (c.fmod m + 7919 * k + 13))]) ?_ rfl ?_
  · exact op_of (op_of (op_of rfl (op_of (x_eLst (cons_of x_eC (cons_of x_eC (cons_of x_eC (cons_of x_eC x_aNil)))) (by simp)) (op_of rfl rfl (intC_of (by decide))) im) (intC_of (by omega))) (op_of rfl rfl (mul_int o1)) add_int) rfl add_int
  · exact ret_of (op_of (op_of (op_of (op_of rfl rfl (mul_int o2)) rfl (intC_of (by decide))) rfl (mul_int o3)) rfl (intC_of (by decide)))
/-- the draws' things stand there -/
def At (n : Nat) (B : Int) (M : Mh) : Prop := ∃ l c t : Int, M[n]? = some (dk l c t) ∧ 0 ≤ l ∧ 0 ≤ t ∧ t ≤ B
theorem fill_ok {t : Int} (h : M[n]? = some (dk 0 c t)) (h0 : 0 ≤ t) (h1 : t + 4 < 2 ^ 59) (x y z : Option D) : ∃ l' : Int, sFor (aRng1 (aCons (eC (.int 4)) aNil)) (gN 2) (sSeq (sDput (eVar 0) (eC (.str "turns")) (eOp gAdd (eOp gDget (eVar 0) (eC (.str "turns"))) (eC (.int 1)))) (sDput (eVar 0) (eC (.str "left")) (eOp gAdd (eOp gMul (eOp gDget (eVar 0) (eC (.str "left"))) (eC (.int 2147483647))) (eCall ff_law_mixed (aCons (eOp gDget (eVar 0) (eC (.str "cell"))) (aCons (eOp gDget (eVar 0) (eC (.str "turns"))) aNil)) [])))) [some (.ref n), x, y, z] M = some (.nx [some (.ref n), x, some (.int 3), z] (M.set n (dk l' c (t + 4)))) ∧ 0 ≤ l' := by
  have step : ∀ (l t : Int) (N : Mh) (y : Option D), N[n]? = some (dk l c t) → 0 ≤ t → t + 1 < 2 ^ 60 → 0 ≤ l → l < 2 ^ 200 → ∃ l' : Int, sSeq (sDput (eVar 0) (eC (.str "turns")) (eOp gAdd (eOp gDget (eVar 0) (eC (.str "turns"))) (eC (.int 1)))) (sDput (eVar 0) (eC (.str "left")) (eOp gAdd (eOp gMul (eOp gDget (eVar 0) (eC (.str "left"))) (eC (.int 2147483647))) (eCall ff_law_mixed (aCons (eOp gDget (eVar 0) (eC (.str "cell"))) (aCons (eOp gDget (eVar 0) (eC (.str "turns"))) aNil)) []))) [some (.ref n), x, y, z] N = some (.nx [some (.ref n), x, y, z] (N.set n (dk l' c (t + 1)))) ∧ 0 ≤ l' ∧ l' < l * 2147483647 + 2147483647 := fun l t N y hN t0 t1 l0 l1 => by
    have hN1 : (N.set n (dk l c (t + 1)))[n]? = some (dk l c (t + 1)) := set_at hN
    obtain ⟨r, hr, r0, r1⟩ := mixed_ok (c := c) (M := N.set n (dk l c (t + 1))) (k := t + 1) (by omega) (by omega)
    refine ⟨l * 2147483647 + r, ?_, by omega, by omega⟩
    have o : Pl.MulOk l 2147483647 := mulOk (a := 200) (b := 32) (by omega) (by decide) (by decide)
    have e2 : (N.set n (dk l c (t + 1))).set n (dk (l * 2147483647 + r) c (t + 1)) = N.set n (dk (l * 2147483647 + r) c (t + 1)) := List.set_set ..
    rw [← e2]
    exact seq_nx (put_of (op_of (op_of rfl rfl (get_t hN)) rfl add_int) rfl rfl (put_t hN)) (put_of (op_of (op_of (op_of rfl rfl (get_l hN1)) rfl (mul_int o)) (call_of (cons_of (op_of rfl rfl (get_c hN1)) (cons_of (op_of rfl rfl (get_t hN1)) x_aNil)) hr) add_int) rfl rfl (put_l hN1))
  obtain ⟨l1, s1, a1, b1⟩ := step 0 t M (some (.int 0)) h h0 (by omega) (by decide) (by decide)
  obtain ⟨l2, s2, a2, b2⟩ := step l1 (t + 1) _ (some (.int 1)) (set_at h) (by omega) (by omega) a1 (by omega)
  obtain ⟨l3, s3, a3, b3⟩ := step l2 (t + 1 + 1) _ (some (.int 2)) (set_at (set_at h)) (by omega) (by omega) a2 (by omega)
  obtain ⟨l4, s4, a4, b4⟩ := step l3 (t + 1 + 1 + 1) _ (some (.int 3)) (set_at (set_at (set_at h))) (by omega) (by omega) a3 (by omega)
  refine ⟨l4, ?_, a4⟩
  have er : aRng1 (aCons (eC (.int 4)) aNil) [some (.ref n), x, y, z] M = some ([.int 0, .int 1, .int 2, .int 3], M) := rfl
  unfold sFor
  rw [er]
  dsimp only [forGo, gN, List.set_cons_succ, List.set_cons_zero]
  rw [s1]
  dsimp only [forGo, gN, List.set_cons_succ, List.set_cons_zero]
  rw [s2]
  dsimp only [forGo, gN, List.set_cons_succ, List.set_cons_zero]
  rw [s3]
  dsimp only [forGo, gN, List.set_cons_succ, List.set_cons_zero]
  rw [s4]
  dsimp only [forGo]
  simp only [List.set_set]
  rw [show t + 1 + 1 + 1 + 1 = t + 4 by omega]
theorem digit_ok {B many : Int} (h : At n B M) (hB : B < 2 ^ 58) (m0 : 0 < many) (m1 : many < 2 ^ 200) : ∃ (f : Int) (M' : Mh), ff_law_digit [.ref n, .int many] M = some (.int f, M') ∧ At n (B + 4) M' ∧ 0 ≤ f ∧ f < many := by
  obtain ⟨l, c, t, hM, l0, t0, tB⟩ := h
  have om : DivOk l many := dOk (by omega) (Nat.lt_of_lt_of_le (m := 2 ^ 200) (by omega) (Nat.pow_le_pow_right (by decide) (by decide)))
  have tail : ∀ (l t : Int) (N : Mh) (x : Option D), N[n]? = some (dk l c t) → 0 ≤ l → 0 ≤ t → t ≤ B + 4 → ∃ (f : Int) (M' : Mh), sSeq (sAs (eOp (gIntC (fun _ j => j ≠ 0) fun i j => .int (i.fmod j)) (eOp gDget (eVar 0) (eC (.str "left"))) (eVar 1)) (gN 3)) (sSeq (sDput (eVar 0) (eC (.str "left")) (eOp (gIntC DivOk fun i j => .int (i.fdiv j)) (eOp gDget (eVar 0) (eC (.str "left"))) (eVar 1))) (sRet (eVar 3))) [some (.ref n), some (.int many), x, none] N = some (.rt (.int f) M') ∧ At n (B + 4) M' ∧ 0 ≤ f ∧ f < many := fun l t N x hN l0 t0 tB => by
    have om : DivOk l many := ⟨om.1, om.2⟩
    have hf := fm (a := l) m0
    refine ⟨l.fmod many, N.set n (dk (l.fdiv many) c t), ?_, ⟨l.fdiv many, c, t, set_at hN, ?_, t0, tB⟩, hf.1, hf.2⟩
    · exact seq_as (M1 := N) (δ' := [some (.ref n), some (.int many), x, some (.int (l.fmod many))]) (op_of (op_of rfl rfl (get_l hN)) rfl (intC_of (by omega))) rfl (seq_nx (put_of (op_of (op_of rfl rfl (get_l hN)) rfl (intC_of om)) rfl rfl (put_l hN)) (ret_of rfl))
    · exact Int.fdiv_nonneg l0 (by omega)
  have tst : tV (eOp (gEq PyData.eqv) (eOp gDget (eVar 0) (eC (.str "left"))) (eC (.int 0))) [some (.ref n), some (.int many), none, none] M = some (decide (l = 0), M) := v_bl (op_of (op_of rfl rfl (get_l hM)) rfl (eq_int _ _ _))
  by_cases hl : l = 0
  · subst hl
    obtain ⟨l', e1, p1⟩ := fill_ok hM t0 (by omega) (some (.int many)) none none
    obtain ⟨f, M', e2, p2⟩ := tail l' (t + 4) _ (some (.int 3)) (set_at hM) p1 (by omega) (by omega)
    refine ⟨f, M', fn_rt ?_, p2⟩
    show gg_law_digit [some (.ref n), some (.int many), none, none] M = _
    unfold gg_law_digit
    exact seq_nx (if_tt (tst.trans (by rw [decide_eq_true rfl])) e1) e2
  · obtain ⟨f, M', e2, p2⟩ := tail l t M none hM l0 t0 (by omega)
    refine ⟨f, M', fn_rt ?_, p2⟩
    show gg_law_digit [some (.ref n), some (.int many), none, none] M = _
    unfold gg_law_digit
    exact seq_if0 (tst.trans (by rw [decide_eq_false hl])) e2
end
end Law

namespace Law
open PySem L2 Pl
theorem par_of {i j : Nat} {f g : EF} {δ : Pl.Env} {M M1 M2 : Mh} {d e : D} (h1 : f δ M = some (d, M1)) (h2 : g δ M1 = some (e, M2)) : sPar i j f g δ M = some (.nx ((δ.set i (some d)).set j (some e)) M2) := by
  unfold sPar; rw [h1]; dsimp only; rw [h2]
section
variable {n : Nat} {M : Mh}
theorem dg_of {B many : Int} {δ : Pl.Env} {fm : EF} {M1 : Mh} (h0 : δ[0]? = some (some (.ref n))) (hm : fm δ M = some (.int many, M1)) (h : At n B M1) (hB : B < 2 ^ 58) (m0 : 0 < many) (m1 : many < 2 ^ 200) : ∃ (f : Int) (M' : Mh), eCall ff_law_digit (aCons (eVar 0) (aCons fm aNil)) [] δ M = some (.int f, M') ∧ At n (B + 4) M' ∧ 0 ≤ f ∧ f < many := by
  obtain ⟨f, M', e, p⟩ := digit_ok h hB m0 m1
  exact ⟨f, M', call_of (cons_of (by rw [x_eVar, h0]) (cons_of hm x_aNil)) e, p⟩
theorem draw_ok {cell : Int} {k : Int} (k0 : 0 ≤ k) (k1 : k ≤ 1000) : ∃ M', ff_law_draw [.int cell, .int k] M = some (.ref M.length, M') ∧ At M.length 1000000 M' := by
  have o : Pl.MulOk 1000 k := mulOk (a := 64) (b := 64) (by decide) (by omega) (by decide)
  have p18 : eOp (gIntC PowOk fun i j => .int (i ^ j.toNat)) (eC (.int 10)) (eC (.int 18)) [some (.int cell), some (.int k)] M = some (.int (10 ^ 18), M) := op_of rfl rfl (intC_of (by decide))
  have lf : ∃ l : Int, 0 ≤ l ∧ eIf (tV (eOp (gInt fun i j => .bl (decide (j ≤ i))) (eVar 0) (eOp (gIntC PowOk fun i j => .int (i ^ j.toNat)) (eC (.int 10)) (eC (.int 18))))) (eVar 0) (eC (.int 0)) [some (.int cell), some (.int k)] M = some (.int l, M) := by
    have tst : tV (eOp (gInt fun i j => .bl (decide (j ≤ i))) (eVar 0) (eOp (gIntC PowOk fun i j => .int (i ^ j.toNat)) (eC (.int 10)) (eC (.int 18)))) [some (.int cell), some (.int k)] M = some (decide (10 ^ 18 ≤ cell), M) := v_bl (op_of rfl p18 rfl)
    by_cases hc : (10 ^ 18 : Int) ≤ cell
    · refine ⟨cell, by omega, ?_⟩
      unfold eIf
      rw [tst, decide_eq_true hc]; rfl
    · refine ⟨0, by omega, ?_⟩
      unfold eIf
      rw [tst, decide_eq_false hc]; rfl
  obtain ⟨l, l0, el⟩ := lf
  refine ⟨M ++ [dk l cell (1000 * k)], fn_rt ?_, ⟨l, cell, 1000 * k, by simp, l0, by omega, by omega⟩⟩
  show gg_law_draw [some (.int cell), some (.int k)] M = _
  unfold gg_law_draw
  refine ret_of ?_
  have pc : ∀ {f g : EF} {h : Pl.Env → Mh → Option (List (Key × D) × Mh)} {δ : Pl.Env} {a v : D} {q : Key} {r : List (Key × D)}, f δ M = some (a, M) → g δ M = some (v, M) → keyOf a = some q → h δ M = some (r, M) → psCons f g h δ M = some ((q, v) :: r, M) := fun h1 h2 h3 h4 => by
    unfold psCons; rw [h1]; dsimp only; rw [h2]; dsimp only; rw [h3]; dsimp only; rw [h4]
  have e := pc (f := eC (.str "left")) rfl el rfl (pc (f := eC (.str "cell")) (g := eVar 0) rfl rfl rfl (pc (f := eC (.str "turns")) (g := eOp gMul (eC (.int 1000)) (eVar 1)) rfl (op_of rfl rfl (mul_int o)) rfl (h := psNil) rfl))
  unfold eDic
  rw [e]
  have dm : dmerge [(.inr "left", .int l), (.inr "cell", .int cell), (.inr "turns", .int (1000 * k))] = [((.inr "left" : Key), D.int l), (.inr "cell", .int cell), (.inr "turns", .int (1000 * k))] := by
    simp [dmerge, Pl.dput, k3, k5, k6]
  show (if _ then some (D.ref M.length, M ++ [MO.dic (dmerge _)]) else none) = _
  rw [dm]
  rfl
end
end Law

namespace Law
open PySem L2 Pl
/-- a number's text -/
abbrev TT (z : Int) : Str := Str.ofString (toString z)
theorem tl_TT (z : Int) : TL.tl (TT z) = if z < 0 then 45 :: TL.numL z.natAbs else TL.numL z.natAbs := by
  cases z with
  | ofNat n =>
    rw [if_neg (by simp)]
    exact TL.tl_num n
  | negSucc n =>
    rw [if_pos (Int.negSucc_lt_zero n)]
    have e : toString (Int.negSucc n) = "-" ++ toString ((n + 1 : Nat) : Int) := rfl
    have e2 : (Int.negSucc n).natAbs = n + 1 := rfl
    rw [TT, e, TL.tl_ofString, String.toList_append, List.map_append, ← TL.tl_ofString (toString ((n + 1 : Nat) : Int)), TL.tl_num, e2]
    rfl
theorem numL_bnd : ∀ (k n : Nat), 0 < k → (TL.numL n).length ≤ k → n < 10 ^ k
  | 0, _, h, _ => absurd h (by decide)
  | k + 1, n, _, h => by
    by_cases hn : n < 10
    · exact Nat.lt_of_lt_of_le hn (by rw [Nat.pow_succ]; have := Nat.pow_pos (a := 10) (n := k) (by decide); omega)
    · rw [TL.numL_step (by omega), List.length_append, List.length_singleton] at h
      have h1 : 0 < (TL.numL (n / 10)).length := List.length_pos_iff.mpr (TL.numL_ne _)
      have := numL_bnd k (n / 10) (by omega) (by omega)
      rw [Nat.pow_succ]
      omega
theorem numL_head0 {r : List Nat} (n : Nat) (h : TL.numL n = 48 :: r) : n = 0 := by
  induction n using Nat.strongRecOn generalizing r with
  | ind n ih =>
    by_cases hn : n < 10
    · rw [TL.numL_lt hn] at h
      have := (List.cons.inj h).1
      omega
    · rw [TL.numL_step (by omega)] at h
      cases hq : TL.numL (n / 10) with
      | nil => exact absurd hq (TL.numL_ne _)
      | cons c q =>
        rw [hq] at h
        have e : c = 48 := (List.cons.inj h).1
        subst e
        have := ih (n / 10) (by omega) hq
        omega
theorem figs : ∀ c : Nat, 48 ≤ c → c ≤ 57 → decide (c ∈ ("0123456789" : Str).cps.toList) = true := fun c h1 h2 => by
  have e : ("0123456789" : Str).cps.toList = [48, 49, 50, 51, 52, 53, 54, 55, 56, 57] := by decide +kernel
  rw [e, decide_eq_true_eq]
  simp only [List.mem_cons, List.not_mem_nil, or_false]
  omega
theorem signs_go (M : Mh) (a c z : Option D) : ∀ cs : List Nat, (∀ s ∈ cs, 48 ≤ s ∧ s ≤ 57) → lcGo (gN 3) tTrue (eOp (gIn fun b => b) (eVar 3) (eVar 1)) (cs.map fun s => .str ⟨#[s]⟩) [a, some (.str "0123456789"), c, z] M = some (cs.map fun _ => .bl true, M)
  | [], _ => rfl
  | s :: cs, h => by
    have e : eOp (gIn fun b => b) (eVar 3) (eVar 1) [a, some (.str "0123456789"), c, some (.str ⟨#[s]⟩)] M = some (.bl true, M) := op_of rfl rfl (by
      show some (D.bl (decide (s ∈ ("0123456789" : Str).cps.toList)), M) = _
      rw [figs s (h s List.mem_cons_self).1 (h s List.mem_cons_self).2])
    rw [List.map_cons]
    unfold lcGo
    dsimp only [gN, List.set_cons_succ, List.set_cons_zero, tTrue]
    rw [e]
    dsimp only
    rw [signs_go M a c z cs fun q hq => h q (List.mem_cons_of_mem _ hq)]
    rfl
theorem bs_true : ∀ cs : List Nat, bsOf (cs.map fun _ => D.bl true) = some (cs.map fun _ => true)
  | [] => rfl
  | _ :: cs => by rw [List.map_cons, bsOf, bs_true cs]; rfl
theorem str_len (x : Str) : x.length = (TL.tl x).length := TL.len_tl x
theorem len_of {δ : Pl.Env} {M M1 : Mh} {f : EF} {x : Str} (h : f δ M = some (.str x, M1)) (hx : x.length ≤ 1000) : eB gLen (aCons f aNil) δ M = some (.int x.length, M1) := by
  rw [x_eB, cons_of h x_aNil]
  simp [gLen, lenOf]
  try exact Nat.le_trans hx (by decide)
theorem text_ok {x : Str} {M : Mh} (h1 : 1 ≤ x.length) (h4 : x.length ≤ 4) (hd : ∀ s ∈ TL.tl x, 48 ≤ s ∧ s ≤ 57) : ff_is_text_of [.str x, .str "0123456789", .int 4] M = some (.bl true, M) := by
  refine fn_rt ?_
  show gg_is_text_of [some (.str x), some (.str "0123456789"), some (.int 4), none] M = _
  unfold gg_is_text_of
  refine seq_if0 (M1 := M) (or0 (M1 := M) ?_ ?_) (ret_of ?_)
  · refine nt_of (b := true) (v_bl ?_)
    simp [x_eB, x_aCons, x_eVar, x_eC, x_aNil, gIsi, tyN, kit_ss]
  · refine nt_of (b := true) (v_bl ?_)
    unfold eChain
    rw [x_eC]
    dsimp only
    rw [len_of (f := eVar 0) rfl (by omega)]
    have b1 : decide ((1 : Int) ≤ x.length) = true := by simp; omega
    have b2 : decide ((x.length : Int) ≤ 4) = true := by simp; omega
    simp only [gInt, x_eVar, b1, b2, List.getElem?_cons_zero, List.getElem?_cons_succ]
  · have lc : eLc [3] (aSigns (eVar 0)) (gN 3) tTrue (eOp (gIn fun b => b) (eVar 3) (eVar 1)) [some (.str x), some (.str "0123456789"), some (.int 4), none] M = some (.lst ((TL.tl x).map fun _ => .bl true), M) := by
      unfold eLc
      have e : aSigns (eVar 0) [some (.str x), some (.str "0123456789"), some (.int 4), none] M = some ((TL.tl x).map fun s => .str ⟨#[s]⟩, M) := rfl
      rw [e]
      dsimp only [wipeD, List.set_cons_succ, List.set_cons_zero]
      rw [signs_go M _ _ _ _ hd]
      dsimp only
      rw [if_pos (by rw [List.length_map, ← str_len]; exact Nat.le_trans h4 (by decide))]
    rw [x_eB, cons_of lc x_aNil]
    simp [gBs, lstOf, bs_true]
theorem strOk_of {x : Str} (h : ∀ s ∈ TL.tl x, s < 1114112) : PyData.strOk x = true := by
  unfold PyData.strOk
  rw [Array.all_eq_true']
  intro c hc
  exact decide_eq_true (h c (by simpa using hc))
theorem eqv_str (x y : Str) : PyData.eqv (.str x) (.str y) = decide (x = y) := by
  by_cases h : x = y
  · subst h; simp [PyData.eqv]
  · rw [decide_eq_false h]; simp [PyData.eqv, h]
theorem str_sh {x : Str} (h : PyData.strOk x = true) : SeqAt.shaped (.str x) = true := by
  simp [SeqAt.shaped, PyData.canLay0, PyData.depth, h]
theorem eq_str {x y : Str} (hx : PyData.strOk x = true) (hy : PyData.strOk y = true) (M : Mh) : gEq PyData.eqv (.str x) (.str y) M = some (.bl (decide (x = y)), M) := by
  simp only [gEq, toP, deref, str_sh hx, str_sh hy, Bool.and_self, if_true, eqv_str]
theorem ne_str {x y : Str} (hx : PyData.strOk x = true) (hy : PyData.strOk y = true) (M : Mh) : gEq (fun p q => !PyData.eqv p q) (.str x) (.str y) M = some (.bl (!decide (x = y)), M) := by
  simp only [gEq, toP, deref, str_sh hx, str_sh hy, Bool.and_self, if_true, eqv_str]
theorem num_len {n : Nat} (h : n < 10000) : 1 ≤ (TT n).length ∧ (TT n).length ≤ 4 := by
  rw [str_len, TL.tl_num]
  exact ⟨List.length_pos_iff.mpr (TL.numL_ne _), TL.numL_len (by decide) h⟩
theorem number_ok {n : Nat} {M : Mh} (h : n < 10000) : ff_number_of [.str (TT n)] M = some (.int n, M) := by
  have l := num_len h
  have hd : ∀ s ∈ TL.tl (TT n), 48 ≤ s ∧ s ≤ 57 := by rw [TL.tl_num]; exact TL.numL_digits n
  refine fn_rt ?_
  show gg_number_of [some (.str (TT n))] M = _
  unfold gg_number_of
  refine seq_if0 (M1 := M) (nt_of (b := true) (v_bl (call_of (cons_of rfl (cons_of rfl (cons_of rfl x_aNil))) (text_ok l.1 l.2 hd)))) ?_
  have tn := TL.tl_num n
  refine seq_if0 (M1 := M) ?_ (ret_of ?_)
  · cases hq : TL.numL n with
    | nil => exact absurd hq (TL.numL_ne _)
    | cons c q =>
      have ix : gIx (.str (TT n)) (.int 0) M = some (.str ⟨#[c]⟩, M) := by
        have e : L2.atI (TT n).cps.toList 0 = some c := by
          show L2.atI (TL.tl (TT n)) 0 = some c
          rw [tn, hq]; simp [L2.atI, L2.ixN]
        show (if (TT n).length ≤ sizeLine then (L2.atI (TT n).cps.toList 0).map fun c => (D.str ⟨#[c]⟩, M) else none) = _
        rw [if_pos (Nat.le_trans l.2 (by decide)), e]; rfl
      have t1 : tV (eOp (gEq PyData.eqv) (eOp gIx (eVar 0) (eC (.int 0))) (eC (.str "0"))) [some (.str (TT n))] M = some (decide ((⟨#[c]⟩ : Str) = "0"), M) := v_bl (op_of (op_of rfl rfl ix) rfl (eq_str (strOk_of fun s hs => by have := hd s (by rw [tn, hq]; have := List.mem_singleton.mp hs; rw [this]; exact List.mem_cons_self); omega) (by decide +kernel) _))
      by_cases hc : (⟨#[c]⟩ : Str) = "0"
      · refine an1 (M1 := M) (t1.trans (by rw [decide_eq_true hc])) ?_
        have hc2 : c = 48 := by
          have := congrArg (fun x : Str => x.cps.toList) hc
          have e0 : ("0" : Str).cps.toList = [48] := by decide +kernel
          dsimp only at this
          rw [e0] at this
          exact (List.cons.inj this).1
        subst hc2
        have n0 := numL_head0 n hq
        subst n0
        exact v_bl (op_of rfl rfl ((ne_str (by decide +kernel) (by decide +kernel) _).trans (by rw [decide_eq_true (by decide +kernel)]; rfl)))
      · exact an0 (t1.trans (by rw [decide_eq_false hc]))
  · rw [x_eB, cons_of (d := .str (TT n)) (M1 := M) rfl x_aNil]
    have e : PySem.intText? (TT n) = some (n : Int) := TL.int_num (by rw [← tn, ← str_len]; exact Nat.le_trans l.2 (by decide))
    simp only [gInt1, e]
    rw [if_pos (by omega)]
end Law

namespace Law
open PySem L2 Pl
theorem tl_cutS (x : Str) (lo hi : Option Int) : TL.tl (L2.cutS x lo hi) = (List.drop (HT.sIx x.length 0 lo) (TL.tl x)).take (HT.sIx x.length x.length hi - HT.sIx x.length 0 lo) := by
  unfold L2.cutS
  rw [TL.tl_mk]
theorem TT_ok (z : Int) : ∀ s ∈ TL.tl (TT z), s < 1114112 := fun s hs => by
  rw [tl_TT] at hs
  have hd := TL.numL_digits z.natAbs
  by_cases h : z < 0
  · rw [if_pos h] at hs
    rcases List.mem_cons.mp hs with e | e
    · omega
    · have := hd s e; omega
  · rw [if_neg h] at hs
    have := hd s hs; omega
theorem isstr_ok {x : Str} {M : Mh} {e : EF} {δ : Pl.Env} (h : e δ M = some (.str x, M)) : tV (eB gIsi (aCons e (aCons (eC (.ty "str")) aNil))) δ M = some (true, M) := by
  refine v_bl ?_
  rw [x_eB, cons_of h (cons_of x_eC x_aNil)]
  simp [gIsi, tyN, kit_ss]
theorem sl_hi {x : Str} {i : Int} {f : EF} {δ : Pl.Env} {M : Mh} (hx : x.length ≤ 1000) (h : f δ M = some (.str x, M)) : eSl f pNone (pSome (eC (.int i))) δ M = some (.str (L2.cutS x none (some i)), M) := by
  have p1 : pNone δ M = some (none, M) := rfl
  have p2 : pSome (eC (.int i)) δ M = some (some i, M) := rfl
  unfold eSl
  rw [h]
  dsimp only
  rw [p1]
  dsimp only
  rw [p2]
  exact if_pos (Nat.le_trans hx (by decide))
theorem sl_lo {x : Str} {i : Int} {f : EF} {δ : Pl.Env} {M : Mh} (hx : x.length ≤ 1000) (h : f δ M = some (.str x, M)) : eSl f (pSome (eC (.int i))) pNone δ M = some (.str (L2.cutS x (some i) none), M) := by
  have p1 : pNone δ M = some (none, M) := rfl
  have p2 : pSome (eC (.int i)) δ M = some (some i, M) := rfl
  unfold eSl
  rw [h]
  dsimp only
  rw [p2]
  dsimp only
  rw [p1]
  exact if_pos (Nat.le_trans hx (by decide))
theorem signed_ok {z : Int} {M : Mh} (h : z.natAbs < 10000) : ff_signed_of [.str (TT z)] M = some (.int z, M) := by
  have t := tl_TT z
  have hl : (TT z).length ≤ 5 := by
    rw [str_len, t]
    have := TL.numL_len (k := 4) (by decide) h
    split
    · rw [List.length_cons]; omega
    · omega
  have h0 : 1 ≤ (TT z).length := by
    rw [str_len, t]
    have := List.length_pos_iff.mpr (TL.numL_ne z.natAbs)
    split
    · rw [List.length_cons]; omega
    · omega
  refine fn_rt ?_
  show gg_signed_of [some (.str (TT z)), none] M = _
  unfold gg_signed_of
  have sl : eSl (eVar 0) pNone (pSome (eC (.int 1))) [some (.str (TT z)), none] M = some (.str (L2.cutS (TT z) none (some 1)), M) := sl_hi (by omega) rfl
  have c1 : TL.tl (L2.cutS (TT z) none (some 1)) = (TL.tl (TT z)).take 1 := by
    rw [tl_cutS]
    have : HT.sIx (TT z).length (TT z).length (some 1) = 1 := by
      unfold HT.sIx
      simp
      omega
    rw [this]
    rfl
  have tst : tV (eOp (gEq fun p q => !PyData.eqv p q) (eSl (eVar 0) pNone (pSome (eC (.int 1)))) (eC (.str "-"))) [some (.str (TT z)), none] M = some (!decide (L2.cutS (TT z) none (some 1) = "-"), M) := by
    refine v_bl (op_of sl rfl (ne_str (strOk_of fun s hs => ?_) (by decide +kernel) _))
    rw [c1] at hs
    exact TT_ok z s (List.mem_of_mem_take hs)
  have t45 : TL.tl ("-" : Str) = [45] := by decide +kernel
  by_cases hz : z < 0
  · rw [if_pos hz] at t
    have e1 : L2.cutS (TT z) none (some 1) = "-" := TL.ext_tl (by rw [c1, t, t45]; rfl)
    refine seq_if0 (M1 := M) (or0 (M1 := M) (nt_of (b := true) (isstr_ok rfl)) (tst.trans (by rw [decide_eq_true e1]; rfl))) ?_
    have e2 : L2.cutS (TT z) (some 1) none = TT (z.natAbs : Int) := TL.ext_tl (by
      have : HT.sIx (TT z).length 0 (some 1) = 1 := by
        unfold HT.sIx
        simp
        omega
      rw [tl_cutS, this, t, TL.tl_num]
      show List.take ((TT z).length - 1) (TL.numL z.natAbs) = _
      rw [List.take_of_length_le]
      rw [str_len, t, List.length_cons]
      omega)
    have sl2 : eSl (eVar 0) (pSome (eC (.int 1))) pNone [some (.str (TT z)), none] M = some (.str (TT (z.natAbs : Int)), M) := by
      rw [← e2]
      exact sl_lo (by omega) rfl
    refine seq_as (M1 := M) (δ' := [some (.str (TT z)), some (.int (z.natAbs : Int))]) (call_of (cons_of sl2 x_aNil) (number_ok h)) rfl ?_
    refine seq_if0 (M1 := M) (or0 (M1 := M) ?_ ?_) (ret_of ?_)
    · rfl
    · exact v_bl (op_of rfl rfl ((eq_int _ _ _).trans (by rw [decide_eq_false (by omega)])))
    · show some (D.int (-(z.natAbs : Int)), M) = _
      rw [show -(z.natAbs : Int) = z by omega]
  · rw [if_neg hz] at t
    have e1 : L2.cutS (TT z) none (some 1) ≠ "-" := fun e => by
      have := congrArg TL.tl e
      rw [c1, t, t45] at this
      cases hq : TL.numL z.natAbs with
      | nil => exact absurd hq (TL.numL_ne _)
      | cons c q =>
        rw [hq] at this
        have hc : c = 45 := (List.cons.inj this).1
        have := TL.numL_digits z.natAbs c (by rw [hq]; exact List.mem_cons_self)
        omega
    refine seq_if1 (M1 := M) ((or0 (M1 := M) (nt_of (b := true) (isstr_ok rfl)) (tst.trans (by rw [decide_eq_false e1]; rfl)))) (ret_of (call_of (cons_of rfl x_aNil) ?_))
    have e : z = ((z.natAbs : Nat) : Int) := by omega
    have := number_ok (n := z.natAbs) (M := M) h
    rw [← e] at this
    exact this
/-- a fraction's text -/
def ftx (a : Rat) : Str := if a.den = 1 then TT a.num else Str.empty ++ TT a.num ++ "/" ++ TT a.den
theorem app_len (x y : Str) : (x ++ y).length = x.length + y.length := by
  rw [str_len, str_len, str_len, TL.tl_append, List.length_append]
theorem lg {n : Nat} (h : n < 2 ^ 128) : n.log2 < 1920 := Nat.lt_of_lt_of_le (PySem.Flt.log2_lt_of (by decide) h) (by decide)
theorem slash_free (z : Int) : ¬ 47 ∈ TL.tl (TT z) := fun hs => by
  rw [tl_TT] at hs
  have hd := TL.numL_digits z.natAbs
  by_cases h : z < 0
  · rw [if_pos h] at hs
    rcases List.mem_cons.mp hs with e | e
    · omega
    · have := hd 47 e; omega
  · rw [if_neg h] at hs
    have := hd 47 hs; omega
end Law

namespace Law
open PySem L2 Pl
section
variable {n : Nat} {M : Mh}
theorem At.app {B : Int} (h : At n B M) (m : MO) : At n B (M ++ [m]) := by
  obtain ⟨l, c, t, h1, h2⟩ := h
  exact ⟨l, c, t, by rw [List.getElem?_append_left (List.getElem?_eq_some_iff.mp h1).1]; exact h1, h2⟩
theorem ftx_len {a : Rat} [ha : Sz 1 a] : (ftx a).length ≤ 3843 := by
  have n1 : (TT a.num).length ≤ 1921 := PyProof.Rows.int_text_len_1921 (lg ha.num)
  have n2 : (TT a.den).length ≤ 1921 := PyProof.Rows.int_text_len_1921 (lg ha.den)
  have sl : ("/" : Str).length = 1 := by decide +kernel
  have e0 : Str.empty.length = 0 := rfl
  unfold ftx
  split
  · omega
  · rw [app_len, app_len, app_len, e0, sl]; omega
end
theorem ints_of : ∀ ns : List Int, intsOf (ns.map D.int) = some ns
  | [] => rfl
  | n :: ns => by rw [List.map_cons, intsOf, ints_of ns]
end Law

namespace Law
open PySem L2 Pl
/-- figures alone -/
def figs? (cs : List Nat) : Bool := cs.all fun c => decide (c ∈ ("0123456789" : Str).cps.toList)
theorem fig_iff (c : Nat) : c ∈ ("0123456789" : Str).cps.toList ↔ 48 ≤ c ∧ c ≤ 57 := by
  have e : ("0123456789" : Str).cps.toList = [48, 49, 50, 51, 52, 53, 54, 55, 56, 57] := by decide +kernel
  rw [e]
  simp only [List.mem_cons, List.not_mem_nil, or_false]
  omega
theorem figs_digits {cs : List Nat} (h : figs? cs = true) : NumText.AllDigits cs := fun c hc => by
  have := List.all_eq_true.mp h c hc
  exact (fig_iff c).mp (of_decide_eq_true this)
/-- what a word of figures tells -/
def isnum (cs : List Nat) : Bool := decide (1 ≤ cs.length) && decide (cs.length ≤ 4) && figs? cs && !(decide (cs.head? = some 48) && decide (1 < cs.length))
def numOf (cs : List Nat) : Option Nat := if isnum cs then some (NumText.digitsVal cs) else none
def optN : Option Nat → D
  | none => .non
  | some n => .int n
theorem signs_sp (M : Mh) (a c z : Option D) : ∀ cs : List Nat, lcGo (gN 3) tTrue (eOp (gIn fun b => b) (eVar 3) (eVar 1)) (cs.map fun s => .str ⟨#[s]⟩) [a, some (.str "0123456789"), c, z] M = some (cs.map fun s => .bl (decide (s ∈ ("0123456789" : Str).cps.toList)), M)
  | [] => rfl
  | s :: cs => by
    have e : eOp (gIn fun b => b) (eVar 3) (eVar 1) [a, some (.str "0123456789"), c, some (.str ⟨#[s]⟩)] M = some (.bl (decide (s ∈ ("0123456789" : Str).cps.toList)), M) := op_of rfl rfl rfl
    rw [List.map_cons]
    unfold lcGo
    dsimp only [gN, List.set_cons_succ, List.set_cons_zero, tTrue]
    rw [e]
    dsimp only
    rw [signs_sp M a c z cs]
    rfl
theorem bs_sp (g : Nat → Bool) : ∀ cs : List Nat, bsOf (cs.map fun s => D.bl (g s)) = some (cs.map g)
  | [] => rfl
  | c :: cs => by rw [List.map_cons, bsOf, bs_sp g cs]; rfl
theorem len_sp {δ : Pl.Env} {M M1 : Mh} {f : EF} {x : Str} (h : f δ M = some (.str x, M1)) (hx : x.length ≤ 1000000) : eB gLen (aCons f aNil) δ M = some (.int x.length, M1) := by
  have : x.length ≤ sizeLine := Nat.le_trans hx (by decide)
  rw [x_eB, cons_of h x_aNil]
  simp [gLen, lenOf, this]
theorem text_sp {x : Str} {M : Mh} (hx : x.length ≤ 1000000) : ff_is_text_of [.str x, .str "0123456789", .int 4] M = some (.bl (decide (1 ≤ (TL.tl x).length) && decide ((TL.tl x).length ≤ 4) && figs? (TL.tl x)), M) := by
  refine fn_rt ?_
  show gg_is_text_of [some (.str x), some (.str "0123456789"), some (.int 4), none] M = _
  unfold gg_is_text_of
  have t2 : tNt (tV (eChain (gInt fun i j => .bl (decide (i ≤ j))) (gInt fun i j => .bl (decide (i ≤ j))) (eC (.int 1)) (eB gLen (aCons (eVar 0) aNil)) (eVar 2))) [some (.str x), some (.str "0123456789"), some (.int 4), none] M = some (!(decide (1 ≤ (TL.tl x).length) && decide ((TL.tl x).length ≤ 4)), M) := by
    refine nt_of (v_bl ?_)
    unfold eChain
    rw [x_eC]
    dsimp only
    rw [len_sp (f := eVar 0) rfl hx, str_len]
    by_cases h1 : 1 ≤ (TL.tl x).length
    · have b1 : decide ((1 : Int) ≤ ((TL.tl x).length : Nat)) = true := decide_eq_true (by omega)
      have b2 : decide ((((TL.tl x).length : Nat) : Int) ≤ 4) = decide ((TL.tl x).length ≤ 4) := by
        by_cases h4 : (TL.tl x).length ≤ 4
        · rw [decide_eq_true h4]; exact decide_eq_true (by omega)
        · rw [decide_eq_false h4]; exact decide_eq_false (by omega)
      rw [decide_eq_true h1]
      simp only [gInt, x_eVar, b1, b2, List.getElem?_cons_zero, List.getElem?_cons_succ, Bool.true_and]
    · have b1 : decide ((1 : Int) ≤ ((TL.tl x).length : Nat)) = false := decide_eq_false (by omega)
      rw [decide_eq_false h1]
      simp only [gInt, b1, Bool.false_and]
  by_cases hl : 1 ≤ (TL.tl x).length ∧ (TL.tl x).length ≤ 4
  · rw [decide_eq_true hl.1, decide_eq_true hl.2] at t2 ⊢
    refine seq_if0 (M1 := M) (or0 (M1 := M) (nt_of (b := true) (isstr_ok rfl)) t2) (ret_of ?_)
    have lc : eLc [3] (aSigns (eVar 0)) (gN 3) tTrue (eOp (gIn fun b => b) (eVar 3) (eVar 1)) [some (.str x), some (.str "0123456789"), some (.int 4), none] M = some (.lst ((TL.tl x).map fun s => .bl (decide (s ∈ ("0123456789" : Str).cps.toList))), M) := by
      unfold eLc
      have e : aSigns (eVar 0) [some (.str x), some (.str "0123456789"), some (.int 4), none] M = some ((TL.tl x).map fun s => .str ⟨#[s]⟩, M) := rfl
      rw [e]
      dsimp only [wipeD, List.set_cons_succ, List.set_cons_zero]
      rw [signs_sp M _ _ _ _]
      dsimp only
      rw [if_pos (by rw [List.length_map]; exact Nat.le_trans hl.2 (by decide))]
    rw [x_eB, cons_of lc x_aNil]
    simp [gBs, lstOf, bs_sp, figs?, List.all_map, Function.comp_def]
  · have e : (decide (1 ≤ (TL.tl x).length) && decide ((TL.tl x).length ≤ 4)) = false := by
      rw [← Bool.decide_and]; exact decide_eq_false hl
    rw [e] at t2 ⊢
    exact seq_if1 (M1 := M) (or0 (M1 := M) (nt_of (b := true) (isstr_ok rfl)) t2) (ret_of rfl)
theorem t0 : TL.tl ("0" : Str) = [48] := by decide +kernel
theorem first_sp {x : Str} {c : Nat} {q : List Nat} {M : Mh} (hq : TL.tl x = c :: q) (hx : x.length ≤ 1000000) : gIx (.str x) (.int 0) M = some (.str ⟨#[c]⟩, M) := by
  have e : L2.atI x.cps.toList 0 = some c := by
    show L2.atI (TL.tl x) 0 = some c
    rw [hq]; simp [L2.atI, L2.ixN]
  show (if x.length ≤ sizeLine then (L2.atI x.cps.toList 0).map fun c => (D.str ⟨#[c]⟩, M) else none) = _
  rw [if_pos (Nat.le_trans hx (by decide)), e]; rfl
theorem one_iff (c : Nat) : (⟨#[c]⟩ : Str) = "0" ↔ c = 48 := by
  constructor
  · intro h
    have := congrArg TL.tl h
    rw [t0] at this
    exact (List.cons.inj this).1
  · intro h
    subst h
    exact TL.ext_tl (by rw [t0])
theorem zero_iff {x : Str} {c : Nat} {q : List Nat} (hq : TL.tl x = c :: q) (hc : c = 48) : x = "0" ↔ ¬ 1 < (TL.tl x).length := by
  subst hc
  rw [hq, List.length_cons]
  constructor
  · intro h
    rw [h, t0] at hq
    have := (List.cons.inj hq).2
    rw [← this]; simp
  · intro h
    have : q = [] := List.length_eq_zero_iff.mp (by omega)
    subst this
    exact TL.ext_tl (by rw [hq, t0])
theorem number_sp {x : Str} {M : Mh} (hx : x.length ≤ 1000000) : ff_number_of [.str x] M = some (optN (numOf (TL.tl x)), M) := by
  refine fn_rt ?_
  show gg_number_of [some (.str x)] M = _
  unfold gg_number_of
  have t1 := nt_of (v_bl (call_of (dds := []) (δ := [some (.str x)]) (g := aCons (eVar 0) (aCons (eC (.str "0123456789")) (aCons (eC (.int 4)) aNil))) (cons_of rfl (cons_of rfl (cons_of rfl x_aNil))) (text_sp (M := M) hx)))
  by_cases ht : (decide (1 ≤ (TL.tl x).length) && decide ((TL.tl x).length ≤ 4) && figs? (TL.tl x)) = true
  · rw [ht] at t1
    refine seq_if0 (M1 := M) t1 ?_
    have ht' := ht
    simp only [Bool.and_eq_true, decide_eq_true_eq] at ht'
    obtain ⟨⟨l1, l4⟩, fg⟩ := ht'
    have ad := figs_digits fg
    cases hq : TL.tl x with
    | nil => rw [hq] at l1; exact absurd l1 (by decide)
    | cons c q =>
      have cd := ad c (by rw [hq]; exact List.mem_cons_self)
      have k1 : tV (eOp (gEq PyData.eqv) (eOp gIx (eVar 0) (eC (.int 0))) (eC (.str "0"))) [some (.str x)] M = some (decide ((⟨#[c]⟩ : Str) = "0"), M) := v_bl (op_of (op_of rfl rfl (first_sp hq hx)) rfl (eq_str (strOk_of fun s hs => by have := List.mem_singleton.mp hs; omega) (by decide +kernel) _))
      have k2 : tV (eOp (gEq fun p q => !PyData.eqv p q) (eVar 0) (eC (.str "0"))) [some (.str x)] M = some (!decide (x = "0"), M) := v_bl (op_of rfl rfl (ne_str (strOk_of fun s hs => by have := ad s hs; omega) (by decide +kernel) _))
      rw [← hq]
      by_cases hc : c = 48
      · rw [decide_eq_true ((one_iff c).mpr hc)] at k1
        by_cases hl : 1 < (TL.tl x).length
        · have nz : ¬ x = "0" := fun e => (zero_iff hq hc).mp e hl
          rw [decide_eq_false nz] at k2
          have : numOf (TL.tl x) = none := by
            have h2 : (decide ((TL.tl x).head? = some 48) && decide (1 < (TL.tl x).length)) = true := by
              rw [decide_eq_true hl, hq, hc]; rfl
            simp only [numOf, isnum, ht, h2]
            rfl
          rw [this]
          exact seq_if1 (M1 := M) (an1 (M1 := M) k1 k2) (ret_of rfl)
        · have z : x = "0" := (zero_iff hq hc).mpr hl
          rw [decide_eq_true z] at k2
          have : numOf (TL.tl x) = some (NumText.digitsVal (TL.tl x)) := by
            simp only [numOf, isnum, ht, decide_eq_false hl, Bool.and_false]
            rfl
          rw [this]
          refine seq_if0 (M1 := M) (an1 (M1 := M) k1 k2) (ret_of ?_)
          rw [x_eB, cons_of (d := .str x) (M1 := M) rfl x_aNil]
          have e := PySem.intText_digits (x := x) ad (by rw [show x.cps.toList = TL.tl x from rfl, hq]; exact fun z => nomatch z) (by rw [str_len]; omega)
          simp only [gInt1, e]
          rw [if_pos (by rw [str_len]; omega)]
          rfl
      · rw [decide_eq_false (fun e => hc ((one_iff c).mp e))] at k1
        have : numOf (TL.tl x) = some (NumText.digitsVal (TL.tl x)) := by
          have h2 : decide ((TL.tl x).head? = some 48) = false := decide_eq_false (by rw [hq]; exact fun e => hc (Option.some.inj e))
          simp only [numOf, isnum, ht, h2, Bool.false_and]
          rfl
        rw [this]
        refine seq_if0 (M1 := M) (an0 k1) (ret_of ?_)
        rw [x_eB, cons_of (d := .str x) (M1 := M) rfl x_aNil]
        have e := PySem.intText_digits (x := x) ad (by rw [show x.cps.toList = TL.tl x from rfl, hq]; exact fun z => nomatch z) (by rw [str_len]; omega)
        simp only [gInt1, e]
        rw [if_pos (by rw [str_len]; omega)]
        rfl
  · have hf := Bool.eq_false_iff.mpr ht
    rw [hf] at t1
    have : numOf (TL.tl x) = none := by
      simp only [numOf, isnum, hf, Bool.false_and]
      rfl
    rw [this]
    exact seq_if1 (M1 := M) t1 (ret_of rfl)
end Law

namespace Law
open PySem L2 Pl
def optI : Option Int → D
  | none => .non
  | some n => .int n
def sgnOf (cs : List Nat) : Option Int :=
  if cs.take 1 = [45] then (match numOf (cs.drop 1) with
    | none => none
    | some n => if n = 0 then none else some (-(n : Int)))
  else (numOf cs).map fun n => (n : Int)
theorem t45 : TL.tl ("-" : Str) = [45] := by decide +kernel
theorem cut1 (x : Str) : TL.tl (L2.cutS x none (some 1)) = (TL.tl x).take 1 := by
  rw [tl_cutS, str_len]
  have : HT.sIx (TL.tl x).length (TL.tl x).length (some 1) = min 1 (TL.tl x).length := by
    unfold HT.sIx
    simp
  rw [this]
  show List.take (min 1 (TL.tl x).length - 0) (List.drop 0 (TL.tl x)) = _
  rw [List.drop_zero, Nat.sub_zero, List.take_eq_take_iff]
  omega
theorem cut2 (x : Str) : TL.tl (L2.cutS x (some 1) none) = (TL.tl x).drop 1 := by
  rw [tl_cutS, str_len]
  have : HT.sIx (TL.tl x).length 0 (some 1) = min 1 (TL.tl x).length := by
    unfold HT.sIx
    simp
  rw [this]
  show List.take ((TL.tl x).length - min 1 (TL.tl x).length) (List.drop (min 1 (TL.tl x).length) (TL.tl x)) = _
  rw [List.take_of_length_le (by rw [List.length_drop]; exact Nat.le_refl _)]
  cases TL.tl x with
  | nil => rfl
  | cons c q => rw [show min 1 (c :: q).length = 1 by rw [List.length_cons]; omega]
theorem minus_iff (x : Str) : L2.cutS x none (some 1) = "-" ↔ (TL.tl x).take 1 = [45] := by
  constructor
  · intro h
    rw [← cut1, h, t45]
  · intro h
    exact TL.ext_tl (by rw [cut1, h, t45])
theorem slH {x : Str} {f : EF} {δ : Pl.Env} {M : Mh} (hx : x.length ≤ 1000000) (h : f δ M = some (.str x, M)) : eSl f pNone (pSome (eC (.int 1))) δ M = some (.str (L2.cutS x none (some 1)), M) := by
  have p1 : pNone δ M = some (none, M) := rfl
  have p2 : pSome (eC (.int 1)) δ M = some (some 1, M) := rfl
  unfold eSl
  rw [h]
  dsimp only
  rw [p1]
  dsimp only
  rw [p2]
  exact if_pos (Nat.le_trans hx (by decide))
theorem slL {x : Str} {f : EF} {δ : Pl.Env} {M : Mh} (hx : x.length ≤ 1000000) (h : f δ M = some (.str x, M)) : eSl f (pSome (eC (.int 1))) pNone δ M = some (.str (L2.cutS x (some 1) none), M) := by
  have p1 : pNone δ M = some (none, M) := rfl
  have p2 : pSome (eC (.int 1)) δ M = some (some 1, M) := rfl
  unfold eSl
  rw [h]
  dsimp only
  rw [p2]
  dsimp only
  rw [p1]
  exact if_pos (Nat.le_trans hx (by decide))
/-- signs that a text may have -/
def SOk (x : Str) : Prop := ∀ s ∈ TL.tl x, s < 1114112
theorem SOk.cut1 {x : Str} (h : SOk x) : SOk (L2.cutS x none (some 1)) := fun s hs => by
  rw [Law.cut1] at hs
  exact h s (List.mem_of_mem_take hs)
theorem cut2_len {x : Str} (hx : x.length ≤ 1000000) : (L2.cutS x (some 1) none).length ≤ 1000000 := by
  rw [str_len, cut2, List.length_drop, ← str_len]
  omega
theorem minus_sp {x : Str} {f : EF} {δ : Pl.Env} {M : Mh} (hx : x.length ≤ 1000000) (hs : SOk x) (h : f δ M = some (.str x, M)) : tV (eOp (gEq PyData.eqv) (eSl f pNone (pSome (eC (.int 1)))) (eC (.str "-"))) δ M = some (decide ((TL.tl x).take 1 = [45]), M) := by
  refine v_bl (op_of (slH hx h) rfl ((eq_str (strOk_of hs.cut1) (by decide +kernel) _).trans ?_))
  by_cases e : L2.cutS x none (some 1) = "-"
  · rw [decide_eq_true e, decide_eq_true ((minus_iff x).mp e)]
  · rw [decide_eq_false e, decide_eq_false (fun z => e ((minus_iff x).mpr z))]
theorem minusN_sp {x : Str} {f : EF} {δ : Pl.Env} {M : Mh} (hx : x.length ≤ 1000000) (hs : SOk x) (h : f δ M = some (.str x, M)) : tV (eOp (gEq fun p q => !PyData.eqv p q) (eSl f pNone (pSome (eC (.int 1)))) (eC (.str "-"))) δ M = some (!decide ((TL.tl x).take 1 = [45]), M) := by
  refine v_bl (op_of (slH hx h) rfl ((ne_str (strOk_of hs.cut1) (by decide +kernel) _).trans ?_))
  by_cases e : L2.cutS x none (some 1) = "-"
  · rw [decide_eq_true e, decide_eq_true ((minus_iff x).mp e)]
  · rw [decide_eq_false e, decide_eq_false (fun z => e ((minus_iff x).mpr z))]
theorem signed_sp {x : Str} {M : Mh} (hx : x.length ≤ 1000000) (hs : SOk x) : ff_signed_of [.str x] M = some (optI (sgnOf (TL.tl x)), M) := by
  refine fn_rt ?_
  show gg_signed_of [some (.str x), none] M = _
  unfold gg_signed_of
  have tst := minusN_sp (f := eVar 0) (δ := [some (.str x), none]) (M := M) hx hs rfl
  by_cases hm : (TL.tl x).take 1 = [45]
  · rw [decide_eq_true hm] at tst
    refine seq_if0 (M1 := M) (or0 (M1 := M) (nt_of (b := true) (isstr_ok rfl)) tst) ?_
    have nm := number_sp (M := M) (cut2_len hx)
    rw [cut2] at nm
    refine seq_as (M1 := M) (δ' := [some (.str x), some (optN (numOf ((TL.tl x).drop 1)))]) (call_of (cons_of (slL hx rfl) x_aNil) nm) rfl ?_
    unfold sgnOf
    rw [if_pos hm]
    cases hn : numOf ((TL.tl x).drop 1) with
    | none => exact seq_if1 (M1 := M) (or1 (M1 := M) rfl) (ret_of rfl)
    | some n =>
      have z : tV (eOp (gEq PyData.eqv) (eVar 1) (eC (.int 0))) [some (.str x), some (optN (some n))] M = some (decide ((n : Int) = 0), M) := v_bl (op_of rfl rfl (eq_int _ _ _))
      by_cases h0 : n = 0
      · rw [decide_eq_true (by omega)] at z
        dsimp only
        rw [if_pos h0]
        exact seq_if1 (M1 := M) (or0 (M1 := M) rfl z) (ret_of rfl)
      · rw [decide_eq_false (by omega)] at z
        dsimp only
        rw [if_neg h0]
        exact seq_if0 (M1 := M) (or0 (M1 := M) rfl z) (ret_of rfl)
  · rw [decide_eq_false hm] at tst
    refine seq_if1 (M1 := M) (or0 (M1 := M) (nt_of (b := true) (isstr_ok rfl)) tst) (ret_of (call_of (cons_of rfl x_aNil) ?_))
    refine (number_sp hx).trans ?_
    unfold sgnOf
    rw [if_neg hm]
    cases numOf (TL.tl x) <;> rfl
/-- the law's own look at a word of figures -/
theorem other_go (M : Mh) (a b z : Option D) : ∀ cs : List Nat, lcGo (gN 2) (tV (eOp (gIn fun b => !b) (eVar 2) (eC (.str "0123456789")))) (eVar 2) (cs.map fun s => .str ⟨#[s]⟩) [a, b, z] M = some ((cs.filter fun s => !decide (s ∈ ("0123456789" : Str).cps.toList)).map fun s => .str ⟨#[s]⟩, M)
  | [] => rfl
  | s :: cs => by
    have e : tV (eOp (gIn fun b => !b) (eVar 2) (eC (.str "0123456789"))) [a, b, some (.str ⟨#[s]⟩)] M = some (!decide (s ∈ ("0123456789" : Str).cps.toList), M) := v_bl (op_of rfl rfl rfl)
    rw [List.map_cons]
    unfold lcGo
    dsimp only [gN, List.set_cons_succ, List.set_cons_zero]
    rw [e, List.filter_cons]
    cases hd : !decide (s ∈ ("0123456789" : Str).cps.toList) with
    | true =>
      dsimp only
      have ev : eVar 2 [a, b, some (.str ⟨#[s]⟩)] M = some (.str ⟨#[s]⟩, M) := rfl
      rw [ev]
      dsimp only
      rw [other_go M a b z cs]
      rfl
    | false =>
      dsimp only
      rw [other_go M a b z cs]
      rfl
theorem toPs_strs : ∀ L : List Nat, toPs (L.map fun s => .str ⟨#[s]⟩) = some (L.map fun s => .str ⟨#[s]⟩)
  | [] => rfl
  | s :: L => by rw [List.map_cons, toPs, toP, toPs_strs L]; rfl
theorem lay_strs : ∀ L : List Nat, (∀ s ∈ L, s < 1114112) → PyData.canLayAll0 (L.map fun s => .str ⟨#[s]⟩) = true ∧ PyData.depthAll (L.map fun s => .str ⟨#[s]⟩) ≤ 1
  | [], _ => by simp [PyData.canLayAll0, PyData.depthAll]
  | s :: L, h => by
    obtain ⟨h1, h2⟩ := lay_strs L fun q hq => h q (List.mem_cons_of_mem _ hq)
    have h3 := str_sh (x := ⟨#[s]⟩) (strOk_of fun q hq => by have := List.mem_singleton.mp hq; subst this; exact h q List.mem_cons_self)
    simp only [SeqAt.shaped, Bool.and_eq_true, decide_eq_true_eq] at h3
    have d0 : (PyData.str ⟨#[s]⟩).depth ≤ 1 := by simp [PyData.depth]
    rw [List.map_cons, PyData.canLayAll0, PyData.depthAll]
    refine ⟨by rw [h3.1, h1]; rfl, ?_⟩
    omega
theorem ne_strs {L : List Nat} {M : Mh} (h : ∀ s ∈ L, s < 1114112) : gEq (fun p q => !PyData.eqv p q) (.lst (L.map fun s => .str ⟨#[s]⟩)) (.lst []) M = some (.bl (!L.isEmpty), M) := by
  obtain ⟨h1, h2⟩ := lay_strs L h
  have s1 : SeqAt.shaped (.list (L.map fun s => .str ⟨#[s]⟩)) = true := by
    simp only [SeqAt.shaped, Bool.and_eq_true, decide_eq_true_eq]
    rw [PyData.canLay0, PyData.depth]
    exact ⟨h1, by omega⟩
  have s2 : SeqAt.shaped (.list []) = true := by decide +kernel
  simp only [gEq, deref, toP, toPs_strs, toPs, s1, s2, Bool.and_self, if_true]
  cases L with
  | nil => simp [PyData.eqv, PyData.eqvAll]
  | cons s L => simp [PyData.eqv, PyData.eqvAll]
end Law

namespace Law
open PySem L2 Pl
theorem tnil : TL.tl ("" : Str) = [] := by decide +kernel
theorem empty_iff (x : Str) : x = "" ↔ TL.tl x = [] := ⟨fun h => by rw [h, tnil], fun h => TL.ext_tl (by rw [h, tnil])⟩
theorem figs_filter (cs : List Nat) : (cs.filter fun s => !decide (s ∈ ("0123456789" : Str).cps.toList)).isEmpty = figs? cs := by
  induction cs with
  | nil => rfl
  | cons c cs ih =>
    rw [List.filter_cons]
    unfold figs?
    rw [List.all_cons]
    cases hd : decide (c ∈ ("0123456789" : Str).cps.toList) with
    | true => rw [if_neg (by simp)]; rw [ih]; rfl
    | false => rw [if_pos (by simp)]; rfl
end Law

namespace Law
open PySem L2 Pl
theorem cut47 : ∀ cs : List Nat, ¬ 47 ∈ cs ∨ ∃ p r, ¬ 47 ∈ p ∧ cs = p ++ ([47] ++ r)
  | [] => .inl (by simp)
  | c :: cs => by
    by_cases h : c = 47
    · exact .inr ⟨[], cs, by simp, by rw [h]; rfl⟩
    · rcases cut47 cs with h2 | ⟨p, r, h2, h3⟩
      · exact .inl (fun z => (List.mem_cons.mp z).elim (fun e => h e.symm) h2)
      · exact .inr ⟨c :: p, r, fun z => (List.mem_cons.mp z).elim (fun e => h e.symm) h2, by rw [h3]; rfl⟩
theorem num47 {r : List Nat} (h : 47 ∈ r) : numOf r = none := by
  have : figs? r = false := by
    rw [← Bool.not_eq_true]
    intro z
    have := figs_digits z 47 h
    omega
  simp only [numOf, isnum, this, Bool.and_false, Bool.false_and]
  rfl
theorem tslash : TL.tl ("/" : Str) = [47] := by decide +kernel
def optF : Option (Int × Int) → D
  | none => .non
  | some (t, b) => .tup [.int t, .int b]
/-- what a text of a top, or of a top, a stroke and a bottom tells -/
def readOf (p : List Nat) : Option (List Nat) → Option (Int × Int)
  | none => (sgnOf p).map fun t => (t, 1)
  | some r => match sgnOf p, numOf r with
    | some t, some b => if 2 ≤ b ∧ Nat.gcd t.natAbs b = 1 then some (t, (b : Int)) else none
    | _, _ => none
theorem kit_ni : kitB "NoneType" "int" = some false := by decide +kernel
theorem whole_sp (u : Option Int) (M : Mh) : ff_is_whole [optI u] M = some (.bl u.isSome, M) := by
  cases u with
  | none => simp [ff_is_whole, gg_is_whole, fnF, startD, sRet, eAn, x_eB, x_aCons, x_aNil, x_eVar, x_eC, gIsi, tyN, optI, kit_ni]
  | some z => simp [ff_is_whole, gg_is_whole, fnF, startD, sRet, eAn, eNt, x_eB, x_aCons, x_aNil, x_eVar, x_eC, gIsi, tyN, optI, kit_ii, kit_ib]
def fracOk : Option Int → Option Int → Bool
  | some t, some b => decide (1 ≤ b) && decide (Nat.gcd t.natAbs b.natAbs = 1)
  | _, _ => false
theorem eq_none1 (M : Mh) : gEq PyData.eqv .non (.int 1) M = some (.bl false, M) := by
  have s1 : SeqAt.shaped .none = true := by decide +kernel
  have s2 : SeqAt.shaped (.int 1) = true := by decide +kernel
  simp [gEq, deref, toP, s1, s2, PyData.eqv]
def up : Option Nat → Option Int
  | none => none
  | some n => some (n : Int)
theorem optN_I (v : Option Nat) : optN v = optI (up v) := by cases v <;> rfl
theorem read_eq (p r : List Nat) : readOf p (some r) = (match sgnOf p, numOf r with
    | some t, some b => if 2 ≤ b ∧ Nat.gcd t.natAbs b = 1 then some (t, (b : Int)) else none
    | _, _ => none) := rfl
theorem sub_len {p r : List Nat} {x y : Str} (e : TL.tl x = p ++ ([47] ++ r)) (hx : x.length ≤ 1000000) (hy : TL.tl y = p ∨ TL.tl y = r) : y.length ≤ 1000000 := by
  rw [str_len] at hx ⊢
  rw [e, List.length_append, List.length_append] at hx
  rcases hy with z | z <;> rw [z] <;> omega
theorem sub_ok {p r : List Nat} {x y : Str} (e : TL.tl x = p ++ ([47] ++ r)) (hx : SOk x) (hy : TL.tl y = p ∨ TL.tl y = r) : SOk y := fun s hs => by
  refine hx s ?_
  rw [e]
  rcases hy with z | z <;> rw [z] at hs
  · exact List.mem_append_left _ hs
  · exact List.mem_append_right _ (List.mem_append_right _ hs)
end Law

namespace Law
open PySem L2 Pl
theorem spl_ne : ∀ (S : List Nat) (k : Nat) (acc l : List Nat), TL.spl S k acc l ≠ [] := fun S k acc l => by
  induction l generalizing k acc with
  | nil => rw [TL.spl_nil]; exact fun z => nomatch z
  | cons c l ih =>
    cases k with
    | succ k =>
      rw [TL.spl_pass S (k + 1) acc (c :: l), List.drop_succ_cons, ← TL.spl_pass S k acc l]
      exact ih k acc
    | zero =>
      cases hp : TL.pre S (c :: l) with
      | true => rw [TL.spl_hit hp]; exact fun z => nomatch z
      | false => rw [TL.spl_miss hp]; exact ih 0 _
theorem split_tl (x : Str) : (Txt.split x "/").map TL.tl = TL.spl [47] 0 [] (TL.tl x) := by
  have := TL.split_spl x ("/" : Str) (by rw [tslash]; exact fun z => nomatch z) (TL.kind_ok (by decide +kernel))
  rw [tslash] at this
  exact this
theorem split1 {x : Str} (h : ¬ 47 ∈ TL.tl x) : Txt.split x "/" = [x] := by
  have e := split_tl x
  rw [TL.spl_last1 h] at e
  cases hs : Txt.split x "/" with
  | nil => rw [hs] at e; cases e
  | cons y q =>
    rw [hs, List.map_cons, List.nil_append] at e
    obtain ⟨e1, e2⟩ := List.cons.inj e
    rw [List.map_eq_nil_iff.mp e2, TL.ext_tl e1]
theorem split2 {x : Str} {p r : List Nat} (hp : ¬ 47 ∈ p) (e : TL.tl x = p ++ ([47] ++ r)) : ∃ (y z : Str) (q : List Str), Txt.split x "/" = y :: z :: q ∧ TL.tl y = p ∧ (47 ∈ r → q ≠ []) ∧ (¬ 47 ∈ r → q = [] ∧ TL.tl z = r) := by
  have s := split_tl x
  rw [e, TL.spl_part1 hp, List.nil_append] at s
  cases hs : Txt.split x "/" with
  | nil => rw [hs] at s; cases s
  | cons y P =>
    rw [hs, List.map_cons] at s
    obtain ⟨s1, s2⟩ := List.cons.inj s
    cases P with
    | nil => exact absurd s2.symm (spl_ne _ _ _ _)
    | cons z q =>
      refine ⟨y, z, q, rfl, s1, fun h => ?_, fun h => ?_⟩
      · rcases cut47 r with h2 | ⟨p2, r2, h2, h3⟩
        · exact absurd h h2
        · rw [h3, TL.spl_part1 h2, List.map_cons] at s2
          intro hq
          rw [hq] at s2
          exact absurd (List.cons.inj s2).2.symm (spl_ne _ _ _ _)
      · rw [TL.spl_last1 h, List.map_cons, List.nil_append] at s2
        obtain ⟨a1, a2⟩ := List.cons.inj s2
        exact ⟨List.map_eq_nil_iff.mp a2, a1⟩
theorem low_same {t b : Int} (hb : 1 ≤ b) : ((Rat.divInt t b).num = t ∧ ((Rat.divInt t b).den : Int) = b) ↔ Nat.gcd t.natAbs b.natAbs = 1 := by
  constructor
  · intro ⟨h1, h2⟩
    have := (Rat.divInt t b).reduced
    rw [h1] at this
    rw [show b.natAbs = (Rat.divInt t b).den by omega]
    exact this
  · intro h
    have hg : b.gcd t = 1 := by rw [Int.gcd, Nat.gcd_comm]; exact h
    rw [Rat.num_divInt, Rat.den_divInt, if_neg (by omega), hg, Int.sign_eq_one_of_pos (by omega)]
    exact ⟨by simp, by simp; omega⟩
theorem ne_RT (q : Rat) (t b : Int) (M : Mh) : gEq (fun p q => !PyData.eqv p q) (R q) (.tup [.int t, .int b]) M = some (.bl (!(decide (q.num = t) && decide ((q.den : Int) = b))), M) := by
  have e : gEq (fun p q => !PyData.eqv p q) (R q) (.tup [.int t, .int b]) M = some (.bl (!PyData.eqv (.tuple [.int q.num, .int q.den]) (.tuple [.int t, .int b])), M) := rfl
  rw [e]
  simp only [PyData.eqv, PyData.eqvAll, eqv_int, Bool.and_true]
  have hb : ∀ i j : Int, (i == j) = decide (i = j) := fun i j => by
    by_cases h : i = j
    · subst h; simp
    · rw [decide_eq_false h]; simp [h]
  simp only [PyData.eqvAll, PyData.eqv, Bool.and_true, hb]
theorem ei_tt {t : TF} {f g : EF} {δ : Pl.Env} {M M1 : Mh} {r : Option (D × Mh)} (h : t δ M = some (true, M1)) (k : f δ M1 = r) : eIf t f g δ M = r := by
  unfold eIf; rw [h]; exact k
theorem ei_ff {t : TF} {f g : EF} {δ : Pl.Env} {M M1 : Mh} {r : Option (D × Mh)} (h : t δ M = some (false, M1)) (k : g δ M1 = r) : eIf t f g δ M = r := by
  unfold eIf; rw [h]; exact k
theorem num_small {cs : List Nat} {n : Nat} (h : numOf cs = some n) : n < 2 ^ 100 := by
  unfold numOf at h
  split at h
  · rename_i hn
    cases h
    simp only [isnum, Bool.and_eq_true, decide_eq_true_eq] at hn
    obtain ⟨⟨⟨l1, l4⟩, fg⟩, _⟩ := hn
    have ad := figs_digits fg
    have gen : ∀ (cs : List Nat) (a : Nat), NumText.AllDigits cs → cs.foldl (fun acc c => acc * 10 + (c - 48)) a < (a + 1) * 10 ^ cs.length := by
      intro cs
      induction cs with
      | nil => intro a _; simp
      | cons c cs ih =>
        intro a h
        have h2 := h c List.mem_cons_self
        rw [List.foldl_cons, List.length_cons]
        refine Nat.lt_of_lt_of_le (ih _ fun d hd => h d (List.mem_cons_of_mem _ hd)) ?_
        rw [Nat.pow_succ, Nat.mul_comm (10 ^ cs.length) 10, ← Nat.mul_assoc]
        exact Nat.mul_le_mul_right _ (by omega)
    have this : ∀ cs : List Nat, NumText.AllDigits cs → NumText.digitsVal cs < 10 ^ cs.length := fun cs h => by
      have := gen cs 0 h
      rw [Nat.zero_add, Nat.one_mul] at this
      exact this
    refine Nat.lt_of_lt_of_le (this cs ad) (Nat.le_trans (Nat.pow_le_pow_right (by decide) l4) (by decide))
  · cases h
def negOf : Option Nat → Option Int
  | none => none
  | some n => if n = 0 then none else some (-(n : Int))
end Law

namespace Law
open PySem L2 Pl
/-- the pair's text -/
def shF : Option (Int × Int) → Str
  | none => "None"
  | some (t, b) => (PyData.tuple [.int t, .int b]).shown
theorem tl_sh (t b : Int) : TL.tl (PyData.tuple [.int t, .int b]).shown = [40] ++ (TL.tl (TT t) ++ [44, 32] ++ TL.tl (TT b)) ++ [41] := by
  have e1 : TL.tl (Str.ofString "(") = [40] := by decide +kernel
  have e2 : TL.tl (Str.ofString ", ") = [44, 32] := by decide +kernel
  have e3 : TL.tl (Str.ofString ")") = [41] := by decide +kernel
  have e4 : (Str.ofString (if (([PyData.shown (.int t), PyData.shown (.int b)].length == 1) = true) then ",)" else ")")) = Str.ofString ")" := rfl
  rw [PyData.shown, PyData.shownAll, PyData.shownAll, PyData.shownAll, tupleText, e4, TL.tl_append, TL.tl_append, TL.tl_join, e1, e2, e3]
  simp [TL.joinL, PyData.shown]
  rfl
def BigOk : Option (Int × Int) → Prop
  | none => True
  | some (t, b) => t.natAbs < 2 ^ 128 ∧ b.natAbs < 2 ^ 128
theorem shF_ok {v : Option (Int × Int)} (h : BigOk v) : PyData.strOk (shF v) = true ∧ (shF v).length ≤ 4000 ∧ ∀ M, gRepr [optF v] M = some (.str (shF v), M) := by
  cases v with
  | none => exact ⟨by decide +kernel, by decide +kernel, fun M => by
      have : reprOk .none = true := by decide +kernel
      simp only [gRepr, optF, deref, toP, this, if_true]
      rw [PyData.shown]; rfl⟩
  | some tb =>
    obtain ⟨t, b⟩ := tb
    have l1 : t.natAbs.log2 < 1920 := lg h.1
    have l2 : b.natAbs.log2 < 1920 := lg h.2
    have n1 : (TT t).length ≤ 1921 := PyProof.Rows.int_text_len_1921 l1
    have n2 : (TT b).length ≤ 1921 := PyProof.Rows.int_text_len_1921 l2
    have ln : (shF (some (t, b))).length ≤ 4000 := by
      rw [str_len, shF, tl_sh]
      simp only [List.length_append, List.length_cons, List.length_nil, ← str_len]
      omega
    refine ⟨strOk_of fun s hs => ?_, ln, fun M => ?_⟩
    · rw [shF, tl_sh] at hs
      simp only [List.mem_append, List.mem_cons, List.not_mem_nil, or_false] at hs
      rcases hs with (e | (e | e | e) | e) | e
      · omega
      · exact TT_ok t s e
      · omega
      · omega
      · exact TT_ok b s e
      · omega
    · have ok : reprOk (.tuple [.int t, .int b]) = true := by
        have s1 : SeqAt.shaped (.tuple [.int t, .int b]) = true := by
          simp [SeqAt.shaped, PyData.canLay0, PyData.canLayAll0, PyData.depth, PyData.depthAll]
        have l3 : (PyData.tuple [.int t, .int b]).shown.length ≤ sizeLine := Nat.le_trans ln (by decide)
        simp [reprOk, s1, PyData.showable, PyData.showableAll, PyData.hasDict, PyData.hasDictAll, l1, l2, l3]
      simp only [gRepr, optF, deref, toP, toPs, ok, if_true]
      rfl
theorem numOf_b {cs : List Nat} {n : Nat} (h : numOf cs = some n) : n < 2 ^ 128 := Nat.lt_of_lt_of_le (num_small h) (by decide)
theorem sgn_b {cs : List Nat} {t : Int} (h : sgnOf cs = some t) : t.natAbs < 2 ^ 128 := by
  unfold sgnOf at h
  split at h
  · cases hn : numOf (cs.drop 1) with
    | none => rw [hn] at h; cases h
    | some n =>
      rw [hn] at h
      have := numOf_b hn
      by_cases h0 : n = 0
      · simp [h0] at h
      · simp [h0] at h
        omega
  · cases hn : numOf cs with
    | none => rw [hn] at h; cases h
    | some n =>
      rw [hn] at h
      have := numOf_b hn
      have e : (n : Int) = t := Option.some.inj h
      omega
theorem read_b (p : List Nat) (ro : Option (List Nat)) : BigOk (readOf p ro) := by
  cases ro with
  | none =>
    unfold readOf
    cases hs : sgnOf p with
    | none => trivial
    | some t => exact ⟨sgn_b hs, show (1 : Int).natAbs < 2 ^ 128 by decide⟩
  | some r =>
    rw [read_eq]
    cases hs : sgnOf p with
    | none => trivial
    | some t =>
      cases hn : numOf r with
      | none => trivial
      | some b =>
        dsimp only
        split
        · exact ⟨sgn_b hs, by rw [Int.natAbs_natCast]; exact numOf_b hn⟩
        · trivial
end Law

namespace Law
open PySem L2 Pl
theorem set_ne {M : Mh} {n m : Nat} {x : MO} (h : m ≠ n) : (M.set n x)[m]? = M[m]? := List.getElem?_set_ne (Ne.symm h)
theorem digit_fr {n : Nat} {M : Mh} {B many : Int} (h : At n B M) (hB : B < 2 ^ 58) (m0 : 0 < many) (m1 : many < 2 ^ 200) : ∃ (f : Int) (M' : Mh), ff_law_digit [.ref n, .int many] M = some (.int f, M') ∧ At n (B + 4) M' ∧ 0 ≤ f ∧ f < many ∧ ∀ m, m ≠ n → M'[m]? = M[m]? := by
  obtain ⟨l, c, t, hM, l0, t0, tB⟩ := h
  have om : DivOk l many := dOk (by omega) (Nat.lt_of_lt_of_le (m := 2 ^ 200) (by omega) (Nat.pow_le_pow_right (by decide) (by decide)))
  have tail : ∀ (l t : Int) (N : Mh) (x : Option D), N[n]? = some (dk l c t) → 0 ≤ l → 0 ≤ t → t ≤ B + 4 → ∃ (f : Int) (M' : Mh), sSeq (sAs (eOp (gIntC (fun _ j => j ≠ 0) fun i j => .int (i.fmod j)) (eOp gDget (eVar 0) (eC (.str "left"))) (eVar 1)) (gN 3)) (sSeq (sDput (eVar 0) (eC (.str "left")) (eOp (gIntC DivOk fun i j => .int (i.fdiv j)) (eOp gDget (eVar 0) (eC (.str "left"))) (eVar 1))) (sRet (eVar 3))) [some (.ref n), some (.int many), x, none] N = some (.rt (.int f) M') ∧ At n (B + 4) M' ∧ 0 ≤ f ∧ f < many ∧ ∀ m, m ≠ n → M'[m]? = N[m]? := fun l t N x hN l0 t0 tB => by
    have om : DivOk l many := ⟨om.1, om.2⟩
    have hf := fm (a := l) m0
    refine ⟨l.fmod many, N.set n (dk (l.fdiv many) c t), ?_, ⟨l.fdiv many, c, t, set_at hN, ?_, t0, tB⟩, hf.1, hf.2, fun m hm => set_ne hm⟩
    · exact seq_as (M1 := N) (δ' := [some (.ref n), some (.int many), x, some (.int (l.fmod many))]) (op_of (op_of rfl rfl (get_l hN)) rfl (intC_of (by omega))) rfl (seq_nx (put_of (op_of (op_of rfl rfl (get_l hN)) rfl (intC_of om)) rfl rfl (put_l hN)) (ret_of rfl))
    · exact Int.fdiv_nonneg l0 (by omega)
  have tst : tV (eOp (gEq PyData.eqv) (eOp gDget (eVar 0) (eC (.str "left"))) (eC (.int 0))) [some (.ref n), some (.int many), none, none] M = some (decide (l = 0), M) := v_bl (op_of (op_of rfl rfl (get_l hM)) rfl (eq_int _ _ _))
  by_cases hl : l = 0
  · subst hl
    obtain ⟨l', e1, p1⟩ := fill_ok hM t0 (by omega) (some (.int many)) none none
    obtain ⟨f, M', e2, p2, p3, p4, p5⟩ := tail l' (t + 4) _ (some (.int 3)) (set_at hM) p1 (by omega) (by omega)
    refine ⟨f, M', fn_rt ?_, p2, p3, p4, fun m hm => (p5 m hm).trans (set_ne hm)⟩
    show gg_law_digit [some (.ref n), some (.int many), none, none] M = _
    unfold gg_law_digit
    exact seq_nx (if_tt (tst.trans (by rw [decide_eq_true rfl])) e1) e2
  · obtain ⟨f, M', e2, p2⟩ := tail l t M none hM l0 t0 (by omega)
    refine ⟨f, M', fn_rt ?_, p2⟩
    show gg_law_digit [some (.ref n), some (.int many), none, none] M = _
    unfold gg_law_digit
    exact seq_if0 (tst.trans (by rw [decide_eq_false hl])) e2
/-- a word that may come -/
def Wd? (x : Str) (n : Nat) : Prop := x.length ≤ n ∧ SOk x
theorem cut_w {x : Str} {n : Nat} (h : Wd? x n) (lo hi : Option Int) : Wd? (L2.cutS x lo hi) n := by
  refine ⟨?_, fun s hs => ?_⟩
  · rw [str_len, tl_cutS, List.length_take, List.length_drop, ← str_len]
    have := h.1
    omega
  · rw [tl_cutS] at hs
    exact h.2 s (List.mem_of_mem_drop (List.mem_of_mem_take hs))
theorem app_w {x y : Str} {n m : Nat} (h : Wd? x n) (k : Wd? y m) : Wd? (x ++ y) (n + m) := by
  refine ⟨by rw [app_len]; have := h.1; have := k.1; omega, fun s hs => ?_⟩
  rw [TL.tl_append] at hs
  rcases List.mem_append.mp hs with z | z
  · exact h.2 s z
  · exact k.2 s z
theorem add_str {x y : Str} {n m : Nat} {M : Mh} (h : Wd? x n) (k : Wd? y m) (l : n + m ≤ 1000000) : gAdd (.str x) (.str y) M = some (.str (x ++ y), M) := by
  show (if x.length + y.length ≤ sizeLine then _ else none) = _
  rw [if_pos (Nat.le_trans (show _ ≤ 1000000 by have := h.1; have := k.1; omega) (by decide))]
theorem sl_of {x : Str} {f : EF} {p q : Pl.Env → Mh → Option (Option Int × Mh)} {δ : Pl.Env} {M M1 M2 M3 : Mh} {lo hi : Option Int} (hx : x.length ≤ 1000000) (h : f δ M = some (.str x, M1)) (h1 : p δ M1 = some (lo, M2)) (h2 : q δ M2 = some (hi, M3)) : eSl f p q δ M = some (.str (L2.cutS x lo hi), M3) := by
  unfold eSl
  rw [h]
  dsimp only
  rw [h1]
  dsimp only
  rw [h2]
  exact if_pos (Nat.le_trans hx (by decide))
theorem ps_of {f : EF} {δ : Pl.Env} {M M1 : Mh} {i : Int} (h : f δ M = some (.int i, M1)) : pSome f δ M = some (some i, M1) := by
  unfold pSome; rw [h]
theorem sign_at {z : Str} {i : Int} {M : Mh} (h0 : 0 ≤ i) (h1 : i < z.length) (hz : z.length ≤ 1000) (hs : SOk z) : ∃ c : Nat, gIx (.str z) (.int i) M = some (.str ⟨#[c]⟩, M) ∧ Wd? ⟨#[c]⟩ 1 := by
  have hl : i.toNat < (TL.tl z).length := by rw [← str_len]; omega
  refine ⟨(TL.tl z)[i.toNat], ?_, by show (1 : Nat) ≤ 1; decide, fun s hs2 => ?_⟩
  · have e : L2.atI z.cps.toList i = some (TL.tl z)[i.toNat] := by
      show L2.atI (TL.tl z) i = _
      unfold L2.atI L2.ixN
      have hb : i < ((TL.tl z).length : Nat) := by omega
      have hb2 : i < (z.cps.size : Int) := h1
      have hl2 : i.toNat < z.cps.size := by omega
      simp [h0, hb2, hl2]
    show (if z.length ≤ sizeLine then (L2.atI z.cps.toList i).map fun c => (D.str ⟨#[c]⟩, M) else none) = _
    rw [if_pos (Nat.le_trans hz (by decide)), e]; rfl
  · have := List.mem_singleton.mp hs2
    subst this
    exact hs _ (List.getElem_mem _)
end Law

namespace Law
open PySem L2 Pl
section
variable {n : Nat} {M : Mh}
theorem dgc {B many : Int} {δ : Pl.Env} {i : Nat} {fm : EF} {M1 : Mh} (h0 : δ[i]? = some (some (.ref n))) (hm : fm δ M = some (.int many, M1)) (h : At n B M1) (hB : B < 2 ^ 58) (m0 : 0 < many) (m1 : many < 2 ^ 200) : ∃ (f : Int) (M' : Mh), eCall ff_law_digit (aCons (eVar i) (aCons fm aNil)) [] δ M = some (.int f, M') ∧ At n (B + 4) M' ∧ 0 ≤ f ∧ f < many ∧ ∀ m, m ≠ n → M'[m]? = M1[m]? := by
  obtain ⟨f, M', e, p⟩ := digit_fr h hB m0 m1
  exact ⟨f, M', call_of (cons_of (by rw [x_eVar, h0]) (cons_of hm x_aNil)) e, p⟩
theorem ftx_w {a : Rat} [ha : Sz 1 a] : Wd? (ftx a) 3843 := by
  have n1 : (TT a.num).length ≤ 1921 := PyProof.Rows.int_text_len_1921 (lg ha.num)
  have n2 : (TT a.den).length ≤ 1921 := PyProof.Rows.int_text_len_1921 (lg ha.den)
  have sl : ("/" : Str).length = 1 := by decide +kernel
  have e0 : Str.empty.length = 0 := rfl
  have w1 : Wd? (TT a.num) 1921 := ⟨n1, TT_ok _⟩
  have w2 : Wd? (TT a.den) 1921 := ⟨n2, TT_ok _⟩
  have w3 : Wd? ("/" : Str) 1 := ⟨by rw [sl]; exact Nat.le_refl _, fun s hs => by rw [tslash] at hs; have := List.mem_singleton.mp hs; omega⟩
  have w0 : Wd? Str.empty 0 := ⟨Nat.le_refl _, fun s hs => nomatch hs⟩
  unfold ftx
  split
  · exact ⟨Nat.le_trans n1 (by decide), TT_ok _⟩
  · exact app_w (app_w (app_w w0 w1) w3) w2
end
end Law

namespace Law
open PySem L2 Pl
def allIn (S : Str) (cs : List Nat) : Bool := cs.all fun c => decide (c ∈ S.cps.toList)
theorem signs_spG (S : Str) (M : Mh) (a c z : Option D) : ∀ cs : List Nat, lcGo (gN 3) tTrue (eOp (gIn fun b => b) (eVar 3) (eVar 1)) (cs.map fun s => .str ⟨#[s]⟩) [a, some (.str S), c, z] M = some (cs.map fun s => .bl (decide (s ∈ S.cps.toList)), M)
  | [] => rfl
  | s :: cs => by
    have e : eOp (gIn fun b => b) (eVar 3) (eVar 1) [a, some (.str S), c, some (.str ⟨#[s]⟩)] M = some (.bl (decide (s ∈ S.cps.toList)), M) := op_of rfl rfl rfl
    rw [List.map_cons]
    unfold lcGo
    dsimp only [gN, List.set_cons_succ, List.set_cons_zero, tTrue]
    rw [e]
    dsimp only
    rw [signs_spG S M a c z cs]
    rfl
theorem text_spG {x S : Str} {m : Nat} {M : Mh} (hx : x.length ≤ 1000000) (hm : m ≤ 1000) : ff_is_text_of [.str x, .str S, .int m] M = some (.bl (decide (1 ≤ (TL.tl x).length) && decide ((TL.tl x).length ≤ m) && allIn S (TL.tl x)), M) := by
  refine fn_rt ?_
  show gg_is_text_of [some (.str x), some (.str S), some (.int m), none] M = _
  unfold gg_is_text_of
  have t2 : tNt (tV (eChain (gInt fun i j => .bl (decide (i ≤ j))) (gInt fun i j => .bl (decide (i ≤ j))) (eC (.int 1)) (eB gLen (aCons (eVar 0) aNil)) (eVar 2))) [some (.str x), some (.str S), some (.int m), none] M = some (!(decide (1 ≤ (TL.tl x).length) && decide ((TL.tl x).length ≤ m)), M) := by
    refine nt_of (v_bl ?_)
    unfold eChain
    rw [x_eC]
    dsimp only
    rw [len_sp (f := eVar 0) rfl hx, str_len]
    by_cases h1 : 1 ≤ (TL.tl x).length
    · have b1 : decide ((1 : Int) ≤ ((TL.tl x).length : Nat)) = true := decide_eq_true (by omega)
      have b2 : decide ((((TL.tl x).length : Nat) : Int) ≤ (m : Int)) = decide ((TL.tl x).length ≤ m) := by
        by_cases h4 : (TL.tl x).length ≤ m
        · rw [decide_eq_true h4]; exact decide_eq_true (by omega)
        · rw [decide_eq_false h4]; exact decide_eq_false (by omega)
      rw [decide_eq_true h1]
      simp only [gInt, x_eVar, b1, b2, List.getElem?_cons_zero, List.getElem?_cons_succ, Bool.true_and]
    · have b1 : decide ((1 : Int) ≤ ((TL.tl x).length : Nat)) = false := decide_eq_false (by omega)
      rw [decide_eq_false h1]
      simp only [gInt, b1, Bool.false_and]
  by_cases hl : 1 ≤ (TL.tl x).length ∧ (TL.tl x).length ≤ m
  · rw [decide_eq_true hl.1, decide_eq_true hl.2] at t2 ⊢
    refine seq_if0 (M1 := M) (or0 (M1 := M) (nt_of (b := true) (isstr_ok rfl)) t2) (ret_of ?_)
    have lc : eLc [3] (aSigns (eVar 0)) (gN 3) tTrue (eOp (gIn fun b => b) (eVar 3) (eVar 1)) [some (.str x), some (.str S), some (.int m), none] M = some (.lst ((TL.tl x).map fun s => .bl (decide (s ∈ S.cps.toList))), M) := by
      unfold eLc
      have e : aSigns (eVar 0) [some (.str x), some (.str S), some (.int m), none] M = some ((TL.tl x).map fun s => .str ⟨#[s]⟩, M) := rfl
      rw [e]
      dsimp only [wipeD, List.set_cons_succ, List.set_cons_zero]
      rw [signs_spG S M _ _ _ _]
      dsimp only
      rw [if_pos (by rw [List.length_map]; exact Nat.le_trans hl.2 (Nat.le_trans hm (by decide)))]
    rw [x_eB, cons_of lc x_aNil]
    simp [gBs, lstOf, bs_sp, allIn, List.all_map, Function.comp_def]
  · have e : (decide (1 ≤ (TL.tl x).length) && decide ((TL.tl x).length ≤ m)) = false := by
      rw [← Bool.decide_and]; exact decide_eq_false hl
    rw [e] at t2 ⊢
    exact seq_if1 (M1 := M) (or0 (M1 := M) (nt_of (b := true) (isstr_ok rfl)) t2) (ret_of rfl)
def LET : Str := "abcdefghijklmnopqrstuvwxyz"
def nameb (cs : List Nat) : Bool := decide (1 ≤ cs.length) && decide (cs.length ≤ 8) && allIn "abcdefghijklmnopqrstuvwxyz" cs
/-- what is none of the signs -/
theorem other_goG (S : Str) (M : Mh) (a b z : Option D) (r : Pl.Env) : ∀ cs : List Nat, lcGo (gN 2) (tV (eOp (gIn fun b => !b) (eVar 2) (eC (.str S)))) (eVar 2) (cs.map fun s => .str ⟨#[s]⟩) (a :: b :: z :: r) M = some ((cs.filter fun s => !decide (s ∈ S.cps.toList)).map fun s => .str ⟨#[s]⟩, M)
  | [] => rfl
  | s :: cs => by
    have e : tV (eOp (gIn fun b => !b) (eVar 2) (eC (.str S))) (a :: b :: some (.str ⟨#[s]⟩) :: r) M = some (!decide (s ∈ S.cps.toList), M) := v_bl (op_of rfl rfl rfl)
    have e2 : eVar 2 (a :: b :: some (.str ⟨#[s]⟩) :: r) M = some (.str ⟨#[s]⟩, M) := rfl
    rw [List.map_cons]
    unfold lcGo
    dsimp only [gN, List.set_cons_succ, List.set_cons_zero]
    rw [List.filter_cons]
    cases hd : decide (s ∈ S.cps.toList) with
    | true =>
      rw [hd] at e
      have e' : tV (eOp (gIn fun b => !b) (eVar 2) (eC (.str S))) (a :: b :: some (.str ⟨#[s]⟩) :: r) M = some (false, M) := e
      rw [e', if_neg (by decide)]
      exact other_goG S M a b z r cs
    | false =>
      rw [hd] at e
      have e' : tV (eOp (gIn fun b => !b) (eVar 2) (eC (.str S))) (a :: b :: some (.str ⟨#[s]⟩) :: r) M = some (true, M) := e
      rw [e', if_pos (by decide)]
      dsimp only
      rw [e2]
      dsimp only
      rw [other_goG S M a b z r cs]
      rfl
theorem others_lc {S x : Str} {M : Mh} {b z : Option D} {r : Pl.Env} (hx : x.length ≤ 1000000) : eLc [2] (aSigns (eVar 0)) (gN 2) (tV (eOp (gIn fun b => !b) (eVar 2) (eC (.str S)))) (eVar 2) (some (.str x) :: b :: z :: r) M = some (.lst (((TL.tl x).filter fun s => !decide (s ∈ S.cps.toList)).map fun s => .str ⟨#[s]⟩), M) := by
  unfold eLc
  have e : aSigns (eVar 0) (some (.str x) :: b :: z :: r) M = some ((TL.tl x).map fun s => .str ⟨#[s]⟩, M) := rfl
  rw [e]
  dsimp only [wipeD, List.set_cons_succ, List.set_cons_zero]
  rw [other_goG S M _ _ _ _ _]
  dsimp only
  rw [if_pos]
  rw [List.length_map]
  exact Nat.le_trans (List.length_filter_le _ _) (Nat.le_trans (by rw [← str_len]; exact hx) (by decide))
theorem others_all (S : Str) (cs : List Nat) : (cs.filter fun s => !decide (s ∈ S.cps.toList)).isEmpty = allIn S cs := by
  induction cs with
  | nil => rfl
  | cons c cs ih =>
    rw [List.filter_cons, allIn, List.all_cons]
    cases decide (c ∈ S.cps.toList) with
    | true => rw [if_neg (by simp), ih]; rfl
    | false => rw [if_pos (by simp)]; rfl
theorem eq_strs1 {L : List Nat} {M : Mh} (h : ∀ s ∈ L, s < 1114112) : gEq PyData.eqv (.lst (L.map fun s => .str ⟨#[s]⟩)) (.lst []) M = some (.bl L.isEmpty, M) := by
  obtain ⟨h1, h2⟩ := lay_strs L h
  have s1 : SeqAt.shaped (.list (L.map fun s => .str ⟨#[s]⟩)) = true := by
    simp only [SeqAt.shaped, Bool.and_eq_true, decide_eq_true_eq]
    rw [PyData.canLay0, PyData.depth]
    exact ⟨h1, by omega⟩
  have s2 : SeqAt.shaped (.list []) = true := by decide +kernel
  simp only [gEq, deref, toP, toPs_strs, toPs, s1, s2, Bool.and_self, if_true]
  cases L with
  | nil => simp [PyData.eqv, PyData.eqvAll]
  | cons s L => simp [PyData.eqv, PyData.eqvAll]
/-- where a figure stands -/
theorem idx_sp {c : Nat} (h : 48 ≤ c ∧ c ≤ 57) (M : Mh) : gIdx "0123456789" (.str ⟨#[c]⟩) M = some (.int ((c - 48 : Nat) : Int), M) := by
  have : c = 48 ∨ c = 49 ∨ c = 50 ∨ c = 51 ∨ c = 52 ∨ c = 53 ∨ c = 54 ∨ c = 55 ∨ c = 56 ∨ c = 57 := by omega
  have k : ∀ n : Nat, n < 10 → Builtin.Str.occurrences ("0123456789" : Str) ⟨#[48 + n]⟩ 0 ("0123456789" : Str).length 1 = [n] := by decide +kernel
  have e := k (c - 48) (by omega)
  rw [show 48 + (c - 48) = c by omega] at e
  simp only [gIdx, e]
theorem forGo_nx {g : GF} {b : SF} {x : D} {xs : List D} {δ δ1 δ' : Pl.Env} {M M' : Mh} {r : Option Out} (h1 : g x δ = some δ1) (h2 : b δ1 M = some (.nx δ' M')) (h3 : forGo g b xs δ' M' = r) : forGo g b (x :: xs) δ M = r := by
  unfold forGo
  rw [h1]
  dsimp only
  rw [h2]
  exact h3
end Law

namespace Law
open PySem L2 Pl
theorem SOk.cut2 {x : Str} (h : SOk x) : SOk (L2.cutS x (some 1) none) := fun s hs => by
  rw [Law.cut2] at hs
  exact h s (List.mem_of_mem_drop hs)
/-! ### what repr tells -/
theorem textFrom_ok : ∀ (ts : List Str) (k : Nat) (acc : Str), SOk acc → (∀ t ∈ ts, SOk t) → SOk (textFrom k acc ts)
  | [], _, _, h, _ => h
  | t :: r, k, acc, h, g => by
    refine textFrom_ok r (k + 1) (acc ++ (if k > 0 then ", " else "" : String) ++ t) (fun s hs => ?_) fun u hu => g u (List.mem_cons_of_mem _ hu)
    rw [TL.tl_append, TL.tl_append] at hs
    rcases List.mem_append.mp hs with hs | hs
    · rcases List.mem_append.mp hs with hs | hs
      · exact h s hs
      · have e1 : TL.tl (Str.ofString ", ") = [44, 32] := by decide +kernel
        have e2 : TL.tl (Str.ofString "") = [] := by decide +kernel
        split at hs
        · rw [e1] at hs
          simp only [List.mem_cons, List.not_mem_nil, or_false] at hs
          omega
        · rw [e2] at hs
          cases hs
    · exact g t List.mem_cons_self s hs
theorem textFrom_le (n : Nat) : ∀ (ts : List Str) (k : Nat) (acc : Str), (∀ t ∈ ts, t.length ≤ n) → (textFrom k acc ts).length ≤ acc.length + ts.length * (n + 2)
  | [], _, acc, _ => by show acc.length ≤ _; omega
  | t :: r, k, acc, h => by
    have ih := textFrom_le n r (k + 1) (acc ++ (if k > 0 then ", " else "" : String) ++ t) fun u hu => h u (List.mem_cons_of_mem _ hu)
    have h1 := h t List.mem_cons_self
    have e1 : (Str.ofString ", ").length = 2 := by decide +kernel
    have e2 : (Str.ofString "").length = 0 := by decide +kernel
    have e3 : (Str.ofString (if k > 0 then ", " else "")).length ≤ 2 := by
      split
      · rw [e1]; exact Nat.le_refl _
      · rw [e2]; omega
    show (textFrom (k + 1) (acc ++ (if k > 0 then ", " else "" : String) ++ t) r).length ≤ _
    rw [app_len, app_len] at ih
    rw [List.length_cons, Nat.add_mul]
    omega
/-- plain things -/
def Smp : D → Prop
  | .non => True
  | .bl _ => True
  | .int i => i.natAbs < 2 ^ 128
  | _ => False
theorem smp_ok {d : D} (h : Smp d) : ∃ p, toP d = some p ∧ p.showable = true ∧ p.canLay0 = true ∧ p.depth = 0 ∧ p.hasDict = false ∧ SOk p.shown ∧ p.shown.length ≤ 1921 := by
  match d, h with
  | .non, _ => exact ⟨.none, rfl, by decide +kernel, by decide +kernel, by decide +kernel, by decide +kernel, fun s hs => by
      have e : TL.tl (PyData.none).shown = [78, 111, 110, 101] := by decide +kernel
      rw [e] at hs
      simp only [List.mem_cons, List.not_mem_nil, or_false] at hs
      omega, by decide +kernel⟩
  | .bl b, _ =>
    have g : ∀ b : Bool, (TL.tl (PyData.bool b).shown).all (fun s => decide (s < 1114112)) = true ∧ (PyData.bool b).shown.length ≤ 1921 ∧ (PyData.bool b).showable = true ∧ (PyData.bool b).canLay0 = true ∧ (PyData.bool b).depth = 0 ∧ (PyData.bool b).hasDict = false := by decide +kernel
    obtain ⟨a1, a2, a3, a4, a5, a6⟩ := g b
    exact ⟨.bool b, rfl, a3, a4, a5, a6, fun s hs => of_decide_eq_true (List.all_eq_true.mp a1 s hs), a2⟩
  | .int i, h =>
    have l1 : i.natAbs.log2 < 1920 := lg h
    exact ⟨.int i, rfl, by simp [PyData.showable, l1], by simp [PyData.canLay0], by simp [PyData.depth], by simp [PyData.hasDict], TT_ok i, PyProof.Rows.int_text_len_1921 l1⟩
theorem smps_ok : ∀ L : List D, (∀ d ∈ L, Smp d) → ∃ ps, toPs L = some ps ∧ PyData.showableAll ps = true ∧ PyData.canLayAll0 ps = true ∧ PyData.depthAll ps = 0 ∧ PyData.hasDictAll ps = false ∧ (∀ t ∈ PyData.shownAll ps, SOk t ∧ t.length ≤ 1921) ∧ (PyData.shownAll ps).length = L.length
  | [], _ => ⟨[], rfl, by simp [PyData.showableAll], by simp [PyData.canLayAll0], by simp [PyData.depthAll], by simp [PyData.hasDictAll], (fun t ht => by rw [PyData.shownAll] at ht; exact absurd ht (by simp)), (by rw [PyData.shownAll]; rfl)⟩
  | d :: L, h => by
    obtain ⟨p, e, a1, a2, a3, a4, a5, a6⟩ := smp_ok (h d List.mem_cons_self)
    obtain ⟨ps, f, b1, b2, b3, b4, b5, b6⟩ := smps_ok L fun x hx => h x (List.mem_cons_of_mem _ hx)
    refine ⟨p :: ps, by rw [toPs, e, f], by rw [PyData.showableAll, a1, b1]; rfl, by rw [PyData.canLayAll0, a2, b2]; rfl, by rw [PyData.depthAll, a3, b3]; rfl, by rw [PyData.hasDictAll, a4, b4]; rfl, fun t ht => ?_, ?_⟩
    · rw [PyData.shownAll] at ht
      rcases List.mem_cons.mp ht with z | z
      · rw [z]; exact ⟨a5, a6⟩
      · exact b5 t z
    · rw [PyData.shownAll, List.length_cons, List.length_cons, b6]
end Law

namespace Law
open PySem L2 Pl
theorem t32 : TL.tl (" " : Str) = [32] := by decide +kernel
theorem spl_mem (S : List Nat) : ∀ (l : List Nat) (k : Nat) (acc : List Nat), ∀ p ∈ TL.spl S k acc l, ∀ s ∈ p, s ∈ acc ∨ s ∈ l := fun l => by
  induction l with
  | nil =>
    intro k acc p hp s hs
    rw [TL.spl_nil] at hp
    rw [List.mem_singleton.mp hp] at hs
    exact .inl hs
  | cons c l ih =>
    intro k acc p hp s hs
    cases k with
    | succ k =>
      rw [TL.spl_pass S (k + 1) acc (c :: l), List.drop_succ_cons, ← TL.spl_pass S k acc l] at hp
      rcases ih k acc p hp s hs with z | z
      · exact .inl z
      · exact .inr (List.mem_cons_of_mem _ z)
    | zero =>
      cases hq : TL.pre S (c :: l) with
      | true =>
        rw [TL.spl_hit hq] at hp
        rcases List.mem_cons.mp hp with e | hp
        · rw [e] at hs
          exact .inl hs
        · rcases ih _ _ p hp s hs with z | z
          · cases z
          · exact .inr (List.mem_cons_of_mem _ z)
      | false =>
        rw [TL.spl_miss hq] at hp
        rcases ih _ _ p hp s hs with z | z
        · rcases List.mem_append.mp z with z | z
          · exact .inl z
          · exact .inr (by rw [List.mem_singleton.mp z]; exact List.mem_cons_self)
        · exact .inr (List.mem_cons_of_mem _ z)
theorem split_tlB (x : Str) : (Txt.split x " ").map TL.tl = TL.spl [32] 0 [] (TL.tl x) := by
  have := TL.split_spl x (" " : Str) (by rw [t32]; exact fun z => nomatch z) (TL.kind_ok (by decide +kernel))
  rw [t32] at this
  exact this
theorem parts_ok {x : Str} (hs : SOk x) : ∀ y ∈ Txt.split x " ", SOk y := fun y hy s h => by
  have : TL.tl y ∈ TL.spl [32] 0 [] (TL.tl x) := by
    rw [← split_tlB]
    exact List.mem_map_of_mem hy
  rcases spl_mem _ _ _ _ _ this s h with z | z
  · cases z
  · exact hs s z
theorem toPs_S : ∀ L : List Str, toPs (L.map D.str) = some (L.map PyData.str)
  | [] => rfl
  | s :: L => by rw [List.map_cons, toPs, toP, toPs_S L]; rfl
theorem lay_S : ∀ L : List Str, (∀ s ∈ L, SOk s) → PyData.canLayAll0 (L.map PyData.str) = true ∧ PyData.depthAll (L.map PyData.str) ≤ 1
  | [], _ => by simp [PyData.canLayAll0, PyData.depthAll]
  | s :: L, h => by
    obtain ⟨h1, h2⟩ := lay_S L fun q hq => h q (List.mem_cons_of_mem _ hq)
    have h3 := str_sh (x := s) (strOk_of (h s List.mem_cons_self))
    simp only [SeqAt.shaped, Bool.and_eq_true, decide_eq_true_eq] at h3
    have d0 : (PyData.str s).depth ≤ 1 := by simp [PyData.depth]
    rw [List.map_cons, PyData.canLayAll0, PyData.depthAll]
    refine ⟨by rw [h3.1, h1]; rfl, ?_⟩
    omega
theorem shaped_S {L : List Str} (h : ∀ s ∈ L, SOk s) : SeqAt.shaped (.list (L.map PyData.str)) = true := by
  obtain ⟨h1, h2⟩ := lay_S L h
  simp only [SeqAt.shaped, Bool.and_eq_true, decide_eq_true_eq]
  rw [PyData.canLay0, PyData.depth]
  exact ⟨h1, by omega⟩
theorem any_S (y : Str) : ∀ L : List Str, (L.map PyData.str).any (fun z => PyData.eqv z (.str y)) = decide (y ∈ L)
  | [] => by simp
  | s :: L => by
    rw [List.map_cons, List.any_cons, any_S y L, eqv_str]
    by_cases h : s = y
    · rw [decide_eq_true h, decide_eq_true (List.mem_cons.mpr (.inl h.symm))]; rfl
    · rw [decide_eq_false h, Bool.false_or]
      by_cases g : y ∈ L
      · rw [decide_eq_true g, decide_eq_true (List.mem_cons_of_mem _ g)]
      · rw [decide_eq_false g, decide_eq_false]
        intro z
        rcases List.mem_cons.mp z with z | z
        · exact h z.symm
        · exact g z
theorem in_S {L : List Str} {M : Mh} (h : ∀ s ∈ L, SOk s) : gIn (fun b => b) (.str "") (.lst (L.map D.str)) M = some (.bl (decide (("" : Str) ∈ L)), M) := by
  have s1 := shaped_S h
  have s2 : SeqAt.shaped (.str "") = true := by decide +kernel
  show (match toP (deref M (.str "")), toP (deref M (.lst (L.map D.str))) with
    | some p, some (.tuple ps) => if SeqAt.shaped p && SeqAt.shaped (.tuple ps) then some (D.bl (ps.any fun z => PyData.eqv z p), M) else none
    | some p, some (.list ps) => if SeqAt.shaped p && SeqAt.shaped (.list ps) then some (D.bl (ps.any fun z => PyData.eqv z p), M) else none
    | _, _ => none) = _
  simp only [deref, toP, toPs_S, s1, s2, Bool.and_self, if_true, any_S]
theorem eqv_S : ∀ L : List Str, PyData.eqvAll (L.map PyData.str) (L.map PyData.str) = true
  | [] => by simp [PyData.eqvAll]
  | s :: L => by rw [List.map_cons, PyData.eqvAll, eqv_str, decide_eq_true rfl, eqv_S L]; rfl
theorem same_S {L : List Str} {M : Mh} (h : ∀ s ∈ L, SOk s) : gEq PyData.eqv (.lst (L.map D.str)) (.lst (L.map D.str)) M = some (.bl true, M) := by
  have s1 := shaped_S h
  simp only [gEq, deref, toP, toPs_S, s1, Bool.and_self, if_true]
  rw [PyData.eqv, eqv_S]
theorem split_of {x : Str} {f : EF} {δ : Pl.Env} {M : Mh} (hx : x.length ≤ 1000000) (h : f δ M = some (.str x, M)) : eS1 gSplit f (eC (.str " ")) δ M = some (.lst ((Txt.split x " ").map D.str), M) := by
  unfold eS1
  rw [h]
  dsimp only
  rw [x_eC]
  show (if ((" " : Str).length == 0) = false ∧ x.length + 2 ≤ sizeLine then some (D.lst ((Txt.split x " ").map D.str), M) else none) = _
  rw [if_pos ⟨by decide +kernel, Nat.le_trans (show _ ≤ 1000002 by omega) (by decide)⟩]
def wordsD (x : Str) : D := if ("" : Str) ∈ Txt.split x " " then .non else .lst ((Txt.split x " ").map D.str)
theorem words_sp {x : Str} {M : Mh} (hx : x.length ≤ 1000000) (hs : SOk x) : ff_words_of [.str x] M = some (wordsD x, M) := by
  refine fn_rt ?_
  show gg_words_of [some (.str x), none] M = _
  unfold gg_words_of
  refine seq_if0 (M1 := M) (nt_of (b := true) (isstr_ok rfl)) ?_
  have sp := split_of (x := x) (f := eVar 0) (δ := [some (.str x), none]) (M := M) hx rfl
  have po := parts_ok hs
  unfold wordsD
  generalize Txt.split x " " = L at sp po
  refine seq_as (M1 := M) (δ' := [some (.str x), some (.lst (L.map D.str))]) sp rfl ?_
  have t : tV (eOp (gIn fun b => b) (eC (.str "")) (eVar 1)) [some (.str x), some (.lst (L.map D.str))] M = some (decide (("" : Str) ∈ L), M) := v_bl (op_of x_eC rfl (in_S po))
  by_cases h : ("" : Str) ∈ L
  · rw [decide_eq_true h] at t
    rw [if_pos h]
    exact seq_if1 (M1 := M) t (ret_of rfl)
  · rw [decide_eq_false h] at t
    rw [if_neg h]
    exact seq_if0 (M1 := M) t (ret_of rfl)
theorem whole_str {x : Str} (M : Mh) : ff_is_whole [.str x] M = some (.bl false, M) := by
  refine fn_rt ?_
  show gg_is_whole [some (.str x)] M = _
  unfold gg_is_whole
  refine ret_of ?_
  have k : kitB "str" "int" = some false := by decide +kernel
  have e : eB gIsi (aCons (eVar 0) (aCons (eC (.ty "int")) aNil)) [some (.str x)] M = some (.bl false, M) := by
    rw [x_eB, cons_of (d := .str x) (M1 := M) rfl (cons_of x_eC x_aNil)]
    simp [gIsi, tyN, k]
  unfold eAn
  rw [e]
theorem among_str {x : Str} (M : Mh) (d e : D) : ff_is_among [.str x, d, e] M = some (.bl false, M) := by
  refine fn_rt ?_
  show gg_is_among [some (.str x), some d, some e] M = _
  unfold gg_is_among
  exact seq_if1 (M1 := M) (or1 (M1 := M) (nt_of (b := false) (v_bl (call_of (cons_of rfl x_aNil) (whole_str M))))) (ret_of rfl)
theorem optN_smp {cs : List Nat} : Smp (optN (numOf cs)) := by
  cases h : numOf cs with
  | none => exact trivial
  | some n =>
    show ((n : Int)).natAbs < 2 ^ 128
    have := num_small h
    exact Nat.lt_of_lt_of_le (show _ < 2 ^ 100 by omega) (by decide)
theorem optI_smp {cs : List Nat} : Smp (optI (sgnOf cs)) := by
  unfold sgnOf
  split
  · cases h : numOf (cs.drop 1) with
    | none => exact trivial
    | some n =>
      dsimp only
      split
      · exact trivial
      · show (-(n : Int)).natAbs < 2 ^ 128
        have := num_small h
        rw [Int.natAbs_neg]
        exact Nat.lt_of_lt_of_le (show _ < 2 ^ 100 by omega) (by decide)
  · cases h : numOf cs with
    | none => exact trivial
    | some n =>
      show ((n : Int)).natAbs < 2 ^ 128
      have := num_small h
      exact Nat.lt_of_lt_of_le (show _ < 2 ^ 100 by omega) (by decide)
end Law

namespace Law
open PySem L2 Pl
theorem tup_list (M : Mh) (L : List D) (f : EF) (δ : Pl.Env) (h : f δ M = some (.lst L, M)) : eB gIsi (aCons f (aCons (eC (.ty "list")) aNil)) δ M = some (.bl true, M) := by
  have k : kitB "list" "list" = some true := by decide +kernel
  rw [x_eB, cons_of h (cons_of x_eC x_aNil)]
  simp [gIsi, tyN, k]
theorem an_of1 {f g : EF} {δ : Pl.Env} {M M1 : Mh} {r : Option (D × Mh)} (h : f δ M = some (.bl true, M1)) (k : g δ M1 = r) : eAn f g δ M = r := by
  unfold eAn; rw [h]; exact k
theorem an_of0 {f g : EF} {δ : Pl.Env} {M M1 : Mh} (h : f δ M = some (.bl false, M1)) : eAn f g δ M = some (.bl false, M1) := by
  unfold eAn; rw [h]
theorem par_e {i j : Nat} {f g : EF} {δ : Pl.Env} {M M1 M2 : Mh} {d e : D} (h : f δ M = some (d, M1)) (k : g δ M1 = some (e, M2)) : sPar i j f g δ M = some (.nx ((δ.set i (some d)).set j (some e)) M2) := by
  unfold sPar; rw [h]; dsimp only; rw [k]
end Law

namespace Law
open PySem L2 Pl
theorem up128 : (List.range 128).all (fun c => (Unicode.upperOf c).all fun s => decide (s < 1114112)) = true := by decide +kernel
def AOk (x : Str) : Prop := ∀ s ∈ TL.tl x, s < 128
theorem AOk.s {x : Str} (h : AOk x) : SOk x := fun s hs => Nat.lt_trans (h s hs) (by decide)
theorem aok_of {x : Str} (h : (TL.tl x).all (fun s => decide (s < 128)) = true) : AOk x := fun s hs => of_decide_eq_true (List.all_eq_true.mp h s hs)
theorem sign_atA {z : Str} {i : Int} {M : Mh} (h0 : 0 ≤ i) (h1 : i < z.length) (hz : z.length ≤ 1000) (hs : AOk z) : ∃ c : Nat, gIx (.str z) (.int i) M = some (.str ⟨#[c]⟩, M) ∧ c < 128 := by
  have hl : i.toNat < (TL.tl z).length := by rw [← str_len]; omega
  refine ⟨(TL.tl z)[i.toNat], ?_, hs _ (List.getElem_mem _)⟩
  have e : L2.atI z.cps.toList i = some (TL.tl z)[i.toNat] := by
    show L2.atI (TL.tl z) i = _
    unfold L2.atI L2.ixN
    have hb2 : i < (z.cps.size : Int) := h1
    have hl2 : i.toNat < z.cps.size := by omega
    simp [h0, hb2, hl2]
  show (if z.length ≤ sizeLine then (L2.atI z.cps.toList i).map fun c => (D.str ⟨#[c]⟩, M) else none) = _
  rw [if_pos (Nat.le_trans hz (by decide)), e]; rfl
theorem dgcA {n : Nat} {M : Mh} {B many : Int} {δ : Pl.Env} {i : Nat} {fm : EF} {M1 : Mh} (h0 : δ[i]? = some (some (.ref n))) (hm : fm δ M = some (.int many, M1)) (h : At n B M1) (hB : B < 2 ^ 58) (m0 : 0 < many) (m1 : many < 2 ^ 200) : ∃ (f : Int) (M' : Mh), eCall ff_law_digit (aCons (eVar i) (aCons fm aNil)) [] δ M = some (.int f, M') ∧ At n (B + 4) M' ∧ 0 ≤ f ∧ f < many ∧ ∀ m, m ≠ n → M'[m]? = M1[m]? := by
  obtain ⟨f, M', e, p⟩ := digit_fr h hB m0 m1
  exact ⟨f, M', call_of (cons_of (by rw [x_eVar, h0]) (cons_of hm x_aNil)) e, p⟩
theorem strs_of1 : ∀ cs : List Nat, strsOf (cs.map fun c => D.str ⟨#[c]⟩) = some (cs.map fun c => (⟨#[c]⟩ : Str))
  | [] => rfl
  | c :: cs => by rw [List.map_cons, strsOf, strs_of1 cs]; rfl
theorem joinL1 : ∀ cs : List Nat, TL.joinL [] (cs.map fun c => [c]) = cs
  | [] => rfl
  | [c] => rfl
  | c :: d :: cs => by
    have ih := joinL1 (d :: cs)
    rw [List.map_cons] at ih
    show [c] ++ ([] ++ TL.joinL [] ([d] :: cs.map fun c => [c])) = _
    rw [List.nil_append, ih]
    rfl
theorem len1 : ∀ cs : List Nat, ((cs.map fun c => (⟨#[c]⟩ : Str)).map Str.length).sum = cs.length
  | [] => rfl
  | c :: cs => by
    rw [List.map_cons, List.map_cons, List.sum_cons, len1 cs, List.length_cons]
    show 1 + _ = _
    omega
theorem join_of {cs : List Nat} {M : Mh} (hc : cs.length ≤ 1000) (ha : ∀ c ∈ cs, c < 128) : ∃ x : Str, gJoin "" (.lst (cs.map fun c => .str ⟨#[c]⟩)) M = some (.str x, M) ∧ x.length = cs.length ∧ AOk x := by
  have te : TL.tl ("" : Str) = [] := by decide +kernel
  have tj : TL.tl (Txt.join "" (cs.map fun c => (⟨#[c]⟩ : Str))) = cs := by
    rw [TL.join_eq, TL.tl_join, te, List.map_map]
    exact joinL1 cs
  refine ⟨Txt.join "" (cs.map fun c => (⟨#[c]⟩ : Str)), ?_, by rw [str_len, tj], fun s hs => by rw [tj] at hs; exact ha s hs⟩
  show (match strsOf (cs.map fun c => D.str ⟨#[c]⟩) with
    | some ys => if (ys.map Str.length).sum + ys.length * ("" : Str).length ≤ 16777216 then some (D.str (Txt.join "" ys), M) else none
    | none => none) = _
  rw [strs_of1]
  dsimp only
  have l0 : ("" : Str).length = 0 := by decide +kernel
  rw [if_pos (by rw [len1, l0, Nat.mul_zero, Nat.add_zero]; exact Nat.le_trans hc (by decide))]
end Law

namespace Law
open PySem L2 Pl
theorem ap_S (A B : List Str) (M : Mh) (h : A.length + B.length ≤ 1000) : gAdd (.lst (A.map D.str)) (.lst (B.map D.str)) M = some (.lst ((A ++ B).map D.str), M) := by
  show (if (A.map D.str).length + (B.map D.str).length ≤ sizeLine then some (D.lst (A.map D.str ++ B.map D.str), M) else none) = _
  rw [if_pos (by rw [List.length_map, List.length_map]; exact Nat.le_trans h (by decide)), List.map_append]
theorem lit_w {x : Str} {n : Nat} (h : (TL.tl x).all (fun s => decide (s < 128)) = true) (l : x.length ≤ n) : Wd? x n := ⟨l, (aok_of h).s⟩
theorem add_of {f g : EF} {δ : Pl.Env} {M : Mh} {x y : Str} {n m : Nat} (h : f δ M = some (.str x, M)) (k : g δ M = some (.str y, M)) (wx : Wd? x n) (wy : Wd? y m) (l : n + m ≤ 1000000) : eOp gAdd f g δ M = some (.str (x ++ y), M) := op_of h k (add_str wx wy l)
theorem Wd?.mono {x : Str} {n m : Nat} (h : Wd? x n) (l : n ≤ m) : Wd? x m := ⟨Nat.le_trans h.1 l, h.2⟩
end Law

namespace Law
open PySem L2 Pl
theorem ne_nil (M : Mh) : gEq (fun p q => !PyData.eqv p q) (.lst []) (.lst []) M = some (.bl false, M) := by
  have := ne_strs (L := []) (M := M) (fun s h => nomatch h)
  exact this
/-! ### long texts -/
theorem foldl_all {Q : Nat → Prop} : ∀ (l : List (Array Nat)) (acc : Array Nat), (∀ a ∈ l, ∀ s ∈ a, Q s) → (∀ s ∈ acc, Q s) → ∀ s ∈ l.foldl (· ++ ·) acc, Q s
  | [], _, _, h => h
  | a :: l, acc, g, h => foldl_all l (acc ++ a) (fun b hb => g b (List.mem_cons_of_mem _ hb)) fun s hs => by
    rcases Array.mem_append.mp hs with z | z
    · exact h s z
    · exact g a List.mem_cons_self s z
theorem mul_all {Q : Nat → Prop} {x : Str} {n : Int} (h : ∀ s ∈ x.cps, Q s) : ∀ s ∈ (Txt.mul x n).cps, Q s := by
  unfold Txt.mul
  split
  · intro s hs
    exact absurd hs (by simp [Str.empty])
  · split
    · exact h
    · exact foldl_all _ _ (fun a ha => by
        rw [(List.mem_replicate.mp ha).2]
        exact h) (fun s hs => absurd hs (by simp))
theorem isnum_long {cs : List Nat} (h : 4 < cs.length) : numOf cs = none := by
  simp only [numOf, isnum, decide_eq_false (show ¬ cs.length ≤ 4 by omega), Bool.and_false, Bool.false_and]
  rfl
theorem nameb_long {cs : List Nat} (h : 8 < cs.length) : nameb cs = false := by
  simp only [nameb, decide_eq_false (show ¬ cs.length ≤ 8 by omega), Bool.and_false, Bool.false_and]
/-! ### many words -/
theorem joinL_mem (S : List Nat) : ∀ (ps : List (List Nat)), ∀ s ∈ TL.joinL S ps, s ∈ S ∨ ∃ p ∈ ps, s ∈ p
  | [], s, h => by cases h
  | [p], s, h => .inr ⟨p, List.mem_singleton.mpr rfl, h⟩
  | p :: q :: r, s, h => by
    rcases List.mem_append.mp (show s ∈ p ++ (S ++ TL.joinL S (q :: r)) from h) with z | z
    · exact .inr ⟨p, List.mem_cons_self, z⟩
    · rcases List.mem_append.mp z with z | z
      · exact .inl z
      · rcases joinL_mem S (q :: r) s z with z | ⟨u, hu, z⟩
        · exact .inl z
        · exact .inr ⟨u, List.mem_cons_of_mem _ hu, z⟩
theorem joinL_end (S : List Nat) : ∀ (ps : List (List Nat)), ps ≠ [] → TL.joinL S (ps ++ [[]]) = TL.joinL S ps ++ S
  | [], h => absurd rfl h
  | [p], _ => by
    show p ++ (S ++ []) = p ++ S
    rw [List.append_nil]
  | p :: q :: r, _ => by
    have ih := joinL_end S (q :: r) (fun z => nomatch z)
    show p ++ (S ++ TL.joinL S (q :: (r ++ [[]]))) = (p ++ (S ++ TL.joinL S (q :: r))) ++ S
    rw [show q :: (r ++ [[]]) = (q :: r) ++ [[]] from rfl, ih]
    simp only [List.append_assoc]
theorem strs_S : ∀ L : List Str, strsOf (L.map D.str) = some L
  | [] => rfl
  | s :: L => by rw [List.map_cons, strsOf, strs_S L]
theorem sameN_S {L : List Str} {M : Mh} (h : ∀ s ∈ L, SOk s) : gEq (fun p q => !PyData.eqv p q) (.lst (L.map D.str)) (.lst (L.map D.str)) M = some (.bl false, M) := by
  have s1 := shaped_S h
  simp only [gEq, deref, toP, toPs_S, s1, Bool.and_self, if_true]
  rw [PyData.eqv, eqv_S]
  rfl
end Law

namespace Law
open PySem L2 Pl Pl.Ev
/-! what is none of the signs, at place 3 behind three -/
/-- the number that a word tells, signed or not -/
def nOf (s : Bool) (cs : List Nat) : D := if s then optI (sgnOf cs) else optN (numOf cs)
theorem zero_cs (x : Str) : x = "0" ↔ TL.tl x = [48] := ⟨fun h => by rw [h, t0], fun h => TL.ext_tl (by rw [h, t0])⟩
end Law

namespace Law
open PySem L2 Pl Pl.Ev
theorem eq_RT (q : Rat) (t b : Int) (M : Mh) : gEq PyData.eqv (R q) (.tup [.int t, .int b]) M = some (.bl (decide (q.num = t) && decide ((q.den : Int) = b)), M) := by
  have e := ne_RT q t b M
  have e1 : gEq (fun p q => !PyData.eqv p q) (R q) (.tup [.int t, .int b]) M = some (.bl (!PyData.eqv (.tuple [.int q.num, .int q.den]) (.tuple [.int t, .int b])), M) := rfl
  have e2 : gEq PyData.eqv (R q) (.tup [.int t, .int b]) M = some (.bl (PyData.eqv (.tuple [.int q.num, .int q.den]) (.tuple [.int t, .int b])), M) := rfl
  rw [e1] at e
  rw [e2]
  simp only [Option.some.injEq, Prod.mk.injEq, and_true] at e
  injection e with e
  have := congrArg (fun b => !b) e
  simp only [Bool.not_not] at this
  rw [this]
theorem sok_sign {c : Nat} (h : c < 1114112) : SOk ⟨#[c]⟩ := fun s hs => by
  have : s = c := by simpa [TL.tl] using hs
  omega
theorem eq_sign {a b : Nat} (ha : a < 1114112) (hb : b < 1114112) (M : Mh) : gEq PyData.eqv (.str ⟨#[a]⟩) (.str ⟨#[b]⟩) M = some (.bl (decide (a = b)), M) := by
  rw [eq_str (strOk_of (sok_sign ha)) (strOk_of (sok_sign hb))]
  congr 4
  simp
theorem ne_sign {a b : Nat} (ha : a < 1114112) (hb : b < 1114112) (M : Mh) : gEq (fun p q => !PyData.eqv p q) (.str ⟨#[a]⟩) (.str ⟨#[b]⟩) M = some (.bl (!decide (a = b)), M) := by
  rw [ne_str (strOk_of (sok_sign ha)) (strOk_of (sok_sign hb))]
  have : decide ((⟨#[a]⟩ : Str) = ⟨#[b]⟩) = decide (a = b) := by simp
  rw [this]
/-! the law's look at a fraction -/
end Law

namespace Law
open PySem L2 Pl Pl.Ev
/-- what repr and == can take -/
def Nz (n k : Nat) (d : D) : Prop := ∃ p, toP d = some p ∧ p.showable = true ∧ p.canLay0 = true ∧ p.depth ≤ k ∧ p.hasDict = false ∧ SOk p.shown ∧ p.shown.length ≤ n
theorem Nz.mono {n m k j : Nat} {d : D} (h : Nz n k d) (l : n ≤ m) (g : k ≤ j) : Nz m j d := by
  obtain ⟨p, a1, a2, a3, a4, a5, a6, a7⟩ := h
  exact ⟨p, a1, a2, a3, Nat.le_trans a4 g, a5, a6, Nat.le_trans a7 l⟩
theorem nz_smp {d : D} (h : Smp d) : Nz 1921 0 d := by
  obtain ⟨p, a1, a2, a3, a4, a5, a6, a7⟩ := smp_ok h
  exact ⟨p, a1, a2, a3, by omega, a5, a6, a7⟩
/-- small letters alone, and few -/
def Low (x : Str) : Prop := x.length ≤ 20 ∧ ∀ s ∈ TL.tl x, 97 ≤ s ∧ s ≤ 122
theorem Low.s {x : Str} (h : Low x) : SOk x := fun s hs => by have := h.2 s hs; omega
theorem low_of {x : Str} (h : x.length ≤ 20) (g : (TL.tl x).all (fun s => decide (97 ≤ s) && decide (s ≤ 122)) = true) : Low x := ⟨h, fun s hs => by
  have := List.all_eq_true.mp g s hs
  simpa using this⟩
theorem chr_ok : ((List.range 26).all fun i => (Builtin.Str.reprChar 39 (97 + i)).all (fun s => decide (s < 128)) && (Builtin.Str.reprChar 34 (97 + i)).all (fun s => decide (s < 128))) = true := by decide +kernel
theorem chr_of {q c : Nat} (hq : q = 39 ∨ q = 34) (h : 97 ≤ c ∧ c ≤ 122) : ∀ s ∈ Builtin.Str.reprChar q c, s < 128 := fun s hs => by
  have := List.all_eq_true.mp chr_ok (c - 97) (List.mem_range.mpr (by omega))
  rw [show 97 + (c - 97) = c by omega, Bool.and_eq_true] at this
  rcases hq with e | e <;> rw [e] at hs
  · exact of_decide_eq_true (List.all_eq_true.mp this.1 s hs)
  · exact of_decide_eq_true (List.all_eq_true.mp this.2 s hs)
theorem fold_chr {q : Nat} (hq : q = 39 ∨ q = 34) : ∀ (cs : List Nat) (acc : Array Nat), (∀ c ∈ cs, 97 ≤ c ∧ c ≤ 122) → (∀ s ∈ acc.toList, s < 128) → ∀ s ∈ (cs.foldl (fun out c => out ++ (Builtin.Str.reprChar q c).toArray) acc).toList, s < 128
  | [], acc, _, h => h
  | c :: cs, acc, hc, h => by
    rw [List.foldl_cons]
    refine fold_chr hq cs _ (fun d hd => hc d (List.mem_cons_of_mem _ hd)) fun s hs => ?_
    rw [Array.toList_append] at hs
    rcases List.mem_append.mp hs with z | z
    · exact h s z
    · exact chr_of hq (hc c List.mem_cons_self) s z
theorem low_text {x : Str} (h : Low x) : SOk (PySem.reprText x) := fun s hs => by
  have hq : PySem.reprQuote x = 39 ∨ PySem.reprQuote x = 34 := by
    unfold PySem.reprQuote
    split
    · exact .inr rfl
    · exact .inl rfl
  have hs' : s ∈ ((x.cps.foldl (fun out c => out ++ (Builtin.Str.reprChar (PySem.reprQuote x) c).toArray) #[PySem.reprQuote x]).push (PySem.reprQuote x)).toList := hs
  rw [Array.toList_push, ← Array.foldl_toList] at hs'
  rcases List.mem_append.mp hs' with z | z
  · have := fold_chr hq x.cps.toList _ h.2 (fun t ht => by
      have : t = PySem.reprQuote x := by simpa using ht
      omega) s z
    omega
  · have := List.mem_singleton.mp z
    omega
theorem nz_low {x : Str} (h : Low x) : Nz 1921 0 (.str x) := by
  refine ⟨.str x, rfl, by simp [PyData.showable], by rw [PyData.canLay0]; exact strOk_of h.s, by simp [PyData.depth], by simp [PyData.hasDict], ?_, ?_⟩
  · rw [PyData.shown]; exact low_text h
  · rw [PyData.shown]
    have := PySem.StrLaws.reprText_len x fun c hc => by
      have := h.2 c hc
      exact Nat.lt_of_le_of_lt this.2 (by decide)
    have := h.1
    omega
theorem joins_ok : ∀ ps : List Str, (∀ t ∈ ps, SOk t) → SOk (Str.join ", " ps) := fun ps h s hs => by
  rw [TL.tl_join] at hs
  have e : TL.tl (", " : Str) = [44, 32] := by decide +kernel
  rw [e] at hs
  rcases joinL_mem _ _ s hs with z | ⟨p, hp, z⟩
  · simp only [List.mem_cons, List.not_mem_nil, or_false] at z
    omega
  · obtain ⟨t, ht, rfl⟩ := List.mem_map.mp hp
    exact h t ht s z
theorem nzs {n k : Nat} : ∀ L : List D, (∀ d ∈ L, Nz n k d) → ∃ ps, toPs L = some ps ∧ PyData.showableAll ps = true ∧ PyData.canLayAll0 ps = true ∧ PyData.depthAll ps ≤ k ∧ PyData.hasDictAll ps = false ∧ (∀ t ∈ PyData.shownAll ps, SOk t ∧ t.length ≤ n) ∧ (PyData.shownAll ps).length = L.length
  | [], _ => ⟨[], rfl, by simp [PyData.showableAll], by simp [PyData.canLayAll0], by simp [PyData.depthAll], by simp [PyData.hasDictAll], (fun t ht => by rw [PyData.shownAll] at ht; exact absurd ht (by simp)), (by rw [PyData.shownAll]; rfl)⟩
  | d :: L, h => by
    obtain ⟨p, e, a1, a2, a3, a4, a5, a6⟩ := h d List.mem_cons_self
    obtain ⟨ps, f, b1, b2, b3, b4, b5, b6⟩ := nzs L fun x hx => h x (List.mem_cons_of_mem _ hx)
    refine ⟨p :: ps, by rw [toPs, e, f], by rw [PyData.showableAll, a1, b1]; rfl, by rw [PyData.canLayAll0, a2, b2]; rfl, by rw [PyData.depthAll]; omega, by rw [PyData.hasDictAll, a4, b4]; rfl, fun t ht => ?_, ?_⟩
    · rw [PyData.shownAll] at ht
      rcases List.mem_cons.mp ht with z | z
      · rw [z]; exact ⟨a5, a6⟩
      · exact b5 t z
    · rw [PyData.shownAll, List.length_cons, List.length_cons, b6]
theorem sum_le {n : Nat} : ∀ ts : List Str, (∀ t ∈ ts, t.length ≤ n) → (ts.map (·.length)).sum ≤ ts.length * n
  | [], _ => by simp
  | t :: ts, h => by
    rw [List.map_cons, List.sum_cons, List.length_cons, Nat.add_mul]
    have := h t List.mem_cons_self
    have := sum_le ts fun u hu => h u (List.mem_cons_of_mem _ hu)
    omega
theorem nz_tup {n k : Nat} (c : Nat) {L : List D} (h : ∀ d ∈ L, Nz n k d) (hl : L.length ≤ c) : Nz (c * (n + 2) + 3) (k + 1) (.tup L) := by
  obtain ⟨ps, f, b1, b2, b3, b4, b5, b6⟩ := nzs L h
  refine ⟨.tuple ps, by rw [toP, f], by rw [PyData.showable, b1], by rw [PyData.canLay0, b2], by rw [PyData.depth]; omega, by rw [PyData.hasDict, b4], ?_, ?_⟩
  · rw [PyData.shown, tupleText]
    intro s hs
    rw [TL.tl_append, TL.tl_append] at hs
    rcases List.mem_append.mp hs with z | z
    · rcases List.mem_append.mp z with z | z
      · have e : TL.tl ("(" : Str) = [40] := by decide +kernel
        rw [e] at z
        have := List.mem_singleton.mp z
        omega
      · exact joins_ok _ (fun t ht => (b5 t ht).1) s z
    · split at z
      · have e : TL.tl (Str.ofString ",)") = [44, 41] := by decide +kernel
        rw [e] at z
        simp only [List.mem_cons, List.not_mem_nil, or_false] at z
        omega
      · have e : TL.tl (Str.ofString ")") = [41] := by decide +kernel
        rw [e] at z
        have := List.mem_singleton.mp z
        omega
  · rw [PyData.shown]
    have h1 := PySem.tupleText_len_le (PyData.shownAll ps)
    have h2 := sum_le (n := n) (PyData.shownAll ps) fun t ht => (b5 t ht).2
    have h3 : (PyData.shownAll ps).length * n ≤ c * n := Nat.mul_le_mul_right _ (by omega)
    rw [Nat.mul_add]
    omega
theorem nz_repr {n k : Nat} {d : D} (h : Nz n k d) (hn : n ≤ 10000000) (hk : k ≤ 20) (nr : ∀ M, deref M d = d) : ∃ s : Str, PyData.strOk s = true ∧ ∀ M, gRepr [d] M = some (.str s, M) := by
  obtain ⟨p, a1, a2, a3, a4, a5, a6, a7⟩ := h
  refine ⟨p.shown, strOk_of a6, fun M => ?_⟩
  have ok : reprOk p = true := by
    have s1 : SeqAt.shaped p = true := by
      unfold SeqAt.shaped
      rw [a3, decide_eq_true (by omega)]; rfl
    have l3 : p.shown.length ≤ sizeLine := Nat.le_trans (Nat.le_trans a7 hn) (by decide)
    simp [reprOk, s1, a2, a5, l3]
  unfold gRepr
  dsimp only
  rw [nr, a1]
  dsimp only
  rw [if_pos ok]
/-- None among such things -/
theorem in_none {n k : Nat} {L : List D} {M : Mh} (h : ∀ d ∈ L, Nz n k d) (hk : k ≤ 20) (f : Bool → Bool) : gIn f .non (.lst L) M = some (.bl (f (L.any isN)), M) := by
  have any : ∀ L : List D, (∀ d ∈ L, Nz n k d) → ∀ ps, toPs L = some ps → (ps.any fun z => PyData.eqv z .none) = L.any isN := by
    intro L
    induction L with
    | nil => intro _ ps e; cases e; rfl
    | cons d L ih =>
      intro h ps e
      obtain ⟨p, e1, _⟩ := h d List.mem_cons_self
      obtain ⟨qs, f1, _⟩ := nzs L fun x hx => h x (List.mem_cons_of_mem _ hx)
      rw [toPs, e1, f1] at e
      cases e
      rw [List.any_cons, List.any_cons, ih (fun x hx => h x (List.mem_cons_of_mem _ hx)) qs f1]
      congr 1
      cases d with
      | ref m => simp [toP] at e1
      | tup xs =>
        rw [toP] at e1
        split at e1
        · cases e1; simp [PyData.eqv, isN]
        · cases e1
      | lst xs =>
        rw [toP] at e1
        split at e1
        · cases e1; simp [PyData.eqv, isN]
        · cases e1
      | lsk xs =>
        rw [toP] at e1
        split at e1
        · cases e1; simp [PyData.eqv, isN]
        · cases e1
      | ty m => simp [toP] at e1
      | ob m => simp [toP] at e1
      | non => simp [toP] at e1; cases e1; simp [PyData.eqv, isN]
      | bl b => simp [toP] at e1; cases e1; simp [PyData.eqv, isN]
      | int b => simp [toP] at e1; cases e1; simp [PyData.eqv, isN]
      | str b => simp [toP] at e1; cases e1; simp [PyData.eqv, isN]
  obtain ⟨ps, f1, b1, b2, b3, b4, b5, b6⟩ := nzs L h
  have s1 : SeqAt.shaped (.list ps) = true := by
    unfold SeqAt.shaped
    rw [PyData.canLay0, b2, PyData.depth, decide_eq_true (by omega)]; rfl
  have s2 : SeqAt.shaped .none = true := by decide +kernel
  unfold gIn
  simp only [deref, toP, f1, s1, s2, Bool.and_self, if_true, any L h ps f1]
end Law

namespace Law
open PySem L2 Pl Pl.Ev
theorem isi_of {f : EF} {δ : Pl.Env} {M : Mh} {d : D} {t n : String} {b : Bool} (h : f δ M = some (d, M)) (ht : tyN M d = some t) (k : kitB t n = some b) : eB gIsi (aCons f (aCons (eC (.ty n)) aNil)) δ M = some (.bl b, M) := by
  rw [x_eB, cons_of h (cons_of x_eC x_aNil)]
  simp [gIsi, ht, k]
theorem in_T {L : List Str} {y : Str} {M : Mh} {h : Bool → Bool} (hy : SOk y) (hL : ∀ s ∈ L, SOk s) : gIn h (.str y) (.tup (L.map D.str)) M = some (.bl (h (decide (y ∈ L))), M) := by
  unfold gIn
  split
  · rename_i e
    cases e
  · have s1 := shaped_S hL
    have s1' : SeqAt.shaped (.tuple (L.map PyData.str)) = true := by
      have : SeqAt.shaped (.tuple (L.map PyData.str)) = SeqAt.shaped (.list (L.map PyData.str)) := by
        unfold SeqAt.shaped
        rw [PyData.canLay0, PyData.canLay0, PyData.depth, PyData.depth]
      rw [this]; exact s1
    have s2 : SeqAt.shaped (.str y) = true := str_sh (strOk_of hy)
    simp only [deref, toP, toPs_S, s1', s2, Bool.and_self, if_true, any_S]
/-! ### the law's kinds -/
inductive Kd | n | a | z | v | f
def Kd.c : Kd → Nat
  | .n => 110
  | .a => 97
  | .z => 122
  | .v => 118
  | .f => 102
end Law

namespace Law
open PySem L2 Pl Pl.Ev
/-- a word that may be read -/
def Wk? (x : Str) : Prop := x.length ≤ 100000 ∧ SOk x
theorem Wk?.l {x : Str} (h : Wk? x) : x.length ≤ 1000000 := Nat.le_trans h.1 (by decide)
/-! ### the program's way -/
theorem set_end {M : Mh} {a b : MO} : (M ++ [a]).set M.length b = M ++ [b] := by
  rw [List.set_append_right _ _ (Nat.le_refl _)]
  simp
theorem at_end {M : Mh} {a : MO} : (M ++ [a])[M.length]? = some a := by simp
theorem callV_ {tb : Addr → Option Fn} {j : Nat} {q : AF} {δ : Pl.Env} {M M1 : Mh} {a : Addr} {F : Fn} {ds : List D} {u : Option (D × Mh)} (h0 : δ[j]? = some (some (.ob a))) (h1 : tb a = some F) (h2 : q δ M = some (ds, M1)) (h3 : F ds M1 = u) : eCallV tb j q δ M = u := by
  unfold eCallV
  rw [h0]
  dsimp only
  rw [h1]
  dsimp only
  rw [h2]
  exact h3
theorem app_end {M : Mh} {xs : List D} {d : D} {f : EF} {q : AF} {δ : Pl.Env} (h1 : f δ (M ++ [.lst xs]) = some (.ref M.length, M ++ [.lst xs])) (h2 : q δ (M ++ [.lst xs]) = some ([d], M ++ [.lst xs])) (hl : xs.length < 1000) : eMeth2 gApp f q δ (M ++ [.lst xs]) = some (.non, M ++ [.lst (xs ++ [d])]) := by
  unfold eMeth2
  rw [h1]
  dsimp only
  have : (lstOf (M ++ [MO.lst xs]) (.ref M.length)).isSome = true := by
    unfold lstOf
    dsimp only
    rw [at_end]
    rfl
  rw [if_pos this, h2]
  dsimp only
  unfold gApp
  dsimp only
  rw [at_end]
  dsimp only
  rw [if_pos (Nat.lt_of_lt_of_le hl (by decide)), set_end]
end Law

namespace Law
open PySem L2 Pl Pl.Ev
theorem low_lit {x : Str} (h : x.length ≤ 20) (g : (TL.tl x).all (fun s => decide (97 ≤ s) && decide (s ≤ 122)) = true) : SOk x := (low_of h g).s
theorem so_point : SOk "point" := low_lit (by decide +kernel) (by decide +kernel)
theorem so_axis : SOk "axis" := low_lit (by decide +kernel) (by decide +kernel)
theorem so_number : SOk "number" := low_lit (by decide +kernel) (by decide +kernel)
theorem so_ratio : SOk "ratio" := low_lit (by decide +kernel) (by decide +kernel)
theorem so_whole : SOk "whole" := low_lit (by decide +kernel) (by decide +kernel)
theorem so_fraction : SOk "fraction" := low_lit (by decide +kernel) (by decide +kernel)
theorem so_sort : SOk "sort" := low_lit (by decide +kernel) (by decide +kernel)
/-! ### told or not -/
theorem tw_all : ∀ L : List D, L.any isN = false → (L.takeWhile fun d => !isN d) = L
  | [], _ => rfl
  | d :: L, h => by
    rw [List.any_cons, Bool.or_eq_false_iff] at h
    rw [List.takeWhile_cons, h.1]
    show d :: (L.takeWhile fun d => !isN d) = _
    rw [tw_all L h.2]
theorem tw_mem : ∀ (L : List D) (d : D), d ∈ (L.takeWhile fun d => !isN d) → isN d = false
  | [], d, h => by cases h
  | e :: L, d, h => by
    rw [List.takeWhile_cons] at h
    split at h
    · rename_i he
      rcases List.mem_cons.mp h with z | z
      · rw [z]; simpa using he
      · exact tw_mem L d z
    · cases h
/-! ### sayings -/
def optT : Option (List D) → D
  | some L => .tup L
  | none => .non
theorem app_t {A B : List D} {M : Mh} (h : A.length + B.length ≤ 1000) : gAdd (.tup A) (.tup B) M = some (.tup (A ++ B), M) := if_pos (Nat.le_trans h (by decide))
theorem app_l {A B : List D} {M : Mh} (h : A.length + B.length ≤ 1000) : gAdd (.lst A) (.lst B) M = some (.lst (A ++ B), M) := if_pos (Nat.le_trans h (by decide))
theorem len_S {W : List Str} {f : EF} {δ : Pl.Env} {M : Mh} (h : f δ M = some (.lst (W.map D.str), M)) : eB gLen (aCons f aNil) δ M = some (.int (W.length : Nat), M) := by
  rw [x_eB, cons_of h x_aNil]
  simp [gLen, lenOf, lstOf]
theorem ix_S {w : Str} {W : List Str} {M : Mh} : gIx (.lst ((w :: W).map D.str)) (.int 0) M = some (.str w, M) := by
  simp [gIx, L2.atI, L2.ixN]
end Law

namespace Law
open PySem L2 Pl Pl.Ev
theorem eq_nilS {W : List Str} {M : Mh} (h : ∀ w ∈ W, SOk w) : gEq PyData.eqv (.lst (W.map D.str)) (.lst []) M = some (.bl W.isEmpty, M) := by
  have s1 := shaped_S h
  have s2 : SeqAt.shaped (.list []) = true := by decide +kernel
  simp only [gEq, deref, toP, toPs_S, toPs, s1, s2, Bool.and_self, if_true]
  cases W <;> simp [PyData.eqv, PyData.eqvAll]
theorem sl1_S {W : List Str} {f : EF} {δ : Pl.Env} {M : Mh} (h : f δ M = some (.lst (W.map D.str), M)) : eSl f (pSome (eC (.int 1))) pNone δ M = some (.lst ((W.drop 1).map D.str), M) := by
  unfold eSl
  rw [h]
  have e : cutD (W.map D.str) (some 1) none = (W.drop 1).map D.str := by
    unfold cutD HT.sIx
    rw [List.map_drop]
    simp
    cases W with
    | nil => simp
    | cons w W =>
      simp
      exact List.take_of_length_le (by simp)
  show some (D.lst (cutD (W.map D.str) (some 1) none), M) = _
  rw [e]
theorem sl1_C {z : Str} {r : List Str} {f : EF} {δ : Pl.Env} {M : Mh} (h : f δ M = some (.lst ((z :: r).map D.str), M)) : eSl f (pSome (eC (.int 1))) pNone δ M = some (.lst (r.map D.str), M) := sl1_S (W := z :: r) h
theorem low_w {x : Str} (h : x.length ≤ 20) (g : (TL.tl x).all (fun s => decide (97 ≤ s) && decide (s ≤ 122)) = true) : Wk? x := ⟨Nat.le_trans h (by decide), (low_of h g).s⟩
end Law

namespace Law
open PySem L2 Pl Pl.Ev
theorem rep_flat (x : D) : ∀ n : Nat, (List.replicate n [x]).flatten = List.replicate n x
  | 0 => rfl
  | n + 1 => by rw [List.replicate_succ, List.replicate_succ, List.flatten_cons, rep_flat x n]; rfl
def optP : Option (List Str) → D
  | some P => .tup (P.map D.str)
  | none => .non
theorem z0_S {z : Str} {r : List Str} {i : Nat} {δ : Pl.Env} {M : Mh} {y : Str} (h : δ[i]? = some (some (.lst ((z :: r).map D.str)))) (hz : SOk z) (hy : SOk y) : tV (eOp (gEq PyData.eqv) (eOp gIx (eVar i) (eC (.int 0))) (eC (.str y))) δ M = some (decide (z = y), M) :=
  v_bl (op_of (op_of (var_ h) x_eC ix_S) x_eC (eq_str (strOk_of hz) (strOk_of hy) _))
theorem so_say : SOk "say" := low_lit (by decide +kernel) (by decide +kernel)
theorem so_draw : SOk "draw" := low_lit (by decide +kernel) (by decide +kernel)
end Law

namespace Law
open PySem L2 Pl Pl.Ev
theorem cut1_D {α : Type} {x : α} {L : List α} : cutD (x :: L) (some 1) none = L := by
  unfold cutD HT.sIx
  simp
theorem sl1_T {L : List D} {f : EF} {δ : Pl.Env} {M : Mh} {x : D} (h : f δ M = some (.tup (x :: L), M)) : eSl f (pSome (eC (.int 1))) pNone δ M = some (.tup L, M) := by
  unfold eSl
  rw [h]
  show some (D.tup (cutD (x :: L) (some 1) none), M) = _
  rw [cut1_D]
theorem sl1_L {L : List D} {f : EF} {δ : Pl.Env} {M : Mh} {x : D} (h : f δ M = some (.lst (x :: L), M)) : eSl f (pSome (eC (.int 1))) pNone δ M = some (.lst L, M) := by
  unfold eSl
  rw [h]
  show some (D.lst (cutD (x :: L) (some 1) none), M) = _
  rw [cut1_D]
end Law

namespace Law
open PySem L2 Pl Pl.Ev
/-! a text of one sign, many times -/
theorem mul_n {x : Str} (hx : x.length = 1) (n : Nat) : (Txt.mul x (n : Int)).length = n := by
  have h := PyProof.Rows.len_mul x (n : Int)
  rw [hx, decide_eq_false (by omega), if_neg Bool.false_ne_true] at h
  omega
theorem mul_tl (n : Nat) : TL.tl (Txt.mul "n" (n : Int)) = List.replicate n 110 := by
  refine List.eq_replicate_iff.mpr ⟨?_, fun s hs => ?_⟩
  · rw [← str_len]; exact mul_n (by decide +kernel) n
  · refine mul_all (Q := fun s => s = 110) (x := "n") (n := (n : Int)) (fun s hs => ?_) s (Array.mem_toList_iff.mp hs)
    have h : s ∈ TL.tl ("n" : Str) := Array.mem_toList_iff.mpr hs
    have e : TL.tl ("n" : Str) = [110] := by decide +kernel
    rw [e] at h
    exact List.mem_singleton.mp h
theorem mul_neg {x : Str} {j : Int} (h : j ≤ 0) : TL.tl (Txt.mul x j) = [] := by
  unfold Txt.mul
  rw [if_pos (by omega)]
  rfl
theorem len_1 : ("n" : Str).length = 1 := by decide +kernel
theorem gmul_n {j : Int} {M : Mh} (h1 : -10 ≤ j) (h2 : j ≤ 1000) : gMul3 (.str "n") (.int j) M = some (.str (Txt.mul "n" j), M) := by
  have ok : strMulOk "n" j = true := by
    simp only [strMulOk, len_1, Bool.and_eq_true, decide_eq_true_eq]
    omega
  show (if strMulOk "n" j then some (D.str (Txt.mul "n" j), M) else none) = _
  rw [if_pos ok]
/-- the kinds of a drawn outline's words -/
theorem draw_tl (r : List Str) : TL.tl (("v" : Str) ++ Txt.mul "n" ((r.length : Int) + 1 - 2)) = (Kd.v :: List.replicate (r.length - 1) Kd.n).map Kd.c := by
  have e : TL.tl ("v" : Str) = [118] := by decide +kernel
  rw [TL.tl_append, e, List.map_cons, List.map_replicate]
  cases r with
  | nil => rw [mul_neg (by decide)]; rfl
  | cons w r =>
    have : (((w :: r).length : Int) + 1 - 2) = ((r.length : Nat) : Int) := by rw [List.length_cons]; omega
    rw [this, mul_tl]
    rfl
theorem sl_hi1 {W : List Str} {f : EF} {δ : Pl.Env} {M : Mh} (h : f δ M = some (.lst (W.map D.str), M)) : eSl f pNone (pSome (eC (.int 1))) δ M = some (.lst ((W.take 1).map D.str), M) := by
  unfold eSl
  rw [h]
  have e : cutD (W.map D.str) none (some 1) = (W.take 1).map D.str := by
    unfold cutD HT.sIx
    cases W with
    | nil => simp
    | cons w W => simp
  show some (D.lst (cutD (W.map D.str) none (some 1)), M) = _
  rw [e]
theorem eq_one {W : List Str} {y : Str} {M : Mh} (h : ∀ w ∈ W, SOk w) (hy : SOk y) : gEq PyData.eqv (.lst ((W.take 1).map D.str)) (.lst [.str y]) M = some (.bl (decide (W.head? = some y)), M) := by
  have s1 := shaped_S (L := W.take 1) fun w hw => h w (List.mem_of_mem_take hw)
  have s2 : SeqAt.shaped (.list [.str y]) = true := shaped_S (L := [y]) (by simpa using hy)
  have s2' : toPs [D.str y] = some [PyData.str y] := rfl
  simp only [gEq, deref, toP, toPs_S, s2', s1, s2, Bool.and_self, if_true]
  cases W with
  | nil => simp [PyData.eqv, PyData.eqvAll]
  | cons w W =>
    simp only [List.take_succ_cons, List.take_zero, List.map_cons, List.map_nil, PyData.eqv, PyData.eqvAll, Bool.and_true, List.head?_cons, Option.some.injEq]
    have : (w == y) = decide (w = y) := by
      by_cases h : w = y
      · simp [h]
      · simp [h]
    rw [this]
end Law

namespace Law
open PySem L2 Pl Pl.Ev
theorem nz_lit {x : Str} (h : Low x) : Nz 80000 1 (.str x) := (nz_low h).mono (by decide) (by decide)
theorem nz_non {n k : Nat} (h : 1921 ≤ n) : Nz n k .non := (nz_smp (d := .non) trivial).mono h (Nat.zero_le _)
/-- read and due: the same text -/
theorem nz_deref {n k : Nat} {d : D} (h : Nz n k d) : ∀ M, deref M d = d := fun M => by
  obtain ⟨p, e, _⟩ := h
  cases d with
  | ref m => simp [toP] at e
  | _ => rfl
theorem reprs_eq {n k : Nat} {d : D} {f g : EF} {δ : Pl.Env} {M M1 M2 : Mh} (hd : Nz n k d) (hn : n ≤ 10000000) (hk : k ≤ 20) (h1 : f δ M = some (d, M1)) (h2 : g δ M1 = some (d, M2)) :
    tV (eOp (gEq fun p q => !PyData.eqv p q) (eB gRepr (aCons f aNil)) (eB gRepr (aCons g aNil))) δ M = some (false, M2) := by
  obtain ⟨s, so, e⟩ := nz_repr hd hn hk (nz_deref hd)
  refine v_bl (op_of (a := .str s) (b := .str s) (M1 := M1) (M2 := M2) ?_ ?_ ((ne_str so so _).trans (by rw [decide_eq_true rfl]; rfl)))
  · rw [x_eB, cons_of h1 x_aNil]; exact e _
  · rw [x_eB, cons_of h2 x_aNil]; exact e _
end Law

namespace Law
open PySem L2 Pl Pl.Ev
/-! ### what a word of a kind tells, from its thing -/
theorem szq {q : Rat} (h1 : q.num.natAbs < 10000) (h2 : q.den < 10000) : Sz 1 q := ⟨Nat.lt_of_lt_of_le h1 (by decide), Nat.lt_of_lt_of_le h2 (by decide)⟩
theorem name_low {x : Str} (h : nameb (TL.tl x) = true) : Low x := by
  simp only [nameb, Bool.and_eq_true, decide_eq_true_eq] at h
  obtain ⟨⟨_, l⟩, a⟩ := h
  refine ⟨by rw [str_len]; omega, fun s hs => ?_⟩
  have := of_decide_eq_true (List.all_eq_true.mp a s hs)
  have e : ("abcdefghijklmnopqrstuvwxyz" : Str).cps.toList = (List.range 26).map (· + 97) := by decide +kernel
  rw [e] at this
  obtain ⟨i, hi, rfl⟩ := List.mem_map.mp this
  have := List.mem_range.mp hi
  omega
theorem Low.w {x : Str} (h : Low x) : Wk? x := ⟨Nat.le_trans h.1 (by decide), h.s⟩
theorem axis_low {x : Str} (h : x = "x" ∨ x = "y") : Low x := by
  rcases h with e | e <;> rw [e] <;> exact low_of (by decide +kernel) (by decide +kernel)
theorem TT_w (i : Int) (h : i.natAbs < 2 ^ 128) : Wk? (TT i) := ⟨Nat.le_trans (PyProof.Rows.int_text_len_1921 (lg h)) (by decide), TT_ok i⟩
end Law

namespace Law
open PySem L2 Pl Pl.Ev
theorem strA_s {x : Str} {f : EF} {δ : Pl.Env} {M : Mh} (h : f δ M = some (.str x, M)) : eB gStrA (aCons f aNil) δ M = some (.str x, M) := by
  rw [x_eB, cons_of h x_aNil]; rfl
theorem strA_i {i : Int} {f : EF} {δ : Pl.Env} {M : Mh} (hi : i.natAbs < 2 ^ 128) (h : f δ M = some (.int i, M)) : eB gStrA (aCons f aNil) δ M = some (.str (TT i), M) := by
  rw [x_eB, cons_of h x_aNil]
  show gStrInt [.int i] M = _
  exact if_pos (lg hi)
/-! ### things as words -/
theorem kit_st : kitB "str" "tuple" = some false := by decide +kernel
theorem kit_it : kitB "int" "tuple" = some false := by decide +kernel
theorem kit_si : kitB "str" "int" = some false := by decide +kernel
end Law

namespace Law
open PySem L2 Pl Pl.Ev
/-! ### texts -/
theorem joinL_len (S : List Nat) (n : Nat) : ∀ ps : List (List Nat), (∀ p ∈ ps, p.length ≤ n) → (TL.joinL S ps).length ≤ ps.length * (n + S.length)
  | [], _ => by simp [TL.joinL]
  | [p], h => by
    have := h p List.mem_cons_self
    show p.length ≤ _
    simp
    omega
  | p :: q :: ps, h => by
    have ih := joinL_len S n (q :: ps) fun x hx => h x (List.mem_cons_of_mem _ hx)
    have := h p List.mem_cons_self
    show (p ++ (S ++ TL.joinL S (q :: ps))).length ≤ _
    rw [List.length_append, List.length_append, List.length_cons (a := p), Nat.add_mul]
    omega
theorem tl_J (y : Str) (W : List Str) : TL.tl (Txt.join y W) = TL.joinL (TL.tl y) (W.map TL.tl) := by rw [TL.join_eq, TL.tl_join]
theorem J_w {y : Str} {W : List Str} (hy : SOk y) (ly : y.length ≤ 10) (hw : ∀ x ∈ W, Wk? x) (lW : W.length ≤ 20) : SOk (Txt.join y W) ∧ (Txt.join y W).length ≤ 2000200 := by
  refine ⟨fun s hs => ?_, ?_⟩
  · rw [tl_J] at hs
    rcases joinL_mem _ _ s hs with z | ⟨p, hp, z⟩
    · exact hy s z
    · obtain ⟨t, ht, rfl⟩ := List.mem_map.mp hp
      exact (hw t ht).2 s z
  · rw [str_len, tl_J]
    refine Nat.le_trans (joinL_len _ 100000 _ fun p hp => ?_) ?_
    · obtain ⟨t, ht, rfl⟩ := List.mem_map.mp hp
      rw [← str_len]; exact (hw t ht).1
    · rw [List.length_map, ← str_len]
      have := Nat.mul_le_mul lW (show 100000 + y.length ≤ 100010 by omega)
      omega
theorem J_of {y : Str} {W : List Str} {f : EF} {δ : Pl.Env} {M M1 : Mh} (ly : y.length ≤ 10) (hw : ∀ x ∈ W, x.length ≤ 500000) (lW : W.length ≤ 20) (h : f δ M = some (.lst (W.map D.str), M1)) : eS1 gJoin (eC (.str y)) f δ M = some (.str (Txt.join y W), M1) := by
  refine s1_ x_eC h ?_
  show (match strsOf (W.map D.str) with
    | some ys => if (ys.map Str.length).sum + ys.length * y.length ≤ 16777216 then some (D.str (Txt.join y ys), M1) else none
    | none => none) = _
  rw [strs_S]
  dsimp only
  have : (W.map Str.length).sum ≤ W.length * 500000 := sum_le (n := 500000) W hw
  have h1 : W.length * y.length ≤ 20 * 10 := Nat.mul_le_mul lW ly
  have h2 : W.length * 500000 ≤ 20 * 500000 := Nat.mul_le_mul_right _ lW
  rw [if_pos (by omega)]
theorem so_sp : SOk " " ∧ (" " : Str).length ≤ 10 := ⟨fun s hs => by
  rw [t32] at hs
  have := List.mem_singleton.mp hs
  omega, by decide +kernel⟩
theorem Wk?.h {x : Str} (h : Wk? x) : x.length ≤ 500000 := Nat.le_trans h.1 (by decide)
theorem joinL_cons (S p : List Nat) {ps : List (List Nat)} (h : ps ≠ []) : TL.joinL S (p :: ps) = p ++ (S ++ TL.joinL S ps) := by
  cases ps with
  | nil => exact absurd rfl h
  | cons q ps => rfl
end Law

namespace Law
open PySem L2 Pl Pl.Ev
theorem j_ {f : EF} {g : Str → Pl.Env → Mh → Option (D × Mh)} {acc x : Str} {δ : Pl.Env} {M : Mh} {r : Option (D × Mh)} (h : f δ M = some (.str x, M)) (l : (acc ++ x).length ≤ 15000000) (k : g (acc ++ x) δ M = r) : jCons f g acc δ M = r := by
  unfold jCons
  rw [h]
  dsimp only
  rw [if_pos (Nat.le_trans l (by decide))]
  exact k
theorem fmt_ {f : EF} {x : Str} {δ : Pl.Env} {M : Mh} (h : f δ M = some (.str x, M)) (l : x.length ≤ 15000000) : eFmt f δ M = some (.str x, M) := by
  unfold eFmt
  rw [h]
  exact if_pos (Nat.le_trans l (by decide))
theorem tl_place : TL.tl ("place " : Str) = TL.tl ("place" : Str) ++ [32] := by decide +kernel
theorem tl_say : TL.tl ("say " : Str) = TL.tl ("say" : Str) ++ [32] := by decide +kernel
theorem so_many : SOk "many" := low_lit (by decide +kernel) (by decide +kernel)
theorem so_place : SOk "place" := low_lit (by decide +kernel) (by decide +kernel)
theorem so_semi : SOk " ; " ∧ (" ; " : Str).length ≤ 10 := ⟨fun s hs => by
  have e : TL.tl (" ; " : Str) = [32, 59, 32] := by decide +kernel
  rw [e] at hs
  simp only [List.mem_cons, List.not_mem_nil, or_false] at hs
  omega, by decide +kernel⟩
end Law

namespace Law
open PySem L2 Pl Pl.Ev
/-- what stands elsewhere stays -/
def Fr (n : Nat) (M M' : Mh) : Prop := ∀ m, m ≠ n → M'[m]? = M[m]?
theorem Fr.refl (n : Nat) (M : Mh) : Fr n M M := fun _ _ => rfl
theorem Fr.trans {n : Nat} {M M1 M2 : Mh} (a : Fr n M M1) (b : Fr n M1 M2) : Fr n M M2 := fun m h => (b m h).trans (a m h)
theorem At.up {n : Nat} {B C : Int} {M : Mh} (h : At n B M) (l : B ≤ C) : At n C M := by
  obtain ⟨a, b, c, e, h1, h2, h3⟩ := h
  exact ⟨a, b, c, e, h1, h2, by omega⟩
theorem At.lt {n : Nat} {B : Int} {M : Mh} (h : At n B M) : n < M.length := by
  obtain ⟨a, b, c, e, h1, h2, h3⟩ := h
  exact (List.getElem?_eq_some_iff.mp e).1
theorem At.apps {n : Nat} {B : Int} {M : Mh} (h : At n B M) (l : List MO) : At n B (M ++ l) := by
  have lt := h.lt
  obtain ⟨a, b, c, e, h1, h2, h3⟩ := h
  exact ⟨a, b, c, by rw [List.getElem?_append_left lt]; exact e, h1, h2, h3⟩
theorem At.set {n j : Nat} {B : Int} {M : Mh} {m : MO} (h : At n B M) (hj : j ≠ n) : At n B (M.set j m) := by
  obtain ⟨a, b, c, e, h1, h2, h3⟩ := h
  exact ⟨a, b, c, by rw [set_ne (Ne.symm hj)]; exact e, h1, h2, h3⟩
theorem dgE {n : Nat} {M : Mh} {B many : Int} {δ : Pl.Env} {i : Nat} {fm : EF} (h0 : δ[i]? = some (some (.ref n))) (hm : fm δ M = some (.int many, M)) (h : At n B M) (hB : B < 2 ^ 57) (m0 : 0 < many) (m1 : many ≤ 1000000) :
    ∃ (f : Nat) (M' : Mh), eCall ff_law_digit (aCons (eVar i) (aCons fm aNil)) [] δ M = some (.int f, M') ∧ At n (B + 4) M' ∧ (f : Int) < many ∧ Fr n M M' := by
  obtain ⟨f, M', e, p1, p2, p3, p4⟩ := dgcA h0 hm h (by omega) m0 (Int.lt_of_le_of_lt m1 (by decide))
  have : ((f.toNat : Nat) : Int) = f := Int.toNat_of_nonneg p2
  exact ⟨f.toNat, M', by rw [this]; exact e, p1, by omega, p4⟩
theorem atI_nat {α : Type} {xs : List α} {k : Nat} {x : α} (h : xs[k]? = some x) : atI xs (k : Int) = some x := by
  have hl := (List.getElem?_eq_some_iff.mp h).1
  unfold atI ixN
  rw [if_pos (by omega), if_pos (by omega)]
  simpa using h
theorem ix_str {S : Str} {f : Nat} {M : Mh} (h : f < S.length) (hl : S.length ≤ 1000) : ∃ c, gIx (.str S) (.int f) M = some (.str ⟨#[c]⟩, M) ∧ c ∈ TL.tl S := by
  have hl' : S.length ≤ sizeLine := Nat.le_trans hl (by decide)
  rw [str_len] at h
  refine ⟨(TL.tl S)[f], ?_, List.getElem_mem h⟩
  have e : L2.atI S.cps.toList (f : Int) = some (TL.tl S)[f] := atI_nat (List.getElem?_eq_getElem h)
  unfold gIx
  dsimp only
  rw [if_pos hl', e]
  rfl
theorem ix_lst {L : List D} {f : Nat} {M : Mh} (h : f < L.length) : gIx (.lst L) (.int f) M = some (L[f], M) := by
  have e : L2.atI L (f : Int) = some L[f] := atI_nat (List.getElem?_eq_getElem h)
  unfold gIx
  dsimp only
  rw [e]
  rfl
/-- signs drawn of a text -/
theorem sdraw {n v m : Nat} {S : Str} (hS : S.length = m) (hm : m ≤ 1000) (m0 : 0 < m) {δ : Pl.Env} (h0 : δ[0]? = some (some (.ref n))) (hv : v ≠ 0) : ∀ (ds : List D) (B : Int) (M : Mh), At n B M → B + 4 * ds.length < 2 ^ 57 →
    ∃ (cs : List Nat) (M' : Mh), lcGo (gN v) tTrue (eOp gIx (eC (.str S)) (eCall ff_law_digit (aCons (eVar 0) (aCons (eC (.int m)) aNil)) [])) ds δ M = some (cs.map fun c => .str ⟨#[c]⟩, M') ∧ At n (B + 4 * ds.length) M' ∧ cs.length = ds.length ∧ (∀ c ∈ cs, c ∈ TL.tl S) ∧ Fr n M M' := fun ds => by
  induction ds with
  | nil => exact fun B M h _ => ⟨[], M, lcN_, by simpa using h, rfl, (fun c hc => by cases hc), Fr.refl _ _⟩
  | cons d ds ih =>
    intro B M h hB
    rw [List.length_cons] at hB
    have h0' : (δ.set v (some d))[0]? = some (some (.ref n)) := by rw [List.getElem?_set_ne hv]; exact h0
    obtain ⟨f, M1, e1, p1, f1, r1⟩ := dgE (i := 0) (δ := δ.set v (some d)) (fm := eC (.int m)) h0' x_eC h (by omega) (by omega) (by omega)
    obtain ⟨c, ec, hc⟩ := ix_str (S := S) (f := f) (M := M1) (by omega) (by omega)
    obtain ⟨cs, M2, e2, p2, l, hcs, r2⟩ := ih (B + 4) M1 p1 (by omega)
    refine ⟨c :: cs, M2, ?_, ?_, by rw [List.length_cons, List.length_cons, l], (fun q hq => ?_), r1.trans r2⟩
    · rw [List.map_cons]
      exact lcC_ (x := true) (M1 := M) (δ1 := δ.set v (some d)) rfl tt_ (lcY_ (p := gN v) (t := tTrue) (op_of x_eC e1 ec) e2)
    · rw [List.length_cons]
      exact p2.up (by omega)
    · rcases List.mem_cons.mp hq with z | z
      · rw [z]; exact hc
      · exact hcs q z
theorem join_cs {cs : List Nat} {M : Mh} (hc : cs.length ≤ 1000) : ∃ x : Str, gJoin "" (.lst (cs.map fun c => .str ⟨#[c]⟩)) M = some (.str x, M) ∧ TL.tl x = cs := by
  have te : TL.tl ("" : Str) = [] := by decide +kernel
  have tj : TL.tl (Txt.join "" (cs.map fun c => (⟨#[c]⟩ : Str))) = cs := by
    rw [TL.join_eq, TL.tl_join, te, List.map_map]
    exact joinL1 cs
  refine ⟨Txt.join "" (cs.map fun c => (⟨#[c]⟩ : Str)), ?_, tj⟩
  show (match strsOf (cs.map fun c => D.str ⟨#[c]⟩) with
    | some ys => if (ys.map Str.length).sum + ys.length * ("" : Str).length ≤ 16777216 then some (D.str (Txt.join "" ys), M) else none
    | none => none) = _
  rw [strs_of1]
  dsimp only
  have l0 : ("" : Str).length = 0 := by decide +kernel
  rw [if_pos (by rw [len1, l0, Nat.mul_zero, Nat.add_zero]; exact Nat.le_trans hc (by decide))]
theorem nameb_cs {cs : List Nat} (h1 : 1 ≤ cs.length) (h8 : cs.length ≤ 8) (h : ∀ c ∈ cs, c ∈ TL.tl ("abcdefghijklmnopqrstuvwxyz" : Str)) : nameb cs = true := by
  unfold nameb
  rw [decide_eq_true h1, decide_eq_true h8]
  exact List.all_eq_true.mpr fun c hc => decide_eq_true (h c hc)
theorem rng_len {j : Nat} : (rng 0 (j : Int)).length = j := by simp [rng]
end Law

namespace Law
open PySem L2 Pl Pl.Ev
/-- not among the words that a live list keeps -/
theorem in_live {A : List Str} {y : Str} {M : Mh} {j : Nat} {h : Bool → Bool} (hm : M[j]? = some (.lst (A.map D.str))) (hy : SOk y) (hA : ∀ s ∈ A, SOk s) : gIn h (.str y) (.ref j) M = some (.bl (h (decide (y ∈ A))), M) := by
  have hd : deref M (.ref j) = .lst (A.map D.str) := by
    unfold deref
    dsimp only
    rw [hm]
  unfold gIn
  split
  · rename_i e
    cases e
  · have s1 := shaped_S hA
    have s2 : SeqAt.shaped (.str y) = true := str_sh (strOk_of hy)
    rw [hd]
    simp only [deref, toP, toPs_S, s1, s2, Bool.and_self, if_true, any_S]
theorem keep_go {A : List Str} {M : Mh} {j : Nat} (hm : M[j]? = some (.lst (A.map D.str))) (hA : ∀ s ∈ A, SOk s) (a b c d : Option D) : ∀ (W : List Str) (z : Option D), (∀ w ∈ W, SOk w) →
    lcGo (gN 5) (tV (eOp (gIn fun b => !b) (eVar 5) (eVar 2))) (eVar 5) (W.map D.str) [a, b, some (.ref j), c, d, z] M = some ((W.filter fun w => !decide (w ∈ A)).map D.str, M)
  | [], z, _ => lcN_
  | w :: W, z, hw => by
    have t : tV (eOp (gIn fun b => !b) (eVar 5) (eVar 2)) [a, b, some (.ref j), c, d, some (.str w)] M = some (!decide (w ∈ A), M) := v_bl (op_of rfl rfl (in_live hm (hw w List.mem_cons_self) hA))
    have ih := keep_go hm hA a b c d W z fun x hx => hw x (List.mem_cons_of_mem _ hx)
    rw [List.map_cons, List.filter_cons]
    cases hd : decide (w ∈ A) with
    | true =>
      rw [hd] at t
      rw [if_neg (by decide)]
      exact lcC_ (x := false) (M1 := M) (δ1 := [a, b, some (.ref j), c, d, some (.str w)]) rfl t ih
    | false =>
      rw [hd] at t
      rw [if_pos (by decide), List.map_cons]
      exact lcC_ (x := true) (M1 := M) (δ1 := [a, b, some (.ref j), c, d, some (.str w)]) rfl t (lcY_ (p := gN 5) (t := tV (eOp (gIn fun b => !b) (eVar 5) (eVar 2))) (f := eVar 5) (M1 := M) (M2 := M) (δ := [a, b, some (.ref j), c, d, z]) (δ1 := [a, b, some (.ref j), c, d, some (.str w)]) (e := .str w) rfl ih)
end Law

namespace Law
open PySem L2 Pl Pl.Ev
theorem pick_ok {n : Nat} {N : List Str} {δ : Pl.Env} {B : Int} {M : Mh} (h0 : δ[0]? = some (some (.ref n))) (h1 : δ[1]? = some (some (.lst (N.map D.str)))) (hN : 0 < N.length) (lN : N.length ≤ 1000) (h : At n B M) (hB : B < 2 ^ 56) :
    ∃ (x : Str) (M' : Mh), eOp gIx (eVar 1) (eCall ff_law_digit (aCons (eVar 0) (aCons (eB gLen (aCons (eVar 1) aNil)) aNil)) []) δ M = some (.str x, M') ∧ x ∈ N ∧ At n (B + 4) M' := by
  obtain ⟨f, M1, e1, p1, f1, r1⟩ := dgE (i := 0) (δ := δ) (fm := eB gLen (aCons (eVar 1) aNil)) (many := (N.length : Nat)) h0 (len_S (var_ h1)) h (by omega) (by omega) (by omega)
  have hf : f < N.length := by omega
  refine ⟨N[f], M1, op_of (var_ h1) e1 ?_, List.getElem_mem hf, p1⟩
  rw [ix_lst (by rw [List.length_map]; exact hf), List.getElem_map]
theorem picks_go {n v : Nat} {N : List Str} {δ : Pl.Env} (h0 : δ[0]? = some (some (.ref n))) (h1 : δ[1]? = some (some (.lst (N.map D.str)))) (hN : 0 < N.length) (lN : N.length ≤ 1000) (v0 : v ≠ 0) (v1 : v ≠ 1) : ∀ (ds : List D) (B : Int) (M : Mh), At n B M → B + 4 * ds.length < 2 ^ 56 →
    ∃ (xs : List Str) (M' : Mh), lcGo (gN v) tTrue (eOp gIx (eVar 1) (eCall ff_law_digit (aCons (eVar 0) (aCons (eB gLen (aCons (eVar 1) aNil)) aNil)) [])) ds δ M = some (xs.map D.str, M') ∧ xs.length = ds.length ∧ (∀ x ∈ xs, x ∈ N) ∧ At n (B + 4 * ds.length) M' := fun ds => by
  induction ds with
  | nil => exact fun B M h _ => ⟨[], M, lcN_, rfl, (fun x hx => by cases hx), by simpa using h⟩
  | cons d ds ih =>
    intro B M h hB
    rw [List.length_cons] at hB
    obtain ⟨x, M1, e1, m1, p1⟩ := pick_ok (δ := δ.set v (some d)) (by rw [List.getElem?_set_ne v0]; exact h0) (by rw [List.getElem?_set_ne v1]; exact h1) hN lN h (by omega)
    obtain ⟨xs, M2, e2, l2, m2, p2⟩ := ih (B + 4) M1 p1 (by omega)
    refine ⟨x :: xs, M2, ?_, by rw [List.length_cons, List.length_cons, l2], (fun y hy => ?_), ?_⟩
    · rw [List.map_cons]
      exact lcC_ (x := true) (M1 := M) (δ1 := δ.set v (some d)) rfl tt_ (lcY_ (p := gN v) (t := tTrue) e1 e2)
    · rcases List.mem_cons.mp hy with e | hy
      · rw [e]; exact m1
      · exact m2 y hy
    · rw [List.length_cons]
      exact p2.up (by omega)
theorem axis_ok {n : Nat} {δ : Pl.Env} {B : Int} {M : Mh} (h0 : δ[0]? = some (some (.ref n))) (h : At n B M) (hB : B < 2 ^ 56) :
    ∃ (x : Str) (M' : Mh), eOp gIx (eLst (aCons (eC (.str "x")) (aCons (eC (.str "y")) aNil))) (eCall ff_law_digit (aCons (eVar 0) (aCons (eC (.int 2)) aNil)) []) δ M = some (.str x, M') ∧ (x = "x" ∨ x = "y") ∧ At n (B + 4) M' := by
  obtain ⟨f, M1, e1, p1, f1, r1⟩ := dgE (i := 0) (δ := δ) (fm := eC (.int 2)) h0 x_eC h (by omega) (by decide) (by decide)
  have hf : f = 0 ∨ f = 1 := by omega
  rcases hf with e | e
  · subst e
    exact ⟨"x", M1, op_of (x_eLst (ds := [.str "x", .str "y"]) (cons_of x_eC (cons_of x_eC x_aNil)) (by simp)) e1 rfl, .inl rfl, p1⟩
  · subst e
    exact ⟨"y", M1, op_of (x_eLst (ds := [.str "x", .str "y"]) (cons_of x_eC (cons_of x_eC x_aNil)) (by simp)) e1 rfl, .inr rfl, p1⟩
/-- one more than a digit -/
theorem plus_ok1 {n : Nat} {δ : Pl.Env} {B many : Int} {M : Mh} (h0 : δ[0]? = some (some (.ref n))) (h : At n B M) (hB : B < 2 ^ 56) (m0 : 0 < many) (m1 : many ≤ 5000) :
    ∃ (f : Nat) (M' : Mh), eOp gAdd (eC (.int 1)) (eCall ff_law_digit (aCons (eVar 0) (aCons (eC (.int many)) aNil)) []) δ M = some (.int f, M') ∧ f < 10000 ∧ At n (B + 4) M' := by
  obtain ⟨f, M1, e1, p1, f1, r1⟩ := dgE (i := 0) (δ := δ) (fm := eC (.int many)) h0 x_eC h (by omega) m0 (by omega)
  refine ⟨1 + f, M1, op_of x_eC e1 ?_, by omega, p1⟩
  show some (D.int (1 + (f : Int)), M1) = _
  rw [show (1 + (f : Int)) = ((1 + f : Nat) : Int) by omega]
/-- a number about nought -/
theorem num_ok1 {n : Nat} {δ : Pl.Env} {B : Int} {M : Mh} (h0 : δ[0]? = some (some (.ref n))) (h : At n B M) (hB : B < 2 ^ 56) :
    ∃ (i : Int) (M' : Mh), eOp (gInt fun i j => .int (i - j)) (eCall ff_law_digit (aCons (eVar 0) (aCons (eC (.int 1999)) aNil)) []) (eC (.int 999)) δ M = some (.int i, M') ∧ i.natAbs < 10000 ∧ At n (B + 4) M' := by
  obtain ⟨f, M1, e1, p1, f1, r1⟩ := dgE (i := 0) (δ := δ) (fm := eC (.int 1999)) h0 x_eC h (by omega) (by decide) (by decide)
  exact ⟨(f : Int) - 999, M1, op_of e1 x_eC rfl, by omega, p1⟩
end Law

namespace Law
open PySem L2 Pl Pl.Ev
theorem dgN {n : Nat} {δ : Pl.Env} {B many : Int} {M : Mh} (h0 : δ[0]? = some (some (.ref n))) (h : At n B M) (hB : B < 2 ^ 56) (m0 : 0 < many) (m1 : many ≤ 100000) :
    ∃ (f : Nat) (M' : Mh), eCall ff_law_digit (aCons (eVar 0) (aCons (eC (.int many)) aNil)) [] δ M = some (.int f, M') ∧ (f : Int) < many ∧ At n (B + 4) M' := by
  obtain ⟨f, M1, e1, p1, f1, r1⟩ := dgE (i := 0) (δ := δ) (fm := eC (.int many)) h0 x_eC h (by omega) m0 (by omega)
  exact ⟨f, M1, e1, f1, p1⟩
end Law

namespace Law
open PySem L2 Pl Pl.Ev
theorem cut_map (W : List Str) (lo hi : Option Int) : cutD (W.map D.str) lo hi = (cutD W lo hi).map D.str := by
  unfold cutD
  rw [List.length_map, List.map_take, List.map_drop]
theorem cut_mem {W : List Str} {lo hi : Option Int} : (∀ x ∈ cutD W lo hi, x ∈ W) ∧ (cutD W lo hi).length ≤ W.length := by
  unfold cutD
  refine ⟨fun x h => List.mem_of_mem_drop (List.mem_of_mem_take h), ?_⟩
  rw [List.length_take, List.length_drop]
  omega
theorem slS {W : List Str} {f : EF} {p q : Pl.Env → Mh → Option (Option Int × Mh)} {δ : Pl.Env} {M : Mh} {lo hi : Option Int} (h : f δ M = some (.lst (W.map D.str), M)) (h1 : p δ M = some (lo, M)) (h2 : q δ M = some (hi, M)) : eSl f p q δ M = some (.lst ((cutD W lo hi).map D.str), M) := by
  unfold eSl
  rw [h]
  dsimp only
  rw [h1]
  dsimp only
  rw [h2]
  show some (D.lst (cutD (W.map D.str) lo hi), M) = _
  rw [cut_map]
theorem pS {f : EF} {δ : Pl.Env} {M : Mh} {i : Int} (h : f δ M = some (.int i, M)) : pSome f δ M = some (some i, M) := by
  unfold pSome; rw [h]
theorem pN {δ : Pl.Env} {M : Mh} : pNone δ M = some (none, M) := rfl
end Law

namespace Law
open PySem L2 Pl Pl.Ev
theorem Low.h {x : Str} (h : Low x) : x.length ≤ 4000 := Nat.le_trans h.1 (by decide)
theorem J_so {y : Str} {W : List Str} (hy : SOk y) (hw : ∀ x ∈ W, SOk x) : SOk (Txt.join y W) := fun s hs => by
  rw [tl_J] at hs
  rcases joinL_mem _ _ s hs with z | ⟨p, hp, z⟩
  · exact hy s z
  · obtain ⟨t, ht, rfl⟩ := List.mem_map.mp hp
    exact hw t ht s z
theorem same_text {x : Str} {f g : EF} {δ : Pl.Env} {M M1 M2 : Mh} (hx : SOk x) (h1 : f δ M = some (.str x, M1)) (h2 : g δ M1 = some (.str x, M2)) : tV (eOp (gEq fun p q => !PyData.eqv p q) f g) δ M = some (false, M2) :=
  v_bl (op_of h1 h2 ((ne_str (strOk_of hx) (strOk_of hx) _).trans (by rw [decide_eq_true rfl]; rfl)))
theorem J1_of {y : Str} {W : List Str} {f : EF} {δ : Pl.Env} {M M1 : Mh} (ly : y.length ≤ 10) (hw : ∀ x ∈ W, Wk? x) (lW : W.length ≤ 20) (h : f δ M = some (.lst (W.map D.str), M1)) : eS1 gJoin (eC (.str y)) f δ M = some (.str (Txt.join y W), M1) := J_of ly (fun x hx => (hw x hx).h) lW h
end Law

namespace Law
open PySem L2 Pl Pl.Ev
end Law


namespace Law
open PySem L2 Pl Pl.Ev
theorem others_lcF {S x : Str} {M : Mh} {a b z : Option D} {r : Pl.Env} {f : EF} (hx : x.length ≤ 1000000) (h : f (a :: b :: z :: r) M = some (.str x, M)) :
    eLc [2] (aSigns f) (gN 2) (tV (eOp (gIn fun b => !b) (eVar 2) (eC (.str S)))) (eVar 2) (a :: b :: z :: r) M = some (.lst (((TL.tl x).filter fun s => !decide (s ∈ S.cps.toList)).map fun s => .str ⟨#[s]⟩), M) := by
  unfold eLc
  have e : aSigns f (a :: b :: z :: r) M = some ((TL.tl x).map fun s => .str ⟨#[s]⟩, M) := by
    unfold aSigns; rw [h]
  rw [e]
  dsimp only [wipeD, List.set_cons_succ, List.set_cons_zero]
  rw [other_goG S M _ _ _ _ _]
  dsimp only
  rw [if_pos]
  rw [List.length_map]
  exact Nat.le_trans (List.length_filter_le _ _) (Nat.le_trans (by rw [← str_len]; exact hx) (by decide))
theorem idx10 {c : Nat} (h : 48 ≤ c ∧ c ≤ 57) (M : Mh) : gIdx "0123456789" (.str ⟨#[c]⟩) M = some (.int ((c - 48 : Nat) : Int), M) := by
  have k : ∀ n : Nat, n < 10 → Builtin.Str.occurrences ("0123456789" : Str) ⟨#[48 + n]⟩ 0 ("0123456789" : Str).length 1 = [n] := by decide +kernel
  have e := k (c - 48) (by omega)
  rw [show 48 + (c - 48) = c by omega] at e
  simp only [gIdx, e]
def K10 : Nat → Nat
  | 0 => 100000
  | 1 => 10000
  | 2 => 1000
  | 3 => 100
  | _ => 10
theorem fold10 (M : Mh) (a b : Option D) (cs : List Nat) : ∀ (n : Nat) (w : Option D), NumText.AllDigits cs → cs.length ≤ 4 → n < K10 cs.length → ∃ z', forGo (gN 2) (sAs (eOp gAdd (eOp gMul (eC (.int 10)) (eVar 3)) (eS1 gIdx (eC (.str "0123456789")) (eVar 2))) (gN 3)) (cs.map fun s => .str ⟨#[s]⟩) [a, b, w, some (.int (n : Int))] M = some (.nx [a, b, z', some (.int ((cs.foldl (fun acc c => acc * 10 + (c - 48)) n : Nat) : Int))] M) := by
  induction cs with
  | nil => exact fun n w _ _ _ => ⟨w, rfl⟩
  | cons c cs ih =>
    intro n w h hl hn
    have hc := h c List.mem_cons_self
    rw [List.length_cons] at hl hn
    have nb : n * 10 + (c - 48) < K10 cs.length ∧ n < 100000 := by
      have : cs.length = 0 ∨ cs.length = 1 ∨ cs.length = 2 ∨ cs.length = 3 := by omega
      rcases this with e | e | e | e <;> rw [e] at hn ⊢ <;> simp only [K10, Nat.reduceAdd] at hn ⊢ <;> omega
    obtain ⟨z', e⟩ := ih (n * 10 + (c - 48)) (some (.str ⟨#[c]⟩)) (fun d hd => h d (List.mem_cons_of_mem _ hd)) (by omega) nb.1
    have nb2 := nb.2
    refine ⟨z', ?_⟩
    have st : sAs (eOp gAdd (eOp gMul (eC (.int 10)) (eVar 3)) (eS1 gIdx (eC (.str "0123456789")) (eVar 2))) (gN 3) [a, b, some (.str ⟨#[c]⟩), some (.int (n : Int))] M = some (.nx [a, b, some (.str ⟨#[c]⟩), some (.int ((n * 10 + (c - 48) : Nat) : Int))] M) := by
      refine as_of (d := .int ((n * 10 + (c - 48) : Nat) : Int)) (op_of (op_of rfl rfl (mul_int (mulOk (a := 64) (b := 64) (by decide) (by omega) (by decide)))) (M2 := M) (b := .int ((c - 48 : Nat) : Int)) ?_ ?_) rfl
      · exact idx10 hc M
      · show some (D.int (10 * (n : Int) + ((c - 48 : Nat) : Int)), M) = _
        rw [Int.natCast_add, Int.natCast_mul, Int.mul_comm]
        rfl
    rw [List.map_cons, List.foldl_cons]
    exact forGo_nx rfl st e
/-- the number of a text, the minus ahead being told apart -/
theorem lnum65_own {x y : Str} {m : Bool} {M : Mh} (hx : x.length ≤ 1000000) (hs : SOk x) (ly : y.length ≤ 1000000) (sy : SOk y) (hm : decide (y = x) = !m) (hz : m = true → (x = "-0" ↔ y = "0")) (hz0 : m = false → x ≠ "-0")
    (E : eIf (tV (eOp (gEq PyData.eqv) (eSl (eVar 0) pNone (pSome (eC (.int 1)))) (eC (.str "-")))) (eSl (eVar 0) (pSome (eC (.int 1))) pNone) (eVar 0) [some (.str x), none, none, none] M = some (.str y, M)) :
    ff_law_number [.str x] M = some (if m then (match numOf (TL.tl y) with
      | none => .non
      | some n => if n = 0 then .non else .int (-(n : Int))) else optN (numOf (TL.tl y)), M) := by
  refine fn_rt ?_
  show gg_law_number [some (.str x), none, none, none] M = _
  unfold gg_law_number
  refine seq_as (M1 := M) (δ' := [some (.str x), some (.str y), none, none]) E rfl ?_
  clear E
  have kA : tV (eOp (gEq PyData.eqv) (eVar 1) (eC (.str ""))) [some (.str x), some (.str y), none, none] M = some (decide (y = ""), M) := v_bl (op_of rfl rfl (eq_str (strOk_of sy) (by decide +kernel) _))
  have ln : eB gLen (aCons (eVar 1) aNil) [some (.str x), some (.str y), none, none] M = some (.int y.length, M) := len_sp rfl ly
  have kB : tV (eOp (gInt fun i j => .bl (decide (j < i))) (eB gLen (aCons (eVar 1) aNil)) (eC (.int 4))) [some (.str x), some (.str y), none, none] M = some (decide ((4 : Int) < y.length), M) := v_bl (op_of ln rfl rfl)
  have kB1 : tV (eOp (gInt fun i j => .bl (decide (j < i))) (eB gLen (aCons (eVar 1) aNil)) (eC (.int 1))) [some (.str x), some (.str y), none, none] M = some (decide ((1 : Int) < y.length), M) := v_bl (op_of ln rfl rfl)
  have kC : tV (eOp (gEq fun p q => !PyData.eqv p q) (eLc [2] (aSigns (eVar 1)) (gN 2) (tV (eOp (gIn fun b => !b) (eVar 2) (eC (.str "0123456789")))) (eVar 2)) (eLst aNil)) [some (.str x), some (.str y), none, none] M = some (!figs? (TL.tl y), M) := by
    refine v_bl (op_of (others_lcF ly rfl) (x_eLst x_aNil (by simp)) ((ne_strs fun s h => sy s (List.mem_filter.mp h).1).trans ?_))
    rw [figs_filter]
  have kZ : tV (eOp (gEq PyData.eqv) (eVar 0) (eC (.str "-0"))) [some (.str x), some (.str y), none, none] M = some (decide (x = "-0"), M) := v_bl (op_of rfl rfl (eq_str (strOk_of hs) (by decide +kernel) _))
  have nn : ∀ h : numOf (TL.tl y) = none, (if m then (match numOf (TL.tl y) with
      | none => D.non
      | some n => if n = 0 then .non else .int (-(n : Int))) else optN (numOf (TL.tl y))) = .non := fun h => by
    rw [h]; cases m <;> rfl
  by_cases h1 : y = ""
  · rw [decide_eq_true h1] at kA
    rw [nn (by rw [(empty_iff y).mp h1]; rfl)]
    exact seq_if1 (M1 := M) (or1 kA) (ret_of rfl)
  rw [decide_eq_false h1] at kA
  have h1' : TL.tl y ≠ [] := fun e => h1 ((empty_iff y).mpr e)
  by_cases h2 : 4 < y.length
  · rw [decide_eq_true (by omega)] at kB
    rw [nn (isnum_long (by rw [← str_len]; exact h2))]
    exact seq_if1 (M1 := M) (or0 (M1 := M) kA (or1 kB)) (ret_of rfl)
  rw [decide_eq_false (by omega)] at kB
  cases h3 : figs? (TL.tl y) with
  | false =>
    rw [h3] at kC
    rw [nn (by unfold numOf isnum; rw [h3]; simp)]
    exact seq_if1 (M1 := M) (or0 (M1 := M) kA (or0 (M1 := M) kB kC)) (ret_of rfl)
  | true =>
    rw [h3] at kC
    refine seq_if0 (M1 := M) (or0 (M1 := M) kA (or0 (M1 := M) kB kC)) ?_
    obtain ⟨c, q, hq⟩ := List.exists_cons_of_ne_nil h1'
    have l1 : 1 ≤ (TL.tl y).length := by rw [hq]; simp
    have l4 : (TL.tl y).length ≤ 4 := by rw [← str_len]; omega
    have kF : tV (eOp (gEq PyData.eqv) (eOp gIx (eVar 1) (eC (.int 0))) (eC (.str "0"))) [some (.str x), some (.str y), none, none] M = some (decide (c = 48), M) := by
      refine v_bl (op_of (op_of rfl rfl (first_sp hq ly)) rfl ((eq_str (strOk_of ?_) (by decide +kernel) _).trans ?_))
      · intro s' hs'
        have : s' = c := by simpa [TL.tl] using hs'
        rw [this]
        exact sy c (by rw [hq]; exact List.mem_cons_self)
      · simp only [one_iff]
    by_cases h4 : 1 < y.length ∧ c = 48
    · rw [decide_eq_true (by omega)] at kB1
      rw [decide_eq_true h4.2] at kF
      rw [nn (by
        unfold numOf isnum
        rw [hq, List.head?_cons, h4.2]
        have : 1 < (48 :: q).length := by rw [← h4.2, ← hq, ← str_len]; exact h4.1
        rw [decide_eq_true (show 1 < (48 :: q).length from this)]
        simp)]
      exact seq_if1 (M1 := M) (or1 (an1 (M1 := M) kB1 kF)) (ret_of rfl)
    have kD : tAn (tV (eOp (gInt fun i j => .bl (decide (j < i))) (eB gLen (aCons (eVar 1) aNil)) (eC (.int 1)))) (tV (eOp (gEq PyData.eqv) (eOp gIx (eVar 1) (eC (.int 0))) (eC (.str "0")))) [some (.str x), some (.str y), none, none] M = some (false, M) := by
      by_cases h5 : 1 < y.length
      · rw [decide_eq_true (by omega)] at kB1
        rw [decide_eq_false (fun e => h4 ⟨h5, e⟩)] at kF
        exact an1 kB1 kF
      · rw [decide_eq_false (by omega)] at kB1
        exact an0 kB1
    have ad := figs_digits h3
    have hn : numOf (TL.tl y) = some (NumText.digitsVal (TL.tl y)) := by
      unfold numOf
      have : isnum (TL.tl y) = true := by
        unfold isnum
        rw [decide_eq_true l1, decide_eq_true l4, h3]
        rw [hq, List.head?_cons]
        by_cases h5 : 1 < y.length
        · have : c ≠ 48 := fun e => h4 ⟨h5, e⟩
          simp [this]
        · have : q = [] := by
            rw [str_len, hq] at h5
            cases q with
            | nil => rfl
            | cons _ _ => simp at h5
          rw [this]
          simp
      rw [if_pos this]
    have hd0 : NumText.digitsVal (TL.tl y) = 0 ↔ y = "0" := by
      constructor
      · intro e
        by_cases h5 : 1 < y.length
        · exfalso
          have c0 : c ≠ 48 := fun e => h4 ⟨h5, e⟩
          rw [hq] at e ad
          have hc := ad c List.mem_cons_self
          have gen : ∀ (cs : List Nat) (a : Nat), a ≤ cs.foldl (fun acc c => acc * 10 + (c - 48)) a := by
            intro cs
            induction cs with
            | nil => intro a; exact Nat.le_refl _
            | cons d cs ih => intro a; rw [List.foldl_cons]; exact Nat.le_trans (by omega) (ih _)
          have := gen q (0 * 10 + (c - 48))
          have e' : List.foldl (fun acc c => acc * 10 + (c - 48)) (0 * 10 + (c - 48)) q = 0 := e
          omega
        · have hq0 : q = [] := by
            rw [str_len, hq] at h5
            cases q with
            | nil => rfl
            | cons _ _ => simp at h5
          refine TL.ext_tl ?_
          rw [t0]
          rw [hq, hq0] at e ad ⊢
          have hc := ad c List.mem_cons_self
          have e' : 0 * 10 + (c - 48) = 0 := e
          have : c = 48 := by omega
          rw [this]
      · intro e
        rw [e]
        rfl
    rw [hn]
    have go : sSeq (sAs (eC (.int 0)) (gN 3)) (sSeq (sFor (aSigns (eVar 1)) (gN 2) (sAs (eOp gAdd (eOp gMul (eC (.int 10)) (eVar 3)) (eS1 gIdx (eC (.str "0123456789")) (eVar 2))) (gN 3))) (sRet (eIf (tV (eOp (gEq PyData.eqv) (eVar 1) (eVar 0))) (eVar 3) (eOp (gInt fun i j => .int (i - j)) (eC (.int 0)) (eVar 3))))) [some (.str x), some (.str y), none, none] M = some (.rt (if m then .int (0 - (NumText.digitsVal (TL.tl y) : Nat)) else .int (NumText.digitsVal (TL.tl y) : Nat)) M) := by
      refine seq_as (M1 := M) (δ' := [some (.str x), some (.str y), none, some (.int 0)]) x_eC rfl ?_
      have kk : 0 < K10 (TL.tl y).length := by
        unfold K10
        split <;> decide
      obtain ⟨z', e⟩ := fold10 M (some (.str x)) (some (.str y)) (TL.tl y) 0 none ad l4 kk
      refine seq_nx (M1 := M) (δ' := [some (.str x), some (.str y), z', some (.int (NumText.digitsVal (TL.tl y)))]) ?_ ?_
      · have es : aSigns (eVar 1) [some (.str x), some (.str y), none, some (.int 0)] M = some ((TL.tl y).map fun s => .str ⟨#[s]⟩, M) := rfl
        unfold sFor
        rw [es]
        exact e
      · have kE : tV (eOp (gEq PyData.eqv) (eVar 1) (eVar 0)) [some (.str x), some (.str y), z', some (.int (NumText.digitsVal (TL.tl y)))] M = some (!m, M) := v_bl (op_of rfl rfl ((eq_str (strOk_of sy) (strOk_of hs) _).trans (by rw [hm])))
        cases m with
        | false => exact ret_of (ei_tt kE rfl)
        | true => exact ret_of (ei_ff kE (op_of rfl rfl rfl))
    cases m with
    | false =>
      rw [decide_eq_false (hz0 rfl)] at kZ
      exact seq_if0 (M1 := M) (or0 (M1 := M) kD kZ) go
    | true =>
      by_cases h0 : y = "0"
      · rw [decide_eq_true ((hz rfl).mpr h0)] at kZ
        dsimp only
        rw [if_pos rfl, if_pos (hd0.mpr h0)]
        exact seq_if1 (M1 := M) (or0 (M1 := M) kD kZ) (ret_of rfl)
      · rw [decide_eq_false fun e => h0 ((hz rfl).mp e)] at kZ
        dsimp only
        rw [if_pos rfl, if_neg fun e => h0 (hd0.mp e)]
        rw [if_pos rfl, Int.zero_sub] at go
        exact seq_if0 (M1 := M) (or0 (M1 := M) kD kZ) go
theorem tm0 : TL.tl ("-0" : Str) = [45, 48] := by decide +kernel
theorem lnum65_sp {x : Str} {M : Mh} (hx : x.length ≤ 1000000) (hs : SOk x) : ff_law_number [.str x] M = some (optI (sgnOf (TL.tl x)), M) := by
  have mt := minus_sp (f := eVar 0) (δ := [some (.str x), none, none, none]) (M := M) hx hs rfl
  by_cases hm : (TL.tl x).take 1 = [45]
  · rw [decide_eq_true hm] at mt
    have hd : TL.tl x = 45 :: (TL.tl x).drop 1 := by
      cases hq : TL.tl x with
      | nil => rw [hq] at hm; exact absurd hm (by decide)
      | cons c q =>
        rw [hq] at hm
        have : c = 45 := by simpa using hm
        rw [this]; rfl
    have hne : ¬ L2.cutS x (some 1) none = x := fun e => by
      have e1 := congrArg TL.tl e
      rw [cut2] at e1
      rw [← e1] at hd
      have e2 := congrArg List.length hd
      rw [List.length_cons, List.length_drop, List.length_drop] at e2
      have e3 := congrArg List.length e1
      rw [List.length_drop] at e3
      omega
    have hz : x = "-0" ↔ L2.cutS x (some 1) none = "0" := by
      constructor
      · intro e
        refine TL.ext_tl ?_
        rw [cut2, t0, e, tm0]; rfl
      · intro e
        have e1 := congrArg TL.tl e
        rw [cut2, t0] at e1
        refine TL.ext_tl ?_
        rw [hd, e1, tm0]
    rw [lnum65_own (m := true) hx hs (cut2_len hx) (SOk.cut2 hs) (by rw [decide_eq_false hne]; rfl) (fun _ => hz) (fun z => nomatch z) (ei_tt (M1 := M) mt (slL hx rfl))]
    rw [if_pos rfl, cut2]
    unfold sgnOf
    rw [if_pos hm]
    cases numOf ((TL.tl x).drop 1) with
    | none => rfl
    | some n =>
      dsimp only
      by_cases h0 : n = 0
      · rw [if_pos h0, if_pos h0]; rfl
      · rw [if_neg h0, if_neg h0]; rfl
  · rw [decide_eq_false hm] at mt
    rw [lnum65_own (m := false) hx hs hx hs (by rw [decide_eq_true rfl]; rfl) (fun z => nomatch z) (fun _ e => hm (by rw [e, tm0]; rfl)) (ei_ff (M1 := M) mt rfl)]
    unfold sgnOf
    rw [if_neg hm]
    cases numOf (TL.tl x) <;> rfl
end Law

namespace Law
open PySem L2 Pl Pl.Ev
/-! the parts of a step -/
def fitI (r : Int × Int) : Option Int → Bool
  | none => false
  | some i => decide (r.1 ≤ i) && decide (i ≤ r.2)
theorem among_sp (u : Option Int) (lo hi : Int) (M : Mh) : ff_is_among [optI u, .int lo, .int hi] M = some (.bl (fitI (lo, hi) u), M) := by
  refine fn_rt ?_
  show gg_is_among [some (optI u), some (.int lo), some (.int hi)] M = _
  unfold gg_is_among
  have w : ∀ (i : Nat) (v : Option Int), ([some (optI u), some (D.int lo), some (D.int hi)] : Pl.Env)[i]? = some (some (optI v)) → tNt (tV (eCall ff_is_whole (aCons (eVar i) aNil) [])) [some (optI u), some (.int lo), some (.int hi)] M = some (!v.isSome, M) := fun i v h => nt_of (v_bl (call_of (cons_of (var_ h) x_aNil) (whole_sp v M)))
  cases u with
  | none => exact seq_if1 (M1 := M) (or1 (w 0 none rfl)) (ret_of rfl)
  | some i =>
    refine seq_if0 (M1 := M) (or0 (M1 := M) (w 0 (some i) rfl) (or0 (M1 := M) (w 1 (some lo) rfl) (w 2 (some hi) rfl))) (ret_of (chain_ (x := decide (lo ≤ i)) rfl rfl rfl ?_))
    show _ = some (D.bl (decide (lo ≤ i) && decide (i ≤ hi)), M)
    cases decide (lo ≤ i) <;> rfl
def lim (k : Str) : Int × Int := if k = "side" then (1, 4) else if k = "length" then (1, 6) else if k = "height" then (0, 5) else (-3, 7)
theorem fits_sp {k : Str} {u : Option Int} {M : Mh} (hk : SOk k) : ff_fits_step [.str k, optI u] M = some (.bl (fitI (lim k) u), M) := by
  refine fn_rt ?_
  show gg_fits_step [some (.str k), some (optI u)] M = _
  unfold gg_fits_step
  have t : ∀ z : Str, PyData.strOk z = true → tV (eOp (gEq PyData.eqv) (eVar 0) (eC (.str z))) [some (.str k), some (optI u)] M = some (decide (k = z), M) := fun z hz => v_bl (op_of rfl rfl (eq_str (strOk_of hk) hz _))
  have t1 := t "side" (by decide +kernel)
  have t2 := t "length" (by decide +kernel)
  have t3 := t "height" (by decide +kernel)
  have am := fun lo hi => among_sp u lo hi M
  unfold lim
  by_cases h1 : k = "side"
  · rw [decide_eq_true h1] at t1
    rw [if_pos h1]
    exact seq_if1 (M1 := M) t1 (ret_of (call_of (cons_of rfl (cons_of rfl (cons_of rfl x_aNil))) (am 1 4)))
  rw [decide_eq_false h1] at t1
  rw [if_neg h1]
  refine seq_if0 (M1 := M) t1 ?_
  by_cases h2 : k = "length"
  · rw [decide_eq_true h2] at t2
    rw [if_pos h2]
    exact seq_if1 (M1 := M) t2 (ret_of (call_of (cons_of rfl (cons_of rfl (cons_of rfl x_aNil))) (am 1 6)))
  rw [decide_eq_false h2] at t2
  rw [if_neg h2]
  refine seq_if0 (M1 := M) t2 ?_
  by_cases h3 : k = "height"
  · rw [decide_eq_true h3] at t3
    rw [if_pos h3]
    exact seq_if1 (M1 := M) t3 (ret_of (call_of (cons_of rfl (cons_of rfl (cons_of rfl x_aNil))) (am 0 5)))
  rw [decide_eq_false h3] at t3
  rw [if_neg h3]
  refine seq_if0 (M1 := M) t3 (ret_of (call_of (cons_of rfl (cons_of (d := .int (-3)) (M1 := M) (op_of x_eC x_eC ?_) (cons_of (d := .int 7) (M1 := M) (op_of x_eC x_eC ?_) x_aNil))) (am (-3) 7)))
  · show some (D.int (1 - 4), M) = _; rfl
  · show some (D.int (8 - 1), M) = _; rfl
/-- the number of a word, within its limits -/
def fit (r : Int × Int) (w : Str) : Option Int := if fitI r (sgnOf (TL.tl w)) = true then sgnOf (TL.tl w) else none
theorem part65 {k x : Str} {M : Mh} (hk : SOk k) (hx : x.length ≤ 1000000) (hs : SOk x) : ff_read_part [.str k, .str x] M = some (optI (fit (lim k) x), M) := by
  refine fn_rt ?_
  show gg_read_part [some (.str k), some (.str x), none] M = _
  unfold gg_read_part
  refine seq_as (M1 := M) (δ' := [some (.str k), some (.str x), some (optI (sgnOf (TL.tl x)))]) (call_of (cons_of rfl x_aNil) (signed_sp hx hs)) rfl ?_
  have t : tNt (tV (eCall ff_fits_step (aCons (eVar 0) (aCons (eVar 2) aNil)) [])) [some (.str k), some (.str x), some (optI (sgnOf (TL.tl x)))] M = some (!fitI (lim k) (sgnOf (TL.tl x)), M) := nt_of (v_bl (call_of (cons_of rfl (cons_of rfl x_aNil)) (fits_sp hk)))
  unfold fit
  cases h : fitI (lim k) (sgnOf (TL.tl x)) with
  | true =>
    rw [h] at t
    rw [if_pos rfl]
    exact seq_if0 (M1 := M) t (ret_of rfl)
  | false =>
    rw [h] at t
    rw [if_neg (by decide)]
    exact seq_if1 (M1 := M) t (ret_of rfl)
/-- the numbers of the first words that fit -/
def pref : List (Int × Int) → List Str → List Int
  | r :: rs, w :: ws => (match fit r w with
    | some i => i :: pref rs ws
    | none => [])
  | _, _ => []
theorem pref_len : ∀ (R : List (Int × Int)) (W : List Str), (pref R W).length ≤ R.length
  | [], _ => by rw [pref.eq_def]; simp
  | r :: rs, [] => by rw [pref.eq_def]; simp
  | r :: rs, w :: ws => by
    unfold pref
    cases fit r w with
    | none => simp
    | some i => have := pref_len rs ws; simp; omega
noncomputable def partS (ct : CT) : SF := (sSeq (sAs (eCallV (tab ct) 2 (aCons (eVar 4) (aCons (eVar 5) aNil))) (gN 6)) (sSeq (sIf (tV (eOp (gIsN fun b => b) (eVar 6) (eC .non))) (fun δ M => some (.bk δ M)) sNil) (sE (eMeth2 gApp (eVar 3) (aCons (eVar 6) aNil)))))
theorem parts_go (ct : CT) (M : Mh) (a b : Option D) : ∀ (K W : List Str) (acc : List D) (x4 x5 x6 : Option D), (∀ k ∈ K, SOk k) → (∀ w ∈ W, Wk? w) → acc.length + K.length ≤ 900 →
    ∃ y4 y5 y6, forGo (gTp (gsCons (gN 4) (gsCons (gN 5) gsNil))) (partS ct) (((K.map D.str).zip (W.map D.str)).map fun p => .tup [p.1, p.2]) [a, b, some (.ob ct.fn_read_part), some (.ref M.length), x4, x5, x6] (M ++ [.lst acc]) = some (.nx [a, b, some (.ob ct.fn_read_part), some (.ref M.length), y4, y5, y6] (M ++ [.lst (acc ++ (pref (K.map lim) W).map D.int)]))
  | [], W, acc, x4, x5, x6, _, _, _ => ⟨x4, x5, x6, by
    have e : acc ++ (pref (([] : List Str).map lim) W).map D.int = acc := by rw [List.map_nil, pref.eq_def]; exact List.append_nil _
    rw [e]
    exact forN_⟩
  | k :: K, [], acc, x4, x5, x6, _, _, _ => ⟨x4, x5, x6, by
    have e : acc ++ (pref ((k :: K).map lim) []).map D.int = acc := by rw [List.map_cons, pref.eq_def]; exact List.append_nil _
    rw [e]
    exact forN_⟩
  | k :: K, w :: W, acc, x4, x5, x6, hk, hw, hl => by
    have w1 := hw w List.mem_cons_self
    rw [List.length_cons] at hl
    have cl : eCallV (tab ct) 2 (aCons (eVar 4) (aCons (eVar 5) aNil)) [a, b, some (.ob ct.fn_read_part), some (.ref M.length), some (.str k), some (.str w), x6] (M ++ [.lst acc]) = some (optI (fit (lim k) w), M ++ [.lst acc]) :=
      callV_ (F := ff_read_part) rfl (by unfold tab; rw [if_pos rfl]) (cons_of rfl (cons_of rfl x_aNil)) (part65 (hk k List.mem_cons_self) w1.l w1.2)
    have ep : pref ((k :: K).map lim) (w :: W) = (match fit (lim k) w with
      | some i => i :: pref (K.map lim) W
      | none => []) := by rw [List.map_cons, pref]
    rw [ep]
    have tst : tV (eOp (gIsN fun b => b) (eVar 6) (eC .non)) [a, b, some (.ob ct.fn_read_part), some (.ref M.length), some (.str k), some (.str w), some (optI (fit (lim k) w))] (M ++ [.lst acc]) = some (isN (optI (fit (lim k) w)), M ++ [.lst acc]) := v_bl (op_of rfl x_eC rfl)
    cases hn : fit (lim k) w with
    | none =>
      rw [hn] at tst cl
      dsimp only
      rw [List.map_nil, List.append_nil]
      refine ⟨some (.str k), some (.str w), some .non, ?_⟩
      rw [List.map_cons, List.map_cons, List.zip_cons_cons, List.map_cons]
      have bd : partS ct [a, b, some (.ob ct.fn_read_part), some (.ref M.length), some (.str k), some (.str w), x6] (M ++ [.lst acc]) = some (.bk [a, b, some (.ob ct.fn_read_part), some (.ref M.length), some (.str k), some (.str w), some .non] (M ++ [.lst acc])) := by
        unfold partS
        refine seq_as cl rfl ?_
        unfold sSeq sIf
        rw [show (([a, b, some (D.ob ct.fn_read_part), some (D.ref M.length), some (D.str k), some (D.str w), x6] : Pl.Env).set 6 (some (optI none))) = [a, b, some (.ob ct.fn_read_part), some (.ref M.length), some (.str k), some (.str w), some (optI none)] from rfl, tst]
        rfl
      unfold forGo
      dsimp only [gTp, gsCons, gsNil, gN, List.set_cons_succ, List.set_cons_zero]
      rw [bd]
    | some i =>
      rw [hn] at tst cl
      dsimp only
      obtain ⟨y4, y5, y6, ih⟩ := parts_go ct M a b K W (acc ++ [.int i]) (some (.str k)) (some (.str w)) (some (.int i)) (fun x hx => hk x (List.mem_cons_of_mem _ hx)) (fun x hx => hw x (List.mem_cons_of_mem _ hx)) (by rw [List.length_append]; simp; omega)
      rw [List.append_assoc] at ih
      refine ⟨y4, y5, y6, ?_⟩
      rw [List.map_cons, List.map_cons, List.zip_cons_cons, List.map_cons]
      refine forC_ (δ1 := [a, b, some (.ob ct.fn_read_part), some (.ref M.length), some (.str k), some (.str w), x6]) (δ2 := [a, b, some (.ob ct.fn_read_part), some (.ref M.length), some (.str k), some (.str w), some (.int i)]) (M2 := M ++ [.lst (acc ++ [.int i])]) rfl ?_ ih
      unfold partS
      refine seq_as (δ' := [a, b, some (.ob ct.fn_read_part), some (.ref M.length), some (.str k), some (.str w), some (.int i)]) cl rfl ?_
      refine seq_if0 tst ?_
      exact se_ (app_end rfl (cons_of rfl x_aNil) (by omega))
theorem parts_sp (ct : CT) {K W : List Str} {M : Mh} (hk : ∀ k ∈ K, SOk k) (hw : ∀ w ∈ W, Wk? w) (lK : K.length ≤ 900) :
    ∃ m, ff_parts_by ct [.tup (K.map D.str), .lst (W.map D.str), .ob ct.fn_read_part] M = some (.tup [.tup ((pref (K.map lim) W).map D.int), if (pref (K.map lim) W).length = K.length ∧ K.length = W.length then .non else .int ((pref (K.map lim) W).length + 1 : Nat)], M ++ [m]) := by
  obtain ⟨y4, y5, y6, go⟩ := parts_go ct M (some (.tup (K.map D.str))) (some (.lst (W.map D.str))) K W [] none none none hk hw (by simpa using lK)
  rw [List.nil_append] at go
  unfold partS at go
  generalize pref (K.map lim) W = Q at go ⊢
  refine ⟨.lst (Q.map D.int), fn_rt ?_⟩
  show gg_parts_by ct [some (.tup (K.map D.str)), some (.lst (W.map D.str)), some (.ob ct.fn_read_part), none, none, none, none] M = _
  unfold gg_parts_by
  refine seq_as (M1 := M ++ [.lst []]) (δ' := [some (.tup (K.map D.str)), some (.lst (W.map D.str)), some (.ob ct.fn_read_part), some (.ref M.length), none, none, none]) (new_ x_aNil (by simp)) rfl ?_
  refine seq_nx (for_ (ds := ((K.map D.str).zip (W.map D.str)).map fun (p : D × D) => D.tup [p.1, p.2]) (M1 := M ++ [MO.lst []]) ?_ go) ?_
  · unfold aZipM
    rw [cons_of (d := .tup (K.map D.str)) (M1 := M ++ [.lst []]) rfl (cons_of (d := .lst (W.map D.str)) (M1 := M ++ [.lst []]) rfl x_aNil)]
  have l3 : eB gLen (aCons (eVar 3) aNil) [some (.tup (K.map D.str)), some (.lst (W.map D.str)), some (.ob ct.fn_read_part), some (.ref M.length), y4, y5, y6] (M ++ [.lst (Q.map D.int)]) = some (.int (Q.length : Nat), M ++ [.lst (Q.map D.int)]) := by
    rw [x_eB, cons_of (d := .ref M.length) (M1 := M ++ [.lst (Q.map D.int)]) rfl x_aNil]
    simp [gLen, lenOf, lstOf, at_end]
  have l0 : eB gLen (aCons (eVar 0) aNil) [some (.tup (K.map D.str)), some (.lst (W.map D.str)), some (.ob ct.fn_read_part), some (.ref M.length), y4, y5, y6] (M ++ [.lst (Q.map D.int)]) = some (.int (K.length : Nat), M ++ [.lst (Q.map D.int)]) := by
    rw [x_eB, cons_of (d := .tup (K.map D.str)) (M1 := M ++ [.lst (Q.map D.int)]) rfl x_aNil]
    simp [gLen, lenOf]
  have l1 : eB gLen (aCons (eVar 1) aNil) [some (.tup (K.map D.str)), some (.lst (W.map D.str)), some (.ob ct.fn_read_part), some (.ref M.length), y4, y5, y6] (M ++ [.lst (Q.map D.int)]) = some (.int (W.length : Nat), M ++ [.lst (Q.map D.int)]) := by
    rw [x_eB, cons_of (d := .lst (W.map D.str)) (M1 := M ++ [.lst (Q.map D.int)]) rfl x_aNil]
    simp [gLen, lenOf, lstOf]
  have dd : ∀ a b : Nat, decide ((a : Int) = (b : Int)) = decide (a = b) := fun a b => decide_eq_decide.mpr (by omega)
  have tp : eB gTupOf (aCons (eVar 3) aNil) [some (.tup (K.map D.str)), some (.lst (W.map D.str)), some (.ob ct.fn_read_part), some (.ref M.length), y4, y5, y6] (M ++ [.lst (Q.map D.int)]) = some (.tup (Q.map D.int), M ++ [.lst (Q.map D.int)]) := by
    rw [x_eB, cons_of (d := .ref M.length) (M1 := M ++ [.lst (Q.map D.int)]) rfl x_aNil]
    simp [gTupOf, lstOf, at_end]
  have ch : tV (eChain (gEq PyData.eqv) (gEq PyData.eqv) (eB gLen (aCons (eVar 3) aNil)) (eB gLen (aCons (eVar 0) aNil)) (eB gLen (aCons (eVar 1) aNil))) [some (.tup (K.map D.str)), some (.lst (W.map D.str)), some (.ob ct.fn_read_part), some (.ref M.length), y4, y5, y6] (M ++ [.lst (Q.map D.int)]) = some (decide (Q.length = K.length ∧ K.length = W.length), M ++ [.lst (Q.map D.int)]) := by
    refine v_bl (chain_ (x := decide (Q.length = K.length)) l3 l0 ((eq_int _ _ _).trans (by rw [dd])) ?_)
    by_cases h : Q.length = K.length
    · rw [decide_eq_true h]
      refine (op_of x_eC l1 ((eq_int _ _ _).trans ?_) : eOp (gEq PyData.eqv) (eC (.int (K.length : Nat))) (eB gLen (aCons (eVar 1) aNil)) _ _ = _)
      rw [dd]
      simp [h]
    · rw [decide_eq_false h]
      simp [h]
  by_cases h : Q.length = K.length ∧ K.length = W.length
  · rw [decide_eq_true h] at ch
    rw [if_pos h]
    exact seq_if1 ch (ret_of (x_eTup (cons_of tp (cons_of x_eC x_aNil)) (by simp)))
  · rw [decide_eq_false h] at ch
    rw [if_neg h]
    refine seq_if0 ch (ret_of (x_eTup (cons_of tp (cons_of (op_of l3 x_eC ?_) x_aNil)) (by simp)))
    rfl
end Law

namespace Law
open PySem L2 Pl Pl.Ev
/-! rows and words: how long they are together -/
theorem t10 : TL.tl ("\n" : Str) = [10] := by decide +kernel
def wtL (ps : List (List Nat)) : Nat := (ps.map fun p => p.length + 1).sum
def wt (W : List Str) : Nat := (W.map fun y => y.length + 1).sum
theorem wt_tl : ∀ W : List Str, wtL (W.map TL.tl) = wt W
  | [] => rfl
  | y :: W => by
    have h := wt_tl W
    unfold wtL wt at h ⊢
    rw [List.map_cons, List.map_cons, List.map_cons, List.sum_cons, List.sum_cons, h, str_len]
theorem spl_wt (c : Nat) : ∀ (l acc : List Nat), wtL (TL.spl [c] 0 acc l) = acc.length + l.length + 1
  | [], acc => by rw [TL.spl_nil]; simp [wtL]
  | d :: l, acc => by
    cases hp : TL.pre [c] (d :: l) with
    | true =>
      rw [TL.spl_hit hp]
      have h := spl_wt c l []
      show wtL (acc :: TL.spl [c] 0 [] l) = _
      unfold wtL at h ⊢
      rw [List.map_cons, List.sum_cons, h]
      simp
      omega
    | false =>
      rw [TL.spl_miss hp, spl_wt c l (acc ++ [d])]
      simp
      omega
theorem split_tlN (x : Str) : (Txt.split x "\n").map TL.tl = TL.spl [10] 0 [] (TL.tl x) := by
  have := TL.split_spl x ("\n" : Str) (by rw [t10]; exact fun z => nomatch z) (TL.kind_ok (by decide +kernel))
  rw [t10] at this
  exact this
theorem wt_N (x : Str) : wt (Txt.split x "\n") = x.length + 1 := by
  rw [← wt_tl, split_tlN, spl_wt, str_len]
  simp
theorem wt_B (x : Str) : wt (Txt.split x " ") = x.length + 1 := by
  rw [← wt_tl, split_tlB, spl_wt, str_len]
  simp
theorem ne_N (x : Str) : Txt.split x "\n" ≠ [] := fun e => by
  have := split_tlN x
  rw [e] at this
  exact spl_ne _ _ _ _ this.symm
theorem ne_B (x : Str) : Txt.split x " " ≠ [] := fun e => by
  have := split_tlB x
  rw [e] at this
  exact spl_ne _ _ _ _ this.symm
theorem parts_okN {x : Str} (hs : SOk x) : ∀ y ∈ Txt.split x "\n", SOk y := fun y hy s h => by
  have : TL.tl y ∈ TL.spl [10] 0 [] (TL.tl x) := by
    rw [← split_tlN]
    exact List.mem_map_of_mem hy
  rcases spl_mem _ _ _ _ _ this s h with z | z
  · cases z
  · exact hs s z
theorem wt_mem : ∀ {W : List Str} {y : Str}, y ∈ W → y.length + 1 ≤ wt W
  | [], _, h => by cases h
  | z :: W, y, h => by
    unfold wt
    rw [List.map_cons, List.sum_cons]
    rcases List.mem_cons.mp h with e | h
    · rw [e]; omega
    · have := wt_mem h
      unfold wt at this
      omega
theorem wt_len : ∀ W : List Str, W.length ≤ wt W
  | [] => Nat.le_refl _
  | z :: W => by
    have := wt_len W
    unfold wt at this ⊢
    rw [List.map_cons, List.sum_cons, List.length_cons]
    omega
theorem wt_app (A B : List Str) : wt (A ++ B) = wt A + wt B := by
  unfold wt
  rw [List.map_append, List.sum_append]
theorem wt_cons (a : Str) (B : List Str) : wt (a :: B) = a.length + 1 + wt B := rfl
theorem wt_nil : wt [] = 0 := rfl
theorem wt_td (W : List Str) (i j : Nat) : wt ((W.drop i).take j) ≤ wt W := by
  have h1 : wt W = wt (W.take i) + wt (W.drop i) := by rw [← wt_app, List.take_append_drop]
  have h2 : wt (W.drop i) = wt ((W.drop i).take j) + wt ((W.drop i).drop j) := by rw [← wt_app, List.take_append_drop]
  omega
theorem wt_cut (W : List Str) (lo hi : Option Int) : wt (cutD W lo hi) ≤ wt W := by
  unfold cutD
  exact wt_td _ _ _
theorem jl_wt (c : Nat) : ∀ ps : List (List Nat), (TL.joinL [c] ps).length ≤ wtL ps
  | [] => Nat.zero_le _
  | [p] => by simp [TL.joinL, wtL]
  | p :: q :: r => by
    have := jl_wt c (q :: r)
    rw [joinL_cons _ _ (show q :: r ≠ [] from List.cons_ne_nil _ _)]
    unfold wtL at this ⊢
    rw [List.map_cons, List.sum_cons]
    simp only [List.length_append, List.length_cons, List.length_nil]
    omega
theorem jw_N (W : List Str) : (Txt.join "\n" W).length ≤ wt W := by
  rw [str_len, tl_J, t10, ← wt_tl]
  exact jl_wt _ _
theorem jw_B (W : List Str) : (Txt.join " " W).length ≤ wt W := by
  rw [str_len, tl_J, t32, ← wt_tl]
  exact jl_wt _ _
theorem so_nl : SOk "\n" := fun s hs => by
  rw [t10] at hs
  have := List.mem_singleton.mp hs
  omega
/-- a text that is not too long -/
def Tx (n : Nat) (x : Str) : Prop := x.length ≤ n ∧ SOk x
def Txs (n : Nat) (W : List Str) : Prop := wt W ≤ n ∧ ∀ y ∈ W, SOk y
theorem Tx.spN {n : Nat} {x : Str} (h : Tx n x) : Txs (n + 1) (Txt.split x "\n") := ⟨by rw [wt_N]; have := h.1; omega, parts_okN h.2⟩
theorem Tx.spB {n : Nat} {x : Str} (h : Tx n x) : Txs (n + 1) (Txt.split x " ") := ⟨by rw [wt_B]; have := h.1; omega, parts_ok h.2⟩
theorem Txs.mem {n : Nat} {W : List Str} {y : Str} (h : Txs n W) (hy : y ∈ W) : Tx n y := ⟨by have := wt_mem hy; have := h.1; omega, h.2 y hy⟩
theorem Txs.len {n : Nat} {W : List Str} (h : Txs n W) : W.length ≤ n := Nat.le_trans (wt_len W) h.1
theorem Txs.cut {n : Nat} {W : List Str} (h : Txs n W) (lo hi : Option Int) : Txs n (cutD W lo hi) := ⟨Nat.le_trans (wt_cut _ _ _) h.1, fun y hy => h.2 y (cut_mem.1 y hy)⟩
theorem Txs.app {n m : Nat} {V W : List Str} (h : Txs n V) (k : Txs m W) : Txs (n + m) (V ++ W) := ⟨by rw [wt_app]; have := h.1; have := k.1; omega, fun y hy => by
  rcases List.mem_append.mp hy with z | z
  · exact h.2 y z
  · exact k.2 y z⟩
theorem Txs.one {n : Nat} {x : Str} (h : Tx n x) : Txs (n + 1) [x] := ⟨by rw [wt_cons, wt_nil]; have := h.1; omega, fun y hy => by rw [List.mem_singleton.mp hy]; exact h.2⟩
theorem Txs.jN {n : Nat} {W : List Str} (h : Txs n W) : Tx n (Txt.join "\n" W) := ⟨Nat.le_trans (jw_N W) h.1, J_so so_nl h.2⟩
theorem Txs.jB {n : Nat} {W : List Str} (h : Txs n W) : Tx n (Txt.join " " W) := ⟨Nat.le_trans (jw_B W) h.1, J_so so_sp.1 h.2⟩
theorem Txs.mono {n m : Nat} {W : List Str} (h : Txs n W) (l : n ≤ m) : Txs m W := ⟨Nat.le_trans h.1 l, h.2⟩
theorem Tx.mono {n m : Nat} {x : Str} (h : Tx n x) (l : n ≤ m) : Tx m x := ⟨Nat.le_trans h.1 l, h.2⟩
theorem Txs.tail {n : Nat} {z : Str} {W : List Str} (h : Txs n (z :: W)) : Txs n W := ⟨by have := h.1; rw [wt_cons] at this; omega, fun y hy => h.2 y (List.mem_cons_of_mem _ hy)⟩
theorem splitN_of {x : Str} {f : EF} {δ : Pl.Env} {M : Mh} (hx : x.length ≤ 1000000) (h : f δ M = some (.str x, M)) : eS1 gSplit f (eC (.str "\n")) δ M = some (.lst ((Txt.split x "\n").map D.str), M) := by
  have l0 : ((("\n" : Str).length == 0) = false) := by decide +kernel
  refine s1_ h x_eC ?_
  unfold gSplit
  dsimp only
  rw [if_pos ⟨l0, Nat.le_trans (Nat.add_le_add_right hx 2) (by decide)⟩]
/-- joins, whatever is between -/
theorem join_W {y : Str} {W : List Str} {f : EF} {δ : Pl.Env} {M M1 : Mh} (ly : y.length ≤ 1) (hw : wt W ≤ 1000000) (h : f δ M = some (.lst (W.map D.str), M1)) : eS1 gJoin (eC (.str y)) f δ M = some (.str (Txt.join y W), M1) := by
  have sm : ∀ V : List Str, (V.map Str.length).sum + V.length = wt V := fun V => by
    induction V with
    | nil => rfl
    | cons a V ih =>
      rw [wt_cons, ← ih, List.map_cons, List.sum_cons, List.length_cons]
      omega
  refine s1_ x_eC h ?_
  show (match strsOf (W.map D.str) with
    | some ys => if (ys.map Str.length).sum + ys.length * y.length ≤ 16777216 then some (D.str (Txt.join y ys), M1) else none
    | none => none) = _
  rw [strs_S]
  dsimp only
  have hs := sm W
  have : W.length * y.length ≤ W.length * 1 := Nat.mul_le_mul_left _ ly
  rw [if_pos (by omega)]
end Law

namespace Law
open PySem L2 Pl Pl.Ev
/-! what raises -/
theorem okf_row {ct : CT} (hI : Isa ct) : ct.okf ct.BadRow "row" = true := hI.f_BadRow_row
theorem init_sp {ct : CT} (hI : Isa ct) (r w : D) (M : Mh) : ff_BadRow_init ct [.ref M.length, r, w] (M ++ [MO.exo ct.BadRow none]) = some (.non, M ++ [.exo ct.BadRow (some (M.length + 1)), .exd [("word", w), ("row", r)]]) := by
  refine fnN_ (δ' := [some (.ref M.length), some r, some w]) (δ0 := [some (.ref M.length), some r, some w]) rfl ?_
  unfold gg_BadRow_init
  refine seq_nx (δ' := [some (.ref M.length), some r, some w]) (M1 := M ++ [.exo ct.BadRow (some (M.length + 1)), .exd [("row", r)]]) ?_ ?_
  · unfold sOg
    rw [show eVar 1 [some (D.ref M.length), some r, some w] (M ++ [MO.exo ct.BadRow none]) = some (r, M ++ [MO.exo ct.BadRow none]) from rfl]
    dsimp only
    rw [show eVar 0 [some (D.ref M.length), some r, some w] (M ++ [MO.exo ct.BadRow none]) = some (.ref M.length, M ++ [MO.exo ct.BadRow none]) from rfl]
    dsimp only
    rw [at_end]
    dsimp only
    rw [if_pos hI.f_BadRow_row]
    rw [List.append_assoc, List.set_append_right _ _ (Nat.le_refl _)]
    simp
  · unfold sOg
    rw [show eVar 2 [some (D.ref M.length), some r, some w] (M ++ [.exo ct.BadRow (some (M.length + 1)), .exd [("row", r)]]) = some (w, (M ++ [.exo ct.BadRow (some (M.length + 1)), .exd [("row", r)]])) from rfl]
    dsimp only
    rw [show eVar 0 [some (D.ref M.length), some r, some w] (M ++ [.exo ct.BadRow (some (M.length + 1)), .exd [("row", r)]]) = some (.ref M.length, (M ++ [.exo ct.BadRow (some (M.length + 1)), .exd [("row", r)]])) from rfl]
    dsimp only
    have g0 : (M ++ [MO.exo ct.BadRow (some (M.length + 1)), .exd [("row", r)]])[M.length]? = some (.exo ct.BadRow (some (M.length + 1))) := by simp
    have g1 : (M ++ [MO.exo ct.BadRow (some (M.length + 1)), .exd [("row", r)]])[M.length + 1]? = some (.exd [("row", r)]) := by simp
    rw [g0]
    dsimp only
    rw [if_pos hI.f_BadRow_word, g1]
    dsimp only
    rw [if_pos (by simp)]
    rw [List.set_append_right _ _ (by omega)]
    simp
theorem raise_sp {ct : CT} (hI : Isa ct) {g : AF} {δ : Pl.Env} {M M1 : Mh} {r w : D} (h : g δ M = some ([r, w], M1)) : qRaise ct.BadRow "BadRow" (ff_BadRow_init ct) g [] δ M = some (.ex "BadRow" [("word", w), ("row", r)] δ (M1 ++ [.dead, .dead])) := by
  unfold qRaise
  rw [h]
  dsimp only
  rw [show (D.ref M1.length :: ([r, w] ++ ([] : List D))) = [.ref M1.length, r, w] from rfl, init_sp hI]
  dsimp only
  have g0 : (M1 ++ [MO.exo ct.BadRow (some (M1.length + 1)), .exd [("word", w), ("row", r)]])[M1.length]? = some (.exo ct.BadRow (some (M1.length + 1))) := by simp
  have g1 : (M1 ++ [MO.exo ct.BadRow (some (M1.length + 1)), .exd [("word", w), ("row", r)]])[M1.length + 1]? = some (.exd [("word", w), ("row", r)]) := by simp
  rw [g0]
  dsimp only
  rw [if_pos ⟨rfl, by omega⟩, g1]
  dsimp only
  rw [List.set_append_right _ _ (Nat.le_refl _), Nat.sub_self, List.set_cons_zero, List.set_append_right _ _ (by omega), Nat.add_sub_cancel_left]
  rfl
theorem qseq_nx {f g : XFQ} {δ δ' : Pl.Env} {M M1 : Mh} {r : Option XOQ} (h : f δ M = some (.ok (.nx δ' M1))) (k : g δ' M1 = r) : qSeq f g δ M = r := by
  unfold qSeq; rw [h]; exact k
theorem qseq_rt {f g : XFQ} {δ : Pl.Env} {M M1 : Mh} {d : D} (h : f δ M = some (.ok (.rt d M1))) : qSeq f g δ M = some (.ok (.rt d M1)) := by
  unfold qSeq; rw [h]
theorem qseq_ex {f g : XFQ} {δ δ' : Pl.Env} {M M1 : Mh} {y : Str} {fs : List (Str × D)} (h : f δ M = some (.ex y fs δ' M1)) : qSeq f g δ M = some (.ex y fs δ' M1) := by
  unfold qSeq; rw [h]
theorem qif_tt {t : TF} {f g : XFQ} {δ : Pl.Env} {M M1 : Mh} {r : Option XOQ} (h : t δ M = some (true, M1)) (k : f δ M1 = r) : qIf t f g δ M = r := by
  unfold qIf; rw [h]; exact k
theorem qif_ff {t : TF} {f g : XFQ} {δ : Pl.Env} {M M1 : Mh} {r : Option XOQ} (h : t δ M = some (false, M1)) (k : g δ M1 = r) : qIf t f g δ M = r := by
  unfold qIf; rw [h]; exact k
theorem qok_ {f : SF} {δ : Pl.Env} {M : Mh} {o : Out} (h : f δ M = some o) : qOk f δ M = some (.ok o) := by
  unfold qOk; rw [h]
theorem qseq_if0 {t : TF} {f g : XFQ} {δ : Pl.Env} {M M1 : Mh} {r : Option XOQ} (h : t δ M = some (false, M1)) (k : g δ M1 = r) : qSeq (qIf t f (qOk sNil)) g δ M = r :=
  qseq_nx (qif_ff h (qok_ nil_of)) k
theorem fnq_rt {n : Nat} {g : XFQ} {ds : List D} {M M1 : Mh} {d : D} (h : g (startD n ds) M = some (.ok (.rt d M1))) : fnQ n g ds M = some (.v d M1) := by
  unfold fnQ; rw [h]
theorem fnq_ex {n : Nat} {g : XFQ} {ds : List D} {M M1 : Mh} {δ : Pl.Env} {y : Str} {fs : List (Str × D)} (h : g (startD n ds) M = some (.ex y fs δ M1)) : fnQ n g ds M = some (.ex y fs M1) := by
  unfold fnQ; rw [h]
theorem qcall_ {F : FnQ} {g : AF} {dds ds : List D} {δ : Pl.Env} {M M1 : Mh} {r : Option EOQ} (h : g δ M = some (ds, M1)) (k : F (ds ++ dds) M1 = r) : qCall F g dds δ M = r := by
  unfold qCall; rw [h]; exact k
theorem qas_v {f : EXQ} {j : Nat} {δ : Pl.Env} {M M1 : Mh} {d : D} (h : f δ M = some (.v d M1)) : qAs f j δ M = some (.ok (.nx (δ.set j (some d)) M1)) := by
  unfold qAs; rw [h]
theorem qas_ex {f : EXQ} {j : Nat} {δ : Pl.Env} {M M1 : Mh} {y : Str} {fs : List (Str × D)} (h : f δ M = some (.ex y fs M1)) : qAs f j δ M = some (.ex y fs δ M1) := by
  unfold qAs; rw [h]
theorem qret_v {f : EXQ} {δ : Pl.Env} {M M1 : Mh} {d : D} (h : f δ M = some (.v d M1)) : qRet f δ M = some (.ok (.rt d M1)) := by
  unfold qRet; rw [h]
theorem qret_ex {f : EXQ} {δ : Pl.Env} {M M1 : Mh} {y : Str} {fs : List (Str × D)} (h : f δ M = some (.ex y fs M1)) : qRet f δ M = some (.ex y fs δ M1) := by
  unfold qRet; rw [h]
/-! the rows -/
def bad (r w : D) : List (Str × D) := [("word", w), ("row", r)]
theorem words_in_sp {ct : CT} (hI : Isa ct) {x : Str} {n : D} {M : Mh} (hx : x.length ≤ 1000000) (hs : SOk x) : qq_words_in ct [.str x, n] M = some (if ("" : Str) ∈ Txt.split x " " then .ex "BadRow" (bad n (.int 0)) (M ++ [.dead, .dead]) else .v (.lst ((Txt.split x " ").map D.str)) M) := by
  have e : sAs (eCall ff_words_of (aCons (eVar 0) aNil) []) (gN 2) [some (.str x), some n, none] M = some (.nx [some (.str x), some n, some (wordsD x)] M) := as_of (call_of (cons_of rfl x_aNil) (words_sp hx hs)) rfl
  have t : tV (eOp (gIsN fun b => b) (eVar 2) (eC .non)) [some (.str x), some n, some (wordsD x)] M = some (isN (wordsD x), M) := v_bl (op_of rfl x_eC rfl)
  by_cases h : ("" : Str) ∈ Txt.split x " "
  · rw [if_pos h]
    have hw : wordsD x = .non := by unfold wordsD; rw [if_pos h]
    rw [hw] at t e
    refine fnq_ex (δ := [some (.str x), some n, some .non]) ?_
    show qg_words_in ct [some (.str x), some n, none] M = _
    unfold qg_words_in
    exact qseq_nx (qok_ e) (qseq_ex (qif_tt (M1 := M) t (raise_sp hI (cons_of rfl (cons_of x_eC x_aNil)))))
  · rw [if_neg h]
    have hw : wordsD x = .lst ((Txt.split x " ").map D.str) := by unfold wordsD; rw [if_neg h]
    rw [hw] at t e
    refine fnq_rt ?_
    show qg_words_in ct [some (.str x), some n, none] M = _
    unfold qg_words_in
    exact qseq_nx (qok_ e) (qseq_if0 (M1 := M) t (qok_ (ret_of rfl)))
def kinds (z : Str) : Option (List Str) := if z = "tool" then some ["side", "length"] else if z = "go" then some ["place", "place"] else if z = "down" then some ["height"] else if z = "cut" then some ["place", "place"] else if z = "up" then some [] else none
theorem look_sp (z : Str) : tb_STEP_FORMS.lookup z = (kinds z).map fun K => .tup (K.map D.str) := by
  have step : ∀ (k : Str) (v : D) (r : List (Str × D)), List.lookup z ((k, v) :: r) = if z = k then some v else List.lookup z r := fun k v r => by
    rw [List.lookup_cons]
    by_cases h : z = k
    · rw [if_pos h, h]; simp
    · rw [if_neg h]
      have : (z == k) = false := by simpa using h
      rw [this]
  unfold tb_STEP_FORMS kinds
  rw [step, step, step, step, step, List.lookup_nil]
  by_cases h1 : z = "tool"
  · rw [if_pos h1, if_pos h1]; rfl
  rw [if_neg h1, if_neg h1]
  by_cases h2 : z = "go"
  · rw [if_pos h2, if_pos h2]; rfl
  rw [if_neg h2, if_neg h2]
  by_cases h3 : z = "down"
  · rw [if_pos h3, if_pos h3]; rfl
  rw [if_neg h3, if_neg h3]
  by_cases h4 : z = "cut"
  · rw [if_pos h4, if_pos h4]; rfl
  rw [if_neg h4, if_neg h4]
  by_cases h5 : z = "up"
  · rw [if_pos h5, if_pos h5]; rfl
  rw [if_neg h5, if_neg h5]; rfl
theorem kinds_in {z : Str} {K : List Str} (h : kinds z = some K) : (∀ k ∈ K, SOk k) ∧ K.length ≤ 2 ∧ Low z := by
  have s1 : SOk "side" := low_lit (by decide +kernel) (by decide +kernel)
  have s2 : SOk "length" := low_lit (by decide +kernel) (by decide +kernel)
  have s3 : SOk "place" := low_lit (by decide +kernel) (by decide +kernel)
  have s4 : SOk "height" := low_lit (by decide +kernel) (by decide +kernel)
  unfold kinds at h
  split at h
  · rename_i e
    cases h
    refine ⟨fun k hk => ?_, by decide, by rw [e]; exact low_of (by decide +kernel) (by decide +kernel)⟩
    simp only [List.mem_cons, List.not_mem_nil, or_false] at hk
    rcases hk with e | e <;> rw [e] <;> assumption
  split at h
  · rename_i e
    cases h
    refine ⟨fun k hk => ?_, by decide, by rw [e]; exact low_of (by decide +kernel) (by decide +kernel)⟩
    simp only [List.mem_cons, List.not_mem_nil, or_false] at hk
    rcases hk with e | e <;> rw [e] <;> assumption
  split at h
  · rename_i e
    cases h
    refine ⟨fun k hk => ?_, by decide, by rw [e]; exact low_of (by decide +kernel) (by decide +kernel)⟩
    simp only [List.mem_cons, List.not_mem_nil, or_false] at hk
    rw [hk]; assumption
  split at h
  · rename_i e
    cases h
    refine ⟨fun k hk => ?_, by decide, by rw [e]; exact low_of (by decide +kernel) (by decide +kernel)⟩
    simp only [List.mem_cons, List.not_mem_nil, or_false] at hk
    rcases hk with e | e <;> rw [e] <;> assumption
  split at h
  · rename_i e
    cases h
    exact ⟨fun k hk => (by cases hk), by decide, by rw [e]; exact low_of (by decide +kernel) (by decide +kernel)⟩
  · cases h
/-- what a row tells: the number of the word that can't stand, or a step -/
def rowW : List Str → Nat ⊕ List D
  | [] => .inl 0
  | z :: ws => if ("" : Str) ∈ z :: ws then .inl 0 else (match kinds z with
    | none => .inl 1
    | some K => if (pref (K.map lim) ws).length = K.length ∧ K.length = ws.length then .inr (.str z :: (pref (K.map lim) ws).map D.int) else .inl ((pref (K.map lim) ws).length + 2))
theorem rowW_cons (z : Str) (ws : List Str) : rowW (z :: ws) = if ("" : Str) ∈ z :: ws then .inl 0 else (match kinds z with
    | none => .inl 1
    | some K => if (pref (K.map lim) ws).length = K.length ∧ K.length = ws.length then .inr (.str z :: (pref (K.map lim) ws).map D.int) else .inl ((pref (K.map lim) ws).length + 2)) := rfl
def rowR (x : Str) : Nat ⊕ List D := rowW (Txt.split x " ")
def stepO (n : D) (M : Mh) : Nat ⊕ List D → EOQ
  | .inl k => .ex "BadRow" (bad n (.int (k : Nat))) M
  | .inr ds => .v (.tup ds) M
theorem read_step_sp {ct : CT} (hI : Isa ct) {x : Str} {n : D} {M : Mh} (hx : Tx 900 x) : ∃ l, qq_read_step ct [.str x, n] M = some (stepO n (M ++ l) (rowR x)) := by
  have win := words_in_sp hI (x := x) (n := n) (M := M) (Nat.le_trans hx.1 (by decide)) hx.2
  unfold rowR
  have hne := ne_B x
  have txs := hx.spB
  generalize Txt.split x " " = W at win hne txs
  cases W with
  | nil => exact absurd rfl hne
  | cons z ws =>
    by_cases h : ("" : Str) ∈ z :: ws
    · rw [if_pos h] at win
      refine ⟨[.dead, .dead], ?_⟩
      rw [rowW_cons, if_pos h]
      refine fnq_ex (δ := [some (.str x), some n, none, none, none, none]) ?_
      show qg_read_step ct [some (.str x), some n, none, none, none, none] M = _
      unfold qg_read_step
      exact qseq_ex (qas_ex (qcall_ (cons_of rfl (cons_of rfl x_aNil)) win))
    rw [if_neg h] at win
    have a1 : ∀ (g : XFQ) (r : Option XOQ), g [some (.str x), some n, some (.lst ((z :: ws).map D.str)), some (.str z), none, none] M = r → qSeq (qAs (qCall (qq_words_in ct) (aCons (eVar 0) (aCons (eVar 1) aNil)) []) 2) (qSeq (qOk (sAs (eOp gIx (eVar 2) (eC (.int 0))) (gN 3))) g) [some (.str x), some n, none, none, none, none] M = r := fun g r hr =>
      qseq_nx (qas_v (qcall_ (cons_of rfl (cons_of rfl x_aNil)) win)) (qseq_nx (qok_ (as_of (op_of rfl x_eC ix_S) rfl)) hr)
    have lk := look_sp z
    have t : tV (eOp (gInK ct.d_STEP_FORMS tb_STEP_FORMS fun b => !b) (eVar 3) (eC (.ob ct.d_STEP_FORMS))) [some (.str x), some n, some (.lst ((z :: ws).map D.str)), some (.str z), none, none] M = some (!(kinds z).isSome, M) := by
      refine v_bl (op_of rfl x_eC ?_)
      unfold gInK
      dsimp only
      rw [if_pos rfl, lk]
      cases kinds z <;> rfl
    cases hK : kinds z with
    | none =>
      rw [hK] at t
      refine ⟨[.dead, .dead], ?_⟩
      rw [rowW_cons, if_neg h, hK]
      refine fnq_ex (δ := [some (.str x), some n, some (.lst ((z :: ws).map D.str)), some (.str z), none, none]) ?_
      show qg_read_step ct [some (.str x), some n, none, none, none, none] M = _
      unfold qg_read_step
      exact a1 _ _ (qseq_ex (qif_tt (M1 := M) t (raise_sp hI (cons_of rfl (cons_of x_eC x_aNil)))))
    | some K =>
      rw [hK] at t lk
      obtain ⟨k1, k2, k3⟩ := kinds_in hK
      have wk : ∀ w ∈ ws, Wk? w := fun w hw => by
        have := txs.mem (List.mem_cons_of_mem z hw)
        exact ⟨Nat.le_trans this.1 (by decide), this.2⟩
      obtain ⟨m, pe⟩ := parts_sp ct (K := K) (W := ws) (M := M) k1 wk (by omega)
      have ix : eOp (gIxK ct.d_STEP_FORMS tb_STEP_FORMS) (eC (.ob ct.d_STEP_FORMS)) (eVar 3) [some (.str x), some n, some (.lst ((z :: ws).map D.str)), some (.str z), none, none] M = some (.tup (K.map D.str), M) := by
        refine op_of x_eC rfl ?_
        unfold gIxK
        dsimp only
        rw [if_pos rfl, lk]
        rfl
      have call := call_of (F := ff_parts_by ct) (dds := []) (cons_of ix (cons_of (sl1_C (z := z) (r := ws) (f := eVar 2) (δ := [some (.str x), some n, some (.lst ((z :: ws).map D.str)), some (.str z), none, none]) (M := M) rfl) (cons_of (f := eC (.ob ct.fn_read_part)) x_eC x_aNil))) pe
      have pl := pref_len (K.map lim) ws
      rw [List.length_map] at pl
      refine ⟨if (pref (K.map lim) ws).length = K.length ∧ K.length = ws.length then [m] else [m, .dead, .dead], ?_⟩
      rw [rowW_cons, if_neg h, hK]
      dsimp only
      generalize pref (K.map lim) ws = Q at call pl ⊢
      by_cases hq : Q.length = K.length ∧ K.length = ws.length
      · rw [if_pos hq] at call
        rw [if_pos hq, if_pos hq]
        refine fnq_rt ?_
        show qg_read_step ct [some (.str x), some n, none, none, none, none] M = _
        unfold qg_read_step
        refine a1 _ _ (qseq_if0 (M1 := M) t (qseq_nx (qok_ (as_of (δ' := [some (.str x), some n, some (.lst ((z :: ws).map D.str)), some (.str z), some (.tup (Q.map D.int)), some .non]) call rfl)) ?_))
        refine qseq_if0 (M1 := M ++ [m]) (v_bl (op_of rfl x_eC rfl)) (qok_ (ret_of (op_of (a := .tup [.str z]) (x_eTup (cons_of rfl x_aNil) (by simp)) rfl ?_)))
        exact app_t (A := [.str z]) (B := Q.map D.int) (by simp; omega)
      · rw [if_neg hq] at call
        rw [if_neg hq, if_neg hq]
        refine fnq_ex (δ := [some (.str x), some n, some (.lst ((z :: ws).map D.str)), some (.str z), some (.tup (Q.map D.int)), some (.int ((Q.length + 1 : Nat) : Int))]) ?_
        show qg_read_step ct [some (.str x), some n, none, none, none, none] M = _
        unfold qg_read_step
        refine a1 _ _ (qseq_if0 (M1 := M) t (qseq_nx (qok_ (as_of (δ' := [some (.str x), some n, some (.lst ((z :: ws).map D.str)), some (.str z), some (.tup (Q.map D.int)), some (.int ((Q.length + 1 : Nat) : Int))]) call rfl)) ?_))
        refine (qseq_ex (qif_tt (M1 := M ++ [m]) (v_bl (op_of rfl x_eC rfl)) (raise_sp hI (r := n) (w := .int ((Q.length + 2 : Nat) : Int)) (M1 := M ++ [m]) (cons_of rfl (cons_of (op_of x_eC rfl ?_) x_aNil))))).trans ?_
        · show some (D.int (1 + ((Q.length + 1 : Nat) : Int)), M ++ [m]) = _
          rw [show (1 + ((Q.length + 1 : Nat) : Int)) = ((Q.length + 2 : Nat) : Int) by omega]
        · rw [List.append_assoc]; rfl
end Law

namespace Law
open PySem L2 Pl Pl.Ev
/-! the rows of a text -/
def dueR : Nat → List Str → (Nat × Nat) ⊕ List (List D)
  | _, [] => .inr []
  | j, x :: xs => (match rowR x with
    | .inl k => .inl (j + 1, k)
    | .inr ds => (match dueR (j + 1) xs with
      | .inl e => .inl e
      | .inr dss => .inr (ds :: dss)))
def enumD : Nat → List Str → List D
  | _, [] => []
  | j, x :: xs => .tup [.int (j : Nat), .str x] :: enumD (j + 1) xs
theorem enum_sp : ∀ (W : List Str) (j : Nat), ((((List.range' j W.length).map fun (i : Nat) => D.int i).zip (W.map D.str)).map fun p => D.tup [p.1, p.2]) = enumD j W
  | [], _ => rfl
  | x :: W, j => by
    rw [List.length_cons, List.range'_succ, List.map_cons, List.map_cons, List.zip_cons_cons, List.map_cons, enum_sp W (j + 1)]
    rfl
theorem enum_of {W : List Str} {f : EF} {δ : Pl.Env} {M M1 : Mh} (h : f δ M = some (.lst (W.map D.str), M1)) : aEnum (aCons f aNil) δ M = some (enumD 0 W, M1) := by
  unfold aEnum
  rw [cons_of h x_aNil]
  dsimp only
  rw [List.length_map, List.range_eq_range', enum_sp]
theorem enum_len : ∀ (W : List Str) (j : Nat), (enumD j W).length = W.length
  | [], _ => rfl
  | _ :: W, j => by
    show (enumD (j + 1) W).length + 1 = _
    rw [enum_len W (j + 1), List.length_cons]
noncomputable def stepQ (ct : CT) : EXQ := (qCall (qq_read_step ct) (aCons (eVar 3) (aCons (eOp gAdd (eVar 2) (eC (.int 1))) aNil)) [])
def rowsO (M : Mh) : (Nat × Nat) ⊕ List (List D) → LOQ
  | .inl e => .ex "BadRow" (bad (.int (e.1 : Nat)) (.int (e.2 : Nat))) M
  | .inr dss => .v (dss.map D.tup) M
theorem rows_go {ct : CT} (hI : Isa ct) (a b c d : Option D) : ∀ (W : List Str) (j : Nat) (M : Mh), Txs 900 W → ∃ l, lcGoQ (gTp (gsCons (gN 2) (gsCons (gN 3) gsNil))) tTrue (stepQ ct) (enumD j W) [a, b, c, d] M = some (rowsO (M ++ l) (dueR j W))
  | [], j, M, _ => ⟨[], by rw [List.append_nil]; rfl⟩
  | x :: W, j, M, h => by
    obtain ⟨l, e⟩ := read_step_sp hI (x := x) (n := .int ((j + 1 : Nat) : Int)) (M := M) (h.mem List.mem_cons_self)
    have st : stepQ ct [a, b, some (.int (j : Nat)), some (.str x)] M = some (stepO (.int ((j + 1 : Nat) : Int)) (M ++ l) (rowR x)) := qcall_ (ds := [.str x, .int ((j + 1 : Nat) : Int)]) (cons_of rfl (cons_of (op_of rfl x_eC rfl) x_aNil)) e
    have g : (gTp (gsCons (gN 2) (gsCons (gN 3) gsNil))) (.tup [.int (j : Nat), .str x]) [a, b, c, d] = some [a, b, some (.int (j : Nat)), some (.str x)] := rfl
    have ex : ∀ r : Option LOQ, (match stepQ ct [a, b, some (.int (j : Nat)), some (.str x)] M with
        | some (.v y M2) => (match lcGoQ (gTp (gsCons (gN 2) (gsCons (gN 3) gsNil))) tTrue (stepQ ct) (enumD (j + 1) W) [a, b, c, d] M2 with
          | some (.v ys M3) => some (.v (y :: ys) M3)
          | some (.ex z fs M3) => some (.ex z fs M3)
          | none => none)
        | some (.ex z fs M2) => some (.ex z fs M2)
        | none => none) = r → lcGoQ (gTp (gsCons (gN 2) (gsCons (gN 3) gsNil))) tTrue (stepQ ct) (enumD j (x :: W)) [a, b, c, d] M = r := fun r hr => by
      rw [← hr]
      show lcGoQ _ _ _ (.tup [.int (j : Nat), .str x] :: enumD (j + 1) W) _ _ = _
      conv => lhs; unfold lcGoQ
      rw [g]
      dsimp only
      rw [tt_]
      try rfl
    cases hr : rowR x with
    | inl k =>
      rw [hr] at st
      refine ⟨l, ex _ ?_⟩
      rw [st]
      show some _ = some (rowsO (M ++ l) (match rowR x with
        | .inl k => .inl (j + 1, k)
        | .inr ds => (match dueR (j + 1) W with
          | .inl e => .inl e
          | .inr dss => .inr (ds :: dss))))
      rw [hr]
      rfl
    | inr ds =>
      rw [hr] at st
      obtain ⟨l2, e2⟩ := rows_go hI a b c d W (j + 1) (M ++ l) h.tail
      refine ⟨l ++ l2, ex _ ?_⟩
      rw [st]
      dsimp only [stepO]
      rw [e2]
      have hd : dueR j (x :: W) = (match dueR (j + 1) W with
          | .inl e => .inl e
          | .inr dss => .inr (ds :: dss)) := by
        conv => lhs; unfold dueR
        rw [hr]
      rw [hd, ← List.append_assoc]
      cases dueR (j + 1) W with
      | inl e => rfl
      | inr dss => rfl
theorem rows_of_sp {ct : CT} (x : Str) {M : Mh} (hx : x.length ≤ 1000000) : qq_rows_of ct [.str x] M = some (.v (.lst ((Txt.split x "\n").map D.str)) M) := by
  refine fnq_rt ?_
  show qg_rows_of ct [some (.str x)] M = _
  unfold qg_rows_of
  exact qseq_if0 (M1 := M) (nt_of (b := true) (isstr_ok rfl)) (qok_ (ret_of (splitN_of hx rfl)))
theorem rows_of_no {ct : CT} (hI : Isa ct) {d : D} {t : String} {M : Mh} (ht : tyN M d = some t) (hk : kitB t "str" = some false) : qq_rows_of ct [d] M = some (.ex "BadRow" (bad (.int 0) (.int 0)) (M ++ [.dead, .dead])) := by
  refine fnq_ex (δ := [some d]) ?_
  show qg_rows_of ct [some d] M = _
  unfold qg_rows_of
  exact qseq_ex (qif_tt (M1 := M) (nt_of (b := false) (v_bl (isi_of rfl ht hk))) (raise_sp hI (cons_of x_eC (cons_of x_eC x_aNil))))
def wayR (x : Str) : (Nat × Nat) ⊕ List (List D) := if x = "" then .inr [] else dueR 0 (Txt.split x "\n")
def wayO (M : Mh) : (Nat × Nat) ⊕ List (List D) → EOQ
  | .inl e => .ex "BadRow" (bad (.int (e.1 : Nat)) (.int (e.2 : Nat))) M
  | .inr dss => .v (.tup (dss.map D.tup)) M
theorem read_way_sp {ct : CT} (hI : Isa ct) {x : Str} {M : Mh} (hx : Tx 800 x) : ∃ l, qq_read_way ct [.str x] M = some (wayO (M ++ l) (wayR x)) := by
  have hl : x.length ≤ 1000000 := Nat.le_trans hx.1 (by decide)
  have a1 : ∀ (g : XFQ) (r : Option XOQ), g [some (.str x), some (.lst ((Txt.split x "\n").map D.str)), none, none] M = r → qSeq (qAs (qCall (qq_rows_of ct) (aCons (eVar 0) aNil) []) 1) g [some (.str x), none, none, none] M = r := fun g r h => qseq_nx (qas_v (qcall_ (ds := [.str x]) (cons_of rfl x_aNil) (rows_of_sp x hl))) h
  have t : tV (eOp (gEq PyData.eqv) (eVar 0) (eC (.str ""))) [some (.str x), some (.lst ((Txt.split x "\n").map D.str)), none, none] M = some (decide (x = ""), M) := v_bl (op_of rfl rfl (eq_str (strOk_of hx.2) (by decide +kernel) _))
  unfold wayR
  by_cases h : x = ""
  · rw [decide_eq_true h] at t
    rw [if_pos h]
    refine ⟨[], ?_⟩
    rw [List.append_nil]
    refine fnq_rt ?_
    show qg_read_way ct [some (.str x), none, none, none] M = _
    unfold qg_read_way
    exact a1 _ _ (qseq_rt (qok_ (if_tt t (ret_of (x_eTup x_aNil (by simp))))))
  rw [decide_eq_false h] at t
  rw [if_neg h]
  have txs := hx.spN.mono (show 801 ≤ 900 by decide)
  generalize Txt.split x "\n" = W at a1 t txs ⊢
  obtain ⟨l, e⟩ := rows_go hI (some (.str x)) (some (.lst (W.map D.str))) none none W 0 M txs
  refine ⟨l, ?_⟩
  have lc : qLc [2, 3] (aEnum (aCons (eVar 1) aNil)) (gTp (gsCons (gN 2) (gsCons (gN 3) gsNil))) tTrue (stepQ ct) [some (.str x), some (.lst (W.map D.str)), none, none] M = (match rowsO (M ++ l) (dueR 0 W) with
    | .v ys M2 => some (.v (.lst ys) M2)
    | .ex z fs M2 => some (.ex z fs M2)) := by
    unfold qLc
    rw [enum_of (W := W) (f := eVar 1) (M1 := M) rfl]
    dsimp only
    rw [if_pos (by rw [enum_len]; exact Nat.le_trans txs.len (by decide))]
    rw [show (wipeD [some (D.str x), some (D.lst (W.map D.str)), none, none] [2, 3]) = [some (.str x), some (.lst (W.map D.str)), none, none] from rfl, e]
    cases dueR 0 W <;> rfl
  have hlen : ∀ dss : List (List D), D.tup (dss.map D.tup) = D.tup (dss.map D.tup) := fun _ => rfl
  have run : qRet (qB gTupOf (qaCons (qLc [2, 3] (aEnum (aCons (eVar 1) aNil)) (gTp (gsCons (gN 2) (gsCons (gN 3) gsNil))) tTrue (stepQ ct)) qaNil)) [some (.str x), some (.lst (W.map D.str)), none, none] M = (match rowsO (M ++ l) (dueR 0 W) with
    | .v ys M2 => some (.ok (.rt (.tup ys) M2))
    | .ex z fs M2 => some (.ex z fs [some (.str x), some (.lst (W.map D.str)), none, none] M2)) := by
    unfold qRet qB qaCons
    rw [lc]
    cases dueR 0 W <;> rfl
  have run2 : qg_read_way ct [some (.str x), none, none, none] M = (match rowsO (M ++ l) (dueR 0 W) with
    | .v ys M2 => some (.ok (.rt (.tup ys) M2))
    | .ex z fs M2 => some (.ex z fs [some (.str x), some (.lst (W.map D.str)), none, none] M2)) := by
    unfold qg_read_way
    exact a1 _ _ (qseq_nx (qok_ (if_ff t nil_of)) run)
  cases hd : dueR 0 W with
  | inl e =>
    rw [hd] at run2
    exact fnq_ex run2
  | inr dss =>
    rw [hd] at run2
    exact fnq_rt run2
theorem read_way_no {ct : CT} (hI : Isa ct) {d : D} {t : String} {M : Mh} (ht : tyN M d = some t) (hk : kitB t "str" = some false) : qq_read_way ct [d] M = some (.ex "BadRow" (bad (.int 0) (.int 0)) (M ++ [.dead, .dead])) := by
  refine fnq_ex (δ := [some d, none, none, none]) ?_
  show qg_read_way ct [some d, none, none, none] M = _
  unfold qg_read_way
  exact qseq_ex (qas_ex (qcall_ (ds := [d]) (cons_of rfl x_aNil) (rows_of_no hI ht hk)))
/-! what is said of a text -/
def saidD : (Nat × Nat) ⊕ List (List D) → D
  | .inl e => .tup [.int (e.1 : Nat), .int (e.2 : Nat)]
  | .inr dss => .lst [.tup (dss.map D.tup)]
theorem said_go {ct : CT} (hI : Isa ct) {d : D} {M M1 : Mh} {r : (Nat × Nat) ⊕ List (List D)} (h : qq_read_way ct [d] M = some (wayO M1 r)) : ∃ l, ff_law_said ct [d] M = some (saidD r, M1 ++ l) := by
  have isa : ct.isa ct.BadRow (.ref ct.BadRow) = some true := by
    have := hI.l_BadRow
    unfold isal at this
    simpa using this
  have s1 : ∀ (g : SF) (r : Option Out), g [some d, some .non, some .non, none] M = r → sSeq (sAs (eTup (aCons (eC .non) (aCons (eC .non) aNil))) (gTp (gsCons (gN 1) (gsCons (gN 2) gsNil)))) g [some d, none, none, none] M = r := fun g r hr => seq_as (M1 := M) (x_eTup (cons_of x_eC (cons_of x_eC x_aNil)) (by simp)) rfl hr
  cases r with
  | inr dss =>
    refine ⟨[], ?_⟩
    rw [List.append_nil]
    refine fn_rt ?_
    show gg_law_said ct [some d, none, none, none] M = _
    unfold gg_law_said
    refine s1 _ _ (seq_nx (δ' := [some d, some .non, some (.tup (dss.map D.tup)), none]) (M1 := M1) ?_ ?_)
    · unfold sTryKQ
      rw [qas_v (qcall_ (ds := [d]) (cons_of rfl x_aNil) h)]
      rfl
    · exact seq_if1 (M1 := M1) (v_bl (op_of rfl x_eC rfl)) (ret_of (x_eLst (cons_of rfl x_aNil) (by simp)))
  | inl e =>
    refine ⟨[.exg (bad (.int (e.1 : Nat)) (.int (e.2 : Nat))), .exf ct.BadRow M1.length], ?_⟩
    generalize hM : M1 ++ [.exg (bad (.int (e.1 : Nat)) (.int (e.2 : Nat))), .exf ct.BadRow M1.length] = M2
    have g0 : M2[M1.length]? = some (.exg (bad (.int (e.1 : Nat)) (.int (e.2 : Nat)))) := by rw [← hM]; simp
    have g1 : M2[M1.length + 1]? = some (.exf ct.BadRow M1.length) := by rw [← hM]; simp
    refine fn_rt ?_
    show gg_law_said ct [some d, none, none, none] M = _
    unfold gg_law_said
    refine s1 _ _ (seq_nx (δ' := [some d, some (.ref (M1.length + 1)), some .non, none]) (M1 := M2) ?_ ?_)
    · unfold sTryKQ
      rw [qas_ex (qcall_ (ds := [d]) (cons_of rfl x_aNil) h)]
      dsimp only
      rw [if_pos rfl]
      dsimp only
      have e1 : sAs (eVar 3) (gN 1) (([some d, some .non, some .non, none] : Pl.Env).set 3 (some (.ref (M1 ++ [MO.exg (bad (.int (e.1 : Nat)) (.int (e.2 : Nat)))]).length))) ((M1 ++ [.exg (bad (.int (e.1 : Nat)) (.int (e.2 : Nat)))]) ++ [.dead]) = some (.nx [some d, some (.ref (M1.length + 1)), some .non, some (.ref (M1.length + 1))] ((M1 ++ [.exg (bad (.int (e.1 : Nat)) (.int (e.2 : Nat)))]) ++ [.dead])) := by
        rw [show (M1 ++ [MO.exg (bad (.int (e.1 : Nat)) (.int (e.2 : Nat)))]).length = M1.length + 1 by simp]
        exact as_of rfl rfl
      rw [e1]
      unfold kpOD kpD
      dsimp only
      rw [at_end]
      dsimp only
      rw [set_end, ← hM]
      simp
    · have iN : tV (eOp (gIsN fun b => b) (eVar 1) (eC .non)) [some d, some (.ref (M1.length + 1)), some .non, none] M2 = some (false, M2) := v_bl (op_of rfl x_eC rfl)
      refine seq_if0 (M1 := M2) iN (ret_of (ei_tt (M1 := M2) (v_bl ?_) (x_eTup (cons_of (d := .int (e.1 : Nat)) (M1 := M2) ?_ (cons_of (d := .int (e.2 : Nat)) (M1 := M2) ?_ x_aNil)) (by simp))))
      · rw [x_eB, cons_of (d := .ref (M1.length + 1)) (M1 := M2) rfl (cons_of (d := .ob ct.BadRow) (M1 := M2) x_eC x_aNil)]
        dsimp only
        unfold gIsiF
        dsimp only
        rw [g1]
        dsimp only [clV]
        rw [g0]
        dsimp only
        rw [isa]
      · unfold eGv
        rw [show eVar 1 [some d, some (.ref (M1.length + 1)), some .non, none] M2 = some (.ref (M1.length + 1), M2) from rfl]
        dsimp only
        rw [g1]
        dsimp only
        rw [if_pos hI.g_BadRow_row, g0]
        dsimp only
        have : List.lookup ("row" : Str) (bad (.int (e.1 : Nat)) (.int (e.2 : Nat))) = some (.int (e.1 : Nat)) := by
          unfold bad
          rw [List.lookup_cons, show (("row" : Str) == "word") = false by decide +kernel]
          dsimp only
          rw [List.lookup_cons, show (("row" : Str) == "row") = true by decide +kernel]
        rw [this]; rfl
      · unfold eGv
        rw [show eVar 1 [some d, some (.ref (M1.length + 1)), some .non, none] M2 = some (.ref (M1.length + 1), M2) from rfl]
        dsimp only
        rw [g1]
        dsimp only
        rw [if_pos hI.g_BadRow_word, g0]
        dsimp only
        have : List.lookup ("word" : Str) (bad (.int (e.1 : Nat)) (.int (e.2 : Nat))) = some (.int (e.2 : Nat)) := by
          unfold bad
          rw [List.lookup_cons, show (("word" : Str) == "word") = true by decide +kernel]
        rw [this]; rfl
theorem said_sp {ct : CT} (hI : Isa ct) {x : Str} {M : Mh} (hx : Tx 800 x) : ∃ l, ff_law_said ct [.str x] M = some (saidD (wayR x), M ++ l) := by
  obtain ⟨l, e⟩ := read_way_sp hI (M := M) hx
  obtain ⟨l2, e2⟩ := said_go hI e
  exact ⟨l ++ l2, by rw [← List.append_assoc]; exact e2⟩
theorem said_no {ct : CT} (hI : Isa ct) {d : D} {t : String} {M : Mh} (ht : tyN M d = some t) (hk : kitB t "str" = some false) : ∃ l, ff_law_said ct [d] M = some (.tup [.int 0, .int 0], M ++ l) := by
  obtain ⟨l2, e2⟩ := said_go hI (r := .inl (0, 0)) (M1 := M ++ [.dead, .dead]) (read_way_no hI ht hk)
  exact ⟨[.dead, .dead] ++ l2, by rw [← List.append_assoc]; exact e2⟩
end Law

namespace Law
open PySem L2 Pl Pl.Ev
/-! the law's own reading of a row -/
def limD (r : Int × Int) : D := .tup [.int r.1, .int r.2]
def kvR : List (Key × D) := [(.inr "tool", .lst [.tup [.int 1, .int 4], .tup [.int 1, .int 6]]), (.inr "go", .lst [.tup [.int (-3), .int 7], .tup [.int (-3), .int 7]]), (.inr "down", .lst [.tup [.int 0, .int 5]]), (.inr "cut", .lst [.tup [.int (-3), .int 7], .tup [.int (-3), .int 7]]), (.inr "up", .lst [])]
theorem kvR_m : dmerge kvR = kvR := by rfl
theorem kvR_get (z : Str) : dget kvR (.inr z) = (kinds z).map fun K => .lst ((K.map lim).map limD) := by
  have step : ∀ (k : Str) (v : D) (r : List (Key × D)), dget ((.inr k, v) :: r) (.inr z) = if z = k then some v else dget r (.inr z) := fun k v r => by
    unfold dget
    rw [List.find?_cons]
    by_cases h : z = k
    · rw [if_pos h, h]; simp
    · rw [if_neg h]
      have : decide ((Sum.inr k : Key) = Sum.inr z) = false := decide_eq_false fun e => h (Sum.inr.inj e).symm
      rw [this]
  unfold kvR kinds
  rw [step, step, step, step, step]
  by_cases h1 : z = "tool"
  · rw [if_pos h1, if_pos h1]; rfl
  rw [if_neg h1, if_neg h1]
  by_cases h2 : z = "go"
  · rw [if_pos h2, if_pos h2]; rfl
  rw [if_neg h2, if_neg h2]
  by_cases h3 : z = "down"
  · rw [if_pos h3, if_pos h3]; rfl
  rw [if_neg h3, if_neg h3]
  by_cases h4 : z = "cut"
  · rw [if_pos h4, if_pos h4]; rfl
  rw [if_neg h4, if_neg h4]
  by_cases h5 : z = "up"
  · rw [if_pos h5, if_pos h5]; rfl
  rw [if_neg h5, if_neg h5]; rfl
def limE : Nat → List (Int × Int) → List D
  | _, [] => []
  | j, r :: R => .tup [.int (j : Nat), limD r] :: limE (j + 1) R
theorem limE_sp : ∀ (R : List (Int × Int)) (j : Nat), ((((List.range' j R.length).map fun (i : Nat) => D.int i).zip (R.map limD)).map fun p => D.tup [p.1, p.2]) = limE j R
  | [], _ => rfl
  | x :: W, j => by
    rw [List.length_cons, List.range'_succ, List.map_cons, List.map_cons, List.zip_cons_cons, List.map_cons, limE_sp W (j + 1)]
    rfl
noncomputable def rowS : SF := (sSeq (sAs (eIf (tV (eOp (gInt fun i j => .bl (decide (i < j))) (eOp gAdd (eVar 5) (eC (.int 1))) (eB gLen (aCons (eVar 1) aNil)))) (eCall ff_law_number (aCons (eOp gIx (eVar 1) (eOp gAdd (eVar 5) (eC (.int 1)))) aNil) []) (eC .non)) (gN 8)) (sSeq (sIf (tOrr (tV (eOp (gIsN fun b => b) (eVar 8) (eC .non))) (tNt (tV (eChain (gInt fun i j => .bl (decide (i ≤ j))) (gInt fun i j => .bl (decide (i ≤ j))) (eVar 6) (eVar 8) (eVar 7))))) (sRet (eOp gAdd (eVar 5) (eC (.int 2)))) sNil) (sE (eMeth2 gApp (eVar 4) (aCons (eVar 8) aNil)))))
def prefO (N : Mh) (a b c d e : Option D) (acc : List D) (j : Nat) (R : List (Int × Int)) (Q : List Int) (y : Option D × Option D × Option D × Option D) : Out :=
  if Q.length = R.length then .nx [a, b, c, d, e, y.1, y.2.1, y.2.2.1, y.2.2.2] (N ++ [.lst (acc ++ Q.map D.int)]) else .rt (.int ((j + Q.length + 2 : Nat) : Int)) (N ++ [.lst (acc ++ Q.map D.int)])
theorem ix_at {W : List Str} {k : Nat} {y : Str} {M : Mh} (h : W[k]? = some y) : gIx (.lst (W.map D.str)) (.int (k : Nat)) M = some (.str y, M) := by
  have hl := (List.getElem?_eq_some_iff.mp h).1
  rw [ix_lst (by rw [List.length_map]; exact hl), List.getElem_map]
  have := (List.getElem?_eq_some_iff.mp h).2
  rw [this]
theorem row_go (N : Mh) (z : Str) (ws : List Str) (hw : ∀ w ∈ ws, Wk? w) (a c d : Option D) : ∀ (R : List (Int × Int)) (j : Nat) (acc : List D) (x5 x6 x7 x8 : Option D), acc.length + R.length ≤ 900 →
    ∃ y, forGo (gTp (gsCons (gN 5) (gsCons (gTp (gsCons (gN 6) (gsCons (gN 7) gsNil))) gsNil))) rowS (limE j R) [a, some (.lst ((z :: ws).map D.str)), c, d, some (.ref N.length), x5, x6, x7, x8] (N ++ [.lst acc]) = some (prefO N a (some (.lst ((z :: ws).map D.str))) c d (some (.ref N.length)) acc j R (pref R (ws.drop j)) y)
  | [], j, acc, x5, x6, x7, x8, _ => by
    have e : pref [] (ws.drop j) = [] := by rw [pref.eq_def]
    refine ⟨(x5, x6, x7, x8), ?_⟩
    rw [e]
    unfold prefO
    rw [if_pos (show ([] : List Int).length = ([] : List (Int × Int)).length from rfl), List.map_nil, List.append_nil]
    exact forN_
  | r :: R, j, acc, x5, x6, x7, x8, hl => by
    rw [List.length_cons] at hl
    have g : (gTp (gsCons (gN 5) (gsCons (gTp (gsCons (gN 6) (gsCons (gN 7) gsNil))) gsNil))) (.tup [.int (j : Nat), limD r]) [a, some (.lst ((z :: ws).map D.str)), c, d, some (.ref N.length), x5, x6, x7, x8] = some [a, some (.lst ((z :: ws).map D.str)), c, d, some (.ref N.length), some (.int (j : Nat)), some (.int r.1), some (.int r.2), x8] := rfl
    have t1 : tV (eOp (gInt fun i j => .bl (decide (i < j))) (eOp gAdd (eVar 5) (eC (.int 1))) (eB gLen (aCons (eVar 1) aNil))) [a, some (.lst ((z :: ws).map D.str)), c, d, some (.ref N.length), some (.int (j : Nat)), some (.int r.1), some (.int r.2), x8] (N ++ [.lst acc]) = some (decide (j < ws.length), N ++ [.lst acc]) := by
      refine v_bl (op_of (a := .int ((j + 1 : Nat) : Int)) (op_of rfl x_eC rfl) (len_S rfl) ?_)
      show some (D.bl (decide (((j + 1 : Nat) : Int) < (((z :: ws).length : Nat) : Int))), N ++ [MO.lst acc]) = _
      rw [List.length_cons, show decide (((j + 1 : Nat) : Int) < ((ws.length + 1 : Nat) : Int)) = decide (j < ws.length) from decide_eq_decide.mpr (by omega)]
    -- what the number is
    have num : eIf (tV (eOp (gInt fun i j => .bl (decide (i < j))) (eOp gAdd (eVar 5) (eC (.int 1))) (eB gLen (aCons (eVar 1) aNil)))) (eCall ff_law_number (aCons (eOp gIx (eVar 1) (eOp gAdd (eVar 5) (eC (.int 1)))) aNil) []) (eC .non) [a, some (.lst ((z :: ws).map D.str)), c, d, some (.ref N.length), some (.int (j : Nat)), some (.int r.1), some (.int r.2), x8] (N ++ [.lst acc]) = some (optI ((ws[j]?).bind fun w => sgnOf (TL.tl w)), N ++ [.lst acc]) := by
      by_cases hj : j < ws.length
      · rw [decide_eq_true hj] at t1
        have hg : ws[j]? = some ws[j] := List.getElem?_eq_getElem hj
        have wk := hw _ (List.getElem_mem hj)
        rw [hg]
        refine ei_tt t1 (call_of (cons_of (d := .str ws[j]) (M1 := N ++ [.lst acc]) (op_of (b := .int ((j + 1 : Nat) : Int)) rfl (op_of rfl x_eC rfl) (ix_at (by rw [List.getElem?_cons_succ]; exact hg))) x_aNil) ?_)
        exact lnum65_sp wk.l wk.2
      · rw [decide_eq_false hj] at t1
        rw [List.getElem?_eq_none (by omega)]
        exact ei_ff t1 x_eC
    have fitE : (match ws.drop j with
        | w :: _ => fit r w
        | [] => none) = if fitI r ((ws[j]?).bind fun w => sgnOf (TL.tl w)) = true then ((ws[j]?).bind fun w => sgnOf (TL.tl w)) else none := by
      by_cases hj : j < ws.length
      · rw [List.drop_eq_getElem_cons hj, List.getElem?_eq_getElem hj]; rfl
      · rw [List.drop_eq_nil_of_le (by omega), List.getElem?_eq_none (by omega)]; rfl
    generalize hu : ((ws[j]?).bind fun w => sgnOf (TL.tl w)) = u at num fitE
    have tst : tOrr (tV (eOp (gIsN fun b => b) (eVar 8) (eC .non))) (tNt (tV (eChain (gInt fun i j => .bl (decide (i ≤ j))) (gInt fun i j => .bl (decide (i ≤ j))) (eVar 6) (eVar 8) (eVar 7)))) [a, some (.lst ((z :: ws).map D.str)), c, d, some (.ref N.length), some (.int (j : Nat)), some (.int r.1), some (.int r.2), some (optI u)] (N ++ [.lst acc]) = some (!fitI r u, N ++ [.lst acc]) := by
      cases u with
      | none => exact or1 (v_bl (op_of rfl x_eC rfl))
      | some i =>
        refine or0 (M1 := N ++ [.lst acc]) (v_bl (op_of rfl x_eC rfl)) (nt_of (v_bl (chain_ (x := decide (r.1 ≤ i)) rfl rfl rfl ?_)))
        show _ = some (D.bl (decide (r.1 ≤ i) && decide (i ≤ r.2)), N ++ [MO.lst acc])
        cases decide (r.1 ≤ i) <;> rfl
    cases hf : fitI r u with
    | false =>
      rw [hf] at tst fitE
      rw [if_neg (by decide)] at fitE
      have e : pref (r :: R) (ws.drop j) = [] := by
        cases hd : ws.drop j with
        | nil => rw [pref.eq_def]
        | cons w q =>
          rw [hd] at fitE
          rw [pref, show fit r w = none from fitE]
      refine ⟨(x5, x6, x7, x8), ?_⟩
      rw [e]
      unfold prefO
      rw [if_neg (by simp), List.map_nil, List.append_nil]
      have bd : rowS [a, some (.lst ((z :: ws).map D.str)), c, d, some (.ref N.length), some (.int (j : Nat)), some (.int r.1), some (.int r.2), x8] (N ++ [.lst acc]) = some (.rt (.int ((j + 2 : Nat) : Int)) (N ++ [.lst acc])) := by
        unfold rowS
        exact seq_as num rfl (seq_if1 tst (ret_of (op_of rfl x_eC rfl)))
      show forGo _ _ (.tup [.int (j : Nat), limD r] :: limE (j + 1) R) _ _ = _
      unfold forGo
      rw [g]
      dsimp only
      rw [bd]
      rfl
    | true =>
      rw [hf] at tst fitE
      rw [if_pos rfl] at fitE
      cases u with
      | none => cases hf
      | some i =>
        have hj : j < ws.length := by
          refine Nat.lt_of_not_le fun h => ?_
          rw [List.getElem?_eq_none h] at hu
          cases hu
        have e : pref (r :: R) (ws.drop j) = i :: pref R (ws.drop (j + 1)) := by
          rw [List.drop_eq_getElem_cons hj] at fitE ⊢
          rw [pref, show fit r ws[j] = some i from fitE]
        obtain ⟨y, ih⟩ := row_go N z ws hw a c d R (j + 1) (acc ++ [.int i]) (some (.int (j : Nat))) (some (.int r.1)) (some (.int r.2)) (some (.int i)) (by rw [List.length_append]; simp; omega)
        refine ⟨y, ?_⟩
        rw [e]
        have pe : prefO N a (some (.lst ((z :: ws).map D.str))) c d (some (.ref N.length)) (acc ++ [.int i]) (j + 1) R (pref R (ws.drop (j + 1))) y = prefO N a (some (.lst ((z :: ws).map D.str))) c d (some (.ref N.length)) acc j (r :: R) (i :: pref R (ws.drop (j + 1))) y := by
          unfold prefO
          rw [List.append_assoc, List.length_cons, List.length_cons, List.map_cons]
          by_cases hq : (pref R (ws.drop (j + 1))).length = R.length
          · rw [if_pos hq, if_pos (by omega)]; rfl
          · rw [if_neg hq, if_neg (by omega), show j + 1 + (pref R (ws.drop (j + 1))).length + 2 = j + ((pref R (ws.drop (j + 1))).length + 1) + 2 by omega]; rfl
        rw [pe] at ih
        show forGo _ _ (.tup [.int (j : Nat), limD r] :: limE (j + 1) R) _ _ = _
        refine forC_ (δ2 := [a, some (.lst ((z :: ws).map D.str)), c, d, some (.ref N.length), some (.int (j : Nat)), some (.int r.1), some (.int r.2), some (.int i)]) (M2 := N ++ [.lst (acc ++ [.int i])]) g ?_ ih
        unfold rowS
        refine seq_as (δ' := [a, some (.lst ((z :: ws).map D.str)), c, d, some (.ref N.length), some (.int (j : Nat)), some (.int r.1), some (.int r.2), some (.int i)]) num rfl (seq_if0 tst ?_)
        exact se_ (app_end rfl (cons_of rfl x_aNil) (by omega))
def rowD : Nat ⊕ List D → D
  | .inl k => .int (k : Nat)
  | .inr ds => .lst [.tup ds]
theorem read_row_sp {x : Str} {M : Mh} (hx : Tx 890 x) : ∃ l, ff_law_read_row [.str x] M = some (rowD (rowR x), M ++ l) := by
  have hl : x.length ≤ 1000000 := Nat.le_trans hx.1 (by decide)
  have spl := split_of (f := eVar 0) (δ := [some (.str x), none, none, none, none, none, none, none, none]) (M := M) hl rfl
  unfold rowR
  have hne := ne_B x
  have txs := hx.spB
  generalize Txt.split x " " = W at spl hne txs
  cases W with
  | nil => exact absurd rfl hne
  | cons z ws =>
    have wk : ∀ w ∈ ws, Wk? w := fun w hw => by
      have := txs.mem (List.mem_cons_of_mem z hw)
      exact ⟨Nat.le_trans this.1 (by decide), this.2⟩
    have neg : ∀ {δ : Pl.Env} {N : Mh}, eUn gNeg (eC (.int 3)) δ N = some (.int (-3), N) := un_ x_eC rfl
    have spots : eLst (aCons (eTup (aCons (eUn gNeg (eC (.int 3))) (aCons (eC (.int 7)) aNil))) (aCons (eTup (aCons (eUn gNeg (eC (.int 3))) (aCons (eC (.int 7)) aNil))) aNil)) [some (.str x), none, none, none, none, none, none, none, none] M = some (.lst [.tup [.int (-3), .int 7], .tup [.int (-3), .int 7]], M) :=
      x_eLst (cons_of (x_eTup (cons_of neg (cons_of x_eC x_aNil)) (by simp)) (cons_of (x_eTup (cons_of neg (cons_of x_eC x_aNil)) (by simp)) x_aNil)) (by simp)
    have s1 : ∀ (g : SF) (r : Option Out), g [some (.str x), some (.lst ((z :: ws).map D.str)), some (.lst [.tup [.int (-3), .int 7], .tup [.int (-3), .int 7]]), none, none, none, none, none, none] M = r → sSeq (sPar 1 2 (eS1 gSplit (eVar 0) (eC (.str " "))) (eLst (aCons (eTup (aCons (eUn gNeg (eC (.int 3))) (aCons (eC (.int 7)) aNil))) (aCons (eTup (aCons (eUn gNeg (eC (.int 3))) (aCons (eC (.int 7)) aNil))) aNil)))) g [some (.str x), none, none, none, none, none, none, none, none] M = r := fun g r h => seq_nx (par_of spl spots) h
    have t1 : tV (eOp (gIn fun b => b) (eC (.str "")) (eVar 1)) [some (.str x), some (.lst ((z :: ws).map D.str)), some (.lst [.tup [.int (-3), .int 7], .tup [.int (-3), .int 7]]), none, none, none, none, none, none] M = some (decide (("" : Str) ∈ z :: ws), M) := v_bl (op_of x_eC rfl (in_S txs.2))
    by_cases h : ("" : Str) ∈ z :: ws
    · rw [decide_eq_true h] at t1
      refine ⟨[], ?_⟩
      rw [List.append_nil, rowW_cons, if_pos h]
      refine fn_rt ?_
      show gg_law_read_row [some (.str x), none, none, none, none, none, none, none, none] M = _
      unfold gg_law_read_row
      exact s1 _ _ (seq_if1 t1 (ret_of x_eC))
    rw [decide_eq_false h] at t1
    rw [rowW_cons, if_neg h]
    generalize hN : M ++ [MO.dic kvR] = N
    have gN : N[M.length]? = some (.dic kvR) := by rw [← hN]; simp
    have lN : N.length = M.length + 1 := by rw [← hN]; simp
    have dic : eDic (psCons (eC (.str "tool")) (eLst (aCons (eTup (aCons (eC (.int 1)) (aCons (eC (.int 4)) aNil))) (aCons (eTup (aCons (eC (.int 1)) (aCons (eC (.int 6)) aNil))) aNil))) (psCons (eC (.str "go")) (eVar 2) (psCons (eC (.str "down")) (eLst (aCons (eTup (aCons (eC (.int 0)) (aCons (eC (.int 5)) aNil))) aNil)) (psCons (eC (.str "cut")) (eVar 2) (psCons (eC (.str "up")) (eLst aNil) psNil))))) [some (.str x), some (.lst ((z :: ws).map D.str)), some (.lst [.tup [.int (-3), .int 7], .tup [.int (-3), .int 7]]), none, none, none, none, none, none] M = some (.ref M.length, N) := by
      have l1 : eLst (aCons (eTup (aCons (eC (.int 1)) (aCons (eC (.int 4)) aNil))) (aCons (eTup (aCons (eC (.int 1)) (aCons (eC (.int 6)) aNil))) aNil)) [some (.str x), some (.lst ((z :: ws).map D.str)), some (.lst [.tup [.int (-3), .int 7], .tup [.int (-3), .int 7]]), none, none, none, none, none, none] M = some (.lst [.tup [.int 1, .int 4], .tup [.int 1, .int 6]], M) := x_eLst (cons_of (x_eTup (cons_of x_eC (cons_of x_eC x_aNil)) (by simp)) (cons_of (x_eTup (cons_of x_eC (cons_of x_eC x_aNil)) (by simp)) x_aNil)) (by simp)
      have l2 : eLst (aCons (eTup (aCons (eC (.int 0)) (aCons (eC (.int 5)) aNil))) aNil) [some (.str x), some (.lst ((z :: ws).map D.str)), some (.lst [.tup [.int (-3), .int 7], .tup [.int (-3), .int 7]]), none, none, none, none, none, none] M = some (.lst [.tup [.int 0, .int 5]], M) := x_eLst (cons_of (x_eTup (cons_of x_eC (cons_of x_eC x_aNil)) (by simp)) x_aNil) (by simp)
      have l3 : eLst aNil [some (.str x), some (.lst ((z :: ws).map D.str)), some (.lst [.tup [.int (-3), .int 7], .tup [.int (-3), .int 7]]), none, none, none, none, none, none] M = some (.lst [], M) := x_eLst x_aNil (by simp)
      have ps : ∀ {f g : EF} {h : Pl.Env → Mh → Option (List (Key × D) × Mh)} {δ : Pl.Env} {k : Str} {v : D} {q : List (Key × D)}, f δ M = some (.str k, M) → g δ M = some (v, M) → h δ M = some (q, M) → psCons f g h δ M = some ((.inr k, v) :: q, M) := fun h1 h2 h3 => by
        unfold psCons
        rw [h1]
        dsimp only
        rw [h2]
        dsimp only [keyOf]
        rw [h3]
      unfold eDic
      rw [ps x_eC l1 (ps x_eC (g := eVar 2) rfl (ps x_eC l2 (ps x_eC (g := eVar 2) rfl (ps x_eC l3 (h := psNil) rfl))))]
      dsimp only
      rw [if_pos (by simp)]
      rw [← hN, ← kvR_m]
      rfl
    have z0 : ∀ (x3 x4 x5 x6 x7 x8 : Option D) (N : Mh), eOp gIx (eVar 1) (eC (.int 0)) [some (.str x), some (.lst ((z :: ws).map D.str)), some (.lst [.tup [.int (-3), .int 7], .tup [.int (-3), .int 7]]), x3, x4, x5, x6, x7, x8] N = some (.str z, N) := fun x3 x4 x5 x6 x7 x8 N => op_of rfl x_eC ix_S
    have t2 : tV (eOp (gInL fun b => !b) (eOp gIx (eVar 1) (eC (.int 0))) (eVar 3)) [some (.str x), some (.lst ((z :: ws).map D.str)), some (.lst [.tup [.int (-3), .int 7], .tup [.int (-3), .int 7]]), some (.ref M.length), none, none, none, none, none] N = some (!(kinds z).isSome, N) := by
      refine v_bl (op_of (z0 _ _ _ _ _ _ _) rfl ?_)
      unfold gInL dicOf
      dsimp only
      rw [gN]
      dsimp only [keyOf]
      rw [kvR_get]
      cases kinds z <;> rfl
    have s2 : ∀ (g : SF) (r : Option Out), g [some (.str x), some (.lst ((z :: ws).map D.str)), some (.lst [.tup [.int (-3), .int 7], .tup [.int (-3), .int 7]]), some (.ref M.length), none, none, none, none, none] N = r → sSeq (sAs (eDic (psCons (eC (.str "tool")) (eLst (aCons (eTup (aCons (eC (.int 1)) (aCons (eC (.int 4)) aNil))) (aCons (eTup (aCons (eC (.int 1)) (aCons (eC (.int 6)) aNil))) aNil))) (psCons (eC (.str "go")) (eVar 2) (psCons (eC (.str "down")) (eLst (aCons (eTup (aCons (eC (.int 0)) (aCons (eC (.int 5)) aNil))) aNil)) (psCons (eC (.str "cut")) (eVar 2) (psCons (eC (.str "up")) (eLst aNil) psNil)))))) (Pl.gN 3)) g [some (.str x), some (.lst ((z :: ws).map D.str)), some (.lst [.tup [.int (-3), .int 7], .tup [.int (-3), .int 7]]), none, none, none, none, none, none] M = r := fun g r h => seq_as dic rfl h
    cases hK : kinds z with
    | none =>
      rw [hK] at t2
      refine ⟨[.dic kvR], ?_⟩
      refine fn_rt ?_
      show gg_law_read_row [some (.str x), none, none, none, none, none, none, none, none] M = _
      unfold gg_law_read_row
      rw [hN]
      exact s1 _ _ (seq_if0 t1 (s2 _ _ (seq_if1 t2 (ret_of x_eC))))
    | some K =>
      rw [hK] at t2
      obtain ⟨k1, k2, k3⟩ := kinds_in hK
      obtain ⟨y, go⟩ := row_go N z ws wk (some (.str x)) (some (.lst [.tup [.int (-3), .int 7], .tup [.int (-3), .int 7]])) (some (.ref M.length)) (K.map lim) 0 [.str z] none none none none (by simp; omega)
      rw [List.drop_zero] at go
      have pl := pref_len (K.map lim) ws
      rw [List.length_map] at pl
      dsimp only
      generalize pref (K.map lim) ws = Q at go pl ⊢
      refine ⟨[.dic kvR, .lst (.str z :: Q.map D.int)], ?_⟩
      refine fn_rt ?_
      show gg_law_read_row [some (.str x), none, none, none, none, none, none, none, none] M = _
      unfold gg_law_read_row
      refine s1 _ _ (seq_if0 t1 (s2 _ _ (seq_if0 t2 ?_)))
      refine seq_as (M1 := N ++ [.lst [.str z]]) (δ' := [some (.str x), some (.lst ((z :: ws).map D.str)), some (.lst [.tup [.int (-3), .int 7], .tup [.int (-3), .int 7]]), some (.ref M.length), some (.ref N.length), none, none, none, none]) (new_ (cons_of (z0 _ _ _ _ _ _ _) x_aNil) (by simp)) rfl ?_
      have it : aEnum (aCons (eOp gDget (eVar 3) (eOp gIx (eVar 1) (eC (.int 0)))) aNil) [some (.str x), some (.lst ((z :: ws).map D.str)), some (.lst [.tup [.int (-3), .int 7], .tup [.int (-3), .int 7]]), some (.ref M.length), some (.ref N.length), none, none, none, none] (N ++ [.lst [.str z]]) = some (limE 0 (K.map lim), N ++ [.lst [.str z]]) := by
        have gN' : (N ++ [MO.lst [.str z]])[M.length]? = some (.dic kvR) := by
          rw [List.getElem?_append_left (by omega)]; exact gN
        unfold aEnum
        rw [cons_of (d := .lst ((K.map lim).map limD)) (M1 := N ++ [.lst [.str z]]) (op_of (a := .ref M.length) rfl (z0 _ _ _ _ _ _ _) ?_) x_aNil]
        · dsimp only
          rw [List.length_map, List.range_eq_range', limE_sp]
        · unfold gDget dicOf
          dsimp only
          rw [gN']
          dsimp only [keyOf]
          rw [kvR_get, hK]
          rfl
      have hM2 : N ++ [MO.lst (.str z :: Q.map D.int)] = M ++ [.dic kvR, .lst (.str z :: Q.map D.int)] := by rw [← hN, List.append_assoc]; rfl
      rw [← hM2]
      unfold prefO at go
      rw [List.length_map] at go
      by_cases hq : Q.length = K.length
      · rw [if_pos hq] at go
        refine seq_nx (for_ it go) ?_
        have l4 : eB gLen (aCons (eVar 4) aNil) [some (.str x), some (.lst ((z :: ws).map D.str)), some (.lst [.tup [.int (-3), .int 7], .tup [.int (-3), .int 7]]), some (.ref M.length), some (.ref N.length), y.1, y.2.1, y.2.2.1, y.2.2.2] (N ++ [.lst (.str z :: Q.map D.int)]) = some (.int ((Q.length + 1 : Nat) : Int), N ++ [.lst (.str z :: Q.map D.int)]) := by
          rw [x_eB, cons_of (d := .ref N.length) (M1 := N ++ [.lst (.str z :: Q.map D.int)]) rfl x_aNil]
          simp [gLen, lenOf, lstOf, at_end]
        have tE : tV (eOp (gEq PyData.eqv) (eB gLen (aCons (eVar 1) aNil)) (eB gLen (aCons (eVar 4) aNil))) [some (.str x), some (.lst ((z :: ws).map D.str)), some (.lst [.tup [.int (-3), .int 7], .tup [.int (-3), .int 7]]), some (.ref M.length), some (.ref N.length), y.1, y.2.1, y.2.2.1, y.2.2.2] (N ++ [.lst (.str z :: Q.map D.int)]) = some (decide (K.length = ws.length), N ++ [.lst (.str z :: Q.map D.int)]) := by
          refine v_bl (op_of (len_S rfl) l4 ((eq_int _ _ _).trans ?_))
          rw [List.length_cons, show decide (((ws.length + 1 : Nat) : Int) = ((Q.length + 1 : Nat) : Int)) = decide (K.length = ws.length) from decide_eq_decide.mpr (by omega)]
        by_cases hw : K.length = ws.length
        · rw [decide_eq_true hw] at tE
          rw [if_pos ⟨hq, hw⟩]
          refine ret_of (ei_tt tE (x_eLst (ds := [.tup (.str z :: Q.map D.int)]) (cons_of ?_ x_aNil) (by simp)))
          rw [x_eB, cons_of (d := .ref N.length) (M1 := N ++ [.lst (.str z :: Q.map D.int)]) rfl x_aNil]
          simp [gTupOf, lstOf, at_end]
        · rw [decide_eq_false hw] at tE
          rw [if_neg fun e => hw e.2]
          exact ret_of (ei_ff tE (op_of l4 x_eC rfl))
      · rw [if_neg hq] at go
        rw [if_neg fun e => hq e.1]
        refine seq_rt (for_ it (go.trans ?_))
        rw [show 0 + Q.length + 2 = Q.length + 2 by omega]
        rfl
end Law

namespace Law
open PySem L2 Pl Pl.Ev
/-! the law's own reading of a text -/
theorem app_mid {M l : Mh} {xs : List D} {d : D} {f : EF} {q : AF} {δ : Pl.Env} (h1 : f δ (M ++ (.lst xs :: l)) = some (.ref M.length, M ++ (.lst xs :: l))) (h2 : q δ (M ++ (.lst xs :: l)) = some ([d], M ++ (.lst xs :: l))) (hl : xs.length < 1000) : eMeth2 gApp f q δ (M ++ (.lst xs :: l)) = some (.non, M ++ (.lst (xs ++ [d]) :: l)) := by
  have g : (M ++ (MO.lst xs :: l))[M.length]? = some (.lst xs) := by simp
  unfold eMeth2
  rw [h1]
  dsimp only
  have : (lstOf (M ++ (MO.lst xs :: l)) (.ref M.length)).isSome = true := by
    unfold lstOf
    dsimp only
    rw [g]
    rfl
  rw [if_pos this, h2]
  dsimp only
  unfold gApp
  dsimp only
  rw [g]
  dsimp only
  rw [if_pos (Nat.lt_of_lt_of_le hl (by decide))]
  simp
theorem kit_li : kitB "list" "int" = some false := by decide +kernel
theorem ix0_l {d : D} {L : List D} {M : Mh} : gIx (.lst (d :: L)) (.int 0) M = some (d, M) := by
  simp [gIx, L2.atI, L2.ixN]
noncomputable def dueS : SF := (sSeq (sAs (eCall ff_law_read_row (aCons (eVar 3) aNil) []) (gN 4)) (sSeq (sIf (tV (eB gIsi (aCons (eVar 4) (aCons (eC (.ty "int")) aNil)))) (sRet (eTup (aCons (eOp gAdd (eVar 2) (eC (.int 1))) (aCons (eVar 4) aNil)))) sNil) (sE (eMeth2 gApp (eVar 1) (aCons (eOp gIx (eVar 4) (eC (.int 0))) aNil)))))
def dueO (M l : Mh) (a b : Option D) (acc : List D) (y : Option D × Option D × Option D) : (Nat × Nat) ⊕ List (List D) → Out
  | .inl e => .rt (.tup [.int (e.1 : Nat), .int (e.2 : Nat)]) (M ++ (.lst acc :: l))
  | .inr dss => .nx [a, b, y.1, y.2.1, y.2.2] (M ++ (.lst (acc ++ dss.map D.tup) :: l))
theorem due_go (M : Mh) (a : Option D) : ∀ (W : List Str) (j : Nat) (l : Mh) (acc : List D) (x2 x3 x4 : Option D), Txs 890 W → acc.length + W.length ≤ 900 →
    ∃ l' acc' y, forGo (gTp (gsCons (gN 2) (gsCons (gN 3) gsNil))) dueS (enumD j W) [a, some (.ref M.length), x2, x3, x4] (M ++ (.lst acc :: l)) = some (dueO M l' a (some (.ref M.length)) acc' y (dueR j W)) ∧ ((dueR j W).isRight = true → acc' = acc)
  | [], j, l, acc, x2, x3, x4, _, _ => ⟨l, acc, (x2, x3, x4), by
    show _ = some (dueO M l a (some (.ref M.length)) acc (x2, x3, x4) (.inr []))
    unfold dueO
    dsimp only
    rw [List.map_nil, List.append_nil]
    exact forN_, fun _ => rfl⟩
  | x :: W, j, l, acc, x2, x3, x4, h, hl => by
    rw [List.length_cons] at hl
    obtain ⟨l1, e⟩ := read_row_sp (x := x) (M := M ++ (.lst acc :: l)) (h.mem List.mem_cons_self)
    rw [List.append_assoc, List.cons_append] at e
    have g : (gTp (gsCons (gN 2) (gsCons (gN 3) gsNil))) (.tup [.int (j : Nat), .str x]) [a, some (.ref M.length), x2, x3, x4] = some [a, some (.ref M.length), some (.int (j : Nat)), some (.str x), x4] := rfl
    have s1 : ∀ (gg : SF) (r : Option Out), gg [a, some (.ref M.length), some (.int (j : Nat)), some (.str x), some (rowD (rowR x))] (M ++ (.lst acc :: (l ++ l1))) = r → sSeq (sAs (eCall ff_law_read_row (aCons (eVar 3) aNil) []) (gN 4)) gg [a, some (.ref M.length), some (.int (j : Nat)), some (.str x), x4] (M ++ (.lst acc :: l)) = r := fun gg r hr => seq_as (call_of (cons_of rfl x_aNil) e) rfl hr
    cases hr : rowR x with
    | inl k =>
      rw [hr] at s1
      have hd : dueR j (x :: W) = .inl (j + 1, k) := by
        conv => lhs; unfold dueR
        rw [hr]
      refine ⟨l ++ l1, acc, (x2, x3, x4), ?_, fun _ => rfl⟩
      rw [hd]
      have bd : dueS [a, some (.ref M.length), some (.int (j : Nat)), some (.str x), x4] (M ++ (.lst acc :: l)) = some (.rt (.tup [.int ((j + 1 : Nat) : Int), .int (k : Nat)]) (M ++ (.lst acc :: (l ++ l1)))) := by
        unfold dueS
        exact s1 _ _ (seq_if1 (v_bl (isi_of rfl (t := "int") rfl kit_ii)) (ret_of (x_eTup (cons_of (op_of rfl x_eC rfl) (cons_of rfl x_aNil)) (by simp))))
      show forGo _ _ (.tup [.int (j : Nat), .str x] :: enumD (j + 1) W) _ _ = _
      unfold forGo
      rw [g]
      dsimp only
      rw [bd]
      rfl
    | inr ds =>
      rw [hr] at s1
      obtain ⟨l', acc', y, ih, ha⟩ := due_go M a W (j + 1) (l ++ l1) (acc ++ [.tup ds]) (some (.int (j : Nat))) (some (.str x)) (some (.lst [.tup ds])) h.tail (by rw [List.length_append]; simp; omega)
      have hd : dueR j (x :: W) = (match dueR (j + 1) W with
          | .inl e => .inl e
          | .inr dss => .inr (ds :: dss)) := by
        conv => lhs; unfold dueR
        rw [hr]
        try rfl
      have run : forGo (gTp (gsCons (gN 2) (gsCons (gN 3) gsNil))) dueS (enumD j (x :: W)) [a, some (.ref M.length), x2, x3, x4] (M ++ (.lst acc :: l)) = some (dueO M l' a (some (.ref M.length)) acc' y (dueR (j + 1) W)) := by
        show forGo _ _ (.tup [.int (j : Nat), .str x] :: enumD (j + 1) W) _ _ = _
        refine forC_ (δ2 := [a, some (.ref M.length), some (.int (j : Nat)), some (.str x), some (.lst [.tup ds])]) (M2 := M ++ (.lst (acc ++ [.tup ds]) :: (l ++ l1))) g ?_ ih
        unfold dueS
        refine s1 _ _ (seq_if0 (v_bl (isi_of rfl (t := "list") rfl kit_li)) (se_ (app_mid rfl (cons_of (op_of rfl x_eC ix0_l) x_aNil) (by omega))))
      cases hW : dueR (j + 1) W with
      | inl e =>
        rw [hW] at run hd
        exact ⟨l', acc', y, by rw [hd]; exact run, fun z => by rw [hd] at z; cases z⟩
      | inr dss =>
        rw [hW] at run hd ha
        refine ⟨l', acc, y, ?_, fun _ => rfl⟩
        rw [hd, run, ha rfl]
        unfold dueO
        dsimp only
        rw [List.append_assoc, List.map_cons]
        rfl
theorem due_sp {x : Str} {M : Mh} (hx : Tx 800 x) : ∃ l, ff_law_due [.str x] M = some (saidD (wayR x), M ++ l) := by
  have hl : x.length ≤ 1000000 := Nat.le_trans hx.1 (by decide)
  have t : tV (eOp (gEq fun p q => !PyData.eqv p q) (eVar 0) (eC (.str ""))) [some (.str x), some (.ref M.length), none, none, none] (M ++ [.lst []]) = some (!decide (x = ""), M ++ [.lst []]) := v_bl (op_of rfl rfl (ne_str (strOk_of hx.2) (by decide +kernel) _))
  generalize hW : (if x = "" then [] else Txt.split x "\n") = W
  have txs : Txs 890 W := by
    rw [← hW]
    by_cases h : x = ""
    · rw [if_pos h]; exact ⟨Nat.zero_le _, fun y hy => by cases hy⟩
    · rw [if_neg h]; exact hx.spN.mono (by decide)
  have wr : wayR x = dueR 0 W := by
    rw [← hW]
    unfold wayR
    by_cases h : x = ""
    · rw [if_pos h, if_pos h]; rfl
    · rw [if_neg h, if_neg h]
  have it : aEnum (aCons (eIf (tV (eOp (gEq fun p q => !PyData.eqv p q) (eVar 0) (eC (.str "")))) (eS1 gSplit (eVar 0) (eC (.str "\n"))) (eLst aNil)) aNil) [some (.str x), some (.ref M.length), none, none, none] (M ++ [.lst []]) = some (enumD 0 W, M ++ [.lst []]) := by
    refine enum_of ?_
    rw [← hW]
    by_cases h : x = ""
    · rw [decide_eq_true h] at t
      rw [if_pos h]
      exact ei_ff t (x_eLst x_aNil (by simp))
    · rw [decide_eq_false h] at t
      rw [if_neg h]
      exact ei_tt t (splitN_of hl rfl)
  obtain ⟨l', acc', y, go, ha⟩ := due_go M (some (.str x)) W 0 [] [] none none none txs (by have := txs.len; simp; omega)
  unfold dueS at go
  rw [wr]
  cases hd : dueR 0 W with
  | inl e =>
    rw [hd] at go
    refine ⟨.lst acc' :: l', fn_rt ?_⟩
    show gg_law_due [some (.str x), none, none, none, none] M = _
    unfold gg_law_due
    exact seq_as (M1 := M ++ [.lst []]) (δ' := [some (.str x), some (.ref M.length), none, none, none]) (new_ x_aNil (by simp)) rfl (seq_rt (for_ it go))
  | inr dss =>
    rw [hd] at go ha
    rw [ha rfl] at go
    unfold dueO at go
    dsimp only at go
    rw [List.nil_append] at go
    refine ⟨.lst (dss.map D.tup) :: l', fn_rt ?_⟩
    show gg_law_due [some (.str x), none, none, none, none] M = _
    unfold gg_law_due
    refine seq_as (M1 := M ++ [.lst []]) (δ' := [some (.str x), some (.ref M.length), none, none, none]) (new_ x_aNil (by simp)) rfl (seq_nx (for_ it go) (ret_of (x_eLst (ds := [.tup (dss.map D.tup)]) (cons_of ?_ x_aNil) (by simp))))
    have g : (M ++ (MO.lst (dss.map D.tup) :: l'))[M.length]? = some (.lst (dss.map D.tup)) := by simp
    rw [x_eB, cons_of (d := .ref M.length) (M1 := M ++ (.lst (dss.map D.tup) :: l')) rfl x_aNil]
    dsimp only [gTupOf, lstOf]
    rw [g]
/-! what repr takes -/
theorem nz_lst {n k : Nat} (c : Nat) {L : List D} (h : ∀ d ∈ L, Nz n k d) (hl : L.length ≤ c) : Nz (c * (n + 2) + 3) (k + 1) (.lst L) := by
  obtain ⟨ps, f, b1, b2, b3, b4, b5, b6⟩ := nzs L h
  refine ⟨.list ps, by rw [toP, f], by rw [PyData.showable, b1], by rw [PyData.canLay0, b2], by rw [PyData.depth]; omega, by rw [PyData.hasDict, b4], ?_, ?_⟩
  · rw [PyData.shown, PySem.listText_eq_join]
    intro s hs
    rw [TL.tl_append, TL.tl_append] at hs
    rcases List.mem_append.mp hs with z | z
    · rcases List.mem_append.mp z with z | z
      · have e : TL.tl ("[" : Str) = [91] := by decide +kernel
        rw [e] at z
        have := List.mem_singleton.mp z
        omega
      · exact joins_ok _ (fun t ht => (b5 t ht).1) s z
    · have e : TL.tl ("]" : Str) = [93] := by decide +kernel
      rw [e] at z
      have := List.mem_singleton.mp z
      omega
  · rw [PyData.shown]
    have h1 := PySem.listText_len_le (PyData.shownAll ps)
    have h2 := sum_le (n := n) (PyData.shownAll ps) fun t ht => (b5 t ht).2
    have h3 : (PyData.shownAll ps).length * n ≤ c * n := Nat.mul_le_mul_right _ (by omega)
    rw [Nat.mul_add]
    omega
end Law

namespace Law
open PySem L2 Pl Pl.Ev
/-! both readings say the same -/
theorem rowR_le {x : Str} {k : Nat} (h : rowR x = .inl k) : k ≤ 4 := by
  unfold rowR at h
  cases hW : Txt.split x " " with
  | nil => exact absurd hW (ne_B x)
  | cons z ws =>
    rw [hW, rowW_cons] at h
    split at h
    · cases h; decide
    · cases hK : kinds z with
      | none => rw [hK] at h; cases h; decide
      | some K =>
        rw [hK] at h
        dsimp only at h
        have := (kinds_in hK).2.1
        have pl := pref_len (K.map lim) ws
        rw [List.length_map] at pl
        split at h
        · cases h
        · cases h; omega
theorem pref_sz : ∀ (R : List (Int × Int)) (W : List Str), ∀ i ∈ pref R W, i.natAbs < 2 ^ 128
  | [], _, i, h => by rw [pref.eq_def] at h; cases h
  | _ :: _, [], i, h => by rw [pref.eq_def] at h; cases h
  | r :: R, w :: W, i, h => by
    unfold pref at h
    cases hf : fit r w with
    | none => rw [hf] at h; cases h
    | some j =>
      rw [hf] at h
      rcases List.mem_cons.mp h with e | h
      · rw [e]
        unfold fit at hf
        split at hf
        · exact sgn_b hf
        · cases hf
      · exact pref_sz R W i h
theorem rowR_nz {x : Str} {ds : List D} (h : rowR x = .inr ds) : Nz 5772 1 (.tup ds) := by
  unfold rowR at h
  cases hW : Txt.split x " " with
  | nil => exact absurd hW (ne_B x)
  | cons z ws =>
    rw [hW, rowW_cons] at h
    split at h
    · cases h
    · cases hK : kinds z with
      | none => rw [hK] at h; cases h
      | some K =>
        rw [hK] at h
        dsimp only at h
        obtain ⟨_, k2, k3⟩ := kinds_in hK
        have pl := pref_len (K.map lim) ws
        rw [List.length_map] at pl
        split at h
        · cases h
          refine nz_tup 3 (n := 1921) (k := 0) (fun d hd => ?_) (by rw [List.length_cons, List.length_map]; omega)
          rcases List.mem_cons.mp hd with e | hd
          · rw [e]; exact (nz_low k3).mono (Nat.le_refl _) (Nat.le_refl _)
          · obtain ⟨i, hi, rfl⟩ := List.mem_map.mp hd
            exact nz_smp (pref_sz _ _ i hi)
        · cases h
theorem dueR_b : ∀ (W : List Str) (j : Nat), (∀ e, dueR j W = .inl e → e.1 ≤ j + W.length ∧ e.2 ≤ 4) ∧ ∀ dss, dueR j W = .inr dss → dss.length ≤ W.length ∧ ∀ ds ∈ dss, Nz 5772 1 (.tup ds)
  | [], j => ⟨fun e h => (by cases h), fun dss h => (by cases h; exact ⟨Nat.le_refl _, fun ds h => (by cases h)⟩)⟩
  | x :: W, j => by
    obtain ⟨i1, i2⟩ := dueR_b W (j + 1)
    have hd : dueR j (x :: W) = (match rowR x with
      | .inl k => .inl (j + 1, k)
      | .inr ds => (match dueR (j + 1) W with
        | .inl e => .inl e
        | .inr dss => .inr (ds :: dss))) := rfl
    rw [hd, List.length_cons]
    cases hr : rowR x with
    | inl k =>
      refine ⟨fun e h => ?_, fun dss h => by cases h⟩
      cases h
      exact ⟨by dsimp only; omega, rowR_le hr⟩
    | inr ds =>
      dsimp only
      cases hW : dueR (j + 1) W with
      | inl e' =>
        refine ⟨fun e h => ?_, fun dss h => by cases h⟩
        cases h
        have := i1 _ hW
        exact ⟨by omega, this.2⟩
      | inr dss' =>
        refine ⟨fun e h => (by cases h), fun dss h => ?_⟩
        cases h
        obtain ⟨a, b⟩ := i2 _ hW
        refine ⟨by rw [List.length_cons]; omega, fun q hq => ?_⟩
        rcases List.mem_cons.mp hq with e | hq
        · rw [e]; exact rowR_nz hr
        · exact b q hq
theorem nz_said {x : Str} (hx : Tx 800 x) : Nz 9000000 4 (saidD (wayR x)) := by
  have small : ∀ k : Nat, k ≤ 1000 → Nz 1921 0 (.int (k : Nat)) := fun k h => nz_smp (d := .int (k : Nat)) (show ((k : Nat) : Int).natAbs < 2 ^ 128 from Nat.lt_of_le_of_lt (show _ ≤ 1000 by omega) (by decide))
  have tuple : ∀ (L : List (List D)), L.length ≤ 801 → (∀ ds ∈ L, Nz 5772 1 (.tup ds)) → Nz 9000000 4 (.lst [.tup (L.map D.tup)]) := fun L hL h => by
    have t := nz_tup 801 (n := 5772) (k := 1) (L := L.map D.tup) (fun d hd => by
      obtain ⟨ds, hds, rfl⟩ := List.mem_map.mp hd
      exact h ds hds) (by rw [List.length_map]; exact hL)
    exact (nz_lst 1 (L := [.tup (L.map D.tup)]) (fun d hd => by rw [List.mem_singleton.mp hd]; exact t) (by simp)).mono (by decide) (by decide)
  unfold wayR
  by_cases h : x = ""
  · rw [if_pos h]
    exact tuple [] (by simp) (fun ds h => by cases h)
  rw [if_neg h]
  have wl := hx.spN.len
  obtain ⟨b1, b2⟩ := dueR_b (Txt.split x "\n") 0
  cases hd : dueR 0 (Txt.split x "\n") with
  | inl e =>
    obtain ⟨c1, c2⟩ := b1 e hd
    refine (nz_tup 2 (n := 1921) (k := 0) (L := [.int (e.1 : Nat), .int (e.2 : Nat)]) (fun d hd => ?_) (by simp)).mono (by decide) (by decide)
    simp only [List.mem_cons, List.not_mem_nil, or_false] at hd
    rcases hd with z | z <;> rw [z]
    · exact small _ (by omega)
    · exact small _ (by omega)
  | inr dss =>
    obtain ⟨c1, c2⟩ := b2 dss hd
    exact tuple dss (by omega) c2
/-- the law's look at a text -/
theorem look_same {ct : CT} (hI : Isa ct) {x : Str} (hx : Tx 800 x) {δ : Pl.Env} {i : Nat} {M : Mh} (h : δ[i]? = some (some (.str x))) : ∃ l, tV (eOp (gEq fun p q => !PyData.eqv p q) (eB gRepr (aCons (eCall (ff_law_said ct) (aCons (eVar i) aNil) []) aNil)) (eB gRepr (aCons (eCall ff_law_due (aCons (eVar i) aNil) []) aNil))) δ M = some (false, M ++ l) := by
  obtain ⟨l, e⟩ := said_sp hI (M := M) hx
  obtain ⟨l2, e2⟩ := due_sp (M := M ++ l) hx
  exact ⟨l ++ l2, by rw [← List.append_assoc]; exact reprs_eq (nz_said hx) (by decide) (by decide) (call_of (cons_of (var_ h) x_aNil) e) (call_of (cons_of (var_ h) x_aNil) e2)⟩
/-! steps drawn -/
theorem pick_int {P : Int → Prop} {L : List Int} {f : Nat} {M : Mh} (h : f < L.length) (hp : ∀ i ∈ L, P i) : ∃ v, gIx (.lst (L.map D.int)) (.int f) M = some (.int v, M) ∧ P v := by
  refine ⟨L[f], ?_, hp _ (List.getElem_mem h)⟩
  rw [ix_lst (by rw [List.length_map]; exact h), List.getElem_map]
def Sm (i : Int) : Prop := -9 ≤ i ∧ i ≤ 9
theorem spot_ok {n : Nat} {δ : Pl.Env} {B : Int} {M : Mh} (h0 : δ[0]? = some (some (.ref n))) (h : At n B M) (hB : B < 2 ^ 55) :
    ∃ v M', eOp gIx (eLst (aCons (eUn gNeg (eC (.int 3))) (aCons (eC (.int 7)) (aCons (eC (.int 0)) (aCons (eOp (gInt fun i j => .int (i - j)) (eCall ff_law_digit (aCons (eVar 0) (aCons (eC (.int 11)) aNil)) []) (eC (.int 3))) aNil))))) (eCall ff_law_digit (aCons (eVar 0) (aCons (eC (.int 4)) aNil)) []) δ M = some (.int v, M') ∧ Sm v ∧ At n (B + 8) M' := by
  obtain ⟨g, M1, e1, g1, p1⟩ := dgN (many := 11) h0 h (by omega) (by decide) (by decide)
  obtain ⟨f, M2, e2, f1, p2⟩ := dgN (many := 4) h0 p1 (by omega) (by decide) (by decide)
  obtain ⟨v, ev, hv⟩ := pick_int (P := Sm) (L := [-3, 7, 0, (g : Int) - 3]) (f := f) (M := M2) (by show f < 4; omega) (fun i hi => by
    simp only [List.mem_cons, List.not_mem_nil, or_false] at hi
    unfold Sm
    rcases hi with e | e | e | e <;> rw [e] <;> omega)
  refine ⟨v, M2, op_of (x_eLst (ds := [.int (-3), .int 7, .int 0, .int ((g : Int) - 3)]) (cons_of (un_ x_eC rfl) (cons_of x_eC (cons_of x_eC (cons_of (op_of e1 x_eC rfl) x_aNil)))) (by simp)) e2 ev, hv, p2.up (by omega)⟩
theorem side_ok {n : Nat} {δ : Pl.Env} {B : Int} {M : Mh} {a b : Int} (h0 : δ[0]? = some (some (.ref n))) (h : At n B M) (hB : B < 2 ^ 55) (ha : Sm a) (hb : 0 < b ∧ b ≤ 8) :
    ∃ v M', eOp gIx (eLst (aCons (eC (.int 1)) (aCons (eC (.int a)) (aCons (eOp gAdd (eC (.int 1)) (eCall ff_law_digit (aCons (eVar 0) (aCons (eC (.int b)) aNil)) [])) aNil)))) (eCall ff_law_digit (aCons (eVar 0) (aCons (eC (.int 3)) aNil)) []) δ M = some (.int v, M') ∧ Sm v ∧ At n (B + 8) M' := by
  obtain ⟨g, M1, e1, g1, p1⟩ := dgN (many := b) h0 h (by omega) hb.1 (by omega)
  obtain ⟨f, M2, e2, f1, p2⟩ := dgN (many := 3) h0 p1 (by omega) (by decide) (by decide)
  obtain ⟨v, ev, hv⟩ := pick_int (P := Sm) (L := [1, a, 1 + (g : Int)]) (f := f) (M := M2) (by show f < 3; omega) (fun i hi => by
    simp only [List.mem_cons, List.not_mem_nil, or_false] at hi
    unfold Sm at ha ⊢
    rcases hi with e | e | e <;> rw [e] <;> omega)
  refine ⟨v, M2, op_of (x_eLst (ds := [.int 1, .int a, .int (1 + (g : Int))]) (cons_of x_eC (cons_of x_eC (cons_of (op_of x_eC e1 rfl) x_aNil))) (by simp)) e2 ev, hv, p2.up (by omega)⟩
def StepD (d : D) : Prop := ∃ (z : Str) (L : List Int), d = .tup (.str z :: L.map D.int) ∧ Low z ∧ L.length ≤ 2 ∧ ∀ i ∈ L, Sm i
theorem step_ok {n : Nat} {B : Int} {M : Mh} (h : At n B M) (hB : B < 2 ^ 54) : ∃ d M', ff_law_any_step [.ref n] M = some (d, M') ∧ StepD d ∧ At n (B + 100) M' := by
  have r2 : aRng1 (aCons (eC (.int 2)) aNil) [some (.ref n), none, none, none, none, none] M = some ([.int 0, .int 1], M) := (rng1_ (j := 2) (cons_of x_eC x_aNil) (by decide)).trans rfl
  obtain ⟨v1, M1, e1, s1, p1⟩ := spot_ok (δ := [some (.ref n), none, some (.int 0), none, none, none]) rfl h (by omega)
  obtain ⟨v2, M2, e2, s2, p2⟩ := spot_ok (δ := [some (.ref n), none, some (.int 1), none, none, none]) rfl p1 (by omega)
  obtain ⟨v3, M3, e3, s3, p3⟩ := side_ok (a := 4) (b := 4) (δ := [some (.ref n), some (.lst [.int v1, .int v2]), none, none, none, none]) rfl p2 (by omega) (by unfold Sm; omega) (by omega)
  obtain ⟨v4, M4, e4, s4, p4⟩ := side_ok (a := 6) (b := 6) (δ := [some (.ref n), some (.lst [.int v1, .int v2]), none, some (.int v3), none, none]) rfl p3 (by omega) (by unfold Sm; omega) (by omega)
  obtain ⟨v5, M5, e5, f5, p5⟩ := dgN (many := 6) (δ := [some (.ref n), some (.lst [.int v1, .int v2]), none, some (.int v3), some (.int v4), none]) rfl p4 (by omega) (by decide) (by decide)
  obtain ⟨v6, M6, e6, f6, p6⟩ := dgN (many := 5) (δ := [some (.ref n), some (.lst [.int v1, .int v2]), none, some (.int v3), some (.int v4), some (.lst [.tup [.str "tool", .int v3, .int v4], .tup [.str "go", .int v1, .int v2], .tup [.str "down", .int v5], .tup [.str "cut", .int v1, .int v2]])]) rfl p5 (by omega) (by decide) (by decide)
  have lw : Low "tool" ∧ Low "go" ∧ Low "down" ∧ Low "cut" ∧ Low "up" := ⟨low_of (by decide +kernel) (by decide +kernel), low_of (by decide +kernel) (by decide +kernel), low_of (by decide +kernel) (by decide +kernel), low_of (by decide +kernel) (by decide +kernel), low_of (by decide +kernel) (by decide +kernel)⟩
  have all : ∀ d ∈ [D.tup [.str "tool", .int v3, .int v4], .tup [.str "go", .int v1, .int v2], .tup [.str "down", .int v5], .tup [.str "cut", .int v1, .int v2], .tup [.str "up"]], StepD d := fun d hd => by
    simp only [List.mem_cons, List.not_mem_nil, or_false] at hd
    obtain ⟨w1, w2, w3, w4, w5⟩ := lw
    have two : ∀ a b : Int, Sm a → Sm b → ∀ i ∈ [a, b], Sm i := fun a b ha hb i hi => by
      simp only [List.mem_cons, List.not_mem_nil, or_false] at hi
      rcases hi with e | e <;> rw [e] <;> assumption
    rcases hd with e | e | e | e | e
    · exact ⟨"tool", [v3, v4], e, w1, by simp, two _ _ s3 s4⟩
    · exact ⟨"go", [v1, v2], e, w2, by simp, two _ _ s1 s2⟩
    · refine ⟨"down", [(v5 : Int)], e, w3, by simp, fun i hi => ?_⟩
      rw [List.mem_singleton.mp hi]; unfold Sm; omega
    · exact ⟨"cut", [v1, v2], e, w4, by simp, two _ _ s1 s2⟩
    · exact ⟨"up", [], e, w5, by simp, fun i hi => by cases hi⟩
  have l6 : v6 < [D.tup [.str "tool", .int v3, .int v4], .tup [.str "go", .int v1, .int v2], .tup [.str "down", .int v5], .tup [.str "cut", .int v1, .int v2], .tup [.str "up"]].length := by show v6 < 5; omega
  refine ⟨_, M6, fn_rt ?_, all _ (List.getElem_mem l6), p6.up (by omega)⟩
  show gg_law_any_step [some (.ref n), none, none, none, none, none] M = _
  unfold gg_law_any_step
  refine seq_as (M1 := M2) (δ' := [some (.ref n), some (.lst [.int v1, .int v2]), none, none, none, none]) (lc_ (ds := [.int 0, .int 1]) (M1 := M) (δ1 := [some (.ref n), none, none, none, none, none]) r2 rfl (ys := [.int v1, .int v2]) (M2 := M2) (lcC_ (x := true) (M1 := M) (δ1 := [some (.ref n), none, some (.int 0), none, none, none]) rfl tt_ (lcY_ (p := gN 2) (t := tTrue) (ds := [.int 1]) (δ := [some (.ref n), none, none, none, none, none]) (δ1 := [some (.ref n), none, some (.int 0), none, none, none]) e1 (lcC_ (x := true) (M1 := M1) (δ1 := [some (.ref n), none, some (.int 1), none, none, none]) rfl tt_ (lcY_ (p := gN 2) (t := tTrue) (ds := []) (δ := [some (.ref n), none, none, none, none, none]) (δ1 := [some (.ref n), none, some (.int 1), none, none, none]) e2 lcN_)))) (by simp)) rfl ?_
  refine seq_as (M1 := M3) (δ' := [some (.ref n), some (.lst [.int v1, .int v2]), none, some (.int v3), none, none]) e3 rfl ?_
  refine seq_as (M1 := M4) (δ' := [some (.ref n), some (.lst [.int v1, .int v2]), none, some (.int v3), some (.int v4), none]) e4 rfl ?_
  have tp : ∀ N, eB gTupOf (aCons (eVar 1) aNil) [some (.ref n), some (.lst [.int v1, .int v2]), none, some (.int v3), some (.int v4), none] N = some (.tup [.int v1, .int v2], N) := fun N => by
    rw [x_eB, cons_of (d := .lst [.int v1, .int v2]) (M1 := N) rfl x_aNil]; rfl
  have ad : ∀ (z : Str) (N : Mh), eOp gAdd (eTup (aCons (eC (.str z)) aNil)) (eB gTupOf (aCons (eVar 1) aNil)) [some (.ref n), some (.lst [.int v1, .int v2]), none, some (.int v3), some (.int v4), none] N = some (.tup [.str z, .int v1, .int v2], N) := fun z N => op_of (x_eTup (ds := [.str z]) (cons_of x_eC x_aNil) (by simp)) (tp N) (app_t (by simp))
  refine seq_as (M1 := M5) (δ' := [some (.ref n), some (.lst [.int v1, .int v2]), none, some (.int v3), some (.int v4), some (.lst [.tup [.str "tool", .int v3, .int v4], .tup [.str "go", .int v1, .int v2], .tup [.str "down", .int v5], .tup [.str "cut", .int v1, .int v2]])]) (x_eLst (ds := [.tup [.str "tool", .int v3, .int v4], .tup [.str "go", .int v1, .int v2], .tup [.str "down", .int v5], .tup [.str "cut", .int v1, .int v2]]) (cons_of (x_eTup (ds := [.str "tool", .int v3, .int v4]) (cons_of x_eC (cons_of rfl (cons_of rfl x_aNil))) (by simp)) (cons_of (ad _ _) (cons_of (x_eTup (ds := [.str "down", .int v5]) (cons_of x_eC (cons_of e5 x_aNil)) (by simp)) (cons_of (ad _ _) x_aNil)))) (by simp)) rfl ?_
  refine ret_of (op_of (M1 := M5) (M2 := M6) (a := .lst [.tup [.str "tool", .int v3, .int v4], .tup [.str "go", .int v1, .int v2], .tup [.str "down", .int v5], .tup [.str "cut", .int v1, .int v2], .tup [.str "up"]]) (b := .int v6) (op_of rfl (x_eLst (ds := [.tup [.str "up"]]) (cons_of (x_eTup (ds := [.str "up"]) (cons_of x_eC x_aNil) (by simp)) x_aNil) (by simp)) (app_l (by simp))) e6 ?_)
  exact ix_lst l6
/-! a step's row -/
noncomputable def lrowS : SF := (sAs (eOp gAdd (eOp gAdd (eOp gAdd (eVar 1) (eC (.str " "))) (eIf (tV (eOp (gInt fun i j => .bl (decide (i < j))) (eVar 2) (eC (.int 0)))) (eC (.str "-")) (eC (.str "")))) (eOp gIx (eC (.str "0123456789")) (eB (gL1 fun i => .int (if i < 0 then -i else i)) (aCons (eVar 2) aNil)))) (gN 1))
theorem row_one {x : Str} {i : Int} {d : D} {n : Nat} {M : Mh} (hx : Tx n x) (hn : n ≤ 1000) (hi : Sm i) : ∃ y, lrowS [some d, some (.str x), some (.int i)] M = some (.nx [some d, some (.str y), some (.int i)] M) ∧ Tx (n + 3) y := by
  have w1 : Tx 1 " " := ⟨by decide +kernel, so_sp.1⟩
  have w2 : Tx 1 "-" := lit_w (by decide +kernel) (by decide +kernel)
  have w3 : Tx 1 "" := lit_w (by decide +kernel) (by decide +kernel)
  have lS : ("0123456789" : Str).length = 10 := by decide +kernel
  have sS : SOk "0123456789" := (lit_w (n := 10) (x := "0123456789") (by decide +kernel) (by decide +kernel)).2
  have ab : eB (gL1 fun i => .int (if i < 0 then -i else i)) (aCons (eVar 2) aNil) [some d, some (.str x), some (.int i)] M = some (.int (if i < 0 then -i else i), M) := by
    rw [x_eB, cons_of (d := .int i) (M1 := M) rfl x_aNil]; rfl
  obtain ⟨c, ec, wc⟩ := sign_at (z := "0123456789") (i := if i < 0 then -i else i) (M := M) (by split <;> omega) (by rw [lS]; unfold Sm at hi; split <;> omega) (by rw [lS]; decide) sS
  have mn : ∃ m : Str, eIf (tV (eOp (gInt fun i j => .bl (decide (i < j))) (eVar 2) (eC (.int 0)))) (eC (.str "-")) (eC (.str "")) [some d, some (.str x), some (.int i)] M = some (.str m, M) ∧ Tx 1 m := by
    have t : tV (eOp (gInt fun i j => .bl (decide (i < j))) (eVar 2) (eC (.int 0))) [some d, some (.str x), some (.int i)] M = some (decide (i < 0), M) := v_bl (op_of rfl x_eC rfl)
    by_cases h : i < 0
    · rw [decide_eq_true h] at t
      exact ⟨_, ei_tt t x_eC, w2⟩
    · rw [decide_eq_false h] at t
      exact ⟨_, ei_ff t x_eC, w3⟩
  obtain ⟨m, em, wm⟩ := mn
  have a1 := app_w hx w1
  have a2 := app_w a1 wm
  have a3 := app_w a2 wc
  refine ⟨x ++ " " ++ m ++ ⟨#[c]⟩, ?_, ⟨a3.1, a3.2⟩⟩
  unfold lrowS
  exact as_of (add_of (add_of (add_of rfl x_eC hx w1 (by omega)) em a1 wm (by omega)) (op_of x_eC ab ec) a2 wc (by omega)) rfl
theorem row_fold {d : D} {M : Mh} : ∀ (L : List Int) (n : Nat) (x : Str) (z : Option D), Tx n x → n + 3 * L.length ≤ 500 → (∀ i ∈ L, Sm i) → ∃ y z', forGo (gN 2) lrowS (L.map D.int) [some d, some (.str x), z] M = some (.nx [some d, some (.str y), z'] M) ∧ Tx (n + 3 * L.length) y
  | [], n, x, z, hx, _, _ => ⟨x, z, forN_, hx⟩
  | i :: L, n, x, z, hx, hl, hi => by
    rw [List.length_cons] at hl
    obtain ⟨y, e, hy⟩ := row_one (d := d) (M := M) hx (by omega) (hi i List.mem_cons_self)
    obtain ⟨w, z', e2, hw⟩ := row_fold (d := d) (M := M) L (n + 3) y (some (.int i)) hy (by omega) (fun j hj => hi j (List.mem_cons_of_mem _ hj))
    refine ⟨w, z', ?_, hw.mono (by rw [List.length_cons]; omega)⟩
    rw [List.map_cons]
    exact forC_ (δ1 := [some d, some (.str x), some (.int i)]) rfl e e2
theorem lrow_ok {d : D} {M : Mh} (h : StepD d) : ∃ x, ff_law_row [d] M = some (.str x, M) ∧ Tx 26 x := by
  obtain ⟨z, L, rfl, hz, lL, hL⟩ := h
  obtain ⟨y, z', e, hy⟩ := row_fold (d := .tup (.str z :: L.map D.int)) (M := M) L 20 z none ⟨hz.1, hz.s⟩ (by omega) hL
  refine ⟨y, fn_rt ?_, hy.mono (by omega)⟩
  show gg_law_row [some (.tup (.str z :: L.map D.int)), none, none] M = _
  unfold gg_law_row
  refine seq_as (M1 := M) (δ' := [some (.tup (.str z :: L.map D.int)), some (.str z), none]) (op_of rfl x_eC ?_) rfl ?_
  · simp [gIx, L2.atI, L2.ixN]
  · exact seq_nx (for_ (itemsT_ (sl1_T rfl)) e) (ret_of rfl)
end Law

namespace Law
open PySem L2 Pl Pl.Ev
/-! a text with something otherwise -/
theorem cut_hi {α : Type} (W : List α) (s : Nat) : cutD W none (some (s : Int)) = W.take s := by
  unfold cutD
  rw [HT.sIx_none, HT.sIx_nat, List.drop_zero, Nat.sub_zero, List.take_eq_take_iff]
  omega
theorem cut_lo {α : Type} (W : List α) (s : Nat) : cutD W (some (s : Int)) none = W.drop s := by
  unfold cutD
  rw [HT.sIx_none, HT.sIx_nat, List.take_of_length_le (by rw [List.length_drop]; exact Nat.le_refl _)]
  by_cases h : s ≤ W.length
  · rw [Nat.min_eq_left h]
  · rw [Nat.min_eq_right (by omega), List.drop_length, List.drop_eq_nil_of_le (by omega)]
theorem cut_mid {α : Type} (W : List α) (s : Nat) (h : s < W.length) : cutD W (some (s : Int)) (some ((s + 1 : Nat) : Int)) = [W[s]] := by
  unfold cutD
  rw [HT.sIx_nat, HT.sIx_nat, Nat.min_eq_left (by omega), Nat.min_eq_left (by omega), show s + 1 - s = 1 by omega, List.drop_eq_getElem_cons h]
  rfl
theorem wt_parts {W : List Str} {s : Nat} (h : s < W.length) : wt (W.take s) + (W[s].length + 1) + wt (W.drop (s + 1)) = wt W := by
  have e : W = W.take s ++ (W[s] :: W.drop (s + 1)) := by rw [← List.drop_eq_getElem_cons h, List.take_append_drop]
  have : wt W = wt (W.take s ++ (W[s] :: W.drop (s + 1))) := congrArg wt e
  rw [this, wt_app, wt_cons]
  omega
theorem add_S {P Q : List Str} {f g : EF} {δ : Pl.Env} {N N2 N3 : Mh} (h1 : f δ N = some (.lst (P.map D.str), N2)) (h2 : g δ N2 = some (.lst (Q.map D.str), N3)) (l : P.length + Q.length ≤ 1000) : eOp gAdd f g δ N = some (.lst ((P ++ Q).map D.str), N3) := by
  rw [List.map_append]
  exact op_of h1 h2 (app_l (by rw [List.length_map, List.length_map]; exact l))
theorem mul2_S {P : List Str} {f : EF} {δ : Pl.Env} {N : Mh} (h1 : f δ N = some (.lst (P.map D.str), N)) (l : P.length ≤ 1000) : eOp gMul f (eC (.int 2)) δ N = some (.lst ((P ++ P).map D.str), N) := by
  refine op_of h1 x_eC ?_
  unfold gMul
  dsimp only
  rw [if_pos ⟨by decide, by decide, by
    rw [List.length_map]
    exact Nat.le_trans (Nat.mul_le_mul_right _ l) (by decide)⟩]
  rw [List.map_append]
  simp [List.replicate]
def SGNS : List Str := [" ", "\n", "-", "0", "1", "a", "U", ".", "  ", "\n\n"]
theorem sgns_ok : SGNS.all (fun w => decide (w.length ≤ 2) && (TL.tl w).all (fun s => decide (s < 1114112))) = true := by decide +kernel
theorem sgns_w {w : Str} (h : w ∈ SGNS) : Tx 2 w := by
  have := List.all_eq_true.mp sgns_ok w h
  rw [Bool.and_eq_true] at this
  exact ⟨of_decide_eq_true this.1, fun s hs => of_decide_eq_true (List.all_eq_true.mp this.2 s hs)⟩
def WRDS : List Str := ["tool", "up", "cut", "Down", "8", "-4", "7", "-3", "0", "6", "5", "-0", "00", "07", "12345", "-", "1_0", ""]
def WRDS2 : List Str := WRDS ++ [("99" : Str), ("+1" : Str), ("1.0" : Str)]
theorem wrds_ok : WRDS2.all (fun w => decide (w.length ≤ 5) && (TL.tl w).all (fun s => decide (s < 1114112))) = true := by decide +kernel
theorem wrds_w {w : Str} (h : w ∈ WRDS2) : Tx 5 w := by
  have := List.all_eq_true.mp wrds_ok w h
  rw [Bool.and_eq_true] at this
  exact ⟨of_decide_eq_true this.1, fun s hs => of_decide_eq_true (List.all_eq_true.mp this.2 s hs)⟩
noncomputable def bentC : SF := (sSeq (sAs (eS1 gSplit (eOp gIx (eVar 5) (eVar 6)) (eC (.str " "))) (gN 7)) (sSeq (sAs (eCall ff_law_digit (aCons (eVar 0) (aCons (eOp gAdd (eB gLen (aCons (eVar 7) aNil)) (eC (.int 1))) aNil)) []) (gN 8)) (sSeq (sAs (eLst (aCons (eC (.str "tool")) (aCons (eC (.str "up")) (aCons (eC (.str "cut")) (aCons (eC (.str "Down")) (aCons (eC (.str "8")) (aCons (eC (.str "-4")) (aCons (eC (.str "7")) (aCons (eC (.str "-3")) (aCons (eC (.str "0")) (aCons (eC (.str "6")) (aCons (eC (.str "5")) (aCons (eC (.str "-0")) (aCons (eC (.str "00")) (aCons (eC (.str "07")) (aCons (eC (.str "12345")) (aCons (eC (.str "-")) (aCons (eC (.str "1_0")) (aCons (eC (.str "")) aNil))))))))))))))))))) (gN 9)) (sSeq (sAs (eOp gIx (eOp gAdd (eVar 9) (eLst (aCons (eC (.str "99")) (aCons (eC (.str "+1")) (aCons (eC (.str "1.0")) aNil))))) (eCall ff_law_digit (aCons (eVar 0) (aCons (eC (.int 21)) aNil)) [])) (gN 10)) (sSeq (sPar 11 12 (eSl (eVar 7) pNone (pSome (eVar 8))) (eSl (eVar 7) (pSome (eVar 8)) pNone)) (sSeq (sAs (eOp gIx (eLst (aCons (eOp gAdd (eOp gAdd (eVar 11) (eLst (aCons (eVar 10) aNil))) (eSl (eVar 12) (pSome (eC (.int 1))) pNone)) (aCons (eOp gAdd (eOp gAdd (eVar 11) (eLst (aCons (eVar 10) aNil))) (eVar 12)) (aCons (eOp gAdd (eVar 11) (eSl (eVar 12) (pSome (eC (.int 1))) pNone)) (aCons (eVar 11) (aCons (eVar 12) aNil)))))) (eOp (gInt fun i j => .int (i - j)) (eVar 2) (eC (.int 4)))) (gN 7)) (sRet (eS1 gJoin (eC (.str "\n")) (eOp gAdd (eOp gAdd (eSl (eVar 5) pNone (pSome (eVar 6))) (eLst (aCons (eS1 gJoin (eC (.str " ")) (eVar 7)) aNil))) (eSl (eVar 5) (pSome (eOp gAdd (eVar 6) (eC (.int 1)))) pNone))))))))))
noncomputable def bentB : SF := (sSeq (sAs (eS1 gSplit (eVar 1) (eC (.str "\n"))) (gN 5)) (sSeq (sAs (eCall ff_law_digit (aCons (eVar 0) (aCons (eB gLen (aCons (eVar 5) aNil)) aNil)) []) (gN 6)) (sSeq (sIf (tV (eOp (gEq PyData.eqv) (eVar 2) (eC (.int 2)))) (sRet (eS1 gJoin (eC (.str "\n")) (eOp gAdd (eOp gAdd (eSl (eVar 5) pNone (pSome (eVar 6))) (eOp gMul (eSl (eVar 5) (pSome (eVar 6)) (pSome (eOp gAdd (eVar 6) (eC (.int 1))))) (eC (.int 2)))) (eSl (eVar 5) (pSome (eOp gAdd (eVar 6) (eC (.int 1)))) pNone)))) sNil) (sSeq (sIf (tV (eOp (gEq PyData.eqv) (eVar 2) (eC (.int 3)))) (sRet (eS1 gJoin (eC (.str "\n")) (eOp gAdd (eOp gAdd (eSl (eVar 5) pNone (pSome (eVar 6))) (eLst (aCons (eC (.str "")) aNil))) (eSl (eVar 5) (pSome (eVar 6)) pNone)))) sNil) bentC))))
noncomputable def bentA : SF := (sSeq (sIf (tV (eOp (gEq PyData.eqv) (eVar 2) (eC (.int 0)))) (sSeq (sAs (eOp gIx (eLst (aCons (eC (.str " ")) (aCons (eC (.str "\n")) (aCons (eC (.str "-")) (aCons (eC (.str "0")) (aCons (eC (.str "1")) (aCons (eC (.str "a")) (aCons (eC (.str "U")) (aCons (eC (.str ".")) (aCons (eC (.str "  ")) (aCons (eC (.str "\n\n")) aNil))))))))))) (eCall ff_law_digit (aCons (eVar 0) (aCons (eC (.int 10)) aNil)) [])) (gN 4)) (sRet (eOp gAdd (eOp gAdd (eSl (eVar 1) pNone (pSome (eVar 3))) (eVar 4)) (eSl (eVar 1) (pSome (eOp gAdd (eVar 3) (eCall ff_law_digit (aCons (eVar 0) (aCons (eC (.int 2)) aNil)) []))) pNone)))) sNil) (sSeq (sIf (tV (eOp (gEq PyData.eqv) (eVar 2) (eC (.int 1)))) (sRet (eSl (eVar 1) pNone (pSome (eVar 3)))) sNil) bentB))
theorem bent_gg : gg_law_bent = (sSeq (sAs (eCall ff_law_digit (aCons (eVar 0) (aCons (eC (.int 9)) aNil)) []) (gN 2)) (sSeq (sAs (eCall ff_law_digit (aCons (eVar 0) (aCons (eOp gAdd (eB gLen (aCons (eVar 1) aNil)) (eC (.int 1))) aNil)) []) (gN 3)) bentA)) := rfl
theorem bent_ok {n N : Nat} {x : Str} {B : Int} {M : Mh} (hx : Tx N x) (hN : N ≤ 380) (h : At n B M) (hB : B < 2 ^ 54) :
    ∃ y M', ff_law_bent [.ref n, .str x] M = some (.str y, M') ∧ Tx (2 * N + 20) y ∧ At n (B + 100) M' := by
  have lx : x.length ≤ 1000000 := Nat.le_trans hx.1 (by omega)
  have lx' := hx.1
  obtain ⟨w, M1, e1, w1, p1⟩ := dgN (many := 9) (δ := [some (.ref n), some (.str x), none, none, none, none, none, none, none, none, none, none, none]) rfl h (by omega) (by decide) (by decide)
  have lm : eOp gAdd (eB gLen (aCons (eVar 1) aNil)) (eC (.int 1)) [some (.ref n), some (.str x), some (.int w), none, none, none, none, none, none, none, none, none, none] M1 = some (.int ((x.length + 1 : Nat) : Int), M1) := op_of (len_sp rfl lx) x_eC rfl
  obtain ⟨g, M2, e2, p2, g1, _⟩ := dgE (i := 0) (δ := [some (.ref n), some (.str x), some (.int w), none, none, none, none, none, none, none, none, none, none]) (many := (x.length + 1 : Nat)) rfl lm p1 (by omega) (by omega) (by omega)
  have tst : ∀ (j : Int) (r : Pl.Env) (K : Mh), tV (eOp (gEq PyData.eqv) (eVar 2) (eC (.int j))) (some (.ref n) :: some (.str x) :: some (.int w) :: r) K = some (decide ((w : Int) = j), K) := fun j r K => v_bl (op_of rfl x_eC (eq_int _ _ _))
  -- the beginning
  have run : ∀ (y : Str) (M' : Mh), Tx (2 * N + 20) y → At n (B + 100) M' → bentA [some (.ref n), some (.str x), some (.int w), some (.int g), none, none, none, none, none, none, none, none, none] M2 = some (.rt (.str y) M') →
      ∃ y M', ff_law_bent [.ref n, .str x] M = some (.str y, M') ∧ Tx (2 * N + 20) y ∧ At n (B + 100) M' := fun y M' h1 h2 h3 => by
    refine ⟨y, M', fn_rt ?_, h1, h2⟩
    show gg_law_bent [some (.ref n), some (.str x), none, none, none, none, none, none, none, none, none, none, none] M = _
    rw [bent_gg]
    exact seq_as (M1 := M1) (δ' := [some (.ref n), some (.str x), some (.int w), none, none, none, none, none, none, none, none, none, none]) e1 rfl (seq_as (M1 := M2) (δ' := [some (.ref n), some (.str x), some (.int w), some (.int g), none, none, none, none, none, none, none, none, none]) e2 rfl h3)
  by_cases h0 : (w : Int) = 0
  · -- a sign put in
    obtain ⟨f, M3, e3, f1, p3⟩ := dgN (many := 10) (δ := [some (.ref n), some (.str x), some (.int w), some (.int g), none, none, none, none, none, none, none, none, none]) rfl p2 (by omega) (by decide) (by decide)
    have fl : f < SGNS.length := by show f < 10; omega
    have sw := sgns_w (List.getElem_mem fl)
    have e4 : eOp gIx (eLst (aCons (eC (.str " ")) (aCons (eC (.str "\n")) (aCons (eC (.str "-")) (aCons (eC (.str "0")) (aCons (eC (.str "1")) (aCons (eC (.str "a")) (aCons (eC (.str "U")) (aCons (eC (.str ".")) (aCons (eC (.str "  ")) (aCons (eC (.str "\n\n")) aNil))))))))))) (eCall ff_law_digit (aCons (eVar 0) (aCons (eC (.int 10)) aNil)) []) [some (.ref n), some (.str x), some (.int w), some (.int g), none, none, none, none, none, none, none, none, none] M2 = some (.str SGNS[f], M3) := by
      refine op_of (M1 := M2) (M2 := M3) (a := .lst (SGNS.map D.str)) (b := .int f) (x_eLst (ds := SGNS.map D.str) (cons_of x_eC (cons_of x_eC (cons_of x_eC (cons_of x_eC (cons_of x_eC (cons_of x_eC (cons_of x_eC (cons_of x_eC (cons_of x_eC (cons_of x_eC x_aNil)))))))))) (by decide)) e3 ?_
      rw [ix_lst (by rw [List.length_map]; exact fl), List.getElem_map]
    generalize SGNS[f] = z at sw e4
    obtain ⟨q, M4, e5, q1, p4⟩ := dgN (many := 2) (δ := [some (.ref n), some (.str x), some (.int w), some (.int g), some (.str z), none, none, none, none, none, none, none, none]) rfl p3 (by omega) (by decide) (by decide)
    have c1 : eSl (eVar 1) pNone (pSome (eVar 3)) [some (.ref n), some (.str x), some (.int w), some (.int g), some (.str z), none, none, none, none, none, none, none, none] M3 = some (.str (L2.cutS x none (some (g : Int))), M3) := sl_of (M1 := M3) (M2 := M3) lx rfl pN (ps_of rfl)
    have c2 : eSl (eVar 1) (pSome (eOp gAdd (eVar 3) (eCall ff_law_digit (aCons (eVar 0) (aCons (eC (.int 2)) aNil)) []))) pNone [some (.ref n), some (.str x), some (.int w), some (.int g), some (.str z), none, none, none, none, none, none, none, none] M3 = some (.str (L2.cutS x (some ((g : Int) + q)) none), M4) := sl_of (M1 := M3) (M2 := M4) lx rfl (ps_of (op_of rfl e5 rfl)) pN
    have k1 := cut_w hx none (some (g : Int))
    have k2 := cut_w hx (some ((g : Int) + q)) none
    have k3 := app_w k1 sw
    have k4 := app_w k3 k2
    refine run (L2.cutS x none (some (g : Int)) ++ z ++ L2.cutS x (some ((g : Int) + q)) none) M4 (Tx.mono (n := N + 2 + N) ⟨k4.1, k4.2⟩ (by omega)) (p4.up (by omega)) ?_
    unfold bentA
    refine seq_if1 (M1 := M2) ((tst 0 _ _).trans (by rw [decide_eq_true h0])) ?_
    refine seq_as (M1 := M3) e4 rfl (ret_of (op_of (M1 := M3) (M2 := M4) (add_of c1 rfl k1 sw (by omega)) c2 (add_str k3 k2 (by omega))))
  have t0 := fun r K => (tst 0 r K).trans (by rw [decide_eq_false h0])
  by_cases h1 : (w : Int) = 1
  · have c1 : eSl (eVar 1) pNone (pSome (eVar 3)) [some (.ref n), some (.str x), some (.int w), some (.int g), none, none, none, none, none, none, none, none, none] M2 = some (.str (L2.cutS x none (some (g : Int))), M2) := sl_of (M1 := M2) (M2 := M2) lx rfl pN (ps_of rfl)
    have k1 := cut_w hx none (some (g : Int))
    refine run (L2.cutS x none (some (g : Int))) M2 (Tx.mono (n := N) ⟨k1.1, k1.2⟩ (by omega)) (p2.up (by omega)) ?_
    unfold bentA
    exact seq_if0 (M1 := M2) (t0 _ _) (seq_if1 (M1 := M2) ((tst 1 _ _).trans (by rw [decide_eq_true h1])) (ret_of c1))
  have t1 := fun r K => (tst 1 r K).trans (by rw [decide_eq_false h1])
  -- the rows
  have txs := hx.spN
  have hne := ne_N x
  have eN : eS1 gSplit (eVar 1) (eC (.str "\n")) [some (.ref n), some (.str x), some (.int w), some (.int g), none, none, none, none, none, none, none, none, none] M2 = some (.lst ((Txt.split x "\n").map D.str), M2) := splitN_of lx rfl
  generalize Txt.split x "\n" = W at txs hne eN
  have lW := txs.len
  have W1 : 0 < W.length := Nat.pos_of_ne_zero fun e => hne (List.length_eq_zero_iff.mp e)
  obtain ⟨s, M3, e3, p3, s1, _⟩ := dgE (i := 0) (δ := [some (.ref n), some (.str x), some (.int w), some (.int g), none, some (.lst (W.map D.str)), none, none, none, none, none, none, none]) (many := (W.length : Nat)) rfl (len_S (f := eVar 5) rfl) p2 (by omega) (by omega) (by omega)
  have sl : s < W.length := by omega
  have parts := wt_parts sl
  have wW := txs.1
  have okT : ∀ y ∈ W.take s, SOk y := fun y hy => txs.2 y (List.mem_of_mem_take hy)
  have okD : ∀ k, ∀ y ∈ W.drop k, SOk y := fun k y hy => txs.2 y (List.mem_of_mem_drop hy)
  have okS : SOk W[s] := txs.2 _ (List.getElem_mem sl)
  have run2 : ∀ (y : Str) (M' : Mh), Tx (2 * N + 20) y → At n (B + 100) M' → sSeq (sIf (tV (eOp (gEq PyData.eqv) (eVar 2) (eC (.int 2)))) (sRet (eS1 gJoin (eC (.str "\n")) (eOp gAdd (eOp gAdd (eSl (eVar 5) pNone (pSome (eVar 6))) (eOp gMul (eSl (eVar 5) (pSome (eVar 6)) (pSome (eOp gAdd (eVar 6) (eC (.int 1))))) (eC (.int 2)))) (eSl (eVar 5) (pSome (eOp gAdd (eVar 6) (eC (.int 1)))) pNone)))) sNil) (sSeq (sIf (tV (eOp (gEq PyData.eqv) (eVar 2) (eC (.int 3)))) (sRet (eS1 gJoin (eC (.str "\n")) (eOp gAdd (eOp gAdd (eSl (eVar 5) pNone (pSome (eVar 6))) (eLst (aCons (eC (.str "")) aNil))) (eSl (eVar 5) (pSome (eVar 6)) pNone)))) sNil) bentC) [some (.ref n), some (.str x), some (.int w), some (.int g), none, some (.lst (W.map D.str)), some (.int s), none, none, none, none, none, none] M3 = some (.rt (.str y) M') →
      ∃ y M', ff_law_bent [.ref n, .str x] M = some (.str y, M') ∧ Tx (2 * N + 20) y ∧ At n (B + 100) M' := fun y M' h1 h2 h3 => by
    refine run y M' h1 h2 ?_
    unfold bentA
    refine seq_if0 (M1 := M2) (t0 _ _) (seq_if0 (M1 := M2) (t1 _ _) ?_)
    unfold bentB
    exact seq_as (M1 := M2) (δ' := [some (.ref n), some (.str x), some (.int w), some (.int g), none, some (.lst (W.map D.str)), none, none, none, none, none, none, none]) eN rfl (seq_as (M1 := M3) (δ' := [some (.ref n), some (.str x), some (.int w), some (.int g), none, some (.lst (W.map D.str)), some (.int s), none, none, none, none, none, none]) e3 rfl h3)
  have v5 : ∀ (r : Pl.Env) (K : Mh), eVar 5 (some (.ref n) :: some (.str x) :: some (.int w) :: some (.int g) :: none :: some (.lst (W.map D.str)) :: some (.int s) :: r) K = some (.lst (W.map D.str), K) := fun r K => rfl
  have v6 : ∀ (r : Pl.Env) (K : Mh), eVar 6 (some (.ref n) :: some (.str x) :: some (.int w) :: some (.int g) :: none :: some (.lst (W.map D.str)) :: some (.int s) :: r) K = some (.int s, K) := fun r K => rfl
  have v61 : ∀ (r : Pl.Env) (K : Mh), eOp gAdd (eVar 6) (eC (.int 1)) (some (.ref n) :: some (.str x) :: some (.int w) :: some (.int g) :: none :: some (.lst (W.map D.str)) :: some (.int s) :: r) K = some (.int ((s + 1 : Nat) : Int), K) := fun r K => op_of rfl x_eC rfl
  have sT : ∀ (r : Pl.Env) (K : Mh), eSl (eVar 5) pNone (pSome (eVar 6)) (some (.ref n) :: some (.str x) :: some (.int w) :: some (.int g) :: none :: some (.lst (W.map D.str)) :: some (.int s) :: r) K = some (.lst ((W.take s).map D.str), K) := fun r K => by
    have := slS (v5 r K) (pN) (pS (v6 r K))
    rw [cut_hi] at this; exact this
  have sD : ∀ (r : Pl.Env) (K : Mh), eSl (eVar 5) (pSome (eVar 6)) pNone (some (.ref n) :: some (.str x) :: some (.int w) :: some (.int g) :: none :: some (.lst (W.map D.str)) :: some (.int s) :: r) K = some (.lst ((W.drop s).map D.str), K) := fun r K => by
    have := slS (v5 r K) (pS (v6 r K)) (pN)
    rw [cut_lo] at this; exact this
  have sD1 : ∀ (r : Pl.Env) (K : Mh), eSl (eVar 5) (pSome (eOp gAdd (eVar 6) (eC (.int 1)))) pNone (some (.ref n) :: some (.str x) :: some (.int w) :: some (.int g) :: none :: some (.lst (W.map D.str)) :: some (.int s) :: r) K = some (.lst ((W.drop (s + 1)).map D.str), K) := fun r K => by
    have := slS (v5 r K) (pS (v61 r K)) (pN)
    rw [cut_lo] at this; exact this
  have sM : ∀ (r : Pl.Env) (K : Mh), eSl (eVar 5) (pSome (eVar 6)) (pSome (eOp gAdd (eVar 6) (eC (.int 1)))) (some (.ref n) :: some (.str x) :: some (.int w) :: some (.int g) :: none :: some (.lst (W.map D.str)) :: some (.int s) :: r) K = some (.lst (([W[s]] : List Str).map D.str), K) := fun r K => by
    have := slS (v5 r K) (pS (v6 r K)) (pS (v61 r K))
    rw [cut_mid W s sl] at this; exact this
  have lT : (W.take s).length ≤ 400 := by rw [List.length_take]; omega
  have lD : ∀ k, (W.drop k).length ≤ 400 := fun k => by rw [List.length_drop]; omega
  have wD : wt (W.drop s) = W[s].length + 1 + wt (W.drop (s + 1)) := by rw [List.drop_eq_getElem_cons sl, wt_cons]
  by_cases h2 : (w : Int) = 2
  · have tx : Txs (2 * N + 2) (W.take s ++ ([W[s]] ++ [W[s]]) ++ W.drop (s + 1)) := by
      refine ⟨?_, fun y hy => ?_⟩
      · rw [wt_app, wt_app, wt_app, wt_cons, wt_nil]; omega
      · simp only [List.mem_append, List.mem_singleton] at hy
        rcases hy with (hy | hy | hy) | hy
        · exact okT y hy
        · rw [hy]; exact okS
        · rw [hy]; exact okS
        · exact okD _ y hy
    refine run2 (Txt.join "\n" (W.take s ++ ([W[s]] ++ [W[s]]) ++ W.drop (s + 1))) M3 (tx.jN.mono (by omega)) (p3.up (by omega)) ?_
    refine seq_if1 (M1 := M3) ((tst 2 _ _).trans (by rw [decide_eq_true h2])) (ret_of (join_W (by decide +kernel) (Nat.le_trans tx.1 (by omega)) (add_S (add_S (sT _ _) (mul2_S (sM _ _) (by simp)) (by simp; omega)) (sD1 _ _) (by have := lD (s + 1); simp; omega))))
  have t2 := fun r K => (tst 2 r K).trans (by rw [decide_eq_false h2])
  by_cases h3 : (w : Int) = 3
  · have tx : Txs (2 * N + 2) (W.take s ++ [("" : Str)] ++ W.drop s) := by
      refine ⟨?_, fun y hy => ?_⟩
      · rw [wt_app, wt_app, wt_cons, wt_nil, show ("" : Str).length = 0 by decide +kernel]; omega
      · simp only [List.mem_append, List.mem_singleton] at hy
        rcases hy with (hy | hy) | hy
        · exact okT y hy
        · rw [hy]; exact fun s hs => by rw [tnil] at hs; cases hs
        · exact okD _ y hy
    refine run2 (Txt.join "\n" (W.take s ++ [("" : Str)] ++ W.drop s)) M3 (tx.jN.mono (by omega)) (p3.up (by omega)) ?_
    refine seq_if0 (M1 := M3) (t2 _ _) (seq_if1 (M1 := M3) ((tst 3 _ _).trans (by rw [decide_eq_true h3])) (ret_of (join_W (by decide +kernel) (Nat.le_trans tx.1 (by omega)) (add_S (add_S (sT _ _) (x_eLst (ds := [.str ""]) (cons_of x_eC x_aNil) (by simp)) (by simp; omega)) (sD _ _) (by have := lD s; simp; omega)))))
  have t3 := fun r K => (tst 3 r K).trans (by rw [decide_eq_false h3])
  -- a word
  have txB := (Tx.mono (n := N) ⟨by omega, okS⟩ (Nat.le_refl _) : Tx N W[s]).spB
  have wB := wt_B W[s]
  have eB' : eS1 gSplit (eOp gIx (eVar 5) (eVar 6)) (eC (.str " ")) [some (.ref n), some (.str x), some (.int w), some (.int g), none, some (.lst (W.map D.str)), some (.int s), none, none, none, none, none, none] M3 = some (.lst ((Txt.split W[s] " ").map D.str), M3) := split_of (by have := txB.1; omega) (op_of rfl rfl (ix_at (List.getElem?_eq_getElem sl)))
  generalize Txt.split W[s] " " = V at txB wB eB'
  have lV := txB.len
  obtain ⟨j, M4, e4, p4, j1, _⟩ := dgE (i := 0) (δ := [some (.ref n), some (.str x), some (.int w), some (.int g), none, some (.lst (W.map D.str)), some (.int s), some (.lst (V.map D.str)), none, none, none, none, none]) (fm := eOp gAdd (eB gLen (aCons (eVar 7) aNil)) (eC (.int 1))) (many := ((V.length + 1 : Nat) : Int)) rfl (op_of (len_S (f := eVar 7) rfl) x_eC rfl) p3 (by omega) (by omega) (by omega)
  obtain ⟨f, M5, e5, f1, p5⟩ := dgN (many := 21) (δ := [some (.ref n), some (.str x), some (.int w), some (.int g), none, some (.lst (W.map D.str)), some (.int s), some (.lst (V.map D.str)), some (.int j), some (.lst (WRDS.map D.str)), none, none, none]) rfl p4 (by omega) (by decide) (by decide)
  have fl : f < WRDS2.length := by show f < 21; omega
  have sw := wrds_w (List.getElem_mem fl)
  have e6 : eOp gIx (eOp gAdd (eVar 9) (eLst (aCons (eC (.str "99")) (aCons (eC (.str "+1")) (aCons (eC (.str "1.0")) aNil))))) (eCall ff_law_digit (aCons (eVar 0) (aCons (eC (.int 21)) aNil)) []) [some (.ref n), some (.str x), some (.int w), some (.int g), none, some (.lst (W.map D.str)), some (.int s), some (.lst (V.map D.str)), some (.int j), some (.lst (WRDS.map D.str)), none, none, none] M4 = some (.str WRDS2[f], M5) := by
    refine op_of (M1 := M4) (M2 := M5) (a := .lst (WRDS2.map D.str)) (b := .int f) (add_S (P := WRDS) (Q := ["99", "+1", "1.0"]) rfl (x_eLst (ds := [.str "99", .str "+1", .str "1.0"]) (cons_of x_eC (cons_of x_eC (cons_of x_eC x_aNil))) (by simp)) (by decide)) e5 ?_
    rw [ix_lst (by rw [List.length_map]; exact fl), List.getElem_map]
  generalize WRDS2[f] = z at sw e6
  have zw := sw.1
  have cA : wt (V.take j) + wt (V.drop j) = wt V := by rw [← wt_app, List.take_append_drop]
  have cC : wt ((V.drop j).drop 1) ≤ wt (V.drop j) := by
    have : wt ((V.drop j).take 1) + wt ((V.drop j).drop 1) = wt (V.drop j) := by rw [← wt_app, List.take_append_drop]
    omega
  have oA : ∀ y ∈ V.take j, SOk y := fun y hy => txB.2 y (List.mem_of_mem_take hy)
  have oC : ∀ y ∈ V.drop j, SOk y := fun y hy => txB.2 y (List.mem_of_mem_drop hy)
  have oE : ∀ y ∈ (V.drop j).drop 1, SOk y := fun y hy => oC y (List.mem_of_mem_drop hy)
  have nA : (V.take j).length ≤ 400 := by rw [List.length_take]; omega
  have nC : (V.drop j).length ≤ 400 := by rw [List.length_drop]; omega
  have nE : ((V.drop j).drop 1).length ≤ 400 := by rw [List.length_drop]; omega
  have sA : eSl (eVar 7) pNone (pSome (eVar 8)) [some (.ref n), some (.str x), some (.int w), some (.int g), none, some (.lst (W.map D.str)), some (.int s), some (.lst (V.map D.str)), some (.int j), some (.lst (WRDS.map D.str)), some (.str z), none, none] M5 = some (.lst ((V.take j).map D.str), M5) := by
    have := slS (W := V) (f := eVar 7) (δ := [some (.ref n), some (.str x), some (.int w), some (.int g), none, some (.lst (W.map D.str)), some (.int s), some (.lst (V.map D.str)), some (.int j), some (.lst (WRDS.map D.str)), some (.str z), none, none]) (M := M5) (hi := some (j : Int)) rfl (pN) (pS (f := eVar 8) rfl)
    rw [cut_hi] at this; exact this
  have sC : eSl (eVar 7) (pSome (eVar 8)) pNone [some (.ref n), some (.str x), some (.int w), some (.int g), none, some (.lst (W.map D.str)), some (.int s), some (.lst (V.map D.str)), some (.int j), some (.lst (WRDS.map D.str)), some (.str z), none, none] M5 = some (.lst ((V.drop j).map D.str), M5) := by
    have := slS (W := V) (f := eVar 7) (δ := [some (.ref n), some (.str x), some (.int w), some (.int g), none, some (.lst (W.map D.str)), some (.int s), some (.lst (V.map D.str)), some (.int j), some (.lst (WRDS.map D.str)), some (.str z), none, none]) (M := M5) (lo := some (j : Int)) rfl (pS (f := eVar 8) rfl) (pN)
    rw [cut_lo] at this; exact this
  generalize V.take j = A at cA oA nA sA
  generalize V.drop j = C at cA cC oC oE nC nE sC
  have sE : eSl (eVar 12) (pSome (eC (.int 1))) pNone [some (.ref n), some (.str x), some (.int w), some (.int g), none, some (.lst (W.map D.str)), some (.int s), some (.lst (V.map D.str)), some (.int j), some (.lst (WRDS.map D.str)), some (.str z), some (.lst (A.map D.str)), some (.lst (C.map D.str))] M5 = some (.lst ((C.drop 1).map D.str), M5) := sl1_S rfl
  generalize C.drop 1 = E at cC oE nE sE
  have vA : ∀ K, eVar 11 [some (.ref n), some (.str x), some (.int w), some (.int g), none, some (.lst (W.map D.str)), some (.int s), some (.lst (V.map D.str)), some (.int j), some (.lst (WRDS.map D.str)), some (.str z), some (.lst (A.map D.str)), some (.lst (C.map D.str))] K = some (.lst (A.map D.str), K) := fun K => rfl
  have vC : ∀ K, eVar 12 [some (.ref n), some (.str x), some (.int w), some (.int g), none, some (.lst (W.map D.str)), some (.int s), some (.lst (V.map D.str)), some (.int j), some (.lst (WRDS.map D.str)), some (.str z), some (.lst (A.map D.str)), some (.lst (C.map D.str))] K = some (.lst (C.map D.str), K) := fun K => rfl
  have vZ : ∀ K, eLst (aCons (eVar 10) aNil) [some (.ref n), some (.str x), some (.int w), some (.int g), none, some (.lst (W.map D.str)), some (.int s), some (.lst (V.map D.str)), some (.int j), some (.lst (WRDS.map D.str)), some (.str z), some (.lst (A.map D.str)), some (.lst (C.map D.str))] K = some (.lst (([z] : List Str).map D.str), K) := fun K => x_eLst (ds := [.str z]) (cons_of rfl x_aNil) (by simp)
  have all : ∀ U ∈ [A ++ [z] ++ E, A ++ [z] ++ C, A ++ E, A, C], wt U ≤ wt V + 6 ∧ ∀ y ∈ U, SOk y := fun U hU => by
    simp only [List.mem_cons, List.not_mem_nil, or_false] at hU
    have az : wt [z] ≤ 6 := by rw [wt_cons, wt_nil]; omega
    have mem : ∀ {P Q : List Str}, (∀ y ∈ P, SOk y) → (∀ y ∈ Q, SOk y) → ∀ y ∈ P ++ Q, SOk y := fun a b y hy => by
      rcases List.mem_append.mp hy with t | t
      · exact a y t
      · exact b y t
    have oZ : ∀ y ∈ [z], SOk y := fun y hy => by rw [List.mem_singleton.mp hy]; exact sw.2
    rcases hU with e | e | e | e | e <;> rw [e]
    · exact ⟨by rw [wt_app, wt_app]; omega, mem (mem oA oZ) oE⟩
    · exact ⟨by rw [wt_app, wt_app]; omega, mem (mem oA oZ) oC⟩
    · exact ⟨by rw [wt_app]; omega, mem oA oE⟩
    · exact ⟨by omega, oA⟩
    · exact ⟨by omega, oC⟩
  have ul : w - 4 < [A ++ [z] ++ E, A ++ [z] ++ C, A ++ E, A, C].length := by show w - 4 < 5; omega
  obtain ⟨uw, uo⟩ := all _ (List.getElem_mem ul)
  have e7 : eOp gIx (eLst (aCons (eOp gAdd (eOp gAdd (eVar 11) (eLst (aCons (eVar 10) aNil))) (eSl (eVar 12) (pSome (eC (.int 1))) pNone)) (aCons (eOp gAdd (eOp gAdd (eVar 11) (eLst (aCons (eVar 10) aNil))) (eVar 12)) (aCons (eOp gAdd (eVar 11) (eSl (eVar 12) (pSome (eC (.int 1))) pNone)) (aCons (eVar 11) (aCons (eVar 12) aNil)))))) (eOp (gInt fun i j => .int (i - j)) (eVar 2) (eC (.int 4))) [some (.ref n), some (.str x), some (.int w), some (.int g), none, some (.lst (W.map D.str)), some (.int s), some (.lst (V.map D.str)), some (.int j), some (.lst (WRDS.map D.str)), some (.str z), some (.lst (A.map D.str)), some (.lst (C.map D.str))] M5 = some (.lst (([A ++ [z] ++ E, A ++ [z] ++ C, A ++ E, A, C][w - 4]).map D.str), M5) := by
    refine op_of (M1 := M5) (M2 := M5) (a := .lst ([A ++ [z] ++ E, A ++ [z] ++ C, A ++ E, A, C].map fun U => D.lst (U.map D.str))) (b := .int ((w - 4 : Nat) : Int)) ?_ (op_of rfl x_eC ?_) ?_
    · exact x_eLst (ds := [A ++ [z] ++ E, A ++ [z] ++ C, A ++ E, A, C].map fun U => D.lst (U.map D.str)) (cons_of (add_S (add_S (vA _) (vZ _) (by simp; omega)) sE (by simp; omega)) (cons_of (add_S (add_S (vA _) (vZ _) (by simp; omega)) (vC _) (by simp; omega)) (cons_of (add_S (vA _) sE (by omega)) (cons_of (vA _) (cons_of (vC _) x_aNil))))) (by simp)
    · show some (D.int ((w : Int) - 4), M5) = _
      rw [show ((w - 4 : Nat) : Int) = (w : Int) - 4 by omega]
    · rw [ix_lst (by rw [List.length_map]; exact ul), List.getElem_map]
  generalize [A ++ [z] ++ E, A ++ [z] ++ C, A ++ E, A, C][w - 4] = U at uw uo e7
  have uj : Tx (wt V + 6) (Txt.join " " U) := Txs.jB ⟨uw, uo⟩
  have uj1 := uj.1
  have ej : eS1 gJoin (eC (.str " ")) (eVar 7) [some (.ref n), some (.str x), some (.int w), some (.int g), none, some (.lst (W.map D.str)), some (.int s), some (.lst (U.map D.str)), some (.int j), some (.lst (WRDS.map D.str)), some (.str z), some (.lst (A.map D.str)), some (.lst (C.map D.str))] M5 = some (.str (Txt.join " " U), M5) := join_W (by decide +kernel) (by have := txB.1; omega) rfl
  have tx : Txs (2 * N + 20) (W.take s ++ [Txt.join " " U] ++ W.drop (s + 1)) := by
    refine ⟨?_, fun y hy => ?_⟩
    · rw [wt_app, wt_app, wt_cons, wt_nil]; omega
    · simp only [List.mem_append, List.mem_singleton] at hy
      rcases hy with (hy | hy) | hy
      · exact okT y hy
      · rw [hy]; exact uj.2
      · exact okD _ y hy
  refine run2 (Txt.join "\n" (W.take s ++ [Txt.join " " U] ++ W.drop (s + 1))) M5 (tx.jN.mono (by omega)) (p5.up (by omega)) ?_
  refine seq_if0 (M1 := M3) (t2 _ _) (seq_if0 (M1 := M3) (t3 _ _) ?_)
  unfold bentC
  refine seq_as (M1 := M3) (δ' := [some (.ref n), some (.str x), some (.int w), some (.int g), none, some (.lst (W.map D.str)), some (.int s), some (.lst (V.map D.str)), none, none, none, none, none]) eB' rfl ?_
  refine seq_as (M1 := M4) (δ' := [some (.ref n), some (.str x), some (.int w), some (.int g), none, some (.lst (W.map D.str)), some (.int s), some (.lst (V.map D.str)), some (.int j), none, none, none, none]) e4 rfl ?_
  refine seq_as (M1 := M4) (δ' := [some (.ref n), some (.str x), some (.int w), some (.int g), none, some (.lst (W.map D.str)), some (.int s), some (.lst (V.map D.str)), some (.int j), some (.lst (WRDS.map D.str)), none, none, none]) (x_eLst (ds := WRDS.map D.str) (cons_of x_eC (cons_of x_eC (cons_of x_eC (cons_of x_eC (cons_of x_eC (cons_of x_eC (cons_of x_eC (cons_of x_eC (cons_of x_eC (cons_of x_eC (cons_of x_eC (cons_of x_eC (cons_of x_eC (cons_of x_eC (cons_of x_eC (cons_of x_eC (cons_of x_eC (cons_of x_eC x_aNil)))))))))))))))))) (by decide)) rfl ?_
  refine seq_as (M1 := M5) (δ' := [some (.ref n), some (.str x), some (.int w), some (.int g), none, some (.lst (W.map D.str)), some (.int s), some (.lst (V.map D.str)), some (.int j), some (.lst (WRDS.map D.str)), some (.str z), none, none]) e6 rfl ?_
  refine seq_nx (par_of sA sC) ?_
  refine seq_as (M1 := M5) (δ' := [some (.ref n), some (.str x), some (.int w), some (.int g), none, some (.lst (W.map D.str)), some (.int s), some (.lst (U.map D.str)), some (.int j), some (.lst (WRDS.map D.str)), some (.str z), some (.lst (A.map D.str)), some (.lst (C.map D.str))]) e7 rfl ?_
  exact ret_of (join_W (by decide +kernel) (Nat.le_trans tx.1 (by omega)) (add_S (add_S (sT _ _) (x_eLst (ds := [.str (Txt.join " " U)]) (cons_of ej x_aNil) (by simp)) (by simp; omega)) (sD1 _ _) (by have := lD (s + 1); simp; omega)))
end Law

namespace Law
open PySem L2 Pl Pl.Ev
noncomputable def turnS (ct : CT) : SF := (sSeq (sAs (eCall ff_law_bent (aCons (eVar 3) (aCons (eVar 4) aNil)) []) (gN 7)) (sSeq (sAs (eIf (tV (eOp (gEq PyData.eqv) (eCall ff_law_digit (aCons (eVar 3) (aCons (eC (.int 3)) aNil)) []) (eC (.int 0)))) (eCall ff_law_bent (aCons (eVar 3) (aCons (eVar 7) aNil)) []) (eVar 7)) (gN 7)) (sIf (tV (eOp (gEq fun p q => !PyData.eqv p q) (eB gRepr (aCons (eCall (ff_law_said ct) (aCons (eVar 7) aNil) []) aNil)) (eB gRepr (aCons (eCall ff_law_due (aCons (eVar 7) aNil) []) aNil)))) (sRet (eC (.bl false))) sNil)))
noncomputable def cellS (ct : CT) : SF := (sSeq (sAs (eCall ff_law_draw (aCons (eVar 2) (aCons (eVar 1) aNil)) []) (gN 3)) (sSeq (sAs (eS1 gJoin (eC (.str "\n")) (eLc [5] (aRng1 (aCons (eCall ff_law_digit (aCons (eVar 3) (aCons (eC (.int 7)) aNil)) []) aNil)) (gN 5) tTrue (eCall ff_law_row (aCons (eCall ff_law_any_step (aCons (eVar 3) aNil) []) aNil) []))) (gN 4)) (sSeq (sIf (tV (eOp (gEq fun p q => !PyData.eqv p q) (eB gRepr (aCons (eCall (ff_law_said ct) (aCons (eVar 4) aNil) []) aNil)) (eB gRepr (aCons (eCall ff_law_due (aCons (eVar 4) aNil) []) aNil)))) (sRet (eC (.bl false))) sNil) (sSeq (sFor (aRng1 (aCons (eC (.int 8)) aNil)) (gN 6) (turnS ct)) (sSeq (sAs (eOp gIx (eLst (aCons (eC .non) (aCons (eC (.int 5)) (aCons (eTup (aCons (eC (.str "up")) aNil)) (aCons (eLst (aCons (eC (.str "up")) aNil)) (aCons (eC (.bl true)) aNil)))))) (eCall ff_law_digit (aCons (eVar 3) (aCons (eC (.int 5)) aNil)) [])) (gN 8)) (sIf (tV (eOp (gEq fun p q => !PyData.eqv p q) (eCall (ff_law_said ct) (aCons (eVar 8) aNil) []) (eTup (aCons (eC (.int 0)) (aCons (eC (.int 0)) aNil))))) (sRet (eC (.bl false))) sNil))))))
theorem law_gg (ct : CT) : gg_law ct = (sSeq (sFor (aEnum (aCons (eOp gAdd (eSl (eVar 0) pNone (pSome (eC (.int 6)))) (eLst (aCons (eB gSum (aCons (eVar 0) aNil)) aNil))) aNil)) (gTp (gsCons (gN 1) (gsCons (gN 2) gsNil))) (cellS ct)) (sRet (eC (.bl true)))) := rfl
/-! the law -/
theorem texts_go {n : Nat} {δ : Pl.Env} (h3 : δ[3]? = some (some (.ref n))) : ∀ (ds : List D) (B : Int) (M : Mh), At n B M → B + 100 * ds.length < 2 ^ 53 →
    ∃ (W : List Str) (M' : Mh), lcGo (gN 5) tTrue (eCall ff_law_row (aCons (eCall ff_law_any_step (aCons (eVar 3) aNil) []) aNil) []) ds δ M = some (W.map D.str, M') ∧ wt W ≤ 27 * ds.length ∧ W.length = ds.length ∧ (∀ y ∈ W, SOk y) ∧ At n (B + 100 * ds.length) M' := fun ds => by
  induction ds with
  | nil => exact fun B M h _ => ⟨[], M, lcN_, by simp [wt_nil], rfl, (fun y hy => by cases hy), by simpa using h⟩
  | cons d ds ih =>
    intro B M h hB
    rw [List.length_cons] at hB
    have h3' : (δ.set 5 (some d))[3]? = some (some (.ref n)) := by rw [List.getElem?_set_ne (by decide)]; exact h3
    obtain ⟨s, M1, e1, s1, p1⟩ := step_ok h (by omega)
    obtain ⟨x, ex, tx⟩ := lrow_ok (M := M1) s1
    obtain ⟨W, M2, e2, w2, l2, o2, p2⟩ := ih (B + 100) M1 p1 (by omega)
    refine ⟨x :: W, M2, ?_, ?_, by rw [List.length_cons, List.length_cons, l2], (fun y hy => ?_), p2.up (by rw [List.length_cons]; omega)⟩
    · rw [List.map_cons]
      exact lcC_ (x := true) (M1 := M) (δ1 := δ.set 5 (some d)) rfl tt_ (lcY_ (p := gN 5) (t := tTrue) (ds := ds) (δ := δ) (δ1 := δ.set 5 (some d)) (call_of (cons_of (call_of (cons_of (var_ h3') x_aNil) e1) x_aNil) ex) e2)
    · rw [wt_cons, List.length_cons]; have := tx.1; omega
    · rcases List.mem_cons.mp hy with e | hy
      · rw [e]; exact tx.2
      · exact o2 y hy
theorem turn_ok {ct : CT} (hI : Isa ct) {n : Nat} {x : Str} {B : Int} {M : Mh} (hx : Tx 162 x) (h : At n B M) (hB : B < 2 ^ 50) (s0 s1 s2 s5 s6 s7 s8 : Option D) :
    ∃ (y7 : Option D) (M' : Mh), turnS ct [s0, s1, s2, some (.ref n), some (.str x), s5, s6, s7, s8] M = some (.nx [s0, s1, s2, some (.ref n), some (.str x), s5, s6, y7, s8] M') ∧ At n (B + 300) M' := by
  obtain ⟨y, M1, e1, ty, p1⟩ := bent_ok hx (by decide) h (by omega)
  obtain ⟨f, M2, e2, p2, f1, _⟩ := dgE (i := 3) (fm := eC (.int 3)) (δ := [s0, s1, s2, some (.ref n), some (.str x), s5, s6, some (.str y), s8]) rfl x_eC p1 (by omega) (by decide) (by decide)
  have fin : ∀ (z : Str) (M3 : Mh), Tx 708 z → At n (B + 300) M3 → eIf (tV (eOp (gEq PyData.eqv) (eCall ff_law_digit (aCons (eVar 3) (aCons (eC (.int 3)) aNil)) []) (eC (.int 0)))) (eCall ff_law_bent (aCons (eVar 3) (aCons (eVar 7) aNil)) []) (eVar 7) [s0, s1, s2, some (.ref n), some (.str x), s5, s6, some (.str y), s8] M1 = some (.str z, M3) → ∃ (y7 : Option D) (M' : Mh), turnS ct [s0, s1, s2, some (.ref n), some (.str x), s5, s6, s7, s8] M = some (.nx [s0, s1, s2, some (.ref n), some (.str x), s5, s6, y7, s8] M') ∧ At n (B + 300) M' := fun z M3 tz pz ez => by
    obtain ⟨l, e⟩ := look_same hI (x := z) (tz.mono (by decide)) (δ := [s0, s1, s2, some (.ref n), some (.str x), s5, s6, some (.str z), s8]) (i := 7) (M := M3) rfl
    refine ⟨some (.str z), M3 ++ l, ?_, pz.apps l⟩
    unfold turnS
    refine seq_as (M1 := M1) (δ' := [s0, s1, s2, some (.ref n), some (.str x), s5, s6, some (.str y), s8]) (call_of (cons_of rfl (cons_of rfl x_aNil)) e1) rfl ?_
    exact seq_as (M1 := M3) (δ' := [s0, s1, s2, some (.ref n), some (.str x), s5, s6, some (.str z), s8]) ez rfl (if_ff e nil_of)
  have t : tV (eOp (gEq PyData.eqv) (eCall ff_law_digit (aCons (eVar 3) (aCons (eC (.int 3)) aNil)) []) (eC (.int 0))) [s0, s1, s2, some (.ref n), some (.str x), s5, s6, some (.str y), s8] M1 = some (decide ((f : Int) = 0), M2) := v_bl (op_of e2 x_eC (eq_int _ _ _))
  by_cases h0 : (f : Int) = 0
  · rw [decide_eq_true h0] at t
    obtain ⟨z, M3, e3, tz, p3⟩ := bent_ok (N := 344) (x := y) (ty.mono (by decide)) (by decide) p2 (by omega)
    exact fin z M3 (tz.mono (by decide)) (p3.up (by omega)) (ei_tt t (call_of (cons_of rfl (cons_of rfl x_aNil)) e3))
  · rw [decide_eq_false h0] at t
    exact fin y M2 (ty.mono (by decide)) (p2.up (by omega)) (ei_ff t rfl)
theorem turns_go {ct : CT} (hI : Isa ct) {n : Nat} {x : Str} (hx : Tx 162 x) (s0 s1 s2 s5 s8 : Option D) : ∀ (ds : List D) (B : Int) (M : Mh) (s6 s7 : Option D), At n B M → B + 300 * ds.length < 2 ^ 49 →
    ∃ (y6 y7 : Option D) (M' : Mh), forGo (gN 6) (turnS ct) ds [s0, s1, s2, some (.ref n), some (.str x), s5, s6, s7, s8] M = some (.nx [s0, s1, s2, some (.ref n), some (.str x), s5, y6, y7, s8] M') ∧ At n (B + 300 * ds.length) M' := fun ds => by
  induction ds with
  | nil => exact fun B M s6 s7 h _ => ⟨s6, s7, M, forN_, by simpa using h⟩
  | cons d ds ih =>
    intro B M s6 s7 h hB
    rw [List.length_cons] at hB
    obtain ⟨a7, M1, e1, p1⟩ := turn_ok hI hx h (by omega) s0 s1 s2 s5 (some d) s7 s8
    obtain ⟨y6, y7, M2, e2, p2⟩ := ih (B + 300) M1 (some d) a7 p1 (by omega)
    exact ⟨y6, y7, M2, forC_ rfl e1 e2, p2.up (by rw [List.length_cons]; omega)⟩
theorem kit_ns : kitB "NoneType" "str" = some false := by decide +kernel
theorem kit_is : kitB "int" "str" = some false := by decide +kernel
theorem kit_ts : kitB "tuple" "str" = some false := by decide +kernel
theorem kit_ls : kitB "list" "str" = some false := by decide +kernel
theorem kit_bs : kitB "bool" "str" = some false := by decide +kernel
theorem ne_00 (M : Mh) : gEq (fun p q => !PyData.eqv p q) (.tup [.int 0, .int 0]) (.tup [.int 0, .int 0]) M = some (.bl false, M) := by
  simp [gEq, toP, deref, toPs, PyData.eqv, PyData.eqvAll, SeqAt.shaped]
  decide +kernel
def NONES : List D := [.non, .int 5, .tup [.str "up"], .lst [.str "up"], .bl true]
theorem nones_ok {d : D} (h : d ∈ NONES) : ∃ t, (∀ M, tyN M d = some t) ∧ kitB t "str" = some false := by
  unfold NONES at h
  simp only [List.mem_cons, List.not_mem_nil, or_false] at h
  rcases h with e | e | e | e | e <;> rw [e]
  · exact ⟨_, fun M => rfl, kit_ns⟩
  · exact ⟨_, fun M => rfl, kit_is⟩
  · exact ⟨_, fun M => rfl, kit_ts⟩
  · exact ⟨_, fun M => rfl, kit_ls⟩
  · exact ⟨_, fun M => rfl, kit_bs⟩
theorem cell_ok {ct : CT} (hI : Isa ct) {M : Mh} {k cl : Int} (k0 : 0 ≤ k) (k1 : k ≤ 1000) (s x3 x4 x5 x6 x7 x8 : Option D) :
    ∃ (y3 y4 y6 y7 y8 : Option D) (M' : Mh), cellS ct [s, some (.int k), some (.int cl), x3, x4, x5, x6, x7, x8] M = some (.nx [s, some (.int k), some (.int cl), y3, y4, x5, y6, y7, y8] M') := by
  obtain ⟨M1, e1, a1⟩ := draw_ok (M := M) (cell := cl) k0 k1
  generalize hn : M.length = n at e1 a1
  obtain ⟨f, M2, e2, p2, f1, _⟩ := dgE (i := 3) (fm := eC (.int 7)) (δ := [s, some (.int k), some (.int cl), some (.ref n), x4, x5, x6, x7, x8]) rfl x_eC a1 (by decide) (by decide) (by decide)
  obtain ⟨W, M3, e3, w3, l3, o3, p3⟩ := texts_go (n := n) (δ := [s, some (.int k), some (.int cl), some (.ref n), x4, none, x6, x7, x8]) rfl (rng 0 (f : Int)) (1000000 + 4) M2 p2 (by rw [rng_len]; omega)
  rw [rng_len] at w3 l3 p3
  have tx : Tx 162 (Txt.join "\n" W) := Txs.jN ⟨by omega, o3⟩
  have ej : eS1 gJoin (eC (.str "\n")) (eLc [5] (aRng1 (aCons (eCall ff_law_digit (aCons (eVar 3) (aCons (eC (.int 7)) aNil)) []) aNil)) (gN 5) tTrue (eCall ff_law_row (aCons (eCall ff_law_any_step (aCons (eVar 3) aNil) []) aNil) [])) [s, some (.int k), some (.int cl), some (.ref n), x4, x5, x6, x7, x8] M1 = some (.str (Txt.join "\n" W), M3) :=
    join_W (by decide +kernel) (by omega) (lc_ (ds := rng 0 (f : Int)) (M1 := M2) (rng1_ (j := (f : Int)) (cons_of e2 x_aNil) ⟨by omega, by omega⟩) rfl e3 (by rw [List.length_map]; omega))
  generalize Txt.join "\n" W = x at tx ej
  obtain ⟨l4, e4⟩ := look_same hI (x := x) (tx.mono (by decide)) (δ := [s, some (.int k), some (.int cl), some (.ref n), some (.str x), x5, x6, x7, x8]) (i := 4) (M := M3) rfl
  have p4 := p3.apps l4
  generalize M3 ++ l4 = M4 at e4 p4
  obtain ⟨y6, y7, M5, e5, p5⟩ := turns_go hI tx s (some (.int k)) (some (.int cl)) x5 x8 [.int 0, .int 1, .int 2, .int 3, .int 4, .int 5, .int 6, .int 7] (1000000 + 4 + 100 * 7) M4 x6 x7 (p4.up (by omega)) (by decide)
  obtain ⟨g, M6, e6, p6, g1, _⟩ := dgE (i := 3) (fm := eC (.int 5)) (δ := [s, some (.int k), some (.int cl), some (.ref n), some (.str x), x5, y6, y7, x8]) rfl x_eC p5 (by decide) (by decide) (by decide)
  have gl : g < NONES.length := by show g < 5; omega
  obtain ⟨t, t1, t2⟩ := nones_ok (List.getElem_mem gl)
  have e7 : eOp gIx (eLst (aCons (eC .non) (aCons (eC (.int 5)) (aCons (eTup (aCons (eC (.str "up")) aNil)) (aCons (eLst (aCons (eC (.str "up")) aNil)) (aCons (eC (.bl true)) aNil)))))) (eCall ff_law_digit (aCons (eVar 3) (aCons (eC (.int 5)) aNil)) []) [s, some (.int k), some (.int cl), some (.ref n), some (.str x), x5, y6, y7, x8] M5 = some (NONES[g], M6) :=
    op_of (M1 := M5) (M2 := M6) (a := .lst NONES) (b := .int g) (x_eLst (ds := NONES) (cons_of x_eC (cons_of x_eC (cons_of (x_eTup (ds := [.str "up"]) (cons_of x_eC x_aNil) (by simp)) (cons_of (x_eLst (ds := [.str "up"]) (cons_of x_eC x_aNil) (by simp)) (cons_of x_eC x_aNil))))) (by decide)) e6 (ix_lst gl)
  generalize NONES[g] = d at t1 e7
  obtain ⟨l8, e8⟩ := said_no hI (M := M6) (t1 _) t2
  refine ⟨some (.ref n), some (.str x), y6, y7, some d, M6 ++ l8, ?_⟩
  unfold cellS
  refine seq_as (M1 := M1) (δ' := [s, some (.int k), some (.int cl), some (.ref n), x4, x5, x6, x7, x8]) (call_of (cons_of rfl (cons_of rfl x_aNil)) e1) rfl ?_
  refine seq_as (M1 := M3) (δ' := [s, some (.int k), some (.int cl), some (.ref n), some (.str x), x5, x6, x7, x8]) ej rfl ?_
  refine seq_if0 e4 ?_
  refine seq_nx (for_ (ds := [.int 0, .int 1, .int 2, .int 3, .int 4, .int 5, .int 6, .int 7]) (M1 := M4) ((rng1_ (j := 8) (cons_of x_eC x_aNil) (by decide)).trans rfl) e5) ?_
  refine seq_as (M1 := M6) (δ' := [s, some (.int k), some (.int cl), some (.ref n), some (.str x), x5, y6, y7, some d]) e7 rfl ?_
  exact if_ff (v_bl (op_of (call_of (cons_of rfl x_aNil) e8) (x_eTup (ds := [.int 0, .int 0]) (cons_of x_eC (cons_of x_eC x_aNil)) (by simp)) (ne_00 _))) nil_of
theorem cells_ok {ct : CT} (hI : Isa ct) (s : Option D) : ∀ (L : List D), (∀ d ∈ L, ∃ k c : Int, d = .tup [.int k, .int c] ∧ 0 ≤ k ∧ k ≤ 1000) → ∀ (M : Mh) (x1 x2 x3 x4 x5 x6 x7 x8 : Option D), ∃ (δ' : Pl.Env) (M' : Mh), forGo (gTp (gsCons (gN 1) (gsCons (gN 2) gsNil))) (cellS ct) L [s, x1, x2, x3, x4, x5, x6, x7, x8] M = some (.nx δ' M')
  | [], _, M, _, _, _, _, _, _, _, _ => ⟨_, M, forN_⟩
  | d :: L, h, M, x1, x2, x3, x4, x5, x6, x7, x8 => by
    obtain ⟨k, c, rfl, k0, k1⟩ := h d List.mem_cons_self
    obtain ⟨y3, y4, y6, y7, y8, M1, e⟩ := cell_ok hI (M := M) (cl := c) k0 k1 s x3 x4 x5 x6 x7 x8
    obtain ⟨δ', M', e2⟩ := cells_ok hI s L (fun q hq => h q (List.mem_cons_of_mem _ hq)) M1 (some (.int k)) (some (.int c)) y3 y4 x5 y6 y7 y8
    exact ⟨δ', M', forC_ (δ1 := [s, some (.int k), some (.int c), x3, x4, x5, x6, x7, x8]) rfl e e2⟩
theorem truth (ct : CT) (hI : Isa ct) (ns : List Int) (hn : ns.length ≤ 63) : ∃ M', ff_law ct [.lsk (ns.map D.int)] [] = some (.bl true, M') := by
  have cut : ∃ ys : List Int, cutD (ns.map D.int) none (some 6) = ys.map D.int ∧ ys.length ≤ 6 := by
    refine ⟨ns.take 6, ?_, by rw [List.length_take]; omega⟩
    unfold cutD HT.sIx
    simp
  obtain ⟨ys, ey, ly⟩ := cut
  have s1 : eOp gAdd (eSl (eVar 0) pNone (pSome (eC (.int 6)))) (eLst (aCons (eB gSum (aCons (eVar 0) aNil)) aNil)) [some (.lsk (ns.map D.int)), none, none, none, none, none, none, none, none] [] = some (.lst (ys.map D.int ++ [.int ns.sum]), []) := by
    refine op_of (a := .lst (ys.map D.int)) (b := .lst [.int ns.sum]) (M1 := []) (M2 := []) ?_ (x_eLst (cons_of ?_ x_aNil) (by simp)) ?_
    · have e0 : eVar 0 [some (.lsk (ns.map D.int)), none, none, none, none, none, none, none, none] [] = some (.lsk (ns.map D.int), []) := rfl
      have p1 : ∀ δ, pNone δ [] = some (none, []) := fun δ => rfl
      have p2 : ∀ δ, pSome (eC (.int 6)) δ [] = some (some 6, []) := fun δ => rfl
      unfold eSl
      rw [e0]
      dsimp only
      rw [p1]
      dsimp only
      rw [p2]
      dsimp only [lstOf]
      rw [ey]
    · rw [x_eB, cons_of (d := .lsk (ns.map D.int)) (M1 := []) rfl x_aNil]
      simp [gSum, lstOf, ints_of]
    · show (if _ then _ else none) = _
      rw [if_pos (by rw [List.length_map]; exact Nat.le_trans (show _ ≤ 13 by simp; omega) (by decide))]
  have s2 : ∃ L : List D, aEnum (aCons (eOp gAdd (eSl (eVar 0) pNone (pSome (eC (.int 6)))) (eLst (aCons (eB gSum (aCons (eVar 0) aNil)) aNil))) aNil) [some (.lsk (ns.map D.int)), none, none, none, none, none, none, none, none] [] = some (L, []) ∧ ∀ d ∈ L, ∃ k c : Int, d = .tup [.int k, .int c] ∧ 0 ≤ k ∧ k ≤ 1000 := by
    unfold aEnum
    rw [cons_of s1 x_aNil]
    refine ⟨_, rfl, fun d hd => ?_⟩
    obtain ⟨⟨p, q⟩, hp, rfl⟩ := List.mem_map.mp hd
    obtain ⟨hp1, hp2⟩ := List.of_mem_zip hp
    obtain ⟨i, hi, rfl⟩ := List.mem_map.mp hp1
    have hi' := List.mem_range.mp hi
    rw [List.length_append, List.length_map] at hi'
    have hq : ∃ c : Int, q = .int c := by
      rcases List.mem_append.mp hp2 with z | z
      · obtain ⟨c, _, rfl⟩ := List.mem_map.mp z
        exact ⟨c, rfl⟩
      · exact ⟨_, List.mem_singleton.mp z⟩
    obtain ⟨c, rfl⟩ := hq
    exact ⟨i, c, rfl, by omega, by simp at hi'; omega⟩
  obtain ⟨L, e, hL⟩ := s2
  obtain ⟨δ', M', ec⟩ := cells_ok hI (some (.lsk (ns.map D.int))) L hL [] none none none none none none none none
  refine ⟨M', fn_rt ?_⟩
  show gg_law ct [some (.lsk (ns.map D.int)), none, none, none, none, none, none, none, none] [] = _
  rw [law_gg]
  refine seq_nx (δ' := δ') (M1 := M') ?_ (ret_of rfl)
  unfold sFor
  rw [e]
  exact ec
end Law

namespace Law
open PySem L2 Pl
theorem all_mk {l : PySem.W.OpenLaw} {w : World} {K : PySem.W.Frag} {h : Heap} {mg : Str → Option Value} {fa : Addr} (X : K.In h) (G : h.Ns mainGlobals mg) (hfa : mg "law" = some (.ref fa))
    {tk_MOST_FIGURES : Tok}
    {tk_FIGURES : Tok}
    {tk_MOST_TOOL : Tok}
    {tk_MOST_LENGTH : Tok}
    {tk_MOST_HIGH : Tok}
    {tk_MOST_SIDE : Tok}
    {C_BadRow : Addr}
    {C_WorksError : Addr}
    {D_STEP_FORMS : Addr} {E_STEP_FORMS : Array DictEntry} {n_STEP_FORMS : Nat}
    {e_STEP_FORMS_0 : DictEntry} {u_STEP_FORMS_0 : Tok} {t_STEP_FORMS_0 : Addr} {o_STEP_FORMS_0 : Obj} {i_STEP_FORMS_0 : Array Value} {n_STEP_FORMS_0 : Nat}
    {e_STEP_FORMS_1 : DictEntry} {u_STEP_FORMS_1 : Tok} {t_STEP_FORMS_1 : Addr} {o_STEP_FORMS_1 : Obj} {i_STEP_FORMS_1 : Array Value} {n_STEP_FORMS_1 : Nat}
    {e_STEP_FORMS_2 : DictEntry} {u_STEP_FORMS_2 : Tok} {t_STEP_FORMS_2 : Addr} {o_STEP_FORMS_2 : Obj} {i_STEP_FORMS_2 : Array Value} {n_STEP_FORMS_2 : Nat}
    {e_STEP_FORMS_3 : DictEntry} {u_STEP_FORMS_3 : Tok} {t_STEP_FORMS_3 : Addr} {o_STEP_FORMS_3 : Obj} {i_STEP_FORMS_3 : Array Value} {n_STEP_FORMS_3 : Nat}
    {e_STEP_FORMS_4 : DictEntry} {u_STEP_FORMS_4 : Tok} {t_STEP_FORMS_4 : Addr} {o_STEP_FORMS_4 : Obj} {i_STEP_FORMS_4 : Array Value} {n_STEP_FORMS_4 : Nat}
    {f_is_whole : Addr} {od_is_whole an_is_whole : Option Addr} {sl_is_whole : Array (Option Value)} {oc_is_whole dc_is_whole pm_is_whole cd_is_whole ct_is_whole : Value}
    {kV_is_whole : Value}
    {f_is_among : Addr} {od_is_among an_is_among : Option Addr} {sl_is_among : Array (Option Value)} {oc_is_among dc_is_among pm_is_among cd_is_among ct_is_among : Value}
    {kV_is_among : Value}
    {f_is_text_of : Addr} {od_is_text_of an_is_text_of : Option Addr} {sl_is_text_of : Array (Option Value)} {oc_is_text_of dc_is_text_of pm_is_text_of cd_is_text_of ct_is_text_of : Value}
    {kV_is_text_of : Value}
    {f_number_of : Addr} {od_number_of an_number_of : Option Addr} {sl_number_of : Array (Option Value)} {oc_number_of dc_number_of pm_number_of cd_number_of ct_number_of : Value}
    {kV_number_of : Value}
    {f_signed_of : Addr} {od_signed_of an_signed_of : Option Addr} {sl_signed_of : Array (Option Value)} {oc_signed_of dc_signed_of pm_signed_of cd_signed_of ct_signed_of : Value}
    {kV_signed_of : Value}
    {f_words_of : Addr} {od_words_of an_words_of : Option Addr} {sl_words_of : Array (Option Value)} {oc_words_of dc_words_of pm_words_of cd_words_of ct_words_of : Value}
    {kV_words_of : Value}
    {f_fits_step : Addr} {od_fits_step an_fits_step : Option Addr} {sl_fits_step : Array (Option Value)} {oc_fits_step dc_fits_step pm_fits_step cd_fits_step ct_fits_step : Value}
    {kV_fits_step : Value}
    {f_read_part : Addr} {od_read_part an_read_part : Option Addr} {sl_read_part : Array (Option Value)} {oc_read_part dc_read_part pm_read_part cd_read_part ct_read_part : Value}
    {kV_read_part : Value}
    {f_parts_by : Addr} {od_parts_by an_parts_by : Option Addr} {sl_parts_by : Array (Option Value)} {oc_parts_by dc_parts_by pm_parts_by cd_parts_by ct_parts_by : Value}
    {kV_parts_by : Value}
    {f_BadRow_init : Addr} {od_BadRow_init an_BadRow_init : Option Addr} {sl_BadRow_init : Array (Option Value)} {oc_BadRow_init dc_BadRow_init pm_BadRow_init cd_BadRow_init ct_BadRow_init : Value}
    {kV_BadRow_init : Value}
    {f_rows_of : Addr} {od_rows_of an_rows_of : Option Addr} {sl_rows_of : Array (Option Value)} {oc_rows_of dc_rows_of pm_rows_of cd_rows_of ct_rows_of : Value}
    {kV_rows_of : Value}
    {f_words_in : Addr} {od_words_in an_words_in : Option Addr} {sl_words_in : Array (Option Value)} {oc_words_in dc_words_in pm_words_in cd_words_in ct_words_in : Value}
    {kV_words_in : Value}
    {f_read_step : Addr} {od_read_step an_read_step : Option Addr} {sl_read_step : Array (Option Value)} {oc_read_step dc_read_step pm_read_step cd_read_step ct_read_step : Value}
    {kV_read_step : Value}
    {f_read_way : Addr} {od_read_way an_read_way : Option Addr} {sl_read_way : Array (Option Value)} {oc_read_way dc_read_way pm_read_way cd_read_way ct_read_way : Value}
    {kV_read_way : Value}
    {f_law_mixed : Addr} {od_law_mixed an_law_mixed : Option Addr} {sl_law_mixed : Array (Option Value)} {oc_law_mixed dc_law_mixed pm_law_mixed cd_law_mixed ct_law_mixed : Value}
    {kV_law_mixed : Value}
    {f_law_draw : Addr} {od_law_draw an_law_draw : Option Addr} {sl_law_draw : Array (Option Value)} {oc_law_draw dc_law_draw pm_law_draw cd_law_draw ct_law_draw : Value}
    {kV_law_draw : Value}
    {f_law_digit : Addr} {od_law_digit an_law_digit : Option Addr} {sl_law_digit : Array (Option Value)} {oc_law_digit dc_law_digit pm_law_digit cd_law_digit ct_law_digit : Value}
    {kV_law_digit : Value}
    {f_law_any_step : Addr} {od_law_any_step an_law_any_step : Option Addr} {sl_law_any_step : Array (Option Value)} {oc_law_any_step dc_law_any_step pm_law_any_step cd_law_any_step ct_law_any_step : Value}
    {kV_law_any_step : Value}
    {f_law_row : Addr} {od_law_row an_law_row : Option Addr} {sl_law_row : Array (Option Value)} {oc_law_row dc_law_row pm_law_row cd_law_row ct_law_row : Value}
    {kV_law_row : Value}
    {f_law_number : Addr} {od_law_number an_law_number : Option Addr} {sl_law_number : Array (Option Value)} {oc_law_number dc_law_number pm_law_number cd_law_number ct_law_number : Value}
    {kV_law_number : Value}
    {f_law_read_row : Addr} {od_law_read_row an_law_read_row : Option Addr} {sl_law_read_row : Array (Option Value)} {oc_law_read_row dc_law_read_row pm_law_read_row cd_law_read_row ct_law_read_row : Value}
    {kV_law_read_row : Value}
    {f_law_due : Addr} {od_law_due an_law_due : Option Addr} {sl_law_due : Array (Option Value)} {oc_law_due dc_law_due pm_law_due cd_law_due ct_law_due : Value}
    {kV_law_due : Value}
    {f_law_bent : Addr} {od_law_bent an_law_bent : Option Addr} {sl_law_bent : Array (Option Value)} {oc_law_bent dc_law_bent pm_law_bent cd_law_bent ct_law_bent : Value}
    {kV_law_bent : Value}
    {f_law_said : Addr} {od_law_said an_law_said : Option Addr} {sl_law_said : Array (Option Value)} {oc_law_said dc_law_said pm_law_said cd_law_said ct_law_said : Value}
    {kV_law_said : Value}
    {f_law : Addr} {od_law an_law : Option Addr} {sl_law : Array (Option Value)} {oc_law dc_law pm_law cd_law ct_law : Value}
    {kV_law : Value}
    (z_int : PySem.W.nsIn K mainGlobals "int" = some none)
    (z_isinstance : PySem.W.nsIn K mainGlobals "isinstance" = some none)
    (z_bool : PySem.W.nsIn K mainGlobals "bool" = some none)
    (z_str : PySem.W.nsIn K mainGlobals "str" = some none)
    (z_len : PySem.W.nsIn K mainGlobals "len" = some none)
    (z_all : PySem.W.nsIn K mainGlobals "all" = some none)
    (z_zip : PySem.W.nsIn K mainGlobals "zip" = some none)
    (z_tuple : PySem.W.nsIn K mainGlobals "tuple" = some none)
    (z_enumerate : PySem.W.nsIn K mainGlobals "enumerate" = some none)
    (z_range : PySem.W.nsIn K mainGlobals "range" = some none)
    (z_abs : PySem.W.nsIn K mainGlobals "abs" = some none)
    (z_sum : PySem.W.nsIn K mainGlobals "sum" = some none)
    (z_repr : PySem.W.nsIn K mainGlobals "repr" = some none)
    (g_MOST_FIGURES : PySem.W.nsIn K mainGlobals "MOST_FIGURES" = some (some (.int 4 tk_MOST_FIGURES)))
    (g_FIGURES : PySem.W.nsIn K mainGlobals "FIGURES" = some (some (.str "0123456789" tk_FIGURES)))
    (g_MOST_TOOL : PySem.W.nsIn K mainGlobals "MOST_TOOL" = some (some (.int 4 tk_MOST_TOOL)))
    (g_MOST_LENGTH : PySem.W.nsIn K mainGlobals "MOST_LENGTH" = some (some (.int 6 tk_MOST_LENGTH)))
    (g_MOST_HIGH : PySem.W.nsIn K mainGlobals "MOST_HIGH" = some (some (.int 6 tk_MOST_HIGH)))
    (g_MOST_SIDE : PySem.W.nsIn K mainGlobals "MOST_SIDE" = some (some (.int 8 tk_MOST_SIDE)))
    (a_BadRow : PySem.W.nsIn K mainGlobals "BadRow" = some (some (.ref C_BadRow)))
    (a_WorksError : PySem.W.nsIn K mainGlobals "WorksError" = some (some (.ref C_WorksError)))
    (a_STEP_FORMS : PySem.W.nsIn K mainGlobals "STEP_FORMS" = some (some (.ref D_STEP_FORMS)))
    (yl_STEP_FORMS : K.lookup D_STEP_FORMS = some ⟨.type "dict", none, .dict E_STEP_FORMS n_STEP_FORMS, #[]⟩)
    (yo_STEP_FORMS : (D_STEP_FORMS == sysModules) = false) (yk_STEP_FORMS : PySem.W.KeysLit w.params E_STEP_FORMS.toList)
    (ye_STEP_FORMS : E_STEP_FORMS.toList = [e_STEP_FORMS_0, e_STEP_FORMS_1, e_STEP_FORMS_2, e_STEP_FORMS_3, e_STEP_FORMS_4])
    (yx_STEP_FORMS_0 : e_STEP_FORMS_0.key = .str "tool" u_STEP_FORMS_0) (yv_STEP_FORMS_0 : e_STEP_FORMS_0.val = .ref t_STEP_FORMS_0)
    (yt_STEP_FORMS_0 : K.lookup t_STEP_FORMS_0 = some o_STEP_FORMS_0) (yc_STEP_FORMS_0 : o_STEP_FORMS_0.cls = .type "tuple") (yd_STEP_FORMS_0 : o_STEP_FORMS_0.data = .seq i_STEP_FORMS_0 n_STEP_FORMS_0) (yw_STEP_FORMS_0 : Vals [(.str "side"), (.str "length")] i_STEP_FORMS_0.toList)
    (yx_STEP_FORMS_1 : e_STEP_FORMS_1.key = .str "go" u_STEP_FORMS_1) (yv_STEP_FORMS_1 : e_STEP_FORMS_1.val = .ref t_STEP_FORMS_1)
    (yt_STEP_FORMS_1 : K.lookup t_STEP_FORMS_1 = some o_STEP_FORMS_1) (yc_STEP_FORMS_1 : o_STEP_FORMS_1.cls = .type "tuple") (yd_STEP_FORMS_1 : o_STEP_FORMS_1.data = .seq i_STEP_FORMS_1 n_STEP_FORMS_1) (yw_STEP_FORMS_1 : Vals [(.str "place"), (.str "place")] i_STEP_FORMS_1.toList)
    (yx_STEP_FORMS_2 : e_STEP_FORMS_2.key = .str "down" u_STEP_FORMS_2) (yv_STEP_FORMS_2 : e_STEP_FORMS_2.val = .ref t_STEP_FORMS_2)
    (yt_STEP_FORMS_2 : K.lookup t_STEP_FORMS_2 = some o_STEP_FORMS_2) (yc_STEP_FORMS_2 : o_STEP_FORMS_2.cls = .type "tuple") (yd_STEP_FORMS_2 : o_STEP_FORMS_2.data = .seq i_STEP_FORMS_2 n_STEP_FORMS_2) (yw_STEP_FORMS_2 : Vals [(.str "height")] i_STEP_FORMS_2.toList)
    (yx_STEP_FORMS_3 : e_STEP_FORMS_3.key = .str "cut" u_STEP_FORMS_3) (yv_STEP_FORMS_3 : e_STEP_FORMS_3.val = .ref t_STEP_FORMS_3)
    (yt_STEP_FORMS_3 : K.lookup t_STEP_FORMS_3 = some o_STEP_FORMS_3) (yc_STEP_FORMS_3 : o_STEP_FORMS_3.cls = .type "tuple") (yd_STEP_FORMS_3 : o_STEP_FORMS_3.data = .seq i_STEP_FORMS_3 n_STEP_FORMS_3) (yw_STEP_FORMS_3 : Vals [(.str "place"), (.str "place")] i_STEP_FORMS_3.toList)
    (yx_STEP_FORMS_4 : e_STEP_FORMS_4.key = .str "up" u_STEP_FORMS_4) (yv_STEP_FORMS_4 : e_STEP_FORMS_4.val = .ref t_STEP_FORMS_4)
    (yt_STEP_FORMS_4 : K.lookup t_STEP_FORMS_4 = some o_STEP_FORMS_4) (yc_STEP_FORMS_4 : o_STEP_FORMS_4.cls = .type "tuple") (yd_STEP_FORMS_4 : o_STEP_FORMS_4.data = .seq i_STEP_FORMS_4 n_STEP_FORMS_4) (yw_STEP_FORMS_4 : Vals [] i_STEP_FORMS_4.toList)
    (e1_BadRow : PySem.W.excInitIn K C_BadRow [.type "ValueError", .type "Exception", .type "BaseException", .type "object"] "ValueError.__new__" = true) (e2_BadRow : PySem.W.excOver K C_BadRow [.type "ValueError", .type "Exception", .type "BaseException", .type "object"] = true) (sa_BadRow : PySem.W.findIn K (.ref C_BadRow) "__setattr__" = some (some (.builtin "object.__setattr__")))
    (ii_BadRow : PySem.W.findIn K (.ref C_BadRow) "__init__" = some (some (.ref f_BadRow_init))) (ti_BadRow : PySem.W.typeIn K (.ref f_BadRow_init) = some (.type "function"))
    (tk_BadRow_row : PySem.W.takerIn K C_BadRow "row" = some none) (fn_BadRow_row : PySem.W.findIn K (.ref C_BadRow) "row" = some none)
    (tk_BadRow_word : PySem.W.takerIn K C_BadRow "word" = some none) (fn_BadRow_word : PySem.W.findIn K (.ref C_BadRow) "word" = some none)
    (ke_BadRow : PySem.W.keepIn K (.ref C_BadRow) = true) (be_BadRow : PySem.W.subIn K (.ref C_BadRow) (.type "BaseException") = some true)
    (q1_BadRow : PySem.W.findIn K (.ref C_BadRow) "__getattribute__" = some (some (.builtin "BaseException.__getattribute__"))) (q2_BadRow : PySem.W.findIn K (.ref C_BadRow) "__getattr__" = some none) (q3_BadRow : PySem.W.hasDictIn K C_BadRow = true)
    (q4_BadRow : PySem.W.findIn K (.ref C_BadRow) "__class__" = some (some (.builtin "object.__class__"))) (q7_BadRow : PySem.W.mroIn K C_BadRow (.type "object") = some true)
    (il_BadRow : ([.ref C_BadRow] : List Value).map (PySem.W.kitOne K (.ref C_BadRow)) = [some true])
    (q5_ : PySem.W.specialIn K (.builtin "object.__class__") "__get__" = some (some (.builtin "getset_descriptor.__get__"))) (q6_ : PySem.W.takesIn K (.builtin "object.__class__") = some true)
    (hd_WorksError : PySem.W.hasDictIn K C_WorksError = true) (ht_WorksError : PySem.W.typeIn K (.ref C_WorksError) = some (.type "type"))
    (hd_BadRow : PySem.W.hasDictIn K C_BadRow = true) (ht_BadRow : PySem.W.typeIn K (.ref C_BadRow) = some (.type "type"))
    (hb_WorksError : PySem.W.subIn K (.ref C_WorksError) (.type "BaseException") = some true)
    (s_BadRow_WorksError : PySem.W.subIn K (.ref C_BadRow) (.ref C_WorksError) = some true)
    (a_is_whole : PySem.W.nsIn K mainGlobals "is_whole" = some (some (.ref f_is_whole)))
    (l_is_whole : K.lookup f_is_whole = some ⟨oc_is_whole, od_is_whole, .func (PySem.W.fnOf "is_whole" "is_whole" (defArgs ss_is_whole) (defBody ss_is_whole) (defScope ss_is_whole) .none kV_is_whole dc_is_whole pm_is_whole an_is_whole cd_is_whole ct_is_whole), sl_is_whole⟩)
    (c_is_whole : PySem.W.codeIn K cd_is_whole "is_whole" = true) (k_is_whole : PySem.W.keepIn K (.ref f_is_whole) = true)
    (a_is_among : PySem.W.nsIn K mainGlobals "is_among" = some (some (.ref f_is_among)))
    (l_is_among : K.lookup f_is_among = some ⟨oc_is_among, od_is_among, .func (PySem.W.fnOf "is_among" "is_among" (defArgs ss_is_among) (defBody ss_is_among) (defScope ss_is_among) .none kV_is_among dc_is_among pm_is_among an_is_among cd_is_among ct_is_among), sl_is_among⟩)
    (c_is_among : PySem.W.codeIn K cd_is_among "is_among" = true) (k_is_among : PySem.W.keepIn K (.ref f_is_among) = true)
    (a_is_text_of : PySem.W.nsIn K mainGlobals "_is_text_of" = some (some (.ref f_is_text_of)))
    (l_is_text_of : K.lookup f_is_text_of = some ⟨oc_is_text_of, od_is_text_of, .func (PySem.W.fnOf "_is_text_of" "_is_text_of" (defArgs ss_is_text_of) (defBody ss_is_text_of) (defScope ss_is_text_of) .none kV_is_text_of dc_is_text_of pm_is_text_of an_is_text_of cd_is_text_of ct_is_text_of), sl_is_text_of⟩)
    (c_is_text_of : PySem.W.codeIn K cd_is_text_of "_is_text_of" = true) (k_is_text_of : PySem.W.keepIn K (.ref f_is_text_of) = true)
    (a_number_of : PySem.W.nsIn K mainGlobals "number_of" = some (some (.ref f_number_of)))
    (l_number_of : K.lookup f_number_of = some ⟨oc_number_of, od_number_of, .func (PySem.W.fnOf "number_of" "number_of" (defArgs ss_number_of) (defBody ss_number_of) (defScope ss_number_of) .none kV_number_of dc_number_of pm_number_of an_number_of cd_number_of ct_number_of), sl_number_of⟩)
    (c_number_of : PySem.W.codeIn K cd_number_of "number_of" = true) (k_number_of : PySem.W.keepIn K (.ref f_number_of) = true)
    (a_signed_of : PySem.W.nsIn K mainGlobals "signed_of" = some (some (.ref f_signed_of)))
    (l_signed_of : K.lookup f_signed_of = some ⟨oc_signed_of, od_signed_of, .func (PySem.W.fnOf "signed_of" "signed_of" (defArgs ss_signed_of) (defBody ss_signed_of) (defScope ss_signed_of) .none kV_signed_of dc_signed_of pm_signed_of an_signed_of cd_signed_of ct_signed_of), sl_signed_of⟩)
    (c_signed_of : PySem.W.codeIn K cd_signed_of "signed_of" = true) (k_signed_of : PySem.W.keepIn K (.ref f_signed_of) = true)
    (a_words_of : PySem.W.nsIn K mainGlobals "words_of" = some (some (.ref f_words_of)))
    (l_words_of : K.lookup f_words_of = some ⟨oc_words_of, od_words_of, .func (PySem.W.fnOf "words_of" "words_of" (defArgs ss_words_of) (defBody ss_words_of) (defScope ss_words_of) .none kV_words_of dc_words_of pm_words_of an_words_of cd_words_of ct_words_of), sl_words_of⟩)
    (c_words_of : PySem.W.codeIn K cd_words_of "words_of" = true) (k_words_of : PySem.W.keepIn K (.ref f_words_of) = true)
    (a_fits_step : PySem.W.nsIn K mainGlobals "fits_step" = some (some (.ref f_fits_step)))
    (l_fits_step : K.lookup f_fits_step = some ⟨oc_fits_step, od_fits_step, .func (PySem.W.fnOf "fits_step" "fits_step" (defArgs ss_fits_step) (defBody ss_fits_step) (defScope ss_fits_step) .none kV_fits_step dc_fits_step pm_fits_step an_fits_step cd_fits_step ct_fits_step), sl_fits_step⟩)
    (c_fits_step : PySem.W.codeIn K cd_fits_step "fits_step" = true) (k_fits_step : PySem.W.keepIn K (.ref f_fits_step) = true)
    (a_read_part : PySem.W.nsIn K mainGlobals "_read_part" = some (some (.ref f_read_part)))
    (l_read_part : K.lookup f_read_part = some ⟨oc_read_part, od_read_part, .func (PySem.W.fnOf "_read_part" "_read_part" (defArgs ss_read_part) (defBody ss_read_part) (defScope ss_read_part) .none kV_read_part dc_read_part pm_read_part an_read_part cd_read_part ct_read_part), sl_read_part⟩)
    (c_read_part : PySem.W.codeIn K cd_read_part "_read_part" = true) (k_read_part : PySem.W.keepIn K (.ref f_read_part) = true)
    (a_parts_by : PySem.W.nsIn K mainGlobals "parts_by" = some (some (.ref f_parts_by)))
    (l_parts_by : K.lookup f_parts_by = some ⟨oc_parts_by, od_parts_by, .func (PySem.W.fnOf "parts_by" "parts_by" (defArgs ss_parts_by) (defBody ss_parts_by) (defScope ss_parts_by) .none kV_parts_by dc_parts_by pm_parts_by an_parts_by cd_parts_by ct_parts_by), sl_parts_by⟩)
    (c_parts_by : PySem.W.codeIn K cd_parts_by "parts_by" = true) (k_parts_by : PySem.W.keepIn K (.ref f_parts_by) = true)
    (l_BadRow_init : K.lookup f_BadRow_init = some ⟨oc_BadRow_init, od_BadRow_init, .func (PySem.W.fnOf "__init__" "BadRow.__init__" (defArgs ss_BadRow_init) (defBody ss_BadRow_init) (defScope ss_BadRow_init) .none kV_BadRow_init dc_BadRow_init pm_BadRow_init an_BadRow_init cd_BadRow_init ct_BadRow_init), sl_BadRow_init⟩)
    (c_BadRow_init : PySem.W.codeIn K cd_BadRow_init "BadRow.__init__" = true) (k_BadRow_init : PySem.W.keepIn K (.ref f_BadRow_init) = true)
    (a_rows_of : PySem.W.nsIn K mainGlobals "rows_of" = some (some (.ref f_rows_of)))
    (l_rows_of : K.lookup f_rows_of = some ⟨oc_rows_of, od_rows_of, .func (PySem.W.fnOf "rows_of" "rows_of" (defArgs ss_rows_of) (defBody ss_rows_of) (defScope ss_rows_of) .none kV_rows_of dc_rows_of pm_rows_of an_rows_of cd_rows_of ct_rows_of), sl_rows_of⟩)
    (c_rows_of : PySem.W.codeIn K cd_rows_of "rows_of" = true) (k_rows_of : PySem.W.keepIn K (.ref f_rows_of) = true)
    (a_words_in : PySem.W.nsIn K mainGlobals "words_in" = some (some (.ref f_words_in)))
    (l_words_in : K.lookup f_words_in = some ⟨oc_words_in, od_words_in, .func (PySem.W.fnOf "words_in" "words_in" (defArgs ss_words_in) (defBody ss_words_in) (defScope ss_words_in) .none kV_words_in dc_words_in pm_words_in an_words_in cd_words_in ct_words_in), sl_words_in⟩)
    (c_words_in : PySem.W.codeIn K cd_words_in "words_in" = true) (k_words_in : PySem.W.keepIn K (.ref f_words_in) = true)
    (a_read_step : PySem.W.nsIn K mainGlobals "_read_step" = some (some (.ref f_read_step)))
    (l_read_step : K.lookup f_read_step = some ⟨oc_read_step, od_read_step, .func (PySem.W.fnOf "_read_step" "_read_step" (defArgs ss_read_step) (defBody ss_read_step) (defScope ss_read_step) .none kV_read_step dc_read_step pm_read_step an_read_step cd_read_step ct_read_step), sl_read_step⟩)
    (c_read_step : PySem.W.codeIn K cd_read_step "_read_step" = true) (k_read_step : PySem.W.keepIn K (.ref f_read_step) = true)
    (a_read_way : PySem.W.nsIn K mainGlobals "read_way" = some (some (.ref f_read_way)))
    (l_read_way : K.lookup f_read_way = some ⟨oc_read_way, od_read_way, .func (PySem.W.fnOf "read_way" "read_way" (defArgs ss_read_way) (defBody ss_read_way) (defScope ss_read_way) .none kV_read_way dc_read_way pm_read_way an_read_way cd_read_way ct_read_way), sl_read_way⟩)
    (c_read_way : PySem.W.codeIn K cd_read_way "read_way" = true) (k_read_way : PySem.W.keepIn K (.ref f_read_way) = true)
    (a_law_mixed : PySem.W.nsIn K mainGlobals "_law_mixed" = some (some (.ref f_law_mixed)))
    (l_law_mixed : K.lookup f_law_mixed = some ⟨oc_law_mixed, od_law_mixed, .func (PySem.W.fnOf "_law_mixed" "_law_mixed" (defArgs ss_law_mixed) (defBody ss_law_mixed) (defScope ss_law_mixed) .none kV_law_mixed dc_law_mixed pm_law_mixed an_law_mixed cd_law_mixed ct_law_mixed), sl_law_mixed⟩)
    (c_law_mixed : PySem.W.codeIn K cd_law_mixed "_law_mixed" = true) (k_law_mixed : PySem.W.keepIn K (.ref f_law_mixed) = true)
    (a_law_draw : PySem.W.nsIn K mainGlobals "_law_draw" = some (some (.ref f_law_draw)))
    (l_law_draw : K.lookup f_law_draw = some ⟨oc_law_draw, od_law_draw, .func (PySem.W.fnOf "_law_draw" "_law_draw" (defArgs ss_law_draw) (defBody ss_law_draw) (defScope ss_law_draw) .none kV_law_draw dc_law_draw pm_law_draw an_law_draw cd_law_draw ct_law_draw), sl_law_draw⟩)
    (c_law_draw : PySem.W.codeIn K cd_law_draw "_law_draw" = true) (k_law_draw : PySem.W.keepIn K (.ref f_law_draw) = true)
    (a_law_digit : PySem.W.nsIn K mainGlobals "_law_digit" = some (some (.ref f_law_digit)))
    (l_law_digit : K.lookup f_law_digit = some ⟨oc_law_digit, od_law_digit, .func (PySem.W.fnOf "_law_digit" "_law_digit" (defArgs ss_law_digit) (defBody ss_law_digit) (defScope ss_law_digit) .none kV_law_digit dc_law_digit pm_law_digit an_law_digit cd_law_digit ct_law_digit), sl_law_digit⟩)
    (c_law_digit : PySem.W.codeIn K cd_law_digit "_law_digit" = true) (k_law_digit : PySem.W.keepIn K (.ref f_law_digit) = true)
    (a_law_any_step : PySem.W.nsIn K mainGlobals "_law_any_step" = some (some (.ref f_law_any_step)))
    (l_law_any_step : K.lookup f_law_any_step = some ⟨oc_law_any_step, od_law_any_step, .func (PySem.W.fnOf "_law_any_step" "_law_any_step" (defArgs ss_law_any_step) (defBody ss_law_any_step) (defScope ss_law_any_step) .none kV_law_any_step dc_law_any_step pm_law_any_step an_law_any_step cd_law_any_step ct_law_any_step), sl_law_any_step⟩)
    (c_law_any_step : PySem.W.codeIn K cd_law_any_step "_law_any_step" = true) (k_law_any_step : PySem.W.keepIn K (.ref f_law_any_step) = true)
    (a_law_row : PySem.W.nsIn K mainGlobals "_law_row" = some (some (.ref f_law_row)))
    (l_law_row : K.lookup f_law_row = some ⟨oc_law_row, od_law_row, .func (PySem.W.fnOf "_law_row" "_law_row" (defArgs ss_law_row) (defBody ss_law_row) (defScope ss_law_row) .none kV_law_row dc_law_row pm_law_row an_law_row cd_law_row ct_law_row), sl_law_row⟩)
    (c_law_row : PySem.W.codeIn K cd_law_row "_law_row" = true) (k_law_row : PySem.W.keepIn K (.ref f_law_row) = true)
    (a_law_number : PySem.W.nsIn K mainGlobals "_law_number" = some (some (.ref f_law_number)))
    (l_law_number : K.lookup f_law_number = some ⟨oc_law_number, od_law_number, .func (PySem.W.fnOf "_law_number" "_law_number" (defArgs ss_law_number) (defBody ss_law_number) (defScope ss_law_number) .none kV_law_number dc_law_number pm_law_number an_law_number cd_law_number ct_law_number), sl_law_number⟩)
    (c_law_number : PySem.W.codeIn K cd_law_number "_law_number" = true) (k_law_number : PySem.W.keepIn K (.ref f_law_number) = true)
    (a_law_read_row : PySem.W.nsIn K mainGlobals "_law_read_row" = some (some (.ref f_law_read_row)))
    (l_law_read_row : K.lookup f_law_read_row = some ⟨oc_law_read_row, od_law_read_row, .func (PySem.W.fnOf "_law_read_row" "_law_read_row" (defArgs ss_law_read_row) (defBody ss_law_read_row) (defScope ss_law_read_row) .none kV_law_read_row dc_law_read_row pm_law_read_row an_law_read_row cd_law_read_row ct_law_read_row), sl_law_read_row⟩)
    (c_law_read_row : PySem.W.codeIn K cd_law_read_row "_law_read_row" = true) (k_law_read_row : PySem.W.keepIn K (.ref f_law_read_row) = true)
    (a_law_due : PySem.W.nsIn K mainGlobals "_law_due" = some (some (.ref f_law_due)))
    (l_law_due : K.lookup f_law_due = some ⟨oc_law_due, od_law_due, .func (PySem.W.fnOf "_law_due" "_law_due" (defArgs ss_law_due) (defBody ss_law_due) (defScope ss_law_due) .none kV_law_due dc_law_due pm_law_due an_law_due cd_law_due ct_law_due), sl_law_due⟩)
    (c_law_due : PySem.W.codeIn K cd_law_due "_law_due" = true) (k_law_due : PySem.W.keepIn K (.ref f_law_due) = true)
    (a_law_bent : PySem.W.nsIn K mainGlobals "_law_bent" = some (some (.ref f_law_bent)))
    (l_law_bent : K.lookup f_law_bent = some ⟨oc_law_bent, od_law_bent, .func (PySem.W.fnOf "_law_bent" "_law_bent" (defArgs ss_law_bent) (defBody ss_law_bent) (defScope ss_law_bent) .none kV_law_bent dc_law_bent pm_law_bent an_law_bent cd_law_bent ct_law_bent), sl_law_bent⟩)
    (c_law_bent : PySem.W.codeIn K cd_law_bent "_law_bent" = true) (k_law_bent : PySem.W.keepIn K (.ref f_law_bent) = true)
    (a_law_said : PySem.W.nsIn K mainGlobals "_law_said" = some (some (.ref f_law_said)))
    (l_law_said : K.lookup f_law_said = some ⟨oc_law_said, od_law_said, .func (PySem.W.fnOf "_law_said" "_law_said" (defArgs ss_law_said) (defBody ss_law_said) (defScope ss_law_said) .none kV_law_said dc_law_said pm_law_said an_law_said cd_law_said ct_law_said), sl_law_said⟩)
    (c_law_said : PySem.W.codeIn K cd_law_said "_law_said" = true) (k_law_said : PySem.W.keepIn K (.ref f_law_said) = true)
    (a_law : PySem.W.nsIn K mainGlobals "law" = some (some (.ref f_law)))
    (l_law : K.lookup f_law = some ⟨oc_law, od_law, .func (PySem.W.fnOf "law" "law" (defArgs ss_law) (defBody ss_law) (defScope ss_law) .none kV_law dc_law pm_law an_law cd_law ct_law), sl_law⟩)
    (c_law : PySem.W.codeIn K cd_law "law" = true) (k_law : PySem.W.keepIn K (.ref f_law) = true)
    : ∃ (fd : FuncData) (F : Fn), (∀ (s : Shared) (v : Value), BindsTo s fd ⟨[v], []⟩ [("script", v)]) ∧ (∀ base : Heap, K.In base → base.Ns mainGlobals mg → DFn l.prog w K mg base 9 fa fd ["script"] F) ∧ ∀ ns : List Int, ns.length ≤ 63 → ∃ M', F [.lsk (ns.map D.int)] [] = some (.bl true, M') := by
  have e := hfa.symm.trans (PySem.W.mg_of X G a_law)
  cases e
  have EC_BadRow : ExcC K C_BadRow := ⟨q1_BadRow, q2_BadRow, be_BadRow, q3_BadRow, q4_BadRow, q5_, q6_, q7_BadRow⟩
  have EG_BadRow : ExG K C_BadRow "ValueError" "ValueError.__new__" "ValueError.__init__" [.type "ValueError", .type "Exception", .type "BaseException", .type "object"] := ⟨PySem.F.excBase_ValueError, PySem.F.store_ValueError, e1_BadRow, e2_BadRow, PySem.W.any_some q3_BadRow, sa_BadRow, ke_BadRow⟩
  have T : Txt (⟨C_BadRow, C_WorksError, D_STEP_FORMS, f_read_part, Pl.isaOf K, Pl.okfOf K, Pl.okgOf K⟩ : CT) w K mg := ⟨PySem.W.mg_none_of X G z_int, PySem.W.mg_none_of X G z_isinstance, PySem.W.mg_none_of X G z_bool, PySem.W.mg_none_of X G z_str, PySem.W.mg_none_of X G z_len, PySem.W.mg_none_of X G z_all, PySem.W.mg_none_of X G z_zip, PySem.W.mg_none_of X G z_tuple, PySem.W.mg_none_of X G z_enumerate, PySem.W.mg_none_of X G z_range, PySem.W.mg_none_of X G z_abs, PySem.W.mg_none_of X G z_sum, PySem.W.mg_none_of X G z_repr, ⟨(.int 4), _, PySem.W.mg_of X G g_MOST_FIGURES, ⟨_, rfl⟩, fun _ _ => .int _⟩, ⟨(.str "0123456789"), _, PySem.W.mg_of X G g_FIGURES, ⟨_, rfl⟩, fun _ _ => .str _⟩, ⟨(.int 4), _, PySem.W.mg_of X G g_MOST_TOOL, ⟨_, rfl⟩, fun _ _ => .int _⟩, ⟨(.int 6), _, PySem.W.mg_of X G g_MOST_LENGTH, ⟨_, rfl⟩, fun _ _ => .int _⟩, ⟨(.int 6), _, PySem.W.mg_of X G g_MOST_HIGH, ⟨_, rfl⟩, fun _ _ => .int _⟩, ⟨(.int 8), _, PySem.W.mg_of X G g_MOST_SIDE, ⟨_, rfl⟩, fun _ _ => .int _⟩, PySem.W.mg_of X G a_BadRow, PySem.W.mg_of X G a_WorksError, ⟨PySem.W.mg_of X G a_STEP_FORMS, ⟨E_STEP_FORMS.toList, n_STEP_FORMS, (by rw [Array.toArray_toList]; exact yl_STEP_FORMS), yk_STEP_FORMS, (by rw [ye_STEP_FORMS]; exact (.cons ⟨u_STEP_FORMS_0, yx_STEP_FORMS_0⟩ ⟨.ref t_STEP_FORMS_0, (by rw [yv_STEP_FORMS_0]; exact rfl), fun _ _ => .tup (.inr ⟨o_STEP_FORMS_0, i_STEP_FORMS_0, n_STEP_FORMS_0, yt_STEP_FORMS_0, yc_STEP_FORMS_0, yd_STEP_FORMS_0, (by (rw [← Array.length_toList, ← yw_STEP_FORMS_0.length]; decide)), yw_STEP_FORMS_0⟩) (.cons (.str _) (.cons (.str _) .nil))⟩ (.cons ⟨u_STEP_FORMS_1, yx_STEP_FORMS_1⟩ ⟨.ref t_STEP_FORMS_1, (by rw [yv_STEP_FORMS_1]; exact rfl), fun _ _ => .tup (.inr ⟨o_STEP_FORMS_1, i_STEP_FORMS_1, n_STEP_FORMS_1, yt_STEP_FORMS_1, yc_STEP_FORMS_1, yd_STEP_FORMS_1, (by (rw [← Array.length_toList, ← yw_STEP_FORMS_1.length]; decide)), yw_STEP_FORMS_1⟩) (.cons (.str _) (.cons (.str _) .nil))⟩ (.cons ⟨u_STEP_FORMS_2, yx_STEP_FORMS_2⟩ ⟨.ref t_STEP_FORMS_2, (by rw [yv_STEP_FORMS_2]; exact rfl), fun _ _ => .tup (.inr ⟨o_STEP_FORMS_2, i_STEP_FORMS_2, n_STEP_FORMS_2, yt_STEP_FORMS_2, yc_STEP_FORMS_2, yd_STEP_FORMS_2, (by (rw [← Array.length_toList, ← yw_STEP_FORMS_2.length]; decide)), yw_STEP_FORMS_2⟩) (.cons (.str _) .nil)⟩ (.cons ⟨u_STEP_FORMS_3, yx_STEP_FORMS_3⟩ ⟨.ref t_STEP_FORMS_3, (by rw [yv_STEP_FORMS_3]; exact rfl), fun _ _ => .tup (.inr ⟨o_STEP_FORMS_3, i_STEP_FORMS_3, n_STEP_FORMS_3, yt_STEP_FORMS_3, yc_STEP_FORMS_3, yd_STEP_FORMS_3, (by (rw [← Array.length_toList, ← yw_STEP_FORMS_3.length]; decide)), yw_STEP_FORMS_3⟩) (.cons (.str _) (.cons (.str _) .nil))⟩ (.cons ⟨u_STEP_FORMS_4, yx_STEP_FORMS_4⟩ ⟨.ref t_STEP_FORMS_4, (by rw [yv_STEP_FORMS_4]; exact rfl), fun _ _ => .tup (.inr ⟨o_STEP_FORMS_4, i_STEP_FORMS_4, n_STEP_FORMS_4, yt_STEP_FORMS_4, yc_STEP_FORMS_4, yd_STEP_FORMS_4, (by (rw [← Array.length_toList, ← yw_STEP_FORMS_4.length]; decide)), yw_STEP_FORMS_4⟩) .nil⟩ .nil))))))⟩, yo_STEP_FORMS⟩, PySem.W.mg_of X G a_read_part, Pl.okfOf_ok, Pl.okgOf_ok, Pl.isaOf_ok, EC_BadRow.hs, ht_BadRow, EC_BadRow, PySem.W.exm_ref hb_WorksError hd_WorksError ht_WorksError s_BadRow_WorksError⟩
  have F_is_whole : FF_is_whole K f_is_whole _ := ⟨⟨_, _, _, _, _, _, _, _, _, _, rfl, l_is_whole, c_is_whole, .inl ⟨rfl, rfl⟩, .inl rfl⟩, k_is_whole⟩
  have b_is_whole := F_is_whole.bindsN (ps := ["thing"]) fun _ _ _ _ _ _ us hl => match us, hl with | [_], _ => rfl
  have F_is_among : FF_is_among K f_is_among _ := ⟨⟨_, _, _, _, _, _, _, _, _, _, rfl, l_is_among, c_is_among, .inl ⟨rfl, rfl⟩, .inl rfl⟩, k_is_among⟩
  have b_is_among := F_is_among.bindsN (ps := ["thing", "least", "most"]) fun _ _ _ _ _ _ us hl => match us, hl with | [_, _, _], _ => rfl
  have F_is_text_of : FF_is_text_of K f_is_text_of _ := ⟨⟨_, _, _, _, _, _, _, _, _, _, rfl, l_is_text_of, c_is_text_of, .inl ⟨rfl, rfl⟩, .inl rfl⟩, k_is_text_of⟩
  have b_is_text_of := F_is_text_of.bindsN (ps := ["thing", "signs", "most"]) fun _ _ _ _ _ _ us hl => match us, hl with | [_, _, _], _ => rfl
  have F_number_of : FF_number_of K f_number_of _ := ⟨⟨_, _, _, _, _, _, _, _, _, _, rfl, l_number_of, c_number_of, .inl ⟨rfl, rfl⟩, .inl rfl⟩, k_number_of⟩
  have b_number_of := F_number_of.bindsN (ps := ["word"]) fun _ _ _ _ _ _ us hl => match us, hl with | [_], _ => rfl
  have F_signed_of : FF_signed_of K f_signed_of _ := ⟨⟨_, _, _, _, _, _, _, _, _, _, rfl, l_signed_of, c_signed_of, .inl ⟨rfl, rfl⟩, .inl rfl⟩, k_signed_of⟩
  have b_signed_of := F_signed_of.bindsN (ps := ["word"]) fun _ _ _ _ _ _ us hl => match us, hl with | [_], _ => rfl
  have F_words_of : FF_words_of K f_words_of _ := ⟨⟨_, _, _, _, _, _, _, _, _, _, rfl, l_words_of, c_words_of, .inl ⟨rfl, rfl⟩, .inl rfl⟩, k_words_of⟩
  have b_words_of := F_words_of.bindsN (ps := ["row"]) fun _ _ _ _ _ _ us hl => match us, hl with | [_], _ => rfl
  have F_fits_step : FF_fits_step K f_fits_step _ := ⟨⟨_, _, _, _, _, _, _, _, _, _, rfl, l_fits_step, c_fits_step, .inl ⟨rfl, rfl⟩, .inl rfl⟩, k_fits_step⟩
  have b_fits_step := F_fits_step.bindsN (ps := ["kind", "part"]) fun _ _ _ _ _ _ us hl => match us, hl with | [_, _], _ => rfl
  have F_read_part : FF_read_part K f_read_part _ := ⟨⟨_, _, _, _, _, _, _, _, _, _, rfl, l_read_part, c_read_part, .inl ⟨rfl, rfl⟩, .inl rfl⟩, k_read_part⟩
  have b_read_part := F_read_part.bindsN (ps := ["kind", "word"]) fun _ _ _ _ _ _ us hl => match us, hl with | [_, _], _ => rfl
  have F_parts_by : FF_parts_by K f_parts_by _ := ⟨⟨_, _, _, _, _, _, _, _, _, _, rfl, l_parts_by, c_parts_by, .inl ⟨rfl, rfl⟩, .inl rfl⟩, k_parts_by⟩
  have b_parts_by := F_parts_by.bindsN (ps := ["kinds", "words", "read"]) fun _ _ _ _ _ _ us hl => match us, hl with | [_, _, _], _ => rfl
  have F_BadRow_init : FF_BadRow_init K f_BadRow_init _ := ⟨⟨_, _, _, _, _, _, _, _, _, _, rfl, l_BadRow_init, c_BadRow_init, .inl ⟨rfl, rfl⟩, .inl rfl⟩, k_BadRow_init⟩
  have F_rows_of : FF_rows_of K f_rows_of _ := ⟨⟨_, _, _, _, _, _, _, _, _, _, rfl, l_rows_of, c_rows_of, .inl ⟨rfl, rfl⟩, .inl rfl⟩, k_rows_of⟩
  have b_rows_of := F_rows_of.bindsN (ps := ["text"]) fun _ _ _ _ _ _ us hl => match us, hl with | [_], _ => rfl
  have F_words_in : FF_words_in K f_words_in _ := ⟨⟨_, _, _, _, _, _, _, _, _, _, rfl, l_words_in, c_words_in, .inl ⟨rfl, rfl⟩, .inl rfl⟩, k_words_in⟩
  have b_words_in := F_words_in.bindsN (ps := ["row", "number"]) fun _ _ _ _ _ _ us hl => match us, hl with | [_, _], _ => rfl
  have F_read_step : FF_read_step K f_read_step _ := ⟨⟨_, _, _, _, _, _, _, _, _, _, rfl, l_read_step, c_read_step, .inl ⟨rfl, rfl⟩, .inl rfl⟩, k_read_step⟩
  have b_read_step := F_read_step.bindsN (ps := ["row", "number"]) fun _ _ _ _ _ _ us hl => match us, hl with | [_, _], _ => rfl
  have F_read_way : FF_read_way K f_read_way _ := ⟨⟨_, _, _, _, _, _, _, _, _, _, rfl, l_read_way, c_read_way, .inl ⟨rfl, rfl⟩, .inl rfl⟩, k_read_way⟩
  have b_read_way := F_read_way.bindsN (ps := ["text"]) fun _ _ _ _ _ _ us hl => match us, hl with | [_], _ => rfl
  have F_law_mixed : FF_law_mixed K f_law_mixed _ := ⟨⟨_, _, _, _, _, _, _, _, _, _, rfl, l_law_mixed, c_law_mixed, .inl ⟨rfl, rfl⟩, .inl rfl⟩, k_law_mixed⟩
  have b_law_mixed := F_law_mixed.bindsN (ps := ["cell", "k"]) fun _ _ _ _ _ _ us hl => match us, hl with | [_, _], _ => rfl
  have F_law_draw : FF_law_draw K f_law_draw _ := ⟨⟨_, _, _, _, _, _, _, _, _, _, rfl, l_law_draw, c_law_draw, .inl ⟨rfl, rfl⟩, .inl rfl⟩, k_law_draw⟩
  have b_law_draw := F_law_draw.bindsN (ps := ["cell", "k"]) fun _ _ _ _ _ _ us hl => match us, hl with | [_, _], _ => rfl
  have F_law_digit : FF_law_digit K f_law_digit _ := ⟨⟨_, _, _, _, _, _, _, _, _, _, rfl, l_law_digit, c_law_digit, .inl ⟨rfl, rfl⟩, .inl rfl⟩, k_law_digit⟩
  have b_law_digit := F_law_digit.bindsN (ps := ["state", "many"]) fun _ _ _ _ _ _ us hl => match us, hl with | [_, _], _ => rfl
  have F_law_any_step : FF_law_any_step K f_law_any_step _ := ⟨⟨_, _, _, _, _, _, _, _, _, _, rfl, l_law_any_step, c_law_any_step, .inl ⟨rfl, rfl⟩, .inl rfl⟩, k_law_any_step⟩
  have b_law_any_step := F_law_any_step.bindsN (ps := ["state"]) fun _ _ _ _ _ _ us hl => match us, hl with | [_], _ => rfl
  have F_law_row : FF_law_row K f_law_row _ := ⟨⟨_, _, _, _, _, _, _, _, _, _, rfl, l_law_row, c_law_row, .inl ⟨rfl, rfl⟩, .inl rfl⟩, k_law_row⟩
  have b_law_row := F_law_row.bindsN (ps := ["step"]) fun _ _ _ _ _ _ us hl => match us, hl with | [_], _ => rfl
  have F_law_number : FF_law_number K f_law_number _ := ⟨⟨_, _, _, _, _, _, _, _, _, _, rfl, l_law_number, c_law_number, .inl ⟨rfl, rfl⟩, .inl rfl⟩, k_law_number⟩
  have b_law_number := F_law_number.bindsN (ps := ["word"]) fun _ _ _ _ _ _ us hl => match us, hl with | [_], _ => rfl
  have F_law_read_row : FF_law_read_row K f_law_read_row _ := ⟨⟨_, _, _, _, _, _, _, _, _, _, rfl, l_law_read_row, c_law_read_row, .inl ⟨rfl, rfl⟩, .inl rfl⟩, k_law_read_row⟩
  have b_law_read_row := F_law_read_row.bindsN (ps := ["row"]) fun _ _ _ _ _ _ us hl => match us, hl with | [_], _ => rfl
  have F_law_due : FF_law_due K f_law_due _ := ⟨⟨_, _, _, _, _, _, _, _, _, _, rfl, l_law_due, c_law_due, .inl ⟨rfl, rfl⟩, .inl rfl⟩, k_law_due⟩
  have b_law_due := F_law_due.bindsN (ps := ["text"]) fun _ _ _ _ _ _ us hl => match us, hl with | [_], _ => rfl
  have F_law_bent : FF_law_bent K f_law_bent _ := ⟨⟨_, _, _, _, _, _, _, _, _, _, rfl, l_law_bent, c_law_bent, .inl ⟨rfl, rfl⟩, .inl rfl⟩, k_law_bent⟩
  have b_law_bent := F_law_bent.bindsN (ps := ["state", "text"]) fun _ _ _ _ _ _ us hl => match us, hl with | [_, _], _ => rfl
  have F_law_said : FF_law_said K f_law_said _ := ⟨⟨_, _, _, _, _, _, _, _, _, _, rfl, l_law_said, c_law_said, .inl ⟨rfl, rfl⟩, .inl rfl⟩, k_law_said⟩
  have b_law_said := F_law_said.bindsN (ps := ["text"]) fun _ _ _ _ _ _ us hl => match us, hl with | [_], _ => rfl
  have F_law : FF_law K fa _ := ⟨⟨_, _, _, _, _, _, _, _, _, _, rfl, l_law, c_law, .inl ⟨rfl, rfl⟩, .inl rfl⟩, k_law⟩
  have b_law := F_law.bindsN (ps := ["script"]) fun _ _ _ _ _ _ us hl => match us, hl with | [_], _ => rfl
  refine ⟨_, ff_law (⟨C_BadRow, C_WorksError, D_STEP_FORMS, f_read_part, Pl.isaOf K, Pl.okfOf K, Pl.okgOf K⟩ : CT), fun s v => F_law.bindsA (ps := ["script"]) (fun _ _ _ _ _ _ us hl => match us, hl with | [_], _ => rfl) s [v] rfl, fun base _ _ => ?_, Law.truth (⟨C_BadRow, C_WorksError, D_STEP_FORMS, f_read_part, Pl.isaOf K, Pl.okfOf K, Pl.okgOf K⟩ : CT) ⟨Pl.isaOf_map EC_BadRow il_BadRow, Pl.okfOf_eq ⟨⟨_, _, _, _, EG_BadRow⟩, tk_BadRow_row⟩, Pl.okgOf_eq ⟨⟨q1_BadRow, q2_BadRow, be_BadRow, q3_BadRow⟩, fn_BadRow_row⟩, Pl.okfOf_eq ⟨⟨_, _, _, _, EG_BadRow⟩, tk_BadRow_word⟩, Pl.okgOf_eq ⟨⟨q1_BadRow, q2_BadRow, be_BadRow, q3_BadRow⟩, fn_BadRow_word⟩⟩⟩
  have O_is_whole := ok_is_whole (P := l.prog) (w := w) (base := base) T  F_is_whole
  have L_is_whole : Lk l.prog w K mg base "is_whole" 1 ["thing"] ff_is_whole := ⟨_, _, O_is_whole, PySem.W.mg_of X G a_is_whole, k_is_whole, b_is_whole⟩
  have O_is_among := ok_is_among (P := l.prog) (w := w) (base := base) T L_is_whole F_is_among
  have L_is_among : Lk l.prog w K mg base "is_among" 2 ["thing", "least", "most"] ff_is_among := ⟨_, _, O_is_among, PySem.W.mg_of X G a_is_among, k_is_among, b_is_among⟩
  have O_is_text_of := ok_is_text_of (P := l.prog) (w := w) (base := base) T  F_is_text_of
  have L_is_text_of : Lk l.prog w K mg base "_is_text_of" 1 ["thing", "signs", "most"] ff_is_text_of := ⟨_, _, O_is_text_of, PySem.W.mg_of X G a_is_text_of, k_is_text_of, b_is_text_of⟩
  have O_number_of := ok_number_of (P := l.prog) (w := w) (base := base) T L_is_text_of F_number_of
  have L_number_of : Lk l.prog w K mg base "number_of" 2 ["word"] ff_number_of := ⟨_, _, O_number_of, PySem.W.mg_of X G a_number_of, k_number_of, b_number_of⟩
  have O_signed_of := ok_signed_of (P := l.prog) (w := w) (base := base) T L_number_of F_signed_of
  have L_signed_of : Lk l.prog w K mg base "signed_of" 3 ["word"] ff_signed_of := ⟨_, _, O_signed_of, PySem.W.mg_of X G a_signed_of, k_signed_of, b_signed_of⟩
  have O_words_of := ok_words_of (P := l.prog) (w := w) (base := base) T  F_words_of
  have L_words_of : Lk l.prog w K mg base "words_of" 1 ["row"] ff_words_of := ⟨_, _, O_words_of, PySem.W.mg_of X G a_words_of, k_words_of, b_words_of⟩
  have O_fits_step := ok_fits_step (P := l.prog) (w := w) (base := base) T L_is_among F_fits_step
  have L_fits_step : Lk l.prog w K mg base "fits_step" 3 ["kind", "part"] ff_fits_step := ⟨_, _, O_fits_step, PySem.W.mg_of X G a_fits_step, k_fits_step, b_fits_step⟩
  have O_read_part := ok_read_part (P := l.prog) (w := w) (base := base) T L_signed_of L_fits_step F_read_part
  have L_read_part : Lk l.prog w K mg base "_read_part" 4 ["kind", "word"] ff_read_part := ⟨_, _, O_read_part, PySem.W.mg_of X G a_read_part, k_read_part, b_read_part⟩
  have V_tab : LkV l.prog w K mg base 4 2 (tab (⟨C_BadRow, C_WorksError, D_STEP_FORMS, f_read_part, Pl.isaOf K, Pl.okfOf K, Pl.okgOf K⟩ : CT)) := ⟨fun a F h => by
    unfold tab at h
    split at h
    · rename_i ea
      cases h
      rw [ea]
      exact ⟨_, _, O_read_part, rfl, k_read_part, b_read_part⟩
    cases h⟩
  have O_parts_by := ok_parts_by (P := l.prog) (w := w) (base := base) T V_tab F_parts_by
  have L_parts_by : Lk l.prog w K mg base "parts_by" 5 ["kinds", "words", "read"] (ff_parts_by _) := ⟨_, _, O_parts_by, PySem.W.mg_of X G a_parts_by, k_parts_by, b_parts_by⟩
  have O_BadRow_init := ok_BadRow_init (P := l.prog) (w := w) (base := base) T  F_BadRow_init
  have G_BadRow_2 : LkG l.prog w K mg base "BadRow" 1 ["self", "row", "word"] (ff_BadRow_init (⟨C_BadRow, C_WorksError, D_STEP_FORMS, f_read_part, Pl.isaOf K, Pl.okfOf K, Pl.okgOf K⟩ : CT)) C_BadRow [] := ⟨⟨_, _, [], [], _, _, _, _, EG_BadRow, ii_BadRow, ti_BadRow, O_BadRow_init, PySem.W.mg_of X G a_BadRow, F_BadRow_init.bindsN (ps := ["self", "row", "word"]) (fun _ _ _ _ _ _ us hl => match us, hl with | [_, _, _], _ => rfl), .nil, fun _ _ => .nil⟩⟩
  have O_rows_of := ok_rows_of (P := l.prog) (w := w) (base := base) T G_BadRow_2 F_rows_of
  have OQ_rows_of := okq_rows_of (P := l.prog) (w := w) (base := base) T G_BadRow_2 F_rows_of
  have Q_rows_of : LkQ l.prog w K mg base "rows_of" 3 ["text"] (qq_rows_of (⟨C_BadRow, C_WorksError, D_STEP_FORMS, f_read_part, Pl.isaOf K, Pl.okfOf K, Pl.okgOf K⟩ : CT)) := ⟨_, _, OQ_rows_of, PySem.W.mg_of X G a_rows_of, k_rows_of, b_rows_of⟩
  have L_rows_of : Lk l.prog w K mg base "rows_of" 3 ["text"] (ff_rows_of _) := ⟨_, _, O_rows_of, PySem.W.mg_of X G a_rows_of, k_rows_of, b_rows_of⟩
  have O_words_in := ok_words_in (P := l.prog) (w := w) (base := base) T L_words_of G_BadRow_2 F_words_in
  have OQ_words_in := okq_words_in (P := l.prog) (w := w) (base := base) T L_words_of G_BadRow_2 F_words_in
  have Q_words_in : LkQ l.prog w K mg base "words_in" 3 ["row", "number"] (qq_words_in (⟨C_BadRow, C_WorksError, D_STEP_FORMS, f_read_part, Pl.isaOf K, Pl.okfOf K, Pl.okgOf K⟩ : CT)) := ⟨_, _, OQ_words_in, PySem.W.mg_of X G a_words_in, k_words_in, b_words_in⟩
  have L_words_in : Lk l.prog w K mg base "words_in" 3 ["row", "number"] (ff_words_in _) := ⟨_, _, O_words_in, PySem.W.mg_of X G a_words_in, k_words_in, b_words_in⟩
  have O_read_step := ok_read_step (P := l.prog) (w := w) (base := base) T L_words_in L_parts_by Q_words_in G_BadRow_2 F_read_step
  have OQ_read_step := okq_read_step (P := l.prog) (w := w) (base := base) T L_words_in L_parts_by Q_words_in G_BadRow_2 F_read_step
  have Q_read_step : LkQ l.prog w K mg base "_read_step" 6 ["row", "number"] (qq_read_step (⟨C_BadRow, C_WorksError, D_STEP_FORMS, f_read_part, Pl.isaOf K, Pl.okfOf K, Pl.okgOf K⟩ : CT)) := ⟨_, _, OQ_read_step, PySem.W.mg_of X G a_read_step, k_read_step, b_read_step⟩
  have L_read_step : Lk l.prog w K mg base "_read_step" 6 ["row", "number"] (ff_read_step _) := ⟨_, _, O_read_step, PySem.W.mg_of X G a_read_step, k_read_step, b_read_step⟩
  have O_read_way := ok_read_way (P := l.prog) (w := w) (base := base) T L_rows_of L_read_step Q_rows_of Q_read_step F_read_way
  have OQ_read_way := okq_read_way (P := l.prog) (w := w) (base := base) T L_rows_of L_read_step Q_rows_of Q_read_step F_read_way
  have Q_read_way : LkQ l.prog w K mg base "read_way" 7 ["text"] (qq_read_way (⟨C_BadRow, C_WorksError, D_STEP_FORMS, f_read_part, Pl.isaOf K, Pl.okfOf K, Pl.okgOf K⟩ : CT)) := ⟨_, _, OQ_read_way, PySem.W.mg_of X G a_read_way, k_read_way, b_read_way⟩
  have L_read_way : Lk l.prog w K mg base "read_way" 7 ["text"] (ff_read_way _) := ⟨_, _, O_read_way, PySem.W.mg_of X G a_read_way, k_read_way, b_read_way⟩
  have O_law_mixed := ok_law_mixed (P := l.prog) (w := w) (base := base) T  F_law_mixed
  have L_law_mixed : Lk l.prog w K mg base "_law_mixed" 1 ["cell", "k"] ff_law_mixed := ⟨_, _, O_law_mixed, PySem.W.mg_of X G a_law_mixed, k_law_mixed, b_law_mixed⟩
  have O_law_draw := ok_law_draw (P := l.prog) (w := w) (base := base) T  F_law_draw
  have L_law_draw : Lk l.prog w K mg base "_law_draw" 1 ["cell", "k"] ff_law_draw := ⟨_, _, O_law_draw, PySem.W.mg_of X G a_law_draw, k_law_draw, b_law_draw⟩
  have O_law_digit := ok_law_digit (P := l.prog) (w := w) (base := base) T L_law_mixed F_law_digit
  have L_law_digit : Lk l.prog w K mg base "_law_digit" 2 ["state", "many"] ff_law_digit := ⟨_, _, O_law_digit, PySem.W.mg_of X G a_law_digit, k_law_digit, b_law_digit⟩
  have O_law_any_step := ok_law_any_step (P := l.prog) (w := w) (base := base) T L_law_digit F_law_any_step
  have L_law_any_step : Lk l.prog w K mg base "_law_any_step" 3 ["state"] ff_law_any_step := ⟨_, _, O_law_any_step, PySem.W.mg_of X G a_law_any_step, k_law_any_step, b_law_any_step⟩
  have O_law_row := ok_law_row (P := l.prog) (w := w) (base := base) T  F_law_row
  have L_law_row : Lk l.prog w K mg base "_law_row" 1 ["step"] ff_law_row := ⟨_, _, O_law_row, PySem.W.mg_of X G a_law_row, k_law_row, b_law_row⟩
  have O_law_number := ok_law_number (P := l.prog) (w := w) (base := base) T  F_law_number
  have L_law_number : Lk l.prog w K mg base "_law_number" 1 ["word"] ff_law_number := ⟨_, _, O_law_number, PySem.W.mg_of X G a_law_number, k_law_number, b_law_number⟩
  have O_law_read_row := ok_law_read_row (P := l.prog) (w := w) (base := base) T L_law_number F_law_read_row
  have L_law_read_row : Lk l.prog w K mg base "_law_read_row" 2 ["row"] ff_law_read_row := ⟨_, _, O_law_read_row, PySem.W.mg_of X G a_law_read_row, k_law_read_row, b_law_read_row⟩
  have O_law_due := ok_law_due (P := l.prog) (w := w) (base := base) T L_law_read_row F_law_due
  have L_law_due : Lk l.prog w K mg base "_law_due" 3 ["text"] ff_law_due := ⟨_, _, O_law_due, PySem.W.mg_of X G a_law_due, k_law_due, b_law_due⟩
  have O_law_bent := ok_law_bent (P := l.prog) (w := w) (base := base) T L_law_digit F_law_bent
  have L_law_bent : Lk l.prog w K mg base "_law_bent" 3 ["state", "text"] ff_law_bent := ⟨_, _, O_law_bent, PySem.W.mg_of X G a_law_bent, k_law_bent, b_law_bent⟩
  have O_law_said := ok_law_said (P := l.prog) (w := w) (base := base) T Q_read_way F_law_said
  have L_law_said : Lk l.prog w K mg base "_law_said" 8 ["text"] (ff_law_said _) := ⟨_, _, O_law_said, PySem.W.mg_of X G a_law_said, k_law_said, b_law_said⟩
  have O_law := ok_law (P := l.prog) (w := w) (base := base) T L_law_draw L_law_digit L_law_any_step L_law_row L_law_said L_law_due L_law_bent F_law
  exact O_law
end Law
open PySem PySem.W PyProof.Rows
set_option maxRecDepth 100000 in
set_option maxHeartbeats 0 in
theorem PySem.Challenge.cw_panelworks_k65_texts_of_no_way_holds : PySem.Challenge.rw_panelworks_k65_texts_of_no_way.Holds := by
  w_on; o_law; k_head; (case hw => w_witness2)
  k_fill
  refine Pl.walk_ofX (l := PySem.Challenge.rw_panelworks_k65_texts_of_no_way) (n := 63) (k := 9) (x := "script") rfl (by decide) rfl ⟨rfl, by decide, by decide⟩ (fun w h Y => PySem.W.kIn_of Y) ?F
  case F =>
    intro w mg fa h KX G hmg
    refine' Law.all_mk KX G hmg ?q_z_int ?q_z_isinstance ?q_z_bool ?q_z_str ?q_z_len ?q_z_all ?q_z_zip ?q_z_tuple ?q_z_enumerate ?q_z_range ?q_z_abs ?q_z_sum ?q_z_repr ?q_g_MOST_FIGURES ?q_g_FIGURES ?q_g_MOST_TOOL ?q_g_MOST_LENGTH ?q_g_MOST_HIGH ?q_g_MOST_SIDE ?q_a_BadRow ?q_a_WorksError ?q_a_STEP_FORMS ?q_yl_STEP_FORMS ?q_yo_STEP_FORMS ?q_yk_STEP_FORMS ?q_ye_STEP_FORMS ?q_yx_STEP_FORMS_0 ?q_yv_STEP_FORMS_0 ?q_yt_STEP_FORMS_0 ?q_yc_STEP_FORMS_0 ?q_yd_STEP_FORMS_0 ?q_yw_STEP_FORMS_0 ?q_yx_STEP_FORMS_1 ?q_yv_STEP_FORMS_1 ?q_yt_STEP_FORMS_1 ?q_yc_STEP_FORMS_1 ?q_yd_STEP_FORMS_1 ?q_yw_STEP_FORMS_1 ?q_yx_STEP_FORMS_2 ?q_yv_STEP_FORMS_2 ?q_yt_STEP_FORMS_2 ?q_yc_STEP_FORMS_2 ?q_yd_STEP_FORMS_2 ?q_yw_STEP_FORMS_2 ?q_yx_STEP_FORMS_3 ?q_yv_STEP_FORMS_3 ?q_yt_STEP_FORMS_3 ?q_yc_STEP_FORMS_3 ?q_yd_STEP_FORMS_3 ?q_yw_STEP_FORMS_3 ?q_yx_STEP_FORMS_4 ?q_yv_STEP_FORMS_4 ?q_yt_STEP_FORMS_4 ?q_yc_STEP_FORMS_4 ?q_yd_STEP_FORMS_4 ?q_yw_STEP_FORMS_4 ?q_e1_BadRow ?q_e2_BadRow ?q_sa_BadRow ?q_ii_BadRow ?q_ti_BadRow ?q_tk_BadRow_row ?q_fn_BadRow_row ?q_tk_BadRow_word ?q_fn_BadRow_word ?q_ke_BadRow ?q_be_BadRow ?q_q1_BadRow ?q_q2_BadRow ?q_q3_BadRow ?q_q4_BadRow ?q_q7_BadRow ?q_il_BadRow ?q_q5_ ?q_q6_ ?q_hd_WorksError ?q_ht_WorksError ?q_hd_BadRow ?q_ht_BadRow ?q_hb_WorksError ?q_s_BadRow_WorksError ?q_a_is_whole ?q_l_is_whole ?q_c_is_whole ?q_k_is_whole ?q_a_is_among ?q_l_is_among ?q_c_is_among ?q_k_is_among ?q_a_is_text_of ?q_l_is_text_of ?q_c_is_text_of ?q_k_is_text_of ?q_a_number_of ?q_l_number_of ?q_c_number_of ?q_k_number_of ?q_a_signed_of ?q_l_signed_of ?q_c_signed_of ?q_k_signed_of ?q_a_words_of ?q_l_words_of ?q_c_words_of ?q_k_words_of ?q_a_fits_step ?q_l_fits_step ?q_c_fits_step ?q_k_fits_step ?q_a_read_part ?q_l_read_part ?q_c_read_part ?q_k_read_part ?q_a_parts_by ?q_l_parts_by ?q_c_parts_by ?q_k_parts_by ?q_l_BadRow_init ?q_c_BadRow_init ?q_k_BadRow_init ?q_a_rows_of ?q_l_rows_of ?q_c_rows_of ?q_k_rows_of ?q_a_words_in ?q_l_words_in ?q_c_words_in ?q_k_words_in ?q_a_read_step ?q_l_read_step ?q_c_read_step ?q_k_read_step ?q_a_read_way ?q_l_read_way ?q_c_read_way ?q_k_read_way ?q_a_law_mixed ?q_l_law_mixed ?q_c_law_mixed ?q_k_law_mixed ?q_a_law_draw ?q_l_law_draw ?q_c_law_draw ?q_k_law_draw ?q_a_law_digit ?q_l_law_digit ?q_c_law_digit ?q_k_law_digit ?q_a_law_any_step ?q_l_law_any_step ?q_c_law_any_step ?q_k_law_any_step ?q_a_law_row ?q_l_law_row ?q_c_law_row ?q_k_law_row ?q_a_law_number ?q_l_law_number ?q_c_law_number ?q_k_law_number ?q_a_law_read_row ?q_l_law_read_row ?q_c_law_read_row ?q_k_law_read_row ?q_a_law_due ?q_l_law_due ?q_c_law_due ?q_k_law_due ?q_a_law_bent ?q_l_law_bent ?q_c_law_bent ?q_k_law_bent ?q_a_law_said ?q_l_law_said ?q_c_law_said ?q_k_law_said ?q_a_law ?q_l_law ?q_c_law ?q_k_law
    (case q_z_int => k_is)
    (case q_z_isinstance => k_is)
    (case q_z_bool => k_is)
    (case q_z_str => k_is)
    (case q_z_len => k_is)
    (case q_z_all => k_is)
    (case q_z_zip => k_is)
    (case q_z_tuple => k_is)
    (case q_z_enumerate => k_is)
    (case q_z_range => k_is)
    (case q_z_abs => k_is)
    (case q_z_sum => k_is)
    (case q_z_repr => k_is)
    (case q_g_MOST_FIGURES => k_is)
    (case q_g_FIGURES => k_is)
    (case q_g_MOST_TOOL => k_is)
    (case q_g_MOST_LENGTH => k_is)
    (case q_g_MOST_HIGH => k_is)
    (case q_g_MOST_SIDE => k_is)
    (case q_a_BadRow => k_is)
    (case q_a_WorksError => k_is)
    (case q_a_STEP_FORMS => k_is)
    (case q_yl_STEP_FORMS => k_is)
    (case q_yo_STEP_FORMS => first | rfl | decide)
    (case q_yk_STEP_FORMS => exact ⟨⟨_, _, rfl, rfl⟩, ⟨⟨_, _, rfl, rfl⟩, ⟨⟨_, _, rfl, rfl⟩, ⟨⟨_, _, rfl, rfl⟩, ⟨⟨_, _, rfl, rfl⟩, trivial⟩⟩⟩⟩⟩)
    (case q_ye_STEP_FORMS => exact rfl)
    (case q_yx_STEP_FORMS_0 => exact rfl)
    (case q_yv_STEP_FORMS_0 => exact rfl)
    (case q_yt_STEP_FORMS_0 => k_is)
    (case q_yc_STEP_FORMS_0 => exact rfl)
    (case q_yd_STEP_FORMS_0 => exact rfl)
    (case q_yw_STEP_FORMS_0 => exact (.cons ⟨_, rfl⟩ (.cons ⟨_, rfl⟩ .nil)))
    (case q_yx_STEP_FORMS_1 => exact rfl)
    (case q_yv_STEP_FORMS_1 => exact rfl)
    (case q_yt_STEP_FORMS_1 => k_is)
    (case q_yc_STEP_FORMS_1 => exact rfl)
    (case q_yd_STEP_FORMS_1 => exact rfl)
    (case q_yw_STEP_FORMS_1 => exact (.cons ⟨_, rfl⟩ (.cons ⟨_, rfl⟩ .nil)))
    (case q_yx_STEP_FORMS_2 => exact rfl)
    (case q_yv_STEP_FORMS_2 => exact rfl)
    (case q_yt_STEP_FORMS_2 => k_is)
    (case q_yc_STEP_FORMS_2 => exact rfl)
    (case q_yd_STEP_FORMS_2 => exact rfl)
    (case q_yw_STEP_FORMS_2 => exact (.cons ⟨_, rfl⟩ .nil))
    (case q_yx_STEP_FORMS_3 => exact rfl)
    (case q_yv_STEP_FORMS_3 => exact rfl)
    (case q_yt_STEP_FORMS_3 => k_is)
    (case q_yc_STEP_FORMS_3 => exact rfl)
    (case q_yd_STEP_FORMS_3 => exact rfl)
    (case q_yw_STEP_FORMS_3 => exact (.cons ⟨_, rfl⟩ (.cons ⟨_, rfl⟩ .nil)))
    (case q_yx_STEP_FORMS_4 => exact rfl)
    (case q_yv_STEP_FORMS_4 => exact rfl)
    (case q_yt_STEP_FORMS_4 => k_is)
    (case q_yc_STEP_FORMS_4 => exact rfl)
    (case q_yd_STEP_FORMS_4 => exact rfl)
    (case q_yw_STEP_FORMS_4 => exact .nil)
    (case q_e1_BadRow => kernel_rfl)
    (case q_e2_BadRow => kernel_rfl)
    (case q_sa_BadRow => k_is)
    (case q_ii_BadRow => k_is)
    (case q_ti_BadRow => k_is)
    (case q_tk_BadRow_row => k_is)
    (case q_fn_BadRow_row => k_is)
    (case q_tk_BadRow_word => k_is)
    (case q_fn_BadRow_word => k_is)
    (case q_ke_BadRow => k_is)
    (case q_be_BadRow => k_is)
    (case q_q1_BadRow => k_is)
    (case q_q2_BadRow => k_is)
    (case q_q3_BadRow => k_is)
    (case q_q4_BadRow => k_is)
    (case q_q7_BadRow => k_is)
    (case q_il_BadRow => kernel_rfl)
    (case q_q5_ => k_is)
    (case q_q6_ => k_is)
    (case q_hd_WorksError => k_is)
    (case q_ht_WorksError => k_is)
    (case q_hd_BadRow => k_is)
    (case q_ht_BadRow => k_is)
    (case q_hb_WorksError => k_is)
    (case q_s_BadRow_WorksError => k_is)
    (case q_a_is_whole => k_is)
    (case q_l_is_whole => k_is)
    (case q_c_is_whole => k_is)
    (case q_k_is_whole => k_is)
    (case q_a_is_among => k_is)
    (case q_l_is_among => k_is)
    (case q_c_is_among => k_is)
    (case q_k_is_among => k_is)
    (case q_a_is_text_of => k_is)
    (case q_l_is_text_of => k_is)
    (case q_c_is_text_of => k_is)
    (case q_k_is_text_of => k_is)
    (case q_a_number_of => k_is)
    (case q_l_number_of => k_is)
    (case q_c_number_of => k_is)
    (case q_k_number_of => k_is)
    (case q_a_signed_of => k_is)
    (case q_l_signed_of => k_is)
    (case q_c_signed_of => k_is)
    (case q_k_signed_of => k_is)
    (case q_a_words_of => k_is)
    (case q_l_words_of => k_is)
    (case q_c_words_of => k_is)
    (case q_k_words_of => k_is)
    (case q_a_fits_step => k_is)
    (case q_l_fits_step => k_is)
    (case q_c_fits_step => k_is)
    (case q_k_fits_step => k_is)
    (case q_a_read_part => k_is)
    (case q_l_read_part => k_is)
    (case q_c_read_part => k_is)
    (case q_k_read_part => k_is)
    (case q_a_parts_by => k_is)
    (case q_l_parts_by => k_is)
    (case q_c_parts_by => k_is)
    (case q_k_parts_by => k_is)
    (case q_l_BadRow_init => k_is)
    (case q_c_BadRow_init => k_is)
    (case q_k_BadRow_init => k_is)
    (case q_a_rows_of => k_is)
    (case q_l_rows_of => k_is)
    (case q_c_rows_of => k_is)
    (case q_k_rows_of => k_is)
    (case q_a_words_in => k_is)
    (case q_l_words_in => k_is)
    (case q_c_words_in => k_is)
    (case q_k_words_in => k_is)
    (case q_a_read_step => k_is)
    (case q_l_read_step => k_is)
    (case q_c_read_step => k_is)
    (case q_k_read_step => k_is)
    (case q_a_read_way => k_is)
    (case q_l_read_way => k_is)
    (case q_c_read_way => k_is)
    (case q_k_read_way => k_is)
    (case q_a_law_mixed => k_is)
    (case q_l_law_mixed => k_is)
    (case q_c_law_mixed => k_is)
    (case q_k_law_mixed => k_is)
    (case q_a_law_draw => k_is)
    (case q_l_law_draw => k_is)
    (case q_c_law_draw => k_is)
    (case q_k_law_draw => k_is)
    (case q_a_law_digit => k_is)
    (case q_l_law_digit => k_is)
    (case q_c_law_digit => k_is)
    (case q_k_law_digit => k_is)
    (case q_a_law_any_step => k_is)
    (case q_l_law_any_step => k_is)
    (case q_c_law_any_step => k_is)
    (case q_k_law_any_step => k_is)
    (case q_a_law_row => k_is)
    (case q_l_law_row => k_is)
    (case q_c_law_row => k_is)
    (case q_k_law_row => k_is)
    (case q_a_law_number => k_is)
    (case q_l_law_number => k_is)
    (case q_c_law_number => k_is)
    (case q_k_law_number => k_is)
    (case q_a_law_read_row => k_is)
    (case q_l_law_read_row => k_is)
    (case q_c_law_read_row => k_is)
    (case q_k_law_read_row => k_is)
    (case q_a_law_due => k_is)
    (case q_l_law_due => k_is)
    (case q_c_law_due => k_is)
    (case q_k_law_due => k_is)
    (case q_a_law_bent => k_is)
    (case q_l_law_bent => k_is)
    (case q_c_law_bent => k_is)
    (case q_k_law_bent => k_is)
    (case q_a_law_said => k_is)
    (case q_l_law_said => k_is)
    (case q_c_law_said => k_is)
    (case q_k_law_said => k_is)
    (case q_a_law => k_is)
    (case q_l_law => k_is)
    (case q_c_law => k_is)
    (case q_k_law => k_is)

