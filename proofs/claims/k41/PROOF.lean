import PyProof.Rows.All
import Wide.All
import OpenK.AllK
import Wide.FinOn
import HandS.Base
import HandS.Call
import HandS.List
import HandS.Comp
import HandS.ExcIs
import HandS.ExcInit
import HandS.ExcValue
import HandS.Lambda
import HandS.Dict
import HandS.Words
import HandS.WordsList
import HandS.NoneIn
import HandS.Wide
import HandS.WideBits
import HandS.Gcd
import HandS.TupAny
import HandS.Text
import HandS.Deep
import HandS.TupLe
import HandS.Defaults
import HandS.IsInst
import HandS.FStr
import HandS.More
import HandS.Zip
import HandS.Iter
import HandS.Ends
import PyProof.ReprRoads
import HandS.Exc
import HandS.ExcOwn
import HandS.WordsExc
import HandS.TryOnly
import HandS.Style
import KE.GoesMore
import PyProof.ListNew
import HandS.Flow
import KE.KExcInit
import HandS.ExcField
import KE.KExcIs
import HandS.MakeKw
import HandS.TupMul
import HandS.RaiseMore
import PyProof.ListStr
import KE.GoesZip
import HandS.Replace
import KE.GoesEnum
import HandS.EndOwn
import KE.KDictPairs
import HandS.MakeKwOnly
import PySem.Challenge.RW_panelworks_k41_where_tools_may_stand
set_option Elab.async false
set_option linter.all false
set_option maxRecDepth 100000
set_option maxHeartbeats 8000000
namespace Pl
open PySem L2
/-- a value without addresses; ref n: the n-th of the store of what changes -/
inductive D where
  | non | bl (b : Bool) | int (i : Int) | str (x : Str) | ty (n : String) | ob (a : Addr)
  | tup (xs : List D) | lst (xs : List D) | lsk (xs : List D) | ref (n : Nat)
  /-- a lambda at f, its code object at c of the name q, what it holds -/
  | lam (f c : Addr) (q : Str) (vs : List V) (ds : List D)
/-- what changes -/
inductive MO where
  | dead | lst (xs : List D) | dic (kvs : List (Key × D)) | exc (C : Addr)
  | exo (C : Addr) (d : Option Nat) | exd (fs : List (Str × D)) | exn (C : Addr)
  /-- caught, its dict the m-th -/
  | exf (C : Addr) (m : Nat)
  /-- the dict of one that was caught -/
  | exg (fs : List (Str × D))
  /-- the table of a def's code objects, of the name q -/
  | tab (a : Addr) (q : Str)
  /-- a dict whose keys are cells, rows of ints -/
  | dct (kvs : List (List Int × D))
abbrev Mh := List MO
abbrev Env := List (Option D)
section
variable (K : PySem.W.Frag) (B : Hp) (ι : List Addr)
mutual
inductive Rep : V → D → Prop
  | non : Rep .non .non
  | bl (b : Bool) : Rep (.bl b) (.bl b)
  | int (i : Int) : Rep (.int i) (.int i)
  | str (x : Str) : Rep (.str x) (.str x)
  | ty (n : String) : Rep (.ty n) (.ty n)
  | ob (a : Addr) : Rep (.ref a) (.ob a)
  | tup {a : Addr} {vs : List V} {ds : List D} : SqT K B a vs → RepL vs ds → Rep (.ref a) (.tup ds)
  | lst {a : Addr} {vs : List V} {ds : List D} : B a = some (.lst vs) → RepL vs ds → Rep (.ref a) (.lst ds)
  | lsk {a : Addr} {vs : List V} {ds : List D} : SqL K B a vs → RepL vs ds → Rep (.ref a) (.lsk ds)
  | ref {a : Addr} {n : Nat} : ι[n]? = some a → Rep (.ref a) (.ref n)
  | lam {f c : Addr} {q : Str} {vs : List V} {ds : List D} : B c = some (LamX.CodeO c q) → RepL vs ds → Rep (.ref f) (.lam f c q vs ds)
inductive RepL : List V → List D → Prop
  | nil : RepL [] []
  | cons {v : V} {d : D} {vs : List V} {ds : List D} : Rep v d → RepL vs ds → RepL (v :: vs) (d :: ds)
end
/-- a dict's pairs -/
inductive RepK : List (Key × V) → List (Key × D) → Prop
  | nil : RepK [] []
  | cons {k : Key} {v : V} {d : D} {vs : List (Key × V)} {ds : List (Key × D)} : Rep K B ι v d → RepK vs ds → RepK ((k, v) :: vs) ((k, d) :: ds)
end
theorem sqT_mono {K : PySem.W.Frag} {B B' : Hp} (s : ∀ b o, B b = some o → B' b = some o) {a : Addr} {vs : List V} (h : SqT K B a vs) : SqT K B' a vs := by
  rcases h with h | h
  · refine .inl ?_
    rcases h with h | ⟨o, h⟩
    · exact .inl (s _ _ h)
    · exact .inr ⟨o, s _ _ h⟩
  · exact .inr h
theorem sqL_mono {K : PySem.W.Frag} {B B' : Hp} (s : ∀ b o, B b = some o → B' b = some o) {a : Addr} {vs : List V} (h : SqL K B a vs) : SqL K B' a vs := by
  rcases h with h | h
  · refine .inl ?_
    rcases h with h | ⟨o, h⟩
    · exact .inl (s _ _ h)
    · exact .inr ⟨o, s _ _ h⟩
  · exact .inr h
section
variable {K : PySem.W.Frag} {B B' : Hp} {ι ι' : List Addr}
mutual
theorem Rep.mono (s : ∀ b o, B b = some o → B' b = some o) (p : ∀ (n : Nat) (a : Addr), ι[n]? = some a → ι'[n]? = some a) : ∀ {v : V} {d : D}, Rep K B ι v d → Rep K B' ι' v d
  | _, _, .non => .non
  | _, _, .bl b => .bl b
  | _, _, .int i => .int i
  | _, _, .str x => .str x
  | _, _, .ty n => .ty n
  | _, _, .ob a => .ob a
  | _, _, .tup h r => .tup (sqT_mono s h) (RepL.mono s p r)
  | _, _, .lst h r => .lst (s _ _ h) (RepL.mono s p r)
  | _, _, .lsk h r => .lsk (sqL_mono s h) (RepL.mono s p r)
  | _, _, .ref h => .ref (p _ _ h)
  | _, _, .lam h r => .lam (s _ _ h) (RepL.mono s p r)
theorem RepL.mono (s : ∀ b o, B b = some o → B' b = some o) (p : ∀ (n : Nat) (a : Addr), ι[n]? = some a → ι'[n]? = some a) : ∀ {vs : List V} {ds : List D}, RepL K B ι vs ds → RepL K B' ι' vs ds
  | _, _, .nil => .nil
  | _, _, .cons h r => .cons (Rep.mono s p h) (RepL.mono s p r)
end
theorem RepK.mono (s : ∀ b o, B b = some o → B' b = some o) (p : ∀ (n : Nat) (a : Addr), ι[n]? = some a → ι'[n]? = some a) : ∀ {vs : List (Key × V)} {ds : List (Key × D)}, RepK K B ι vs ds → RepK K B' ι' vs ds
  | _, _, .nil => .nil
  | _, _, .cons h r => .cons (h.mono s p) (RepK.mono s p r)
theorem RepL.len : ∀ {vs : List V} {ds : List D}, RepL K B ι vs ds → vs.length = ds.length
  | _, _, .nil => rfl
  | _, _, .cons _ r => congrArg (· + 1) r.len
theorem RepL.get : ∀ {vs : List V} {ds : List D} {i : Nat} {d : D}, RepL K B ι vs ds → ds[i]? = some d → ∃ v, vs[i]? = some v ∧ Rep K B ι v d
  | _, _, _, _, .nil, e => by simp at e
  | _, _, 0, _, .cons r _, e => by
    simp at e
    subst e
    exact ⟨_, rfl, r⟩
  | _, _, i + 1, _, .cons _ t, e => by
    obtain ⟨v, h1, h2⟩ := RepL.get (i := i) t (by simpa using e)
    exact ⟨v, by simpa using h1, h2⟩
theorem RepL.append : ∀ {vs ws : List V} {ds es : List D}, RepL K B ι vs ds → RepL K B ι ws es → RepL K B ι (vs ++ ws) (ds ++ es)
  | _, _, _, _, .nil, s => s
  | _, _, _, _, .cons r t, s => .cons r (t.append s)
theorem RepL.take : ∀ {vs : List V} {ds : List D} (n : Nat), RepL K B ι vs ds → RepL K B ι (vs.take n) (ds.take n)
  | _, _, 0, _ => .nil
  | _, _, _ + 1, .nil => .nil
  | _, _, n + 1, .cons r t => .cons r (t.take n)
theorem RepL.drop : ∀ {vs : List V} {ds : List D} (n : Nat), RepL K B ι vs ds → RepL K B ι (vs.drop n) (ds.drop n)
  | _, _, 0, r => r
  | _, _, _ + 1, .nil => .nil
  | _, _, n + 1, .cons _ t => t.drop n
theorem RepL.set {v : V} {d : D} (r : Rep K B ι v d) : ∀ {vs : List V} {ds : List D} (i : Nat), RepL K B ι vs ds → RepL K B ι (vs.set i v) (ds.set i d)
  | _, _, _, .nil => .nil
  | _, _, 0, .cons _ t => .cons r t
  | _, _, i + 1, .cons q t => .cons q (RepL.set r i t)
theorem RepL.reverse : ∀ {vs : List V} {ds : List D}, RepL K B ι vs ds → RepL K B ι vs.reverse ds.reverse
  | _, _, .nil => .nil
  | _, _, .cons r t => by
    rw [List.reverse_cons, List.reverse_cons]
    exact t.reverse.append (.cons r .nil)
end
structure Wd where
  H : Hp
  B : Hp
  ι : List Addr
  P : Hp
/-- alive at a -/
def Live (W : Wd) (M : Mh) (n : Nat) (a : Addr) (o : MO) : Prop := W.ι[n]? = some a ∧ M[n]? = some o ∧ o ≠ .dead
/-- an exception that was caught and is kept -/
def ExV (C a : Addr) : HO := .ext fun h => ∃ (oe : Obj) (vs : Array Value), h.get? a = some oe ∧ Zc (.ref C) none oe ∧ oe.data = .fields vs
/-- a caught exception with its dict -/
def ExVD (C d a : Addr) : HO := .ext fun h => ∃ (oe : Obj) (vs : Array Value), h.get? a = some oe ∧ Zc (.ref C) (some d) oe ∧ oe.data = .fields vs
/-- an exception's fields -/
inductive RepF (K : PySem.W.Frag) (B : Hp) (ι : List Addr) : List (Str × V) → List (Str × D) → Prop
  | nil : RepF K B ι [] []
  | cons {f : Str} {v : V} {d : D} {vs : List (Str × V)} {ds : List (Str × D)} : Rep K B ι v d → RepF K B ι vs ds → RepF K B ι ((f, v) :: vs) ((f, d) :: ds)
theorem RepF.mono {K : PySem.W.Frag} {B B' : Hp} {ι ι' : List Addr} (s : ∀ b o, B b = some o → B' b = some o) (p : ∀ (n : Nat) (a : Addr), ι[n]? = some a → ι'[n]? = some a) : ∀ {vs : List (Str × V)} {ds : List (Str × D)}, RepF K B ι vs ds → RepF K B' ι' vs ds
  | _, _, .nil => .nil
  | _, _, .cons h r => .cons (h.mono s p) (r.mono s p)
theorem RepF.len {K : PySem.W.Frag} {B : Hp} {ι : List Addr} : ∀ {vs : List (Str × V)} {ds : List (Str × D)}, RepF K B ι vs ds → vs.length = ds.length
  | _, _, .nil => rfl
  | _, _, .cons _ r => congrArg (· + 1) r.len
theorem RepF.get {K : PySem.W.Frag} {B : Hp} {ι : List Addr} : ∀ {vs : List (Str × V)} {ds : List (Str × D)} {f : Str} {d : D}, RepF K B ι vs ds → ds.lookup f = some d → ∃ v, vs.lookup f = some v ∧ Rep K B ι v d
  | _, _, _, _, .nil, e => by simp at e
  | _, _, f, d, .cons (f := g) h r, e => by
    rw [List.lookup_cons] at e ⊢
    by_cases q : f == g
    · rw [q] at e ⊢
      cases e
      exact ⟨_, rfl, h⟩
    · have q' : (f == g) = false := by simpa using q
      rw [q'] at e ⊢
      exact r.get e
def cellHash (k : List Int) : Int := reduceHash (Builtin.Tuple.tupleHashOf (k.map hashInt))
def cellE (x : List Int × Addr × Value) : DictEntry := ⟨cellHash x.1, .ref x.2.1, x.2.2⟩
abbrev KC : List (List Int × Addr × V) → List (List Int × Addr × Value) → Prop := Paired fun p q => p.1 = q.1 ∧ q.2.1 = p.2.1 ∧ RelV p.2.2 q.2.2
def DCL (a : Addr) (kvs : List (List Int × Addr × V)) : HO := .ext fun h => kvs.length ≤ sizeLine ∧ (a == sysModules) = false ∧ ∃ xs, KC kvs xs ∧ ∃ o es ep, h.get? a = some o ∧ o.ExactDict ∧ o.data = .dict es ep ∧ es.toList = xs.map cellE ∧ (xs.map (·.1)).Nodup
inductive RepC (K : PySem.W.Frag) (B : Hp) (ι : List Addr) : List (List Int × Addr × V) → List (List Int × D) → Prop
  | nil : RepC K B ι [] []
  | cons {k : List Int} {b : Addr} {v : V} {d : D} {vs : List (List Int × Addr × V)} {ds : List (List Int × D)} : SqT K B b (k.map V.int) → Rep K B ι v d → RepC K B ι vs ds → RepC K B ι ((k, b, v) :: vs) ((k, d) :: ds)
theorem RepC.mono {K : PySem.W.Frag} {B B' : Hp} {ι ι' : List Addr} (s : ∀ b o, B b = some o → B' b = some o) (p : ∀ (n : Nat) (a : Addr), ι[n]? = some a → ι'[n]? = some a) : ∀ {vs : List (List Int × Addr × V)} {ds : List (List Int × D)}, RepC K B ι vs ds → RepC K B' ι' vs ds
  | _, _, .nil => .nil
  | _, _, .cons h g r => .cons (sqT_mono s h) (g.mono s p) (r.mono s p)
inductive RepO (K : PySem.W.Frag) (B : Hp) (ι : List Addr) (a : Addr) : HO → MO → Prop
  | lst {vs : List V} {ds : List D} : RepL K B ι vs ds → RepO K B ι a (.lst vs) (.lst ds)
  | dic {vs : List (Key × V)} {ds : List (Key × D)} : RepK K B ι vs ds → RepO K B ι a (.dK vs) (.dic ds)
  | exc {C : Addr} : ExcC K C → RepO K B ι a (ExV C a) (.exc C)
  | exo {C : Addr} : RepO K B ι a (exo a C none) (.exo C none)
  | exoD {C d : Addr} {m : Nat} : ι[m]? = some d → RepO K B ι a (exo a C (some d)) (.exo C (some m))
  | exd {fs : List (Str × V)} {ds : List (Str × D)} : RepF K B ι fs ds → RepO K B ι a (exd a fs) (.exd ds)
  | exn {C : Addr} : RepO K B ι a (ExO (.ref C) a) (.exn C)
  | exg {fs : List (Str × V)} {ds : List (Str × D)} : RepF K B ι fs ds → RepO K B ι a (.xd fs) (.exg ds)
  | exf {C d : Addr} {m : Nat} : ExcC K C → ι[m]? = some d → RepO K B ι a (ExVD C d a) (.exf C m)
  | tab {q : Str} {ps : Array Value} : PySem.TriplesOk ps.toList → (∀ (pos : Pos) (cv : Value), PySem.codeAmong pos ps.toList = some cv → ∃ c, cv = .ref c ∧ B c = some (LamX.CodeO c q)) → RepO K B ι a (.tbl ps) (.tab a q)
  | dct {vs : List (List Int × Addr × V)} {ds : List (List Int × D)} : RepC K B ι vs ds → RepO K B ι a (DCL a vs) (.dct ds)
theorem RepO.mono {K : PySem.W.Frag} {B B' : Hp} {ι ι' : List Addr} (s : ∀ b o, B b = some o → B' b = some o) (p : ∀ (n : Nat) (a : Addr), ι[n]? = some a → ι'[n]? = some a) {a : Addr} {o : HO} {m : MO} : RepO K B ι a o m → RepO K B' ι' a o m
  | .lst r => .lst (r.mono s p)
  | .dic r => .dic (r.mono s p)
  | .exc h => .exc h
  | .exo => .exo
  | .exoD h => .exoD (p _ _ h)
  | .exd r => .exd (r.mono s p)
  | .exn => .exn
  | .exf h q => .exf h (p _ _ q)
  | .tab h q => .tab h fun pos cv e => by
    obtain ⟨c, e1, e2⟩ := q pos cv e
    exact ⟨c, e1, s _ _ e2⟩
  | .exg r => .exg (r.mono s p)
  | .dct r => .dct (r.mono s p)
structure Wd.Ok (K : PySem.W.Frag) (W : Wd) (M : Mh) : Prop where
  sub : ∀ a o, W.B a = some o → W.H a = some o
  pin : ∀ a o, W.P a = some o → W.H a = some o ∧ W.B a = none
  len : W.ι.length = M.length
  live : ∀ n a o, Live W M n a o → W.B a = none ∧ W.P a = none ∧ ∃ h, W.H a = some h ∧ RepO K W.B W.ι a h o
  inj : ∀ n m a o u, Live W M n a o → Live W M m a u → n = m
structure Wd.Le (W W' : Wd) : Prop where
  same : ∀ b o, W.B b = some o → W'.B b = some o
  pre : ∃ l, W'.ι = W.ι ++ l
  pp : W'.P = W.P
theorem Wd.Le.refl (W : Wd) : W.Le W := ⟨fun _ _ h => h, ⟨[], by simp⟩, rfl⟩
theorem Wd.Le.trans {W W1 W2 : Wd} (a : W.Le W1) (b : W1.Le W2) : W.Le W2 := by
  obtain ⟨l, hl⟩ := a.pre
  obtain ⟨m, hm⟩ := b.pre
  exact ⟨fun c o h => b.same c o (a.same c o h), ⟨l ++ m, by rw [hm, hl, List.append_assoc]⟩, b.pp.trans a.pp⟩
theorem Wd.Le.ix {W W' : Wd} (a : W.Le W') : ∀ (n : Nat) (c : Addr), W.ι[n]? = some c → W'.ι[n]? = some c := fun n c h => by
  obtain ⟨l, hl⟩ := a.pre
  rw [hl, List.getElem?_append_left (List.getElem?_eq_some_iff.mp h).1]
  exact h
theorem Rep.le {K : PySem.W.Frag} {W W' : Wd} (a : W.Le W') {v : V} {d : D} (r : Rep K W.B W.ι v d) : Rep K W'.B W'.ι v d := r.mono a.same a.ix
theorem RepL.le {K : PySem.W.Frag} {W W' : Wd} (a : W.Le W') {v : List V} {d : List D} (r : RepL K W.B W.ι v d) : RepL K W'.B W'.ι v d := r.mono a.same a.ix
/-- the same, whatever is held -/
structure Wd.Lo (W W' : Wd) : Prop where
  same : ∀ b o, W.B b = some o → W'.B b = some o
  pre : ∃ l, W'.ι = W.ι ++ l
theorem Wd.Le.lo {W W' : Wd} (a : W.Le W') : W.Lo W' := ⟨a.same, a.pre⟩
theorem Wd.Lo.ix {W W' : Wd} (a : W.Lo W') : ∀ (n : Nat) (c : Addr), W.ι[n]? = some c → W'.ι[n]? = some c := fun n c h => by
  obtain ⟨l, hl⟩ := a.pre
  rw [hl, List.getElem?_append_left (List.getElem?_eq_some_iff.mp h).1]
  exact h
/-- the slots -/
structure Slots (K : PySem.W.Frag) (W : Wd) (σ : St) (δ : Env) : Prop where
  len : σ.length = δ.length
  at_ : ∀ (i : Nat) (d : D), δ[i]? = some (some d) → ∃ v, σ[i]? = some (some v) ∧ Rep K W.B W.ι v d
theorem Slots.le {K : PySem.W.Frag} {W W' : Wd} (a : W.Le W') {σ : St} {δ : Env} (s : Slots K W σ δ) : Slots K W' σ δ :=
  ⟨s.len, fun i d h => by
    obtain ⟨v, h1, h2⟩ := s.at_ i d h
    exact ⟨v, h1, h2.le a⟩⟩
theorem Slots.set {K : PySem.W.Frag} {W : Wd} {σ : St} {δ : Env} {v : V} {d : D} (s : Slots K W σ δ) (r : Rep K W.B W.ι v d) (i : Nat) : Slots K W (σ.set i (some v)) (δ.set i (some d)) :=
  ⟨by rw [List.length_set, List.length_set]; exact s.len, fun j e h => by
    rw [List.getElem?_set] at h
    rw [List.getElem?_set]
    by_cases hij : i = j
    · subst hij
      rw [if_pos rfl] at h
      rw [if_pos rfl]
      by_cases hl : i < δ.length
      · rw [if_pos hl] at h
        rw [if_pos (by rw [s.len]; exact hl)]
        cases h
        exact ⟨v, rfl, r⟩
      · rw [if_neg hl] at h
        cases h
    · rw [if_neg hij] at h
      rw [if_neg hij]
      exact s.at_ j e h⟩
section
variable {K : PySem.W.Frag} {W : Wd} {M : Mh} {p : Addr} {o : HO}
def Wd.lay (W : Wd) (p : Addr) (o : HO) : Wd := ⟨upd W.H p o, upd W.B p o, W.ι, W.P⟩
theorem updk {H : Hp} {p : Addr} {o : HO} (h : H p = none) : ∀ b u, H b = some u → upd H p o b = some u := fun b u e => by
  rw [upd_ne (ne_of_none e h)]
  exact e
theorem Wd.Ok.bnone (w : W.Ok K M) (hp : W.H p = none) : W.B p = none := by
  cases e : W.B p with
  | none => rfl
  | some u =>
    have := w.sub p u e
    rw [hp] at this
    cases this
theorem Wd.Ok.pnone (w : W.Ok K M) (hp : W.H p = none) : W.P p = none := by
  cases e : W.P p with
  | none => rfl
  | some u =>
    have := (w.pin p u e).1
    rw [hp] at this
    cases this
theorem Wd.lay_le (w : W.Ok K M) (hp : W.H p = none) : W.Le (W.lay p o) := ⟨updk (w.bnone hp), ⟨[], by simp [Wd.lay]⟩, rfl⟩
theorem Wd.lay_ok (w : W.Ok K M) (hp : W.H p = none) : (W.lay p o).Ok K M := by
  have lv : ∀ n a u, Live (W.lay p o) M n a u → Live W M n a u := fun n a u h => h
  have ne : ∀ {n a u}, Live W M n a u → a ≠ p := fun {n a u} h e => by
    obtain ⟨_, _, k, hk, _⟩ := w.live n a u h
    rw [e, hp] at hk
    cases hk
  refine ⟨fun a u h => ?_, fun a u h => ?_, w.len, fun n a u h => ?_, fun n m a u v h k => w.inj n m a u v (lv _ _ _ h) (lv _ _ _ k)⟩
  · by_cases e : a = p
    · subst e
      show upd W.H a o a = _
      have h' : upd W.B a o a = some u := h
      rw [upd_same] at h' ⊢
      exact h'
    · show upd W.H p o a = _
      have h' : upd W.B p o a = some u := h
      rw [upd_ne e] at h' ⊢
      exact w.sub a u h'
  · have q := w.pin a u h
    have e : a ≠ p := fun e => by
      rw [e, hp] at q
      cases q.1
    exact ⟨(upd_ne e).trans q.1, (upd_ne e).trans q.2⟩
  · obtain ⟨h1, h2, k, h3, h4⟩ := w.live n a u (lv _ _ _ h)
    have e := ne (lv _ _ _ h)
    exact ⟨(upd_ne e).trans h1, h2, k, (upd_ne e).trans h3, h4.mono (updk (w.bnone hp)) fun _ _ q => q⟩
/-- a new thing of the store -/
def Wd.new (W : Wd) (p : Addr) (o : HO) : Wd := ⟨upd W.H p o, W.B, W.ι ++ [p], W.P⟩
theorem Wd.new_le : W.Le (W.new p o) := ⟨fun _ _ h => h, ⟨[p], rfl⟩, rfl⟩
theorem Wd.new_ok {m : MO} (w : W.Ok K M) (hp : W.H p = none) (r : RepO K W.B W.ι p o m) : (W.new p o).Ok K (M ++ [m]) := by
  have lv : ∀ n a u, Live (W.new p o) (M ++ [m]) n a u → Live W M n a u ∨ (n = M.length ∧ a = p ∧ u = m) := fun n a u h => by
    obtain ⟨h1, h2, h3⟩ := h
    have h1' : (W.ι ++ [p])[n]? = some a := h1
    by_cases hn : n < M.length
    · rw [List.getElem?_append_left (by rw [w.len]; exact hn)] at h1'
      rw [List.getElem?_append_left hn] at h2
      exact .inl ⟨h1', h2, h3⟩
    · have e : n = M.length := by
        have := (List.getElem?_eq_some_iff.mp h2).1
        rw [List.length_append] at this
        simp at this
        omega
      subst e
      rw [List.getElem?_append_right (by rw [w.len]; exact Nat.le_refl _), w.len] at h1'
      rw [List.getElem?_append_right (Nat.le_refl _)] at h2
      simp at h1' h2
      exact .inr ⟨rfl, h1'.symm, h2.symm⟩
  have ne : ∀ {n a u}, Live W M n a u → a ≠ p := fun {n a u} h e => by
    obtain ⟨_, _, k, hk, _⟩ := w.live n a u h
    rw [e, hp] at hk
    cases hk
  have ln : ∀ {n a u}, Live W M n a u → n < M.length := fun {n a u} h => (List.getElem?_eq_some_iff.mp h.2.1).1
  refine ⟨fun a u h => ?_, fun a u h => ?_, ?_, fun n a u h => ?_, fun n k a u v h g => ?_⟩
  · exact (upd_ne (fun e => by
      rw [e] at h
      have := w.bnone hp
      rw [show (W.new p o).B p = W.B p from rfl, this] at h
      cases h)).trans (w.sub a u h)
  · have q := w.pin a u h
    have e : a ≠ p := fun e => by
      rw [e, hp] at q
      cases q.1
    exact ⟨(upd_ne e).trans q.1, q.2⟩
  · show (W.ι ++ [p]).length = _
    simp [w.len]
  · rcases lv n a u h with h | ⟨_, rfl, rfl⟩
    · obtain ⟨h1, h2, k, h3, h4⟩ := w.live n a u h
      exact ⟨h1, h2, k, (upd_ne (ne h)).trans h3, h4.mono (fun _ _ q => q) Wd.new_le.ix⟩
    · exact ⟨w.bnone hp, w.pnone hp, o, upd_same, r.mono (fun _ _ q => q) Wd.new_le.ix⟩
  · rcases lv n a u h with h | ⟨h1, h2, h3⟩
    · rcases lv k a v g with g | ⟨g1, g2, g3⟩
      · exact w.inj n k a u v h g
      · exact absurd g2 (ne h)
    · rcases lv k a v g with g | ⟨g1, g2, g3⟩
      · exact absurd h2 (ne g)
      · omega
/-- a thing of the store changed -/
def Wd.put (W : Wd) (p : Addr) (o : HO) : Wd := ⟨upd W.H p o, W.B, W.ι, W.P⟩
theorem Wd.put_le : W.Le (W.put p o) := ⟨fun _ _ h => h, ⟨[], by simp [Wd.put]⟩, rfl⟩
theorem Wd.put_ok {n : Nat} {m m' : MO} (w : W.Ok K M) (lv0 : Live W M n p m) (r : RepO K W.B W.ι p o m') : (W.put p o).Ok K (M.set n m') := by
  have hn : n < M.length := (List.getElem?_eq_some_iff.mp lv0.2.1).1
  have lv : ∀ k a u, Live (W.put p o) (M.set n m') k a u → (k = n ∧ a = p ∧ u = m') ∨ (k ≠ n ∧ Live W M k a u) := fun k a u h => by
    obtain ⟨h1, h2, h3⟩ := h
    by_cases e : n = k
    · subst e
      rw [List.getElem?_set_self hn] at h2
      have e1 : some a = some p := (show W.ι[n]? = some a from h1).symm.trans lv0.1
      cases e1
      cases h2
      exact .inl ⟨rfl, rfl, rfl⟩
    · rw [List.getElem?_set_ne e] at h2
      exact .inr ⟨fun z => e z.symm, h1, h2, h3⟩
  have ne : ∀ {k a u}, k ≠ n → Live W M k a u → a ≠ p := fun {k a u} hk h e => by
    subst e
    exact hk (w.inj _ _ _ _ _ h lv0)
  obtain ⟨b0, p0, _⟩ := w.live n p m lv0
  refine ⟨fun a u h => ?_, fun a u h => ?_, ?_, fun k a u h => ?_, fun k j a u v h g => ?_⟩
  · exact (upd_ne (fun e => by
      rw [e] at h
      rw [show (W.put p o).B p = W.B p from rfl, b0] at h
      cases h)).trans (w.sub a u h)
  · have e : a ≠ p := fun e => by
      rw [e] at h
      rw [show (W.put p o).P p = W.P p from rfl, p0] at h
      cases h
    have q := w.pin a u h
    exact ⟨(upd_ne e).trans q.1, q.2⟩
  · show W.ι.length = _
    rw [List.length_set]
    exact w.len
  · rcases lv k a u h with ⟨rfl, rfl, rfl⟩ | ⟨hk, h⟩
    · exact ⟨b0, p0, o, upd_same, r⟩
    · obtain ⟨h1, h2, g, h3, h4⟩ := w.live k a u h
      exact ⟨h1, h2, g, (upd_ne (ne hk h)).trans h3, h4⟩
  · rcases lv k a u h with ⟨rfl, rfl, rfl⟩ | ⟨hk, h2⟩
    · rcases lv j a v g with ⟨rfl, _, _⟩ | ⟨hj, g⟩
      · rfl
      · exact absurd rfl (ne hj g)
    · rcases lv j a v g with ⟨_, e2, _⟩ | ⟨hj, g⟩
      · exact absurd e2 (ne hk h2)
      · exact w.inj _ _ _ _ _ h2 g
/-- a list of the store stands still from here on -/
def Wd.frz (W : Wd) (p : Addr) (o : HO) : Wd := ⟨W.H, upd W.B p o, W.ι, W.P⟩
theorem Wd.frz_le {n : Nat} {m : MO} (w : W.Ok K M) (lv0 : Live W M n p m) : W.Le (W.frz p o) := ⟨updk (w.live n p m lv0).1, ⟨[], by simp [Wd.frz]⟩, rfl⟩
theorem Wd.frz_ok {n : Nat} {m : MO} (w : W.Ok K M) (lv0 : Live W M n p m) (ho : W.H p = some o) : (W.frz p o).Ok K (M.set n .dead) := by
  have hn : n < M.length := (List.getElem?_eq_some_iff.mp lv0.2.1).1
  have lv : ∀ k a u, Live (W.frz p o) (M.set n .dead) k a u → k ≠ n ∧ Live W M k a u := fun k a u h => by
    obtain ⟨h1, h2, h3⟩ := h
    by_cases e : n = k
    · subst e
      rw [List.getElem?_set_self hn] at h2
      cases h2
      exact absurd rfl h3
    · rw [List.getElem?_set_ne e] at h2
      exact ⟨fun z => e z.symm, h1, h2, h3⟩
  have ne : ∀ {k a u}, k ≠ n → Live W M k a u → a ≠ p := fun {k a u} hk h e => by
    subst e
    exact hk (w.inj _ _ _ _ _ h lv0)
  obtain ⟨b0, p0, _⟩ := w.live n p m lv0
  refine ⟨fun a u h => ?_, fun a u h => ?_, ?_, fun k a u h => ?_, fun k j a u v h g => ?_⟩
  · by_cases e : a = p
    · subst e
      have h' : upd W.B a o a = some u := h
      rw [upd_same] at h'
      cases h'
      exact ho
    · have h' : upd W.B p o a = some u := h
      rw [upd_ne e] at h'
      exact w.sub a u h'
  · have q := w.pin a u h
    have e : a ≠ p := fun e => by
      rw [e] at h
      rw [show (W.frz p o).P p = W.P p from rfl, p0] at h
      cases h
    exact ⟨q.1, (upd_ne e).trans q.2⟩
  · show W.ι.length = _
    rw [List.length_set]
    exact w.len
  · obtain ⟨hk, h⟩ := lv k a u h
    obtain ⟨h1, h2, g, h3, h4⟩ := w.live k a u h
    exact ⟨(upd_ne (ne hk h)).trans h1, h2, g, h3, h4.mono (updk b0) fun _ _ q => q⟩
  · exact w.inj _ _ _ _ _ (lv k a u h).2 (lv j a v g).2
/-- something of another's, while it is looked at -/
def Wd.hold (W : Wd) (p : Addr) (o : HO) : Wd := ⟨upd W.H p o, W.B, W.ι, upd W.P p o⟩
theorem Wd.hold_ok (w : W.Ok K M) (hp : W.H p = none) : (W.hold p o).Ok K M := by
  have ne : ∀ {n a u}, Live W M n a u → a ≠ p := fun {n a u} h e => by
    obtain ⟨_, _, k, hk, _⟩ := w.live n a u h
    rw [e, hp] at hk
    cases hk
  refine ⟨fun a u h => ?_, fun a u h => ?_, w.len, fun n a u h => ?_, fun n m a u v h k => w.inj n m a u v h k⟩
  · exact (upd_ne (fun e => by
      rw [e] at h
      have := w.bnone hp
      rw [show (W.hold p o).B p = W.B p from rfl, this] at h
      cases h)).trans (w.sub a u h)
  · by_cases e : a = p
    · subst e
      have h' : upd W.P a o a = some u := h
      rw [upd_same] at h'
      exact ⟨upd_same.trans h', w.bnone hp⟩
    · have h' : upd W.P p o a = some u := h
      rw [upd_ne e] at h'
      have q := w.pin a u h'
      exact ⟨(upd_ne e).trans q.1, q.2⟩
  · obtain ⟨h1, h2, k, h3, h4⟩ := w.live n a u h
    exact ⟨h1, (upd_ne (ne h)).trans h2, k, (upd_ne (ne h)).trans h3, h4⟩
end
end Pl
namespace Pl
open PySem L2
theorem ifF {A B : Prop} (h : B) : if false = true then A else B := by
  rw [if_neg Bool.false_ne_true]
  exact h
theorem ifT {A B : Prop} (h : A) : if true = true then A else B := by
  rw [if_pos rfl]
  exact h
abbrev EF := Env → Mh → Option (D × Mh)
abbrev TF := Env → Mh → Option (Bool × Mh)
abbrev AF := Env → Mh → Option (List D × Mh)
abbrev GF := D → Env → Option Env
inductive Out where
  | nx (δ : Env) (M : Mh) | rt (d : D) (M : Mh) | bk (δ : Env) (M : Mh) | ct (δ : Env) (M : Mh)
abbrev SF := Env → Mh → Option Out
abbrev Fn := List D → Mh → Option (D × Mh)
/-- what is wanted of a value d behind, the store M' -/
def VR (K : PySem.W.Frag) (W : Wd) (d : D) (M' : Mh) (Q : VK) : Prop := ∀ v W', W.Le W' → W'.Ok K M' → Rep K W'.B W'.ι v d → Q v W'.H
def VRL (K : PySem.W.Frag) (W : Wd) (d : List D) (M' : Mh) (Q : List V → Hp → Prop) : Prop := ∀ v W', W.Le W' → W'.Ok K M' → RepL K W'.B W'.ι v d → Q v W'.H
theorem VR.le {K : PySem.W.Frag} {W W1 : Wd} {d : D} {M' : Mh} {Q : VK} (h : VR K W d M' Q) (l : W.Le W1) : VR K W1 d M' Q := fun v W' a o r => h v W' (l.trans a) o r
def ER (K : PySem.W.Frag) (t : TE) (f : EF) : Prop := ∀ (σ : St) (W : Wd) (δ : Env) (M : Mh) (d : D) (M' : Mh) (Q : VK), W.Ok K M → Slots K W σ δ → f δ M = some (d, M') → VR K W d M' Q → t σ W.H Q
def AR (K : PySem.W.Frag) (t : TA) (f : AF) : Prop := ∀ (σ : St) (W : Wd) (δ : Env) (M : Mh) (d : List D) (M' : Mh) (Q : List V → Hp → Prop), W.Ok K M → Slots K W σ δ → f δ M = some (d, M') → VRL K W d M' Q → t σ W.H Q
def TR (K : PySem.W.Frag) (t : TT) (f : TF) : Prop := ∀ (σ : St) (W : Wd) (δ : Env) (M : Mh) (b : Bool) (M' : Mh) (Q : Bool → Hp → Prop), W.Ok K M → Slots K W σ δ → f δ M = some (b, M') → (∀ W', W.Le W' → W'.Ok K M' → Q b W'.H) → t σ W.H Q
/-- what is wanted behind a statement -/
def Post (K : PySem.W.Frag) (E : Ends) (W : Wd) : Out → Prop
  | .nx δ M => ∀ σ W', W.Le W' → W'.Ok K M → Slots K W' σ δ → E.nx σ W'.H
  | .bk δ M => ∀ σ W', W.Le W' → W'.Ok K M → Slots K W' σ δ → E.bk σ W'.H
  | .ct δ M => ∀ σ W', W.Le W' → W'.Ok K M → Slots K W' σ δ → E.ct σ W'.H
  | .rt d M => VR K W d M E.rt
theorem Post.le {K : PySem.W.Frag} {E : Ends} {W W1 : Wd} {o : Out} (l : W.Le W1) (h : Post K E W o) : Post K E W1 o := by
  cases o with
  | nx δ M => exact fun σ W' a b c => h σ W' (l.trans a) b c
  | bk δ M => exact fun σ W' a b c => h σ W' (l.trans a) b c
  | ct δ M => exact fun σ W' a b c => h σ W' (l.trans a) b c
  | rt d M => exact fun v W' a b c => h v W' (l.trans a) b c
def SR (K : PySem.W.Frag) (t : TS) (f : SF) : Prop := ∀ (σ : St) (W : Wd) (δ : Env) (M : Mh) (o : Out) (E : Ends), W.Ok K M → Slots K W σ δ → f δ M = some o → Post K E W o → t E σ W.H
section
variable {I : Type}
structure DE (X : I → Cx) (K : PySem.W.Frag) (e : Expr) (f : EF) : Prop where
  go : ∃ t : TE, (∀ i, PE (X i) e t) ∧ ER K t f
structure DA (X : I → Cx) (K : PySem.W.Frag) (es : List Expr) (f : AF) : Prop where
  go : ∃ t : TA, (∀ i, PA (X i) es t) ∧ AR K t f
structure DT (X : I → Cx) (K : PySem.W.Frag) (e : Expr) (f : TF) : Prop where
  go : ∃ t : TT, (∀ i, PT (X i) e t) ∧ TR K t f
structure DW (X : I → Cx) (K : PySem.W.Frag) (e : Expr) (f : TF) : Prop where
  go : ∃ t : TT, (∀ i, PW (X i) e t) ∧ TR K t f
structure DS (X : I → Cx) (K : PySem.W.Frag) (s : Stmt) (f : SF) : Prop where
  go : ∃ t : TS, (∀ i, PS (X i) s t) ∧ SR K t f
structure DB (X : I → Cx) (K : PySem.W.Frag) (s : List Stmt) (f : SF) : Prop where
  go : ∃ t : TS, (∀ i, PSs (X i) s t) ∧ SR K t f
/-- a comparison: both as a value and as a test -/
structure DC (X : I → Cx) (K : PySem.W.Frag) (e : Expr) (f : EF) : Prop where
  go : ∃ t : TE, (∀ i, PE (X i) e t) ∧ (∀ i, PT (X i) e (tTest t)) ∧ ER K t f
/-- what all contexts of the family have in common -/
structure Ctx (X : I → Cx) (P : Program) (w : World) (K : PySem.W.Frag) (mg : Str → Option Value) (base : Heap) (k : Nat) : Prop where
  prog : ∀ i, (X i).prog = P
  wd : ∀ i, (X i).w = w
  K : ∀ i, (X i).K = K
  mg : ∀ i, (X i).mg = mg
  base : ∀ i, (X i).base = base
  room : ∀ i, Room k (X i).A
  grd : ∀ i, (X i).A.guards = some []
  calm : ∀ i, (X i).calm = true
variable {X : I → Cx} {P : Program} {w : World} {K : PySem.W.Frag} {mg : Str → Option Value} {base : Heap} {k : Nat}
def eVar (i : Nat) : EF := fun δ M => match δ[i]? with
  | some (some d) => some (d, M)
  | _ => none
theorem DE.var (j : Nat) {x : Str} {pos : Pos} (hN : ∀ i, (X i).N[j]? = some x := by intro _; rfl) (hv : ∀ i, Vis (X i).env.scope x := by intro _; first | exact Or.inl rfl | exact Or.inr (Or.inl rfl) | exact Or.inr (Or.inr rfl)) (hd : (x == ("__debug__" : Str)) = false := by decide)
    (hcd : (x == ("__classdict__" : Str)) = false := by decide) : DE X K (.Name x pos) (eVar j) := by
  refine ⟨tVar j, fun i => pe_var (hN i) (hv i) hd hcd, fun σ W δ M d M' Q w s e q => ?_⟩
  unfold eVar at e
  split at e
  · rename_i d' h
    cases e
    obtain ⟨v, h1, h2⟩ := s.at_ _ _ h
    exact ⟨v, h1, q v W (.refl W) w h2⟩
  · cases e
def eC (d : D) : EF := fun _ M => some (d, M)
theorem er_c {v : V} {d : D} (r : ∀ B ι, Rep K B ι v d) : ER K (tC v) (eC d) := fun σ W δ M d' M' Q w s e q => by
  cases e
  exact q v W (.refl W) w (r _ _)
theorem DE.int {n : Int} {j pos} : DE X K (.Constant (.int n) j pos) (eC (.int n)) := ⟨_, fun i => pe_int, er_c fun _ _ => .int n⟩
theorem DE.bool {b : Bool} {j pos} : DE X K (.Constant (.bool b) j pos) (eC (.bl b)) := ⟨_, fun i => pe_bl, er_c fun _ _ => .bl b⟩
theorem DE.non {j pos} : DE X K (.Constant .none j pos) (eC .non) := ⟨_, fun i => pe_non, er_c fun _ _ => .non⟩
theorem DE.str {x : Str} {j pos} : DE X K (.Constant (.str x) j pos) (eC (.str x)) := ⟨_, fun i => pe_str, er_c fun _ _ => .str x⟩
/-- a name of the module -/
theorem DE.glob (c : Ctx X P w K mg base k) {x : Str} {pos : Pos} {v : V} {u : Value} {d : D} (hm : mg x = some u) (r : RelV v u) (q : ∀ B ι, Rep K B ι v d) (hg : ∀ i, Gl (X i) x := by intro _; rfl)
    (hd : (x == ("__debug__" : Str)) = false := by decide) : DE X K (.Name x pos) (eC d) :=
  ⟨_, fun i => pe_glob (hg i) (by rw [c.mg i]; exact hm) r (hd := hd), er_c q⟩
/-- a built-in's name, not called -/
theorem DE.bltn (c : Ctx X P w K mg base k) {x : Str} {pos : Pos} {v : V} {u : Value} {d : D} (hm : mg x = none) (hv : bootBuiltins x = some u) (r : RelV v u) (q : ∀ B ι, Rep K B ι v d) (hg : ∀ i, Gl (X i) x := by intro _; rfl)
    (hn : x ≠ "__name__" := by decide) (hd : (x == ("__debug__" : Str)) = false := by decide) : DE X K (.Name x pos) (eC d) :=
  ⟨_, fun i => pe_bltn (hg i) (by rw [c.mg i]; exact hm) hv r (hn := hn) (hd := hd), er_c q⟩
def aNil : AF := fun _ M => some ([], M)
def aCons (f : EF) (g : AF) : AF := fun δ M => match f δ M with
  | some (d, M1) => (match g δ M1 with
    | some (ds, M2) => some (d :: ds, M2)
    | none => none)
  | none => none
theorem DA.nil : DA X K [] aNil := ⟨tNil, fun i => pa_nil, fun σ W δ M d M' Q w s e q => by
  cases e
  exact q [] W (.refl W) w .nil⟩
theorem DA.cons {e : Expr} {es : List Expr} {f : EF} {g : AF} (a : DE X K e f) (b : DA X K es g) (he : ∀ i, starEach (e :: es) (X i).env = (false, eval e (X i).env) :: starEach es (X i).env := by intro _; rfl) : DA X K (e :: es) (aCons f g) := by
  obtain ⟨ta, pa, ra⟩ := a.go
  obtain ⟨tb, pb, rb⟩ := b.go
  refine ⟨tCons ta tb, fun i => pa_cons (pa i) (pb i) (he i), fun σ W δ M d M' Q w s e q => ?_⟩
  unfold aCons at e
  split at e
  · rename_i d1 M1 h1
    split at e
    · rename_i ds M2 h2
      cases e
      refine ra σ W δ M d1 M1 _ w s h1 fun v W1 l1 w1 r1 => ?_
      refine rb σ W1 δ M1 ds _ _ w1 (s.le l1) h2 fun vs W2 l2 w2 r2 => ?_
      exact q _ W2 (l1.trans l2) w2 (.cons (r1.le l2) r2)
    · cases e
  · cases e
def eTup (g : AF) : EF := fun δ M => match g δ M with
  | some (ds, M1) => if ds.length ≤ sizeLine then some (.tup ds, M1) else none
  | none => none
def eLst (g : AF) : EF := fun δ M => match g δ M with
  | some (ds, M1) => if ds.length ≤ sizeLine then some (.lst ds, M1) else none
  | none => none
/-- a new list of the store -/
def eNew (g : AF) : EF := fun δ M => match g δ M with
  | some (ds, M1) => if ds.length ≤ sizeLine then some (.ref M1.length, M1 ++ [.lst ds]) else none
  | none => none
theorem lay_tup {W : Wd} {M : Mh} {p : Addr} {vs : List V} {ds : List D} (w : W.Ok K M) (hp : W.H p = none) (r : RepL K W.B W.ι vs ds) :
    W.Le (W.lay p (.tup vs)) ∧ (W.lay p (.tup vs)).Ok K M ∧ Rep K (W.lay p (.tup vs)).B (W.lay p (.tup vs)).ι (.ref p) (.tup ds) :=
  ⟨Wd.lay_le w hp, Wd.lay_ok w hp, .tup (.inl (.inl upd_same)) (r.le (Wd.lay_le w hp))⟩
theorem lay_lst {W : Wd} {M : Mh} {p : Addr} {vs : List V} {ds : List D} (w : W.Ok K M) (hp : W.H p = none) (r : RepL K W.B W.ι vs ds) :
    W.Le (W.lay p (.lst vs)) ∧ (W.lay p (.lst vs)).Ok K M ∧ Rep K (W.lay p (.lst vs)).B (W.lay p (.lst vs)).ι (.ref p) (.lst ds) :=
  ⟨Wd.lay_le w hp, Wd.lay_ok w hp, .lst upd_same (r.le (Wd.lay_le w hp))⟩
theorem new_lst {W : Wd} {M : Mh} {p : Addr} {vs : List V} {ds : List D} (w : W.Ok K M) (hp : W.H p = none) (r : RepL K W.B W.ι vs ds) :
    W.Le (W.new p (.lst vs)) ∧ (W.new p (.lst vs)).Ok K (M ++ [.lst ds]) ∧ Rep K (W.new p (.lst vs)).B (W.new p (.lst vs)).ι (.ref p) (.ref M.length) :=
  ⟨Wd.new_le, Wd.new_ok w hp (.lst r), .ref (by
    show (W.ι ++ [p])[M.length]? = some p
    rw [← w.len]
    simp)⟩
theorem DE.tup {es : List Expr} {j pos} {g : AF} (a : DA X K es g) (hpl : ∀ i, (backTo pos (starEach es (X i).env)).any (·.1) = false := by intro _; rfl) : DE X K (.Tuple es j pos) (eTup g) := by
  obtain ⟨ta, pa, ra⟩ := a.go
  refine ⟨tTup ta, fun i => pe_tup (pa i), fun σ W δ M d M' Q w s e q => ?_⟩
  unfold eTup at e
  split at e
  · rename_i ds M1 h1
    split at e
    · rename_i hl
      cases e
      refine ra σ W δ M ds _ _ w s h1 fun vs W1 l1 w1 r1 => ⟨by rw [r1.len]; exact hl, fun p hp => ?_⟩
      obtain ⟨l2, w2, r2⟩ := lay_tup w1 hp r1
      exact q _ _ (l1.trans l2) w2 r2
    · cases e
  · cases e
theorem DE.lst {es : List Expr} {pos} {g : AF} (a : DA X K es g) : DE X K (.List es pos) (eLst g) := by
  obtain ⟨ta, pa, ra⟩ := a.go
  refine ⟨tLst ta, fun i => pe_lst (pa i), fun σ W δ M d M' Q w s e q => ?_⟩
  unfold eLst at e
  split at e
  · rename_i ds M1 h1
    split at e
    · rename_i hl
      cases e
      refine ra σ W δ M ds _ _ w s h1 fun vs W1 l1 w1 r1 => ⟨by rw [r1.len]; exact hl, fun p hp => ?_⟩
      obtain ⟨l2, w2, r2⟩ := lay_lst w1 hp r1
      exact q _ _ (l1.trans l2) w2 r2
    · cases e
  · cases e
theorem DE.new {es : List Expr} {pos} {g : AF} (a : DA X K es g) : DE X K (.List es pos) (eNew g) := by
  obtain ⟨ta, pa, ra⟩ := a.go
  refine ⟨tLst ta, fun i => pe_lst (pa i), fun σ W δ M d M' Q w s e q => ?_⟩
  unfold eNew at e
  split at e
  · rename_i ds M1 h1
    split at e
    · rename_i hl
      cases e
      refine ra σ W δ M ds _ _ w s h1 fun vs W1 l1 w1 r1 => ⟨by rw [r1.len]; exact hl, fun p hp => ?_⟩
      obtain ⟨l2, w2, r2⟩ := new_lst w1 hp r1
      exact q _ _ (l1.trans l2) w2 r2
    · cases e
  · cases e
abbrev O1 := D → Mh → Option (D × Mh)
abbrev O2 := D → D → Mh → Option (D × Mh)
def OD (K : PySem.W.Frag) (r : R2) (g : O2) : Prop := ∀ (W : Wd) (M : Mh) (x y : V) (a b : D) (z : D) (M' : Mh) (Q : VK), W.Ok K M → Rep K W.B W.ι x a → Rep K W.B W.ι y b → g a b M = some (z, M') → VR K W z M' Q → r x y W.H Q
def eOp (g : O2) (fa fb : EF) : EF := fun δ M => match fa δ M with
  | some (a, M1) => (match fb δ M1 with
    | some (b, M2) => g a b M2
    | none => none)
  | none => none
theorem er_op {r : R2} {g : O2} {ta tb : TE} {fa fb : EF} (o : OD K r g) (ra : ER K ta fa) (rb : ER K tb fb) : ER K (tOp r ta tb) (eOp g fa fb) := fun σ W δ M d M' Q w s e q => by
  unfold eOp at e
  split at e
  · rename_i a M1 h1
    split at e
    · rename_i b M2 h2
      refine ra σ W δ M a M1 _ w s h1 fun x W1 l1 w1 r1 => ?_
      refine rb σ W1 δ M1 b M2 _ w1 (s.le l1) h2 fun y W2 l2 w2 r2 => ?_
      exact o W2 M2 x y a b d M' Q w2 (r1.le l2) r2 e (q.le (l1.trans l2))
    · cases e
  · cases e
/-- a rule for an operator in every context -/
structure OpF (X : I → Cx) (K : PySem.W.Frag) (f : Value → Value → Sem Value) (g : O2) : Prop where
  go : ∃ r : R2, (∀ i, OpR (X i) f r) ∧ OD K r g
theorem DE.op {op : Operator} {a b : Expr} {pos} {g : O2} {fa fb : EF} (o : OpF X K (binaryOp op) g) (ha : DE X K a fa) (hb : DE X K b fb) : DE X K (.BinOp a op b pos) (eOp g fa fb) := by
  obtain ⟨r, ho, od⟩ := o.go
  obtain ⟨ta, pa, ra⟩ := ha.go
  obtain ⟨tb, pb, rb⟩ := hb.go
  exact ⟨_, fun i => pe_op (ho i) (pa i) (pb i), er_op od ra rb⟩
theorem DC.op {op : CmpOp} {a b : Expr} {pos} {g : O2} {fa fb : EF} (o : OpF X K (compareOp op) g) (ha : DE X K a fa) (hb : DE X K b fb) (hm : behindInMarks op b = false := by first | exact nomark _ | rfl) : DC X K (.Compare a [op] [b] pos) (eOp g fa fb) := by
  obtain ⟨r, ho, od⟩ := o.go
  obtain ⟨ta, pa, ra⟩ := ha.go
  obtain ⟨tb, pb, rb⟩ := hb.go
  exact ⟨_, fun i => pe_cmpR (ho i) (pa i) (pb i) hm, fun i => pt_cmpR (ho i) (pa i) (pb i) hm, er_op od ra rb⟩
/-- x < y < z -/
def eChain (g g' : O2) (fa fb fc : EF) : EF := fun δ M => match fa δ M with
  | some (a, M1) => (match fb δ M1 with
    | some (b, M2) => (match g a b M2 with
      | some (.bl true, M3) => (match fc δ M3 with
        | some (c, M4) => g' b c M4
        | none => none)
      | some (.bl false, M3) => some (.bl false, M3)
      | _ => none)
    | none => none)
  | none => none
theorem er_chain {r r' : R2} {g g' : O2} {ta tb tc : TE} {fa fb fc : EF} (o : OD K r g) (o' : OD K r' g') (ra : ER K ta fa) (rb : ER K tb fb) (rc : ER K tc fc) : ER K (tChain r r' ta tb tc) (eChain g g' fa fb fc) := fun σ W δ M d M' Q w s e q => by
  unfold eChain at e
  split at e
  · rename_i a M1 h1
    split at e
    · rename_i b M2 h2
      refine ra σ W δ M a M1 _ w s h1 fun x W1 l1 w1 r1 => ?_
      refine rb σ W1 δ M1 b M2 _ w1 (s.le l1) h2 fun y W2 l2 w2 r2 => ?_
      split at e
      · rename_i M3 h3
        split at e
        · rename_i c M4 h4
          refine o W2 M2 x y a b _ M3 _ w2 (r1.le l2) r2 h3 fun v W3 l3 w3 r3 => ?_
          cases r3
          refine ⟨true, rfl, ifT ?_⟩
          refine rc σ W3 δ M3 c M4 _ w3 (s.le ((l1.trans l2).trans l3)) h4 fun z W4 l4 w4 r4 => ?_
          exact o' W4 M4 y z b c d M' Q w4 (r2.le (l3.trans l4)) r4 e (q.le (((l1.trans l2).trans l3).trans l4))
        · cases e
      · rename_i M3 h3
        cases e
        refine o W2 M2 x y a b _ _ _ w2 (r1.le l2) r2 h3 fun v W3 l3 w3 r3 => ?_
        cases r3
        exact ⟨false, rfl, ifF (q _ W3 ((l1.trans l2).trans l3) w3 (.bl false))⟩
      · cases e
    · cases e
  · cases e
theorem DC.chain {op op' : CmpOp} {a b c : Expr} {pos} {g g' : O2} {fa fb fc : EF} (o : OpF X K (compareOp op) g) (o' : OpF X K (compareOp op') g') (ha : DE X K a fa) (hb : DE X K b fb) (hc : DE X K c fc) (hm : lastMarks [op, op'] [b, c] = false := by rfl) :
    DC X K (.Compare a [op, op'] [b, c] pos) (eChain g g' fa fb fc) := by
  obtain ⟨r, ho, od⟩ := o.go
  obtain ⟨r', ho', od'⟩ := o'.go
  obtain ⟨ta, pa, ra⟩ := ha.go
  obtain ⟨tb, pb, rb⟩ := hb.go
  obtain ⟨tc, pc, rc⟩ := hc.go
  exact ⟨_, fun i => pe_chain (ho i) (ho' i) (pa i) (pb i) (pc i) (hm := hm), fun i => pt_chain (ho i) (ho' i) (pa i) (pb i) (pc i) (hm := hm), er_chain od od' ra rb rc⟩
theorem DC.val {e : Expr} {f : EF} (h : DC X K e f) : DE X K e f := by
  obtain ⟨t, a, _, c⟩ := h.go
  exact ⟨t, a, c⟩
def tV (f : EF) : TF := fun δ M => match f δ M with
  | some (.bl b, M1) => some (b, M1)
  | _ => none
theorem tr_test {t : TE} {f : EF} (r : ER K t f) : TR K (tTest t) (tV f) := fun σ W δ M b M' Q w s e q => by
  unfold tV at e
  split at e
  · rename_i c M1 h1
    cases e
    refine r σ W δ M _ _ _ w s h1 fun v W1 l1 w1 r1 => ?_
    cases r1
    exact ⟨b, rfl, q W1 l1 w1⟩
  · cases e
theorem DC.test {e : Expr} {f : EF} (h : DC X K e f) : DT X K e (tV f) := by
  obtain ⟨t, _, b, c⟩ := h.go
  exact ⟨_, b, tr_test c⟩
theorem DE.test {e : Expr} {f : EF} (h : DE X K e f) (he : ∀ i whole, isTrue e (X i).env whole = (do let v ← whole; standAt e.pos; holding [v] (truthy v)) := by intro _ _; rfl) : DT X K e (tV f) := by
  obtain ⟨t, a, c⟩ := h.go
  exact ⟨_, fun i => pt_val (a i) (he i), tr_test c⟩
def tNt (f : TF) : TF := fun δ M => match f δ M with
  | some (b, M1) => some (!b, M1)
  | none => none
theorem DT.not {a : Expr} {pos} {f : TF} (h : DT X K a f) : DT X K (.UnaryOp .Not a pos) (tNt f) := by
  obtain ⟨t, p, r⟩ := h.go
  refine ⟨_, fun i => pt_not (p i), fun σ W δ M b M' Q w s e q => ?_⟩
  unfold tNt at e
  split at e
  · rename_i c M1 h1
    cases e
    exact r σ W δ M c _ _ w s h1 q
  · cases e
def tAn (f g : TF) : TF := fun δ M => match f δ M with
  | some (true, M1) => g δ M1
  | some (false, M1) => some (false, M1)
  | none => none
def tOrr (f g : TF) : TF := fun δ M => match f δ M with
  | some (true, M1) => some (true, M1)
  | some (false, M1) => g δ M1
  | none => none
theorem DW.and1 {a : Expr} {pos} {f : TF} (h : DT X K a f) : DW X K (.BoolOp .And [a] pos) f := by
  obtain ⟨t, p, r⟩ := h.go
  exact ⟨t, fun i => pw_and1 (p i), r⟩
theorem DW.or1 {a : Expr} {pos} {f : TF} (h : DT X K a f) : DW X K (.BoolOp .Or [a] pos) f := by
  obtain ⟨t, p, r⟩ := h.go
  exact ⟨t, fun i => pw_or1 (p i), r⟩
theorem DW.and {a b : Expr} {es : List Expr} {pos} {f g : TF} (h : DT X K a f) (h' : DW X K (.BoolOp .And (b :: es) pos) g) : DW X K (.BoolOp .And (a :: b :: es) pos) (tAn f g) := by
  obtain ⟨t, p, r⟩ := h.go
  obtain ⟨t', p', r'⟩ := h'.go
  refine ⟨_, fun i => pw_and (p i) (p' i), fun σ W δ M b M' Q w s e q => ?_⟩
  unfold tAn at e
  split at e
  · rename_i M1 h1
    refine r σ W δ M true M1 _ w s h1 fun W1 l1 w1 => ifT ?_
    exact r' σ W1 δ M1 b M' Q w1 (s.le l1) e fun W2 l2 w2 => q W2 (l1.trans l2) w2
  · rename_i M1 h1
    cases e
    exact r σ W δ M false _ _ w s h1 fun W1 l1 w1 => ifF (q W1 l1 w1)
  · cases e
theorem DW.or {a b : Expr} {es : List Expr} {pos} {f g : TF} (h : DT X K a f) (h' : DW X K (.BoolOp .Or (b :: es) pos) g) : DW X K (.BoolOp .Or (a :: b :: es) pos) (tOrr f g) := by
  obtain ⟨t, p, r⟩ := h.go
  obtain ⟨t', p', r'⟩ := h'.go
  refine ⟨_, fun i => pw_or (p i) (p' i), fun σ W δ M b M' Q w s e q => ?_⟩
  unfold tOrr at e
  split at e
  · rename_i M1 h1
    cases e
    exact r σ W δ M true _ _ w s h1 fun W1 l1 w1 => ifT (q W1 l1 w1)
  · rename_i M1 h1
    refine r σ W δ M false M1 _ w s h1 fun W1 l1 w1 => ifF ?_
    exact r' σ W1 δ M1 b M' Q w1 (s.le l1) e fun W2 l2 w2 => q W2 (l1.trans l2) w2
  · cases e
theorem DW.test {e : Expr} {f : TF} (h : DW X K e f) : DT X K e f := by
  obtain ⟨t, p, r⟩ := h.go
  exact ⟨t, fun i => PW.pt (p i), r⟩
def eIf (t : TF) (f g : EF) : EF := fun δ M => match t δ M with
  | some (true, M1) => f δ M1
  | some (false, M1) => g δ M1
  | none => none
theorem DE.ite {c a b : Expr} {pos} {t : TF} {f g : EF} (h : DT X K c t) (ha : DE X K a f) (hb : DE X K b g) : DE X K (.IfExp c a b pos) (eIf t f g) := by
  obtain ⟨tt, p, r⟩ := h.go
  obtain ⟨ta, pa, ra⟩ := ha.go
  obtain ⟨tb, pb, rb⟩ := hb.go
  refine ⟨_, fun i => pe_ifExp (p i) (pa i) (pb i), fun σ W δ M d M' Q w s e q => ?_⟩
  unfold eIf at e
  split at e
  · rename_i M1 h1
    exact r σ W δ M true M1 _ w s h1 fun W1 l1 w1 => ifT (ra σ W1 δ M1 d M' Q w1 (s.le l1) e (q.le l1))
  · rename_i M1 h1
    exact r σ W δ M false M1 _ w s h1 fun W1 l1 w1 => ifF (rb σ W1 δ M1 d M' Q w1 (s.le l1) e (q.le l1))
  · cases e
/-- not a, a and b, a or b as values, all of them True or False -/
def eNt (f : EF) : EF := fun δ M => match f δ M with
  | some (.bl b, M1) => some (.bl (!b), M1)
  | _ => none
def eAn (f g : EF) : EF := fun δ M => match f δ M with
  | some (.bl true, M1) => g δ M1
  | some (.bl false, M1) => some (.bl false, M1)
  | _ => none
def eOr (f g : EF) : EF := fun δ M => match f δ M with
  | some (.bl true, M1) => some (.bl true, M1)
  | some (.bl false, M1) => g δ M1
  | _ => none
theorem DE.not {a : Expr} {pos} {f : EF} (h : DE X K a f) (he : ∀ i whole, isTrue a (X i).env whole = (do let v ← whole; standAt a.pos; holding [v] (truthy v)) := by intro _ _; rfl) : DE X K (.UnaryOp .Not a pos) (eNt f) := by
  obtain ⟨t, p, r⟩ := h.go
  refine ⟨_, fun i => pe_not (p i), fun σ W δ M d M' Q w s e q => ?_⟩
  unfold eNt at e
  split at e
  · rename_i b M1 h1
    cases e
    refine r σ W δ M _ _ _ w s h1 fun v W1 l1 w1 r1 => ?_
    cases r1
    exact ⟨b, rfl, q _ W1 l1 w1 (.bl _)⟩
  · cases e
theorem DE.one {op : BoolOp} {a : Expr} {pos} {f : EF} (h : DE X K a f) : DE X K (.BoolOp op [a] pos) f := by
  obtain ⟨t, p, r⟩ := h.go
  exact ⟨t, fun i => pe_one (p i), r⟩
theorem DE.and {a b : Expr} {es : List Expr} {pos} {f g : EF} (h : DE X K a f) (h' : DE X K (.BoolOp .And (b :: es) pos) g) : DE X K (.BoolOp .And (a :: b :: es) pos) (eAn f g) := by
  obtain ⟨t, p, r⟩ := h.go
  obtain ⟨t', p', r'⟩ := h'.go
  refine ⟨_, fun i => pe_and (p i) (p' i), fun σ W δ M d M' Q w s e q => ?_⟩
  unfold eAn at e
  split at e
  · rename_i M1 h1
    refine r σ W δ M _ M1 _ w s h1 fun v W1 l1 w1 r1 => ?_
    cases r1
    exact ⟨true, rfl, ifT (r' σ W1 δ M1 d M' Q w1 (s.le l1) e (q.le l1))⟩
  · rename_i M1 h1
    cases e
    refine r σ W δ M _ _ _ w s h1 fun v W1 l1 w1 r1 => ?_
    cases r1
    exact ⟨false, rfl, ifF (q _ W1 l1 w1 (.bl _))⟩
  · cases e
theorem DE.or {a b : Expr} {es : List Expr} {pos} {f g : EF} (h : DE X K a f) (h' : DE X K (.BoolOp .Or (b :: es) pos) g) : DE X K (.BoolOp .Or (a :: b :: es) pos) (eOr f g) := by
  obtain ⟨t, p, r⟩ := h.go
  obtain ⟨t', p', r'⟩ := h'.go
  refine ⟨_, fun i => pe_or (p i) (p' i), fun σ W δ M d M' Q w s e q => ?_⟩
  unfold eOr at e
  split at e
  · rename_i M1 h1
    cases e
    refine r σ W δ M _ _ _ w s h1 fun v W1 l1 w1 r1 => ?_
    cases r1
    exact ⟨true, rfl, ifT (q _ W1 l1 w1 (.bl _))⟩
  · rename_i M1 h1
    refine r σ W δ M _ M1 _ w s h1 fun v W1 l1 w1 r1 => ?_
    cases r1
    exact ⟨false, rfl, ifF (r' σ W1 δ M1 d M' Q w1 (s.le l1) e (q.le l1))⟩
  · cases e
end
end Pl
namespace Pl
open PySem L2
section
variable {I : Type} {X : I → Cx} {P : Program} {w : World} {K : PySem.W.Frag} {mg : Str → Option Value} {base : Heap} {k : Nat}
def sNil : SF := fun δ M => some (.nx δ M)
def sSeq (f g : SF) : SF := fun δ M => match f δ M with
  | some (.nx δ' M') => g δ' M'
  | o => o
theorem DB.nil : DB X K [] sNil := ⟨tNext, fun i => pss_nil, fun σ W δ M o E w s e q => by
  cases e
  exact q σ W (.refl W) w s⟩
theorem DB.cons {s : Stmt} {ss : List Stmt} {f g : SF} (a : DS X K s f) (b : DB X K ss g) : DB X K (s :: ss) (sSeq f g) := by
  obtain ⟨ta, pa, ra⟩ := a.go
  obtain ⟨tb, pb, rb⟩ := b.go
  refine ⟨tSeq ta tb, fun i => pss_cons (pa i) (pb i), fun σ W δ M o E w s e q => ?_⟩
  unfold sSeq at e
  split at e
  · rename_i δ' M' h1
    refine ra σ W δ M _ _ w s h1 fun σ' W1 l1 w1 s1 => ?_
    exact rb σ' W1 δ' M' o E w1 s1 e (q.le l1)
  · rename_i hn
    refine ra σ W δ M o _ w s e ?_
    cases o with
    | nx δ' M' => exact absurd e (hn δ' M')
    | bk _ _ => exact q
    | ct _ _ => exact q
    | rt _ _ => exact q
theorem DB.one {s : Stmt} {f : SF} (a : DS X K s f) : DB X K [s] f := by
  obtain ⟨ta, pa, ra⟩ := a.go
  exact ⟨ta, fun i => pss_one (pa i), ra⟩
theorem DS.brk {pos} : DS X K (.Break pos) (fun δ M => some (.bk δ M)) := ⟨tBreak, fun i => ps_break, fun σ W δ M o E w s e q => by
  cases e
  exact q σ W (.refl W) w s⟩
theorem DS.cont {pos} : DS X K (.Continue pos) (fun δ M => some (.ct δ M)) := ⟨tCont, fun i => ps_continue, fun σ W δ M o E w s e q => by
  cases e
  exact q σ W (.refl W) w s⟩
def sE (f : EF) : SF := fun δ M => match f δ M with
  | some (_, M') => some (.nx δ M')
  | none => none
theorem DS.expr {e : Expr} {pos} {f : EF} (a : DE X K e f) (hs : ∀ i, swapsWith e none pos.line (X i).env = pure false := by intro _; rfl) : DS X K (.Expr e pos) (sE f) := by
  obtain ⟨ta, pa, ra⟩ := a.go
  refine ⟨tDrop ta, fun i => ps_expr (pa i) (hs i), fun σ W δ M o E w s e q => ?_⟩
  unfold sE at e
  split at e
  · rename_i d M' h1
    cases e
    exact ra σ W δ M _ _ _ w s h1 fun v W1 l1 w1 r1 => q σ W1 l1 w1 (s.le l1)
  · cases e
def sRet (f : EF) : SF := fun δ M => match f δ M with
  | some (d, M') => some (.rt d M')
  | none => none
theorem DS.ret {e : Expr} {pos} {f : EF} (a : DE X K e f) : DS X K (.Return (some e) pos) (sRet f) := by
  obtain ⟨ta, pa, ra⟩ := a.go
  refine ⟨tRet ta, fun i => ps_ret (pa i), fun σ W δ M o E w s e q => ?_⟩
  unfold sRet at e
  split at e
  · rename_i d M' h1
    cases e
    exact ra σ W δ M _ _ _ w s h1 q
  · cases e
def sIf (t : TF) (f g : SF) : SF := fun δ M => match t δ M with
  | some (true, M1) => f δ M1
  | some (false, M1) => g δ M1
  | none => none
theorem DS.ite {c : Expr} {a b : List Stmt} {pos} {t : TF} {f g : SF} (h : DT X K c t) (ha : DB X K a f) (hb : DB X K b g) : DS X K (.If c a b pos) (sIf t f g) := by
  obtain ⟨tt, p, r⟩ := h.go
  obtain ⟨ta, pa, ra⟩ := ha.go
  obtain ⟨tb, pb, rb⟩ := hb.go
  refine ⟨_, fun i => ps_if (p i) (pa i) (pb i), fun σ W δ M o E w s e q => ?_⟩
  unfold sIf at e
  split at e
  · rename_i M1 h1
    exact r σ W δ M true M1 _ w s h1 fun W1 l1 w1 => ifT (ra σ W1 δ M1 o E w1 (s.le l1) e (q.le l1))
  · rename_i M1 h1
    exact r σ W δ M false M1 _ w s h1 fun W1 l1 w1 => ifF (rb σ W1 δ M1 o E w1 (s.le l1) e (q.le l1))
  · cases e
def GR (K : PySem.W.Frag) (t : TG) (f : GF) (sl : List Nat) : Prop := ∀ (v : V) (d : D) (σ : St) (W : Wd) (δ δ' : Env) (M : Mh) (Q : St → Hp → Prop), W.Ok K M → Slots K W σ δ → Rep K W.B W.ι v d → f d δ = some δ' →
  (∀ σ', Slots K W σ' δ' → (∀ vs : List Nat, (∀ j ∈ sl, j ∈ vs) → wipe σ' vs = wipe σ vs) → Q σ' W.H) → t v σ W.H Q
def GRs (K : PySem.W.Frag) (t : TGs) (f : List D → Env → Option Env) (sl : List Nat) : Prop := ∀ (v : List V) (d : List D) (σ : St) (W : Wd) (δ δ' : Env) (M : Mh) (Q : St → Hp → Prop), W.Ok K M → Slots K W σ δ → RepL K W.B W.ι v d → f d δ = some δ' →
  (∀ σ', Slots K W σ' δ' → (∀ vs : List Nat, (∀ j ∈ sl, j ∈ vs) → wipe σ' vs = wipe σ vs) → Q σ' W.H) → t v σ W.H Q
structure DG (X : I → Cx) (K : PySem.W.Frag) (tg : Expr) (f : GF) (sl : List Nat) : Prop where
  go : ∃ t : TG, (∀ i, PG (X i) tg t) ∧ GR K t f sl
structure DGs (X : I → Cx) (K : PySem.W.Frag) (tg : List Expr) (f : List D → Env → Option Env) (sl : List Nat) (n : Nat) : Prop where
  go : ∃ t : TGs, (∀ i, PGs (X i) tg t) ∧ GRs K t f sl
  len : ∀ ds δ δ', f ds δ = some δ' → ds.length = n
theorem wipe_set (σ : St) (o : Option V) (i : Nat) : ∀ vs : List Nat, (i ∈ vs → wipe (σ.set i o) vs = wipe σ vs) ∧ (i ∉ vs → wipe (σ.set i o) vs = (wipe σ vs).set i o)
  | [] => ⟨fun h => absurd h (by simp), fun _ => rfl⟩
  | v :: vs => by
    obtain ⟨h1, h2⟩ := wipe_set σ o i vs
    refine ⟨fun h => ?_, fun h => ?_⟩
    · show (wipe (σ.set i o) vs).set v none = (wipe σ vs).set v none
      by_cases hm : i ∈ vs
      · rw [h1 hm]
      · have e : i = v := by
          rcases List.mem_cons.mp h with e | e
          · exact e
          · exact absurd e hm
        rw [h2 hm, ← e, List.set_set]
    · show (wipe (σ.set i o) vs).set v none = ((wipe σ vs).set v none).set i o
      have hv : i ≠ v := fun e => h (by rw [e]; exact List.mem_cons_self)
      rw [h2 fun z => h (List.mem_cons_of_mem _ z), List.set_comm _ _ hv]
def gN (i : Nat) : GF := fun d δ => some (δ.set i (some d))
theorem DG.name (j : Nat) {x : Str} {pos} (hN : ∀ i, (X i).N.Nodup) (hi : ∀ i, (X i).N[j]? = some x := by intro _; rfl) (hx : ∀ i, Loc (X i).env.scope x := by intro _; first | exact Or.inl rfl | exact Or.inr rfl)
    (hf : ∀ i, (X i).fn x = true ∨ (X i).env.scope.names.lookup x = some .local := by intro _; first | exact Or.inl rfl | exact Or.inr rfl) : DG X K (.Name x pos) (gN j) [j] :=
  ⟨gName j, fun i => pg_name (hN i) (hi i) (hx i) (hf i), fun v d σ W δ δ' M Q w s r e q => by
    cases e
    exact q _ (s.set r j) fun vs h => (wipe_set σ _ j vs).1 (h j List.mem_cons_self)⟩
def gsNil : List D → Env → Option Env := fun ds δ => match ds with
  | [] => some δ
  | _ => none
def gsCons (f : GF) (g : List D → Env → Option Env) : List D → Env → Option Env := fun ds δ => match ds with
  | [] => none
  | d :: r => (match f d δ with
    | some δ1 => g r δ1
    | none => none)
theorem DGs.nil : DGs X K [] gsNil [] 0 := ⟨⟨gNil, fun i => pgs_nil, fun v d σ W δ δ' M Q w s r e q => by
  cases r with
  | nil =>
    cases e
    exact ⟨rfl, q σ s fun _ _ => rfl⟩
  | cons _ _ => cases e⟩, fun ds δ δ' h => by
    cases ds with
    | nil => rfl
    | cons _ _ => cases h⟩
theorem DGs.cons {e : Expr} {es : List Expr} {f : GF} {g : List D → Env → Option Env} {sl sm : List Nat} {n : Nat} (a : DG X K e f sl) (b : DGs X K es g sm n)
    (hs : ∀ i, (assignEach (e :: es) (X i).env).map (·.2) = assign e (X i).env :: (assignEach es (X i).env).map (·.2) := by intro _; rfl) : DGs X K (e :: es) (gsCons f g) (sl ++ sm) (n + 1) := by
  obtain ⟨ta, pa, ra⟩ := a.go
  obtain ⟨tb, pb, rb⟩ := b.go
  refine ⟨⟨gCons ta tb, fun i => pgs_cons (pa i) (pb i) (hs i), fun v d σ W δ δ' M Q w s r e q => ?_⟩, fun ds δ δ' h => ?_⟩
  · cases r with
    | nil => cases e
    | cons r1 r2 =>
      have e' : (match f _ δ with
        | some δ1 => g _ δ1
        | none => none) = some δ' := e
      split at e'
      · rename_i δ1 h1
        refine ⟨_, _, rfl, ra _ _ σ W δ δ1 M _ w s r1 h1 fun σ1 s1 k1 => ?_⟩
        refine rb _ _ σ1 W δ1 δ' M _ w s1 r2 e' fun σ2 s2 k2 => ?_
        exact q σ2 s2 fun vs hv => (k2 vs fun j hj => hv j (List.mem_append_right _ hj)).trans (k1 vs fun j hj => hv j (List.mem_append_left _ hj))
      · cases e'
  · cases ds with
    | nil => cases h
    | cons d r =>
      have h' : (match f d δ with
        | some δ1 => g r δ1
        | none => none) = some δ' := h
      split at h'
      · exact congrArg (· + 1) (b.len _ _ _ h')
      · cases h'
def gTp (f : List D → Env → Option Env) : GF := fun d δ => match d with
  | .tup ds => f ds δ
  | .lst ds => f ds δ
  | .lsk ds => f ds δ
  | _ => none
theorem pg_or {Y : Cx} {tg : Expr} {t u : TG} (a : PG Y tg t) (b : PG Y tg u) : PG Y tg (fun v σ H Q => t v σ H Q ∨ u v σ H Q) := ⟨fun pins s σ H v us Q I r h => by
  rcases h with h | h
  · exact a.run pins s σ H v us Q I r h
  · exact b.run pins s σ H v us Q I r h⟩
theorem DG.tup (c : Ctx X P w K mg base k) {es : List Expr} {m : Nat} {pos} {f : List D → Env → Option Env} {sl : List Nat} {n : Nat} (a : DGs X K es f sl n) (hn : ∀ i, (assignEach es (X i).env).length = n := by intro _; rfl)
    (hst : ∀ i, (assignEach es (X i).env).findIdx? (·.1) = none := by intro _; rfl) : DG X K (.Tuple es m pos) (gTp f) sl := by
  obtain ⟨ta, pa, ra⟩ := a.go
  refine ⟨fun v σ H Q => gTup K n ta v σ H Q ∨ gUnl K n ta v σ H Q, fun i => ?_, fun v d σ W δ δ' M Q w s r e q => ?_⟩
  · have h1 := pg_tup (c.calm i) (pa i) (hn i) (hst i) (k := m) (pos := pos)
    have h2 := pg_unl (c.calm i) (pa i) (hn i) (hst i) (k := m) (pos := pos)
    rw [c.K i] at h1 h2
    exact pg_or h1 h2
  · cases r with
    | tup h r =>
      have e' : f _ δ = some δ' := e
      exact .inl ⟨_, _, rfl, sqT_mono w.sub h, by rw [r.len]; exact a.len _ _ _ e', ra _ _ σ W δ δ' M Q w s r e' q⟩
    | lst h r =>
      have e' : f _ δ = some δ' := e
      exact .inr ⟨_, _, rfl, .inl (.inl (w.sub _ _ h)), by rw [r.len]; exact a.len _ _ _ e', ra _ _ σ W δ δ' M Q w s r e' q⟩
    | lsk h r =>
      have e' : f _ δ = some δ' := e
      exact .inr ⟨_, _, rfl, sqL_mono w.sub h, by rw [r.len]; exact a.len _ _ _ e', ra _ _ σ W δ δ' M Q w s r e' q⟩
    | _ => cases e
def sAs (f : EF) (g : GF) : SF := fun δ M => match f δ M with
  | some (d, M1) => (match g d δ with
    | some δ' => some (.nx δ' M1)
    | none => none)
  | none => none
theorem sr_as {te : TE} {t : TG} {f : EF} {g : GF} {sl : List Nat} (re : ER K te f) (rg : GR K t g sl) : SR K (tAsg te t) (sAs f g) := fun σ W δ M o E w s e q => by
  unfold sAs at e
  split at e
  · rename_i d M1 h1
    split at e
    · rename_i δ' h2
      cases e
      refine re σ W δ M d _ _ w s h1 fun v W1 l1 w1 r1 => ?_
      exact rg v d σ W1 δ δ' _ _ w1 (s.le l1) r1 h2 fun σ' s' _ => q σ' W1 l1 w1 s'
    · cases e
  · cases e
theorem DS.set (j : Nat) {x : Str} {e : Expr} {pos pos'} {f : EF} (a : DE X K e f) (hN : ∀ i, (X i).N.Nodup) (hi : ∀ i, (X i).N[j]? = some x := by intro _; rfl) (hx : ∀ i, Loc (X i).env.scope x := by intro _; first | exact Or.inl rfl | exact Or.inr rfl)
    (hs : ∀ i, swapsWith e (some (.Name x pos')) pos.line (X i).env = pure false := by intro _; rfl) (hf : ∀ i, (X i).fn x = true ∨ (X i).env.scope.names.lookup x = some .local := by intro _; first | exact Or.inl rfl | exact Or.inr rfl) :
    DS X K (.Assign [.Name x pos'] e pos) (sAs f (gN j)) := by
  obtain ⟨t, p, r⟩ := a.go
  obtain ⟨tg, _, rg⟩ := (⟨gName j, fun i => pg_name (hN i) (hi i) (hx i) (hf i), fun v d σ W δ δ' M Q w s r e q => by
    cases e
    exact q _ (s.set r j) fun vs h => (wipe_set σ _ j vs).1 (h j List.mem_cons_self)⟩ : ∃ t : TG, (∀ i, PG (X i) (.Name x pos') t) ∧ GR K t (gN j) [j])
  refine ⟨tAsg t (gName j), fun i => ps_set (hN i) (hi i) (hx i) (p i) (hs i) (hf i), sr_as r (sl := [j]) fun v d σ W δ δ' M Q w s r e q => ?_⟩
  cases e
  exact q _ (s.set r j) fun vs h => (wipe_set σ _ j vs).1 (h j List.mem_cons_self)
theorem DS.asg {tg e : Expr} {pos} {f : EF} {g : GF} {sl : List Nat} (a : DE X K e f) (b : DG X K tg g sl) (hs : ∀ i, swapsWithSole [tg] e pos.line (X i).env = pure false := by intro _; rfl) (hw : ∀ i, swappedStores [tg] e (X i).env = pure none := by intro _; rfl)
    (h1 : ∀ i, (assignEach [tg] (X i).env).map (·.2) = [assign tg (X i).env] := by intro _; rfl) : DS X K (.Assign [tg] e pos) (sAs f g) := by
  obtain ⟨t, p, r⟩ := a.go
  obtain ⟨tg, pg, rg⟩ := b.go
  exact ⟨_, fun i => ps_asg (p i) (pg i) (hs i) (hw i) (h1 i), sr_as r rg⟩
def sPar (i j : Nat) (f g : EF) : SF := fun δ M => match f δ M with
  | some (d, M1) => (match g δ M1 with
    | some (e, M2) => some (.nx ((δ.set i (some d)).set j (some e)) M2)
    | none => none)
  | none => none
theorem DS.par (a b : Nat) {x y : Str} {e1 e2 : Expr} {f g : EF} {px py pt : Pos} {kt k2 pt2 pos} (c : Ctx X P w K mg base k) (h1 : DE X K e1 f) (h2 : DE X K e2 g) (hN : ∀ i, (X i).N.Nodup) (hi : ∀ i, (X i).N[a]? = some x := by intro _; rfl) (hj : ∀ i, (X i).N[b]? = some y := by intro _; rfl)
    (hij : a ≠ b := by decide) (hx : ∀ i, (X i).env.scope.names.lookup x = some .local := by intro _; rfl) (hy : ∀ i, (X i).env.scope.names.lookup y = some .local := by intro _; rfl)
    (hw : ∀ i, swappedStores [.Tuple [.Name x px, .Name y py] kt pt] (.Tuple [e1, e2] k2 pt2) (X i).env = pure (some [x, y]) := by intro _; rfl)
    (hs : ∀ i, swapsWithSole [.Tuple [.Name x px, .Name y py] kt pt] (.Tuple [e1, e2] k2 pt2) pos.line (X i).env = pure false := by intro _; rfl)
    (he1 : ∀ i, starEach [e1, e2] (X i).env = (false, eval e1 (X i).env) :: starEach [e2] (X i).env := by intro _; rfl) (he2 : ∀ i, starEach [e2] (X i).env = (false, eval e2 (X i).env) :: starEach [] (X i).env := by intro _; rfl) :
    DS X K (.Assign [.Tuple [.Name x px, .Name y py] kt pt] (.Tuple [e1, e2] k2 pt2) pos) (sPar a b f g) := by
  obtain ⟨ta, pa, ra⟩ := h1.go
  obtain ⟨tb, pb, rb⟩ := h2.go
  refine ⟨tPar a b (tCons ta (tCons tb tNil)), fun i => ps_par (c.calm i) (hN i) (hi i) (hj i) hij (hx i) (hy i) (pa_cons (pa i) (pa_cons (pb i) pa_nil (he2 i)) (he1 i)) (hw i) (hs i), fun σ W δ M o E w s e q => ?_⟩
  unfold sPar at e
  split at e
  · rename_i d M1 h1
    split at e
    · rename_i d2 M2 h2
      cases e
      refine ra σ W δ M d M1 _ w s h1 fun v W1 l1 w1 r1 => ?_
      refine rb σ W1 δ M1 d2 _ _ w1 (s.le l1) h2 fun u W2 l2 w2 r2 => ?_
      exact ⟨v, u, rfl, q _ W2 (l1.trans l2) w2 (((s.le (l1.trans l2)).set (r1.le l2) a).set r2 b)⟩
    · cases e
  · cases e
/-- from W0 on an iterator gives ds -/
def Wk (K : PySem.W.Frag) (J : It) (W0 : Wd) (ds : List D) : Prop := ∀ (i : Nat) (W : Wd) (M : Mh), W0.Lo W → W.Ok K M →
  (ds[i]? = none → J.stop i W.H) ∧ (∀ d, ds[i]? = some d → J.go i W.H ∧ ∀ x H', J.yld i W.H x H' → ∃ W', W'.H = H' ∧ W.Le W' ∧ W'.Ok K M ∧ Rep K W'.B W'.ι x d)
structure DI (X : I → Cx) (K : PySem.W.Frag) (tg iter : Expr) (f : AF) : Prop where
  go : ∃ t : TI, (∀ i, PI (X i) tg iter t) ∧ ∀ (σ : St) (W : Wd) (δ : Env) (M : Mh) (ds : List D) (M' : Mh) (R : It → Hp → Prop), W.Ok K M → Slots K W σ δ → f δ M = some (ds, M') → (∀ J W', W.Le W' → W'.Ok K M' → Wk K J W' ds → R J W'.H) → t σ W.H R
theorem wk_list {W0 : Wd} {a : Addr} {vs : List V} {ds : List D} (h : SqL K W0.B a vs) (r : RepL K W0.B W0.ι vs ds) : Wk K (Itl K a) W0 ds := fun i W M l w => by
  have hs : SqL K W.H a vs := sqL_mono w.sub (sqL_mono l.same h)
  have r' := r.mono l.same l.ix
  refine ⟨fun e => ⟨vs, hs, by rw [r.len]; exact List.getElem?_eq_none_iff.mp e⟩, fun d e => ?_⟩
  obtain ⟨v, h1, h2⟩ := r'.get e
  refine ⟨⟨vs, v, hs, h1⟩, fun x H' y => ?_⟩
  obtain ⟨e1, e2⟩ := y
  have e3 := (e2 vs hs).symm.trans h1
  cases e3
  exact ⟨W, e1.symm, .refl W, w, h2⟩
theorem wk_tup {W0 : Wd} {a : Addr} {vs : List V} {ds : List D} (h : SqT K W0.B a vs) (r : RepL K W0.B W0.ι vs ds) : Wk K (Itt K a) W0 ds := fun i W M l w => by
  have hs : SqT K W.H a vs := sqT_mono w.sub (sqT_mono l.same h)
  have r' := r.mono l.same l.ix
  refine ⟨fun e => ⟨vs, hs, by rw [r.len]; exact List.getElem?_eq_none_iff.mp e⟩, fun d e => ?_⟩
  obtain ⟨v, h1, h2⟩ := r'.get e
  refine ⟨⟨vs, v, hs, h1⟩, fun x H' y => ?_⟩
  obtain ⟨e1, e2⟩ := y
  have e3 := (e2 vs hs).symm.trans h1
  cases e3
  exact ⟨W, e1.symm, .refl W, w, h2⟩
def aItems (f : EF) : AF := fun δ M => match f δ M with
  | some (.lst ds, M1) => some (ds, M1)
  | some (.lsk ds, M1) => some (ds, M1)
  | some (.tup ds, M1) => some (ds, M1)
  | _ => none
theorem pi_or {Y : Cx} {tg e : Expr} {t u : TI} (a : PI Y tg e t) (b : PI Y tg e u) : PI Y tg e (fun σ H R => t σ H R ∨ u σ H R) := ⟨fun pins s σ H R I h => by
  rcases h with h | h
  · exact a.run pins s σ H R I h
  · exact b.run pins s σ H R I h⟩
theorem DI.seq (c : Ctx X P w K mg base k) {tg e : Expr} {f : EF} (a : DE X K e f) : DI X K tg e (aItems f) := by
  obtain ⟨t, p, r⟩ := a.go
  refine ⟨fun σ H R => iList K t σ H R ∨ iTup K t σ H R, fun i => ?_, fun σ W δ M ds M' R w s e q => ?_⟩
  · have h1 := pi_list (tg := tg) (p i)
    have h2 := pi_tup (tg := tg) (p i)
    rw [c.K i] at h1 h2
    exact pi_or h1 h2
  · unfold aItems at e
    split at e
    · rename_i es M1 h
      cases e
      refine .inl (r σ W δ M _ _ _ w s h fun v W1 l1 w1 r1 => ?_)
      cases r1 with
      | lst h1 r1 => exact ⟨_, rfl, ⟨_, .inl (.inl (w1.sub _ _ h1))⟩, q _ W1 l1 w1 (wk_list (.inl (.inl h1)) r1)⟩
    · rename_i es M1 h
      cases e
      refine .inl (r σ W δ M _ _ _ w s h fun v W1 l1 w1 r1 => ?_)
      cases r1 with
      | lsk h1 r1 => exact ⟨_, rfl, ⟨_, sqL_mono w1.sub h1⟩, q _ W1 l1 w1 (wk_list h1 r1)⟩
    · rename_i es M1 h
      cases e
      refine .inr (r σ W δ M _ _ _ w s h fun v W1 l1 w1 r1 => ?_)
      cases r1 with
      | tup h1 r1 => exact ⟨_, rfl, ⟨_, sqT_mono w1.sub h1⟩, q _ W1 l1 w1 (wk_tup h1 r1)⟩
    · cases e
/-- lo, lo + 1, .. below hi -/
def rng (lo hi : Int) : List D := (List.range (hi - lo).toNat).map fun i => .int (lo + (i : Nat))
theorem wk_rng {W0 : Wd} {lo hi : Int} : Wk K (Itr lo (hi - lo).toNat) W0 (rng lo hi) := fun i W M l w => by
  refine ⟨fun e => ?_, fun d e => ?_⟩
  · have h := List.getElem?_eq_none_iff.mp e
    rw [show (rng lo hi).length = (hi - lo).toNat by simp [rng]] at h
    exact h
  · have h := (List.getElem?_eq_some_iff.mp e).1
    rw [show (rng lo hi).length = (hi - lo).toNat by simp [rng]] at h
    refine ⟨h, fun x H' y => ?_⟩
    obtain ⟨e1, e2⟩ := y
    subst e2
    have e3 : d = .int (lo + (i : Nat)) := by
      unfold rng at e
      rw [List.getElem?_map, List.getElem?_range h] at e
      exact (Option.some.inj e).symm
    subst e3
    exact ⟨W, e1.symm, .refl W, w, .int _⟩
def aRng1 (f : AF) : AF := fun δ M => match f δ M with
  | some ([.int j], M1) => if -(2 ^ 62) ≤ j ∧ j < 2 ^ 62 then some (rng 0 j, M1) else none
  | _ => none
def aRng2 (f : AF) : AF := fun δ M => match f δ M with
  | some ([.int i, .int j], M1) => if -(2 ^ 62) ≤ i ∧ i < 2 ^ 62 ∧ -(2 ^ 62) ≤ j ∧ j < 2 ^ 62 then some (rng i j, M1) else none
  | _ => none
theorem DI.rng1 (c : Ctx X P w K mg base k) (hm : mg "range" = none) {tg a : Expr} {p pos : Pos} {f : AF} (h : DA X K [a] f) (hg : ∀ i, Gl (X i) "range" := by intro _; rfl) (hs : ∀ i, starEach [a] (X i).env = [(false, eval a (X i).env)] := by intro _; rfl) :
    DI X K tg (.Call (.Name "range" p) [a] [] pos) (aRng1 f) := by
  obtain ⟨t, pa, r⟩ := h.go
  refine ⟨iRng1 t, fun i => pi_range1 (hg i) (by rw [c.mg i]; exact hm) (pa i) (hs i), fun σ W δ M ds M' R w s e q => ?_⟩
  unfold aRng1 at e
  split at e
  · rename_i j M1 h1
    split at e
    · rename_i hb
      cases e
      refine r σ W δ M _ _ _ w s h1 fun v W1 l1 w1 r1 => ?_
      cases r1 with
      | cons r1 r2 =>
        cases r1
        cases r2
        refine ⟨j, rfl, hb.1, hb.2, ?_⟩
        have := q (Itr 0 (j - 0).toNat) W1 l1 w1 wk_rng
        rw [Int.sub_zero] at this
        exact this
    · cases e
  · cases e
theorem DI.rng2 (c : Ctx X P w K mg base k) (hm : mg "range" = none) {tg a b : Expr} {p pos : Pos} {f : AF} (h : DA X K [a, b] f) (hg : ∀ i, Gl (X i) "range" := by intro _; rfl) (hs : ∀ i, starEach [a, b] (X i).env = [(false, eval a (X i).env), (false, eval b (X i).env)] := by intro _; rfl)
    (hs2 : ∀ i, starEach [b] (X i).env = [(false, eval b (X i).env)] := by intro _; rfl) :
    DI X K tg (.Call (.Name "range" p) [a, b] [] pos) (aRng2 f) := by
  obtain ⟨t, pa, r⟩ := h.go
  refine ⟨iRng2 t, fun i => pi_range2 (hg i) (by rw [c.mg i]; exact hm) (pa i) (hs i) (hs2 i), fun σ W δ M ds M' R w s e q => ?_⟩
  unfold aRng2 at e
  split at e
  · rename_i i j M1 h1
    split at e
    · rename_i hb
      cases e
      refine r σ W δ M _ _ _ w s h1 fun v W1 l1 w1 r1 => ?_
      cases r1 with
      | cons r1 r2 =>
        cases r1
        cases r2 with
        | cons r2 r3 =>
          cases r2
          cases r3
          exact ⟨i, j, rfl, hb, q (Itr i (j - i).toNat) W1 l1 w1 wk_rng⟩
    · cases e
  · cases e
def forGo (g : GF) (b : SF) : List D → Env → Mh → Option Out
  | [], δ, M => some (.nx δ M)
  | x :: xs, δ, M => match g x δ with
    | none => none
    | some δ1 => match b δ1 M with
      | some (.nx δ' M') => forGo g b xs δ' M'
      | some (.ct δ' M') => forGo g b xs δ' M'
      | some (.bk δ' M') => some (.nx δ' M')
      | some (.rt d M') => some (.rt d M')
      | none => none
def sFor (a : AF) (g : GF) (b : SF) : SF := fun δ M => match a δ M with
  | some (ds, M1) => forGo g b ds δ M1
  | none => none
theorem DS.for (c : Ctx X P w K mg base k) {tg iter : Expr} {body : List Stmt} {pos} {a : AF} {g : GF} {b : SF} {sl : List Nat} (hp : ∀ i, PassesOwn (model (X i).prog (X i).w) (X i).A (X i).env (X i).xe) (hi : DI X K tg iter a) (hg : DG X K tg g sl) (hb : DB X K body b)
    (hs : ∀ i x, foldedSetIterable iter (X i).env x = pure x := by intro _ _; rfl) : DS X K (.For tg iter body [] pos) (sFor a g b) := by
  obtain ⟨ti, pi, ri⟩ := hi.go
  obtain ⟨tg, pg, rg⟩ := hg.go
  obtain ⟨tb, pb, rb⟩ := hb.go
  refine ⟨tFor ti tg tb, fun i => ps_for (hp i) (c.calm i) (pi i) (pg i) (pb i) (hs i), fun σ W δ M o E w s e q => ?_⟩
  unfold sFor at e
  split at e
  · rename_i ds M1 h1
    refine ri σ W δ M ds M1 _ w s h1 fun J W1 l1 w1 wk => ?_
    refine ⟨fun i m σ' H => ∃ W' δ' M', W'.H = H ∧ W1.Le W' ∧ W'.Ok K M' ∧ Slots K W' σ' δ' ∧ i + m = ds.length ∧ forGo g b (ds.drop i) δ' M' = some o, ⟨ds.length, W1, δ, M1, rfl, .refl W1, w1, s.le l1, by omega, e⟩, ?_⟩
    rintro i m σ' H ⟨W', δ', M', rfl, l', w', s', em, e'⟩
    obtain ⟨k1, k2⟩ := wk i W' M' l'.lo w'
    cases hd : ds[i]? with
    | none =>
      have hl : ds.length ≤ i := List.getElem?_eq_none_iff.mp hd
      rw [List.drop_of_length_le hl] at e'
      cases e'
      exact .inl ⟨k1 hd, q σ' W' (l1.trans l') w' s'⟩
    | some d =>
      obtain ⟨hgo, hy⟩ := k2 d hd
      have hl : i < ds.length := (List.getElem?_eq_some_iff.mp hd).1
      have hdr : ds.drop i = d :: ds.drop (i + 1) := by
        rw [List.drop_eq_getElem_cons hl]
        congr 1
        exact Option.some.inj ((List.getElem?_eq_getElem hl).symm.trans hd)
      rw [hdr] at e'
      unfold forGo at e'
      refine .inr ⟨hgo, fun σ2 H2 => ∃ W2 δ2 M2, W2.H = H2 ∧ W1.Le W2 ∧ W2.Ok K M2 ∧ Slots K W2 σ2 δ2 ∧ forGo g b (ds.drop (i + 1)) δ2 M2 = some o, fun σ2 H2 ⟨W2, δ2, M2, a1, a2, a3, a4, a5⟩ => ⟨m - 1, by omega, W2, δ2, M2, a1, a2, a3, a4, by omega, a5⟩, fun x H' y => ?_⟩
      obtain ⟨W3, rfl, l3, w3, r3⟩ := hy x H' y
      split at e'
      · cases e'
      · rename_i δ1 h2
        refine rg x d σ' W3 δ' δ1 M' _ w3 (s'.le l3) r3 h2 fun σ3 s3 _ => ?_
        split at e'
        · rename_i δ4 M4 h3
          exact rb σ3 W3 δ1 M' _ _ w3 s3 h3 fun σ4 W4 l4 w4 s4 => ⟨W4, δ4, M4, rfl, (l'.trans l3).trans l4, w4, s4, e'⟩
        · rename_i δ4 M4 h3
          exact rb σ3 W3 δ1 M' _ _ w3 s3 h3 fun σ4 W4 l4 w4 s4 => ⟨W4, δ4, M4, rfl, (l'.trans l3).trans l4, w4, s4, e'⟩
        · rename_i δ4 M4 h3
          cases e'
          exact rb σ3 W3 δ1 M' _ _ w3 s3 h3 fun σ4 W4 l4 w4 s4 => q σ4 W4 (((l1.trans l').trans l3).trans l4) w4 s4
        · rename_i d4 M4 h3
          cases e'
          exact rb σ3 W3 δ1 M' _ _ w3 s3 h3 fun v W4 l4 w4 r4 => q v W4 (((l1.trans l').trans l3).trans l4) w4 r4
        · cases e'
  · cases e
end
end Pl
namespace Pl
open PySem L2
section
variable {I : Type} {X : I → Cx} {P : Program} {w : World} {K : PySem.W.Frag} {mg : Str → Option Value} {base : Heap} {k : Nat}
/-- the block's contexts -/
def blkF (X : I → Cx) (scope : Scope) (j : I × Shared × Hp × Addr × List (Str × Addr) × List Addr) : Cx := (X j.1).blk j.2.1 j.2.2.1 scope (compEnvC scope j.2.2.2.2.1 j.2.2.2.1 (X j.1).env) j.2.2.2.2.2
theorem Ctx.blk (c : Ctx X P w K mg base k) (scope : Scope) : Ctx (blkF X scope) P w K mg base k :=
  ⟨fun j => c.prog j.1, fun j => c.wd j.1, fun j => c.K j.1, fun j => c.mg j.1, fun j => c.base j.1, fun j => c.room j.1, fun j => c.grd j.1, fun j => c.calm j.1⟩
structure DTs (X : I → Cx) (K : PySem.W.Frag) (ifs : List Expr) (f : TF) : Prop where
  go : ∃ t : TT, (∀ i, PTs (X i) ifs t) ∧ TR K t f
def tTrue : TF := fun _ M => some (true, M)
theorem DTs.nil : DTs X K [] tTrue := ⟨tYes, fun i => pts_nil, fun σ W δ M b M' Q w s e q => by
  cases e
  exact q W (.refl W) w⟩
theorem DTs.one {e : Expr} {f : TF} (h : DT X K e f) : DTs X K [e] f := by
  obtain ⟨t, p, r⟩ := h.go
  exact ⟨t, fun i => pts_one (p i), r⟩
def wipeD (δ : Env) : List Nat → Env
  | [] => δ
  | v :: vs => (wipeD δ vs).set v none
theorem Slots.wipe {W : Wd} {σ : St} {δ : Env} (s : Slots K W σ δ) : ∀ vs : List Nat, Slots K W (wipe σ vs) (wipeD δ vs)
  | [] => s
  | v :: vs => by
    have ih := s.wipe vs
    refine ⟨?_, fun i d h => ?_⟩
    · show ((L2.wipe σ vs).set v none).length = ((wipeD δ vs).set v none).length
      rw [List.length_set, List.length_set]
      exact ih.len
    · have h' : ((wipeD δ vs).set v none)[i]? = some (some d) := h
      show ∃ u, ((L2.wipe σ vs).set v none)[i]? = some (some u) ∧ _
      rw [List.getElem?_set] at h' ⊢
      by_cases e : v = i
      · rw [if_pos e] at h'
        split at h' <;> cases h'
      · rw [if_neg e] at h' ⊢
        exact ih.at_ i d h'
def lcGo (g : GF) (t : TF) (f : EF) : List D → Env → Mh → Option (List D × Mh)
  | [], _, M => some ([], M)
  | x :: xs, δ, M => match g x δ with
    | none => none
    | some δ1 => match t δ1 M with
      | some (true, M1) => (match f δ1 M1 with
        | some (y, M2) => (match lcGo g t f xs δ M2 with
          | some (ys, M3) => some (y :: ys, M3)
          | none => none)
        | none => none)
      | some (false, M1) => lcGo g t f xs δ M1
      | none => none
def eLc (vs : List Nat) (a : AF) (g : GF) (t : TF) (f : EF) : EF := fun δ M => match a δ M with
  | some (ds, M1) => (match lcGo g t f ds (wipeD δ vs) M1 with
    | some (ys, M2) => if ys.length ≤ sizeLine then some (.lst ys, M2) else none
    | none => none)
  | none => none
/-- the world while a list is made at p -/
def Wd.mk' (W : Wd) (H : Hp) (P : Hp) : Wd := ⟨H, W.B, W.ι, P⟩
theorem Slots.cong {W W' : Wd} {σ : St} {δ : Env} (s : Slots K W σ δ) (h1 : W'.B = W.B) (h2 : W'.ι = W.ι) : Slots K W' σ δ := ⟨s.len, fun i d h => by
  rw [h1, h2]
  exact s.at_ i d h⟩
theorem Wd.hold_put {W : Wd} {M : Mh} {p : Addr} {o o' : HO} (w : W.Ok K M) (hp : W.P p = some o) : (⟨upd W.H p o', W.B, W.ι, upd W.P p o'⟩ : Wd).Ok K M := by
  have ne : ∀ {n a u}, Live W M n a u → a ≠ p := fun {n a u} h e => by
    obtain ⟨_, q, _⟩ := w.live n a u h
    rw [e, hp] at q
    cases q
  have bp := (w.pin p o hp).2
  refine ⟨fun a u h => ?_, fun a u h => ?_, w.len, fun n a u h => ?_, fun n m a u v h k => w.inj n m a u v h k⟩
  · exact (upd_ne (fun e => by
      rw [e] at h
      have h' : W.B p = some u := h
      rw [bp] at h'
      cases h')).trans (w.sub a u h)
  · by_cases e : a = p
    · subst e
      have h' : upd W.P a o' a = some u := h
      rw [upd_same] at h'
      exact ⟨upd_same.trans h', bp⟩
    · have h' : upd W.P p o' a = some u := h
      rw [upd_ne e] at h'
      have q := w.pin a u h'
      exact ⟨(upd_ne e).trans q.1, q.2⟩
  · obtain ⟨h1, h2, k, h3, h4⟩ := w.live n a u h
    exact ⟨h1, (upd_ne (ne h)).trans h2, k, (upd_ne (ne h)).trans h3, h4⟩
theorem Wd.unhold {W : Wd} {M : Mh} {p : Addr} {o : HO} {P0 : Hp} (w : W.Ok K M) (hP : W.P = upd P0 p o) (h0 : P0 p = none) : (⟨W.H, upd W.B p o, W.ι, P0⟩ : Wd).Ok K M := by
  have hp : W.P p = some o := by rw [hP, upd_same]
  have ne : ∀ {n a u}, Live W M n a u → a ≠ p := fun {n a u} h e => by
    obtain ⟨_, q, _⟩ := w.live n a u h
    rw [e, hp] at q
    cases q
  have bp := (w.pin p o hp)
  refine ⟨fun a u h => ?_, fun a u h => ?_, w.len, fun n a u h => ?_, fun n m a u v h k => w.inj n m a u v h k⟩
  · by_cases e : a = p
    · subst e
      have h' : upd W.B a o a = some u := h
      rw [upd_same] at h'
      cases h'
      exact bp.1
    · have h' : upd W.B p o a = some u := h
      rw [upd_ne e] at h'
      exact w.sub a u h'
  · have h' : P0 a = some u := h
    have e : a ≠ p := fun e => by
      rw [e, h0] at h'
      cases h'
    have q := w.pin a u (by rw [hP, upd_ne e]; exact h')
    exact ⟨q.1, (upd_ne e).trans q.2⟩
  · obtain ⟨h1, h2, k, h3, h4⟩ := w.live n a u h
    have e := ne h
    rw [hP, upd_ne e] at h2
    exact ⟨(upd_ne e).trans h1, h2, k, h3, h4.mono (updk bp.2) fun _ _ q => q⟩
theorem wipe_twice (σ : St) : ∀ vs : List Nat, L2.wipe (L2.wipe σ vs) vs = L2.wipe σ vs := fun vs => by
  have h : ∀ us : List Nat, (∀ j ∈ us, j ∈ vs) → L2.wipe (L2.wipe σ us) vs = L2.wipe σ vs := fun us => by
    induction us with
    | nil => exact fun _ => rfl
    | cons u us ih =>
      intro hu
      show L2.wipe ((L2.wipe σ us).set u none) vs = _
      rw [(wipe_set _ none u vs).1 (hu u List.mem_cons_self)]
      exact ih fun j hj => hu j (List.mem_cons_of_mem _ hj)
  exact h vs fun _ z => z
/-- the reading of a comprehension, from its parts' -/
theorem lc_er {ti : TI} {tg : TG} {tt : TT} {te : TE} {vs : List Nat} {a : AF} {g : GF} {t : TF} {f : EF} {sl : List Nat}
    (ri : ∀ (σ : St) (W : Wd) (δ : Env) (M : Mh) (ds : List D) (M' : Mh) (R : It → Hp → Prop), W.Ok K M → Slots K W σ δ → a δ M = some (ds, M') → (∀ J W', W.Le W' → W'.Ok K M' → Wk K J W' ds → R J W'.H) → ti σ W.H R)
    (rg : GR K tg g sl) (hsl : ∀ j ∈ sl, j ∈ vs) (rt : TR K tt t) (re : ER K te f) : ER K (tLc ti tg tt te vs) (eLc vs a g t f) := fun σ W δ M d M' Q w s e q => by
  unfold eLc at e
  split at e
  · rename_i ds M1 h1
    split at e
    · rename_i fin M2 h2
      split at e
      · rename_i hlen
        cases e
        refine ri σ W δ M ds M1 _ w s h1 fun J W1 l1 w1 wk => fun p hp => ?_
        have P0 : W1.P p = none := w1.pnone hp
        have B0 : W1.B p = none := w1.bnone hp
        refine ⟨fun i m H => ∃ (W' : Wd) (N : Mh) (acc : List V) (ac ys : List D), W'.H = H ∧ W1.Le (W'.mk' W'.H W1.P) ∧ W'.P = upd W1.P p (.lst acc) ∧ W'.Ok K N ∧ RepL K W'.B W'.ι acc ac ∧ i + m = ds.length ∧ lcGo g t f (ds.drop i) (wipeD δ vs) N = some (ys, M') ∧ ac ++ ys = fin,
          ⟨ds.length, W1.hold p (.lst []), M1, [], [], fin, rfl, ⟨fun _ _ h => h, ⟨[], by simp [Wd.mk', Wd.hold]⟩, rfl⟩, rfl, Wd.hold_ok w1 hp, .nil, by omega, h2, rfl⟩, ?_⟩
        rintro i m H ⟨W', N, acc, ac, ys, rfl, l', hP, w', ra, em, e', ef⟩
        obtain ⟨k1, k2⟩ := wk i W' N ⟨l'.same, l'.pre⟩ w'
        cases hd : ds[i]? with
        | none =>
          have hl : ds.length ≤ i := List.getElem?_eq_none_iff.mp hd
          rw [List.drop_of_length_le hl] at e'
          cases e'
          rw [List.append_nil] at ef
          subst ef
          have u := Wd.unhold w' hP P0
          refine .inl ⟨k1 hd, q _ ⟨W'.H, upd W'.B p (.lst acc), W'.ι, W1.P⟩ (l1.trans ⟨fun b o h => ?_, l'.pre, rfl⟩) u (.lst upd_same (ra.mono (updk (w'.pin p (.lst acc) (by rw [hP, upd_same])).2) fun _ _ z => z))⟩
          have hb : b ≠ p := fun z => by
            rw [z, B0] at h
            cases h
          show upd W'.B p (.lst acc) b = some o
          rw [upd_ne hb]
          exact l'.same b o h
        | some x0 =>
          obtain ⟨hgo, hy⟩ := k2 x0 hd
          have hl : i < ds.length := (List.getElem?_eq_some_iff.mp hd).1
          have hdr : ds.drop i = x0 :: ds.drop (i + 1) := by
            rw [List.drop_eq_getElem_cons hl]
            congr 1
            exact Option.some.inj ((List.getElem?_eq_getElem hl).symm.trans hd)
          rw [hdr] at e'
          unfold lcGo at e'
          refine .inr ⟨hgo, fun H2 => ∃ (W2 : Wd) (N2 : Mh) (acc2 : List V) (ac2 ys2 : List D), W2.H = H2 ∧ W1.Le (W2.mk' W2.H W1.P) ∧ W2.P = upd W1.P p (.lst acc2) ∧ W2.Ok K N2 ∧ RepL K W2.B W2.ι acc2 ac2 ∧ lcGo g t f (ds.drop (i + 1)) (wipeD δ vs) N2 = some (ys2, M') ∧ ac2 ++ ys2 = fin,
            fun H2 ⟨W2, N2, acc2, ac2, ys2, a1, a2, a3, a4, a5, a6, a7⟩ => ⟨m - 1, by omega, W2, N2, acc2, ac2, ys2, a1, a2, a3, a4, a5, by omega, a6, a7⟩, fun x H' y => ?_⟩
          obtain ⟨W3, rfl, l3, w3, r3⟩ := hy x H' y
          have sw : Slots K W3 (L2.wipe σ vs) (wipeD δ vs) := ((((s.le l1).wipe vs).le l').cong (W' := W') rfl rfl).le l3
          have up : ∀ {W4 : Wd}, W'.Le W4 → W1.Le (W4.mk' W4.H W1.P) := fun {W4} l => l'.trans ⟨l.same, l.pre, rfl⟩
          split at e'
          · cases e'
          · rename_i δ1 h3
            refine rg x x0 _ W3 _ δ1 N _ w3 sw r3 h3 fun σ3 s3 hw => ⟨(hw vs hsl).trans ?_, ?_⟩
            · exact wipe_twice σ vs
            · split at e'
              · rename_i N1 h4
                refine rt σ3 W3 δ1 N _ N1 _ w3 s3 h4 fun W4 l4 w4 => ifT ?_
                split at e'
                · rename_i y0 N2 h5
                  split at e'
                  · rename_i ys2 N3 h6
                    cases e'
                    refine re σ3 W4 δ1 N1 y0 N2 _ w4 (s3.le l4) h5 fun v W5 l5 w5 r5 => ?_
                    have l35 : W'.Le W5 := (l3.trans l4).trans l5
                    have p5 : W5.P = upd W1.P p (.lst acc) := l35.pp.trans hP
                    have p5' : W5.P p = some (.lst acc) := by rw [p5, upd_same]
                    have ra5 := ra.le l35
                    refine ⟨acc, (w5.pin p _ p5').1, ?_, ⟨upd W5.H p (.lst (acc ++ [v])), W5.B, W5.ι, upd W5.P p (.lst (acc ++ [v]))⟩, N2, acc ++ [v], ac ++ [y0], ys2, rfl, l'.trans ⟨l35.same, l35.pre, rfl⟩, ?_, Wd.hold_put w5 p5', ra5.append (.cons r5 .nil), h6, ?_⟩
                    · have := ra.len
                      have h7 := congrArg List.length ef
                      rw [List.length_append, List.length_cons] at h7
                      omega
                    · show upd W5.P p _ = _
                      rw [p5, upd_upd]
                    · rw [List.append_assoc]
                      exact ef
                  · cases e'
                · cases e'
              · rename_i N1 h4
                refine rt σ3 W3 δ1 N _ N1 _ w3 s3 h4 fun W4 l4 w4 => ifF ?_
                have l34 : W'.Le W4 := l3.trans l4
                exact ⟨W4, N1, acc, ac, ys, rfl, up l34, l34.pp.trans hP, w4, ra.le l34, e', ef⟩
              · cases e'
      · cases e
    · cases e
  · cases e
theorem DE.lc (c : Ctx X P w K mg base k) {elt tg iter : Expr} {ifs : List Expr} {scope : Scope} {own : List (Str × Nat)} {pos} {a : AF} {g : GF} {t : TF} {f : EF} {sl : List Nat} (hN : ∀ i, (X i).N.Nodup) (hi : DI X K tg iter a) (ok : ∀ i, BlkOk (X i).N (X i).env.scope scope own)
    (hg : DG (blkF X scope) K tg g sl) (hsl : ∀ j ∈ sl, j ∈ own.map (·.2)) (ht : DTs (blkF X scope) K ifs t) (he : DE (blkF X scope) K elt f) (hs : ∀ i x, foldedSetIterable iter (X i).env x = pure x := by intro _ _; rfl) :
    DE X K (.ListComp elt [⟨tg, iter, ifs, 0⟩] scope pos) (eLc (own.map (·.2)) a g t f) := by
  obtain ⟨ti, pi, ri⟩ := hi.go
  obtain ⟨tg', pg, rg⟩ := hg.go
  obtain ⟨tt, pt, rt⟩ := ht.go
  obtain ⟨te, pe, re⟩ := he.go
  refine ⟨tLc ti tg' tt te (own.map (·.2)), fun i => pe_lc (c.calm i) (hN i) (pi i) (ok i) (fun s H C cl fp => pg (i, s, H, C, cl, fp)) (fun s H C cl fp => pt (i, s, H, C, cl, fp)) (fun s H C cl fp => pe (i, s, H, C, cl, fp)) (hs i), fun σ W δ M d M' Q w s e q => ?_⟩
  exact lc_er ri rg hsl rt re σ W δ M d M' Q w s e q
theorem DS.setLc (j : Nat) (c : Ctx X P w K mg base k) {y : Str} {py : Pos} {elt tg iter : Expr} {ifs : List Expr} {scope : Scope} {own : List (Str × Nat)} {pos spos} {a : AF} {g : GF} {t : TF} {f : EF} {sl : List Nat} (hN : ∀ i, (X i).N.Nodup) (hi : DI X K tg iter a) (ok : ∀ i, BlkOk (X i).N (X i).env.scope scope own)
    (hg : DG (blkF X scope) K tg g sl) (hsl : ∀ j ∈ sl, j ∈ own.map (·.2)) (ht : DTs (blkF X scope) K ifs t) (he : DE (blkF X scope) K elt f) (hs : ∀ i x, foldedSetIterable iter (X i).env x = pure x := by intro _ _; rfl)
    (hy : ∀ i, (X i).N[j]? = some y := by intro _; rfl) (hyl : ∀ i, (X i).env.scope.names.lookup y = some .local := by intro _; rfl) (hsw : ∀ i, swapsWith (.ListComp elt [⟨tg, iter, ifs, 0⟩] scope pos) (some (.Name y py)) spos.line (X i).env = pure true := by intro _; exact sw_true rfl rfl rfl (by decide +kernel)) :
    DS X K (.Assign [.Name y py] (.ListComp elt [⟨tg, iter, ifs, 0⟩] scope pos) spos) (sAs (eLc (own.map (·.2)) a g t f) (gN j)) := by
  obtain ⟨ti, pi, ri⟩ := hi.go
  obtain ⟨tg', pg, rg⟩ := hg.go
  obtain ⟨tt, pt, rt⟩ := ht.go
  obtain ⟨te, pe, re⟩ := he.go
  refine ⟨tAsg (tLc ti tg' tt te (own.map (·.2))) (gName j), fun i => ps_setLc (c.calm i) (hN i) (hy i) (hyl i) (hsw i) (pi i) (ok i) (fun s H C cl fp => pg (i, s, H, C, cl, fp)) (fun s H C cl fp => pt (i, s, H, C, cl, fp)) (fun s H C cl fp => pe (i, s, H, C, cl, fp)) (hs i), sr_as (sl := [j]) (lc_er ri rg hsl rt re) fun v d σ W δ δ' M Q w s r e q => ?_⟩
  cases e
  exact q _ (s.set r j) fun vs h => (wipe_set σ _ j vs).1 (h j List.mem_cons_self)
end
end Pl
namespace Pl
open PySem L2
section
variable {I : Type} {X : I → Cx} {P : Program} {w : World} {K : PySem.W.Frag} {mg : Str → Option Value} {base : Heap} {k : Nat}
def gInt (h : Int → Int → D) : O2 := fun a b M => match a, b with
  | .int i, .int j => some (h i j, M)
  | _, _ => none
theorem od_int0 {g : Int → Int → V} {h : Int → Int → D} (r : ∀ B ι i j, Rep K B ι (g i j) (h i j)) : OD K (rI0 g) (gInt h) := fun W M x y a b z M' Q w ra rb e q => by
  unfold gInt at e
  split at e
  · cases ra
    cases rb
    cases e
    exact ⟨_, _, rfl, rfl, q _ W (.refl W) w (r _ _ _ _)⟩
  · cases e
theorem opSub : OpF X K (binaryOp .Sub) (gInt fun i j => .int (i - j)) := ⟨_, fun _ => op_sub, od_int0 fun _ _ _ _ => .int _⟩
theorem opLt : OpF X K (compareOp .Lt) (gInt fun i j => .bl (decide (i < j))) := ⟨_, fun _ => op_lt, od_int0 fun _ _ _ _ => .bl _⟩
theorem opLe : OpF X K (compareOp .LtE) (gInt fun i j => .bl (decide (i ≤ j))) := ⟨_, fun _ => op_le, od_int0 fun _ _ _ _ => .bl _⟩
theorem opGt : OpF X K (compareOp .Gt) (gInt fun i j => .bl (decide (j < i))) := ⟨_, fun _ => op_gt, od_int0 fun _ _ _ _ => .bl _⟩
theorem opGe : OpF X K (compareOp .GtE) (gInt fun i j => .bl (decide (j ≤ i))) := ⟨_, fun _ => op_ge, od_int0 fun _ _ _ _ => .bl _⟩
def gIntC (C : Int → Int → Prop) [∀ i j, Decidable (C i j)] (h : Int → Int → D) : O2 := fun a b M => match a, b with
  | .int i, .int j => if C i j then some (h i j, M) else none
  | _, _ => none
theorem od_intC {C : Int → Int → Prop} [∀ i j, Decidable (C i j)] {C' : Int → Int → Prop} {g : Int → Int → V} {h : Int → Int → D} (hc : ∀ i j, C i j → C' i j) (r : ∀ B ι i j, Rep K B ι (g i j) (h i j)) : OD K (rI C' g) (gIntC C h) := fun W M x y a b z M' Q w ra rb e q => by
  unfold gIntC at e
  split at e
  · split at e
    · rename_i c
      cases ra
      cases rb
      cases e
      exact ⟨_, _, rfl, rfl, hc _ _ c, q _ W (.refl W) w (r _ _ _ _)⟩
    · cases e
  · cases e
abbrev MulOk (i j : Int) : Prop := (Builtin.Int.intBits i : Int) + (Builtin.Int.intBits j : Int) ≤ 134217728
theorem mulOk {i j : Int} {a b : Nat} (ha : i.natAbs < 2 ^ a) (hb : j.natAbs < 2 ^ b) (h : a + b ≤ 134217728) : MulOk i j := mulx_ok ha hb h
abbrev DivOk (_ j : Int) : Prop := j ≠ 0 ∧ j.natAbs.log2 < 9000
theorem divOk {i j : Int} {b : Nat} (h : j ≠ 0) (hb : j.natAbs < 2 ^ b) (h0 : 0 < b) (h9 : b ≤ 9000) : DivOk i j := ⟨h, Nat.lt_of_lt_of_le (PySem.Flt.log2_lt_of h0 hb) h9⟩
theorem op_fdivG {Y : Cx} : OpR Y (binaryOp .FloorDiv) (rI DivOk fun i j => .int (i.fdiv j)) := opI fun i j _ _ _ _ _ hc q =>
  PyProof.Rows.floordiv_int hc.1 q (.inl (PyProof.noPylong_of_log2 hc.2))
theorem opDiv : OpF X K (binaryOp .FloorDiv) (gIntC DivOk fun i j => .int (i.fdiv j)) := ⟨_, fun _ => op_fdivG, od_intC (fun _ _ h => h) fun _ _ _ _ => .int _⟩
theorem opMod : OpF X K (binaryOp .Mod) (gIntC (fun _ j => j ≠ 0) fun i j => .int (i.fmod j)) := ⟨_, fun _ => op_modN, od_intC (fun _ _ h => h) fun _ _ _ _ => .int _⟩
abbrev PowOk (i j : Int) : Prop := 0 ≤ j ∧ j ≤ 1000000 ∧ i.natAbs < 2 ^ 64
theorem opPow : OpF X K (binaryOp .Pow) (gIntC PowOk fun i j => .int (i ^ j.toNat)) := ⟨_, fun _ => op_pow, od_intC (fun _ _ h => h) fun _ _ _ _ => .int _⟩
def eUn (g : O1) (f : EF) : EF := fun δ M => match f δ M with
  | some (d, M1) => g d M1
  | none => none
def gNeg : O1 := fun a M => match a with
  | .int i => some (.int (-i), M)
  | _ => none
theorem DE.neg {a : Expr} {pos} {f : EF} (h : DE X K a f) : DE X K (.UnaryOp .USub a pos) (eUn gNeg f) := by
  obtain ⟨t, p, r⟩ := h.go
  refine ⟨_, fun i => pe_un un_neg (p i), fun σ W δ M d M' Q w s e q => ?_⟩
  unfold eUn at e
  split at e
  · rename_i d1 M1 h1
    unfold gNeg at e
    split at e
    · cases e
      refine r σ W δ M _ _ _ w s h1 fun v W1 l1 w1 r1 => ?_
      cases r1
      exact ⟨_, rfl, q _ W1 l1 w1 (.int _)⟩
    · cases e
  · cases e
mutual
def toP : D → Option PyData
  | .non => some .none
  | .bl b => some (.bool b)
  | .int i => some (.int i)
  | .str x => some (.str x)
  | .tup xs => (match toPs xs with
    | some ps => some (.tuple ps)
    | none => none)
  | .lst xs => (match toPs xs with
    | some ps => some (.list ps)
    | none => none)
  | .lsk xs => (match toPs xs with
    | some ps => some (.list ps)
    | none => none)
  | .ty _ => none
  | .ob _ => none
  | .ref _ => none
  | .lam _ _ _ _ _ => none
def toPs : List D → Option (List PyData)
  | [] => some []
  | x :: xs => (match toP x with
    | some p => (match toPs xs with
      | some ps => some (p :: ps)
      | none => none)
    | none => none)
end
mutual
theorem Rep.dp {B H : Hp} {ι : List Addr} (s : ∀ b o, B b = some o → H b = some o) : ∀ {v : V} {d : D} {p : PyData}, Rep K B ι v d → toP d = some p → Dp K H v p
  | _, _, _, .non, e => by cases e; exact .non
  | _, _, _, .bl b, e => by cases e; exact .bl b
  | _, _, _, .int b, e => by cases e; exact .int b
  | _, _, _, .str b, e => by cases e; exact .str b
  | _, _, _, .ty b, e => by cases e
  | _, _, _, .ob b, e => by cases e
  | _, _, _, .ref b, e => by cases e
  | _, _, _, .lam _ _, e => by cases e
  | _, _, _, .tup h r, e => by
    unfold toP at e
    split at e
    · rename_i ps h2
      cases e
      exact .tup (sqT_mono s h) (RepL.dp s r h2)
    · cases e
  | _, _, _, .lst h r, e => by
    unfold toP at e
    split at e
    · rename_i ps h2
      cases e
      exact .lst (.inl (.inl (s _ _ h))) (RepL.dp s r h2)
    · cases e
  | _, _, _, .lsk h r, e => by
    unfold toP at e
    split at e
    · rename_i ps h2
      cases e
      exact .lst (sqL_mono s h) (RepL.dp s r h2)
    · cases e
theorem RepL.dp {B H : Hp} {ι : List Addr} (s : ∀ b o, B b = some o → H b = some o) : ∀ {v : List V} {d : List D} {p : List PyData}, RepL K B ι v d → toPs d = some p → DpAll K H v p
  | _, _, _, .nil, e => by cases e; exact .nil
  | _, _, _, .cons h r, e => by
    unfold toPs at e
    split at e
    · rename_i p h2
      split at e
      · rename_i ps h3
        cases e
        exact .cons (Rep.dp s h h2) (RepL.dp s r h3)
      · cases e
    · cases e
end
def deref (M : Mh) : D → D
  | .ref n => (match M[n]? with
    | some (.lst xs) => .lst xs
    | _ => .ref n)
  | d => d
theorem dp_of {W : Wd} {M : Mh} {v : V} {d : D} {p : PyData} (w : W.Ok K M) (r : Rep K W.B W.ι v d) (h : toP (deref M d) = some p) : Dp K W.H v p := by
  cases r with
  | ref hi =>
    rename_i a n
    unfold deref at h
    dsimp only at h
    split at h
    · rename_i xs hm
      obtain ⟨_, _, o, ho, ro⟩ := w.live _ _ _ ⟨hi, hm, fun z => by cases z⟩
      cases ro with
      | lst r1 =>
        unfold toP at h
        split at h
        · rename_i ps h2
          cases h
          exact .lst (.inl (.inl ho)) (r1.dp w.sub h2)
        · cases h
    · cases h
  | non => exact Rep.dp (d := .non) (B := W.B) (ι := W.ι) w.sub .non h
  | bl b => exact Rep.dp (B := W.B) (ι := W.ι) w.sub (.bl b) h
  | int b => exact Rep.dp (B := W.B) (ι := W.ι) w.sub (.int b) h
  | str b => exact Rep.dp (B := W.B) (ι := W.ι) w.sub (.str b) h
  | ty b => cases h
  | ob b => cases h
  | lam _ _ => cases h
  | tup h1 r1 => exact Rep.dp w.sub (.tup h1 r1) h
  | lst h1 r1 => exact Rep.dp w.sub (.lst h1 r1) h
  | lsk h1 r1 => exact Rep.dp w.sub (.lsk h1 r1) h
def gEq (h : PyData → PyData → Bool) : O2 := fun a b M => match toP (deref M a), toP (deref M b) with
  | some p, some q => if SeqAt.shaped p && SeqAt.shaped q then some (.bl (h p q), M) else none
  | _, _ => none
theorem opEq (c : Ctx X P w K mg base k) : OpF X K (compareOp .Eq) (gEq PyData.eqv) := ⟨rEqD K, fun i => by
  have := op_eqD (X := X i) (c.room i).units
  rw [c.K i] at this
  exact this, fun W M x y a b z M' Q w ra rb e q => by
  unfold gEq at e
  split at e
  · rename_i p p' h1 h2
    split at e
    · rename_i hs
      cases e
      rw [Bool.and_eq_true] at hs
      exact ⟨p, p', dp_of w ra h1, dp_of w rb h2, hs.1, hs.2, q _ W (.refl W) w (.bl _)⟩
    · cases e
  · cases e⟩
theorem opNe (c : Ctx X P w K mg base k) : OpF X K (compareOp .NotEq) (gEq fun p q => !PyData.eqv p q) := ⟨rNeD K, fun i => by
  have := op_neD (X := X i) (c.room i).units
  rw [c.K i] at this
  exact this, fun W M x y a b z M' Q w ra rb e q => by
  unfold gEq at e
  split at e
  · rename_i p p' h1 h2
    split at e
    · rename_i hs
      cases e
      rw [Bool.and_eq_true] at hs
      exact ⟨p, p', dp_of w ra h1, dp_of w rb h2, hs.1, hs.2, q _ W (.refl W) w (.bl _)⟩
    · cases e
  · cases e⟩
/-- is None, is not None -/
def isN : D → Bool
  | .non => true
  | _ => false
def gIsN (h : Bool → Bool) : O2 := fun a b M => match b with
  | .non => some (.bl (h (isN a)), M)
  | _ => none
theorem rep_isN {B : Hp} {ι : List Addr} {x : V} {a : D} (r : Rep K B ι x a) : decide (x = .non) = isN a := by
  cases r <;> rfl
theorem opIsN : OpF X K (compareOp .Is) (gIsN fun b => b) := ⟨_, fun _ => op_isN, fun W M x y a b z M' Q w ra rb e q => by
  unfold gIsN at e
  split at e
  · cases rb
    cases e
    refine ⟨rfl, ?_⟩
    rw [rep_isN ra]
    exact q _ W (.refl W) w (.bl _)
  · cases e⟩
theorem opNotN : OpF X K (compareOp .IsNot) (gIsN fun b => !b) := ⟨_, fun _ => op_notN, fun W M x y a b z M' Q w ra rb e q => by
  unfold gIsN at e
  split at e
  · cases rb
    cases e
    refine ⟨rfl, ?_⟩
    rw [rep_isN ra]
    exact q _ W (.refl W) w (.bl _)
  · cases e⟩
theorem RepL.atI {B : Hp} {ι : List Addr} {vs : List V} {ds : List D} {i : Int} {d : D} (r : RepL K B ι vs ds) (h : L2.atI ds i = some d) : ∃ v, L2.atI vs i = some v ∧ Rep K B ι v d := by
  unfold L2.atI at h ⊢
  rw [r.len]
  cases e : ixN ds.length i with
  | none =>
    rw [e] at h
    cases h
  | some j =>
    rw [e] at h
    exact r.get (i := j) h
def gIx : O2 := fun a b M => match b with
  | .int i => (match a with
    | .tup xs => (L2.atI xs i).map fun d => (d, M)
    | .lst xs => (L2.atI xs i).map fun d => (d, M)
    | .lsk xs => (L2.atI xs i).map fun d => (d, M)
    | .ref n => (match M[n]? with
      | some (.lst xs) => (L2.atI xs i).map fun d => (d, M)
      | _ => none)
    | .str z => if z.length ≤ sizeLine then (L2.atI z.cps.toList i).map fun c => (.str ⟨#[c]⟩, M) else none
    | _ => none)
  | _ => none
theorem od_ix : OD K (rIx K) gIx := fun W M x y a b z M' Q w ra rb e q => by
  unfold gIx at e
  split at e
  · rename_i i
    cases rb
    split at e
    · rename_i xs
      cases h : L2.atI xs i with
      | none =>
        rw [h] at e
        cases e
      | some d =>
        rw [h] at e
        cases e
        cases ra with
        | tup h1 r1 =>
          obtain ⟨v, hv, rv⟩ := r1.atI h
          exact .inr (.inl ⟨_, _, _, v, rfl, rfl, sqT_mono w.sub h1, hv, q v W (.refl W) w rv⟩)
    · rename_i xs
      cases h : L2.atI xs i with
      | none =>
        rw [h] at e
        cases e
      | some d =>
        rw [h] at e
        cases e
        cases ra with
        | lst h1 r1 =>
          obtain ⟨v, hv, rv⟩ := r1.atI h
          exact .inl ⟨_, _, _, v, rfl, rfl, .inl (.inl (w.sub _ _ h1)), hv, q v W (.refl W) w rv⟩
    · rename_i xs
      cases h : L2.atI xs i with
      | none =>
        rw [h] at e
        cases e
      | some d =>
        rw [h] at e
        cases e
        cases ra with
        | lsk h1 r1 =>
          obtain ⟨v, hv, rv⟩ := r1.atI h
          exact .inl ⟨_, _, _, v, rfl, rfl, sqL_mono w.sub h1, hv, q v W (.refl W) w rv⟩
    · rename_i n
      split at e
      · rename_i xs hm
        cases h : L2.atI xs i with
        | none =>
          rw [h] at e
          cases e
        | some d =>
          rw [h] at e
          cases e
          cases ra with
          | ref h1 =>
            obtain ⟨_, _, o, ho, ro⟩ := w.live n _ _ ⟨h1, hm, fun z => by cases z⟩
            cases ro with
            | lst r1 =>
              obtain ⟨v, hv, rv⟩ := r1.atI h
              exact .inl ⟨_, _, _, v, rfl, rfl, .inl (.inl ho), hv, q v W (.refl W) w rv⟩
      · cases e
    · rename_i z0
      split at e
      · rename_i hz
        cases h : L2.atI z0.cps.toList i with
        | none =>
          rw [h] at e
          cases e
        | some c =>
          rw [h] at e
          cases e
          cases ra
          exact .inr (.inr ⟨_, _, _, rfl, rfl, hz, h, q _ W (.refl W) w (.str _)⟩)
      · cases e
    · cases e
  · cases e
theorem DE.ix (c : Ctx X P w K mg base k) {a b : Expr} {pos} {f g : EF} (ha : DE X K a f) (hb : DE X K b g) (hs : PlainIx b := by exact fun _ _ => rfl) : DE X K (.Subscript a b pos) (eOp gIx f g) := by
  obtain ⟨ta, pa, ra⟩ := ha.go
  obtain ⟨tb, pb, rb⟩ := hb.go
  refine ⟨tOp (rIx K) ta tb, fun i => ?_, er_op od_ix ra rb⟩
  have h := pe_ix (ix_seq (X := X i)) (pa i) (pb i) hs (pos := pos)
  rw [c.K i] at h
  exact h
end
end Pl
namespace Pl
open PySem L2
open PyProof.Rows (envOfC)
def spD (K : PySem.W.Frag) (n : Nat) (F : Fn) (vs : List V) (H : Hp) (Q : VK) : Prop :=
  ∃ W M ds d M', W.H = H ∧ W.Ok K M ∧ RepL K W.B W.ι vs ds ∧ ds.length = n ∧ F ds M = some (d, M') ∧ VR K W d M' Q
structure DFn (P : Program) (w : World) (K : PySem.W.Frag) (mg : Str → Option Value) (base : Heap) (k : Nat) (f : Addr) (fd : FuncData) (ps : List Str) (F : Fn) : Prop where
  run : ∀ (A : Around) (outer : List PySem.Env) (s : Shared) (H : Hp) (args : Args) (us : List Value) (vs : List V) (Q : VK), Room k A → A.guards = some [] → Env0 P w K mg base A outer s H → BindsTo s fd args (ps.zip us) → Vals vs us →
    spD K ps.length F vs H Q → codeAny (model P w) A (.call (.ref f) args) (CR CX0 outer P w H s Q E0) s
theorem DFn.mono {P : Program} {w : World} {K : PySem.W.Frag} {mg : Str → Option Value} {base : Heap} {j k : Nat} {f : Addr} {fd : FuncData} {ps : List Str} {F : Fn} (h : DFn P w K mg base j f fd ps F) (l : j ≤ k) : DFn P w K mg base k f fd ps F :=
  ⟨fun A outer s H args us vs Q r g => h.run A outer s H args us vs Q (r.mono l) g⟩
section
variable {I : Type} {X : I → Cx} {P : Program} {w : World} {K : PySem.W.Frag} {mg : Str → Option Value} {base : Heap} {k : Nat}
/-- the callee runs -/
theorem run_dfn {Y : Cx} {pins : List (Addr × Obj)} {σ : L2.St} {H : Hp} {s : Shared} {Q : VK} {f : Addr} {fd : FuncData} {ps ks : List Str} {F : Fn} {us ws us' : List Value} {vs : List V} (h : DFn Y.prog Y.w Y.K Y.mg Y.base k f fd ps F) (room : Room k Y.A) (grd : Y.A.guards = some [])
    (J : Inv Y pins σ H s) (hb : BindsTo s fd ⟨us, ks.zip ws⟩ (ps.zip us')) (r : Vals vs us') (q : spD Y.K ps.length F vs H Q) : wpAny (model Y.prog Y.w) Y.A (call (.ref f) us (ks.zip ws)) (EP Y pins σ Q) Y.xe s := by
  refine wpAny_call (codeAny_mono (h.run Y.A Y.stack s H _ us' vs Q room grd J.env0 hb r q) fun o s' ho => ?_)
  match o, ho with
  | .ok (.ret u), ho => exact J.after ho
  | .ok .next, ho => exact False.elim ho
  | .ok .brk, ho => exact False.elim ho
  | .ok .cont, ho => exact False.elim ho
  | .error _, ho => exact False.elim ho
def eCall (F : Fn) (g : AF) (dds : List D) : EF := fun δ M => match g δ M with
  | some (ds, M1) => F (ds ++ dds) M1
  | none => none
/-- f(e, ..): dvs the defaults that fill up -/
theorem DE.call (c : Ctx X P w K mg base k) {x : Str} {p pos : Pos} {e : Expr} {es : List Expr} {g : AF} {f : Addr} {fd : FuncData} {ps : List Str} {F : Fn} {kf : Nat} {dvs : List V} {dds : List D} {dsv : List Value} (h : DFn P w K mg base kf f fd ps F) (hk : kf ≤ k)
    (hm : mg x = some (.ref f)) (kp : PySem.W.keepIn K (.ref f) = true) (hb : Binds K fd ps dsv) (hd : Vals dvs dsv) (hr : ∀ B ι, RepL K B ι dvs dds) (hn : (e :: es).length + dds.length = ps.length) (ha : DA X K (e :: es) g) (hlen : ∀ δ M ds M', g δ M = some (ds, M') → ds.length = (e :: es).length) (hg : ∀ i, Gl (X i) x := by intro _; rfl)
    (hdbg : (x == ("__debug__" : Str)) = false := by decide) (he : ∀ i, starEach (e :: es) (X i).env = (false, eval e (X i).env) :: starEach es (X i).env := by intro _; rfl) (hpl : ∀ i, (backTo pos (starEach es (X i).env)).any (·.1) = false := by intro _; rfl) :
    DE X K (.Call (.Name x p) (e :: es) [] pos) (eCall F g dds) := by
  obtain ⟨t, pa, ra⟩ := ha.go
  refine ⟨fun σ H Q => t σ H fun vs H1 => spD K ps.length F (vs ++ dvs) H1 Q, fun i => ⟨fun pins s σ H Q J q => ?_⟩, fun σ W δ M d M' Q w s ev q => ?_⟩
  · have cK := c.K i
    refine wpAny_Call_Name_kw (ld_glob J (hg i) (by rw [c.mg i]; exact hm) ?_ hdbg)
    refine PySem.W.callWith_K (h₀ := (X i).base) J.ok.mod.kin (by rw [cK]; exact kp) (thn ((pa i).run pos pins s σ H _ J q) fun us s1 ⟨vs, H1, J1, r, q1⟩ => ⟨J1.kIn, ?_⟩) (he i) (hpl i)
    obtain ⟨W, M, ds, d, M', a1, a2, a3, a4, a5, a6⟩ := id q1
    have h' : DFn (X i).prog (X i).w (X i).K (X i).mg (X i).base k f fd ps F := by
      rw [c.prog i, c.wd i, c.K i, c.mg i, c.base i]
      exact h.mono hk
    have r2 := r.append hd
    refine run_dfn (ks := []) (ws := []) (us := us) h' (c.room i) (c.grd i) J1 (hb s1 us (by rw [← cK]; exact J1.kIn) ?_) r2 (by rw [cK]; exact q1)
    rw [← r2.length, a3.len, a4]
  · unfold eCall at ev
    split at ev
    · rename_i ds M1 h1
      refine ra σ W δ M ds M1 _ w s h1 fun vs W1 l1 w1 r1 => ⟨W1, M1, ds ++ dds, d, M', rfl, w1, r1.append (hr _ _), ?_, ev, q.le l1⟩
      rw [List.length_append, hlen _ _ _ _ h1]
      exact hn
    · cases ev
theorem aLen_cons {f : EF} {g : AF} {n : Nat} (h : ∀ δ M ds M', g δ M = some (ds, M') → ds.length = n) : ∀ δ M ds M', aCons f g δ M = some (ds, M') → ds.length = n + 1 := fun δ M ds M' e => by
  unfold aCons at e
  split at e
  · split at e
    · rename_i h2
      cases e
      exact congrArg (· + 1) (h _ _ _ _ h2)
    · cases e
  · cases e
theorem aLen_nil : ∀ δ M ds M', aNil δ M = some (ds, M') → ds.length = 0 := fun δ M ds M' e => by
  cases e
  rfl
/-- keywords -/
structure DK (X : I → Cx) (K : PySem.W.Frag) (kws : List Keyword) (f : AF) (n : Nat) : Prop where
  go : ∃ t : TA, (∀ i, PK (X i) kws t) ∧ AR K t f
  len : ∀ δ M ds M', f δ M = some (ds, M') → ds.length = n
theorem DK.nil : DK X K [] aNil 0 := ⟨⟨tNil, fun i => pk_nil, fun σ W δ M d M' Q w s e q => by
  cases e
  exact q [] W (.refl W) w .nil⟩, aLen_nil⟩
theorem DK.cons {nm} {e : Expr} {kpos} {kws : List Keyword} {f : EF} {g : AF} {n : Nat} (a : DE X K e f) (b : DK X K kws g n) : DK X K (⟨nm, e, kpos⟩ :: kws) (aCons f g) (n + 1) := by
  obtain ⟨ta, pa, ra⟩ := a.go
  obtain ⟨tb, pb, rb⟩ := b.go
  refine ⟨⟨tCons ta tb, fun i => pk_cons (pa i) (pb i), fun σ W δ M d M' Q w s e q => ?_⟩, aLen_cons b.len⟩
  unfold aCons at e
  split at e
  · rename_i d1 M1 h1
    split at e
    · rename_i ds M2 h2
      cases e
      refine ra σ W δ M d1 M1 _ w s h1 fun v W1 l1 w1 r1 => ?_
      refine rb σ W1 δ M1 ds _ _ w1 (s.le l1) h2 fun vs W2 l2 w2 r2 => ?_
      exact q _ W2 (l1.trans l2) w2 (.cons (r1.le l2) r2)
    · cases e
  · cases e
end
def startD (n : Nat) (ds : List D) : Env := ds.map some ++ List.replicate (n - ds.length) none
def fnF (n : Nat) (g : SF) : Fn := fun ds M => match g (startD n ds) M with
  | some (.rt d M') => some (d, M')
  | some (.nx _ M') => some (.non, M')
  | _ => none
/-- an entry of the def -/
structure Entry (k : Nat) (qual : Str) (scope : Scope) (f : Addr) where
  cdv : Value
  A : Around
  outer : List PySem.Env
  s : Shared
  H : Hp
  room : Room k (A.deeper (envOfC qual scope s.heap.objs.size f cdv))
  grd : A.guards = some []
def bodyF (P : Program) (w : World) (K : PySem.W.Frag) (mg : Str → Option Value) (base : Heap) (N : List Str) {k : Nat} {qual : Str} {scope : Scope} {f : Addr} (e : Entry k qual scope f) : Cx := (cxOf CX0 P w K mg base N qual scope f e.cdv e.A e.outer e.s e.H E0).nox
theorem bodyF_ctx (P : Program) (w : World) (K : PySem.W.Frag) (mg : Str → Option Value) (base : Heap) (N : List Str) {k : Nat} {qual : Str} {scope : Scope} {f : Addr} : Ctx (bodyF P w K mg base N (k := k) (qual := qual) (scope := scope) (f := f)) P w K mg base k :=
  ⟨fun _ => rfl, fun _ => rfl, fun _ => rfl, fun _ => rfl, fun _ => rfl, fun e => e.room, fun e => e.grd, fun _ => rfl⟩
theorem slots_start {K : PySem.W.Frag} {W : Wd} {N : List Str} {vs : List V} {ds : List D} (r : RepL K W.B W.ι vs ds) : Slots K W (L2.start N vs) (startD N.length ds) := by
  have hl := r.len
  refine ⟨by simp [L2.start, startD, hl], fun i d h => ?_⟩
  unfold startD at h
  by_cases hi : i < ds.length
  · rw [List.getElem?_append_left (by simpa using hi), List.getElem?_map] at h
    cases e : ds[i]? with
    | none =>
      rw [e] at h
      cases h
    | some d' =>
      rw [e] at h
      cases h
      obtain ⟨v, h1, h2⟩ := r.get e
      refine ⟨v, ?_, h2⟩
      unfold L2.start
      rw [List.getElem?_append_left (by simp [hl]; exact hi), List.getElem?_map, h1]
      rfl
  · rw [List.getElem?_append_right (by simpa using hi), List.getElem?_replicate] at h
    split at h <;> cases h
/-- THE RULE of a def -/
theorem DFn.of {P : Program} {w : World} {K : PySem.W.Frag} {mg : Str → Option Value} {base : Heap} {k : Nat} {x qual : Str} {params : Arguments} {body : List Stmt} {scope : Scope} {dvs : List V} {kws : List (Str × V)} {f : Addr} {fd : FuncData} {N ps : List Str} {g : SF}
    (h : FunD K x qual params body scope dvs kws f fd) (S : FnScope N ps scope) (hb : Ctx (bodyF P w K mg base N (k := k) (qual := qual) (scope := scope) (f := f)) P w K mg base k → DB (bodyF P w K mg base N (k := k) (qual := qual) (scope := scope) (f := f)) K body g) : DFn P w K mg base (k + 1) f fd ps (fnF N.length g) := by
  obtain ⟨oc, od, dV, kV, doc, pm, an, cdv, ct, osl, rfl, lk, hcd, _, _⟩ := h.ex
  obtain ⟨t, pt, rt⟩ := (hb (bodyF_ctx P w K mg base N)).go
  refine ⟨fun A outer s H args us vs Q room grd e0 bd r q => ?_⟩
  obtain ⟨W, M, ds, d, M', rfl, a2, a3, a4, a5, a6⟩ := q
  have hl : vs.length = ps.length := a3.len.trans a4
  have KX : K.In s.heap := e0.mod.kin.keeps fun b o e => (e0.bs b o e).1
  have lim : s.heap.NoLimit := e0.mod.nolimit.keeps fun b o e => (e0.bs b o e).1
  have knd : ∀ y ∈ ps.zip us, scope.names.lookup y.1 = some .local ∨ (scope.names.lookup y.1 = some .cell ∧ ((cellsFrom (s.heap.objs.size + 1) scope.names []).lookup y.1).isSome = true) := fun y hy => by
    rcases S.par y.1 (List.of_mem_zip (a := y.1) (b := y.2) hy).1 with q | q
    · exact .inl q
    · exact .inr ⟨q, PySem.W.cellsFrom_some _ _ _ (.inl q)⟩
  refine codeAny_call_function room.depth (KX _ _ lk) rfl S.co S.gen rfl (PySem.W.codeRec_of KX hcd) (bd _ _ _ _ ?_)
  refine wpAny_newFunctionEnv_cells S.kind knd fun env he s1 xc => ?_
  subst he
  refine ⟨lim.keeps xc.toInCall.keep, codeAny_func ?_⟩
  have J : Inv (cxOf CX0 P w K mg base N qual scope f cdv A outer s W.H E0) [] (L2.start N vs) W.H s1 := inv_start S room.hd e0 hl r xc
  have ht := (pt ⟨cdv, A, outer, s, W.H, room.deeper _, grd⟩).nox
  have q2 : t { nx := fun _ H' => Q .non H', rt := Q } (L2.start N vs) W.H := by
    unfold fnF at a5
    split at a5
    · rename_i d2 M2 h2
      cases a5
      exact rt _ W _ M _ _ a2 (slots_start a3) h2 a6
    · rename_i δ2 M2 h2
      cases a5
      exact rt _ W _ M _ _ a2 (slots_start a3) h2 fun σ' W' l o s' => a6 .non W' l o .non
    · cases a5
  refine wpAny_mono (ht.run [] s1 (L2.start N vs) W.H _ J q2) (fun fl s' hs => ?_) fun e s' hs => hs
  have fin : ∀ {σ' : St} {H' : Hp} {v : V} {u : Value}, Inv (cxOf CX0 P w K mg base N qual scope f cdv A outer s W.H E0) [] σ' H' s' → RelV v u → Q v H' → CE outer P w W.H s Q u s' :=
    fun {σ' H' v u} J rv q => ⟨v, H', J.os, J.bare, J.base, J.hok, rv, q⟩
  match fl, hs with
  | .ret u, ⟨v, σ', H', J2, rv, q3⟩ => exact fin J2 rv q3
  | .next, ⟨σ', H', J2, q3⟩ => exact fin (v := V.non) (u := Value.none) J2 rfl q3
  | .brk, ⟨_, _, _, q3⟩ => exact False.elim q3
  | .cont, ⟨_, _, _, q3⟩ => exact False.elim q3
end Pl
namespace Pl
open PySem L2
section
variable {I : Type} {X : I → Cx} {P : Program} {w : World} {K : PySem.W.Frag} {mg : Str → Option Value} {base : Heap} {k : Nat}
def lstT (M : Mh) : D → Option (List D)
  | .lst xs => some xs
  | .ref n => (match M[n]? with
    | some (.lst xs) => some xs
    | _ => none)
  | _ => none
def lstOf (M : Mh) : D → Option (List D)
  | .lst xs => some xs
  | .lsk xs => some xs
  | .ref n => (match M[n]? with
    | some (.lst xs) => some xs
    | _ => none)
  | _ => none
theorem lstT_rep {W : Wd} {M : Mh} {x : V} {d : D} {ds : List D} (w : W.Ok K M) (r : Rep K W.B W.ι x d) (h : lstT M d = some ds) : ∃ l vs, x = .ref l ∧ W.H l = some (.lst vs) ∧ RepL K W.B W.ι vs ds := by
  unfold lstT at h
  split at h
  · cases h
    cases r with
    | lst h1 r1 => exact ⟨_, _, rfl, w.sub _ _ h1, r1⟩
  · split at h
    · rename_i hm
      cases h
      cases r with
      | ref h1 =>
        obtain ⟨_, _, o, ho, ro⟩ := w.live _ _ _ ⟨h1, hm, fun z => by cases z⟩
        cases ro with
        | lst r1 => exact ⟨_, _, rfl, ho, r1⟩
    · cases h
  · cases h
theorem lstOf_rep {W : Wd} {M : Mh} {x : V} {d : D} {ds : List D} (w : W.Ok K M) (r : Rep K W.B W.ι x d) (h : lstOf M d = some ds) : ∃ l vs, x = .ref l ∧ SqL K W.H l vs ∧ RepL K W.B W.ι vs ds := by
  unfold lstOf at h
  split at h
  · cases h
    cases r with
    | lst h1 r1 => exact ⟨_, _, rfl, .inl (.inl (w.sub _ _ h1)), r1⟩
  · cases h
    cases r with
    | lsk h1 r1 => exact ⟨_, _, rfl, sqL_mono w.sub h1, r1⟩
  · split at h
    · rename_i hm
      cases h
      cases r with
      | ref h1 =>
        obtain ⟨_, _, o, ho, ro⟩ := w.live _ _ _ ⟨h1, hm, fun z => by cases z⟩
        cases ro with
        | lst r1 => exact ⟨_, _, rfl, .inl (.inl ho), r1⟩
    · cases h
  · cases h
theorem tup_rep {W : Wd} {M : Mh} {x : V} {ds : List D} (w : W.Ok K M) (r : Rep K W.B W.ι x (.tup ds)) : ∃ l vs, x = .ref l ∧ SqT K W.H l vs ∧ RepL K W.B W.ι vs ds := by
  cases r with
  | tup h1 r1 => exact ⟨_, _, rfl, sqT_mono w.sub h1, r1⟩
def gAdd : O2 := fun a b M => match a, b with
  | .int i, .int j => some (.int (i + j), M)
  | .str x, .str y => if x.length + y.length ≤ sizeLine then some (.str (x ++ y), M) else none
  | .tup xs, .tup ys => if xs.length + ys.length ≤ sizeLine then some (.tup (xs ++ ys), M) else none
  | a, b => (match lstT M a, lstT M b with
    | some xs, some ys => if xs.length + ys.length ≤ sizeLine then some (.lst (xs ++ ys), M) else none
    | _, _ => none)
def rAdd4 (K : PySem.W.Frag) : R2 := fun x y H Q => rI0 (fun i j => .int (i + j)) x y H Q ∨ (∃ i j, x = .str i ∧ y = .str j ∧ i.length + j.length ≤ sizeLine ∧ Q (.str (i ++ j)) H) ∨ rCat x y H Q ∨ rCatA K x y H Q
theorem opAdd4 (c : Ctx X P w K mg base k) : OpF X K (binaryOp .Add) gAdd := ⟨rAdd4 K, fun i => by
  have h := OpR.or (X := X i) op_add (OpR.or op_add_str (OpR.or op_cat op_catA))
  rw [c.K i] at h
  exact h, fun W M x y a b z M' Q w ra rb e q => by
  unfold gAdd at e
  split at e
  · cases ra
    cases rb
    cases e
    exact .inl ⟨_, _, rfl, rfl, q _ W (.refl W) w (.int _)⟩
  · split at e
    · rename_i hl
      cases ra
      cases rb
      cases e
      exact .inr (.inl ⟨_, _, rfl, rfl, hl, q _ W (.refl W) w (.str _)⟩)
    · cases e
  · split at e
    · rename_i hl
      cases e
      obtain ⟨a, vs, rfl, s1, r1⟩ := tup_rep w ra
      obtain ⟨b, us, rfl, s2, r2⟩ := tup_rep w rb
      refine .inr (.inr (.inr ⟨a, b, vs, us, rfl, rfl, s1, s2, by rw [r1.len, r2.len]; exact hl, fun h => ?_, fun h0 h => ?_, fun h0 h1 p hp => ?_⟩))
      · subst h
        cases r1
        exact q _ W (.refl W) w rb
      · subst h
        cases r2
        rw [List.append_nil] at q
        exact q _ W (.refl W) w ra
      · obtain ⟨l2, w2, r3⟩ := lay_tup w hp (r1.append r2)
        exact q _ _ l2 w2 r3
    · cases e
  · split at e
    · rename_i xs ys h1 h2
      split at e
      · rename_i hl
        cases e
        obtain ⟨a, vs, rfl, s1, r1⟩ := lstT_rep w ra h1
        obtain ⟨b, us, rfl, s2, r2⟩ := lstT_rep w rb h2
        refine .inr (.inr (.inl ⟨a, b, vs, us, rfl, rfl, s1, s2, by rw [r1.len, r2.len]; exact hl, fun p hp => ?_⟩))
        obtain ⟨l2, w2, r3⟩ := lay_lst w hp (r1.append r2)
        exact q _ _ l2 w2 r3
      · cases e
    · cases e⟩
theorem RepL.rep {B : Hp} {ι : List Addr} {vs : List V} {ds : List D} (r : RepL K B ι vs ds) : ∀ n : Nat, RepL K B ι (List.replicate n vs).flatten (List.replicate n ds).flatten
  | 0 => .nil
  | n + 1 => by
    rw [List.replicate_succ, List.replicate_succ, List.flatten_cons, List.flatten_cons]
    exact r.append (r.rep n)
def gMul : O2 := fun a b M => match a, b with
  | .int i, .int j => if MulOk i j then some (.int (i * j), M) else none
  | .lst xs, .int j => if -(2 ^ 63) ≤ j ∧ j < 2 ^ 63 ∧ xs.length * j.toNat ≤ sizeLine then some (.lst (List.replicate j.toNat xs).flatten, M) else none
  | _, _ => none
theorem opMul2 : OpF X K (binaryOp .Mult) gMul := ⟨_, fun i => OpR.or op_mulX op_rep, fun W M x y a b z M' Q w ra rb e q => by
  unfold gMul at e
  split at e
  · split at e
    · rename_i hc
      cases ra
      cases rb
      cases e
      exact .inl ⟨_, _, rfl, rfl, hc, q _ W (.refl W) w (.int _)⟩
    · cases e
  · split at e
    · rename_i hc
      cases rb
      cases e
      cases ra with
      | lst h1 r1 =>
        refine .inr ⟨_, _, _, rfl, rfl, w.sub _ _ h1, hc.1, hc.2.1, by rw [r1.len]; exact hc.2.2, fun p hp => ?_⟩
        obtain ⟨l2, w2, r3⟩ := lay_lst w hp (r1.rep _)
        exact q _ _ l2 w2 r3
    · cases e
  · cases e⟩
structure DP (X : I → Cx) (K : PySem.W.Frag) (e : Option Expr) (f : Env → Mh → Option (Option Int × Mh)) : Prop where
  go : ∃ t : St → Hp → (Option Int → Hp → Prop) → Prop, (∀ i, PO (X i) e t) ∧ ∀ (σ : St) (W : Wd) (δ : Env) (M : Mh) (d : Option Int) (M' : Mh) (Q : Option Int → Hp → Prop), W.Ok K M → Slots K W σ δ → f δ M = some (d, M') → (∀ W', W.Le W' → W'.Ok K M' → Q d W'.H) → t σ W.H Q
def pNone : Env → Mh → Option (Option Int × Mh) := fun _ M => some (none, M)
def pSome (f : EF) : Env → Mh → Option (Option Int × Mh) := fun δ M => match f δ M with
  | some (.int i, M1) => some (some i, M1)
  | _ => none
theorem DP.none : DP X K none pNone := ⟨_, fun i => po_none, fun σ W δ M d M' Q w s e q => by
  cases e
  exact q W (.refl W) w⟩
theorem DP.some {e : Expr} {f : EF} (h : DE X K e f) : DP X K (some e) (pSome f) := by
  obtain ⟨t, p, r⟩ := h.go
  refine ⟨_, fun i => po_some (p i), fun σ W δ M d M' Q w s ev q => ?_⟩
  unfold pSome at ev
  split at ev
  · rename_i h1
    cases ev
    refine r σ W δ M _ _ _ w s h1 fun v W1 l1 w1 r1 => ?_
    cases r1
    exact ⟨_, rfl, q W1 l1 w1⟩
  · cases ev
def cutD {α : Type} (xs : List α) (lo hi : Option Int) : List α := (xs.drop (HT.sIx xs.length 0 lo)).take (HT.sIx xs.length xs.length hi - HT.sIx xs.length 0 lo)
theorem RepL.cut {B : Hp} {ι : List Addr} {vs : List V} {ds : List D} (r : RepL K B ι vs ds) (lo hi : Option Int) : RepL K B ι (cutV vs lo hi) (cutD ds lo hi) := by
  unfold cutV cutD
  rw [r.len]
  exact (r.drop _).take _
theorem cutD_all {α : Type} {xs : List α} {lo hi : Option Int} (h : HT.sIx xs.length 0 lo = 0 ∧ HT.sIx xs.length xs.length hi = xs.length) : cutD xs lo hi = xs := by
  unfold cutD
  rw [h.1, h.2]
  simp
def eSl (f : EF) (p q : Env → Mh → Option (Option Int × Mh)) : EF := fun δ M => match f δ M with
  | some (a, M1) => (match p δ M1 with
    | some (lo, M2) => (match q δ M2 with
      | some (hi, M3) => (match a with
        | .tup xs => some (.tup (cutD xs lo hi), M3)
        | .str z => if z.length ≤ sizeLine then some (.str (cutS z lo hi), M3) else none
        | a => (match lstOf M3 a with
          | some xs => some (.lst (cutD xs lo hi), M3)
          | none => none))
      | none => none)
    | none => none)
  | none => none
theorem DE.sl (c : Ctx X P w K mg base k) {e : Expr} {lo hi : Option Expr} {p2 pos} {f : EF} {p q : Env → Mh → Option (Option Int × Mh)} (ha : DE X K e f) (hlo : DP X K lo p) (hhi : DP X K hi q) : DE X K (.Subscript e (.Slice lo hi none p2) pos) (eSl f p q) := by
  obtain ⟨t, pa, r⟩ := ha.go
  obtain ⟨tl, pl, rl⟩ := hlo.go
  obtain ⟨th, ph, rh⟩ := hhi.go
  refine ⟨tSl (fun x lo hi H Q => rSlL K x lo hi H Q ∨ rSlA K x lo hi H Q ∨ rSlS x lo hi H Q) t tl th, fun i => ?_, fun σ W δ M d M' Q w s ev qq => ?_⟩
  · have h := pe_slice (SlR.or (X := X i) sl_list (SlR.or sl_tupA sl_str)) (pa i) (pl i) (ph i) (p2 := p2) (pos := pos)
    rw [c.K i] at h
    exact h
  · unfold eSl at ev
    split at ev
    · rename_i a M1 h1
      split at ev
      · rename_i lo' M2 h2
        split at ev
        · rename_i hi' M3 h3
          refine r σ W δ M _ _ _ w s h1 fun v W1 l1 w1 r1 => ?_
          refine rl σ W1 δ M1 _ _ _ w1 (s.le l1) h2 fun W2 l2 w2 => ?_
          refine rh σ W2 δ M2 _ _ _ w2 (s.le (l1.trans l2)) h3 fun W3 l3 w3 => ?_
          have r3 := r1.le (l2.trans l3)
          have l13 := (l1.trans l2).trans l3
          split at ev
          · cases ev
            obtain ⟨b, vs, rfl, s1, q1⟩ := tup_rep w3 r3
            refine .inr (.inl ⟨b, vs, rfl, s1, fun h => ?_, fun h p hp => ?_⟩)
            · rw [q1.len] at h
              rw [cutD_all h] at qq
              exact qq _ W3 l13 w3 r3
            · obtain ⟨l4, w4, r4⟩ := lay_tup w3 hp (q1.cut lo' hi')
              exact qq _ _ (l13.trans l4) w4 r4
          · split at ev
            · rename_i hz
              cases ev
              cases r3
              exact .inr (.inr ⟨_, rfl, hz, qq _ W3 l13 w3 (.str _)⟩)
            · cases ev
          · split at ev
            · rename_i xs hx
              cases ev
              obtain ⟨b, vs, rfl, s1, q1⟩ := lstOf_rep w3 r3 hx
              refine .inl ⟨b, vs, rfl, s1, fun p hp => ?_⟩
              obtain ⟨l4, w4, r4⟩ := lay_lst w3 hp (q1.cut lo' hi')
              exact qq _ _ (l13.trans l4) w4 r4
            · cases ev
        · cases ev
      · cases ev
    · cases ev
abbrev GL := List D → Mh → Option (D × Mh)
structure CalF (X : I → Cx) (K : PySem.W.Frag) (f : Value) (g : GL) : Prop where
  go : ∃ r : List V → Hp → VK → Prop, (∀ i, CallR (X i) f r) ∧ ∀ (W : Wd) (M : Mh) (vs : List V) (ds : List D) (z : D) (M' : Mh) (Q : VK), W.Ok K M → RepL K W.B W.ι vs ds → g ds M = some (z, M') → VR K W z M' Q → r vs W.H Q
def eB (g : GL) (a : AF) : EF := fun δ M => match a δ M with
  | some (ds, M1) => g ds M1
  | none => none
theorem er_b {r : List V → Hp → VK → Prop} {g : GL} {a : AF} {t : TA} (h : ∀ (W : Wd) (M : Mh) (vs : List V) (ds : List D) (z : D) (M' : Mh) (Q : VK), W.Ok K M → RepL K W.B W.ι vs ds → g ds M = some (z, M') → VR K W z M' Q → r vs W.H Q) (ra : AR K t a) : ER K (tCB r t) (eB g a) := fun σ W δ M d M' Q w s e q => by
  unfold eB at e
  split at e
  · rename_i ds M1 h1
    exact ra σ W δ M _ _ _ w s h1 fun vs W1 l1 w1 r1 => h W1 M1 vs ds d M' Q w1 r1 e (q.le l1)
  · cases e
theorem DE.callB (c : Ctx X P w K mg base k) {x : Str} {p pos : Pos} {e : Expr} {es : List Expr} {id : String} {g : GL} {a : AF} (o : CalF X K (.builtin id) g) (hm : mg x = none) (hv : bootBuiltins x = some (.builtin id)) (ha : DA X K (e :: es) a) (hg : ∀ i, Gl (X i) x := by intro _; rfl)
    (hn : x ≠ "__name__" := by decide) (hdbg : (x == ("__debug__" : Str)) = false := by decide) (he : ∀ i, starEach (e :: es) (X i).env = (false, eval e (X i).env) :: starEach es (X i).env := by intro _; rfl) (hpl : ∀ i, (backTo pos (starEach es (X i).env)).any (·.1) = false := by intro _; rfl) :
    DE X K (.Call (.Name x p) (e :: es) [] pos) (eB g a) := by
  obtain ⟨r, hc, h⟩ := o.go
  obtain ⟨t, pa, ra⟩ := ha.go
  exact ⟨_, fun i => pe_callB (hc i) (hg i) (by rw [c.mg i]; exact hm) hv (pa i) (hn := hn) (hdb := hdbg) (he := he i) (hpl := hpl i), er_b h ra⟩
theorem DE.callTy (c : Ctx X P w K mg base k) {x : Str} {p pos : Pos} {e : Expr} {es : List Expr} {id : String} {g : GL} {a : AF} (o : CalF X K (.type id) g) (hm : mg x = none) (hv : bootBuiltins x = some (.type id)) (ha : DA X K (e :: es) a) (hg : ∀ i, Gl (X i) x := by intro _; rfl)
    (hn : x ≠ "__name__" := by decide) (hdbg : (x == ("__debug__" : Str)) = false := by decide) (he : ∀ i, starEach (e :: es) (X i).env = (false, eval e (X i).env) :: starEach es (X i).env := by intro _; rfl) (hpl : ∀ i, (backTo pos (starEach es (X i).env)).any (·.1) = false := by intro _; rfl) :
    DE X K (.Call (.Name x p) (e :: es) [] pos) (eB g a) := by
  obtain ⟨r, hc, h⟩ := o.go
  obtain ⟨t, pa, ra⟩ := ha.go
  exact ⟨_, fun i => pe_callTy (hc i) (hg i) (by rw [c.mg i]; exact hm) hv (pa i) (hn := hn) (hdb := hdbg) (he := he i) (hpl := hpl i), er_b h ra⟩
def lenOf (M : Mh) : D → Option Nat
  | .str z => if z.length ≤ sizeLine then some z.length else none
  | .tup xs => some xs.length
  | d => (lstOf M d).map (·.length)
def gLen : GL := fun ds M => match ds with
  | [d] => (lenOf M d).map fun n => (.int (n : Nat), M)
  | _ => none
theorem cLen (c : Ctx X P w K mg base k) : CalF X K (.builtin "len") gLen := ⟨fun xs H Q => ∃ x n, xs = [x] ∧ LenV K x H n ∧ Q (.int n) H, fun i => by
  have h := call_len (X := X i)
  rw [c.K i] at h
  exact h, fun W M vs ds z M' Q w r e q => by
  unfold gLen at e
  split at e
  · rename_i d
    cases hl : lenOf M d with
    | none =>
      rw [hl] at e
      cases e
    | some n =>
      rw [hl] at e
      cases e
      cases r with
      | cons r1 r2 =>
        cases r2
        refine ⟨_, n, rfl, ?_, q _ W (.refl W) w (.int _)⟩
        unfold lenOf at hl
        split at hl
        · split at hl
          · rename_i hz
            cases hl
            cases r1
            exact ⟨hz, rfl⟩
          · cases hl
        · cases hl
          obtain ⟨a, us, rfl, s1, q1⟩ := tup_rep w r1
          exact .inr ⟨us, s1, q1.len.symm⟩
        · cases hx : lstOf M d with
          | none =>
            rw [hx] at hl
            cases hl
          | some xs =>
            rw [hx] at hl
            cases hl
            obtain ⟨a, us, rfl, s1, q1⟩ := lstOf_rep w r1 hx
            exact .inl ⟨us, s1, q1.len.symm⟩
  · cases e⟩
def gL2 (h : Int → Int → D) : GL := fun ds M => match ds with
  | [.int i, .int j] => some (h i j, M)
  | _ => none
theorem cMax2 (c : Ctx X P w K mg base k) : CalF X K (.builtin "max") (gL2 fun i j => .int (if j > i then j else i)) := ⟨_, fun i => call_max2 (c.calm i), fun W M vs ds z M' Q w r e q => by
  unfold gL2 at e
  split at e
  · cases e
    cases r with
    | cons r1 r2 =>
      cases r2 with
      | cons r2 r3 =>
        cases r1
        cases r2
        cases r3
        exact ⟨_, _, rfl, q _ W (.refl W) w (.int _)⟩
  · cases e⟩
theorem cMin2 (c : Ctx X P w K mg base k) : CalF X K (.builtin "min") (gL2 fun i j => .int (if j < i then j else i)) := ⟨_, fun i => call_min2 (c.calm i), fun W M vs ds z M' Q w r e q => by
  unfold gL2 at e
  split at e
  · cases e
    cases r with
    | cons r1 r2 =>
      cases r2 with
      | cons r2 r3 =>
        cases r1
        cases r2
        cases r3
        exact ⟨_, _, rfl, q _ W (.refl W) w (.int _)⟩
  · cases e⟩
def intsOf : List D → Option (List Int)
  | [] => some []
  | .int i :: r => (match intsOf r with
    | some is => some (i :: is)
    | none => none)
  | _ => none
theorem rep_ints {B : Hp} {ι : List Addr} : ∀ {vs : List V} {ds : List D} {is : List Int}, RepL K B ι vs ds → intsOf ds = some is → vs = is.map V.int
  | _, _, _, .nil, e => by
    cases e
    rfl
  | _, _, _, .cons (d := d) r t, e => by
    unfold intsOf at e
    split at e
    · rename_i h1
      cases h1
    · rename_i h1
      split at e
      · rename_i is h2
        cases e
        cases h1
        cases r
        rw [List.map_cons, rep_ints t h2]
      · cases e
    · cases e
def gTupOf : GL := fun ds M => match ds with
  | [.tup xs] => some (.tup xs, M)
  | [d] => (match lstOf M d with
    | some xs => some (.tup xs, M)
    | none => none)
  | _ => none
theorem cTupOf (c : Ctx X P w K mg base k) : CalF X K (.type "tuple") gTupOf := ⟨fun xs H Q => ∃ p ys, xs = [.ref p] ∧ ((SqL K H p ys ∧ ∀ l, H l = none → Q (.ref l) (upd H l (.tup ys))) ∨ (SqT K H p ys ∧ Q (.ref p) H)), fun i => by
  have h := call_tuple_of (X := X i)
  rw [c.K i] at h
  exact h, fun W M vs ds z M' Q w r e q => by
  unfold gTupOf at e
  split at e
  · cases e
    cases r with
    | cons r1 r2 =>
      cases r2
      obtain ⟨a, us, rfl, s1, q1⟩ := tup_rep w r1
      exact ⟨a, us, rfl, .inr ⟨s1, q _ W (.refl W) w r1⟩⟩
  · split at e
    · rename_i xs h1
      cases e
      cases r with
      | cons r1 r2 =>
        cases r2
        obtain ⟨a, us, rfl, s1, q1⟩ := lstOf_rep w r1 h1
        refine ⟨a, us, rfl, .inl ⟨s1, fun p hp => ?_⟩⟩
        obtain ⟨l2, w2, r3⟩ := lay_tup w hp q1
        exact q _ _ l2 w2 r3
    · cases e
  · cases e⟩
def gLstOf : GL := fun ds M => match ds with
  | [.tup xs] => some (.lst xs, M)
  | [d] => (match lstOf M d with
    | some xs => some (.lst xs, M)
    | none => none)
  | _ => none
theorem cLstOf (c : Ctx X P w K mg base k) : CalF X K (.type "list") gLstOf := ⟨fun xs H Q => ∃ p ys, xs = [.ref p] ∧ (SqL K H p ys ∨ SqT K H p ys) ∧ ∀ l, H l = none → Q (.ref l) (upd H l (.lst ys)), fun i => by
  have h := call_list_of (X := X i)
  rw [c.K i] at h
  exact h, fun W M vs ds z M' Q w r e q => by
  unfold gLstOf at e
  split at e
  · cases e
    cases r with
    | cons r1 r2 =>
      cases r2
      obtain ⟨a, us, rfl, s1, q1⟩ := tup_rep w r1
      refine ⟨a, us, rfl, .inr s1, fun p hp => ?_⟩
      obtain ⟨l2, w2, r3⟩ := lay_lst w hp q1
      exact q _ _ l2 w2 r3
  · split at e
    · rename_i xs h1
      cases e
      cases r with
      | cons r1 r2 =>
        cases r2
        obtain ⟨a, us, rfl, s1, q1⟩ := lstOf_rep w r1 h1
        refine ⟨a, us, rfl, .inl s1, fun p hp => ?_⟩
        obtain ⟨l2, w2, r3⟩ := lay_lst w hp q1
        exact q _ _ l2 w2 r3
    · cases e
  · cases e⟩
def bsOf : List D → Option (List Bool)
  | [] => some []
  | .bl i :: r => (match bsOf r with
    | some is => some (i :: is)
    | none => none)
  | _ => none
theorem rep_bs {B : Hp} {ι : List Addr} : ∀ {vs : List V} {ds : List D} {is : List Bool}, RepL K B ι vs ds → bsOf ds = some is → vs = is.map V.bl
  | _, _, _, .nil, e => by
    cases e
    rfl
  | _, _, _, .cons (d := d) r t, e => by
    unfold bsOf at e
    split at e
    · rename_i h1
      cases h1
    · rename_i h1
      split at e
      · rename_i is h2
        cases e
        cases h1
        cases r
        rw [List.map_cons, rep_bs t h2]
      · cases e
    · cases e
def gBs (h : List Bool → Bool) : GL := fun ds M => match ds with
  | [d] => (match lstOf M d with
    | some xs => (match bsOf xs with
      | some bs => some (.bl (h bs), M)
      | none => none)
    | none => none)
  | _ => none
theorem cAll (c : Ctx X P w K mg base k) : CalF X K (.builtin "all") (gBs fun bs => bs.all id) := ⟨rAll K, fun i => by
  have h := cr_all (X := X i) (c.calm i)
  rw [c.K i] at h
  exact h, fun W M vs ds z M' Q w r e q => by
  unfold gBs at e
  split at e
  · split at e
    · rename_i xs h1
      split at e
      · rename_i is h2
        cases e
        cases r with
        | cons r1 r2 =>
          cases r2
          obtain ⟨a, us, rfl, s1, q1⟩ := lstOf_rep w r1 h1
          have := rep_bs q1 h2
          subst this
          exact ⟨a, is, rfl, s1, q _ W (.refl W) w (.bl _)⟩
      · cases e
    · cases e
  · cases e⟩
end
end Pl
namespace Pl
open PySem L2
section
variable {I : Type} {X : I → Cx} {P : Program} {w : World} {K : PySem.W.Frag} {mg : Str → Option Value} {base : Heap} {k : Nat}
def tyN (M : Mh) : D → Option String
  | .non => some "NoneType"
  | .bl _ => some "bool"
  | .int _ => some "int"
  | .str _ => some "str"
  | .tup _ => some "tuple"
  | .lst _ => some "list"
  | .ref n => (match M[n]? with
    | some (.lst _) => some "list"
    | some (.dic _) => some "dict"
    | _ => none)
  | _ => none
theorem sqT_ty {H : Hp} {a : Addr} {vs : List V} (h : SqT K H a vs) : TyX K H (.ref a) (.type "tuple") := by
  rcases h with h | ⟨o, its, n, h1, h2, _⟩
  · rcases h with h | ⟨o, h⟩
    · exact .base (.tup h)
    · exact .fTuple h
  · exact .kTuple h1 h2
theorem tyN_rep {W : Wd} {M : Mh} {x : V} {d : D} {n : String} (w : W.Ok K M) (r : Rep K W.B W.ι x d) (h : tyN M d = some n) : TyX K W.H x (.type n) := by
  cases r with
  | non => cases h; exact .base .non
  | bl b => cases h; exact .base (.bl b)
  | int b => cases h; exact .base (.int b)
  | str b => cases h; exact .base (.str b)
  | tup h1 _ => cases h; exact sqT_ty (sqT_mono w.sub h1)
  | lst h1 _ => cases h; exact .base (.lst (w.sub _ _ h1))
  | ty _ => cases h
  | ob _ => cases h
  | lam _ _ => cases h
  | lsk _ _ => cases h
  | ref h1 =>
    unfold tyN at h
    dsimp only at h
    split at h
    · rename_i hm
      cases h
      obtain ⟨_, _, o, ho, ro⟩ := w.live _ _ _ ⟨h1, hm, fun z => by cases z⟩
      cases ro with
      | lst _ => exact .base (.lst ho)
    · rename_i hm
      cases h
      obtain ⟨_, _, o, ho, ro⟩ := w.live _ _ _ ⟨h1, hm, fun z => by cases z⟩
      cases ro with
      | dic _ => exact .base (.dK ho)
    · cases h
def gIsi : GL := fun ds M => match ds with
  | [d, .ty n] => (match tyN M d with
    | some t => (match kitB t n with
      | some b => some (.bl b, M)
      | none => none)
    | none => none)
  | _ => none
theorem cIsi (c : Ctx X P w K mg base k) : CalF X K (.builtin "isinstance") gIsi := ⟨rIsi K, fun i => by
  have h := call_isi (X := X i)
  rw [c.K i] at h
  exact h, fun W M vs ds z M' Q w r e q => by
  unfold gIsi at e
  split at e
  · split at e
    · rename_i t h1
      split at e
      · rename_i b h2
        cases e
        cases r with
        | cons r1 r2 =>
          cases r2 with
          | cons r2 r3 =>
            cases r2
            cases r3
            exact ⟨_, _, _, _, b, rfl, .ty _, tyN_rep w r1 h1, kit_ty h2, q _ W (.refl W) w (.bl _)⟩
      · cases e
    · cases e
  · cases e⟩
theorem room_in {A : Around} {xs : List PyData} {d : PyData} (h : SeqAt.shaped d = true) (u : A.units + 65 < cLine) : A.units + 1 + min (PyData.depthAll xs) d.depth < cLine := by
  have h1 := SeqAt.depth_of_shaped h
  have h2 := Nat.min_le_right (PyData.depthAll xs) d.depth
  omega
def rNotInT (K : PySem.W.Frag) : R2 := fun x y H Q => ∃ d ds, Dp K H x d ∧ Dp K H y (.tuple ds) ∧ SeqAt.shaped d = true ∧ SeqAt.shaped (.tuple ds) = true ∧ Q (.bl (!ds.any fun z => PyData.eqv z d)) H
theorem op_notInT {Y : Cx} (room : Y.A.units + 65 < cLine) : OpR Y (compareOp .NotIn) (rNotInT Y.K) := fun pins s σ H x y v u Q J rx ry ⟨d, ds, hd, he, sd, se, q⟩ => by
  obtain ⟨as, r1⟩ := Dp.reads J d x v hd rx
  obtain ⟨bs, r2⟩ := Dp.reads J (.tuple ds) y u he ry
  exact SeqAt.notIn_tuple_reads r2 r1 (SeqAt.canLay_of_shaped se) (SeqAt.canLay_of_shaped sd) (room_in sd room) ⟨.bl _, H, J, rfl, q⟩
/-- a sign in a text, a thing in a row -/
def gIn (h : Bool → Bool) : O2 := fun a b M => match a, b with
  | .str ⟨⟨[s]⟩⟩, .str z => some (.bl (h (decide (s ∈ z.cps.toList))), M)
  | a, b => (match toP (deref M a), toP (deref M b) with
    | some p, some (.tuple ps) => if SeqAt.shaped p && SeqAt.shaped (.tuple ps) then some (.bl (h (ps.any fun z => PyData.eqv z p)), M) else none
    | some p, some (.list ps) => if SeqAt.shaped p && SeqAt.shaped (.list ps) then some (.bl (h (ps.any fun z => PyData.eqv z p)), M) else none
    | _, _ => none)
theorem room65 {A : Around} {j : Nat} (r : Room j A) : A.units + 65 < cLine := by
  have := r.un
  omega
theorem opNotIn (c : Ctx X P w K mg base k) : OpF X K (compareOp .NotIn) (gIn fun b => !b) := ⟨fun x y H Q => (∃ (c : Nat) (z : Str), x = .str ⟨#[c]⟩ ∧ y = .str z ∧ Q (.bl (!decide (c ∈ z.cps.toList))) H) ∨ rNotInT K x y H Q ∨ rNotInD K x y H Q, fun i => by
  have h := OpR.or (X := X i) op_notIn_sign (OpR.or (op_notInT (room65 (c.room i))) (op_notInD (room65 (c.room i))))
  rw [c.K i] at h
  exact h, fun W M x y a b z M' Q w ra rb e q => by
  unfold gIn at e
  split at e
  · cases ra
    cases rb
    cases e
    exact .inl ⟨_, _, rfl, rfl, q _ W (.refl W) w (.bl _)⟩
  · split at e
    · rename_i h1 h2
      split at e
      · rename_i hs
        cases e
        rw [Bool.and_eq_true] at hs
        exact .inr (.inl ⟨_, _, dp_of w ra h1, dp_of w rb h2, hs.1, hs.2, q _ W (.refl W) w (.bl _)⟩)
      · cases e
    · rename_i h1 h2
      split at e
      · rename_i hs
        cases e
        rw [Bool.and_eq_true] at hs
        exact .inr (.inr ⟨_, _, dp_of w ra h1, dp_of w rb h2, hs.1, hs.2, q _ W (.refl W) w (.bl _)⟩)
      · cases e
    · cases e⟩
def eFrz (i : Nat) : EF := fun δ M => match δ[i]? with
  | some (some (.ref n)) => (match M[n]? with
    | some (.lst ds) => some (.lst ds, M.set n .dead)
    | _ => none)
  | _ => none
theorem DE.frz (j : Nat) {x : Str} {pos : Pos} (hN : ∀ i, (X i).N[j]? = some x := by intro _; rfl) (hv : ∀ i, Vis (X i).env.scope x := by intro _; first | exact Or.inl rfl | exact Or.inr (Or.inl rfl) | exact Or.inr (Or.inr rfl)) (hd : (x == ("__debug__" : Str)) = false := by decide)
    (hcd : (x == ("__classdict__" : Str)) = false := by decide) : DE X K (.Name x pos) (eFrz j) := by
  refine ⟨tVar j, fun i => pe_var (hN i) (hv i) hd hcd, fun σ W δ M d M' Q w s e q => ?_⟩
  unfold eFrz at e
  split at e
  · rename_i n h
    split at e
    · rename_i ds hm
      cases e
      obtain ⟨v, h1, h2⟩ := s.at_ _ _ h
      refine ⟨v, h1, ?_⟩
      cases h2 with
      | ref hi =>
        have lv : Live W M n _ (.lst ds) := ⟨hi, hm, fun z => by cases z⟩
        obtain ⟨_, _, o, ho, ro⟩ := w.live _ _ _ lv
        cases ro with
        | lst r1 => exact q _ (W.frz _ _) (Wd.frz_le w lv) (Wd.frz_ok w lv ho) (.lst upd_same (r1.le (Wd.frz_le w lv)))
    · cases e
  · cases e
def eMeth2 (g : D → List D → Mh → Option (D × Mh)) (f : EF) (a : AF) : EF := fun δ M => match f δ M with
  | some (o, M1) => if (lstOf M1 o).isSome then (match a δ M1 with
    | some (ds, M2) => g o ds M2
    | none => none) else none
  | none => none
def gApp : D → List D → Mh → Option (D × Mh) := fun o ds M => match o, ds with
  | .ref n, [d] => (match M[n]? with
    | some (.lst xs) => if xs.length < sizeLine then some (.non, M.set n (.lst (xs ++ [d]))) else none
    | _ => none)
  | _, _ => none
theorem lst_live {W : Wd} {M : Mh} {x : V} {n : Nat} {xs : List D} (w : W.Ok K M) (r : Rep K W.B W.ι x (.ref n)) (hm : M[n]? = some (.lst xs)) : ∃ a vs, x = .ref a ∧ Live W M n a (.lst xs) ∧ W.H a = some (.lst vs) ∧ RepL K W.B W.ι vs xs := by
  cases r with
  | ref hi =>
    have lv : Live W M n _ (.lst xs) := ⟨hi, hm, fun z => by cases z⟩
    obtain ⟨_, _, o, ho, ro⟩ := w.live _ _ _ lv
    cases ro with
    | lst r1 => exact ⟨_, _, rfl, lv, ho, r1⟩
/-- a method of a list -/
structure MetF (X : I → Cx) (K : PySem.W.Frag) (id : String) (g : D → List D → Mh → Option (D × Mh)) : Prop where
  go : ∃ r : V → List V → Hp → VK → Prop, (∀ i, MtR (X i) id r) ∧ ∀ (W : Wd) (M : Mh) (x : V) (o : D) (vs : List V) (ds : List D) (z : D) (M' : Mh) (Q : VK), W.Ok K M → Rep K W.B W.ι x o → RepL K W.B W.ι vs ds → g o ds M = some (z, M') → VR K W z M' Q → r x vs W.H Q
theorem DE.lmeth (c : Ctx X P w K mg base k) {o e : Expr} {es : List Expr} {name : Str} {id : String} {apos cpos : Pos} {g : D → List D → Mh → Option (D × Mh)} {f : EF} {a : AF} (m : MetF X K id g) (slot : Slot "list" name id) (ty : typeOf (.builtin id) = pure (.type "method_descriptor")) (ho : DE X K o f) (ha : DA X K (e :: es) a)
    (hbase : ∀ i, attributeBase o name (X i).env (eval o (X i).env) = eval o (X i).env := by intro _; rfl)
    (hfew : ∀ i, ((backTo cpos (starEach (e :: es) (X i).env)).all (fun x => !x.1) && (backToKw cpos (keywordEach [] (X i).env)).all (fun x => x.1.isSome) && decide ((e :: es).length + ([] : List Keyword).length + (if ([] : List Keyword).isEmpty then 0 else 1) < 30)) = true := by intro _; rfl)
    (hline : (apos.endLine == cpos.line) = true := by rfl) (hs : ∀ i, starEach (e :: es) (X i).env = (false, eval e (X i).env) :: starEach es (X i).env := by intro _; rfl) (hpl : ∀ i, (backTo cpos (starEach es (X i).env)).any (·.1) = false := by intro _; rfl) :
    DE X K (.Call (.Attribute o name apos) (e :: es) [] cpos) (eMeth2 g f a) := by
  obtain ⟨t, pa, r⟩ := ho.go
  obtain ⟨ta, paa, ra⟩ := ha.go
  obtain ⟨rr, hm, hr⟩ := m.go
  refine ⟨tBM K "list" rr t ta, fun i => ?_, fun σ W δ M d M' Q w s ev q => ?_⟩
  · have h := pe_bm (X := X i) PySem.F.plainAttrs_list slot ty (hm i) (pa i) (paa i) (hbase i) (hfew i) hline (hs i) (hpl i)
    rw [c.K i] at h
    exact h
  · unfold eMeth2 at ev
    split at ev
    · rename_i od M1 h1
      split at ev
      · rename_i hso
        split at ev
        · rename_i ds M2 h2
          obtain ⟨xs, hxs⟩ := Option.isSome_iff_exists.mp hso
          refine r σ W δ M _ _ _ w s h1 fun v W1 l1 w1 r1 => ⟨?_, ?_⟩
          · obtain ⟨l, vs, rfl, s1, _⟩ := lstOf_rep w1 r1 hxs
            exact .inl ⟨rfl, vs, s1⟩
          · exact ra σ W1 δ M1 _ _ _ w1 (s.le l1) h2 fun vs W2 l2 w2 r2 => hr W2 M2 v od vs ds d M' Q w2 (r1.le l2) r2 ev (q.le (l1.trans l2))
        · cases ev
      · cases ev
    · cases ev
theorem mApp : MetF X K "list.append" gApp := ⟨_, fun i => mt_append, fun W M x o vs ds z M' Q w rx rv ev q => by
  unfold gApp at ev
  split at ev
  · split at ev
    · rename_i xs hm
      split at ev
      · rename_i hl
        cases ev
        obtain ⟨p, us, rfl, lv, hp, ru⟩ := lst_live w rx hm
        cases rv with
        | cons ry r3 =>
          cases r3
          refine ⟨p, us, _, rfl, rfl, hp, by rw [ru.len]; exact hl, ?_⟩
          exact q .non (W.put p _) Wd.put_le (Wd.put_ok w lv (.lst (ru.append (.cons ry .nil)))) .non
      · cases ev
    · cases ev
  · cases ev⟩
structure DJ (X : I → Cx) (K : PySem.W.Frag) (es : List Expr) (f : Str → Env → Mh → Option (D × Mh)) : Prop where
  go : ∃ ts : List TE, (∀ i, PJ (X i) es ts) ∧ ∀ (acc : Str) (σ : St) (W : Wd) (δ : Env) (M : Mh) (d : D) (M' : Mh) (Q : VK), W.Ok K M → Slots K W σ δ → f acc δ M = some (d, M') → VR K W d M' Q → tJs ts acc σ W.H (fun out H1 => Q (.str out) H1)
def jNil : Str → Env → Mh → Option (D × Mh) := fun acc _ M => some (.str acc, M)
def jCons (f : EF) (g : Str → Env → Mh → Option (D × Mh)) : Str → Env → Mh → Option (D × Mh) := fun acc δ M => match f δ M with
  | some (.str x, M1) => if (acc ++ x).length ≤ sizeLine then g (acc ++ x) δ M1 else none
  | _ => none
theorem DJ.nil : DJ X K [] jNil := ⟨[], fun i => .nil, fun acc σ W δ M d M' Q w s ev q => by
  cases ev
  exact q _ W (.refl W) w (.str _)⟩
theorem DJ.cons {e : Expr} {es : List Expr} {f : EF} {g : Str → Env → Mh → Option (D × Mh)} (a : DE X K e f) (b : DJ X K es g) : DJ X K (e :: es) (jCons f g) := by
  obtain ⟨t, p, r⟩ := a.go
  obtain ⟨ts, ps, rs⟩ := b.go
  refine ⟨t :: ts, fun i => .cons (p i) (ps i), fun acc σ W δ M d M' Q w s ev q => ?_⟩
  unfold jCons at ev
  split at ev
  · rename_i x M1 h1
    split at ev
    · rename_i hz
      refine r σ W δ M _ _ _ w s h1 fun v W1 l1 w1 r1 => ?_
      cases r1
      exact ⟨x, rfl, hz, rs _ σ W1 δ M1 d M' Q w1 (s.le l1) ev (q.le l1)⟩
    · cases ev
  · cases ev
def aSigns (f : EF) : AF := fun δ M => match f δ M with
  | some (.str x, M1) => some (x.cps.toList.map fun c => .str ⟨#[c]⟩, M1)
  | _ => none
theorem DI.str {tg e : Expr} {f : EF} (h : DE X K e f) : DI X K tg e (aSigns f) := by
  obtain ⟨t, p, r⟩ := h.go
  refine ⟨iStr t, fun i => pi_str (p i), fun σ W δ M ds M' R w s ev q => ?_⟩
  unfold aSigns at ev
  split at ev
  · rename_i x M1 h1
    cases ev
    refine r σ W δ M _ _ _ w s h1 fun v W1 l1 w1 r1 => ?_
    cases r1
    refine ⟨x, rfl, q _ W1 l1 w1 fun i W2 M2 l2 w2 => ⟨fun e => ?_, fun d e => ?_⟩⟩
    · have := List.getElem?_eq_none_iff.mp e
      rw [List.length_map, Array.length_toList] at this
      exact this
    · rw [List.getElem?_map] at e
      cases hc : x.cps.toList[i]? with
      | none =>
        rw [hc] at e
        cases e
      | some c =>
        rw [hc] at e
        cases e
        have hi : i < x.cps.size := by
          have := (List.getElem?_eq_some_iff.mp hc).1
          simpa using this
        refine ⟨hi, fun y H' ⟨e1, c', e2, e3⟩ => ⟨W2, e1.symm, .refl W2, w2, ?_⟩⟩
        have e4 : some c' = some c := by rw [← e2, ← hc]; simp
        cases e4
        subst e3
        exact .str _
  · cases ev
theorem wk_pair {J : It} {W0 : Wd} {ds es : List D} {n : Nat} (hs : ∀ (W : Wd) (M : Mh), W0.Lo W → W.Ok K M → (∀ i, n ≤ i → J.stop i W.H) ∧ ∀ i a b, i < n → ds[i]? = some a → es[i]? = some b → J.go i W.H ∧ ∀ x H', J.yld i W.H x H' → ∃ T x1 x2, x = .ref T ∧ W.H T = none ∧ H' = upd W.H T (.tup [x1, x2]) ∧ Rep K W.B W.ι x1 a ∧ Rep K W.B W.ι x2 b)
    (h1 : n ≤ ds.length) (h2 : n ≤ es.length) (hn : n = min ds.length es.length) : Wk K J W0 ((ds.zip es).map fun p => .tup [p.1, p.2]) := fun i W M l w => by
  obtain ⟨hst, hgo⟩ := hs W M l w
  refine ⟨fun e => ?_, fun d e => ?_⟩
  · have := List.getElem?_eq_none_iff.mp e
    rw [List.length_map, List.length_zip] at this
    exact hst i (by omega)
  · rw [List.getElem?_map] at e
    cases hz : (ds.zip es)[i]? with
    | none =>
      rw [hz] at e
      cases e
    | some p =>
      rw [hz] at e
      cases e
      obtain ⟨a1, a2⟩ := List.getElem?_zip_eq_some.mp hz
      have hi : i < n := by
        have := (List.getElem?_eq_some_iff.mp hz).1
        rw [List.length_zip] at this
        omega
      obtain ⟨g1, g2⟩ := hgo i _ _ hi a1 a2
      refine ⟨g1, fun x H' y => ?_⟩
      obtain ⟨T, x1, x2, rfl, hT, rfl, r1, r2⟩ := g2 x H' y
      obtain ⟨l2, w2, r3⟩ := lay_tup w hT (.cons r1 (.cons r2 .nil))
      exact ⟨_, rfl, l2, w2, r3⟩
def aEnum (a : AF) : AF := fun δ M => match a δ M with
  | some ([.lst xs], M1) => some ((((List.range xs.length).map fun (i : Nat) => D.int i).zip xs).map fun p => .tup [p.1, p.2], M1)
  | some ([.lsk xs], M1) => some ((((List.range xs.length).map fun (i : Nat) => D.int i).zip xs).map fun p => .tup [p.1, p.2], M1)
  | _ => none
theorem wk_enum {W0 : Wd} {a : Addr} {vs : List V} {ds : List D} (h : SqL K W0.B a vs) (r : RepL K W0.B W0.ι vs ds) : Wk K (Ite K a) W0 ((((List.range ds.length).map fun (i : Nat) => D.int i).zip ds).map fun p => .tup [p.1, p.2]) := by
  refine wk_pair (n := ds.length) (fun W M l w => ⟨fun i hi => ?_, fun i d1 d2 hi e1 e2 => ?_⟩) (by simp) (Nat.le_refl _) (by simp)
  · exact ⟨vs, sqL_mono w.sub (sqL_mono l.same h), by rw [r.len]; exact hi⟩
  · have hs : SqL K W.H a vs := sqL_mono w.sub (sqL_mono l.same h)
    obtain ⟨v, h1, h2⟩ := (r.mono l.same l.ix).get e2
    refine ⟨⟨vs, v, hs, h1⟩, fun x H' ⟨T, x2, a1, a2, a3, a4⟩ => ⟨T, _, x2, a1, a2, a3, ?_, ?_⟩⟩
    · rw [List.getElem?_map, List.getElem?_range hi] at e1
      cases e1
      exact .int _
    · have e3 := (a4 vs hs).symm.trans h1
      cases e3
      exact h2
theorem DI.enum (c : Ctx X P w K mg base k) (hm : mg "enumerate" = none) {e : Expr} {p pos tpos : Pos} {elts : List Expr} {kk : Nat} {a : AF} (h : DA X K [e] a) (hg : ∀ i, Gl (X i) "enumerate" := by intro _; rfl) (hs : ∀ i, starEach [e] (X i).env = [(false, eval e (X i).env)] := by intro _; rfl) :
    DI X K (.Tuple elts kk tpos) (.Call (.Name "enumerate" p) [e] [] pos) (aEnum a) := by
  obtain ⟨t, pa, r⟩ := h.go
  refine ⟨iEnum K t, fun i => ?_, fun σ W δ M ds M' R w s ev q => ?_⟩
  · have h := pi_enum (X := X i) (hg i) (by rw [c.mg i]; exact hm) (pa i) (hs i) (p := p) (pos := pos) (tpos := tpos) (elts := elts) (kk := kk)
    rw [c.K i] at h
    exact h
  · unfold aEnum at ev
    split at ev
    · rename_i xs M1 h1
      cases ev
      refine r σ W δ M _ _ _ w s h1 fun vs W1 l1 w1 r1 => ?_
      cases r1 with
      | cons r1 r2 =>
        cases r2
        cases r1 with
        | lst h1 r1 => exact ⟨_, _, rfl, .inl (.inl (w1.sub _ _ h1)), q _ W1 l1 w1 (wk_enum (.inl (.inl h1)) r1)⟩
    · rename_i xs M1 h1
      cases ev
      refine r σ W δ M _ _ _ w s h1 fun vs W1 l1 w1 r1 => ?_
      cases r1 with
      | cons r1 r2 =>
        cases r2
        cases r1 with
        | lsk h1 r1 => exact ⟨_, _, rfl, sqL_mono w1.sub h1, q _ W1 l1 w1 (wk_enum h1 r1)⟩
    · cases ev
def aZip (a : AF) : AF := fun δ M => match a δ M with
  | some ([.lst xs, .lst ys], M1) => some ((xs.zip ys).map fun p => .tup [p.1, p.2], M1)
  | some ([.tup xs, .tup ys], M1) => some ((xs.zip ys).map fun p => .tup [p.1, p.2], M1)
  | _ => none
theorem wk_zip {W0 : Wd} {a b : Addr} {vs us : List V} {ds es : List D} (h : SqL K W0.B a vs) (r : RepL K W0.B W0.ι vs ds) (h' : SqL K W0.B b us) (r' : RepL K W0.B W0.ι us es) : Wk K (Itz K a b) W0 ((ds.zip es).map fun p => .tup [p.1, p.2]) := by
  refine wk_pair (n := min ds.length es.length) (fun W M l w => ⟨fun i hi => ?_, fun i d1 d2 hi e1 e2 => ?_⟩) (Nat.min_le_left _ _) (Nat.min_le_right _ _) rfl
  · exact ⟨vs, us, sqL_mono w.sub (sqL_mono l.same h), sqL_mono w.sub (sqL_mono l.same h'), by rw [r.len, r'.len]; omega⟩
  · have hs : SqL K W.H a vs := sqL_mono w.sub (sqL_mono l.same h)
    have hs' : SqL K W.H b us := sqL_mono w.sub (sqL_mono l.same h')
    obtain ⟨v, h1, h2⟩ := (r.mono l.same l.ix).get e1
    obtain ⟨u, h3, h4⟩ := (r'.mono l.same l.ix).get e2
    refine ⟨⟨vs, us, v, u, hs, hs', h1, h3⟩, fun x H' ⟨T, x1, x2, a1, a2, a3, a4, a5⟩ => ⟨T, x1, x2, a1, a2, a3, ?_, ?_⟩⟩
    · have e3 := (a4 vs hs).symm.trans h1
      cases e3
      exact h2
    · have e3 := (a5 us hs').symm.trans h3
      cases e3
      exact h4
theorem wk_zipT {W0 : Wd} {a b : Addr} {vs us : List V} {ds es : List D} (h : SqT K W0.B a vs) (r : RepL K W0.B W0.ι vs ds) (h' : SqT K W0.B b us) (r' : RepL K W0.B W0.ι us es) : Wk K (RZ.ItzT K a b) W0 ((ds.zip es).map fun p => .tup [p.1, p.2]) := by
  refine wk_pair (n := min ds.length es.length) (fun W M l w => ⟨fun i hi => ?_, fun i d1 d2 hi e1 e2 => ?_⟩) (Nat.min_le_left _ _) (Nat.min_le_right _ _) rfl
  · exact ⟨vs, us, sqT_mono w.sub (sqT_mono l.same h), sqT_mono w.sub (sqT_mono l.same h'), by rw [r.len, r'.len]; omega⟩
  · have hs : SqT K W.H a vs := sqT_mono w.sub (sqT_mono l.same h)
    have hs' : SqT K W.H b us := sqT_mono w.sub (sqT_mono l.same h')
    obtain ⟨v, h1, h2⟩ := (r.mono l.same l.ix).get e1
    obtain ⟨u, h3, h4⟩ := (r'.mono l.same l.ix).get e2
    refine ⟨⟨vs, us, v, u, hs, hs', h1, h3⟩, fun x H' ⟨T, x1, x2, a1, a2, a3, a4, a5⟩ => ⟨T, x1, x2, a1, a2, a3, ?_, ?_⟩⟩
    · have e3 := (a4 vs hs).symm.trans h1
      cases e3
      exact h2
    · have e3 := (a5 us hs').symm.trans h3
      cases e3
      exact h4
theorem DI.zip (c : Ctx X P w K mg base k) (hm : mg "zip" = none) {e e2 : Expr} {p pos tpos : Pos} {elts : List Expr} {kk : Nat} {a : AF} (h : DA X K [e, e2] a) (hg : ∀ i, Gl (X i) "zip" := by intro _; rfl) (hs : ∀ i, starEach [e, e2] (X i).env = (false, eval e (X i).env) :: starEach [e2] (X i).env := by intro _; rfl) (hpl : ∀ i, (backTo pos (starEach [e2] (X i).env)).any (·.1) = false := by intro _; rfl) :
    DI X K (.Tuple elts kk tpos) (.Call (.Name "zip" p) [e, e2] [] pos) (aZip a) := by
  obtain ⟨t, pa, r⟩ := h.go
  refine ⟨RZ.iZipA K t, fun i => ?_, fun σ W δ M ds M' R w s ev q => ?_⟩
  · have h := RZ.pi_zipA (X := X i) (hg i) (by rw [c.mg i]; exact hm) (pa i) (hs i) (hpl i) (p := p) (pos := pos) (tpos := tpos) (elts := elts) (kk := kk)
    rw [c.K i] at h
    exact h
  · unfold aZip at ev
    split at ev
    · rename_i xs ys M1 h1
      cases ev
      refine r σ W δ M _ _ _ w s h1 fun vs W1 l1 w1 r1 => ?_
      cases r1 with
      | cons r1 r2 =>
        cases r2 with
        | cons r2 r3 =>
          cases r3
          cases r1 with
          | lst h1 r1 =>
            cases r2 with
            | lst h2 r2 => exact ⟨_, _, _, _, rfl, .inl ⟨.inl (.inl (w1.sub _ _ h1)), .inl (.inl (w1.sub _ _ h2)), q _ W1 l1 w1 (wk_zip (.inl (.inl h1)) r1 (.inl (.inl h2)) r2)⟩⟩
    · rename_i xs ys M1 h1
      cases ev
      refine r σ W δ M _ _ _ w s h1 fun vs W1 l1 w1 r1 => ?_
      cases r1 with
      | cons r1 r2 =>
        cases r2 with
        | cons r2 r3 =>
          cases r3
          cases r1 with
          | tup h1 r1 =>
            cases r2 with
            | tup h2 r2 => exact ⟨_, _, _, _, rfl, .inr ⟨sqT_mono w1.sub h1, sqT_mono w1.sub h2, q _ W1 l1 w1 (wk_zipT h1 r1 h2 r2)⟩⟩
    · cases ev
end
end Pl
namespace Pl
open PySem L2
section
variable {I : Type} {X : I → Cx} {P : Program} {w : World} {K : PySem.W.Frag} {mg : Str → Option Value} {base : Heap} {k : Nat}
/-- what is never reached -/
def sNever : SF := fun _ _ => none
theorem DS.never {s : Stmt} : DS X K s sNever := ⟨tNever, fun i => ps_never, fun σ W δ M o E w s e q => by cases e⟩
theorem DB.never {s : List Stmt} : DB X K s sNever := ⟨tNever, fun i => pss_never, fun σ W δ M o E w s e q => by cases e⟩
def dget (kvs : List (Key × D)) (q : Key) : Option D := (kvs.find? fun kv => decide (kv.1 = q)).map (·.2)
def dput (kvs : List (Key × D)) (q : Key) (v : D) : List (Key × D) :=
  if (kvs.any fun kv => decide (kv.1 = q)) = true then kvs.map (fun kv => if kv.1 = q then (kv.1, v) else kv) else kvs ++ [(q, v)]
def dmerge (kvs : List (Key × D)) : List (Key × D) := kvs.foldl (fun acc kv => dput acc kv.1 kv.2) []
section
variable {B : Hp} {ι : List Addr}
theorem RepK.len : ∀ {vs : List (Key × V)} {ds : List (Key × D)}, RepK K B ι vs ds → vs.length = ds.length
  | _, _, .nil => rfl
  | _, _, .cons _ r => congrArg (· + 1) r.len
theorem RepK.any (q : Key) : ∀ {vs : List (Key × V)} {ds : List (Key × D)}, RepK K B ι vs ds → (vs.any fun kv => decide (kv.1 = q)) = (ds.any fun kv => decide (kv.1 = q))
  | _, _, .nil => rfl
  | _, _, .cons _ r => by
    rw [List.any_cons, List.any_cons, r.any]
theorem RepK.get (q : Key) : ∀ {vs : List (Key × V)} {ds : List (Key × D)}, RepK K B ι vs ds → (dget ds q = none → valV vs q = none) ∧ ∀ d, dget ds q = some d → ∃ v, valV vs q = some v ∧ Rep K B ι v d
  | _, _, .nil => ⟨fun _ => rfl, fun d e => by cases e⟩
  | _, _, .cons (k := k0) (v := v0) (d := d0) r0 r => by
    obtain ⟨h1, h2⟩ := r.get q
    by_cases e : k0 = q
    · refine ⟨fun h => ?_, fun d h => ?_⟩
      · simp [dget, List.find?_cons, e] at h
      · simp [dget, List.find?_cons, e] at h
        subst h
        exact ⟨v0, valV_pos e, r0⟩
    · have e1 : ∀ rest : List (Key × D), dget ((k0, d0) :: rest) q = dget rest q := fun rest => by simp [dget, List.find?_cons, e]
      refine ⟨fun h => ?_, fun d h => ?_⟩
      · rw [e1] at h
        rw [valV_neg e]
        exact h1 h
      · rw [e1] at h
        rw [valV_neg e]
        exact h2 d h
theorem RepK.append : ∀ {vs us : List (Key × V)} {ds es : List (Key × D)}, RepK K B ι vs ds → RepK K B ι us es → RepK K B ι (vs ++ us) (ds ++ es)
  | _, _, _, _, .nil, s => s
  | _, _, _, _, .cons r t, s => .cons r (t.append s)
theorem RepK.map_put (q : Key) {v : V} {d : D} (rv : Rep K B ι v d) : ∀ {vs : List (Key × V)} {ds : List (Key × D)}, RepK K B ι vs ds → RepK K B ι (vs.map fun kv => if kv.1 = q then (kv.1, v) else kv) (ds.map fun kv => if kv.1 = q then (kv.1, d) else kv)
  | _, _, .nil => .nil
  | _, _, .cons (k := k0) r0 r => by
    have ih := RepK.map_put q rv r
    rw [List.map_cons, List.map_cons]
    by_cases e : k0 = q
    · simp only [e, if_true]
      exact .cons rv ih
    · simp only [e, if_false]
      exact .cons r0 ih
theorem RepK.put (q : Key) {v : V} {d : D} (rv : Rep K B ι v d) {vs : List (Key × V)} {ds : List (Key × D)} (r : RepK K B ι vs ds) : RepK K B ι (putK vs q v) (dput ds q d) := by
  unfold putK dput
  rw [r.any q]
  split
  · exact r.map_put q rv
  · exact r.append (.cons rv .nil)
theorem RepK.merge {vs : List (Key × V)} {ds : List (Key × D)} (r : RepK K B ι vs ds) : RepK K B ι (mergeK [] vs) (dmerge ds) := by
  unfold mergeK dmerge
  have h : ∀ {a : List (Key × V)} {b : List (Key × D)}, RepK K B ι a b → RepK K B ι (vs.foldl (fun acc kv => putK acc kv.1 kv.2) a) (ds.foldl (fun acc kv => dput acc kv.1 kv.2) b) := by
    induction r with
    | nil => exact fun h => h
    | @cons k0 v0 d0 vs ds r0 r ih => exact fun h => ih (h.put k0 r0)
  exact h .nil
end
def keyOf : D → Option Key
  | .int i => some (.inl i)
  | .str x => some (.inr x)
  | _ => none
theorem keyOf_rep {B : Hp} {ι : List Addr} {v : V} {d : D} {q : Key} (r : Rep K B ι v d) (h : keyOf d = some q) : v = kV q := by
  cases r <;> cases h <;> rfl
def dicOf (M : Mh) : D → Option (List (Key × D))
  | .ref n => (match M[n]? with
    | some (.dic kvs) => some kvs
    | _ => none)
  | _ => none
theorem dicOf_rep {W : Wd} {M : Mh} {x : V} {d : D} {kvs : List (Key × D)} (w : W.Ok K M) (r : Rep K W.B W.ι x d) (h : dicOf M d = some kvs) : ∃ a n vs, d = .ref n ∧ x = .ref a ∧ Live W M n a (.dic kvs) ∧ W.H a = some (.dK vs) ∧ RepK K W.B W.ι vs kvs := by
  unfold dicOf at h
  split at h
  · split at h
    · rename_i hm
      cases h
      cases r with
      | ref hi =>
        have lv : Live W M _ _ (.dic kvs) := ⟨hi, hm, fun z => by cases z⟩
        obtain ⟨_, _, o, ho, ro⟩ := w.live _ _ _ lv
        cases ro with
        | dic r1 => exact ⟨_, _, _, rfl, rfl, lv, ho, r1⟩
    · cases h
  · cases h
def gDget : O2 := fun a b M => match dicOf M a, keyOf b with
  | some kvs, some q => (dget kvs q).map fun d => (d, M)
  | _, _ => none
theorem hu1 {A : Around} {j : Nat} (r : Room j A) : A.units + 1 < cLine := by
  have := r.un
  omega
theorem DE.dgt (c : Ctx X P w K mg base k) {a b : Expr} {pos} {f g : EF} (ha : DE X K a f) (hb : DE X K b g) (hs : NoSl b := by exact fun _ _ => rfl) : DE X K (.Subscript a b pos) (eOp gDget f g) := by
  obtain ⟨ta, pa, ra⟩ := ha.go
  obtain ⟨tb, pb, rb⟩ := hb.go
  refine ⟨tDGet ta tb, fun i => pe_dget (hu1 (c.room i)) (pa i) (pb i) hs, fun σ W δ M d M' Q w s e q => ?_⟩
  unfold eOp at e
  split at e
  · rename_i a' M1 h1
    split at e
    · rename_i b' M2 h2
      refine ra σ W δ M a' M1 _ w s h1 fun x W1 l1 w1 r1 => ?_
      refine rb σ W1 δ M1 b' M2 _ w1 (s.le l1) h2 fun y W2 l2 w2 r2 => ?_
      unfold gDget at e
      split at e
      · rename_i kvs q0 h3 h4
        obtain ⟨p, n, vs, _, rfl, lv, hp, rk⟩ := dicOf_rep w2 (r1.le l2) h3
        have ey := keyOf_rep r2 h4
        subst ey
        cases hd : Pl.dget kvs q0 with
        | none =>
          rw [hd] at e
          cases e
        | some d0 =>
          rw [hd] at e
          cases e
          obtain ⟨v, hv, rv⟩ := (rk.get q0).2 _ hd
          exact ⟨p, v, rfl, by rw [← hv]; exact DGet.k hp, q v W2 (l1.trans l2) w2 rv⟩
      · cases e
    · cases e
  · cases e
def gDput (a b v : D) (M : Mh) : Option Mh := match a with
  | .ref n => (match M[n]?, keyOf b with
    | some (.dic kvs), some q => if kvs.length < sizeLine then some (M.set n (.dic (dput kvs q v))) else none
    | _, _ => none)
  | _ => none
def sDput (f g h : EF) : SF := fun δ M => match h δ M with
  | some (v, M1) => (match f δ M1 with
    | some (a, M2) => (match g δ M2 with
      | some (b, M3) => (match gDput a b v M3 with
        | some M4 => some (.nx δ M4)
        | none => none)
      | none => none)
    | none => none)
  | none => none
theorem DS.dput (c : Ctx X P w K mg base k) {o i v : Expr} {pos pos'} {f g h : EF} (ho : DE X K o f) (hi : DE X K i g) (hv : DE X K v h) (hs : ∀ j, swapsWith v (some (.Subscript o i pos')) pos.line (X j).env = pure false := by intro _; rfl) :
    DS X K (.Assign [.Subscript o i pos'] v pos) (sDput f g h) := by
  obtain ⟨to, po, ro⟩ := ho.go
  obtain ⟨ti, pi, ri⟩ := hi.go
  obtain ⟨tv, pv', rv⟩ := hv.go
  refine ⟨sDPut to ti tv, fun j => ps_dput (hu1 (c.room j)) (po j) (pi j) (pv' j) (hs j), fun σ W δ M out E w s e q => ?_⟩
  unfold sDput at e
  split at e
  · rename_i vd M1 h1
    split at e
    · rename_i od M2 h2
      split at e
      · rename_i id M3 h3
        split at e
        · rename_i M4 h4
          cases e
          refine rv σ W δ M vd M1 _ w s h1 fun v W1 l1 w1 r1 => ?_
          refine ro σ W1 δ M1 od M2 _ w1 (s.le l1) h2 fun x W2 l2 w2 r2 => ?_
          refine ri σ W2 δ M2 id M3 _ w2 (s.le (l1.trans l2)) h3 fun y W3 l3 w3 r3 => ?_
          unfold gDput at h4
          split at h4
          · rename_i n
            split at h4
            · rename_i kvs q0 h5 h6
              split at h4
              · rename_i hl
                cases h4
                obtain ⟨p, n', vs, en, rfl, lv, hp, rk⟩ := dicOf_rep (kvs := kvs) w3 (r2.le l3) (by unfold dicOf; dsimp only; rw [h5])
                cases en
                have ey := keyOf_rep r3 h6
                subst ey
                refine ⟨p, _, rfl, DPut.k hp (by rw [rk.len]; exact hl), ?_⟩
                have l13 := (l1.trans l2).trans l3
                exact q σ (W3.put p _) (l13.trans Wd.put_le) (Wd.put_ok w3 lv (.dic (rk.put q0 (r1.le (l2.trans l3))))) (s.le (l13.trans Wd.put_le))
              · cases h4
            · cases h4
          · cases h4
        · cases e
      · cases e
    · cases e
  · cases e
/-- pairs of a display -/
structure DPs (X : I → Cx) (K : PySem.W.Frag) (pos : Pos) (keys : List (Option Expr)) (values : List Expr) (f : Env → Mh → Option (List (Key × D) × Mh)) : Prop where
  go : ∃ trs : List (TE × TE), (∀ i, PPs (X i) pos keys values trs) ∧ ∀ (σ : St) (W : Wd) (δ : Env) (M : Mh) (kvs : List (Key × D)) (M' : Mh) (Q : List (V × V) → Hp → Prop), W.Ok K M → Slots K W σ δ → f δ M = some (kvs, M') →
    (∀ vs W', W.Le W' → W'.Ok K M' → RepK K W'.B W'.ι vs kvs → Q (vs.map fun kv => (kV kv.1, kv.2)) W'.H) → tPairs trs σ W.H Q
def psNil : Env → Mh → Option (List (Key × D) × Mh) := fun _ M => some ([], M)
def psCons (f g : EF) (h : Env → Mh → Option (List (Key × D) × Mh)) : Env → Mh → Option (List (Key × D) × Mh) := fun δ M => match f δ M with
  | some (a, M1) => (match g δ M1 with
    | some (v, M2) => (match keyOf a with
      | some q => (match h δ M2 with
        | some (r, M3) => some ((q, v) :: r, M3)
        | none => none)
      | none => none)
    | none => none)
  | none => none
theorem DPs.nil {pos : Pos} : DPs X K pos [] [] psNil := ⟨[], fun i => pps_nil, fun σ W δ M kvs M' Q w s e q => by
  cases e
  exact q [] W (.refl W) w .nil⟩
theorem DPs.cons {pos : Pos} {a v : Expr} {ks : List (Option Expr)} {vs : List Expr} {f g : EF} {h : Env → Mh → Option (List (Key × D) × Mh)} (ha : DE X K a f) (hv : DE X K v g) (hr : DPs X K pos ks vs h) : DPs X K pos (some a :: ks) (v :: vs) (psCons f g h) := by
  obtain ⟨ta, pa, ra⟩ := ha.go
  obtain ⟨tv, pv', rv⟩ := hv.go
  obtain ⟨ts, ps, rs⟩ := hr.go
  refine ⟨(ta, tv) :: ts, fun i => pps_cons (pa i) (pv' i) (ps i), fun σ W δ M kvs M' Q w s e q => ?_⟩
  unfold psCons at e
  split at e
  · rename_i ad M1 h1
    split at e
    · rename_i vd M2 h2
      split at e
      · rename_i q0 h3
        split at e
        · rename_i r M3 h4
          cases e
          refine ra σ W δ M _ _ _ w s h1 fun x W1 l1 w1 r1 => ?_
          refine rv σ W1 δ M1 _ _ _ w1 (s.le l1) h2 fun y W2 l2 w2 r2 => ?_
          refine rs σ W2 δ M2 _ _ _ w2 (s.le (l1.trans l2)) h4 fun us W3 l3 w3 r3 => ?_
          have ex := keyOf_rep r1 h3
          subst ex
          exact q ((q0, y) :: us) W3 ((l1.trans l2).trans l3) w3 (.cons (r2.le l3) r3)
        · cases e
      · cases e
    · cases e
  · cases e
def eDic (h : Env → Mh → Option (List (Key × D) × Mh)) : EF := fun δ M => match h δ M with
  | some (kvs, M1) => if kvs.length ≤ 15 then some (.ref M1.length, M1 ++ [.dic (dmerge kvs)]) else none
  | none => none
theorem Wd.unhold_new {W : Wd} {M : Mh} {p : Addr} {o o' : HO} {m : MO} {P0 : Hp} (w : W.Ok K M) (hP : W.P = upd P0 p o) (h0 : P0 p = none) (r : RepO K W.B W.ι p o' m) : (⟨upd W.H p o', W.B, W.ι ++ [p], P0⟩ : Wd).Ok K (M ++ [m]) := by
  have hp : W.P p = some o := by rw [hP, upd_same]
  have bp := w.pin p o hp
  have ne : ∀ {n a u}, Live W M n a u → a ≠ p := fun {n a u} h e => by
    obtain ⟨_, q, _⟩ := w.live n a u h
    rw [e, hp] at q
    cases q
  have lv : ∀ n a u, Live (⟨upd W.H p o', W.B, W.ι ++ [p], P0⟩ : Wd) (M ++ [m]) n a u → Live W M n a u ∨ (n = M.length ∧ a = p ∧ u = m) := fun n a u h => by
    obtain ⟨h1, h2, h3⟩ := h
    have h1' : (W.ι ++ [p])[n]? = some a := h1
    by_cases hn : n < M.length
    · rw [List.getElem?_append_left (by rw [w.len]; exact hn)] at h1'
      rw [List.getElem?_append_left hn] at h2
      exact .inl ⟨h1', h2, h3⟩
    · have e : n = M.length := by
        have := (List.getElem?_eq_some_iff.mp h2).1
        rw [List.length_append] at this
        simp at this
        omega
      subst e
      rw [List.getElem?_append_right (by rw [w.len]; exact Nat.le_refl _), w.len] at h1'
      rw [List.getElem?_append_right (Nat.le_refl _)] at h2
      simp at h1' h2
      exact .inr ⟨rfl, h1'.symm, h2.symm⟩
  have ln : ∀ {n a u}, Live W M n a u → n < M.length := fun {n a u} h => (List.getElem?_eq_some_iff.mp h.2.1).1
  have ix : ∀ (n : Nat) (c : Addr), W.ι[n]? = some c → (W.ι ++ [p])[n]? = some c := fun n c h => by
    rw [List.getElem?_append_left (List.getElem?_eq_some_iff.mp h).1]
    exact h
  refine ⟨fun a u h => ?_, fun a u h => ?_, ?_, fun n a u h => ?_, fun n j a u v h g => ?_⟩
  · exact (upd_ne (fun e => by
      rw [e] at h
      have h' : W.B p = some u := h
      rw [bp.2] at h'
      cases h')).trans (w.sub a u h)
  · have h' : P0 a = some u := h
    have e : a ≠ p := fun e => by
      rw [e, h0] at h'
      cases h'
    have q := w.pin a u (by rw [hP, upd_ne e]; exact h')
    exact ⟨(upd_ne e).trans q.1, q.2⟩
  · show (W.ι ++ [p]).length = _
    simp [w.len]
  · rcases lv n a u h with h | ⟨_, rfl, rfl⟩
    · obtain ⟨h1, h2, g, h3, h4⟩ := w.live n a u h
      have e := ne h
      rw [hP, upd_ne e] at h2
      exact ⟨h1, h2, g, (upd_ne e).trans h3, h4.mono (fun _ _ q => q) ix⟩
    · exact ⟨bp.2, h0, o', upd_same, r.mono (fun _ _ q => q) ix⟩
  · rcases lv n a u h with h | ⟨h1, h2, h3⟩
    · rcases lv j a v g with g | ⟨g1, g2, g3⟩
      · exact w.inj n j a u v h g
      · exact absurd g2 (ne h)
    · rcases lv j a v g with g | ⟨g1, g2, g3⟩
      · exact absurd h2 (ne g)
      · omega
theorem DE.dic {pos : Pos} {keys : List (Option Expr)} {values : List Expr} {h : Env → Mh → Option (List (Key × D) × Mh)} (hp : DPs X K pos keys values h) (hall : keys.all (·.isSome) = true := by rfl) (hl : keys.length = values.length := by rfl) (h0 : keys ≠ [] := by exact fun z => nomatch z)
    (h15 : keys.length ≤ 15 := by decide) : DE X K (.Dict keys values pos) (eDic h) := by
  obtain ⟨ts, ps, rs⟩ := hp.go
  refine ⟨tDisp ts, fun i => pe_disp (ps i) hall hl h0 h15, fun σ W δ M d M' Q w s e q => fun p hp => ?_⟩
  unfold eDic at e
  split at e
  · rename_i kvs M1 h1
    split at e
    · rename_i hlen
      cases e
      have P0 := w.pnone hp
      have B0 := w.bnone hp
      refine rs σ (W.hold p (.dK [])) δ M kvs M1 _ (Wd.hold_ok w hp) (s.cong rfl rfl) h1 fun vs W1 l1 w1 r1 => ?_
      have hP : W1.P = upd W.P p (.dK []) := l1.pp
      refine ⟨(w1.pin p _ (by rw [hP, upd_same])).1, vs, rfl, by rw [r1.len]; exact hlen, ?_⟩
      have w2 := Wd.unhold_new w1 hP P0 (.dic r1.merge)
      refine q (.ref p) ⟨upd W1.H p (.dK (mergeK [] vs)), W1.B, W1.ι ++ [p], W.P⟩ ⟨l1.same, ?_, rfl⟩ w2 (.ref ?_)
      · obtain ⟨l, hl⟩ := l1.pre
        exact ⟨l ++ [p], by
          show W1.ι ++ [p] = _
          rw [hl]
          show W.ι ++ l ++ [p] = _
          rw [List.append_assoc]⟩
      · show (W1.ι ++ [p])[M1.length]? = some p
        rw [← w1.len]
        simp
    · cases e
  · cases e
end
end Pl
namespace Pl
open PySem L2
open PyProof.Rows (IntsAre AllBare)
theorem ints_rep {K : PySem.W.Frag} {B : Hp} {ι : List Addr} : ∀ ns : List Int, RepL K B ι (ns.map V.int) (ns.map D.int)
  | [] => .nil
  | n :: ns => .cons (.int n) (ints_rep ns)
/-- a def as it is called -/
structure Lk (P : Program) (w : World) (K : PySem.W.Frag) (mg : Str → Option Value) (base : Heap) (x : Str) (k : Nat) (ps : List Str) (F : Fn) : Prop where
  go : ∃ (f : Addr) (fd : FuncData), DFn P w K mg base k f fd ps F ∧ mg x = some (.ref f) ∧ PySem.W.keepIn K (.ref f) = true ∧ Binds K fd ps []
/-- a name of the module -/
def GV (K : PySem.W.Frag) (mg : Str → Option Value) (x : Str) (d : D) : Prop := ∃ v u, mg x = some u ∧ RelV v u ∧ ∀ B ι, Rep K B ι v d
section
variable {I : Type} {X : I → Cx} {P : Program} {w : World} {K : PySem.W.Frag} {mg : Str → Option Value} {base : Heap} {k : Nat}
theorem DE.gv (c : Ctx X P w K mg base k) {x : Str} {pos : Pos} {d : D} (h : GV K mg x d) (hg : ∀ i, Gl (X i) x := by intro _; rfl) (hd : (x == ("__debug__" : Str)) = false := by decide) : DE X K (.Name x pos) (eC d) := by
  obtain ⟨v, u, h1, h2, h3⟩ := h
  exact DE.glob c h1 h2 h3 hg hd
theorem DE.cl (c : Ctx X P w K mg base k) {x : Str} {p pos : Pos} {e : Expr} {es : List Expr} {g : AF} {ps : List Str} {F : Fn} {kf : Nat} (h : Lk P w K mg base x kf ps F) (hk : kf ≤ k) (hn : (e :: es).length = ps.length) (ha : DA X K (e :: es) g) (hlen : ∀ δ M ds M', g δ M = some (ds, M') → ds.length = (e :: es).length) (hg : ∀ i, Gl (X i) x := by intro _; rfl)
    (hdbg : (x == ("__debug__" : Str)) = false := by decide) (he : ∀ i, starEach (e :: es) (X i).env = (false, eval e (X i).env) :: starEach es (X i).env := by intro _; rfl) (hpl : ∀ i, (backTo pos (starEach es (X i).env)).any (·.1) = false := by intro _; rfl) :
    DE X K (.Call (.Name x p) (e :: es) [] pos) (eCall F g []) := by
  obtain ⟨f, fd, h1, h2, h3, h4⟩ := h.go
  exact DE.call c h1 hk h2 h3 h4 .nil (fun _ _ => .nil) hn ha hlen hg hdbg he hpl
end
end Pl
namespace Pl
open PySem L2
section
variable {I : Type} {X : I → Cx} {P : Program} {w : World} {K : PySem.W.Frag} {mg : Str → Option Value} {base : Heap} {k : Nat}
def reprOk (p : PyData) : Bool := p.showable && SeqAt.shaped p && !p.hasDict && decide (p.shown.length ≤ sizeLine)
def rReprD (K : PySem.W.Frag) (xs : List V) (H : Hp) (Q : VK) : Prop := ∃ x p, xs = [x] ∧ Dp K H x p ∧ reprOk p = true ∧ Q (.str p.shown) H
theorem call_reprD {Y : Cx} (hu : Y.A.units + 66 < cLine) (hg : Y.A.guards = some []) : CallR Y (.builtin "repr") (rReprD Y.K) := fun pins s σ H xs us Q J hv h => by
  obtain ⟨x, p, rfl, hp, ok, q⟩ := h
  simp only [reprOk, Bool.and_eq_true, Bool.not_eq_true', decide_eq_true_eq] at ok
  obtain ⟨⟨⟨sh, sp⟩, nd⟩, ln⟩ := ok
  cases hv with
  | cons hx hv =>
    cases hv
    have dp := SeqAt.depth_of_shaped sp
    have same : ∀ (h' : Heap) (t : Nat), (∀ b o, s.heap.get? b = some o → h'.get? b = some o) → L2.Inv Y pins σ H { heap := h', gens := s.gens, drawn := s.drawn, toks := t, os := s.os } := fun h' t kp => J.turnedL (ch := []) (fun b o _ e => kp b o e) (fun b hb => nomatch hb)
    obtain ⟨as, rd⟩ := Dp.reads J p x _ hp hx
    cases hp with
    | non =>
      cases hx
      exact P.repr_of_none ⟨.str _, H, same _ _ fun _ _ e => e, ⟨_, rfl⟩, q⟩
    | bl b =>
      cases hx
      refine P.repr_of_bool ⟨.str _, H, same _ _ fun _ _ e => e, ⟨_, rfl⟩, ?_⟩
      rw [PyData.shown] at q
      exact q
    | int i =>
      obtain ⟨t, rfl⟩ := hx
      refine P.repr_of_int ?_ ⟨.str _, H, same _ _ fun _ _ e => e, ⟨_, rfl⟩, ?_⟩
      · rw [PyData.showable] at sh
        simpa using sh
      · rw [PyData.shown] at q
        exact q
    | str y =>
      obtain ⟨t, rfl⟩ := hx
      rw [PyData.shown] at q ln
      exact P.repr_of_str ⟨.str _, H, same _ _ fun _ _ e => e, ⟨_, rfl⟩, q⟩ ln
    | lst h1 h2 =>
      cases hx
      exact repr_of_reads' rd sh (fun z => by rw [nd] at z; cases z) hg (by omega) (fun _ _ e => e) (fun h' u tk kp => ⟨.str _, H, same h' tk kp, ⟨_, rfl⟩, q⟩) ln
    | tup h1 h2 =>
      cases hx
      exact repr_of_reads' rd sh (fun z => by rw [nd] at z; cases z) hg (by omega) (fun _ _ e => e) (fun h' u tk kp => ⟨.str _, H, same h' tk kp, ⟨_, rfl⟩, q⟩) ln
def gRepr : GL := fun ds M => match ds with
  | [d] => (match toP (deref M d) with
    | some p => if reprOk p then some (.str p.shown, M) else none
    | none => none)
  | _ => none
theorem cRepr (c : Ctx X P w K mg base k) : CalF X K (.builtin "repr") gRepr := ⟨rReprD K, fun i => by
  have h := call_reprD (Y := X i) (by have := (c.room i).un; omega) (c.grd i)
  rw [c.K i] at h
  exact h, fun W M vs ds z M' Q w r e q => by
  unfold gRepr at e
  split at e
  · split at e
    · rename_i p h1
      split at e
      · rename_i h2
        cases e
        cases r with
        | cons r1 r2 =>
          cases r2
          exact ⟨_, p, rfl, dp_of w r1 h1, h2, q _ W (.refl W) w (.str _)⟩
      · cases e
    · cases e
  · cases e⟩
end
end Pl
namespace Pl
open PySem L2
end Pl
namespace Pl
open PySem L2
/-- how a statement ends: as it does, or by an exception of the module's class of that name -/
inductive XO where
  | ok (o : Out) | ex (y : Str) (δ : Env) (M : Mh)
inductive EO where
  | v (d : D) (M : Mh) | ex (y : Str) (M : Mh)
abbrev XF := Env → Mh → Option XO
abbrev EXF := Env → Mh → Option EO
abbrev FnX := List D → Mh → Option EO
def PostX (K : PySem.W.Frag) (mg : Str → Option Value) (S : WX) (E : Ends) (W : Wd) : XO → Prop
  | .ok o => Post K E W o
  | .ex y δ M => ∀ C σ W', mg y = some (.ref C) → W.Le W' → W'.Ok K M → Slots K W' σ δ → S (.ref C) none σ W'.H
theorem PostX.le {K : PySem.W.Frag} {mg : Str → Option Value} {S : WX} {E : Ends} {W W1 : Wd} {o : XO} (l : W.Le W1) (h : PostX K mg S E W o) : PostX K mg S E W1 o := by
  cases o with
  | ok o => exact Post.le l h
  | ex y δ M => exact fun C σ W' m a b c => h C σ W' m (l.trans a) b c
def PostE (K : PySem.W.Frag) (mg : Str → Option Value) (S : Value → Option Addr → Hp → Prop) (Q : VK) (W : Wd) : EO → Prop
  | .v d M => VR K W d M Q
  | .ex y M => ∀ C W', mg y = some (.ref C) → W.Le W' → W'.Ok K M → S (.ref C) none W'.H
theorem PostE.le {K : PySem.W.Frag} {mg : Str → Option Value} {S : Value → Option Addr → Hp → Prop} {Q : VK} {W W1 : Wd} {o : EO} (l : W.Le W1) (h : PostE K mg S Q W o) : PostE K mg S Q W1 o := by
  cases o with
  | v d M => exact VR.le h l
  | ex y M => exact fun C W' m a b => h C W' m (l.trans a) b
def SRX (K : PySem.W.Frag) (mg : Str → Option Value) (S : WX) (t : TS) (f : XF) : Prop := ∀ (σ : St) (W : Wd) (δ : Env) (M : Mh) (o : XO) (E : Ends), W.Ok K M → Slots K W σ δ → f δ M = some o → PostX K mg S E W o → t E σ W.H
def ERX (K : PySem.W.Frag) (mg : Str → Option Value) (S : WX) (t : TE) (f : EXF) : Prop := ∀ (σ : St) (W : Wd) (δ : Env) (M : Mh) (o : EO) (Q : VK), W.Ok K M → Slots K W σ δ → f δ M = some o → PostE K mg (fun c d H => S c d σ H) Q W o → t σ W.H Q
section
variable {I : Type}
structure DSX (X : I → Cx) (K : PySem.W.Frag) (mg : Str → Option Value) (S : WX) (s : Stmt) (f : XF) : Prop where
  go : ∃ t : TS, (∀ i, PS (X i) s t) ∧ SRX K mg S t f
structure DBX (X : I → Cx) (K : PySem.W.Frag) (mg : Str → Option Value) (S : WX) (s : List Stmt) (f : XF) : Prop where
  go : ∃ t : TS, (∀ i, PSs (X i) s t) ∧ SRX K mg S t f
structure DEX (X : I → Cx) (K : PySem.W.Frag) (mg : Str → Option Value) (S : WX) (e : Expr) (f : EXF) : Prop where
  go : ∃ t : TE, (∀ i, PE (X i) e t) ∧ ERX K mg S t f
variable {X : I → Cx} {P : Program} {w : World} {K : PySem.W.Frag} {mg : Str → Option Value} {base : Heap} {k : Nat} {S : WX}
def xSeq (f g : XF) : XF := fun δ M => match f δ M with
  | some (.ok (.nx δ' M')) => g δ' M'
  | o => o
theorem DBX.cons {s : Stmt} {ss : List Stmt} {f g : XF} (a : DSX X K mg S s f) (b : DBX X K mg S ss g) : DBX X K mg S (s :: ss) (xSeq f g) := by
  obtain ⟨ta, pa, ra⟩ := a.go
  obtain ⟨tb, pb, rb⟩ := b.go
  refine ⟨tSeq ta tb, fun i => pss_cons (pa i) (pb i), fun σ W δ M o E w s e q => ?_⟩
  unfold xSeq at e
  split at e
  · rename_i δ' M' h1
    refine ra σ W δ M _ _ w s h1 fun σ' W1 l1 w1 s1 => ?_
    exact rb σ' W1 δ' M' o E w1 s1 e (q.le l1)
  · rename_i hn
    refine ra σ W δ M o _ w s e ?_
    match o, e, q with
    | .ok (.nx δ' M'), e, q => exact absurd e (hn δ' M')
    | .ok (.bk _ _), e, q => exact q
    | .ok (.ct _ _), e, q => exact q
    | .ok (.rt _ _), e, q => exact q
    | .ex _ _ _, e, q => exact q
/-- an own exception class without own __init__, over ValueError -/
structure LkE (K : PySem.W.Frag) (mg : Str → Option Value) (x : Str) (bmB : List Value) (newId : String) (C : Addr) : Prop where
  gC : mg x = some (.ref C)
  q : PySem.W.excIn K C bmB newId = true
  kC : PySem.W.keepIn K (.ref C) = true
  r1 : PySem.W.subIn K (.ref C) (.type "BaseException") = some true
  r2 : PySem.W.typeIn K (.ref C) = some (.type "type")
def spDX (K : PySem.W.Frag) (mg : Str → Option Value) (n : Nat) (F : FnX) (vs : List V) (H : Hp) (Q : VK) (E : XK) : Prop :=
  ∃ W M ds o, W.H = H ∧ W.Ok K M ∧ RepL K W.B W.ι vs ds ∧ ds.length = n ∧ F ds M = some o ∧ PostE K mg E Q W o
structure DFnX (P : Program) (w : World) (K : PySem.W.Frag) (mg : Str → Option Value) (base : Heap) (k : Nat) (f : Addr) (fd : FuncData) (ps : List Str) (F : FnX) : Prop where
  run : ∀ (A : Around) (outer : List PySem.Env) (s : Shared) (H : Hp) (args : Args) (us : List Value) (vs : List V) (Q : VK) (E : XK), Room k A → A.guards = some [] → Env0 P w K mg base A outer s H → BindsTo s fd args (ps.zip us) → Vals vs us →
    spDX K mg ps.length F vs H Q E → codeAny (model P w) A (.call (.ref f) args) (CR (L2.CX P w) outer P w H s Q E) s
theorem DFnX.mono {f : Addr} {fd : FuncData} {ps : List Str} {F : FnX} {j : Nat} (h : DFnX P w K mg base j f fd ps F) (l : j ≤ k) : DFnX P w K mg base k f fd ps F :=
  ⟨fun A outer s H args us vs Q E r g => h.run A outer s H args us vs Q E (r.mono l) g⟩
theorem run_dfnX {Y : Cx} {pins : List (Addr × Obj)} {σ : L2.St} {H : Hp} {s : Shared} {Q : VK} {f : Addr} {fd : FuncData} {ps ks : List Str} {F : FnX} {us ws us' : List Value} {vs : List V} (h : DFnX Y.prog Y.w Y.K Y.mg Y.base k f fd ps F) (room : Room k Y.A) (grd : Y.A.guards = some []) (tk : Takes Y S)
    (J : Inv Y pins σ H s) (hb : BindsTo s fd ⟨us, ks.zip ws⟩ (ps.zip us')) (r : Vals vs us') (q : spDX Y.K Y.mg ps.length F vs H Q (fun c d H' => S c d σ H')) : wpAny (model Y.prog Y.w) Y.A (call (.ref f) us (ks.zip ws)) (EP Y pins σ Q) Y.xe s := by
  refine wpAny_call (codeAny_mono (h.run Y.A Y.stack s H _ us' vs Q _ room grd J.env0 hb r q) fun o s' ho => ?_)
  match o, ho with
  | .ok (.ret u), ho => exact J.after ho
  | .ok .next, ho => exact False.elim ho
  | .ok .brk, ho => exact False.elim ho
  | .ok .cont, ho => exact False.elim ho
  | .error _, ho => exact passAt tk σ pins H s _ s' J ho
def xCall (F : FnX) (g : AF) (dds : List D) : EXF := fun δ M => match g δ M with
  | some (ds, M1) => F (ds ++ dds) M1
  | none => none
theorem DEX.call (c : Ctx X P w K mg base k) (tk : ∀ i, Takes (X i) S) {x : Str} {p pos : Pos} {e : Expr} {es : List Expr} {g : AF} {f : Addr} {fd : FuncData} {ps : List Str} {F : FnX} {kf : Nat} {dvs : List V} {dds : List D} {dsv : List Value} (h : DFnX P w K mg base kf f fd ps F) (hk : kf ≤ k)
    (hm : mg x = some (.ref f)) (kp : PySem.W.keepIn K (.ref f) = true) (hb : Binds K fd ps dsv) (hd : Vals dvs dsv) (hr : ∀ B ι, RepL K B ι dvs dds) (hn : (e :: es).length + dds.length = ps.length) (ha : DA X K (e :: es) g) (hlen : ∀ δ M ds M', g δ M = some (ds, M') → ds.length = (e :: es).length) (hg : ∀ i, Gl (X i) x := by intro _; rfl)
    (hdbg : (x == ("__debug__" : Str)) = false := by decide) (he : ∀ i, starEach (e :: es) (X i).env = (false, eval e (X i).env) :: starEach es (X i).env := by intro _; rfl) (hpl : ∀ i, (backTo pos (starEach es (X i).env)).any (·.1) = false := by intro _; rfl) :
    DEX X K mg S (.Call (.Name x p) (e :: es) [] pos) (xCall F g dds) := by
  obtain ⟨t, pa, ra⟩ := ha.go
  refine ⟨fun σ H Q => t σ H fun vs H1 => spDX K mg ps.length F (vs ++ dvs) H1 Q (fun c d H' => S c d σ H'), fun i => ⟨fun pins s σ H Q J q => ?_⟩, fun σ W δ M o Q w s ev q => ?_⟩
  · have cK := c.K i
    have cmg := c.mg i
    refine wpAny_Call_Name_kw (ld_glob J (hg i) (by rw [c.mg i]; exact hm) ?_ hdbg)
    refine PySem.W.callWith_K (h₀ := (X i).base) J.ok.mod.kin (by rw [cK]; exact kp) (thn ((pa i).run pos pins s σ H _ J q) fun us s1 ⟨vs, H1, J1, r, q1⟩ => ⟨J1.kIn, ?_⟩) (he i) (hpl i)
    obtain ⟨W, M, ds, o, a1, a2, a3, a4, a5, a6⟩ := id q1
    have h' : DFnX (X i).prog (X i).w (X i).K (X i).mg (X i).base k f fd ps F := by
      rw [c.prog i, c.wd i, c.K i, c.mg i, c.base i]
      exact h.mono hk
    have r2 := r.append hd
    refine run_dfnX (ks := []) (ws := []) (us := us) h' (c.room i) (c.grd i) (tk i) J1 (hb s1 us (by rw [← cK]; exact J1.kIn) ?_) r2 (by rw [cK, cmg]; exact q1)
    rw [← r2.length, a3.len, a4]
  · unfold xCall at ev
    split at ev
    · rename_i ds M1 h1
      refine ra σ W δ M ds M1 _ w s h1 fun vs W1 l1 w1 r1 => ⟨W1, M1, ds ++ dds, o, rfl, w1, r1.append (hr _ _), ?_, ev, q.le l1⟩
      rw [List.length_append, hlen _ _ _ _ h1]
      exact hn
    · cases ev
def xAs (f : EXF) (j : Nat) : XF := fun δ M => match f δ M with
  | some (.v d M1) => some (.ok (.nx (δ.set j (some d)) M1))
  | some (.ex y M1) => some (.ex y δ M1)
  | none => none
theorem DSX.set (j : Nat) {x : Str} {e : Expr} {pos pos'} {f : EXF} (a : DEX X K mg S e f) (hN : ∀ i, (X i).N.Nodup) (hi : ∀ i, (X i).N[j]? = some x := by intro _; rfl) (hx : ∀ i, Loc (X i).env.scope x := by intro _; first | exact Or.inl rfl | exact Or.inr rfl)
    (hs : ∀ i, swapsWith e (some (.Name x pos')) pos.line (X i).env = pure false := by intro _; rfl) (hf : ∀ i, (X i).fn x = true ∨ (X i).env.scope.names.lookup x = some .local := by intro _; first | exact Or.inl rfl | exact Or.inr rfl) :
    DSX X K mg S (.Assign [.Name x pos'] e pos) (xAs f j) := by
  obtain ⟨t, p, r⟩ := a.go
  refine ⟨tAsg t (gName j), fun i => ps_set (hN i) (hi i) (hx i) (p i) (hs i) (hf i), fun σ W δ M o E w s ev q => ?_⟩
  unfold xAs at ev
  split at ev
  · rename_i d M1 h1
    cases ev
    exact r σ W δ M _ _ w s h1 fun v W1 l1 w1 r1 => q _ W1 l1 w1 ((s.le l1).set r1 j)
  · rename_i y M1 h1
    cases ev
    exact r σ W δ M _ _ w s h1 fun C W1 m l1 w1 => q C σ W1 m l1 w1 (s.le l1)
  · cases ev
def xRet (f : EXF) : XF := fun δ M => match f δ M with
  | some (.v d M1) => some (.ok (.rt d M1))
  | some (.ex y M1) => some (.ex y δ M1)
  | none => none
theorem DSX.ret {e : Expr} {pos} {f : EXF} (a : DEX X K mg S e f) : DSX X K mg S (.Return (some e) pos) (xRet f) := by
  obtain ⟨t, p, r⟩ := a.go
  refine ⟨tRet t, fun i => ps_ret (p i), fun σ W δ M o E w s ev q => ?_⟩
  unfold xRet at ev
  split at ev
  · rename_i d M1 h1
    cases ev
    exact r σ W δ M _ _ w s h1 q
  · rename_i y M1 h1
    cases ev
    exact r σ W δ M _ _ w s h1 fun C W1 m l1 w1 => q C σ W1 m l1 w1 (s.le l1)
  · cases ev
def trI (X : I → Cx) (S : WX) : Type := { p : I × List (Addr × Obj) × (Value → Shared → Prop) // Takes ((X p.1).tr p.2.1 p.2.2) S ∧ PassesOwn (model (X p.1).prog (X p.1).w) (X p.1).A (X p.1).env p.2.2 }
def trF (X : I → Cx) (S : WX) (i : trI X S) : Cx := (X i.1.1).tr i.1.2.1 i.1.2.2
theorem Ctx.tr (c : Ctx X P w K mg base k) : Ctx (trF X S) P w K mg base k :=
  ⟨fun j => c.prog j.1.1, fun j => c.wd j.1.1, fun j => c.K j.1.1, fun j => c.mg j.1.1, fun j => c.base j.1.1, fun j => c.room j.1.1, fun j => c.grd j.1.1, fun j => c.calm j.1.1⟩
def suF (X : I → Cx) (i : I × Addr × Obj × List (Addr × Obj)) : Cx := (X i.1).suite i.2.1 ((i.2.1, i.2.2.1) :: i.2.2.2)
theorem Slots.hide {W : Wd} {σ : St} {δ : Env} (s : Slots K W σ δ) (j : Nat) (u : Option V) : Slots K W (σ.set j u) (δ.set j none) :=
  ⟨by rw [List.length_set, List.length_set]; exact s.len, fun i d h => by
    rw [List.getElem?_set] at h
    rw [List.getElem?_set]
    by_cases e : j = i
    · rw [if_pos e] at h
      split at h <;> cases h
    · rw [if_neg e] at h ⊢
      exact s.at_ i d h⟩
end
def bodyX (P : Program) (w : World) (K : PySem.W.Frag) (mg : Str → Option Value) (base : Heap) (N : List Str) (E : XK) {k : Nat} {qual : Str} {scope : Scope} {f : Addr} (e : Entry k qual scope f) : Cx := cxOf (L2.CX P w) P w K mg base N qual scope f e.cdv e.A e.outer e.s e.H E
theorem bodyX_ctx (P : Program) (w : World) (K : PySem.W.Frag) (mg : Str → Option Value) (base : Heap) (N : List Str) (E : XK) {k : Nat} {qual : Str} {scope : Scope} {f : Addr} : Ctx (bodyX P w K mg base N E (k := k) (qual := qual) (scope := scope) (f := f)) P w K mg base k :=
  ⟨fun _ => rfl, fun _ => rfl, fun _ => rfl, fun _ => rfl, fun _ => rfl, fun e => e.room, fun e => e.grd, fun _ => rfl⟩
end Pl
namespace L2
open PySem PySem.Spec PyProof.Rows
section
variable {X : Cx} {pins : List (Addr × Obj)} {σ : St} {H : Hp} {s : Shared}
/-- an object that stands there already is told of from here on -/
theorem Inv.told {a : Addr} {o : HO} (I : Inv X pins σ H s) (hn : H a = none) (h0 : X.s_0.heap.get? a = none) (hL : a ≠ X.env.locals) (hC : ∀ x c, X.env.cells.lookup x = some c → c ≠ a) (hP : ∀ p ∈ X.pn ++ pins, p.1 ≠ a)
    (new : ObjOk X.prog X.w (upd H a o) s.heap a o) : Inv X pins σ (upd H a o) s := by
  have ne0 : ∀ b u, X.s_0.heap.get? b = some u → b ≠ a := fun b u e z => by
    rw [z, h0] at e
    cases e
  have neH : ∀ b u, H b = some u → b ≠ a := fun b u e z => by
    rw [z, hn] at e
    cases e
  refine ⟨I.ok, I.os, I.bare, ⟨I.base.keep, I.base.slot, fun b u e n hx => ?_, I.base.there, fun b xs e => ?_, fun b u xs e => ?_, fun b ps e => ?_⟩, I.loc, I.cell, ?_, fun x c e => ?_, fun p hp => ?_, fun b u e => ?_, I.len⟩
  · rw [upd_ne (ne0 b u e)]
    exact I.base.free b u e n hx
  · have q := I.base.tups b xs e
    rw [upd_ne (neH _ _ q)]
    exact q
  · have q := I.base.frzs b u xs e
    rw [upd_ne (neH _ _ q)]
    exact q
  · obtain ⟨m, q⟩ := I.base.tbls b ps e
    exact ⟨m, by rw [upd_ne (neH _ _ q)]; exact q⟩
  · rw [upd_ne (fun z => hL z.symm)]
    exact I.free
  · rw [upd_ne (hC x c e)]
    exact I.freeC x c e
  · obtain ⟨q1, q2, q3⟩ := I.pin p hp
    exact ⟨q1, by rw [upd_ne (hP p hp)]; exact q2, q3⟩
  · by_cases hb : b = a
    · subst hb
      rw [upd_same] at e
      cases e
      exact new
    · rw [upd_ne hb] at e
      exact (I.hok b u e).stay (fun c v _ q => q) (fun c q => by rw [upd_ne (neH _ _ q)]; exact q) fun c xs q => by rw [upd_ne (neH _ _ q)]; exact q
end
end L2
namespace Pl
open PySem L2
section
variable {I : Type} {X : I → Cx} {P : Program} {w : World} {K : PySem.W.Frag} {mg : Str → Option Value} {base : Heap} {k : Nat}
/-- one more place, nothing alive there -/
def Wd.ix1 (W : Wd) (a : Addr) : Wd := ⟨W.H, W.B, W.ι ++ [a], W.P⟩
theorem Wd.ix1_le {W : Wd} {a : Addr} : W.Le (W.ix1 a) := ⟨fun _ _ h => h, ⟨[a], rfl⟩, rfl⟩
theorem Wd.ix1_live {W : Wd} {M : Mh} {a : Addr} (w : W.Ok K M) : ∀ n b o, Live (W.ix1 a) (M ++ [.dead]) n b o → Live W M n b o := fun n b o ⟨h1, h2, h3⟩ => by
  by_cases hn : n < M.length
  · rw [List.getElem?_append_left hn] at h2
    have h1' : (W.ι ++ [a])[n]? = some b := h1
    rw [List.getElem?_append_left (by rw [w.len]; exact hn)] at h1'
    exact ⟨h1', h2, h3⟩
  · have e : n = M.length := by
      have := (List.getElem?_eq_some_iff.mp h2).1
      rw [List.length_append] at this
      simp at this
      omega
    subst e
    rw [List.getElem?_append_right (Nat.le_refl _)] at h2
    simp at h2
    exact absurd h2.symm h3
theorem Wd.ix1_ok {W : Wd} {M : Mh} {a : Addr} (w : W.Ok K M) : (W.ix1 a).Ok K (M ++ [.dead]) :=
  ⟨w.sub, w.pin, by
    show (W.ι ++ [a]).length = _
    simp [w.len], fun n b o h => by
    obtain ⟨h1, h2, u, h3, h4⟩ := w.live n b o (Wd.ix1_live w n b o h)
    exact ⟨h1, h2, u, h3, h4.mono (fun _ _ q => q) Wd.ix1_le.ix⟩, fun n m b o u h g => w.inj n m b o u (Wd.ix1_live w n b o h) (Wd.ix1_live w m b u g)⟩
/-- the caught one stands there from here on -/
def Wd.wake (W : Wd) (a : Addr) (o : HO) : Wd := ⟨upd W.H a o, W.B, W.ι, W.P⟩
theorem Wd.wake_le {W : Wd} {a : Addr} {o : HO} : W.Le (W.wake a o) := ⟨fun _ _ h => h, ⟨[], by simp [Wd.wake]⟩, rfl⟩
theorem Wd.wake_ok {W : Wd} {M : Mh} {a : Addr} {n : Nat} {o : HO} {m : MO} (w : W.Ok K M) (hn : n < M.length) (hι : W.ι[n]? = some a) (hH : W.H a = none) (r : RepO K W.B W.ι a o m) : (W.wake a o).Ok K (M.set n m) := by
  have hB := w.bnone hH
  have hP := w.pnone hH
  have lv : ∀ k b u, Live (W.wake a o) (M.set n m) k b u → (k = n ∧ b = a ∧ u = m) ∨ (k ≠ n ∧ Live W M k b u) := fun k b u ⟨h1, h2, h3⟩ => by
    by_cases e : n = k
    · subst e
      rw [List.getElem?_set_self hn] at h2
      have e1 : some b = some a := (show W.ι[n]? = some b from h1).symm.trans hι
      cases e1
      cases h2
      exact .inl ⟨rfl, rfl, rfl⟩
    · rw [List.getElem?_set_ne e] at h2
      exact .inr ⟨fun z => e z.symm, h1, h2, h3⟩
  have ne : ∀ {k b u}, Live W M k b u → b ≠ a := fun {k b u} h e => by
    obtain ⟨_, _, g, hg, _⟩ := w.live k b u h
    rw [e, hH] at hg
    cases hg
  refine ⟨fun b u h => ?_, fun b u h => ?_, by rw [List.length_set]; exact w.len, fun k b u h => ?_, fun k j b u v h g => ?_⟩
  · exact (upd_ne (fun e => by
      rw [e] at h
      have h' : W.B a = some u := h
      rw [hB] at h'
      cases h')).trans (w.sub b u h)
  · have q := w.pin b u h
    exact ⟨(upd_ne (fun e => by
      rw [e] at h
      have h' : W.P a = some u := h
      rw [hP] at h'
      cases h')).trans q.1, q.2⟩
  · rcases lv k b u h with ⟨rfl, rfl, rfl⟩ | ⟨_, h⟩
    · exact ⟨hB, hP, o, upd_same, r⟩
    · obtain ⟨h1, h2, g, h3, h4⟩ := w.live k b u h
      exact ⟨h1, h2, g, (upd_ne (ne h)).trans h3, h4⟩
  · rcases lv k b u h with ⟨rfl, rfl, rfl⟩ | ⟨_, h⟩
    · rcases lv j b v g with ⟨rfl, _, _⟩ | ⟨_, g⟩
      · rfl
      · exact absurd rfl (ne g)
    · rcases lv j b v g with ⟨_, e, _⟩ | ⟨_, g⟩
      · exact absurd e (ne h)
      · exact w.inj _ _ _ _ _ h g
def kp (n : Nat) (C : Addr) (M : Mh) : Option Mh := match M[n]? with
  | some .dead => some (M.set n (.exc C))
  | _ => none
def kpO (j n : Nat) (C : Addr) : Option Out → Option Out
  | some (.nx δ M) => (kp n C M).map fun M' => .nx (δ.set j none) M'
  | some (.bk δ M) => (kp n C M).map fun M' => .bk (δ.set j none) M'
  | some (.ct δ M) => (kp n C M).map fun M' => .ct (δ.set j none) M'
  | some (.rt d M) => (kp n C M).map fun M' => .rt d M'
  | none => none
theorem kp_some {n : Nat} {C : Addr} {M M' : Mh} (h : kp n C M = some M') : n < M.length ∧ M' = M.set n (.exc C) := by
  unfold kp at h
  split at h
  · rename_i hd
    cases h
    exact ⟨(List.getElem?_eq_some_iff.mp hd).1, rfl⟩
  · cases h
theorem Slots.ix1 {W : Wd} {σ : St} {δ : Env} (s : Slots K W σ δ) {a : Addr} {M : Mh} (w : W.Ok K M) (j : Nat) : Slots K (W.ix1 a) (σ.set j (some (.ref a))) (δ.set j (some (.ref M.length))) :=
  (s.le Wd.ix1_le).set (.ref (by
    show (W.ι ++ [a])[M.length]? = some a
    rw [← w.len]
    simp)) j
theorem GV.cls {x : Str} {C : Addr} (h : mg x = some (.ref C)) : GV K mg x (.ob C) := ⟨.ref C, .ref C, h, rfl, fun _ _ => .ob _⟩
def clV : D → Option Value
  | .ob c => some (.ref c)
  | .ty t => some (.type t)
  | _ => none
def gIsiE (isa : Addr → Value → Option Bool) : GL := fun ds M => match ds with
  | [.ref n, c] => (match M[n]?, clV c with
    | some (.exc C), some cv => (match isa C cv with
      | some b => some (.bl b, M)
      | none => none)
    | _, _ => gIsi [.ref n, c] M)
  | ds => gIsi ds M
def rIsiE (K : PySem.W.Frag) (xs : List V) (H : Hp) (Q : VK) : Prop := ∃ a C c cv b, xs = [.ref a, c] ∧ H a = some (ExV C a) ∧ ExcC K C ∧ (∀ u, RelV c u → u = cv) ∧ PySem.W.kitOne K (.ref C) cv = some b ∧ Q (.bl b) H
theorem call_isiE {Y : Cx} : CallR Y (.builtin "isinstance") (rIsiE Y.K) := fun pins s σ H xs us Q J r h => by
  obtain ⟨a, D, c, cv, b, rfl, hH, E, hcv, e, q⟩ := h
  cases r with
  | cons rx rr =>
    cases rr with
    | cons rt rr =>
      cases rr
      cases rx
      have ec := hcv _ rt
      subst ec
      obtain ⟨⟨oe, vs, hget, hz, hv⟩, _, _⟩ := J.hok a _ hH
      have I : PySem.W.InstAt s.heap a oe D none := by
        obtain ⟨oc, od, oda, osl⟩ := oe
        obtain ⟨h1, h2⟩ := hz
        dsimp only at h1 h2 hv
        subst h1 h2 hv
        exact ⟨hget, rfl, rfl, trivial⟩
      exact PySem.W.kia_one (PySem.W.handS_kitx_exc E.hg E.hk E.hs E.hd E.ha E.hn E.ht E.hm) J.kIn I e (fun z => nomatch z) fun tk => ⟨.bl b, H, J.kept (t' := tk) fun _ _ z => z, rfl, q⟩
theorem cIsiE (c : Ctx X P w K mg base k) {isa : Addr → Value → Option Bool} (hi : ∀ C v b, isa C v = some b → PySem.W.kitOne K (.ref C) v = some b) : CalF X K (.builtin "isinstance") (gIsiE isa) := by
  obtain ⟨r, hr, hq⟩ := (cIsi c).go
  refine ⟨fun xs H Q => r xs H Q ∨ rIsiE K xs H Q, fun i pins s σ H xs us Q J hv h => ?_, fun W M vs ds z M' Q w rp e q => ?_⟩
  · rcases h with h | h
    · exact hr i pins s σ H xs us Q J hv h
    · refine call_isiE pins s σ H xs us Q J hv ?_
      rw [c.K i]
      exact h
  · unfold gIsiE at e
    split at e
    · rename_i n cd
      split at e
      · rename_i C cv hm hc
        split at e
        · rename_i b hb
          cases e
          cases rp with
          | cons r1 r2 =>
            cases r2 with
            | cons r2 r3 =>
              cases r3
              cases r1 with
              | ref hι =>
                obtain ⟨_, _, o, ho, ro⟩ := w.live _ _ _ ⟨hι, hm, fun z => by cases z⟩
                cases ro with
                | exc E =>
                  refine .inr ⟨_, C, _, cv, b, rfl, ho, E, fun u ru => ?_, hi _ _ _ hb, q _ W (.refl W) w (.bl _)⟩
                  cases r2 with
                  | ob a =>
                    cases hc
                    cases ru
                    rfl
                  | ty t =>
                    cases hc
                    cases ru
                    rfl
                  | _ => cases hc
        · cases e
      · exact .inl (hq W M vs _ z M' Q w rp e q)
    · exact .inl (hq W M vs _ z M' Q w rp e q)
end
section
variable {I : Type} {X : I → Cx} {P : Program} {w : World} {K : PySem.W.Frag} {mg : Str → Option Value} {base : Heap} {k : Nat}
def sPar3 (i j l : Nat) (f g h : EF) : SF := fun δ M => match f δ M with
  | some (d, M1) => (match g δ M1 with
    | some (e, M2) => (match h δ M2 with
      | some (u, M3) => some (.nx (((δ.set i (some d)).set j (some e)).set l (some u)) M3)
      | none => none)
    | none => none)
  | none => none
theorem DS.par3 (a b d : Nat) {x y z : Str} {e1 e2 e3 : Expr} {f g h : EF} {px py pz pt : Pos} {kt k2 pt2 pos} (c : Ctx X P w K mg base k) (h1 : DE X K e1 f) (h2 : DE X K e2 g) (h3 : DE X K e3 h) (hN : ∀ i, (X i).N.Nodup) (hi : ∀ i, (X i).N[a]? = some x := by intro _; rfl) (hj : ∀ i, (X i).N[b]? = some y := by intro _; rfl) (hl : ∀ i, (X i).N[d]? = some z := by intro _; rfl)
    (hij : a ≠ b := by decide) (hil : a ≠ d := by decide) (hjl : b ≠ d := by decide) (hx : ∀ i, (X i).env.scope.names.lookup x = some .local := by intro _; rfl) (hy : ∀ i, (X i).env.scope.names.lookup y = some .local := by intro _; rfl) (hz : ∀ i, (X i).env.scope.names.lookup z = some .local := by intro _; rfl)
    (hw : ∀ i, swappedStores [.Tuple [.Name x px, .Name y py, .Name z pz] kt pt] (.Tuple [e1, e2, e3] k2 pt2) (X i).env = pure (some [x, y, z]) := by intro _; rfl)
    (hs : ∀ i, swapsWithSole [.Tuple [.Name x px, .Name y py, .Name z pz] kt pt] (.Tuple [e1, e2, e3] k2 pt2) pos.line (X i).env = pure false := by intro _; rfl)
    (he1 : ∀ i, starEach [e1, e2, e3] (X i).env = (false, eval e1 (X i).env) :: starEach [e2, e3] (X i).env := by intro _; rfl) (he2 : ∀ i, starEach [e2, e3] (X i).env = (false, eval e2 (X i).env) :: starEach [e3] (X i).env := by intro _; rfl) (he3 : ∀ i, starEach [e3] (X i).env = (false, eval e3 (X i).env) :: starEach [] (X i).env := by intro _; rfl) :
    DS X K (.Assign [.Tuple [.Name x px, .Name y py, .Name z pz] kt pt] (.Tuple [e1, e2, e3] k2 pt2) pos) (sPar3 a b d f g h) := by
  obtain ⟨ta, pa, ra⟩ := h1.go
  obtain ⟨tb, pb, rb⟩ := h2.go
  obtain ⟨tc, pc, rc⟩ := h3.go
  refine ⟨tPar3 a b d (tCons ta (tCons tb (tCons tc tNil))), fun i => ps_par3 (c.calm i) (hN i) (hi i) (hj i) (hl i) hij hil hjl (hx i) (hy i) (hz i) (pa_cons (pa i) (pa_cons (pb i) (pa_cons (pc i) pa_nil (he3 i)) (he2 i)) (he1 i)) (hw i) (hs i), fun σ W δ M o E w s e q => ?_⟩
  unfold sPar3 at e
  split at e
  · rename_i d1 M1 h1
    split at e
    · rename_i d2 M2 h2
      split at e
      · rename_i d3 M3 h3
        cases e
        refine ra σ W δ M d1 M1 _ w s h1 fun v W1 l1 w1 r1 => ?_
        refine rb σ W1 δ M1 d2 _ _ w1 (s.le l1) h2 fun u W2 l2 w2 r2 => ?_
        refine rc σ W2 δ M2 d3 _ _ w2 (s.le (l1.trans l2)) h3 fun t W3 l3 w3 r3 => ?_
        exact ⟨v, u, t, rfl, q _ W3 ((l1.trans l2).trans l3) w3 ((((s.le ((l1.trans l2).trans l3)).set (r1.le (l2.trans l3)) a).set (r2.le l3) b).set r3 d)⟩
      · cases e
    · cases e
  · cases e
end
end Pl
namespace PySem
open Sem (wp)
abbrev IsZipU (h : Heap) (zp TI TO : Addr) (f0 : Value) (b : Bool) : Prop := h.get? zp = some { cls := .type "zip", data := .fields #[f0, .bool b, .bool false, .ref TI, .ref TO] }
end PySem
namespace PySem
open Sem (wp)
theorem addr_ne {N T a : Addr} (h : N ≤ T) (h2 : a < N) : T ≠ a := by
  intro e
  subst e
  exact absurd h2 (Nat.not_lt.mpr h)
/-- a zip that has given i tuples, all kept -/
structure ZS (zp TI TO i1 i2 : Addr) (P1 P2 : Nat → Value → Prop) (St1 St2 : Nat → Heap → Prop) (N : Nat) (h : Heap) (i : Nat) (Ts : List Addr) : Prop where
  len : Ts.length = i
  zip : (i = 0 ∧ IsZip h zp TI TO .none) ∨ (0 < i ∧ ∃ (T0 : Addr) (b : Bool), IsZipU h zp TI TO (rawInt T0) b ∧ T0 ∈ Ts)
  ti : IsTupOf2 h TI (.ref i1) (.ref i2)
  to : i = 0 → ∃ a1 a2, IsTupOf2 h TO a1 a2
  st1 : St1 i h
  st2 : St2 i h
  tup : ∀ j T, Ts[j]? = some T → ∃ u1 u2, P1 j u1 ∧ P2 j u2 ∧ IsTupOf2 h T u1 u2
  new : ∀ T ∈ Ts, N ≤ T
  nd : Ts.Nodup
section
variable {prog : Program} {w : World} {A : Around} {R : Result → Shared → Prop} {zp TI TO i1 i2 : Addr} {fp1 fp2 : List Addr} {n1 n2 : Nat} {P1 P2 : Nat → Value → Prop} {St1 St2 : Nat → Heap → Prop}
theorem ZS.frame (D1 : Draws prog w A i1 fp1 n1 P1 St1) (D2 : Draws prog w A i2 fp2 n2 P2 St2) {N : Nat} {h h' : Heap} {i : Nat} {Ts : List Addr} {L : Addr} (x : ZS zp TI TO i1 i2 P1 P2 St1 St2 N h i Ts) (hL : L ∉ zp :: TI :: TO :: (fp1 ++ fp2)) (hN : L < N) (k : ∀ b o, b ≠ L → h.get? b = some o → h'.get? b = some o) : ZS zp TI TO i1 i2 P1 P2 St1 St2 N h' i Ts := by
  have ne : ∀ b, b ∈ zp :: TI :: TO :: (fp1 ++ fp2) → b ≠ L := fun b hb e => hL (e ▸ hb)
  refine ⟨x.len, ?_, k _ _ (ne TI (by simp)) x.ti, fun e => ?_, D1.frame _ _ _ x.st1 fun b hb o e => k b o (ne b (by simp [hb])) e, D2.frame _ _ _ x.st2 fun b hb o e => k b o (ne b (by simp [hb])) e, fun j T e => ?_, x.new, x.nd⟩
  · rcases x.zip with ⟨e, y⟩ | ⟨e, T0, b, y, m⟩
    · exact .inl ⟨e, k _ _ (ne zp (by simp)) y⟩
    · exact .inr ⟨e, T0, b, k _ _ (ne zp (by simp)) y, m⟩
  · obtain ⟨a1, a2, y⟩ := x.to e
    exact ⟨a1, a2, k _ _ (ne TO (by simp)) y⟩
  · obtain ⟨u1, u2, p1, p2, y⟩ := x.tup j T e
    exact ⟨u1, u2, p1, p2, k _ _ (addr_ne (x.new T (List.mem_of_getElem? e)) hN) y⟩
end
end PySem
namespace PySem
open Sem (wp)
section
variable {prog : Program} {w : World} {A : Around} {s : Shared} {R : Result → Shared → Prop} {zp TI TO i1 i2 : Addr} {fp1 fp2 : List Addr} {n1 n2 : Nat} {P1 P2 : Nat → Value → Prop} {St1 St2 : Nat → Heap → Prop}
theorem ZS.start {N : Nat} {h : Heap} {a1 a2 : Value} (hz : IsZip h zp TI TO .none) (iTI : IsTupOf2 h TI (.ref i1) (.ref i2)) (iTO : IsTupOf2 h TO a1 a2) (st1 : St1 0 h) (st2 : St2 0 h) : ZS zp TI TO i1 i2 P1 P2 St1 St2 N h 0 [] :=
  ⟨rfl, .inl ⟨rfl, hz⟩, iTI, fun _ => ⟨a1, a2, iTO⟩, st1, st2, fun j T e => by simp at e, fun T tyZ => by simp at tyZ, List.nodup_nil⟩
end
end PySem
namespace Pl
open PySem PySem.Spec PyProof.Rows L2
end Pl
namespace Pl
open PySem PySem.Spec PyProof.Rows L2
end Pl
namespace PySem
namespace Ob
open PySem.W PySem.Calls PyProof.Rows PySem.HandSPX Builtin Builtin.ObjectAttr
section
variable {prog : Program} {w : World} {A : Around} {R : Result → Shared → Prop} {hp : Heap} {g : Array GenState} {d : Drawn} {t : Nat} {os : OsState} {K : W.Frag} {name : Str} {tk : Tok} {v : Value} {x C : Addr} {fv : Array Value} {B : String} {bmB : List Value}
/-- the first field of an exception: its dict is laid -/
theorem put_first (SF : StoreFacts B bmB "object.__setattr__" "object") (X : K.In hp) (hov : excOver K C bmB = true) (htk : takerIn K C name = some none) (hdi : ∃ cd, clsIn K C = some cd ∧ cd.hasDict = true) (hx : hp.get? x = some { cls := .ref C, data := .fields fv })
    (hq : ∀ h' tk' dx, (∀ b o, b ≠ x → hp.get? b = some o → h'.get? b = some o) → hp.objs.size ≤ dx → dx ≠ x → h'.get? x = some { cls := .ref C, dict := some dx, data := .fields fv } → h'.Ns1 dx (fun y => if y = name then some v else none) → R (.ok (.ret .none)) ⟨h', g, d, tk', os⟩) :
    codeAny (model prog w) A (.call (.builtin "object.__setattr__") ⟨[.ref x, .str name tk, v], []⟩) R ⟨hp, g, d, t, os⟩ := by
  obtain ⟨cd, hcd, hh⟩ := hdi
  have inst : W.InstAt hp x { cls := .ref C, data := .fields fv } C none := ⟨hx, rfl, rfl, trivial⟩
  have far : x ≠ hp.objs.size := Nat.ne_of_lt (Heap.lt_size hx)
  have cl : W.Looks (model prog w) hp (classData C) cd := W.looks_clsIn X hcd
  refine osa_openX SF X inst hov htk fun bb => ?_
  obtain ⟨c1, c2, c3, c4, c5, c6, c7, c8, c9, c10, c11⟩ := cd
  dsimp only at hh
  subst hh
  show wpAny _ _ (storeInOwnDict (.ref x) (.ref C) (.str name tk) name v bb) _ _ _
  unfold storeInOwnDict ownDictForStores
  repeat (first | with_reducible refine store_in_new ?_ ?_ | with_reducible refine wpAny_loadPart_at hx ?_ | with_reducible refine cl.at ?_ | wp_step)
  · exact ⟨_, #[], _, (Heap.get?_update_ne _ _ _ _ far.symm).trans (Heap.get?_push_at rfl rfl), rfl, fun e he => absurd he (by simp), fun _ => rfl⟩
  · intro h2 t2 n2 s2
    have at1 : (hp.push { cls := .type "dict", data := .dict #[] }).get? x = some { cls := .ref C, data := .fields fv } := Heap.get?_push_of_some _ hx
    exact hq h2 t2 hp.objs.size (fun b o hb ho => (s2.2 b (Nat.ne_of_lt (Heap.lt_size ho))).trans ((Heap.get?_update_ne _ _ _ _ hb).trans (Heap.get?_push_of_some _ ho))) (Nat.le_refl _) far.symm ((s2.2 x far).trans (Heap.get?_update_self _ at1 rfl)) n2
/-- a further field -/
theorem put_more {dx : Addr} {m0 : Str → Option Value} {nl : List Str} (SF : StoreFacts B bmB "object.__setattr__" "object") (X : K.In hp) (hov : excOver K C bmB = true) (htk : takerIn K C name = some none) (hdi : ∃ cd, clsIn K C = some cd ∧ cd.hasDict = true)
    (hx : hp.get? x = some { cls := .ref C, dict := some dx, data := .fields fv }) (hns : hp.Ns1 dx m0) (hw : Within m0 nl) (hz : nl.length ≤ 1000)
    (hq : ∀ h' tk', (∀ b o, b ≠ dx → hp.get? b = some o → h'.get? b = some o) → h'.Ns1 dx (fun y => if y = name then some v else m0 y) → R (.ok (.ret .none)) ⟨h', g, d, tk', os⟩) :
    codeAny (model prog w) A (.call (.builtin "object.__setattr__") ⟨[.ref x, .str name tk, v], []⟩) R ⟨hp, g, d, t, os⟩ := by
  obtain ⟨cd, hcd, hh⟩ := hdi
  obtain ⟨oD, esD, epD, hoD, hdD, _⟩ := hns.count hw
  have inst : W.InstAt hp x { cls := .ref C, dict := some dx, data := .fields fv } C (some oD) := ⟨hx, rfl, rfl, hoD⟩
  have cl : W.Looks (model prog w) hp (classData C) cd := W.looks_clsIn X hcd
  refine osa_openX SF X inst hov htk fun bb => ?_
  obtain ⟨c1, c2, c3, c4, c5, c6, c7, c8, c9, c10, c11⟩ := cd
  dsimp only at hh
  subst hh
  show wpAny _ _ (storeInOwnDict (.ref x) (.ref C) (.str name tk) name v bb) _ _ _
  unfold storeInOwnDict ownDictForStores
  repeat (first | with_reducible refine PySem.OEX.store_in_old hns hw hz ?_ | with_reducible refine wpAny_loadPart_at hx ?_ | with_reducible refine cl.at ?_ | wp_step)
  intro h2 t2 n2 s2
  exact hq h2 t2 (fun b o hb ho => (s2.2 b hb).trans ho) n2
end
end Ob
end PySem
namespace Pl
open PySem PySem.Spec PyProof.Rows L2
/-- what the written part says of an own exception class, whatever its built-in base -/
structure ExG (K : PySem.W.Frag) (C : Addr) (B newId initId : String) (bmB : List Value) : Prop where
  base : ExcBaseFacts B newId initId bmB
  store : StoreFacts B bmB "object.__setattr__" "object"
  ini : PySem.W.excInitIn K C bmB newId = true
  ov : PySem.W.excOver K C bmB = true
  di : ∃ cd, PySem.W.clsIn K C = some cd ∧ cd.hasDict = true
  sa : PySem.W.findIn K (.ref C) "__setattr__" = some (some (.builtin "object.__setattr__"))
  keep : PySem.W.keepIn K (.ref C) = true
section
variable {X : Cx} {pins : List (Addr × Obj)} {σ : L2.St} {H : Hp} {s : Shared} {a C dx : Addr} {f : Str} {y : V} {u : Value} {fs : List (Str × V)} {Q : Unit → Shared → Prop} {E : Value → Shared → Prop} {A : Around} {B newId initId : String} {bmB : List Value}
/-- a first field is set -/
theorem og_new (T : ExG X.K C B newId initId bmB) (I : Inv X pins σ H s) (e : H a = some (exo a C none)) (ht : PySem.W.takerIn X.K C f = some none) (ry : RelV y u)
    (h : ∀ dx s', H dx = none → dx ≠ a → Inv X pins σ (upd (upd H dx (exd dx [(f, y)])) a (exo a C (some dx))) s' → Q () s') : wpAny (model X.prog X.w) A (setAttr (.ref a) f u) Q E s := by
  obtain ⟨t1, at0⟩ := exo_at I.hok e
  obtain ⟨hA, g, d, t, os⟩ := s
  refine PySem.W.set_plain I.kIn (ox := { cls := .ref C, dict := none, data := .fields #[.ref t1, .none, .none, .none, .bool false, .none] }) (od := none) ⟨at0, rfl, rfl, trivial⟩ T.sa ?_
  refine PySem.Ob.put_first T.store I.kIn T.ov ht T.di at0 fun hB tB dB kept up ne atB nsB => ?_
  have fresh : H dB = none := I.hok.fresh up
  have notA : ∀ {b : Addr}, H b = none → b ≠ a := fun {b} n z => by
    rw [z, e] at n
    cases n
  have notD : ∀ {b : Addr} {o : Obj}, hA.get? b = some o → b ≠ dB := fun {b o} q z => absurd (Heap.lt_size q) (Nat.not_lt.mpr (z ▸ up))
  have same : ∀ {b : Addr} {o : HO}, H b = some o → (∀ z, o ≠ exo a C z) → upd (upd H dB (exd dB [(f, y)])) a (exo a C (some dB)) b = some o := fun {b o} q n => by
    rw [upd_ne (fun z => by rw [z, e] at q; exact n _ (Option.some.inj q).symm), upd_ne (ne_of_none q fresh)]
    exact q
  have U : Un X.fs [] H (upd (upd H dB (exd dB [(f, y)])) a (exo a C (some dB))) hA hB :=
    ⟨fun b o q n _ _ => kept b o (notA n) q, fun b o q n _ _ => ⟨o.slots, kept b o (notA n) q⟩, fun b o q n _ => by rw [upd_ne (notA n), upd_ne (notD q)]; exact n,
      fun b o q _ => by
        by_cases hb : b = a
        · exact ⟨_, by rw [hb]; exact atB⟩
        · exact ⟨o, kept b o hb q⟩,
      fun b xs q => same q fun z => exo_tup.symm, fun b o v q => same q fun z => exo_frz.symm, fun b ps q => ⟨#[], by rw [same q fun z => exo_tbl.symm]; simp⟩⟩
  refine h dB _ fresh ne (I.un (t' := tB) U fun b o q => ?_)
  by_cases hb : b = a
  · subst hb
    rw [upd_same] at q
    cases q
    exact exo_ok atB
  · rw [upd_ne hb] at q
    by_cases hd : b = dB
    · subst hd
      rw [upd_same] at q
      cases q
      exact exd_ok nsB (relO_put (fs := []) ry fun g => True.intro)
    · rw [upd_ne hd] at q
      refine (I.hok b o q).stay (fun c v hc z => kept c v ?_ z) (fun c hc => same hc fun z => exo_own.symm) fun c xs hc => same hc fun z => exo_tup.symm
      rcases hc with hc | hc
      · rw [hc]
        exact hb
      · exact fun z => exo_own (Option.some.inj ((z ▸ e).symm.trans hc))
/-- a further one -/
theorem og_more (T : ExG X.K C B newId initId bmB) (I : Inv X pins σ H s) (e : H a = some (exo a C (some dx))) (ed : H dx = some (exd dx fs)) (hl : fs.length ≤ 900) (ht : PySem.W.takerIn X.K C f = some none) (ry : RelV y u)
    (h : ∀ s', Inv X pins σ (upd H dx (exd dx ((f, y) :: fs))) s' → Q () s') : wpAny (model X.prog X.w) A (setAttr (.ref a) f u) Q E s := by
  obtain ⟨t1, at0⟩ := exo_at I.hok e
  obtain ⟨mA, hns, rel⟩ := exd_at I.hok ed
  have hw := within_of rel
  obtain ⟨hA, g, d, t, os⟩ := s
  obtain ⟨oD, _, _, hoD, _, _⟩ := hns.count hw
  refine PySem.W.set_plain I.kIn (ox := { cls := .ref C, dict := some dx, data := .fields #[.ref t1, .none, .none, .none, .bool false, .none] }) (od := some oD) ⟨at0, rfl, rfl, hoD⟩ T.sa ?_
  refine PySem.Ob.put_more T.store I.kIn T.ov ht T.di at0 hns hw (by rw [List.length_map]; omega) fun hB tB kept nsB => ?_
  have there : ∃ o, hB.get? dx = some o := by
    obtain ⟨o, _, _, q, _⟩ := nsB
    exact ⟨o, q⟩
  exact h _ (I.write (t' := tB) (x := dx) (e := dx) (o := exd dx ((f, y) :: fs)) (by rw [ed]; exact True.intro) (.inl rfl) kept there (exd_ok nsB (relO_put ry rel)))
end
/-- what the written part says of an own exception class's fields: they are set and read -/
def OkF (K : PySem.W.Frag) (C : Addr) (f : Str) : Prop := (∃ B newId initId bmB, ExG K C B newId initId bmB) ∧ PySem.W.takerIn K C f = some none
/-- self.f = e -/
def tOg (K : PySem.W.Frag) (f : Str) (to te : TE) : TS := fun D σ H => te σ H fun y H1 => to σ H1 fun x H2 => ∃ a C : Addr, x = .ref a ∧ OkF K C f ∧
  ((H2 a = some (exo a C none) ∧ ∀ dx, H2 dx = none → dx ≠ a → D.nx σ (upd (upd H2 dx (exd dx [(f, y)])) a (exo a C (some dx)))) ∨
    ∃ (dx : Addr) (fs : List (Str × V)), H2 a = some (exo a C (some dx)) ∧ H2 dx = some (exd dx fs) ∧ fs.length ≤ 900 ∧ D.nx σ (upd H2 dx (exd dx ((f, y) :: fs))))
section
variable {X : Cx} {o e : Expr} {to te : TE} {f : Str} {p' pos : Pos}
theorem ps_og (ho : PE X o to) (he : PE X e te) (hs : swapsWith e (some (.Attribute o f p')) pos.line X.env = pure false) : PS X (.Assign [.Attribute o f p'] e pos) (tOg X.K f to te) := by
  refine ⟨fun pinsA σA sA HA DA IA hA => ?_⟩
  refine plainObj_wpAny_Assign_Attribute (thn (he.run pinsA σA sA HA _ IA hA) fun v s1 ⟨y, H1, I1, r1, q1⟩ => thn (ho.run pinsA s1 sA H1 _ I1 q1) fun w2 s2 ⟨x, H2, I2, r2, a, C, ex, ⟨⟨_, _, _, _, T⟩, ht⟩, q⟩ => ?_) hs
  subst ex
  cases r2
  rcases q with ⟨ea, q⟩ | ⟨dx, fs, ea, ed, hl, q⟩
  · exact og_new T I2 ea ht r1 fun dx s' n ne J => ⟨_, _, J, q dx n ne⟩
  · exact og_more T I2 ea ed hl ht r1 fun s' J => ⟨_, _, J, q⟩
end
end Pl
namespace Pl
open PySem PySem.Spec PyProof.Rows L2
section
variable {I : Type} {X : I → Cx} {P : Program} {w : World} {K : PySem.W.Frag} {mg : Str → Option Value} {base : Heap} {k : Nat}
def sOg (okf : Addr → Str → Bool) (f : Str) (fo fe : EF) : SF := fun δ M => match fe δ M with
  | some (y, M1) => (match fo δ M1 with
    | some (.ref n, M2) => (match M2[n]? with
      | some (.exo C none) => if okf C f = true then some (.nx δ ((M2 ++ [MO.exd [(f, y)]]).set n (MO.exo C (some M2.length)))) else none
      | some (.exo C (some m)) => if okf C f = true then (match M2[m]? with
        | some (.exd fs) => if fs.length ≤ 900 then some (.nx δ (M2.set m (MO.exd ((f, y) :: fs)))) else none
        | _ => none) else none
      | _ => none)
    | _ => none)
  | none => none
theorem exo_live {W : Wd} {M : Mh} {x : V} {n : Nat} {C : Addr} (w : W.Ok K M) (r : Rep K W.B W.ι x (.ref n)) (hm : M[n]? = some (.exo C none)) : ∃ a, x = .ref a ∧ Live W M n a (.exo C none) ∧ W.H a = some (exo a C none) := by
  cases r with
  | ref hi =>
    have lv : Live W M n _ (.exo C none) := ⟨hi, hm, fun z => by cases z⟩
    obtain ⟨_, _, o, ho, ro⟩ := w.live _ _ _ lv
    cases ro with
    | exo => exact ⟨_, rfl, lv, ho⟩
theorem exoD_live {W : Wd} {M : Mh} {x : V} {n m : Nat} {C : Addr} {fs : List (Str × D)} (w : W.Ok K M) (r : Rep K W.B W.ι x (.ref n)) (hm : M[n]? = some (.exo C (some m))) (hf : M[m]? = some (.exd fs)) :
    ∃ a d vs, x = .ref a ∧ W.H a = some (exo a C (some d)) ∧ Live W M m d (.exd fs) ∧ W.H d = some (exd d vs) ∧ RepF K W.B W.ι vs fs := by
  cases r with
  | ref hi =>
    obtain ⟨_, _, o, ho, ro⟩ := w.live _ _ _ ⟨hi, hm, fun z => by cases z⟩
    cases ro with
    | exoD hd =>
      have lv : Live W M m _ (.exd fs) := ⟨hd, hf, fun z => by cases z⟩
      obtain ⟨_, _, o2, ho2, ro2⟩ := w.live _ _ _ lv
      cases ro2 with
      | exd rf => exact ⟨_, _, _, rfl, ho, lv, ho2, rf⟩
theorem DS.og {okf : Addr → Str → Bool} (hok : ∀ C f, okf C f = true → OkF K C f) (c : Ctx X P w K mg base k) {o e : Expr} {f : Str} {p' pos : Pos} {fo fe : EF} (b : DE X K o fo) (a : DE X K e fe) (hs : ∀ i, swapsWith e (some (.Attribute o f p')) pos.line (X i).env = pure false := by intro _; rfl) :
    DS X K (.Assign [.Attribute o f p'] e pos) (sOg okf f fo fe) := by
  obtain ⟨te, pe, re⟩ := a.go
  obtain ⟨tO, po, ro⟩ := b.go
  refine ⟨tOg K f tO te, fun i => ?_, fun σ W δ M oo E w s ev q => ?_⟩
  · have h := ps_og (X := X i) (po i) (pe i) (hs i)
    rw [c.K i] at h
    exact h
  · unfold sOg at ev
    split at ev
    · rename_i y M1 h1
      refine re σ W δ M y M1 _ w s h1 fun v W1 l1 w1 r1 => ?_
      split at ev
      · rename_i n M2 h2
        refine ro σ W1 δ M1 _ M2 _ w1 (s.le l1) h2 fun u W2 l2 w2 r2 => ?_
        split at ev
        · rename_i C hm
          split at ev
          · rename_i hf
            cases ev
            obtain ⟨a, rfl, lv, ha⟩ := exo_live w2 r2 hm
            refine ⟨a, C, rfl, hok _ _ hf, .inl ⟨ha, fun dx hn ne => ?_⟩⟩
            have w3 := Wd.new_ok (m := .exd [(f, y)]) (o := exd dx [(f, v)]) w2 hn (.exd (.cons (r1.le l2) .nil))
            have lv3 : Live (W2.new dx (exd dx [(f, v)])) (M2 ++ [.exd [(f, y)]]) n a (.exo C none) := by
              obtain ⟨z1, z2, z3⟩ := lv
              refine ⟨?_, ?_, z3⟩
              · show (W2.ι ++ [dx])[n]? = some a
                rw [List.getElem?_append_left (List.getElem?_eq_some_iff.mp z1).1]
                exact z1
              · rw [List.getElem?_append_left (List.getElem?_eq_some_iff.mp z2).1]
                exact z2
            have w4 := Wd.put_ok (m' := .exo C (some M2.length)) (o := exo a C (some dx)) w3 lv3 (.exoD (by
              show (W2.ι ++ [dx])[M2.length]? = some dx
              rw [← w2.len]
              simp))
            exact q σ _ (((l1.trans l2).trans Wd.new_le).trans Wd.put_le) w4 (((s.le l1).le l2).le Wd.new_le |>.le Wd.put_le)
          · cases ev
        · rename_i C m hm
          split at ev
          · rename_i hf
            split at ev
            · rename_i fs hfs
              split at ev
              · rename_i hl
                cases ev
                obtain ⟨a, d, vs, rfl, ha, lv, hd, rf⟩ := exoD_live w2 r2 hm hfs
                refine ⟨a, C, rfl, hok _ _ hf, .inr ⟨d, vs, ha, hd, by rw [rf.len]; exact hl, ?_⟩⟩
                have w3 := Wd.put_ok (m' := .exd ((f, y) :: fs)) (o := exd d ((f, v) :: vs)) w2 lv (.exd (.cons (r1.le l2) rf))
                exact q σ _ ((l1.trans l2).trans Wd.put_le) w3 (((s.le l1).le l2).le Wd.put_le)
              · cases ev
            · cases ev
          · cases ev
        · cases ev
      · cases ev
    · cases ev
end
end Pl
namespace Pl
open PySem PySem.Spec PyProof.Rows L2
end Pl
namespace PySem
end PySem
namespace Pl
open PySem PySem.Spec PyProof.Rows L2
end Pl
namespace Pl
open PySem PySem.Spec PyProof.Rows L2
end Pl
namespace Pl
open PySem PySem.Spec PyProof.Rows L2
/-- the j-th row of a class -/
def memD (s : Stmt) (j : Nat) : Stmt := match s with
  | .ClassDef _ _ _ body _ _ _ _ _ _ _ => body.getD j s
  | s => s
open Classical in
noncomputable def isaOf (K : PySem.W.Frag) : Addr → Value → Option Bool := fun c v => if L2.ExcC K c then PySem.W.kitOne K (.ref c) v else none
theorem isaOf_ok {K : PySem.W.Frag} : ∀ C v b, isaOf K C v = some b → L2.ExcC K C ∧ PySem.W.kitOne K (.ref C) v = some b := fun C v b h => by
  unfold isaOf at h
  split at h
  · exact ⟨by assumption, h⟩
  · cases h
theorem isaOf_map {K : PySem.W.Frag} {C : Addr} {l : List Value} {bs : List (Option Bool)} (E : L2.ExcC K C) (h : l.map (PySem.W.kitOne K (.ref C)) = bs) : l.map (isaOf K C) = bs := by
  rw [← h]
  refine List.map_congr_left fun v _ => ?_
  unfold isaOf
  rw [if_pos E]
open Classical in
noncomputable def okfOf (K : PySem.W.Frag) : Addr → Str → Bool := fun c f => decide (OkF K c f)
theorem okfOf_ok {K : PySem.W.Frag} : ∀ C f, okfOf K C f = true → OkF K C f := fun C f h => @of_decide_eq_true _ (Classical.propDecidable _) h
theorem okfOf_eq {K : PySem.W.Frag} {C : Addr} {f : Str} (h : OkF K C f) : okfOf K C f = true := @decide_eq_true _ (Classical.propDecidable _) h
open Classical in
noncomputable def okgOf (K : PySem.W.Frag) : Addr → Str → Bool := fun c f => @decide (XfC K c ∧ PySem.W.findIn K (.ref c) f = some none) (Classical.propDecidable _)
theorem okgOf_ok {K : PySem.W.Frag} : ∀ C f, okgOf K C f = true → XfC K C ∧ PySem.W.findIn K (.ref C) f = some none := fun C f h => by
  exact @of_decide_eq_true _ (Classical.propDecidable _) h
theorem okgOf_eq {K : PySem.W.Frag} {C : Addr} {f : Str} (h : XfC K C ∧ PySem.W.findIn K (.ref C) f = some none) : okgOf K C f = true := by
  exact @decide_eq_true _ (Classical.propDecidable _) h
structure LkG (P : Program) (w : World) (K : PySem.W.Frag) (mg : Str → Option Value) (base : Heap) (x : Str) (k : Nat) (ps : List Str) (F : Fn) (C : Addr) (dds : List D) : Prop where
  go : ∃ (fI : Addr) (fd : FuncData) (dvs : List V) (dsv : List Value) (B newId initId : String) (bmB : List Value), ExG K C B newId initId bmB ∧ PySem.W.findIn K (.ref C) "__init__" = some (some (.ref fI)) ∧ PySem.W.typeIn K (.ref fI) = some (.type "function") ∧
    DFn P w K mg base k fI fd ps F ∧ mg x = some (.ref C) ∧ Binds K fd ps dsv ∧ Vals dvs dsv ∧ ∀ B ι, RepL K B ι dvs dds
structure LkT (K : PySem.W.Frag) (mg : Str → Option Value) (x : Str) (C : Addr) : Prop where
  go : ∃ (B newId initId : String) (bmB : List Value), ExcBaseFacts B newId initId bmB ∧ PySem.W.excIn K C bmB newId = true ∧ mg x = some (.ref C) ∧ PySem.W.keepIn K (.ref C) = true
end Pl
namespace Pl
namespace Ev
open PySem L2
section
variable {δ δ' : Pl.Env} {M M1 M2 M3 : Mh} {d e a b : D} {ds zs : List D} {r : Option Out} {u : Option (D × Mh)} {f g h : EF} {t t2 : TF} {s s2 : SF} {p : GF} {q : AF} {x : Bool}
theorem var_ {i : Nat} (h : δ[i]? = some (some d)) : eVar i δ M = some (d, M) := by unfold eVar; rw [h]
theorem tup_ (h : q δ M = some (ds, M1)) (hl : ds.length ≤ 1000) : eTup q δ M = some (.tup ds, M1) := by
  unfold eTup; rw [h]; exact if_pos (Nat.le_trans hl (by decide))
theorem new_ (h : q δ M = some (ds, M1)) (hl : ds.length ≤ 1000) : eNew q δ M = some (.ref M1.length, M1 ++ [.lst ds]) := by
  unfold eNew; rw [h]; exact if_pos (Nat.le_trans hl (by decide))
theorem chain_ {o o2 : O2} (h1 : f δ M = some (a, M1)) (h2 : g δ M1 = some (b, M2)) (h3 : o a b M2 = some (.bl x, M3)) (k : (bif x then eOp o2 (eC b) h δ M3 else some (.bl false, M3)) = u) : eChain o o2 f g h δ M = u := by
  unfold eChain; rw [h1]; dsimp only; rw [h2]; dsimp only; rw [h3]
  cases x
  · exact k
  · rw [← k]
    show _ = eOp o2 (eC b) h δ M3
    unfold eOp
    rfl
theorem tnt_ (h1 : t δ M = some (x, M1)) : tNt t δ M = some (!x, M1) := by unfold tNt; rw [h1]
theorem tt_ : tTrue δ M = some (true, M) := (fun h => h) (by unfold tTrue; rfl)
theorem snil_ : sNil δ M = some (.nx δ M) := (fun h => h) (by unfold sNil; rfl)
theorem sas_ (h1 : f δ M = some (d, M1)) (h2 : p d δ = some δ') : sAs f p δ M = some (.nx δ' M1) := by
  unfold sAs; rw [h1]; dsimp only; rw [h2]
theorem spar_ {i j : Nat} (h1 : f δ M = some (d, M1)) (h2 : g δ M1 = some (e, M2)) (h3 : (some ((δ.set i (some d)).set j (some e)) : Option Pl.Env) = some δ') : sPar i j f g δ M = some (.nx δ' M2) := by
  cases h3; unfold sPar; rw [h1]; dsimp only; rw [h2]
theorem seq_ (h1 : s δ M = some (.nx δ' M1)) (k : s2 δ' M1 = r) : sSeq s s2 δ M = r := by
  unfold sSeq; rw [h1]; exact k
theorem ret_ (h1 : f δ M = some (d, M1)) : sRet f δ M = some (.rt d M1) := by unfold sRet; rw [h1]
theorem se_ (h1 : f δ M = some (d, M1)) : sE f δ M = some (.nx δ M1) := by unfold sE; rw [h1]
theorem for_ {s : SF} (h1 : q δ M = some (ds, M1)) (k : forGo p s ds δ M1 = r) : sFor q p s δ M = r := by
  unfold sFor; rw [h1]; exact k
theorem forN_ {s : SF} : forGo p s [] δ M = some (.nx δ M) := (fun h => h) (by unfold forGo; rfl)
theorem forC_ {s : SF} {δ1 δ2 : Pl.Env} (h1 : p d δ = some δ1) (h2 : s δ1 M = some (.nx δ2 M2)) (k : forGo p s ds δ2 M2 = r) : forGo p s (d :: ds) δ M = r := by
  unfold forGo; rw [h1]; dsimp only; rw [h2]; exact k
theorem lc_ {vs : List Nat} {ys : List D} {δ1 : Pl.Env} (h : q δ M = some (ds, M1)) (hw : (some (wipeD δ vs) : Option Pl.Env) = some δ1) (k : lcGo p t f ds δ1 M1 = some (ys, M2)) (hl : ys.length ≤ 1000) : eLc vs q p t f δ M = some (.lst ys, M2) := by
  cases hw; unfold eLc; rw [h]; dsimp only; rw [k]; exact if_pos (Nat.le_trans hl (by decide))
theorem lcN_ : lcGo p t f [] δ M = some ([], M) := (fun h => h) (by unfold lcGo; rfl)
/-- one member is told, then the others -/
def lcK (p : GF) (t : TF) (f : EF) (ds : List D) (δ δ1 : Pl.Env) (M1 : Mh) : Option (List D × Mh) := match f δ1 M1 with | some (y, M2) => (match lcGo p t f ds δ M2 with | some (ys, M3) => some (y :: ys, M3) | none => none) | none => none
theorem lcC_ {δ1 : Pl.Env} {w : Option (List D × Mh)} (h1 : p d δ = some δ1) (h2 : t δ1 M = some (x, M1)) (k : (bif x then lcK p t f ds δ δ1 M1 else lcGo p t f ds δ M1) = w) : lcGo p t f (d :: ds) δ M = w := by
  conv => lhs; unfold lcGo
  unfold lcK at k
  rw [h1]; dsimp only; rw [h2]; cases x <;> exact k
theorem lcY_ {ys : List D} {δ1 : Pl.Env} (h3 : f δ1 M1 = some (e, M2)) (k : lcGo p t f ds δ M2 = some (ys, M3)) : lcK p t f ds δ δ1 M1 = some (e :: ys, M3) := by
  unfold lcK; rw [h3]; dsimp only; rw [k]
theorem fn_ {n : Nat} {s : SF} {δ0 : Pl.Env} (h0 : (some (startD n ds) : Option Pl.Env) = some δ0) (h : s δ0 M = some (.rt d M1)) : fnF n s ds M = some (d, M1) := by
  cases h0; unfold fnF; rw [h]
theorem fnN_ {n : Nat} {s : SF} {δ0 : Pl.Env} (h0 : (some (startD n ds) : Option Pl.Env) = some δ0) (h : s δ0 M = some (.nx δ' M1)) : fnF n s ds M = some (.non, M1) := by
  cases h0; unfold fnF; rw [h]
theorem rng1_ {j : Int} (h : q δ M = some ([.int j], M1)) (hj : -(2 ^ 62) ≤ j ∧ j < 2 ^ 62) : aRng1 q δ M = some (rng 0 j, M1) := by
  unfold aRng1; rw [h]; exact if_pos hj
theorem itemsT_ (h : f δ M = some (.tup ds, M1)) : aItems f δ M = some (ds, M1) := by unfold aItems; rw [h]
theorem itemsL_ (h : f δ M = some (.lst ds, M1)) : aItems f δ M = some (ds, M1) := by unfold aItems; rw [h]
end
end Ev
end Pl
namespace Pl
open PySem PySem.Spec PyProof.Rows L2
section
variable {I : Type} {X : I → Cx} {P : Program} {w : World} {K : PySem.W.Frag} {mg : Str → Option Value} {base : Heap} {k : Nat}
/-- each function that a name may hold here, by its address -/
structure LkV (P : Program) (w : World) (K : PySem.W.Frag) (mg : Str → Option Value) (base : Heap) (k n : Nat) (tab : Addr → Option Fn) : Prop where
  go : ∀ a F, tab a = some F → ∃ (fd : FuncData) (ps : List Str), DFn P w K mg base k a fd ps F ∧ ps.length = n ∧ PySem.W.keepIn K (.ref a) = true ∧ Binds K fd ps []
def eCallV (tab : Addr → Option Fn) (j : Nat) (g : AF) : EF := fun δ M => match δ[j]? with
  | some (some (.ob a)) => (match tab a with
    | some F => (match g δ M with
      | some (ds, M1) => F ds M1
      | none => none)
    | none => none)
  | _ => none
theorem DE.cv (j : Nat) (c : Ctx X P w K mg base k) {x : Str} {p pos : Pos} {e : Expr} {es : List Expr} {g : AF} {tab : Addr → Option Fn} {kf n : Nat} (h : LkV P w K mg base kf n tab) (hk : kf ≤ k) (hn : (e :: es).length = n) (ha : DA X K (e :: es) g)
    (hlen : ∀ δ M ds M', g δ M = some (ds, M') → ds.length = (e :: es).length) (hN : ∀ i, (X i).N[j]? = some x := by intro _; rfl) (hv : ∀ i, Vis (X i).env.scope x := by intro _; first | exact Or.inl rfl | exact Or.inr (Or.inl rfl) | exact Or.inr (Or.inr rfl))
    (hdbg : (x == ("__debug__" : Str)) = false := by decide) (hcd : (x == ("__classdict__" : Str)) = false := by decide) (he : ∀ i, starEach (e :: es) (X i).env = (false, eval e (X i).env) :: starEach es (X i).env := by intro _; rfl) (hpl : ∀ i, (backTo pos (starEach es (X i).env)).any (·.1) = false := by intro _; rfl) :
    DE X K (.Call (.Name x p) (e :: es) [] pos) (eCallV tab j g) := by
  obtain ⟨t, pa, ra⟩ := ha.go
  refine ⟨fun σ H Q => ∃ (a : Addr) (F : Fn) (fd : FuncData) (ps : List Str), σ[j]? = some (some (.ref a)) ∧ DFn P w K mg base kf a fd ps F ∧ PySem.W.keepIn K (.ref a) = true ∧ Binds K fd ps [] ∧ t σ H fun vs H1 => spD K ps.length F vs H1 Q, fun i => ⟨fun pins s σ H Q J q => ?_⟩, fun σ W δ M d M' Q w s ev q => ?_⟩
  · obtain ⟨a, F, fd, ps, ea, hF, kp, hb, q⟩ := q
    have cK := c.K i
    have var := (pe_var (X := X i) (pos := p) (hN i) (hv i) hdbg hcd).run pins s σ H (fun v H' => v = .ref a ∧ H' = H) J ⟨.ref a, ea, rfl, rfl⟩
    refine wpAny_Call_Name_kw (thn var fun u s0 ⟨v, H0, J0, r0, e1, e2⟩ => ?_)
    subst e1 e2
    cases r0
    refine PySem.W.callWith_K (h₀ := (X i).base) J0.ok.mod.kin (by rw [cK]; exact kp) (thn ((pa i).run pos pins s0 σ H0 _ J0 q) fun us s1 ⟨vs, H1, J1, r, q1⟩ => ⟨J1.kIn, ?_⟩) (he i) (hpl i)
    obtain ⟨W, M, ds, d, M', a1, a2, a3, a4, a5, a6⟩ := id q1
    have h' : DFn (X i).prog (X i).w (X i).K (X i).mg (X i).base k a fd ps F := by
      rw [c.prog i, c.wd i, c.K i, c.mg i, c.base i]
      exact hF.mono hk
    refine run_dfn (ks := []) (ws := []) (us := us) (us' := us) h' (c.room i) (c.grd i) J1 (by
      have := hb s1 us (by rw [← cK]; exact J1.kIn) (by rw [List.append_nil, ← r.length, a3.len, a4])
      rw [List.append_nil] at this
      exact this) r (by rw [cK]; exact q1)
  · unfold eCallV at ev
    split at ev
    · rename_i a hd
      split at ev
      · rename_i F hF
        split at ev
        · rename_i ds M1 h1
          obtain ⟨v, hv1, rv⟩ := s.at_ _ _ hd
          cases rv
          obtain ⟨fd, ps, f1, f2, f3, f4⟩ := h.go a F hF
          refine ⟨a, F, fd, ps, hv1, f1, f3, f4, ?_⟩
          refine ra σ W δ M ds M1 _ w s h1 fun vs W1 l1 w1 r1 => ⟨W1, M1, ds, d, M', rfl, w1, r1, ?_, ev, q.le l1⟩
          rw [hlen _ _ _ _ h1, f2, hn]
        · cases ev
      · cases ev
    · cases ev
end
end Pl
namespace Pl
open PySem PySem.Spec PyProof.Rows L2
section
variable {X : Cx}
theorem call_list_txt (hc : X.calm = true) : CallR X (.type "list") (fun xs H Q => ∃ x : Str, xs = [.str x] ∧ x.length ≤ sizeLine ∧ ∀ l, H l = none → Q (.ref l) (upd H l (.lst (x.cps.toList.map fun c => .str ⟨#[c]⟩)))) := by
  intro pins s σ H xs us Q J r h
  obtain ⟨x, rfl, hz, q⟩ := h
  obtain ⟨u, rfl, rx⟩ := vals1 r
  obtain ⟨t, rfl⟩ := rx
  refine call_list_str (J.ok.hd hc) x t (fun h' tk acc c' kp hS hI => ?_) hz
  have rel : Vals (x.cps.toList.map fun c => V.str ⟨#[c]⟩) acc.toList := by
    obtain ⟨sz, hat⟩ := hI
    have go : ∀ (l : List Nat) (us : List Value), us.length = l.length → (∀ (j : Nat) (v : Value), us[j]? = some v → ∃ (c : Nat) (u : Tok), l[j]? = some c ∧ v = .str ⟨#[c]⟩ u) → Vals (l.map fun c => V.str ⟨#[c]⟩) us := by
      intro l
      induction l with
      | nil =>
        intro us hl _
        cases us with
        | nil => exact .nil
        | cons _ _ => cases hl
      | cons c l ih =>
        intro us hl h
        cases us with
        | nil => cases hl
        | cons v us =>
          obtain ⟨c', u, e1, e2⟩ := h 0 v rfl
          cases e1
          exact .cons ⟨u, e2⟩ (ih us (Nat.succ.inj hl) fun j w e => h (j + 1) w e)
    refine go _ _ (by rw [Array.length_toList, Array.length_toList, sz]) fun j v e => ?_
    obtain ⟨c, u, e1, e2⟩ := hat j v (by simpa using e)
    exact ⟨c, u, by simpa using e1, e2⟩
  exact ⟨.ref s.heap.objs.size, _, J.laid (t' := tk) kp (Nat.le_refl _) (show ObjOk X.prog X.w _ h' _ (.lst _) from ⟨by rw [List.length_map, Array.length_toList]; exact hz, acc.toList, c', rel, by simpa using hS⟩), rfl, q _ (J.hok.fresh (Nat.le_refl _))⟩
end
section
variable {I : Type} {X : I → Cx} {P : Program} {w : World} {K : PySem.W.Frag} {mg : Str → Option Value} {base : Heap} {k : Nat}
theorem signs_rep {B : Hp} {ι : List Addr} : ∀ l : List Nat, RepL K B ι (l.map fun c => V.str ⟨#[c]⟩) (l.map fun c => D.str ⟨#[c]⟩)
  | [] => .nil
  | _ :: l => .cons (.str _) (signs_rep l)
def gLstA : GL := fun ds M => match ds with
  | [.str x] => if x.length ≤ sizeLine then some (.lst (x.cps.toList.map fun c => .str ⟨#[c]⟩), M) else none
  | ds => gLstOf ds M
theorem cLstA (c : Ctx X P w K mg base k) : CalF X K (.type "list") gLstA := by
  obtain ⟨r, hr, hq⟩ := (cLstOf c).go
  refine ⟨fun xs H Q => (∃ x : Str, xs = [.str x] ∧ x.length ≤ sizeLine ∧ ∀ l, H l = none → Q (.ref l) (upd H l (.lst (x.cps.toList.map fun c => .str ⟨#[c]⟩)))) ∨ r xs H Q, fun i => CallR.or (call_list_txt (c.calm i)) (hr i), fun W M vs ds z M' Q w rp e q => ?_⟩
  unfold gLstA at e
  split at e
  · rename_i x
    split at e
    · rename_i hz
      cases e
      cases rp with
      | cons r1 r2 =>
        cases r2
        cases r1
        refine .inl ⟨x, rfl, hz, fun l hl => ?_⟩
        obtain ⟨l2, w2, r3⟩ := lay_lst w hl (signs_rep x.cps.toList)
        exact q _ _ l2 w2 r3
    · cases e
  · exact .inr (hq W M vs _ z M' Q w rp e q)
/-- a + b, two lists, as a list that changes on -/
def eAddN (f g : EF) : EF := fun δ M => match f δ M with
  | some (a, M1) => (match g δ M1 with
    | some (b, M2) => (match lstT M2 a, lstT M2 b with
      | some xs, some ys => if xs.length + ys.length ≤ sizeLine then some (.ref M2.length, M2 ++ [.lst (xs ++ ys)]) else none
      | _, _ => none)
    | none => none)
  | none => none
theorem DE.addN {a b : Expr} {pos : Pos} {f g : EF} (ha : DE X K a f) (hb : DE X K b g) : DE X K (.BinOp a .Add b pos) (eAddN f g) := by
  obtain ⟨ta, pa, ra⟩ := ha.go
  obtain ⟨tb, pb, rb⟩ := hb.go
  refine ⟨tOp rCat ta tb, fun i => pe_op op_cat (pa i) (pb i), fun σ W δ M d M' Q w s e q => ?_⟩
  unfold eAddN at e
  split at e
  · rename_i a' M1 h1
    split at e
    · rename_i b' M2 h2
      split at e
      · rename_i xs ys h3 h4
        split at e
        · rename_i hz
          cases e
          refine ra σ W δ M a' M1 _ w s h1 fun x W1 l1 w1 r1 => ?_
          refine rb σ W1 δ M1 b' M2 _ w1 (s.le l1) h2 fun y W2 l2 w2 r2 => ?_
          obtain ⟨p1, vs, rfl, e1, q1⟩ := lstT_rep w2 (r1.le l2) h3
          obtain ⟨p2, us, rfl, e2, q2⟩ := lstT_rep w2 r2 h4
          refine ⟨p1, p2, vs, us, rfl, rfl, e1, e2, by rw [q1.len, q2.len]; exact hz, fun p hp => ?_⟩
          exact q _ (W2.new p (.lst (vs ++ us))) ((l1.trans l2).trans Wd.new_le) (Wd.new_ok w2 hp (.lst (q1.append q2))) (.ref (by
            show (W2.ι ++ [p])[M2.length]? = some p
            rw [← w2.len]
            simp))
        · cases e
      · cases e
    · cases e
  · cases e
end
end Pl
namespace Pl
open PySem PySem.Spec PyProof.Rows L2
end Pl
namespace Pl
open PySem PySem.Spec PyProof.Rows L2
section
variable {I : Type} {X : I → Cx} {P : Program} {w : World} {K : PySem.W.Frag} {mg : Str → Option Value} {base : Heap} {k : Nat}
theorem DFn.none {f : Addr} {fd : FuncData} {ps : List Str} : DFn P w K mg base k f fd ps (fun _ _ => none) :=
  ⟨fun A outer s H args us vs Q r g e b v q => by
    obtain ⟨W, M, ds, d, M', a1, a2, a3, a4, a5, a6⟩ := id q
    cases a5⟩
end
end Pl
namespace Pl
open PySem L2
end Pl
namespace L2
open PySem PySem.Spec PyProof.Rows
end L2
namespace Pl
open PySem L2
/-- how a statement ends: as it does, or by an exception of the module's class of that name -/
inductive XOQ where
  | ok (o : Out) | ex (y : Str) (fs : List (Str × D)) (δ : Env) (M : Mh)
  /-- one without fields -/
  | ep (y : Str) (δ : Env) (M : Mh)
inductive EOQ where
  | v (d : D) (M : Mh) | ex (y : Str) (fs : List (Str × D)) (M : Mh) | ep (y : Str) (M : Mh)
abbrev XFQ := Env → Mh → Option XOQ
abbrev EXQ := Env → Mh → Option EOQ
abbrev FnQ := List D → Mh → Option EOQ
/-- an exception's dict, told -/
def FsAt (K : PySem.W.Frag) (W : Wd) (M : Mh) (dx : Addr) (vs : List (Str × V)) (fs : List (Str × D)) : Prop := W.H dx = some (.xd vs) ∧ RepF K W.B W.ι vs fs ∧ W.B dx = none ∧ W.P dx = none ∧ ∀ n o, ¬ Live W M n dx o
def PostXQ (K : PySem.W.Frag) (mg : Str → Option Value) (S : WX) (E : Ends) (W : Wd) : XOQ → Prop
  | .ok o => Post K E W o
  | .ex y fs δ M => ∀ C σ W' dx vs, mg y = some (.ref C) → W.Le W' → W'.Ok K M → Slots K W' σ δ → FsAt K W' M dx vs fs → S (.ref C) (some dx) σ W'.H
  | .ep y δ M => ∀ C σ W', mg y = some (.ref C) → W.Le W' → W'.Ok K M → Slots K W' σ δ → S (.ref C) none σ W'.H
theorem PostXQ.le {K : PySem.W.Frag} {mg : Str → Option Value} {S : WX} {E : Ends} {W W1 : Wd} {o : XOQ} (l : W.Le W1) (h : PostXQ K mg S E W o) : PostXQ K mg S E W1 o := by
  cases o with
  | ok o => exact Post.le l h
  | ex y fs δ M => exact fun C σ W' dx vs m a b c z => h C σ W' dx vs m (l.trans a) b c z
  | ep y δ M => exact fun C σ W' m a b c => h C σ W' m (l.trans a) b c
def PostEQ (K : PySem.W.Frag) (mg : Str → Option Value) (S : Value → Option Addr → Hp → Prop) (Q : VK) (W : Wd) : EOQ → Prop
  | .v d M => VR K W d M Q
  | .ex y fs M => ∀ C W' dx vs, mg y = some (.ref C) → W.Le W' → W'.Ok K M → FsAt K W' M dx vs fs → S (.ref C) (some dx) W'.H
  | .ep y M => ∀ C W', mg y = some (.ref C) → W.Le W' → W'.Ok K M → S (.ref C) none W'.H
theorem PostEQ.le {K : PySem.W.Frag} {mg : Str → Option Value} {S : Value → Option Addr → Hp → Prop} {Q : VK} {W W1 : Wd} {o : EOQ} (l : W.Le W1) (h : PostEQ K mg S Q W o) : PostEQ K mg S Q W1 o := by
  cases o with
  | v d M => exact VR.le h l
  | ex y fs M => exact fun C W' dx vs m a b z => h C W' dx vs m (l.trans a) b z
  | ep y M => exact fun C W' m a b => h C W' m (l.trans a) b
def SRQ (K : PySem.W.Frag) (mg : Str → Option Value) (S : WX) (t : TS) (f : XFQ) : Prop := ∀ (σ : St) (W : Wd) (δ : Env) (M : Mh) (o : XOQ) (E : Ends), W.Ok K M → Slots K W σ δ → f δ M = some o → PostXQ K mg S E W o → t E σ W.H
def ERQ (K : PySem.W.Frag) (mg : Str → Option Value) (S : WX) (t : TE) (f : EXQ) : Prop := ∀ (σ : St) (W : Wd) (δ : Env) (M : Mh) (o : EOQ) (Q : VK), W.Ok K M → Slots K W σ δ → f δ M = some o → PostEQ K mg (fun c d H => S c d σ H) Q W o → t σ W.H Q
section
variable {I : Type}
structure DSQ (X : I → Cx) (K : PySem.W.Frag) (mg : Str → Option Value) (S : WX) (s : Stmt) (f : XFQ) : Prop where
  go : ∃ t : TS, (∀ i, PS (X i) s t) ∧ SRQ K mg S t f
structure DBQ (X : I → Cx) (K : PySem.W.Frag) (mg : Str → Option Value) (S : WX) (s : List Stmt) (f : XFQ) : Prop where
  go : ∃ t : TS, (∀ i, PSs (X i) s t) ∧ SRQ K mg S t f
structure DEQ (X : I → Cx) (K : PySem.W.Frag) (mg : Str → Option Value) (S : WX) (e : Expr) (f : EXQ) : Prop where
  go : ∃ t : TE, (∀ i, PE (X i) e t) ∧ ERQ K mg S t f
variable {X : I → Cx} {P : Program} {w : World} {K : PySem.W.Frag} {mg : Str → Option Value} {base : Heap} {k : Nat} {S : WX}
def qOk (f : SF) : XFQ := fun δ M => match f δ M with
  | some o => some (.ok o)
  | none => none
theorem srq_ok {t : TS} {f : SF} (r : SR K t f) : SRQ K mg S t (qOk f) := fun σ W δ M o E w s e q => by
  unfold qOk at e
  split at e
  · rename_i o' h
    cases e
    exact r σ W δ M o' E w s h q
  · cases e
theorem DBQ.lift {s : List Stmt} {f : SF} (a : DB X K s f) : DBQ X K mg S s (qOk f) := by
  obtain ⟨t, p, r⟩ := a.go
  exact ⟨t, p, srq_ok r⟩
theorem DSQ.lift {s : Stmt} {f : SF} (a : DS X K s f) : DSQ X K mg S s (qOk f) := by
  obtain ⟨t, p, r⟩ := a.go
  exact ⟨t, p, srq_ok r⟩
def qSeq (f g : XFQ) : XFQ := fun δ M => match f δ M with
  | some (.ok (.nx δ' M')) => g δ' M'
  | o => o
theorem DBQ.cons {s : Stmt} {ss : List Stmt} {f g : XFQ} (a : DSQ X K mg S s f) (b : DBQ X K mg S ss g) : DBQ X K mg S (s :: ss) (qSeq f g) := by
  obtain ⟨ta, pa, ra⟩ := a.go
  obtain ⟨tb, pb, rb⟩ := b.go
  refine ⟨tSeq ta tb, fun i => pss_cons (pa i) (pb i), fun σ W δ M o E w s e q => ?_⟩
  unfold qSeq at e
  split at e
  · rename_i δ' M' h1
    refine ra σ W δ M _ _ w s h1 fun σ' W1 l1 w1 s1 => ?_
    exact rb σ' W1 δ' M' o E w1 s1 e (q.le l1)
  · rename_i hn
    refine ra σ W δ M o _ w s e ?_
    match o, e, q with
    | .ok (.nx δ' M'), e, q => exact absurd e (hn δ' M')
    | .ok (.bk _ _), e, q => exact q
    | .ok (.ct _ _), e, q => exact q
    | .ok (.rt _ _), e, q => exact q
    | .ex _ _ _ _, e, q => exact q
    | .ep _ _ _, e, q => exact q
theorem DBQ.one {s : Stmt} {f : XFQ} (a : DSQ X K mg S s f) : DBQ X K mg S [s] f := by
  obtain ⟨t, p, r⟩ := a.go
  exact ⟨t, fun i => pss_one (p i), r⟩
def qIf (t : TF) (f g : XFQ) : XFQ := fun δ M => match t δ M with
  | some (true, M1) => f δ M1
  | some (false, M1) => g δ M1
  | none => none
theorem DSQ.ite {c : Expr} {a b : List Stmt} {pos} {t : TF} {f g : XFQ} (h : DT X K c t) (ha : DBQ X K mg S a f) (hb : DBQ X K mg S b g) : DSQ X K mg S (.If c a b pos) (qIf t f g) := by
  obtain ⟨tt, p, r⟩ := h.go
  obtain ⟨ta, pa, ra⟩ := ha.go
  obtain ⟨tb, pb, rb⟩ := hb.go
  refine ⟨_, fun i => ps_if (p i) (pa i) (pb i), fun σ W δ M o E w s e q => ?_⟩
  unfold qIf at e
  split at e
  · rename_i M1 h1
    exact r σ W δ M true M1 _ w s h1 fun W1 l1 w1 => ifT (ra σ W1 δ M1 o E w1 (s.le l1) e (q.le l1))
  · rename_i M1 h1
    exact r σ W δ M false M1 _ w s h1 fun W1 l1 w1 => ifF (rb σ W1 δ M1 o E w1 (s.le l1) e (q.le l1))
  · cases e
def spDQ (K : PySem.W.Frag) (mg : Str → Option Value) (n : Nat) (F : FnQ) (vs : List V) (H : Hp) (Q : VK) (E : XK) : Prop :=
  ∃ W M ds o, W.H = H ∧ W.Ok K M ∧ RepL K W.B W.ι vs ds ∧ ds.length = n ∧ F ds M = some o ∧ PostEQ K mg E Q W o
structure DFnQ (P : Program) (w : World) (K : PySem.W.Frag) (mg : Str → Option Value) (base : Heap) (k : Nat) (f : Addr) (fd : FuncData) (ps : List Str) (F : FnQ) : Prop where
  run : ∀ (A : Around) (outer : List PySem.Env) (s : Shared) (H : Hp) (args : Args) (us : List Value) (vs : List V) (Q : VK) (E : XK), Room k A → A.guards = some [] → Env0 P w K mg base A outer s H → BindsTo s fd args (ps.zip us) → Vals vs us →
    spDQ K mg ps.length F vs H Q E → codeAny (model P w) A (.call (.ref f) args) (CR (L2.CX P w) outer P w H s Q E) s
theorem DFnQ.mono {f : Addr} {fd : FuncData} {ps : List Str} {F : FnQ} {j : Nat} (h : DFnQ P w K mg base j f fd ps F) (l : j ≤ k) : DFnQ P w K mg base k f fd ps F :=
  ⟨fun A outer s H args us vs Q E r g => h.run A outer s H args us vs Q E (r.mono l) g⟩
theorem run_dfnQ {Y : Cx} {pins : List (Addr × Obj)} {σ : L2.St} {H : Hp} {s : Shared} {Q : VK} {f : Addr} {fd : FuncData} {ps ks : List Str} {F : FnQ} {us ws us' : List Value} {vs : List V} (h : DFnQ Y.prog Y.w Y.K Y.mg Y.base k f fd ps F) (room : Room k Y.A) (grd : Y.A.guards = some []) (tk : Takes Y S)
    (J : Inv Y pins σ H s) (hb : BindsTo s fd ⟨us, ks.zip ws⟩ (ps.zip us')) (r : Vals vs us') (q : spDQ Y.K Y.mg ps.length F vs H Q (fun c d H' => S c d σ H')) : wpAny (model Y.prog Y.w) Y.A (call (.ref f) us (ks.zip ws)) (EP Y pins σ Q) Y.xe s := by
  refine wpAny_call (codeAny_mono (h.run Y.A Y.stack s H _ us' vs Q _ room grd J.env0 hb r q) fun o s' ho => ?_)
  match o, ho with
  | .ok (.ret u), ho => exact J.after ho
  | .ok .next, ho => exact False.elim ho
  | .ok .brk, ho => exact False.elim ho
  | .ok .cont, ho => exact False.elim ho
  | .error _, ho => exact passAt tk σ pins H s _ s' J ho
def qCall (F : FnQ) (g : AF) (dds : List D) : EXQ := fun δ M => match g δ M with
  | some (ds, M1) => F (ds ++ dds) M1
  | none => none
theorem DEQ.call (c : Ctx X P w K mg base k) (tk : ∀ i, Takes (X i) S) {x : Str} {p pos : Pos} {e : Expr} {es : List Expr} {g : AF} {f : Addr} {fd : FuncData} {ps : List Str} {F : FnQ} {kf : Nat} {dvs : List V} {dds : List D} {dsv : List Value} (h : DFnQ P w K mg base kf f fd ps F) (hk : kf ≤ k)
    (hm : mg x = some (.ref f)) (kp : PySem.W.keepIn K (.ref f) = true) (hb : Binds K fd ps dsv) (hd : Vals dvs dsv) (hr : ∀ B ι, RepL K B ι dvs dds) (hn : (e :: es).length + dds.length = ps.length) (ha : DA X K (e :: es) g) (hlen : ∀ δ M ds M', g δ M = some (ds, M') → ds.length = (e :: es).length) (hg : ∀ i, Gl (X i) x := by intro _; rfl)
    (hdbg : (x == ("__debug__" : Str)) = false := by decide) (he : ∀ i, starEach (e :: es) (X i).env = (false, eval e (X i).env) :: starEach es (X i).env := by intro _; rfl) (hpl : ∀ i, (backTo pos (starEach es (X i).env)).any (·.1) = false := by intro _; rfl) :
    DEQ X K mg S (.Call (.Name x p) (e :: es) [] pos) (qCall F g dds) := by
  obtain ⟨t, pa, ra⟩ := ha.go
  refine ⟨fun σ H Q => t σ H fun vs H1 => spDQ K mg ps.length F (vs ++ dvs) H1 Q (fun c d H' => S c d σ H'), fun i => ⟨fun pins s σ H Q J q => ?_⟩, fun σ W δ M o Q w s ev q => ?_⟩
  · have cK := c.K i
    have cmg := c.mg i
    refine wpAny_Call_Name_kw (ld_glob J (hg i) (by rw [c.mg i]; exact hm) ?_ hdbg)
    refine PySem.W.callWith_K (h₀ := (X i).base) J.ok.mod.kin (by rw [cK]; exact kp) (thn ((pa i).run pos pins s σ H _ J q) fun us s1 ⟨vs, H1, J1, r, q1⟩ => ⟨J1.kIn, ?_⟩) (he i) (hpl i)
    obtain ⟨W, M, ds, o, a1, a2, a3, a4, a5, a6⟩ := id q1
    have h' : DFnQ (X i).prog (X i).w (X i).K (X i).mg (X i).base k f fd ps F := by
      rw [c.prog i, c.wd i, c.K i, c.mg i, c.base i]
      exact h.mono hk
    have r2 := r.append hd
    refine run_dfnQ (ks := []) (ws := []) (us := us) h' (c.room i) (c.grd i) (tk i) J1 (hb s1 us (by rw [← cK]; exact J1.kIn) ?_) r2 (by rw [cK, cmg]; exact q1)
    rw [← r2.length, a3.len, a4]
  · unfold qCall at ev
    split at ev
    · rename_i ds M1 h1
      refine ra σ W δ M ds M1 _ w s h1 fun vs W1 l1 w1 r1 => ⟨W1, M1, ds ++ dds, o, rfl, w1, r1.append (hr _ _), ?_, ev, q.le l1⟩
      rw [List.length_append, hlen _ _ _ _ h1]
      exact hn
    · cases ev
structure LkQ (P : Program) (w : World) (K : PySem.W.Frag) (mg : Str → Option Value) (base : Heap) (x : Str) (k : Nat) (ps : List Str) (F : FnQ) : Prop where
  go : ∃ (f : Addr) (fd : FuncData), DFnQ P w K mg base k f fd ps F ∧ mg x = some (.ref f) ∧ PySem.W.keepIn K (.ref f) = true ∧ Binds K fd ps []
theorem DEQ.cl (c : Ctx X P w K mg base k) (tk : ∀ i, Takes (X i) S) {x : Str} {p pos : Pos} {e : Expr} {es : List Expr} {g : AF} {ps : List Str} {F : FnQ} {kf : Nat} (h : LkQ P w K mg base x kf ps F) (hk : kf ≤ k) (hn : (e :: es).length = ps.length) (ha : DA X K (e :: es) g) (hlen : ∀ δ M ds M', g δ M = some (ds, M') → ds.length = (e :: es).length) (hg : ∀ i, Gl (X i) x := by intro _; rfl)
    (hdbg : (x == ("__debug__" : Str)) = false := by decide) (he : ∀ i, starEach (e :: es) (X i).env = (false, eval e (X i).env) :: starEach es (X i).env := by intro _; rfl) (hpl : ∀ i, (backTo pos (starEach es (X i).env)).any (·.1) = false := by intro _; rfl) :
    DEQ X K mg S (.Call (.Name x p) (e :: es) [] pos) (qCall F g []) := by
  obtain ⟨f, fd, h1, h2, h3, h4⟩ := h.go
  exact DEQ.call c tk h1 hk h2 h3 h4 .nil (fun _ _ => .nil) hn ha hlen hg hdbg he hpl
def qAs (f : EXQ) (j : Nat) : XFQ := fun δ M => match f δ M with
  | some (.v d M1) => some (.ok (.nx (δ.set j (some d)) M1))
  | some (.ex y fs M1) => some (.ex y fs δ M1)
  | some (.ep y M1) => some (.ep y δ M1)
  | none => none
theorem DSQ.set (j : Nat) {x : Str} {e : Expr} {pos pos'} {f : EXQ} (a : DEQ X K mg S e f) (hN : ∀ i, (X i).N.Nodup) (hi : ∀ i, (X i).N[j]? = some x := by intro _; rfl) (hx : ∀ i, Loc (X i).env.scope x := by intro _; first | exact Or.inl rfl | exact Or.inr rfl)
    (hs : ∀ i, swapsWith e (some (.Name x pos')) pos.line (X i).env = pure false := by intro _; rfl) (hf : ∀ i, (X i).fn x = true ∨ (X i).env.scope.names.lookup x = some .local := by intro _; first | exact Or.inl rfl | exact Or.inr rfl) :
    DSQ X K mg S (.Assign [.Name x pos'] e pos) (qAs f j) := by
  obtain ⟨t, p, r⟩ := a.go
  refine ⟨tAsg t (gName j), fun i => ps_set (hN i) (hi i) (hx i) (p i) (hs i) (hf i), fun σ W δ M o E w s ev q => ?_⟩
  unfold qAs at ev
  split at ev
  · rename_i d M1 h1
    cases ev
    exact r σ W δ M _ _ w s h1 fun v W1 l1 w1 r1 => q _ W1 l1 w1 ((s.le l1).set r1 j)
  · rename_i y fs M1 h1
    cases ev
    exact r σ W δ M _ _ w s h1 fun C W1 dx vs m l1 w1 z => q C σ W1 dx vs m l1 w1 (s.le l1) z
  · rename_i y M1 h1
    cases ev
    exact r σ W δ M _ _ w s h1 fun C W1 m l1 w1 => q C σ W1 m l1 w1 (s.le l1)
  · cases ev
def qRet (f : EXQ) : XFQ := fun δ M => match f δ M with
  | some (.v d M1) => some (.ok (.rt d M1))
  | some (.ex y fs M1) => some (.ex y fs δ M1)
  | some (.ep y M1) => some (.ep y δ M1)
  | none => none
theorem DSQ.ret {e : Expr} {pos} {f : EXQ} (a : DEQ X K mg S e f) : DSQ X K mg S (.Return (some e) pos) (qRet f) := by
  obtain ⟨t, p, r⟩ := a.go
  refine ⟨tRet t, fun i => ps_ret (p i), fun σ W δ M o E w s ev q => ?_⟩
  unfold qRet at ev
  split at ev
  · rename_i d M1 h1
    cases ev
    exact r σ W δ M _ _ w s h1 q
  · rename_i y fs M1 h1
    cases ev
    exact r σ W δ M _ _ w s h1 fun C W1 dx vs m l1 w1 z => q C σ W1 dx vs m l1 w1 (s.le l1) z
  · rename_i y M1 h1
    cases ev
    exact r σ W δ M _ _ w s h1 fun C W1 m l1 w1 => q C σ W1 m l1 w1 (s.le l1)
  · cases ev
end
def fnQ (n : Nat) (g : XFQ) : FnQ := fun ds M => match g (startD n ds) M with
  | some (.ok (.rt d M')) => some (.v d M')
  | some (.ok (.nx _ M')) => some (.v .non M')
  | some (.ex y fs _ M') => some (.ex y fs M')
  | some (.ep y _ M') => some (.ep y M')
  | _ => none
theorem DFnQ.of {P : Program} {w : World} {K : PySem.W.Frag} {mg : Str → Option Value} {base : Heap} {k : Nat} {x qual : Str} {params : Arguments} {body : List Stmt} {scope : Scope} {dvs : List V} {kws : List (Str × V)} {f : Addr} {fd : FuncData} {N ps : List Str} {g : XFQ}
    (h : FunD K x qual params body scope dvs kws f fd) (Sc : FnScope N ps scope) (hb : ∀ E : XK, Ctx (bodyX P w K mg base N E (k := k) (qual := qual) (scope := scope) (f := f)) P w K mg base k → (∀ i, Takes (bodyX P w K mg base N E (k := k) (qual := qual) (scope := scope) (f := f) i) (fun c d _ H => E c d H)) →
      DBQ (bodyX P w K mg base N E (k := k) (qual := qual) (scope := scope) (f := f)) K mg (fun c d _ H => E c d H) body g) : DFnQ P w K mg base (k + 1) f fd ps (fnQ N.length g) := by
  obtain ⟨oc, od, dV, kV, doc, pm, an, cdv, ct, osl, rfl, lk, hcd, _, _⟩ := h.ex
  refine ⟨fun A outer s H args us vs Q E room grd e0 bd r q => ?_⟩
  obtain ⟨t, pt, rt⟩ := (hb E (bodyX_ctx P w K mg base N E) (fun i => takes_of rfl rfl rfl rfl)).go
  obtain ⟨W, M, ds, o, rfl, a2, a3, a4, a5, a6⟩ := q
  have hl : vs.length = ps.length := a3.len.trans a4
  have KX : K.In s.heap := e0.mod.kin.keeps fun b o e => (e0.bs b o e).1
  have lim : s.heap.NoLimit := e0.mod.nolimit.keeps fun b o e => (e0.bs b o e).1
  have knd : ∀ y ∈ ps.zip us, scope.names.lookup y.1 = some .local ∨ (scope.names.lookup y.1 = some .cell ∧ ((cellsFrom (s.heap.objs.size + 1) scope.names []).lookup y.1).isSome = true) := fun y hy => by
    rcases Sc.par y.1 (List.of_mem_zip (a := y.1) (b := y.2) hy).1 with q | q
    · exact .inl q
    · exact .inr ⟨q, PySem.W.cellsFrom_some _ _ _ (.inl q)⟩
  refine codeAny_call_function room.depth (KX _ _ lk) rfl Sc.co Sc.gen rfl (PySem.W.codeRec_of KX hcd) (bd _ _ _ _ ?_)
  refine wpAny_newFunctionEnv_cells Sc.kind knd fun env he s1 xc => ?_
  subst he
  refine ⟨lim.keeps xc.toInCall.keep, codeAny_func ?_⟩
  have J : Inv (cxOf (L2.CX P w) P w K mg base N qual scope f cdv A outer s W.H E) [] (L2.start N vs) W.H s1 := inv_start Sc room.hd e0 hl r xc
  have ht := pt ⟨cdv, A, outer, s, W.H, room.deeper _, grd⟩
  have q2 : t { nx := fun _ H' => Q .non H', rt := Q } (L2.start N vs) W.H := by
    unfold fnQ at a5
    split at a5
    · rename_i d2 M2 h2
      cases a5
      exact rt _ W _ M _ _ a2 (slots_start a3) h2 a6
    · rename_i δ2 M2 h2
      cases a5
      exact rt _ W _ M _ _ a2 (slots_start a3) h2 fun σ' W' l o s' => a6 .non W' l o .non
    · rename_i y fs δ2 M2 h2
      cases a5
      exact rt _ W _ M _ _ a2 (slots_start a3) h2 fun C σ' W' dx vs m l o s' z => a6 C W' dx vs m l o z
    · rename_i y δ2 M2 h2
      cases a5
      exact rt _ W _ M _ _ a2 (slots_start a3) h2 fun C σ' W' m l o s' => a6 C W' m l o
    · cases a5
  refine wpAny_mono (ht.run [] s1 (L2.start N vs) W.H _ J q2) (fun fl s' hs => ?_) fun e s' hs => hs
  have fin : ∀ {σ' : St} {H' : Hp} {v : V} {u : Value}, Inv (cxOf (L2.CX P w) P w K mg base N qual scope f cdv A outer s W.H E) [] σ' H' s' → RelV v u → Q v H' → CE outer P w W.H s Q u s' :=
    fun {σ' H' v u} J rv q => ⟨v, H', J.os, J.bare, J.base, J.hok, rv, q⟩
  match fl, hs with
  | .ret u, ⟨v, σ', H', J2, rv, q3⟩ => exact fin J2 rv q3
  | .next, ⟨σ', H', J2, q3⟩ => exact fin (v := V.non) (u := Value.none) J2 rfl q3
  | .brk, ⟨_, _, _, q3⟩ => exact False.elim q3
  | .cont, ⟨_, _, _, q3⟩ => exact False.elim q3
end Pl
namespace L2
open PySem PySem.Spec PyProof.Rows
theorem exd_frz' {e : Addr} {fs : List (Str × V)} {o : Obj} {u : HO} : exd e fs ≠ .frz o u := fun z => by
  have z' : HO.ext _ = HO.frz o u := z
  cases z'
theorem exd_tbl' {e : Addr} {fs : List (Str × V)} {ps : Array Value} : exd e fs ≠ .tbl ps := fun z => by
  have z' : HO.ext _ = HO.tbl ps := z
  cases z'
section
variable {X : Cx} {pins : List (Addr × Obj)} {σ : St} {H : Hp} {s : Shared} {a C d : Addr} {fs : List (Str × V)}
/-- an exception is told of no more; its dict is an exception's dict from here on -/
theorem Inv.letGo (I : Inv X pins σ H s) (ea : H a = some (exo a C (some d))) (ed : H d = some (exd d fs)) : Inv X pins σ (upd (del H a) d (.xd fs)) s := by
  have off : ∀ b, b ≠ a → b ≠ d → upd (del H a) d (.xd fs) b = H b := fun b h1 h2 => by rw [upd_ne h2, del_ne h1]
  have no : ∀ b, H b = none → upd (del H a) d (.xd fs) b = none := fun b e => by
    rw [off b (fun z => by rw [z, ea] at e; cases e) (fun z => by rw [z, ed] at e; cases e)]
    exact e
  have tup : ∀ b xs, H b = some (.tup xs) → upd (del H a) d (.xd fs) b = some (.tup xs) := fun b xs e => by
    rw [off b (at_ne ea e exo_tup) (at_ne ed e exd_tup)]
    exact e
  refine ⟨I.ok, I.os, I.bare, ⟨I.base.keep, I.base.slot, fun b u e n hx => no b (I.base.free b u e n hx), I.base.there, fun b xs e => tup b xs (I.base.tups b xs e), fun b u xs e => ?_, fun b ps e => ?_⟩, I.loc, I.cell, no _ I.free, fun x c e => no c (I.freeC x c e), fun p hp => ?_, fun b u e => ?_, I.len⟩
  · have q := I.base.frzs b u xs e
    rw [off b (at_ne ea q exo_frz) (at_ne ed q exd_frz')]
    exact q
  · obtain ⟨m, q⟩ := I.base.tbls b ps e
    exact ⟨m, by rw [off b (at_ne ea q exo_tbl) (at_ne ed q exd_tbl')]; exact q⟩
  · obtain ⟨q1, q2, q3⟩ := I.pin p hp
    exact ⟨q1, no _ q2, q3⟩
  · by_cases hb : b = d
    · subst hb
      rw [upd_same] at e
      cases e
      obtain ⟨mA, h1, h2⟩ := exd_at I.hok ed
      exact ⟨mA, h1, h2⟩
    · have hba : b ≠ a := fun z => by
        rw [z, upd_ne (fun y => hb (z.trans y)), del_same] at e
        cases e
      rw [off b hba hb] at e
      exact (I.hok b u e).stay (fun c v _ q => q) (fun c q => by rw [off c (at_ne ea q exo_own) (at_ne ed q exd_own)]; exact q) fun c xs q => tup c xs q
end
end L2
namespace Pl
open PySem PySem.Spec PyProof.Rows L2
section
variable {I : Type} {X : I → Cx} {P : Program} {w : World} {K : PySem.W.Frag} {mg : Str → Option Value} {base : Heap} {k : Nat} {S : WX}
/-- what is live no more -/
theorem Wd.drop_ok {W : Wd} {M : Mh} {n : Nat} {a : Addr} {u : MO} {H' : Hp} (w : W.Ok K M) (lv : Live W M n a u) (hH : ∀ b, b ≠ a → H' b = W.H b) : (⟨H', W.B, W.ι, W.P⟩ : Wd).Ok K (M.set n .dead) := by
  obtain ⟨nb, np, _⟩ := w.live n a u lv
  have old : ∀ {m b o}, Live (⟨H', W.B, W.ι, W.P⟩ : Wd) (M.set n .dead) m b o → m ≠ n ∧ Live W M m b o := fun {m b o} ⟨h1, h2, h3⟩ => by
    by_cases e : m = n
    · subst e
      have : (M.set m MO.dead)[m]? = some .dead := by
        have lt : m < M.length := (List.getElem?_eq_some_iff.mp lv.2.1).1
        simp [lt]
      rw [this] at h2
      cases h2
      exact absurd rfl h3
    · rw [List.getElem?_set_ne (Ne.symm e)] at h2
      exact ⟨e, h1, h2, h3⟩
  have ne : ∀ {m b o}, m ≠ n → Live W M m b o → b ≠ a := fun {m b o} hm h e => by
    subst e
    exact hm (w.inj m n b o u h lv)
  refine ⟨fun b o h => ?_, fun b o h => ?_, by rw [List.length_set]; exact w.len, fun m b o h => ?_, fun m m' b o o' h h' => ?_⟩
  · have : b ≠ a := fun e => by
      rw [e] at h
      have h0 : W.B a = some o := h
      rw [nb] at h0
      cases h0
    exact (hH b this).trans (w.sub b o h)
  · have : b ≠ a := fun e => by
      rw [e] at h
      have h0 : W.P a = some o := h
      rw [np] at h0
      cases h0
    obtain ⟨q1, q2⟩ := w.pin b o h
    exact ⟨(hH b this).trans q1, q2⟩
  · obtain ⟨hm, h0⟩ := old h
    obtain ⟨q1, q2, g, q3, q4⟩ := w.live m b o h0
    exact ⟨q1, q2, g, (hH b (ne hm h0)).trans q3, q4⟩
  · exact w.inj m m' b o o' (old h).2 (old h').2
def qRaise (C : Addr) (y : Str) (F : Fn) (g : AF) (dds : List D) : XFQ := fun δ M => match g δ M with
  | some (ds, M1) => (match F (.ref M1.length :: (ds ++ dds)) (M1 ++ [MO.exo C none]) with
    | some (.non, M2) => (match M2[M1.length]? with
      | some (.exo C' (some m)) => if C' = C ∧ m ≠ M1.length then (match M2[m]? with
        | some (.exd fs) => some (.ex y fs δ ((M2.set M1.length .dead).set m .dead))
        | _ => none) else none
      | _ => none)
    | _ => none)
  | none => none
/-- the class is called, the exception let go of -/
theorem pmk_G {Y : Cx} {x : Str} {p pos : Pos} {e : Expr} {es : List Expr} {t : TA} {C fI : Addr} {fd : FuncData} {ps : List Str} {F : Fn} {kf n : Nat} {dvs : List V} {dsv : List Value} {B newId initId : String} {bmB : List Value} (T : ExG Y.K C B newId initId bmB) (rs : Raises Y (.ref C))
    (iC : PySem.W.findIn Y.K (.ref C) "__init__" = some (some (.ref fI))) (tI : PySem.W.typeIn Y.K (.ref fI) = some (.type "function")) (h : DFn Y.prog Y.w Y.K Y.mg Y.base kf fI fd ps F) (room : Room (kf + 1) Y.A) (grd : Y.A.guards = some []) (hb : Binds Y.K fd ps dsv) (hd : Vals dvs dsv)
    (hm : Y.mg x = some (.ref C)) (hg : Gl Y x) (ha : PA Y (e :: es) t) (hn : n ≤ 1000) (hl : n + dvs.length + 1 = ps.length) (hdbg : (x == ("__debug__" : Str)) = false) (he : starEach (e :: es) Y.env = (false, eval e Y.env) :: starEach es Y.env) (hpl : (backTo pos (starEach es Y.env)).any (·.1) = false) :
    PMk Y (.Call (.Name x p) (e :: es) [] pos) (fun σ H Q => t σ H fun vs H1 => vs.length = n ∧ ∀ a, H1 a = none → spD Y.K ps.length F (.ref a :: (vs ++ dvs)) (upd H1 a (exo a C none)) fun v H2 => v = .non ∧ ∃ dx fs, H2 a = some (exo a C (some dx)) ∧ H2 dx = some (exd dx fs) ∧ Q (.ref C) (some dx) (upd (del H2 a) dx (.xd fs))) := by
  intro pins s σ H Q J q
  refine wpAny_Call_Name_kw (ld_glob J hg hm ?_ hdbg)
  refine PySem.W.callWith_K (h₀ := Y.base) J.ok.mod.kin T.keep (thn (ha.run pos pins s σ H _ J q) fun us s1 ⟨vs, H1, J1, r, hv, q1⟩ => ⟨J1.kIn, ?_⟩) he hpl
  obtain ⟨nm, N, qn, bs, bm, hdct, sn, sub, ab, col, dd, k0, k1, k2, k3, k5, hC, hct⟩ := PySem.W.excInit_of J1.kIn T.ini
  obtain ⟨hA, g, dr, tk, os⟩ := s1
  have new : H1 (hA.objs.size + 1) = none := J1.hok.fresh (Nat.le_succ _)
  have up : ∀ b o, hA.get? b = some o → ((hA.push (PySem.W.kdv_tup us)).push (PySem.HandSPX.excO C hA.objs.size)).get? b = some o := fun b o e => Heap.get?_push_of_some _ (Heap.get?_push_of_some _ e)
  have atE : ((hA.push (PySem.W.kdv_tup us)).push (PySem.HandSPX.excO C hA.objs.size)).get? (hA.objs.size + 1) = some (PySem.HandSPX.excO C hA.objs.size) := by heap_get
  have J2 : Inv Y pins σ (upd H1 (hA.objs.size + 1) (exo (hA.objs.size + 1) C none)) ⟨(hA.push (PySem.W.kdv_tup us)).push (PySem.HandSPX.excO C hA.objs.size), g, dr, tk, os⟩ :=
    J1.laid (t' := tk) (a := hA.objs.size + 1) (o := exo (hA.objs.size + 1) C none) up (Nat.le_succ _) (exo_ok atE)
  have rel : Vals (V.ref (hA.objs.size + 1) :: (vs ++ dvs)) (Value.ref (hA.objs.size + 1) :: (us ++ dsv)) := .cons rfl (r.append hd)
  have few : us.length ≤ sizeLine := by
    rw [← Paired.length r, sizeLine_eq]
    omega
  have le : (Value.ref (hA.objs.size + 1) :: us ++ dsv).length = ps.length := by
    have e := rel.length
    rw [List.length_cons, List.length_append, hv] at e
    rw [← hl, e]
    rfl
  refine wpAny_call (PySem.HandSPX.call_own T.base hct hC (PySem.W.looks_findIn J1.kIn iC) (fun self => PySem.W.bind_fn J1.kIn self tI) few
    (codeAny_mono (h.run _ Y.stack _ _ ⟨Value.ref (hA.objs.size + 1) :: us, []⟩ (Value.ref (hA.objs.size + 1) :: (us ++ dsv)) _ _ (room.make C us []) ?_ (J2.env0.make C us []) (hb _ (Value.ref (hA.objs.size + 1) :: us) J2.kIn le) rel (q1 _ new)) fun o s' ho => ?_))
  · unfold Around.under
    dsimp only
    rw [grd]
    rfl
  · match o, ho with
    | .ok (.ret u), ho =>
      obtain ⟨v, H2, os2, bare2, un2, hok2, rv, ev, d, fs, ea, ed, q2⟩ := ho
      subst ev
      obtain ⟨h2, g2, d2, t2, os'⟩ := s'
      have J3 : Inv Y pins σ H2 ⟨h2, g2, d2, t2, os'⟩ := J2.call' (ch := []) os2 un2 hok2 bare2 fun b z => absurd z (by simp)
      obtain ⟨t0, hoe⟩ := exo_at hok2 ea
      have hda : d ≠ hA.objs.size + 1 := fun z => by
        obtain ⟨mA, ⟨oD, es, ep, e1, e2, _⟩, _⟩ := exd_at hok2 ed
        rw [z, hoe] at e1
        cases e1
        cases e2
      have na : (upd (del H2 (hA.objs.size + 1)) d (.xd fs)) (hA.objs.size + 1) = none := by rw [upd_ne (Ne.symm hda), del_same]
      obtain ⟨f0, f1, f2, f3, f4, f5⟩ := J1.fpOk (b := hA.objs.size + 1) (Nat.le_succ _) na
      obtain ⟨G, r1, r2⟩ := restrict h2 fun b => decide (b ≠ hA.objs.size + 1)
      have gk : ∀ b, b ≠ hA.objs.size + 1 → G.get? b = h2.get? b := fun b hb => r1 b (decide_eq_true hb)
      have ge : G.get? (hA.objs.size + 1) = none := r2 _ (by simp)
      have JG := (J3.letGo ea ed).turned (h' := G) (t' := t2) (fun b o hb e => (gk b hb).trans e) f0 f1 f3 f4 f5
      have kG : ∀ b o, G.get? b = some o → h2.get? b = some o := fun b o e => by
        by_cases hb : b = hA.objs.size + 1
        · rw [hb, ge] at e; cases e
        · exact (gk b hb).symm.trans e
      exact ⟨rv, _, _, _, ⟨G, g2, d2, t2, os'⟩, _, .ref C, some d, rfl, JG, kG, ge, hoe, ⟨rfl, rfl⟩, rfl, rfl, na, rfl, bare2, rs, q2⟩
    | .ok .next, ho => exact False.elim ho
    | .ok .brk, ho => exact False.elim ho
    | .ok .cont, ho => exact False.elim ho
    | .error _, ho => exact False.elim ho
theorem DSQ.raise (c : Ctx X P w K mg base k) (tk : ∀ i, Takes (X i) S) {x : Str} {p pos pos2 : Pos} {e : Expr} {es : List Expr} {g : AF} {ps : List Str} {F : Fn} {C : Addr} {dds : List D} {kf : Nat} (h : LkG P w K mg base x kf ps F C dds)
    (b1 : PySem.W.subIn K (.ref C) (.type "BaseException") = some true) (b2 : PySem.W.typeIn K (.ref C) = some (.type "type")) (hk : kf + 1 ≤ k) (hn : (e :: es).length + dds.length + 1 = ps.length) (hz : (e :: es).length ≤ 1000) (ha : DA X K (e :: es) g) (hlen : ∀ δ M ds M', g δ M = some (ds, M') → ds.length = (e :: es).length)
    (hg : ∀ i, Gl (X i) x := by intro _; rfl) (hdbg : (x == ("__debug__" : Str)) = false := by decide) (he : ∀ i, starEach (e :: es) (X i).env = (false, eval e (X i).env) :: starEach es (X i).env := by intro _; rfl) (hpl : ∀ i, (backTo pos (starEach es (X i).env)).any (·.1) = false := by intro _; rfl) :
    DSQ X K mg S (.Raise (some (.Call (.Name x p) (e :: es) [] pos)) none pos2) (qRaise C x F g dds) := by
  obtain ⟨fI, fd, dvs, dsv, Bb, newId, initId, bmB, T, iC, tI, hF, hm, hb, hd, hr⟩ := h.go
  obtain ⟨t, pa, ra⟩ := ha.go
  have ld : dvs.length = dds.length := (hr (fun _ => none) []).len
  refine ⟨fun _ σ H => t σ H fun vs H1 => vs.length = (e :: es).length ∧ ∀ a, H1 a = none → spD K ps.length F (.ref a :: (vs ++ dvs)) (upd H1 a (exo a C none)) fun v H2 => v = .non ∧ ∃ dx fs, H2 a = some (exo a C (some dx)) ∧ H2 dx = some (exd dx fs) ∧ S (.ref C) (some dx) σ (upd (del H2 a) dx (.xd fs)), fun i => ?_, fun σ W δ M o E w s ev q => ?_⟩
  · have cK := c.K i
    have hF' : DFn (X i).prog (X i).w (X i).K (X i).mg (X i).base kf fI fd ps F := by
      rw [c.prog i, c.wd i, c.K i, c.mg i, c.base i]
      exact hF
    have := ps_raise (pos := pos2) (c.calm i) (tk i) (pmk_G (Y := X i) (p := p) (pos := pos) (n := (e :: es).length) (dvs := dvs) (dsv := dsv) (by rw [cK]; exact T) (raises_own (by rw [cK]; exact b1) (by rw [cK]; exact b2)) (by rw [cK]; exact iC) (by rw [cK]; exact tI) hF' ((c.room i).mono hk) (c.grd i) (by rw [cK]; exact hb) hd (by rw [c.mg i]; exact hm) (hg i) (pa i) hz (by rw [ld]; exact hn) hdbg (he i) (hpl i))
    rw [cK] at this
    exact this
  · unfold qRaise at ev
    split at ev
    · rename_i ds M1 h1
      refine ra σ W δ M ds M1 _ w s h1 fun vs W1 l1 w1 r1 => ⟨by rw [r1.len, hlen _ _ _ _ h1], fun a hn1 => ?_⟩
      split at ev
      · rename_i M2 h2
        split at ev
        · rename_i C' m hM
          split at ev
          · rename_i hc
            obtain ⟨rfl, hmn⟩ := hc
            split at ev
            · rename_i fs hM2
              cases ev
              have w2 := Wd.new_ok (m := .exo C' none) (o := exo a C' none) w1 hn1 .exo
              have self : Rep K (W1.new a (exo a C' none)).B (W1.new a (exo a C' none)).ι (.ref a) (.ref M1.length) := .ref (by
                show (W1.ι ++ [a])[M1.length]? = some a
                rw [← w1.len]
                simp)
              refine ⟨W1.new a (exo a C' none), M1 ++ [.exo C' none], .ref M1.length :: (ds ++ dds), .non, _, rfl, w2, .cons self ((r1.le Wd.new_le).append (hr _ _)), ?_, h2, fun v W3 l3 w3 r3 => ?_⟩
              · rw [List.length_cons, List.length_append, hlen _ _ _ _ h1]
                exact hn
              · cases r3
                refine ⟨rfl, ?_⟩
                have self3 := self.le l3
                cases self3 with
                | ref hi =>
                  have lv : Live W3 M2 M1.length a (.exo C' (some m)) := ⟨hi, hM, fun z => by cases z⟩
                  obtain ⟨_, _, g1, hg1, ro⟩ := w3.live _ _ _ lv
                  cases ro with
                  | @exoD _ d _ hm1 =>
                    have lvm : Live W3 M2 m d (.exd fs) := ⟨hm1, hM2, fun z => by cases z⟩
                    obtain ⟨_, _, g2, hg2, ro2⟩ := w3.live _ _ _ lvm
                    cases ro2 with
                    | @exd vs' _ rf =>
                      refine ⟨d, vs', hg1, hg2, ?_⟩
                      have w4 := Wd.drop_ok (H' := del W3.H a) w3 lv fun b hb => del_ne hb
                      have lvm' : Live (⟨del W3.H a, W3.B, W3.ι, W3.P⟩ : Wd) (M2.set M1.length .dead) m d (.exd fs) := ⟨hm1, by rw [List.getElem?_set_ne (Ne.symm hmn)]; exact hM2, fun z => by cases z⟩
                      have w5 := Wd.drop_ok (H' := upd (del W3.H a) d (.xd vs')) w4 lvm' fun b hb => upd_ne hb
                      have l5 : W.Le (⟨upd (del W3.H a) d (.xd vs'), W3.B, W3.ι, W3.P⟩ : Wd) := ((l1.trans Wd.new_le).trans l3).trans ⟨fun _ _ h => h, ⟨[], by simp⟩, rfl⟩
                      obtain ⟨nB, nP, _⟩ := w4.live _ _ _ lvm'
                      refine q C' σ _ d vs' hm l5 w5 (s.le l5) ⟨upd_same, rf, nB, nP, fun n o lv6 => ?_⟩
                      obtain ⟨z1, z2, z3⟩ := lv6
                      by_cases hnm : n = m
                      · subst hnm
                        have lt : n < (M2.set M1.length .dead).length := (List.getElem?_eq_some_iff.mp lvm'.2.1).1
                        have z : ((M2.set M1.length MO.dead).set n MO.dead)[n]? = some .dead := by simp only [List.getElem?_set_self lt]
                        rw [z] at z2
                        cases z2
                        exact absurd rfl z3
                      · rw [List.getElem?_set_ne (Ne.symm hnm)] at z2
                        exact hnm (w4.inj _ _ _ _ _ (⟨z1, z2, z3⟩ : Live (⟨del W3.H a, W3.B, W3.ι, W3.P⟩ : Wd) (M2.set M1.length .dead) n d o) lvm')
            · cases ev
          · cases ev
        · cases ev
      · cases ev
    · cases ev
/-- raise C("..") of a class without own __init__ -/
def qRaiseP (y : Str) : XFQ := fun δ M => some (.ep y δ M)
theorem DSQ.raiseP (c : Ctx X P w K mg base k) (tk : ∀ i, Takes (X i) S) {x m : Str} {j : Nat} {p p2 pos pos2 : Pos} {C : Addr} {bmB : List Value} {B newId initId : String} (F : ExcBaseFacts B newId initId bmB) (L : LkE K mg x bmB newId C) (hg : ∀ i, Gl (X i) x := by intro _; rfl)
    (hdb : (x == ("__debug__" : Str)) = false := by decide) : DSQ X K mg S (.Raise (some (.Call (.Name x p) [.Constant (.str m) j p2] [] pos)) none pos2) (qRaiseP x) := by
  refine ⟨fun _ σ H => S (.ref C) none σ H, fun i => ?_, fun σ W δ M o E w s e q => ?_⟩
  · have cK := c.K i
    exact ps_raise (t := fun _ H Q => Q (.ref C) none H) (c.calm i) (tk i) (pmk_own F (by rw [cK]; exact L.q) (by rw [c.mg i]; exact L.gC) (by rw [cK]; exact L.kC) (raises_own (by rw [cK]; exact L.r1) (by rw [cK]; exact L.r2)) (hg i) hdb)
  · cases e
    exact q C σ W L.gC (.refl W) w s
end
end Pl
namespace Pl
open PySem L2
end Pl
namespace Pl
open PySem L2
inductive AOQ where
  | v (ds : List D) (M : Mh) | ex (y : Str) (fs : List (Str × D)) (M : Mh) | ep (y : Str) (M : Mh)
abbrev AXQ := Env → Mh → Option AOQ
def PostAQ (K : PySem.W.Frag) (mg : Str → Option Value) (S : Value → Option Addr → Hp → Prop) (Q : List V → Hp → Prop) (W : Wd) : AOQ → Prop
  | .v ds M => VRL K W ds M Q
  | .ex y fs M => ∀ C W' dx vs, mg y = some (.ref C) → W.Le W' → W'.Ok K M → FsAt K W' M dx vs fs → S (.ref C) (some dx) W'.H
  | .ep y M => ∀ C W', mg y = some (.ref C) → W.Le W' → W'.Ok K M → S (.ref C) none W'.H
def ARQ (K : PySem.W.Frag) (mg : Str → Option Value) (S : WX) (t : TA) (f : AXQ) : Prop := ∀ (σ : St) (W : Wd) (δ : Env) (M : Mh) (o : AOQ) (Q : List V → Hp → Prop), W.Ok K M → Slots K W σ δ → f δ M = some o → PostAQ K mg (fun c d H => S c d σ H) Q W o → t σ W.H Q
section
variable {I : Type}
structure DAQ (X : I → Cx) (K : PySem.W.Frag) (mg : Str → Option Value) (S : WX) (es : List Expr) (f : AXQ) : Prop where
  go : ∃ t : TA, (∀ i, PA (X i) es t) ∧ ARQ K mg S t f
variable {X : I → Cx} {P : Program} {w : World} {K : PySem.W.Frag} {mg : Str → Option Value} {base : Heap} {k : Nat} {S : WX}
def qaNil : AXQ := fun _ M => some (.v [] M)
theorem DAQ.nil : DAQ X K mg S [] qaNil := ⟨tNil, fun i => pa_nil, fun σ W δ M o Q w s e q => by
  cases e
  exact q [] W (.refl W) w .nil⟩
def qaCons (f : EXQ) (g : AXQ) : AXQ := fun δ M => match f δ M with
  | some (.v d M1) => (match g δ M1 with
    | some (.v ds M2) => some (.v (d :: ds) M2)
    | some (.ex y fs M2) => some (.ex y fs M2)
    | some (.ep y M2) => some (.ep y M2)
    | none => none)
  | some (.ex y fs M1) => some (.ex y fs M1)
  | some (.ep y M1) => some (.ep y M1)
  | none => none
theorem DAQ.cons {e : Expr} {es : List Expr} {f : EXQ} {g : AXQ} (a : DEQ X K mg S e f) (b : DAQ X K mg S es g) (he : ∀ i, starEach (e :: es) (X i).env = (false, eval e (X i).env) :: starEach es (X i).env := by intro _; rfl) : DAQ X K mg S (e :: es) (qaCons f g) := by
  obtain ⟨ta, pa, ra⟩ := a.go
  obtain ⟨tb, pb, rb⟩ := b.go
  refine ⟨tCons ta tb, fun i => pa_cons (pa i) (pb i) (he i), fun σ W δ M o Q w s ev q => ?_⟩
  unfold qaCons at ev
  split at ev
  · rename_i d1 M1 h1
    split at ev
    · rename_i ds M2 h2
      cases ev
      refine ra σ W δ M (.v d1 M1) _ w s h1 fun v W1 l1 w1 r1 => ?_
      refine rb σ W1 δ M1 (.v ds M2) _ w1 (s.le l1) h2 fun vs W2 l2 w2 r2 => ?_
      exact q _ W2 (l1.trans l2) w2 (.cons (r1.le l2) r2)
    · rename_i y fs M2 h2
      cases ev
      refine ra σ W δ M (.v d1 M1) _ w s h1 fun v W1 l1 w1 r1 => ?_
      exact rb σ W1 δ M1 (.ex y fs M2) _ w1 (s.le l1) h2 fun C W2 dx vs m l2 w2 z => q C W2 dx vs m (l1.trans l2) w2 z
    · rename_i y M2 h2
      cases ev
      refine ra σ W δ M (.v d1 M1) _ w s h1 fun v W1 l1 w1 r1 => ?_
      exact rb σ W1 δ M1 (.ep y M2) _ w1 (s.le l1) h2 fun C W2 m l2 w2 => q C W2 m (l1.trans l2) w2
    · cases ev
  · rename_i y fs M1 h1
    cases ev
    exact ra σ W δ M (.ex y fs M1) _ w s h1 q
  · rename_i y M1 h1
    cases ev
    exact ra σ W δ M (.ep y M1) _ w s h1 q
  · cases ev
end
end Pl
namespace L2
open PySem PySem.Spec PyProof.Rows
end L2
namespace Pl
open PySem PySem.Spec PyProof.Rows L2
def tGv (K : PySem.W.Frag) (f : Str) (to : TE) : TE := fun σ H Q => to σ H fun x H1 => ∃ (a C dx : Addr) (fs : List (Str × V)) (v : V), x = .ref a ∧ XfC K C ∧ PySem.W.findIn K (.ref C) f = some none ∧ H1 a = some (ExVD C dx a) ∧ H1 dx = some (.xd fs) ∧ fs.lookup f = some v ∧ Q v H1
section
variable {X : Cx} {o e : Expr} {to te : TE} {f : Str} {p' pos : Pos}
theorem pe_gv (ho : PE X o to) (hb : attributeBase o f X.env (eval o X.env) = eval o X.env) : PE X (.Attribute o f pos) (tGv X.K f to) := by
  refine ⟨fun pinsA sA σA HA QA IA hA => ?_⟩
  refine attr_of hb (thn (ho.run pinsA sA σA HA _ IA hA) fun w1 s1 ⟨x, H1, I1, rx, a, C, dx, fs, v, ex, T, hno, ea, ed, l, q⟩ => ?_)
  subst ex
  cases rx
  obtain ⟨⟨oe, vs, at0, hz, hv⟩, _, _⟩ := I1.hok a _ ea
  obtain ⟨mA, hns, hr⟩ := I1.hok dx _ ed
  obtain ⟨od, ho2, hl⟩ := lookIn_ns hns
  obtain ⟨u, hu, ru⟩ := RelO.some_of (v := v) (o := mA f) (by rw [← l]; exact hr f)
  have inst : PySem.W.InstAt s1.heap a oe C (some od) := by
    obtain ⟨oc, odd, oda, osl⟩ := oe
    obtain ⟨h1, h2⟩ := hz
    dsimp only at h1 h2 hv
    subst h1 h2 hv
    exact ⟨at0, rfl, rfl, ho2⟩
  exact HandSPX.exc_get I1.kIn inst T.ga T.gg T.exC (PySem.W.findObj_own T.hdC hno rfl (by rw [hl, hu])) (handed_of ru) ⟨v, H1, I1.tok _, ru, q⟩
end
section
variable {I : Type} {X : I → Cx} {P : Program} {w : World} {K : PySem.W.Frag} {mg : Str → Option Value} {base : Heap} {k : Nat}
def eGv (okg : Addr → Str → Bool) (f : Str) (fo : EF) : EF := fun δ M => match fo δ M with
  | some (.ref n, M1) => (match M1[n]? with
    | some (.exf C m) => if okg C f = true then (match M1[m]? with
      | some (.exg fs) => (fs.lookup f).map fun d => (d, M1)
      | _ => none) else none
    | _ => none)
  | _ => none
theorem exf_live {W : Wd} {M : Mh} {x : V} {n m : Nat} {C : Addr} {fs : List (Str × D)} (w : W.Ok K M) (r : Rep K W.B W.ι x (.ref n)) (hm : M[n]? = some (.exf C m)) (hf : M[m]? = some (.exg fs)) :
    ∃ a d vs, x = .ref a ∧ W.H a = some (ExVD C d a) ∧ ExcC K C ∧ Live W M m d (.exg fs) ∧ W.H d = some (.xd vs) ∧ RepF K W.B W.ι vs fs := by
  cases r with
  | ref h =>
    obtain ⟨_, _, o, ho, ro⟩ := w.live _ _ _ (⟨h, hm, fun z => by cases z⟩ : Live W M n _ (.exf C m))
    cases ro with
    | exf g hd =>
      have lv : Live W M m _ (.exg fs) := ⟨hd, hf, fun z => by cases z⟩
      obtain ⟨_, _, o2, ho2, ro2⟩ := w.live _ _ _ lv
      cases ro2 with
      | exg rf => exact ⟨_, _, _, rfl, ho, g, lv, ho2, rf⟩
theorem DE.gvx {okg : Addr → Str → Bool} (hok : ∀ C f, okg C f = true → XfC K C ∧ PySem.W.findIn K (.ref C) f = some none) (c : Ctx X P w K mg base k) {o : Expr} {f : Str} {pos : Pos} {fo : EF} (b : DE X K o fo) (hb : ∀ i, attributeBase o f (X i).env (eval o (X i).env) = eval o (X i).env := by intro _; rfl) :
    DE X K (.Attribute o f pos) (eGv okg f fo) := by
  obtain ⟨tO, po, ro⟩ := b.go
  refine ⟨tGv K f tO, fun i => ?_, fun σ W δ M d M' Q w s ev q => ?_⟩
  · have h := pe_gv (X := X i) (pos := pos) (po i) (hb i)
    rw [c.K i] at h
    exact h
  · unfold eGv at ev
    split at ev
    · rename_i n M1 h1
      refine ro σ W δ M _ M1 _ w s h1 fun u W1 l1 w1 r1 => ?_
      split at ev
      · rename_i C m hm
        split at ev
        · rename_i hf
          split at ev
          · rename_i fs hfs
            cases hl : fs.lookup f with
            | none =>
              rw [hl] at ev
              cases ev
            | some z =>
              rw [hl] at ev
              cases ev
              obtain ⟨a, dd, vs, rfl, ha, _, lv, hd, rf⟩ := exf_live w1 r1 hm hfs
              obtain ⟨v, e1, e2⟩ := rf.get hl
              exact ⟨a, C, dd, vs, v, rfl, (hok _ _ hf).1, (hok _ _ hf).2, ha, hd, e1, q v W1 l1 w1 e2⟩
          · cases ev
        · cases ev
      · cases ev
    · cases ev
end
end Pl
namespace Pl
open PySem L2
section
variable {I : Type} {X : I → Cx} {P : Program} {w : World} {K : PySem.W.Frag} {mg : Str → Option Value} {base : Heap} {k : Nat}
theorem Wd.adopt_live {W : Wd} {M : Mh} {dx : Addr} {fs : List (Str × D)} (w : W.Ok K M) : ∀ n b o, Live (W.ix1 dx) (M ++ [.exg fs]) n b o → Live W M n b o ∨ (n = M.length ∧ b = dx ∧ o = .exg fs) := fun n b o ⟨h1, h2, h3⟩ => by
  have h1' : (W.ι ++ [dx])[n]? = some b := h1
  by_cases hn : n < M.length
  · rw [List.getElem?_append_left hn] at h2
    rw [List.getElem?_append_left (by rw [w.len]; exact hn)] at h1'
    exact .inl ⟨h1', h2, h3⟩
  · have lt : n < (M ++ [MO.exg fs]).length := (List.getElem?_eq_some_iff.mp h2).1
    rw [List.length_append] at lt
    have e : n = M.length := by
      have : n < M.length + 1 := lt
      omega
    subst e
    rw [List.getElem?_append_right (Nat.le_refl _), Nat.sub_self] at h2
    rw [← w.len, List.getElem?_append_right (Nat.le_refl _), Nat.sub_self] at h1'
    cases h2
    cases h1'
    exact .inr ⟨rfl, rfl, rfl⟩
theorem Wd.adopt_ok {W : Wd} {M : Mh} {dx : Addr} {vs : List (Str × V)} {fs : List (Str × D)} (w : W.Ok K M) (fa : FsAt K W M dx vs fs) : (W.ix1 dx).Ok K (M ++ [.exg fs]) := by
  obtain ⟨f1, f2, f3, f4, f5⟩ := fa
  refine ⟨w.sub, w.pin, by
    show (W.ι ++ [dx]).length = _
    simp [w.len], fun n b o h => ?_, fun n m b o u h g => ?_⟩
  · rcases Wd.adopt_live w n b o h with h | ⟨rfl, rfl, rfl⟩
    · obtain ⟨h1, h2, u, h3, h4⟩ := w.live n b o h
      exact ⟨h1, h2, u, h3, h4.mono (fun _ _ q => q) Wd.ix1_le.ix⟩
    · exact ⟨f3, f4, _, f1, .exg (f2.mono (fun _ _ q => q) Wd.ix1_le.ix)⟩
  · rcases Wd.adopt_live w n b o h with hL | ⟨e1, e2, e3⟩
    · rcases Wd.adopt_live w m b u g with gL | ⟨e4, e5, e6⟩
      · exact w.inj n m b o u hL gL
      · rw [e5] at hL
        exact absurd hL (f5 _ _)
    · rcases Wd.adopt_live w m b u g with gL | ⟨e4, e5, e6⟩
      · rw [e2] at gL
        exact absurd gL (f5 _ _)
      · rw [e1, e4]
def kpD (m n : Nat) (C : Addr) (M : Mh) : Option Mh := match M[n]? with
  | some .dead => some (M.set n (.exf C m))
  | _ => none
theorem kpD_some {m n : Nat} {C : Addr} {M M' : Mh} (h : kpD m n C M = some M') : n < M.length ∧ M' = M.set n (.exf C m) := by
  unfold kpD at h
  split at h
  · rename_i hd
    cases h
    exact ⟨(List.getElem?_eq_some_iff.mp hd).1, rfl⟩
  · cases h
def kpOD (j m n : Nat) (C : Addr) : Option Out → Option Out
  | some (.nx δ M) => (kpD m n C M).map fun M' => .nx (δ.set j none) M'
  | some (.bk δ M) => (kpD m n C M).map fun M' => .bk (δ.set j none) M'
  | some (.ct δ M) => (kpD m n C M).map fun M' => .ct (δ.set j none) M'
  | some (.rt d M) => (kpD m n C M).map fun M' => .rt d M'
  | none => none
end
end Pl
namespace Pl
open PySem PySem.Spec PyProof.Rows L2
section
variable {I : Type} {X : I → Cx} {P : Program} {w : World} {K : PySem.W.Frag} {mg : Str → Option Value} {base : Heap} {k : Nat}
def gIsiF (isa : Addr → Value → Option Bool) : GL := fun ds M => match ds with
  | [.ref n, c] => (match M[n]?, clV c with
    | some (.exf C m), some cv => (match M[m]? with
      | some (.exg _) => (match isa C cv with
        | some b => some (.bl b, M)
        | none => none)
      | _ => none)
    | _, _ => gIsiE isa [.ref n, c] M)
  | ds => gIsiE isa ds M
def rIsiF (K : PySem.W.Frag) (xs : List V) (H : Hp) (Q : VK) : Prop := ∃ (a C d : Addr) (fs : List (Str × V)) (c : V) (cv : Value) (b : Bool), xs = [.ref a, c] ∧ H a = some (ExVD C d a) ∧ H d = some (.xd fs) ∧ ExcC K C ∧ (∀ u, RelV c u → u = cv) ∧ PySem.W.kitOne K (.ref C) cv = some b ∧ Q (.bl b) H
theorem call_isiF {Y : Cx} : CallR Y (.builtin "isinstance") (rIsiF Y.K) := fun pins s σ H xs us Q J r h => by
  obtain ⟨a, D, d, fs, c, cv, b, rfl, hH, hd, E, hcv, e, q⟩ := h
  cases r with
  | cons rx rr =>
    cases rr with
    | cons rt rr =>
      cases rr
      cases rx
      have ec := hcv _ rt
      subst ec
      obtain ⟨⟨oe, vs, at0, hz, hv⟩, _, _⟩ := J.hok a _ hH
      obtain ⟨mA, hns, _⟩ := J.hok d _ hd
      obtain ⟨od, ho2, _⟩ := lookIn_ns hns
      have inst : PySem.W.InstAt s.heap a oe D (some od) := by
        obtain ⟨oc, odd, oda, osl⟩ := oe
        obtain ⟨h1, h2⟩ := hz
        dsimp only at h1 h2 hv
        subst h1 h2 hv
        exact ⟨at0, rfl, rfl, ho2⟩
      exact PySem.W.kia_one (PySem.W.kitx_exc (by
        have z := E.hd
        unfold PySem.W.hasDictIn at z
        cases q2 : PySem.W.clsIn Y.K D with
        | none =>
          rw [q2] at z
          cases z
        | some cd => rfl) E.hg E.hk E.hs E.ha E.hn E.ht E.hm) J.kIn inst e (fun z => nomatch z) fun tk => ⟨.bl b, H, J.kept (t' := tk) fun _ _ z => z, rfl, q⟩
theorem cIsiF (c : Ctx X P w K mg base k) {isa : Addr → Value → Option Bool} (hi : ∀ C v b, isa C v = some b → ExcC K C ∧ PySem.W.kitOne K (.ref C) v = some b) : CalF X K (.builtin "isinstance") (gIsiF isa) := by
  obtain ⟨r, hr, hq⟩ := (cIsiE c fun C v b h => (hi C v b h).2).go
  refine ⟨fun xs H Q => r xs H Q ∨ rIsiF K xs H Q, fun i pins s σ H xs us Q J hv h => ?_, fun W M vs ds z M' Q w rp e q => ?_⟩
  · rcases h with h | h
    · exact hr i pins s σ H xs us Q J hv h
    · refine call_isiF pins s σ H xs us Q J hv ?_
      rw [c.K i]
      exact h
  · unfold gIsiF at e
    split at e
    · rename_i n cd
      split at e
      · rename_i C m cv hm hc
        split at e
        · rename_i fs hf
          split at e
          · rename_i b hb
            cases e
            cases rp with
            | cons r1 r2 =>
              cases r2 with
              | cons r2 r3 =>
                cases r3
                obtain ⟨a, d, vs, rfl, ha, _, lv, hd, rf⟩ := exf_live w r1 hm hf
                refine .inr ⟨a, C, d, vs, _, cv, b, rfl, ha, hd, (hi _ _ _ hb).1, fun u ru => ?_, (hi _ _ _ hb).2, q _ W (.refl W) w (.bl _)⟩
                cases r2 with
                | ob a =>
                  cases hc
                  cases ru
                  rfl
                | ty t =>
                  cases hc
                  cases ru
                  rfl
                | _ => cases hc
          · cases e
        · cases e
      · exact .inl (hq W M vs _ z M' Q w rp e q)
    · exact .inl (hq W M vs _ z M' Q w rp e q)
end
end Pl
namespace LamY
open PySem PySem.Spec PySem.Calls PyProof.Rows L2 LamX
open PySem.W (CodeHd tabObj)
abbrev fnD (name qual : Str) (params : Arguments) (body : Expr) (scope : Scope) (cl : List (Str × Addr)) (pm cdv ct dv : Value) : FuncData :=
  { name, qualname := qual, params, body := .expr body, scope, globals := mainGlobals, closure := cl, defaults := dv, kwdefaults := .none, doc := .none, pyModule := pm, annotations := none, code := cdv, closureTuple := ct, builtins := builtinsNs }
abbrev objD (name qual : Str) (params : Arguments) (body : Expr) (scope : Scope) (clos : List (Str × Addr)) (pm : Value) (c' : Addr) (ctv dv : Value) : Obj :=
  { cls := .type "function", data := .func (fnD name qual params body scope clos pm (.ref c') ctv dv) }
section
variable {M : Model} {A : Around} {E : Value → Shared → Prop} {s : Shared} {name qual : Str} {params : Arguments} {body : Expr} {scope : Scope} {env : Env} {c P : Addr} {ps : Array Value} {pos : Pos} {firstLine : Nat} {mg : Str → Option Value}
  {clos : List (Str × Addr)} {Q : Value → Shared → Prop} {dv : Value}
theorem makeTailD (hcl : closureFor scope env = pure clos) (hge0 : env.globals = mainGlobals) (hg : s.heap.Ns mainGlobals mg) (hcode : env.code = .ref c) (C : CodeHd s.heap c P) (hP : s.heap.get? P = some (tabObj ps)) (ht : TriplesOk ps.toList)
    (hnf : codeAmong pos ps.toList = none) (hgP : mainGlobals ≠ P) (hb : s.heap.BuiltinsAt mg P)
    (h : ∀ c' ctv h' tk, Heap.ExtBut P s.heap h' → s.heap.objs.size ≤ c' → c' < h'.objs.size → h'.CodeRec (.ref c') qual → h'.get? P = some (tabObj (ps ++ #[rawInt pos.line, rawInt pos.col, .ref c'])) →
      Q (.ref h'.objs.size) { s with heap := h'.push (objD name qual params body scope clos ((mg "__name__").getD .none) c' ctv dv), toks := tk }) :
    wpAny M A (makeTail name qual params (.expr body) scope env dv .none none pos firstLine) Q E s := by
  obtain ⟨bm, ob, hbm, hne0, _, hneP, hbo, hcls, hdict, hdata⟩ := hb
  unfold makeTail
  rw [hcl, hge0]
  refine wpAny_bind (wpAny_pure ?_)
  cases clos with
  | nil =>
    simp only [List.isEmpty_nil, if_true]
    refine wpAny_bind (wpAny_pure ?_)
    refine wpAny_bind (wpAny_functionCodeX hcode (C.code hP ht) (C.tab hP) hnf fun c' h' tk hx hge hlt _ hrec htb _ => ?_)
    have hg' := hg.extBut hx hgP
    refine wpAny_bind (wpAny_builtinsFor hg' hbm hne0 (hx _ _ hneP hbo) hcls hdict hdata ?_)
    refine wpAny_bind (wpAny_nsGet hg' ?_)
    exact wpAny_bind (wpAny_pure (wpAny_newObj_type (h c' .none h' tk hx hge hlt hrec htb.2) (by size_fits)))
  | cons q r =>
    simp only [List.isEmpty_cons, Bool.false_eq_true, if_false]
    refine wpAny_bind (wpAny_newTextTuple ?_)
    refine wpAny_bind (wpAny_functionCodeX hcode ((C.keeps fun b o e => Heap.get?_push_of_some _ e).code (Heap.get?_push_of_some _ hP) ht) ((C.keeps fun b o e => Heap.get?_push_of_some _ e).tab (Heap.get?_push_of_some _ hP)) hnf fun c' h' tk hx hge hlt _ hrec htb _ => ?_)
    have hg' := (hg.push _).extBut hx hgP
    have hx' : Heap.ExtBut P s.heap h' := fun b o hb' e => hx b o hb' (Heap.get?_push_of_some _ e)
    have hge' : s.heap.objs.size ≤ c' := Nat.le_trans (by rw [Heap.size_push]; omega) hge
    refine wpAny_bind (wpAny_builtinsFor hg' hbm hne0 (hx' _ _ hneP hbo) hcls hdict hdata ?_)
    refine wpAny_bind (wpAny_nsGet hg' ?_)
    exact wpAny_bind (wpAny_pure (wpAny_newObj_type (h c' _ h' tk hx' hge' hlt hrec htb.2) (by size_fits)))
theorem makeTailHitD {c' : Addr} (hcl : closureFor scope env = pure clos) (hge0 : env.globals = mainGlobals) (hg : s.heap.Ns mainGlobals mg) (hcode : env.code = .ref c) (C : CodeHd s.heap c P) (hP : s.heap.get? P = some (tabObj ps)) (ht : TriplesOk ps.toList)
    (hf : codeAmong pos ps.toList = some (.ref c')) (hb : s.heap.BuiltinsAt mg P)
    (h : ∀ (ctv : Value) (h' : Heap) (tk : Tok), (∀ b o, s.heap.get? b = some o → h'.get? b = some o) → s.heap.objs.size ≤ h'.objs.size →
      Q (.ref h'.objs.size) { s with heap := h'.push (objD name qual params body scope clos ((mg "__name__").getD .none) c' ctv dv), toks := tk }) :
    wpAny M A (makeTail name qual params (.expr body) scope env dv .none none pos firstLine) Q E s := by
  obtain ⟨bm, ob, hbm, hne0, _, hneP, hbo, hcls, hdict, hdata⟩ := hb
  unfold makeTail
  rw [hcl, hge0]
  refine wpAny_bind (wpAny_pure ?_)
  cases clos with
  | nil =>
    simp only [List.isEmpty_nil, if_true]
    refine wpAny_bind (wpAny_pure ?_)
    refine wpAny_bind (wpAny_functionCode_hit hcode (C.code hP ht) hf ?_)
    refine wpAny_bind (wpAny_builtinsFor hg hbm hne0 hbo hcls hdict hdata ?_)
    refine wpAny_bind (wpAny_nsGet hg ?_)
    exact wpAny_bind (wpAny_pure (wpAny_newObj_type (h .none s.heap s.toks (fun _ _ e => e) (Nat.le_refl _)) (by size_fits)))
  | cons q r =>
    simp only [List.isEmpty_cons, Bool.false_eq_true, if_false]
    refine wpAny_bind (wpAny_newTextTuple ?_)
    refine wpAny_bind (wpAny_functionCode_hit hcode ((C.keeps fun b o e => Heap.get?_push_of_some _ e).code (Heap.get?_push_of_some _ hP) ht) hf ?_)
    refine wpAny_bind (wpAny_builtinsFor (hg.push _) hbm hne0 (Heap.get?_push_of_some _ hbo) hcls hdict hdata ?_)
    refine wpAny_bind (wpAny_nsGet (hg.push _) ?_)
    have hsz : ∀ oT : Obj, s.heap.objs.size ≤ (s.heap.push oT).objs.size := fun oT => by rw [Heap.size_push]; omega
    exact wpAny_bind (wpAny_pure (wpAny_newObj_type (h _ _ s.toks (fun b o e => Heap.get?_push_of_some _ e) (hsz _)) (by size_fits)))
end
/-- where a lambda's defaults stand: nowhere, or in a tuple of one -/
def DfOk (s : Heap) (dv : Value) (us : List Value) : Prop := (dv = .none ∧ us = []) ∨ ∃ t, dv = .ref t ∧ us ≠ [] ∧ s.get? t = some { cls := .type "tuple", data := .seq us.toArray }
section
variable {X : Cx} {pins : List (Addr × Obj)} {σ : L2.St} {H : Hp} {s : Shared}
/-- what the code object's address is then, and what is told of it -/
def NewCode (H H1 : Hp) (P c' : Addr) (q : Str) (ps : Array Value) (pos : Pos) : Prop := (H1 = H ∧ H c' = some (CodeO c' q) ∧ codeAmong pos ps.toList = some (.ref c')) ∨ (H c' = none ∧ c' ≠ P ∧ H1 = upd (upd H P (.tbl (ps ++ #[rawInt pos.line, rawInt pos.col, .ref c']))) c' (CodeO c' q))
theorem lam_tail {c P : Addr} {q : Str} {ps : Array Value} {params : Arguments} {body : Expr} {scope : Scope} {pos : Pos} {fl : Nat} {dv : Value} {us : List Value} {E : Value → Shared → Prop} {Q : Value → Shared → Prop} (I : Inv X pins σ H s) (TB : TabB X.base X.mg c P) (hcode : X.env.code = .ref c)
    (hP : H P = some (.tbl ps)) (ht : TriplesOk ps.toList) (ha : ∀ (pos : Pos) (cv : Value), codeAmong pos ps.toList = some cv → ∃ c, cv = .ref c ∧ H c = some (CodeO c q))
    (hfree : ∀ y ∈ scope.names, y.2 = .free → ∃ c, X.env.cells.lookup y.1 = some c) (hdv : DfOk s.heap dv us) (hdt : ∀ t, dv = .ref t → H t = none ∧ t ∉ frs X.stack)
    (h : ∀ (f c' : Addr) (pm ctv : Value) (H1 : Hp) (s' : Shared), Inv X pins σ H1 s' → NewCode H H1 P c' q ps pos →
      s'.heap.get? f = some (objD "<lambda>" q params body scope (cloFrom X.env.cells scope.names []) pm c' ctv dv) → DfOk s'.heap dv us → (∀ t, dv = .ref t → H1 t = none ∧ t ∉ frs X.stack) → H1 f = none → f ∉ frs X.stack → Q (.ref f) s') :
    wpAny (model X.prog X.w) X.A (makeTail "<lambda>" q params (.expr body) scope X.env dv .none none pos fl) Q E s := by
  have bP : s.heap.BuiltinsAt X.mg P := TB.bm.keeps I.bk
  have hP' : s.heap.get? P = some { cls := .none, data := .fields ps } := I.hok P _ hP
  have nofr : ∀ f, s.heap.objs.size ≤ f → f ∉ frs X.stack := fun f hf z => by
    rcases List.mem_cons.mp (I.stkSub _ z) with e | e
    · have h1 := I.lt
      rw [← e] at h1
      exact Nat.lt_irrefl _ (Nat.lt_of_lt_of_le h1 hf)
    · exact I.nofs hf e
  have dfk : ∀ {h' : Heap}, (∀ b o, b ≠ P → s.heap.get? b = some o → h'.get? b = some o) → DfOk h' dv us := fun {h'} k => by
    rcases hdv with ⟨e1, e2⟩ | ⟨t, e1, e2, e3⟩
    · exact .inl ⟨e1, e2⟩
    · refine .inr ⟨t, e1, e2, k t _ (fun z => ?_) e3⟩
      have := (hdt t e1).1
      rw [z, hP] at this
      cases this
  cases hc : codeAmong pos ps.toList with
  | none =>
    refine makeTailD (mg := X.mg) (c := c) (P := P) (ps := ps) (closure_ok hfree) I.ok.glob (I.mod.glob.keeps I.bk) hcode (TB.code.keeps I.bk) hP' ht hc TB.gP bP fun c' ctv h' tk hx hge hlt hrec htb => ?_
    obtain ⟨c2, oc, vs, t, e2, hoc, hd, hv⟩ := hrec
    cases e2
    have hsz : s.heap.objs.size ≤ h'.objs.size := Nat.le_trans hge (Nat.le_of_lt hlt)
    have nC : H c' = none := I.hok.fresh hge
    have nPc : c' ≠ P := fun z => by
      rw [z, hP] at nC
      cases nC
    have I1 := inv_table (t' := tk) (more := #[rawInt pos.line, rawInt pos.col, .ref c']) (h' := h'.push (objD "<lambda>" q params body scope (cloFrom X.env.cells scope.names []) ((X.mg "__name__").getD .none) c' ctv dv)) I hP
      (fun b o hb e => Heap.get?_push_of_some _ (hx b o hb e)) (Heap.get?_push_of_some _ htb) hge ⟨oc, vs, t, Heap.get?_push_of_some _ hoc, hd, hv⟩
    refine h h'.objs.size c' ((X.mg "__name__").getD .none) ctv _ _ I1 (.inr ⟨nC, nPc, rfl⟩) (Heap.get?_push_size _ rfl) (dfk fun b o hb e => Heap.get?_push_of_some _ (hx b o hb e)) (fun t et => ⟨?_, (hdt t et).2⟩) ?_ (nofr _ hsz)
    · have h1 := (hdt t et).1
      rcases hdv with ⟨e1, _⟩ | ⟨t', e1, _, e3⟩
      · rw [e1] at et; cases et
      · rw [e1] at et; cases et
        rw [upd_ne (Nat.ne_of_lt (Nat.lt_of_lt_of_le (Heap.lt_size e3) hge)), upd_ne (fun z => by rw [z, hP] at h1; cases h1)]
        exact h1
    · have n1 : h'.objs.size ≠ c' := Nat.ne_of_gt hlt
      have n2 : h'.objs.size ≠ P := Nat.ne_of_gt (Nat.lt_of_lt_of_le (Heap.lt_size hP') hsz)
      rw [upd_ne n1, upd_ne n2]
      exact I.hok.fresh hsz
  | some cv =>
    obtain ⟨c', e, hco⟩ := ha pos cv hc
    subst e
    refine makeTailHitD (mg := X.mg) (c := c) (P := P) (ps := ps) (closure_ok hfree) I.ok.glob (I.mod.glob.keeps I.bk) hcode (TB.code.keeps I.bk) hP' ht hc bP fun ctv h' tk hx hsz => ?_
    have I1 : Inv X pins σ H { s with heap := h'.push (objD "<lambda>" q params body scope (cloFrom X.env.cells scope.names []) ((X.mg "__name__").getD .none) c' ctv dv), toks := tk } := I.kept fun b o e => Heap.get?_push_of_some _ (hx b o e)
    exact h h'.objs.size c' ((X.mg "__name__").getD .none) ctv H _ I1 (.inl ⟨rfl, hco, hc⟩) (Heap.get?_push_size _ rfl) (dfk fun b o hb e => Heap.get?_push_of_some _ (hx b o e)) hdt (I.hok.fresh hsz) (nofr _ hsz)
/-- the defaults of a lambda: none, or one whole number -/
inductive DfIs (X : Cx) (params : Arguments) : List V → Prop
  | none : defaultsOf params X.env = ([], []) → DfIs X params []
  | int {i : Int} {j : Nat} {p : Pos} : defaultsOf params X.env = ([eval (.Constant (.int i) j p) X.env], []) → DfIs X params [.int i]
theorem lam_make {c P : Addr} {q : Str} {ps : Array Value} {params : Arguments} {body : Expr} {scope : Scope} {pos : Pos} {vs : List V} {E : Value → Shared → Prop} {Q : Value → Shared → Prop} (I : Inv X pins σ H s) (TB : TabB X.base X.mg c P) (hcode : X.env.code = .ref c)
    (hq : X.env.qual ++ "<lambda>" = q) (hP : H P = some (.tbl ps)) (ht : TriplesOk ps.toList) (ha : ∀ (pos : Pos) (cv : Value), codeAmong pos ps.toList = some cv → ∃ c, cv = .ref c ∧ H c = some (CodeO c q))
    (hfree : ∀ y ∈ scope.names, y.2 = .free → ∃ c, X.env.cells.lookup y.1 = some c) (hd : DfIs X params vs)
    (h : ∀ (us : List Value) (f c' : Addr) (pm ctv dv : Value) (H1 : Hp) (s' : Shared), Vals vs us → Inv X pins σ H1 s' → NewCode H H1 P c' q ps pos →
      s'.heap.get? f = some (objD "<lambda>" q params body scope (cloFrom X.env.cells scope.names []) pm c' ctv dv) → DfOk s'.heap dv us → (∀ t, dv = .ref t → H1 t = none ∧ t ∉ frs X.stack) → H1 f = none → f ∉ frs X.stack → Q (.ref f) s') :
    wpAny (model X.prog X.w) X.A (eval (.Lambda params body scope pos) X.env) Q E s := by
  subst hq
  cases hd with
  | none hdef =>
    refine PySem.W.kla_eval hdef ?_
    rw [makeFunction_eq]
    simp only [List.zip_nil_right, List.filterMap_nil, List.isEmpty_nil, if_true, pure_bind]
    exact lam_tail (us := []) I TB hcode hP ht ha hfree (.inl ⟨rfl, rfl⟩) (fun t e => nomatch e) fun f c' pm ctv H1 s' a1 a2 a3 a4 a5 a6 a7 => h [] f c' pm ctv .none H1 s' .nil a1 a2 a3 a4 a5 a6 a7
  | int hdef =>
    rename_i i j p
    rw [arm_eval_Lambda, hdef]
    show wpAny _ _ (do let dv ← evalAll [eval (.Constant (.int i) j p) X.env]; let kdv ← holding dv (evalAllOpt []); makeFunction "<lambda>" (X.env.qual ++ "<lambda>") params (.expr body) scope X.env dv kdv [] pos pos.line) Q E s
    refine wpAny_bind (m := evalAll [eval (.Constant (.int i) j p) X.env]) ?_
    show wpAny _ _ (do let v ← eval (.Constant (.int i) j p) X.env; return v :: (← holding [v] (evalAll []))) _ _ _
    refine wpAny_bind (m := eval (.Constant (.int i) j p) X.env) (wpAny_Constant_int ?_)
    refine wpAny_bind (wpAny_holding (wpAny_pure (wpAny_pure ?_)))
    refine wpAny_bind (wpAny_holding (wpAny_pure ?_))
    rw [makeFunction_eq]
    simp only [List.zip_nil_right, List.filterMap_nil, List.isEmpty_nil, List.isEmpty_cons, if_true, pure_bind]
    rw [if_neg (by decide)]
    refine wpAny_bind (wpAny_newTextTuple ?_)
    refine lam_tail (H := H) (ps := ps) (us := [.int i s.toks]) (c := c) (P := P) (I.kept (t' := s.toks + 1) fun b o e => Heap.get?_push_of_some _ e) TB hcode hP ht ha hfree (.inr ⟨_, rfl, (fun z => nomatch z), Heap.get?_push_size _ rfl⟩) (fun t e => ?_) fun f c' pm ctv H1 s' a1 a2 a3 a4 a5 a6 a7 => h _ f c' pm ctv _ H1 s' (.cons ⟨_, rfl⟩ .nil) a1 a2 a3 a4 a5 a6 a7
    cases e
    refine ⟨I.hok.fresh (Nat.le_refl _), fun z => ?_⟩
    rcases List.mem_cons.mp (I.stkSub _ z) with e | e
    · have h1 := I.lt
      rw [← e] at h1
      exact Nat.lt_irrefl _ h1
    · exact I.nofs (Nat.le_refl _) e
end
/-- captured names and globals, and parameters (of no name of the def around) -/
structure LamS2 (ns N : List Str) (sc scope : Scope) : Prop where
  kind : scope.kind = .function
  co : scope.isCoroutine = false
  gen : scope.isGenerator = false
  own : ∀ y ∈ scope.names, y.2 ≠ .cell ∧ (y.2 = .local → y.1 ∈ ns)
  free : ∀ y ∈ scope.names, y.2 = .free → sc.names.lookup y.1 = some .cell ∨ sc.names.lookup y.1 = some .free
  par : ∀ n ∈ ns, scope.names.lookup n = some .local ∧ n ∉ N
def lamS2B (ns N : List Str) (sc scope : Scope) : Bool :=
  decide (scope.kind = .function) && !scope.isCoroutine && !scope.isGenerator && (scope.names.all fun y => !decide (y.2 = .cell) && (!decide (y.2 = .local) || decide (y.1 ∈ ns)) && (!decide (y.2 = .free) || decide (sc.names.lookup y.1 = some .cell) || decide (sc.names.lookup y.1 = some .free))) && ns.all fun n => decide (scope.names.lookup n = some .local) && !decide (n ∈ N)
theorem lamS2_by {ns N : List Str} {sc scope : Scope} (h : lamS2B ns N sc scope = true) : LamS2 ns N sc scope := by
  unfold lamS2B at h
  simp only [Bool.and_eq_true, Bool.or_eq_true, Bool.not_eq_true', decide_eq_true_eq, decide_eq_false_iff_not, List.all_eq_true] at h
  obtain ⟨⟨⟨⟨h1, h2⟩, h3⟩, h4⟩, h5⟩ := h
  refine ⟨h1, h2, h3, fun y hy => ⟨(h4 y hy).1.1, fun e => ((h4 y hy).1.2).resolve_left fun z => z e⟩, fun y hy e => ?_, h5⟩
  rcases (h4 y hy).2 with (z | z) | z
  · exact absurd e z
  · exact .inl z
  · exact .inr z
theorem LamS2.has {ns N : List Str} {X : Cx} {scope : Scope} (L : LamS2 ns N X.env.scope scope) (ok : X.Ok) : ∀ y ∈ scope.names, y.2 = .free → ∃ c, X.env.cells.lookup y.1 = some c := fun y hy e => by
  rcases L.free y hy e with k | k
  · exact ok.has _ (.inl k)
  · exact ok.has _ (.inr k)
section
variable {X : Cx} {pins : List (Addr × Obj)} {σ : L2.St} {H HZ : Hp} {s s1 : Shared} {ns : List Str}
theorem lam_start3 {A : Around} {outer : List Env} {E : XK} {scope : Scope} {f c' : Addr} {h₁ : Heap} {tk : Nat} {bs : List (Str × Value)} (I : Inv X pins σ H s) (L : LamS2 ns X.N X.env.scope scope) (e0 : Env0 X.prog X.w X.K X.mg X.base A outer s1 HZ) (hd : A.handled = none)
    (un : Un (frs X.stack) [] H HZ s.heap s1.heap) (hns : h₁.Ns s1.heap.objs.size fun y => bs.reverse.lookup y) (kp : ∀ b o, s1.heap.get? b = some o → h₁.get? b = some o) :
    Inv (lamCx X A outer s1 HZ E scope f c') [] σ HZ { s1 with heap := h₁, toks := tk } := by
  have hfree := L.has I.ok
  have cm : ∀ {y c}, (cloFrom X.env.cells scope.names []).lookup y = some c → X.env.cells.lookup y = some c := fun {y c} e => by
    rcases cloFrom_mem (PySem.mem_of_lookup e) with hm | ⟨h1, h2⟩
    · cases hm
    · obtain ⟨c1, hc⟩ := hfree _ h1 rfl
      have hc : X.env.cells.lookup y = some c1 := hc
      have e2 : c = c1 := by
        rw [h2, hc] <;> rfl
      rw [e2]
      exact hc
  have look : ∀ {y}, scope.names.lookup y = some .free → ∃ c, (cloFrom X.env.cells scope.names []).lookup y = some c := fun {y} hl => by
    have hy : (y, NameKind.free) ∈ scope.names := PySem.mem_of_lookup hl
    exact mem_lookup (cloFrom_has (cells := X.env.cells) (acc := []) hy)
  have cellK : ∀ {c : Addr} {v : Option Value}, H c = none → s.heap.IsCell c v → h₁.IsCell c v := fun {c v} n ⟨o, ho, hd⟩ => by
    obtain ⟨sl, q⟩ := un.any ho n (by simp)
    exact ⟨_, kp _ _ q, hd⟩
  have noA : ∀ b : Addr, b ∉ (lamCx X A outer s1 HZ E scope f c').ex := fun b z => absurd (show b ∈ ([] : List Addr) from z) (by simp)
  refine ⟨⟨e0.mod, L.kind, rfl, rfl, Nat.le_refl _, fun y z c e1 e2 => I.ok.inj y z c (cm e1) (cm e2), fun y hy => ?_, fun y c z _ => ?_, fun _ => hd, Around.frames_deeper e0.frames, .inr ⟨rfl, rfl⟩, fun b z => absurd z (noA b), e0.bs, e0.bsz, fun b _ _ => noA b,
      fun b z => absurd z (noA b), e0.funs, e0.frf⟩,
    rfl, e0.bare, Un.kept kp, ⟨_, hns, fun i y v e1 e2 e3 => ?_⟩, fun y c e => ?_, e0.hok.fresh (Nat.le_refl _), fun y c e => ?_, fun q hq => absurd (show q ∈ ([] : List (Addr × Obj)) ++ [] from hq) (by simp), e0.hok.kept kp, I.len⟩
  · have hy : scope.names.lookup y = some .cell ∨ scope.names.lookup y = some .free := hy
    rcases hy with hy | hy
    · exact absurd rfl (L.own _ (PySem.mem_of_lookup hy)).1
    · exact look hy
  · have z : false = true := z
    cases z
  · have e3 : Vis scope y := e3
    rcases e3 with k | k | k
    · have hn := (L.own _ (PySem.mem_of_lookup k)).2 rfl
      have e1' : X.N[i]? = some y := e1
      exact absurd (List.mem_of_getElem? e1') (L.par y hn).2
    · exact absurd rfl (L.own _ (PySem.mem_of_lookup k)).1
    · obtain ⟨m, hn, hl⟩ := I.loc
      have hvis : Vis X.env.scope y := (L.free _ (PySem.mem_of_lookup k) rfl).elim (fun k => .inr (.inl k)) (fun k => .inr (.inr k))
      obtain ⟨w', r, q⟩ := hl i y v e1 e2 hvis
      obtain ⟨c2, h2⟩ := look k
      refine ⟨w', r, .inr ⟨.inr k, c2, h2, ?_⟩⟩
      have c1 := cm h2
      rcases q with ⟨k', _⟩ | ⟨_, c3, e', z⟩
      · have k' : X.env.scope.names.lookup y = some .local := k'
        rcases L.free _ (PySem.mem_of_lookup k) rfl with k2 | k2 <;> rw [show X.env.scope.names.lookup y = _ from k2] at k' <;> cases k'
      · rw [c1] at e'
        cases e'
        exact cellK (I.freeC y _ c1) z
  · obtain ⟨w', z⟩ := I.cell y c (cm e)
    exact ⟨w', cellK (I.freeC y c (cm e)) z⟩
  · obtain ⟨v, o, ho, hd⟩ := I.cell y c (cm e)
    exact un.free c o ho (I.freeC y c (cm e)) (by simp)
/-- how a call without arguments binds the lambda's parameters -/
structure LamB (params : Arguments) (body : Expr) (scope : Scope) (ns : List Str) (n : Nat) : Prop where
  no : n = 0 → ∀ (q : Str) (cl : List (Str × Addr)) (pm cv ctv : Value), bindArgs (fnD "<lambda>" q params body scope cl pm cv ctv .none) ⟨[], []⟩ = pure (ns.zip [])
  df : n ≠ 0 → ∀ (q : Str) (cl : List (Str × Addr)) (pm cv ctv : Value) (t : Addr) (us : List Value), us.length = n → ∃ k, bindArgs (fnD "<lambda>" q params body scope cl pm cv ctv (.ref t)) ⟨[], []⟩ = seqItems? (.ref t) >>= k ∧ k (some us.toArray) = pure (ns.zip us)
theorem LamB.binds {params : Arguments} {body : Expr} {scope : Scope} {n : Nat} (L : LamB params body scope ns n) {q : Str} {cl : List (Str × Addr)} {pm cv ctv dv : Value} {us : List Value} (hl : us.length = n) (d : DfOk s.heap dv us) : BindsTo s (fnD "<lambda>" q params body scope cl pm cv ctv dv) ⟨[], []⟩ (ns.zip us) := by
  rcases d with ⟨e1, e2⟩ | ⟨t, e1, e2, e3⟩
  · subst e1 e2
    exact BindsTo.of_eq (L.no hl.symm q cl pm cv ctv)
  · subst e1
    obtain ⟨k, k1, k2⟩ := L.df (fun z => e2 (List.length_eq_zero_iff.mp (hl.trans z))) q cl pm cv ctv t us hl
    exact BindsTo.of_defaults rfl e3 rfl k1 k2
/-- x(), in the def that got the lambda: Z is that def's context, entered at s -/
theorem pe_act3 {CXg : CXT} {Eg : XK} {Ng : List Str} {qg : Str} {sg : Scope} {g f c' : Addr} {cdg pm ctv dv : Value} {params : Arguments} {body : Expr} {scope : Scope} {k i n : Nat} {a q : Str} {pn : List (Addr × Obj)} {xe : Value → Shared → Prop} {W : WX} {tb : XK → TE} {p1 p2 : Pos} {us : List Value}
    (I : Inv X pins σ H s) (L : LamS2 ns X.N X.env.scope scope) (hq : X.env.qual ++ "<lambda>" = q) (hf : s.heap.get? f = some (objD "<lambda>" q params body scope (cloFrom X.env.cells scope.names []) pm c' ctv dv)) (hfn : H f = none) (hfr : f ∉ frs X.stack) (hdv : DfOk s.heap dv us) (hdt : ∀ t, dv = .ref t → H t = none ∧ t ∉ frs X.stack)
    (B : LamB params body scope ns n) (hl : us.length = n)
    (tk : Takes ((cxOf CXg X.prog X.w X.K X.mg X.base Ng qg sg g cdg X.A X.stack s H Eg).tr pn xe) W) (hr : Room (k + 1) (X.A.deeper (envOfC qg sg s.heap.objs.size g cdg)))
    (hbody : ∀ (E : XK) (A : Around) (outer : List Env) (s : Shared) (H : Hp), Room k (A.deeper (lamEnv X scope s.heap.objs.size f c')) → A.guards = X.A.guards → PE (lamCx X A outer s H E scope f c') body (tb E))
    (hN : Ng[i]? = some a) (hv : Vis sg a) (hd : (a == ("__debug__" : Str)) = false := by decide) (hcd : (a == ("__classdict__" : Str)) = false := by decide) :
    PE ((cxOf CXg X.prog X.w X.K X.mg X.base Ng qg sg g cdg X.A X.stack s H Eg).tr pn xe) (.Call (.Name a p1) [] [] p2)
      (fun σZ HZ Q => σZ[i]? = some (some (.ref f)) ∧ HZ c' = some (CodeO c' q) ∧ tb (fun c d H' => W c d σZ H') σ HZ Q) := by
  subst hq
  refine ⟨fun pinsZ sZ σZ HZ Q IZ h => ?_⟩
  obtain ⟨hs, hc, ht⟩ := h
  refine wpAny_Call_Name_kw (thn ((pe_var (pos := p1) (i := i) hN hv hd hcd).run pinsZ sZ σZ HZ (fun v H1 => v = .ref f ∧ H1 = HZ) IZ ⟨.ref f, hs, rfl, rfl⟩) fun u s1 ⟨v, H1, I1, r1, q1⟩ => ?_)
  obtain ⟨ev, eH⟩ := q1
  subst ev
  rw [eH] at I1
  obtain rfl : u = Value.ref f := r1
  have of1 : s1.heap.get? f = some (objD "<lambda>" (X.env.qual ++ "<lambda>") params body scope (cloFrom X.env.cells scope.names []) pm c' ctv dv) := I1.base.keep f _ hf hfn hfr (fun z => nomatch (show f ∈ ([] : List Addr) from z))
  have dv1 : DfOk s1.heap dv us := by
    rcases hdv with ⟨e1, e2⟩ | ⟨t, e1, e2, e3⟩
    · exact .inl ⟨e1, e2⟩
    · exact .inr ⟨t, e1, e2, I1.base.keep t _ e3 (hdt t e1).1 (hdt t e1).2 (fun z => nomatch (show t ∈ ([] : List Addr) from z))⟩
  refine PySem.W.callWith_F0 ⟨_, _, _, _, of1⟩ ?_
  have un : Un (frs X.stack) [] H HZ s.heap s1.heap := I1.base
  obtain ⟨⟨oc, vs, t, hoc, hdc, hvc⟩, _, _⟩ := I1.hok c' _ hc
  have rc : codeAny (model X.prog X.w) (X.A.deeper (envOfC qg sg s.heap.objs.size g cdg)) (.call (.ref f) ⟨[], []⟩) (CR (L2.CX X.prog X.w) (envOfC qg sg s.heap.objs.size g cdg :: X.stack) X.prog X.w HZ s1 Q (fun c d H' => W c d σZ H')) s1 := by
    refine PySem.W.kla_callFunE hr.depth of1 rfl L.co L.gen rfl ⟨c', oc, vs, t, rfl, hoc, hdc, hvc⟩ ?_
    refine B.binds hl dv1 _ _ _ _ ?_
    refine wpAny_newFunctionEnv (fun y hy => (L.own y hy).1) (fun y hy => (L.par y.1 (List.of_mem_zip (a := y.1) (b := y.2) hy).1).1) (fun h₁ hns hsb => ⟨I1.nolimit.fresh _ hsb, ?_⟩) L.kind
    show codeAny _ _ (.expr body (lamEnv X scope s1.heap.objs.size f c')) _ _
    have kp : ∀ b o, s1.heap.get? b = some o → h₁.get? b = some o := fun b o e => hsb.extBut b o (Nat.ne_of_lt (Heap.lt_size e)) (Heap.get?_push_of_some _ e)
    have J : Inv (lamCx X (X.A.deeper (envOfC qg sg s.heap.objs.size g cdg)) (envOfC qg sg s.heap.objs.size g cdg :: X.stack) s1 HZ (fun c d H' => W c d σZ H') scope f c') [] σ HZ { s1 with heap := h₁, toks := s1.toks + (ns.zip us).length } :=
      lam_start3 I L I1.env0 hr.hd un hns kp
    refine PySem.W.kla_codeExpr (wpAny_mono ((hbody _ _ _ s1 HZ (hr.deeper _) rfl).run [] _ _ HZ Q J ht) (fun v s' hq => ?_) fun e s' hq => hq)
    obtain ⟨w', H', J', rv, q⟩ := hq
    exact ⟨w', H', J'.os, J'.bare, J'.base, J'.hok, rv, q⟩
  refine wpAny_call (codeAny_mono rc fun r s' hq => ?_)
  cases r with
  | error e => exact passAt tk σZ pinsZ HZ s1 e s' I1 hq
  | ok fl =>
    cases fl with
    | ret u => exact I1.after hq
    | next => exact False.elim hq
    | brk => exact False.elim hq
    | cont => exact False.elim hq
end
end LamY
namespace Pl
open PySem PySem.Spec PyProof.Rows L2 LamX LamY
open PyProof.Rows (envOfC)
/-- what the call of a lambda does -/
abbrev DM := Mh → Option EOQ
open Classical in
noncomputable def qDeed (f c : Addr) (q : Str) (vs : List V) (ds : List D) (dm : DM) : EXQ := fun δ M => if δ[0]? = some (some (D.lam f c q vs ds)) then dm M else none
/-- the slots that a lambda holds -/
def capEnv (n : Nat) : List Nat → List D → Env
  | i :: is, d :: ds => (capEnv n is ds).set i (some d)
  | _, _ => List.replicate n none
def capGet (δ : Env) : List Nat → Option (List D)
  | [] => some []
  | i :: is => match δ[i]?, capGet δ is with
    | some (some d), some ds => some (d :: ds)
    | _, _ => none
def CapS (σ : L2.St) : List Nat → List V → Prop
  | [], [] => True
  | i :: is, v :: vs => σ[i]? = some (some v) ∧ CapS σ is vs
  | _, _ => False
theorem cap_slots {K : PySem.W.Frag} {W : Wd} {σ : L2.St} {δ : Env} (s : Slots K W σ δ) : ∀ {is : List Nat} {ds : List D}, capGet δ is = some ds → ∃ vs, RepL K W.B W.ι vs ds ∧ CapS σ is vs
  | [], ds, h => by
    cases h
    exact ⟨[], .nil, trivial⟩
  | i :: is, ds, h => by
    unfold capGet at h
    split at h
    · rename_i d ds' h1 h2
      cases h
      obtain ⟨v, e1, e2⟩ := s.at_ i d h1
      obtain ⟨vs, r, c⟩ := cap_slots s h2
      exact ⟨v :: vs, .cons e2 r, e1, c⟩
    · cases h
theorem slots_cap {K : PySem.W.Frag} {W : Wd} {σ : L2.St} : ∀ {is : List Nat} {vs : List V} {ds : List D}, CapS σ is vs → RepL K W.B W.ι vs ds → Slots K W σ (capEnv σ.length is ds)
  | [], _, ds, _, _ => by
    have e : capEnv σ.length [] ds = List.replicate σ.length none := by rw [capEnv.eq_def]
    rw [e]
    refine ⟨by simp, fun i d h => ?_⟩
    rw [List.getElem?_replicate] at h
    split at h
    · cases h
    · cases h
  | i :: is, [], _, c, _ => absurd c (by unfold CapS; exact fun z => z)
  | i :: is, v :: vs, _, c, .cons (d := d) (ds := ds) r1 r2 => by
    obtain ⟨c1, c2⟩ := c
    have ih := slots_cap c2 r2
    show Slots K W σ ((capEnv σ.length is ds).set i (some d))
    refine ⟨by rw [List.length_set]; exact ih.len, fun j e h => ?_⟩
    rw [List.getElem?_set] at h
    by_cases hij : i = j
    · subst hij
      rw [if_pos rfl] at h
      split at h
      · cases h
        exact ⟨v, c1, r1⟩
      · cases h
    · rw [if_neg hij] at h
      exact ih.at_ j e h
def bodyU (P : Program) (w : World) (K : PySem.W.Frag) (mg : Str → Option Value) (base : Heap) (N : List Str) {k : Nat} {qual : Str} {scope : Scope} {f : Addr} (e : Entry k qual scope f) : Unit → Cx := fun _ => bodyF P w K mg base N e
theorem bodyU_ctx (P : Program) (w : World) (K : PySem.W.Frag) (mg : Str → Option Value) (base : Heap) (N : List Str) {k : Nat} {qual : Str} {scope : Scope} {f : Addr} (e : Entry k qual scope f) : Ctx (bodyU P w K mg base N e) P w K mg base k :=
  ⟨fun _ => rfl, fun _ => rfl, fun _ => rfl, fun _ => rfl, fun _ => rfl, fun _ => e.room, fun _ => e.grd, fun _ => rfl⟩
/-- the parameter's call -/
def DeedJ (X : Unit → Cx) (K : PySem.W.Frag) (mg : Str → Option Value) (a : Str) (qd : EXQ) : Prop := ∀ S : WX, (∀ i, Takes (trF X S i) S) → ∀ p1 p2 : Pos, DEQ (trF X S) K mg S (.Call (.Name a p1) [] [] p2) qd
abbrev LamG := Addr → Addr → Str → List V → List D → DM → SF
structure LkL (P : Program) (w : World) (K : PySem.W.Frag) (mg : Str → Option Value) (base : Heap) (x : Str) (k : Nat) (a : Str) (n : Nat) (G : LamG) : Prop where
  go : ∃ (g : Addr) (oc : Value) (od : Option Addr) (pg : Arguments) (bg : List Stmt) (sg : Scope) (dV kV doc pm : Value) (an : Option Addr) (cdv ct : Value) (osl : Array (Option Value)) (Ng : List Str),
    Ng.length = n ∧ mg x = some (.ref g) ∧ PySem.W.keepIn K (.ref g) = true ∧ K.lookup g = some ⟨oc, od, .func (PySem.W.fnOf x x pg bg sg dV kV doc pm an cdv ct), osl⟩ ∧ PySem.W.codeIn K cdv x = true ∧ L2.Binds K (PySem.W.fnOf x x pg bg sg dV kV doc pm an cdv ct) [a] [] ∧ FnScope Ng [a] sg ∧
    Ng[0]? = some a ∧ Vis sg a ∧ (a == ("__debug__" : Str)) = false ∧ (a == ("__classdict__" : Str)) = false ∧ (x == ("__debug__" : Str)) = false ∧
    ∀ (e : Entry k x sg g) (f c : Addr) (q : Str) (vs : List V) (ds : List D) (dm : DM), DeedJ (bodyU P w K mg base Ng e) K mg a (qDeed f c q vs ds dm) → DB (bodyU P w K mg base Ng e) K bg (G f c q vs ds dm)
theorem LkL.of {P : Program} {w : World} {K : PySem.W.Frag} {mg : Str → Option Value} {base : Heap} {x a : Str} {k : Nat} {G : LamG} {params : Arguments} {body : List Stmt} {scope : Scope} {g : Addr} {fd : FuncData} {N : List Str} (F : FunD K x x params body scope [] [] g fd) (Sc : FnScope N [a] scope)
    (hm : mg x = some (.ref g)) (hk : PySem.W.keepIn K (.ref g) = true) (hb : L2.Binds K fd [a] []) (h0 : N[0]? = some a) (hv : Vis scope a) (hd : (a == ("__debug__" : Str)) = false) (hcd : (a == ("__classdict__" : Str)) = false) (hxd : (x == ("__debug__" : Str)) = false)
    (hG : ∀ (e : Entry k x scope g) (f c : Addr) (q : Str) (vs : List V) (ds : List D) (dm : DM), Ctx (bodyU P w K mg base N e) P w K mg base k → DeedJ (bodyU P w K mg base N e) K mg a (qDeed f c q vs ds dm) → DB (bodyU P w K mg base N e) K body (G f c q vs ds dm)) : LkL P w K mg base x k a N.length G := by
  obtain ⟨oc, od, dV, kV, doc, pm, an, cdv, ct, osl, rfl, lk, hcd', _, _⟩ := F.ex
  exact ⟨g, oc, od, params, body, scope, dV, kV, doc, pm, an, cdv, ct, osl, N, rfl, hm, hk, lk, hcd', hb, Sc, h0, hv, hd, hcd, hxd, fun e f c q vs ds dm hj => hG e f c q vs ds dm (bodyU_ctx P w K mg base N e) hj⟩
section
variable {I : Type}
structure LamIx (X : I → Cx) (scope : Scope) (kb : Nat) where
  i : I
  A : Around
  outer : List PySem.Env
  s : Shared
  H : Hp
  f : Addr
  c : Addr
  room : Room kb (A.deeper (lamEnv (X i) scope s.heap.objs.size f c))
  grd : A.guards = some []
def lamF (X : I → Cx) (scope : Scope) {kb : Nat} (E : XK) (j : LamIx X scope kb) : Cx := lamCx (X j.i) j.A j.outer j.s j.H E scope j.f j.c
variable {X : I → Cx} {P : Program} {w : World} {K : PySem.W.Frag} {mg : Str → Option Value} {base : Heap} {k : Nat}
theorem lamF_ctx (c : Ctx X P w K mg base k) (scope : Scope) {kb : Nat} (E : XK) : Ctx (lamF X scope (kb := kb) E) P w K mg base kb :=
  ⟨fun j => c.prog j.i, fun j => c.wd j.i, fun j => c.K j.i, fun j => c.mg j.i, fun j => c.base j.i, fun j => j.room, fun j => j.grd, fun _ => rfl⟩
theorem lamF_takes (scope : Scope) {kb : Nat} (E : XK) (j : LamIx X scope kb) : Takes (lamF X scope E j) (fun c d _ H => E c d H) := takes_of rfl rfl rfl rfl
theorem Wd.tab_ok {W : Wd} {M : Mh} {m0 : Nat} {P0 c' : Addr} {q : Str} {ps : Array Value} {pos : Pos} (w : W.Ok K M) (lv0 : Live W M m0 P0 (.tab P0 q)) (ht : TriplesOk ps.toList)
    (ha : ∀ (pos : Pos) (cv : Value), codeAmong pos ps.toList = some cv → ∃ c, cv = .ref c ∧ W.B c = some (CodeO c q)) (hc : W.H c' = none) (hcP : c' ≠ P0) :
    (⟨upd (upd W.H P0 (.tbl (ps ++ #[rawInt pos.line, rawInt pos.col, .ref c']))) c' (CodeO c' q), upd W.B c' (CodeO c' q), W.ι, W.P⟩ : Wd).Ok K M := by
  obtain ⟨b0, p0, _⟩ := w.live _ _ _ lv0
  have hB : W.B c' = none := w.bnone hc
  have kB : ∀ b o, W.B b = some o → upd W.B c' (CodeO c' q) b = some o := updk hB
  have nP : ∀ {n a u}, n ≠ m0 → Live W M n a u → a ≠ P0 := fun {n a u} hn h e => by
    subst e
    exact hn (w.inj _ _ _ _ _ h lv0)
  have nc : ∀ {n a u}, Live W M n a u → a ≠ c' := fun {n a u} h e => by
    obtain ⟨_, _, k, hk, _⟩ := w.live n a u h
    rw [e, hc] at hk
    cases hk
  refine ⟨fun a o h => ?_, fun a o h => ?_, w.len, fun n a u h => ?_, fun n m a u v h g => w.inj n m a u v h g⟩
  · have h' : upd W.B c' (CodeO c' q) a = some o := h
    show upd (upd W.H P0 _) c' _ a = some o
    by_cases e : a = c'
    · subst e
      rw [upd_same] at h' ⊢
      exact h'
    · rw [upd_ne e] at h' ⊢
      rw [upd_ne (fun z => by rw [z, b0] at h'; cases h')]
      exact w.sub a o h'
  · obtain ⟨q1, q2⟩ := w.pin a o h
    have e : a ≠ c' := fun e => by
      rw [e, hc] at q1
      cases q1
    have e2 : a ≠ P0 := fun e => by
      have h' : W.P a = some o := h
      rw [e, p0] at h'
      cases h'
    exact ⟨(upd_ne e).trans ((upd_ne e2).trans q1), (upd_ne e).trans q2⟩
  · have h' : Live W M n a u := h
    obtain ⟨h1, h2, g, h3, h4⟩ := w.live n a u h'
    have e := nc h'
    by_cases hn : n = m0
    · subst hn
      have ea : a = P0 := by
        have := h'.1.symm.trans lv0.1
        cases this
        rfl
      have eu : u = .tab P0 q := by
        have := h'.2.1.symm.trans lv0.2.1
        cases this
        rfl
      subst ea eu
      refine ⟨(upd_ne e).trans h1, h2, .tbl (ps ++ #[rawInt pos.line, rawInt pos.col, .ref c']), (upd_ne e).trans upd_same, ?_⟩
      have eL : (ps ++ #[rawInt pos.line, rawInt pos.col, .ref c']).toList = ps.toList ++ [rawInt pos.line, rawInt pos.col, .ref c'] := by simp
      refine .tab (by rw [eL]; exact PySem.TriplesOk_snoc _ _ _ _ ht) fun p' cv hcv => ?_
      rw [eL] at hcv
      rcases among_app _ ht hcv with z | z
      · obtain ⟨c0, e1, e2⟩ := ha p' cv z
        exact ⟨c0, e1, kB _ _ e2⟩
      · exact ⟨c', z, upd_same⟩
    · exact ⟨(upd_ne e).trans h1, h2, g, (upd_ne e).trans ((upd_ne (nP hn h')).trans h3), h4.mono kB fun _ _ z => z⟩
theorem Wd.tab_le {W : Wd} {M : Mh} {c' : Addr} {q : Str} {H' : Hp} (w : W.Ok K M) (hc : W.H c' = none) : W.Le ⟨H', upd W.B c' (CodeO c' q), W.ι, W.P⟩ := ⟨updk (w.bnone hc), ⟨[], by simp⟩, rfl⟩
/-- the table, live -/
theorem tab_live {W : Wd} {M : Mh} {m0 : Nat} {P0 : Addr} {q : Str} (w : W.Ok K M) (hM : M[m0]? = some (.tab P0 q)) : Live W M m0 P0 (.tab P0 q) ∧ ∃ ps : Array Value, W.H P0 = some (.tbl ps) ∧ TriplesOk ps.toList ∧ ∀ (pos : Pos) (cv : Value), codeAmong pos ps.toList = some cv → ∃ c, cv = .ref c ∧ W.B c = some (CodeO c q) := by
  have hl : m0 < W.ι.length := by
    rw [w.len]
    exact (List.getElem?_eq_some_iff.mp hM).1
  have lv : Live W M m0 W.ι[m0] (.tab P0 q) := ⟨List.getElem?_eq_getElem hl, hM, fun z => by cases z⟩
  obtain ⟨_, _, o, ho, ro⟩ := w.live _ _ _ lv
  generalize W.ι[m0] = a at lv ho ro
  cases ro with
  | tab h1 h2 => exact ⟨lv, _, ho, h1, h2⟩
open Classical in
noncomputable def eLam (m0 : Nat) (P0 : Addr) (q : Str) (n : Nat) (G : LamG) (is : List Nat) (fb : EXQ) : EF := fun δ M =>
  if M[m0]? = some (.tab P0 q) then (match capGet δ is with
    | some ds => if h : ∃ r, ∀ (f c : Addr) (vs : List V), fnF n (G f c q vs ds fun M' => fb (capEnv δ.length is ds) M') [.lam f c q vs ds] M = some r then some (Classical.choose h) else none
    | none => none) else none
theorem eLam_of {m0 : Nat} {P0 : Addr} {q : Str} {n : Nat} {G : LamG} {is : List Nat} {fb : EXQ} {δ : Env} {M : Mh} {ds : List D} {r : D × Mh} (hM : M[m0]? = some (.tab P0 q)) (hc : capGet δ is = some ds) (h : ∀ (f c : Addr) (vs : List V), fnF n (G f c q vs ds fun M' => fb (capEnv δ.length is ds) M') [.lam f c q vs ds] M = some r) : eLam m0 P0 q n G is fb δ M = some r := by
  unfold eLam
  rw [if_pos hM, hc]
  dsimp only
  have hx : ∃ r, ∀ (f c : Addr) (vs : List V), fnF n (G f c q vs ds fun M' => fb (capEnv δ.length is ds) M') [.lam f c q vs ds] M = some r := ⟨r, h⟩
  rw [dif_pos hx]
  exact (Classical.choose_spec hx 0 0 []).symm.trans (h 0 0 [])
theorem eLam_to {m0 : Nat} {P0 : Addr} {q : Str} {n : Nat} {G : LamG} {is : List Nat} {fb : EXQ} {δ : Env} {M : Mh} {r : D × Mh} (e : eLam m0 P0 q n G is fb δ M = some r) : M[m0]? = some (.tab P0 q) ∧ ∃ ds, capGet δ is = some ds ∧ ∀ (f c : Addr) (vs : List V), fnF n (G f c q vs ds fun M' => fb (capEnv δ.length is ds) M') [.lam f c q vs ds] M = some r := by
  unfold eLam at e
  split at e
  · rename_i hM
    split at e
    · rename_i ds hc
      split at e
      · rename_i hx
        cases e
        exact ⟨hM, ds, hc, Classical.choose_spec hx⟩
      · cases e
    · cases e
  · cases e
theorem DE.lam (c : Ctx X P w K mg base k) {x a q : Str} {kf kb n m0 : Nat} {G : LamG} {is : List Nat} {fb : EXQ} {cA P0 : Addr} {ns : List Str} {params : Arguments} {body : Expr} {scope : Scope} {p lpos pos : Pos} {vs : List V} (L : LkL P w K mg base x kf a n G) (hk : kf + 1 ≤ k) (hkb : kb + 1 ≤ kf)
    (TB : TabB base mg cA P0) (hcode : ∀ i, (X i).env.code = .ref cA) (hq : ∀ i, (X i).env.qual ++ "<lambda>" = q) (LS : ∀ i, LamS2 ns (X i).N (X i).env.scope scope) {nd : Nat} (LB : LamB params body scope ns nd) (hd : ∀ i, DfIs (X i) params vs) (hnd : vs.length = nd)
    (hb : ∀ E : XK, Ctx (lamF X scope (kb := kb) E) P w K mg base kb → (∀ j, Takes (lamF X scope (kb := kb) E j) (fun c d _ H => E c d H)) → DEQ (lamF X scope (kb := kb) E) K mg (fun c d _ H => E c d H) body fb)
    (hst : ∀ i, (X i).stack = (X i).env :: (X i).outer := by intro _; rfl) (hg : ∀ i, Gl (X i) x := by intro _; rfl) : DE X K (.Call (.Name x p) [.Lambda params body scope lpos] [] pos) (eLam m0 P0 q n G is fb) := by
  refine ⟨fun σ H Q => ∃ W M δ d M', W.H = H ∧ W.Ok K M ∧ Slots K W σ δ ∧ eLam m0 P0 q n G is fb δ M = some (d, M') ∧ VR K W d M' Q, fun i => ⟨fun pins s σ H Q J h => ?_⟩, fun σ W δ M d M' Q w s e q => ⟨W, M, δ, d, M', rfl, w, s, e, q⟩⟩
  obtain ⟨W, M, δ, d, M', rfl, wOk, sl, ev, qv⟩ := h
  obtain ⟨hM, ds, hcap, hrun⟩ := eLam_to ev
  obtain ⟨lv0, ps, hP, ht, ha⟩ := tab_live wOk hM
  obtain ⟨g, oc, od, pg, bg, sg, dV, kV, doc, pm, an, cdv, ct, osl, Ng, hNl, hm, hkp, lk, hcd, hbn, Sg, hN0, hva, hda, hcda, hxd, hG⟩ := L.go
  have cK := c.K i
  have cmg := c.mg i
  have cb := c.base i
  have cp := c.prog i
  have cw := c.wd i
  have room := c.room i
  have grd := c.grd i
  refine wpAny_Call_Name_kw (ld_glob J (hg i) (by rw [cmg]; exact hm) ?_ hxd)
  refine PySem.W.callWith_K (h₀ := (X i).base) J.ok.mod.kin (by rw [cK]; exact hkp) ?_ (by rfl) (by rfl)
  show wpAny _ _ (spliced ((false, eval (.Lambda params body scope lpos) (X i).env) :: backTo pos (starEach [] (X i).env))) _ _ s
  refine Calls.spliced_cons (lam_make (q := q) (ps := ps) (c := cA) (P := P0) J (by rw [cb, cmg]; exact TB) (hcode i) (hq i) hP ht (fun p' cv hcv => ?_) ((LS i).has J.ok) (hd i) fun us f c' pm' ctv dv H1 s' hus I1 nc hf hdf hdt hfn hfr => ?_)
  · obtain ⟨c0, e1, e2⟩ := ha p' cv hcv
    exact ⟨c0, e1, wOk.sub _ _ e2⟩
  refine Calls.spliced_nil ⟨I1.kIn, ?_⟩
  -- the world behind the making
  have hW1 : ∃ W1 : Wd, W1.H = H1 ∧ W.Le W1 ∧ W1.Ok K M ∧ W1.B c' = some (CodeO c' q) := by
    rcases nc with ⟨e1, e2, e3⟩ | ⟨e1, e2, e3⟩
    · obtain ⟨c0, z1, z2⟩ := ha _ _ e3
      cases z1
      exact ⟨W, e1.symm, .refl W, wOk, z2⟩
    · exact ⟨⟨H1, upd W.B c' (CodeO c' q), W.ι, W.P⟩, rfl, Wd.tab_le wOk e1, by rw [e3]; exact Wd.tab_ok wOk lv0 ht ha e1 e2, upd_same⟩
  obtain ⟨W1, rfl, l1, w1, b1⟩ := hW1
  obtain ⟨vs1, rcap, scap⟩ := cap_slots (sl.le l1) hcap
  have hrn := hrun f c' vs1
  have q1 := qv.le l1
  have rc : codeAny (model (X i).prog (X i).w) (X i).A (.call (.ref g) ⟨[.ref f], []⟩) (CR C8.CX0 (X i).stack (X i).prog (X i).w W1.H s' Q C8.E0) s' := by
    have KX : (X i).K.lookup g = some ⟨oc, od, .func (PySem.W.fnOf x x pg bg sg dV kV doc pm an cdv ct), osl⟩ := by rw [cK]; exact lk
    refine run_ofS (N := Ng) (ps := [a]) (us := [.ref f]) (vs := [.ref f]) KX (by rw [cK]; exact hcd) Sg (room.mono hk) I1.env0 (by rw [← cK] at hbn; exact hbn s' [.ref f] I1.kIn rfl) (.cons rfl .nil) rfl fun hr' => ?_
    -- the call of what it got
    have hj : DeedJ (bodyU (X i).prog (X i).w (X i).K (X i).mg (X i).base Ng (k := kf) (qual := x) (scope := sg) (f := g) ⟨cdv, (X i).A, (X i).stack, s', W1.H, hr', grd⟩) (X i).K (X i).mg a (qDeed f c' q vs1 ds fun M' => fb (capEnv δ.length is ds) M') := by
      intro S htk p1 p2
      have hbX : ∀ E : XK, DEQ (lamF X scope (kb := kb) E) K mg (fun c d _ H => E c d H) body fb := fun E => hb E (lamF_ctx c scope E) (lamF_takes scope E)
      let tB : XK → TE := fun E => Classical.choose (hbX E).go
      have pB : ∀ E j, PE (lamF X scope (kb := kb) E j) body (tB E) := fun E => (Classical.choose_spec (hbX E).go).1
      have rB : ∀ E : XK, ERQ K mg (fun c d _ H => E c d H) (tB E) fb := fun E => (Classical.choose_spec (hbX E).go).2
      refine ⟨fun σZ HZ Q => σZ[0]? = some (some (.ref f)) ∧ HZ c' = some (CodeO c' q) ∧ tB (fun c d H' => S c d σZ H') σ HZ Q, fun jj => ?_, fun σZ WZ δZ MZ o QZ wz sz ez pz => ?_⟩
      · obtain ⟨⟨uu, pn, xe⟩, tk, po⟩ := jj
        exact pe_act3 (CXg := CX0) (Eg := E0) (Ng := Ng) (i := 0) (n := nd) I1 (LS i) (hq i) hf hfn hfr hdf hdt LB ((Vals.length hus).symm.trans hnd) tk (hr'.mono hkb) (fun E A outer s H r2 gg => pB E ⟨i, A, outer, s, H, f, c', r2, gg.trans grd⟩) hN0 hva hda hcda
      · unfold qDeed at ez
        split at ez
        · rename_i h0
          obtain ⟨v, e1, e2⟩ := sz.at_ 0 _ h0
          cases e2 with
          | lam hB hr =>
            refine ⟨e1, wz.sub _ _ hB, ?_⟩
            rw [cK] at wz hr pz
            rw [cmg] at pz
            refine rB (fun c d H' => S c d σZ H') σ WZ _ MZ o QZ wz ?_ ez pz
            rw [← sl.len]
            exact slots_cap scap hr
        · cases ez
    have hDB : DB (bodyU (X i).prog (X i).w (X i).K (X i).mg (X i).base Ng (k := kf) (qual := x) (scope := sg) (f := g) ⟨cdv, (X i).A, (X i).stack, s', W1.H, hr', grd⟩) (X i).K bg (G f c' q vs1 ds fun M' => fb (capEnv δ.length is ds) M') := by
      have := hG
      rw [← cp, ← cw, ← cK, ← cmg, ← cb] at this
      exact this _ _ _ _ _ _ _ hj
    obtain ⟨t, pt, rt⟩ := hDB.go
    refine ⟨t, (pt ()).nox, ?_⟩
    rw [cK] at rt
    have rL : RepL K W1.B W1.ι [.ref f] [.lam f c' q vs1 ds] := .cons (.lam b1 rcap) .nil
    have st := slots_start (N := Ng) rL
    rw [hNl] at st
    unfold fnF at hrn
    split at hrn
    · rename_i d2 M2 h2
      cases hrn
      exact rt _ W1 _ M _ _ w1 st h2 q1
    · rename_i δ2 M2 h2
      cases hrn
      exact rt _ W1 _ M _ _ w1 st h2 fun σ' W' l o s' => q1 .non W' l o .non
    · cases hrn
  refine wpAny_call (codeAny_mono rc fun r s2 hq => ?_)
  cases r with
  | error e => exact (show False from hq).elim
  | ok fl =>
    cases fl with
    | ret u => exact I1.after hq
    | next => exact False.elim hq
    | brk => exact False.elim hq
    | cont => exact False.elim hq
end
end Pl
namespace L2
open PySem PySem.Spec PyProof.Rows
end L2
namespace Pl
open PySem L2
def forGoQ (g : GF) (b : XFQ) : List D → Env → Mh → Option XOQ
  | [], δ, M => some (.ok (.nx δ M))
  | x :: xs, δ, M => match g x δ with
    | none => none
    | some δ1 => match b δ1 M with
      | some (.ok (.nx δ' M')) => forGoQ g b xs δ' M'
      | some (.ok (.ct δ' M')) => forGoQ g b xs δ' M'
      | some (.ok (.bk δ' M')) => some (.ok (.nx δ' M'))
      | some (.ok (.rt d M')) => some (.ok (.rt d M'))
      | some (.ex y fs δ' M') => some (.ex y fs δ' M')
      | some (.ep y δ' M') => some (.ep y δ' M')
      | none => none
def qFor (a : AF) (g : GF) (b : XFQ) : XFQ := fun δ M => match a δ M with
  | some (ds, M1) => forGoQ g b ds δ M1
  | none => none
section
variable {I : Type} {X : I → Cx} {P : Program} {w : World} {K : PySem.W.Frag} {mg : Str → Option Value} {base : Heap} {k : Nat} {S : WX}
theorem DSQ.for (c : Ctx X P w K mg base k) {tg iter : Expr} {body : List Stmt} {pos} {a : AF} {g : GF} {b : XFQ} {sl : List Nat} (hp : ∀ i, PassesOwn (model (X i).prog (X i).w) (X i).A (X i).env (X i).xe) (hi : DI X K tg iter a) (hg : DG X K tg g sl) (hb : DBQ X K mg S body b)
    (hs : ∀ i x, foldedSetIterable iter (X i).env x = pure x := by intro _ _; rfl) : DSQ X K mg S (.For tg iter body [] pos) (qFor a g b) := by
  obtain ⟨ti, pi, ri⟩ := hi.go
  obtain ⟨tg, pg, rg⟩ := hg.go
  obtain ⟨tb, pb, rb⟩ := hb.go
  refine ⟨tFor ti tg tb, fun i => ps_for (hp i) (c.calm i) (pi i) (pg i) (pb i) (hs i), fun σ W δ M o E w s e q => ?_⟩
  unfold qFor at e
  split at e
  · rename_i ds M1 h1
    refine ri σ W δ M ds M1 _ w s h1 fun J W1 l1 w1 wk => ?_
    refine ⟨fun i m σ' H => ∃ W' δ' M', W'.H = H ∧ W1.Le W' ∧ W'.Ok K M' ∧ Slots K W' σ' δ' ∧ i + m = ds.length ∧ forGoQ g b (ds.drop i) δ' M' = some o, ⟨ds.length, W1, δ, M1, rfl, .refl W1, w1, s.le l1, by omega, e⟩, ?_⟩
    rintro i m σ' H ⟨W', δ', M', rfl, l', w', s', em, e'⟩
    obtain ⟨k1, k2⟩ := wk i W' M' l'.lo w'
    cases hd : ds[i]? with
    | none =>
      have hl : ds.length ≤ i := List.getElem?_eq_none_iff.mp hd
      rw [List.drop_of_length_le hl] at e'
      cases e'
      exact .inl ⟨k1 hd, q σ' W' (l1.trans l') w' s'⟩
    | some d =>
      obtain ⟨hgo, hy⟩ := k2 d hd
      have hl : i < ds.length := (List.getElem?_eq_some_iff.mp hd).1
      have hdr : ds.drop i = d :: ds.drop (i + 1) := by
        rw [List.drop_eq_getElem_cons hl]
        congr 1
        exact Option.some.inj ((List.getElem?_eq_getElem hl).symm.trans hd)
      rw [hdr] at e'
      unfold forGoQ at e'
      refine .inr ⟨hgo, fun σ2 H2 => ∃ W2 δ2 M2, W2.H = H2 ∧ W1.Le W2 ∧ W2.Ok K M2 ∧ Slots K W2 σ2 δ2 ∧ forGoQ g b (ds.drop (i + 1)) δ2 M2 = some o, fun σ2 H2 ⟨W2, δ2, M2, a1, a2, a3, a4, a5⟩ => ⟨m - 1, by omega, W2, δ2, M2, a1, a2, a3, a4, by omega, a5⟩, fun x H' y => ?_⟩
      obtain ⟨W3, rfl, l3, w3, r3⟩ := hy x H' y
      split at e'
      · cases e'
      · rename_i δ1 h2
        refine rg x d σ' W3 δ' δ1 M' _ w3 (s'.le l3) r3 h2 fun σ3 s3 _ => ?_
        split at e'
        · rename_i δ4 M4 h3
          exact rb σ3 W3 δ1 M' (.ok (.nx δ4 M4)) _ w3 s3 h3 fun σ4 W4 l4 w4 s4 => ⟨W4, δ4, M4, rfl, (l'.trans l3).trans l4, w4, s4, e'⟩
        · rename_i δ4 M4 h3
          exact rb σ3 W3 δ1 M' (.ok (.ct δ4 M4)) _ w3 s3 h3 fun σ4 W4 l4 w4 s4 => ⟨W4, δ4, M4, rfl, (l'.trans l3).trans l4, w4, s4, e'⟩
        · rename_i δ4 M4 h3
          cases e'
          exact rb σ3 W3 δ1 M' (.ok (.bk δ4 M4)) _ w3 s3 h3 fun σ4 W4 l4 w4 s4 => q σ4 W4 (((l1.trans l').trans l3).trans l4) w4 s4
        · rename_i d4 M4 h3
          cases e'
          exact rb σ3 W3 δ1 M' (.ok (.rt d4 M4)) _ w3 s3 h3 fun v W4 l4 w4 r4 => q v W4 (((l1.trans l').trans l3).trans l4) w4 r4
        · rename_i y fs δ4 M4 h3
          cases e'
          exact rb σ3 W3 δ1 M' (.ex y fs δ4 M4) _ w3 s3 h3 fun C σ4 W4 dx vs m l4 w4 s4 z => q C σ4 W4 dx vs m (((l1.trans l').trans l3).trans l4) w4 s4 z
        · rename_i y δ4 M4 h3
          cases e'
          exact rb σ3 W3 δ1 M' (.ep y δ4 M4) _ w3 s3 h3 fun C σ4 W4 m l4 w4 s4 => q C σ4 W4 m (((l1.trans l').trans l3).trans l4) w4 s4
        · cases e'
  · cases e
def qE (f : EXQ) : XFQ := fun δ M => match f δ M with
  | some (.v _ M') => some (.ok (.nx δ M'))
  | some (.ex y fs M') => some (.ex y fs δ M')
  | some (.ep y M') => some (.ep y δ M')
  | none => none
theorem DSQ.expr {e : Expr} {pos} {f : EXQ} (a : DEQ X K mg S e f) (hs : ∀ i, swapsWith e none pos.line (X i).env = pure false := by intro _; rfl) : DSQ X K mg S (.Expr e pos) (qE f) := by
  obtain ⟨ta, pa, ra⟩ := a.go
  refine ⟨tDrop ta, fun i => ps_expr (pa i) (hs i), fun σ W δ M o E w s e q => ?_⟩
  unfold qE at e
  split at e
  · rename_i d M' h1
    cases e
    exact ra σ W δ M (.v d M') _ w s h1 fun v W1 l1 w1 r1 => q σ W1 l1 w1 (s.le l1)
  · rename_i y fs M' h1
    cases e
    exact ra σ W δ M (.ex y fs M') _ w s h1 fun C W1 dx vs m l1 w1 z => q C σ W1 dx vs m l1 w1 (s.le l1) z
  · rename_i y M' h1
    cases e
    exact ra σ W δ M (.ep y M') _ w s h1 fun C W1 m l1 w1 => q C σ W1 m l1 w1 (s.le l1)
  · cases e
def qNever : XFQ := fun _ _ => none
theorem DSQ.never {s : Stmt} : DSQ X K mg S s qNever := ⟨fun _ _ _ => False, fun _ => ⟨fun _ _ _ _ _ _ h => h.elim⟩, fun _ _ _ _ _ _ _ _ e _ => by cases e⟩
def eNever : EF := fun _ _ => none
theorem DE.never {e : Expr} : DE X K e eNever := ⟨fun _ _ _ => False, fun _ => ⟨fun _ _ _ _ _ _ h => h.elim⟩, fun _ _ _ _ _ _ _ _ _ e _ => by cases e⟩
def tNever : TF := fun _ _ => none
theorem DT.never {e : Expr} : DT X K e tNever := ⟨fun _ _ _ => False, fun _ => ⟨fun _ _ _ _ _ _ h => h.elim⟩, fun _ _ _ _ _ _ _ _ _ e _ => by cases e⟩
end
end Pl
namespace L2
open PySem PySem.Spec PyProof.Rows
set_option maxHeartbeats 4000000 in
theorem meets_enumerate_new1 {v : Value} {o : Obj} {H : Heap → Prop} (B : Begins v o H) :
    Meets (Builtin.«enumerate.__new__» ⟨[.type "enumerate", v], []⟩) (fun _ R s => H s.heap ∧
      R (.ok (.ret (.ref (s.heap.push o).objs.size))) { s with heap := (s.heap.push o).push { cls := .type "enumerate", data := .fields #[.none, .bool false, .ref s.heap.objs.size, rawInt 0, .none, .none] } }) :=
  .of_wp fun prog w A R s h => by
    obtain ⟨hp, g, d, tk, os⟩ := s; obtain ⟨h1, h⟩ := h
    have hsub := sub_enumerate
    have q1 : ∀ {A' : Around} {E : Value → Shared → Prop} {Q : Value → Shared → Prop}, Q (.ref hp.objs.size) ⟨hp.push o, g, d, tk, os⟩ → wpAny (model prog w) A' (pyIter v) Q E ⟨hp, g, d, tk, os⟩ :=
      fun q => B.iter prog w _ _ ⟨hp, g, d, tk, os⟩ _ h1 q
    wp_walk using q1
    refine wpAny_stack_any fun st => wpAny_pure ?_
    split
    · rename_i c _ _ _ _ _
      cases (c == Value.type "enumerate")
      · wp_walk using q1
        exact ⟨_, rfl, h⟩
      · wp_walk using q1
        exact ⟨_, rfl, h⟩
    · wp_walk using q1
      exact ⟨_, rfl, h⟩
theorem enum_begins1 {prog : Program} {w : World} {A : Around} {E : Value → Shared → Prop} {s : Shared} {v : Value} {o : Obj} {H : Heap → Prop} {Q : Value → Shared → Prop} (B : Begins v o H) (h1 : H s.heap)
    (h : ∀ h', IsEnum h' (s.heap.objs.size + 1) s.heap.objs.size 0 .none → h'.get? s.heap.objs.size = some o → h'.objs.size = s.heap.objs.size + 2 →
      (∀ b o, s.heap.get? b = some o → h'.get? b = some o) → Q (.ref (s.heap.objs.size + 1)) { s with heap := h' }) :
    wpAny (model prog w) A (call (.type "enumerate") [v]) Q E s := by
  refine callType_new F.called_enumerate (by decide) (F.typeCall_enumerate_1 _) (F.newCall_enumerate_1 _) (fun obj => F.args_object_init_2 obj _) F.entry_enumerate_new
    (meets_enumerate_new1 B) ⟨h1, ?_⟩
  have hz : (s.heap.push o).objs.size = s.heap.objs.size + 1 := Heap.size_push ..
  show _ ∧ _
  rw [hz]
  have he : IsEnum ((s.heap.push o).push
      { cls := .type "enumerate", data := .fields #[.none, .bool false, .ref s.heap.objs.size, rawInt 0, .none, .none] }) (s.heap.objs.size + 1) s.heap.objs.size 0 .none := by
    have := Heap.get?_push_size (s.heap.push o)
      (o := { cls := .type "enumerate", data := .fields #[.none, .bool false, .ref s.heap.objs.size, rawInt 0, .none, .none] }) rfl
    rw [hz] at this; exact this
  exact ⟨⟨_, he, rfl⟩, h _ he (Heap.get?_push_of_some _ (Heap.get?_push_size _ B.free)) (by rw [Heap.size_push, hz]) fun b o x => Heap.get?_push_of_some _ (Heap.get?_push_of_some _ x)⟩
/-- the tuple at a, each item in a new pair -/
def IteT (K : PySem.W.Frag) (n : Nat) (a : Addr) : It :=
  ⟨fun i H => ∃ (xs : List V) (x : V), SqT K H a xs ∧ xs.length = n ∧ xs[i]? = some x, fun i H v H' => ∃ T x, v = .ref T ∧ H T = none ∧ H' = upd H T (.tup [.int (i : Nat), x]) ∧ ∀ xs, SqT K H a xs → xs[i]? = some x, fun i H => ∃ xs : List V, SqT K H a xs ∧ xs.length = n ∧ n ≤ i⟩
theorem turn_enumT {P : Program} {w : World} {K : PySem.W.Frag} {elts : List Expr} {kk : Nat} {tpos : Pos} {n a e it : Nat} (ne : e ≠ it) (na : a ≠ it) (nae : a ≠ e) :
    Turn P w K (.Tuple elts kk tpos) (IteT K n a) [e, it] e (fun i h => (∃ old, IsEnum h e it ((i : Nat) : Int) old) ∧ h.IsTupleIter it a i ∧ i ≤ n) where
  mem := by simp
  obj := fun i h st b hb => by
    obtain ⟨⟨old, he⟩, ⟨o, ho, hc, hd⟩, _⟩ := st
    have e' : b = e ∨ b = it := by simpa using hb
    rcases e' with z | z
    · rw [z]; exact ⟨_, he, fun v q => nomatch q⟩
    · rw [z]; exact ⟨o, ho, fun v q => by rw [hd] at q; cases q⟩
  keep := fun i h h' st k => let ⟨⟨old, he⟩, hi, hn⟩ := st; ⟨⟨old, k e (by simp) _ he⟩, hi.at fun o q => k it (by simp) o q, hn⟩
  item := by
    intro X hP hw hK hc i pins s σ H E I hf st hg
    subst hP hw hK
    obtain ⟨⟨old, he⟩, hit, hin⟩ := st
    obtain ⟨xs, x, hq, hlen, hx⟩ := hg
    obtain ⟨its, rv, p, hz⟩ := I.tuple hq
    obtain ⟨u, hu, ru⟩ := rv.get hx
    have t1 : s.heap.IsTuple a its.toArray := p
    have hel : e < s.heap.objs.size := Heap.lt_size he
    have hil : it < s.heap.objs.size := by obtain ⟨_, q, _⟩ := hit; exact Heap.lt_size q
    have D1 := Draws.tuple (prog := X.prog) (w := X.w) (A := X.A.in1) (I.ok.hd hc) it a na its.toArray
    have m1 : i < its.toArray.size := by
      have := (List.getElem?_eq_some_iff.mp hu).1
      simpa using this
    have nef : e ∉ [it, a] := by
      intro z
      rcases List.mem_cons.mp z with z | z
      · exact ne z
      · exact nae (List.mem_singleton.mp z).symm
    refine wpAny_pyNext_enum_itemD D1 he ⟨hit, t1⟩ m1 ne nef fun v1 h' tk q1 ho st' hT hsz hk => ?_
    have ev1 : v1 = u := by
      rw [show its.toArray[i]? = some u by simpa using hu] at q1
      exact (Option.some.inj q1).symm
    subst ev1
    refine ⟨_, rfl, wpAny_letOwnedTupleGo_enum (s := { s with heap := h', toks := tk + 1 }) ho fun h'' he' sb => ?_⟩
    have hT2 : h''.get? s.heap.objs.size = some { cls := .type "tuple", data := .seq #[.int i tk, v1] } := (sb.2 _ (Nat.ne_of_gt hel)).trans hT
    have new : ObjOk X.prog X.w (upd H s.heap.objs.size (.tup [.int (i : Nat), x])) h'' s.heap.objs.size (.tup [.int (i : Nat), x]) :=
      ⟨by show 2 ≤ sizeLine; decide, [.int i tk, v1], .cons ⟨_, rfl⟩ (.cons ru .nil), ⟨_, hT2, rfl, _, rfl⟩⟩
    have I1 : Inv X pins σ (upd H s.heap.objs.size (.tup [.int (i : Nat), x])) { s with heap := h'', toks := tk + 1 } :=
      I.turnedNew (ch := [e, it]) (fun b ob hb q => (sb.2 b (fun z => hb (by simp [z]))).trans (hk b ob (fun z => hb (by simp [z])) (fun z => hb (by simp [z])) q)) hf (Nat.le_refl _) new
    refine ⟨.ref s.heap.objs.size, _, I1, rfl, ⟨_, x, rfl, I.hok.fresh (Nat.le_refl _), rfl, fun ys hy => by rw [I.tuple_inj hy hq]; exact hx⟩, ⟨⟨v1, ?_⟩, st'.1.at fun o q => (sb.2 it (Ne.symm ne)).trans q, ?_⟩, fun b hb => ?_⟩
    · have e1 : ((i + 1 : Nat) : Int) = (i : Int) + 1 := by omega
      rw [e1]; exact he'
    · have := (List.getElem?_eq_some_iff.mp hx).1
      omega
    · have hb' : b < s.heap.objs.size := by
        have e' : b = e ∨ b = it := by simpa using hb
        rcases e' with z | z
        · rw [z]; exact hel
        · rw [z]; exact hil
      rw [upd_ne (Nat.ne_of_lt hb')]
      exact (hf b hb).1
  done := by
    intro X hP hw hK hc i pins s σ H E I hf st hg
    subst hP hw hK
    obtain ⟨⟨old, he⟩, hit, hin⟩ := st
    obtain ⟨xs, hq, hlen, hx⟩ := hg
    obtain ⟨its, rv, p, hz⟩ := I.tuple hq
    obtain ⟨f0, f1, f2, f3, f4, f5⟩ := hf it (by simp)
    have hl := rv.length
    have t1 : s.heap.IsTuple a its.toArray := p
    have ei : i = its.toArray.size := by rw [List.size_toArray]; omega
    have D1 := Draws.tuple (prog := X.prog) (w := X.w) (A := X.A.in1) (I.ok.hd hc) it a na its.toArray
    refine wpAny_pyNext_enum_endD D1 he ⟨by rw [← ei]; exact hit, t1⟩ fun h' eb => ⟨rfl, I.turned (t' := s.toks) (fun b o hb q => eb b o hb q) f0 f1 f3 f4 f5⟩
  self := fun A i s Q E st h => let ⟨⟨_, he⟩, _⟩ := st; wpAny_pyIter_enum he h
def iEnumT (K : PySem.W.Frag) (ta : TA) : TI := fun σ H R => ta σ H fun vs H1 => ∃ a xs, vs = [.ref a] ∧ SqT K H1 a xs ∧ R (IteT K xs.length a) H1
theorem pi_enumT {X : Cx} {e : Expr} {ta : TA} {p pos tpos : Pos} {elts : List Expr} {kk : Nat} (hg : Gl X "enumerate") (hm : X.mg "enumerate" = none) (ha : PA X [e] ta) (hs : starEach [e] X.env = [(false, eval e X.env)] := by rfl) :
    PI X (.Tuple elts kk tpos) (.Call (.Name "enumerate" p) [e] [] pos) (iEnumT X.K ta) := by
  refine ⟨fun pins s σ H R I h => ?_⟩
  refine Call_ (ld_blt I hg hm boot_enumerate (PyProof.Rows.callWith_type1 (thn (ha.run pos pins s σ H _ I h) fun us s1 ⟨vs, H1, I1, r1, q1⟩ => ?_) hs rfl))
  obtain ⟨a, xs, ex, hq, q⟩ := q1
  subst ex
  cases r1 with
  | cons r rr =>
    cases rr
    cases r
    obtain ⟨its, rv, p', hz⟩ := I1.tuple hq
    have t1 : s1.heap.IsTuple a its.toArray := p'
    obtain ⟨o1, ho1, _⟩ := id p'
    have la := Heap.lt_size ho1
    refine enum_begins1 (begins_tuple a its.toArray) t1 fun h' he hit hsz hk => wpAny_pyIter_enum he ?_
    have I2 : Inv X pins σ H1 { s1 with heap := h' } := I1.kept (t' := s1.toks) hk
    refine ⟨s1.heap.objs.size + 1, [s1.heap.objs.size + 1, s1.heap.objs.size], _, _, H1, rfl, I2, turn_enumT (n := xs.length) (a := a) (e := s1.heap.objs.size + 1) (it := s1.heap.objs.size) (Nat.succ_ne_self _) (Nat.ne_of_lt la) (Nat.ne_of_lt (Nat.lt_succ_of_lt la)), ⟨⟨.none, he⟩, ⟨_, hit, rfl, rfl⟩, Nat.zero_le _⟩, fun b hb => ?_, q⟩
    have e' : b = s1.heap.objs.size + 1 ∨ b = s1.heap.objs.size := by simpa using hb
    have hle : s1.heap.objs.size ≤ b := by
      rcases e' with z | z
      · rw [z]; exact Nat.le_add_right _ _
      · rw [z]; exact Nat.le_refl _
    exact I1.fpOk hle (I1.hok.fresh hle)
end L2
namespace Pl
open PySem L2
section
variable {I : Type} {X : I → Cx} {P : Program} {w : World} {K : PySem.W.Frag} {mg : Str → Option Value} {base : Heap} {k : Nat}
theorem wk_enumT {W0 : Wd} {a : Addr} {vs : List V} {ds : List D} (h : SqT K W0.B a vs) (r : RepL K W0.B W0.ι vs ds) : Wk K (IteT K vs.length a) W0 ((((List.range ds.length).map fun (i : Nat) => D.int i).zip ds).map fun p => .tup [p.1, p.2]) := by
  refine wk_pair (n := ds.length) (fun W M l w => ⟨fun i hi => ?_, fun i d1 d2 hi e1 e2 => ?_⟩) (by simp) (Nat.le_refl _) (by simp)
  · exact ⟨vs, sqT_mono w.sub (sqT_mono l.same h), rfl, by rw [r.len]; exact hi⟩
  · have hs : SqT K W.H a vs := sqT_mono w.sub (sqT_mono l.same h)
    obtain ⟨v, h1, h2⟩ := (r.mono l.same l.ix).get e2
    refine ⟨⟨vs, v, hs, rfl, h1⟩, fun x H' ⟨T, x2, a1, a2, a3, a4⟩ => ⟨T, _, x2, a1, a2, a3, ?_, ?_⟩⟩
    · rw [List.getElem?_map, List.getElem?_range hi] at e1
      cases e1
      exact .int _
    · have e3 := (a4 vs hs).symm.trans h1
      cases e3
      exact h2
def aEnumT (a : AF) : AF := fun δ M => match a δ M with
  | some ([.tup xs], M1) => some ((((List.range xs.length).map fun (i : Nat) => D.int i).zip xs).map fun p => .tup [p.1, p.2], M1)
  | _ => none
theorem DI.enumT (c : Ctx X P w K mg base k) (hm : mg "enumerate" = none) {e : Expr} {p pos tpos : Pos} {elts : List Expr} {kk : Nat} {a : AF} (h : DA X K [e] a) (hg : ∀ i, Gl (X i) "enumerate" := by intro _; rfl) (hs : ∀ i, starEach [e] (X i).env = [(false, eval e (X i).env)] := by intro _; rfl) :
    DI X K (.Tuple elts kk tpos) (.Call (.Name "enumerate" p) [e] [] pos) (aEnumT a) := by
  obtain ⟨t, pa, r⟩ := h.go
  refine ⟨iEnumT K t, fun i => ?_, fun σ W δ M ds M' R w s ev q => ?_⟩
  · have h := pi_enumT (X := X i) (hg i) (by rw [c.mg i]; exact hm) (pa i) (hs i) (p := p) (pos := pos) (tpos := tpos) (elts := elts) (kk := kk)
    rw [c.K i] at h
    exact h
  · unfold aEnumT at ev
    split at ev
    · rename_i xs M1 h1
      cases ev
      refine r σ W δ M _ _ _ w s h1 fun vs W1 l1 w1 r1 => ?_
      cases r1 with
      | cons r1 r2 =>
        cases r2
        cases r1 with
        | tup h1 r1 => exact ⟨_, _, rfl, sqT_mono w1.sub h1, q _ W1 l1 w1 (wk_enumT h1 r1)⟩
    · cases ev
end
end Pl
namespace Pl
open PySem PySem.Spec PyProof.Rows L2
end Pl
namespace Pl
open PySem L2 LamX
open PyProof.Rows (IntsAre AllBare)
end Pl
namespace Pl
open PySem L2
structure EntryC (k : Nat) (qual : Str) (scope : Scope) (f : Addr) (cA : Addr) where
  e : Entry k qual scope f
  h : e.cdv = .ref cA
def bodyC (P : Program) (w : World) (K : PySem.W.Frag) (mg : Str → Option Value) (base : Heap) (N : List Str) {k : Nat} {qual : Str} {scope : Scope} {f cA : Addr} (j : EntryC k qual scope f cA) : Cx := (cxOf CX0 P w K mg base N qual scope f j.e.cdv j.e.A j.e.outer j.e.s j.e.H E0).nox
theorem bodyC_ctx (P : Program) (w : World) (K : PySem.W.Frag) (mg : Str → Option Value) (base : Heap) (N : List Str) {k : Nat} {qual : Str} {scope : Scope} {f cA : Addr} : Ctx (bodyC P w K mg base N (k := k) (qual := qual) (scope := scope) (f := f) (cA := cA)) P w K mg base k :=
  ⟨fun _ => rfl, fun _ => rfl, fun _ => rfl, fun _ => rfl, fun _ => rfl, fun j => j.e.room, fun j => j.e.grd, fun _ => rfl⟩
theorem bodyC_code {P : Program} {w : World} {K : PySem.W.Frag} {mg : Str → Option Value} {base : Heap} {N : List Str} {k : Nat} {qual : Str} {scope : Scope} {f cA : Addr} (j : EntryC k qual scope f cA) : (bodyC P w K mg base N j).env.code = .ref cA := j.h
theorem DFn.ofC {P : Program} {w : World} {K : PySem.W.Frag} {mg : Str → Option Value} {base : Heap} {k : Nat} {x qual : Str} {params : Arguments} {body : List Stmt} {scope : Scope} {dvs : List V} {kws : List (Str × V)} {f cA : Addr} {fd : FuncData} {N ps : List Str} {g : SF}
    (h : FunD K x qual params body scope dvs kws f fd) (hc : fd.code = .ref cA) (S : FnScope N ps scope) (hb : Ctx (bodyC P w K mg base N (k := k) (qual := qual) (scope := scope) (f := f) (cA := cA)) P w K mg base k → (∀ j, (bodyC P w K mg base N (k := k) (qual := qual) (scope := scope) (f := f) (cA := cA) j).env.code = .ref cA) → DB (bodyC P w K mg base N (k := k) (qual := qual) (scope := scope) (f := f) (cA := cA)) K body g) : DFn P w K mg base (k + 1) f fd ps (fnF N.length g) := by
  obtain ⟨oc, od, dV, kV, doc, pm, an, cdv, ct, osl, rfl, lk, hcd, _, _⟩ := h.ex
  obtain rfl : cdv = .ref cA := hc
  obtain ⟨t, pt, rt⟩ := (hb (bodyC_ctx P w K mg base N) bodyC_code).go
  refine ⟨fun A outer s H args us vs Q room grd e0 bd r q => ?_⟩
  obtain ⟨W, M, ds, d, M', rfl, a2, a3, a4, a5, a6⟩ := q
  have hl : vs.length = ps.length := a3.len.trans a4
  have KX : K.In s.heap := e0.mod.kin.keeps fun b o e => (e0.bs b o e).1
  have lim : s.heap.NoLimit := e0.mod.nolimit.keeps fun b o e => (e0.bs b o e).1
  have knd : ∀ y ∈ ps.zip us, scope.names.lookup y.1 = some .local ∨ (scope.names.lookup y.1 = some .cell ∧ ((cellsFrom (s.heap.objs.size + 1) scope.names []).lookup y.1).isSome = true) := fun y hy => by
    rcases S.par y.1 (List.of_mem_zip (a := y.1) (b := y.2) hy).1 with q | q
    · exact .inl q
    · exact .inr ⟨q, PySem.W.cellsFrom_some _ _ _ (.inl q)⟩
  refine codeAny_call_function room.depth (KX _ _ lk) rfl S.co S.gen rfl (PySem.W.codeRec_of KX hcd) (bd _ _ _ _ ?_)
  refine wpAny_newFunctionEnv_cells S.kind knd fun env he s1 xc => ?_
  subst he
  refine ⟨lim.keeps xc.toInCall.keep, codeAny_func ?_⟩
  have J : Inv (cxOf CX0 P w K mg base N qual scope f (.ref cA) A outer s W.H E0) [] (L2.start N vs) W.H s1 := inv_start S room.hd e0 hl r xc
  have ht := (pt ⟨⟨.ref cA, A, outer, s, W.H, room.deeper _, grd⟩, rfl⟩).nox
  have q2 : t { nx := fun _ H' => Q .non H', rt := Q } (L2.start N vs) W.H := by
    unfold fnF at a5
    split at a5
    · rename_i d2 M2 h2
      cases a5
      exact rt _ W _ M _ _ a2 (slots_start a3) h2 a6
    · rename_i δ2 M2 h2
      cases a5
      exact rt _ W _ M _ _ a2 (slots_start a3) h2 fun σ' W' l o s' => a6 .non W' l o .non
    · cases a5
  refine wpAny_mono (ht.run [] s1 (L2.start N vs) W.H _ J q2) (fun fl s' hs => ?_) fun e s' hs => hs
  have fin : ∀ {σ' : St} {H' : Hp} {v : V} {u : Value}, Inv (cxOf CX0 P w K mg base N qual scope f (.ref cA) A outer s W.H E0) [] σ' H' s' → RelV v u → Q v H' → CE outer P w W.H s Q u s' :=
    fun {σ' H' v u} J rv q => ⟨v, H', J.os, J.bare, J.base, J.hok, rv, q⟩
  match fl, hs with
  | .ret u, ⟨v, σ', H', J2, rv, q3⟩ => exact fin J2 rv q3
  | .next, ⟨σ', H', J2, q3⟩ => exact fin (v := V.non) (u := Value.none) J2 rfl q3
  | .brk, ⟨_, _, _, q3⟩ => exact False.elim q3
  | .cont, ⟨_, _, _, q3⟩ => exact False.elim q3
/-- a lambda of no parameter; one of a parameter with a default -/
theorem lamB0 {params : Arguments} {body : Expr} {scope : Scope} (h : ∀ (q : Str) (cl : List (Str × Addr)) (pm cv ctv : Value), bindArgs (LamY.fnD "<lambda>" q params body scope cl pm cv ctv .none) ⟨[], []⟩ = pure ([] : List (Str × Value))) : LamY.LamB params body scope [] 0 :=
  ⟨fun _ q cl pm cv ctv => h q cl pm cv ctv, fun z => absurd rfl z⟩
end Pl
namespace Pl
open PySem L2
section
variable {I : Type} {X : I → Cx} {P : Program} {w : World} {K : PySem.W.Frag} {mg : Str → Option Value} {base : Heap} {k : Nat}
def lcGo2 (g : GF) (t : TF) (a1 : AF) (vs1 : List Nat) (g1 : GF) (t1 : TF) (f : EF) : List D → Env → Mh → Option (List D × Mh)
  | [], _, M => some ([], M)
  | x :: xs, δ, M => match g x δ with
    | none => none
    | some δ1 => match t δ1 M with
      | some (true, M1) => (match a1 δ1 M1 with
        | some (ds1, M2) => (match lcGo g1 t1 f ds1 (wipeD δ1 vs1) M2 with
          | some (ys, M3) => (match lcGo2 g t a1 vs1 g1 t1 f xs δ M3 with
            | some (zs, M4) => some (ys ++ zs, M4)
            | none => none)
          | none => none)
        | none => none)
      | some (false, M1) => lcGo2 g t a1 vs1 g1 t1 f xs δ M1
      | none => none
def eLc2 (vs vs1 : List Nat) (a : AF) (g : GF) (t : TF) (a1 : AF) (g1 : GF) (t1 : TF) (f : EF) : EF := fun δ M => match a δ M with
  | some (ds, M1) => (match lcGo2 g t a1 vs1 g1 t1 f ds (wipeD δ vs) M1 with
    | some (ys, M2) => if ys.length ≤ sizeLine then some (.lst ys, M2) else none
    | none => none)
  | none => none
theorem lc2_er {ti ti1 : TI} {tg tg1 : TG} {tt tt1 : TT} {te : TE} {vs vs1 : List Nat} {a a1 : AF} {g g1 : GF} {t t1 : TF} {f : EF} {sl sl1 : List Nat}
    (ri : ∀ (σ : St) (W : Wd) (δ : Env) (M : Mh) (ds : List D) (M' : Mh) (R : It → Hp → Prop), W.Ok K M → Slots K W σ δ → a δ M = some (ds, M') → (∀ J W', W.Le W' → W'.Ok K M' → Wk K J W' ds → R J W'.H) → ti σ W.H R)
    (rg : GR K tg g sl) (hsl : ∀ j ∈ sl, j ∈ vs) (rt : TR K tt t)
    (ri1 : ∀ (σ : St) (W : Wd) (δ : Env) (M : Mh) (ds : List D) (M' : Mh) (R : It → Hp → Prop), W.Ok K M → Slots K W σ δ → a1 δ M = some (ds, M') → (∀ J W', W.Le W' → W'.Ok K M' → Wk K J W' ds → R J W'.H) → ti1 σ W.H R)
    (rg1 : GR K tg1 g1 sl1) (hsl1 : ∀ j ∈ sl1, j ∈ vs1) (rt1 : TR K tt1 t1) (re : ER K te f) : ER K (tLc2 ti tg tt ti1 tg1 tt1 te vs vs1) (eLc2 vs vs1 a g t a1 g1 t1 f) := fun σ W δ M d M' Q w s e q => by
  unfold eLc2 at e
  split at e
  · rename_i ds M1 h1
    split at e
    · rename_i fin M2 h2
      split at e
      · rename_i hlen
        cases e
        refine ri σ W δ M ds M1 _ w s h1 fun J W1 l1 w1 wk => fun p hp => ?_
        have P0 : W1.P p = none := w1.pnone hp
        have B0 : W1.B p = none := w1.bnone hp
        refine ⟨fun i m H => ∃ (W' : Wd) (N : Mh) (acc : List V) (ac ys : List D), W'.H = H ∧ W1.Le (W'.mk' W'.H W1.P) ∧ W'.P = upd W1.P p (.lst acc) ∧ W'.Ok K N ∧ RepL K W'.B W'.ι acc ac ∧ i + m = ds.length ∧ lcGo2 g t a1 vs1 g1 t1 f (ds.drop i) (wipeD δ vs) N = some (ys, M') ∧ ac ++ ys = fin,
          ⟨ds.length, W1.hold p (.lst []), M1, [], [], fin, rfl, ⟨fun _ _ h => h, ⟨[], by simp [Wd.mk', Wd.hold]⟩, rfl⟩, rfl, Wd.hold_ok w1 hp, .nil, by omega, h2, rfl⟩, ?_⟩
        rintro i m H ⟨W', N, acc, ac, ys, rfl, l', hP, w', ra, em, e', ef⟩
        obtain ⟨k1, k2⟩ := wk i W' N ⟨l'.same, l'.pre⟩ w'
        cases hd : ds[i]? with
        | none =>
          have hl : ds.length ≤ i := List.getElem?_eq_none_iff.mp hd
          rw [List.drop_of_length_le hl] at e'
          cases e'
          rw [List.append_nil] at ef
          subst ef
          have u := Wd.unhold w' hP P0
          refine .inl ⟨k1 hd, q _ ⟨W'.H, upd W'.B p (.lst acc), W'.ι, W1.P⟩ (l1.trans ⟨fun b o h => ?_, l'.pre, rfl⟩) u (.lst upd_same (ra.mono (updk (w'.pin p (.lst acc) (by rw [hP, upd_same])).2) fun _ _ z => z))⟩
          have hb : b ≠ p := fun z => by
            rw [z, B0] at h
            cases h
          show upd W'.B p (.lst acc) b = some o
          rw [upd_ne hb]
          exact l'.same b o h
        | some x0 =>
          obtain ⟨hgo, hy⟩ := k2 x0 hd
          have hl : i < ds.length := (List.getElem?_eq_some_iff.mp hd).1
          have hdr : ds.drop i = x0 :: ds.drop (i + 1) := by
            rw [List.drop_eq_getElem_cons hl]
            congr 1
            exact Option.some.inj ((List.getElem?_eq_getElem hl).symm.trans hd)
          rw [hdr] at e'
          unfold lcGo2 at e'
          refine .inr ⟨hgo, fun H2 => ∃ (W2 : Wd) (N2 : Mh) (acc2 : List V) (ac2 ys2 : List D), W2.H = H2 ∧ W1.Le (W2.mk' W2.H W1.P) ∧ W2.P = upd W1.P p (.lst acc2) ∧ W2.Ok K N2 ∧ RepL K W2.B W2.ι acc2 ac2 ∧ lcGo2 g t a1 vs1 g1 t1 f (ds.drop (i + 1)) (wipeD δ vs) N2 = some (ys2, M') ∧ ac2 ++ ys2 = fin,
            fun H2 ⟨W2, N2, acc2, ac2, ys2, a1, a2, a3, a4, a5, a6, a7⟩ => ⟨m - 1, by omega, W2, N2, acc2, ac2, ys2, a1, a2, a3, a4, a5, by omega, a6, a7⟩, fun x H' y => ?_⟩
          obtain ⟨W3, rfl, l3, w3, r3⟩ := hy x H' y
          have sw : Slots K W3 (L2.wipe σ vs) (wipeD δ vs) := ((((s.le l1).wipe vs).le l').cong (W' := W') rfl rfl).le l3
          have up : ∀ {W4 : Wd}, W'.Le W4 → W1.Le (W4.mk' W4.H W1.P) := fun {W4} l => l'.trans ⟨l.same, l.pre, rfl⟩
          split at e'
          · cases e'
          · rename_i δ1 h3
            refine rg x x0 _ W3 _ δ1 N _ w3 sw r3 h3 fun σ3 s3 hw => ⟨(hw vs hsl).trans (wipe_twice σ vs), ?_⟩
            split at e'
            · rename_i N1 h4
              refine rt σ3 W3 δ1 N _ N1 _ w3 s3 h4 fun W4 l4 w4 => ifT ?_
              split at e'
              · rename_i ds1 N2 h5
                split at e'
                · rename_i ys1 N3 h6
                  split at e'
                  · rename_i zs N4 h7
                    cases e'
                    -- the second for
                    refine ri1 σ3 W4 δ1 N1 ds1 N2 _ w4 (s3.le l4) h5 fun J1 W5 l5 w5 wk1 => ?_
                    have l35 : W'.Le W5 := (l3.trans l4).trans l5
                    refine ⟨fun j k H => ∃ (W6 : Wd) (N6 : Mh) (acc6 : List V) (ac6 ys6 : List D), W6.H = H ∧ W5.Le (W6.mk' W6.H W5.P) ∧ W6.P = upd W1.P p (.lst acc6) ∧ W6.Ok K N6 ∧ RepL K W6.B W6.ι acc6 ac6 ∧ j + k = ds1.length ∧ lcGo g1 t1 f (ds1.drop j) (wipeD δ1 vs1) N6 = some (ys6, N3) ∧ ac6 ++ (ys6 ++ zs) = fin,
                      ⟨ds1.length, W5, N2, acc, ac, ys1, rfl, ⟨fun _ _ h => h, ⟨[], by simp [Wd.mk']⟩, rfl⟩, l35.pp.trans hP, w5, ra.le l35, by omega, h6, ef⟩, ?_⟩
                    rintro j k H ⟨W6, N6, acc6, ac6, ys6, rfl, l6, hP6, w6, ra6, ek, e6, ef6⟩
                    obtain ⟨k3, k4⟩ := wk1 j W6 N6 ⟨l6.same, l6.pre⟩ w6
                    have l16 : W1.Le (W6.mk' W6.H W1.P) := (l'.trans (show (W'.mk' W'.H W1.P).Le (W5.mk' W5.H W1.P) from ⟨l35.same, l35.pre, rfl⟩)).trans (show (W5.mk' W5.H W1.P).Le (W6.mk' W6.H W1.P) from ⟨l6.same, l6.pre, rfl⟩)
                    cases hd1 : ds1[j]? with
                    | none =>
                      have hl1 : ds1.length ≤ j := List.getElem?_eq_none_iff.mp hd1
                      rw [List.drop_of_length_le hl1] at e6
                      cases e6
                      rw [List.nil_append] at ef6
                      exact .inl ⟨k3 hd1, W6, _, acc6, ac6, zs, rfl, l16, hP6, w6, ra6, h7, ef6⟩
                    | some x1 =>
                      obtain ⟨hgo1, hy1⟩ := k4 x1 hd1
                      have hl1 : j < ds1.length := (List.getElem?_eq_some_iff.mp hd1).1
                      have hdr1 : ds1.drop j = x1 :: ds1.drop (j + 1) := by
                        rw [List.drop_eq_getElem_cons hl1]
                        congr 1
                        exact Option.some.inj ((List.getElem?_eq_getElem hl1).symm.trans hd1)
                      rw [hdr1] at e6
                      unfold lcGo at e6
                      refine .inr ⟨hgo1, fun H2 => ∃ (W7 : Wd) (N7 : Mh) (acc7 : List V) (ac7 ys7 : List D), W7.H = H2 ∧ W5.Le (W7.mk' W7.H W5.P) ∧ W7.P = upd W1.P p (.lst acc7) ∧ W7.Ok K N7 ∧ RepL K W7.B W7.ι acc7 ac7 ∧ lcGo g1 t1 f (ds1.drop (j + 1)) (wipeD δ1 vs1) N7 = some (ys7, N3) ∧ ac7 ++ (ys7 ++ zs) = fin,
                        fun H2 ⟨W7, N7, acc7, ac7, ys7, b1, b2, b3, b4, b5, b6, b7⟩ => ⟨k - 1, by omega, W7, N7, acc7, ac7, ys7, b1, b2, b3, b4, b5, by omega, b6, b7⟩, fun x H' y => ?_⟩
                      obtain ⟨W8, rfl, l8, w8, r8⟩ := hy1 x H' y
                      have sw8 : Slots K W8 (L2.wipe σ3 vs1) (wipeD δ1 vs1) := (((((s3.le l4).le l5).wipe vs1).le l6).cong (W' := W6) rfl rfl).le l8
                      have up8 : ∀ {W9 : Wd}, W6.Le W9 → W5.Le (W9.mk' W9.H W5.P) := fun {W9} l => l6.trans ⟨l.same, l.pre, rfl⟩
                      split at e6
                      · cases e6
                      · rename_i δ2 h8
                        refine rg1 x x1 _ W8 _ δ2 N6 _ w8 sw8 r8 h8 fun σ4 s4 hw1 => ⟨(hw1 vs1 hsl1).trans (wipe_twice σ3 vs1), ?_⟩
                        split at e6
                        · rename_i N7 h9
                          refine rt1 σ4 W8 δ2 N6 _ N7 _ w8 s4 h9 fun W9 l9 w9 => ifT ?_
                          split at e6
                          · rename_i y0 N8 h10
                            split at e6
                            · rename_i ys8 N9 h11
                              cases e6
                              refine re σ4 W9 δ2 N7 y0 N8 _ w9 (s4.le l9) h10 fun v W10 l10 w10 r10 => ?_
                              have l610 : W6.Le W10 := (l8.trans l9).trans l10
                              have p10 : W10.P = upd W1.P p (.lst acc6) := l610.pp.trans hP6
                              have p10' : W10.P p = some (.lst acc6) := by rw [p10, upd_same]
                              have ra10 := ra6.le l610
                              refine ⟨acc6, (w10.pin p _ p10').1, ?_, ⟨upd W10.H p (.lst (acc6 ++ [v])), W10.B, W10.ι, upd W10.P p (.lst (acc6 ++ [v]))⟩, N8, acc6 ++ [v], ac6 ++ [y0], ys8, rfl, l6.trans ⟨l610.same, l610.pre, rfl⟩, ?_, Wd.hold_put w10 p10', ra10.append (.cons r10 .nil), h11, ?_⟩
                              · have := ra6.len
                                have h12 := congrArg List.length ef6
                                rw [List.length_append, List.length_append, List.length_cons] at h12
                                omega
                              · show upd W10.P p _ = _
                                rw [p10, upd_upd]
                              · rw [List.append_assoc]
                                exact ef6
                            · cases e6
                          · cases e6
                        · rename_i N7 h9
                          refine rt1 σ4 W8 δ2 N6 _ N7 _ w8 s4 h9 fun W9 l9 w9 => ifF ?_
                          have l69 : W6.Le W9 := l8.trans l9
                          exact ⟨W9, N7, acc6, ac6, ys6, rfl, up8 l69, l69.pp.trans hP6, w9, ra6.le l69, e6, ef6⟩
                        · cases e6
                  · cases e'
                · cases e'
              · cases e'
            · rename_i N1 h4
              refine rt σ3 W3 δ1 N _ N1 _ w3 s3 h4 fun W4 l4 w4 => ifF ?_
              have l34 : W'.Le W4 := l3.trans l4
              exact ⟨W4, N1, acc, ac, ys, rfl, up l34, l34.pp.trans hP, w4, ra.le l34, e', ef⟩
            · cases e'
      · cases e
    · cases e
  · cases e
theorem DE.lc2 (c : Ctx X P w K mg base k) {elt tg iter tg1 iter1 : Expr} {ifs ifs1 : List Expr} {scope : Scope} {own : List (Str × Nat)} {vs1 : List Nat} {pos} {a a1 : AF} {g g1 : GF} {t t1 : TF} {f : EF} {sl sl1 : List Nat} (hN : ∀ i, (X i).N.Nodup) (hi : DI X K tg iter a) (ok : ∀ i, BlkOk (X i).N (X i).env.scope scope own)
    (hg : DG (blkF X scope) K tg g sl) (hsl : ∀ j ∈ sl, j ∈ own.map (·.2)) (ht : DTs (blkF X scope) K ifs t) (hi1 : DI (blkF X scope) K tg1 iter1 a1) (hg1 : DG (blkF X scope) K tg1 g1 sl1) (hsl1 : ∀ j ∈ sl1, j ∈ vs1) (hv : ∀ i ∈ vs1, i ∈ own.map (·.2)) (ht1 : DTs (blkF X scope) K ifs1 t1) (he : DE (blkF X scope) K elt f)
    (hs : ∀ i x, foldedSetIterable iter (X i).env x = pure x := by intro _ _; rfl) (hs1 : ∀ env x, foldedSetIterable iter1 env x = pure x := by intro _ _; rfl) :
    DE X K (.ListComp elt [⟨tg, iter, ifs, 0⟩, ⟨tg1, iter1, ifs1, 0⟩] scope pos) (eLc2 (own.map (·.2)) vs1 a g t a1 g1 t1 f) := by
  obtain ⟨ti, pi, ri⟩ := hi.go
  obtain ⟨tg', pg, rg⟩ := hg.go
  obtain ⟨tt, pt, rt⟩ := ht.go
  obtain ⟨ti1, pi1, ri1⟩ := hi1.go
  obtain ⟨tg1', pg1, rg1⟩ := hg1.go
  obtain ⟨tt1, pt1, rt1⟩ := ht1.go
  obtain ⟨te, pe, re⟩ := he.go
  refine ⟨tLc2 ti tg' tt ti1 tg1' tt1 te (own.map (·.2)) vs1, fun i => pe_lc2 (c.calm i) (hN i) (pi i) (ok i) hv (fun s H C cl fp => pg (i, s, H, C, cl, fp)) (fun s H C cl fp => pt (i, s, H, C, cl, fp)) (fun s H C cl fp => pi1 (i, s, H, C, cl, fp)) (fun s H C cl fp => pg1 (i, s, H, C, cl, fp)) (fun s H C cl fp => pt1 (i, s, H, C, cl, fp)) (fun s H C cl fp => pe (i, s, H, C, cl, fp)) (hs i) hs1, fun σ W δ M d M' Q w s e q => ?_⟩
  exact lc2_er ri rg hsl rt ri1 rg1 hsl1 rt1 re σ W δ M d M' Q w s e q
end
end Pl
namespace Pl
open PySem L2
section
variable {I : Type} {X : I → Cx} {P : Program} {w : World} {K : PySem.W.Frag} {mg : Str → Option Value} {base : Heap} {k : Nat}
def gExt : D → List D → Mh → Option (D × Mh) := fun o ds M => match o, ds with
  | .ref n, [d] => (match M[n]?, lstT M d with
    | some (.lst xs), some ys => if xs.length + ys.length ≤ sizeLine then some (.non, M.set n (.lst (xs ++ ys))) else none
    | _, _ => none)
  | _, _ => none
theorem mExt : MetF X K "list.extend" gExt := ⟨_, fun i => mt_extend, fun W M x o vs ds z M' Q w rx rv ev q => by
  unfold gExt at ev
  split at ev
  · split at ev
    · rename_i xs ys hm hy
      split at ev
      · rename_i hl
        cases ev
        obtain ⟨p, us, rfl, lv, hp, ru⟩ := lst_live w rx hm
        cases rv with
        | cons ry r3 =>
          cases r3
          obtain ⟨b, zs, rfl, hb, rz⟩ := lstT_rep w ry hy
          refine ⟨p, b, us, zs, rfl, rfl, hp, hb, by rw [ru.len, rz.len]; exact hl, ?_⟩
          exact q .non (W.put p _) Wd.put_le (Wd.put_ok w lv (.lst (ru.append rz))) .non
      · cases ev
    · cases ev
  · cases ev⟩
end
end Pl
namespace Pl
open PySem L2
section
variable {I : Type} {X : I → Cx} {P : Program} {w : World} {K : PySem.W.Frag} {mg : Str → Option Value} {base : Heap} {k : Nat}
/-- list * int, as a list that changes on -/
def gMulN : O2 := fun a b M => match b with
  | .int j => (match lstT M a with
    | some xs => if -(2 ^ 63) ≤ j ∧ j < 2 ^ 63 ∧ xs.length * j.toNat ≤ sizeLine then some (.ref M.length, M ++ [.lst (List.replicate j.toNat xs).flatten]) else none
    | none => none)
  | _ => none
theorem opMulN : OpF X K (binaryOp .Mult) gMulN := ⟨_, fun _ => op_rep, fun W M x y a b z M' Q w ra rb e q => by
  unfold gMulN at e
  split at e
  · split at e
    · rename_i xs h1
      split at e
      · rename_i hc
        cases rb
        cases e
        obtain ⟨l, vs, rfl, hl, r1⟩ := lstT_rep w ra h1
        refine ⟨l, _, vs, rfl, rfl, hl, hc.1, hc.2.1, by rw [r1.len]; exact hc.2.2, fun p hp => ?_⟩
        obtain ⟨l2, w2, r3⟩ := new_lst w hp (r1.rep _)
        exact q _ _ l2 w2 r3
      · cases e
    · cases e
  · cases e⟩
/-- o[i] = v, a list that changes -/
def gLput : D → D → D → Mh → Option Mh := fun o i v M => match o, i with
  | .ref n, .int j => (match M[n]? with
    | some (.lst xs) => (match ixN xs.length j with
      | some m => some (M.set n (.lst (xs.set m v)))
      | none => none)
    | _ => none)
  | _, _ => none
def sLput (f g h : EF) : SF := fun δ M => match h δ M with
  | some (v, M1) => (match f δ M1 with
    | some (o, M2) => (match g δ M2 with
      | some (i, M3) => (match gLput o i v M3 with
        | some M4 => some (.nx δ M4)
        | none => none)
      | none => none)
    | none => none)
  | none => none
theorem DS.lput {o i v : Expr} {pos pos'} {f g h : EF} (ho : DE X K o f) (hi : DE X K i g) (hv : DE X K v h) (hs : ∀ j, swapsWithSole [.Subscript o i pos'] v pos.line (X j).env = pure false := by intro _; rfl) (hw : ∀ j, swappedStores [.Subscript o i pos'] v (X j).env = pure none := by intro _; rfl)
    (h1 : ∀ j, (assignEach [.Subscript o i pos'] (X j).env).map (·.2) = [assign (.Subscript o i pos') (X j).env] := by intro _; rfl)
    (ha : ∀ j u, assign (.Subscript o i pos') (X j).env u = (do
      let ov ← holding [u] (eval o (X j).env)
      let iv ← holding [u, ov] (eval i (X j).env)
      standAt pos'
      holding [u, ov, iv] (setItem ov iv u)
      release [u, ov, iv] []) := by intro _ _; rfl) : DS X K (.Assign [.Subscript o i pos'] v pos) (sLput f g h) := by
  obtain ⟨to, po, ro⟩ := ho.go
  obtain ⟨ti, pi, ri⟩ := hi.go
  obtain ⟨tv, pv', rv⟩ := hv.go
  refine ⟨tAsg tv (gSub to ti rSetL), fun j => ps_asg (pv' j) (pg_sub (po j) (pi j) set_list (ha j)) (hs j) (hw j) (h1 j), fun σ W δ M out E w s e q => ?_⟩
  unfold sLput at e
  split at e
  · rename_i vd M1 h1
    split at e
    · rename_i od M2 h2
      split at e
      · rename_i id M3 h3
        split at e
        · rename_i M4 h4
          cases e
          refine rv σ W δ M vd M1 _ w s h1 fun v W1 l1 w1 r1 => ?_
          refine ro σ W1 δ M1 od M2 _ w1 (s.le l1) h2 fun x W2 l2 w2 r2 => ?_
          refine ri σ W2 δ M2 id M3 _ w2 (s.le (l1.trans l2)) h3 fun y W3 l3 w3 r3 => ?_
          unfold gLput at h4
          split at h4
          · rename_i n j
            split at h4
            · rename_i xs h5
              split at h4
              · rename_i m h6
                cases h4
                obtain ⟨p, us, rfl, lv, hp, ru⟩ := lst_live w3 (r2.le l3) h5
                cases r3
                refine ⟨p, us, j, m, rfl, rfl, hp, by rw [ru.len]; exact h6, ?_⟩
                exact q σ (W3.put p (.lst (us.set m v))) (((l1.trans l2).trans l3).trans Wd.put_le) (Wd.put_ok w3 lv (.lst (RepL.set (r1.le (l2.trans l3)) m ru))) ((s.le ((l1.trans l2).trans l3)).le Wd.put_le)
              · cases h4
            · cases h4
          · cases h4
        · cases e
      · cases e
    · cases e
  · cases e
end
end Pl
namespace Pl
open PySem L2
def ExVo (C : Addr) (d : Option Addr) (a : Addr) : HO := .ext fun h => ∃ (oe : Obj) (vs : Array Value), h.get? a = some oe ∧ Zc (.ref C) d oe ∧ oe.data = .fields vs
end Pl
namespace L2
open PySem PySem.Spec PyProof.Rows
def endKo (C : Addr) (d : Option Addr) (a : Addr) (i : Nat) (D : Ends) : Ends :=
  { nx := fun σ' H' => H' a = none → D.nx (σ'.set i none) (upd H' a (Pl.ExVo C d a)), rt := fun v H' => H' a = none → D.rt v (upd H' a (Pl.ExVo C d a)), bk := fun σ' H' => H' a = none → D.bk (σ'.set i none) (upd H' a (Pl.ExVo C d a)), ct := fun σ' H' => H' a = none → D.ct (σ'.set i none) (upd H' a (Pl.ExVo C d a)) }
def wKeepB (K : PySem.W.Frag) (cs : List Value) (i : Nat) (ts : TS) (Wout : WX) (D : Ends) : WX := fun cls d σ H =>
  ∃ b, PySem.W.exmAny K cls cs = some b ∧ (b = true → ∃ C, cls = .ref C ∧ ∀ a, H a = none → ts (endKo C d a i D) (σ.set i (some (.ref a))) H) ∧ (b = false → Wout cls d σ H)
section
variable {X : Cx} {x1 x2 x3 n : Str} {c1 c2 c3 : Value} {i kk : Nat} {body suite : List Stmt} {b₀ : Stmt} {np1 np2 np3 tpos pos pos' : Pos} {tb : WX → TS} {ts : TS} {Wout : WX}
theorem ps_try_keepB3 (hs : X.stack = X.env :: X.outer) (hf : X.env.frame = some X.env.locals) (hex : X.ex = []) (hN : X.N.Nodup) (hi : X.N[i]? = some n) (hln : X.env.kindOf n = some .local) (h1 : Names X x1 c1) (h2 : Names X x2 c2) (h3 : Names X x3 c3) (tk : Takes X Wout)
    (hb : ∀ (W : WX) (pn : List (Addr × Obj)) (xe : Value → Shared → Prop), Takes (X.tr pn xe) W → PassesOwn (model X.prog X.w) X.A X.env xe → PSs (X.tr pn xe) body (tb W))
    (hsu : ∀ (a : Addr) (obE : Obj) (pn : List (Addr × Obj)), PSs (X.suite a ((a, obE) :: pn)) (b₀ :: suite) ts) :
    PS X (.Try body [.ExceptHandler (some (.Tuple [.Name x1 np1, .Name x2 np2, .Name x3 np3] kk tpos)) (some n) (b₀ :: suite) pos'] [] [] pos) (fun D σ H => tb (wKeepB X.K [c1, c2, c3] i ts Wout D) D σ H) := by
  refine ⟨fun pins s σ H D I h => ?_⟩
  have ok := I.ok
  have frE : X.A.frames = some (X.env :: X.outer) := by rw [ok.frames, hs]
  have locE : Loc X.env.scope n := .inl hln
  refine wpAny_Try_except ?_
  refine wpAny_mono ((hb (wKeepB X.K [c1, c2, c3] i ts Wout D) (X.pn ++ pins) (fun e s₁ => wpAny (model X.prog X.w) X.A (noteFrame e X.env) (fun _ s₂ => wpAny (model X.prog X.w) X.A (setFlight e none) (fun _ s₃ =>
    wpAny (model X.prog X.w) X.A (handleBy e X.env [.ExceptHandler (some (.Tuple [.Name x1 np1, .Name x2 np2, .Name x3 np3] kk tpos)) (some n) (b₀ :: suite) pos']) (SP X pins D) X.xe s₃) X.xe s₂) X.xe s₁) (fun u s' xx => ?_) PassesOwn.looking).run [] s σ H D (I.toTry _) h) (fun f s1 hend => ?_) (fun e s1 he => he)
  · obtain ⟨a, B, sI, pins', σ', H', cls, d, rfl, Jz, nb, up, sky, naA, os, ag, b, hb1, hyes, hno⟩ := xx
    have Ja : Inv X pins σ' H' sI := Jz.ofTry ok
    have skyT : Sky B (X.env :: X.outer) a (Zc cls d) X.env.locals s'.heap := by rw [← hs]; exact sky
    show wpAny (model X.prog X.w) X.A (noteFrame (.ref a) X.env) _ _ _
    refine Sky.land Zc.steady frE hf skyT fun hp3 fly3 mor3 => ?_
    have Jb : Inv X pins σ' H' { s' with heap := hp3 } := Ja.landed nb fly3.1 (up.trans mor3) os ag
    obtain ⟨ob3, fv3, at3, zc3, dt3⟩ := fly3.there
    have offFr : ∀ {h : Heap} {o : Obj} {vs : Array Value}, h.FunFrames B (X.env :: X.outer) → h.get? a = some o → o.data = .fields vs → a ∉ frs (X.env :: X.outer) := fun {h o vs} ff e dd mem_ => by
      obtain ⟨_, o', e', hnA⟩ := ff.mem mem_
      rw [e] at e'; cases e'
      exact hnA _ dd
    have nfrA := offFr fly3.2.2.1 at3 dt3
    have nLoc : a ≠ X.env.locals := fun z => nfrA (List.mem_filterMap.mpr ⟨X.env, List.mem_cons_self, by rw [hf, z]⟩)
    have nFs : a ∉ X.fs := fun mem_ => by
      obtain ⟨e, he, q⟩ := List.mem_filterMap.mp mem_
      exact nfrA (List.mem_filterMap.mpr ⟨e, List.mem_cons_of_mem _ he, q⟩)
    have nI : sI.heap.get? a = none := by
      cases e : sI.heap.get? a with
      | none => rfl
      | some o =>
        have z := nb a o e (by rw [hs]; exact nfrA)
        rw [fly3.2.1] at z
        cases z
    have nbA : X.s_0.heap.get? a = none := by
      cases e : X.s_0.heap.get? a with
      | none => rfl
      | some o =>
        obtain ⟨o', z⟩ := Ja.base.there a o e (by rw [hex]; exact fun z => nomatch z)
        rw [nI] at z
        cases z
    have nP : ∀ p ∈ X.pn ++ pins, p.1 ≠ a := fun p hp z => by
      have q := (Ja.pin p hp).1
      rw [z, nI] at q
      cases q
    have Sb := Jb.suite at3 dt3 naA nLoc nFs
    refine wpAny_handleBy_cons (codeAny_handlers_test ?_) (by intro q; cases q)
    have LtT : PySem.W.Looks (model X.prog X.w) hp3 (typeOf (.ref a)) cls := fun A Q E s k q => wpAny_typeOf_ref (k _ _ at3) (by rw [zc3.1]; exact q)
    have tstT : ∀ {x : Str} {c : Value} {np : Pos} {E : Value → Shared → Prop} {Q : Value → Shared → Prop}, Names X x c → Q c { s' with heap := hp3 } → wpAny (model X.prog X.w) (X.A.mark (some (.ref a))) (eval (.Name x np) X.env) Q E { s' with heap := hp3 } := fun {x c np E Q} hc q => by
      obtain ⟨hg, hdbg, mem_ | ⟨mem_, hv, hnn⟩⟩ := hc
      · exact ld_glob (X := X.suite a ((a, ob3) :: (X.pn ++ pins))) Sb hg mem_ q hdbg
      · exact ld_blt (X := X.suite a ((a, ob3) :: (X.pn ++ pins))) Sb hg mem_ hv q hnn hdbg
    refine wpAny_Tuple ?_
    refine wpAny_items_cons (tstT h1 ?_)
    refine wpAny_items_cons (tstT h2 ?_)
    refine wpAny_items_cons (tstT h3 ?_)
    refine wpAny_items_nil ⟨by size_fits, ?_⟩
    have kp : ∀ q o, hp3.get? q = some o → (hp3.push { cls := .type "tuple", data := .seq [c1, c2, c3].toArray }).get? q = some o := fun _ _ z => Heap.get?_push_of_some _ z
    refine (PySem.W.exm_tup3 (M := model X.prog X.w) (Jb.kIn.keeps kp) (LtT.keeps kp) (Heap.get?_push_size hp3 rfl) hb1).here ?_
    have fly3 : HandSPX.FlyingZ B (X.env :: X.outer) a (Zc cls d) (hp3.push { cls := .type "tuple", data := .seq [c1, c2, c3].toArray }) := by
      obtain ⟨f1, f2, f3, oe, ws, T, oT, ts, he, hc, hd, h1, hn, hne, hT, hdT, h3⟩ := fly3
      exact ⟨fun b o q => kp b o (f1 b o q), f2, f3.of_keeps fun b o q _ => ⟨o, kp b o q, rfl⟩, oe, ws, T, oT, ts, kp _ _ he, hc, hd, h1, hn, hne, kp _ _ hT, hdT, h3⟩
    have mor3 := mor3.trans (Heap.UpToSlots.of_keeps kp)
    generalize (hp3.push { cls := .type "tuple", data := .seq [c1, c2, c3].toArray }) = hp3 at fly3 mor3 ⊢
    cases b with
    | true =>
      obtain ⟨C, rfl, hy⟩ := hyes rfl
      refine codeAny_handlers_suite_as ?_
      refine HandSPX.lands_againZ fly3 fun hp4 fly4 mor4 => ?_
      have Jc : Inv X pins σ' H' { s' with heap := hp4 } := Ja.landed nb fly4.1 ((up.trans mor3).trans mor4) os ag
      obtain ⟨ob4, fv4, at4, zc4, dt4⟩ := fly4.there
      have Sc := Jc.suite at4 dt4 naA nLoc nFs
      refine store_ok (X := X.suite a ((a, ob4) :: (X.pn ++ pins))) (v := .ref a) Sc hN hi locE rfl (fun sd Sd => ?_) (.inr hln)
      refine wpAny_mono ((hsu a ob4 (X.pn ++ pins)).run [] sd _ H' _ Sd (hy a naA)) (fun f s6 hend => ?_) (fun _ _ z => False.elim z)
      have end_ : ∀ {σe : St} {He : Hp} {Q : Shared → Prop}, Inv (X.suite a ((a, ob4) :: (X.pn ++ pins))) [] σe He s6 → (∀ s7, He a = none → Inv X pins (σe.set i none) (upd He a (Pl.ExVo C d a)) s7 → Q s7) →
          wpAny (model X.prog X.w) X.A (do bindName X.env n .none; unbindBehindTheSuite X.env n pos') (fun _ s7 => Q s7) X.xe s6 := fun {σe He Q} Se hq => by
        obtain ⟨ga, gn, _⟩ := Se.pin (a, ob4) (List.mem_append.mpr (.inl List.mem_cons_self))
        have J6 := Se.unsuite ok
        have hC : ∀ x c, X.env.cells.lookup x = some c → c ≠ a := fun x c e z => by
          obtain ⟨v, o, ho, hd⟩ := J6.cell x c e
          rw [z, ga] at ho
          cases ho
          rw [dt4] at hd
          cases hd
        have new : ObjOk X.prog X.w (upd He a (Pl.ExVo C d a)) s6.heap a (Pl.ExVo C d a) := ⟨⟨ob4, fv4, ga, zc4, dt4⟩, ⟨ob4, ga⟩, fun _ _ ⟨o, v, q, r⟩ k => ⟨o, v, k o q, r⟩⟩
        exact gone_ok (J6.told gn nbA nLoc hC nP new) hN hi hln fun s7 J7 => hq s7 gn J7
      cases f with
      | next =>
        obtain ⟨σe, He, Se, qe⟩ := hend
        exact end_ Se fun s7 gn J7 => ⟨_, _, J7, qe gn⟩
      | brk =>
        obtain ⟨σe, He, Se, qe⟩ := hend
        exact end_ Se fun s7 gn J7 => ⟨_, _, J7, qe gn⟩
      | cont =>
        obtain ⟨σe, He, Se, qe⟩ := hend
        exact end_ Se fun s7 gn J7 => ⟨_, _, J7, qe gn⟩
      | ret u =>
        obtain ⟨ve, σe, He, Se, re, qe⟩ := hend
        exact end_ Se fun s7 gn J7 => ⟨_, _, _, J7, re, qe gn⟩
    | false =>
      show wpAny _ X.A (handleBy (.ref a) X.env []) _ _ _
      refine wpAny_handleBy_nil ?_
      obtain ⟨k1, k2, k3, obE, vs, T, oT, ts', he, hz, hd, h1, hr⟩ := id fly3
      unfold PySem.passOn
      refine wpAny_bind (wpAny_field he hd h1 ?_)
      rw [if_neg (show ¬ ((Value.ref T == Value.none) = true) from by simp)]
      have finT : wpAny (model X.prog X.w) X.A (setFlight (.ref a) X.env.frame) (fun _ s4 => wpAny (model X.prog X.w) X.A (throw (.ref a) : Sem Flow) (SP X pins D) X.xe s4) X.xe { s' with heap := hp3 } := by
        rw [hf]
        refine HandSPX.setFlight_upZ fly3 fun hp4 hqD mor4 => wpAny_throw (tk _ _ ?_)
        exact ⟨a, B, sI, pins, σ', H', cls, d, rfl, Ja, nb, (up.trans mor3).trans mor4, .inr (.inr (by rw [hs]; exact hqD)), naA, os, ag, hno rfl⟩
      first
        | exact wpAny_bind (wpAny_pure (wpAny_bind finT))
        | exact wpAny_bind finT
  · cases f with
    | next =>
      obtain ⟨σ', H', Jz, q⟩ := hend
      exact wpAny_execs_nil ⟨σ', H', Jz.ofTry ok, q⟩
    | brk =>
      obtain ⟨σ', H', Jz, q⟩ := hend
      exact ⟨σ', H', Jz.ofTry ok, q⟩
    | cont =>
      obtain ⟨σ', H', Jz, q⟩ := hend
      exact ⟨σ', H', Jz.ofTry ok, q⟩
    | ret u =>
      obtain ⟨v, σ', H', Jz, r, q⟩ := hend
      exact ⟨v, σ', H', Jz.ofTry ok, r, q⟩
end
end L2
namespace Pl
open PySem L2
section
variable {I : Type} {X : I → Cx} {P : Program} {w : World} {K : PySem.W.Frag} {mg : Str → Option Value} {base : Heap} {k : Nat}
def sTryB (tb : Str → Option Addr) (j : Nat) (fb : XFQ) (fs : SF) : SF := fun δ M => match fb δ M with
  | some (.ok o) => some o
  | some (.ex y ys δ' M') => (match tb y with
    | some C => kpOD j M'.length (M' ++ [MO.exg ys]).length C (fs (δ'.set j (some (.ref (M' ++ [MO.exg ys]).length))) ((M' ++ [.exg ys]) ++ [.dead]))
    | none => none)
  | some (.ep y δ' M') => (match tb y with
    | some C => kpO j M'.length C (fs (δ'.set j (some (.ref M'.length))) (M' ++ [.dead]))
    | none => none)
  | none => none
theorem DS.tryB3 (j : Nat) (c : Ctx X P w K mg base k) {x1 x2 x3 n : Str} {body suite : List Stmt} {b₀ : Stmt} {np1 np2 np3 tpos pos pos' : Pos} {kk : Nat} {CH1 CH2 CH3 : Addr} {fb : XFQ} {fs : SF} {tb : Str → Option Addr} (hN : ∀ i, (X i).N.Nodup) (hm1 : mg x1 = some (.ref CH1)) (hm2 : mg x2 = some (.ref CH2)) (hm3 : mg x3 = some (.ref CH3))
    (hx : ∀ y C, tb y = some C → mg y = some (.ref C) ∧ PySem.W.exmAny K (.ref C) [.ref CH1, .ref CH2, .ref CH3] = some true ∧ ExcC K C) (hb : ∀ S : WX, (∀ i, Takes (trF X S i) S) → Ctx (trF X S) P w K mg base k → DBQ (trF X S) K mg S body fb) (hsu : DB (suF X) K (b₀ :: suite) fs)
    (hs : ∀ i, (X i).stack = (X i).env :: (X i).outer := by intro _; rfl) (hf : ∀ i, (X i).env.frame = some (X i).env.locals := by intro _; rfl) (hex : ∀ i, (X i).ex = [] := by intro _; rfl) (hi : ∀ i, (X i).N[j]? = some n := by intro _; rfl) (hln : ∀ i, (X i).env.kindOf n = some .local := by intro _; rfl)
    (hg1 : ∀ i, Gl (X i) x1 := by intro _; rfl) (hg2 : ∀ i, Gl (X i) x2 := by intro _; rfl) (hg3 : ∀ i, Gl (X i) x3 := by intro _; rfl) (hdb1 : (x1 == ("__debug__" : Str)) = false := by decide) (hdb2 : (x2 == ("__debug__" : Str)) = false := by decide) (hdb3 : (x3 == ("__debug__" : Str)) = false := by decide) :
    DS X K (.Try body [.ExceptHandler (some (.Tuple [.Name x1 np1, .Name x2 np2, .Name x3 np3] kk tpos)) (some n) (b₀ :: suite) pos'] [] [] pos) (sTryB tb j fb fs) := by
  obtain ⟨ts, ps, rs⟩ := hsu.go
  have hb' := fun S : WX => (hb S (fun i => i.2.1) c.tr).go
  let tB : WX → TS := fun S => Classical.choose (hb' S)
  have pB : ∀ S i, PSs (trF X S i) body (tB S) := fun S => (Classical.choose_spec (hb' S)).1
  have rB : ∀ S, SRQ K mg S (tB S) fb := fun S => (Classical.choose_spec (hb' S)).2
  refine ⟨fun D σ H => tB (wKeepB K [.ref CH1, .ref CH2, .ref CH3] j ts (fun _ _ _ _ => False) D) D σ H, fun i => ?_, fun σ W δ M o E w s e q => ?_⟩
  · have h := ps_try_keepB3 (X := X i) (tb := tB) (ts := ts) (i := j) (pos := pos) (pos' := pos') (np1 := np1) (np2 := np2) (np3 := np3) (tpos := tpos) (kk := kk) (hs i) (hf i) (hex i) (hN i) (hi i) (hln i) (show Names (X i) x1 (.ref CH1) from ⟨hg1 i, hdb1, .inl (by rw [c.mg i]; exact hm1)⟩) (show Names (X i) x2 (.ref CH2) from ⟨hg2 i, hdb2, .inl (by rw [c.mg i]; exact hm2)⟩) (show Names (X i) x3 (.ref CH3) from ⟨hg3 i, hdb3, .inl (by rw [c.mg i]; exact hm3)⟩) (takes0) (fun S pn xe tk po => pB S ⟨(i, pn, xe), tk, po⟩) (fun a oe pn => ps (i, a, oe, pn))
    rw [c.K i] at h
    exact h
  · unfold sTryB at e
    split at e
    · rename_i o' h1
      cases e
      exact rB _ σ W δ M _ E w s h1 q
    · rename_i y ys δ' M' h1
      split at e
      · rename_i C hy
        obtain ⟨g1, g2, g3⟩ := hx y C hy
        refine rB _ σ W δ M _ E w s h1 fun Cy σ' W0 dx vs m l0 w0 s0 fa => ?_
        have eC : Cy = C := by
          have := m.symm.trans g1
          cases this
          rfl
        subst eC
        have w' := Wd.adopt_ok w0 fa
        have l : W.Le (W0.ix1 dx) := l0.trans Wd.ix1_le
        have s' := s0.le (Wd.ix1_le (a := dx))
        have at0 : (W0.ix1 dx).ι[M'.length]? = some dx := by
          show (W0.ι ++ [dx])[M'.length]? = some dx
          rw [← w0.len]
          simp
        refine ⟨true, g2, fun _ => ⟨Cy, rfl, fun a ha => ?_⟩, fun z => by cases z⟩
        generalize hW : W0.ix1 dx = W' at w' l s' at0
        generalize hM : M' ++ [MO.exg ys] = M0 at e w'
        have hH : W'.H = W0.H := by rw [← hW]; rfl
        have fin : ∀ {W3 : Wd} {M2 M3 : Mh}, (W'.ix1 a).Le W3 → W3.Ok K M2 → W3.H a = none → kpD M'.length M0.length Cy M2 = some M3 → (W3.wake a (ExVD Cy dx a)).Ok K M3 := fun {W3 M2 M3} l3 w3 h3 k3 => by
          obtain ⟨kn, rfl⟩ := kpD_some k3
          exact Wd.wake_ok w3 kn (l3.ix _ _ (by
            show (W'.ι ++ [a])[M0.length]? = some a
            rw [← w'.len]
            simp)) h3 (.exf g3 (l3.ix _ _ (Wd.ix1_le.ix _ _ at0)))
        have lw : ∀ {W3 : Wd}, (W'.ix1 a).Le W3 → W.Le (W3.wake a (ExVD Cy dx a)) := fun {W3} l3 => ((l.trans Wd.ix1_le).trans l3).trans Wd.wake_le
        show ts (endKo Cy (some dx) a j E) (σ'.set j (some (.ref a))) W0.H
        rw [← hH]
        show ts (endKo Cy (some dx) a j E) (σ'.set j (some (.ref a))) (W'.ix1 a).H
        generalize hf0 : fs (δ'.set j (some (.ref M0.length))) (M0 ++ [.dead]) = fo at e
        match fo, e with
        | some (.nx d2 M2), e =>
          obtain ⟨M3, e3, rfl⟩ := Option.map_eq_some_iff.mp e
          exact rs _ (W'.ix1 a) _ _ _ _ (Wd.ix1_ok w') (s'.ix1 w' j) hf0 fun σ3 W3 l3 w3 s3 h3 => q _ (W3.wake a (ExVD Cy dx a)) (lw l3) (fin l3 w3 h3 e3) ((s3.hide j none).le Wd.wake_le)
        | some (.bk d2 M2), e =>
          obtain ⟨M3, e3, rfl⟩ := Option.map_eq_some_iff.mp e
          exact rs _ (W'.ix1 a) _ _ _ _ (Wd.ix1_ok w') (s'.ix1 w' j) hf0 fun σ3 W3 l3 w3 s3 h3 => q _ (W3.wake a (ExVD Cy dx a)) (lw l3) (fin l3 w3 h3 e3) ((s3.hide j none).le Wd.wake_le)
        | some (.ct d2 M2), e =>
          obtain ⟨M3, e3, rfl⟩ := Option.map_eq_some_iff.mp e
          exact rs _ (W'.ix1 a) _ _ _ _ (Wd.ix1_ok w') (s'.ix1 w' j) hf0 fun σ3 W3 l3 w3 s3 h3 => q _ (W3.wake a (ExVD Cy dx a)) (lw l3) (fin l3 w3 h3 e3) ((s3.hide j none).le Wd.wake_le)
        | some (.rt d2 M2), e =>
          obtain ⟨M3, e3, rfl⟩ := Option.map_eq_some_iff.mp e
          exact rs _ (W'.ix1 a) _ _ _ _ (Wd.ix1_ok w') (s'.ix1 w' j) hf0 fun v W3 l3 w3 r3 h3 => q v (W3.wake a (ExVD Cy dx a)) (lw l3) (fin l3 w3 h3 e3) (r3.le Wd.wake_le)
        | none, e => cases e
      · cases e
    · rename_i y δ' M' h1
      split at e
      · rename_i C hy
        obtain ⟨g1, g2, g3⟩ := hx y C hy
        refine rB _ σ W δ M _ E w s h1 fun Cy σ' W' m l w' s' => ?_
        have eC : Cy = C := by
          have := m.symm.trans g1
          cases this
          rfl
        subst eC
        refine ⟨true, g2, fun _ => ⟨Cy, rfl, fun a ha => ?_⟩, fun z => by cases z⟩
        have fin : ∀ {W3 : Wd} {M2 M3 : Mh}, (W'.ix1 a).Le W3 → W3.Ok K M2 → W3.H a = none → kp M'.length Cy M2 = some M3 → (W3.wake a (ExV Cy a)).Ok K M3 := fun {W3 M2 M3} l3 w3 h3 k3 => by
          obtain ⟨kn, rfl⟩ := kp_some k3
          exact Wd.wake_ok w3 kn (l3.ix _ _ (by
            show (W'.ι ++ [a])[M'.length]? = some a
            rw [← w'.len]
            simp)) h3 (.exc g3)
        have lw : ∀ {W3 : Wd}, (W'.ix1 a).Le W3 → W.Le (W3.wake a (ExV Cy a)) := fun {W3} l3 => ((l.trans Wd.ix1_le).trans l3).trans Wd.wake_le
        show ts (endKo Cy none a j E) (σ'.set j (some (.ref a))) (W'.ix1 a).H
        generalize hf0 : fs (δ'.set j (some (.ref M'.length))) (M' ++ [.dead]) = fo at e
        match fo, e with
        | some (.nx d2 M2), e =>
          obtain ⟨M3, e3, rfl⟩ := Option.map_eq_some_iff.mp e
          exact rs _ (W'.ix1 a) _ _ _ _ (Wd.ix1_ok w') (s'.ix1 w' j) hf0 fun σ3 W3 l3 w3 s3 h3 => q _ (W3.wake a (ExV Cy a)) (lw l3) (fin l3 w3 h3 e3) ((s3.hide j none).le Wd.wake_le)
        | some (.bk d2 M2), e =>
          obtain ⟨M3, e3, rfl⟩ := Option.map_eq_some_iff.mp e
          exact rs _ (W'.ix1 a) _ _ _ _ (Wd.ix1_ok w') (s'.ix1 w' j) hf0 fun σ3 W3 l3 w3 s3 h3 => q _ (W3.wake a (ExV Cy a)) (lw l3) (fin l3 w3 h3 e3) ((s3.hide j none).le Wd.wake_le)
        | some (.ct d2 M2), e =>
          obtain ⟨M3, e3, rfl⟩ := Option.map_eq_some_iff.mp e
          exact rs _ (W'.ix1 a) _ _ _ _ (Wd.ix1_ok w') (s'.ix1 w' j) hf0 fun σ3 W3 l3 w3 s3 h3 => q _ (W3.wake a (ExV Cy a)) (lw l3) (fin l3 w3 h3 e3) ((s3.hide j none).le Wd.wake_le)
        | some (.rt d2 M2), e =>
          obtain ⟨M3, e3, rfl⟩ := Option.map_eq_some_iff.mp e
          exact rs _ (W'.ix1 a) _ _ _ _ (Wd.ix1_ok w') (s'.ix1 w' j) hf0 fun v W3 l3 w3 r3 h3 => q v (W3.wake a (ExV Cy a)) (lw l3) (fin l3 w3 h3 e3) (r3.le Wd.wake_le)
        | none, e => cases e
      · cases e
    · cases e
end
end Pl
namespace Pl
open PySem PySem.Spec PyProof.Rows L2 LamX
section
variable {I : Type} {X : I → Cx} {P : Program} {w : World} {K : PySem.W.Frag} {mg : Str → Option Value} {base : Heap} {k : Nat} {S : WX}
theorem DSQ.raiseT (c : Ctx X P w K mg base k) (tk : ∀ i, Takes (X i) S) {x m : Str} {j : Nat} {p p2 pos pos2 : Pos} {C : Addr} (L : LkT K mg x C) (b1 : PySem.W.subIn K (.ref C) (.type "BaseException") = some true) (b2 : PySem.W.typeIn K (.ref C) = some (.type "type")) (hg : ∀ i, Gl (X i) x := by intro _; rfl)
    (hdb : (x == ("__debug__" : Str)) = false := by decide) : DSQ X K mg S (.Raise (some (.Call (.Name x p) [.Constant (.str m) j p2] [] pos)) none pos2) (qRaiseP x) := by
  obtain ⟨B, newId, initId, bmB, F, h1, h2, h3⟩ := L.go
  exact DSQ.raiseP c tk F ⟨h2, h1, h3, b1, b2⟩ hg hdb
/-- list + list, the script among them -/
def rCatQ (K : PySem.W.Frag) : R2 := fun x y H Q => ∃ l b xs zs, x = .ref l ∧ y = .ref b ∧ SqL K H l xs ∧ SqL K H b zs ∧ xs.length + zs.length ≤ sizeLine ∧ ∀ p, H p = none → Q (.ref p) (upd H p (.lst (xs ++ zs)))
theorem op_catQ {Y : Cx} : OpR Y (binaryOp .Add) (rCatQ Y.K) := by
  intro pins s σ H x y v u Q J rx ry h
  obtain ⟨l, b, xs, zs, rfl, rfl, hH, hB, hz, q⟩ := h
  cases rx
  cases ry
  obtain ⟨its, r, p1, _⟩ := J.list hH
  obtain ⟨its2, r2, p2, _⟩ := J.list hB
  obtain ⟨⟨cls, dd, data, sl⟩, n, ho, hc, _, hd⟩ := p1
  obtain ⟨⟨cls2, dd2, data2, sl2⟩, n2, ho2, hc2, _, hd2⟩ := p2
  simp only at hc hd hc2 hd2
  subst hc hd hc2 hd2
  have l1 := r.length
  have l2 := r2.length
  refine concat_meets ⟨_, ho, rfl⟩ ⟨_, ho2, rfl⟩ noFill_list_add seq_list_add PySem.F.slot_list_add PySem.F.entry_list_add (PySem.F.args_list_add_2 _ _) (list_addW l b its.toArray its2.toArray n n2 dd dd2 sl sl2 (by rw [List.size_toArray, List.size_toArray]; omega)) ⟨ho, ho2, ?_⟩
  have ea : its.toArray ++ its2.toArray = (its ++ its2).toArray := by simp
  rw [ea]
  exact ⟨.ref _, _, J.lnew (t' := s.toks) (r.append r2) (by rw [List.length_append]; omega), rfl, q _ J.fresh⟩
def gAddQ : O2 := fun a b M => match lstOf M a, lstOf M b with
  | some xs, some ys => if xs.length + ys.length ≤ sizeLine then some (.lst (xs ++ ys), M) else none
  | _, _ => none
theorem opAddQ (c : Ctx X P w K mg base k) : OpF X K (binaryOp .Add) gAddQ := ⟨rCatQ K, fun i => by
  have h := op_catQ (Y := X i)
  rw [c.K i] at h
  exact h, fun W M x y a b z M' Q w ra rb e q => by
  unfold gAddQ at e
  split at e
  · rename_i xs ys h1 h2
    split at e
    · rename_i hl
      cases e
      obtain ⟨l, vs, rfl, s1, r1⟩ := lstOf_rep w ra h1
      obtain ⟨m, us, rfl, s2, r2⟩ := lstOf_rep w rb h2
      refine ⟨l, m, vs, us, rfl, rfl, s1, s2, by rw [r1.len, r2.len]; exact hl, fun p hp => ?_⟩
      obtain ⟨l2, w2, r3⟩ := lay_lst w hp (r1.append r2)
      exact q _ _ l2 w2 r3
    · cases e
  · cases e⟩
end
end Pl
namespace Pl
open PySem L2 LamX
open PyProof.Rows (IntsAre AllBare)
abbrev CTab := Addr × Addr × Str
abbrev tabsOf (cs : List CTab) : List Addr := cs.map fun p => p.2.1
abbrev tabsM (cs : List CTab) : Mh := cs.map fun p => MO.tab p.2.1 p.2.2
theorem law_callTDs {P : Program} {w : World} {K : PySem.W.Frag} {mg mb : Str → Option Value} {k : Nat} {fa a : Addr} {cs : List CTab} {fd : FuncData} {x : Str} {F : Fn} {t₁ : Shared} {us : List Value} {ns : List Int}
    (kin : K.In t₁.heap) (gl : t₁.heap.Ns mainGlobals mg) (bl : t₁.heap.Ns builtinsNs mb) (blx : ∀ x : Str, x ≠ "__name__" → mb x = bootBuiltins x) (nl : t₁.heap.NoLimit) (gn : t₁.gens = #[])
    (hT : ∀ p ∈ cs, t₁.heap.get? p.2.1 = some { cls := .none, data := .fields #[] }) (nT : ∀ p ∈ cs, K.lookup p.2.1 = none) (hC : ∀ p ∈ cs, PySem.W.CodeHd t₁.heap p.1 p.2.1) (nd : (tabsOf cs).Nodup)
    (hbm : ∃ (bm : Addr) (ob : Obj), mg "__builtins__" = some (.ref bm) ∧ bm ≠ builtinsNs ∧ t₁.heap.get? bm = some ob ∧ ob.cls = .type "module" ∧ ob.dict = some builtinsNs ∧ ob.data = .plain)
    (at_a : t₁.heap.get? a = some { cls := .type "list", data := .seq us.toArray }) (isv : IntsAre us ns) (small : ns.length ≤ sizeLine) (room : Room k PySem.callerA)
    (hF : ∀ base : Heap, K.In base → base.Ns mainGlobals mg → (∀ p ∈ cs, TabB base mg p.1 p.2.1) → DFn P w K mg base k fa fd [x] F) (bnd : ∀ (s : Shared) (u : Value), BindsTo s fd ⟨[u], []⟩ [(x, u)])
    (tru : ∃ M', F [.lsk (ns.map D.int)] (tabsM cs) = some (.bl true, M')) :
    codeAny (model P w) PySem.callerA (.call (.ref fa) ⟨[.ref a], []⟩) (fun o t' => o = .ok (.ret (.bool true)) ∧ OldK t₁.heap t'.heap ∧ t'.os = t₁.os ∧ AllBare t'.gens) t₁ := by
  have rel := vals_ints isv
  have lenU := isv.length
  have tb : ∀ b ∈ tabsOf cs, t₁.heap.get? b = some { cls := .none, data := .fields #[] } := fun b hb => by
    obtain ⟨p, hp, rfl⟩ := List.mem_map.mp hb
    exact hT p hp
  have ntb : ∀ b ∈ tabsOf cs, K.lookup b = none := fun b hb => by
    obtain ⟨p, hp, rfl⟩ := List.mem_map.mp hb
    exact nT p hp
  have memT : ∀ p ∈ cs, p.2.1 ∈ tabsOf cs := fun p hp => List.mem_map.mpr ⟨p, hp, rfl⟩
  have aP : a ∉ tabsOf cs := fun z => by
    rw [tb a z] at at_a
    have z' : Data.fields #[] = Data.seq us.toArray _ := congrArg Obj.data (Option.some.inj at_a)
    cases z'
  have main : ∀ G : Hp, (∀ b ∈ tabsOf cs, G b = some (.tbl #[])) → (∀ b, G b = none ∨ b ∈ tabsOf cs ∨ ∃ o xs, G b = some (.frz o (.lst xs))) → SqL K (fun b => if b ∈ tabsOf cs then none else G b) a (ns.map V.int) → HOk P w G t₁.heap → (∀ b, G b ≠ none → b = a ∨ b ∈ tabsOf cs) → (G a ≠ none → K.lookup a = none) →
      codeAny (model P w) PySem.callerA (.call (.ref fa) ⟨[.ref a], []⟩) (fun o t' => o = .ok (.ret (.bool true)) ∧ OldK t₁.heap t'.heap ∧ t'.os = t₁.os ∧ AllBare t'.gens) t₁ := fun G gP only seqA gok ga gk => by
    have keepB : ∀ {b : Addr} {o : Obj}, t₁.heap.get? b = some o → G b = none → (hidT t₁.heap G).get? b = some o := fun e n => hidT_get e n
    have noD : ∀ {b : Addr} {o : Obj}, t₁.heap.get? b = some o → (∀ vs n, o.data ≠ .seq vs n) → o.data ≠ .fields #[] → G b = none := fun {b o} e h1 h2 => by
      cases gq : G b with
      | none => rfl
      | some u =>
        rcases ga b (by rw [gq]; simp) with eb | eb
        · rw [eb, at_a] at e
          cases e
          exact (h1 _ _ rfl).elim
        · rw [tb b eb] at e
          cases e
          exact (h2 rfl).elim
    have noDict : ∀ {b : Addr} {o : Obj} {es : Array DictEntry} {ep : Nat}, t₁.heap.get? b = some o → o.data = .dict es ep → G b = none := fun {b o es ep} e dd =>
      noD e (fun vs n z => by rw [dd] at z; cases z) fun z => by rw [dd] at z; cases z
    have nsB : ∀ {b : Addr} {m : Str → Option Value}, t₁.heap.Ns b m → (hidT t₁.heap G).Ns b m := fun ⟨o, es, ep, e, dd, r⟩ => ⟨o, es, ep, keepB e (noDict e dd), dd, r⟩
    have kinB : K.In (hidT t₁.heap G) := fun b o e => keepB (kin b o e) (by
      cases gq : G b with
      | none => rfl
      | some u =>
        rcases ga b (by rw [gq]; simp) with eb | eb
        · rw [eb] at gq e
          rw [gk (by rw [gq]; simp)] at e
          cases e
        · rw [ntb b eb] at e
          cases e)
    have modB : Mod K mg (hidT t₁.heap G) := ⟨kinB, nsB gl, ⟨mb, nsB bl, blx⟩, let ⟨mc, n1, n2⟩ := nl; ⟨mc, nsB n1, n2⟩⟩
    have TB : ∀ p ∈ cs, TabB (hidT t₁.heap G) mg p.1 p.2.1 := fun p hp => by
      have tbp := hT p hp
      refine ⟨?_, ?_, fun z => ?_⟩
      · obtain ⟨o, vs, file, tf, flags, tg, inF, text, tt, e1, r1, r2, r3, r4, r5, r6, r7, r8, hne⟩ := hC p hp
        refine ⟨o, vs, file, tf, flags, tg, inF, text, tt, keepB e1 (noD e1 (fun vs n z => ?_) fun z => ?_), r1, r2, r3, r4, r5, r6, r7, r8, hne⟩
        · rw [r2] at z
          cases z
        · rw [r2] at z
          cases z
          simp at r3
      · obtain ⟨bm, ob, b1, b2, b3, b4, b5, b6⟩ := hbm
        refine ⟨bm, ob, b1, b2, fun z => ?_, fun z => ?_, keepB b3 (noD b3 (fun vs n z => ?_) fun z => ?_), b4, b5, b6⟩
        · obtain ⟨o, es, ep, e, hd, _⟩ := gl
          rw [z, e] at b3
          cases b3
          rw [hd] at b6
          cases b6
        · rw [z, tbp] at b3
          cases b3
          cases b6
        · rw [b6] at z
          cases z
        · rw [b6] at z
          cases z
      · obtain ⟨o, es, ep, e, hd, _⟩ := gl
        rw [z, tbp] at e
        cases e
        cases hd
    have envB : Env0 P w K mg (hidT t₁.heap G) PySem.callerA [] t₁ G := ⟨rfl, modB, fun b o e => of_hidT e, Nat.le_of_eq (hidT_size _ _), trivial, fun b hb => (by cases hb), gok, .of_eq gn⟩
    obtain ⟨M', hv⟩ := tru
    have rs : RepL K (fun b => if b ∈ tabsOf cs then none else G b) (tabsOf cs) (ns.map V.int) (ns.map D.int) := by
      exact ints_rep ns
    have W0 : (⟨G, fun b => if b ∈ tabsOf cs then none else G b, tabsOf cs, fun _ => none⟩ : Wd).Ok K (tabsM cs) := by
      refine ⟨fun b o e => ?_, fun b o e => (by cases e), by simp [tabsOf, tabsM], fun n b o l => ?_, fun n m b o u l1 l2 => ?_⟩
      · by_cases eb : b ∈ tabsOf cs
        · exact nomatch (if_pos eb).symm.trans e
        · exact (if_neg eb).symm.trans e
      · obtain ⟨l1, l2, l3⟩ := l
        have l1' : (tabsOf cs)[n]? = some b := l1
        have hb : b ∈ tabsOf cs := List.mem_of_getElem? l1'
        rw [List.getElem?_map] at l1' l2
        cases hc : cs[n]? with
        | none => rw [hc] at l1'; cases l1'
        | some p =>
          rw [hc] at l1' l2
          cases l1'
          cases l2
          exact ⟨if_pos hb, rfl, .tbl #[], gP _ hb, .tab (by trivial) fun pos cv z => by cases z⟩
      · have g1 : (tabsOf cs)[n]? = some b := l1.1
        have g2 : (tabsOf cs)[m]? = some b := l2.1
        obtain ⟨n1, n2⟩ := List.getElem?_eq_some_iff.mp g1
        obtain ⟨m1, m2⟩ := List.getElem?_eq_some_iff.mp g2
        have pw := List.pairwise_iff_getElem.mp nd
        rcases Nat.lt_trichotomy n m with z | z | z
        · exact absurd (n2.trans m2.symm) (pw n m n1 m1 z)
        · exact z
        · exact absurd (m2.trans n2.symm) (pw m n m1 n1 z)
    refine codeAny_mono ((hF _ kinB (nsB gl) TB).run PySem.callerA [] t₁ G ⟨[.ref a], []⟩ [.ref a] [.ref a] (fun v _ => v = .bl true) room rfl envB (bnd t₁ (.ref a)) (.cons rfl .nil)
      ⟨⟨G, fun b => if b ∈ tabsOf cs then none else G b, tabsOf cs, fun _ => none⟩, tabsM cs, [.lsk (ns.map D.int)], .bl true, M', rfl, W0, .cons (.lsk seqA rs) .nil, rfl, hv, fun v W' _ _ r => by cases r; rfl⟩) fun o t' ho => ?_
    match o, ho with
    | .ok (.ret u), ⟨v, G', os, bare, un, gok', rv, q⟩ =>
      have q' : v = .bl true := q
      rw [q'] at rv
      have eu : u = Value.bool true := rv
      rw [eu]
      have key : ∀ b o, b ∉ tabsOf cs → t₁.heap.get? b = some o → t'.heap.get? b = some o := fun b o nb e => by
        cases gq : G b with
        | none => exact un.keep b o e gq (fun z => nomatch (show b ∈ ([] : List Addr) from z)) (fun z => nomatch z)
        | some u =>
          rcases only b with z | z | ⟨ob, xs, z⟩
          · rw [gq] at z
            cases z
          · exact absurd z nb
          · have z2 := un.frzs b ob _ z
            obtain ⟨e1, _⟩ := gok b _ z
            obtain ⟨e2, _⟩ := gok' b _ z2
            rw [e] at e1
            cases e1
            exact e2
      have grown : ∀ b ∈ tabsOf cs, ∃ more : Array Value, t'.heap.get? b = some { cls := .none, data := .fields more } := fun b hb => by
        obtain ⟨more, hm⟩ := un.tbls b #[] (gP b hb)
        exact ⟨_, gok' b _ hm⟩
      refine ⟨rfl, ⟨fun b o e => ?_, fun b o e => ?_⟩, os, bare⟩
      · by_cases hb : b ∈ tabsOf cs
        · obtain ⟨p, hp, ep⟩ := List.mem_map.mp hb
          obtain ⟨more, hm⟩ := grown b hb
          rw [tb b hb] at e
          cases e
          have cd := (hC p hp).tab (hT p hp)
          rw [ep] at cd
          exact .inr (.inl ⟨cd.isCodeTable, rfl, #[], more, rfl, by rw [Array.empty_append]; exact hm⟩)
        · exact .inl (key b o hb e)
      · by_cases hb : b ∈ tabsOf cs
        · obtain ⟨more, hm⟩ := grown b hb
          exact ⟨_, hm⟩
        · exact ⟨o, key b o hb e⟩
    | .ok .next, ho => exact False.elim ho
    | .ok .brk, ho => exact False.elim ho
    | .ok .cont, ho => exact False.elim ho
    | .error _, ho => exact False.elim ho
  cases lk : K.lookup a with
  | some o =>
    have e := kin a o lk
    rw [at_a] at e
    cases e
    refine main (fun b => if b ∈ tabsOf cs then some (.tbl #[]) else none) (fun b hb => if_pos hb) (fun b => ?_) (.inr ⟨_, us.toArray, _, lk, rfl, rfl, rfl, by rw [List.size_toArray, lenU]; exact small, by simpa using rel⟩) (fun b u z => ?_) (fun b z => ?_) fun z => absurd (if_neg aP) z
    · by_cases eb : b ∈ tabsOf cs
      · exact .inr (.inl eb)
      · exact .inl (if_neg eb)
    · by_cases eb : b ∈ tabsOf cs
      · have z' := (if_pos eb).symm.trans z
        cases z'
        exact tb b eb
      · exact nomatch (if_neg eb).symm.trans z
    · exact .inr (Classical.byContradiction fun eb => z (if_neg eb))
  | none =>
    have gA : (fun b => if b ∈ tabsOf cs then none else (if b = a then some (HO.frz { cls := .type "list", data := .seq us.toArray } (.lst (ns.map V.int))) else if b ∈ tabsOf cs then some (.tbl #[]) else none)) a = some (HO.frz { cls := .type "list", data := .seq us.toArray } (.lst (ns.map V.int))) := (if_neg aP).trans (if_pos rfl)
    refine main (fun b => if b = a then some (.frz { cls := .type "list", data := .seq us.toArray } (.lst (ns.map V.int))) else if b ∈ tabsOf cs then some (.tbl #[]) else none) (fun b hb => (if_neg (fun z => aP (by rw [← z]; exact hb))).trans (if_pos hb)) (fun b => ?_) (.inl (.inr ⟨{ cls := .type "list", data := .seq us.toArray }, gA⟩)) (fun b u z => ?_) (fun b z => ?_) fun _ => lk
    · by_cases eb : b = a
      · exact .inr (.inr ⟨_, _, if_pos eb⟩)
      · by_cases e2 : b ∈ tabsOf cs
        · exact .inr (.inl e2)
        · exact .inl ((if_neg eb).trans (if_neg e2))
    · by_cases eb : b = a
      · have z' := (if_pos eb).symm.trans z
        cases z'
        rw [eb]
        exact ⟨at_a, by rw [List.length_map]; exact small, us, _, rel, at_a⟩
      · have z1 := (if_neg eb).symm.trans z
        by_cases e2 : b ∈ tabsOf cs
        · have z' := (if_pos e2).symm.trans z1
          cases z'
          exact tb b e2
        · exact nomatch (if_neg e2).symm.trans z1
    · by_cases eb : b = a
      · exact .inl eb
      · by_cases e2 : b ∈ tabsOf cs
        · exact .inr e2
        · exact absurd ((if_neg eb).trans (if_neg e2)) z
/-- the head where the empty tables are told -/
theorem walk_ofXTs {l : PySem.W.OpenLaw} {n k : Nat} {q : Program} {loose : List Str} {XP : (Str → Option Value) → Heap → Prop} {YP : World → Heap → Prop} {d : DefRec} {K : Params → PySem.W.Frag} {ts : List Addr} {x : Str}
    (hn : l.most = some n) (hn2 : n ≤ sizeLine) (hdf : d.params.defaults = []) (room : Room k PySem.callerA) (hY : ∀ (w : World) (h : Heap), YP w h → (K w.params).In h) (hYt : ∀ (w : World) (h : Heap), YP w h → ∀ P ∈ ts, h.get? P = some (PySem.W.tabObj #[]))
    (hF : ∀ (w : World) (mg : Str → Option Value) (fa : Addr) (h : Heap), (K w.params).In h → h.Ns mainGlobals mg → mg d.name = some (.ref fa) →
      ∃ (fd : FuncData) (F : Fn) (cs : List CTab), (∀ p ∈ cs, p.2.1 ∈ ts) ∧ (∀ p ∈ cs, (K w.params).lookup p.2.1 = none) ∧ (∀ p ∈ cs, PySem.W.codeHdIn (K w.params) p.1 p.2.1 = true) ∧ (tabsOf cs).Nodup ∧ (∀ (s : Shared) (u : Value), BindsTo s fd ⟨[u], []⟩ [(x, u)]) ∧
        (∀ base : Heap, (K w.params).In base → base.Ns mainGlobals mg → (∀ p ∈ cs, TabB base mg p.1 p.2.1) → DFn l.prog w (K w.params) mg base k fa fd [x] F) ∧
        ∀ ns : List Int, ns.length ≤ n → ∃ M', F [.lsk (ns.map D.int)] (tabsM cs) = some (.bl true, M')) :
    PySem.W.WalkO q loose XP YP l.row.toRowW d [] (fun f vs => PySem.call f vs) :=
  Att.attach_callB hn hdf fun w _ s₁ mg _ fa _ _ _ _ a us ns G Y ho hd hcd hmg obj isv len bits gn => by
    have kin := hY w _ Y
    obtain ⟨fd, F, cs, hts, nT, hC, nd, hb, h, tru⟩ := hF w mg fa _ kin G.T.g hmg
    exact law_callTDs kin G.T.g G.T.b G.T.builtins G.T.nolimit gn (fun p hp => hYt w _ Y _ (hts p hp)) nT (fun p hp => PySem.W.codeHd_of_K kin (hC p hp)) nd G.T.bmain obj isv (Nat.le_trans len hn2) room h hb (tru ns len)
end Pl
namespace Pl
open PySem L2
open PyProof.Rows (IsTup)
section
variable {prog : Program} {w : World} {A : Around} {E : Value → Shared → Prop}
abbrev kI (prog : Program) (w : World) : HeapKind prog w (List Int) := tupleKind (intKind prog w)
theorem is_ext {h h' : Heap} {k : List Int} {b : Addr} (x : (kI prog w).is h k b) (e : ∀ o, h.get? b = some o → h'.get? b = some o) : (kI prog w).is h' k b := by
  obtain ⟨o, its, n, h1, h2, h3, h4⟩ := x
  exact ⟨o, its, n, e o h1, h2, h3, h4⟩
theorem atKey_none {acc : List (List Int × Addr × Value)} {k : List Int} (h : k ∉ acc.map (·.1)) : atKey acc k = none := by
  unfold atKey
  rw [List.find?_eq_none.mpr fun x hx e => h (List.mem_map.mpr ⟨x, hx, by simpa using e⟩)]
  rfl
/-- keys all unlike: the pairs as they come -/
theorem all_new : ∀ (ps acc : List (List Int × Addr × Value)), ((acc ++ ps).map (·.1)).Nodup → storedAllH acc ps = acc ++ ps
  | [], acc, _ => (List.append_nil acc).symm
  | p :: ps, acc, h => by
    have nk : atKey acc p.1 = none := atKey_none fun hm => by
      rw [List.map_append, List.map_cons] at h
      exact (List.nodup_append.mp h).2.2 p.1 hm p.1 List.mem_cons_self rfl
    have e : (acc ++ [(p.1, p.2.1, p.2.2)]) ++ ps = acc ++ p :: ps := by rw [List.append_assoc]; rfl
    show storedAllH (storedH acc p.1 p.2.1 p.2.2) ps = _
    rw [storedH_new nk, all_new ps _ (by rw [e]; exact h), e]
/-- where the pairs stand -/
def pairAddr (items : Array Value) (j : Nat) : Addr := match items[j]? with
  | some (.ref c) => c
  | _ => 0
theorem call_dict_cells {s : Shared} {l : Addr} {ol : Obj} {items : Array Value} {n : Nat} {prs : List (List Int × Addr × Value)} {Q : Value → Shared → Prop} (hu : A.units + 2 < cLine) (hh : A.handled = none) (hl : s.heap.get? l = some ol) (hc : ol.cls = .type "list") (hd : ol.dict = none)
    (hdat : ol.data = .seq items n) (hsz : items.size = prs.length) (hln : prs.length ≤ sizeLine) (hnd : (prs.map (·.1)).Nodup)
    (ht : ∀ (j : Nat) (q : List Int × Addr × Value), prs[j]? = some q → ∃ c : Addr, items[j]? = some (.ref c) ∧ IsTup s.heap c #[.ref q.2.1, q.2.2])
    (hk : ∀ x ∈ prs, (kI prog w).is s.heap x.1 x.2.1)
    (h : ∀ h' tk, h'.DictOfH (kI prog w) s.heap.objs.size prs → (∀ b o, s.heap.get? b = some o → h'.get? b = some o) → Q (.ref s.heap.objs.size) { s with heap := h', toks := tk }) :
    wpAny (model prog w) A (call (.type "dict") [.ref l]) Q E s := by
  have len : (prs.map fun q => (Value.ref q.2.1, q.2.2)).length = prs.length := List.length_map _
  refine call_dict_pairsH (knd := kI prog w) (ps := prs) (PairArg.list l items (pairAddr items) (prs.map fun q => (Value.ref q.2.1, q.2.2))) hh (show A.units + 1 + 1 < cLine from hu) ⟨⟨ol, n, hl, hc, hd, hdat⟩, hsz.trans len.symm, fun j k v e => ?_⟩ ⟨len.symm, fun i key v e => ?_⟩ (fun h' keep x hx => ?_) (by rw [len]; exact hln) fun h' tk hd' k => ?_
  · rw [List.getElem?_map] at e
    obtain ⟨q, hq, eq⟩ := Option.map_eq_some_iff.mp e
    obtain ⟨rfl, rfl⟩ := Prod.mk.inj eq
    obtain ⟨c, e1, o, e2, e3, m, e4⟩ := ht j q hq
    have ec : pairAddr items j = c := by unfold pairAddr; rw [e1]
    rw [ec]
    exact ⟨e1, .inl ⟨o, e2, e3, m, e4⟩⟩
  · have e' : (prs.map fun q => (Value.ref q.2.1, q.2.2))[i]? = some (key, v) := e
    rw [List.getElem?_map] at e'
    obtain ⟨q, hq, eq⟩ := Option.map_eq_some_iff.mp e'
    obtain ⟨rfl, rfl⟩ := Prod.mk.inj eq
    exact ⟨q.1, q.2.1, hq, rfl⟩
  · have a := hk x hx
    obtain ⟨o, _, _, ho, _⟩ := id a
    exact is_ext a fun o' e' => keep _ o' (Nat.ne_of_lt (Heap.lt_size ho)) (fun z => nomatch z) e'
  · rw [all_new prs [] (by rw [List.nil_append]; exact hnd), List.nil_append] at hd'
    exact h h' tk hd' fun b o e => k b o (fun z => nomatch z) e
end
end Pl
namespace Pl
open PySem L2
open PyProof.Rows (IsTup)
section
variable {P : Program} {w : World}
theorem items_int : ∀ {ks : List Int} {us : List Value}, Vals (ks.map V.int) us → ItemsAre (intKind P w) ks us
  | [], _, r => by rw [List.map_nil] at r; cases r; exact .nil
  | k :: ks, _, r => by
    rw [List.map_cons] at r
    cases r with
    | cons h t =>
      obtain ⟨tk, e⟩ := (show ∃ t, _ = Value.int k t from h)
      subst e
      exact .cons (by simp [intKind, Value.isInt]) (items_int t)
end
section
variable {X : Cx} {pins : List (Addr × Obj)} {σ : St} {H : Hp} {s : Shared} {a b : Addr}
theorem is_of (I : Inv X pins σ H s) {k : List Int} (h : SqT X.K H b (k.map V.int)) : (kI X.prog X.w).is s.heap k b := by
  obtain ⟨its, rv, ⟨o, h1, h2, n, h3⟩, _⟩ := I.tuple h
  exact ⟨o, its.toArray, n, h1, h2, h3, by simpa using items_int rv⟩
theorem kc_is {h : Heap} {P : Program} {w : World} {kvs : List (List Int × Addr × V)} {xs : List (List Int × Addr × Value)} (r : KC kvs xs) (hk : ∀ p ∈ kvs, (kI P w).is h p.1 p.2.1) : ∀ x ∈ xs, (kI P w).is h x.1 x.2.1 := by
  induction r with
  | nil => intro x hx; exact nomatch hx
  | @cons p q ps qs hq t ih =>
    intro x hx
    rcases List.mem_cons.mp hx with e | hx
    · subst e
      rw [← hq.1, hq.2.1]
      exact hk p List.mem_cons_self
    · exact ih (fun p hp => hk p (List.mem_cons_of_mem _ hp)) x hx
theorem kc_keys {kvs : List (List Int × Addr × V)} {xs : List (List Int × Addr × Value)} (r : KC kvs xs) : kvs.map (·.1) = xs.map (·.1) := by
  induction r with
  | nil => rfl
  | @cons p q ps qs hq t ih => rw [List.map_cons, List.map_cons, ih, hq.1]
theorem dcl_of (I : Inv X pins σ H s) {kvs : List (List Int × Addr × V)} (e : H a = some (DCL a kvs)) (hk : ∀ p ∈ kvs, SqT X.K H p.2.1 (p.1.map V.int)) : kvs.length ≤ sizeLine ∧ (a == sysModules) = false ∧ ∃ xs, KC kvs xs ∧ s.heap.DictOfH (kI X.prog X.w) a xs := by
  obtain ⟨⟨l, m, xs, r, o, es, ep, h1, h2, h3, h4, h5⟩, _⟩ := (show ObjOk X.prog X.w H s.heap a (DCL a kvs) from I.hok a _ e)
  exact ⟨l, m, xs, r, o, es, ep, h1, h2, h3, h4, kc_is r fun p hp => is_of I (hk p hp), h5⟩
theorem dcl_obj {P : Program} {w : World} {H' : Hp} {h' : Heap} {kvs : List (List Int × Addr × V)} {xs : List (List Int × Addr × Value)} (l : kvs.length ≤ sizeLine) (m : (a == sysModules) = false) (r : KC kvs xs) (d : h'.DictOfH (kI P w) a xs) : ObjOk P w H' h' a (DCL a kvs) := by
  obtain ⟨o, es, ep, h1, h2, h3, h4, _, h5⟩ := d
  exact ⟨⟨l, m, xs, r, o, es, ep, h1, h2, h3, h4, h5⟩, ⟨o, h1⟩, fun g1 g2 ⟨l, m, xs, r, o, es, ep, e, z⟩ k => ⟨l, m, xs, r, o, es, ep, k o e, z⟩⟩
theorem pairs_ofC (I : Inv X pins σ H s) : ∀ {ps : List Addr} {kvs : List (List Int × Addr × V)}, Paired (fun p (kv : List Int × Addr × V) => SqT X.K H p [.ref kv.2.1, kv.2.2]) ps kvs →
    ∃ prs : List (List Int × Addr × Value), KC kvs prs ∧ prs.length = ps.length ∧ ∀ (j : Nat) (q : List Int × Addr × Value), prs[j]? = some q → ∃ c : Addr, ps[j]? = some c ∧ IsTup s.heap c #[.ref q.2.1, q.2.2]
  | _, _, .nil => ⟨[], .nil, rfl, fun j q e => by simp at e⟩
  | _, _, .cons (a := p) (b := kv) h t => by
    obtain ⟨prs, r, hl, hp⟩ := pairs_ofC I t
    obtain ⟨its, rv, ht, _⟩ := I.tuple h
    obtain ⟨u, y, ei, ru, ry⟩ := vals2 rv
    subst ei
    cases (show u = Value.ref kv.2.1 from ru)
    refine ⟨(kv.1, kv.2.1, y) :: prs, .cons ⟨rfl, rfl, ry⟩ r, by rw [List.length_cons, List.length_cons, hl], fun j q e => ?_⟩
    cases j with
    | zero =>
      have e' : (kv.1, kv.2.1, y) = q := Option.some.inj e
      subst e'
      exact ⟨p, rfl, ht⟩
    | succ j =>
      obtain ⟨c, e1, e2⟩ := hp j q (by simpa using e)
      exact ⟨c, by simpa using e1, e2⟩
def rDictC (K : PySem.W.Frag) : List V → Hp → VK → Prop := fun xs H Q => ∃ (a : Addr) (ps : List Addr) (kvs : List (List Int × Addr × V)), xs = [.ref a] ∧ SqL K H a (ps.map V.ref) ∧ Paired (fun p (kv : List Int × Addr × V) => SqT K H p [.ref kv.2.1, kv.2.2]) ps kvs ∧
    (∀ p ∈ kvs, SqT K H p.2.1 (p.1.map V.int)) ∧ (kvs.map (·.1)).Nodup ∧ ∀ p, H p = none → Q (.ref p) (upd H p (DCL p kvs))
theorem cr_dictC (hcalm : X.calm = true) (hu : X.A.units + 2 < cLine) : CallR X (.type "dict") (rDictC X.K) := by
  intro pins s σ H xs us Q I r q
  obtain ⟨a, ps, kvs, ex, hq, hp, hk, hnd, q⟩ := q
  subst ex
  obtain ⟨u, eu, rx⟩ := vals1 r
  subst eu
  cases rx
  obtain ⟨its, rv, pl, hz⟩ := I.list hq
  have ei := refs_at rv
  subst ei
  rw [List.length_map] at hz
  obtain ⟨prs, rel, hl, hpr⟩ := pairs_ofC I hp
  obtain ⟨o, n, ho, hc, hd, hdat⟩ := pl
  refine call_dict_cells (prs := prs) hu (I.ok.hd hcalm) ho hc hd hdat (by simp [hl]) (by rw [hl]; exact hz) (by rw [← kc_keys rel]; exact hnd) (fun j q' e => ?_) (kc_is rel fun p hp => is_of I (hk p hp)) fun h' tk hd' k => ?_
  · obtain ⟨b, e1, e2⟩ := hpr j q' e
    exact ⟨b, by simp [e1], e2⟩
  · have hm : (s.heap.objs.size == sysModules) = false := beq_eq_false_iff_ne.mpr (Nat.ne_of_gt I.big)
    have hlen : kvs.length ≤ sizeLine := by
      have := congrArg List.length (kc_keys rel)
      rw [List.length_map, List.length_map, hl] at this
      rw [this]
      exact hz
    exact ⟨.ref s.heap.objs.size, upd H s.heap.objs.size (DCL s.heap.objs.size kvs), I.laid (t' := tk) k (Nat.le_refl _) (dcl_obj hlen hm rel hd'), rfl, q _ (I.hok.fresh (Nat.le_refl _))⟩
def valC (kvs : List (List Int × Addr × V)) (k : List Int) : Option V := (kvs.find? fun p => decide (p.1 = k)).map (·.2.2)
theorem kc_val {kvs : List (List Int × Addr × V)} {xs : List (List Int × Addr × Value)} (r : KC kvs xs) (k : List Int) : RelO (valC kvs k) ((atKey xs k).map (·.2)) := by
  induction r with
  | nil => exact True.intro
  | @cons p q ps qs h t ih =>
    obtain ⟨h1, _, h2⟩ := h
    by_cases e : p.1 = k
    · have e' : q.1 = k := h1.symm.trans e
      have b : atKey (q :: qs) k = some q.2 := by simp [atKey, List.find?_cons, e']
      have c : valC (p :: ps) k = some p.2.2 := by simp [valC, List.find?_cons, e]
      rw [c, b]; exact h2
    · have e' : ¬ q.1 = k := fun z => e (h1.trans z)
      have b : atKey (q :: qs) k = atKey qs k := by simp [atKey, List.find?_cons, e']
      have c : valC (p :: ps) k = valC ps k := by simp [valC, List.find?_cons, e]
      rw [c, b]; exact ih
def rIxC (K : PySem.W.Frag) : R2 := fun x y H Q => ∃ (a b : Addr) (kvs : List (List Int × Addr × V)) (k : List Int) (v : V), x = .ref a ∧ y = .ref b ∧ H a = some (DCL a kvs) ∧ (∀ p ∈ kvs, SqT K H p.2.1 (p.1.map V.int)) ∧ SqT K H b (k.map V.int) ∧ valC kvs k = some v ∧ Q v H
theorem pe_ixC {o i : Expr} {pos : Pos} {td ty : TE} (hu : X.A.units + 1 < cLine) (ho : PE X o td) (hi : PE X i ty) (hs : NoSl i) : PE X (.Subscript o i pos) (tOp (rIxC X.K) td ty) := by
  refine ⟨fun pins s σ H Q I h => ?_⟩
  refine subD_of PySem.F.slot_dict_getitem.lookup hs (thn (ho.run pins s σ H _ I h) fun u s1 ⟨x, H1, I1, rx, q1⟩ => thn (hi.run pins s1 σ H1 _ I1 q1) fun iv s2 ⟨y, H2, I2, ry, q2⟩ => ?_)
  obtain ⟨a, b, kvs, k, v, ex, ey, e, hk, hb, hv, q2⟩ := q2
  subst ex ey
  obtain rfl : u = Value.ref a := rx
  obtain rfl : iv = Value.ref b := ry
  obtain ⟨z, hd, xs, rel, dd⟩ := dcl_of I2 e hk
  obtain ⟨w', hw, rw'⟩ := RelO.some_of (v := v) (o := (atKey xs k).map (·.2)) (by rw [← hv]; exact kc_val rel k)
  obtain ⟨p, hp, hp2⟩ := Option.map_eq_some_iff.mp hw
  refine ⟨dd.typeIs, ?_⟩
  refine wpAny_getItem_heap (tupleKind_room_in1 hu) (is_of I2 hb) dd hp ?_
  rw [hp2]
  exact ⟨v, H2, I2.tok _, rw', q2⟩
end
section
variable {I : Type} {X : I → Cx} {P : Program} {w : World} {K : PySem.W.Frag} {mg : Str → Option Value} {base : Heap} {k : Nat}
def pairsD : List D → Option (List (List Int × D))
  | [] => some []
  | .tup [.tup ks, d] :: r => (match intsOf ks, pairsD r with
    | some k, some kvs => some ((k, d) :: kvs)
    | _, _ => none)
  | _ => none
theorem pairs_rep {W : Wd} {M : Mh} (w : W.Ok K M) : ∀ (xs : List D) (us : List V) (kvs : List (List Int × D)), RepL K W.B W.ι us xs → pairsD xs = some kvs →
    ∃ (ps : List Addr) (kv : List (List Int × Addr × V)), us = ps.map V.ref ∧ Paired (fun p (kv : List Int × Addr × V) => SqT K W.H p [.ref kv.2.1, kv.2.2]) ps kv ∧ (∀ p ∈ kv, SqT K W.H p.2.1 (p.1.map V.int)) ∧ RepC K W.B W.ι kv kvs ∧ kv.map (·.1) = kvs.map (·.1)
  | [], us, kvs, r, e => by
    cases r
    cases e
    exact ⟨[], [], rfl, .nil, fun p hp => (List.not_mem_nil hp).elim, .nil, rfl⟩
  | x :: xs, us, kvs, r, e => by
    unfold pairsD at e
    split at e
    · cases ‹(_ : List D) = []›
    · rename_i ks d r0 eq
      cases eq
      split at e
      · rename_i k kvs' h1 h2
        cases e
        cases r with
        | cons r1 r2 =>
          obtain ⟨ps, kv, rfl, a1, a2, a3, a4⟩ := pairs_rep w _ _ _ r2 h2
          cases r1 with
          | tup s1 q1 =>
            rename_i a vs
            cases q1 with
            | cons t1 t2 =>
              cases t2 with
              | cons t3 t4 =>
                cases t4
                cases t1 with
                | tup s2 q2 =>
                  rename_i v3 b ws
                  have hi := rep_ints q2 h1
                  subst hi
                  refine ⟨a :: ps, (k, b, v3) :: kv, rfl, .cons (sqT_mono w.sub s1) a1, fun p hp => ?_, .cons s2 t3 a3, by rw [List.map_cons, List.map_cons, a4]⟩
                  rcases List.mem_cons.mp hp with rfl | hp
                  · exact sqT_mono w.sub s2
                  · exact a2 p hp
      · cases e
    · cases e
def gDictC : GL := fun ds M => match ds with
  | [d] => (match lstOf M d with
    | some xs => (match pairsD xs with
      | some kvs => if (kvs.map (·.1)).Nodup then some (.ref M.length, M ++ [.dct kvs]) else none
      | none => none)
    | none => none)
  | _ => none
theorem new_dct {W : Wd} {M : Mh} {p : Addr} {vs : List (List Int × Addr × V)} {ds : List (List Int × D)} (w : W.Ok K M) (hp : W.H p = none) (r : RepC K W.B W.ι vs ds) :
    W.Le (W.new p (DCL p vs)) ∧ (W.new p (DCL p vs)).Ok K (M ++ [.dct ds]) ∧ Rep K (W.new p (DCL p vs)).B (W.new p (DCL p vs)).ι (.ref p) (.ref M.length) :=
  ⟨Wd.new_le, Wd.new_ok w hp (.dct r), .ref (by
    show (W.ι ++ [p])[M.length]? = some p
    rw [← w.len]
    simp)⟩
theorem cDictC (c : Ctx X P w K mg base k) : CalF X K (.type "dict") gDictC := ⟨rDictC K, fun i => by
  have h := cr_dictC (X := X i) (c.calm i) (by have := (c.room i).un; omega)
  rw [c.K i] at h
  exact h, fun W M vs ds z M' Q w r e q => by
  unfold gDictC at e
  split at e
  · split at e
    · rename_i xs h1
      split at e
      · rename_i kvs h2
        split at e
        · rename_i hn
          cases e
          cases r with
          | cons r1 r2 =>
            cases r2
            obtain ⟨a, us, rfl, s1, q1⟩ := lstOf_rep w r1 h1
            obtain ⟨ps, kv, rfl, a1, a2, a3, a4⟩ := pairs_rep w _ _ _ q1 h2
            refine ⟨a, ps, kv, rfl, s1, a1, a2, by rw [a4]; exact hn, fun p hp => ?_⟩
            obtain ⟨l2, w2, r3⟩ := new_dct w hp a3
            exact q _ _ l2 w2 r3
        · cases e
      · cases e
    · cases e
  · cases e⟩
def valD (kvs : List (List Int × D)) (k : List Int) : Option D := (kvs.find? fun p => decide (p.1 = k)).map (·.2)
def gIxC : O2 := fun a b M => match a, b with
  | .ref n, .tup ks => (match M[n]?, intsOf ks with
    | some (.dct kvs), some k => (valD kvs k).map fun d => (d, M)
    | _, _ => none)
  | _, _ => none
theorem repC_val {B : Hp} {ι : List Addr} {k : List Int} {d : D} : ∀ {vs : List (List Int × Addr × V)} {ds : List (List Int × D)}, RepC K B ι vs ds → valD ds k = some d → ∃ v, valC vs k = some v ∧ Rep K B ι v d
  | _, _, .nil, e => by simp [valD] at e
  | _, _, .cons (k := k0) (b := b0) (v := v0) (d := d0) (vs := vs) (ds := ds) s g r, e => by
    by_cases q : k0 = k
    · simp [valD, List.find?_cons, q] at e
      subst e
      exact ⟨_, by simp [valC, List.find?_cons, q], g⟩
    · have e' : valD ds k = some d := by simpa [valD, List.find?_cons, q] using e
      obtain ⟨v, h1, h2⟩ := repC_val r e'
      exact ⟨v, by simpa [valC, List.find?_cons, q] using h1, h2⟩
theorem repC_keys {B : Hp} {ι : List Addr} : ∀ {vs : List (List Int × Addr × V)} {ds : List (List Int × D)}, RepC K B ι vs ds → ∀ p ∈ vs, SqT K B p.2.1 (p.1.map V.int)
  | _, _, .nil => fun p hp => (List.not_mem_nil hp).elim
  | _, _, .cons s g r => fun p hp => by
    rcases List.mem_cons.mp hp with rfl | hp
    · exact s
    · exact repC_keys r p hp
theorem dct_live {W : Wd} {M : Mh} {n : Nat} {x : V} {kvs : List (List Int × D)} (w : W.Ok K M) (r : Rep K W.B W.ι x (.ref n)) (h : M[n]? = some (.dct kvs)) : ∃ a vs, x = .ref a ∧ W.H a = some (DCL a vs) ∧ RepC K W.B W.ι vs kvs := by
  cases r with
  | ref hi =>
    obtain ⟨_, _, o, ho, ro⟩ := w.live n _ _ ⟨hi, h, fun z => nomatch z⟩
    cases ro with
    | dct rc => exact ⟨_, _, rfl, ho, rc⟩
theorem od_ixC : OD K (rIxC K) gIxC := fun W M x y a b z M' Q w ra rb e q => by
  unfold gIxC at e
  split at e
  · rename_i n ks
    split at e
    · rename_i kvs k h1 h2
      cases h : valD kvs k with
      | none =>
        rw [h] at e
        cases e
      | some d =>
        rw [h] at e
        cases e
        obtain ⟨p, vs, rfl, hp, rc⟩ := dct_live w ra h1
        obtain ⟨v, hv, rv⟩ := repC_val rc h
        cases rb with
        | tup s1 q1 =>
          have := rep_ints q1 h2
          subst this
          exact ⟨p, _, vs, k, v, rfl, rfl, hp, fun p hp => sqT_mono w.sub (repC_keys rc p hp), sqT_mono w.sub s1, hv, q v W (.refl W) w rv⟩
    · cases e
  · cases e
theorem DE.ixC (c : Ctx X P w K mg base k) {a b : Expr} {pos} {f g : EF} (ha : DE X K a f) (hb : DE X K b g) (hs : NoSl b := by exact fun _ _ => rfl) : DE X K (.Subscript a b pos) (eOp gIxC f g) := by
  obtain ⟨ta, pa, ra⟩ := ha.go
  obtain ⟨tb, pb, rb⟩ := hb.go
  refine ⟨tOp (rIxC K) ta tb, fun i => ?_, er_op od_ixC ra rb⟩
  have h := pe_ixC (X := X i) (by have := (c.room i).un; omega) (pa i) (pb i) hs (pos := pos)
  rw [c.K i] at h
  exact h
def maxI : Int → List Int → Int
  | m, [] => m
  | m, i :: is => maxI (if i > m then i else m) is
theorem maxI_le : ∀ (is : List Int) (m : Int), m ≤ maxI m is ∧ ∀ y ∈ is, y ≤ maxI m is
  | [], m => ⟨Int.le_refl _, fun y hy => (List.not_mem_nil hy).elim⟩
  | i :: is, m => by
    obtain ⟨h1, h2⟩ := maxI_le is (if i > m then i else m)
    have h3 : m ≤ (if i > m then i else m) ∧ i ≤ (if i > m then i else m) := by split <;> omega
    refine ⟨Int.le_trans h3.1 h1, fun y hy => ?_⟩
    rcases List.mem_cons.mp hy with rfl | hy
    · exact Int.le_trans h3.2 h1
    · exact h2 y hy
theorem maxI_mem : ∀ (is : List Int) (m : Int), maxI m is ∈ m :: is
  | [], m => List.mem_cons_self
  | i :: is, m => by
    have := maxI_mem is (if i > m then i else m)
    unfold maxI
    rcases List.mem_cons.mp this with h | h
    · rw [h]
      split
      · exact List.mem_cons_of_mem _ List.mem_cons_self
      · exact List.mem_cons_self
    · exact List.mem_cons_of_mem _ (List.mem_cons_of_mem _ h)
def gMaxL : GL := fun ds M => match ds with
  | [d] => (match lstOf M d with
    | some xs => (match intsOf xs with
      | some (i :: is) => some (.int (maxI i is), M)
      | _ => none)
    | none => none)
  | _ => none
theorem cMaxL (c : Ctx X P w K mg base k) : CalF X K (.builtin "max") gMaxL := ⟨rMax K, fun i => by
  have h := cr_max (X := X i) (c.calm i)
  rw [c.K i] at h
  exact h, fun W M vs ds z M' Q w r e q => by
  unfold gMaxL at e
  split at e
  · split at e
    · rename_i xs h1
      split at e
      · rename_i i is h2
        cases e
        cases r with
        | cons r1 r2 =>
          cases r2
          obtain ⟨a, us, rfl, s1, q1⟩ := lstOf_rep w r1 h1
          have := rep_ints q1 h2
          subst this
          refine ⟨a, i :: is, rfl, s1, by simp, fun m hm hy => ?_⟩
          have e1 := maxI_le is i
          have e2 := hy _ (maxI_mem is i)
          have e3 : m ≤ maxI i is := by
            rcases List.mem_cons.mp hm with rfl | hm
            · exact e1.1
            · exact e1.2 m hm
          rw [Int.le_antisymm e3 e2]
          exact q _ W (.refl W) w (.int _)
      · cases e
    · cases e
  · cases e⟩
def eLcN (vs : List Nat) (a : AF) (g : GF) (t : TF) (f : EF) : EF := fun δ M => match a δ M with
  | some (ds, M1) => (match lcGo g t f ds (wipeD δ vs) M1 with
    | some (ys, M2) => if ys.length ≤ sizeLine then some (.ref M2.length, M2 ++ [.lst ys]) else none
    | none => none)
  | none => none
theorem lcN_er {ti : TI} {tg : TG} {tt : TT} {te : TE} {vs : List Nat} {a : AF} {g : GF} {t : TF} {f : EF} {sl : List Nat}
    (ri : ∀ (σ : St) (W : Wd) (δ : Env) (M : Mh) (ds : List D) (M' : Mh) (R : It → Hp → Prop), W.Ok K M → Slots K W σ δ → a δ M = some (ds, M') → (∀ J W', W.Le W' → W'.Ok K M' → Wk K J W' ds → R J W'.H) → ti σ W.H R)
    (rg : GR K tg g sl) (hsl : ∀ j ∈ sl, j ∈ vs) (rt : TR K tt t) (re : ER K te f) : ER K (tLc ti tg tt te vs) (eLcN vs a g t f) := fun σ W δ M d M' Q w s e q => by
  unfold eLcN at e
  split at e
  · rename_i ds M1 h1
    split at e
    · rename_i fin M2 h2
      split at e
      · rename_i hlen
        cases e
        refine ri σ W δ M ds M1 _ w s h1 fun J W1 l1 w1 wk => fun p hp => ?_
        have P0 : W1.P p = none := w1.pnone hp
        have B0 : W1.B p = none := w1.bnone hp
        refine ⟨fun i m H => ∃ (W' : Wd) (N : Mh) (acc : List V) (ac ys : List D), W'.H = H ∧ W1.Le (W'.mk' W'.H W1.P) ∧ W'.P = upd W1.P p (.lst acc) ∧ W'.Ok K N ∧ RepL K W'.B W'.ι acc ac ∧ i + m = ds.length ∧ lcGo g t f (ds.drop i) (wipeD δ vs) N = some (ys, M2) ∧ ac ++ ys = fin,
          ⟨ds.length, W1.hold p (.lst []), M1, [], [], fin, rfl, ⟨fun _ _ h => h, ⟨[], by simp [Wd.mk', Wd.hold]⟩, rfl⟩, rfl, Wd.hold_ok w1 hp, .nil, by omega, h2, rfl⟩, ?_⟩
        rintro i m H ⟨W', N, acc, ac, ys, rfl, l', hP, w', ra, em, e', ef⟩
        obtain ⟨k1, k2⟩ := wk i W' N ⟨l'.same, l'.pre⟩ w'
        cases hd : ds[i]? with
        | none =>
          have hl : ds.length ≤ i := List.getElem?_eq_none_iff.mp hd
          rw [List.drop_of_length_le hl] at e'
          cases e'
          rw [List.append_nil] at ef
          subst ef
          have u := Wd.unhold_new (o' := .lst acc) (m := .lst ac) w' hP P0 (.lst ra)
          have eH : upd W'.H p (.lst acc) = W'.H := by
            funext z
            by_cases hz : z = p
            · subst hz
              rw [upd_same]
              exact (w'.pin z (.lst acc) (by rw [hP, upd_same])).1.symm
            · rw [upd_ne hz]
          rw [eH] at u
          refine .inl ⟨k1 hd, q _ ⟨W'.H, W'.B, W'.ι ++ [p], W1.P⟩ (l1.trans ⟨l'.same, ?_, rfl⟩) u (.ref ?_)⟩
          · obtain ⟨l0, hl0⟩ := l'.pre
            exact ⟨l0 ++ [p], by rw [← List.append_assoc, ← hl0]; rfl⟩
          · have hw := w'.len
            rw [← hw]
            simp
        | some x0 =>
          obtain ⟨hgo, hy⟩ := k2 x0 hd
          have hl : i < ds.length := (List.getElem?_eq_some_iff.mp hd).1
          have hdr : ds.drop i = x0 :: ds.drop (i + 1) := by
            rw [List.drop_eq_getElem_cons hl]
            congr 1
            exact Option.some.inj ((List.getElem?_eq_getElem hl).symm.trans hd)
          rw [hdr] at e'
          unfold lcGo at e'
          refine .inr ⟨hgo, fun H2 => ∃ (W2 : Wd) (N2 : Mh) (acc2 : List V) (ac2 ys2 : List D), W2.H = H2 ∧ W1.Le (W2.mk' W2.H W1.P) ∧ W2.P = upd W1.P p (.lst acc2) ∧ W2.Ok K N2 ∧ RepL K W2.B W2.ι acc2 ac2 ∧ lcGo g t f (ds.drop (i + 1)) (wipeD δ vs) N2 = some (ys2, M2) ∧ ac2 ++ ys2 = fin,
            fun H2 ⟨W2, N2, acc2, ac2, ys2, a1, a2, a3, a4, a5, a6, a7⟩ => ⟨m - 1, by omega, W2, N2, acc2, ac2, ys2, a1, a2, a3, a4, a5, by omega, a6, a7⟩, fun x H' y => ?_⟩
          obtain ⟨W3, rfl, l3, w3, r3⟩ := hy x H' y
          have sw : Slots K W3 (L2.wipe σ vs) (wipeD δ vs) := ((((s.le l1).wipe vs).le l').cong (W' := W') rfl rfl).le l3
          have up : ∀ {W4 : Wd}, W'.Le W4 → W1.Le (W4.mk' W4.H W1.P) := fun {W4} l => l'.trans ⟨l.same, l.pre, rfl⟩
          split at e'
          · cases e'
          · rename_i δ1 h3
            refine rg x x0 _ W3 _ δ1 N _ w3 sw r3 h3 fun σ3 s3 hw => ⟨(hw vs hsl).trans ?_, ?_⟩
            · exact wipe_twice σ vs
            · split at e'
              · rename_i N1 h4
                refine rt σ3 W3 δ1 N _ N1 _ w3 s3 h4 fun W4 l4 w4 => ifT ?_
                split at e'
                · rename_i y0 N2 h5
                  split at e'
                  · rename_i ys2 N3 h6
                    cases e'
                    refine re σ3 W4 δ1 N1 y0 N2 _ w4 (s3.le l4) h5 fun v W5 l5 w5 r5 => ?_
                    have l35 : W'.Le W5 := (l3.trans l4).trans l5
                    have p5 : W5.P = upd W1.P p (.lst acc) := l35.pp.trans hP
                    have p5' : W5.P p = some (.lst acc) := by rw [p5, upd_same]
                    have ra5 := ra.le l35
                    refine ⟨acc, (w5.pin p _ p5').1, ?_, ⟨upd W5.H p (.lst (acc ++ [v])), W5.B, W5.ι, upd W5.P p (.lst (acc ++ [v]))⟩, N2, acc ++ [v], ac ++ [y0], ys2, rfl, l'.trans ⟨l35.same, l35.pre, rfl⟩, ?_, Wd.hold_put w5 p5', ra5.append (.cons r5 .nil), h6, ?_⟩
                    · have := ra.len
                      have h7 := congrArg List.length ef
                      rw [List.length_append, List.length_cons] at h7
                      omega
                    · show upd W5.P p _ = _
                      rw [p5, upd_upd]
                    · rw [List.append_assoc]
                      exact ef
                  · cases e'
                · cases e'
              · rename_i N1 h4
                refine rt σ3 W3 δ1 N _ N1 _ w3 s3 h4 fun W4 l4 w4 => ifF ?_
                have l34 : W'.Le W4 := l3.trans l4
                exact ⟨W4, N1, acc, ac, ys, rfl, up l34, l34.pp.trans hP, w4, ra.le l34, e', ef⟩
              · cases e'
      · cases e
    · cases e
  · cases e
theorem DS.setLcN (j : Nat) (c : Ctx X P w K mg base k) {y : Str} {py : Pos} {elt tg iter : Expr} {ifs : List Expr} {scope : Scope} {own : List (Str × Nat)} {pos spos} {a : AF} {g : GF} {t : TF} {f : EF} {sl : List Nat} (hN : ∀ i, (X i).N.Nodup) (hi : DI X K tg iter a) (ok : ∀ i, BlkOk (X i).N (X i).env.scope scope own)
    (hg : DG (blkF X scope) K tg g sl) (hsl : ∀ j ∈ sl, j ∈ own.map (·.2)) (ht : DTs (blkF X scope) K ifs t) (he : DE (blkF X scope) K elt f) (hs : ∀ i x, foldedSetIterable iter (X i).env x = pure x := by intro _ _; rfl)
    (hy : ∀ i, (X i).N[j]? = some y := by intro _; rfl) (hyl : ∀ i, (X i).env.scope.names.lookup y = some .local := by intro _; rfl) (hsw : ∀ i, swapsWith (.ListComp elt [⟨tg, iter, ifs, 0⟩] scope pos) (some (.Name y py)) spos.line (X i).env = pure true := by intro _; exact sw_true rfl rfl rfl (by decide +kernel)) :
    DS X K (.Assign [.Name y py] (.ListComp elt [⟨tg, iter, ifs, 0⟩] scope pos) spos) (sAs (eLcN (own.map (·.2)) a g t f) (gN j)) := by
  obtain ⟨ti, pi, ri⟩ := hi.go
  obtain ⟨tg', pg, rg⟩ := hg.go
  obtain ⟨tt, pt, rt⟩ := ht.go
  obtain ⟨te, pe, re⟩ := he.go
  refine ⟨tAsg (tLc ti tg' tt te (own.map (·.2))) (gName j), fun i => ps_setLc (c.calm i) (hN i) (hy i) (hyl i) (hsw i) (pi i) (ok i) (fun s H C cl fp => pg (i, s, H, C, cl, fp)) (fun s H C cl fp => pt (i, s, H, C, cl, fp)) (fun s H C cl fp => pe (i, s, H, C, cl, fp)) (hs i), sr_as (sl := [j]) (lcN_er ri rg hsl rt re) fun v d σ W δ δ' M Q w s r e q => ?_⟩
  cases e
  exact q _ (s.set r j) fun vs h => (wipe_set σ _ j vs).1 (h j List.mem_cons_self)
end
end Pl
namespace Law
open PySem L2 Pl
structure CT where
  BadField : Addr
  BadTools : Addr
  OutOfPlace : Addr
  BadSketch : Addr
  BadRow : Addr
  BadOutline : Addr
  BadBlock : Addr
  BadFeature : Addr
  BadWay : Addr
  Clash : Addr
  BadPaper : Addr
  Twice : Addr
  NoPoint : Addr
  TooGreat : Addr
  NoFeature : Addr
  NoSaying : Addr
  NoToolThere : Addr
  Nothing : Addr
  Lowered : Addr
  Lifted : Addr
  Blocked : Addr
  Beyond : Addr
  WorksError : Addr
  TooDeep : Addr
  MissError : Addr
  FaultError : Addr
  NoTool : Addr
  P_law_stocks_refused : Addr
  P_law_order_right : Addr
  P_law : Addr
  isa : Addr → Value → Option Bool
  okf : Addr → Str → Bool
  okg : Addr → Str → Bool
def isal (ct : CT) : List Value := [.ref ct.BadRow, .ref ct.BadSketch, .ref ct.BadBlock, .ref ct.BadOutline, .ref ct.BadFeature, .ref ct.BadField, .ref ct.BadTools, .ref ct.BadWay, .ref ct.BadPaper, .ref ct.Clash, .ref ct.Twice, .ref ct.OutOfPlace, .ref ct.TooGreat, .ref ct.NoPoint, .ref ct.NoSaying, .ref ct.NoFeature, .ref ct.Nothing, .ref ct.NoToolThere, .ref ct.Lifted, .ref ct.Lowered, .ref ct.Beyond, .ref ct.Blocked, .ref ct.TooDeep, .ref ct.WorksError, .type "ValueError", .ref ct.MissError, .type "LookupError", .ref ct.FaultError, .type "RuntimeError", .ref ct.NoTool]
structure Isa (ct : CT) : Prop where
  l_BadField : (isal ct).map (ct.isa ct.BadField) = [some false, some false, some false, some false, some false, some true, some false, some false, some false, some false, some false, some false, some false, some false, some false, some false, some false, some false, some false, some false, some false, some false, some false, some true, some true, some false, some false, some false, some false, some false]
  l_BadTools : (isal ct).map (ct.isa ct.BadTools) = [some false, some false, some false, some false, some false, some false, some true, some false, some false, some false, some false, some false, some false, some false, some false, some false, some false, some false, some false, some false, some false, some false, some false, some true, some true, some false, some false, some false, some false, some false]
  l_OutOfPlace : (isal ct).map (ct.isa ct.OutOfPlace) = [some false, some false, some false, some false, some false, some false, some false, some false, some false, some false, some false, some true, some false, some false, some false, some false, some false, some false, some false, some false, some false, some false, some false, some true, some true, some false, some false, some false, some false, some false]
  f_BadField_place : ct.okf ct.BadField "place" = true
  g_BadField_place : ct.okg ct.BadField "place" = true
  f_BadTools_number : ct.okf ct.BadTools "number" = true
  g_BadTools_number : ct.okg ct.BadTools "number" = true
def nn_is_whole : List Str := ["thing"]
noncomputable def gg_is_whole : SF := (sRet (eAn (eB gIsi (aCons (eVar 0) (aCons (eC (.ty "int")) aNil))) (eNt (eB gIsi (aCons (eVar 0) (aCons (eC (.ty "bool")) aNil))))))
noncomputable def ff_is_whole : Fn := fnF 1 gg_is_whole
def nn_is_among : List Str := ["thing", "least", "most"]
noncomputable def gg_is_among : SF := (sSeq (sIf (tOrr (tNt (tV (eCall ff_is_whole (aCons (eVar 0) aNil) []))) (tOrr (tNt (tV (eCall ff_is_whole (aCons (eVar 1) aNil) []))) (tNt (tV (eCall ff_is_whole (aCons (eVar 2) aNil) []))))) (sRet (eC (.bl false))) sNil) (sRet (eChain (gInt fun i j => .bl (decide (i ≤ j))) (gInt fun i j => .bl (decide (i ≤ j))) (eVar 1) (eVar 0) (eVar 2))))
noncomputable def ff_is_among : Fn := fnF 3 gg_is_among
def nn_BadField_init : List Str := ["self", "place"]
noncomputable def gg_BadField_init (ct : CT) : SF := (sOg ct.okf "place" (eVar 0) (eVar 1))
noncomputable def ff_BadField_init (ct : CT) : Fn := fnF 2 (gg_BadField_init ct)
def nn_need_field : List Str := ["field", "high", "rows", "number", "row", "height"]
noncomputable def gg_need_field (ct : CT) : SF := (sSeq (sIf (tOrr (tNt (tV (eB gIsi (aCons (eVar 0) (aCons (eC (.ty "tuple")) aNil))))) (tV (eOp (gEq fun p q => !PyData.eqv p q) (eB gLen (aCons (eVar 0) aNil)) (eC (.int 2))))) sNever sNil) (sSeq (sAs (eVar 0) (gTp (gsCons (gN 1) (gsCons (gN 2) gsNil)))) (sSeq (sIf (tNt (tV (eCall ff_is_among (aCons (eVar 1) (aCons (eC (.int 1)) (aCons (eC (.int 6)) aNil))) []))) sNever sNil) (sSeq (sIf (tOrr (tNt (tV (eB gIsi (aCons (eVar 2) (aCons (eC (.ty "tuple")) aNil))))) (tNt (tV (eChain (gInt fun i j => .bl (decide (i ≤ j))) (gInt fun i j => .bl (decide (i ≤ j))) (eC (.int 1)) (eB gLen (aCons (eVar 2) aNil)) (eC (.int 8)))))) sNever sNil) (sFor (aEnumT (aCons (eVar 2) aNil)) (gTp (gsCons (gN 3) (gsCons (gN 4) gsNil))) (sSeq (sIf (tOrr (tNt (tV (eB gIsi (aCons (eVar 4) (aCons (eC (.ty "tuple")) aNil))))) (tOrr (tNt (tV (eChain (gInt fun i j => .bl (decide (i ≤ j))) (gInt fun i j => .bl (decide (i ≤ j))) (eC (.int 1)) (eB gLen (aCons (eVar 4) aNil)) (eC (.int 8))))) (tV (eOp (gEq fun p q => !PyData.eqv p q) (eB gLen (aCons (eVar 4) aNil)) (eB gLen (aCons (eOp gIx (eVar 2) (eC (.int 0))) aNil)))))) sNever sNil) (sIf (tNt (tV (eB (gBs fun bs => bs.all id) (aCons (eLc [5] (aItems (eVar 4)) (gN 5) tTrue (eCall ff_is_among (aCons (eVar 5) (aCons (eC (.int 0)) (aCons (eVar 1) aNil))) [])) aNil)))) sNever sNil)))))))
noncomputable def ff_need_field (ct : CT) : Fn := fnF 6 (gg_need_field ct)
noncomputable def qg_need_field (ct : CT) : XFQ := (qSeq (qIf (tOrr (tNt (tV (eB gIsi (aCons (eVar 0) (aCons (eC (.ty "tuple")) aNil))))) (tV (eOp (gEq fun p q => !PyData.eqv p q) (eB gLen (aCons (eVar 0) aNil)) (eC (.int 2))))) (qRaise ct.BadField "BadField" (ff_BadField_init ct) (aCons (eC .non) aNil) []) (qOk sNil)) (qSeq (qOk (sAs (eVar 0) (gTp (gsCons (gN 1) (gsCons (gN 2) gsNil))))) (qSeq (qIf (tNt (tV (eCall ff_is_among (aCons (eVar 1) (aCons (eC (.int 1)) (aCons (eC (.int 6)) aNil))) []))) (qRaise ct.BadField "BadField" (ff_BadField_init ct) (aCons (eC (.str "high")) aNil) []) (qOk sNil)) (qSeq (qIf (tOrr (tNt (tV (eB gIsi (aCons (eVar 2) (aCons (eC (.ty "tuple")) aNil))))) (tNt (tV (eChain (gInt fun i j => .bl (decide (i ≤ j))) (gInt fun i j => .bl (decide (i ≤ j))) (eC (.int 1)) (eB gLen (aCons (eVar 2) aNil)) (eC (.int 8)))))) (qRaise ct.BadField "BadField" (ff_BadField_init ct) (aCons (eC (.str "rows")) aNil) []) (qOk sNil)) (qFor (aEnumT (aCons (eVar 2) aNil)) (gTp (gsCons (gN 3) (gsCons (gN 4) gsNil))) (qSeq (qIf (tOrr (tNt (tV (eB gIsi (aCons (eVar 4) (aCons (eC (.ty "tuple")) aNil))))) (tOrr (tNt (tV (eChain (gInt fun i j => .bl (decide (i ≤ j))) (gInt fun i j => .bl (decide (i ≤ j))) (eC (.int 1)) (eB gLen (aCons (eVar 4) aNil)) (eC (.int 8))))) (tV (eOp (gEq fun p q => !PyData.eqv p q) (eB gLen (aCons (eVar 4) aNil)) (eB gLen (aCons (eOp gIx (eVar 2) (eC (.int 0))) aNil)))))) (qRaise ct.BadField "BadField" (ff_BadField_init ct) (aCons (eVar 3) aNil) []) (qOk sNil)) (qIf (tNt (tV (eB (gBs fun bs => bs.all id) (aCons (eLc [5] (aItems (eVar 4)) (gN 5) tTrue (eCall ff_is_among (aCons (eVar 5) (aCons (eC (.int 0)) (aCons (eVar 1) aNil))) [])) aNil)))) (qRaise ct.BadField "BadField" (ff_BadField_init ct) (aCons (eVar 3) aNil) []) (qOk sNil))))))))
noncomputable def qq_need_field (ct : CT) : FnQ := fnQ 6 (qg_need_field ct)
def nn_plain_sides : List Str := ["field"]
noncomputable def gg_plain_sides : SF := (sRet (eTup (aCons (eB gLen (aCons (eOp gIx (eOp gIx (eVar 0) (eC (.int 1))) (eC (.int 0))) aNil)) (aCons (eB gLen (aCons (eOp gIx (eVar 0) (eC (.int 1))) aNil)) aNil))))
noncomputable def ff_plain_sides : Fn := fnF 1 gg_plain_sides
def nn_height_of : List Str := ["field", "cell", "i", "j"]
noncomputable def gg_height_of : SF := (sSeq (sAs (eVar 1) (gTp (gsCons (gN 2) (gsCons (gN 3) gsNil)))) (sRet (eOp gIx (eOp gIx (eOp gIx (eVar 0) (eC (.int 1))) (eVar 3)) (eVar 2))))
noncomputable def ff_height_of : Fn := fnF 4 gg_height_of
def nn_need_stock : List Str := ["field", "stock"]
noncomputable def gg_need_stock (ct : CT) : SF := (sSeq (sE (eCall (ff_need_field ct) (aCons (eVar 0) aNil) [])) (sSeq (sE (eCall (ff_need_field ct) (aCons (eVar 1) aNil) [])) (sSeq (sIf (tV (eOp (gEq fun p q => !PyData.eqv p q) (eOp gIx (eVar 1) (eC (.int 0))) (eOp gIx (eVar 0) (eC (.int 0))))) sNever sNil) (sIf (tV (eOp (gEq fun p q => !PyData.eqv p q) (eCall ff_plain_sides (aCons (eVar 1) aNil) []) (eCall ff_plain_sides (aCons (eVar 0) aNil) []))) sNever sNil))))
noncomputable def ff_need_stock (ct : CT) : Fn := fnF 2 (gg_need_stock ct)
noncomputable def qg_need_stock (ct : CT) : XFQ := (qSeq (qE (qCall (qq_need_field ct) (aCons (eVar 0) aNil) [])) (qSeq (qE (qCall (qq_need_field ct) (aCons (eVar 1) aNil) [])) (qSeq (qIf (tV (eOp (gEq fun p q => !PyData.eqv p q) (eOp gIx (eVar 1) (eC (.int 0))) (eOp gIx (eVar 0) (eC (.int 0))))) (qRaise ct.BadField "BadField" (ff_BadField_init ct) (aCons (eC (.str "high")) aNil) []) (qOk sNil)) (qIf (tV (eOp (gEq fun p q => !PyData.eqv p q) (eCall ff_plain_sides (aCons (eVar 1) aNil) []) (eCall ff_plain_sides (aCons (eVar 0) aNil) []))) (qRaise ct.BadField "BadField" (ff_BadField_init ct) (aCons (eC (.str "rows")) aNil) []) (qOk sNil)))))
noncomputable def qq_need_stock (ct : CT) : FnQ := fnQ 2 (qg_need_stock ct)
def nn_is_tool : List Str := ["thing"]
noncomputable def gg_is_tool : SF := (sSeq (sIf (tOrr (tNt (tV (eB gIsi (aCons (eVar 0) (aCons (eC (.ty "tuple")) aNil))))) (tV (eOp (gEq fun p q => !PyData.eqv p q) (eB gLen (aCons (eVar 0) aNil)) (eC (.int 2))))) (sRet (eC (.bl false))) sNil) (sRet (eAn (eCall ff_is_among (aCons (eOp gIx (eVar 0) (eC (.int 0))) (aCons (eC (.int 1)) (aCons (eC (.int 4)) aNil))) []) (eCall ff_is_among (aCons (eOp gIx (eVar 0) (eC (.int 1))) (aCons (eC (.int 1)) (aCons (eC (.int 6)) aNil))) []))))
noncomputable def ff_is_tool : Fn := fnF 1 gg_is_tool
def nn_BadTools_init : List Str := ["self", "number"]
noncomputable def gg_BadTools_init (ct : CT) : SF := (sOg ct.okf "number" (eVar 0) (eVar 1))
noncomputable def ff_BadTools_init (ct : CT) : Fn := fnF 2 (gg_BadTools_init ct)
def nn_need_tool : List Str := ["tool"]
noncomputable def gg_need_tool (ct : CT) : SF := (sIf (tNt (tV (eCall ff_is_tool (aCons (eVar 0) aNil) []))) sNever sNil)
noncomputable def ff_need_tool (ct : CT) : Fn := fnF 1 (gg_need_tool ct)
noncomputable def qg_need_tool (ct : CT) : XFQ := (qIf (tNt (tV (eCall ff_is_tool (aCons (eVar 0) aNil) []))) (qRaise ct.BadTools "BadTools" (ff_BadTools_init ct) (aCons (eC .non) aNil) []) (qOk sNil))
noncomputable def qq_need_tool (ct : CT) : FnQ := fnQ 1 (qg_need_tool ct)
def nn_is_place_of : List Str := ["sides", "tool", "thing", "at", "many"]
noncomputable def gg_is_place_of : SF := (sSeq (sIf (tOrr (tNt (tV (eB gIsi (aCons (eVar 2) (aCons (eC (.ty "tuple")) aNil))))) (tV (eOp (gEq fun p q => !PyData.eqv p q) (eB gLen (aCons (eVar 2) aNil)) (eC (.int 2))))) (sRet (eC (.bl false))) sNil) (sRet (eB (gBs fun bs => bs.all id) (aCons (eLc [3, 4] (aZip (aCons (eVar 2) (aCons (eVar 0) aNil))) (gTp (gsCons (gN 3) (gsCons (gN 4) gsNil))) tTrue (eCall ff_is_among (aCons (eVar 3) (aCons (eOp (gInt fun i j => .int (i - j)) (eC (.int 1)) (eOp gIx (eVar 1) (eC (.int 0)))) (aCons (eOp (gInt fun i j => .int (i - j)) (eVar 4) (eC (.int 1))) aNil))) [])) aNil))))
noncomputable def ff_is_place_of : Fn := fnF 5 gg_is_place_of
def nn_need_place : List Str := ["sides", "tool", "place"]
noncomputable def gg_need_place (ct : CT) : SF := (sIf (tNt (tV (eCall ff_is_place_of (aCons (eVar 0) (aCons (eVar 1) (aCons (eVar 2) aNil))) []))) sNever sNil)
noncomputable def ff_need_place (ct : CT) : Fn := fnF 3 (gg_need_place ct)
noncomputable def qg_need_place (ct : CT) : XFQ := (qIf (tNt (tV (eCall ff_is_place_of (aCons (eVar 0) (aCons (eVar 1) (aCons (eVar 2) aNil))) []))) (qRaiseP "OutOfPlace") (qOk sNil))
noncomputable def qq_need_place (ct : CT) : FnQ := fnQ 3 (qg_need_place ct)
def nn_need_seat : List Str := ["field", "tool", "place"]
noncomputable def gg_need_seat (ct : CT) : SF := (sSeq (sE (eCall (ff_need_field ct) (aCons (eVar 0) aNil) [])) (sSeq (sE (eCall (ff_need_tool ct) (aCons (eVar 1) aNil) [])) (sE (eCall (ff_need_place ct) (aCons (eCall ff_plain_sides (aCons (eVar 0) aNil) []) (aCons (eVar 1) (aCons (eVar 2) aNil))) []))))
noncomputable def ff_need_seat (ct : CT) : Fn := fnF 3 (gg_need_seat ct)
noncomputable def qg_need_seat (ct : CT) : XFQ := (qSeq (qE (qCall (qq_need_field ct) (aCons (eVar 0) aNil) [])) (qSeq (qE (qCall (qq_need_tool ct) (aCons (eVar 1) aNil) [])) (qE (qCall (qq_need_place ct) (aCons (eCall ff_plain_sides (aCons (eVar 0) aNil) []) (aCons (eVar 1) (aCons (eVar 2) aNil))) []))))
noncomputable def qq_need_seat (ct : CT) : FnQ := fnQ 3 (qg_need_seat ct)
def nn_need_height : List Str := ["field", "height"]
noncomputable def gg_need_height (ct : CT) : SF := (sIf (tNt (tV (eCall ff_is_among (aCons (eVar 1) (aCons (eC (.int 0)) (aCons (eOp gIx (eVar 0) (eC (.int 0))) aNil))) []))) sNever sNil)
noncomputable def ff_need_height (ct : CT) : Fn := fnF 2 (gg_need_height ct)
noncomputable def qg_need_height (ct : CT) : XFQ := (qIf (tNt (tV (eCall ff_is_among (aCons (eVar 1) (aCons (eC (.int 0)) (aCons (eOp gIx (eVar 0) (eC (.int 0))) aNil))) []))) (qRaiseP "OutOfPlace") (qOk sNil))
noncomputable def qq_need_height (ct : CT) : FnQ := fnQ 2 (qg_need_height ct)
def nn_cells_between : List Str := ["sides", "first", "last", "left", "low", "right", "top", "wide", "long", "i", "j"]
noncomputable def gg_cells_between : SF := (sSeq (sAs (eTup (aCons (eVar 1) (aCons (eVar 2) aNil))) (gTp (gsCons (gTp (gsCons (gN 3) (gsCons (gN 4) gsNil))) (gsCons (gTp (gsCons (gN 5) (gsCons (gN 6) gsNil))) gsNil)))) (sSeq (sAs (eVar 0) (gTp (gsCons (gN 7) (gsCons (gN 8) gsNil)))) (sRet (eLc2 [9, 10] [10] (aRng2 (aCons (eB (gL2 fun i j => .int (if j > i then j else i)) (aCons (eVar 3) (aCons (eC (.int 0)) aNil))) (aCons (eB (gL2 fun i j => .int (if j < i then j else i)) (aCons (eVar 5) (aCons (eVar 7) aNil))) aNil))) (gN 9) tTrue (aRng2 (aCons (eB (gL2 fun i j => .int (if j > i then j else i)) (aCons (eVar 4) (aCons (eC (.int 0)) aNil))) (aCons (eB (gL2 fun i j => .int (if j < i then j else i)) (aCons (eVar 6) (aCons (eVar 8) aNil))) aNil))) (gN 10) tTrue (eTup (aCons (eVar 9) (aCons (eVar 10) aNil)))))))
noncomputable def ff_cells_between : Fn := fnF 11 gg_cells_between
def nn_plain_under : List Str := ["sides", "tool", "place", "i", "j"]
noncomputable def gg_plain_under : SF := (sSeq (sAs (eVar 2) (gTp (gsCons (gN 3) (gsCons (gN 4) gsNil)))) (sRet (eB gTupOf (aCons (eCall ff_cells_between (aCons (eVar 0) (aCons (eVar 2) (aCons (eTup (aCons (eOp gAdd (eVar 3) (eOp gIx (eVar 1) (eC (.int 0)))) (aCons (eOp gAdd (eVar 4) (eOp gIx (eVar 1) (eC (.int 0)))) aNil))) aNil))) []) aNil))))
noncomputable def ff_plain_under : Fn := fnF 5 gg_plain_under
def nn_plain_ring : List Str := ["sides", "tool", "place", "i", "j", "under", "around", "cell"]
noncomputable def gg_plain_ring : SF := (sSeq (sAs (eVar 2) (gTp (gsCons (gN 3) (gsCons (gN 4) gsNil)))) (sSeq (sAs (eCall ff_plain_under (aCons (eVar 0) (aCons (eVar 1) (aCons (eVar 2) aNil))) []) (gN 5)) (sSeq (sAs (eCall ff_cells_between (aCons (eVar 0) (aCons (eTup (aCons (eOp (gInt fun i j => .int (i - j)) (eVar 3) (eC (.int 1))) (aCons (eOp (gInt fun i j => .int (i - j)) (eVar 4) (eC (.int 1))) aNil))) (aCons (eTup (aCons (eOp gAdd (eOp gAdd (eVar 3) (eOp gIx (eVar 1) (eC (.int 0)))) (eC (.int 1))) (aCons (eOp gAdd (eOp gAdd (eVar 4) (eOp gIx (eVar 1) (eC (.int 0)))) (eC (.int 1))) aNil))) aNil))) []) (gN 6)) (sRet (eB gTupOf (aCons (eLc [7] (aItems (eVar 6)) (gN 7) (tV (eOp (gIn fun b => !b) (eVar 7) (eVar 5))) (eVar 7)) aNil))))))
noncomputable def ff_plain_ring : Fn := fnF 8 gg_plain_ring
def nn_first_of_ring : List Str := ["stock", "tool", "place", "height", "cell"]
noncomputable def gg_first_of_ring : SF := (sSeq (sFor (aItems (eCall ff_plain_ring (aCons (eCall ff_plain_sides (aCons (eVar 0) aNil) []) (aCons (eVar 1) (aCons (eVar 2) aNil))) [])) (gN 4) (sIf (tV (eOp (gInt fun i j => .bl (decide (j < i))) (eCall ff_height_of (aCons (eVar 0) (aCons (eVar 4) aNil)) []) (eOp gAdd (eVar 3) (eOp gIx (eVar 1) (eC (.int 1)))))) (sRet (eVar 4)) sNil)) (sRet (eC .non)))
noncomputable def ff_first_of_ring : Fn := fnF 5 gg_first_of_ring
def nn_first_in_way : List Str := ["field", "stock", "tool", "place", "height", "sides", "cell"]
noncomputable def gg_first_in_way : SF := (sSeq (sAs (eCall ff_plain_sides (aCons (eVar 0) aNil) []) (gN 5)) (sSeq (sFor (aItems (eCall ff_plain_under (aCons (eVar 5) (aCons (eVar 2) (aCons (eVar 3) aNil))) [])) (gN 6) (sIf (tV (eOp (gInt fun i j => .bl (decide (j < i))) (eCall ff_height_of (aCons (eVar 0) (aCons (eVar 6) aNil)) []) (eVar 4))) (sRet (eVar 6)) sNil)) (sRet (eCall ff_first_of_ring (aCons (eVar 1) (aCons (eVar 2) (aCons (eVar 3) (aCons (eVar 4) aNil)))) []))))
noncomputable def ff_first_in_way : Fn := fnF 7 gg_first_in_way
def nn_may_stand : List Str := ["field", "stock", "tool", "place", "height"]
noncomputable def gg_may_stand (ct : CT) : SF := (sSeq (sE (eCall (ff_need_stock ct) (aCons (eVar 0) (aCons (eVar 1) aNil)) [])) (sSeq (sE (eCall (ff_need_seat ct) (aCons (eVar 0) (aCons (eVar 2) (aCons (eVar 3) aNil))) [])) (sSeq (sE (eCall (ff_need_height ct) (aCons (eVar 0) (aCons (eVar 4) aNil)) [])) (sRet (eOp (gIsN fun b => b) (eCall ff_first_in_way (aCons (eVar 0) (aCons (eVar 1) (aCons (eVar 2) (aCons (eVar 3) (aCons (eVar 4) aNil))))) []) (eC .non))))))
noncomputable def ff_may_stand (ct : CT) : Fn := fnF 5 (gg_may_stand ct)
noncomputable def qg_may_stand (ct : CT) : XFQ := (qSeq (qE (qCall (qq_need_stock ct) (aCons (eVar 0) (aCons (eVar 1) aNil)) [])) (qSeq (qE (qCall (qq_need_seat ct) (aCons (eVar 0) (aCons (eVar 2) (aCons (eVar 3) aNil))) [])) (qSeq (qE (qCall (qq_need_height ct) (aCons (eVar 0) (aCons (eVar 4) aNil)) [])) (qOk (sRet (eOp (gIsN fun b => b) (eCall ff_first_in_way (aCons (eVar 0) (aCons (eVar 1) (aCons (eVar 2) (aCons (eVar 3) (aCons (eVar 4) aNil))))) []) (eC .non)))))))
noncomputable def qq_may_stand (ct : CT) : FnQ := fnQ 5 (qg_may_stand ct)
def nn_lowest : List Str := ["field", "stock", "tool", "place", "sides", "targets", "cell", "around"]
noncomputable def gg_lowest (ct : CT) : SF := (sSeq (sE (eCall (ff_need_stock ct) (aCons (eVar 0) (aCons (eVar 1) aNil)) [])) (sSeq (sE (eCall (ff_need_seat ct) (aCons (eVar 0) (aCons (eVar 2) (aCons (eVar 3) aNil))) [])) (sSeq (sAs (eCall ff_plain_sides (aCons (eVar 0) aNil) []) (gN 4)) (sSeq (sAs (eLc [6] (aItems (eCall ff_plain_under (aCons (eVar 4) (aCons (eVar 2) (aCons (eVar 3) aNil))) [])) (gN 6) tTrue (eCall ff_height_of (aCons (eVar 0) (aCons (eVar 6) aNil)) [])) (gN 5)) (sSeq (sAs (eLc [6] (aItems (eCall ff_plain_ring (aCons (eVar 4) (aCons (eVar 2) (aCons (eVar 3) aNil))) [])) (gN 6) tTrue (eOp (gInt fun i j => .int (i - j)) (eCall ff_height_of (aCons (eVar 1) (aCons (eVar 6) aNil)) []) (eOp gIx (eVar 2) (eC (.int 1))))) (gN 7)) (sRet (eB gMaxL (aCons (eOp gAdd (eOp gAdd (eLst (aCons (eC (.int 0)) aNil)) (eVar 5)) (eVar 7)) aNil))))))))
noncomputable def ff_lowest (ct : CT) : Fn := fnF 8 (gg_lowest ct)
noncomputable def qg_lowest (ct : CT) : XFQ := (qSeq (qE (qCall (qq_need_stock ct) (aCons (eVar 0) (aCons (eVar 1) aNil)) [])) (qSeq (qE (qCall (qq_need_seat ct) (aCons (eVar 0) (aCons (eVar 2) (aCons (eVar 3) aNil))) [])) (qOk (sSeq (sAs (eCall ff_plain_sides (aCons (eVar 0) aNil) []) (gN 4)) (sSeq (sAs (eLc [6] (aItems (eCall ff_plain_under (aCons (eVar 4) (aCons (eVar 2) (aCons (eVar 3) aNil))) [])) (gN 6) tTrue (eCall ff_height_of (aCons (eVar 0) (aCons (eVar 6) aNil)) [])) (gN 5)) (sSeq (sAs (eLc [6] (aItems (eCall ff_plain_ring (aCons (eVar 4) (aCons (eVar 2) (aCons (eVar 3) aNil))) [])) (gN 6) tTrue (eOp (gInt fun i j => .int (i - j)) (eCall ff_height_of (aCons (eVar 1) (aCons (eVar 6) aNil)) []) (eOp gIx (eVar 2) (eC (.int 1))))) (gN 7)) (sRet (eB gMaxL (aCons (eOp gAdd (eOp gAdd (eLst (aCons (eC (.int 0)) aNil)) (eVar 5)) (eVar 7)) aNil)))))))))
noncomputable def qq_lowest (ct : CT) : FnQ := fnQ 8 (qg_lowest ct)
def nn_solid : List Str := ["field", "high", "_", "row"]
noncomputable def gg_solid (ct : CT) : SF := (sSeq (sE (eCall (ff_need_field ct) (aCons (eVar 0) aNil) [])) (sSeq (sAs (eOp gIx (eVar 0) (eC (.int 0))) (gN 1)) (sRet (eTup (aCons (eVar 1) (aCons (eB gTupOf (aCons (eLc [3] (aItems (eOp gIx (eVar 0) (eC (.int 1)))) (gN 3) tTrue (eB gTupOf (aCons (eLc [2] (aItems (eVar 3)) (gN 2) tTrue (eVar 1)) aNil))) aNil)) aNil))))))
noncomputable def ff_solid (ct : CT) : Fn := fnF 4 (gg_solid ct)
def nn_law_mixed : List Str := ["cell", "k", "number"]
noncomputable def gg_law_mixed : SF := (sSeq (sAs (eOp gAdd (eOp gAdd (eOp (gIntC (fun _ j => j ≠ 0) fun i j => .int (i.fmod j)) (eVar 0) (eOp gIx (eLst (aCons (eC (.int 1000000007)) (aCons (eC (.int 998244353)) (aCons (eC (.int 2147483629)) (aCons (eC (.int 1000000009)) aNil))))) (eOp (gIntC (fun _ j => j ≠ 0) fun i j => .int (i.fmod j)) (eVar 1) (eC (.int 4))))) (eOp gMul (eC (.int 7919)) (eVar 1))) (eC (.int 13))) (gN 2)) (sRet (eOp (gIntC (fun _ j => j ≠ 0) fun i j => .int (i.fmod j)) (eOp gMul (eOp (gIntC (fun _ j => j ≠ 0) fun i j => .int (i.fmod j)) (eOp gMul (eVar 2) (eVar 2)) (eC (.int 2147483647))) (eC (.int 48271))) (eC (.int 2147483647)))))
noncomputable def ff_law_mixed : Fn := fnF 3 gg_law_mixed
def nn_law_draw : List Str := ["cell", "k"]
noncomputable def gg_law_draw : SF := (sRet (eDic (psCons (eC (.str "left")) (eIf (tV (eOp (gInt fun i j => .bl (decide (j ≤ i))) (eVar 0) (eOp (gIntC PowOk fun i j => .int (i ^ j.toNat)) (eC (.int 10)) (eC (.int 18))))) (eVar 0) (eC (.int 0))) (psCons (eC (.str "cell")) (eVar 0) (psCons (eC (.str "turns")) (eOp gMul (eC (.int 1000)) (eVar 1)) psNil)))))
noncomputable def ff_law_draw : Fn := fnF 2 gg_law_draw
def nn_law_digit : List Str := ["state", "many", "j", "found"]
noncomputable def gg_law_digit : SF := (sSeq (sIf (tV (eOp (gEq PyData.eqv) (eOp gDget (eVar 0) (eC (.str "left"))) (eC (.int 0)))) (sFor (aRng1 (aCons (eC (.int 4)) aNil)) (gN 2) (sSeq (sDput (eVar 0) (eC (.str "turns")) (eOp gAdd (eOp gDget (eVar 0) (eC (.str "turns"))) (eC (.int 1)))) (sDput (eVar 0) (eC (.str "left")) (eOp gAdd (eOp gMul (eOp gDget (eVar 0) (eC (.str "left"))) (eC (.int 2147483647))) (eCall ff_law_mixed (aCons (eOp gDget (eVar 0) (eC (.str "cell"))) (aCons (eOp gDget (eVar 0) (eC (.str "turns"))) aNil)) []))))) sNil) (sSeq (sAs (eOp (gIntC (fun _ j => j ≠ 0) fun i j => .int (i.fmod j)) (eOp gDget (eVar 0) (eC (.str "left"))) (eVar 1)) (gN 3)) (sSeq (sDput (eVar 0) (eC (.str "left")) (eOp (gIntC DivOk fun i j => .int (i.fdiv j)) (eOp gDget (eVar 0) (eC (.str "left"))) (eVar 1))) (sRet (eVar 3)))))
noncomputable def ff_law_digit : Fn := fnF 4 gg_law_digit
def nn_law_a_field : List Str := ["state", "most", "wide", "long", "high", "aims", "j", "turn", "i", "height", "k", "m", "b", "a", "row"]
noncomputable def gg_law_a_field : SF := (sSeq (sAs (eTup (aCons (eOp gAdd (eC (.int 1)) (eCall ff_law_digit (aCons (eVar 0) (aCons (eVar 1) aNil)) [])) (aCons (eOp gAdd (eC (.int 1)) (eCall ff_law_digit (aCons (eVar 0) (aCons (eVar 1) aNil)) [])) (aCons (eOp gAdd (eC (.int 1)) (eCall ff_law_digit (aCons (eVar 0) (aCons (eC (.int 6)) aNil)) [])) aNil)))) (gTp (gsCons (gN 2) (gsCons (gN 3) (gsCons (gN 4) gsNil))))) (sSeq (sAs (eLc [6] (aRng1 (aCons (eVar 3) aNil)) (gN 6) tTrue (eOp gMulN (eLst (aCons (eVar 4) aNil)) (eVar 2))) (gN 5)) (sSeq (sFor (aRng1 (aCons (eCall ff_law_digit (aCons (eVar 0) (aCons (eC (.int 5)) aNil)) []) aNil)) (gN 7) (sSeq (sPar3 8 6 9 (eCall ff_law_digit (aCons (eVar 0) (aCons (eVar 2) aNil)) []) (eCall ff_law_digit (aCons (eVar 0) (aCons (eVar 3) aNil)) []) (eCall ff_law_digit (aCons (eVar 0) (aCons (eOp gAdd (eVar 4) (eC (.int 1))) aNil)) [])) (sSeq (sPar 10 11 (eOp gAdd (eOp gAdd (eVar 8) (eC (.int 1))) (eCall ff_law_digit (aCons (eVar 0) (aCons (eOp (gInt fun i j => .int (i - j)) (eVar 2) (eVar 8)) aNil)) [])) (eOp gAdd (eOp gAdd (eVar 6) (eC (.int 1))) (eCall ff_law_digit (aCons (eVar 0) (aCons (eOp (gInt fun i j => .int (i - j)) (eVar 3) (eVar 6)) aNil)) []))) (sFor (aRng2 (aCons (eVar 6) (aCons (eVar 11) aNil))) (gN 12) (sFor (aRng2 (aCons (eVar 8) (aCons (eVar 10) aNil))) (gN 13) (sLput (eOp gIx (eVar 5) (eVar 12)) (eVar 13) (eVar 9))))))) (sRet (eTup (aCons (eVar 4) (aCons (eB gTupOf (aCons (eLc [14] (aItems (eVar 5)) (gN 14) tTrue (eB gTupOf (aCons (eVar 14) aNil))) aNil)) aNil)))))))
noncomputable def ff_law_a_field : Fn := fnF 15 gg_law_a_field
def nn_law_cells : List Str := ["field", "found", "i", "j"]
noncomputable def gg_law_cells : SF := (sSeq (sAs (eNew aNil) (gN 1)) (sSeq (sFor (aRng1 (aCons (eB gLen (aCons (eOp gIx (eOp gIx (eVar 0) (eC (.int 1))) (eC (.int 0))) aNil)) aNil)) (gN 2) (sE (eMeth2 gExt (eVar 1) (aCons (eLc [3] (aRng1 (aCons (eB gLen (aCons (eOp gIx (eVar 0) (eC (.int 1))) aNil)) aNil)) (gN 3) tTrue (eTup (aCons (eVar 2) (aCons (eVar 3) aNil)))) aNil)))) (sRet (eFrz 1))))
noncomputable def ff_law_cells : Fn := fnF 4 gg_law_cells
def nn_law_spots : List Str := ["field", "side", "found", "i", "j"]
noncomputable def gg_law_spots : SF := (sSeq (sAs (eNew aNil) (gN 2)) (sSeq (sFor (aRng2 (aCons (eOp (gInt fun i j => .int (i - j)) (eC (.int 1)) (eVar 1)) (aCons (eB gLen (aCons (eOp gIx (eOp gIx (eVar 0) (eC (.int 1))) (eC (.int 0))) aNil)) aNil))) (gN 3) (sE (eMeth2 gExt (eVar 2) (aCons (eLc [4] (aRng2 (aCons (eOp (gInt fun i j => .int (i - j)) (eC (.int 1)) (eVar 1)) (aCons (eB gLen (aCons (eOp gIx (eVar 0) (eC (.int 1))) aNil)) aNil))) (gN 4) tTrue (eTup (aCons (eVar 3) (aCons (eVar 4) aNil)))) aNil)))) (sRet (eFrz 2))))
noncomputable def ff_law_spots : Fn := fnF 5 gg_law_spots
def nn_law_near : List Str := ["field", "spot", "side", "more", "i", "j", "found", "a", "b"]
noncomputable def gg_law_near : SF := (sSeq (sAs (eVar 1) (gTp (gsCons (gN 4) (gsCons (gN 5) gsNil)))) (sSeq (sAs (eNew aNil) (gN 6)) (sSeq (sFor (aItems (eCall ff_law_cells (aCons (eVar 0) aNil) [])) (gTp (gsCons (gN 7) (gsCons (gN 8) gsNil))) (sIf (tAn (tV (eChain (gInt fun i j => .bl (decide (i ≤ j))) (gInt fun i j => .bl (decide (i < j))) (eOp (gInt fun i j => .int (i - j)) (eVar 4) (eVar 3)) (eVar 7) (eOp gAdd (eOp gAdd (eVar 4) (eVar 2)) (eVar 3)))) (tV (eChain (gInt fun i j => .bl (decide (i ≤ j))) (gInt fun i j => .bl (decide (i < j))) (eOp (gInt fun i j => .int (i - j)) (eVar 5) (eVar 3)) (eVar 8) (eOp gAdd (eOp gAdd (eVar 5) (eVar 2)) (eVar 3))))) (sE (eMeth2 gApp (eVar 6) (aCons (eTup (aCons (eVar 7) (aCons (eVar 8) aNil))) aNil))) sNil)) (sRet (eFrz 6)))))
noncomputable def ff_law_near : Fn := fnF 9 gg_law_near
def nn_law_aim : List Str := ["field", "cell"]
noncomputable def gg_law_aim : SF := (sRet (eOp gIx (eOp gIx (eOp gIx (eVar 0) (eC (.int 1))) (eOp gIx (eVar 1) (eC (.int 1)))) (eOp gIx (eVar 1) (eC (.int 0)))))
noncomputable def ff_law_aim : Fn := fnF 2 gg_law_aim
def nn_law_low : List Str := ["field", "heights", "one", "spot", "under", "some", "cell"]
noncomputable def gg_law_low : SF := (sSeq (sAs (eCall ff_law_near (aCons (eVar 0) (aCons (eVar 3) (aCons (eOp gIx (eVar 2) (eC (.int 0))) (aCons (eC (.int 0)) aNil)))) []) (gN 4)) (sSeq (sAs (eLcN [6] (aItems (eVar 4)) (gN 6) tTrue (eCall ff_law_aim (aCons (eVar 0) (aCons (eVar 6) aNil)) [])) (gN 5)) (sSeq (sFor (aItems (eCall ff_law_near (aCons (eVar 0) (aCons (eVar 3) (aCons (eOp gIx (eVar 2) (eC (.int 0))) (aCons (eC (.int 1)) aNil)))) [])) (gN 6) (sIf (tV (eOp (gIn fun b => !b) (eVar 6) (eVar 4))) (sE (eMeth2 gApp (eVar 5) (aCons (eOp (gInt fun i j => .int (i - j)) (eOp gIxC (eVar 1) (eVar 6)) (eOp gIx (eVar 2) (eC (.int 1)))) aNil))) sNil)) (sRet (eB gMaxL (aCons (eOp gAdd (eLst (aCons (eC (.int 0)) aNil)) (eVar 5)) aNil))))))
noncomputable def ff_law_low : Fn := fnF 7 gg_law_low
def nn_law_full : List Str := ["field", "cell"]
noncomputable def gg_law_full : SF := (sRet (eB gDictC (aCons (eLc [1] (aItems (eCall ff_law_cells (aCons (eVar 0) aNil) [])) (gN 1) tTrue (eTup (aCons (eVar 1) (aCons (eOp gIx (eVar 0) (eC (.int 0))) aNil)))) aNil)))
noncomputable def ff_law_full : Fn := fnF 2 gg_law_full
def nn_law_as_field : List Str := ["field", "heights", "wide", "long", "i", "j"]
noncomputable def gg_law_as_field : SF := (sSeq (sAs (eTup (aCons (eB gLen (aCons (eOp gIx (eOp gIx (eVar 0) (eC (.int 1))) (eC (.int 0))) aNil)) (aCons (eB gLen (aCons (eOp gIx (eVar 0) (eC (.int 1))) aNil)) aNil))) (gTp (gsCons (gN 2) (gsCons (gN 3) gsNil)))) (sRet (eTup (aCons (eOp gIx (eVar 0) (eC (.int 0))) (aCons (eB gTupOf (aCons (eLc [5] (aRng1 (aCons (eVar 3) aNil)) (gN 5) tTrue (eB gTupOf (aCons (eLc [4] (aRng1 (aCons (eVar 2) aNil)) (gN 4) tTrue (eOp gIxC (eVar 1) (eTup (aCons (eVar 4) (aCons (eVar 5) aNil))))) aNil))) aNil)) aNil)))))
noncomputable def ff_law_as_field : Fn := fnF 6 gg_law_as_field
def nn_law_kinds : List Str := ["error", "kinds", "name", "holds"]
noncomputable def gg_law_kinds (ct : CT) : SF := (sSeq (sAs (eLst (aCons (eTup (aCons (eC (.str "row")) (aCons (eB (gIsiF ct.isa) (aCons (eVar 0) (aCons (eC (.ob ct.BadRow)) aNil))) aNil))) (aCons (eTup (aCons (eC (.str "sketch")) (aCons (eB (gIsiF ct.isa) (aCons (eVar 0) (aCons (eC (.ob ct.BadSketch)) aNil))) aNil))) aNil))) (gN 1)) (sSeq (sAs (eOp gAdd (eVar 1) (eLst (aCons (eTup (aCons (eC (.str "block")) (aCons (eB (gIsiF ct.isa) (aCons (eVar 0) (aCons (eC (.ob ct.BadBlock)) aNil))) aNil))) (aCons (eTup (aCons (eC (.str "outline")) (aCons (eB (gIsiF ct.isa) (aCons (eVar 0) (aCons (eC (.ob ct.BadOutline)) aNil))) aNil))) aNil)))) (gN 1)) (sSeq (sAs (eOp gAdd (eVar 1) (eLst (aCons (eTup (aCons (eC (.str "feature")) (aCons (eB (gIsiF ct.isa) (aCons (eVar 0) (aCons (eC (.ob ct.BadFeature)) aNil))) aNil))) (aCons (eTup (aCons (eC (.str "field")) (aCons (eB (gIsiF ct.isa) (aCons (eVar 0) (aCons (eC (.ob ct.BadField)) aNil))) aNil))) aNil)))) (gN 1)) (sSeq (sAs (eOp gAdd (eVar 1) (eLst (aCons (eTup (aCons (eC (.str "tools")) (aCons (eB (gIsiF ct.isa) (aCons (eVar 0) (aCons (eC (.ob ct.BadTools)) aNil))) aNil))) (aCons (eTup (aCons (eC (.str "way")) (aCons (eB (gIsiF ct.isa) (aCons (eVar 0) (aCons (eC (.ob ct.BadWay)) aNil))) aNil))) aNil)))) (gN 1)) (sSeq (sAs (eOp gAdd (eVar 1) (eLst (aCons (eTup (aCons (eC (.str "paper")) (aCons (eB (gIsiF ct.isa) (aCons (eVar 0) (aCons (eC (.ob ct.BadPaper)) aNil))) aNil))) (aCons (eTup (aCons (eC (.str "clash")) (aCons (eB (gIsiF ct.isa) (aCons (eVar 0) (aCons (eC (.ob ct.Clash)) aNil))) aNil))) aNil)))) (gN 1)) (sSeq (sAs (eOp gAdd (eVar 1) (eLst (aCons (eTup (aCons (eC (.str "twice")) (aCons (eB (gIsiF ct.isa) (aCons (eVar 0) (aCons (eC (.ob ct.Twice)) aNil))) aNil))) (aCons (eTup (aCons (eC (.str "place")) (aCons (eB (gIsiF ct.isa) (aCons (eVar 0) (aCons (eC (.ob ct.OutOfPlace)) aNil))) aNil))) aNil)))) (gN 1)) (sSeq (sAs (eOp gAdd (eVar 1) (eLst (aCons (eTup (aCons (eC (.str "great")) (aCons (eB (gIsiF ct.isa) (aCons (eVar 0) (aCons (eC (.ob ct.TooGreat)) aNil))) aNil))) (aCons (eTup (aCons (eC (.str "point")) (aCons (eB (gIsiF ct.isa) (aCons (eVar 0) (aCons (eC (.ob ct.NoPoint)) aNil))) aNil))) aNil)))) (gN 1)) (sSeq (sAs (eOp gAdd (eVar 1) (eLst (aCons (eTup (aCons (eC (.str "saying")) (aCons (eB (gIsiF ct.isa) (aCons (eVar 0) (aCons (eC (.ob ct.NoSaying)) aNil))) aNil))) (aCons (eTup (aCons (eC (.str "none")) (aCons (eB (gIsiF ct.isa) (aCons (eVar 0) (aCons (eC (.ob ct.NoFeature)) aNil))) aNil))) aNil)))) (gN 1)) (sSeq (sAs (eOp gAdd (eVar 1) (eLst (aCons (eTup (aCons (eC (.str "nothing")) (aCons (eB (gIsiF ct.isa) (aCons (eVar 0) (aCons (eC (.ob ct.Nothing)) aNil))) aNil))) (aCons (eTup (aCons (eC (.str "no tool")) (aCons (eB (gIsiF ct.isa) (aCons (eVar 0) (aCons (eC (.ob ct.NoToolThere)) aNil))) aNil))) aNil)))) (gN 1)) (sSeq (sAs (eOp gAdd (eVar 1) (eLst (aCons (eTup (aCons (eC (.str "lifted")) (aCons (eB (gIsiF ct.isa) (aCons (eVar 0) (aCons (eC (.ob ct.Lifted)) aNil))) aNil))) (aCons (eTup (aCons (eC (.str "lowered")) (aCons (eB (gIsiF ct.isa) (aCons (eVar 0) (aCons (eC (.ob ct.Lowered)) aNil))) aNil))) aNil)))) (gN 1)) (sSeq (sAs (eOp gAdd (eVar 1) (eLst (aCons (eTup (aCons (eC (.str "beyond")) (aCons (eB (gIsiF ct.isa) (aCons (eVar 0) (aCons (eC (.ob ct.Beyond)) aNil))) aNil))) (aCons (eTup (aCons (eC (.str "blocked")) (aCons (eB (gIsiF ct.isa) (aCons (eVar 0) (aCons (eC (.ob ct.Blocked)) aNil))) aNil))) aNil)))) (gN 1)) (sSeq (sAs (eOp gAdd (eVar 1) (eLst (aCons (eTup (aCons (eC (.str "deep")) (aCons (eB (gIsiF ct.isa) (aCons (eVar 0) (aCons (eC (.ob ct.TooDeep)) aNil))) aNil))) (aCons (eTup (aCons (eC (.str "ours")) (aCons (eB (gIsiF ct.isa) (aCons (eVar 0) (aCons (eC (.ob ct.WorksError)) aNil))) aNil))) aNil)))) (gN 1)) (sSeq (sAs (eOp gAdd (eVar 1) (eLst (aCons (eTup (aCons (eC (.str "value")) (aCons (eB (gIsiF ct.isa) (aCons (eVar 0) (aCons (eC (.ty "ValueError")) aNil))) aNil))) (aCons (eTup (aCons (eC (.str "miss")) (aCons (eB (gIsiF ct.isa) (aCons (eVar 0) (aCons (eC (.ob ct.MissError)) aNil))) aNil))) aNil)))) (gN 1)) (sSeq (sAs (eOp gAdd (eVar 1) (eLst (aCons (eTup (aCons (eC (.str "lookup")) (aCons (eB (gIsiF ct.isa) (aCons (eVar 0) (aCons (eC (.ty "LookupError")) aNil))) aNil))) (aCons (eTup (aCons (eC (.str "fault")) (aCons (eB (gIsiF ct.isa) (aCons (eVar 0) (aCons (eC (.ob ct.FaultError)) aNil))) aNil))) aNil)))) (gN 1)) (sSeq (sAs (eOp gAdd (eVar 1) (eLst (aCons (eTup (aCons (eC (.str "runtime")) (aCons (eB (gIsiF ct.isa) (aCons (eVar 0) (aCons (eC (.ty "RuntimeError")) aNil))) aNil))) aNil))) (gN 1)) (sSeq (sAs (eOp gAdd (eLst (aCons (eTup (aCons (eC (.str "no such tool")) (aCons (eB (gIsiF ct.isa) (aCons (eVar 0) (aCons (eC (.ob ct.NoTool)) aNil))) aNil))) aNil)) (eVar 1)) (gN 1)) (sRet (eLc [2, 3] (aItems (eVar 1)) (gTp (gsCons (gN 2) (gsCons (gN 3) gsNil))) (tV (eVar 3)) (eVar 2)))))))))))))))))))
noncomputable def ff_law_kinds (ct : CT) : Fn := fnF 4 (gg_law_kinds ct)
def nn_law_caught : List Str := ["deed", "caught", "e"]
noncomputable def lg_law_caught (ct : CT) : LamG := fun lf lc lq lvs lds dm => (sSeq (sAs (eC .non) (gN 1)) (sSeq (sTryB (fun y => if y = "BadField" then some ct.BadField else if y = "BadTools" then some ct.BadTools else if y = "OutOfPlace" then some ct.OutOfPlace else none) 2 (qE (qDeed lf lc lq lvs lds dm)) (sAs (eVar 2) (gN 1))) (sRet (eVar 1))))
def nn_law_stock : List Str := ["state", "field", "most", "cell"]
noncomputable def gg_law_stock : SF := (sSeq (sAs (eOp gIx (eLst (aCons (eOp gAdd (eOp gIx (eVar 1) (eC (.int 0))) (eC (.int 1))) (aCons (eC (.int 2)) aNil))) (eCall ff_law_digit (aCons (eVar 0) (aCons (eC (.int 2)) aNil)) [])) (gN 2)) (sRet (eB gDictC (aCons (eLc [3] (aItems (eCall ff_law_cells (aCons (eVar 1) aNil) [])) (gN 3) tTrue (eTup (aCons (eVar 3) (aCons (eOp (gIntC (fun _ j => j ≠ 0) fun i j => .int (i.fmod j)) (eCall ff_law_digit (aCons (eVar 0) (aCons (eVar 2) aNil)) []) (eOp gAdd (eOp gIx (eVar 1) (eC (.int 0))) (eC (.int 1)))) aNil)))) aNil))))
noncomputable def ff_law_stock : Fn := fnF 4 gg_law_stock
def nn_law_stocks_refused : List Str := ["state", "field", "stock", "high", "aims", "other", "some", "one", "row", "bad", "due", "found", "error"]
noncomputable def gg_law_stocks_refused (ct : CT) : SF := (sSeq (sAs (eVar 2) (gTp (gsCons (gN 3) (gsCons (gN 4) gsNil)))) (sSeq (sAs (eOp gAdd (eC (.int 1)) (eOp (gIntC (fun _ j => j ≠ 0) fun i j => .int (i.fmod j)) (eVar 3) (eC (.int 6)))) (gN 5)) (sSeq (sAs (eNew (aCons (eTup (aCons (eTup (aCons (eVar 5) (aCons (eB gTupOf (aCons (eLc [8] (aItems (eVar 4)) (gN 8) tTrue (eB gTupOf (aCons (eLc [7] (aItems (eVar 8)) (gN 7) tTrue (eC (.int 0))) aNil))) aNil)) aNil))) (aCons (eC (.str "high")) aNil))) (aCons (eTup (aCons (eTup (aCons (eVar 3) (aCons (eOp gAdd (eVar 4) (eSl (eVar 4) pNone (pSome (eC (.int 1))))) aNil))) (aCons (eC (.str "rows")) aNil))) aNil))) (gN 6)) (sSeq (sAs (eAddN (eVar 6) (eLst (aCons (eTup (aCons (eTup (aCons (eVar 3) (aCons (eB gTupOf (aCons (eLc [8] (aItems (eVar 4)) (gN 8) tTrue (eOp gAdd (eVar 8) (eSl (eVar 8) pNone (pSome (eC (.int 1)))))) aNil)) aNil))) (aCons (eC (.str "rows")) aNil))) (aCons (eTup (aCons (eC .non) (aCons (eC .non) aNil))) (aCons (eTup (aCons (eTup (aCons (eVar 3) aNil)) (aCons (eC .non) aNil))) aNil))))) (gN 6)) (sSeq (sAs (eAddN (eVar 6) (eLst (aCons (eTup (aCons (eTup (aCons (eC (.int 0)) (aCons (eVar 4) aNil))) (aCons (eC (.str "high")) aNil))) (aCons (eTup (aCons (eTup (aCons (eVar 3) (aCons (eTup aNil) aNil))) (aCons (eC (.str "rows")) aNil))) (aCons (eTup (aCons (eTup (aCons (eVar 3) (aCons (eB gLstA (aCons (eVar 4) aNil)) aNil))) (aCons (eC (.str "rows")) aNil))) aNil))))) (gN 6)) (sSeq (sAs (eAddN (eVar 6) (eLst (aCons (eTup (aCons (eTup (aCons (eVar 3) (aCons (eOp gAdd (eTup (aCons (eC (.int 5)) aNil)) (eSl (eVar 4) (pSome (eC (.int 1))) pNone)) aNil))) (aCons (eC (.int 0)) aNil))) (aCons (eTup (aCons (eTup (aCons (eC (.int 7)) (aCons (eTup aNil) aNil))) (aCons (eC (.str "high")) aNil))) aNil)))) (gN 6)) (sSeq (sE (eMeth2 gApp (eVar 6) (aCons (eTup (aCons (eTup (aCons (eVar 5) (aCons (eB gTupOf (aCons (eLc [8] (aItems (eOp gAdd (eVar 4) (eSl (eVar 4) pNone (pSome (eC (.int 1)))))) (gN 8) tTrue (eB gTupOf (aCons (eLc [7] (aItems (eVar 8)) (gN 7) tTrue (eC (.int 0))) aNil))) aNil)) aNil))) (aCons (eC (.str "high")) aNil))) aNil))) (sSeq (sAs (eOp gIx (eVar 6) (eCall ff_law_digit (aCons (eVar 0) (aCons (eC (.int 11)) aNil)) [])) (gTp (gsCons (gN 9) (gsCons (gN 10) gsNil)))) (sSeq (sIf (tOrr (tV (eOp (gEq PyData.eqv) (eB gLen (aCons (eVar 4) aNil)) (eC (.int 8)))) (tV (eOp (gEq PyData.eqv) (eB gLen (aCons (eOp gIx (eVar 4) (eC (.int 0))) aNil)) (eC (.int 8))))) (sRet (eC (.bl true))) sNil) (sSeq (sAs (eNew (aCons (eLam 0 ct.P_law_stocks_refused "_law_stocks_refused.<locals>.<lambda>" 3 (lg_law_caught ct) [1, 9] (qCall (qq_lowest ct) (aCons (eVar 1) (aCons (eVar 9) (aCons (eC .non) (aCons (eC .non) aNil)))) [])) aNil)) (gN 11)) (sSeq (sE (eMeth2 gApp (eVar 11) (aCons (eLam 0 ct.P_law_stocks_refused "_law_stocks_refused.<locals>.<lambda>" 3 (lg_law_caught ct) [1, 9] (qCall (qq_may_stand ct) (aCons (eVar 1) (aCons (eVar 9) (aCons (eTup (aCons (eC (.int 1)) (aCons (eC (.int 1)) aNil))) (aCons (eTup (aCons (eC (.int 0)) (aCons (eC (.int 0)) aNil))) (aCons (eC (.int 0)) aNil))))) [])) aNil))) (sSeq (sFor (aItems (eFrz 11)) (gN 12) (sIf (tOrr (tV (eOp (gEq fun p q => !PyData.eqv p q) (eCall (ff_law_kinds ct) (aCons (eVar 12) aNil) []) (eLst (aCons (eC (.str "field")) (aCons (eC (.str "ours")) (aCons (eC (.str "value")) aNil)))))) (tV (eOp (gEq fun p q => !PyData.eqv p q) (eB gRepr (aCons (eGv ct.okg "place" (eVar 12)) aNil)) (eB gRepr (aCons (eVar 10) aNil))))) (sRet (eC (.bl false))) sNil)) (sRet (eC (.bl true)))))))))))))))
noncomputable def ff_law_stocks_refused (ct : CT) : Fn := fnF 13 (gg_law_stocks_refused ct)
def nn_law_order_right : List Str := ["state", "field", "stock", "one", "bad", "wide", "long", "far", "found", "error"]
noncomputable def gg_law_order_right (ct : CT) : SF := (sSeq (sAs (eOp gIx (eLst (aCons (eC .non) (aCons (eTup (aCons (eC (.int 0)) (aCons (eC (.int 1)) aNil))) (aCons (eTup (aCons (eC (.int 5)) (aCons (eC (.int 1)) aNil))) (aCons (eTup (aCons (eC (.int 1)) (aCons (eC (.int 7)) aNil))) (aCons (eLst (aCons (eC (.int 1)) (aCons (eC (.int 1)) aNil))) (aCons (eTup (aCons (eC (.bl true)) (aCons (eC (.int 1)) aNil))) (aCons (eTup (aCons (eC (.int 1)) aNil)) aNil)))))))) (eCall ff_law_digit (aCons (eVar 0) (aCons (eC (.int 7)) aNil)) [])) (gN 4)) (sSeq (sPar 5 6 (eB gLen (aCons (eOp gIx (eOp gIx (eVar 1) (eC (.int 1))) (eC (.int 0))) aNil)) (eB gLen (aCons (eOp gIx (eVar 1) (eC (.int 1))) aNil))) (sSeq (sAs (eOp gIx (eLst (aCons (eC .non) (aCons (eTup (aCons (eVar 5) (aCons (eC (.int 0)) aNil))) (aCons (eTup (aCons (eC (.int 0)) (aCons (eVar 6) aNil))) (aCons (eTup (aCons (eOp (gInt fun i j => .int (i - j)) (eC (.int 0)) (eOp gIx (eVar 3) (eC (.int 0)))) (aCons (eC (.int 0)) aNil))) (aCons (eTup (aCons (eC (.int 0)) (aCons (eOp (gInt fun i j => .int (i - j)) (eC (.int 0)) (eOp gIx (eVar 3) (eC (.int 0)))) aNil))) (aCons (eLst (aCons (eC (.int 0)) (aCons (eC (.int 0)) aNil))) (aCons (eTup (aCons (eC (.int 0)) (aCons (eC (.bl true)) aNil))) (aCons (eTup (aCons (eC (.int 0)) aNil)) aNil))))))))) (eCall ff_law_digit (aCons (eVar 0) (aCons (eC (.int 8)) aNil)) [])) (gN 7)) (sSeq (sAs (eNew (aCons (eLam 1 ct.P_law_order_right "_law_order_right.<locals>.<lambda>" 3 (lg_law_caught ct) [1, 2, 4, 7] (qCall (qq_lowest ct) (aCons (eVar 1) (aCons (eVar 2) (aCons (eVar 4) (aCons (eVar 7) aNil)))) [])) aNil)) (gN 8)) (sSeq (sE (eMeth2 gApp (eVar 8) (aCons (eLam 1 ct.P_law_order_right "_law_order_right.<locals>.<lambda>" 3 (lg_law_caught ct) [1, 2, 4, 7] (qCall (qq_may_stand ct) (aCons (eVar 1) (aCons (eVar 2) (aCons (eVar 4) (aCons (eVar 7) (aCons (eC .non) aNil))))) [])) aNil))) (sSeq (sFor (aItems (eFrz 8)) (gN 9) (sIf (tOrr (tV (eOp (gEq fun p q => !PyData.eqv p q) (eCall (ff_law_kinds ct) (aCons (eVar 9) aNil) []) (eLst (aCons (eC (.str "tools")) (aCons (eC (.str "ours")) (aCons (eC (.str "value")) aNil)))))) (tV (eOp (gIsN fun b => !b) (eGv ct.okg "number" (eVar 9)) (eC .non)))) (sRet (eC (.bl false))) sNil)) (sSeq (sAs (eNew (aCons (eLam 1 ct.P_law_order_right "_law_order_right.<locals>.<lambda>" 3 (lg_law_caught ct) [1, 2, 3, 7] (qCall (qq_lowest ct) (aCons (eVar 1) (aCons (eVar 2) (aCons (eVar 3) (aCons (eVar 7) aNil)))) [])) aNil)) (gN 8)) (sSeq (sE (eMeth2 gApp (eVar 8) (aCons (eLam 1 ct.P_law_order_right "_law_order_right.<locals>.<lambda>" 3 (lg_law_caught ct) [1, 2, 3, 7] (qCall (qq_may_stand ct) (aCons (eVar 1) (aCons (eVar 2) (aCons (eVar 3) (aCons (eVar 7) (aCons (eC .non) aNil))))) [])) aNil))) (sRet (eOp (gEq PyData.eqv) (eLc [9] (aItems (eFrz 8)) (gN 9) (tV (eOp (gEq fun p q => !PyData.eqv p q) (eCall (ff_law_kinds ct) (aCons (eVar 9) aNil) []) (eLst (aCons (eC (.str "place")) (aCons (eC (.str "ours")) (aCons (eC (.str "value")) aNil)))))) (eC (.int 1))) (eLst aNil)))))))))))
noncomputable def ff_law_order_right (ct : CT) : Fn := fnF 10 (gg_law_order_right ct)
def nn_law : List Str := ["script", "k", "cell", "state", "field", "heights", "stock", "turn", "one", "spot", "due", "height", "odd", "caught"]
noncomputable def gg_law (ct : CT) : SF := (sSeq (sFor (aEnum (aCons (eSl (eOp gAddQ (eVar 0) (eLst (aCons (eC (.int 5)) (aCons (eC (.int 2)) aNil)))) pNone (pSome (eC (.int 8)))) aNil)) (gTp (gsCons (gN 1) (gsCons (gN 2) gsNil))) (sSeq (sAs (eCall ff_law_draw (aCons (eVar 2) (aCons (eVar 1) aNil)) []) (gN 3)) (sSeq (sAs (eCall ff_law_a_field (aCons (eVar 3) (aCons (eC (.int 5)) aNil)) []) (gN 4)) (sSeq (sAs (eCall ff_law_stock (aCons (eVar 3) (aCons (eVar 4) aNil)) []) (gN 5)) (sSeq (sAs (eCall ff_law_as_field (aCons (eVar 4) (aCons (eVar 5) aNil)) []) (gN 6)) (sSeq (sIf (tV (eOp (gEq fun p q => !PyData.eqv p q) (eB gRepr (aCons (eCall (ff_solid ct) (aCons (eVar 4) aNil) []) aNil)) (eB gRepr (aCons (eCall ff_law_as_field (aCons (eVar 4) (aCons (eCall ff_law_full (aCons (eVar 4) aNil) []) aNil)) []) aNil)))) (sRet (eC (.bl false))) sNil) (sSeq (sFor (aRng1 (aCons (eC (.int 3)) aNil)) (gN 7) (sSeq (sAs (eTup (aCons (eOp gAdd (eC (.int 1)) (eCall ff_law_digit (aCons (eVar 3) (aCons (eC (.int 4)) aNil)) [])) (aCons (eOp gAdd (eC (.int 1)) (eCall ff_law_digit (aCons (eVar 3) (aCons (eC (.int 6)) aNil)) [])) aNil))) (gN 8)) (sSeq (sFor (aItems (eCall ff_law_spots (aCons (eVar 4) (aCons (eOp gIx (eVar 8) (eC (.int 0))) aNil)) [])) (gN 9) (sSeq (sAs (eCall ff_law_low (aCons (eVar 4) (aCons (eVar 5) (aCons (eVar 8) (aCons (eVar 9) aNil)))) []) (gN 10)) (sSeq (sIf (tV (eOp (gEq fun p q => !PyData.eqv p q) (eB gRepr (aCons (eCall (ff_lowest ct) (aCons (eVar 4) (aCons (eVar 6) (aCons (eVar 8) (aCons (eVar 9) aNil)))) []) aNil)) (eB gRepr (aCons (eVar 10) aNil)))) (sRet (eC (.bl false))) sNil) (sSeq (sAs (eOp gIx (eLst (aCons (eC (.int 0)) (aCons (eOp gIx (eVar 4) (eC (.int 0))) (aCons (eB (gL2 fun i j => .int (if j > i then j else i)) (aCons (eC (.int 0)) (aCons (eOp (gInt fun i j => .int (i - j)) (eVar 10) (eC (.int 1))) aNil))) (aCons (eVar 10) aNil))))) (eCall ff_law_digit (aCons (eVar 3) (aCons (eC (.int 4)) aNil)) [])) (gN 11)) (sIf (tV (eOp (gEq fun p q => !PyData.eqv p q) (eB gRepr (aCons (eCall (ff_may_stand ct) (aCons (eVar 4) (aCons (eVar 6) (aCons (eVar 8) (aCons (eVar 9) (aCons (eVar 11) aNil))))) []) aNil)) (eB gRepr (aCons (eOp (gInt fun i j => .bl (decide (j ≤ i))) (eVar 11) (eVar 10)) aNil)))) (sRet (eC (.bl false))) sNil))))) (sSeq (sAs (eOp gIx (eLst (aCons (eUn gNeg (eC (.int 1))) (aCons (eOp gAdd (eOp gIx (eVar 4) (eC (.int 0))) (eC (.int 1))) (aCons (eC (.bl true)) (aCons (eC .non) (aCons (eC (.str "0")) (aCons (eTup (aCons (eC (.int 0)) aNil)) aNil))))))) (eCall ff_law_digit (aCons (eVar 3) (aCons (eC (.int 6)) aNil)) [])) (gN 12)) (sSeq (sAs (eLam 2 ct.P_law "law.<locals>.<lambda>" 3 (lg_law_caught ct) [4, 6, 8, 12] (qCall (qq_may_stand ct) (aCons (eVar 4) (aCons (eVar 6) (aCons (eVar 8) (aCons (eTup (aCons (eC (.int 0)) (aCons (eC (.int 0)) aNil))) (aCons (eVar 12) aNil))))) [])) (gN 13)) (sIf (tV (eOp (gEq fun p q => !PyData.eqv p q) (eCall (ff_law_kinds ct) (aCons (eVar 13) aNil) []) (eLst (aCons (eC (.str "place")) (aCons (eC (.str "ours")) (aCons (eC (.str "value")) aNil)))))) (sRet (eC (.bl false))) sNil)))))) (sIf (tOrr (tNt (tV (eCall (ff_law_stocks_refused ct) (aCons (eVar 3) (aCons (eVar 4) (aCons (eVar 6) aNil))) []))) (tNt (tV (eCall (ff_law_order_right ct) (aCons (eVar 3) (aCons (eVar 4) (aCons (eVar 6) (aCons (eVar 8) aNil)))) [])))) (sRet (eC (.bl false))) sNil)))))))) (sRet (eC (.bl true))))
noncomputable def ff_law (ct : CT) : Fn := fnF 14 (gg_law ct)
end Law
namespace Law
open PySem L2 Pl
def topS (i : Nat) : Stmt := PySem.Challenge.pw_panelworks_k41_where_tools_may_stand.main.body.getD i (.Pass ⟨0, 0, 0, 0⟩)
structure Txt (ct : CT) (K : PySem.W.Frag) (mg : Str → Option Value) : Prop where
  n_int : mg "int" = none
  n_isinstance : mg "isinstance" = none
  n_bool : mg "bool" = none
  n_tuple : mg "tuple" = none
  n_len : mg "len" = none
  n_enumerate : mg "enumerate" = none
  n_all : mg "all" = none
  n_zip : mg "zip" = none
  n_range : mg "range" = none
  n_min : mg "min" = none
  n_max : mg "max" = none
  n_dict : mg "dict" = none
  n_ValueError : mg "ValueError" = none
  n_LookupError : mg "LookupError" = none
  n_RuntimeError : mg "RuntimeError" = none
  n_list : mg "list" = none
  n_repr : mg "repr" = none
  g_MOST_HIGH : GV K mg "MOST_HIGH" (.int 6)
  g_MOST_SIDE : GV K mg "MOST_SIDE" (.int 8)
  g_MOST_TOOL : GV K mg "MOST_TOOL" (.int 4)
  g_MOST_LENGTH : GV K mg "MOST_LENGTH" (.int 6)
  c_BadField : mg "BadField" = some (.ref ct.BadField)
  c_BadTools : mg "BadTools" = some (.ref ct.BadTools)
  c_OutOfPlace : mg "OutOfPlace" = some (.ref ct.OutOfPlace)
  c_BadSketch : mg "BadSketch" = some (.ref ct.BadSketch)
  c_BadRow : mg "BadRow" = some (.ref ct.BadRow)
  c_BadOutline : mg "BadOutline" = some (.ref ct.BadOutline)
  c_BadBlock : mg "BadBlock" = some (.ref ct.BadBlock)
  c_BadFeature : mg "BadFeature" = some (.ref ct.BadFeature)
  c_BadWay : mg "BadWay" = some (.ref ct.BadWay)
  c_Clash : mg "Clash" = some (.ref ct.Clash)
  c_BadPaper : mg "BadPaper" = some (.ref ct.BadPaper)
  c_Twice : mg "Twice" = some (.ref ct.Twice)
  c_NoPoint : mg "NoPoint" = some (.ref ct.NoPoint)
  c_TooGreat : mg "TooGreat" = some (.ref ct.TooGreat)
  c_NoFeature : mg "NoFeature" = some (.ref ct.NoFeature)
  c_NoSaying : mg "NoSaying" = some (.ref ct.NoSaying)
  c_NoToolThere : mg "NoToolThere" = some (.ref ct.NoToolThere)
  c_Nothing : mg "Nothing" = some (.ref ct.Nothing)
  c_Lowered : mg "Lowered" = some (.ref ct.Lowered)
  c_Lifted : mg "Lifted" = some (.ref ct.Lifted)
  c_Blocked : mg "Blocked" = some (.ref ct.Blocked)
  c_Beyond : mg "Beyond" = some (.ref ct.Beyond)
  c_WorksError : mg "WorksError" = some (.ref ct.WorksError)
  c_TooDeep : mg "TooDeep" = some (.ref ct.TooDeep)
  c_MissError : mg "MissError" = some (.ref ct.MissError)
  c_FaultError : mg "FaultError" = some (.ref ct.FaultError)
  c_NoTool : mg "NoTool" = some (.ref ct.NoTool)
  t_OutOfPlace : LkT K mg "OutOfPlace" ct.OutOfPlace
  okf : ∀ C f, ct.okf C f = true → OkF K C f
  okg : ∀ C f, ct.okg C f = true → XfC K C ∧ PySem.W.findIn K (.ref C) f = some none
  isa : ∀ C v b, ct.isa C v = some b → ExcC K C ∧ PySem.W.kitOne K (.ref C) v = some b
  sb_BadField : PySem.W.subIn K (.ref ct.BadField) (.type "BaseException") = some true
  ty_BadField : PySem.W.typeIn K (.ref ct.BadField) = some (.type "type")
  q_BadField : ExcC K ct.BadField
  sb_BadTools : PySem.W.subIn K (.ref ct.BadTools) (.type "BaseException") = some true
  ty_BadTools : PySem.W.typeIn K (.ref ct.BadTools) = some (.type "type")
  q_BadTools : ExcC K ct.BadTools
  sb_OutOfPlace : PySem.W.subIn K (.ref ct.OutOfPlace) (.type "BaseException") = some true
  ty_OutOfPlace : PySem.W.typeIn K (.ref ct.OutOfPlace) = some (.type "type")
  q_OutOfPlace : ExcC K ct.OutOfPlace
  xt_BadField_WorksError_MissError_FaultError : PySem.W.exmAny K (.ref ct.BadField) [.ref ct.WorksError, .ref ct.MissError, .ref ct.FaultError] = some true
  xt_BadTools_WorksError_MissError_FaultError : PySem.W.exmAny K (.ref ct.BadTools) [.ref ct.WorksError, .ref ct.MissError, .ref ct.FaultError] = some true
  xt_OutOfPlace_WorksError_MissError_FaultError : PySem.W.exmAny K (.ref ct.OutOfPlace) [.ref ct.WorksError, .ref ct.MissError, .ref ct.FaultError] = some true
section
variable {P : Program} {w : World} {K : PySem.W.Frag} {mg : Str → Option Value} {base : Heap} {ct : CT}
abbrev ss_is_whole : Stmt := topS 33
theorem sc_is_whole : FnScope nn_is_whole ["thing"] (defScope ss_is_whole) := ⟨rfl, rfl, rfl, by decide +kernel, rfl, by decide +kernel, by decide +kernel⟩
abbrev FF_is_whole (K : PySem.W.Frag) (f : Addr) (fd : FuncData) : Prop := FunD K "is_whole" "is_whole" (defArgs ss_is_whole) (defBody ss_is_whole) (defScope ss_is_whole) [] [] f fd
theorem ok_is_whole (T : Txt ct K mg) {f : Addr} {fd : FuncData} (F : FF_is_whole K f fd) : DFn P w K mg base 1 f fd ["thing"] ff_is_whole :=
  DFn.of F sc_is_whole fun c => (DB.one (DS.ret (DE.and (DE.callB c (cIsi c) T.n_isinstance (by decide +kernel) (DA.cons (DE.var 0) (DA.cons (DE.bltn c T.n_int (by decide +kernel) (v := .ty "int") rfl fun _ _ => .ty _) DA.nil))) (DE.one (DE.not (DE.callB c (cIsi c) T.n_isinstance (by decide +kernel) (DA.cons (DE.var 0) (DA.cons (DE.bltn c T.n_bool (by decide +kernel) (v := .ty "bool") rfl fun _ _ => .ty _) DA.nil))))))))
abbrev ss_is_among : Stmt := topS 34
theorem sc_is_among : FnScope nn_is_among ["thing", "least", "most"] (defScope ss_is_among) := ⟨rfl, rfl, rfl, by decide +kernel, rfl, by decide +kernel, by decide +kernel⟩
abbrev FF_is_among (K : PySem.W.Frag) (f : Addr) (fd : FuncData) : Prop := FunD K "is_among" "is_among" (defArgs ss_is_among) (defBody ss_is_among) (defScope ss_is_among) [] [] f fd
theorem ok_is_among (T : Txt ct K mg) (L_is_whole : Lk P w K mg base "is_whole" 1 ["thing"] ff_is_whole) {f : Addr} {fd : FuncData} (F : FF_is_among K f fd) : DFn P w K mg base 2 f fd ["thing", "least", "most"] ff_is_among :=
  DFn.of F sc_is_among fun c => (DB.cons (DS.ite (DW.test (DW.or (DT.not (DE.test (DE.cl c L_is_whole (by decide) rfl (DA.cons (DE.var 0) DA.nil) (aLen_cons aLen_nil)))) (DW.or (DT.not (DE.test (DE.cl c L_is_whole (by decide) rfl (DA.cons (DE.var 1) DA.nil) (aLen_cons aLen_nil)))) (DW.or1 (DT.not (DE.test (DE.cl c L_is_whole (by decide) rfl (DA.cons (DE.var 2) DA.nil) (aLen_cons aLen_nil))))))))
  (DB.one (DS.ret DE.bool)) DB.nil)
  (DB.one (DS.ret (DC.val (DC.chain opLe opLe (DE.var 1) (DE.var 0) (DE.var 2))))))
abbrev ss_BadField_init : Stmt := memD (topS 7) 0
theorem sc_BadField_init : FnScope nn_BadField_init ["self", "place"] (defScope ss_BadField_init) := ⟨rfl, rfl, rfl, by decide +kernel, rfl, by decide +kernel, by decide +kernel⟩
abbrev FF_BadField_init (K : PySem.W.Frag) (f : Addr) (fd : FuncData) : Prop := FunD K "__init__" "BadField.__init__" (defArgs ss_BadField_init) (defBody ss_BadField_init) (defScope ss_BadField_init) [.non] [] f fd
theorem ok_BadField_init (T : Txt ct K mg) {f : Addr} {fd : FuncData} (F : FF_BadField_init K f fd) : DFn P w K mg base 1 f fd ["self", "place"] (ff_BadField_init ct) :=
  DFn.of F sc_BadField_init fun c => (DB.one (DS.og T.okf c (DE.var 0) (DE.var 1)))
abbrev ss_need_field : Stmt := topS 36
theorem sc_need_field : FnScope nn_need_field ["field"] (defScope ss_need_field) := ⟨rfl, rfl, rfl, by decide +kernel, rfl, by decide +kernel, by decide +kernel⟩
abbrev FF_need_field (K : PySem.W.Frag) (f : Addr) (fd : FuncData) : Prop := FunD K "need_field" "need_field" (defArgs ss_need_field) (defBody ss_need_field) (defScope ss_need_field) [] [] f fd
theorem ok_need_field (T : Txt ct K mg) (L_is_among : Lk P w K mg base "is_among" 2 ["thing", "least", "most"] ff_is_among) (G_BadField_1 : LkG P w K mg base "BadField" 1 ["self", "place"] (ff_BadField_init ct) ct.BadField []) {f : Addr} {fd : FuncData} (F : FF_need_field K f fd) : DFn P w K mg base 3 f fd ["field"] (ff_need_field ct) :=
  DFn.of F sc_need_field fun c => (DB.cons (DS.ite (DW.test (DW.or (DT.not (DE.test (DE.callB c (cIsi c) T.n_isinstance (by decide +kernel) (DA.cons (DE.var 0) (DA.cons (DE.bltn c T.n_tuple (by decide +kernel) (v := .ty "tuple") rfl fun _ _ => .ty _) DA.nil))))) (DW.or1 (DC.test (DC.op (opNe c) (DE.callB c (cLen c) T.n_len (by decide +kernel) (DA.cons (DE.var 0) DA.nil)) DE.int)))))
  (DB.one DS.never) DB.nil)
  (DB.cons (DS.asg (DE.var 0) (DG.tup c (DGs.cons (DG.name 1 fun _ => sc_need_field.nd) (DGs.cons (DG.name 2 fun _ => sc_need_field.nd) DGs.nil))))
  (DB.cons (DS.ite (DT.not (DE.test (DE.cl c L_is_among (by decide) rfl (DA.cons (DE.var 1) (DA.cons DE.int (DA.cons (DE.gv c T.g_MOST_HIGH) DA.nil))) (aLen_cons (aLen_cons (aLen_cons aLen_nil))))))
  (DB.one DS.never) DB.nil)
  (DB.cons (DS.ite (DW.test (DW.or (DT.not (DE.test (DE.callB c (cIsi c) T.n_isinstance (by decide +kernel) (DA.cons (DE.var 2) (DA.cons (DE.bltn c T.n_tuple (by decide +kernel) (v := .ty "tuple") rfl fun _ _ => .ty _) DA.nil))))) (DW.or1 (DT.not (DC.test (DC.chain opLe opLe DE.int (DE.callB c (cLen c) T.n_len (by decide +kernel) (DA.cons (DE.var 2) DA.nil)) (DE.gv c T.g_MOST_SIDE)))))))
  (DB.one DS.never) DB.nil)
  (DB.one (DS.for c (by first | exact fun _ => PassesOwn.never | exact fun _ => PassesOwn.leaving) (DI.enumT c T.n_enumerate (DA.cons (DE.var 2) DA.nil)) (DG.tup c (DGs.cons (DG.name 3 fun _ => sc_need_field.nd) (DGs.cons (DG.name 4 fun _ => sc_need_field.nd) DGs.nil)))
  (DB.cons (DS.ite (DW.test (DW.or (DT.not (DE.test (DE.callB c (cIsi c) T.n_isinstance (by decide +kernel) (DA.cons (DE.var 4) (DA.cons (DE.bltn c T.n_tuple (by decide +kernel) (v := .ty "tuple") rfl fun _ _ => .ty _) DA.nil))))) (DW.or (DT.not (DC.test (DC.chain opLe opLe DE.int (DE.callB c (cLen c) T.n_len (by decide +kernel) (DA.cons (DE.var 4) DA.nil)) (DE.gv c T.g_MOST_SIDE)))) (DW.or1 (DC.test (DC.op (opNe c) (DE.callB c (cLen c) T.n_len (by decide +kernel) (DA.cons (DE.var 4) DA.nil)) (DE.callB c (cLen c) T.n_len (by decide +kernel) (DA.cons (DE.ix c (DE.var 2) DE.int) DA.nil))))))))
  (DB.one DS.never) DB.nil)
  (DB.one (DS.ite (DT.not (DE.test (DE.callB c (cAll c) T.n_all (by decide +kernel) (DA.cons (DE.lc c (own := [("height", 5)]) (fun _ => sc_need_field.nd) (DI.seq c (DE.var 4)) (fun _ => blkOk_by (N := nn_need_field) (by rfl)) (DG.name 5 fun _ => sc_need_field.nd) (by decide) DTs.nil (DE.cl (c.blk _) L_is_among (by decide) rfl (DA.cons (DE.var 5) (DA.cons DE.int (DA.cons (DE.var 1) DA.nil))) (aLen_cons (aLen_cons (aLen_cons aLen_nil))))) DA.nil))))
  (DB.one DS.never) DB.nil)))))))))
theorem okq_need_field (T : Txt ct K mg) (L_is_among : Lk P w K mg base "is_among" 2 ["thing", "least", "most"] ff_is_among) (G_BadField_1 : LkG P w K mg base "BadField" 1 ["self", "place"] (ff_BadField_init ct) ct.BadField []) {f : Addr} {fd : FuncData} (F : FF_need_field K f fd) : DFnQ P w K mg base 3 f fd ["field"] (qq_need_field ct) :=
  DFnQ.of F sc_need_field fun E c tk => (DBQ.cons (DSQ.ite (DW.test (DW.or (DT.not (DE.test (DE.callB c (cIsi c) T.n_isinstance (by decide +kernel) (DA.cons (DE.var 0) (DA.cons (DE.bltn c T.n_tuple (by decide +kernel) (v := .ty "tuple") rfl fun _ _ => .ty _) DA.nil))))) (DW.or1 (DC.test (DC.op (opNe c) (DE.callB c (cLen c) T.n_len (by decide +kernel) (DA.cons (DE.var 0) DA.nil)) DE.int)))))
  (DBQ.one (DSQ.raise c tk G_BadField_1 T.sb_BadField T.ty_BadField (by decide) rfl (by decide) (DA.cons DE.non DA.nil) (aLen_cons aLen_nil))) (DBQ.lift DB.nil))
  (DBQ.cons (DSQ.lift (DS.asg (DE.var 0) (DG.tup c (DGs.cons (DG.name 1 fun _ => sc_need_field.nd) (DGs.cons (DG.name 2 fun _ => sc_need_field.nd) DGs.nil)))))
  (DBQ.cons (DSQ.ite (DT.not (DE.test (DE.cl c L_is_among (by decide) rfl (DA.cons (DE.var 1) (DA.cons DE.int (DA.cons (DE.gv c T.g_MOST_HIGH) DA.nil))) (aLen_cons (aLen_cons (aLen_cons aLen_nil))))))
  (DBQ.one (DSQ.raise c tk G_BadField_1 T.sb_BadField T.ty_BadField (by decide) rfl (by decide) (DA.cons DE.str DA.nil) (aLen_cons aLen_nil))) (DBQ.lift DB.nil))
  (DBQ.cons (DSQ.ite (DW.test (DW.or (DT.not (DE.test (DE.callB c (cIsi c) T.n_isinstance (by decide +kernel) (DA.cons (DE.var 2) (DA.cons (DE.bltn c T.n_tuple (by decide +kernel) (v := .ty "tuple") rfl fun _ _ => .ty _) DA.nil))))) (DW.or1 (DT.not (DC.test (DC.chain opLe opLe DE.int (DE.callB c (cLen c) T.n_len (by decide +kernel) (DA.cons (DE.var 2) DA.nil)) (DE.gv c T.g_MOST_SIDE)))))))
  (DBQ.one (DSQ.raise c tk G_BadField_1 T.sb_BadField T.ty_BadField (by decide) rfl (by decide) (DA.cons DE.str DA.nil) (aLen_cons aLen_nil))) (DBQ.lift DB.nil))
  (DBQ.one (DSQ.for c (by first | exact fun _ => PassesOwn.never | exact fun _ => PassesOwn.leaving) (DI.enumT c T.n_enumerate (DA.cons (DE.var 2) DA.nil)) (DG.tup c (DGs.cons (DG.name 3 fun _ => sc_need_field.nd) (DGs.cons (DG.name 4 fun _ => sc_need_field.nd) DGs.nil)))
  (DBQ.cons (DSQ.ite (DW.test (DW.or (DT.not (DE.test (DE.callB c (cIsi c) T.n_isinstance (by decide +kernel) (DA.cons (DE.var 4) (DA.cons (DE.bltn c T.n_tuple (by decide +kernel) (v := .ty "tuple") rfl fun _ _ => .ty _) DA.nil))))) (DW.or (DT.not (DC.test (DC.chain opLe opLe DE.int (DE.callB c (cLen c) T.n_len (by decide +kernel) (DA.cons (DE.var 4) DA.nil)) (DE.gv c T.g_MOST_SIDE)))) (DW.or1 (DC.test (DC.op (opNe c) (DE.callB c (cLen c) T.n_len (by decide +kernel) (DA.cons (DE.var 4) DA.nil)) (DE.callB c (cLen c) T.n_len (by decide +kernel) (DA.cons (DE.ix c (DE.var 2) DE.int) DA.nil))))))))
  (DBQ.one (DSQ.raise c tk G_BadField_1 T.sb_BadField T.ty_BadField (by decide) rfl (by decide) (DA.cons (DE.var 3) DA.nil) (aLen_cons aLen_nil))) (DBQ.lift DB.nil))
  (DBQ.one (DSQ.ite (DT.not (DE.test (DE.callB c (cAll c) T.n_all (by decide +kernel) (DA.cons (DE.lc c (own := [("height", 5)]) (fun _ => sc_need_field.nd) (DI.seq c (DE.var 4)) (fun _ => blkOk_by (N := nn_need_field) (by rfl)) (DG.name 5 fun _ => sc_need_field.nd) (by decide) DTs.nil (DE.cl (c.blk _) L_is_among (by decide) rfl (DA.cons (DE.var 5) (DA.cons DE.int (DA.cons (DE.var 1) DA.nil))) (aLen_cons (aLen_cons (aLen_cons aLen_nil))))) DA.nil))))
  (DBQ.one (DSQ.raise c tk G_BadField_1 T.sb_BadField T.ty_BadField (by decide) rfl (by decide) (DA.cons (DE.var 3) DA.nil) (aLen_cons aLen_nil))) (DBQ.lift DB.nil))))))))))
abbrev ss_plain_sides : Stmt := topS 37
theorem sc_plain_sides : FnScope nn_plain_sides ["field"] (defScope ss_plain_sides) := ⟨rfl, rfl, rfl, by decide +kernel, rfl, by decide +kernel, by decide +kernel⟩
abbrev FF_plain_sides (K : PySem.W.Frag) (f : Addr) (fd : FuncData) : Prop := FunD K "plain_sides" "plain_sides" (defArgs ss_plain_sides) (defBody ss_plain_sides) (defScope ss_plain_sides) [] [] f fd
theorem ok_plain_sides (T : Txt ct K mg) {f : Addr} {fd : FuncData} (F : FF_plain_sides K f fd) : DFn P w K mg base 1 f fd ["field"] ff_plain_sides :=
  DFn.of F sc_plain_sides fun c => (DB.one (DS.ret (DE.tup (DA.cons (DE.callB c (cLen c) T.n_len (by decide +kernel) (DA.cons (DE.ix c (DE.ix c (DE.var 0) DE.int) DE.int) DA.nil)) (DA.cons (DE.callB c (cLen c) T.n_len (by decide +kernel) (DA.cons (DE.ix c (DE.var 0) DE.int) DA.nil)) DA.nil)))))
abbrev ss_height_of : Stmt := topS 38
theorem sc_height_of : FnScope nn_height_of ["field", "cell"] (defScope ss_height_of) := ⟨rfl, rfl, rfl, by decide +kernel, rfl, by decide +kernel, by decide +kernel⟩
abbrev FF_height_of (K : PySem.W.Frag) (f : Addr) (fd : FuncData) : Prop := FunD K "height_of" "height_of" (defArgs ss_height_of) (defBody ss_height_of) (defScope ss_height_of) [] [] f fd
theorem ok_height_of (T : Txt ct K mg) {f : Addr} {fd : FuncData} (F : FF_height_of K f fd) : DFn P w K mg base 1 f fd ["field", "cell"] ff_height_of :=
  DFn.of F sc_height_of fun c => (DB.cons (DS.asg (DE.var 1) (DG.tup c (DGs.cons (DG.name 2 fun _ => sc_height_of.nd) (DGs.cons (DG.name 3 fun _ => sc_height_of.nd) DGs.nil))))
  (DB.one (DS.ret (DE.ix c (DE.ix c (DE.ix c (DE.var 0) DE.int) (DE.var 3)) (DE.var 2)))))
abbrev ss_need_stock : Stmt := topS 45
theorem sc_need_stock : FnScope nn_need_stock ["field", "stock"] (defScope ss_need_stock) := ⟨rfl, rfl, rfl, by decide +kernel, rfl, by decide +kernel, by decide +kernel⟩
abbrev FF_need_stock (K : PySem.W.Frag) (f : Addr) (fd : FuncData) : Prop := FunD K "need_stock" "need_stock" (defArgs ss_need_stock) (defBody ss_need_stock) (defScope ss_need_stock) [] [] f fd
theorem ok_need_stock (T : Txt ct K mg) (L_need_field : Lk P w K mg base "need_field" 3 ["field"] (ff_need_field ct)) (L_plain_sides : Lk P w K mg base "plain_sides" 1 ["field"] ff_plain_sides) (Q_need_field : LkQ P w K mg base "need_field" 3 ["field"] (qq_need_field ct)) (G_BadField_1 : LkG P w K mg base "BadField" 1 ["self", "place"] (ff_BadField_init ct) ct.BadField []) {f : Addr} {fd : FuncData} (F : FF_need_stock K f fd) : DFn P w K mg base 4 f fd ["field", "stock"] (ff_need_stock ct) :=
  DFn.of F sc_need_stock fun c => (DB.cons (DS.expr (DE.cl c L_need_field (by decide) rfl (DA.cons (DE.var 0) DA.nil) (aLen_cons aLen_nil)))
  (DB.cons (DS.expr (DE.cl c L_need_field (by decide) rfl (DA.cons (DE.var 1) DA.nil) (aLen_cons aLen_nil)))
  (DB.cons (DS.ite (DC.test (DC.op (opNe c) (DE.ix c (DE.var 1) DE.int) (DE.ix c (DE.var 0) DE.int)))
  (DB.one DS.never) DB.nil)
  (DB.one (DS.ite (DC.test (DC.op (opNe c) (DE.cl c L_plain_sides (by decide) rfl (DA.cons (DE.var 1) DA.nil) (aLen_cons aLen_nil)) (DE.cl c L_plain_sides (by decide) rfl (DA.cons (DE.var 0) DA.nil) (aLen_cons aLen_nil))))
  (DB.one DS.never) DB.nil)))))
theorem okq_need_stock (T : Txt ct K mg) (L_need_field : Lk P w K mg base "need_field" 3 ["field"] (ff_need_field ct)) (L_plain_sides : Lk P w K mg base "plain_sides" 1 ["field"] ff_plain_sides) (Q_need_field : LkQ P w K mg base "need_field" 3 ["field"] (qq_need_field ct)) (G_BadField_1 : LkG P w K mg base "BadField" 1 ["self", "place"] (ff_BadField_init ct) ct.BadField []) {f : Addr} {fd : FuncData} (F : FF_need_stock K f fd) : DFnQ P w K mg base 4 f fd ["field", "stock"] (qq_need_stock ct) :=
  DFnQ.of F sc_need_stock fun E c tk => (DBQ.cons (DSQ.expr (DEQ.cl c tk Q_need_field (by decide) rfl (DA.cons (DE.var 0) DA.nil) (aLen_cons aLen_nil)))
  (DBQ.cons (DSQ.expr (DEQ.cl c tk Q_need_field (by decide) rfl (DA.cons (DE.var 1) DA.nil) (aLen_cons aLen_nil)))
  (DBQ.cons (DSQ.ite (DC.test (DC.op (opNe c) (DE.ix c (DE.var 1) DE.int) (DE.ix c (DE.var 0) DE.int)))
  (DBQ.one (DSQ.raise c tk G_BadField_1 T.sb_BadField T.ty_BadField (by decide) rfl (by decide) (DA.cons DE.str DA.nil) (aLen_cons aLen_nil))) (DBQ.lift DB.nil))
  (DBQ.one (DSQ.ite (DC.test (DC.op (opNe c) (DE.cl c L_plain_sides (by decide) rfl (DA.cons (DE.var 1) DA.nil) (aLen_cons aLen_nil)) (DE.cl c L_plain_sides (by decide) rfl (DA.cons (DE.var 0) DA.nil) (aLen_cons aLen_nil))))
  (DBQ.one (DSQ.raise c tk G_BadField_1 T.sb_BadField T.ty_BadField (by decide) rfl (by decide) (DA.cons DE.str DA.nil) (aLen_cons aLen_nil))) (DBQ.lift DB.nil))))))
abbrev ss_is_tool : Stmt := topS 43
theorem sc_is_tool : FnScope nn_is_tool ["thing"] (defScope ss_is_tool) := ⟨rfl, rfl, rfl, by decide +kernel, rfl, by decide +kernel, by decide +kernel⟩
abbrev FF_is_tool (K : PySem.W.Frag) (f : Addr) (fd : FuncData) : Prop := FunD K "is_tool" "is_tool" (defArgs ss_is_tool) (defBody ss_is_tool) (defScope ss_is_tool) [] [] f fd
theorem ok_is_tool (T : Txt ct K mg) (L_is_among : Lk P w K mg base "is_among" 2 ["thing", "least", "most"] ff_is_among) {f : Addr} {fd : FuncData} (F : FF_is_tool K f fd) : DFn P w K mg base 3 f fd ["thing"] ff_is_tool :=
  DFn.of F sc_is_tool fun c => (DB.cons (DS.ite (DW.test (DW.or (DT.not (DE.test (DE.callB c (cIsi c) T.n_isinstance (by decide +kernel) (DA.cons (DE.var 0) (DA.cons (DE.bltn c T.n_tuple (by decide +kernel) (v := .ty "tuple") rfl fun _ _ => .ty _) DA.nil))))) (DW.or1 (DC.test (DC.op (opNe c) (DE.callB c (cLen c) T.n_len (by decide +kernel) (DA.cons (DE.var 0) DA.nil)) DE.int)))))
  (DB.one (DS.ret DE.bool)) DB.nil)
  (DB.one (DS.ret (DE.and (DE.cl c L_is_among (by decide) rfl (DA.cons (DE.ix c (DE.var 0) DE.int) (DA.cons DE.int (DA.cons (DE.gv c T.g_MOST_TOOL) DA.nil))) (aLen_cons (aLen_cons (aLen_cons aLen_nil)))) (DE.one (DE.cl c L_is_among (by decide) rfl (DA.cons (DE.ix c (DE.var 0) DE.int) (DA.cons DE.int (DA.cons (DE.gv c T.g_MOST_LENGTH) DA.nil))) (aLen_cons (aLen_cons (aLen_cons aLen_nil)))))))))
abbrev ss_BadTools_init : Stmt := memD (topS 8) 0
theorem sc_BadTools_init : FnScope nn_BadTools_init ["self", "number"] (defScope ss_BadTools_init) := ⟨rfl, rfl, rfl, by decide +kernel, rfl, by decide +kernel, by decide +kernel⟩
abbrev FF_BadTools_init (K : PySem.W.Frag) (f : Addr) (fd : FuncData) : Prop := FunD K "__init__" "BadTools.__init__" (defArgs ss_BadTools_init) (defBody ss_BadTools_init) (defScope ss_BadTools_init) [.non] [] f fd
theorem ok_BadTools_init (T : Txt ct K mg) {f : Addr} {fd : FuncData} (F : FF_BadTools_init K f fd) : DFn P w K mg base 1 f fd ["self", "number"] (ff_BadTools_init ct) :=
  DFn.of F sc_BadTools_init fun c => (DB.one (DS.og T.okf c (DE.var 0) (DE.var 1)))
abbrev ss_need_tool : Stmt := topS 44
theorem sc_need_tool : FnScope nn_need_tool ["tool"] (defScope ss_need_tool) := ⟨rfl, rfl, rfl, by decide +kernel, rfl, by decide +kernel, by decide +kernel⟩
abbrev FF_need_tool (K : PySem.W.Frag) (f : Addr) (fd : FuncData) : Prop := FunD K "need_tool" "need_tool" (defArgs ss_need_tool) (defBody ss_need_tool) (defScope ss_need_tool) [] [] f fd
theorem ok_need_tool (T : Txt ct K mg) (L_is_tool : Lk P w K mg base "is_tool" 3 ["thing"] ff_is_tool) (G_BadTools_1 : LkG P w K mg base "BadTools" 1 ["self", "number"] (ff_BadTools_init ct) ct.BadTools []) {f : Addr} {fd : FuncData} (F : FF_need_tool K f fd) : DFn P w K mg base 4 f fd ["tool"] (ff_need_tool ct) :=
  DFn.of F sc_need_tool fun c => (DB.one (DS.ite (DT.not (DE.test (DE.cl c L_is_tool (by decide) rfl (DA.cons (DE.var 0) DA.nil) (aLen_cons aLen_nil))))
  (DB.one DS.never) DB.nil))
theorem okq_need_tool (T : Txt ct K mg) (L_is_tool : Lk P w K mg base "is_tool" 3 ["thing"] ff_is_tool) (G_BadTools_1 : LkG P w K mg base "BadTools" 1 ["self", "number"] (ff_BadTools_init ct) ct.BadTools []) {f : Addr} {fd : FuncData} (F : FF_need_tool K f fd) : DFnQ P w K mg base 4 f fd ["tool"] (qq_need_tool ct) :=
  DFnQ.of F sc_need_tool fun E c tk => (DBQ.one (DSQ.ite (DT.not (DE.test (DE.cl c L_is_tool (by decide) rfl (DA.cons (DE.var 0) DA.nil) (aLen_cons aLen_nil))))
  (DBQ.one (DSQ.raise c tk G_BadTools_1 T.sb_BadTools T.ty_BadTools (by decide) rfl (by decide) (DA.cons DE.non DA.nil) (aLen_cons aLen_nil))) (DBQ.lift DB.nil)))
abbrev ss_is_place_of : Stmt := topS 46
theorem sc_is_place_of : FnScope nn_is_place_of ["sides", "tool", "thing"] (defScope ss_is_place_of) := ⟨rfl, rfl, rfl, by decide +kernel, rfl, by decide +kernel, by decide +kernel⟩
abbrev FF_is_place_of (K : PySem.W.Frag) (f : Addr) (fd : FuncData) : Prop := FunD K "is_place_of" "is_place_of" (defArgs ss_is_place_of) (defBody ss_is_place_of) (defScope ss_is_place_of) [] [] f fd
theorem ok_is_place_of (T : Txt ct K mg) (L_is_among : Lk P w K mg base "is_among" 2 ["thing", "least", "most"] ff_is_among) {f : Addr} {fd : FuncData} (F : FF_is_place_of K f fd) : DFn P w K mg base 3 f fd ["sides", "tool", "thing"] ff_is_place_of :=
  DFn.of F sc_is_place_of fun c => (DB.cons (DS.ite (DW.test (DW.or (DT.not (DE.test (DE.callB c (cIsi c) T.n_isinstance (by decide +kernel) (DA.cons (DE.var 2) (DA.cons (DE.bltn c T.n_tuple (by decide +kernel) (v := .ty "tuple") rfl fun _ _ => .ty _) DA.nil))))) (DW.or1 (DC.test (DC.op (opNe c) (DE.callB c (cLen c) T.n_len (by decide +kernel) (DA.cons (DE.var 2) DA.nil)) DE.int)))))
  (DB.one (DS.ret DE.bool)) DB.nil)
  (DB.one (DS.ret (DE.callB c (cAll c) T.n_all (by decide +kernel) (DA.cons (DE.lc c (own := [("at", 3), ("many", 4)]) (fun _ => sc_is_place_of.nd) (DI.zip c T.n_zip (DA.cons (DE.var 2) (DA.cons (DE.var 0) DA.nil))) (fun _ => blkOk_by (N := nn_is_place_of) (by rfl)) (DG.tup (c.blk _) (DGs.cons (DG.name 3 fun _ => sc_is_place_of.nd) (DGs.cons (DG.name 4 fun _ => sc_is_place_of.nd) DGs.nil))) (by decide) DTs.nil (DE.cl (c.blk _) L_is_among (by decide) rfl (DA.cons (DE.var 3) (DA.cons (DE.op opSub DE.int (DE.ix (c.blk _) (DE.var 1) DE.int)) (DA.cons (DE.op opSub (DE.var 4) DE.int) DA.nil))) (aLen_cons (aLen_cons (aLen_cons aLen_nil))))) DA.nil)))))
abbrev ss_need_place : Stmt := topS 47
theorem sc_need_place : FnScope nn_need_place ["sides", "tool", "place"] (defScope ss_need_place) := ⟨rfl, rfl, rfl, by decide +kernel, rfl, by decide +kernel, by decide +kernel⟩
abbrev FF_need_place (K : PySem.W.Frag) (f : Addr) (fd : FuncData) : Prop := FunD K "need_place" "need_place" (defArgs ss_need_place) (defBody ss_need_place) (defScope ss_need_place) [] [] f fd
theorem ok_need_place (T : Txt ct K mg) (L_is_place_of : Lk P w K mg base "is_place_of" 3 ["sides", "tool", "thing"] ff_is_place_of) {f : Addr} {fd : FuncData} (F : FF_need_place K f fd) : DFn P w K mg base 4 f fd ["sides", "tool", "place"] (ff_need_place ct) :=
  DFn.of F sc_need_place fun c => (DB.one (DS.ite (DT.not (DE.test (DE.cl c L_is_place_of (by decide) rfl (DA.cons (DE.var 0) (DA.cons (DE.var 1) (DA.cons (DE.var 2) DA.nil))) (aLen_cons (aLen_cons (aLen_cons aLen_nil))))))
  (DB.one DS.never) DB.nil))
theorem okq_need_place (T : Txt ct K mg) (L_is_place_of : Lk P w K mg base "is_place_of" 3 ["sides", "tool", "thing"] ff_is_place_of) {f : Addr} {fd : FuncData} (F : FF_need_place K f fd) : DFnQ P w K mg base 4 f fd ["sides", "tool", "place"] (qq_need_place ct) :=
  DFnQ.of F sc_need_place fun E c tk => (DBQ.one (DSQ.ite (DT.not (DE.test (DE.cl c L_is_place_of (by decide) rfl (DA.cons (DE.var 0) (DA.cons (DE.var 1) (DA.cons (DE.var 2) DA.nil))) (aLen_cons (aLen_cons (aLen_cons aLen_nil))))))
  (DBQ.one (DSQ.raiseT c tk T.t_OutOfPlace T.sb_OutOfPlace T.ty_OutOfPlace)) (DBQ.lift DB.nil)))
abbrev ss_need_seat : Stmt := topS 53
theorem sc_need_seat : FnScope nn_need_seat ["field", "tool", "place"] (defScope ss_need_seat) := ⟨rfl, rfl, rfl, by decide +kernel, rfl, by decide +kernel, by decide +kernel⟩
abbrev FF_need_seat (K : PySem.W.Frag) (f : Addr) (fd : FuncData) : Prop := FunD K "_need_seat" "_need_seat" (defArgs ss_need_seat) (defBody ss_need_seat) (defScope ss_need_seat) [] [] f fd
theorem ok_need_seat (T : Txt ct K mg) (L_need_field : Lk P w K mg base "need_field" 3 ["field"] (ff_need_field ct)) (L_need_tool : Lk P w K mg base "need_tool" 4 ["tool"] (ff_need_tool ct)) (L_plain_sides : Lk P w K mg base "plain_sides" 1 ["field"] ff_plain_sides) (L_need_place : Lk P w K mg base "need_place" 4 ["sides", "tool", "place"] (ff_need_place ct)) (Q_need_field : LkQ P w K mg base "need_field" 3 ["field"] (qq_need_field ct)) (Q_need_tool : LkQ P w K mg base "need_tool" 4 ["tool"] (qq_need_tool ct)) (Q_need_place : LkQ P w K mg base "need_place" 4 ["sides", "tool", "place"] (qq_need_place ct)) {f : Addr} {fd : FuncData} (F : FF_need_seat K f fd) : DFn P w K mg base 5 f fd ["field", "tool", "place"] (ff_need_seat ct) :=
  DFn.of F sc_need_seat fun c => (DB.cons (DS.expr (DE.cl c L_need_field (by decide) rfl (DA.cons (DE.var 0) DA.nil) (aLen_cons aLen_nil)))
  (DB.cons (DS.expr (DE.cl c L_need_tool (by decide) rfl (DA.cons (DE.var 1) DA.nil) (aLen_cons aLen_nil)))
  (DB.one (DS.expr (DE.cl c L_need_place (by decide) rfl (DA.cons (DE.cl c L_plain_sides (by decide) rfl (DA.cons (DE.var 0) DA.nil) (aLen_cons aLen_nil)) (DA.cons (DE.var 1) (DA.cons (DE.var 2) DA.nil))) (aLen_cons (aLen_cons (aLen_cons aLen_nil))))))))
theorem okq_need_seat (T : Txt ct K mg) (L_need_field : Lk P w K mg base "need_field" 3 ["field"] (ff_need_field ct)) (L_need_tool : Lk P w K mg base "need_tool" 4 ["tool"] (ff_need_tool ct)) (L_plain_sides : Lk P w K mg base "plain_sides" 1 ["field"] ff_plain_sides) (L_need_place : Lk P w K mg base "need_place" 4 ["sides", "tool", "place"] (ff_need_place ct)) (Q_need_field : LkQ P w K mg base "need_field" 3 ["field"] (qq_need_field ct)) (Q_need_tool : LkQ P w K mg base "need_tool" 4 ["tool"] (qq_need_tool ct)) (Q_need_place : LkQ P w K mg base "need_place" 4 ["sides", "tool", "place"] (qq_need_place ct)) {f : Addr} {fd : FuncData} (F : FF_need_seat K f fd) : DFnQ P w K mg base 5 f fd ["field", "tool", "place"] (qq_need_seat ct) :=
  DFnQ.of F sc_need_seat fun E c tk => (DBQ.cons (DSQ.expr (DEQ.cl c tk Q_need_field (by decide) rfl (DA.cons (DE.var 0) DA.nil) (aLen_cons aLen_nil)))
  (DBQ.cons (DSQ.expr (DEQ.cl c tk Q_need_tool (by decide) rfl (DA.cons (DE.var 1) DA.nil) (aLen_cons aLen_nil)))
  (DBQ.one (DSQ.expr (DEQ.cl c tk Q_need_place (by decide) rfl (DA.cons (DE.cl c L_plain_sides (by decide) rfl (DA.cons (DE.var 0) DA.nil) (aLen_cons aLen_nil)) (DA.cons (DE.var 1) (DA.cons (DE.var 2) DA.nil))) (aLen_cons (aLen_cons (aLen_cons aLen_nil))))))))
abbrev ss_need_height : Stmt := topS 48
theorem sc_need_height : FnScope nn_need_height ["field", "height"] (defScope ss_need_height) := ⟨rfl, rfl, rfl, by decide +kernel, rfl, by decide +kernel, by decide +kernel⟩
abbrev FF_need_height (K : PySem.W.Frag) (f : Addr) (fd : FuncData) : Prop := FunD K "need_height" "need_height" (defArgs ss_need_height) (defBody ss_need_height) (defScope ss_need_height) [] [] f fd
theorem ok_need_height (T : Txt ct K mg) (L_is_among : Lk P w K mg base "is_among" 2 ["thing", "least", "most"] ff_is_among) {f : Addr} {fd : FuncData} (F : FF_need_height K f fd) : DFn P w K mg base 3 f fd ["field", "height"] (ff_need_height ct) :=
  DFn.of F sc_need_height fun c => (DB.one (DS.ite (DT.not (DE.test (DE.cl c L_is_among (by decide) rfl (DA.cons (DE.var 1) (DA.cons DE.int (DA.cons (DE.ix c (DE.var 0) DE.int) DA.nil))) (aLen_cons (aLen_cons (aLen_cons aLen_nil))))))
  (DB.one DS.never) DB.nil))
theorem okq_need_height (T : Txt ct K mg) (L_is_among : Lk P w K mg base "is_among" 2 ["thing", "least", "most"] ff_is_among) {f : Addr} {fd : FuncData} (F : FF_need_height K f fd) : DFnQ P w K mg base 3 f fd ["field", "height"] (qq_need_height ct) :=
  DFnQ.of F sc_need_height fun E c tk => (DBQ.one (DSQ.ite (DT.not (DE.test (DE.cl c L_is_among (by decide) rfl (DA.cons (DE.var 1) (DA.cons DE.int (DA.cons (DE.ix c (DE.var 0) DE.int) DA.nil))) (aLen_cons (aLen_cons (aLen_cons aLen_nil))))))
  (DBQ.one (DSQ.raiseT c tk T.t_OutOfPlace T.sb_OutOfPlace T.ty_OutOfPlace)) (DBQ.lift DB.nil)))
abbrev ss_cells_between : Stmt := topS 54
theorem sc_cells_between : FnScope nn_cells_between ["sides", "first", "last"] (defScope ss_cells_between) := ⟨rfl, rfl, rfl, by decide +kernel, rfl, by decide +kernel, by decide +kernel⟩
abbrev FF_cells_between (K : PySem.W.Frag) (f : Addr) (fd : FuncData) : Prop := FunD K "_cells_between" "_cells_between" (defArgs ss_cells_between) (defBody ss_cells_between) (defScope ss_cells_between) [] [] f fd
theorem ok_cells_between (T : Txt ct K mg) {f : Addr} {fd : FuncData} (F : FF_cells_between K f fd) : DFn P w K mg base 1 f fd ["sides", "first", "last"] ff_cells_between :=
  DFn.of F sc_cells_between fun c => (DB.cons (DS.asg (DE.tup (DA.cons (DE.var 1) (DA.cons (DE.var 2) DA.nil))) (DG.tup c (DGs.cons (DG.tup c (DGs.cons (DG.name 3 fun _ => sc_cells_between.nd) (DGs.cons (DG.name 4 fun _ => sc_cells_between.nd) DGs.nil))) (DGs.cons (DG.tup c (DGs.cons (DG.name 5 fun _ => sc_cells_between.nd) (DGs.cons (DG.name 6 fun _ => sc_cells_between.nd) DGs.nil))) DGs.nil))))
  (DB.cons (DS.asg (DE.var 0) (DG.tup c (DGs.cons (DG.name 7 fun _ => sc_cells_between.nd) (DGs.cons (DG.name 8 fun _ => sc_cells_between.nd) DGs.nil))))
  (DB.one (DS.ret (DE.lc2 c (own := [("i", 9), ("j", 10)]) (vs1 := [10]) (fun _ => sc_cells_between.nd) (DI.rng2 c T.n_range (DA.cons (DE.callB c (cMax2 c) T.n_max (by decide +kernel) (DA.cons (DE.var 3) (DA.cons DE.int DA.nil))) (DA.cons (DE.callB c (cMin2 c) T.n_min (by decide +kernel) (DA.cons (DE.var 5) (DA.cons (DE.var 7) DA.nil))) DA.nil))) (fun _ => blkOk_by (N := nn_cells_between) (by rfl)) (DG.name 9 fun _ => sc_cells_between.nd) (by decide) DTs.nil (DI.rng2 (c.blk _) T.n_range (DA.cons (DE.callB (c.blk _) (cMax2 (c.blk _)) T.n_max (by decide +kernel) (DA.cons (DE.var 4) (DA.cons DE.int DA.nil))) (DA.cons (DE.callB (c.blk _) (cMin2 (c.blk _)) T.n_min (by decide +kernel) (DA.cons (DE.var 6) (DA.cons (DE.var 8) DA.nil))) DA.nil))) (DG.name 10 fun _ => sc_cells_between.nd) (by decide) (by decide) DTs.nil (DE.tup (DA.cons (DE.var 9) (DA.cons (DE.var 10) DA.nil))))))))
abbrev ss_plain_under : Stmt := topS 49
theorem sc_plain_under : FnScope nn_plain_under ["sides", "tool", "place"] (defScope ss_plain_under) := ⟨rfl, rfl, rfl, by decide +kernel, rfl, by decide +kernel, by decide +kernel⟩
abbrev FF_plain_under (K : PySem.W.Frag) (f : Addr) (fd : FuncData) : Prop := FunD K "plain_under" "plain_under" (defArgs ss_plain_under) (defBody ss_plain_under) (defScope ss_plain_under) [] [] f fd
theorem ok_plain_under (T : Txt ct K mg) (L_cells_between : Lk P w K mg base "_cells_between" 1 ["sides", "first", "last"] ff_cells_between) {f : Addr} {fd : FuncData} (F : FF_plain_under K f fd) : DFn P w K mg base 2 f fd ["sides", "tool", "place"] ff_plain_under :=
  DFn.of F sc_plain_under fun c => (DB.cons (DS.asg (DE.var 2) (DG.tup c (DGs.cons (DG.name 3 fun _ => sc_plain_under.nd) (DGs.cons (DG.name 4 fun _ => sc_plain_under.nd) DGs.nil))))
  (DB.one (DS.ret (DE.callTy c (cTupOf c) T.n_tuple (by decide +kernel) (DA.cons (DE.cl c L_cells_between (by decide) rfl (DA.cons (DE.var 0) (DA.cons (DE.var 2) (DA.cons (DE.tup (DA.cons (DE.op (opAdd4 c) (DE.var 3) (DE.ix c (DE.var 1) DE.int)) (DA.cons (DE.op (opAdd4 c) (DE.var 4) (DE.ix c (DE.var 1) DE.int)) DA.nil))) DA.nil))) (aLen_cons (aLen_cons (aLen_cons aLen_nil)))) DA.nil)))))
abbrev ss_plain_ring : Stmt := topS 50
theorem sc_plain_ring : FnScope nn_plain_ring ["sides", "tool", "place"] (defScope ss_plain_ring) := ⟨rfl, rfl, rfl, by decide +kernel, rfl, by decide +kernel, by decide +kernel⟩
abbrev FF_plain_ring (K : PySem.W.Frag) (f : Addr) (fd : FuncData) : Prop := FunD K "plain_ring" "plain_ring" (defArgs ss_plain_ring) (defBody ss_plain_ring) (defScope ss_plain_ring) [] [] f fd
theorem ok_plain_ring (T : Txt ct K mg) (L_plain_under : Lk P w K mg base "plain_under" 2 ["sides", "tool", "place"] ff_plain_under) (L_cells_between : Lk P w K mg base "_cells_between" 1 ["sides", "first", "last"] ff_cells_between) {f : Addr} {fd : FuncData} (F : FF_plain_ring K f fd) : DFn P w K mg base 3 f fd ["sides", "tool", "place"] ff_plain_ring :=
  DFn.of F sc_plain_ring fun c => (DB.cons (DS.asg (DE.var 2) (DG.tup c (DGs.cons (DG.name 3 fun _ => sc_plain_ring.nd) (DGs.cons (DG.name 4 fun _ => sc_plain_ring.nd) DGs.nil))))
  (DB.cons (DS.set 5 (DE.cl c L_plain_under (by decide) rfl (DA.cons (DE.var 0) (DA.cons (DE.var 1) (DA.cons (DE.var 2) DA.nil))) (aLen_cons (aLen_cons (aLen_cons aLen_nil)))) (fun _ => sc_plain_ring.nd))
  (DB.cons (DS.set 6 (DE.cl c L_cells_between (by decide) rfl (DA.cons (DE.var 0) (DA.cons (DE.tup (DA.cons (DE.op opSub (DE.var 3) DE.int) (DA.cons (DE.op opSub (DE.var 4) DE.int) DA.nil))) (DA.cons (DE.tup (DA.cons (DE.op (opAdd4 c) (DE.op (opAdd4 c) (DE.var 3) (DE.ix c (DE.var 1) DE.int)) DE.int) (DA.cons (DE.op (opAdd4 c) (DE.op (opAdd4 c) (DE.var 4) (DE.ix c (DE.var 1) DE.int)) DE.int) DA.nil))) DA.nil))) (aLen_cons (aLen_cons (aLen_cons aLen_nil)))) (fun _ => sc_plain_ring.nd))
  (DB.one (DS.ret (DE.callTy c (cTupOf c) T.n_tuple (by decide +kernel) (DA.cons (DE.lc c (own := [("cell", 7)]) (fun _ => sc_plain_ring.nd) (DI.seq c (DE.var 6)) (fun _ => blkOk_by (N := nn_plain_ring) (by rfl)) (DG.name 7 fun _ => sc_plain_ring.nd) (by decide) (DTs.one (DC.test (DC.op (opNotIn (c.blk _)) (DE.var 7) (DE.var 5)))) (DE.var 7)) DA.nil)))))))
abbrev ss_first_of_ring : Stmt := topS 52
theorem sc_first_of_ring : FnScope nn_first_of_ring ["stock", "tool", "place", "height"] (defScope ss_first_of_ring) := ⟨rfl, rfl, rfl, by decide +kernel, rfl, by decide +kernel, by decide +kernel⟩
abbrev FF_first_of_ring (K : PySem.W.Frag) (f : Addr) (fd : FuncData) : Prop := FunD K "first_of_ring" "first_of_ring" (defArgs ss_first_of_ring) (defBody ss_first_of_ring) (defScope ss_first_of_ring) [] [] f fd
theorem ok_first_of_ring (T : Txt ct K mg) (L_plain_sides : Lk P w K mg base "plain_sides" 1 ["field"] ff_plain_sides) (L_plain_ring : Lk P w K mg base "plain_ring" 3 ["sides", "tool", "place"] ff_plain_ring) (L_height_of : Lk P w K mg base "height_of" 1 ["field", "cell"] ff_height_of) {f : Addr} {fd : FuncData} (F : FF_first_of_ring K f fd) : DFn P w K mg base 4 f fd ["stock", "tool", "place", "height"] ff_first_of_ring :=
  DFn.of F sc_first_of_ring fun c => (DB.cons (DS.for c (by first | exact fun _ => PassesOwn.never | exact fun _ => PassesOwn.leaving) (DI.seq c (DE.cl c L_plain_ring (by decide) rfl (DA.cons (DE.cl c L_plain_sides (by decide) rfl (DA.cons (DE.var 0) DA.nil) (aLen_cons aLen_nil)) (DA.cons (DE.var 1) (DA.cons (DE.var 2) DA.nil))) (aLen_cons (aLen_cons (aLen_cons aLen_nil))))) (DG.name 4 fun _ => sc_first_of_ring.nd)
  (DB.one (DS.ite (DC.test (DC.op opGt (DE.cl c L_height_of (by decide) rfl (DA.cons (DE.var 0) (DA.cons (DE.var 4) DA.nil)) (aLen_cons (aLen_cons aLen_nil))) (DE.op (opAdd4 c) (DE.var 3) (DE.ix c (DE.var 1) DE.int))))
  (DB.one (DS.ret (DE.var 4))) DB.nil)))
  (DB.one (DS.ret DE.non)))
abbrev ss_first_in_way : Stmt := topS 51
theorem sc_first_in_way : FnScope nn_first_in_way ["field", "stock", "tool", "place", "height"] (defScope ss_first_in_way) := ⟨rfl, rfl, rfl, by decide +kernel, rfl, by decide +kernel, by decide +kernel⟩
abbrev FF_first_in_way (K : PySem.W.Frag) (f : Addr) (fd : FuncData) : Prop := FunD K "first_in_way" "first_in_way" (defArgs ss_first_in_way) (defBody ss_first_in_way) (defScope ss_first_in_way) [] [] f fd
theorem ok_first_in_way (T : Txt ct K mg) (L_plain_sides : Lk P w K mg base "plain_sides" 1 ["field"] ff_plain_sides) (L_plain_under : Lk P w K mg base "plain_under" 2 ["sides", "tool", "place"] ff_plain_under) (L_height_of : Lk P w K mg base "height_of" 1 ["field", "cell"] ff_height_of) (L_first_of_ring : Lk P w K mg base "first_of_ring" 4 ["stock", "tool", "place", "height"] ff_first_of_ring) {f : Addr} {fd : FuncData} (F : FF_first_in_way K f fd) : DFn P w K mg base 5 f fd ["field", "stock", "tool", "place", "height"] ff_first_in_way :=
  DFn.of F sc_first_in_way fun c => (DB.cons (DS.set 5 (DE.cl c L_plain_sides (by decide) rfl (DA.cons (DE.var 0) DA.nil) (aLen_cons aLen_nil)) (fun _ => sc_first_in_way.nd))
  (DB.cons (DS.for c (by first | exact fun _ => PassesOwn.never | exact fun _ => PassesOwn.leaving) (DI.seq c (DE.cl c L_plain_under (by decide) rfl (DA.cons (DE.var 5) (DA.cons (DE.var 2) (DA.cons (DE.var 3) DA.nil))) (aLen_cons (aLen_cons (aLen_cons aLen_nil))))) (DG.name 6 fun _ => sc_first_in_way.nd)
  (DB.one (DS.ite (DC.test (DC.op opGt (DE.cl c L_height_of (by decide) rfl (DA.cons (DE.var 0) (DA.cons (DE.var 6) DA.nil)) (aLen_cons (aLen_cons aLen_nil))) (DE.var 4)))
  (DB.one (DS.ret (DE.var 6))) DB.nil)))
  (DB.one (DS.ret (DE.cl c L_first_of_ring (by decide) rfl (DA.cons (DE.var 1) (DA.cons (DE.var 2) (DA.cons (DE.var 3) (DA.cons (DE.var 4) DA.nil)))) (aLen_cons (aLen_cons (aLen_cons (aLen_cons aLen_nil)))))))))
abbrev ss_may_stand : Stmt := topS 40
theorem sc_may_stand : FnScope nn_may_stand ["field", "stock", "tool", "place", "height"] (defScope ss_may_stand) := ⟨rfl, rfl, rfl, by decide +kernel, rfl, by decide +kernel, by decide +kernel⟩
abbrev FF_may_stand (K : PySem.W.Frag) (f : Addr) (fd : FuncData) : Prop := FunD K "may_stand" "may_stand" (defArgs ss_may_stand) (defBody ss_may_stand) (defScope ss_may_stand) [] [] f fd
theorem ok_may_stand (T : Txt ct K mg) (L_need_stock : Lk P w K mg base "need_stock" 4 ["field", "stock"] (ff_need_stock ct)) (L_need_seat : Lk P w K mg base "_need_seat" 5 ["field", "tool", "place"] (ff_need_seat ct)) (L_need_height : Lk P w K mg base "need_height" 3 ["field", "height"] (ff_need_height ct)) (L_first_in_way : Lk P w K mg base "first_in_way" 5 ["field", "stock", "tool", "place", "height"] ff_first_in_way) (Q_need_stock : LkQ P w K mg base "need_stock" 4 ["field", "stock"] (qq_need_stock ct)) (Q_need_seat : LkQ P w K mg base "_need_seat" 5 ["field", "tool", "place"] (qq_need_seat ct)) (Q_need_height : LkQ P w K mg base "need_height" 3 ["field", "height"] (qq_need_height ct)) {f : Addr} {fd : FuncData} (F : FF_may_stand K f fd) : DFn P w K mg base 6 f fd ["field", "stock", "tool", "place", "height"] (ff_may_stand ct) :=
  DFn.of F sc_may_stand fun c => (DB.cons (DS.expr (DE.cl c L_need_stock (by decide) rfl (DA.cons (DE.var 0) (DA.cons (DE.var 1) DA.nil)) (aLen_cons (aLen_cons aLen_nil))))
  (DB.cons (DS.expr (DE.cl c L_need_seat (by decide) rfl (DA.cons (DE.var 0) (DA.cons (DE.var 2) (DA.cons (DE.var 3) DA.nil))) (aLen_cons (aLen_cons (aLen_cons aLen_nil)))))
  (DB.cons (DS.expr (DE.cl c L_need_height (by decide) rfl (DA.cons (DE.var 0) (DA.cons (DE.var 4) DA.nil)) (aLen_cons (aLen_cons aLen_nil))))
  (DB.one (DS.ret (DC.val (DC.op opIsN (DE.cl c L_first_in_way (by decide) rfl (DA.cons (DE.var 0) (DA.cons (DE.var 1) (DA.cons (DE.var 2) (DA.cons (DE.var 3) (DA.cons (DE.var 4) DA.nil))))) (aLen_cons (aLen_cons (aLen_cons (aLen_cons (aLen_cons aLen_nil)))))) DE.non)))))))
theorem okq_may_stand (T : Txt ct K mg) (L_need_stock : Lk P w K mg base "need_stock" 4 ["field", "stock"] (ff_need_stock ct)) (L_need_seat : Lk P w K mg base "_need_seat" 5 ["field", "tool", "place"] (ff_need_seat ct)) (L_need_height : Lk P w K mg base "need_height" 3 ["field", "height"] (ff_need_height ct)) (L_first_in_way : Lk P w K mg base "first_in_way" 5 ["field", "stock", "tool", "place", "height"] ff_first_in_way) (Q_need_stock : LkQ P w K mg base "need_stock" 4 ["field", "stock"] (qq_need_stock ct)) (Q_need_seat : LkQ P w K mg base "_need_seat" 5 ["field", "tool", "place"] (qq_need_seat ct)) (Q_need_height : LkQ P w K mg base "need_height" 3 ["field", "height"] (qq_need_height ct)) {f : Addr} {fd : FuncData} (F : FF_may_stand K f fd) : DFnQ P w K mg base 6 f fd ["field", "stock", "tool", "place", "height"] (qq_may_stand ct) :=
  DFnQ.of F sc_may_stand fun E c tk => (DBQ.cons (DSQ.expr (DEQ.cl c tk Q_need_stock (by decide) rfl (DA.cons (DE.var 0) (DA.cons (DE.var 1) DA.nil)) (aLen_cons (aLen_cons aLen_nil))))
  (DBQ.cons (DSQ.expr (DEQ.cl c tk Q_need_seat (by decide) rfl (DA.cons (DE.var 0) (DA.cons (DE.var 2) (DA.cons (DE.var 3) DA.nil))) (aLen_cons (aLen_cons (aLen_cons aLen_nil)))))
  (DBQ.cons (DSQ.expr (DEQ.cl c tk Q_need_height (by decide) rfl (DA.cons (DE.var 0) (DA.cons (DE.var 4) DA.nil)) (aLen_cons (aLen_cons aLen_nil))))
  (DBQ.lift (DB.one (DS.ret (DC.val (DC.op opIsN (DE.cl c L_first_in_way (by decide) rfl (DA.cons (DE.var 0) (DA.cons (DE.var 1) (DA.cons (DE.var 2) (DA.cons (DE.var 3) (DA.cons (DE.var 4) DA.nil))))) (aLen_cons (aLen_cons (aLen_cons (aLen_cons (aLen_cons aLen_nil)))))) DE.non))))))))
abbrev ss_lowest : Stmt := topS 41
theorem sc_lowest : FnScope nn_lowest ["field", "stock", "tool", "place"] (defScope ss_lowest) := ⟨rfl, rfl, rfl, by decide +kernel, rfl, by decide +kernel, by decide +kernel⟩
abbrev FF_lowest (K : PySem.W.Frag) (f : Addr) (fd : FuncData) : Prop := FunD K "lowest" "lowest" (defArgs ss_lowest) (defBody ss_lowest) (defScope ss_lowest) [] [] f fd
theorem ok_lowest (T : Txt ct K mg) (L_need_stock : Lk P w K mg base "need_stock" 4 ["field", "stock"] (ff_need_stock ct)) (L_need_seat : Lk P w K mg base "_need_seat" 5 ["field", "tool", "place"] (ff_need_seat ct)) (L_plain_sides : Lk P w K mg base "plain_sides" 1 ["field"] ff_plain_sides) (L_plain_under : Lk P w K mg base "plain_under" 2 ["sides", "tool", "place"] ff_plain_under) (L_height_of : Lk P w K mg base "height_of" 1 ["field", "cell"] ff_height_of) (L_plain_ring : Lk P w K mg base "plain_ring" 3 ["sides", "tool", "place"] ff_plain_ring) (Q_need_stock : LkQ P w K mg base "need_stock" 4 ["field", "stock"] (qq_need_stock ct)) (Q_need_seat : LkQ P w K mg base "_need_seat" 5 ["field", "tool", "place"] (qq_need_seat ct)) {f : Addr} {fd : FuncData} (F : FF_lowest K f fd) : DFn P w K mg base 6 f fd ["field", "stock", "tool", "place"] (ff_lowest ct) :=
  DFn.of F sc_lowest fun c => (DB.cons (DS.expr (DE.cl c L_need_stock (by decide) rfl (DA.cons (DE.var 0) (DA.cons (DE.var 1) DA.nil)) (aLen_cons (aLen_cons aLen_nil))))
  (DB.cons (DS.expr (DE.cl c L_need_seat (by decide) rfl (DA.cons (DE.var 0) (DA.cons (DE.var 2) (DA.cons (DE.var 3) DA.nil))) (aLen_cons (aLen_cons (aLen_cons aLen_nil)))))
  (DB.cons (DS.set 4 (DE.cl c L_plain_sides (by decide) rfl (DA.cons (DE.var 0) DA.nil) (aLen_cons aLen_nil)) (fun _ => sc_lowest.nd))
  (DB.cons (DS.setLc 5 c (own := [("cell", 6)]) (fun _ => sc_lowest.nd) (DI.seq c (DE.cl c L_plain_under (by decide) rfl (DA.cons (DE.var 4) (DA.cons (DE.var 2) (DA.cons (DE.var 3) DA.nil))) (aLen_cons (aLen_cons (aLen_cons aLen_nil))))) (fun _ => blkOk_by (N := nn_lowest) (by rfl)) (DG.name 6 fun _ => sc_lowest.nd) (by decide) DTs.nil (DE.cl (c.blk _) L_height_of (by decide) rfl (DA.cons (DE.var 0) (DA.cons (DE.var 6) DA.nil)) (aLen_cons (aLen_cons aLen_nil))))
  (DB.cons (DS.setLc 7 c (own := [("cell", 6)]) (fun _ => sc_lowest.nd) (DI.seq c (DE.cl c L_plain_ring (by decide) rfl (DA.cons (DE.var 4) (DA.cons (DE.var 2) (DA.cons (DE.var 3) DA.nil))) (aLen_cons (aLen_cons (aLen_cons aLen_nil))))) (fun _ => blkOk_by (N := nn_lowest) (by rfl)) (DG.name 6 fun _ => sc_lowest.nd) (by decide) DTs.nil (DE.op opSub (DE.cl (c.blk _) L_height_of (by decide) rfl (DA.cons (DE.var 1) (DA.cons (DE.var 6) DA.nil)) (aLen_cons (aLen_cons aLen_nil))) (DE.ix (c.blk _) (DE.var 2) DE.int)))
  (DB.one (DS.ret (DE.callB c (cMaxL c) T.n_max (by decide +kernel) (DA.cons (DE.op (opAdd4 c) (DE.op (opAdd4 c) (DE.lst (DA.cons DE.int DA.nil)) (DE.var 5)) (DE.var 7)) DA.nil)))))))))
theorem okq_lowest (T : Txt ct K mg) (L_need_stock : Lk P w K mg base "need_stock" 4 ["field", "stock"] (ff_need_stock ct)) (L_need_seat : Lk P w K mg base "_need_seat" 5 ["field", "tool", "place"] (ff_need_seat ct)) (L_plain_sides : Lk P w K mg base "plain_sides" 1 ["field"] ff_plain_sides) (L_plain_under : Lk P w K mg base "plain_under" 2 ["sides", "tool", "place"] ff_plain_under) (L_height_of : Lk P w K mg base "height_of" 1 ["field", "cell"] ff_height_of) (L_plain_ring : Lk P w K mg base "plain_ring" 3 ["sides", "tool", "place"] ff_plain_ring) (Q_need_stock : LkQ P w K mg base "need_stock" 4 ["field", "stock"] (qq_need_stock ct)) (Q_need_seat : LkQ P w K mg base "_need_seat" 5 ["field", "tool", "place"] (qq_need_seat ct)) {f : Addr} {fd : FuncData} (F : FF_lowest K f fd) : DFnQ P w K mg base 6 f fd ["field", "stock", "tool", "place"] (qq_lowest ct) :=
  DFnQ.of F sc_lowest fun E c tk => (DBQ.cons (DSQ.expr (DEQ.cl c tk Q_need_stock (by decide) rfl (DA.cons (DE.var 0) (DA.cons (DE.var 1) DA.nil)) (aLen_cons (aLen_cons aLen_nil))))
  (DBQ.cons (DSQ.expr (DEQ.cl c tk Q_need_seat (by decide) rfl (DA.cons (DE.var 0) (DA.cons (DE.var 2) (DA.cons (DE.var 3) DA.nil))) (aLen_cons (aLen_cons (aLen_cons aLen_nil)))))
  (DBQ.lift (DB.cons (DS.set 4 (DE.cl c L_plain_sides (by decide) rfl (DA.cons (DE.var 0) DA.nil) (aLen_cons aLen_nil)) (fun _ => sc_lowest.nd))
  (DB.cons (DS.setLc 5 c (own := [("cell", 6)]) (fun _ => sc_lowest.nd) (DI.seq c (DE.cl c L_plain_under (by decide) rfl (DA.cons (DE.var 4) (DA.cons (DE.var 2) (DA.cons (DE.var 3) DA.nil))) (aLen_cons (aLen_cons (aLen_cons aLen_nil))))) (fun _ => blkOk_by (N := nn_lowest) (by rfl)) (DG.name 6 fun _ => sc_lowest.nd) (by decide) DTs.nil (DE.cl (c.blk _) L_height_of (by decide) rfl (DA.cons (DE.var 0) (DA.cons (DE.var 6) DA.nil)) (aLen_cons (aLen_cons aLen_nil))))
  (DB.cons (DS.setLc 7 c (own := [("cell", 6)]) (fun _ => sc_lowest.nd) (DI.seq c (DE.cl c L_plain_ring (by decide) rfl (DA.cons (DE.var 4) (DA.cons (DE.var 2) (DA.cons (DE.var 3) DA.nil))) (aLen_cons (aLen_cons (aLen_cons aLen_nil))))) (fun _ => blkOk_by (N := nn_lowest) (by rfl)) (DG.name 6 fun _ => sc_lowest.nd) (by decide) DTs.nil (DE.op opSub (DE.cl (c.blk _) L_height_of (by decide) rfl (DA.cons (DE.var 1) (DA.cons (DE.var 6) DA.nil)) (aLen_cons (aLen_cons aLen_nil))) (DE.ix (c.blk _) (DE.var 2) DE.int)))
  (DB.one (DS.ret (DE.callB c (cMaxL c) T.n_max (by decide +kernel) (DA.cons (DE.op (opAdd4 c) (DE.op (opAdd4 c) (DE.lst (DA.cons DE.int DA.nil)) (DE.var 5)) (DE.var 7)) DA.nil))))))))))
abbrev ss_solid : Stmt := topS 42
theorem sc_solid : FnScope nn_solid ["field"] (defScope ss_solid) := ⟨rfl, rfl, rfl, by decide +kernel, rfl, by decide +kernel, by decide +kernel⟩
abbrev FF_solid (K : PySem.W.Frag) (f : Addr) (fd : FuncData) : Prop := FunD K "solid" "solid" (defArgs ss_solid) (defBody ss_solid) (defScope ss_solid) [] [] f fd
theorem ok_solid (T : Txt ct K mg) (L_need_field : Lk P w K mg base "need_field" 3 ["field"] (ff_need_field ct)) {f : Addr} {fd : FuncData} (F : FF_solid K f fd) : DFn P w K mg base 4 f fd ["field"] (ff_solid ct) :=
  DFn.of F sc_solid fun c => (DB.cons (DS.expr (DE.cl c L_need_field (by decide) rfl (DA.cons (DE.var 0) DA.nil) (aLen_cons aLen_nil)))
  (DB.cons (DS.set 1 (DE.ix c (DE.var 0) DE.int) (fun _ => sc_solid.nd))
  (DB.one (DS.ret (DE.tup (DA.cons (DE.var 1) (DA.cons (DE.callTy c (cTupOf c) T.n_tuple (by decide +kernel) (DA.cons (DE.lc c (own := [("row", 3)]) (fun _ => sc_solid.nd) (DI.seq c (DE.ix c (DE.var 0) DE.int)) (fun _ => blkOk_by (N := nn_solid) (by rfl)) (DG.name 3 fun _ => sc_solid.nd) (by decide) DTs.nil (DE.callTy (c.blk _) (cTupOf (c.blk _)) T.n_tuple (by decide +kernel) (DA.cons (DE.lc (c.blk _) (own := [("_", 2)]) (fun _ => sc_solid.nd) (DI.seq (c.blk _) (DE.var 3)) (fun _ => blkOk_by (N := nn_solid) (by rfl)) (DG.name 2 fun _ => sc_solid.nd) (by decide) DTs.nil (DE.var 1)) DA.nil))) DA.nil)) DA.nil)))))))
abbrev ss_law_mixed : Stmt := topS 56
theorem sc_law_mixed : FnScope nn_law_mixed ["cell", "k"] (defScope ss_law_mixed) := ⟨rfl, rfl, rfl, by decide +kernel, rfl, by decide +kernel, by decide +kernel⟩
abbrev FF_law_mixed (K : PySem.W.Frag) (f : Addr) (fd : FuncData) : Prop := FunD K "_law_mixed" "_law_mixed" (defArgs ss_law_mixed) (defBody ss_law_mixed) (defScope ss_law_mixed) [] [] f fd
theorem ok_law_mixed (T : Txt ct K mg) {f : Addr} {fd : FuncData} (F : FF_law_mixed K f fd) : DFn P w K mg base 1 f fd ["cell", "k"] ff_law_mixed :=
  DFn.of F sc_law_mixed fun c => (DB.cons (DS.set 2 (DE.op (opAdd4 c) (DE.op (opAdd4 c) (DE.op opMod (DE.var 0) (DE.ix c (DE.lst (DA.cons DE.int (DA.cons DE.int (DA.cons DE.int (DA.cons DE.int DA.nil))))) (DE.op opMod (DE.var 1) DE.int))) (DE.op opMul2 DE.int (DE.var 1))) DE.int) (fun _ => sc_law_mixed.nd))
  (DB.one (DS.ret (DE.op opMod (DE.op opMul2 (DE.op opMod (DE.op opMul2 (DE.var 2) (DE.var 2)) DE.int) DE.int) DE.int))))
abbrev ss_law_draw : Stmt := topS 57
theorem sc_law_draw : FnScope nn_law_draw ["cell", "k"] (defScope ss_law_draw) := ⟨rfl, rfl, rfl, by decide +kernel, rfl, by decide +kernel, by decide +kernel⟩
abbrev FF_law_draw (K : PySem.W.Frag) (f : Addr) (fd : FuncData) : Prop := FunD K "_law_draw" "_law_draw" (defArgs ss_law_draw) (defBody ss_law_draw) (defScope ss_law_draw) [] [] f fd
theorem ok_law_draw (T : Txt ct K mg) {f : Addr} {fd : FuncData} (F : FF_law_draw K f fd) : DFn P w K mg base 1 f fd ["cell", "k"] ff_law_draw :=
  DFn.of F sc_law_draw fun c => (DB.one (DS.ret (DE.dic (DPs.cons DE.str (DE.ite (DC.test (DC.op opGe (DE.var 0) (DE.op opPow DE.int DE.int))) (DE.var 0) DE.int) (DPs.cons DE.str (DE.var 0) (DPs.cons DE.str (DE.op opMul2 DE.int (DE.var 1)) DPs.nil))))))
abbrev ss_law_digit : Stmt := topS 58
theorem sc_law_digit : FnScope nn_law_digit ["state", "many"] (defScope ss_law_digit) := ⟨rfl, rfl, rfl, by decide +kernel, rfl, by decide +kernel, by decide +kernel⟩
abbrev FF_law_digit (K : PySem.W.Frag) (f : Addr) (fd : FuncData) : Prop := FunD K "_law_digit" "_law_digit" (defArgs ss_law_digit) (defBody ss_law_digit) (defScope ss_law_digit) [] [] f fd
theorem ok_law_digit (T : Txt ct K mg) (L_law_mixed : Lk P w K mg base "_law_mixed" 1 ["cell", "k"] ff_law_mixed) {f : Addr} {fd : FuncData} (F : FF_law_digit K f fd) : DFn P w K mg base 2 f fd ["state", "many"] ff_law_digit :=
  DFn.of F sc_law_digit fun c => (DB.cons (DS.ite (DC.test (DC.op (opEq c) (DE.dgt c (DE.var 0) DE.str) DE.int))
  (DB.one (DS.for c (by first | exact fun _ => PassesOwn.never | exact fun _ => PassesOwn.leaving) (DI.rng1 c T.n_range (DA.cons DE.int DA.nil)) (DG.name 2 fun _ => sc_law_digit.nd)
  (DB.cons (DS.dput c (DE.var 0) DE.str (DE.op (opAdd4 c) (DE.dgt c (DE.var 0) DE.str) DE.int))
  (DB.one (DS.dput c (DE.var 0) DE.str (DE.op (opAdd4 c) (DE.op opMul2 (DE.dgt c (DE.var 0) DE.str) DE.int) (DE.cl c L_law_mixed (by decide) rfl (DA.cons (DE.dgt c (DE.var 0) DE.str) (DA.cons (DE.dgt c (DE.var 0) DE.str) DA.nil)) (aLen_cons (aLen_cons aLen_nil))))))))) DB.nil)
  (DB.cons (DS.set 3 (DE.op opMod (DE.dgt c (DE.var 0) DE.str) (DE.var 1)) (fun _ => sc_law_digit.nd))
  (DB.cons (DS.dput c (DE.var 0) DE.str (DE.op opDiv (DE.dgt c (DE.var 0) DE.str) (DE.var 1)))
  (DB.one (DS.ret (DE.var 3))))))
abbrev ss_law_a_field : Stmt := topS 59
theorem sc_law_a_field : FnScope nn_law_a_field ["state", "most"] (defScope ss_law_a_field) := ⟨rfl, rfl, rfl, by decide +kernel, rfl, by decide +kernel, by decide +kernel⟩
abbrev FF_law_a_field (K : PySem.W.Frag) (f : Addr) (fd : FuncData) : Prop := FunD K "_law_a_field" "_law_a_field" (defArgs ss_law_a_field) (defBody ss_law_a_field) (defScope ss_law_a_field) [] [] f fd
theorem ok_law_a_field (T : Txt ct K mg) (L_law_digit : Lk P w K mg base "_law_digit" 2 ["state", "many"] ff_law_digit) {f : Addr} {fd : FuncData} (F : FF_law_a_field K f fd) : DFn P w K mg base 3 f fd ["state", "most"] ff_law_a_field :=
  DFn.of F sc_law_a_field fun c => (DB.cons (DS.asg (DE.tup (DA.cons (DE.op (opAdd4 c) DE.int (DE.cl c L_law_digit (by decide) rfl (DA.cons (DE.var 0) (DA.cons (DE.var 1) DA.nil)) (aLen_cons (aLen_cons aLen_nil)))) (DA.cons (DE.op (opAdd4 c) DE.int (DE.cl c L_law_digit (by decide) rfl (DA.cons (DE.var 0) (DA.cons (DE.var 1) DA.nil)) (aLen_cons (aLen_cons aLen_nil)))) (DA.cons (DE.op (opAdd4 c) DE.int (DE.cl c L_law_digit (by decide) rfl (DA.cons (DE.var 0) (DA.cons DE.int DA.nil)) (aLen_cons (aLen_cons aLen_nil)))) DA.nil)))) (DG.tup c (DGs.cons (DG.name 2 fun _ => sc_law_a_field.nd) (DGs.cons (DG.name 3 fun _ => sc_law_a_field.nd) (DGs.cons (DG.name 4 fun _ => sc_law_a_field.nd) DGs.nil)))))
  (DB.cons (DS.setLc 5 c (own := [("j", 6)]) (fun _ => sc_law_a_field.nd) (DI.rng1 c T.n_range (DA.cons (DE.var 3) DA.nil)) (fun _ => blkOk_by (N := nn_law_a_field) (by rfl)) (DG.name 6 fun _ => sc_law_a_field.nd) (by decide) DTs.nil (DE.op opMulN (DE.lst (DA.cons (DE.var 4) DA.nil)) (DE.var 2)))
  (DB.cons (DS.for c (by first | exact fun _ => PassesOwn.never | exact fun _ => PassesOwn.leaving) (DI.rng1 c T.n_range (DA.cons (DE.cl c L_law_digit (by decide) rfl (DA.cons (DE.var 0) (DA.cons DE.int DA.nil)) (aLen_cons (aLen_cons aLen_nil))) DA.nil)) (DG.name 7 fun _ => sc_law_a_field.nd)
  (DB.cons (DS.par3 8 6 9 c (DE.cl c L_law_digit (by decide) rfl (DA.cons (DE.var 0) (DA.cons (DE.var 2) DA.nil)) (aLen_cons (aLen_cons aLen_nil))) (DE.cl c L_law_digit (by decide) rfl (DA.cons (DE.var 0) (DA.cons (DE.var 3) DA.nil)) (aLen_cons (aLen_cons aLen_nil))) (DE.cl c L_law_digit (by decide) rfl (DA.cons (DE.var 0) (DA.cons (DE.op (opAdd4 c) (DE.var 4) DE.int) DA.nil)) (aLen_cons (aLen_cons aLen_nil))) (fun _ => sc_law_a_field.nd))
  (DB.cons (DS.par 10 11 c (DE.op (opAdd4 c) (DE.op (opAdd4 c) (DE.var 8) DE.int) (DE.cl c L_law_digit (by decide) rfl (DA.cons (DE.var 0) (DA.cons (DE.op opSub (DE.var 2) (DE.var 8)) DA.nil)) (aLen_cons (aLen_cons aLen_nil)))) (DE.op (opAdd4 c) (DE.op (opAdd4 c) (DE.var 6) DE.int) (DE.cl c L_law_digit (by decide) rfl (DA.cons (DE.var 0) (DA.cons (DE.op opSub (DE.var 3) (DE.var 6)) DA.nil)) (aLen_cons (aLen_cons aLen_nil)))) (fun _ => sc_law_a_field.nd))
  (DB.one (DS.for c (by first | exact fun _ => PassesOwn.never | exact fun _ => PassesOwn.leaving) (DI.rng2 c T.n_range (DA.cons (DE.var 6) (DA.cons (DE.var 11) DA.nil))) (DG.name 12 fun _ => sc_law_a_field.nd)
  (DB.one (DS.for c (by first | exact fun _ => PassesOwn.never | exact fun _ => PassesOwn.leaving) (DI.rng2 c T.n_range (DA.cons (DE.var 8) (DA.cons (DE.var 10) DA.nil))) (DG.name 13 fun _ => sc_law_a_field.nd)
  (DB.one (DS.lput (DE.ix c (DE.var 5) (DE.var 12)) (DE.var 13) (DE.var 9))))))))))
  (DB.one (DS.ret (DE.tup (DA.cons (DE.var 4) (DA.cons (DE.callTy c (cTupOf c) T.n_tuple (by decide +kernel) (DA.cons (DE.lc c (own := [("row", 14)]) (fun _ => sc_law_a_field.nd) (DI.seq c (DE.var 5)) (fun _ => blkOk_by (N := nn_law_a_field) (by rfl)) (DG.name 14 fun _ => sc_law_a_field.nd) (by decide) DTs.nil (DE.callTy (c.blk _) (cTupOf (c.blk _)) T.n_tuple (by decide +kernel) (DA.cons (DE.var 14) DA.nil))) DA.nil)) DA.nil))))))))
abbrev ss_law_cells : Stmt := topS 61
theorem sc_law_cells : FnScope nn_law_cells ["field"] (defScope ss_law_cells) := ⟨rfl, rfl, rfl, by decide +kernel, rfl, by decide +kernel, by decide +kernel⟩
abbrev FF_law_cells (K : PySem.W.Frag) (f : Addr) (fd : FuncData) : Prop := FunD K "_law_cells" "_law_cells" (defArgs ss_law_cells) (defBody ss_law_cells) (defScope ss_law_cells) [] [] f fd
theorem ok_law_cells (T : Txt ct K mg) {f : Addr} {fd : FuncData} (F : FF_law_cells K f fd) : DFn P w K mg base 1 f fd ["field"] ff_law_cells :=
  DFn.of F sc_law_cells fun c => (DB.cons (DS.set 1 (DE.new DA.nil) (fun _ => sc_law_cells.nd))
  (DB.cons (DS.for c (by first | exact fun _ => PassesOwn.never | exact fun _ => PassesOwn.leaving) (DI.rng1 c T.n_range (DA.cons (DE.callB c (cLen c) T.n_len (by decide +kernel) (DA.cons (DE.ix c (DE.ix c (DE.var 0) DE.int) DE.int) DA.nil)) DA.nil)) (DG.name 2 fun _ => sc_law_cells.nd)
  (DB.one (DS.expr (DE.lmeth c mExt PySem.F.slot_list_extend PySem.F.type_list_extend (DE.var 1) (DA.cons (DE.lc c (own := [("j", 3)]) (fun _ => sc_law_cells.nd) (DI.rng1 c T.n_range (DA.cons (DE.callB c (cLen c) T.n_len (by decide +kernel) (DA.cons (DE.ix c (DE.var 0) DE.int) DA.nil)) DA.nil)) (fun _ => blkOk_by (N := nn_law_cells) (by rfl)) (DG.name 3 fun _ => sc_law_cells.nd) (by decide) DTs.nil (DE.tup (DA.cons (DE.var 2) (DA.cons (DE.var 3) DA.nil)))) DA.nil)))))
  (DB.one (DS.ret (DE.frz 1)))))
abbrev ss_law_spots : Stmt := topS 62
theorem sc_law_spots : FnScope nn_law_spots ["field", "side"] (defScope ss_law_spots) := ⟨rfl, rfl, rfl, by decide +kernel, rfl, by decide +kernel, by decide +kernel⟩
abbrev FF_law_spots (K : PySem.W.Frag) (f : Addr) (fd : FuncData) : Prop := FunD K "_law_spots" "_law_spots" (defArgs ss_law_spots) (defBody ss_law_spots) (defScope ss_law_spots) [] [] f fd
theorem ok_law_spots (T : Txt ct K mg) {f : Addr} {fd : FuncData} (F : FF_law_spots K f fd) : DFn P w K mg base 1 f fd ["field", "side"] ff_law_spots :=
  DFn.of F sc_law_spots fun c => (DB.cons (DS.set 2 (DE.new DA.nil) (fun _ => sc_law_spots.nd))
  (DB.cons (DS.for c (by first | exact fun _ => PassesOwn.never | exact fun _ => PassesOwn.leaving) (DI.rng2 c T.n_range (DA.cons (DE.op opSub DE.int (DE.var 1)) (DA.cons (DE.callB c (cLen c) T.n_len (by decide +kernel) (DA.cons (DE.ix c (DE.ix c (DE.var 0) DE.int) DE.int) DA.nil)) DA.nil))) (DG.name 3 fun _ => sc_law_spots.nd)
  (DB.one (DS.expr (DE.lmeth c mExt PySem.F.slot_list_extend PySem.F.type_list_extend (DE.var 2) (DA.cons (DE.lc c (own := [("j", 4)]) (fun _ => sc_law_spots.nd) (DI.rng2 c T.n_range (DA.cons (DE.op opSub DE.int (DE.var 1)) (DA.cons (DE.callB c (cLen c) T.n_len (by decide +kernel) (DA.cons (DE.ix c (DE.var 0) DE.int) DA.nil)) DA.nil))) (fun _ => blkOk_by (N := nn_law_spots) (by rfl)) (DG.name 4 fun _ => sc_law_spots.nd) (by decide) DTs.nil (DE.tup (DA.cons (DE.var 3) (DA.cons (DE.var 4) DA.nil)))) DA.nil)))))
  (DB.one (DS.ret (DE.frz 2)))))
abbrev ss_law_near : Stmt := topS 63
theorem sc_law_near : FnScope nn_law_near ["field", "spot", "side", "more"] (defScope ss_law_near) := ⟨rfl, rfl, rfl, by decide +kernel, rfl, by decide +kernel, by decide +kernel⟩
abbrev FF_law_near (K : PySem.W.Frag) (f : Addr) (fd : FuncData) : Prop := FunD K "_law_near" "_law_near" (defArgs ss_law_near) (defBody ss_law_near) (defScope ss_law_near) [] [] f fd
theorem ok_law_near (T : Txt ct K mg) (L_law_cells : Lk P w K mg base "_law_cells" 1 ["field"] ff_law_cells) {f : Addr} {fd : FuncData} (F : FF_law_near K f fd) : DFn P w K mg base 2 f fd ["field", "spot", "side", "more"] ff_law_near :=
  DFn.of F sc_law_near fun c => (DB.cons (DS.asg (DE.var 1) (DG.tup c (DGs.cons (DG.name 4 fun _ => sc_law_near.nd) (DGs.cons (DG.name 5 fun _ => sc_law_near.nd) DGs.nil))))
  (DB.cons (DS.set 6 (DE.new DA.nil) (fun _ => sc_law_near.nd))
  (DB.cons (DS.for c (by first | exact fun _ => PassesOwn.never | exact fun _ => PassesOwn.leaving) (DI.seq c (DE.cl c L_law_cells (by decide) rfl (DA.cons (DE.var 0) DA.nil) (aLen_cons aLen_nil))) (DG.tup c (DGs.cons (DG.name 7 fun _ => sc_law_near.nd) (DGs.cons (DG.name 8 fun _ => sc_law_near.nd) DGs.nil)))
  (DB.one (DS.ite (DW.test (DW.and (DC.test (DC.chain opLe opLt (DE.op opSub (DE.var 4) (DE.var 3)) (DE.var 7) (DE.op (opAdd4 c) (DE.op (opAdd4 c) (DE.var 4) (DE.var 2)) (DE.var 3)))) (DW.and1 (DC.test (DC.chain opLe opLt (DE.op opSub (DE.var 5) (DE.var 3)) (DE.var 8) (DE.op (opAdd4 c) (DE.op (opAdd4 c) (DE.var 5) (DE.var 2)) (DE.var 3)))))))
  (DB.one (DS.expr (DE.lmeth c mApp PySem.F.slot_list_append PySem.F.type_list_append (DE.var 6) (DA.cons (DE.tup (DA.cons (DE.var 7) (DA.cons (DE.var 8) DA.nil))) DA.nil)))) DB.nil)))
  (DB.one (DS.ret (DE.frz 6))))))
abbrev ss_law_aim : Stmt := topS 64
theorem sc_law_aim : FnScope nn_law_aim ["field", "cell"] (defScope ss_law_aim) := ⟨rfl, rfl, rfl, by decide +kernel, rfl, by decide +kernel, by decide +kernel⟩
abbrev FF_law_aim (K : PySem.W.Frag) (f : Addr) (fd : FuncData) : Prop := FunD K "_law_aim" "_law_aim" (defArgs ss_law_aim) (defBody ss_law_aim) (defScope ss_law_aim) [] [] f fd
theorem ok_law_aim (T : Txt ct K mg) {f : Addr} {fd : FuncData} (F : FF_law_aim K f fd) : DFn P w K mg base 1 f fd ["field", "cell"] ff_law_aim :=
  DFn.of F sc_law_aim fun c => (DB.one (DS.ret (DE.ix c (DE.ix c (DE.ix c (DE.var 0) DE.int) (DE.ix c (DE.var 1) DE.int)) (DE.ix c (DE.var 1) DE.int))))
abbrev ss_law_low : Stmt := topS 65
theorem sc_law_low : FnScope nn_law_low ["field", "heights", "one", "spot"] (defScope ss_law_low) := ⟨rfl, rfl, rfl, by decide +kernel, rfl, by decide +kernel, by decide +kernel⟩
abbrev FF_law_low (K : PySem.W.Frag) (f : Addr) (fd : FuncData) : Prop := FunD K "_law_low" "_law_low" (defArgs ss_law_low) (defBody ss_law_low) (defScope ss_law_low) [] [] f fd
theorem ok_law_low (T : Txt ct K mg) (L_law_near : Lk P w K mg base "_law_near" 2 ["field", "spot", "side", "more"] ff_law_near) (L_law_aim : Lk P w K mg base "_law_aim" 1 ["field", "cell"] ff_law_aim) {f : Addr} {fd : FuncData} (F : FF_law_low K f fd) : DFn P w K mg base 3 f fd ["field", "heights", "one", "spot"] ff_law_low :=
  DFn.of F sc_law_low fun c => (DB.cons (DS.set 4 (DE.cl c L_law_near (by decide) rfl (DA.cons (DE.var 0) (DA.cons (DE.var 3) (DA.cons (DE.ix c (DE.var 2) DE.int) (DA.cons DE.int DA.nil)))) (aLen_cons (aLen_cons (aLen_cons (aLen_cons aLen_nil))))) (fun _ => sc_law_low.nd))
  (DB.cons (DS.setLcN 5 c (own := [("cell", 6)]) (fun _ => sc_law_low.nd) (DI.seq c (DE.var 4)) (fun _ => blkOk_by (N := nn_law_low) (by rfl)) (DG.name 6 fun _ => sc_law_low.nd) (by decide) DTs.nil (DE.cl (c.blk _) L_law_aim (by decide) rfl (DA.cons (DE.var 0) (DA.cons (DE.var 6) DA.nil)) (aLen_cons (aLen_cons aLen_nil))))
  (DB.cons (DS.for c (by first | exact fun _ => PassesOwn.never | exact fun _ => PassesOwn.leaving) (DI.seq c (DE.cl c L_law_near (by decide) rfl (DA.cons (DE.var 0) (DA.cons (DE.var 3) (DA.cons (DE.ix c (DE.var 2) DE.int) (DA.cons DE.int DA.nil)))) (aLen_cons (aLen_cons (aLen_cons (aLen_cons aLen_nil)))))) (DG.name 6 fun _ => sc_law_low.nd)
  (DB.one (DS.ite (DC.test (DC.op (opNotIn c) (DE.var 6) (DE.var 4)))
  (DB.one (DS.expr (DE.lmeth c mApp PySem.F.slot_list_append PySem.F.type_list_append (DE.var 5) (DA.cons (DE.op opSub (DE.ixC c (DE.var 1) (DE.var 6)) (DE.ix c (DE.var 2) DE.int)) DA.nil)))) DB.nil)))
  (DB.one (DS.ret (DE.callB c (cMaxL c) T.n_max (by decide +kernel) (DA.cons (DE.op (opAdd4 c) (DE.lst (DA.cons DE.int DA.nil)) (DE.var 5)) DA.nil)))))))
abbrev ss_law_full : Stmt := topS 66
theorem sc_law_full : FnScope nn_law_full ["field"] (defScope ss_law_full) := ⟨rfl, rfl, rfl, by decide +kernel, rfl, by decide +kernel, by decide +kernel⟩
abbrev FF_law_full (K : PySem.W.Frag) (f : Addr) (fd : FuncData) : Prop := FunD K "_law_full" "_law_full" (defArgs ss_law_full) (defBody ss_law_full) (defScope ss_law_full) [] [] f fd
theorem ok_law_full (T : Txt ct K mg) (L_law_cells : Lk P w K mg base "_law_cells" 1 ["field"] ff_law_cells) {f : Addr} {fd : FuncData} (F : FF_law_full K f fd) : DFn P w K mg base 2 f fd ["field"] ff_law_full :=
  DFn.of F sc_law_full fun c => (DB.one (DS.ret (DE.callTy c (cDictC c) T.n_dict (by decide +kernel) (DA.cons (DE.lc c (own := [("cell", 1)]) (fun _ => sc_law_full.nd) (DI.seq c (DE.cl c L_law_cells (by decide) rfl (DA.cons (DE.var 0) DA.nil) (aLen_cons aLen_nil))) (fun _ => blkOk_by (N := nn_law_full) (by rfl)) (DG.name 1 fun _ => sc_law_full.nd) (by decide) DTs.nil (DE.tup (DA.cons (DE.var 1) (DA.cons (DE.ix (c.blk _) (DE.var 0) DE.int) DA.nil)))) DA.nil))))
abbrev ss_law_as_field : Stmt := topS 68
theorem sc_law_as_field : FnScope nn_law_as_field ["field", "heights"] (defScope ss_law_as_field) := ⟨rfl, rfl, rfl, by decide +kernel, rfl, by decide +kernel, by decide +kernel⟩
abbrev FF_law_as_field (K : PySem.W.Frag) (f : Addr) (fd : FuncData) : Prop := FunD K "_law_as_field" "_law_as_field" (defArgs ss_law_as_field) (defBody ss_law_as_field) (defScope ss_law_as_field) [] [] f fd
theorem ok_law_as_field (T : Txt ct K mg) {f : Addr} {fd : FuncData} (F : FF_law_as_field K f fd) : DFn P w K mg base 1 f fd ["field", "heights"] ff_law_as_field :=
  DFn.of F sc_law_as_field fun c => (DB.cons (DS.asg (DE.tup (DA.cons (DE.callB c (cLen c) T.n_len (by decide +kernel) (DA.cons (DE.ix c (DE.ix c (DE.var 0) DE.int) DE.int) DA.nil)) (DA.cons (DE.callB c (cLen c) T.n_len (by decide +kernel) (DA.cons (DE.ix c (DE.var 0) DE.int) DA.nil)) DA.nil))) (DG.tup c (DGs.cons (DG.name 2 fun _ => sc_law_as_field.nd) (DGs.cons (DG.name 3 fun _ => sc_law_as_field.nd) DGs.nil))))
  (DB.one (DS.ret (DE.tup (DA.cons (DE.ix c (DE.var 0) DE.int) (DA.cons (DE.callTy c (cTupOf c) T.n_tuple (by decide +kernel) (DA.cons (DE.lc c (own := [("j", 5)]) (fun _ => sc_law_as_field.nd) (DI.rng1 c T.n_range (DA.cons (DE.var 3) DA.nil)) (fun _ => blkOk_by (N := nn_law_as_field) (by rfl)) (DG.name 5 fun _ => sc_law_as_field.nd) (by decide) DTs.nil (DE.callTy (c.blk _) (cTupOf (c.blk _)) T.n_tuple (by decide +kernel) (DA.cons (DE.lc (c.blk _) (own := [("i", 4)]) (fun _ => sc_law_as_field.nd) (DI.rng1 (c.blk _) T.n_range (DA.cons (DE.var 2) DA.nil)) (fun _ => blkOk_by (N := nn_law_as_field) (by rfl)) (DG.name 4 fun _ => sc_law_as_field.nd) (by decide) DTs.nil (DE.ixC ((c.blk _).blk _) (DE.var 1) (DE.tup (DA.cons (DE.var 4) (DA.cons (DE.var 5) DA.nil))))) DA.nil))) DA.nil)) DA.nil))))))
abbrev ss_law_kinds : Stmt := topS 70
theorem sc_law_kinds : FnScope nn_law_kinds ["error"] (defScope ss_law_kinds) := ⟨rfl, rfl, rfl, by decide +kernel, rfl, by decide +kernel, by decide +kernel⟩
abbrev FF_law_kinds (K : PySem.W.Frag) (f : Addr) (fd : FuncData) : Prop := FunD K "_law_kinds" "_law_kinds" (defArgs ss_law_kinds) (defBody ss_law_kinds) (defScope ss_law_kinds) [] [] f fd
theorem ok_law_kinds (T : Txt ct K mg) {f : Addr} {fd : FuncData} (F : FF_law_kinds K f fd) : DFn P w K mg base 1 f fd ["error"] (ff_law_kinds ct) :=
  DFn.of F sc_law_kinds fun c => (DB.cons (DS.set 1 (DE.lst (DA.cons (DE.tup (DA.cons DE.str (DA.cons (DE.callB c (cIsiF c T.isa) T.n_isinstance (by decide +kernel) (DA.cons (DE.var 0) (DA.cons (DE.gv c (GV.cls T.c_BadRow)) DA.nil))) DA.nil))) (DA.cons (DE.tup (DA.cons DE.str (DA.cons (DE.callB c (cIsiF c T.isa) T.n_isinstance (by decide +kernel) (DA.cons (DE.var 0) (DA.cons (DE.gv c (GV.cls T.c_BadSketch)) DA.nil))) DA.nil))) DA.nil))) (fun _ => sc_law_kinds.nd))
  (DB.cons (DS.set 1 (DE.op (opAdd4 c) (DE.var 1) (DE.lst (DA.cons (DE.tup (DA.cons DE.str (DA.cons (DE.callB c (cIsiF c T.isa) T.n_isinstance (by decide +kernel) (DA.cons (DE.var 0) (DA.cons (DE.gv c (GV.cls T.c_BadBlock)) DA.nil))) DA.nil))) (DA.cons (DE.tup (DA.cons DE.str (DA.cons (DE.callB c (cIsiF c T.isa) T.n_isinstance (by decide +kernel) (DA.cons (DE.var 0) (DA.cons (DE.gv c (GV.cls T.c_BadOutline)) DA.nil))) DA.nil))) DA.nil)))) (fun _ => sc_law_kinds.nd))
  (DB.cons (DS.set 1 (DE.op (opAdd4 c) (DE.var 1) (DE.lst (DA.cons (DE.tup (DA.cons DE.str (DA.cons (DE.callB c (cIsiF c T.isa) T.n_isinstance (by decide +kernel) (DA.cons (DE.var 0) (DA.cons (DE.gv c (GV.cls T.c_BadFeature)) DA.nil))) DA.nil))) (DA.cons (DE.tup (DA.cons DE.str (DA.cons (DE.callB c (cIsiF c T.isa) T.n_isinstance (by decide +kernel) (DA.cons (DE.var 0) (DA.cons (DE.gv c (GV.cls T.c_BadField)) DA.nil))) DA.nil))) DA.nil)))) (fun _ => sc_law_kinds.nd))
  (DB.cons (DS.set 1 (DE.op (opAdd4 c) (DE.var 1) (DE.lst (DA.cons (DE.tup (DA.cons DE.str (DA.cons (DE.callB c (cIsiF c T.isa) T.n_isinstance (by decide +kernel) (DA.cons (DE.var 0) (DA.cons (DE.gv c (GV.cls T.c_BadTools)) DA.nil))) DA.nil))) (DA.cons (DE.tup (DA.cons DE.str (DA.cons (DE.callB c (cIsiF c T.isa) T.n_isinstance (by decide +kernel) (DA.cons (DE.var 0) (DA.cons (DE.gv c (GV.cls T.c_BadWay)) DA.nil))) DA.nil))) DA.nil)))) (fun _ => sc_law_kinds.nd))
  (DB.cons (DS.set 1 (DE.op (opAdd4 c) (DE.var 1) (DE.lst (DA.cons (DE.tup (DA.cons DE.str (DA.cons (DE.callB c (cIsiF c T.isa) T.n_isinstance (by decide +kernel) (DA.cons (DE.var 0) (DA.cons (DE.gv c (GV.cls T.c_BadPaper)) DA.nil))) DA.nil))) (DA.cons (DE.tup (DA.cons DE.str (DA.cons (DE.callB c (cIsiF c T.isa) T.n_isinstance (by decide +kernel) (DA.cons (DE.var 0) (DA.cons (DE.gv c (GV.cls T.c_Clash)) DA.nil))) DA.nil))) DA.nil)))) (fun _ => sc_law_kinds.nd))
  (DB.cons (DS.set 1 (DE.op (opAdd4 c) (DE.var 1) (DE.lst (DA.cons (DE.tup (DA.cons DE.str (DA.cons (DE.callB c (cIsiF c T.isa) T.n_isinstance (by decide +kernel) (DA.cons (DE.var 0) (DA.cons (DE.gv c (GV.cls T.c_Twice)) DA.nil))) DA.nil))) (DA.cons (DE.tup (DA.cons DE.str (DA.cons (DE.callB c (cIsiF c T.isa) T.n_isinstance (by decide +kernel) (DA.cons (DE.var 0) (DA.cons (DE.gv c (GV.cls T.c_OutOfPlace)) DA.nil))) DA.nil))) DA.nil)))) (fun _ => sc_law_kinds.nd))
  (DB.cons (DS.set 1 (DE.op (opAdd4 c) (DE.var 1) (DE.lst (DA.cons (DE.tup (DA.cons DE.str (DA.cons (DE.callB c (cIsiF c T.isa) T.n_isinstance (by decide +kernel) (DA.cons (DE.var 0) (DA.cons (DE.gv c (GV.cls T.c_TooGreat)) DA.nil))) DA.nil))) (DA.cons (DE.tup (DA.cons DE.str (DA.cons (DE.callB c (cIsiF c T.isa) T.n_isinstance (by decide +kernel) (DA.cons (DE.var 0) (DA.cons (DE.gv c (GV.cls T.c_NoPoint)) DA.nil))) DA.nil))) DA.nil)))) (fun _ => sc_law_kinds.nd))
  (DB.cons (DS.set 1 (DE.op (opAdd4 c) (DE.var 1) (DE.lst (DA.cons (DE.tup (DA.cons DE.str (DA.cons (DE.callB c (cIsiF c T.isa) T.n_isinstance (by decide +kernel) (DA.cons (DE.var 0) (DA.cons (DE.gv c (GV.cls T.c_NoSaying)) DA.nil))) DA.nil))) (DA.cons (DE.tup (DA.cons DE.str (DA.cons (DE.callB c (cIsiF c T.isa) T.n_isinstance (by decide +kernel) (DA.cons (DE.var 0) (DA.cons (DE.gv c (GV.cls T.c_NoFeature)) DA.nil))) DA.nil))) DA.nil)))) (fun _ => sc_law_kinds.nd))
  (DB.cons (DS.set 1 (DE.op (opAdd4 c) (DE.var 1) (DE.lst (DA.cons (DE.tup (DA.cons DE.str (DA.cons (DE.callB c (cIsiF c T.isa) T.n_isinstance (by decide +kernel) (DA.cons (DE.var 0) (DA.cons (DE.gv c (GV.cls T.c_Nothing)) DA.nil))) DA.nil))) (DA.cons (DE.tup (DA.cons DE.str (DA.cons (DE.callB c (cIsiF c T.isa) T.n_isinstance (by decide +kernel) (DA.cons (DE.var 0) (DA.cons (DE.gv c (GV.cls T.c_NoToolThere)) DA.nil))) DA.nil))) DA.nil)))) (fun _ => sc_law_kinds.nd))
  (DB.cons (DS.set 1 (DE.op (opAdd4 c) (DE.var 1) (DE.lst (DA.cons (DE.tup (DA.cons DE.str (DA.cons (DE.callB c (cIsiF c T.isa) T.n_isinstance (by decide +kernel) (DA.cons (DE.var 0) (DA.cons (DE.gv c (GV.cls T.c_Lifted)) DA.nil))) DA.nil))) (DA.cons (DE.tup (DA.cons DE.str (DA.cons (DE.callB c (cIsiF c T.isa) T.n_isinstance (by decide +kernel) (DA.cons (DE.var 0) (DA.cons (DE.gv c (GV.cls T.c_Lowered)) DA.nil))) DA.nil))) DA.nil)))) (fun _ => sc_law_kinds.nd))
  (DB.cons (DS.set 1 (DE.op (opAdd4 c) (DE.var 1) (DE.lst (DA.cons (DE.tup (DA.cons DE.str (DA.cons (DE.callB c (cIsiF c T.isa) T.n_isinstance (by decide +kernel) (DA.cons (DE.var 0) (DA.cons (DE.gv c (GV.cls T.c_Beyond)) DA.nil))) DA.nil))) (DA.cons (DE.tup (DA.cons DE.str (DA.cons (DE.callB c (cIsiF c T.isa) T.n_isinstance (by decide +kernel) (DA.cons (DE.var 0) (DA.cons (DE.gv c (GV.cls T.c_Blocked)) DA.nil))) DA.nil))) DA.nil)))) (fun _ => sc_law_kinds.nd))
  (DB.cons (DS.set 1 (DE.op (opAdd4 c) (DE.var 1) (DE.lst (DA.cons (DE.tup (DA.cons DE.str (DA.cons (DE.callB c (cIsiF c T.isa) T.n_isinstance (by decide +kernel) (DA.cons (DE.var 0) (DA.cons (DE.gv c (GV.cls T.c_TooDeep)) DA.nil))) DA.nil))) (DA.cons (DE.tup (DA.cons DE.str (DA.cons (DE.callB c (cIsiF c T.isa) T.n_isinstance (by decide +kernel) (DA.cons (DE.var 0) (DA.cons (DE.gv c (GV.cls T.c_WorksError)) DA.nil))) DA.nil))) DA.nil)))) (fun _ => sc_law_kinds.nd))
  (DB.cons (DS.set 1 (DE.op (opAdd4 c) (DE.var 1) (DE.lst (DA.cons (DE.tup (DA.cons DE.str (DA.cons (DE.callB c (cIsiF c T.isa) T.n_isinstance (by decide +kernel) (DA.cons (DE.var 0) (DA.cons (DE.bltn c T.n_ValueError (by decide +kernel) (v := .ty "ValueError") rfl fun _ _ => .ty _) DA.nil))) DA.nil))) (DA.cons (DE.tup (DA.cons DE.str (DA.cons (DE.callB c (cIsiF c T.isa) T.n_isinstance (by decide +kernel) (DA.cons (DE.var 0) (DA.cons (DE.gv c (GV.cls T.c_MissError)) DA.nil))) DA.nil))) DA.nil)))) (fun _ => sc_law_kinds.nd))
  (DB.cons (DS.set 1 (DE.op (opAdd4 c) (DE.var 1) (DE.lst (DA.cons (DE.tup (DA.cons DE.str (DA.cons (DE.callB c (cIsiF c T.isa) T.n_isinstance (by decide +kernel) (DA.cons (DE.var 0) (DA.cons (DE.bltn c T.n_LookupError (by decide +kernel) (v := .ty "LookupError") rfl fun _ _ => .ty _) DA.nil))) DA.nil))) (DA.cons (DE.tup (DA.cons DE.str (DA.cons (DE.callB c (cIsiF c T.isa) T.n_isinstance (by decide +kernel) (DA.cons (DE.var 0) (DA.cons (DE.gv c (GV.cls T.c_FaultError)) DA.nil))) DA.nil))) DA.nil)))) (fun _ => sc_law_kinds.nd))
  (DB.cons (DS.set 1 (DE.op (opAdd4 c) (DE.var 1) (DE.lst (DA.cons (DE.tup (DA.cons DE.str (DA.cons (DE.callB c (cIsiF c T.isa) T.n_isinstance (by decide +kernel) (DA.cons (DE.var 0) (DA.cons (DE.bltn c T.n_RuntimeError (by decide +kernel) (v := .ty "RuntimeError") rfl fun _ _ => .ty _) DA.nil))) DA.nil))) DA.nil))) (fun _ => sc_law_kinds.nd))
  (DB.cons (DS.set 1 (DE.op (opAdd4 c) (DE.lst (DA.cons (DE.tup (DA.cons DE.str (DA.cons (DE.callB c (cIsiF c T.isa) T.n_isinstance (by decide +kernel) (DA.cons (DE.var 0) (DA.cons (DE.gv c (GV.cls T.c_NoTool)) DA.nil))) DA.nil))) DA.nil)) (DE.var 1)) (fun _ => sc_law_kinds.nd))
  (DB.one (DS.ret (DE.lc c (own := [("name", 2), ("holds", 3)]) (fun _ => sc_law_kinds.nd) (DI.seq c (DE.var 1)) (fun _ => blkOk_by (N := nn_law_kinds) (by rfl)) (DG.tup (c.blk _) (DGs.cons (DG.name 2 fun _ => sc_law_kinds.nd) (DGs.cons (DG.name 3 fun _ => sc_law_kinds.nd) DGs.nil))) (by decide) (DTs.one (DE.test (DE.var 3))) (DE.var 2))))))))))))))))))))
abbrev ss_law_caught : Stmt := topS 71
theorem sc_law_caught : FnScope nn_law_caught ["deed"] (defScope ss_law_caught) := ⟨rfl, rfl, rfl, by decide +kernel, rfl, by decide +kernel, by decide +kernel⟩
abbrev FF_law_caught (K : PySem.W.Frag) (f : Addr) (fd : FuncData) : Prop := FunD K "_law_caught" "_law_caught" (defArgs ss_law_caught) (defBody ss_law_caught) (defScope ss_law_caught) [] [] f fd
theorem okl_law_caught (T : Txt ct K mg) {f : Addr} {fd : FuncData} (F : FF_law_caught K f fd) (hm : mg "_law_caught" = some (.ref f)) (hk : PySem.W.keepIn K (.ref f) = true) (hb : L2.Binds K fd ["deed"] []) : LkL P w K mg base "_law_caught" 7 "deed" 3 (lg_law_caught ct) :=
  LkL.of F sc_law_caught hm hk hb rfl (.inl rfl) rfl rfl rfl fun e lf lc lq lvs lds dm c hj => (DB.cons (DS.set 1 DE.non (fun _ => sc_law_caught.nd))
  (DB.cons (DS.tryB3 2 c (fun _ => sc_law_caught.nd) T.c_WorksError T.c_MissError T.c_FaultError (fun y C h => by
    by_cases e_BadField : y = "BadField"
    · (rw [if_pos e_BadField] at h; cases h; rw [e_BadField]; exact ⟨T.c_BadField, T.xt_BadField_WorksError_MissError_FaultError, T.q_BadField⟩)
    rw [if_neg e_BadField] at h
    by_cases e_BadTools : y = "BadTools"
    · (rw [if_pos e_BadTools] at h; cases h; rw [e_BadTools]; exact ⟨T.c_BadTools, T.xt_BadTools_WorksError_MissError_FaultError, T.q_BadTools⟩)
    rw [if_neg e_BadTools] at h
    by_cases e_OutOfPlace : y = "OutOfPlace"
    · (rw [if_pos e_OutOfPlace] at h; cases h; rw [e_OutOfPlace]; exact ⟨T.c_OutOfPlace, T.xt_OutOfPlace_WorksError_MissError_FaultError, T.q_OutOfPlace⟩)
    rw [if_neg e_OutOfPlace] at h
    cases h)
  (fun S tk c2 => DBQ.one (DSQ.expr (hj S tk _ _)))
  (DB.one (DS.set 1 (DE.var 2) (fun _ => sc_law_caught.nd))))
  (DB.one (DS.ret (DE.var 1)))))
abbrev ss_law_stock : Stmt := topS 72
theorem sc_law_stock : FnScope nn_law_stock ["state", "field"] (defScope ss_law_stock) := ⟨rfl, rfl, rfl, by decide +kernel, rfl, by decide +kernel, by decide +kernel⟩
abbrev FF_law_stock (K : PySem.W.Frag) (f : Addr) (fd : FuncData) : Prop := FunD K "_law_stock" "_law_stock" (defArgs ss_law_stock) (defBody ss_law_stock) (defScope ss_law_stock) [] [] f fd
theorem ok_law_stock (T : Txt ct K mg) (L_law_digit : Lk P w K mg base "_law_digit" 2 ["state", "many"] ff_law_digit) (L_law_cells : Lk P w K mg base "_law_cells" 1 ["field"] ff_law_cells) {f : Addr} {fd : FuncData} (F : FF_law_stock K f fd) : DFn P w K mg base 3 f fd ["state", "field"] ff_law_stock :=
  DFn.of F sc_law_stock fun c => (DB.cons (DS.set 2 (DE.ix c (DE.lst (DA.cons (DE.op (opAdd4 c) (DE.ix c (DE.var 1) DE.int) DE.int) (DA.cons DE.int DA.nil))) (DE.cl c L_law_digit (by decide) rfl (DA.cons (DE.var 0) (DA.cons DE.int DA.nil)) (aLen_cons (aLen_cons aLen_nil)))) (fun _ => sc_law_stock.nd))
  (DB.one (DS.ret (DE.callTy c (cDictC c) T.n_dict (by decide +kernel) (DA.cons (DE.lc c (own := [("cell", 3)]) (fun _ => sc_law_stock.nd) (DI.seq c (DE.cl c L_law_cells (by decide) rfl (DA.cons (DE.var 1) DA.nil) (aLen_cons aLen_nil))) (fun _ => blkOk_by (N := nn_law_stock) (by rfl)) (DG.name 3 fun _ => sc_law_stock.nd) (by decide) DTs.nil (DE.tup (DA.cons (DE.var 3) (DA.cons (DE.op opMod (DE.cl (c.blk _) L_law_digit (by decide) rfl (DA.cons (DE.var 0) (DA.cons (DE.var 2) DA.nil)) (aLen_cons (aLen_cons aLen_nil))) (DE.op (opAdd4 (c.blk _)) (DE.ix (c.blk _) (DE.var 1) DE.int) DE.int)) DA.nil)))) DA.nil)))))
abbrev ss_law_stocks_refused : Stmt := topS 73
theorem sc_law_stocks_refused : FnScope nn_law_stocks_refused ["state", "field", "stock"] (defScope ss_law_stocks_refused) := ⟨rfl, rfl, rfl, by decide +kernel, rfl, by decide +kernel, by decide +kernel⟩
abbrev FF_law_stocks_refused (K : PySem.W.Frag) (f : Addr) (fd : FuncData) : Prop := FunD K "_law_stocks_refused" "_law_stocks_refused" (defArgs ss_law_stocks_refused) (defBody ss_law_stocks_refused) (defScope ss_law_stocks_refused) [] [] f fd
theorem ok_law_stocks_refused {cA : Addr} (T : Txt ct K mg) (L_law_digit : Lk P w K mg base "_law_digit" 2 ["state", "many"] ff_law_digit) (L_law_kinds : Lk P w K mg base "_law_kinds" 1 ["error"] (ff_law_kinds ct)) (Q_lowest : LkQ P w K mg base "lowest" 6 ["field", "stock", "tool", "place"] (qq_lowest ct)) (Q_may_stand : LkQ P w K mg base "may_stand" 6 ["field", "stock", "tool", "place", "height"] (qq_may_stand ct)) (LG_law_caught : LkL P w K mg base "_law_caught" 7 "deed" 3 (lg_law_caught ct)) (TB : LamX.TabB base mg cA ct.P_law_stocks_refused) {f : Addr} {fd : FuncData} (F : FF_law_stocks_refused K f fd) (hfc : fd.code = .ref cA) : DFn P w K mg base 9 f fd ["state", "field", "stock"] (ff_law_stocks_refused ct) :=
  DFn.ofC F hfc sc_law_stocks_refused fun c hC => (DB.cons (DS.asg (DE.var 2) (DG.tup c (DGs.cons (DG.name 3 fun _ => sc_law_stocks_refused.nd) (DGs.cons (DG.name 4 fun _ => sc_law_stocks_refused.nd) DGs.nil))))
  (DB.cons (DS.set 5 (DE.op (opAdd4 c) DE.int (DE.op opMod (DE.var 3) DE.int)) (fun _ => sc_law_stocks_refused.nd))
  (DB.cons (DS.set 6 (DE.new (DA.cons (DE.tup (DA.cons (DE.tup (DA.cons (DE.var 5) (DA.cons (DE.callTy c (cTupOf c) T.n_tuple (by decide +kernel) (DA.cons (DE.lc c (own := [("row", 8)]) (fun _ => sc_law_stocks_refused.nd) (DI.seq c (DE.var 4)) (fun _ => blkOk_by (N := nn_law_stocks_refused) (by rfl)) (DG.name 8 fun _ => sc_law_stocks_refused.nd) (by decide) DTs.nil (DE.callTy (c.blk _) (cTupOf (c.blk _)) T.n_tuple (by decide +kernel) (DA.cons (DE.lc (c.blk _) (own := [("one", 7)]) (fun _ => sc_law_stocks_refused.nd) (DI.seq (c.blk _) (DE.var 8)) (fun _ => blkOk_by (N := nn_law_stocks_refused) (by rfl)) (DG.name 7 fun _ => sc_law_stocks_refused.nd) (by decide) DTs.nil DE.int) DA.nil))) DA.nil)) DA.nil))) (DA.cons DE.str DA.nil))) (DA.cons (DE.tup (DA.cons (DE.tup (DA.cons (DE.var 3) (DA.cons (DE.op (opAdd4 c) (DE.var 4) (DE.sl c (DE.var 4) DP.none (DP.some DE.int))) DA.nil))) (DA.cons DE.str DA.nil))) DA.nil))) (fun _ => sc_law_stocks_refused.nd))
  (DB.cons (DS.set 6 (DE.addN (DE.var 6) (DE.lst (DA.cons (DE.tup (DA.cons (DE.tup (DA.cons (DE.var 3) (DA.cons (DE.callTy c (cTupOf c) T.n_tuple (by decide +kernel) (DA.cons (DE.lc c (own := [("row", 8)]) (fun _ => sc_law_stocks_refused.nd) (DI.seq c (DE.var 4)) (fun _ => blkOk_by (N := nn_law_stocks_refused) (by rfl)) (DG.name 8 fun _ => sc_law_stocks_refused.nd) (by decide) DTs.nil (DE.op (opAdd4 (c.blk _)) (DE.var 8) (DE.sl (c.blk _) (DE.var 8) DP.none (DP.some DE.int)))) DA.nil)) DA.nil))) (DA.cons DE.str DA.nil))) (DA.cons (DE.tup (DA.cons DE.non (DA.cons DE.non DA.nil))) (DA.cons (DE.tup (DA.cons (DE.tup (DA.cons (DE.var 3) DA.nil)) (DA.cons DE.non DA.nil))) DA.nil))))) (fun _ => sc_law_stocks_refused.nd))
  (DB.cons (DS.set 6 (DE.addN (DE.var 6) (DE.lst (DA.cons (DE.tup (DA.cons (DE.tup (DA.cons DE.int (DA.cons (DE.var 4) DA.nil))) (DA.cons DE.str DA.nil))) (DA.cons (DE.tup (DA.cons (DE.tup (DA.cons (DE.var 3) (DA.cons (DE.tup DA.nil) DA.nil))) (DA.cons DE.str DA.nil))) (DA.cons (DE.tup (DA.cons (DE.tup (DA.cons (DE.var 3) (DA.cons (DE.callTy c (cLstA c) T.n_list (by decide +kernel) (DA.cons (DE.var 4) DA.nil)) DA.nil))) (DA.cons DE.str DA.nil))) DA.nil))))) (fun _ => sc_law_stocks_refused.nd))
  (DB.cons (DS.set 6 (DE.addN (DE.var 6) (DE.lst (DA.cons (DE.tup (DA.cons (DE.tup (DA.cons (DE.var 3) (DA.cons (DE.op (opAdd4 c) (DE.tup (DA.cons DE.int DA.nil)) (DE.sl c (DE.var 4) (DP.some DE.int) DP.none)) DA.nil))) (DA.cons DE.int DA.nil))) (DA.cons (DE.tup (DA.cons (DE.tup (DA.cons DE.int (DA.cons (DE.tup DA.nil) DA.nil))) (DA.cons DE.str DA.nil))) DA.nil)))) (fun _ => sc_law_stocks_refused.nd))
  (DB.cons (DS.expr (DE.lmeth c mApp PySem.F.slot_list_append PySem.F.type_list_append (DE.var 6) (DA.cons (DE.tup (DA.cons (DE.tup (DA.cons (DE.var 5) (DA.cons (DE.callTy c (cTupOf c) T.n_tuple (by decide +kernel) (DA.cons (DE.lc c (own := [("row", 8)]) (fun _ => sc_law_stocks_refused.nd) (DI.seq c (DE.op (opAdd4 c) (DE.var 4) (DE.sl c (DE.var 4) DP.none (DP.some DE.int)))) (fun _ => blkOk_by (N := nn_law_stocks_refused) (by rfl)) (DG.name 8 fun _ => sc_law_stocks_refused.nd) (by decide) DTs.nil (DE.callTy (c.blk _) (cTupOf (c.blk _)) T.n_tuple (by decide +kernel) (DA.cons (DE.lc (c.blk _) (own := [("one", 7)]) (fun _ => sc_law_stocks_refused.nd) (DI.seq (c.blk _) (DE.var 8)) (fun _ => blkOk_by (N := nn_law_stocks_refused) (by rfl)) (DG.name 7 fun _ => sc_law_stocks_refused.nd) (by decide) DTs.nil DE.int) DA.nil))) DA.nil)) DA.nil))) (DA.cons DE.str DA.nil))) DA.nil)))
  (DB.cons (DS.asg (DE.ix c (DE.var 6) (DE.cl c L_law_digit (by decide) rfl (DA.cons (DE.var 0) (DA.cons DE.int DA.nil)) (aLen_cons (aLen_cons aLen_nil)))) (DG.tup c (DGs.cons (DG.name 9 fun _ => sc_law_stocks_refused.nd) (DGs.cons (DG.name 10 fun _ => sc_law_stocks_refused.nd) DGs.nil))))
  (DB.cons (DS.ite (DW.test (DW.or (DC.test (DC.op (opEq c) (DE.callB c (cLen c) T.n_len (by decide +kernel) (DA.cons (DE.var 4) DA.nil)) DE.int)) (DW.or1 (DC.test (DC.op (opEq c) (DE.callB c (cLen c) T.n_len (by decide +kernel) (DA.cons (DE.ix c (DE.var 4) DE.int) DA.nil)) DE.int)))))
  (DB.one (DS.ret DE.bool)) DB.nil)
  (DB.cons (DS.set 11 (DE.new (DA.cons (DE.lam c (kb := 6) (ns := []) (vs := []) LG_law_caught (by decide) (by decide) TB hC (fun _ => rfl) (fun _ => LamY.lamS2_by (N := nn_law_stocks_refused) (sc := defScope ss_law_stocks_refused) (by decide +kernel)) (lamB0 fun q cl pm cv ctv => rfl) (fun _ => .none rfl) rfl (fun E3 c3 tk3 => (DEQ.cl c3 tk3 Q_lowest (by decide) rfl (DA.cons (DE.var 1) (DA.cons (DE.var 9) (DA.cons DE.non (DA.cons DE.non DA.nil)))) (aLen_cons (aLen_cons (aLen_cons (aLen_cons aLen_nil))))))) DA.nil)) (fun _ => sc_law_stocks_refused.nd))
  (DB.cons (DS.expr (DE.lmeth c mApp PySem.F.slot_list_append PySem.F.type_list_append (DE.var 11) (DA.cons (DE.lam c (kb := 6) (ns := []) (vs := []) LG_law_caught (by decide) (by decide) TB hC (fun _ => rfl) (fun _ => LamY.lamS2_by (N := nn_law_stocks_refused) (sc := defScope ss_law_stocks_refused) (by decide +kernel)) (lamB0 fun q cl pm cv ctv => rfl) (fun _ => .none rfl) rfl (fun E3 c3 tk3 => (DEQ.cl c3 tk3 Q_may_stand (by decide) rfl (DA.cons (DE.var 1) (DA.cons (DE.var 9) (DA.cons (DE.tup (DA.cons DE.int (DA.cons DE.int DA.nil))) (DA.cons (DE.tup (DA.cons DE.int (DA.cons DE.int DA.nil))) (DA.cons DE.int DA.nil))))) (aLen_cons (aLen_cons (aLen_cons (aLen_cons (aLen_cons aLen_nil)))))))) DA.nil)))
  (DB.cons (DS.for c (by first | exact fun _ => PassesOwn.never | exact fun _ => PassesOwn.leaving) (DI.seq c (DE.frz 11)) (DG.name 12 fun _ => sc_law_stocks_refused.nd)
  (DB.one (DS.ite (DW.test (DW.or (DC.test (DC.op (opNe c) (DE.cl c L_law_kinds (by decide) rfl (DA.cons (DE.var 12) DA.nil) (aLen_cons aLen_nil)) (DE.lst (DA.cons DE.str (DA.cons DE.str (DA.cons DE.str DA.nil)))))) (DW.or1 (DC.test (DC.op (opNe c) (DE.callB c (cRepr c) T.n_repr (by decide +kernel) (DA.cons (DE.gvx T.okg c (DE.var 12)) DA.nil)) (DE.callB c (cRepr c) T.n_repr (by decide +kernel) (DA.cons (DE.var 10) DA.nil)))))))
  (DB.one (DS.ret DE.bool)) DB.nil)))
  (DB.one (DS.ret DE.bool))))))))))))))
abbrev ss_law_order_right : Stmt := topS 74
theorem sc_law_order_right : FnScope nn_law_order_right ["state", "field", "stock", "one"] (defScope ss_law_order_right) := ⟨rfl, rfl, rfl, by decide +kernel, rfl, by decide +kernel, by decide +kernel⟩
abbrev FF_law_order_right (K : PySem.W.Frag) (f : Addr) (fd : FuncData) : Prop := FunD K "_law_order_right" "_law_order_right" (defArgs ss_law_order_right) (defBody ss_law_order_right) (defScope ss_law_order_right) [] [] f fd
theorem ok_law_order_right {cA : Addr} (T : Txt ct K mg) (L_law_digit : Lk P w K mg base "_law_digit" 2 ["state", "many"] ff_law_digit) (L_law_kinds : Lk P w K mg base "_law_kinds" 1 ["error"] (ff_law_kinds ct)) (Q_lowest : LkQ P w K mg base "lowest" 6 ["field", "stock", "tool", "place"] (qq_lowest ct)) (Q_may_stand : LkQ P w K mg base "may_stand" 6 ["field", "stock", "tool", "place", "height"] (qq_may_stand ct)) (LG_law_caught : LkL P w K mg base "_law_caught" 7 "deed" 3 (lg_law_caught ct)) (TB : LamX.TabB base mg cA ct.P_law_order_right) {f : Addr} {fd : FuncData} (F : FF_law_order_right K f fd) (hfc : fd.code = .ref cA) : DFn P w K mg base 9 f fd ["state", "field", "stock", "one"] (ff_law_order_right ct) :=
  DFn.ofC F hfc sc_law_order_right fun c hC => (DB.cons (DS.set 4 (DE.ix c (DE.lst (DA.cons DE.non (DA.cons (DE.tup (DA.cons DE.int (DA.cons DE.int DA.nil))) (DA.cons (DE.tup (DA.cons DE.int (DA.cons DE.int DA.nil))) (DA.cons (DE.tup (DA.cons DE.int (DA.cons DE.int DA.nil))) (DA.cons (DE.lst (DA.cons DE.int (DA.cons DE.int DA.nil))) (DA.cons (DE.tup (DA.cons DE.bool (DA.cons DE.int DA.nil))) (DA.cons (DE.tup (DA.cons DE.int DA.nil)) DA.nil)))))))) (DE.cl c L_law_digit (by decide) rfl (DA.cons (DE.var 0) (DA.cons DE.int DA.nil)) (aLen_cons (aLen_cons aLen_nil)))) (fun _ => sc_law_order_right.nd))
  (DB.cons (DS.par 5 6 c (DE.callB c (cLen c) T.n_len (by decide +kernel) (DA.cons (DE.ix c (DE.ix c (DE.var 1) DE.int) DE.int) DA.nil)) (DE.callB c (cLen c) T.n_len (by decide +kernel) (DA.cons (DE.ix c (DE.var 1) DE.int) DA.nil)) (fun _ => sc_law_order_right.nd))
  (DB.cons (DS.set 7 (DE.ix c (DE.lst (DA.cons DE.non (DA.cons (DE.tup (DA.cons (DE.var 5) (DA.cons DE.int DA.nil))) (DA.cons (DE.tup (DA.cons DE.int (DA.cons (DE.var 6) DA.nil))) (DA.cons (DE.tup (DA.cons (DE.op opSub DE.int (DE.ix c (DE.var 3) DE.int)) (DA.cons DE.int DA.nil))) (DA.cons (DE.tup (DA.cons DE.int (DA.cons (DE.op opSub DE.int (DE.ix c (DE.var 3) DE.int)) DA.nil))) (DA.cons (DE.lst (DA.cons DE.int (DA.cons DE.int DA.nil))) (DA.cons (DE.tup (DA.cons DE.int (DA.cons DE.bool DA.nil))) (DA.cons (DE.tup (DA.cons DE.int DA.nil)) DA.nil))))))))) (DE.cl c L_law_digit (by decide) rfl (DA.cons (DE.var 0) (DA.cons DE.int DA.nil)) (aLen_cons (aLen_cons aLen_nil)))) (fun _ => sc_law_order_right.nd))
  (DB.cons (DS.set 8 (DE.new (DA.cons (DE.lam c (kb := 6) (ns := []) (vs := []) LG_law_caught (by decide) (by decide) TB hC (fun _ => rfl) (fun _ => LamY.lamS2_by (N := nn_law_order_right) (sc := defScope ss_law_order_right) (by decide +kernel)) (lamB0 fun q cl pm cv ctv => rfl) (fun _ => .none rfl) rfl (fun E3 c3 tk3 => (DEQ.cl c3 tk3 Q_lowest (by decide) rfl (DA.cons (DE.var 1) (DA.cons (DE.var 2) (DA.cons (DE.var 4) (DA.cons (DE.var 7) DA.nil)))) (aLen_cons (aLen_cons (aLen_cons (aLen_cons aLen_nil))))))) DA.nil)) (fun _ => sc_law_order_right.nd))
  (DB.cons (DS.expr (DE.lmeth c mApp PySem.F.slot_list_append PySem.F.type_list_append (DE.var 8) (DA.cons (DE.lam c (kb := 6) (ns := []) (vs := []) LG_law_caught (by decide) (by decide) TB hC (fun _ => rfl) (fun _ => LamY.lamS2_by (N := nn_law_order_right) (sc := defScope ss_law_order_right) (by decide +kernel)) (lamB0 fun q cl pm cv ctv => rfl) (fun _ => .none rfl) rfl (fun E3 c3 tk3 => (DEQ.cl c3 tk3 Q_may_stand (by decide) rfl (DA.cons (DE.var 1) (DA.cons (DE.var 2) (DA.cons (DE.var 4) (DA.cons (DE.var 7) (DA.cons DE.non DA.nil))))) (aLen_cons (aLen_cons (aLen_cons (aLen_cons (aLen_cons aLen_nil)))))))) DA.nil)))
  (DB.cons (DS.for c (by first | exact fun _ => PassesOwn.never | exact fun _ => PassesOwn.leaving) (DI.seq c (DE.frz 8)) (DG.name 9 fun _ => sc_law_order_right.nd)
  (DB.one (DS.ite (DW.test (DW.or (DC.test (DC.op (opNe c) (DE.cl c L_law_kinds (by decide) rfl (DA.cons (DE.var 9) DA.nil) (aLen_cons aLen_nil)) (DE.lst (DA.cons DE.str (DA.cons DE.str (DA.cons DE.str DA.nil)))))) (DW.or1 (DC.test (DC.op opNotN (DE.gvx T.okg c (DE.var 9)) DE.non)))))
  (DB.one (DS.ret DE.bool)) DB.nil)))
  (DB.cons (DS.set 8 (DE.new (DA.cons (DE.lam c (kb := 6) (ns := []) (vs := []) LG_law_caught (by decide) (by decide) TB hC (fun _ => rfl) (fun _ => LamY.lamS2_by (N := nn_law_order_right) (sc := defScope ss_law_order_right) (by decide +kernel)) (lamB0 fun q cl pm cv ctv => rfl) (fun _ => .none rfl) rfl (fun E3 c3 tk3 => (DEQ.cl c3 tk3 Q_lowest (by decide) rfl (DA.cons (DE.var 1) (DA.cons (DE.var 2) (DA.cons (DE.var 3) (DA.cons (DE.var 7) DA.nil)))) (aLen_cons (aLen_cons (aLen_cons (aLen_cons aLen_nil))))))) DA.nil)) (fun _ => sc_law_order_right.nd))
  (DB.cons (DS.expr (DE.lmeth c mApp PySem.F.slot_list_append PySem.F.type_list_append (DE.var 8) (DA.cons (DE.lam c (kb := 6) (ns := []) (vs := []) LG_law_caught (by decide) (by decide) TB hC (fun _ => rfl) (fun _ => LamY.lamS2_by (N := nn_law_order_right) (sc := defScope ss_law_order_right) (by decide +kernel)) (lamB0 fun q cl pm cv ctv => rfl) (fun _ => .none rfl) rfl (fun E3 c3 tk3 => (DEQ.cl c3 tk3 Q_may_stand (by decide) rfl (DA.cons (DE.var 1) (DA.cons (DE.var 2) (DA.cons (DE.var 3) (DA.cons (DE.var 7) (DA.cons DE.non DA.nil))))) (aLen_cons (aLen_cons (aLen_cons (aLen_cons (aLen_cons aLen_nil)))))))) DA.nil)))
  (DB.one (DS.ret (DC.val (DC.op (opEq c) (DE.lc c (own := [("error", 9)]) (fun _ => sc_law_order_right.nd) (DI.seq c (DE.frz 8)) (fun _ => blkOk_by (N := nn_law_order_right) (by rfl)) (DG.name 9 fun _ => sc_law_order_right.nd) (by decide) (DTs.one (DC.test (DC.op (opNe (c.blk _)) (DE.cl (c.blk _) L_law_kinds (by decide) rfl (DA.cons (DE.var 9) DA.nil) (aLen_cons aLen_nil)) (DE.lst (DA.cons DE.str (DA.cons DE.str (DA.cons DE.str DA.nil))))))) DE.int) (DE.lst DA.nil)))))))))))))
abbrev ss_law : Stmt := topS 75
theorem sc_law : FnScope nn_law ["script"] (defScope ss_law) := ⟨rfl, rfl, rfl, by decide +kernel, rfl, by decide +kernel, by decide +kernel⟩
abbrev FF_law (K : PySem.W.Frag) (f : Addr) (fd : FuncData) : Prop := FunD K "law" "law" (defArgs ss_law) (defBody ss_law) (defScope ss_law) [] [] f fd
theorem ok_law {cA : Addr} (T : Txt ct K mg) (L_law_draw : Lk P w K mg base "_law_draw" 1 ["cell", "k"] ff_law_draw) (L_law_a_field : Lk P w K mg base "_law_a_field" 3 ["state", "most"] ff_law_a_field) (L_law_stock : Lk P w K mg base "_law_stock" 3 ["state", "field"] ff_law_stock) (L_law_as_field : Lk P w K mg base "_law_as_field" 1 ["field", "heights"] ff_law_as_field) (L_solid : Lk P w K mg base "solid" 4 ["field"] (ff_solid ct)) (L_law_full : Lk P w K mg base "_law_full" 2 ["field"] ff_law_full) (L_law_digit : Lk P w K mg base "_law_digit" 2 ["state", "many"] ff_law_digit) (L_law_spots : Lk P w K mg base "_law_spots" 1 ["field", "side"] ff_law_spots) (L_law_low : Lk P w K mg base "_law_low" 3 ["field", "heights", "one", "spot"] ff_law_low) (L_lowest : Lk P w K mg base "lowest" 6 ["field", "stock", "tool", "place"] (ff_lowest ct)) (L_may_stand : Lk P w K mg base "may_stand" 6 ["field", "stock", "tool", "place", "height"] (ff_may_stand ct)) (L_law_kinds : Lk P w K mg base "_law_kinds" 1 ["error"] (ff_law_kinds ct)) (L_law_stocks_refused : Lk P w K mg base "_law_stocks_refused" 9 ["state", "field", "stock"] (ff_law_stocks_refused ct)) (L_law_order_right : Lk P w K mg base "_law_order_right" 9 ["state", "field", "stock", "one"] (ff_law_order_right ct)) (Q_may_stand : LkQ P w K mg base "may_stand" 6 ["field", "stock", "tool", "place", "height"] (qq_may_stand ct)) (LG_law_caught : LkL P w K mg base "_law_caught" 7 "deed" 3 (lg_law_caught ct)) (TB : LamX.TabB base mg cA ct.P_law) {f : Addr} {fd : FuncData} (F : FF_law K f fd) (hfc : fd.code = .ref cA) : DFn P w K mg base 10 f fd ["script"] (ff_law ct) :=
  DFn.ofC F hfc sc_law fun c hC => (DB.cons (DS.for c (by first | exact fun _ => PassesOwn.never | exact fun _ => PassesOwn.leaving) (DI.enum c T.n_enumerate (DA.cons (DE.sl c (DE.op (opAddQ c) (DE.var 0) (DE.lst (DA.cons DE.int (DA.cons DE.int DA.nil)))) DP.none (DP.some DE.int)) DA.nil)) (DG.tup c (DGs.cons (DG.name 1 fun _ => sc_law.nd) (DGs.cons (DG.name 2 fun _ => sc_law.nd) DGs.nil)))
  (DB.cons (DS.set 3 (DE.cl c L_law_draw (by decide) rfl (DA.cons (DE.var 2) (DA.cons (DE.var 1) DA.nil)) (aLen_cons (aLen_cons aLen_nil))) (fun _ => sc_law.nd))
  (DB.cons (DS.set 4 (DE.cl c L_law_a_field (by decide) rfl (DA.cons (DE.var 3) (DA.cons DE.int DA.nil)) (aLen_cons (aLen_cons aLen_nil))) (fun _ => sc_law.nd))
  (DB.cons (DS.set 5 (DE.cl c L_law_stock (by decide) rfl (DA.cons (DE.var 3) (DA.cons (DE.var 4) DA.nil)) (aLen_cons (aLen_cons aLen_nil))) (fun _ => sc_law.nd))
  (DB.cons (DS.set 6 (DE.cl c L_law_as_field (by decide) rfl (DA.cons (DE.var 4) (DA.cons (DE.var 5) DA.nil)) (aLen_cons (aLen_cons aLen_nil))) (fun _ => sc_law.nd))
  (DB.cons (DS.ite (DC.test (DC.op (opNe c) (DE.callB c (cRepr c) T.n_repr (by decide +kernel) (DA.cons (DE.cl c L_solid (by decide) rfl (DA.cons (DE.var 4) DA.nil) (aLen_cons aLen_nil)) DA.nil)) (DE.callB c (cRepr c) T.n_repr (by decide +kernel) (DA.cons (DE.cl c L_law_as_field (by decide) rfl (DA.cons (DE.var 4) (DA.cons (DE.cl c L_law_full (by decide) rfl (DA.cons (DE.var 4) DA.nil) (aLen_cons aLen_nil)) DA.nil)) (aLen_cons (aLen_cons aLen_nil))) DA.nil))))
  (DB.one (DS.ret DE.bool)) DB.nil)
  (DB.cons (DS.for c (by first | exact fun _ => PassesOwn.never | exact fun _ => PassesOwn.leaving) (DI.rng1 c T.n_range (DA.cons DE.int DA.nil)) (DG.name 7 fun _ => sc_law.nd)
  (DB.cons (DS.set 8 (DE.tup (DA.cons (DE.op (opAdd4 c) DE.int (DE.cl c L_law_digit (by decide) rfl (DA.cons (DE.var 3) (DA.cons DE.int DA.nil)) (aLen_cons (aLen_cons aLen_nil)))) (DA.cons (DE.op (opAdd4 c) DE.int (DE.cl c L_law_digit (by decide) rfl (DA.cons (DE.var 3) (DA.cons DE.int DA.nil)) (aLen_cons (aLen_cons aLen_nil)))) DA.nil))) (fun _ => sc_law.nd))
  (DB.cons (DS.for c (by first | exact fun _ => PassesOwn.never | exact fun _ => PassesOwn.leaving) (DI.seq c (DE.cl c L_law_spots (by decide) rfl (DA.cons (DE.var 4) (DA.cons (DE.ix c (DE.var 8) DE.int) DA.nil)) (aLen_cons (aLen_cons aLen_nil)))) (DG.name 9 fun _ => sc_law.nd)
  (DB.cons (DS.set 10 (DE.cl c L_law_low (by decide) rfl (DA.cons (DE.var 4) (DA.cons (DE.var 5) (DA.cons (DE.var 8) (DA.cons (DE.var 9) DA.nil)))) (aLen_cons (aLen_cons (aLen_cons (aLen_cons aLen_nil))))) (fun _ => sc_law.nd))
  (DB.cons (DS.ite (DC.test (DC.op (opNe c) (DE.callB c (cRepr c) T.n_repr (by decide +kernel) (DA.cons (DE.cl c L_lowest (by decide) rfl (DA.cons (DE.var 4) (DA.cons (DE.var 6) (DA.cons (DE.var 8) (DA.cons (DE.var 9) DA.nil)))) (aLen_cons (aLen_cons (aLen_cons (aLen_cons aLen_nil))))) DA.nil)) (DE.callB c (cRepr c) T.n_repr (by decide +kernel) (DA.cons (DE.var 10) DA.nil))))
  (DB.one (DS.ret DE.bool)) DB.nil)
  (DB.cons (DS.set 11 (DE.ix c (DE.lst (DA.cons DE.int (DA.cons (DE.ix c (DE.var 4) DE.int) (DA.cons (DE.callB c (cMax2 c) T.n_max (by decide +kernel) (DA.cons DE.int (DA.cons (DE.op opSub (DE.var 10) DE.int) DA.nil))) (DA.cons (DE.var 10) DA.nil))))) (DE.cl c L_law_digit (by decide) rfl (DA.cons (DE.var 3) (DA.cons DE.int DA.nil)) (aLen_cons (aLen_cons aLen_nil)))) (fun _ => sc_law.nd))
  (DB.one (DS.ite (DC.test (DC.op (opNe c) (DE.callB c (cRepr c) T.n_repr (by decide +kernel) (DA.cons (DE.cl c L_may_stand (by decide) rfl (DA.cons (DE.var 4) (DA.cons (DE.var 6) (DA.cons (DE.var 8) (DA.cons (DE.var 9) (DA.cons (DE.var 11) DA.nil))))) (aLen_cons (aLen_cons (aLen_cons (aLen_cons (aLen_cons aLen_nil)))))) DA.nil)) (DE.callB c (cRepr c) T.n_repr (by decide +kernel) (DA.cons (DC.val (DC.op opGe (DE.var 11) (DE.var 10))) DA.nil))))
  (DB.one (DS.ret DE.bool)) DB.nil))))))
  (DB.cons (DS.set 12 (DE.ix c (DE.lst (DA.cons (DE.neg DE.int) (DA.cons (DE.op (opAdd4 c) (DE.ix c (DE.var 4) DE.int) DE.int) (DA.cons DE.bool (DA.cons DE.non (DA.cons DE.str (DA.cons (DE.tup (DA.cons DE.int DA.nil)) DA.nil))))))) (DE.cl c L_law_digit (by decide) rfl (DA.cons (DE.var 3) (DA.cons DE.int DA.nil)) (aLen_cons (aLen_cons aLen_nil)))) (fun _ => sc_law.nd))
  (DB.cons (DS.set 13 (DE.lam c (kb := 6) (ns := []) (vs := []) LG_law_caught (by decide) (by decide) TB hC (fun _ => rfl) (fun _ => LamY.lamS2_by (N := nn_law) (sc := defScope ss_law) (by decide +kernel)) (lamB0 fun q cl pm cv ctv => rfl) (fun _ => .none rfl) rfl (fun E3 c3 tk3 => (DEQ.cl c3 tk3 Q_may_stand (by decide) rfl (DA.cons (DE.var 4) (DA.cons (DE.var 6) (DA.cons (DE.var 8) (DA.cons (DE.tup (DA.cons DE.int (DA.cons DE.int DA.nil))) (DA.cons (DE.var 12) DA.nil))))) (aLen_cons (aLen_cons (aLen_cons (aLen_cons (aLen_cons aLen_nil)))))))) (fun _ => sc_law.nd))
  (DB.one (DS.ite (DC.test (DC.op (opNe c) (DE.cl c L_law_kinds (by decide) rfl (DA.cons (DE.var 13) DA.nil) (aLen_cons aLen_nil)) (DE.lst (DA.cons DE.str (DA.cons DE.str (DA.cons DE.str DA.nil))))))
  (DB.one (DS.ret DE.bool)) DB.nil)))))))
  (DB.one (DS.ite (DW.test (DW.or (DT.not (DE.test (DE.cl c L_law_stocks_refused (by decide) rfl (DA.cons (DE.var 3) (DA.cons (DE.var 4) (DA.cons (DE.var 6) DA.nil))) (aLen_cons (aLen_cons (aLen_cons aLen_nil)))))) (DW.or1 (DT.not (DE.test (DE.cl c L_law_order_right (by decide) rfl (DA.cons (DE.var 3) (DA.cons (DE.var 4) (DA.cons (DE.var 6) (DA.cons (DE.var 8) DA.nil)))) (aLen_cons (aLen_cons (aLen_cons (aLen_cons aLen_nil))))))))))
  (DB.one (DS.ret DE.bool)) DB.nil)))))))))
  (DB.one (DS.ret DE.bool)))
end
end Law
namespace Law
open PySem L2 Pl
/-- a fraction as a value -/
def R (q : Rat) : D := .tup [.int q.num, .int (q.den : Int)]
theorem dOk {t s : Int} (h : s ≠ 0) (hb : s.natAbs < 2 ^ 8000) : DivOk t s := divOk h hb (by decide) (by decide)
end Law
namespace Law
open PySem L2 Pl
theorem ix1 {q : Rat} {M : Mh} : gIx (R q) (.int 1) M = some (.int (q.den : Int), M) := rfl
theorem mul_int {i j : Int} (h : MulOk i j) {M : Mh} : gMul (.int i) (.int j) M = some (.int (i * j), M) := if_pos h
theorem add_int {i j : Int} {M : Mh} : gAdd (.int i) (.int j) M = some (.int (i + j), M) := rfl
section
variable {a b c : Rat} {i j k : Nat}
theorem eqv_int (i j : Int) : PyData.eqv (.int i) (.int j) = decide (i = j) := by
  by_cases h : i = j
  · subst h; simp [PyData.eqv]
  · rw [decide_eq_false h]; simp [PyData.eqv, h]
theorem eq_int (i j : Int) (M : Mh) : gEq PyData.eqv (.int i) (.int j) M = some (.bl (decide (i = j)), M) := by
  rw [← eqv_int]; rfl
theorem ne_int (i j : Int) (M : Mh) : gEq (fun p q => !PyData.eqv p q) (.int i) (.int j) M = some (.bl (!decide (i = j)), M) := by
  rw [← eqv_int]; rfl
/-- the told order -/
def cmpR (a b : Rat) : Int := if a < b then -1 else if b < a then 1 else 0
theorem kit_tt : kitB "tuple" "tuple" = some true := by decide +kernel
theorem kit_ii : kitB "int" "int" = some true := by decide +kernel
theorem kit_ib : kitB "int" "bool" = some false := by decide +kernel
end
end Law
namespace Law
open PySem L2 Pl
theorem x_aCons {f : EF} {g : AF} {δ : Pl.Env} {M : Mh} : aCons f g δ M = (match f δ M with | some (d, M1) => (match g δ M1 with | some (ds, M2) => some (d :: ds, M2) | none => none) | none => none) := (fun h => h) (by unfold aCons; rfl)
theorem x_aNil {δ : Pl.Env} {M : Mh} : aNil δ M = some ([], M) := (fun h => h) (by unfold aNil; rfl)
theorem x_eC {δ : Pl.Env} {M : Mh} {d : D} : eC d δ M = some (d, M) := (fun h => h) (by unfold eC; rfl)
theorem x_eVar {i : Nat} {δ : Pl.Env} {M : Mh} : eVar i δ M = (match δ[i]? with | some (some d) => some (d, M) | _ => none) := (fun h => h) (by unfold eVar; rfl)
theorem x_eB {g : GL} {f : AF} {δ : Pl.Env} {M : Mh} : eB g f δ M = (match f δ M with | some (ds, M1) => g ds M1 | none => none) := (fun h => h) (by unfold eB; rfl)
theorem x_eTup {f : AF} {δ : Pl.Env} {M : Mh} {ds : List D} {M1 : Mh} (h : f δ M = some (ds, M1)) (hl : ds.length ≤ 1000) : eTup f δ M = some (.tup ds, M1) := by
  unfold eTup; rw [h]; exact if_pos (Nat.le_trans hl (by decide))
theorem x_eLst {f : AF} {δ : Pl.Env} {M : Mh} {ds : List D} {M1 : Mh} (h : f δ M = some (ds, M1)) (hl : ds.length ≤ 1000) : eLst f δ M = some (.lst ds, M1) := by
  unfold eLst; rw [h]; exact if_pos (Nat.le_trans hl (by decide))
theorem x_eNt {f : EF} {δ : Pl.Env} {M M1 : Mh} {b : Bool} (h : f δ M = some (.bl b, M1)) : eNt f δ M = some (.bl (!b), M1) := by
  unfold eNt; rw [h]
theorem seq_nx {f g : SF} {δ δ' : Pl.Env} {M M1 : Mh} {r : Option Out} (h : f δ M = some (.nx δ' M1)) (k : g δ' M1 = r) : sSeq f g δ M = r := by
  unfold sSeq; rw [h]; exact k
theorem seq_rt {f g : SF} {δ : Pl.Env} {M M1 : Mh} {d : D} (h : f δ M = some (.rt d M1)) : sSeq f g δ M = some (.rt d M1) := by
  unfold sSeq; rw [h]
theorem if_ff {t : TF} {f g : SF} {δ : Pl.Env} {M M1 : Mh} {r : Option Out} (h : t δ M = some (false, M1)) (k : g δ M1 = r) : sIf t f g δ M = r := by
  unfold sIf; rw [h]; exact k
theorem if_tt {t : TF} {f g : SF} {δ : Pl.Env} {M M1 : Mh} {r : Option Out} (h : t δ M = some (true, M1)) (k : f δ M1 = r) : sIf t f g δ M = r := by
  unfold sIf; rw [h]; exact k
theorem nil_of {δ : Pl.Env} {M : Mh} : sNil δ M = some (.nx δ M) := (fun h => h) (by unfold sNil; rfl)
theorem seq_if0 {t : TF} {f g : SF} {δ : Pl.Env} {M M1 : Mh} {r : Option Out} (h : t δ M = some (false, M1)) (k : g δ M1 = r) : sSeq (sIf t f sNil) g δ M = r :=
  seq_nx (if_ff h nil_of) k
theorem seq_if1 {t : TF} {f f2 g : SF} {δ : Pl.Env} {M M1 M2 : Mh} {d : D} (h : t δ M = some (true, M1)) (k : f δ M1 = some (.rt d M2)) : sSeq (sIf t f f2) g δ M = some (.rt d M2) :=
  seq_rt (if_tt h k)
theorem as_of {f : EF} {p : GF} {δ δ' : Pl.Env} {M M1 : Mh} {d : D} (h : f δ M = some (d, M1)) (hp : p d δ = some δ') : sAs f p δ M = some (.nx δ' M1) := by
  unfold sAs; rw [h]; dsimp only; rw [hp]
theorem seq_as {f : EF} {p : GF} {g : SF} {δ δ' : Pl.Env} {M M1 : Mh} {d : D} {r : Option Out} (h : f δ M = some (d, M1)) (hp : p d δ = some δ') (k : g δ' M1 = r) : sSeq (sAs f p) g δ M = r :=
  seq_nx (as_of h hp) k
theorem ret_of {f : EF} {δ : Pl.Env} {M M1 : Mh} {d : D} (h : f δ M = some (d, M1)) : sRet f δ M = some (.rt d M1) := by
  unfold sRet; rw [h]
theorem fn_rt {n : Nat} {g : SF} {ds : List D} {M M1 : Mh} {d : D} (h : g (startD n ds) M = some (.rt d M1)) : fnF n g ds M = some (d, M1) := by
  unfold fnF; rw [h]
theorem or0 {f g : TF} {δ : Pl.Env} {M M1 : Mh} {r : Option (Bool × Mh)} (h : f δ M = some (false, M1)) (k : g δ M1 = r) : tOrr f g δ M = r := by
  unfold tOrr; rw [h]; exact k
theorem or1 {f g : TF} {δ : Pl.Env} {M M1 : Mh} (h : f δ M = some (true, M1)) : tOrr f g δ M = some (true, M1) := by
  unfold tOrr; rw [h]
theorem an1 {f g : TF} {δ : Pl.Env} {M M1 : Mh} {r : Option (Bool × Mh)} (h : f δ M = some (true, M1)) (k : g δ M1 = r) : tAn f g δ M = r := by
  unfold tAn; rw [h]; exact k
theorem an0 {f g : TF} {δ : Pl.Env} {M M1 : Mh} (h : f δ M = some (false, M1)) : tAn f g δ M = some (false, M1) := by
  unfold tAn; rw [h]
theorem op_of {g : O2} {fa fb : EF} {δ : Pl.Env} {M M1 M2 : Mh} {a b : D} {r : Option (D × Mh)} (h1 : fa δ M = some (a, M1)) (h2 : fb δ M1 = some (b, M2)) (h3 : g a b M2 = r) : eOp g fa fb δ M = r := by
  unfold eOp; rw [h1]; dsimp only; rw [h2]; exact h3
theorem v_bl {f : EF} {δ : Pl.Env} {M M1 : Mh} {b : Bool} (h : f δ M = some (.bl b, M1)) : tV f δ M = some (b, M1) := by
  unfold tV; rw [h]
theorem nt_of {f : TF} {δ : Pl.Env} {M M1 : Mh} {b : Bool} (h : f δ M = some (b, M1)) : tNt f δ M = some (!b, M1) := by
  unfold tNt; rw [h]
theorem call_of {F : Fn} {g : AF} {dds ds : List D} {δ : Pl.Env} {M M1 : Mh} {r : Option (D × Mh)} (h : g δ M = some (ds, M1)) (k : F (ds ++ dds) M1 = r) : eCall F g dds δ M = r := by
  unfold eCall; rw [h]; exact k
theorem cons_of {f : EF} {g : AF} {δ : Pl.Env} {M M1 M2 : Mh} {d : D} {ds : List D} (h : f δ M = some (d, M1)) (k : g δ M1 = some (ds, M2)) : aCons f g δ M = some (d :: ds, M2) := by
  unfold aCons; rw [h]; dsimp only; rw [k]
end Law
namespace Law
open PySem L2 Pl
theorem c1 (a b : Rat) : cmpR a b = 0 - cmpR b a := by unfold cmpR; grind
theorem c2 (a b : Rat) : decide (cmpR a b = 0) = decide (a = b) := by unfold cmpR; grind
theorem c3 (a b c : Rat) : cmpR (a + c) (b + c) = cmpR a b := by unfold cmpR; grind
theorem intC_of {C : Int → Int → Prop} [∀ i j, Decidable (C i j)] {f : Int → Int → D} {i j : Int} {M : Mh} (h : C i j) : gIntC C f (.int i) (.int j) M = some (f i j, M) := if_pos h
end Law
namespace Law
open PySem L2 Pl
/-- what draws are made by -/
def dk (l c t : Int) : MO := .dic [(.inr "left", .int l), (.inr "cell", .int c), (.inr "turns", .int t)]
theorem k1 : ¬ (("cell" : Str) = "left") := by decide +kernel
theorem k2 : ¬ (("turns" : Str) = "left") := by decide +kernel
theorem k3 : ¬ (("left" : Str) = "cell") := by decide +kernel
theorem k4 : ¬ (("turns" : Str) = "cell") := by decide +kernel
theorem k5 : ¬ (("left" : Str) = "turns") := by decide +kernel
theorem k6 : ¬ (("cell" : Str) = "turns") := by decide +kernel
section
variable {n : Nat} {l c t v : Int} {M : Mh}
theorem get_l (h : M[n]? = some (dk l c t)) : gDget (.ref n) (.str "left") M = some (.int l, M) := by
  simp [gDget, dicOf, h, dk, keyOf, Pl.dget]
theorem get_c (h : M[n]? = some (dk l c t)) : gDget (.ref n) (.str "cell") M = some (.int c, M) := by
  simp [gDget, dicOf, h, dk, keyOf, Pl.dget, List.find?, k3]
theorem get_t (h : M[n]? = some (dk l c t)) : gDget (.ref n) (.str "turns") M = some (.int t, M) := by
  simp [gDget, dicOf, h, dk, keyOf, Pl.dget, List.find?, k5, k6]
theorem put_l (h : M[n]? = some (dk l c t)) : gDput (.ref n) (.str "left") (.int v) M = some (M.set n (dk v c t)) := by
  simp [gDput, h, dk, keyOf, sizeLine, Pl.dput, k1, k2]
theorem put_t (h : M[n]? = some (dk l c t)) : gDput (.ref n) (.str "turns") (.int v) M = some (M.set n (dk l c v)) := by
  simp [gDput, h, dk, keyOf, sizeLine, Pl.dput, k5, k6]
theorem set_at {m m' : MO} (h : M[n]? = some m) : (M.set n m')[n]? = some m' := by
  have : n < M.length := (List.getElem?_eq_some_iff.mp h).1
  simp [this]
theorem put_of {f g h : EF} {δ : Pl.Env} {M1 M2 M3 M4 : Mh} {a b v : D} (h1 : h δ M = some (v, M1)) (h2 : f δ M1 = some (a, M2)) (h3 : g δ M2 = some (b, M3)) (h4 : gDput a b v M3 = some M4) : sDput f g h δ M = some (.nx δ M4) := by
  unfold sDput; rw [h1]; dsimp only; rw [h2]; dsimp only; rw [h3]; dsimp only; rw [h4]
theorem fm {a b : Int} (h : 0 < b) : 0 ≤ a.fmod b ∧ a.fmod b < b := ⟨Int.fmod_nonneg_of_pos _ h, Int.fmod_lt_of_pos _ h⟩
theorem mixed_ok {k : Int} (h0 : 0 ≤ k) (h1 : k < 2 ^ 60) : ∃ r : Int, ff_law_mixed [.int c, .int k] M = some (.int r, M) ∧ 0 ≤ r ∧ r < 2147483647 := by
  have hk := fm (a := k) (b := 4) (by decide)
  have ix : ∃ m : Int, gIx (.lst [.int 1000000007, .int 998244353, .int 2147483629, .int 1000000009]) (.int (k.fmod 4)) M = some (.int m, M) ∧ 0 < m ∧ m < 2 ^ 40 := by
    have : k.fmod 4 = 0 ∨ k.fmod 4 = 1 ∨ k.fmod 4 = 2 ∨ k.fmod 4 = 3 := by omega
    rcases this with e | e | e | e <;> rw [e]
    · exact ⟨1000000007, rfl, by decide, by decide⟩
    · exact ⟨998244353, rfl, by decide, by decide⟩
    · exact ⟨2147483629, rfl, by decide, by decide⟩
    · exact ⟨1000000009, rfl, by decide, by decide⟩
  obtain ⟨m, im, m0, m1⟩ := ix
  have hc := fm (a := c) m0
  have o1 : Pl.MulOk 7919 k := mulOk (a := 64) (b := 64) (by decide) (by omega) (by decide)
  have o2 : Pl.MulOk (c.fmod m + 7919 * k + 13) (c.fmod m + 7919 * k + 13) := mulOk (a := 100) (b := 100) (by omega) (by omega) (by decide)
  have h5 := fm (a := (c.fmod m + 7919 * k + 13) * (c.fmod m + 7919 * k + 13)) (b := 2147483647) (by decide)
  have o3 : Pl.MulOk (((c.fmod m + 7919 * k + 13) * (c.fmod m + 7919 * k + 13)).fmod 2147483647) 48271 := mulOk (a := 100) (b := 100) (by omega) (by decide) (by decide)
  have h6 := fm (a := ((c.fmod m + 7919 * k + 13) * (c.fmod m + 7919 * k + 13)).fmod 2147483647 * 48271) (b := 2147483647) (by decide)
  refine ⟨_, fn_rt ?_, h6.1, h6.2⟩
  show gg_law_mixed [some (.int c), some (.int k), none] M = _
  unfold gg_law_mixed
  refine seq_as (d := .int (c.fmod m + 7919 * k + 13)) (M1 := M) (δ' := [some (.int c), some (.int k), some (.int (c.fmod m + 7919 * k + 13))]) ?_ rfl ?_
  · exact op_of (op_of (op_of rfl (op_of (x_eLst (cons_of x_eC (cons_of x_eC (cons_of x_eC (cons_of x_eC x_aNil)))) (by simp)) (op_of rfl rfl (intC_of (by decide))) im) (intC_of (by omega))) (op_of rfl rfl (mul_int o1)) add_int) rfl add_int
  · exact ret_of (op_of (op_of (op_of (op_of rfl rfl (mul_int o2)) rfl (intC_of (by decide))) rfl (mul_int o3)) rfl (intC_of (by decide)))
/-- the draws' things stand there -/
def At (n : Nat) (B : Int) (M : Mh) : Prop := ∃ l c t : Int, M[n]? = some (dk l c t) ∧ 0 ≤ l ∧ 0 ≤ t ∧ t ≤ B
theorem fill_ok {t : Int} (h : M[n]? = some (dk 0 c t)) (h0 : 0 ≤ t) (h1 : t + 4 < 2 ^ 59) (x y z : Option D) : ∃ l' : Int, sFor (aRng1 (aCons (eC (.int 4)) aNil)) (gN 2) (sSeq (sDput (eVar 0) (eC (.str "turns")) (eOp gAdd (eOp gDget (eVar 0) (eC (.str "turns"))) (eC (.int 1)))) (sDput (eVar 0) (eC (.str "left")) (eOp gAdd (eOp gMul (eOp gDget (eVar 0) (eC (.str "left"))) (eC (.int 2147483647))) (eCall ff_law_mixed (aCons (eOp gDget (eVar 0) (eC (.str "cell"))) (aCons (eOp gDget (eVar 0) (eC (.str "turns"))) aNil)) [])))) [some (.ref n), x, y, z] M = some (.nx [some (.ref n), x, some (.int 3), z] (M.set n (dk l' c (t + 4)))) ∧ 0 ≤ l' := by
  have step : ∀ (l t : Int) (N : Mh) (y : Option D), N[n]? = some (dk l c t) → 0 ≤ t → t + 1 < 2 ^ 60 → 0 ≤ l → l < 2 ^ 200 → ∃ l' : Int, sSeq (sDput (eVar 0) (eC (.str "turns")) (eOp gAdd (eOp gDget (eVar 0) (eC (.str "turns"))) (eC (.int 1)))) (sDput (eVar 0) (eC (.str "left")) (eOp gAdd (eOp gMul (eOp gDget (eVar 0) (eC (.str "left"))) (eC (.int 2147483647))) (eCall ff_law_mixed (aCons (eOp gDget (eVar 0) (eC (.str "cell"))) (aCons (eOp gDget (eVar 0) (eC (.str "turns"))) aNil)) []))) [some (.ref n), x, y, z] N = some (.nx [some (.ref n), x, y, z] (N.set n (dk l' c (t + 1)))) ∧ 0 ≤ l' ∧ l' < l * 2147483647 + 2147483647 := fun l t N y hN t0 t1 l0 l1 => by
    have hN1 : (N.set n (dk l c (t + 1)))[n]? = some (dk l c (t + 1)) := set_at hN
    obtain ⟨r, hr, r0, r1⟩ := mixed_ok (c := c) (M := N.set n (dk l c (t + 1))) (k := t + 1) (by omega) (by omega)
    refine ⟨l * 2147483647 + r, ?_, by omega, by omega⟩
    have o : Pl.MulOk l 2147483647 := mulOk (a := 200) (b := 32) (by omega) (by decide) (by decide)
    have e2 : (N.set n (dk l c (t + 1))).set n (dk (l * 2147483647 + r) c (t + 1)) = N.set n (dk (l * 2147483647 + r) c (t + 1)) := List.set_set ..
    rw [← e2]
    exact seq_nx (put_of (op_of (op_of rfl rfl (get_t hN)) rfl add_int) rfl rfl (put_t hN)) (put_of (op_of (op_of (op_of rfl rfl (get_l hN1)) rfl (mul_int o)) (call_of (cons_of (op_of rfl rfl (get_c hN1)) (cons_of (op_of rfl rfl (get_t hN1)) x_aNil)) hr) add_int) rfl rfl (put_l hN1))
  obtain ⟨l1, s1, a1, b1⟩ := step 0 t M (some (.int 0)) h h0 (by omega) (by decide) (by decide)
  obtain ⟨l2, s2, a2, b2⟩ := step l1 (t + 1) _ (some (.int 1)) (set_at h) (by omega) (by omega) a1 (by omega)
  obtain ⟨l3, s3, a3, b3⟩ := step l2 (t + 1 + 1) _ (some (.int 2)) (set_at (set_at h)) (by omega) (by omega) a2 (by omega)
  obtain ⟨l4, s4, a4, b4⟩ := step l3 (t + 1 + 1 + 1) _ (some (.int 3)) (set_at (set_at (set_at h))) (by omega) (by omega) a3 (by omega)
  refine ⟨l4, ?_, a4⟩
  have er : aRng1 (aCons (eC (.int 4)) aNil) [some (.ref n), x, y, z] M = some ([.int 0, .int 1, .int 2, .int 3], M) := rfl
  unfold sFor
  rw [er]
  dsimp only [forGo, gN, List.set_cons_succ, List.set_cons_zero]
  rw [s1]
  dsimp only [forGo, gN, List.set_cons_succ, List.set_cons_zero]
  rw [s2]
  dsimp only [forGo, gN, List.set_cons_succ, List.set_cons_zero]
  rw [s3]
  dsimp only [forGo, gN, List.set_cons_succ, List.set_cons_zero]
  rw [s4]
  dsimp only [forGo]
  simp only [List.set_set]
  rw [show t + 1 + 1 + 1 + 1 = t + 4 by omega]
end
end Law
namespace Law
open PySem L2 Pl
/-- a number's text -/
abbrev TT (z : Int) : Str := Str.ofString (toString z)
theorem tl_TT (z : Int) : TL.tl (TT z) = if z < 0 then 45 :: TL.numL z.natAbs else TL.numL z.natAbs := by
  cases z with
  | ofNat n =>
    rw [if_neg (by simp)]
    exact TL.tl_num n
  | negSucc n =>
    rw [if_pos (Int.negSucc_lt_zero n)]
    have e : toString (Int.negSucc n) = "-" ++ toString ((n + 1 : Nat) : Int) := rfl
    have e2 : (Int.negSucc n).natAbs = n + 1 := rfl
    rw [TT, e, TL.tl_ofString, String.toList_append, List.map_append, ← TL.tl_ofString (toString ((n + 1 : Nat) : Int)), TL.tl_num, e2]
    rfl
theorem strOk_of {x : Str} (h : ∀ s ∈ TL.tl x, s < 1114112) : PyData.strOk x = true := by
  unfold PyData.strOk
  rw [Array.all_eq_true']
  intro c hc
  exact decide_eq_true (h c (by simpa using hc))
theorem eqv_str (x y : Str) : PyData.eqv (.str x) (.str y) = decide (x = y) := by
  by_cases h : x = y
  · subst h; simp [PyData.eqv]
  · rw [decide_eq_false h]; simp [PyData.eqv, h]
theorem str_sh {x : Str} (h : PyData.strOk x = true) : SeqAt.shaped (.str x) = true := by
  simp [SeqAt.shaped, PyData.canLay0, PyData.depth, h]
theorem ne_str {x y : Str} (hx : PyData.strOk x = true) (hy : PyData.strOk y = true) (M : Mh) : gEq (fun p q => !PyData.eqv p q) (.str x) (.str y) M = some (.bl (!decide (x = y)), M) := by
  simp only [gEq, toP, deref, str_sh hx, str_sh hy, Bool.and_self, if_true, eqv_str]
end Law
namespace Law
open PySem L2 Pl
theorem TT_ok (z : Int) : ∀ s ∈ TL.tl (TT z), s < 1114112 := fun s hs => by
  rw [tl_TT] at hs
  have hd := TL.numL_digits z.natAbs
  by_cases h : z < 0
  · rw [if_pos h] at hs
    rcases List.mem_cons.mp hs with e | e
    · omega
    · have := hd s e; omega
  · rw [if_neg h] at hs
    have := hd s hs; omega
theorem lg {n : Nat} (h : n < 2 ^ 128) : n.log2 < 1920 := Nat.lt_of_lt_of_le (PySem.Flt.log2_lt_of (by decide) h) (by decide)
end Law
namespace Law
open PySem L2 Pl
theorem ints_of : ∀ ns : List Int, intsOf (ns.map D.int) = some ns
  | [] => rfl
  | n :: ns => by rw [List.map_cons, intsOf, ints_of ns]
end Law
namespace Law
open PySem L2 Pl
theorem t0 : TL.tl ("0" : Str) = [48] := by decide +kernel
end Law
namespace Law
open PySem L2 Pl
def optI : Option Int → D
  | none => .non
  | some n => .int n
/-- signs that a text may have -/
def SOk (x : Str) : Prop := ∀ s ∈ TL.tl x, s < 1114112
end Law
namespace Law
open PySem L2 Pl
theorem kit_ni : kitB "NoneType" "int" = some false := by decide +kernel
theorem whole_sp (u : Option Int) (M : Mh) : ff_is_whole [optI u] M = some (.bl u.isSome, M) := by
  cases u with
  | none => simp [ff_is_whole, gg_is_whole, fnF, startD, sRet, eAn, x_eB, x_aCons, x_aNil, x_eVar, x_eC, gIsi, tyN, optI, kit_ni]
  | some z => simp [ff_is_whole, gg_is_whole, fnF, startD, sRet, eAn, eNt, x_eB, x_aCons, x_aNil, x_eVar, x_eC, gIsi, tyN, optI, kit_ii, kit_ib]
def up : Option Nat → Option Int
  | none => none
  | some n => some (n : Int)
end Law
namespace Law
open PySem L2 Pl
theorem set_ne {M : Mh} {n m : Nat} {x : MO} (h : m ≠ n) : (M.set n x)[m]? = M[m]? := List.getElem?_set_ne (Ne.symm h)
theorem digit_fr {n : Nat} {M : Mh} {B many : Int} (h : At n B M) (hB : B < 2 ^ 58) (m0 : 0 < many) (m1 : many < 2 ^ 200) : ∃ (f : Int) (M' : Mh), ff_law_digit [.ref n, .int many] M = some (.int f, M') ∧ At n (B + 4) M' ∧ 0 ≤ f ∧ f < many ∧ ∀ m, m ≠ n → M'[m]? = M[m]? := by
  obtain ⟨l, c, t, hM, l0, t0, tB⟩ := h
  have om : DivOk l many := dOk (by omega) (Nat.lt_of_lt_of_le (m := 2 ^ 200) (by omega) (Nat.pow_le_pow_right (by decide) (by decide)))
  have tail : ∀ (l t : Int) (N : Mh) (x : Option D), N[n]? = some (dk l c t) → 0 ≤ l → 0 ≤ t → t ≤ B + 4 → ∃ (f : Int) (M' : Mh), sSeq (sAs (eOp (gIntC (fun _ j => j ≠ 0) fun i j => .int (i.fmod j)) (eOp gDget (eVar 0) (eC (.str "left"))) (eVar 1)) (gN 3)) (sSeq (sDput (eVar 0) (eC (.str "left")) (eOp (gIntC DivOk fun i j => .int (i.fdiv j)) (eOp gDget (eVar 0) (eC (.str "left"))) (eVar 1))) (sRet (eVar 3))) [some (.ref n), some (.int many), x, none] N = some (.rt (.int f) M') ∧ At n (B + 4) M' ∧ 0 ≤ f ∧ f < many ∧ ∀ m, m ≠ n → M'[m]? = N[m]? := fun l t N x hN l0 t0 tB => by
    have om : DivOk l many := ⟨om.1, om.2⟩
    have hf := fm (a := l) m0
    refine ⟨l.fmod many, N.set n (dk (l.fdiv many) c t), ?_, ⟨l.fdiv many, c, t, set_at hN, ?_, t0, tB⟩, hf.1, hf.2, fun m hm => set_ne hm⟩
    · exact seq_as (M1 := N) (δ' := [some (.ref n), some (.int many), x, some (.int (l.fmod many))]) (op_of (op_of rfl rfl (get_l hN)) rfl (intC_of (by omega))) rfl (seq_nx (put_of (op_of (op_of rfl rfl (get_l hN)) rfl (intC_of om)) rfl rfl (put_l hN)) (ret_of rfl))
    · exact Int.fdiv_nonneg l0 (by omega)
  have tst : tV (eOp (gEq PyData.eqv) (eOp gDget (eVar 0) (eC (.str "left"))) (eC (.int 0))) [some (.ref n), some (.int many), none, none] M = some (decide (l = 0), M) := v_bl (op_of (op_of rfl rfl (get_l hM)) rfl (eq_int _ _ _))
  by_cases hl : l = 0
  · subst hl
    obtain ⟨l', e1, p1⟩ := fill_ok hM t0 (by omega) (some (.int many)) none none
    obtain ⟨f, M', e2, p2, p3, p4, p5⟩ := tail l' (t + 4) _ (some (.int 3)) (set_at hM) p1 (by omega) (by omega)
    refine ⟨f, M', fn_rt ?_, p2, p3, p4, fun m hm => (p5 m hm).trans (set_ne hm)⟩
    show gg_law_digit [some (.ref n), some (.int many), none, none] M = _
    unfold gg_law_digit
    exact seq_nx (if_tt (tst.trans (by rw [decide_eq_true rfl])) e1) e2
  · obtain ⟨f, M', e2, p2⟩ := tail l t M none hM l0 t0 (by omega)
    refine ⟨f, M', fn_rt ?_, p2⟩
    show gg_law_digit [some (.ref n), some (.int many), none, none] M = _
    unfold gg_law_digit
    exact seq_if0 (tst.trans (by rw [decide_eq_false hl])) e2
/-- a word that may come -/
def Wd? (x : Str) (n : Nat) : Prop := x.length ≤ n ∧ SOk x
theorem ps_of {f : EF} {δ : Pl.Env} {M M1 : Mh} {i : Int} (h : f δ M = some (.int i, M1)) : pSome f δ M = some (some i, M1) := by
  unfold pSome; rw [h]
end Law
namespace Law
open PySem L2 Pl
/-- plain things -/
def Smp : D → Prop
  | .non => True
  | .bl _ => True
  | .int i => i.natAbs < 2 ^ 128
  | _ => False
theorem smp_ok {d : D} (h : Smp d) : ∃ p, toP d = some p ∧ p.showable = true ∧ p.canLay0 = true ∧ p.depth = 0 ∧ p.hasDict = false ∧ SOk p.shown ∧ p.shown.length ≤ 1921 := by
  match d, h with
  | .non, _ => exact ⟨.none, rfl, by decide +kernel, by decide +kernel, by decide +kernel, by decide +kernel, fun s hs => by
      have e : TL.tl (PyData.none).shown = [78, 111, 110, 101] := by decide +kernel
      rw [e] at hs
      simp only [List.mem_cons, List.not_mem_nil, or_false] at hs
      omega, by decide +kernel⟩
  | .bl b, _ =>
    have g : ∀ b : Bool, (TL.tl (PyData.bool b).shown).all (fun s => decide (s < 1114112)) = true ∧ (PyData.bool b).shown.length ≤ 1921 ∧ (PyData.bool b).showable = true ∧ (PyData.bool b).canLay0 = true ∧ (PyData.bool b).depth = 0 ∧ (PyData.bool b).hasDict = false := by decide +kernel
    obtain ⟨a1, a2, a3, a4, a5, a6⟩ := g b
    exact ⟨.bool b, rfl, a3, a4, a5, a6, fun s hs => of_decide_eq_true (List.all_eq_true.mp a1 s hs), a2⟩
  | .int i, h =>
    have l1 : i.natAbs.log2 < 1920 := lg h
    exact ⟨.int i, rfl, by simp [PyData.showable, l1], by simp [PyData.canLay0], by simp [PyData.depth], by simp [PyData.hasDict], TT_ok i, PyProof.Rows.int_text_len_1921 l1⟩
end Law
namespace Law
open PySem L2 Pl
theorem whole_str {x : Str} (M : Mh) : ff_is_whole [.str x] M = some (.bl false, M) := by
  refine fn_rt ?_
  show gg_is_whole [some (.str x)] M = _
  unfold gg_is_whole
  refine ret_of ?_
  have k : kitB "str" "int" = some false := by decide +kernel
  have e : eB gIsi (aCons (eVar 0) (aCons (eC (.ty "int")) aNil)) [some (.str x)] M = some (.bl false, M) := by
    rw [x_eB, cons_of (d := .str x) (M1 := M) rfl (cons_of x_eC x_aNil)]
    simp [gIsi, tyN, k]
  unfold eAn
  rw [e]
theorem among_str {x : Str} (M : Mh) (d e : D) : ff_is_among [.str x, d, e] M = some (.bl false, M) := by
  refine fn_rt ?_
  show gg_is_among [some (.str x), some d, some e] M = _
  unfold gg_is_among
  exact seq_if1 (M1 := M) (or1 (M1 := M) (nt_of (b := false) (v_bl (call_of (cons_of rfl x_aNil) (whole_str M))))) (ret_of rfl)
end Law
namespace Law
open PySem L2 Pl
theorem an_of1 {f g : EF} {δ : Pl.Env} {M M1 : Mh} {r : Option (D × Mh)} (h : f δ M = some (.bl true, M1)) (k : g δ M1 = r) : eAn f g δ M = r := by
  unfold eAn; rw [h]; exact k
theorem an_of0 {f g : EF} {δ : Pl.Env} {M M1 : Mh} (h : f δ M = some (.bl false, M1)) : eAn f g δ M = some (.bl false, M1) := by
  unfold eAn; rw [h]
theorem par_e {i j : Nat} {f g : EF} {δ : Pl.Env} {M M1 M2 : Mh} {d e : D} (h : f δ M = some (d, M1)) (k : g δ M1 = some (e, M2)) : sPar i j f g δ M = some (.nx ((δ.set i (some d)).set j (some e)) M2) := by
  unfold sPar; rw [h]; dsimp only; rw [k]
end Law
namespace Law
open PySem L2 Pl
def AOk (x : Str) : Prop := ∀ s ∈ TL.tl x, s < 128
theorem AOk.s {x : Str} (h : AOk x) : SOk x := fun s hs => Nat.lt_trans (h s hs) (by decide)
theorem dgcA {n : Nat} {M : Mh} {B many : Int} {δ : Pl.Env} {i : Nat} {fm : EF} {M1 : Mh} (h0 : δ[i]? = some (some (.ref n))) (hm : fm δ M = some (.int many, M1)) (h : At n B M1) (hB : B < 2 ^ 58) (m0 : 0 < many) (m1 : many < 2 ^ 200) : ∃ (f : Int) (M' : Mh), eCall ff_law_digit (aCons (eVar i) (aCons fm aNil)) [] δ M = some (.int f, M') ∧ At n (B + 4) M' ∧ 0 ≤ f ∧ f < many ∧ ∀ m, m ≠ n → M'[m]? = M1[m]? := by
  obtain ⟨f, M', e, p⟩ := digit_fr h hB m0 m1
  exact ⟨f, M', call_of (cons_of (by rw [x_eVar, h0]) (cons_of hm x_aNil)) e, p⟩
end Law
namespace Law
open PySem L2 Pl
theorem Wd?.mono {x : Str} {n m : Nat} (h : Wd? x n) (l : n ≤ m) : Wd? x m := ⟨Nat.le_trans h.1 l, h.2⟩
end Law
namespace Law
open PySem L2 Pl
theorem joinL_mem (S : List Nat) : ∀ (ps : List (List Nat)), ∀ s ∈ TL.joinL S ps, s ∈ S ∨ ∃ p ∈ ps, s ∈ p
  | [], s, h => by cases h
  | [p], s, h => .inr ⟨p, List.mem_singleton.mpr rfl, h⟩
  | p :: q :: r, s, h => by
    rcases List.mem_append.mp (show s ∈ p ++ (S ++ TL.joinL S (q :: r)) from h) with z | z
    · exact .inr ⟨p, List.mem_cons_self, z⟩
    · rcases List.mem_append.mp z with z | z
      · exact .inl z
      · rcases joinL_mem S (q :: r) s z with z | ⟨u, hu, z⟩
        · exact .inl z
        · exact .inr ⟨u, List.mem_cons_of_mem _ hu, z⟩
end Law
namespace Law
open PySem L2 Pl Pl.Ev
/-- what repr and == can take -/
def Nz (n k : Nat) (d : D) : Prop := ∃ p, toP d = some p ∧ p.showable = true ∧ p.canLay0 = true ∧ p.depth ≤ k ∧ p.hasDict = false ∧ SOk p.shown ∧ p.shown.length ≤ n
theorem Nz.mono {n m k j : Nat} {d : D} (h : Nz n k d) (l : n ≤ m) (g : k ≤ j) : Nz m j d := by
  obtain ⟨p, a1, a2, a3, a4, a5, a6, a7⟩ := h
  exact ⟨p, a1, a2, a3, Nat.le_trans a4 g, a5, a6, Nat.le_trans a7 l⟩
theorem nz_smp {d : D} (h : Smp d) : Nz 1921 0 d := by
  obtain ⟨p, a1, a2, a3, a4, a5, a6, a7⟩ := smp_ok h
  exact ⟨p, a1, a2, a3, by omega, a5, a6, a7⟩
/-- small letters alone, and few -/
def Low (x : Str) : Prop := x.length ≤ 20 ∧ ∀ s ∈ TL.tl x, 97 ≤ s ∧ s ≤ 122
theorem Low.s {x : Str} (h : Low x) : SOk x := fun s hs => by have := h.2 s hs; omega
theorem low_of {x : Str} (h : x.length ≤ 20) (g : (TL.tl x).all (fun s => decide (97 ≤ s) && decide (s ≤ 122)) = true) : Low x := ⟨h, fun s hs => by
  have := List.all_eq_true.mp g s hs
  simpa using this⟩
theorem chr_ok : ((List.range 26).all fun i => (Builtin.Str.reprChar 39 (97 + i)).all (fun s => decide (s < 128)) && (Builtin.Str.reprChar 34 (97 + i)).all (fun s => decide (s < 128))) = true := by decide +kernel
theorem chr_of {q c : Nat} (hq : q = 39 ∨ q = 34) (h : 97 ≤ c ∧ c ≤ 122) : ∀ s ∈ Builtin.Str.reprChar q c, s < 128 := fun s hs => by
  have := List.all_eq_true.mp chr_ok (c - 97) (List.mem_range.mpr (by omega))
  rw [show 97 + (c - 97) = c by omega, Bool.and_eq_true] at this
  rcases hq with e | e <;> rw [e] at hs
  · exact of_decide_eq_true (List.all_eq_true.mp this.1 s hs)
  · exact of_decide_eq_true (List.all_eq_true.mp this.2 s hs)
theorem fold_chr {q : Nat} (hq : q = 39 ∨ q = 34) : ∀ (cs : List Nat) (acc : Array Nat), (∀ c ∈ cs, 97 ≤ c ∧ c ≤ 122) → (∀ s ∈ acc.toList, s < 128) → ∀ s ∈ (cs.foldl (fun out c => out ++ (Builtin.Str.reprChar q c).toArray) acc).toList, s < 128
  | [], acc, _, h => h
  | c :: cs, acc, hc, h => by
    rw [List.foldl_cons]
    refine fold_chr hq cs _ (fun d hd => hc d (List.mem_cons_of_mem _ hd)) fun s hs => ?_
    rw [Array.toList_append] at hs
    rcases List.mem_append.mp hs with z | z
    · exact h s z
    · exact chr_of hq (hc c List.mem_cons_self) s z
theorem low_text {x : Str} (h : Low x) : SOk (PySem.reprText x) := fun s hs => by
  have hq : PySem.reprQuote x = 39 ∨ PySem.reprQuote x = 34 := by
    unfold PySem.reprQuote
    split
    · exact .inr rfl
    · exact .inl rfl
  have hs' : s ∈ ((x.cps.foldl (fun out c => out ++ (Builtin.Str.reprChar (PySem.reprQuote x) c).toArray) #[PySem.reprQuote x]).push (PySem.reprQuote x)).toList := hs
  rw [Array.toList_push, ← Array.foldl_toList] at hs'
  rcases List.mem_append.mp hs' with z | z
  · have := fold_chr hq x.cps.toList _ h.2 (fun t ht => by
      have : t = PySem.reprQuote x := by simpa using ht
      omega) s z
    omega
  · have := List.mem_singleton.mp z
    omega
theorem nz_low {x : Str} (h : Low x) : Nz 1921 0 (.str x) := by
  refine ⟨.str x, rfl, by simp [PyData.showable], by rw [PyData.canLay0]; exact strOk_of h.s, by simp [PyData.depth], by simp [PyData.hasDict], ?_, ?_⟩
  · rw [PyData.shown]; exact low_text h
  · rw [PyData.shown]
    have := PySem.StrLaws.reprText_len x fun c hc => by
      have := h.2 c hc
      exact Nat.lt_of_le_of_lt this.2 (by decide)
    have := h.1
    omega
theorem joins_ok : ∀ ps : List Str, (∀ t ∈ ps, SOk t) → SOk (Str.join ", " ps) := fun ps h s hs => by
  rw [TL.tl_join] at hs
  have e : TL.tl (", " : Str) = [44, 32] := by decide +kernel
  rw [e] at hs
  rcases joinL_mem _ _ s hs with z | ⟨p, hp, z⟩
  · simp only [List.mem_cons, List.not_mem_nil, or_false] at z
    omega
  · obtain ⟨t, ht, rfl⟩ := List.mem_map.mp hp
    exact h t ht s z
theorem nzs {n k : Nat} : ∀ L : List D, (∀ d ∈ L, Nz n k d) → ∃ ps, toPs L = some ps ∧ PyData.showableAll ps = true ∧ PyData.canLayAll0 ps = true ∧ PyData.depthAll ps ≤ k ∧ PyData.hasDictAll ps = false ∧ (∀ t ∈ PyData.shownAll ps, SOk t ∧ t.length ≤ n) ∧ (PyData.shownAll ps).length = L.length
  | [], _ => ⟨[], rfl, by simp [PyData.showableAll], by simp [PyData.canLayAll0], by simp [PyData.depthAll], by simp [PyData.hasDictAll], (fun t ht => by rw [PyData.shownAll] at ht; exact absurd ht (by simp)), (by rw [PyData.shownAll]; rfl)⟩
  | d :: L, h => by
    obtain ⟨p, e, a1, a2, a3, a4, a5, a6⟩ := h d List.mem_cons_self
    obtain ⟨ps, f, b1, b2, b3, b4, b5, b6⟩ := nzs L fun x hx => h x (List.mem_cons_of_mem _ hx)
    refine ⟨p :: ps, by rw [toPs, e, f], by rw [PyData.showableAll, a1, b1]; rfl, by rw [PyData.canLayAll0, a2, b2]; rfl, by rw [PyData.depthAll]; omega, by rw [PyData.hasDictAll, a4, b4]; rfl, fun t ht => ?_, ?_⟩
    · rw [PyData.shownAll] at ht
      rcases List.mem_cons.mp ht with z | z
      · rw [z]; exact ⟨a5, a6⟩
      · exact b5 t z
    · rw [PyData.shownAll, List.length_cons, List.length_cons, b6]
theorem sum_le {n : Nat} : ∀ ts : List Str, (∀ t ∈ ts, t.length ≤ n) → (ts.map (·.length)).sum ≤ ts.length * n
  | [], _ => by simp
  | t :: ts, h => by
    rw [List.map_cons, List.sum_cons, List.length_cons, Nat.add_mul]
    have := h t List.mem_cons_self
    have := sum_le ts fun u hu => h u (List.mem_cons_of_mem _ hu)
    omega
theorem nz_tup {n k : Nat} (c : Nat) {L : List D} (h : ∀ d ∈ L, Nz n k d) (hl : L.length ≤ c) : Nz (c * (n + 2) + 3) (k + 1) (.tup L) := by
  obtain ⟨ps, f, b1, b2, b3, b4, b5, b6⟩ := nzs L h
  refine ⟨.tuple ps, by rw [toP, f], by rw [PyData.showable, b1], by rw [PyData.canLay0, b2], by rw [PyData.depth]; omega, by rw [PyData.hasDict, b4], ?_, ?_⟩
  · rw [PyData.shown, tupleText]
    intro s hs
    rw [TL.tl_append, TL.tl_append] at hs
    rcases List.mem_append.mp hs with z | z
    · rcases List.mem_append.mp z with z | z
      · have e : TL.tl ("(" : Str) = [40] := by decide +kernel
        rw [e] at z
        have := List.mem_singleton.mp z
        omega
      · exact joins_ok _ (fun t ht => (b5 t ht).1) s z
    · split at z
      · have e : TL.tl (Str.ofString ",)") = [44, 41] := by decide +kernel
        rw [e] at z
        simp only [List.mem_cons, List.not_mem_nil, or_false] at z
        omega
      · have e : TL.tl (Str.ofString ")") = [41] := by decide +kernel
        rw [e] at z
        have := List.mem_singleton.mp z
        omega
  · rw [PyData.shown]
    have h1 := PySem.tupleText_len_le (PyData.shownAll ps)
    have h2 := sum_le (n := n) (PyData.shownAll ps) fun t ht => (b5 t ht).2
    have h3 : (PyData.shownAll ps).length * n ≤ c * n := Nat.mul_le_mul_right _ (by omega)
    rw [Nat.mul_add]
    omega
theorem nz_repr {n k : Nat} {d : D} (h : Nz n k d) (hn : n ≤ 10000000) (hk : k ≤ 20) (nr : ∀ M, deref M d = d) : ∃ s : Str, PyData.strOk s = true ∧ ∀ M, gRepr [d] M = some (.str s, M) := by
  obtain ⟨p, a1, a2, a3, a4, a5, a6, a7⟩ := h
  refine ⟨p.shown, strOk_of a6, fun M => ?_⟩
  have ok : reprOk p = true := by
    have s1 : SeqAt.shaped p = true := by
      unfold SeqAt.shaped
      rw [a3, decide_eq_true (by omega)]; rfl
    have l3 : p.shown.length ≤ sizeLine := Nat.le_trans (Nat.le_trans a7 hn) (by decide)
    simp [reprOk, s1, a2, a5, l3]
  unfold gRepr
  dsimp only
  rw [nr, a1]
  dsimp only
  rw [if_pos ok]
end Law
namespace Law
open PySem L2 Pl Pl.Ev
theorem isi_of {f : EF} {δ : Pl.Env} {M : Mh} {d : D} {t n : String} {b : Bool} (h : f δ M = some (d, M)) (ht : tyN M d = some t) (k : kitB t n = some b) : eB gIsi (aCons f (aCons (eC (.ty n)) aNil)) δ M = some (.bl b, M) := by
  rw [x_eB, cons_of h (cons_of x_eC x_aNil)]
  simp [gIsi, ht, k]
inductive Kd | n | a | z | v | f
def Kd.c : Kd → Nat
  | .n => 110
  | .a => 97
  | .z => 122
  | .v => 118
  | .f => 102
end Law
namespace Law
open PySem L2 Pl Pl.Ev
/-- a word that may be read -/
def Wk? (x : Str) : Prop := x.length ≤ 100000 ∧ SOk x
theorem Wk?.l {x : Str} (h : Wk? x) : x.length ≤ 1000000 := Nat.le_trans h.1 (by decide)
theorem set_end {M : Mh} {a b : MO} : (M ++ [a]).set M.length b = M ++ [b] := by
  rw [List.set_append_right _ _ (Nat.le_refl _)]
  simp
theorem at_end {M : Mh} {a : MO} : (M ++ [a])[M.length]? = some a := by simp
end Law
namespace Law
open PySem L2 Pl Pl.Ev
theorem app_l {A B : List D} {M : Mh} (h : A.length + B.length ≤ 1000) : gAdd (.lst A) (.lst B) M = some (.lst (A ++ B), M) := if_pos (Nat.le_trans h (by decide))
end Law
namespace Law
open PySem L2 Pl Pl.Ev
/-- read and due: the same text -/
theorem nz_deref {n k : Nat} {d : D} (h : Nz n k d) : ∀ M, deref M d = d := fun M => by
  obtain ⟨p, e, _⟩ := h
  cases d with
  | ref m => simp [toP] at e
  | _ => rfl
theorem reprs_eq {n k : Nat} {d : D} {f g : EF} {δ : Pl.Env} {M M1 M2 : Mh} (hd : Nz n k d) (hn : n ≤ 10000000) (hk : k ≤ 20) (h1 : f δ M = some (d, M1)) (h2 : g δ M1 = some (d, M2)) :
    tV (eOp (gEq fun p q => !PyData.eqv p q) (eB gRepr (aCons f aNil)) (eB gRepr (aCons g aNil))) δ M = some (false, M2) := by
  obtain ⟨s, so, e⟩ := nz_repr hd hn hk (nz_deref hd)
  refine v_bl (op_of (a := .str s) (b := .str s) (M1 := M1) (M2 := M2) ?_ ?_ ((ne_str so so _).trans (by rw [decide_eq_true rfl]; rfl)))
  · rw [x_eB, cons_of h1 x_aNil]; exact e _
  · rw [x_eB, cons_of h2 x_aNil]; exact e _
end Law
namespace Law
open PySem L2 Pl Pl.Ev
theorem Low.w {x : Str} (h : Low x) : Wk? x := ⟨Nat.le_trans h.1 (by decide), h.s⟩
end Law
namespace Law
open PySem L2 Pl Pl.Ev
theorem kit_it : kitB "int" "tuple" = some false := by decide +kernel
end Law
namespace Law
open PySem L2 Pl Pl.Ev
theorem Wk?.h {x : Str} (h : Wk? x) : x.length ≤ 500000 := Nat.le_trans h.1 (by decide)
end Law
namespace Law
open PySem L2 Pl Pl.Ev
/-- what stands elsewhere stays -/
def Fr (n : Nat) (M M' : Mh) : Prop := ∀ m, m ≠ n → M'[m]? = M[m]?
theorem Fr.refl (n : Nat) (M : Mh) : Fr n M M := fun _ _ => rfl
theorem Fr.trans {n : Nat} {M M1 M2 : Mh} (a : Fr n M M1) (b : Fr n M1 M2) : Fr n M M2 := fun m h => (b m h).trans (a m h)
theorem At.up {n : Nat} {B C : Int} {M : Mh} (h : At n B M) (l : B ≤ C) : At n C M := by
  obtain ⟨a, b, c, e, h1, h2, h3⟩ := h
  exact ⟨a, b, c, e, h1, h2, by omega⟩
theorem At.lt {n : Nat} {B : Int} {M : Mh} (h : At n B M) : n < M.length := by
  obtain ⟨a, b, c, e, h1, h2, h3⟩ := h
  exact (List.getElem?_eq_some_iff.mp e).1
theorem At.apps {n : Nat} {B : Int} {M : Mh} (h : At n B M) (l : List MO) : At n B (M ++ l) := by
  have lt := h.lt
  obtain ⟨a, b, c, e, h1, h2, h3⟩ := h
  exact ⟨a, b, c, by rw [List.getElem?_append_left lt]; exact e, h1, h2, h3⟩
theorem At.set {n j : Nat} {B : Int} {M : Mh} {m : MO} (h : At n B M) (hj : j ≠ n) : At n B (M.set j m) := by
  obtain ⟨a, b, c, e, h1, h2, h3⟩ := h
  exact ⟨a, b, c, by rw [set_ne (Ne.symm hj)]; exact e, h1, h2, h3⟩
theorem dgE {n : Nat} {M : Mh} {B many : Int} {δ : Pl.Env} {i : Nat} {fm : EF} (h0 : δ[i]? = some (some (.ref n))) (hm : fm δ M = some (.int many, M)) (h : At n B M) (hB : B < 2 ^ 57) (m0 : 0 < many) (m1 : many ≤ 1000000) :
    ∃ (f : Nat) (M' : Mh), eCall ff_law_digit (aCons (eVar i) (aCons fm aNil)) [] δ M = some (.int f, M') ∧ At n (B + 4) M' ∧ (f : Int) < many ∧ Fr n M M' := by
  obtain ⟨f, M', e, p1, p2, p3, p4⟩ := dgcA h0 hm h (by omega) m0 (Int.lt_of_le_of_lt m1 (by decide))
  have : ((f.toNat : Nat) : Int) = f := Int.toNat_of_nonneg p2
  exact ⟨f.toNat, M', by rw [this]; exact e, p1, by omega, p4⟩
theorem atI_nat {α : Type} {xs : List α} {k : Nat} {x : α} (h : xs[k]? = some x) : atI xs (k : Int) = some x := by
  have hl := (List.getElem?_eq_some_iff.mp h).1
  unfold atI ixN
  rw [if_pos (by omega), if_pos (by omega)]
  simpa using h
end Law
namespace Law
open PySem L2 Pl Pl.Ev
theorem cut_mem {W : List Str} {lo hi : Option Int} : (∀ x ∈ cutD W lo hi, x ∈ W) ∧ (cutD W lo hi).length ≤ W.length := by
  unfold cutD
  refine ⟨fun x h => List.mem_of_mem_drop (List.mem_of_mem_take h), ?_⟩
  rw [List.length_take, List.length_drop]
  omega
end Law
namespace Law
open PySem L2 Pl Pl.Ev
theorem Low.h {x : Str} (h : Low x) : x.length ≤ 4000 := Nat.le_trans h.1 (by decide)
end Law
namespace Law
open PySem L2 Pl Pl.Ev
def fitI (r : Int × Int) : Option Int → Bool
  | none => false
  | some i => decide (r.1 ≤ i) && decide (i ≤ r.2)
theorem among_sp (u : Option Int) (lo hi : Int) (M : Mh) : ff_is_among [optI u, .int lo, .int hi] M = some (.bl (fitI (lo, hi) u), M) := by
  refine fn_rt ?_
  show gg_is_among [some (optI u), some (.int lo), some (.int hi)] M = _
  unfold gg_is_among
  have w : ∀ (i : Nat) (v : Option Int), ([some (optI u), some (D.int lo), some (D.int hi)] : Pl.Env)[i]? = some (some (optI v)) → tNt (tV (eCall ff_is_whole (aCons (eVar i) aNil) [])) [some (optI u), some (.int lo), some (.int hi)] M = some (!v.isSome, M) := fun i v h => nt_of (v_bl (call_of (cons_of (var_ h) x_aNil) (whole_sp v M)))
  cases u with
  | none => exact seq_if1 (M1 := M) (or1 (w 0 none rfl)) (ret_of rfl)
  | some i =>
    refine seq_if0 (M1 := M) (or0 (M1 := M) (w 0 (some i) rfl) (or0 (M1 := M) (w 1 (some lo) rfl) (w 2 (some hi) rfl))) (ret_of (chain_ (x := decide (lo ≤ i)) rfl rfl rfl ?_))
    show _ = some (D.bl (decide (lo ≤ i) && decide (i ≤ hi)), M)
    cases decide (lo ≤ i) <;> rfl
def lim (k : Str) : Int × Int := if k = "side" then (1, 4) else if k = "length" then (1, 6) else if k = "height" then (0, 5) else (-3, 7)
end Law
namespace Law
open PySem L2 Pl Pl.Ev
def wt (W : List Str) : Nat := (W.map fun y => y.length + 1).sum
theorem wt_mem : ∀ {W : List Str} {y : Str}, y ∈ W → y.length + 1 ≤ wt W
  | [], _, h => by cases h
  | z :: W, y, h => by
    unfold wt
    rw [List.map_cons, List.sum_cons]
    rcases List.mem_cons.mp h with e | h
    · rw [e]; omega
    · have := wt_mem h
      unfold wt at this
      omega
theorem wt_len : ∀ W : List Str, W.length ≤ wt W
  | [] => Nat.le_refl _
  | z :: W => by
    have := wt_len W
    unfold wt at this ⊢
    rw [List.map_cons, List.sum_cons, List.length_cons]
    omega
theorem wt_app (A B : List Str) : wt (A ++ B) = wt A + wt B := by
  unfold wt
  rw [List.map_append, List.sum_append]
theorem wt_td (W : List Str) (i j : Nat) : wt ((W.drop i).take j) ≤ wt W := by
  have h1 : wt W = wt (W.take i) + wt (W.drop i) := by rw [← wt_app, List.take_append_drop]
  have h2 : wt (W.drop i) = wt ((W.drop i).take j) + wt ((W.drop i).drop j) := by rw [← wt_app, List.take_append_drop]
  omega
theorem wt_cut (W : List Str) (lo hi : Option Int) : wt (cutD W lo hi) ≤ wt W := by
  unfold cutD
  exact wt_td _ _ _
/-- a text that is not too long -/
def Tx (n : Nat) (x : Str) : Prop := x.length ≤ n ∧ SOk x
def Txs (n : Nat) (W : List Str) : Prop := wt W ≤ n ∧ ∀ y ∈ W, SOk y
theorem Txs.mem {n : Nat} {W : List Str} {y : Str} (h : Txs n W) (hy : y ∈ W) : Tx n y := ⟨by have := wt_mem hy; have := h.1; omega, h.2 y hy⟩
theorem Txs.len {n : Nat} {W : List Str} (h : Txs n W) : W.length ≤ n := Nat.le_trans (wt_len W) h.1
theorem Txs.cut {n : Nat} {W : List Str} (h : Txs n W) (lo hi : Option Int) : Txs n (cutD W lo hi) := ⟨Nat.le_trans (wt_cut _ _ _) h.1, fun y hy => h.2 y (cut_mem.1 y hy)⟩
theorem Txs.mono {n m : Nat} {W : List Str} (h : Txs n W) (l : n ≤ m) : Txs m W := ⟨Nat.le_trans h.1 l, h.2⟩
theorem Tx.mono {n m : Nat} {x : Str} (h : Tx n x) (l : n ≤ m) : Tx m x := ⟨Nat.le_trans h.1 l, h.2⟩
end Law
namespace Law
open PySem L2 Pl Pl.Ev
theorem app_mid {M l : Mh} {xs : List D} {d : D} {f : EF} {q : AF} {δ : Pl.Env} (h1 : f δ (M ++ (.lst xs :: l)) = some (.ref M.length, M ++ (.lst xs :: l))) (h2 : q δ (M ++ (.lst xs :: l)) = some ([d], M ++ (.lst xs :: l))) (hl : xs.length < 1000) : eMeth2 gApp f q δ (M ++ (.lst xs :: l)) = some (.non, M ++ (.lst (xs ++ [d]) :: l)) := by
  have g : (M ++ (MO.lst xs :: l))[M.length]? = some (.lst xs) := by simp
  unfold eMeth2
  rw [h1]
  dsimp only
  have : (lstOf (M ++ (MO.lst xs :: l)) (.ref M.length)).isSome = true := by
    unfold lstOf
    dsimp only
    rw [g]
    rfl
  rw [if_pos this, h2]
  dsimp only
  unfold gApp
  dsimp only
  rw [g]
  dsimp only
  rw [if_pos (Nat.lt_of_lt_of_le hl (by decide))]
  simp
end Law
namespace Law
open PySem L2 Pl Pl.Ev
theorem tB : TL.tl (" " : Str) = [32] := by decide +kernel
end Law
namespace Law
open PySem L2 Pl Pl.Ev
theorem kit_bi : kitB "bool" "int" = some true := by decide +kernel
theorem kit_bb : kitB "bool" "bool" = some true := by decide +kernel
theorem whole_b (b : Bool) (M : Mh) : ff_is_whole [.bl b] M = some (.bl false, M) := by
  refine fn_rt ?_
  show gg_is_whole [some (.bl b)] M = _
  unfold gg_is_whole
  exact ret_of (an_of1 (isi_of (t := "bool") rfl rfl kit_bi) (x_eNt (b := true) (isi_of (t := "bool") rfl rfl kit_bb)))
theorem bs_D : ∀ bs : List Bool, bsOf (bs.map D.bl) = some bs
  | [] => rfl
  | b :: bs => by
    rw [List.map_cons, bsOf, bs_D bs]
    try rfl
theorem ix0_t {d : D} {xs : List D} {M : Mh} : gIx (.tup (d :: xs)) (.int 0) M = some (d, M) := by
  simp [gIx, L2.atI, L2.ixN]
end Law
namespace Law
open PySem L2 Pl Pl.Ev
def enumX : Nat → List D → List D
  | _, [] => []
  | j, x :: xs => .tup [.int (j : Nat), x] :: enumX (j + 1) xs
theorem enumX_sp : ∀ (W : List D) (j : Nat), ((((List.range' j W.length).map fun (i : Nat) => D.int i).zip W).map fun p => D.tup [p.1, p.2]) = enumX j W
  | [], _ => rfl
  | x :: W, j => by
    rw [List.length_cons, List.range'_succ, List.map_cons, List.zip_cons_cons, List.map_cons, enumX_sp W (j + 1)]
    rfl
theorem enumT_of {W : List D} {f : EF} {δ : Pl.Env} {M M1 : Mh} (h : f δ M = some (.tup W, M1)) : aEnumT (aCons f aNil) δ M = some (enumX 0 W, M1) := by
  unfold aEnumT
  rw [cons_of h x_aNil]
  dsimp only
  rw [List.range_eq_range', enumX_sp]
theorem fnN_ {n : Nat} {g : SF} {ds : List D} {M M1 : Mh} {δ' : Pl.Env} (h : g (startD n ds) M = some (.nx δ' M1)) : fnF n g ds M = some (.non, M1) := by
  unfold fnF; rw [h]
end Law
namespace Law
open PySem L2 Pl Pl.Ev
structure Az (T : MO) (n : Nat) (B : Int) (M : Mh) : Prop where
  a : At n B M
  ne : n ≠ 0
  z : M[0]? = some T
theorem Az.up {T : MO} {n : Nat} {B C : Int} {M : Mh} (h : Az T n B M) (l : B ≤ C) : Az T n C M := ⟨h.a.up l, h.ne, h.z⟩
theorem Az.apps {T : MO} {n : Nat} {B : Int} {M : Mh} (h : Az T n B M) (l : List MO) : Az T n B (M ++ l) := ⟨h.a.apps l, h.ne, by rw [List.getElem?_append_left (List.getElem?_eq_some_iff.mp h.z).1]; exact h.z⟩
theorem kit_nt : kitB "NoneType" "tuple" = some false := by decide +kernel
theorem kit_lt : kitB "list" "tuple" = some false := by decide +kernel
end Law
namespace Law
open PySem L2 Pl Pl.Ev
theorem draw_X {M : Mh} {cell : Int} {k : Int} (k0 : 0 ≤ k) (k1 : k ≤ 1000) : ∃ m, ff_law_draw [.int cell, .int k] M = some (.ref M.length, M ++ [m]) ∧ At M.length 1000000 (M ++ [m]) := by
  have o : Pl.MulOk 1000 k := mulOk (a := 64) (b := 64) (by decide) (by omega) (by decide)
  have p18 : eOp (gIntC PowOk fun i j => .int (i ^ j.toNat)) (eC (.int 10)) (eC (.int 18)) [some (.int cell), some (.int k)] M = some (.int (10 ^ 18), M) := op_of rfl rfl (intC_of (by decide))
  have lf : ∃ l : Int, 0 ≤ l ∧ eIf (tV (eOp (gInt fun i j => .bl (decide (j ≤ i))) (eVar 0) (eOp (gIntC PowOk fun i j => .int (i ^ j.toNat)) (eC (.int 10)) (eC (.int 18))))) (eVar 0) (eC (.int 0)) [some (.int cell), some (.int k)] M = some (.int l, M) := by
    have tst : tV (eOp (gInt fun i j => .bl (decide (j ≤ i))) (eVar 0) (eOp (gIntC PowOk fun i j => .int (i ^ j.toNat)) (eC (.int 10)) (eC (.int 18)))) [some (.int cell), some (.int k)] M = some (decide (10 ^ 18 ≤ cell), M) := v_bl (op_of rfl p18 rfl)
    by_cases hc : (10 ^ 18 : Int) ≤ cell
    · refine ⟨cell, by omega, ?_⟩
      unfold eIf
      rw [tst, decide_eq_true hc]; rfl
    · refine ⟨0, by omega, ?_⟩
      unfold eIf
      rw [tst, decide_eq_false hc]; rfl
  obtain ⟨l, l0, el⟩ := lf
  refine ⟨dk l cell (1000 * k), fn_rt ?_, ⟨l, cell, 1000 * k, by simp, l0, by omega, by omega⟩⟩
  show gg_law_draw [some (.int cell), some (.int k)] M = _
  unfold gg_law_draw
  refine ret_of ?_
  have pc : ∀ {f g : EF} {h : Pl.Env → Mh → Option (List (Key × D) × Mh)} {δ : Pl.Env} {a v : D} {q : Key} {r : List (Key × D)}, f δ M = some (a, M) → g δ M = some (v, M) → keyOf a = some q → h δ M = some (r, M) → psCons f g h δ M = some ((q, v) :: r, M) := fun h1 h2 h3 h4 => by
    unfold psCons; rw [h1]; dsimp only; rw [h2]; dsimp only; rw [h3]; dsimp only; rw [h4]
  have e := pc (f := eC (.str "left")) rfl el rfl (pc (f := eC (.str "cell")) (g := eVar 0) rfl rfl rfl (pc (f := eC (.str "turns")) (g := eOp gMul (eC (.int 1000)) (eVar 1)) rfl (op_of rfl rfl (mul_int o)) rfl (h := psNil) rfl))
  unfold eDic
  rw [e]
  have dm : dmerge [(.inr "left", .int l), (.inr "cell", .int cell), (.inr "turns", .int (1000 * k))] = [((.inr "left" : Key), D.int l), (.inr "cell", .int cell), (.inr "turns", .int (1000 * k))] := by
    simp [dmerge, Pl.dput, k3, k5, k6]
  show (if _ then some (D.ref M.length, M ++ [MO.dic (dmerge _)]) else none) = _
  rw [dm]
  rfl
end Law
namespace Law
open PySem L2 Pl Pl.Ev
/-- the whole numbers from a up to b -/
def zr (a b : Int) : List Int := (List.range (b - a).toNat).map fun (n : Nat) => a + (n : Int)
theorem zr_rng (a b : Int) : rng a b = (zr a b).map D.int := by
  unfold rng zr
  rw [List.map_map]
  rfl
theorem zr_mem {a b i : Int} : i ∈ zr a b ↔ a ≤ i ∧ i < b := by
  unfold zr
  rw [List.mem_map]
  constructor
  · rintro ⟨n, hn, rfl⟩
    have := List.mem_range.mp hn
    omega
  · rintro ⟨h1, h2⟩
    exact ⟨(i - a).toNat, List.mem_range.mpr (by omega), by omega⟩
theorem zr_len (a b : Int) : (zr a b).length = (b - a).toNat := by unfold zr; simp
theorem zr_nil {a b : Int} (h : b ≤ a) : zr a b = [] := by
  unfold zr
  rw [show (b - a).toNat = 0 by omega]
  rfl
theorem zr_cons {a b : Int} (h : a < b) : zr a b = a :: zr (a + 1) b := by
  unfold zr
  rw [show (b - a).toNat = (b - (a + 1)).toNat + 1 by omega, List.range_succ_eq_map, List.map_cons, List.map_map]
  congr 1
  · omega
  · refine List.map_congr_left fun n _ => ?_
    show a + ((n + 1 : Nat) : Int) = a + 1 + (n : Int)
    omega
/-- those of a range that lie within another -/
theorem zr_filter (c d : Int) : ∀ (n : Nat) (a b : Int), (b - a).toNat = n → (zr a b).filter (fun i => decide (c ≤ i) && decide (i < d)) = zr (if c > a then c else a) (if d < b then d else b)
  | 0, a, b, h => by
    rw [zr_nil (a := a) (b := b) (by omega), List.filter_nil, zr_nil]
    split <;> split <;> omega
  | n + 1, a, b, h => by
    have ih := zr_filter c d n (a + 1) b (by omega)
    rw [zr_cons (a := a) (b := b) (by omega), List.filter_cons]
    by_cases h1 : c ≤ a
    · by_cases h2 : a < d
      · rw [decide_eq_true h1, decide_eq_true h2]
        simp only [Bool.and_self, if_true]
        rw [ih]
        have e1 : (if c > a then c else a) = a := if_neg (by omega)
        have e2 : (if c > a + 1 then c else a + 1) = a + 1 := if_neg (by omega)
        rw [e1, e2, ← zr_cons]
        split <;> omega
      · rw [decide_eq_false h2]
        simp only [Bool.and_false, Bool.false_eq_true, if_false]
        rw [ih, zr_nil (a := if c > a + 1 then c else a + 1), zr_nil]
        · split <;> split <;> omega
        · split <;> split <;> omega
    · rw [decide_eq_false h1]
      simp only [Bool.false_and, Bool.false_eq_true, if_false]
      rw [ih]
      have e1 : (if c > a then c else a) = c := if_pos (by omega)
      have e2 : (if c > a + 1 then c else a + 1) = c := by split <;> omega
      rw [e1, e2]
def prod (A B : List Int) : List (Int × Int) := A.flatMap fun i => B.map fun j => (i, j)
def cellD (p : Int × Int) : D := .tup [.int p.1, .int p.2]
theorem prod_cons (i : Int) (A B : List Int) : prod (i :: A) B = (B.map fun j => (i, j)) ++ prod A B := by unfold prod; rw [List.flatMap_cons]
theorem prod_mem {A B : List Int} {p : Int × Int} : p ∈ prod A B ↔ p.1 ∈ A ∧ p.2 ∈ B := by
  unfold prod
  rw [List.mem_flatMap]
  constructor
  · rintro ⟨i, hi, h⟩
    obtain ⟨j, hj, rfl⟩ := List.mem_map.mp h
    exact ⟨hi, hj⟩
  · rintro ⟨h1, h2⟩
    exact ⟨p.1, h1, List.mem_map.mpr ⟨p.2, h2, rfl⟩⟩
theorem prod_len (A B : List Int) : (prod A B).length = A.length * B.length := by
  induction A with
  | nil => simp [prod]
  | cons i A ih => rw [prod_cons, List.length_append, List.length_map, ih, List.length_cons, Nat.succ_mul]; omega
theorem prod_filter (f g : Int → Bool) (A B : List Int) : (prod A B).filter (fun p => f p.1 && g p.2) = prod (A.filter f) (B.filter g) := by
  induction A with
  | nil => rfl
  | cons i A ih =>
    rw [prod_cons, List.filter_append, ih, List.filter_cons]
    have e : (B.map fun j => (i, j)).filter (fun p => f p.1 && g p.2) = if f i then (B.filter g).map fun j => (i, j) else [] := by
      rw [List.filter_map]
      cases hf : f i with
      | true =>
        rw [if_pos rfl]
        simp [Function.comp_def, hf]
      | false =>
        rw [if_neg (by decide)]
        simp [Function.comp_def, hf]
    rw [e]
    cases f i with
    | true => rw [if_pos rfl, if_pos rfl, prod_cons]
    | false => rw [if_neg (by decide), if_neg (by decide), List.nil_append]
/-- two fors over whole numbers -/
theorem lc2_prod {u v : Nat} {a1 : AF} {B : List Int} {δ : Pl.Env} {M : Mh} {e : EF} (hu : u < δ.length) (hv : v < δ.length) (hb : ∀ i : Int, a1 (δ.set u (some (.int i))) M = some (B.map D.int, M)) (he : ∀ i j : Int, e (((δ.set u (some (.int i))).set v none).set v (some (.int j))) M = some (cellD (i, j), M)) :
    ∀ A : List Int, lcGo2 (gN u) tTrue a1 [v] (gN v) tTrue e (A.map D.int) δ M = some ((prod A B).map cellD, M)
  | [] => rfl
  | i :: A => by
    have inner : ∀ B : List Int, lcGo (gN v) tTrue e (B.map D.int) ((δ.set u (some (.int i))).set v none) M = some ((B.map fun j => (i, j)).map cellD, M) := by
      intro B
      induction B with
      | nil => exact lcN_
      | cons j B ih =>
        rw [List.map_cons, List.map_cons, List.map_cons]
        exact lcC_ (x := true) (M1 := M) (δ1 := ((δ.set u (some (.int i))).set v none).set v (some (.int j))) rfl tt_ (lcY_ (p := gN v) (t := tTrue) (ds := B.map D.int) (δ := (δ.set u (some (.int i))).set v none) (δ1 := ((δ.set u (some (.int i))).set v none).set v (some (.int j))) (he i j) ih)
    rw [List.map_cons]
    unfold lcGo2
    rw [show gN u (.int i) δ = some (δ.set u (some (.int i))) from rfl]
    dsimp only
    rw [show tTrue (δ.set u (some (.int i))) M = some (true, M) from rfl]
    dsimp only
    rw [hb i]
    dsimp only
    rw [show wipeD (δ.set u (some (.int i))) [v] = (δ.set u (some (.int i))).set v none from rfl, inner B]
    dsimp only
    rw [lc2_prod hu hv hb he A]
    dsimp only
    rw [prod_cons, List.map_append]
theorem rng2Z {q : AF} {δ : Pl.Env} {M M1 : Mh} {i j : Int} (h : q δ M = some ([.int i, .int j], M1)) (hi : -1000 ≤ i ∧ i ≤ 1000) (hj : -1000 ≤ j ∧ j ≤ 1000) : aRng2 q δ M = some ((zr i j).map D.int, M1) := by
  unfold aRng2
  rw [h]
  dsimp only
  rw [if_pos ⟨by omega, by omega, by omega, by omega⟩, zr_rng]
theorem maxZ {f g : EF} {δ : Pl.Env} {M : Mh} {i j : Int} (h1 : f δ M = some (.int i, M)) (h2 : g δ M = some (.int j, M)) : eB (gL2 fun i j => .int (if j > i then j else i)) (aCons f (aCons g aNil)) δ M = some (.int (if j > i then j else i), M) := by
  rw [x_eB, cons_of h1 (cons_of h2 x_aNil)]; rfl
theorem minZ {f g : EF} {δ : Pl.Env} {M : Mh} {i j : Int} (h1 : f δ M = some (.int i, M)) (h2 : g δ M = some (.int j, M)) : eB (gL2 fun i j => .int (if j < i then j else i)) (aCons f (aCons g aNil)) δ M = some (.int (if j < i then j else i), M) := by
  rw [x_eB, cons_of h1 (cons_of h2 x_aNil)]; rfl
/-- the cells between two corners -/
def cells (W L a b c d : Int) : List (Int × Int) := prod (zr (if 0 > a then 0 else a) (if W < c then W else c)) (zr (if 0 > b then 0 else b) (if L < d then L else d))
def Smal (i : Int) : Prop := -100 ≤ i ∧ i ≤ 100
theorem between_sp {W L a b c d : Int} {M : Mh} (hW : 0 ≤ W ∧ W ≤ 8) (hL : 0 ≤ L ∧ L ≤ 8) (ha : Smal a) (hb : Smal b) (hc : Smal c) (hd : Smal d) : ff_cells_between [cellD (W, L), cellD (a, b), cellD (c, d)] M = some (.lst ((cells W L a b c d).map cellD), M) := by
  unfold Smal at ha hb hc hd
  refine fn_rt ?_
  show gg_cells_between [some (cellD (W, L)), some (cellD (a, b)), some (cellD (c, d)), none, none, none, none, none, none, none, none] M = _
  unfold gg_cells_between
  refine seq_as (M1 := M) (δ' := [some (cellD (W, L)), some (cellD (a, b)), some (cellD (c, d)), some (.int a), some (.int b), some (.int c), some (.int d), none, none, none, none]) (x_eTup (ds := [cellD (a, b), cellD (c, d)]) (cons_of rfl (cons_of rfl x_aNil)) (by simp)) rfl ?_
  refine seq_as (M1 := M) (δ' := [some (cellD (W, L)), some (cellD (a, b)), some (cellD (c, d)), some (.int a), some (.int b), some (.int c), some (.int d), some (.int W), some (.int L), none, none]) rfl rfl ?_
  refine ret_of ?_
  have r1 : ∀ {x y : Option D}, aRng2 (aCons (eB (gL2 fun i j => .int (if j > i then j else i)) (aCons (eVar 3) (aCons (eC (.int 0)) aNil))) (aCons (eB (gL2 fun i j => .int (if j < i then j else i)) (aCons (eVar 5) (aCons (eVar 7) aNil))) aNil)) [some (cellD (W, L)), some (cellD (a, b)), some (cellD (c, d)), some (.int a), some (.int b), some (.int c), some (.int d), some (.int W), some (.int L), x, y] M = some ((zr (if 0 > a then 0 else a) (if W < c then W else c)).map D.int, M) := fun {x y} =>
    rng2Z (cons_of (maxZ rfl x_eC) (cons_of (minZ rfl rfl) x_aNil)) (by split <;> omega) (by split <;> omega)
  have r2 : ∀ {x y : Option D}, aRng2 (aCons (eB (gL2 fun i j => .int (if j > i then j else i)) (aCons (eVar 4) (aCons (eC (.int 0)) aNil))) (aCons (eB (gL2 fun i j => .int (if j < i then j else i)) (aCons (eVar 6) (aCons (eVar 8) aNil))) aNil)) [some (cellD (W, L)), some (cellD (a, b)), some (cellD (c, d)), some (.int a), some (.int b), some (.int c), some (.int d), some (.int W), some (.int L), x, y] M = some ((zr (if 0 > b then 0 else b) (if L < d then L else d)).map D.int, M) := fun {x y} =>
    rng2Z (cons_of (maxZ rfl x_eC) (cons_of (minZ rfl rfl) x_aNil)) (by split <;> omega) (by split <;> omega)
  have go := lc2_prod (u := 9) (v := 10) (δ := [some (cellD (W, L)), some (cellD (a, b)), some (cellD (c, d)), some (.int a), some (.int b), some (.int c), some (.int d), some (.int W), some (.int L), none, none]) (M := M) (e := eTup (aCons (eVar 9) (aCons (eVar 10) aNil))) (by simp) (by simp) (fun i => r2) (fun i j => x_eTup (cons_of rfl (cons_of rfl x_aNil)) (by simp)) (zr (if 0 > a then 0 else a) (if W < c then W else c))
  unfold eLc2
  rw [r1]
  dsimp only
  rw [show wipeD [some (cellD (W, L)), some (cellD (a, b)), some (cellD (c, d)), some (D.int a), some (D.int b), some (D.int c), some (D.int d), some (D.int W), some (D.int L), none, none] [9, 10] = [some (cellD (W, L)), some (cellD (a, b)), some (cellD (c, d)), some (.int a), some (.int b), some (.int c), some (.int d), some (.int W), some (.int L), none, none] from rfl, go]
  dsimp only
  rw [if_pos]
  · rfl
  · rw [List.length_map, prod_len, zr_len, zr_len]
    have h1 : ((if W < c then W else c) - (if 0 > a then 0 else a)).toNat ≤ 8 := by split <;> split <;> omega
    have h2 : ((if L < d then L else d) - (if 0 > b then 0 else b)).toNat ≤ 8 := by split <;> split <;> omega
    exact Nat.le_trans (Nat.mul_le_mul h1 h2) (by decide)
end Law
namespace Law
open PySem L2 Pl Pl.Ev
theorem amongI (i lo hi : Int) (M : Mh) : ff_is_among [.int i, .int lo, .int hi] M = some (.bl (decide (lo ≤ i) && decide (i ≤ hi)), M) := among_sp (some i) lo hi M
def fldD (h : Int) (R : List (List Int)) : D := .tup [.int h, .tup (R.map fun r => .tup (r.map D.int))]
structure FldOk (h : Int) (R : List (List Int)) (W : Nat) : Prop where
  h1 : 1 ≤ h ∧ h ≤ 6
  l : 1 ≤ R.length ∧ R.length ≤ 8
  w : 1 ≤ W ∧ W ≤ 8
  r : ∀ r ∈ R, r.length = W ∧ ∀ x ∈ r, 0 ≤ x ∧ x ≤ h
theorem lenT {L : List D} {f : EF} {δ : Pl.Env} {M M1 : Mh} (h : f δ M = some (.tup L, M1)) : eB gLen (aCons f aNil) δ M = some (.int (L.length : Nat), M1) := by
  rw [x_eB, cons_of h x_aNil]
  simp [gLen, lenOf]
theorem row0 {h : Int} {R : List (List Int)} {W : Nat} (ok : FldOk h R W) (M : Mh) : ∃ r : List Int, r.length = W ∧ gIx (.tup (R.map fun r => D.tup (r.map D.int))) (.int 0) M = some (.tup (r.map D.int), M) := by
  match R, ok with
  | [], ok => exact absurd ok.l.1 (by simp)
  | r :: R, ok => exact ⟨r, (ok.r r List.mem_cons_self).1, ix0_t⟩
theorem sides_sp {h : Int} {R : List (List Int)} {W : Nat} (ok : FldOk h R W) (M : Mh) : ff_plain_sides [fldD h R] M = some (cellD ((W : Nat), (R.length : Nat)), M) := by
  obtain ⟨r, l0, e0⟩ := row0 ok M
  refine fn_rt ?_
  show gg_plain_sides [some (fldD h R)] M = _
  unfold gg_plain_sides
  have f1 : eOp gIx (eVar 0) (eC (.int 1)) [some (fldD h R)] M = some (.tup (R.map fun r => .tup (r.map D.int)), M) := op_of rfl x_eC rfl
  refine ret_of (x_eTup (ds := [.int (W : Nat), .int (R.length : Nat)]) (cons_of ((lenT (op_of f1 x_eC e0)).trans (by rw [List.length_map, l0])) (cons_of ((lenT f1).trans (by rw [List.length_map])) x_aNil)) (by simp))
theorem row_go40 {h : Int} (M : Mh) (a b c d e f g : Option D) : ∀ r : List Int, (∀ x ∈ r, 0 ≤ x ∧ x ≤ h) → lcGo (gN 5) tTrue (eCall ff_is_among (aCons (eVar 5) (aCons (eC (.int 0)) (aCons (eVar 1) aNil))) []) (r.map D.int) [a, some (.int h), c, d, e, f] M = some ((r.map fun _ => true).map D.bl, M)
  | [], _ => lcN_
  | x :: r, hx => by
    have ih := row_go40 M a b c d e f g r fun y hy => hx y (List.mem_cons_of_mem _ hy)
    rw [List.map_cons, List.map_cons, List.map_cons]
    refine lcC_ (x := true) (M1 := M) (δ1 := [a, some (.int h), c, d, e, some (.int x)]) rfl tt_ (lcY_ (p := gN 5) (t := tTrue) (ds := r.map D.int) (δ := [a, some (.int h), c, d, e, f]) (δ1 := [a, some (.int h), c, d, e, some (.int x)]) (call_of (cons_of rfl (cons_of x_eC (cons_of rfl x_aNil))) ((amongI _ _ _ M).trans ?_)) ih)
    have := hx x List.mem_cons_self
    rw [decide_eq_true this.1, decide_eq_true this.2]
    rfl
/-- a row that is good -/
theorem row_all {h : Int} {r : List Int} (hr : ∀ x ∈ r, 0 ≤ x ∧ x ≤ h) (hl : r.length ≤ 8) (M : Mh) (a c d : Option D) : tV (eB (gBs fun bs => bs.all id) (aCons (eLc [5] (aItems (eVar 4)) (gN 5) tTrue (eCall ff_is_among (aCons (eVar 5) (aCons (eC (.int 0)) (aCons (eVar 1) aNil))) [])) aNil)) [a, some (.int h), c, d, some (.tup (r.map D.int)), none] M = some (true, M) := by
  refine v_bl ?_
  rw [x_eB, cons_of (d := .lst ((r.map fun _ => true).map D.bl)) (M1 := M) (lc_ (δ1 := [a, some (.int h), c, d, some (.tup (r.map D.int)), none]) (itemsT_ (ds := r.map D.int) rfl) rfl (row_go40 M a none c d (some (.tup (r.map D.int))) none none r hr) (by rw [List.length_map, List.length_map]; omega)) x_aNil]
  show gBs (fun bs => bs.all id) [.lst ((r.map fun _ => true).map D.bl)] M = _
  unfold gBs
  dsimp only [lstOf]
  rw [bs_D]
  simp
theorem row_tests {h : Int} {R : List (List Int)} {W : Nat} (ok : FldOk h R W) {r : List Int} (hr : r ∈ R) (M : Mh) (a d z : Option D) :
    tOrr (tNt (tV (eB gIsi (aCons (eVar 4) (aCons (eC (.ty "tuple")) aNil))))) (tOrr (tNt (tV (eChain (gInt fun i j => .bl (decide (i ≤ j))) (gInt fun i j => .bl (decide (i ≤ j))) (eC (.int 1)) (eB gLen (aCons (eVar 4) aNil)) (eC (.int 8))))) (tV (eOp (gEq fun p q => !PyData.eqv p q) (eB gLen (aCons (eVar 4) aNil)) (eB gLen (aCons (eOp gIx (eVar 2) (eC (.int 0))) aNil))))) [a, some (.int h), some (.tup (R.map fun r => .tup (r.map D.int))), d, some (.tup (r.map D.int)), z] M = some (false, M) := by
  obtain ⟨r0, l0, e0⟩ := row0 ok M
  have lr := (ok.r r hr).1
  have w := ok.w
  have ln : eB gLen (aCons (eVar 4) aNil) [a, some (.int h), some (.tup (R.map fun r => .tup (r.map D.int))), d, some (.tup (r.map D.int)), z] M = some (.int (W : Nat), M) := (lenT rfl).trans (by rw [List.length_map, lr])
  refine or0 (M1 := M) (nt_of (b := true) (v_bl (isi_of (t := "tuple") rfl rfl kit_tt))) (or0 (M1 := M) (nt_of (b := true) (v_bl (chain_ (x := true) (M3 := M) x_eC ln ?_ ?_))) (v_bl (op_of ln ((lenT (op_of rfl x_eC e0)).trans (by rw [List.length_map, l0])) ((ne_int _ _ _).trans (by rw [decide_eq_true rfl]; rfl)))))
  · show some (D.bl (decide ((1 : Int) ≤ ((W : Nat) : Int))), M) = _
    rw [decide_eq_true (by omega)]
  · rw [cond_true]
    refine op_of x_eC x_eC ?_
    show some (D.bl (decide (((W : Nat) : Int) ≤ 8)), M) = _
    rw [decide_eq_true (by omega)]
theorem rows_good {h : Int} {R : List (List Int)} {W : Nat} (ok : FldOk h R W) (a : Option D) (M : Mh) : ∀ (S : List (List Int)) (j : Nat) (x y z : Option D), (∀ r ∈ S, r ∈ R) → ∃ x' y' z', forGo (gTp (gsCons (gN 3) (gsCons (gN 4) gsNil))) (sSeq (sIf (tOrr (tNt (tV (eB gIsi (aCons (eVar 4) (aCons (eC (.ty "tuple")) aNil))))) (tOrr (tNt (tV (eChain (gInt fun i j => .bl (decide (i ≤ j))) (gInt fun i j => .bl (decide (i ≤ j))) (eC (.int 1)) (eB gLen (aCons (eVar 4) aNil)) (eC (.int 8))))) (tV (eOp (gEq fun p q => !PyData.eqv p q) (eB gLen (aCons (eVar 4) aNil)) (eB gLen (aCons (eOp gIx (eVar 2) (eC (.int 0))) aNil)))))) sNever sNil) (sIf (tNt (tV (eB (gBs fun bs => bs.all id) (aCons (eLc [5] (aItems (eVar 4)) (gN 5) tTrue (eCall ff_is_among (aCons (eVar 5) (aCons (eC (.int 0)) (aCons (eVar 1) aNil))) [])) aNil)))) sNever sNil)) (enumX j (S.map fun r => .tup (r.map D.int))) [a, some (.int h), some (.tup (R.map fun r => .tup (r.map D.int))), x, y, none] M = some (.nx [a, some (.int h), some (.tup (R.map fun r => .tup (r.map D.int))), x', y', z'] M)
  | [], j, x, y, z, _ => ⟨x, y, none, forN_⟩
  | r :: S, j, x, y, z, hS => by
    have hr := hS r List.mem_cons_self
    obtain ⟨x', y', z', ih⟩ := rows_good ok a M S (j + 1) (some (.int (j : Nat))) (some (.tup (r.map D.int))) none fun q hq => hS q (List.mem_cons_of_mem _ hq)
    refine ⟨x', y', z', ?_⟩
    rw [List.map_cons]
    refine forC_ (δ1 := [a, some (.int h), some (.tup (R.map fun r => .tup (r.map D.int))), some (.int (j : Nat)), some (.tup (r.map D.int)), none]) (δ2 := [a, some (.int h), some (.tup (R.map fun r => .tup (r.map D.int))), some (.int (j : Nat)), some (.tup (r.map D.int)), none]) (M2 := M) rfl ?_ ih
    have lr := (ok.r r hr).1
    have w := ok.w
    exact seq_if0 (row_tests ok hr M a _ none) (if_ff (nt_of (b := true) (row_all (ok.r r hr).2 (by omega) M _ _ _)) nil_of)
theorem fld_tests {h : Int} {R : List (List Int)} {W : Nat} (ok : FldOk h R W) (M : Mh) (x y z u v : Option D) :
    tOrr (tNt (tV (eB gIsi (aCons (eVar 0) (aCons (eC (.ty "tuple")) aNil))))) (tV (eOp (gEq fun p q => !PyData.eqv p q) (eB gLen (aCons (eVar 0) aNil)) (eC (.int 2)))) [some (fldD h R), x, y, z, u, v] M = some (false, M) :=
  or0 (M1 := M) (nt_of (b := true) (v_bl (isi_of (t := "tuple") rfl rfl kit_tt))) (v_bl (op_of (lenT rfl) x_eC ((ne_int _ _ _).trans rfl)))
theorem fld_tests2 {h : Int} {R : List (List Int)} {W : Nat} (ok : FldOk h R W) (M : Mh) (a z u v : Option D) :
    tNt (tV (eCall ff_is_among (aCons (eVar 1) (aCons (eC (.int 1)) (aCons (eC (.int 6)) aNil))) [])) [a, some (.int h), some (.tup (R.map fun r => .tup (r.map D.int))), z, u, v] M = some (false, M) ∧
    tOrr (tNt (tV (eB gIsi (aCons (eVar 2) (aCons (eC (.ty "tuple")) aNil))))) (tNt (tV (eChain (gInt fun i j => .bl (decide (i ≤ j))) (gInt fun i j => .bl (decide (i ≤ j))) (eC (.int 1)) (eB gLen (aCons (eVar 2) aNil)) (eC (.int 8))))) [a, some (.int h), some (.tup (R.map fun r => .tup (r.map D.int))), z, u, v] M = some (false, M) := by
  have l := ok.l
  have h1 := ok.h1
  have ln : eB gLen (aCons (eVar 2) aNil) [a, some (.int h), some (.tup (R.map fun r => .tup (r.map D.int))), z, u, v] M = some (.int (R.length : Nat), M) := (lenT rfl).trans (by rw [List.length_map])
  refine ⟨nt_of (b := true) (v_bl (call_of (cons_of rfl (cons_of x_eC (cons_of x_eC x_aNil))) ((amongI _ _ _ M).trans (by rw [decide_eq_true h1.1, decide_eq_true h1.2]; rfl)))), or0 (M1 := M) (nt_of (b := true) (v_bl (isi_of (t := "tuple") rfl rfl kit_tt))) (nt_of (b := true) (v_bl (chain_ (x := true) (M3 := M) x_eC ln ?_ ?_)))⟩
  · show some (D.bl (decide ((1 : Int) ≤ ((R.length : Nat) : Int))), M) = _
    rw [decide_eq_true (by omega)]
  · rw [cond_true]
    refine op_of x_eC x_eC ?_
    show some (D.bl (decide (((R.length : Nat) : Int) ≤ 8)), M) = _
    rw [decide_eq_true (by omega)]
theorem need_field_ok {ct : CT} {h : Int} {R : List (List Int)} {W : Nat} (ok : FldOk h R W) (M : Mh) : ff_need_field ct [fldD h R] M = some (.non, M) := by
  obtain ⟨t2, t3⟩ := fld_tests2 ok M (some (fldD h R)) none none none
  obtain ⟨x', y', z', go⟩ := rows_good ok (some (fldD h R)) M R 0 none none none fun r hr => hr
  refine fnN_ (δ' := [some (fldD h R), some (.int h), some (.tup (R.map fun r => .tup (r.map D.int))), x', y', z']) ?_
  show gg_need_field ct [some (fldD h R), none, none, none, none, none] M = _
  unfold gg_need_field
  refine seq_if0 (fld_tests ok M _ _ _ _ _) ?_
  refine seq_as (M1 := M) (δ' := [some (fldD h R), some (.int h), some (.tup (R.map fun r => .tup (r.map D.int))), none, none, none]) rfl rfl ?_
  refine seq_if0 t2 (seq_if0 t3 ?_)
  exact for_ (enumT_of (W := R.map fun r => .tup (r.map D.int)) rfl) go
theorem tool_sp {s l : Int} (M : Mh) : ff_is_tool [cellD (s, l)] M = some (.bl ((decide (1 ≤ s) && decide (s ≤ 4)) && (decide (1 ≤ l) && decide (l ≤ 6))), M) := by
  refine fn_rt ?_
  show gg_is_tool [some (cellD (s, l))] M = _
  unfold gg_is_tool
  refine seq_if0 (M1 := M) (or0 (M1 := M) (nt_of (b := true) (v_bl (isi_of (t := "tuple") rfl rfl kit_tt))) (v_bl (op_of (lenT (L := [.int s, .int l]) rfl) x_eC ((ne_int _ _ _).trans rfl)))) (ret_of ?_)
  have a1 : eCall ff_is_among (aCons (eOp gIx (eVar 0) (eC (.int 0))) (aCons (eC (.int 1)) (aCons (eC (.int 4)) aNil))) [] [some (cellD (s, l))] M = some (.bl (decide (1 ≤ s) && decide (s ≤ 4)), M) := call_of (cons_of (op_of rfl x_eC rfl) (cons_of x_eC (cons_of x_eC x_aNil))) (amongI _ _ _ M)
  have a2 : eCall ff_is_among (aCons (eOp gIx (eVar 0) (eC (.int 1))) (aCons (eC (.int 1)) (aCons (eC (.int 6)) aNil))) [] [some (cellD (s, l))] M = some (.bl (decide (1 ≤ l) && decide (l ≤ 6)), M) := call_of (cons_of (op_of rfl x_eC rfl) (cons_of x_eC (cons_of x_eC x_aNil))) (amongI _ _ _ M)
  cases hb : (decide (1 ≤ s) && decide (s ≤ 4)) with
  | true =>
    rw [hb] at a1
    rw [Bool.true_and]
    exact an_of1 a1 a2
  | false =>
    rw [hb] at a1
    rw [Bool.false_and]
    exact an_of0 a1
def ToolOk (t : Int × Int) : Prop := (1 ≤ t.1 ∧ t.1 ≤ 4) ∧ 1 ≤ t.2 ∧ t.2 ≤ 6
theorem tool_ok {t : Int × Int} (h : ToolOk t) (M : Mh) : ff_is_tool [cellD t] M = some (.bl true, M) := by
  refine (tool_sp (s := t.1) (l := t.2) M).trans ?_
  rw [decide_eq_true h.1.1, decide_eq_true h.1.2, decide_eq_true h.2.1, decide_eq_true h.2.2]
  rfl
theorem need_tool_ok {ct : CT} {t : Int × Int} (h : ToolOk t) (M : Mh) : ff_need_tool ct [cellD t] M = some (.non, M) := by
  refine fnN_ (δ' := [some (cellD t)]) ?_
  show gg_need_tool ct [some (cellD t)] M = _
  unfold gg_need_tool
  exact if_ff (nt_of (b := true) (v_bl (call_of (cons_of rfl x_aNil) (tool_ok h M)))) nil_of
/-- whether a place is one -/
def plB (W L s : Int) (p : Int × Int) : Bool := (decide (1 - s ≤ p.1) && decide (p.1 ≤ W - 1)) && (decide (1 - s ≤ p.2) && decide (p.2 ≤ L - 1))
theorem place_sp {W L : Int} {t p : Int × Int} (M : Mh) : ff_is_place_of [cellD (W, L), cellD t, cellD p] M = some (.bl (plB W L t.1 p), M) := by
  refine fn_rt ?_
  show gg_is_place_of [some (cellD (W, L)), some (cellD t), some (cellD p), none, none] M = _
  unfold gg_is_place_of
  refine seq_if0 (M1 := M) (or0 (M1 := M) (nt_of (b := true) (v_bl (isi_of (t := "tuple") rfl rfl kit_tt))) (v_bl (op_of (lenT (L := [.int p.1, .int p.2]) rfl) x_eC ((ne_int _ _ _).trans rfl)))) (ret_of ?_)
  have el : ∀ (at_ many : Int), eCall ff_is_among (aCons (eVar 3) (aCons (eOp (gInt fun i j => .int (i - j)) (eC (.int 1)) (eOp gIx (eVar 1) (eC (.int 0)))) (aCons (eOp (gInt fun i j => .int (i - j)) (eVar 4) (eC (.int 1))) aNil))) [] [some (cellD (W, L)), some (cellD t), some (cellD p), some (.int at_), some (.int many)] M = some (.bl (decide (1 - t.1 ≤ at_) && decide (at_ ≤ many - 1)), M) := fun at_ many =>
    call_of (cons_of rfl (cons_of (op_of x_eC (op_of rfl x_eC rfl) rfl) (cons_of (op_of rfl x_eC rfl) x_aNil))) (amongI _ _ _ M)
  have iz : aZip (aCons (eVar 2) (aCons (eVar 0) aNil)) [some (cellD (W, L)), some (cellD t), some (cellD p), none, none] M = some ([.tup [.int p.1, .int W], .tup [.int p.2, .int L]], M) := by
    unfold aZip
    rw [cons_of (d := cellD p) (M1 := M) rfl (cons_of (d := cellD (W, L)) (M1 := M) rfl x_aNil)]
    rfl
  have lc := lc_ (vs := [3, 4]) (p := gTp (gsCons (gN 3) (gsCons (gN 4) gsNil))) (t := tTrue) (δ1 := [some (cellD (W, L)), some (cellD t), some (cellD p), none, none]) iz rfl
    (lcC_ (x := true) (M1 := M) (δ1 := [some (cellD (W, L)), some (cellD t), some (cellD p), some (.int p.1), some (.int W)]) rfl tt_ (lcY_ (p := gTp (gsCons (gN 3) (gsCons (gN 4) gsNil))) (t := tTrue) (ds := [.tup [.int p.2, .int L]]) (δ := [some (cellD (W, L)), some (cellD t), some (cellD p), none, none]) (δ1 := [some (cellD (W, L)), some (cellD t), some (cellD p), some (.int p.1), some (.int W)]) (el p.1 W)
      (lcC_ (x := true) (M1 := M) (δ1 := [some (cellD (W, L)), some (cellD t), some (cellD p), some (.int p.2), some (.int L)]) rfl tt_ (lcY_ (p := gTp (gsCons (gN 3) (gsCons (gN 4) gsNil))) (t := tTrue) (ds := []) (δ := [some (cellD (W, L)), some (cellD t), some (cellD p), none, none]) (δ1 := [some (cellD (W, L)), some (cellD t), some (cellD p), some (.int p.2), some (.int L)]) (el p.2 L) lcN_)))) (by simp)
  rw [x_eB, cons_of lc x_aNil]
  show some (D.bl _, M) = some (D.bl _, M)
  simp [plB]
end Law
namespace Law
open PySem L2 Pl Pl.Ev
theorem ix_c0 {p : Int × Int} {M : Mh} : gIx (cellD p) (.int 0) M = some (.int p.1, M) := rfl
theorem ix_c1 {p : Int × Int} {M : Mh} : gIx (cellD p) (.int 1) M = some (.int p.2, M) := rfl
theorem tupL {L : List D} {f : EF} {δ : Pl.Env} {M M1 : Mh} (h : f δ M = some (.lst L, M1)) : eB gTupOf (aCons f aNil) δ M = some (.tup L, M1) := by
  rw [x_eB, cons_of h x_aNil]
  rfl
def Tl (t : Int × Int) : Prop := 1 ≤ t.1 ∧ t.1 ≤ 4
theorem ToolOk.tl {t : Int × Int} (h : ToolOk t) : Tl t := h.1
theorem under_sp {W L : Int} {t p : Int × Int} (hW : 0 ≤ W ∧ W ≤ 8) (hL : 0 ≤ L ∧ L ≤ 8) (ht : Tl t) (h1 : -50 ≤ p.1 ∧ p.1 ≤ 50) (h2 : -50 ≤ p.2 ∧ p.2 ≤ 50) (M : Mh) : ff_plain_under [cellD (W, L), cellD t, cellD p] M = some (.tup ((cells W L p.1 p.2 (p.1 + t.1) (p.2 + t.1)).map cellD), M) := by
  unfold Tl at ht
  refine fn_rt ?_
  show gg_plain_under [some (cellD (W, L)), some (cellD t), some (cellD p), none, none] M = _
  unfold gg_plain_under
  refine seq_as (M1 := M) (δ' := [some (cellD (W, L)), some (cellD t), some (cellD p), some (.int p.1), some (.int p.2)]) rfl rfl (ret_of (tupL ?_))
  refine call_of (ds := [cellD (W, L), cellD p, cellD (p.1 + t.1, p.2 + t.1)]) (cons_of rfl (cons_of rfl (cons_of (x_eTup (ds := [.int (p.1 + t.1), .int (p.2 + t.1)]) (cons_of (op_of rfl (op_of rfl x_eC ix_c0) rfl) (cons_of (op_of rfl (op_of rfl x_eC ix_c0) rfl) x_aNil)) (by simp)) x_aNil))) ?_
  exact between_sp (a := p.1) (b := p.2) hW hL (by unfold Smal; omega) (by unfold Smal; omega) (by unfold Smal; omega) (by unfold Smal; omega)
theorem eqv_cell (p q : Int × Int) : PyData.eqv (.tuple [.int p.1, .int p.2]) (.tuple [.int q.1, .int q.2]) = decide (p = q) := by
  simp only [PyData.eqv, PyData.eqvAll, Bool.and_true]
  rw [show decide (p = q) = (decide (p.1 = q.1) && decide (p.2 = q.2)) from by rw [← Bool.decide_and]; exact decide_eq_decide.mpr ⟨fun e => by rw [e]; exact ⟨rfl, rfl⟩, fun e => Prod.ext e.1 e.2⟩]
  congr 1 <;> simp [PyData.eqv]
theorem toPs_cells : ∀ L : List (Int × Int), toPs (L.map cellD) = some (L.map fun p => .tuple [.int p.1, .int p.2])
  | [] => rfl
  | p :: L => by
    rw [List.map_cons, toPs, toPs_cells L]
    rfl
theorem lay_cells : ∀ L : List (Int × Int), PyData.canLayAll0 (L.map fun p => .tuple [.int p.1, .int p.2]) = true ∧ PyData.depthAll (L.map fun p => .tuple [.int p.1, .int p.2]) ≤ 1
  | [] => by constructor <;> decide +kernel
  | p :: L => by
    obtain ⟨a, b⟩ := lay_cells L
    rw [List.map_cons]
    constructor
    · rw [PyData.canLayAll0, a]
      simp [PyData.canLay0, PyData.canLayAll0]
    · rw [PyData.depthAll]
      have : PyData.depth (.tuple [.int p.1, .int p.2]) = 1 := by simp [PyData.depth, PyData.depthAll]
      omega
theorem shaped_cells (L : List (Int × Int)) : SeqAt.shaped (.tuple (L.map fun p => .tuple [.int p.1, .int p.2])) = true ∧ SeqAt.shaped (.list (L.map fun p => .tuple [.int p.1, .int p.2])) = true := by
  obtain ⟨a, b⟩ := lay_cells L
  constructor
  · simp only [SeqAt.shaped, Bool.and_eq_true, decide_eq_true_eq]
    refine ⟨by rw [PyData.canLay0, a], ?_⟩
    rw [PyData.depth]
    omega
  · simp only [SeqAt.shaped, Bool.and_eq_true, decide_eq_true_eq]
    refine ⟨by rw [PyData.canLay0, a], ?_⟩
    rw [PyData.depth]
    omega
theorem shaped_cell (p : Int × Int) : SeqAt.shaped (.tuple [.int p.1, .int p.2]) = true := by
  simp only [SeqAt.shaped, Bool.and_eq_true, decide_eq_true_eq]
  exact ⟨by simp [PyData.canLay0, PyData.canLayAll0], by simp [PyData.depth, PyData.depthAll]⟩
theorem in_cells (f : Bool → Bool) (p : Int × Int) (L : List (Int × Int)) (M : Mh) : gIn f (cellD p) (.tup (L.map cellD)) M = some (.bl (f (decide (p ∈ L))), M) ∧ gIn f (cellD p) (.lst (L.map cellD)) M = some (.bl (f (decide (p ∈ L))), M) := by
  have e0 : toP (deref M (cellD p)) = some (.tuple [.int p.1, .int p.2]) := rfl
  have e1 : toP (deref M (.tup (L.map cellD))) = some (.tuple (L.map fun p => .tuple [.int p.1, .int p.2])) := by
    show toP (.tup (L.map cellD)) = _
    rw [toP, toPs_cells]
  have e2 : toP (deref M (.lst (L.map cellD))) = some (.list (L.map fun p => .tuple [.int p.1, .int p.2])) := by
    show toP (.lst (L.map cellD)) = _
    rw [toP, toPs_cells]
  obtain ⟨s1, s2⟩ := shaped_cells L
  have any : ((L.map fun p => PyData.tuple [.int p.1, .int p.2]).any fun z => PyData.eqv z (.tuple [.int p.1, .int p.2])) = decide (p ∈ L) := by
    rw [List.any_map]
    rw [Bool.eq_iff_iff, List.any_eq_true, decide_eq_true_eq]
    constructor
    · rintro ⟨q, hq, h⟩
      have : decide (q = p) = true := (eqv_cell q p).symm.trans h
      rw [← of_decide_eq_true this]
      exact hq
    · exact fun h => ⟨p, h, (eqv_cell p p).trans (decide_eq_true rfl)⟩
  constructor
  · unfold gIn cellD
    dsimp only
    rw [show toP (deref M (D.tup [.int p.1, .int p.2])) = some (.tuple [.int p.1, .int p.2]) from rfl, show toP (deref M (D.tup (L.map fun p => D.tup [.int p.1, .int p.2]))) = some (.tuple (L.map fun p => .tuple [.int p.1, .int p.2])) from e1]
    dsimp only
    rw [shaped_cell, s1, any]
    rfl
  · unfold gIn cellD
    dsimp only
    rw [show toP (deref M (D.tup [.int p.1, .int p.2])) = some (.tuple [.int p.1, .int p.2]) from rfl, show toP (deref M (D.lst (L.map fun p => D.tup [.int p.1, .int p.2]))) = some (.list (L.map fun p => .tuple [.int p.1, .int p.2])) from e2]
    dsimp only
    rw [shaped_cell, s2, any]
    rfl
/-- those that are none of U -/
theorem lc_notin {v u : Nat} {δ : Pl.Env} {M : Mh} {U : List (Int × Int)} (hv : v < δ.length) (hu : u ≠ v) (tup : Bool) (hU : δ[u]? = some (some (if tup then .tup (U.map cellD) else .lst (U.map cellD)))) : ∀ L : List (Int × Int), lcGo (gN v) (tV (eOp (gIn fun b => !b) (eVar v) (eVar u))) (eVar v) (L.map cellD) δ M = some ((L.filter fun p => !decide (p ∈ U)).map cellD, M)
  | [] => lcN_
  | p :: L => by
    have ih := lc_notin (M := M) hv hu tup hU L
    have vs : eVar v (δ.set v (some (cellD p))) M = some (cellD p, M) := var_ (by rw [List.getElem?_set_self hv])
    have us : eVar u (δ.set v (some (cellD p))) M = some (if tup then .tup (U.map cellD) else .lst (U.map cellD), M) := var_ (by rw [List.getElem?_set_ne (Ne.symm hu)]; exact hU)
    have t : tV (eOp (gIn fun b => !b) (eVar v) (eVar u)) (δ.set v (some (cellD p))) M = some (!decide (p ∈ U), M) := by
      refine v_bl (op_of vs us ?_)
      cases tup with
      | true => exact (in_cells _ p U M).1
      | false => exact (in_cells _ p U M).2
    rw [List.map_cons, List.filter_cons]
    cases hd : (!decide (p ∈ U)) with
    | true =>
      rw [hd] at t
      rw [if_pos rfl, List.map_cons]
      exact lcC_ (x := true) (M1 := M) (δ1 := δ.set v (some (cellD p))) rfl t (lcY_ (t := tV (eOp (gIn fun b => !b) (eVar v) (eVar u))) (p := gN v) (ds := L.map cellD) (δ := δ) (δ1 := δ.set v (some (cellD p))) vs ih)
    | false =>
      rw [hd] at t
      rw [if_neg (by decide)]
      exact lcC_ (x := false) (M1 := M) (δ1 := δ.set v (some (cellD p))) rfl t ih
/-- the cells about a tool -/
def ringC (W L : Int) (p : Int × Int) (s : Int) : List (Int × Int) := (cells W L (p.1 - 1) (p.2 - 1) (p.1 + s + 1) (p.2 + s + 1)).filter fun q => !decide (q ∈ cells W L p.1 p.2 (p.1 + s) (p.2 + s))
theorem cells_len {W L a b c d : Int} (hW : 0 ≤ W ∧ W ≤ 8) (hL : 0 ≤ L ∧ L ≤ 8) : (cells W L a b c d).length ≤ 64 := by
  unfold cells
  rw [prod_len, zr_len, zr_len]
  have h1 : ((if W < c then W else c) - (if 0 > a then 0 else a)).toNat ≤ 8 := by split <;> split <;> omega
  have h2 : ((if L < d then L else d) - (if 0 > b then 0 else b)).toNat ≤ 8 := by split <;> split <;> omega
  exact Nat.le_trans (Nat.mul_le_mul h1 h2) (by decide)
theorem ring_sp {W L : Int} {t p : Int × Int} (hW : 0 ≤ W ∧ W ≤ 8) (hL : 0 ≤ L ∧ L ≤ 8) (ht : Tl t) (h1 : -50 ≤ p.1 ∧ p.1 ≤ 50) (h2 : -50 ≤ p.2 ∧ p.2 ≤ 50) (M : Mh) : ff_plain_ring [cellD (W, L), cellD t, cellD p] M = some (.tup ((ringC W L p t.1).map cellD), M) := by
  have ht' := ht
  unfold Tl at ht'
  refine fn_rt ?_
  show gg_plain_ring [some (cellD (W, L)), some (cellD t), some (cellD p), none, none, none, none, none] M = _
  unfold gg_plain_ring
  refine seq_as (M1 := M) (δ' := [some (cellD (W, L)), some (cellD t), some (cellD p), some (.int p.1), some (.int p.2), none, none, none]) rfl rfl ?_
  refine seq_as (M1 := M) (δ' := [some (cellD (W, L)), some (cellD t), some (cellD p), some (.int p.1), some (.int p.2), some (.tup ((cells W L p.1 p.2 (p.1 + t.1) (p.2 + t.1)).map cellD)), none, none]) (call_of (cons_of rfl (cons_of rfl (cons_of rfl x_aNil))) (under_sp hW hL ht h1 h2 M)) rfl ?_
  refine seq_as (M1 := M) (δ' := [some (cellD (W, L)), some (cellD t), some (cellD p), some (.int p.1), some (.int p.2), some (.tup ((cells W L p.1 p.2 (p.1 + t.1) (p.2 + t.1)).map cellD)), some (.lst ((cells W L (p.1 - 1) (p.2 - 1) (p.1 + t.1 + 1) (p.2 + t.1 + 1)).map cellD)), none]) ?_ rfl ?_
  · refine call_of (ds := [cellD (W, L), cellD (p.1 - 1, p.2 - 1), cellD (p.1 + t.1 + 1, p.2 + t.1 + 1)]) (cons_of rfl (cons_of (x_eTup (ds := [.int (p.1 - 1), .int (p.2 - 1)]) (cons_of (op_of rfl x_eC rfl) (cons_of (op_of rfl x_eC rfl) x_aNil)) (by simp)) (cons_of (x_eTup (ds := [.int (p.1 + t.1 + 1), .int (p.2 + t.1 + 1)]) (cons_of (op_of (op_of rfl (op_of rfl x_eC ix_c0) rfl) x_eC rfl) (cons_of (op_of (op_of rfl (op_of rfl x_eC ix_c0) rfl) x_eC rfl) x_aNil)) (by simp)) x_aNil))) ?_
    exact between_sp hW hL (by unfold Smal; omega) (by unfold Smal; omega) (by unfold Smal; omega) (by unfold Smal; omega)
  · refine ret_of (tupL ?_)
    refine lc_ (δ1 := [some (cellD (W, L)), some (cellD t), some (cellD p), some (.int p.1), some (.int p.2), some (.tup ((cells W L p.1 p.2 (p.1 + t.1) (p.2 + t.1)).map cellD)), some (.lst ((cells W L (p.1 - 1) (p.2 - 1) (p.1 + t.1 + 1) (p.2 + t.1 + 1)).map cellD)), none]) (itemsL_ (ds := (cells W L (p.1 - 1) (p.2 - 1) (p.1 + t.1 + 1) (p.2 + t.1 + 1)).map cellD) rfl) rfl (lc_notin (v := 7) (u := 5) (U := cells W L p.1 p.2 (p.1 + t.1) (p.2 + t.1)) (by simp) (by decide) true rfl _) ?_
    rw [List.length_map]
    exact Nat.le_trans (List.length_filter_le _ _) (Nat.le_trans (cells_len hW hL) (by decide))
end Law
namespace Law
open PySem L2 Pl Pl.Ev
def spotsC (W L s : Int) : List (Int × Int) := prod (zr (1 - s) W) (zr (1 - s) L)
section
variable {ct : CT} {h : Int} {R : List (List Int)} {W : Nat} {t : Int × Int}
theorem FldOk.dim (ok : FldOk h R W) : (0 ≤ ((W : Nat) : Int) ∧ ((W : Nat) : Int) ≤ 8) ∧ 0 ≤ ((R.length : Nat) : Int) ∧ ((R.length : Nat) : Int) ≤ 8 := by
  have := ok.w
  have := ok.l
  omega
theorem need_place_ok {W L : Int} {p : Int × Int} (hp : plB W L t.1 p = true) (M : Mh) : ff_need_place ct [cellD (W, L), cellD t, cellD p] M = some (.non, M) := by
  refine fnN_ (δ' := [some (cellD (W, L)), some (cellD t), some (cellD p)]) ?_
  show gg_need_place ct [some (cellD (W, L)), some (cellD t), some (cellD p)] M = _
  unfold gg_need_place
  exact if_ff (nt_of (b := true) (v_bl (call_of (cons_of rfl (cons_of rfl (cons_of rfl x_aNil))) ((place_sp M).trans (by rw [hp]))))) nil_of
theorem need_seat_ok (ok : FldOk h R W) (ht : ToolOk t) {p : Int × Int} (hp : plB (W : Nat) (R.length : Nat) t.1 p = true) (M : Mh) : ff_need_seat ct [fldD h R, cellD t, cellD p] M = some (.non, M) := by
  refine fnN_ (δ' := [some (fldD h R), some (cellD t), some (cellD p)]) ?_
  show gg_need_seat ct [some (fldD h R), some (cellD t), some (cellD p)] M = _
  unfold gg_need_seat
  refine seq_nx (se_ (call_of (cons_of rfl x_aNil) (need_field_ok ok M))) (seq_nx (se_ (call_of (cons_of rfl x_aNil) (need_tool_ok ht M))) (se_ (call_of (cons_of (call_of (cons_of rfl x_aNil) (sides_sp ok M)) (cons_of rfl (cons_of rfl x_aNil))) (need_place_ok hp M))))
theorem plB_in {W L s : Int} {p : Int × Int} (h : plB W L s p = true) : (1 - s ≤ p.1 ∧ p.1 ≤ W - 1) ∧ 1 - s ≤ p.2 ∧ p.2 ≤ L - 1 := by
  unfold plB at h
  simp only [Bool.and_eq_true, decide_eq_true_eq] at h
  exact h
end
end Law
namespace Law
open PySem L2 Pl Pl.Ev
theorem ext_end {M : Mh} {xs ys : List D} {f : EF} {q : AF} {δ : Pl.Env} (h1 : f δ (M ++ [.lst xs]) = some (.ref M.length, M ++ [.lst xs])) (h2 : q δ (M ++ [.lst xs]) = some ([.lst ys], M ++ [.lst xs])) (hl : xs.length + ys.length ≤ 1000) : eMeth2 gExt f q δ (M ++ [.lst xs]) = some (.non, M ++ [.lst (xs ++ ys)]) := by
  unfold eMeth2
  rw [h1]
  dsimp only
  rw [if_pos (show (lstOf (M ++ [MO.lst xs]) (.ref M.length)).isSome = true by unfold lstOf; dsimp only; rw [at_end]; rfl), h2]
  dsimp only
  unfold gExt
  dsimp only
  rw [at_end]
  dsimp only [lstT]
  rw [if_pos (Nat.le_trans hl (by decide)), set_end]
theorem ext_go {u fi : Nat} {B : List Int} {e : EF} {δ0 : Pl.Env} {M : Mh} (hf : fi ≠ u) (hB : B.length ≤ 12) : ∀ (A : List Int) (acc : List (Int × Int)) (δ : Pl.Env), δ[fi]? = some (some (.ref M.length)) → u < δ.length → (∀ (i : Int) (acc : List D) (x : Option D), e ((δ.set u x).set u (some (.int i))) (M ++ [.lst acc]) = some (.lst ((B.map fun j => (i, j)).map cellD), M ++ [.lst acc])) → acc.length + A.length * 12 ≤ 900 →
    ∃ x, forGo (gN u) (sE (eMeth2 gExt (eVar fi) (aCons e aNil))) (A.map D.int) δ (M ++ [.lst (acc.map cellD)]) = some (.nx (δ.set u x) (M ++ [.lst ((acc ++ prod A B).map cellD)])) ∨ forGo (gN u) (sE (eMeth2 gExt (eVar fi) (aCons e aNil))) (A.map D.int) δ (M ++ [.lst (acc.map cellD)]) = some (.nx δ (M ++ [.lst ((acc ++ prod A B).map cellD)]))
  | [], acc, δ, _, _, _, _ => ⟨none, .inr (by
    rw [show prod [] B = [] from rfl, List.append_nil]
    exact forN_)⟩
  | i :: A, acc, δ, h0, hu, he, hl => by
    rw [List.length_cons] at hl
    have he' : ∀ (i' : Int) (acc : List D) (x : Option D), e (((δ.set u (some (.int i))).set u x).set u (some (.int i'))) (M ++ [.lst acc]) = some (.lst ((B.map fun j => (i', j)).map cellD), M ++ [.lst acc]) := fun i' acc x => by
      rw [List.set_set]
      exact he i' acc (some (.int i))
    have st : sE (eMeth2 gExt (eVar fi) (aCons e aNil)) (δ.set u (some (.int i))) (M ++ [.lst (acc.map cellD)]) = some (.nx (δ.set u (some (.int i))) (M ++ [.lst ((acc ++ B.map fun j => (i, j)).map cellD)])) := by
      refine se_ (d := .non) ?_
      rw [List.map_append]
      refine ext_end (var_ (by rw [List.getElem?_set_ne (Ne.symm hf)]; exact h0)) (cons_of ?_ x_aNil) (by rw [List.length_map, List.length_map, List.length_map]; omega)
      have := he i (acc.map cellD) (some (.int i))
      rw [List.set_set] at this
      exact this
    obtain ⟨x, ih⟩ := ext_go (e := e) (δ0 := δ0) hf hB A (acc ++ B.map fun j => (i, j)) (δ.set u (some (.int i))) (by rw [List.getElem?_set_ne (Ne.symm hf)]; exact h0) (by rw [List.length_set]; exact hu) he' (by rw [List.length_append, List.length_map]; omega)
    rw [List.append_assoc, ← prod_cons] at ih
    rw [List.map_cons]
    rcases ih with ih | ih
    · refine ⟨x, .inl ?_⟩
      rw [List.set_set] at ih
      exact forC_ (δ1 := δ.set u (some (.int i))) rfl st ih
    · exact ⟨some (.int i), .inl (forC_ (δ1 := δ.set u (some (.int i))) rfl st ih)⟩
theorem frz_end {i : Nat} {δ : Pl.Env} {M : Mh} {xs : List D} (h : δ[i]? = some (some (.ref M.length))) : eFrz i δ (M ++ [.lst xs]) = some (.lst xs, M ++ [.dead]) := by
  unfold eFrz
  rw [h]
  dsimp only
  rw [at_end]
  dsimp only
  rw [set_end]
theorem rng1Z {q : AF} {δ : Pl.Env} {M M1 : Mh} {j : Int} (h : q δ M = some ([.int j], M1)) (hj : -1000 ≤ j ∧ j ≤ 1000) : aRng1 q δ M = some ((zr 0 j).map D.int, M1) := by
  rw [rng1_ h ⟨by omega, by omega⟩, zr_rng]
theorem pairs_go {u v : Nat} {i : Int} {δ : Pl.Env} {M : Mh} (huv : u ≠ v) (hv : v < δ.length) (hu : δ[u]? = some (some (.int i))) : ∀ B : List Int, lcGo (gN v) tTrue (eTup (aCons (eVar u) (aCons (eVar v) aNil))) (B.map D.int) δ M = some ((B.map fun j => (i, j)).map cellD, M)
  | [] => lcN_
  | j :: B => by
    have ih := pairs_go (M := M) huv hv hu B
    rw [List.map_cons, List.map_cons, List.map_cons]
    exact lcC_ (x := true) (M1 := M) (δ1 := δ.set v (some (.int j))) rfl tt_ (lcY_ (p := gN v) (t := tTrue) (ds := B.map D.int) (δ := δ) (δ1 := δ.set v (some (.int j))) (x_eTup (ds := [.int i, .int j]) (cons_of (var_ (by rw [List.getElem?_set_ne huv.symm]; exact hu)) (cons_of (var_ (by rw [List.getElem?_set_self hv])) x_aNil)) (by simp)) ih)
section
variable {h : Int} {R : List (List Int)} {W : Nat}
theorem wide_of (ok : FldOk h R W) {δ : Pl.Env} {M : Mh} {i : Nat} (h0 : δ[i]? = some (some (fldD h R))) : eB gLen (aCons (eOp gIx (eOp gIx (eVar i) (eC (.int 1))) (eC (.int 0))) aNil) δ M = some (.int (W : Nat), M) := by
  obtain ⟨r, l0, e0⟩ := row0 ok M
  exact (lenT (op_of (op_of (var_ h0) x_eC rfl) x_eC e0)).trans (by rw [List.length_map, l0])
theorem long_of {δ : Pl.Env} {M : Mh} {i : Nat} (h0 : δ[i]? = some (some (fldD h R))) : eB gLen (aCons (eOp gIx (eVar i) (eC (.int 1))) aNil) δ M = some (.int (R.length : Nat), M) :=
  (lenT (op_of (var_ h0) x_eC rfl)).trans (by rw [List.length_map])
def allC (W L : Int) : List (Int × Int) := prod (zr 0 W) (zr 0 L)
theorem cells_sp (ok : FldOk h R W) (M : Mh) : ff_law_cells [fldD h R] M = some (.lst ((allC (W : Nat) (R.length : Nat)).map cellD), M ++ [.dead]) := by
  have dm := ok.dim
  refine fn_rt ?_
  show gg_law_cells [some (fldD h R), none, none, none] M = _
  unfold gg_law_cells
  refine seq_as (M1 := M ++ [.lst []]) (δ' := [some (fldD h R), some (.ref M.length), none, none]) (new_ x_aNil (by simp)) rfl ?_
  have inner : ∀ (i : Int) (acc : List D) (x : Option D), eLc [3] (aRng1 (aCons (eB gLen (aCons (eOp gIx (eVar 0) (eC (.int 1))) aNil)) aNil)) (gN 3) tTrue (eTup (aCons (eVar 2) (aCons (eVar 3) aNil))) (([some (fldD h R), some (.ref M.length), none, none].set 2 x).set 2 (some (.int i))) (M ++ [.lst acc]) = some (.lst (((zr 0 (R.length : Nat)).map fun j => (i, j)).map cellD), M ++ [.lst acc]) := fun i acc x =>
    lc_ (δ1 := [some (fldD h R), some (.ref M.length), some (.int i), none]) (rng1Z (cons_of (long_of rfl) x_aNil) (by omega)) rfl (pairs_go (by decide) (by simp) rfl _) (by rw [List.length_map, List.length_map, zr_len]; omega)
  obtain ⟨x, go⟩ := ext_go (u := 2) (fi := 1) (B := zr 0 (R.length : Nat)) (δ0 := []) (by decide) (by rw [zr_len]; omega) (zr 0 (W : Nat)) [] [some (fldD h R), some (.ref M.length), none, none] rfl (by simp) inner (by rw [zr_len]; simp; omega)
  rw [List.nil_append] at go
  have it : aRng1 (aCons (eB gLen (aCons (eOp gIx (eOp gIx (eVar 0) (eC (.int 1))) (eC (.int 0))) aNil)) aNil) [some (fldD h R), some (.ref M.length), none, none] (M ++ [.lst []]) = some ((zr 0 (W : Nat)).map D.int, M ++ [.lst []]) := rng1Z (cons_of (wide_of ok rfl) x_aNil) (by omega)
  rcases go with go | go
  · exact seq_nx (for_ it go) (ret_of (frz_end rfl))
  · exact seq_nx (for_ it go) (ret_of (frz_end rfl))
theorem spots_sp (ok : FldOk h R W) {s : Int} (hs : 1 ≤ s ∧ s ≤ 4) (M : Mh) : ff_law_spots [fldD h R, .int s] M = some (.lst ((spotsC (W : Nat) (R.length : Nat) s).map cellD), M ++ [.dead]) := by
  have dm := ok.dim
  refine fn_rt ?_
  show gg_law_spots [some (fldD h R), some (.int s), none, none, none] M = _
  unfold gg_law_spots
  refine seq_as (M1 := M ++ [.lst []]) (δ' := [some (fldD h R), some (.int s), some (.ref M.length), none, none]) (new_ x_aNil (by simp)) rfl ?_
  have inner : ∀ (i : Int) (acc : List D) (x : Option D), eLc [4] (aRng2 (aCons (eOp (gInt fun i j => .int (i - j)) (eC (.int 1)) (eVar 1)) (aCons (eB gLen (aCons (eOp gIx (eVar 0) (eC (.int 1))) aNil)) aNil))) (gN 4) tTrue (eTup (aCons (eVar 3) (aCons (eVar 4) aNil))) (([some (fldD h R), some (.int s), some (.ref M.length), none, none].set 3 x).set 3 (some (.int i))) (M ++ [.lst acc]) = some (.lst (((zr (1 - s) (R.length : Nat)).map fun j => (i, j)).map cellD), M ++ [.lst acc]) := fun i acc x =>
    lc_ (δ1 := [some (fldD h R), some (.int s), some (.ref M.length), some (.int i), none]) (rng2Z (cons_of (op_of x_eC rfl rfl) (cons_of (long_of rfl) x_aNil)) (by omega) (by omega)) rfl (pairs_go (by decide) (by simp) rfl _) (by rw [List.length_map, List.length_map, zr_len]; omega)
  obtain ⟨x, go⟩ := ext_go (u := 3) (fi := 2) (B := zr (1 - s) (R.length : Nat)) (δ0 := []) (by decide) (by rw [zr_len]; omega) (zr (1 - s) (W : Nat)) [] [some (fldD h R), some (.int s), some (.ref M.length), none, none] rfl (by simp) inner (by rw [zr_len]; simp; omega)
  rw [List.nil_append] at go
  have it : aRng2 (aCons (eOp (gInt fun i j => .int (i - j)) (eC (.int 1)) (eVar 1)) (aCons (eB gLen (aCons (eOp gIx (eOp gIx (eVar 0) (eC (.int 1))) (eC (.int 0))) aNil)) aNil)) [some (fldD h R), some (.int s), some (.ref M.length), none, none] (M ++ [.lst []]) = some ((zr (1 - s) (W : Nat)).map D.int, M ++ [.lst []]) := rng2Z (cons_of (op_of x_eC rfl rfl) (cons_of (wide_of ok rfl) x_aNil)) (by omega) (by omega)
  rcases go with go | go
  · exact seq_nx (for_ it go) (ret_of (frz_end rfl))
  · exact seq_nx (for_ it go) (ret_of (frz_end rfl))
/-- the cells near a place -/
def nearB (p : Int × Int) (s m : Int) (q : Int × Int) : Bool := (decide (p.1 - m ≤ q.1) && decide (q.1 < p.1 + s + m)) && (decide (p.2 - m ≤ q.2) && decide (q.2 < p.2 + s + m))
def nearC (W L : Int) (p : Int × Int) (s m : Int) : List (Int × Int) := (allC W L).filter (nearB p s m)
theorem near_go {f : D} {p : Int × Int} {s m : Int} {M l : Mh} : ∀ (A acc : List (Int × Int)) (x y : Option D), acc.length + A.length ≤ 900 →
    ∃ x' y', forGo (gTp (gsCons (gN 7) (gsCons (gN 8) gsNil))) (sIf (tAn (tV (eChain (gInt fun i j => .bl (decide (i ≤ j))) (gInt fun i j => .bl (decide (i < j))) (eOp (gInt fun i j => .int (i - j)) (eVar 4) (eVar 3)) (eVar 7) (eOp gAdd (eOp gAdd (eVar 4) (eVar 2)) (eVar 3)))) (tV (eChain (gInt fun i j => .bl (decide (i ≤ j))) (gInt fun i j => .bl (decide (i < j))) (eOp (gInt fun i j => .int (i - j)) (eVar 5) (eVar 3)) (eVar 8) (eOp gAdd (eOp gAdd (eVar 5) (eVar 2)) (eVar 3))))) (sE (eMeth2 gApp (eVar 6) (aCons (eTup (aCons (eVar 7) (aCons (eVar 8) aNil))) aNil))) sNil) (A.map cellD) [some f, some (cellD p), some (.int s), some (.int m), some (.int p.1), some (.int p.2), some (.ref M.length), x, y] (M ++ (.lst (acc.map cellD) :: l)) = some (.nx [some f, some (cellD p), some (.int s), some (.int m), some (.int p.1), some (.int p.2), some (.ref M.length), x', y'] (M ++ (.lst ((acc ++ A.filter (nearB p s m)).map cellD) :: l)))
  | [], acc, x, y, _ => ⟨x, y, by rw [List.filter_nil, List.append_nil]; exact forN_⟩
  | q :: A, acc, x, y, hl => by
    rw [List.length_cons] at hl
    have t : tAn (tV (eChain (gInt fun i j => .bl (decide (i ≤ j))) (gInt fun i j => .bl (decide (i < j))) (eOp (gInt fun i j => .int (i - j)) (eVar 4) (eVar 3)) (eVar 7) (eOp gAdd (eOp gAdd (eVar 4) (eVar 2)) (eVar 3)))) (tV (eChain (gInt fun i j => .bl (decide (i ≤ j))) (gInt fun i j => .bl (decide (i < j))) (eOp (gInt fun i j => .int (i - j)) (eVar 5) (eVar 3)) (eVar 8) (eOp gAdd (eOp gAdd (eVar 5) (eVar 2)) (eVar 3)))) [some f, some (cellD p), some (.int s), some (.int m), some (.int p.1), some (.int p.2), some (.ref M.length), some (.int q.1), some (.int q.2)] (M ++ (.lst (acc.map cellD) :: l)) = some (nearB p s m q, M ++ (.lst (acc.map cellD) :: l)) := by
      have one : ∀ {a b c : EF} {i j k : Int} {δ : Pl.Env} {N : Mh}, a δ N = some (.int i, N) → b δ N = some (.int j, N) → c δ N = some (.int k, N) → tV (eChain (gInt fun i j => .bl (decide (i ≤ j))) (gInt fun i j => .bl (decide (i < j))) a b c) δ N = some (decide (i ≤ j) && decide (j < k), N) := fun {a b c i j k δ N} h1 h2 h3 => by
        refine v_bl (chain_ (x := decide (i ≤ j)) (M3 := N) h1 h2 rfl ?_)
        cases decide (i ≤ j) with
        | true =>
          rw [cond_true, Bool.true_and]
          exact op_of x_eC h3 rfl
        | false => rfl
      have t1 := one (a := eOp (gInt fun i j => .int (i - j)) (eVar 4) (eVar 3)) (b := eVar 7) (c := eOp gAdd (eOp gAdd (eVar 4) (eVar 2)) (eVar 3)) (δ := [some f, some (cellD p), some (.int s), some (.int m), some (.int p.1), some (.int p.2), some (.ref M.length), some (.int q.1), some (.int q.2)]) (N := M ++ (.lst (acc.map cellD) :: l)) (i := p.1 - m) (j := q.1) (k := p.1 + s + m) (op_of rfl rfl rfl) rfl (op_of (op_of rfl rfl rfl) rfl rfl)
      have t2 := one (a := eOp (gInt fun i j => .int (i - j)) (eVar 5) (eVar 3)) (b := eVar 8) (c := eOp gAdd (eOp gAdd (eVar 5) (eVar 2)) (eVar 3)) (δ := [some f, some (cellD p), some (.int s), some (.int m), some (.int p.1), some (.int p.2), some (.ref M.length), some (.int q.1), some (.int q.2)]) (N := M ++ (.lst (acc.map cellD) :: l)) (i := p.2 - m) (j := q.2) (k := p.2 + s + m) (op_of rfl rfl rfl) rfl (op_of (op_of rfl rfl rfl) rfl rfl)
      unfold nearB
      cases hb : (decide (p.1 - m ≤ q.1) && decide (q.1 < p.1 + s + m)) with
      | true =>
        rw [hb] at t1
        rw [Bool.true_and]
        exact an1 t1 t2
      | false =>
        rw [hb] at t1
        rw [Bool.false_and]
        exact an0 t1
    rw [List.map_cons, List.filter_cons]
    cases hb : nearB p s m q with
    | true =>
      rw [hb] at t
      obtain ⟨x', y', ih⟩ := near_go (f := f) (p := p) (s := s) (m := m) (M := M) (l := l) A (acc ++ [q]) (some (.int q.1)) (some (.int q.2)) (by rw [List.length_append]; simp; omega)
      rw [List.append_assoc] at ih
      refine ⟨x', y', ?_⟩
      rw [if_pos rfl]
      refine forC_ (δ1 := [some f, some (cellD p), some (.int s), some (.int m), some (.int p.1), some (.int p.2), some (.ref M.length), some (.int q.1), some (.int q.2)]) (δ2 := [some f, some (cellD p), some (.int s), some (.int m), some (.int p.1), some (.int p.2), some (.ref M.length), some (.int q.1), some (.int q.2)]) (M2 := M ++ (.lst ((acc ++ [q]).map cellD) :: l)) rfl (if_tt t (se_ (d := .non) ?_)) ih
      rw [List.map_append]
      exact app_mid rfl (cons_of (x_eTup (ds := [.int q.1, .int q.2]) (cons_of rfl (cons_of rfl x_aNil)) (by simp)) x_aNil) (by rw [List.length_map]; omega)
    | false =>
      rw [hb] at t
      obtain ⟨x', y', ih⟩ := near_go (f := f) (p := p) (s := s) (m := m) (M := M) (l := l) A acc (some (.int q.1)) (some (.int q.2)) (by omega)
      refine ⟨x', y', ?_⟩
      rw [if_neg (by decide)]
      exact forC_ (δ1 := [some f, some (cellD p), some (.int s), some (.int m), some (.int p.1), some (.int p.2), some (.ref M.length), some (.int q.1), some (.int q.2)]) (δ2 := [some f, some (cellD p), some (.int s), some (.int m), some (.int p.1), some (.int p.2), some (.ref M.length), some (.int q.1), some (.int q.2)]) (M2 := M ++ (.lst (acc.map cellD) :: l)) rfl (if_ff t nil_of) ih
theorem frz_mid {i : Nat} {δ : Pl.Env} {M l : Mh} {xs : List D} (h : δ[i]? = some (some (.ref M.length))) : eFrz i δ (M ++ (.lst xs :: l)) = some (.lst xs, M ++ (.dead :: l)) := by
  unfold eFrz
  rw [h]
  dsimp only
  rw [show (M ++ (MO.lst xs :: l))[M.length]? = some (.lst xs) by simp]
  simp
theorem allC_len {W L : Int} (hW : 0 ≤ W ∧ W ≤ 8) (hL : 0 ≤ L ∧ L ≤ 8) : (allC W L).length ≤ 64 := by
  unfold allC
  rw [prod_len, zr_len, zr_len]
  exact Nat.le_trans (Nat.mul_le_mul (show (W - 0).toNat ≤ 8 by omega) (show (L - 0).toNat ≤ 8 by omega)) (by decide)
theorem near_sp (ok : FldOk h R W) (p : Int × Int) (s m : Int) (M : Mh) : ff_law_near [fldD h R, cellD p, .int s, .int m] M = some (.lst ((nearC (W : Nat) (R.length : Nat) p s m).map cellD), M ++ [.dead, .dead]) := by
  obtain ⟨d1, d2⟩ := ok.dim
  have al := allC_len d1 d2
  obtain ⟨x', y', go⟩ := near_go (f := fldD h R) (p := p) (s := s) (m := m) (M := M) (l := [.dead]) (allC (W : Nat) (R.length : Nat)) [] none none (by simp; omega)
  rw [List.nil_append] at go
  refine fn_rt ?_
  show gg_law_near [some (fldD h R), some (cellD p), some (.int s), some (.int m), none, none, none, none, none] M = _
  unfold gg_law_near
  refine seq_as (M1 := M) (δ' := [some (fldD h R), some (cellD p), some (.int s), some (.int m), some (.int p.1), some (.int p.2), none, none, none]) rfl rfl ?_
  refine seq_as (M1 := M ++ [.lst []]) (δ' := [some (fldD h R), some (cellD p), some (.int s), some (.int m), some (.int p.1), some (.int p.2), some (.ref M.length), none, none]) (new_ x_aNil (by simp)) rfl ?_
  have hc : ff_law_cells ([fldD h R] ++ []) (M ++ [MO.lst []]) = some (.lst ((allC (W : Nat) (R.length : Nat)).map cellD), M ++ (MO.lst [] :: [.dead])) := by
    rw [List.append_nil, cells_sp ok, List.append_assoc]
    rfl
  have ha : aCons (eVar 0) aNil [some (fldD h R), some (cellD p), some (.int s), some (.int m), some (.int p.1), some (.int p.2), some (.ref M.length), none, none] (M ++ [MO.lst []]) = some ([fldD h R], M ++ [MO.lst []]) := cons_of rfl x_aNil
  have it : aItems (eCall ff_law_cells (aCons (eVar 0) aNil) []) [some (fldD h R), some (cellD p), some (.int s), some (.int m), some (.int p.1), some (.int p.2), some (.ref M.length), none, none] (M ++ [MO.lst []]) = some ((allC (W : Nat) (R.length : Nat)).map cellD, M ++ (MO.lst [] :: [.dead])) := itemsL_ (call_of ha hc)
  refine seq_nx (for_ it go) (ret_of ?_)
  exact frz_mid rfl
end
end Law
namespace Law
open PySem L2 Pl Pl.Ev
theorem near_eq (W L : Int) (p : Int × Int) (s m : Int) : nearC W L p s m = cells W L (p.1 - m) (p.2 - m) (p.1 + s + m) (p.2 + s + m) := by
  unfold nearC allC nearB cells
  rw [prod_filter (fun i => decide (p.1 - m ≤ i) && decide (i < p.1 + s + m)) (fun j => decide (p.2 - m ≤ j) && decide (j < p.2 + s + m)), zr_filter _ _ _ 0 W rfl, zr_filter _ _ _ 0 L rfl]
  congr 2
  · split <;> split <;> omega
  · split <;> split <;> omega
  · split <;> split <;> omega
  · split <;> split <;> omega
theorem under_eq (W L : Int) (p : Int × Int) (s : Int) : nearC W L p s 0 = cells W L p.1 p.2 (p.1 + s) (p.2 + s) := by
  rw [near_eq, Int.sub_zero, Int.sub_zero, Int.add_zero, Int.add_zero]
theorem ring_eq (W L : Int) (p : Int × Int) (s : Int) : ((nearC W L p s 1).filter fun q => !decide (q ∈ nearC W L p s 0)) = ringC W L p s := by
  unfold ringC
  rw [under_eq, near_eq]
theorem near_mem {W L : Int} {p q : Int × Int} {s m : Int} : q ∈ nearC W L p s m ↔ ((0 ≤ q.1 ∧ q.1 < W) ∧ 0 ≤ q.2 ∧ q.2 < L) ∧ (p.1 - m ≤ q.1 ∧ q.1 < p.1 + s + m) ∧ p.2 - m ≤ q.2 ∧ q.2 < p.2 + s + m := by
  unfold nearC allC nearB
  rw [List.mem_filter, prod_mem, zr_mem, zr_mem]
  simp only [Bool.and_eq_true, decide_eq_true_eq]
theorem spots_mem {W L s : Int} {p : Int × Int} : p ∈ spotsC W L s ↔ (1 - s ≤ p.1 ∧ p.1 < W) ∧ 1 - s ≤ p.2 ∧ p.2 < L := by
  unfold spotsC
  rw [prod_mem, zr_mem, zr_mem]
theorem spots_pl {W L s : Int} {p : Int × Int} (h : p ∈ spotsC W L s) : plB W L s p = true := by
  have := spots_mem.mp h
  unfold plB
  simp only [Bool.and_eq_true, decide_eq_true_eq]
  omega
theorem near_len {W L : Int} {p : Int × Int} {s m : Int} (hW : 0 ≤ W ∧ W ≤ 8) (hL : 0 ≤ L ∧ L ≤ 8) : (nearC W L p s m).length ≤ 64 := Nat.le_trans (List.length_filter_le _ _) (allC_len hW hL)
end Law
namespace Law
open PySem L2 Pl Pl.Ev
structure Bz (Ts : Mh) (n : Nat) (B : Int) (M : Mh) : Prop where
  a : At n B M
  le : Ts.length ≤ n
  z : ∀ i, i < Ts.length → M[i]? = Ts[i]?
theorem Bz.up {Ts : Mh} {n : Nat} {B C : Int} {M : Mh} (h : Bz Ts n B M) (l : B ≤ C) : Bz Ts n C M := ⟨h.a.up l, h.le, h.z⟩
theorem Bz.apps {Ts : Mh} {n : Nat} {B : Int} {M : Mh} (h : Bz Ts n B M) (l : List MO) : Bz Ts n B (M ++ l) := ⟨h.a.apps l, h.le, fun i hi => by
  have := h.a.lt
  have := h.le
  rw [List.getElem?_append_left (by omega)]
  exact h.z i hi⟩
theorem Bz.set {Ts : Mh} {n j : Nat} {B : Int} {M : Mh} {m : MO} (h : Bz Ts n B M) (hj : n < j) : Bz Ts n B (M.set j m) := ⟨h.a.set (by omega), h.le, fun i hi => by
  have := h.le
  rw [List.getElem?_set_ne (by omega)]
  exact h.z i hi⟩
theorem dgB {Ts : Mh} {n : Nat} {M : Mh} {B many : Int} {δ : Pl.Env} {i : Nat} {fm : EF} (h0 : δ[i]? = some (some (.ref n))) (hm : fm δ M = some (.int many, M)) (h : Bz Ts n B M) (hB : B < 2 ^ 57) (m0 : 0 < many) (m1 : many ≤ 1000000) :
    ∃ (f : Nat) (M' : Mh), eCall ff_law_digit (aCons (eVar i) (aCons fm aNil)) [] δ M = some (.int f, M') ∧ (f : Int) < many ∧ Bz Ts n (B + 4) M' ∧ Fr n M M' := by
  obtain ⟨f, M1, e, p, f1, r⟩ := dgE h0 hm h.a hB m0 m1
  exact ⟨f, M1, e, f1, ⟨p, h.le, fun i hi => by
    have := h.le
    rw [r i (by omega)]
    exact h.z i hi⟩, r⟩
/-- one and what is drawn -/
theorem dg1 {Ts : Mh} {n : Nat} {M : Mh} {B many : Int} {δ : Pl.Env} {i : Nat} {fm : EF} (h0 : δ[i]? = some (some (.ref n))) (hm : fm δ M = some (.int many, M)) (h : Bz Ts n B M) (hB : B < 2 ^ 57) (m0 : 0 < many) (m1 : many ≤ 1000000) :
    ∃ (v : Int) (M' : Mh), eOp gAdd (eC (.int 1)) (eCall ff_law_digit (aCons (eVar i) (aCons fm aNil)) []) δ M = some (.int v, M') ∧ (1 ≤ v ∧ v ≤ many) ∧ Bz Ts n (B + 4) M' ∧ Fr n M M' := by
  obtain ⟨f, M1, e, f1, p, r⟩ := dgB h0 hm h hB m0 m1
  exact ⟨1 + f, M1, op_of x_eC e rfl, by omega, p, r⟩
def RwOk (l : List Int) (W : Nat) (h : Int) : Prop := l.length = W ∧ ∀ x ∈ l, 0 ≤ x ∧ x ≤ h
def Rw (base k W : Nat) (h : Int) (M : Mh) : Prop := ∀ b, b < k → ∃ l : List Int, RwOk l W h ∧ M[base + b]? = some (.lst (l.map D.int))
theorem Rw.fr {base k W n : Nat} {h : Int} {M M' : Mh} (r : Rw base k W h M) (hn : n < base) (f : Fr n M M') : Rw base k W h M' := fun b hb => by
  obtain ⟨l, o, e⟩ := r b hb
  exact ⟨l, o, by rw [f _ (by omega)]; exact e⟩
theorem set_map (l : List Int) (m : Nat) (z : Int) : (l.map D.int).set m (.int z) = (l.set m z).map D.int := by rw [List.map_set]
theorem RwOk.set {l : List Int} {W : Nat} {h : Int} (r : RwOk l W h) (m : Nat) {z : Int} (hz : 0 ≤ z ∧ z ≤ h) : RwOk (l.set m z) W h := by
  refine ⟨by rw [List.length_set]; exact r.1, fun x hx => ?_⟩
  rcases List.mem_or_eq_of_mem_set hx with h1 | h1
  · exact r.2 x h1
  · rw [h1]; exact hz
theorem Rw.put {base k W : Nat} {h : Int} {M : Mh} (r : Rw base k W h M) {b : Nat} (hb : b < k) (m : Nat) {z : Int} (hz : 0 ≤ z ∧ z ≤ h) {l : List Int} (o : RwOk l W h) : Rw base k W h (M.set (base + b) (.lst ((l.map D.int).set m (.int z)))) := fun c hc => by
  by_cases hcb : c = b
  · subst hcb
    obtain ⟨l0, _, e0⟩ := r c hc
    refine ⟨l.set m z, o.set m hz, ?_⟩
    rw [set_map, List.getElem?_set_self (List.getElem?_eq_some_iff.mp e0).1]
  · obtain ⟨l0, o0, e0⟩ := r c hc
    exact ⟨l0, o0, by rw [List.getElem?_set_ne (by omega)]; exact e0⟩
/-- the rows' names -/
def refs (base k : Nat) : List D := (List.range k).map fun b => .ref (base + b)
theorem refs_at {base k b : Nat} (h : b < k) : (refs base k)[b]? = some (.ref (base + b)) := by
  unfold refs
  rw [List.getElem?_map, List.getElem?_range h]
  rfl
theorem put_step {Ts : Mh} {n base k W : Nat} {h z : Int} {B : Int} {M : Mh} {δ : Pl.Env} {b a : Nat} (h5 : δ[5]? = some (some (.lst (refs base k)))) (h12 : δ[12]? = some (some (.int b))) (h13 : δ[13]? = some (some (.int a))) (h9 : δ[9]? = some (some (.int z))) (hb : b < k) (ha : a < W) (hz : 0 ≤ z ∧ z ≤ h) (hn : n < base) (r : Rw base k W h M) (p : Bz Ts n B M) :
    ∃ M', sLput (eOp gIx (eVar 5) (eVar 12)) (eVar 13) (eVar 9) δ M = some (.nx δ M') ∧ Rw base k W h M' ∧ Bz Ts n B M' := by
  obtain ⟨l, o, e⟩ := r b hb
  refine ⟨M.set (base + b) (.lst ((l.map D.int).set a (.int z))), ?_, r.put hb a hz o, p.set (by omega)⟩
  have hi : eOp gIx (eVar 5) (eVar 12) δ M = some (.ref (base + b), M) := op_of (var_ h5) (var_ h12) (by
    show (atI (refs base k) (b : Int)).map _ = _
    rw [atI_nat (refs_at hb)]
    rfl)
  unfold sLput
  rw [var_ h9]
  dsimp only
  rw [hi]
  dsimp only
  rw [var_ h13]
  dsimp only
  unfold gLput
  dsimp only
  rw [e]
  dsimp only
  rw [show ixN (l.map D.int).length (a : Int) = some a from by
    have : (l.map D.int).length = W := by rw [List.length_map]; exact o.1
    rw [this]
    unfold ixN
    rw [if_pos (by omega), if_pos (by omega)]
    simp]
end Law
namespace Law
open PySem L2 Pl Pl.Ev
def sPut : SF := sLput (eOp gIx (eVar 5) (eVar 12)) (eVar 13) (eVar 9)
/-- what stands but for slots 12 and 13 -/
def Same (δ δ' : Pl.Env) : Prop := δ'.length = δ.length ∧ ∀ i, i ≠ 12 → i ≠ 13 → δ'[i]? = δ[i]?
theorem Same.refl (δ : Pl.Env) : Same δ δ := ⟨rfl, fun _ _ _ => rfl⟩
theorem Same.trans {a b c : Pl.Env} (h : Same a b) (k : Same b c) : Same a c := ⟨k.1.trans h.1, fun i h1 h2 => (k.2 i h1 h2).trans (h.2 i h1 h2)⟩
theorem Same.set {δ : Pl.Env} {i : Nat} (hi : i = 12 ∨ i = 13) (d : Option D) : Same δ (δ.set i d) := ⟨List.length_set, fun j h1 h2 => List.getElem?_set_ne (by omega)⟩
theorem put_go {Ts : Mh} {n base k W : Nat} {h z : Int} {B : Int} {b : Nat} (hb : b < k) (hz : 0 ≤ z ∧ z ≤ h) (hn : n < base) : ∀ (A : List Int) (δ : Pl.Env) (M : Mh), (∀ x ∈ A, 0 ≤ x ∧ x < W) → δ.length = 15 → δ[5]? = some (some (.lst (refs base k))) → δ[12]? = some (some (.int b)) → δ[9]? = some (some (.int z)) → Rw base k W h M → Bz Ts n B M →
    ∃ δ' M', forGo (gN 13) sPut (A.map D.int) δ M = some (.nx δ' M') ∧ Same δ δ' ∧ Rw base k W h M' ∧ Bz Ts n B M'
  | [], δ, M, _, _, _, _, _, r, p => ⟨δ, M, forN_, Same.refl δ, r, p⟩
  | x :: A, δ, M, hA, hl, h5, h12, h9, r, p => by
    have hx := hA x List.mem_cons_self
    obtain ⟨a, rfl⟩ := Int.eq_ofNat_of_zero_le hx.1
    have g5 : (δ.set 13 (some (.int a)))[5]? = some (some (.lst (refs base k))) := by rw [List.getElem?_set_ne (by decide)]; exact h5
    have g12 : (δ.set 13 (some (.int a)))[12]? = some (some (.int b)) := by rw [List.getElem?_set_ne (by decide)]; exact h12
    have g9 : (δ.set 13 (some (.int a)))[9]? = some (some (.int z)) := by rw [List.getElem?_set_ne (by decide)]; exact h9
    have g13 : (δ.set 13 (some (.int a)))[13]? = some (some (.int a)) := by rw [List.getElem?_set_self (by omega)]
    obtain ⟨M1, e1, r1, p1⟩ := put_step g5 g12 g13 g9 hb (by omega) hz hn r p
    obtain ⟨δ', M', e2, s2, r2, p2⟩ := put_go hb hz hn A (δ.set 13 (some (.int a))) M1 (fun y hy => hA y (List.mem_cons_of_mem _ hy)) (by rw [List.length_set]; exact hl) g5 g12 g9 r1 p1
    exact ⟨δ', M', forC_ (δ1 := δ.set 13 (some (.int a))) rfl e1 e2, (Same.set (.inr rfl) _).trans s2, r2, p2⟩
/-- the numbers of a range are small -/
theorem rng2_e {i j : Nat} {a b : Int} {δ : Pl.Env} {M : Mh} (h1 : δ[i]? = some (some (.int a))) (h2 : δ[j]? = some (some (.int b))) (ha : 0 ≤ a ∧ a ≤ 100) (hb : 0 ≤ b ∧ b ≤ 100) : aRng2 (aCons (eVar i) (aCons (eVar j) aNil)) δ M = some ((zr a b).map D.int, M) := by
  unfold aRng2
  rw [cons_of (var_ h1) (cons_of (var_ h2) x_aNil)]
  dsimp only
  rw [if_pos (by omega), zr_rng]
def sWin : SF := sFor (aRng2 (aCons (eVar 8) (aCons (eVar 10) aNil))) (gN 13) sPut
theorem win_go {Ts : Mh} {n base k W : Nat} {h z : Int} {B : Int} {a1 a2 : Int} (ha : 0 ≤ a1 ∧ a1 ≤ 100) (ha2 : 0 ≤ a2 ∧ a2 ≤ W) (hW : W ≤ 100) (hz : 0 ≤ z ∧ z ≤ h) (hn : n < base) : ∀ (A : List Int) (δ : Pl.Env) (M : Mh), (∀ x ∈ A, 0 ≤ x ∧ x < k) → δ.length = 15 → δ[5]? = some (some (.lst (refs base k))) → δ[8]? = some (some (.int a1)) → δ[10]? = some (some (.int a2)) → δ[9]? = some (some (.int z)) → Rw base k W h M → Bz Ts n B M →
    ∃ δ' M', forGo (gN 12) sWin (A.map D.int) δ M = some (.nx δ' M') ∧ Same δ δ' ∧ Rw base k W h M' ∧ Bz Ts n B M'
  | [], δ, M, _, _, _, _, _, _, r, p => ⟨δ, M, forN_, Same.refl δ, r, p⟩
  | x :: A, δ, M, hA, hl, h5, h8, h10, h9, r, p => by
    have hx := hA x List.mem_cons_self
    obtain ⟨b, rfl⟩ := Int.eq_ofNat_of_zero_le hx.1
    have g5 : (δ.set 12 (some (.int b)))[5]? = some (some (.lst (refs base k))) := by rw [List.getElem?_set_ne (by decide)]; exact h5
    have g8 : (δ.set 12 (some (.int b)))[8]? = some (some (.int a1)) := by rw [List.getElem?_set_ne (by decide)]; exact h8
    have g10 : (δ.set 12 (some (.int b)))[10]? = some (some (.int a2)) := by rw [List.getElem?_set_ne (by decide)]; exact h10
    have g9 : (δ.set 12 (some (.int b)))[9]? = some (some (.int z)) := by rw [List.getElem?_set_ne (by decide)]; exact h9
    have g12 : (δ.set 12 (some (.int b)))[12]? = some (some (.int b)) := by rw [List.getElem?_set_self (by omega)]
    obtain ⟨δ1, M1, e1, s1, r1, p1⟩ := put_go (b := b) (k := k) (by omega) hz hn (zr a1 a2) (δ.set 12 (some (.int b))) M (fun y hy => by
      have := zr_mem.mp hy
      omega) (by rw [List.length_set]; exact hl) g5 g12 g9 r p
    have e0 : sWin (δ.set 12 (some (.int b))) M = some (.nx δ1 M1) := for_ (rng2_e g8 g10 ha (by omega)) e1
    obtain ⟨δ', M', e2, s2, r2, p2⟩ := win_go ha ha2 hW hz hn A δ1 M1 (fun y hy => hA y (List.mem_cons_of_mem _ hy)) (by rw [s1.1, List.length_set]; exact hl) ((s1.2 5 (by decide) (by decide)).trans g5) ((s1.2 8 (by decide) (by decide)).trans g8) ((s1.2 10 (by decide) (by decide)).trans g10) ((s1.2 9 (by decide) (by decide)).trans g9) r1 p1
    exact ⟨δ', M', forC_ (δ1 := δ.set 12 (some (.int b))) rfl e0 e2, ((Same.set (.inl rfl) _).trans s1).trans s2, r2, p2⟩
end Law
namespace Law
open PySem L2 Pl Pl.Ev
structure Tn (δ : Pl.Env) (n W k base : Nat) (h : Int) : Prop where
  l : δ.length = 15
  g0 : δ[0]? = some (some (.ref n))
  g2 : δ[2]? = some (some (.int W))
  g3 : δ[3]? = some (some (.int k))
  g4 : δ[4]? = some (some (.int h))
  g5 : δ[5]? = some (some (.lst (refs base k)))
theorem Tn.set {δ : Pl.Env} {n W k base : Nat} {h : Int} (t : Tn δ n W k base h) {i : Nat} (hi : 6 ≤ i) (d : Option D) : Tn (δ.set i d) n W k base h :=
  ⟨by rw [List.length_set]; exact t.l, by rw [List.getElem?_set_ne (by omega)]; exact t.g0, by rw [List.getElem?_set_ne (by omega)]; exact t.g2, by rw [List.getElem?_set_ne (by omega)]; exact t.g3, by rw [List.getElem?_set_ne (by omega)]; exact t.g4, by rw [List.getElem?_set_ne (by omega)]; exact t.g5⟩
theorem Tn.same {δ δ' : Pl.Env} {n W k base : Nat} {h : Int} (t : Tn δ n W k base h) (s : Same δ δ') : Tn δ' n W k base h :=
  ⟨s.1.trans t.l, (s.2 0 (by decide) (by decide)).trans t.g0, (s.2 2 (by decide) (by decide)).trans t.g2, (s.2 3 (by decide) (by decide)).trans t.g3, (s.2 4 (by decide) (by decide)).trans t.g4, (s.2 5 (by decide) (by decide)).trans t.g5⟩
theorem par3_e {i j l : Nat} {f g h : EF} {δ : Pl.Env} {M M1 M2 M3 : Mh} {d e u : D} (h1 : f δ M = some (d, M1)) (h2 : g δ M1 = some (e, M2)) (h3 : h δ M2 = some (u, M3)) : sPar3 i j l f g h δ M = some (.nx (((δ.set i (some d)).set j (some e)).set l (some u)) M3) := by
  unfold sPar3; rw [h1]; dsimp only; rw [h2]; dsimp only; rw [h3]
noncomputable def eDg (fm : EF) : EF := eCall ff_law_digit (aCons (eVar 0) (aCons fm aNil)) []
noncomputable def eUpTo (a b : Nat) : EF := eOp gAdd (eOp gAdd (eVar a) (eC (.int 1))) (eDg (eOp (gInt fun i j => .int (i - j)) (eVar b) (eVar a)))
/-- up to at most the side -/
theorem upto_e {Ts : Mh} {n : Nat} {M : Mh} {B : Int} {δ : Pl.Env} {a b : Nat} {x s : Int} (h0 : δ[0]? = some (some (.ref n))) (ha : δ[a]? = some (some (.int x))) (hb : δ[b]? = some (some (.int s))) (hx : 0 ≤ x ∧ x < s) (hs : s ≤ 100) (p : Bz Ts n B M) (hB : B < 2 ^ 56) :
    ∃ (y : Int) (M' : Mh), eUpTo a b δ M = some (.int y, M') ∧ (x < y ∧ y ≤ s) ∧ Bz Ts n (B + 4) M' ∧ Fr n M M' := by
  obtain ⟨f, M1, e, f1, p1, r1⟩ := dgB (i := 0) (fm := eOp (gInt fun i j => .int (i - j)) (eVar b) (eVar a)) (many := s - x) h0 (op_of (var_ hb) (var_ ha) rfl) p (by omega) (by omega) (by omega)
  exact ⟨x + 1 + f, M1, op_of (op_of (var_ ha) x_eC rfl) e rfl, by omega, p1, r1⟩
noncomputable def sTurn : SF := sSeq (sPar3 8 6 9 (eDg (eVar 2)) (eDg (eVar 3)) (eDg (eOp gAdd (eVar 4) (eC (.int 1))))) (sSeq (sPar 10 11 (eUpTo 8 2) (eUpTo 6 3)) (sFor (aRng2 (aCons (eVar 6) (aCons (eVar 11) aNil))) (gN 12) sWin))
theorem turn_step {Ts : Mh} {n base k W : Nat} {h : Int} {B : Int} {δ : Pl.Env} {M : Mh} (t : Tn δ n W k base h) (hW : 1 ≤ W ∧ W ≤ 50) (hk : 1 ≤ k ∧ k ≤ 50) (hh : 1 ≤ h ∧ h ≤ 50) (hn : n < base) (r : Rw base k W h M) (p : Bz Ts n B M) (hB : B < 2 ^ 55) :
    ∃ δ' M', sTurn δ M = some (.nx δ' M') ∧ Tn δ' n W k base h ∧ Rw base k W h M' ∧ Bz Ts n (B + 20) M' := by
  obtain ⟨i, M1, e1, b1, p1, f1⟩ := dgB (i := 0) (fm := eVar 2) (many := W) t.g0 (var_ t.g2) p (by omega) (by omega) (by omega)
  obtain ⟨j, M2, e2, b2, p2, f2⟩ := dgB (i := 0) (fm := eVar 3) (many := k) t.g0 (var_ t.g3) p1 (by omega) (by omega) (by omega)
  obtain ⟨z, M3, e3, b3, p3, f3⟩ := dgB (i := 0) (fm := eOp gAdd (eVar 4) (eC (.int 1))) (many := h + 1) t.g0 (op_of (var_ t.g4) x_eC rfl) p2 (by omega) (by omega) (by omega)
  have l1 := t.l
  have t1 := ((t.set (i := 8) (by decide) (some (.int i))).set (i := 6) (by decide) (some (.int j))).set (i := 9) (by decide) (some (.int z))
  have q0 := par3_e (i := 8) (j := 6) (l := 9) e1 e2 e3
  have g8 : (((δ.set 8 (some (.int i))).set 6 (some (.int j))).set 9 (some (.int z)))[8]? = some (some (.int i)) := by
    rw [List.getElem?_set_ne (by decide), List.getElem?_set_ne (by decide), List.getElem?_set_self (by omega)]
  have g6 : (((δ.set 8 (some (.int i))).set 6 (some (.int j))).set 9 (some (.int z)))[6]? = some (some (.int j)) := by
    rw [List.getElem?_set_ne (by decide), List.getElem?_set_self (by rw [List.length_set]; omega)]
  have g9 : (((δ.set 8 (some (.int i))).set 6 (some (.int j))).set 9 (some (.int z)))[9]? = some (some (.int z)) := by
    rw [List.getElem?_set_self (by rw [List.length_set, List.length_set]; omega)]
  revert q0 g8 g6 g9 t1
  generalize ((δ.set 8 (some (.int i))).set 6 (some (.int j))).set 9 (some (.int z)) = δ1
  intro t1 q0 g8 g6 g9
  obtain ⟨y1, M4, e4, b4, p4, f4⟩ := upto_e (a := 8) (b := 2) t1.g0 g8 t1.g2 (by omega) (by omega) p3 (by omega)
  obtain ⟨y2, M5, e5, b5, p5, f5⟩ := upto_e (a := 6) (b := 3) t1.g0 g6 t1.g3 (by omega) (by omega) p4 (by omega)
  have l2 := t1.l
  have q1 := par_e (i := 10) (j := 11) e4 e5
  have t2 := (t1.set (i := 10) (by decide) (some (.int y1))).set (i := 11) (by decide) (some (.int y2))
  have h8 : ((δ1.set 10 (some (.int y1))).set 11 (some (.int y2)))[8]? = some (some (.int i)) := by
    rw [List.getElem?_set_ne (by decide), List.getElem?_set_ne (by decide)]; exact g8
  have h6 : ((δ1.set 10 (some (.int y1))).set 11 (some (.int y2)))[6]? = some (some (.int j)) := by
    rw [List.getElem?_set_ne (by decide), List.getElem?_set_ne (by decide)]; exact g6
  have h9 : ((δ1.set 10 (some (.int y1))).set 11 (some (.int y2)))[9]? = some (some (.int z)) := by
    rw [List.getElem?_set_ne (by decide), List.getElem?_set_ne (by decide)]; exact g9
  have h10 : ((δ1.set 10 (some (.int y1))).set 11 (some (.int y2)))[10]? = some (some (.int y1)) := by
    rw [List.getElem?_set_ne (by decide), List.getElem?_set_self (by omega)]
  have h11 : ((δ1.set 10 (some (.int y1))).set 11 (some (.int y2)))[11]? = some (some (.int y2)) := by
    rw [List.getElem?_set_self (by rw [List.length_set]; omega)]
  revert q1 t2 h8 h6 h9 h10 h11
  generalize (δ1.set 10 (some (.int y1))).set 11 (some (.int y2)) = δ2
  intro q1 t2 h8 h6 h9 h10 h11
  have r5 := ((((r.fr hn f1).fr hn f2).fr hn f3).fr hn f4).fr hn f5
  obtain ⟨δ3, M6, e6, s6, r6, p6⟩ := win_go (z := z) (a1 := i) (a2 := y1) (by omega) (by omega) (by omega) (by omega) hn (zr j y2) δ2 M5 (fun y hy => by
    have := zr_mem.mp hy
    omega) t2.l t2.g5 h8 h10 h9 r5 p5
  exact ⟨δ3, M6, seq_ q0 (seq_ q1 (for_ (rng2_e h6 h11 (by omega) (by omega)) e6)), t2.same s6, r6, p6.up (by omega)⟩
theorem turn_go {Ts : Mh} {n base k W : Nat} {h : Int} (hW : 1 ≤ W ∧ W ≤ 50) (hk : 1 ≤ k ∧ k ≤ 50) (hh : 1 ≤ h ∧ h ≤ 50) (hn : n < base) : ∀ (A : List D) (B : Int) (δ : Pl.Env) (M : Mh), Tn δ n W k base h → Rw base k W h M → Bz Ts n B M → B + 20 * A.length < 2 ^ 55 →
    ∃ δ' M', forGo (gN 7) sTurn A δ M = some (.nx δ' M') ∧ Tn δ' n W k base h ∧ Rw base k W h M' ∧ Bz Ts n (B + 20 * A.length) M'
  | [], B, δ, M, t, r, p, _ => ⟨δ, M, forN_, t, r, p.up (by simp)⟩
  | d :: A, B, δ, M, t, r, p, hB => by
    rw [List.length_cons] at hB ⊢
    obtain ⟨δ1, M1, e1, t1, r1, p1⟩ := turn_step (t.set (i := 7) (by decide) (some d)) hW hk hh hn r p (by omega)
    obtain ⟨δ', M', e2, t2, r2, p2⟩ := turn_go hW hk hh hn A (B + 20) δ1 M1 t1 r1 p1 (by omega)
    exact ⟨δ', M', forC_ (δ1 := δ.set 7 (some d)) rfl e1 e2, t2, r2, p2.up (by omega)⟩
end Law
namespace Law
open PySem L2 Pl Pl.Ev
theorem refs_cons (base k : Nat) : refs base (k + 1) = .ref base :: refs (base + 1) k := by
  unfold refs
  rw [List.range_succ_eq_map, List.map_cons, List.map_map]
  congr 1
  refine List.map_congr_left fun n _ => ?_
  show D.ref (base + (n + 1)) = D.ref (base + 1 + n)
  congr 1
  omega
theorem flat_one (x : D) : ∀ m : Nat, (List.replicate m [x]).flatten = List.replicate m x
  | 0 => rfl
  | m + 1 => by rw [List.replicate_succ, List.flatten_cons, flat_one x m]; rfl
noncomputable def eRow : EF := eOp gMulN (eLst (aCons (eVar 4) aNil)) (eVar 2)
theorem row_new {W : Nat} {h : Int} {δ : Pl.Env} {M : Mh} (h4 : δ[4]? = some (some (.int h))) (h2 : δ[2]? = some (some (.int W))) (hW : W ≤ 50) : eRow δ M = some (.ref M.length, M ++ [MO.lst (List.replicate W (D.int h))]) := by
  refine op_of (x_eLst (cons_of (var_ h4) x_aNil) (by simp)) (var_ h2) ?_
  unfold gMulN lstT
  dsimp only
  rw [if_pos ⟨by omega, by omega, by
    show 1 * (W : Int).toNat ≤ sizeLine
    have : (50 : Nat) ≤ sizeLine := by decide
    omega⟩]
  rw [show ((W : Int).toNat) = W from Int.toNat_natCast W, flat_one]
theorem rows_new {W : Nat} {h : Int} (hW : W ≤ 50) : ∀ (A : List D) (δ : Pl.Env) (M : Mh), δ[4]? = some (some (.int h)) → δ[2]? = some (some (.int W)) → lcGo (gN 6) tTrue eRow A δ M = some (refs M.length A.length, M ++ List.replicate A.length (MO.lst (List.replicate W (D.int h))))
  | [], δ, M, _, _ => by rw [show List.replicate ([] : List D).length (MO.lst (List.replicate W (D.int h))) = [] from rfl, List.append_nil]; exact lcN_
  | d :: A, δ, M, h4, h2 => by
    have ih := rows_new hW A δ (M ++ [MO.lst (List.replicate W (D.int h))]) h4 h2
    rw [List.length_append, List.append_assoc] at ih
    rw [List.length_cons, refs_cons, List.replicate_succ]
    exact lcC_ (x := true) (M1 := M) (δ1 := δ.set 6 (some d)) rfl tt_ (lcY_ (row_new (by rw [List.getElem?_set_ne (by decide)]; exact h4) (by rw [List.getElem?_set_ne (by decide)]; exact h2) hW) ih)
theorem rw_new {W k : Nat} {h : Int} (M : Mh) (hh : 0 ≤ h) : Rw M.length k W h (M ++ List.replicate k (MO.lst (List.replicate W (D.int h)))) := fun b hb => by
  refine ⟨List.replicate W h, ⟨List.length_replicate, fun x hx => ?_⟩, ?_⟩
  · rw [List.eq_of_mem_replicate hx]; omega
  · rw [List.getElem?_append_right (by omega), List.map_replicate, List.getElem?_replicate, if_pos (by omega)]
/-- the rows, no longer changing -/
theorem rows_tup {W : Nat} {h : Int} : ∀ (k base : Nat) (δ : Pl.Env) (M : Mh), δ.length = 15 → Rw base k W h M → ∃ R : List (List Int), R.length = k ∧ (∀ r ∈ R, RwOk r W h) ∧ lcGo (gN 14) tTrue (eB gTupOf (aCons (eVar 14) aNil)) (refs base k) δ M = some (R.map fun r => D.tup (r.map D.int), M)
  | 0, base, δ, M, _, _ => ⟨[], rfl, fun _ h => (List.not_mem_nil h).elim, lcN_⟩
  | k + 1, base, δ, M, hl, r => by
    obtain ⟨l, o, e⟩ := r 0 (by omega)
    obtain ⟨R, h1, h2, h3⟩ := rows_tup k (base + 1) δ M hl (fun b hb => by
      have := r (b + 1) (by omega)
      rw [show base + 1 + b = base + (b + 1) by omega]
      exact this)
    refine ⟨l :: R, by rw [List.length_cons, h1], fun x hx => ?_, ?_⟩
    · rcases List.mem_cons.mp hx with rfl | hx
      · exact o
      · exact h2 x hx
    · rw [refs_cons, List.map_cons]
      refine lcC_ (x := true) (M1 := M) (δ1 := δ.set 14 (some (.ref base))) rfl tt_ (lcY_ ?_ h3)
      rw [x_eB, cons_of (var_ (d := .ref base) (by rw [List.getElem?_set_self (by omega)])) x_aNil]
      dsimp only
      unfold gTupOf
      dsimp only [lstOf]
      rw [show M[base]? = some (.lst (l.map D.int)) from e]
theorem afield_sp {Ts : Mh} {n : Nat} {B : Int} {M : Mh} (p : Bz Ts n B M) (hB : B < 2 ^ 54) : ∃ (h : Int) (R : List (List Int)) (W : Nat) (M' : Mh), ff_law_a_field [.ref n, .int 5] M = some (fldD h R, M') ∧ FldOk h R W ∧ Bz Ts n (B + 100) M' := by
  obtain ⟨w, M1, e1, b1, p1, _⟩ := dg1 (i := 0) (fm := eVar 1) (many := 5) (δ := [some (.ref n), some (.int 5), none, none, none, none, none, none, none, none, none, none, none, none, none]) rfl (var_ rfl) p (by omega) (by omega) (by omega)
  obtain ⟨k, M2, e2, b2, p2, _⟩ := dg1 (i := 0) (fm := eVar 1) (many := 5) (δ := [some (.ref n), some (.int 5), none, none, none, none, none, none, none, none, none, none, none, none, none]) rfl (var_ rfl) p1 (by omega) (by omega) (by omega)
  obtain ⟨h, M3, e3, b3, p3, _⟩ := dg1 (i := 0) (fm := eC (.int 6)) (many := 6) (δ := [some (.ref n), some (.int 5), none, none, none, none, none, none, none, none, none, none, none, none, none]) rfl x_eC p2 (by omega) (by omega) (by omega)
  obtain ⟨W, rfl⟩ := Int.eq_ofNat_of_zero_le (show 0 ≤ w by omega)
  obtain ⟨K, rfl⟩ := Int.eq_ofNat_of_zero_le (show 0 ≤ k by omega)
  have q1 := rows_new (W := W) (h := h) (by omega) (rng 0 (K : Nat)) [some (.ref n), some (.int 5), some (.int W), some (.int K), some (.int h), none, none, none, none, none, none, none, none, none, none] M3 rfl rfl
  have hlen : (rng 0 (K : Nat)).length = K := by simp [rng]
  rw [hlen] at q1
  have lt3 := p3.a.lt
  have r4 := rw_new (W := W) (k := K) (h := h) M3 (by omega)
  have p4 := p3.apps (List.replicate K (MO.lst (List.replicate W (D.int h))))
  revert q1 r4 p4
  generalize M3 ++ List.replicate K (MO.lst (List.replicate W (D.int h))) = M4
  intro q1 r4 p4
  have q1' : eLc [6] (aRng1 (aCons (eVar 3) aNil)) (gN 6) tTrue eRow [some (.ref n), some (.int 5), some (.int W), some (.int K), some (.int h), none, none, none, none, none, none, none, none, none, none] M3 = some (.lst (refs M3.length K), M4) :=
    lc_ (δ1 := [some (.ref n), some (.int 5), some (.int W), some (.int K), some (.int h), none, none, none, none, none, none, none, none, none, none]) (rng1_ (j := K) (cons_of rfl x_aNil) (by omega)) rfl q1 (by unfold refs; rw [List.length_map, List.length_range]; omega)
  obtain ⟨f, M5, e5, b5, p5, f5⟩ := dgB (i := 0) (fm := eC (.int 5)) (many := 5) (δ := [some (.ref n), some (.int 5), some (.int W), some (.int K), some (.int h), some (.lst (refs M3.length K)), none, none, none, none, none, none, none, none, none]) rfl x_eC p4 (by omega) (by omega) (by omega)
  have hfl : (rng 0 (f : Nat)).length = f := by simp [rng]
  obtain ⟨δ6, M6, e6, t6, r6, p6⟩ := turn_go (n := n) (base := M3.length) (k := K) (W := W) (h := h) (by omega) (by omega) (by omega) lt3 (rng 0 (f : Nat)) _ [some (.ref n), some (.int 5), some (.int W), some (.int K), some (.int h), some (.lst (refs M3.length K)), none, none, none, none, none, none, none, none, none] M5 ⟨rfl, rfl, rfl, rfl, rfl, rfl⟩ (r4.fr lt3 f5) p5 (by rw [hfl]; omega)
  rw [hfl] at p6
  obtain ⟨R, hR, ok, e7⟩ := rows_tup K M3.length (wipeD δ6 [14]) M6 (by simp [wipeD, t6.l]) r6
  refine ⟨h, R, W, M6, ?_, ⟨by omega, by omega, by omega, fun r hr => ok r hr⟩, p6.up (by omega)⟩
  refine fn_ (δ0 := [some (.ref n), some (.int 5), none, none, none, none, none, none, none, none, none, none, none, none, none]) rfl ?_
  refine seq_ (sas_ (tup_ (cons_of e1 (cons_of e2 (cons_of e3 x_aNil))) (by simp)) (δ' := [some (.ref n), some (.int 5), some (.int W), some (.int K), some (.int h), none, none, none, none, none, none, none, none, none, none]) rfl) ?_
  refine seq_ (sas_ q1' (δ' := [some (.ref n), some (.int 5), some (.int W), some (.int K), some (.int h), some (.lst (refs M3.length K)), none, none, none, none, none, none, none, none, none]) rfl) ?_
  refine seq_ (for_ (rng1_ (j := f) (cons_of e5 x_aNil) (by omega)) e6) ?_
  refine ret_ (tup_ (cons_of (var_ t6.g4) (cons_of (d := .tup (R.map fun r => .tup (r.map D.int))) (M1 := M6) ?_ x_aNil)) (by simp))
  have q7 : eLc [14] (aItems (eVar 5)) (gN 14) tTrue (eB gTupOf (aCons (eVar 14) aNil)) δ6 M6 = some (.lst (R.map fun r => D.tup (r.map D.int)), M6) := lc_ (δ1 := wipeD δ6 [14]) (by
    unfold aItems
    rw [var_ t6.g5]) rfl e7 (by rw [List.length_map]; omega)
  rw [x_eB, cons_of q7 x_aNil]
  rfl
end Law
namespace Law
open PySem L2 Pl Pl.Ev
theorem kinds_t {ct : CT} {t : Value → Option Bool} {a : Nat} {M : Mh} (is : (isal ct).map t = [some false, some false, some false, some false, some false, some false, some true, some false, some false, some false, some false, some false, some false, some false, some false, some false, some false, some false, some false, some false, some false, some false, some false, some true, some true, some false, some false, some false, some false, some false]) (ie : ∀ (d : D) (cv : Value) (b : Bool), clV d = some cv → t cv = some b → gIsiF ct.isa [.ref a, d] M = some (.bl b, M)) : ff_law_kinds ct [.ref a] M = some (.lst [.str "tools", .str "ours", .str "value"], M) := by
  unfold isal at is
  simp only [List.map_cons, List.map_nil, List.cons.injEq, and_true] at is
  obtain ⟨i1, i2, i3, i4, i5, i6, i7, i8, i9, i10, i11, i12, i13, i14, i15, i16, i17, i18, i19, i20, i21, i22, i23, i24, i25, i26, i27, i28, i29, i30⟩ := is
  have e1 : ∀ {δ : Pl.Env} {d : D} {cv : Value} {b : Bool}, δ[0]? = some (some (.ref a)) → clV d = some cv → t cv = some b → eB (gIsiF ct.isa) (aCons (eVar 0) (aCons (eC d) aNil)) δ M = some (.bl b, M) := fun {δ d cv b} h1 h2 h3 => by
    rw [x_eB, cons_of (d := .ref a) (M1 := M) (var_ h1) (cons_of (d := d) (M1 := M) x_eC x_aNil)]
    exact ie d cv b h2 h3
  have one : ∀ {δ : Pl.Env} {x : Str} {c1 : D} {v1 : Value} {b1 : Bool}, δ[0]? = some (some (.ref a)) → clV c1 = some v1 → t v1 = some b1 →
      eLst (aCons (eTup (aCons (eC (.str x)) (aCons (eB (gIsiF ct.isa) (aCons (eVar 0) (aCons (eC c1) aNil))) aNil))) aNil) δ M = some (.lst [.tup [.str x, .bl b1]], M) := fun h0 h1 h2 =>
    x_eLst (cons_of (x_eTup (cons_of x_eC (cons_of (e1 h0 h1 h2) x_aNil)) (by simp)) x_aNil) (by simp)
  have two : ∀ {δ : Pl.Env} {x y : Str} {c1 c2 : D} {v1 v2 : Value} {b1 b2 : Bool}, δ[0]? = some (some (.ref a)) → clV c1 = some v1 → t v1 = some b1 → clV c2 = some v2 → t v2 = some b2 →
      eLst (aCons (eTup (aCons (eC (.str x)) (aCons (eB (gIsiF ct.isa) (aCons (eVar 0) (aCons (eC c1) aNil))) aNil))) (aCons (eTup (aCons (eC (.str y)) (aCons (eB (gIsiF ct.isa) (aCons (eVar 0) (aCons (eC c2) aNil))) aNil))) aNil)) δ M = some (.lst [.tup [.str x, .bl b1], .tup [.str y, .bl b2]], M) := fun h0 h1 h2 h3 h4 =>
    x_eLst (cons_of (x_eTup (cons_of x_eC (cons_of (e1 h0 h1 h2) x_aNil)) (by simp)) (cons_of (x_eTup (cons_of x_eC (cons_of (e1 h0 h3 h4) x_aNil)) (by simp)) x_aNil)) (by simp)
  refine fn_ (δ0 := [some (.ref a), none, none, none]) rfl ?_
  unfold gg_law_kinds
  refine seq_as (M1 := M) (δ' := [some (.ref a), some (.lst [.tup [.str "row", .bl false], .tup [.str "sketch", .bl false]]), none, none]) (two rfl rfl i1 rfl i2) rfl ?_
  refine seq_as (M1 := M) (δ' := [some (.ref a), some (.lst [.tup [.str "row", .bl false], .tup [.str "sketch", .bl false], .tup [.str "block", .bl false], .tup [.str "outline", .bl false]]), none, none]) (op_of rfl (two rfl rfl i3 rfl i4) (app_l (by simp))) rfl ?_
  refine seq_as (M1 := M) (δ' := [some (.ref a), some (.lst [.tup [.str "row", .bl false], .tup [.str "sketch", .bl false], .tup [.str "block", .bl false], .tup [.str "outline", .bl false], .tup [.str "feature", .bl false], .tup [.str "field", .bl false]]), none, none]) (op_of rfl (two rfl rfl i5 rfl i6) (app_l (by simp))) rfl ?_
  refine seq_as (M1 := M) (δ' := [some (.ref a), some (.lst [.tup [.str "row", .bl false], .tup [.str "sketch", .bl false], .tup [.str "block", .bl false], .tup [.str "outline", .bl false], .tup [.str "feature", .bl false], .tup [.str "field", .bl false], .tup [.str "tools", .bl true], .tup [.str "way", .bl false]]), none, none]) (op_of rfl (two rfl rfl i7 rfl i8) (app_l (by simp))) rfl ?_
  refine seq_as (M1 := M) (δ' := [some (.ref a), some (.lst [.tup [.str "row", .bl false], .tup [.str "sketch", .bl false], .tup [.str "block", .bl false], .tup [.str "outline", .bl false], .tup [.str "feature", .bl false], .tup [.str "field", .bl false], .tup [.str "tools", .bl true], .tup [.str "way", .bl false], .tup [.str "paper", .bl false], .tup [.str "clash", .bl false]]), none, none]) (op_of rfl (two rfl rfl i9 rfl i10) (app_l (by simp))) rfl ?_
  refine seq_as (M1 := M) (δ' := [some (.ref a), some (.lst [.tup [.str "row", .bl false], .tup [.str "sketch", .bl false], .tup [.str "block", .bl false], .tup [.str "outline", .bl false], .tup [.str "feature", .bl false], .tup [.str "field", .bl false], .tup [.str "tools", .bl true], .tup [.str "way", .bl false], .tup [.str "paper", .bl false], .tup [.str "clash", .bl false], .tup [.str "twice", .bl false], .tup [.str "place", .bl false]]), none, none]) (op_of rfl (two rfl rfl i11 rfl i12) (app_l (by simp))) rfl ?_
  refine seq_as (M1 := M) (δ' := [some (.ref a), some (.lst [.tup [.str "row", .bl false], .tup [.str "sketch", .bl false], .tup [.str "block", .bl false], .tup [.str "outline", .bl false], .tup [.str "feature", .bl false], .tup [.str "field", .bl false], .tup [.str "tools", .bl true], .tup [.str "way", .bl false], .tup [.str "paper", .bl false], .tup [.str "clash", .bl false], .tup [.str "twice", .bl false], .tup [.str "place", .bl false], .tup [.str "great", .bl false], .tup [.str "point", .bl false]]), none, none]) (op_of rfl (two rfl rfl i13 rfl i14) (app_l (by simp))) rfl ?_
  refine seq_as (M1 := M) (δ' := [some (.ref a), some (.lst [.tup [.str "row", .bl false], .tup [.str "sketch", .bl false], .tup [.str "block", .bl false], .tup [.str "outline", .bl false], .tup [.str "feature", .bl false], .tup [.str "field", .bl false], .tup [.str "tools", .bl true], .tup [.str "way", .bl false], .tup [.str "paper", .bl false], .tup [.str "clash", .bl false], .tup [.str "twice", .bl false], .tup [.str "place", .bl false], .tup [.str "great", .bl false], .tup [.str "point", .bl false], .tup [.str "saying", .bl false], .tup [.str "none", .bl false]]), none, none]) (op_of rfl (two rfl rfl i15 rfl i16) (app_l (by simp))) rfl ?_
  refine seq_as (M1 := M) (δ' := [some (.ref a), some (.lst [.tup [.str "row", .bl false], .tup [.str "sketch", .bl false], .tup [.str "block", .bl false], .tup [.str "outline", .bl false], .tup [.str "feature", .bl false], .tup [.str "field", .bl false], .tup [.str "tools", .bl true], .tup [.str "way", .bl false], .tup [.str "paper", .bl false], .tup [.str "clash", .bl false], .tup [.str "twice", .bl false], .tup [.str "place", .bl false], .tup [.str "great", .bl false], .tup [.str "point", .bl false], .tup [.str "saying", .bl false], .tup [.str "none", .bl false], .tup [.str "nothing", .bl false], .tup [.str "no tool", .bl false]]), none, none]) (op_of rfl (two rfl rfl i17 rfl i18) (app_l (by simp))) rfl ?_
  refine seq_as (M1 := M) (δ' := [some (.ref a), some (.lst [.tup [.str "row", .bl false], .tup [.str "sketch", .bl false], .tup [.str "block", .bl false], .tup [.str "outline", .bl false], .tup [.str "feature", .bl false], .tup [.str "field", .bl false], .tup [.str "tools", .bl true], .tup [.str "way", .bl false], .tup [.str "paper", .bl false], .tup [.str "clash", .bl false], .tup [.str "twice", .bl false], .tup [.str "place", .bl false], .tup [.str "great", .bl false], .tup [.str "point", .bl false], .tup [.str "saying", .bl false], .tup [.str "none", .bl false], .tup [.str "nothing", .bl false], .tup [.str "no tool", .bl false], .tup [.str "lifted", .bl false], .tup [.str "lowered", .bl false]]), none, none]) (op_of rfl (two rfl rfl i19 rfl i20) (app_l (by simp))) rfl ?_
  refine seq_as (M1 := M) (δ' := [some (.ref a), some (.lst [.tup [.str "row", .bl false], .tup [.str "sketch", .bl false], .tup [.str "block", .bl false], .tup [.str "outline", .bl false], .tup [.str "feature", .bl false], .tup [.str "field", .bl false], .tup [.str "tools", .bl true], .tup [.str "way", .bl false], .tup [.str "paper", .bl false], .tup [.str "clash", .bl false], .tup [.str "twice", .bl false], .tup [.str "place", .bl false], .tup [.str "great", .bl false], .tup [.str "point", .bl false], .tup [.str "saying", .bl false], .tup [.str "none", .bl false], .tup [.str "nothing", .bl false], .tup [.str "no tool", .bl false], .tup [.str "lifted", .bl false], .tup [.str "lowered", .bl false], .tup [.str "beyond", .bl false], .tup [.str "blocked", .bl false]]), none, none]) (op_of rfl (two rfl rfl i21 rfl i22) (app_l (by simp))) rfl ?_
  refine seq_as (M1 := M) (δ' := [some (.ref a), some (.lst [.tup [.str "row", .bl false], .tup [.str "sketch", .bl false], .tup [.str "block", .bl false], .tup [.str "outline", .bl false], .tup [.str "feature", .bl false], .tup [.str "field", .bl false], .tup [.str "tools", .bl true], .tup [.str "way", .bl false], .tup [.str "paper", .bl false], .tup [.str "clash", .bl false], .tup [.str "twice", .bl false], .tup [.str "place", .bl false], .tup [.str "great", .bl false], .tup [.str "point", .bl false], .tup [.str "saying", .bl false], .tup [.str "none", .bl false], .tup [.str "nothing", .bl false], .tup [.str "no tool", .bl false], .tup [.str "lifted", .bl false], .tup [.str "lowered", .bl false], .tup [.str "beyond", .bl false], .tup [.str "blocked", .bl false], .tup [.str "deep", .bl false], .tup [.str "ours", .bl true]]), none, none]) (op_of rfl (two rfl rfl i23 rfl i24) (app_l (by simp))) rfl ?_
  refine seq_as (M1 := M) (δ' := [some (.ref a), some (.lst [.tup [.str "row", .bl false], .tup [.str "sketch", .bl false], .tup [.str "block", .bl false], .tup [.str "outline", .bl false], .tup [.str "feature", .bl false], .tup [.str "field", .bl false], .tup [.str "tools", .bl true], .tup [.str "way", .bl false], .tup [.str "paper", .bl false], .tup [.str "clash", .bl false], .tup [.str "twice", .bl false], .tup [.str "place", .bl false], .tup [.str "great", .bl false], .tup [.str "point", .bl false], .tup [.str "saying", .bl false], .tup [.str "none", .bl false], .tup [.str "nothing", .bl false], .tup [.str "no tool", .bl false], .tup [.str "lifted", .bl false], .tup [.str "lowered", .bl false], .tup [.str "beyond", .bl false], .tup [.str "blocked", .bl false], .tup [.str "deep", .bl false], .tup [.str "ours", .bl true], .tup [.str "value", .bl true], .tup [.str "miss", .bl false]]), none, none]) (op_of rfl (two rfl rfl i25 rfl i26) (app_l (by simp))) rfl ?_
  refine seq_as (M1 := M) (δ' := [some (.ref a), some (.lst [.tup [.str "row", .bl false], .tup [.str "sketch", .bl false], .tup [.str "block", .bl false], .tup [.str "outline", .bl false], .tup [.str "feature", .bl false], .tup [.str "field", .bl false], .tup [.str "tools", .bl true], .tup [.str "way", .bl false], .tup [.str "paper", .bl false], .tup [.str "clash", .bl false], .tup [.str "twice", .bl false], .tup [.str "place", .bl false], .tup [.str "great", .bl false], .tup [.str "point", .bl false], .tup [.str "saying", .bl false], .tup [.str "none", .bl false], .tup [.str "nothing", .bl false], .tup [.str "no tool", .bl false], .tup [.str "lifted", .bl false], .tup [.str "lowered", .bl false], .tup [.str "beyond", .bl false], .tup [.str "blocked", .bl false], .tup [.str "deep", .bl false], .tup [.str "ours", .bl true], .tup [.str "value", .bl true], .tup [.str "miss", .bl false], .tup [.str "lookup", .bl false], .tup [.str "fault", .bl false]]), none, none]) (op_of rfl (two rfl rfl i27 rfl i28) (app_l (by simp))) rfl ?_
  refine seq_as (M1 := M) (δ' := [some (.ref a), some (.lst [.tup [.str "row", .bl false], .tup [.str "sketch", .bl false], .tup [.str "block", .bl false], .tup [.str "outline", .bl false], .tup [.str "feature", .bl false], .tup [.str "field", .bl false], .tup [.str "tools", .bl true], .tup [.str "way", .bl false], .tup [.str "paper", .bl false], .tup [.str "clash", .bl false], .tup [.str "twice", .bl false], .tup [.str "place", .bl false], .tup [.str "great", .bl false], .tup [.str "point", .bl false], .tup [.str "saying", .bl false], .tup [.str "none", .bl false], .tup [.str "nothing", .bl false], .tup [.str "no tool", .bl false], .tup [.str "lifted", .bl false], .tup [.str "lowered", .bl false], .tup [.str "beyond", .bl false], .tup [.str "blocked", .bl false], .tup [.str "deep", .bl false], .tup [.str "ours", .bl true], .tup [.str "value", .bl true], .tup [.str "miss", .bl false], .tup [.str "lookup", .bl false], .tup [.str "fault", .bl false], .tup [.str "runtime", .bl false]]), none, none]) (op_of rfl (one rfl rfl i29) (app_l (by simp))) rfl ?_
  refine seq_as (M1 := M) (δ' := [some (.ref a), some (.lst [.tup [.str "no such tool", .bl false], .tup [.str "row", .bl false], .tup [.str "sketch", .bl false], .tup [.str "block", .bl false], .tup [.str "outline", .bl false], .tup [.str "feature", .bl false], .tup [.str "field", .bl false], .tup [.str "tools", .bl true], .tup [.str "way", .bl false], .tup [.str "paper", .bl false], .tup [.str "clash", .bl false], .tup [.str "twice", .bl false], .tup [.str "place", .bl false], .tup [.str "great", .bl false], .tup [.str "point", .bl false], .tup [.str "saying", .bl false], .tup [.str "none", .bl false], .tup [.str "nothing", .bl false], .tup [.str "no tool", .bl false], .tup [.str "lifted", .bl false], .tup [.str "lowered", .bl false], .tup [.str "beyond", .bl false], .tup [.str "blocked", .bl false], .tup [.str "deep", .bl false], .tup [.str "ours", .bl true], .tup [.str "value", .bl true], .tup [.str "miss", .bl false], .tup [.str "lookup", .bl false], .tup [.str "fault", .bl false], .tup [.str "runtime", .bl false]]), none, none]) (op_of (one rfl rfl i30) rfl (app_l (by simp))) rfl ?_
  refine ret_ (lc_ (ys := [.str "tools", .str "ours", .str "value"]) (itemsL_ rfl) rfl ?_ (by simp))
  rfl
theorem kinds_p {ct : CT} {t : Value → Option Bool} {a : Nat} {M : Mh} (is : (isal ct).map t = [some false, some false, some false, some false, some false, some false, some false, some false, some false, some false, some false, some true, some false, some false, some false, some false, some false, some false, some false, some false, some false, some false, some false, some true, some true, some false, some false, some false, some false, some false]) (ie : ∀ (d : D) (cv : Value) (b : Bool), clV d = some cv → t cv = some b → gIsiF ct.isa [.ref a, d] M = some (.bl b, M)) : ff_law_kinds ct [.ref a] M = some (.lst [.str "place", .str "ours", .str "value"], M) := by
  unfold isal at is
  simp only [List.map_cons, List.map_nil, List.cons.injEq, and_true] at is
  obtain ⟨i1, i2, i3, i4, i5, i6, i7, i8, i9, i10, i11, i12, i13, i14, i15, i16, i17, i18, i19, i20, i21, i22, i23, i24, i25, i26, i27, i28, i29, i30⟩ := is
  have e1 : ∀ {δ : Pl.Env} {d : D} {cv : Value} {b : Bool}, δ[0]? = some (some (.ref a)) → clV d = some cv → t cv = some b → eB (gIsiF ct.isa) (aCons (eVar 0) (aCons (eC d) aNil)) δ M = some (.bl b, M) := fun {δ d cv b} h1 h2 h3 => by
    rw [x_eB, cons_of (d := .ref a) (M1 := M) (var_ h1) (cons_of (d := d) (M1 := M) x_eC x_aNil)]
    exact ie d cv b h2 h3
  have one : ∀ {δ : Pl.Env} {x : Str} {c1 : D} {v1 : Value} {b1 : Bool}, δ[0]? = some (some (.ref a)) → clV c1 = some v1 → t v1 = some b1 →
      eLst (aCons (eTup (aCons (eC (.str x)) (aCons (eB (gIsiF ct.isa) (aCons (eVar 0) (aCons (eC c1) aNil))) aNil))) aNil) δ M = some (.lst [.tup [.str x, .bl b1]], M) := fun h0 h1 h2 =>
    x_eLst (cons_of (x_eTup (cons_of x_eC (cons_of (e1 h0 h1 h2) x_aNil)) (by simp)) x_aNil) (by simp)
  have two : ∀ {δ : Pl.Env} {x y : Str} {c1 c2 : D} {v1 v2 : Value} {b1 b2 : Bool}, δ[0]? = some (some (.ref a)) → clV c1 = some v1 → t v1 = some b1 → clV c2 = some v2 → t v2 = some b2 →
      eLst (aCons (eTup (aCons (eC (.str x)) (aCons (eB (gIsiF ct.isa) (aCons (eVar 0) (aCons (eC c1) aNil))) aNil))) (aCons (eTup (aCons (eC (.str y)) (aCons (eB (gIsiF ct.isa) (aCons (eVar 0) (aCons (eC c2) aNil))) aNil))) aNil)) δ M = some (.lst [.tup [.str x, .bl b1], .tup [.str y, .bl b2]], M) := fun h0 h1 h2 h3 h4 =>
    x_eLst (cons_of (x_eTup (cons_of x_eC (cons_of (e1 h0 h1 h2) x_aNil)) (by simp)) (cons_of (x_eTup (cons_of x_eC (cons_of (e1 h0 h3 h4) x_aNil)) (by simp)) x_aNil)) (by simp)
  refine fn_ (δ0 := [some (.ref a), none, none, none]) rfl ?_
  unfold gg_law_kinds
  refine seq_as (M1 := M) (δ' := [some (.ref a), some (.lst [.tup [.str "row", .bl false], .tup [.str "sketch", .bl false]]), none, none]) (two rfl rfl i1 rfl i2) rfl ?_
  refine seq_as (M1 := M) (δ' := [some (.ref a), some (.lst [.tup [.str "row", .bl false], .tup [.str "sketch", .bl false], .tup [.str "block", .bl false], .tup [.str "outline", .bl false]]), none, none]) (op_of rfl (two rfl rfl i3 rfl i4) (app_l (by simp))) rfl ?_
  refine seq_as (M1 := M) (δ' := [some (.ref a), some (.lst [.tup [.str "row", .bl false], .tup [.str "sketch", .bl false], .tup [.str "block", .bl false], .tup [.str "outline", .bl false], .tup [.str "feature", .bl false], .tup [.str "field", .bl false]]), none, none]) (op_of rfl (two rfl rfl i5 rfl i6) (app_l (by simp))) rfl ?_
  refine seq_as (M1 := M) (δ' := [some (.ref a), some (.lst [.tup [.str "row", .bl false], .tup [.str "sketch", .bl false], .tup [.str "block", .bl false], .tup [.str "outline", .bl false], .tup [.str "feature", .bl false], .tup [.str "field", .bl false], .tup [.str "tools", .bl false], .tup [.str "way", .bl false]]), none, none]) (op_of rfl (two rfl rfl i7 rfl i8) (app_l (by simp))) rfl ?_
  refine seq_as (M1 := M) (δ' := [some (.ref a), some (.lst [.tup [.str "row", .bl false], .tup [.str "sketch", .bl false], .tup [.str "block", .bl false], .tup [.str "outline", .bl false], .tup [.str "feature", .bl false], .tup [.str "field", .bl false], .tup [.str "tools", .bl false], .tup [.str "way", .bl false], .tup [.str "paper", .bl false], .tup [.str "clash", .bl false]]), none, none]) (op_of rfl (two rfl rfl i9 rfl i10) (app_l (by simp))) rfl ?_
  refine seq_as (M1 := M) (δ' := [some (.ref a), some (.lst [.tup [.str "row", .bl false], .tup [.str "sketch", .bl false], .tup [.str "block", .bl false], .tup [.str "outline", .bl false], .tup [.str "feature", .bl false], .tup [.str "field", .bl false], .tup [.str "tools", .bl false], .tup [.str "way", .bl false], .tup [.str "paper", .bl false], .tup [.str "clash", .bl false], .tup [.str "twice", .bl false], .tup [.str "place", .bl true]]), none, none]) (op_of rfl (two rfl rfl i11 rfl i12) (app_l (by simp))) rfl ?_
  refine seq_as (M1 := M) (δ' := [some (.ref a), some (.lst [.tup [.str "row", .bl false], .tup [.str "sketch", .bl false], .tup [.str "block", .bl false], .tup [.str "outline", .bl false], .tup [.str "feature", .bl false], .tup [.str "field", .bl false], .tup [.str "tools", .bl false], .tup [.str "way", .bl false], .tup [.str "paper", .bl false], .tup [.str "clash", .bl false], .tup [.str "twice", .bl false], .tup [.str "place", .bl true], .tup [.str "great", .bl false], .tup [.str "point", .bl false]]), none, none]) (op_of rfl (two rfl rfl i13 rfl i14) (app_l (by simp))) rfl ?_
  refine seq_as (M1 := M) (δ' := [some (.ref a), some (.lst [.tup [.str "row", .bl false], .tup [.str "sketch", .bl false], .tup [.str "block", .bl false], .tup [.str "outline", .bl false], .tup [.str "feature", .bl false], .tup [.str "field", .bl false], .tup [.str "tools", .bl false], .tup [.str "way", .bl false], .tup [.str "paper", .bl false], .tup [.str "clash", .bl false], .tup [.str "twice", .bl false], .tup [.str "place", .bl true], .tup [.str "great", .bl false], .tup [.str "point", .bl false], .tup [.str "saying", .bl false], .tup [.str "none", .bl false]]), none, none]) (op_of rfl (two rfl rfl i15 rfl i16) (app_l (by simp))) rfl ?_
  refine seq_as (M1 := M) (δ' := [some (.ref a), some (.lst [.tup [.str "row", .bl false], .tup [.str "sketch", .bl false], .tup [.str "block", .bl false], .tup [.str "outline", .bl false], .tup [.str "feature", .bl false], .tup [.str "field", .bl false], .tup [.str "tools", .bl false], .tup [.str "way", .bl false], .tup [.str "paper", .bl false], .tup [.str "clash", .bl false], .tup [.str "twice", .bl false], .tup [.str "place", .bl true], .tup [.str "great", .bl false], .tup [.str "point", .bl false], .tup [.str "saying", .bl false], .tup [.str "none", .bl false], .tup [.str "nothing", .bl false], .tup [.str "no tool", .bl false]]), none, none]) (op_of rfl (two rfl rfl i17 rfl i18) (app_l (by simp))) rfl ?_
  refine seq_as (M1 := M) (δ' := [some (.ref a), some (.lst [.tup [.str "row", .bl false], .tup [.str "sketch", .bl false], .tup [.str "block", .bl false], .tup [.str "outline", .bl false], .tup [.str "feature", .bl false], .tup [.str "field", .bl false], .tup [.str "tools", .bl false], .tup [.str "way", .bl false], .tup [.str "paper", .bl false], .tup [.str "clash", .bl false], .tup [.str "twice", .bl false], .tup [.str "place", .bl true], .tup [.str "great", .bl false], .tup [.str "point", .bl false], .tup [.str "saying", .bl false], .tup [.str "none", .bl false], .tup [.str "nothing", .bl false], .tup [.str "no tool", .bl false], .tup [.str "lifted", .bl false], .tup [.str "lowered", .bl false]]), none, none]) (op_of rfl (two rfl rfl i19 rfl i20) (app_l (by simp))) rfl ?_
  refine seq_as (M1 := M) (δ' := [some (.ref a), some (.lst [.tup [.str "row", .bl false], .tup [.str "sketch", .bl false], .tup [.str "block", .bl false], .tup [.str "outline", .bl false], .tup [.str "feature", .bl false], .tup [.str "field", .bl false], .tup [.str "tools", .bl false], .tup [.str "way", .bl false], .tup [.str "paper", .bl false], .tup [.str "clash", .bl false], .tup [.str "twice", .bl false], .tup [.str "place", .bl true], .tup [.str "great", .bl false], .tup [.str "point", .bl false], .tup [.str "saying", .bl false], .tup [.str "none", .bl false], .tup [.str "nothing", .bl false], .tup [.str "no tool", .bl false], .tup [.str "lifted", .bl false], .tup [.str "lowered", .bl false], .tup [.str "beyond", .bl false], .tup [.str "blocked", .bl false]]), none, none]) (op_of rfl (two rfl rfl i21 rfl i22) (app_l (by simp))) rfl ?_
  refine seq_as (M1 := M) (δ' := [some (.ref a), some (.lst [.tup [.str "row", .bl false], .tup [.str "sketch", .bl false], .tup [.str "block", .bl false], .tup [.str "outline", .bl false], .tup [.str "feature", .bl false], .tup [.str "field", .bl false], .tup [.str "tools", .bl false], .tup [.str "way", .bl false], .tup [.str "paper", .bl false], .tup [.str "clash", .bl false], .tup [.str "twice", .bl false], .tup [.str "place", .bl true], .tup [.str "great", .bl false], .tup [.str "point", .bl false], .tup [.str "saying", .bl false], .tup [.str "none", .bl false], .tup [.str "nothing", .bl false], .tup [.str "no tool", .bl false], .tup [.str "lifted", .bl false], .tup [.str "lowered", .bl false], .tup [.str "beyond", .bl false], .tup [.str "blocked", .bl false], .tup [.str "deep", .bl false], .tup [.str "ours", .bl true]]), none, none]) (op_of rfl (two rfl rfl i23 rfl i24) (app_l (by simp))) rfl ?_
  refine seq_as (M1 := M) (δ' := [some (.ref a), some (.lst [.tup [.str "row", .bl false], .tup [.str "sketch", .bl false], .tup [.str "block", .bl false], .tup [.str "outline", .bl false], .tup [.str "feature", .bl false], .tup [.str "field", .bl false], .tup [.str "tools", .bl false], .tup [.str "way", .bl false], .tup [.str "paper", .bl false], .tup [.str "clash", .bl false], .tup [.str "twice", .bl false], .tup [.str "place", .bl true], .tup [.str "great", .bl false], .tup [.str "point", .bl false], .tup [.str "saying", .bl false], .tup [.str "none", .bl false], .tup [.str "nothing", .bl false], .tup [.str "no tool", .bl false], .tup [.str "lifted", .bl false], .tup [.str "lowered", .bl false], .tup [.str "beyond", .bl false], .tup [.str "blocked", .bl false], .tup [.str "deep", .bl false], .tup [.str "ours", .bl true], .tup [.str "value", .bl true], .tup [.str "miss", .bl false]]), none, none]) (op_of rfl (two rfl rfl i25 rfl i26) (app_l (by simp))) rfl ?_
  refine seq_as (M1 := M) (δ' := [some (.ref a), some (.lst [.tup [.str "row", .bl false], .tup [.str "sketch", .bl false], .tup [.str "block", .bl false], .tup [.str "outline", .bl false], .tup [.str "feature", .bl false], .tup [.str "field", .bl false], .tup [.str "tools", .bl false], .tup [.str "way", .bl false], .tup [.str "paper", .bl false], .tup [.str "clash", .bl false], .tup [.str "twice", .bl false], .tup [.str "place", .bl true], .tup [.str "great", .bl false], .tup [.str "point", .bl false], .tup [.str "saying", .bl false], .tup [.str "none", .bl false], .tup [.str "nothing", .bl false], .tup [.str "no tool", .bl false], .tup [.str "lifted", .bl false], .tup [.str "lowered", .bl false], .tup [.str "beyond", .bl false], .tup [.str "blocked", .bl false], .tup [.str "deep", .bl false], .tup [.str "ours", .bl true], .tup [.str "value", .bl true], .tup [.str "miss", .bl false], .tup [.str "lookup", .bl false], .tup [.str "fault", .bl false]]), none, none]) (op_of rfl (two rfl rfl i27 rfl i28) (app_l (by simp))) rfl ?_
  refine seq_as (M1 := M) (δ' := [some (.ref a), some (.lst [.tup [.str "row", .bl false], .tup [.str "sketch", .bl false], .tup [.str "block", .bl false], .tup [.str "outline", .bl false], .tup [.str "feature", .bl false], .tup [.str "field", .bl false], .tup [.str "tools", .bl false], .tup [.str "way", .bl false], .tup [.str "paper", .bl false], .tup [.str "clash", .bl false], .tup [.str "twice", .bl false], .tup [.str "place", .bl true], .tup [.str "great", .bl false], .tup [.str "point", .bl false], .tup [.str "saying", .bl false], .tup [.str "none", .bl false], .tup [.str "nothing", .bl false], .tup [.str "no tool", .bl false], .tup [.str "lifted", .bl false], .tup [.str "lowered", .bl false], .tup [.str "beyond", .bl false], .tup [.str "blocked", .bl false], .tup [.str "deep", .bl false], .tup [.str "ours", .bl true], .tup [.str "value", .bl true], .tup [.str "miss", .bl false], .tup [.str "lookup", .bl false], .tup [.str "fault", .bl false], .tup [.str "runtime", .bl false]]), none, none]) (op_of rfl (one rfl rfl i29) (app_l (by simp))) rfl ?_
  refine seq_as (M1 := M) (δ' := [some (.ref a), some (.lst [.tup [.str "no such tool", .bl false], .tup [.str "row", .bl false], .tup [.str "sketch", .bl false], .tup [.str "block", .bl false], .tup [.str "outline", .bl false], .tup [.str "feature", .bl false], .tup [.str "field", .bl false], .tup [.str "tools", .bl false], .tup [.str "way", .bl false], .tup [.str "paper", .bl false], .tup [.str "clash", .bl false], .tup [.str "twice", .bl false], .tup [.str "place", .bl true], .tup [.str "great", .bl false], .tup [.str "point", .bl false], .tup [.str "saying", .bl false], .tup [.str "none", .bl false], .tup [.str "nothing", .bl false], .tup [.str "no tool", .bl false], .tup [.str "lifted", .bl false], .tup [.str "lowered", .bl false], .tup [.str "beyond", .bl false], .tup [.str "blocked", .bl false], .tup [.str "deep", .bl false], .tup [.str "ours", .bl true], .tup [.str "value", .bl true], .tup [.str "miss", .bl false], .tup [.str "lookup", .bl false], .tup [.str "fault", .bl false], .tup [.str "runtime", .bl false]]), none, none]) (op_of (one rfl rfl i30) rfl (app_l (by simp))) rfl ?_
  refine ret_ (lc_ (ys := [.str "place", .str "ours", .str "value"]) (itemsL_ rfl) rfl ?_ (by simp))
  rfl
/-- kept with its dict -/
theorem isi_f {ct : CT} {a m : Nat} {C : Addr} {fs : List (Str × D)} {M : Mh} (g1 : M[a]? = some (.exf C m)) (g0 : M[m]? = some (.exg fs)) (d : D) (cv : Value) (b : Bool) (h2 : clV d = some cv) (h3 : ct.isa C cv = some b) : gIsiF ct.isa [.ref a, d] M = some (.bl b, M) := by
  unfold gIsiF
  dsimp only
  rw [g1, h2]
  dsimp only
  rw [g0]
  dsimp only
  rw [h3]
/-- kept without -/
theorem isi_e {ct : CT} {a : Nat} {C : Addr} {M : Mh} (g1 : M[a]? = some (.exc C)) (d : D) (cv : Value) (b : Bool) (h2 : clV d = some cv) (h3 : ct.isa C cv = some b) : gIsiF ct.isa [.ref a, d] M = some (.bl b, M) := by
  unfold gIsiF
  dsimp only
  rw [g1, h2]
  dsimp only
  unfold gIsiE
  dsimp only
  rw [g1, h2]
  dsimp only
  rw [h3]
theorem kinds_tools {ct : CT} (I : Isa ct) {a m : Nat} {fs : List (Str × D)} {M : Mh} (g1 : M[a]? = some (.exf ct.BadTools m)) (g0 : M[m]? = some (.exg fs)) : ff_law_kinds ct [.ref a] M = some (.lst [.str "tools", .str "ours", .str "value"], M) := kinds_t I.l_BadTools (isi_f g1 g0)
theorem kinds_place {ct : CT} (I : Isa ct) {a : Nat} {M : Mh} (g1 : M[a]? = some (.exc ct.OutOfPlace)) : ff_law_kinds ct [.ref a] M = some (.lst [.str "place", .str "ours", .str "value"], M) := kinds_p I.l_OutOfPlace (isi_e g1)
end Law
namespace Law
open PySem L2 Pl Pl.Ev
theorem caught_ep {ct : CT} {f c : Addr} {q : Str} {vs : List V} {ds : List D} {dm : DM} {M M1 : Mh} (h : dm M = some (.ep "OutOfPlace" M1)) : fnF 3 (lg_law_caught ct f c q vs ds dm) [.lam f c q vs ds] M = some (.ref M1.length, M1 ++ [.exc ct.OutOfPlace]) := by
  refine fn_rt ?_
  show lg_law_caught ct f c q vs ds dm [some (.lam f c q vs ds), none, none] M = _
  unfold lg_law_caught
  refine seq_as (M1 := M) (δ' := [some (.lam f c q vs ds), some .non, none]) x_eC rfl ?_
  refine seq_nx (δ' := [some (.lam f c q vs ds), some (.ref M1.length), none]) (M1 := M1 ++ [.exc ct.OutOfPlace]) ?_ (ret_of rfl)
  unfold sTryB
  have qd : qE (qDeed f c q vs ds dm) [some (.lam f c q vs ds), some .non, none] M = some (.ep "OutOfPlace" [some (.lam f c q vs ds), some .non, none] M1) := by
    have qd0 : qDeed f c q vs ds dm [some (.lam f c q vs ds), some .non, none] M = dm M := by
      unfold qDeed
      exact if_pos rfl
    unfold qE
    rw [qd0, h]
  rw [qd]
  dsimp only
  rw [if_neg (by decide), if_neg (by decide), if_pos rfl]
  dsimp only
  have e1 : sAs (eVar 2) (gN 1) (([some (.lam f c q vs ds), some .non, none] : Pl.Env).set 2 (some (.ref M1.length))) (M1 ++ [.dead]) = some (.nx [some (.lam f c q vs ds), some (.ref M1.length), some (.ref M1.length)] (M1 ++ [.dead])) := as_of rfl rfl
  rw [e1]
  unfold kpO kp
  dsimp only
  rw [at_end]
  dsimp only
  rw [set_end]
  rfl
theorem caught_ex {ct : CT} {f c : Addr} {q : Str} {vs : List V} {ds : List D} {dm : DM} {fs : List (Str × D)} {M M1 : Mh} (h : dm M = some (.ex "BadTools" fs M1)) : fnF 3 (lg_law_caught ct f c q vs ds dm) [.lam f c q vs ds] M = some (.ref (M1.length + 1), M1 ++ [.exg fs, .exf ct.BadTools M1.length]) := by
  refine fn_rt ?_
  show lg_law_caught ct f c q vs ds dm [some (.lam f c q vs ds), none, none] M = _
  unfold lg_law_caught
  refine seq_as (M1 := M) (δ' := [some (.lam f c q vs ds), some .non, none]) x_eC rfl ?_
  refine seq_nx (δ' := [some (.lam f c q vs ds), some (.ref (M1.length + 1)), none]) (M1 := M1 ++ [.exg fs, .exf ct.BadTools M1.length]) ?_ (ret_of rfl)
  unfold sTryB
  have qd : qE (qDeed f c q vs ds dm) [some (.lam f c q vs ds), some .non, none] M = some (.ex "BadTools" fs [some (.lam f c q vs ds), some .non, none] M1) := by
    have qd0 : qDeed f c q vs ds dm [some (.lam f c q vs ds), some .non, none] M = dm M := by
      unfold qDeed
      exact if_pos rfl
    unfold qE
    rw [qd0, h]
  rw [qd]
  dsimp only
  rw [if_neg (by decide), if_pos rfl]
  dsimp only
  have e1 : sAs (eVar 2) (gN 1) (([some (.lam f c q vs ds), some .non, none] : Pl.Env).set 2 (some (.ref (M1 ++ [MO.exg fs]).length))) ((M1 ++ [.exg fs]) ++ [.dead]) = some (.nx [some (.lam f c q vs ds), some (.ref (M1.length + 1)), some (.ref (M1.length + 1))] ((M1 ++ [.exg fs]) ++ [.dead])) := by
    rw [show (M1 ++ [MO.exg fs]).length = M1.length + 1 by simp]
    exact as_of rfl rfl
  rw [e1]
  unfold kpOD kpD
  dsimp only
  rw [at_end]
  dsimp only
  rw [set_end]
  simp
theorem lam_ep {ct : CT} {m0 : Nat} {P : Addr} {q : Str} {is : List Nat} {fb : EXQ} {δ : Pl.Env} {ds : List D} {M M1 : Mh} (hM : M[m0]? = some (.tab P q)) (hc : capGet δ is = some ds) (h : fb (capEnv δ.length is ds) M = some (.ep "OutOfPlace" M1)) : eLam m0 P q 3 (lg_law_caught ct) is fb δ M = some (.ref M1.length, M1 ++ [.exc ct.OutOfPlace]) :=
  eLam_of hM hc fun f c vs => caught_ep h
theorem lam_ex {ct : CT} {m0 : Nat} {P : Addr} {q : Str} {is : List Nat} {fb : EXQ} {δ : Pl.Env} {ds : List D} {fs : List (Str × D)} {M M1 : Mh} (hM : M[m0]? = some (.tab P q)) (hc : capGet δ is = some ds) (h : fb (capEnv δ.length is ds) M = some (.ex "BadTools" fs M1)) : eLam m0 P q 3 (lg_law_caught ct) is fb δ M = some (.ref (M1.length + 1), M1 ++ [.exg fs, .exf ct.BadTools M1.length]) :=
  eLam_of hM hc fun f c vs => caught_ex h
def badN (w : D) : List (Str × D) := [("number", w)]
theorem initT_sp {ct : CT} (hI : Isa ct) (w : D) (M : Mh) : ff_BadTools_init ct [.ref M.length, w] (M ++ [MO.exo ct.BadTools none]) = some (.non, M ++ [MO.exo ct.BadTools (some (M.length + 1)), .exd (badN w)]) := by
  refine fnN_ (δ' := [some (.ref M.length), some w]) ?_
  show gg_BadTools_init ct [some (.ref M.length), some w] _ = _
  unfold gg_BadTools_init
  unfold sOg
  rw [show eVar 1 [some (D.ref M.length), some w] (M ++ [MO.exo ct.BadTools none]) = some (w, M ++ [MO.exo ct.BadTools none]) from rfl]
  dsimp only
  rw [show eVar 0 [some (D.ref M.length), some w] (M ++ [MO.exo ct.BadTools none]) = some (.ref M.length, M ++ [MO.exo ct.BadTools none]) from rfl]
  dsimp only
  rw [at_end]
  dsimp only
  rw [if_pos hI.f_BadTools_number]
  rw [List.append_assoc, List.set_append_right _ _ (Nat.le_refl _)]
  simp [badN]
theorem raiseT_sp {ct : CT} (hI : Isa ct) {g : AF} {δ : Pl.Env} {M M1 : Mh} {w : D} (h : g δ M = some ([w], M1)) : qRaise ct.BadTools "BadTools" (ff_BadTools_init ct) g [] δ M = some (.ex "BadTools" (badN w) δ (M1 ++ [.dead, .dead])) := by
  unfold qRaise
  rw [h]
  dsimp only
  rw [show (D.ref M1.length :: ([w] ++ ([] : List D))) = [.ref M1.length, w] from rfl, initT_sp hI]
  dsimp only
  have g0 : (M1 ++ [MO.exo ct.BadTools (some (M1.length + 1)), .exd (badN w)])[M1.length]? = some (.exo ct.BadTools (some (M1.length + 1))) := by simp
  have g1 : (M1 ++ [MO.exo ct.BadTools (some (M1.length + 1)), .exd (badN w)])[M1.length + 1]? = some (.exd (badN w)) := by simp
  rw [g0]
  dsimp only
  rw [if_pos ⟨rfl, by omega⟩, g1]
  dsimp only
  rw [List.set_append_right _ _ (Nat.le_refl _), Nat.sub_self, List.set_cons_zero, List.set_append_right _ _ (by omega), Nat.add_sub_cancel_left]
  rfl
theorem q_if1 {t : TF} {f g : XFQ} {δ : Pl.Env} {M M1 : Mh} {r : Option XOQ} (h : t δ M = some (true, M1)) (k : f δ M1 = r) : qIf t f g δ M = r := by
  unfold qIf
  rw [h]
  exact k
theorem q_if0 {t : TF} {f g : XFQ} {δ : Pl.Env} {M M1 : Mh} {r : Option XOQ} (h : t δ M = some (false, M1)) (k : g δ M1 = r) : qIf t f g δ M = r := by
  unfold qIf
  rw [h]
  exact k
theorem q_seq {f g : XFQ} {δ δ' : Pl.Env} {M M1 : Mh} {r : Option XOQ} (h : f δ M = some (.ok (.nx δ' M1))) (k : g δ' M1 = r) : qSeq f g δ M = r := by
  unfold qSeq
  rw [h]
  exact k
theorem q_seqX {f g : XFQ} {δ δ' : Pl.Env} {M M1 : Mh} {y : Str} {fs : List (Str × D)} (h : f δ M = some (.ex y fs δ' M1)) : qSeq f g δ M = some (.ex y fs δ' M1) := by
  unfold qSeq
  rw [h]
theorem q_seqP {f g : XFQ} {δ δ' : Pl.Env} {M M1 : Mh} {y : Str} (h : f δ M = some (.ep y δ' M1)) : qSeq f g δ M = some (.ep y δ' M1) := by
  unfold qSeq
  rw [h]
theorem q_ok {f : SF} {δ : Pl.Env} {M : Mh} {o : Out} (h : f δ M = some o) : qOk f δ M = some (.ok o) := by
  unfold qOk
  rw [h]
theorem q_call {F : FnQ} {g : AF} {δ : Pl.Env} {M M1 : Mh} {ds : List D} {r : Option EOQ} (h : g δ M = some (ds, M1)) (k : F ds M1 = r) : qCall F g [] δ M = r := by
  unfold qCall
  rw [h]
  dsimp only
  rw [List.append_nil]
  exact k
theorem q_eV {f : EXQ} {δ : Pl.Env} {M M1 : Mh} {d : D} (h : f δ M = some (.v d M1)) : qE f δ M = some (.ok (.nx δ M1)) := by
  unfold qE
  rw [h]
theorem q_eX {f : EXQ} {δ : Pl.Env} {M M1 : Mh} {y : Str} {fs : List (Str × D)} (h : f δ M = some (.ex y fs M1)) : qE f δ M = some (.ex y fs δ M1) := by
  unfold qE
  rw [h]
theorem q_eP {f : EXQ} {δ : Pl.Env} {M M1 : Mh} {y : Str} (h : f δ M = some (.ep y M1)) : qE f δ M = some (.ep y δ M1) := by
  unfold qE
  rw [h]
theorem fq_X {n : Nat} {g : XFQ} {ds : List D} {δ : Pl.Env} {M M1 : Mh} {y : Str} {fs : List (Str × D)} (h : g (startD n ds) M = some (.ex y fs δ M1)) : fnQ n g ds M = some (.ex y fs M1) := by
  unfold fnQ
  rw [h]
theorem fq_P {n : Nat} {g : XFQ} {ds : List D} {δ : Pl.Env} {M M1 : Mh} {y : Str} (h : g (startD n ds) M = some (.ep y δ M1)) : fnQ n g ds M = some (.ep y M1) := by
  unfold fnQ
  rw [h]
theorem fq_N {n : Nat} {g : XFQ} {ds : List D} {δ : Pl.Env} {M M1 : Mh} (h : g (startD n ds) M = some (.ok (.nx δ M1))) : fnQ n g ds M = some (.v .non M1) := by
  unfold fnQ
  rw [h]
theorem q_nil {δ : Pl.Env} {M : Mh} : qOk sNil δ M = some (.ok (.nx δ M)) := by
  unfold qOk
  rw [snil_]
theorem tool_bad {ct : CT} (I : Isa ct) {d : D} {M : Mh} (h : ff_is_tool [d] M = some (.bl false, M)) : qq_need_tool ct [d] M = some (.ex "BadTools" (badN .non) (M ++ [.dead, .dead])) := by
  have t1 : tNt (tV (eCall ff_is_tool (aCons (eVar 0) aNil) [])) [some d] M = some (true, M) := tnt_ (v_bl (call_of (ds := [d]) (cons_of rfl x_aNil) h))
  refine fq_X (δ := [some d]) ?_
  show qg_need_tool ct [some d] M = _
  exact q_if1 t1 (raiseT_sp I (w := .non) (cons_of x_eC x_aNil))
theorem tool_good {ct : CT} {d : D} {M : Mh} (h : ff_is_tool [d] M = some (.bl true, M)) : qq_need_tool ct [d] M = some (.v .non M) := by
  have t1 : tNt (tV (eCall ff_is_tool (aCons (eVar 0) aNil) [])) [some d] M = some (false, M) := tnt_ (v_bl (call_of (ds := [d]) (cons_of rfl x_aNil) h))
  refine fq_N (δ := [some d]) ?_
  show qg_need_tool ct [some d] M = _
  exact q_if0 t1 q_nil
theorem place_bad {ct : CT} {a b d : D} {M : Mh} (h : ff_is_place_of [a, b, d] M = some (.bl false, M)) : qq_need_place ct [a, b, d] M = some (.ep "OutOfPlace" M) := by
  have t1 : tNt (tV (eCall ff_is_place_of (aCons (eVar 0) (aCons (eVar 1) (aCons (eVar 2) aNil))) [])) [some a, some b, some d] M = some (true, M) := tnt_ (v_bl (call_of (ds := [a, b, d]) (cons_of rfl (cons_of rfl (cons_of rfl x_aNil))) h))
  refine fq_P (δ := [some a, some b, some d]) ?_
  show qg_need_place ct [some a, some b, some d] M = _
  exact q_if1 t1 rfl
theorem rowsQ_good {h : Int} {R : List (List Int)} {W : Nat} {f1 f2 : XFQ} (ok : FldOk h R W) (a : Option D) (M : Mh) : ∀ (S : List (List Int)) (j : Nat) (x y z : Option D), (∀ r ∈ S, r ∈ R) → ∃ x' y' z', forGoQ (gTp (gsCons (gN 3) (gsCons (gN 4) gsNil))) (qSeq (qIf (tOrr (tNt (tV (eB gIsi (aCons (eVar 4) (aCons (eC (.ty "tuple")) aNil))))) (tOrr (tNt (tV (eChain (gInt fun i j => .bl (decide (i ≤ j))) (gInt fun i j => .bl (decide (i ≤ j))) (eC (.int 1)) (eB gLen (aCons (eVar 4) aNil)) (eC (.int 8))))) (tV (eOp (gEq fun p q => !PyData.eqv p q) (eB gLen (aCons (eVar 4) aNil)) (eB gLen (aCons (eOp gIx (eVar 2) (eC (.int 0))) aNil)))))) f1 (qOk sNil)) (qIf (tNt (tV (eB (gBs fun bs => bs.all id) (aCons (eLc [5] (aItems (eVar 4)) (gN 5) tTrue (eCall ff_is_among (aCons (eVar 5) (aCons (eC (.int 0)) (aCons (eVar 1) aNil))) [])) aNil)))) f2 (qOk sNil))) (enumX j (S.map fun r => .tup (r.map D.int))) [a, some (.int h), some (.tup (R.map fun r => .tup (r.map D.int))), x, y, none] M = some (.ok (.nx [a, some (.int h), some (.tup (R.map fun r => .tup (r.map D.int))), x', y', z'] M))
  | [], j, x, y, z, _ => ⟨x, y, none, rfl⟩
  | r :: S, j, x, y, z, hS => by
    have hr := hS r List.mem_cons_self
    obtain ⟨x', y', z', ih⟩ := rowsQ_good (f1 := f1) (f2 := f2) ok a M S (j + 1) (some (.int (j : Nat))) (some (.tup (r.map D.int))) none fun q hq => hS q (List.mem_cons_of_mem _ hq)
    refine ⟨x', y', z', ?_⟩
    have lr := (ok.r r hr).1
    have w := ok.w
    have st : qSeq (qIf (tOrr (tNt (tV (eB gIsi (aCons (eVar 4) (aCons (eC (.ty "tuple")) aNil))))) (tOrr (tNt (tV (eChain (gInt fun i j => .bl (decide (i ≤ j))) (gInt fun i j => .bl (decide (i ≤ j))) (eC (.int 1)) (eB gLen (aCons (eVar 4) aNil)) (eC (.int 8))))) (tV (eOp (gEq fun p q => !PyData.eqv p q) (eB gLen (aCons (eVar 4) aNil)) (eB gLen (aCons (eOp gIx (eVar 2) (eC (.int 0))) aNil)))))) f1 (qOk sNil)) (qIf (tNt (tV (eB (gBs fun bs => bs.all id) (aCons (eLc [5] (aItems (eVar 4)) (gN 5) tTrue (eCall ff_is_among (aCons (eVar 5) (aCons (eC (.int 0)) (aCons (eVar 1) aNil))) [])) aNil)))) f2 (qOk sNil)) [a, some (.int h), some (.tup (R.map fun r => .tup (r.map D.int))), some (.int (j : Nat)), some (.tup (r.map D.int)), none] M = some (.ok (.nx [a, some (.int h), some (.tup (R.map fun r => .tup (r.map D.int))), some (.int (j : Nat)), some (.tup (r.map D.int)), none] M)) :=
      q_seq (q_if0 (row_tests ok hr M a _ none) q_nil) (q_if0 (nt_of (b := true) (row_all (ok.r r hr).2 (by omega) M _ _ _)) q_nil)
    rw [List.map_cons]
    show forGoQ _ _ (.tup [.int (j : Nat), .tup (r.map D.int)] :: enumX (j + 1) (S.map fun r => .tup (r.map D.int))) _ _ = _
    unfold forGoQ
    rw [show gTp (gsCons (gN 3) (gsCons (gN 4) gsNil)) (.tup [.int (j : Nat), .tup (r.map D.int)]) [a, some (.int h), some (.tup (R.map fun r => .tup (r.map D.int))), x, y, none] = some [a, some (.int h), some (.tup (R.map fun r => .tup (r.map D.int))), some (.int (j : Nat)), some (.tup (r.map D.int)), none] from rfl]
    dsimp only
    rw [st]
    exact ih
theorem fieldQ_good {ct : CT} {h : Int} {R : List (List Int)} {W : Nat} (ok : FldOk h R W) (M : Mh) : qq_need_field ct [fldD h R] M = some (.v .non M) := by
  obtain ⟨t2, t3⟩ := fld_tests2 ok M (some (fldD h R)) none none none
  obtain ⟨x', y', z', go⟩ := rowsQ_good (f1 := qRaise ct.BadField "BadField" (ff_BadField_init ct) (aCons (eVar 3) aNil) []) (f2 := qRaise ct.BadField "BadField" (ff_BadField_init ct) (aCons (eVar 3) aNil) []) ok (some (fldD h R)) M R 0 none none none fun r hr => hr
  refine fq_N (δ := [some (fldD h R), some (.int h), some (.tup (R.map fun r => .tup (r.map D.int))), x', y', z']) ?_
  show qg_need_field ct [some (fldD h R), none, none, none, none, none] M = _
  unfold qg_need_field
  refine q_seq (q_if0 (fld_tests ok M _ _ _ _ _) q_nil) ?_
  refine q_seq (q_ok (as_of (M1 := M) (δ' := [some (fldD h R), some (.int h), some (.tup (R.map fun r => .tup (r.map D.int))), none, none, none]) rfl rfl)) ?_
  refine q_seq (q_if0 t2 q_nil) (q_seq (q_if0 t3 q_nil) ?_)
  unfold qFor
  rw [enumT_of (W := R.map fun r => .tup (r.map D.int)) rfl]
  exact go
end Law
namespace Law
open PySem L2 Pl Pl.Ev
def Am (d : D) (f : Int → Int → Bool) : Prop := ∀ (lo hi : Int) (M : Mh), ff_is_among [d, .int lo, .int hi] M = some (.bl (f lo hi), M)
theorem am_int (i : Int) : Am (.int i) (fun lo hi => decide (lo ≤ i) && decide (i ≤ hi)) := fun lo hi M => amongI i lo hi M
theorem am_str (x : Str) : Am (.str x) (fun _ _ => false) := fun lo hi M => among_str M _ _
theorem am_non : Am .non (fun _ _ => false) := fun lo hi M => among_sp none lo hi M
theorem am_bl (b : Bool) : Am (.bl b) (fun _ _ => false) := fun lo hi M => by
  refine fn_rt ?_
  show gg_is_among [some (.bl b), some (.int lo), some (.int hi)] M = _
  unfold gg_is_among
  exact seq_if1 (M1 := M) (or1 (nt_of (b := false) (v_bl (call_of (cons_of rfl x_aNil) (whole_b b M))))) (ret_of x_eC)
theorem tool_pair {a b : D} {f g : Int → Int → Bool} (ha : Am a f) (hb : Am b g) (M : Mh) : ff_is_tool [.tup [a, b]] M = some (.bl (f 1 4 && g 1 6), M) := by
  refine fn_rt ?_
  show gg_is_tool [some (.tup [a, b])] M = _
  unfold gg_is_tool
  refine seq_if0 (M1 := M) (or0 (M1 := M) (nt_of (b := true) (v_bl (isi_of (t := "tuple") rfl rfl kit_tt))) (v_bl (op_of (lenT (L := [a, b]) rfl) x_eC ((ne_int _ _ _).trans rfl)))) (ret_of ?_)
  have a1 : eCall ff_is_among (aCons (eOp gIx (eVar 0) (eC (.int 0))) (aCons (eC (.int 1)) (aCons (eC (.int 4)) aNil))) [] [some (.tup [a, b])] M = some (.bl (f 1 4), M) := call_of (cons_of (op_of rfl x_eC rfl) (cons_of x_eC (cons_of x_eC x_aNil))) (ha 1 4 M)
  have a2 : eCall ff_is_among (aCons (eOp gIx (eVar 0) (eC (.int 1))) (aCons (eC (.int 1)) (aCons (eC (.int 6)) aNil))) [] [some (.tup [a, b])] M = some (.bl (g 1 6), M) := call_of (cons_of (op_of rfl x_eC rfl) (cons_of x_eC (cons_of x_eC x_aNil))) (hb 1 6 M)
  cases hc : f 1 4 with
  | true =>
    rw [hc] at a1
    rw [Bool.true_and]
    exact an_of1 a1 a2
  | false =>
    rw [hc] at a1
    rw [Bool.false_and]
    exact an_of0 a1
theorem place_pair {W L : Int} {t : Int × Int} {a b : D} {f g : Int → Int → Bool} (ha : Am a f) (hb : Am b g) (M : Mh) : ff_is_place_of [cellD (W, L), cellD t, .tup [a, b]] M = some (.bl (f (1 - t.1) (W - 1) && g (1 - t.1) (L - 1)), M) := by
  refine fn_rt ?_
  show gg_is_place_of [some (cellD (W, L)), some (cellD t), some (.tup [a, b]), none, none] M = _
  unfold gg_is_place_of
  refine seq_if0 (M1 := M) (or0 (M1 := M) (nt_of (b := true) (v_bl (isi_of (t := "tuple") rfl rfl kit_tt))) (v_bl (op_of (lenT (L := [a, b]) rfl) x_eC ((ne_int _ _ _).trans rfl)))) (ret_of ?_)
  have el : ∀ {d : D} {k : Int → Int → Bool} (hk : Am d k) (many : Int), eCall ff_is_among (aCons (eVar 3) (aCons (eOp (gInt fun i j => .int (i - j)) (eC (.int 1)) (eOp gIx (eVar 1) (eC (.int 0)))) (aCons (eOp (gInt fun i j => .int (i - j)) (eVar 4) (eC (.int 1))) aNil))) [] [some (cellD (W, L)), some (cellD t), some (.tup [a, b]), some d, some (.int many)] M = some (.bl (k (1 - t.1) (many - 1)), M) := fun hk many =>
    call_of (cons_of rfl (cons_of (op_of x_eC (op_of rfl x_eC rfl) rfl) (cons_of (op_of rfl x_eC rfl) x_aNil))) (hk _ _ M)
  have iz : aZip (aCons (eVar 2) (aCons (eVar 0) aNil)) [some (cellD (W, L)), some (cellD t), some (.tup [a, b]), none, none] M = some ([.tup [a, .int W], .tup [b, .int L]], M) := by
    unfold aZip
    rw [cons_of (d := .tup [a, b]) (M1 := M) rfl (cons_of (d := cellD (W, L)) (M1 := M) rfl x_aNil)]
    rfl
  have lc := lc_ (vs := [3, 4]) (p := gTp (gsCons (gN 3) (gsCons (gN 4) gsNil))) (t := tTrue) (δ1 := [some (cellD (W, L)), some (cellD t), some (.tup [a, b]), none, none]) iz rfl
    (lcC_ (x := true) (M1 := M) (δ1 := [some (cellD (W, L)), some (cellD t), some (.tup [a, b]), some a, some (.int W)]) rfl tt_ (lcY_ (p := gTp (gsCons (gN 3) (gsCons (gN 4) gsNil))) (t := tTrue) (ds := [.tup [b, .int L]]) (δ := [some (cellD (W, L)), some (cellD t), some (.tup [a, b]), none, none]) (δ1 := [some (cellD (W, L)), some (cellD t), some (.tup [a, b]), some a, some (.int W)]) (el ha W)
      (lcC_ (x := true) (M1 := M) (δ1 := [some (cellD (W, L)), some (cellD t), some (.tup [a, b]), some b, some (.int L)]) rfl tt_ (lcY_ (p := gTp (gsCons (gN 3) (gsCons (gN 4) gsNil))) (t := tTrue) (ds := []) (δ := [some (cellD (W, L)), some (cellD t), some (.tup [a, b]), none, none]) (δ1 := [some (cellD (W, L)), some (cellD t), some (.tup [a, b]), some b, some (.int L)]) (el hb L) lcN_)))) (by simp)
  rw [x_eB, cons_of lc x_aNil]
  show gBs (fun bs => bs.all id) [.lst ([f (1 - t.1) (W - 1), g (1 - t.1) (L - 1)].map D.bl)] M = _
  unfold gBs
  dsimp only [lstOf]
  rw [bs_D]
  simp
/-- no tuple, or not of two -/
def No2 (d : D) : Prop := (∃ t : String, (∀ M, tyN M d = some t) ∧ kitB t "tuple" = some false) ∨ ∃ xs : List D, d = .tup xs ∧ xs.length ≠ 2
theorem no2_t {i : Nat} {d : D} {δ : Pl.Env} {M : Mh} (h : No2 d) (h0 : δ[i]? = some (some d)) : tOrr (tNt (tV (eB gIsi (aCons (eVar i) (aCons (eC (.ty "tuple")) aNil))))) (tV (eOp (gEq fun p q => !PyData.eqv p q) (eB gLen (aCons (eVar i) aNil)) (eC (.int 2)))) δ M = some (true, M) := by
  rcases h with ⟨t, h1, h2⟩ | ⟨xs, rfl, h2⟩
  · exact or1 (nt_of (b := false) (v_bl (isi_of (var_ h0) (h1 M) h2)))
  · exact or0 (M1 := M) (nt_of (b := true) (v_bl (isi_of (t := "tuple") (var_ h0) rfl kit_tt))) (v_bl (op_of (lenT (L := xs) (var_ h0)) x_eC ((ne_int _ _ _).trans (by
      rw [decide_eq_false (by omega)]; rfl))))
theorem no2_tool {d : D} (h : No2 d) (M : Mh) : ff_is_tool [d] M = some (.bl false, M) := by
  refine fn_rt ?_
  show gg_is_tool [some d] M = _
  unfold gg_is_tool
  exact seq_if1 (M1 := M) (no2_t h rfl) (ret_of x_eC)
theorem no2_place {d e t : D} (h : No2 d) (M : Mh) : ff_is_place_of [e, t, d] M = some (.bl false, M) := by
  refine fn_rt ?_
  show gg_is_place_of [some e, some t, some d, none, none] M = _
  unfold gg_is_place_of
  exact seq_if1 (M1 := M) (no2_t h rfl) (ret_of x_eC)
end Law
namespace Law
open PySem L2 Pl Pl.Ev
def BadT (d : D) : Prop := ∀ M, ff_is_tool [d] M = some (.bl false, M)
def BadP (W L : Int) (t : Int × Int) (d : D) : Prop := ∀ M, ff_is_place_of [cellD (W, L), cellD t, d] M = some (.bl false, M)
section
variable {ct : CT} {h : Int} {R : List (List Int)} {W : Nat} {t : Int × Int}
theorem seatQ_place (ok : FldOk h R W) (ht : ToolOk t) {d : D} (hp : BadP (W : Nat) (R.length : Nat) t d) (M : Mh) : qq_need_seat ct [fldD h R, cellD t, d] M = some (.ep "OutOfPlace" M) := by
  refine fq_P (δ := [some (fldD h R), some (cellD t), some d]) ?_
  show qg_need_seat ct [some (fldD h R), some (cellD t), some d] M = _
  unfold qg_need_seat
  exact q_seq (q_eV (q_call (ds := [fldD h R]) (cons_of rfl x_aNil) (fieldQ_good ok M))) (q_seq (q_eV (q_call (ds := [cellD t]) (cons_of rfl x_aNil) (tool_good (tool_ok ht M)))) (q_eP (q_call (ds := [cellD ((W : Nat), (R.length : Nat)), cellD t, d]) (cons_of (call_of (ds := [fldD h R]) (cons_of rfl x_aNil) (sides_sp ok M)) (cons_of rfl (cons_of rfl x_aNil))) (place_bad (hp M)))))
theorem seatQ_tool (I : Isa ct) (ok : FldOk h R W) {d e : D} (ht : BadT d) (M : Mh) : qq_need_seat ct [fldD h R, d, e] M = some (.ex "BadTools" (badN .non) (M ++ [.dead, .dead])) := by
  refine fq_X (δ := [some (fldD h R), some d, some e]) ?_
  show qg_need_seat ct [some (fldD h R), some d, some e] M = _
  unfold qg_need_seat
  exact q_seq (q_eV (q_call (ds := [fldD h R]) (cons_of rfl x_aNil) (fieldQ_good ok M))) (q_seqX (q_eX (q_call (ds := [d]) (cons_of rfl x_aNil) (tool_bad I (ht M)))))
end
end Law
namespace Law
open PySem L2 Pl Pl.Ev
def JP (s W L : Int) : List D := [.tup [.int (0 - s), .int 0], .tup [.int W, .int 0], .tup [.int 0, .int L], .tup [.int 0, .int (0 - s)], .non, .tup [.int 0], .tup [.int 0, .int 0, .int 0], .lst [.int 0, .int 0], .tup [.int 0, .bl true], .tup [.str "0", .int 0]]
def JT : List D := [.non, .tup [.int 0, .int 1], .tup [.int 5, .int 1], .tup [.int 1, .int 0], .tup [.int 1, .int 7], .tup [.int 1], .tup [.int 1, .int 1, .int 1], .lst [.int 1, .int 1], .tup [.bl true, .int 1], .tup [.int 1, .non], .int 1]
theorem no2_non : No2 .non := .inl ⟨"NoneType", fun _ => rfl, kit_nt⟩
theorem no2_int (i : Int) : No2 (.int i) := .inl ⟨"int", fun _ => rfl, kit_it⟩
theorem no2_lst (xs : List D) : No2 (.lst xs) := .inl ⟨"list", fun _ => rfl, kit_lt⟩
theorem no2_len {xs : List D} (h : xs.length ≠ 2) : No2 (.tup xs) := .inr ⟨xs, rfl, h⟩
theorem jp_bad {W L : Int} {t : Int × Int} (hW : 1 ≤ W) (hL : 1 ≤ L) : ∀ d ∈ JP t.1 W L, BadP W L t d := by
  intro d hd M
  unfold JP at hd
  simp only [List.mem_cons, List.not_mem_nil, or_false] at hd
  rcases hd with rfl | rfl | rfl | rfl | rfl | rfl | rfl | rfl | rfl | rfl
  · rw [place_pair (am_int _) (am_int _)]; simp; omega
  · rw [place_pair (am_int _) (am_int _)]; simp; omega
  · rw [place_pair (am_int _) (am_int _)]; simp; omega
  · rw [place_pair (am_int _) (am_int _)]; simp; omega
  · exact no2_place no2_non M
  · exact no2_place (no2_len (by decide)) M
  · exact no2_place (no2_len (by decide)) M
  · exact no2_place (no2_lst _) M
  · rw [place_pair (am_int _) (am_bl _)]; simp
  · rw [place_pair (am_str _) (am_int _)]; simp
theorem jt_bad : ∀ d ∈ JT, BadT d := by
  intro d hd M
  unfold JT at hd
  simp only [List.mem_cons, List.not_mem_nil, or_false] at hd
  rcases hd with rfl | rfl | rfl | rfl | rfl | rfl | rfl | rfl | rfl | rfl | rfl
  · exact no2_tool no2_non M
  · rw [tool_pair (am_int _) (am_int _)]; rfl
  · rw [tool_pair (am_int _) (am_int _)]; rfl
  · rw [tool_pair (am_int _) (am_int _)]; rfl
  · rw [tool_pair (am_int _) (am_int _)]; rfl
  · exact no2_tool (no2_len (by decide)) M
  · exact no2_tool (no2_len (by decide)) M
  · exact no2_tool (no2_lst _) M
  · rw [tool_pair (am_bl _) (am_int _)]; rfl
  · rw [tool_pair (am_int _) am_non]; rfl
  · exact no2_tool (no2_int _) M
end Law
namespace Law
open PySem L2 Pl Pl.Ev
def wdP : D := .lst [.str "place", .str "ours", .str "value"]
def wdT : D := .lst [.str "tools", .str "ours", .str "value"]
theorem neP (M : Mh) : gEq (fun p q => !PyData.eqv p q) wdP wdP M = some (.bl false, M) := by
  unfold gEq wdP
  rw [show toP (deref M (.lst [.str "place", .str "ours", .str "value"])) = some (.list [.str "place", .str "ours", .str "value"]) from rfl]
  dsimp only
  rw [if_pos (by decide +kernel)]
  simp [PyData.eqv, PyData.eqvAll]
theorem neT (M : Mh) : gEq (fun p q => !PyData.eqv p q) wdT wdT M = some (.bl false, M) := by
  unfold gEq wdT
  rw [show toP (deref M (.lst [.str "tools", .str "ours", .str "value"])) = some (.list [.str "tools", .str "ours", .str "value"]) from rfl]
  dsimp only
  rw [if_pos (by decide +kernel)]
  simp [PyData.eqv, PyData.eqvAll]
theorem wP_e {δ : Pl.Env} {M : Mh} : eLst (aCons (eC (.str "place")) (aCons (eC (.str "ours")) (aCons (eC (.str "value")) aNil))) δ M = some (wdP, M) := x_eLst (cons_of x_eC (cons_of x_eC (cons_of x_eC x_aNil))) (by simp)
theorem wT_e {δ : Pl.Env} {M : Mh} : eLst (aCons (eC (.str "tools")) (aCons (eC (.str "ours")) (aCons (eC (.str "value")) aNil))) δ M = some (wdT, M) := x_eLst (cons_of x_eC (cons_of x_eC (cons_of x_eC x_aNil))) (by simp)
theorem gv_e {ct : CT} (I : Isa ct) {i a m : Nat} {w : D} {δ : Pl.Env} {M : Mh} (h : δ[i]? = some (some (.ref a))) (g1 : M[a]? = some (.exf ct.BadTools m)) (g0 : M[m]? = some (.exg (badN w))) : eGv ct.okg "number" (eVar i) δ M = some (w, M) := by
  unfold eGv
  rw [var_ h]
  dsimp only
  rw [g1]
  dsimp only
  rw [if_pos I.g_BadTools_number, g0]
  dsimp only
  have : List.lookup ("number" : Str) (badN w) = some w := by
    simp [badN, List.lookup]
  rw [this]
  rfl
end Law
namespace Law
open PySem L2 Pl Pl.Ev
theorem two_e {f g : EF} {a b : D} {δ : Pl.Env} {M : Mh} (h1 : f δ M = some (a, M)) (h2 : g δ M = some (b, M)) : eTup (aCons f (aCons g aNil)) δ M = some (.tup [a, b], M) := x_eTup (cons_of h1 (cons_of h2 x_aNil)) (by simp)
/-- one of a list, drawn -/
theorem pick_e {Ts : Mh} {n : Nat} {M : Mh} {B : Int} {δ : Pl.Env} {fl : EF} {xs : List D} {many : Int} (h0 : δ[0]? = some (some (.ref n))) (hl : fl δ M = some (.lst xs, M)) (hn : (xs.length : Int) = many) (p : Bz Ts n B M) (hB : B < 2 ^ 57) (m0 : 0 < many) (m1 : many ≤ 1000000) :
    ∃ (d : D) (M' : Mh), eOp gIx fl (eCall ff_law_digit (aCons (eVar 0) (aCons (eC (.int many)) aNil)) []) δ M = some (d, M') ∧ d ∈ xs ∧ Bz Ts n (B + 4) M' := by
  obtain ⟨f, M1, e, f1, p1, r1⟩ := dgB (i := 0) (fm := eC (.int many)) h0 x_eC p hB m0 m1
  have lt : f < xs.length := by omega
  refine ⟨xs[f], M1, op_of hl e ?_, List.getElem_mem lt, p1⟩
  show (atI xs (f : Int)).map _ = _
  rw [atI_nat (List.getElem?_eq_getElem lt)]
  rfl
end Law
namespace Law
open PySem L2 Pl Pl.Ev
/-- the k-th is the list of A, each of A is such a one -/
structure Kp (P : Mh → Nat → Prop) (k : Nat) (A : List Nat) (S : Mh) : Prop where
  l : S[k]? = some (.lst (A.map D.ref))
  a : ∀ a ∈ A, P S a
def IsP (ct : CT) (S : Mh) (a : Nat) : Prop := S[a]? = some (.exc ct.OutOfPlace)
def IsT (ct : CT) (S : Mh) (a : Nat) : Prop := ∃ m, S[a]? = some (.exf ct.BadTools m) ∧ S[m]? = some (.exg (badN .non))
theorem IsP.apps {ct : CT} {S : Mh} {a : Nat} (h : IsP ct S a) (l : Mh) : IsP ct (S ++ l) a := by
  unfold IsP at *
  rw [List.getElem?_append_left (List.getElem?_eq_some_iff.mp h).1]; exact h
theorem IsT.apps {ct : CT} {S : Mh} {a : Nat} (h : IsT ct S a) (l : Mh) : IsT ct (S ++ l) a := by
  obtain ⟨m, h1, h2⟩ := h
  exact ⟨m, by rw [List.getElem?_append_left (List.getElem?_eq_some_iff.mp h1).1]; exact h1, by rw [List.getElem?_append_left (List.getElem?_eq_some_iff.mp h2).1]; exact h2⟩
theorem IsP.set {ct : CT} {S : Mh} {a k : Nat} {xs : List D} {o : MO} (h : IsP ct S a) (g : S[k]? = some (.lst xs)) : IsP ct (S.set k o) a := by
  unfold IsP at *
  have : a ≠ k := fun z => by subst z; rw [h] at g; cases g
  rw [List.getElem?_set_ne (Ne.symm this)]; exact h
theorem IsT.set {ct : CT} {S : Mh} {a k : Nat} {xs : List D} {o : MO} (h : IsT ct S a) (g : S[k]? = some (.lst xs)) : IsT ct (S.set k o) a := by
  obtain ⟨m, h1, h2⟩ := h
  have n1 : a ≠ k := fun z => by subst z; rw [h1] at g; cases g
  have n2 : m ≠ k := fun z => by subst z; rw [h2] at g; cases g
  exact ⟨m, by rw [List.getElem?_set_ne (Ne.symm n1)]; exact h1, by rw [List.getElem?_set_ne (Ne.symm n2)]; exact h2⟩
end Law
namespace Law
open PySem L2 Pl Pl.Ev
theorem lens_e {h : Int} {R : List (List Int)} {W : Nat} (ok : FldOk h R W) {δ : Pl.Env} (h1 : δ[1]? = some (some (fldD h R))) (M : Mh) :
    eB gLen (aCons (eOp gIx (eOp gIx (eVar 1) (eC (.int 1))) (eC (.int 0))) aNil) δ M = some (.int (W : Nat), M) ∧ eB gLen (aCons (eOp gIx (eVar 1) (eC (.int 1))) aNil) δ M = some (.int (R.length : Nat), M) := by
  obtain ⟨r0, l0, e0⟩ := row0 ok M
  have e1 : eOp gIx (eVar 1) (eC (.int 1)) δ M = some (.tup (R.map fun r => D.tup (r.map D.int)), M) := op_of (var_ h1) x_eC rfl
  exact ⟨(lenT (op_of e1 x_eC e0)).trans (by rw [List.length_map, l0]), (lenT e1).trans (by rw [List.length_map])⟩
end Law
namespace Law
open PySem L2 Pl Pl.Ev
theorem eqN (M : Mh) : gEq PyData.eqv (.lst []) (.lst []) M = some (.bl true, M) := by
  unfold gEq
  rw [show toP (deref M (.lst [])) = some (.list []) from rfl]
  dsimp only
  rw [if_pos (by decide +kernel)]
  simp [PyData.eqv, PyData.eqvAll]
end Law
namespace Law
open PySem L2 Pl Pl.Ev
theorem cut_front {α : Type} (xs : List α) (k : Nat) : cutD xs none (some (k : Int)) = xs.take k := by
  unfold cutD
  rw [HT.sIx_nat, HT.sIx_none, List.drop_zero, Nat.sub_zero]
  by_cases h : k ≤ xs.length
  · rw [Nat.min_eq_left h]
  · rw [Nat.min_eq_right (by omega), List.take_of_length_le (Nat.le_refl _), List.take_of_length_le (by omega)]
end Law
namespace Law
open PySem L2 Pl Pl.Ev
def Gt (t : Int × Int) : List (Int × Int) := t :: ([((1 : Int), (6 : Int)), (4, 1), (2, 3)].filter fun u => !decide (u = t))
theorem ne_cell (p q : Int × Int) (M : Mh) : gEq (fun p q => !PyData.eqv p q) (cellD p) (cellD q) M = some (.bl (!decide (p = q)), M) := by
  unfold gEq
  rw [show toP (deref M (cellD p)) = some (.tuple [.int p.1, .int p.2]) from rfl, show toP (deref M (cellD q)) = some (.tuple [.int q.1, .int q.2]) from rfl]
  dsimp only
  rw [shaped_cell, shaped_cell, eqv_cell]
  rfl
/-- a slice of a list -/
theorem sl_L {xs : List D} {f : EF} {p q : Pl.Env → Mh → Option (Option Int × Mh)} {δ : Pl.Env} {M : Mh} {lo hi : Option Int} (h : f δ M = some (.lst xs, M)) (h1 : p δ M = some (lo, M)) (h2 : q δ M = some (hi, M)) : eSl f p q δ M = some (.lst (cutD xs lo hi), M) := by
  unfold eSl
  rw [h]
  dsimp only
  rw [h1]
  dsimp only
  rw [h2]
  rfl
theorem nz_int {i : Int} (h : 0 ≤ i ∧ i ≤ 100) : Nz 1921 0 (.int i) := nz_smp (show i.natAbs < 2 ^ 128 from Nat.lt_of_lt_of_le (show i.natAbs < 101 by omega) (by decide))
end Law
namespace Law
open PySem L2 Pl Pl.Ev
def at2 (R : List (List Int)) (c : Int × Int) : Int := (R.getD c.2.toNat []).getD c.1.toNat 0
def InB (W L : Int) (c : Int × Int) : Prop := (0 ≤ c.1 ∧ c.1 < W) ∧ 0 ≤ c.2 ∧ c.2 < L
theorem ixT_nat {xs : List D} {i : Nat} {d : D} {M : Mh} (h : xs[i]? = some d) : gIx (.tup xs) (.int (i : Nat)) M = some (d, M) := by
  show (atI xs (i : Int)).map _ = _
  rw [atI_nat h]
  rfl
theorem at_ix {h : Int} {R : List (List Int)} {W : Nat} (ok : FldOk h R W) {c : Int × Int} (hc : InB (W : Nat) (R.length : Nat) c) (M : Mh) :
    ∃ r : List Int, gIx (.tup (R.map fun r => D.tup (r.map D.int))) (.int c.2) M = some (.tup (r.map D.int), M) ∧ gIx (.tup (r.map D.int)) (.int c.1) M = some (.int (at2 R c), M) ∧ (0 ≤ at2 R c ∧ at2 R c ≤ h) := by
  obtain ⟨i, j⟩ := c
  obtain ⟨⟨h1, h2⟩, h3, h4⟩ := hc
  dsimp only at h1 h2 h3 h4
  obtain ⟨n, rfl⟩ := Int.eq_ofNat_of_zero_le h3
  obtain ⟨m, rfl⟩ := Int.eq_ofNat_of_zero_le h1
  have hn : n < R.length := by omega
  have hr := ok.r R[n] (List.getElem_mem hn)
  have hm : m < (R[n]).length := by rw [hr.1]; omega
  have ea : at2 R ((m : Int), (n : Int)) = (R[n])[m] := by
    unfold at2
    simp [List.getD_eq_getElem?_getD, List.getElem?_eq_getElem hn, List.getElem?_eq_getElem hm]
  refine ⟨R[n], ixT_nat (by rw [List.getElem?_map, List.getElem?_eq_getElem hn]; rfl), ?_, ?_⟩
  · refine (ixT_nat (i := m) (d := .int (R[n])[m]) (by rw [List.getElem?_map, List.getElem?_eq_getElem hm]; rfl)).trans ?_
    rw [ea]
  · rw [ea]
    exact hr.2 _ (List.getElem_mem hm)
theorem height_sp {h : Int} {R : List (List Int)} {W : Nat} (ok : FldOk h R W) {c : Int × Int} (hc : InB (W : Nat) (R.length : Nat) c) (M : Mh) : ff_height_of [fldD h R, cellD c] M = some (.int (at2 R c), M) := by
  obtain ⟨r, e1, e2, _⟩ := at_ix ok hc M
  refine fn_rt ?_
  show gg_height_of [some (fldD h R), some (cellD c), none, none] M = _
  unfold gg_height_of
  refine seq_as (M1 := M) (δ' := [some (fldD h R), some (cellD c), some (.int c.1), some (.int c.2)]) rfl rfl ?_
  exact ret_of (op_of (op_of (op_of rfl x_eC rfl) rfl e1) rfl e2)
theorem aim_sp {h : Int} {R : List (List Int)} {W : Nat} (ok : FldOk h R W) {c : Int × Int} (hc : InB (W : Nat) (R.length : Nat) c) (M : Mh) : ff_law_aim [fldD h R, cellD c] M = some (.int (at2 R c), M) := by
  obtain ⟨r, e1, e2, _⟩ := at_ix ok hc M
  refine fn_rt ?_
  show gg_law_aim [some (fldD h R), some (cellD c)] M = _
  unfold gg_law_aim
  exact ret_of (op_of (op_of (op_of rfl x_eC rfl) (op_of rfl x_eC ix_c1) e1) (op_of rfl x_eC ix_c0) e2)
def rowsOf (g : Int × Int → Int) (W L : Nat) : List (List Int) := (zr 0 (L : Nat)).map fun j => (zr 0 (W : Nat)).map fun i => g (i, j)
theorem zr_at {L n : Nat} (h : n < L) : (zr 0 (L : Nat))[n]? = some (n : Int) := by
  unfold zr
  rw [List.getElem?_map, List.getElem?_range (by omega)]
  simp
theorem rows_len (g : Int × Int → Int) (W L : Nat) : (rowsOf g W L).length = L := by
  unfold rowsOf
  rw [List.length_map, zr_len]
  omega
theorem at_rows {g : Int × Int → Int} {W L : Nat} {c : Int × Int} (hc : InB (W : Nat) (L : Nat) c) : at2 (rowsOf g W L) c = g c := by
  obtain ⟨i, j⟩ := c
  obtain ⟨⟨h1, h2⟩, h3, h4⟩ := hc
  dsimp only at h1 h2 h3 h4
  obtain ⟨n, rfl⟩ := Int.eq_ofNat_of_zero_le h3
  obtain ⟨m, rfl⟩ := Int.eq_ofNat_of_zero_le h1
  have e1 := zr_at (L := L) (n := n) (by omega)
  have e2 := zr_at (L := W) (n := m) (by omega)
  unfold at2 rowsOf
  simp [List.getD_eq_getElem?_getD, List.getElem?_map, e1, e2]
theorem rows_ok {g : Int × Int → Int} {W L : Nat} {h : Int} (hh : 1 ≤ h ∧ h ≤ 6) (hW : 1 ≤ W ∧ W ≤ 8) (hL : 1 ≤ L ∧ L ≤ 8) (hg : ∀ c, InB (W : Nat) (L : Nat) c → 0 ≤ g c ∧ g c ≤ h) : FldOk h (rowsOf g W L) W := by
  refine ⟨hh, by rw [rows_len]; exact hL, hW, fun r hr => ?_⟩
  unfold rowsOf at hr
  obtain ⟨j, hj, rfl⟩ := List.mem_map.mp hr
  have hj' := zr_mem.mp hj
  refine ⟨by rw [List.length_map, zr_len]; omega, fun x hx => ?_⟩
  obtain ⟨i, hi, rfl⟩ := List.mem_map.mp hx
  have hi' := zr_mem.mp hi
  exact hg _ ⟨hi', hj'⟩
def dctOf (g : Int × Int → Int) (A : List (Int × Int)) : List (List Int × D) := A.map fun c => ([c.1, c.2], .int (g c))
theorem val_dct {g : Int × Int → Int} {c : Int × Int} : ∀ {A : List (Int × Int)}, c ∈ A → valD (dctOf g A) [c.1, c.2] = some (.int (g c))
  | [], h => (List.not_mem_nil h).elim
  | a :: A, h => by
    by_cases e : a = c
    · subst e
      simp [valD, dctOf]
    · have h' : c ∈ A := by
        rcases List.mem_cons.mp h with q | q
        · exact absurd q.symm e
        · exact q
      have ne : ¬ ([a.1, a.2] : List Int) = [c.1, c.2] := fun q => e (by
        simp only [List.cons.injEq, and_true] at q
        exact Prod.ext q.1 q.2)
      have ih := val_dct (g := g) h'
      unfold valD dctOf at ih ⊢
      rw [List.map_cons, List.find?_cons, decide_eq_false ne]
      exact ih
theorem ixC_e {fa fb : EF} {δ : Pl.Env} {M : Mh} {n : Nat} {g : Int × Int → Int} {A : List (Int × Int)} {c : Int × Int} (h1 : fa δ M = some (.ref n, M)) (hM : M[n]? = some (.dct (dctOf g A))) (h2 : fb δ M = some (cellD c, M)) (hc : c ∈ A) : eOp gIxC fa fb δ M = some (.int (g c), M) := by
  refine op_of h1 h2 ?_
  unfold gIxC cellD
  dsimp only
  rw [hM]
  show (valD (dctOf g A) [c.1, c.2]).map _ = _
  rw [val_dct hc]
  rfl
theorem lc_all {α : Type} {emb f : α → D} {v : Nat} {e : EF} {δ : Pl.Env} {M : Mh} : ∀ A : List α, (∀ a ∈ A, e (δ.set v (some (emb a))) M = some (f a, M)) → lcGo (gN v) tTrue e (A.map emb) δ M = some (A.map f, M)
  | [], _ => lcN_
  | a :: A, h => by
    have ih := lc_all (emb := emb) (f := f) (e := e) (δ := δ) (v := v) (M := M) A fun b hb => h b (List.mem_cons_of_mem _ hb)
    rw [List.map_cons, List.map_cons]
    exact lcC_ (x := true) (M1 := M) (δ1 := δ.set v (some (emb a))) rfl tt_ (lcY_ (p := gN v) (t := tTrue) (ds := A.map emb) (δ := δ) (δ1 := δ.set v (some (emb a))) (h a List.mem_cons_self) ih)
theorem as_field_sp {h : Int} {R : List (List Int)} {W : Nat} (ok : FldOk h R W) {n : Nat} {g : Int × Int → Int} {M : Mh} (hM : M[n]? = some (.dct (dctOf g (allC (W : Nat) (R.length : Nat))))) : ff_law_as_field [fldD h R, .ref n] M = some (fldD h (rowsOf g W R.length), M) := by
  have w := ok.w
  have l := ok.l
  refine fn_rt ?_
  show gg_law_as_field [some (fldD h R), some (.ref n), none, none, none, none] M = _
  unfold gg_law_as_field
  refine seq_as (M1 := M) (δ' := [some (fldD h R), some (.ref n), some (.int (W : Nat)), some (.int (R.length : Nat)), none, none]) (tup_ (cons_of (wide_of ok rfl) (cons_of (long_of rfl) x_aNil)) (by simp)) rfl ?_
  have inner : ∀ j ∈ zr 0 (R.length : Nat), eB gTupOf (aCons (eLc [4] (aRng1 (aCons (eVar 2) aNil)) (gN 4) tTrue (eOp gIxC (eVar 1) (eTup (aCons (eVar 4) (aCons (eVar 5) aNil))))) aNil) (([some (fldD h R), some (.ref n), some (.int (W : Nat)), some (.int (R.length : Nat)), none, none] : Pl.Env).set 5 (some (.int j))) M = some (.tup (((zr 0 (W : Nat)).map fun i => g (i, j)).map D.int), M) := fun j hj => by
    have hj' := zr_mem.mp hj
    refine tupL ?_
    rw [List.map_map]
    refine lc_ (δ1 := [some (fldD h R), some (.ref n), some (.int (W : Nat)), some (.int (R.length : Nat)), none, some (.int j)]) (rng1Z (cons_of rfl x_aNil) (by omega)) rfl (lc_all (emb := D.int) (f := D.int ∘ fun i => g (i, j)) _ fun i hi => ?_) (by rw [List.length_map, zr_len]; omega)
    exact ixC_e (c := (i, j)) rfl hM (x_eTup (cons_of rfl (cons_of rfl x_aNil)) (by simp)) (prod_mem.mpr ⟨hi, hj⟩)
  refine ret_of (tup_ (ds := [.int h, .tup ((rowsOf g W R.length).map fun r => .tup (r.map D.int))]) (cons_of (op_of rfl x_eC rfl) (cons_of (tupL (lc_ (δ1 := [some (fldD h R), some (.ref n), some (.int (W : Nat)), some (.int (R.length : Nat)), none, none]) (rng1Z (cons_of rfl x_aNil) (by omega)) rfl ((lc_all (emb := D.int) (f := fun j => .tup (((zr 0 (W : Nat)).map fun i => g (i, j)).map D.int)) _ inner).trans ?_) ?_)) x_aNil)) (by simp))
  · unfold rowsOf
    rw [List.map_map]
    rfl
  · rw [List.length_map, rows_len]; omega
end Law
namespace Law
open PySem L2 Pl Pl.Ev
theorem near_in {W L : Int} {p q : Int × Int} {s m : Int} (h : q ∈ nearC W L p s m) : InB W L q := (near_mem.mp h).1
theorem cells_in {W L : Int} {p q : Int × Int} {s : Int} (h : q ∈ cells W L p.1 p.2 (p.1 + s) (p.2 + s)) : InB W L q := by
  rw [← under_eq] at h
  exact near_in h
theorem ringC_in {W L : Int} {p q : Int × Int} {s : Int} (h : q ∈ ringC W L p s) : InB W L q := by
  rw [← ring_eq] at h
  exact near_in (List.mem_filter.mp h).1
theorem ringC_len {W L : Int} {p : Int × Int} {s : Int} (hW : 0 ≤ W ∧ W ≤ 8) (hL : 0 ≤ L ∧ L ≤ 8) : (ringC W L p s).length ≤ 64 := by
  rw [← ring_eq]
  exact Nat.le_trans (List.length_filter_le _ _) (near_len hW hL)
def lowL (R : List (List Int)) (F : Int × Int → Int) (W L : Int) (t p : Int × Int) : List Int := (cells W L p.1 p.2 (p.1 + t.1) (p.2 + t.1)).map (at2 R) ++ (ringC W L p t.1).map fun c => F c - t.2
def lowI (R : List (List Int)) (F : Int × Int → Int) (W L : Int) (t p : Int × Int) : Int := maxI 0 (lowL R F W L t p)
theorem max_e {f : EF} {δ : Pl.Env} {M : Mh} {m : Int} {is : List Int} (h : f δ M = some (.lst ((m :: is).map D.int), M)) : eB gMaxL (aCons f aNil) δ M = some (.int (maxI m is), M) := by
  rw [x_eB, cons_of h x_aNil]
  show gMaxL [.lst ((m :: is).map D.int)] M = _
  unfold gMaxL
  dsimp only [lstOf]
  rw [ints_of]
section
variable {ct : CT} {h : Int} {R S : List (List Int)} {W : Nat} {t : Int × Int}
theorem ne_intF {i : Int} {M : Mh} : gEq (fun p q => !PyData.eqv p q) (.int i) (.int i) M = some (.bl false, M) := by rw [ne_int, decide_eq_true rfl]; rfl
theorem ne_cellF {c : Int × Int} {M : Mh} : gEq (fun p q => !PyData.eqv p q) (cellD c) (cellD c) M = some (.bl false, M) := by rw [ne_cell, decide_eq_true rfl]; rfl
theorem need_stock_ok (ok : FldOk h R W) (os : FldOk h S W) (hl : S.length = R.length) (M : Mh) : ff_need_stock ct [fldD h R, fldD h S] M = some (.non, M) := by
  refine fnN_ (δ' := [some (fldD h R), some (fldD h S)]) ?_
  show gg_need_stock ct [some (fldD h R), some (fldD h S)] M = _
  unfold gg_need_stock
  refine seq_nx (se_ (call_of (cons_of rfl x_aNil) (need_field_ok ok M))) (seq_nx (se_ (call_of (cons_of rfl x_aNil) (need_field_ok os M))) ?_)
  refine seq_if0 (M1 := M) (v_bl (op_of (op_of rfl x_eC rfl) (op_of rfl x_eC rfl) ne_intF)) ?_
  refine if_ff (M1 := M) (v_bl (op_of (call_of (cons_of rfl x_aNil) (sides_sp os M)) (call_of (cons_of rfl x_aNil) (sides_sp ok M)) ?_)) nil_of
  rw [hl]
  exact ne_cellF
theorem lowest_sp (ok : FldOk h R W) (os : FldOk h S W) (hl : S.length = R.length) (ht : ToolOk t) {p : Int × Int} (hp : plB (W : Nat) (R.length : Nat) t.1 p = true) (M : Mh) : ff_lowest ct [fldD h R, fldD h S, cellD t, cellD p] M = some (.int (lowI R (at2 S) (W : Nat) (R.length : Nat) t p), M) := by
  obtain ⟨d1, d2⟩ := ok.dim
  have hi := plB_in hp
  have ht' := ht.1
  refine fn_rt ?_
  show gg_lowest ct [some (fldD h R), some (fldD h S), some (cellD t), some (cellD p), none, none, none, none] M = _
  unfold gg_lowest
  refine seq_nx (se_ (call_of (cons_of rfl (cons_of rfl x_aNil)) (need_stock_ok ok os hl M))) (seq_nx (se_ (call_of (cons_of rfl (cons_of rfl (cons_of rfl x_aNil))) (need_seat_ok ok ht hp M))) ?_)
  refine seq_as (M1 := M) (δ' := [some (fldD h R), some (fldD h S), some (cellD t), some (cellD p), some (cellD ((W : Nat), (R.length : Nat))), none, none, none]) (call_of (cons_of rfl x_aNil) (sides_sp ok M)) rfl ?_
  have c1 := cells_len (W := (W : Nat)) (L := (R.length : Nat)) (a := p.1) (b := p.2) (c := p.1 + t.1) (d := p.2 + t.1) d1 d2
  have c2 := ringC_len (W := (W : Nat)) (L := (R.length : Nat)) (p := p) (s := t.1) d1 d2
  refine seq_as (M1 := M) (δ' := [some (fldD h R), some (fldD h S), some (cellD t), some (cellD p), some (cellD ((W : Nat), (R.length : Nat))), some (.lst (((cells (W : Nat) (R.length : Nat) p.1 p.2 (p.1 + t.1) (p.2 + t.1)).map (at2 R)).map D.int)), none, none]) (lc_ (δ1 := [some (fldD h R), some (fldD h S), some (cellD t), some (cellD p), some (cellD ((W : Nat), (R.length : Nat))), none, none, none]) (itemsT_ (call_of (cons_of rfl (cons_of rfl (cons_of rfl x_aNil))) (under_sp d1 d2 ht.tl (by omega) (by omega) M))) rfl ((lc_all (emb := cellD) (f := D.int ∘ at2 R) _ fun c hc => call_of (cons_of rfl (cons_of rfl x_aNil)) (height_sp ok (cells_in hc) M)).trans (by rw [List.map_map])) (by rw [List.length_map, List.length_map]; omega)) rfl ?_
  refine seq_as (M1 := M) (δ' := [some (fldD h R), some (fldD h S), some (cellD t), some (cellD p), some (cellD ((W : Nat), (R.length : Nat))), some (.lst (((cells (W : Nat) (R.length : Nat) p.1 p.2 (p.1 + t.1) (p.2 + t.1)).map (at2 R)).map D.int)), none, some (.lst (((ringC (W : Nat) (R.length : Nat) p t.1).map fun c => at2 S c - t.2).map D.int))]) (lc_ (δ1 := [some (fldD h R), some (fldD h S), some (cellD t), some (cellD p), some (cellD ((W : Nat), (R.length : Nat))), some (.lst (((cells (W : Nat) (R.length : Nat) p.1 p.2 (p.1 + t.1) (p.2 + t.1)).map (at2 R)).map D.int)), none, none]) (itemsT_ (call_of (cons_of rfl (cons_of rfl (cons_of rfl x_aNil))) (ring_sp d1 d2 ht.tl (by omega) (by omega) M))) rfl ((lc_all (emb := cellD) (f := D.int ∘ fun c => at2 S c - t.2) _ fun c hc => op_of (call_of (cons_of rfl (cons_of rfl x_aNil)) (height_sp os (by rw [hl]; exact ringC_in hc) M)) (op_of rfl x_eC ix_c1) rfl).trans (by rw [List.map_map])) (by rw [List.length_map, List.length_map]; omega)) rfl ?_
  refine ret_of (max_e ?_)
  unfold lowL
  rw [List.map_cons, List.map_append]
  refine (op_of (op_of (x_eLst (cons_of x_eC x_aNil) (by simp)) rfl (app_l (by rw [List.length_map, List.length_map]; simp; omega))) rfl (app_l (by simp; omega))).trans ?_
  rw [List.append_assoc]
  rfl
theorem srch {E : Option D → Pl.Env} {g : GF} {tf : TF} {e : EF} {M : Mh} {F : Int × Int → Int} {lim : Int} (hE : ∀ x d, g d (E x) = some (E (some d))) (hV : ∀ d, e (E (some d)) M = some (d, M)) : ∀ A : List (Int × Int), (∀ c ∈ A, tf (E (some (cellD c))) M = some (decide (lim < F c), M)) → ∀ x,
    ((∀ c ∈ A, F c ≤ lim) ∧ ∃ x', forGo g (sIf tf (sRet e) sNil) (A.map cellD) (E x) M = some (.nx (E x') M)) ∨ ∃ c ∈ A, lim < F c ∧ forGo g (sIf tf (sRet e) sNil) (A.map cellD) (E x) M = some (.rt (cellD c) M)
  | [], _, x => .inl ⟨fun c hc => (List.not_mem_nil hc).elim, x, forN_⟩
  | c :: A, ha, x => by
    have tc := ha c List.mem_cons_self
    rw [List.map_cons]
    by_cases hc : lim < F c
    · refine .inr ⟨c, List.mem_cons_self, hc, ?_⟩
      rw [decide_eq_true hc] at tc
      unfold forGo
      rw [hE]
      dsimp only
      rw [if_tt tc (ret_of (hV _))]
    · rw [decide_eq_false hc] at tc
      have st : sIf tf (sRet e) sNil (E (some (cellD c))) M = some (.nx (E (some (cellD c))) M) := if_ff tc nil_of
      rcases srch hE hV A (fun b hb => ha b (List.mem_cons_of_mem _ hb)) (some (cellD c)) with ⟨h1, x', h2⟩ | ⟨b, hb, h1, h2⟩
      · refine .inl ⟨fun b hb => ?_, x', forC_ (hE _ _) st h2⟩
        rcases List.mem_cons.mp hb with rfl | hb
        · omega
        · exact h1 b hb
      · exact .inr ⟨b, List.mem_cons_of_mem _ hb, h1, forC_ (hE _ _) st h2⟩
theorem ring_first (os : FldOk h S W) (ht : ToolOk t) {p : Int × Int} (hp : plB (W : Nat) (S.length : Nat) t.1 p = true) (z : Int) (M : Mh) :
    ((∀ c ∈ ringC (W : Nat) (S.length : Nat) p t.1, at2 S c ≤ z + t.2) ∧ ff_first_of_ring [fldD h S, cellD t, cellD p, .int z] M = some (.non, M)) ∨ ∃ c ∈ ringC (W : Nat) (S.length : Nat) p t.1, z + t.2 < at2 S c ∧ ff_first_of_ring [fldD h S, cellD t, cellD p, .int z] M = some (cellD c, M) := by
  obtain ⟨d1, d2⟩ := os.dim
  have hi := plB_in hp
  have ht' := ht.1
  have it : aItems (eCall ff_plain_ring (aCons (eCall ff_plain_sides (aCons (eVar 0) aNil) []) (aCons (eVar 1) (aCons (eVar 2) aNil))) []) [some (fldD h S), some (cellD t), some (cellD p), some (.int z), none] M = some ((ringC (W : Nat) (S.length : Nat) p t.1).map cellD, M) :=
    itemsT_ (call_of (cons_of (call_of (cons_of rfl x_aNil) (sides_sp os M)) (cons_of rfl (cons_of rfl x_aNil))) (ring_sp d1 d2 ht.tl (by omega) (by omega) M))
  rcases srch (E := fun x => [some (fldD h S), some (cellD t), some (cellD p), some (.int z), x]) (g := gN 4) (tf := tV (eOp (gInt fun i j => .bl (decide (j < i))) (eCall ff_height_of (aCons (eVar 0) (aCons (eVar 4) aNil)) []) (eOp gAdd (eVar 3) (eOp gIx (eVar 1) (eC (.int 1)))))) (e := eVar 4) (M := M) (F := at2 S) (lim := z + t.2) (fun _ _ => rfl) (fun _ => rfl) (ringC (W : Nat) (S.length : Nat) p t.1) (fun c hc => v_bl (op_of (call_of (cons_of rfl (cons_of rfl x_aNil)) (height_sp os (ringC_in hc) M)) (op_of rfl (op_of rfl x_eC ix_c1) rfl) rfl)) none with ⟨h1, x', h2⟩ | ⟨c, hc, h1, h2⟩
  · exact .inl ⟨h1, fn_rt (seq_nx (for_ it h2) (ret_of x_eC))⟩
  · refine .inr ⟨c, hc, h1, fn_rt ?_⟩
    show gg_first_of_ring [some (fldD h S), some (cellD t), some (cellD p), some (.int z), none] M = _
    unfold gg_first_of_ring sSeq sFor
    rw [it]
    dsimp only
    rw [h2]
theorem way_sp (ok : FldOk h R W) (os : FldOk h S W) (hl : S.length = R.length) (ht : ToolOk t) {p : Int × Int} (hp : plB (W : Nat) (R.length : Nat) t.1 p = true) {z : Int} (hz : 0 ≤ z) (M : Mh) :
    ∃ d, ff_first_in_way [fldD h R, fldD h S, cellD t, cellD p, .int z] M = some (d, M) ∧ ∀ M, gIsN (fun b => b) d .non M = some (.bl (decide (lowI R (at2 S) (W : Nat) (R.length : Nat) t p ≤ z)), M) := by
  obtain ⟨d1, d2⟩ := ok.dim
  have hi := plB_in hp
  have ht' := ht.1
  have it : aItems (eCall ff_plain_under (aCons (eVar 5) (aCons (eVar 2) (aCons (eVar 3) aNil))) []) [some (fldD h R), some (fldD h S), some (cellD t), some (cellD p), some (.int z), some (cellD ((W : Nat), (R.length : Nat))), none] M = some ((cells (W : Nat) (R.length : Nat) p.1 p.2 (p.1 + t.1) (p.2 + t.1)).map cellD, M) :=
    itemsT_ (call_of (cons_of rfl (cons_of rfl (cons_of rfl x_aNil))) (under_sp d1 d2 ht.tl (by omega) (by omega) M))
  have s0 : eCall ff_plain_sides (aCons (eVar 0) aNil) [] [some (fldD h R), some (fldD h S), some (cellD t), some (cellD p), some (.int z), none, none] M = some (cellD ((W : Nat), (R.length : Nat)), M) := call_of (cons_of rfl x_aNil) (sides_sp ok M)
  have up : ∀ c, (∃ b ∈ lowL R (at2 S) (W : Nat) (R.length : Nat) t p, z < b) → ∀ M, gIsN (fun b => b) (cellD c) .non M = some (.bl (decide (lowI R (at2 S) (W : Nat) (R.length : Nat) t p ≤ z)), M) := fun c ⟨b, hb, hz2⟩ M => by
    have := (maxI_le (lowL R (at2 S) (W : Nat) (R.length : Nat) t p) 0).2 b hb
    unfold lowI
    rw [decide_eq_false (by omega)]
    rfl
  rcases srch (E := fun x => [some (fldD h R), some (fldD h S), some (cellD t), some (cellD p), some (.int z), some (cellD ((W : Nat), (R.length : Nat))), x]) (g := gN 6) (tf := tV (eOp (gInt fun i j => .bl (decide (j < i))) (eCall ff_height_of (aCons (eVar 0) (aCons (eVar 6) aNil)) []) (eVar 4))) (e := eVar 6) (M := M) (F := at2 R) (lim := z) (fun _ _ => rfl) (fun _ => rfl) (cells (W : Nat) (R.length : Nat) p.1 p.2 (p.1 + t.1) (p.2 + t.1)) (fun c hc => v_bl (op_of (call_of (cons_of rfl (cons_of rfl x_aNil)) (height_sp ok (cells_in hc) M)) rfl rfl)) none with ⟨h1, x', h2⟩ | ⟨c, hc, h1, h2⟩
  · rcases ring_first os ht (p := p) (by rw [hl]; exact hp) z M with ⟨g1, g2⟩ | ⟨c, hc, g1, g2⟩
    · refine ⟨.non, fn_rt (seq_as (δ' := [some (fldD h R), some (fldD h S), some (cellD t), some (cellD p), some (.int z), some (cellD ((W : Nat), (R.length : Nat))), none]) s0 rfl (seq_nx (for_ it h2) (ret_of (call_of (cons_of rfl (cons_of rfl (cons_of rfl (cons_of rfl x_aNil)))) g2)))), fun M => ?_⟩
      have : lowI R (at2 S) (W : Nat) (R.length : Nat) t p ≤ z := by
        unfold lowI
        rcases List.mem_cons.mp (maxI_mem (lowL R (at2 S) (W : Nat) (R.length : Nat) t p) 0) with e | e
        · rw [e]; exact hz
        · revert e
          generalize maxI 0 (lowL R (at2 S) (W : Nat) (R.length : Nat) t p) = m
          intro e
          unfold lowL at e
          rcases List.mem_append.mp e with e | e
          · obtain ⟨c, hc, rfl⟩ := List.mem_map.mp e
            exact h1 c hc
          · obtain ⟨c, hc, rfl⟩ := List.mem_map.mp e
            have := g1 c (by rw [hl]; exact hc)
            omega
      rw [decide_eq_true this]
      rfl
    · refine ⟨cellD c, fn_rt (seq_as (δ' := [some (fldD h R), some (fldD h S), some (cellD t), some (cellD p), some (.int z), some (cellD ((W : Nat), (R.length : Nat))), none]) s0 rfl (seq_nx (for_ it h2) (ret_of (call_of (cons_of rfl (cons_of rfl (cons_of rfl (cons_of rfl x_aNil)))) g2)))), up c ⟨at2 S c - t.2, ?_, by omega⟩⟩
      rw [hl] at hc
      exact List.mem_append.mpr (.inr (List.mem_map.mpr ⟨c, hc, rfl⟩))
  · refine ⟨cellD c, fn_rt ?_, up c ⟨at2 R c, List.mem_append.mpr (.inl (List.mem_map.mpr ⟨c, hc, rfl⟩)), h1⟩⟩
    show gg_first_in_way [some (fldD h R), some (fldD h S), some (cellD t), some (cellD p), some (.int z), none, none] M = _
    unfold gg_first_in_way
    refine seq_as (δ' := [some (fldD h R), some (fldD h S), some (cellD t), some (cellD p), some (.int z), some (cellD ((W : Nat), (R.length : Nat))), none]) s0 rfl ?_
    unfold sSeq sFor
    rw [it]
    dsimp only
    rw [h2]
theorem need_height_ok {z : Int} (hz : 0 ≤ z ∧ z ≤ h) (M : Mh) : ff_need_height ct [fldD h R, .int z] M = some (.non, M) := by
  refine fnN_ (δ' := [some (fldD h R), some (.int z)]) ?_
  show gg_need_height ct [some (fldD h R), some (.int z)] M = _
  unfold gg_need_height
  refine if_ff (nt_of (b := true) (v_bl (call_of (cons_of rfl (cons_of x_eC (cons_of (op_of rfl x_eC rfl) x_aNil))) ((amongI z 0 h M).trans ?_)))) nil_of
  rw [decide_eq_true hz.1, decide_eq_true hz.2]
  rfl
theorem may_stand_sp (ok : FldOk h R W) (os : FldOk h S W) (hl : S.length = R.length) (ht : ToolOk t) {p : Int × Int} (hp : plB (W : Nat) (R.length : Nat) t.1 p = true) {z : Int} (hz : 0 ≤ z ∧ z ≤ h) (M : Mh) : ff_may_stand ct [fldD h R, fldD h S, cellD t, cellD p, .int z] M = some (.bl (decide (lowI R (at2 S) (W : Nat) (R.length : Nat) t p ≤ z)), M) := by
  obtain ⟨d, e1, e2⟩ := way_sp ok os hl ht hp hz.1 M
  refine fn_rt ?_
  show gg_may_stand ct [some (fldD h R), some (fldD h S), some (cellD t), some (cellD p), some (.int z)] M = _
  unfold gg_may_stand
  refine seq_nx (se_ (call_of (cons_of rfl (cons_of rfl x_aNil)) (need_stock_ok ok os hl M))) (seq_nx (se_ (call_of (cons_of rfl (cons_of rfl (cons_of rfl x_aNil))) (need_seat_ok ok ht hp M))) (seq_nx (se_ (call_of (cons_of rfl (cons_of rfl x_aNil)) (need_height_ok hz M))) ?_))
  exact ret_of (op_of (call_of (cons_of rfl (cons_of rfl (cons_of rfl (cons_of rfl (cons_of rfl x_aNil))))) e1) x_eC (e2 M))
end
end Law
namespace Law
open PySem L2 Pl Pl.Ev
theorem add_ref {A B : List D} {n : Nat} {M : Mh} (hM : M[n]? = some (.lst B)) (h : A.length + B.length ≤ 1000) : gAdd (.lst A) (.ref n) M = some (.lst (A ++ B), M) := by
  show (match lstT M (.lst A), lstT M (.ref n) with
    | some xs, some ys => if xs.length + ys.length ≤ sizeLine then some (D.lst (xs ++ ys), M) else none
    | _, _ => none) = _
  have e1 : lstT M (.lst A) = some A := rfl
  have e2 : lstT M (.ref n) = some B := by
    unfold lstT
    dsimp only
    rw [hM]
  rw [e1, e2]
  exact if_pos (Nat.le_trans h (by decide))
theorem lcLive_ {vs : List Nat} {q : AF} {p : GF} {t : TF} {f : EF} {ds ys : List D} {δ δ1 : Pl.Env} {M M1 M2 : Mh} (h : q δ M = some (ds, M1)) (hw : (some (wipeD δ vs) : Option Pl.Env) = some δ1) (k : lcGo p t f ds δ1 M1 = some (ys, M2)) (hl : ys.length ≤ 1000) : eLcN vs q p t f δ M = some (.ref M2.length, M2 ++ [.lst ys]) := by
  cases hw
  unfold eLcN
  rw [h]
  dsimp only
  rw [k]
  exact if_pos (Nat.le_trans hl (by decide))
section
variable {h : Int} {R : List (List Int)} {W : Nat} {t : Int × Int}
noncomputable def sLow : SF := sIf (tV (eOp (gIn fun b => !b) (eVar 6) (eVar 4))) (sE (eMeth2 gApp (eVar 5) (aCons (eOp (gInt fun i j => .int (i - j)) (eOp gIxC (eVar 1) (eVar 6)) (eOp gIx (eVar 2) (eC (.int 1)))) aNil))) sNil
theorem low_go {a s : Option D} {k : Nat} {g : Int × Int → Int} {C U : List (Int × Int)} {P q : Mh} (hk : P[k]? = some (.dct (dctOf g C))) : ∀ (A : List (Int × Int)) (acc : List Int) (x : Option D), (∀ c ∈ A, c ∈ C) → acc.length + A.length ≤ 900 →
    ∃ x', forGo (gN 6) sLow (A.map cellD) [a, some (.ref k), some (cellD t), s, some (.lst (U.map cellD)), some (.ref P.length), x] (P ++ (.lst (acc.map D.int) :: q)) = some (.nx [a, some (.ref k), some (cellD t), s, some (.lst (U.map cellD)), some (.ref P.length), x'] (P ++ (.lst ((acc ++ (A.filter fun c => !decide (c ∈ U)).map fun c => g c - t.2).map D.int) :: q)))
  | [], acc, x, _, _ => ⟨x, by simp only [List.filter_nil, List.map_nil, List.append_nil]; exact forN_⟩
  | c :: A, acc, x, hA, hl => by
    rw [List.length_cons] at hl
    have lt := (List.getElem?_eq_some_iff.mp hk).1
    have tst : tV (eOp (gIn fun b => !b) (eVar 6) (eVar 4)) [a, some (.ref k), some (cellD t), s, some (.lst (U.map cellD)), some (.ref P.length), some (cellD c)] (P ++ (.lst (acc.map D.int) :: q)) = some (!decide (c ∈ U), P ++ (.lst (acc.map D.int) :: q)) := v_bl (op_of rfl rfl (in_cells (fun b => !b) c U _).2)
    rw [List.map_cons, List.filter_cons]
    cases hd : (!decide (c ∈ U)) with
    | true =>
      rw [hd] at tst
      obtain ⟨x', ih⟩ := low_go (a := a) (s := s) (U := U) (q := q) hk A (acc ++ [g c - t.2]) (some (cellD c)) (fun b hb => hA b (List.mem_cons_of_mem _ hb)) (by rw [List.length_append]; simp; omega)
      rw [List.append_assoc] at ih
      refine ⟨x', ?_⟩
      rw [if_pos rfl]
      refine forC_ (δ1 := [a, some (.ref k), some (cellD t), s, some (.lst (U.map cellD)), some (.ref P.length), some (cellD c)]) (δ2 := [a, some (.ref k), some (cellD t), s, some (.lst (U.map cellD)), some (.ref P.length), some (cellD c)]) (M2 := P ++ (.lst ((acc ++ [g c - t.2]).map D.int) :: q)) rfl (if_tt tst (se_ (d := .non) ?_)) ih
      rw [List.map_append]
      refine app_mid rfl (cons_of (op_of (ixC_e (A := C) rfl ?_ rfl (hA c List.mem_cons_self)) (op_of rfl x_eC ix_c1) rfl) x_aNil) (by rw [List.length_map]; omega)
      rw [List.getElem?_append_left lt]
      exact hk
    | false =>
      rw [hd] at tst
      obtain ⟨x', ih⟩ := low_go (a := a) (s := s) (U := U) (q := q) hk A acc (some (cellD c)) (fun b hb => hA b (List.mem_cons_of_mem _ hb)) (by omega)
      refine ⟨x', ?_⟩
      rw [if_neg (by decide)]
      exact forC_ (δ1 := [a, some (.ref k), some (cellD t), s, some (.lst (U.map cellD)), some (.ref P.length), some (cellD c)]) (δ2 := [a, some (.ref k), some (cellD t), s, some (.lst (U.map cellD)), some (.ref P.length), some (cellD c)]) (M2 := P ++ (.lst (acc.map D.int) :: q)) rfl (if_ff tst nil_of) ih
theorem lowL_eq {F : Int × Int → Int} {p : Int × Int} {W' L : Int} : (nearC W' L p t.1 0).map (at2 R) ++ ((nearC W' L p t.1 1).filter fun c => !decide (c ∈ nearC W' L p t.1 0)).map (fun c => F c - t.2) = lowL R F W' L t p := by
  unfold lowL
  rw [ring_eq, under_eq]
theorem low_sp (ok : FldOk h R W) {k : Nat} {g : Int × Int → Int} {M : Mh} (hM : M[k]? = some (.dct (dctOf g (allC (W : Nat) (R.length : Nat))))) (p : Int × Int) :
    ∃ l, ff_law_low [fldD h R, .ref k, cellD t, cellD p] M = some (.int (lowI R g (W : Nat) (R.length : Nat) t p), M ++ l) := by
  obtain ⟨d1, d2⟩ := ok.dim
  have lt := (List.getElem?_eq_some_iff.mp hM).1
  have n0 := near_len (W := (W : Nat)) (L := (R.length : Nat)) (p := p) (s := t.1) (m := 0) d1 d2
  have n1 := near_len (W := (W : Nat)) (L := (R.length : Nat)) (p := p) (s := t.1) (m := 1) d1 d2
  have hP : (M ++ [MO.dead, .dead])[k]? = some (.dct (dctOf g (allC (W : Nat) (R.length : Nat)))) := by rw [List.getElem?_append_left lt]; exact hM
  have e1 : eCall ff_law_near (aCons (eVar 0) (aCons (eVar 3) (aCons (eOp gIx (eVar 2) (eC (.int 0))) (aCons (eC (.int 0)) aNil)))) [] [some (fldD h R), some (.ref k), some (cellD t), some (cellD p), none, none, none] M = some (.lst ((nearC (W : Nat) (R.length : Nat) p t.1 0).map cellD), M ++ [.dead, .dead]) := call_of (cons_of rfl (cons_of rfl (cons_of (op_of rfl x_eC ix_c0) (cons_of x_eC x_aNil)))) (near_sp ok p t.1 0 M)
  have e2 := lcLive_ (vs := [6]) (q := aItems (eVar 4)) (p := gN 6) (t := tTrue) (f := eCall ff_law_aim (aCons (eVar 0) (aCons (eVar 6) aNil)) []) (δ := [some (fldD h R), some (.ref k), some (cellD t), some (cellD p), some (.lst ((nearC (W : Nat) (R.length : Nat) p t.1 0).map cellD)), none, none]) (δ1 := [some (fldD h R), some (.ref k), some (cellD t), some (cellD p), some (.lst ((nearC (W : Nat) (R.length : Nat) p t.1 0).map cellD)), none, none]) (M := M ++ [.dead, .dead]) (itemsL_ rfl) rfl ((lc_all (emb := cellD) (f := D.int ∘ at2 R) _ fun c hc => call_of (cons_of rfl (cons_of rfl x_aNil)) (aim_sp ok (near_in hc) _)).trans (by rw [← List.map_map])) (by rw [List.length_map, List.length_map]; omega)
  obtain ⟨x', go⟩ := low_go (t := t) (a := some (fldD h R)) (s := some (cellD p)) (U := nearC (W : Nat) (R.length : Nat) p t.1 0) (q := [.dead, .dead]) hP (nearC (W : Nat) (R.length : Nat) p t.1 1) ((nearC (W : Nat) (R.length : Nat) p t.1 0).map (at2 R)) none (fun c hc => (List.mem_filter.mp hc).1) (by rw [List.length_map]; omega)
  rw [lowL_eq] at go
  refine ⟨[.dead, .dead] ++ (.lst ((lowL R g (W : Nat) (R.length : Nat) t p).map D.int) :: [.dead, .dead]), fn_rt ?_⟩
  rw [← List.append_assoc]
  show gg_law_low [some (fldD h R), some (.ref k), some (cellD t), some (cellD p), none, none, none] M = _
  unfold gg_law_low
  refine seq_as (δ' := [some (fldD h R), some (.ref k), some (cellD t), some (cellD p), some (.lst ((nearC (W : Nat) (R.length : Nat) p t.1 0).map cellD)), none, none]) e1 rfl ?_
  refine seq_as (δ' := [some (fldD h R), some (.ref k), some (cellD t), some (cellD p), some (.lst ((nearC (W : Nat) (R.length : Nat) p t.1 0).map cellD)), some (.ref (M ++ [MO.dead, .dead]).length), none]) e2 rfl ?_
  have it : aItems (eCall ff_law_near (aCons (eVar 0) (aCons (eVar 3) (aCons (eOp gIx (eVar 2) (eC (.int 0))) (aCons (eC (.int 1)) aNil)))) []) [some (fldD h R), some (.ref k), some (cellD t), some (cellD p), some (.lst ((nearC (W : Nat) (R.length : Nat) p t.1 0).map cellD)), some (.ref (M ++ [MO.dead, .dead]).length), none] ((M ++ [MO.dead, .dead]) ++ [.lst (((nearC (W : Nat) (R.length : Nat) p t.1 0).map (at2 R)).map D.int)]) = some ((nearC (W : Nat) (R.length : Nat) p t.1 1).map cellD, (M ++ [MO.dead, .dead]) ++ (.lst (((nearC (W : Nat) (R.length : Nat) p t.1 0).map (at2 R)).map D.int) :: [.dead, .dead])) := by
    refine itemsL_ (call_of (cons_of rfl (cons_of rfl (cons_of (op_of rfl x_eC ix_c0) (cons_of x_eC x_aNil)))) ((near_sp ok p t.1 1 _).trans ?_))
    rw [List.append_assoc]
    rfl
  refine seq_nx (for_ it go) (ret_of (max_e (m := 0) (is := lowL R g (W : Nat) (R.length : Nat) t p) ?_))
  rw [List.map_cons]
  refine op_of (x_eLst (cons_of x_eC x_aNil) (by simp)) rfl (add_ref (by simp) ?_)
  unfold lowL
  rw [← under_eq, ← ring_eq]
  have := List.length_filter_le (fun c => !decide (c ∈ nearC (W : Nat) (R.length : Nat) p t.1 0)) (nearC (W : Nat) (R.length : Nat) p t.1 1)
  simp
  omega
theorem low_rows {g : Int × Int → Int} {L : Nat} {p : Int × Int} : lowI R (at2 (rowsOf g W L)) (W : Nat) (L : Nat) t p = lowI R g (W : Nat) (L : Nat) t p := by
  unfold lowI lowL
  congr 2
  exact List.map_congr_left fun c hc => by rw [at_rows (ringC_in hc)]
end
end Law
namespace Law
open PySem L2 Pl Pl.Ev
theorem zr_nodup (a b : Int) : (zr a b).Nodup := by
  unfold zr
  exact List.Pairwise.map _ (fun x y hxy => by
    show a + (x : Int) ≠ a + (y : Int)
    omega) List.nodup_range
theorem prod_nodup : ∀ {A B : List Int}, A.Nodup → B.Nodup → (prod A B).Nodup
  | [], B, _, _ => List.nodup_nil
  | i :: A, B, hA, hB => by
    rw [prod_cons]
    have hA' := List.nodup_cons.mp hA
    refine List.nodup_append.mpr ⟨List.Pairwise.map _ (fun x y hxy q => hxy (Prod.mk.inj q).2) hB, prod_nodup hA'.2 hB, fun x hx y hy e => ?_⟩
    subst e
    obtain ⟨j, _, rfl⟩ := List.mem_map.mp hx
    exact hA'.1 (prod_mem.mp hy).1
theorem allC_nodup (W L : Int) : (allC W L).Nodup := prod_nodup (zr_nodup _ _) (zr_nodup _ _)
theorem dct_keys {g : Int × Int → Int} {A : List (Int × Int)} (h : A.Nodup) : ((dctOf g A).map (·.1)).Nodup := by
  unfold dctOf
  rw [List.map_map]
  exact List.Pairwise.map _ (fun x y hxy q => hxy (by
    have q' : ([x.1, x.2] : List Int) = [y.1, y.2] := q
    simp only [List.cons.injEq, and_true] at q'
    exact Prod.ext q'.1 q'.2)) h
theorem pairs_dct {g : Int × Int → Int} : ∀ A : List (Int × Int), pairsD (A.map fun c => D.tup [cellD c, .int (g c)]) = some (dctOf g A)
  | [] => rfl
  | c :: A => by
    have ih := pairs_dct (g := g) A
    rw [List.map_cons]
    unfold cellD at ih ⊢
    unfold pairsD
    rw [ih]
    rfl
theorem dict_e {f : EF} {δ : Pl.Env} {M M1 : Mh} {g : Int × Int → Int} {A : List (Int × Int)} (h : f δ M = some (.lst (A.map fun c => D.tup [cellD c, .int (g c)]), M1)) (hA : A.Nodup) : eB gDictC (aCons f aNil) δ M = some (.ref M1.length, M1 ++ [.dct (dctOf g A)]) := by
  rw [x_eB, cons_of h x_aNil]
  show gDictC [.lst (A.map fun c => D.tup [cellD c, .int (g c)])] M1 = _
  unfold gDictC
  dsimp only [lstOf]
  rw [pairs_dct]
  dsimp only
  rw [if_pos (dct_keys hA)]
section
variable {ct : CT} {h : Int} {R : List (List Int)} {W : Nat}
theorem full_sp (ok : FldOk h R W) (M : Mh) : ff_law_full [fldD h R] M = some (.ref (M ++ [MO.dead]).length, (M ++ [.dead]) ++ [.dct (dctOf (fun _ => h) (allC (W : Nat) (R.length : Nat)))]) := by
  obtain ⟨d1, d2⟩ := ok.dim
  have al := allC_len d1 d2
  refine fn_rt ?_
  show gg_law_full [some (fldD h R), none] M = _
  unfold gg_law_full
  refine ret_of (dict_e (g := fun _ => h) (A := allC (W : Nat) (R.length : Nat)) (lc_ (δ1 := [some (fldD h R), none]) (itemsL_ (call_of (cons_of rfl x_aNil) (cells_sp ok M))) rfl (lc_all (emb := cellD) (f := fun c => D.tup [cellD c, .int h]) _ fun c hc => x_eTup (cons_of rfl (cons_of (op_of rfl x_eC rfl) x_aNil)) (by simp)) (by rw [List.length_map]; omega)) (allC_nodup _ _))
noncomputable def eStk : EF := eTup (aCons (eVar 3) (aCons (eOp (gIntC (fun _ j => j ≠ 0) fun i j => .int (i.fmod j)) (eCall ff_law_digit (aCons (eVar 0) (aCons (eVar 2) aNil)) []) (eOp gAdd (eOp gIx (eVar 1) (eC (.int 0))) (eC (.int 1)))) aNil))
theorem stock_go {Ts : Mh} {n : Nat} {m : Int} (hh : 1 ≤ h ∧ h ≤ 6) (hm : 1 ≤ m ∧ m ≤ 10) (x : Option D) : ∀ (A : List (Int × Int)), A.Nodup → ∀ (B : Int) (M : Mh), Bz Ts n B M → B + 4 * A.length < 2 ^ 56 →
    ∃ (g : Int × Int → Int) (M' : Mh), (∀ c, 0 ≤ g c ∧ g c ≤ h) ∧ lcGo (gN 3) tTrue eStk (A.map cellD) [some (.ref n), some (fldD h R), some (.int m), x] M = some (A.map fun c => D.tup [cellD c, .int (g c)], M') ∧ Bz Ts n (B + 4 * A.length) M'
  | [], _, B, M, p, _ => ⟨fun _ => 0, M, fun c => ⟨Int.le_refl _, show (0 : Int) ≤ h by omega⟩, lcN_, p.up (by simp)⟩
  | c :: A, nd, B, M, p, hB => by
    rw [List.length_cons] at hB ⊢
    have nd' := List.nodup_cons.mp nd
    obtain ⟨f, M1, e1, f1, p1, _⟩ := dgB (i := 0) (fm := eVar 2) (many := m) (δ := [some (.ref n), some (fldD h R), some (.int m), some (cellD c)]) rfl rfl p (by omega) (by omega) (by omega)
    obtain ⟨g, M', hg, e2, p2⟩ := stock_go hh hm x A nd'.2 (B + 4) M1 p1 (by omega)
    have v0 : 0 ≤ Int.fmod (f : Int) (h + 1) := Int.fmod_nonneg_of_pos _ (by omega)
    have v1 : Int.fmod (f : Int) (h + 1) < h + 1 := Int.fmod_lt_of_pos _ (by omega)
    refine ⟨fun z => if z = c then Int.fmod (f : Int) (h + 1) else g z, M', fun z => ?_, ?_, p2.up (by omega)⟩
    · show 0 ≤ (if z = c then Int.fmod (f : Int) (h + 1) else g z) ∧ (if z = c then Int.fmod (f : Int) (h + 1) else g z) ≤ h
      split
      · omega
      · exact hg z
    · rw [List.map_cons, List.map_cons]
      have em : (A.map fun z => D.tup [cellD z, .int (if z = c then Int.fmod (f : Int) (h + 1) else g z)]) = A.map fun z => D.tup [cellD z, .int (g z)] := List.map_congr_left fun z hz => by
        rw [if_neg (fun e => nd'.1 (by rw [← e]; exact hz))]
      have ec : (if c = c then Int.fmod (f : Int) (h + 1) else g c) = Int.fmod (f : Int) (h + 1) := if_pos rfl
      dsimp only
      rw [em, ec]
      refine lcC_ (x := true) (M1 := M) (δ1 := [some (.ref n), some (fldD h R), some (.int m), some (cellD c)]) rfl tt_ (lcY_ (p := gN 3) (t := tTrue) (ds := A.map cellD) (δ := [some (.ref n), some (fldD h R), some (.int m), x]) (δ1 := [some (.ref n), some (fldD h R), some (.int m), some (cellD c)]) (x_eTup (ds := [cellD c, .int (Int.fmod (f : Int) (h + 1))]) (cons_of rfl (cons_of (op_of e1 (op_of (op_of rfl x_eC rfl) x_eC rfl) ?_) x_aNil)) (by simp)) e2)
      exact if_pos (show h + 1 ≠ 0 by omega)
theorem stock_sp (ok : FldOk h R W) {Ts : Mh} {n : Nat} {B : Int} {M : Mh} (p : Bz Ts n B M) (hB : B < 2 ^ 54) :
    ∃ (g : Int × Int → Int) (k : Nat) (M' : Mh), ff_law_stock [.ref n, fldD h R] M = some (.ref k, M') ∧ (∀ c, 0 ≤ g c ∧ g c ≤ h) ∧ M'[k]? = some (.dct (dctOf g (allC (W : Nat) (R.length : Nat)))) ∧ Bz Ts n (B + 300) M' := by
  obtain ⟨d1, d2⟩ := ok.dim
  have al := allC_len d1 d2
  have hh := ok.h1
  obtain ⟨d, M1, e1, m1, p1⟩ := pick_e (many := 2) (xs := [.int (h + 1), .int 2]) (fl := eLst (aCons (eOp gAdd (eOp gIx (eVar 1) (eC (.int 0))) (eC (.int 1))) (aCons (eC (.int 2)) aNil))) (δ := [some (.ref n), some (fldD h R), none, none]) rfl (x_eLst (cons_of (op_of (op_of rfl x_eC rfl) x_eC rfl) (cons_of x_eC x_aNil)) (by simp)) rfl p (by omega) (by omega) (by omega)
  have hd : ∃ m : Int, d = .int m ∧ 1 ≤ m ∧ m ≤ 10 := by
    simp only [List.mem_cons, List.not_mem_nil, or_false] at m1
    rcases m1 with rfl | rfl
    · exact ⟨h + 1, rfl, by omega, by omega⟩
    · exact ⟨2, rfl, by omega, by omega⟩
  obtain ⟨m, rfl, hm⟩ := hd
  obtain ⟨g, M2, hg, e2, p2⟩ := stock_go (R := R) hh hm none (allC (W : Nat) (R.length : Nat)) (allC_nodup _ _) _ _ (p1.apps [.dead]) (by omega)
  refine ⟨g, M2.length, M2 ++ [.dct (dctOf g (allC (W : Nat) (R.length : Nat)))], fn_rt ?_, hg, by simp, (p2.apps _).up (by omega)⟩
  show gg_law_stock [some (.ref n), some (fldD h R), none, none] M = _
  unfold gg_law_stock
  refine seq_as (M1 := M1) (δ' := [some (.ref n), some (fldD h R), some (.int m), none]) e1 rfl ?_
  exact ret_of (dict_e (lc_ (δ1 := [some (.ref n), some (fldD h R), some (.int m), none]) (itemsL_ (call_of (cons_of rfl x_aNil) (cells_sp ok M1))) rfl e2 (by rw [List.length_map]; omega)) (allC_nodup _ _))
theorem solid_sp (ok : FldOk h R W) (M : Mh) : ff_solid ct [fldD h R] M = some (fldD h (R.map fun r => r.map fun _ => h), M) := by
  have w := ok.w
  have l := ok.l
  refine fn_rt ?_
  show gg_solid ct [some (fldD h R), none, none, none] M = _
  unfold gg_solid
  refine seq_nx (se_ (call_of (cons_of rfl x_aNil) (need_field_ok ok M))) ?_
  refine seq_as (M1 := M) (δ' := [some (fldD h R), some (.int h), none, none]) (op_of rfl x_eC rfl) rfl ?_
  have inner : ∀ r ∈ R, eB gTupOf (aCons (eLc [2] (aItems (eVar 3)) (gN 2) tTrue (eVar 1)) aNil) (([some (fldD h R), some (.int h), none, none] : Pl.Env).set 3 (some (.tup (r.map D.int)))) M = some (.tup ((r.map fun _ => h).map D.int), M) := fun r hr => by
    have lr := (ok.r r hr).1
    refine tupL ?_
    rw [List.map_map]
    exact lc_ (δ1 := [some (fldD h R), some (.int h), none, some (.tup (r.map D.int))]) (itemsT_ rfl) rfl (lc_all (emb := D.int) (f := D.int ∘ fun _ => h) _ fun i hi => rfl) (by rw [List.length_map]; omega)
  refine ret_of (tup_ (ds := [.int h, .tup ((R.map fun r => r.map fun _ => h).map fun r => .tup (r.map D.int))]) (cons_of rfl (cons_of (tupL (lc_ (δ1 := [some (fldD h R), some (.int h), none, none]) (itemsT_ (ds := R.map fun (r : List Int) => D.tup (r.map D.int)) (op_of rfl x_eC rfl)) rfl ((lc_all (emb := fun (r : List Int) => D.tup (r.map D.int)) (f := fun (r : List Int) => D.tup ((r.map fun _ => h).map D.int)) _ inner).trans ?_) ?_)) x_aNil)) (by simp))
  · rw [List.map_map]
    rfl
  · rw [List.length_map, List.length_map]; omega
theorem solid_eq (ok : FldOk h R W) : (R.map fun r => r.map fun _ => h) = rowsOf (fun _ => h) W R.length := by
  have e1 : (R.map fun r => r.map fun _ => h) = List.replicate R.length (List.replicate W h) := by
    rw [List.eq_replicate_iff]
    refine ⟨by rw [List.length_map], fun r hr => ?_⟩
    obtain ⟨q, hq, rfl⟩ := List.mem_map.mp hr
    rw [List.eq_replicate_iff]
    refine ⟨by rw [List.length_map]; exact (ok.r q hq).1, fun x hx => ?_⟩
    obtain ⟨_, _, rfl⟩ := List.mem_map.mp hx
    rfl
  have e2 : rowsOf (fun _ => h) W R.length = List.replicate R.length (List.replicate W h) := by
    rw [List.eq_replicate_iff]
    refine ⟨rows_len _ _ _, fun r hr => ?_⟩
    unfold rowsOf at hr
    obtain ⟨q, hq, rfl⟩ := List.mem_map.mp hr
    rw [List.eq_replicate_iff]
    refine ⟨by rw [List.length_map, zr_len]; omega, fun x hx => ?_⟩
    obtain ⟨_, _, rfl⟩ := List.mem_map.mp hx
    rfl
  rw [e1, e2]
theorem nz_fld (ok : FldOk h R W) : Nz 300000 3 (fldD h R) := by
  have hh := ok.h1
  have i : ∀ x : Int, 0 ≤ x ∧ x ≤ 6 → Nz 1921 0 (.int x) := fun x hx => nz_int ⟨hx.1, by omega⟩
  have rw_ : ∀ r ∈ R, Nz 15387 1 (.tup (r.map D.int)) := fun r hr => (nz_tup 8 (n := 1921) (k := 0) (fun d hd => by
    obtain ⟨x, hx, rfl⟩ := List.mem_map.mp hd
    have := (ok.r r hr).2 x hx
    exact i x (by omega)) (by rw [List.length_map, (ok.r r hr).1]; exact ok.w.2)).mono (by decide) (by decide)
  have rs : Nz 123115 2 (.tup (R.map fun r => .tup (r.map D.int))) := (nz_tup 8 (n := 15387) (k := 1) (fun d hd => by
    obtain ⟨r, hr, rfl⟩ := List.mem_map.mp hd
    exact rw_ r hr) (by rw [List.length_map]; exact ok.l.2)).mono (by decide) (by decide)
  exact (nz_tup 2 (n := 123115) (k := 2) (fun d hd => by
    simp only [List.mem_cons, List.not_mem_nil, or_false] at hd
    rcases hd with rfl | rfl
    · exact (i h (by omega)).mono (by decide) (by decide)
    · exact rs) (by simp)).mono (by decide) (by decide)
end
end Law
namespace Law
open PySem L2 Pl Pl.Ev
theorem kinds_fl {ct : CT} {t : Value → Option Bool} {a : Nat} {M : Mh} (is : (isal ct).map t = [some false, some false, some false, some false, some false, some true, some false, some false, some false, some false, some false, some false, some false, some false, some false, some false, some false, some false, some false, some false, some false, some false, some false, some true, some true, some false, some false, some false, some false, some false]) (ie : ∀ (d : D) (cv : Value) (b : Bool), clV d = some cv → t cv = some b → gIsiF ct.isa [.ref a, d] M = some (.bl b, M)) : ff_law_kinds ct [.ref a] M = some (.lst [.str "field", .str "ours", .str "value"], M) := by
  unfold isal at is
  simp only [List.map_cons, List.map_nil, List.cons.injEq, and_true] at is
  obtain ⟨i1, i2, i3, i4, i5, i6, i7, i8, i9, i10, i11, i12, i13, i14, i15, i16, i17, i18, i19, i20, i21, i22, i23, i24, i25, i26, i27, i28, i29, i30⟩ := is
  have e1 : ∀ {δ : Pl.Env} {d : D} {cv : Value} {b : Bool}, δ[0]? = some (some (.ref a)) → clV d = some cv → t cv = some b → eB (gIsiF ct.isa) (aCons (eVar 0) (aCons (eC d) aNil)) δ M = some (.bl b, M) := fun {δ d cv b} h1 h2 h3 => by
    rw [x_eB, cons_of (d := .ref a) (M1 := M) (var_ h1) (cons_of (d := d) (M1 := M) x_eC x_aNil)]
    exact ie d cv b h2 h3
  have one : ∀ {δ : Pl.Env} {x : Str} {c1 : D} {v1 : Value} {b1 : Bool}, δ[0]? = some (some (.ref a)) → clV c1 = some v1 → t v1 = some b1 →
      eLst (aCons (eTup (aCons (eC (.str x)) (aCons (eB (gIsiF ct.isa) (aCons (eVar 0) (aCons (eC c1) aNil))) aNil))) aNil) δ M = some (.lst [.tup [.str x, .bl b1]], M) := fun h0 h1 h2 =>
    x_eLst (cons_of (x_eTup (cons_of x_eC (cons_of (e1 h0 h1 h2) x_aNil)) (by simp)) x_aNil) (by simp)
  have two : ∀ {δ : Pl.Env} {x y : Str} {c1 c2 : D} {v1 v2 : Value} {b1 b2 : Bool}, δ[0]? = some (some (.ref a)) → clV c1 = some v1 → t v1 = some b1 → clV c2 = some v2 → t v2 = some b2 →
      eLst (aCons (eTup (aCons (eC (.str x)) (aCons (eB (gIsiF ct.isa) (aCons (eVar 0) (aCons (eC c1) aNil))) aNil))) (aCons (eTup (aCons (eC (.str y)) (aCons (eB (gIsiF ct.isa) (aCons (eVar 0) (aCons (eC c2) aNil))) aNil))) aNil)) δ M = some (.lst [.tup [.str x, .bl b1], .tup [.str y, .bl b2]], M) := fun h0 h1 h2 h3 h4 =>
    x_eLst (cons_of (x_eTup (cons_of x_eC (cons_of (e1 h0 h1 h2) x_aNil)) (by simp)) (cons_of (x_eTup (cons_of x_eC (cons_of (e1 h0 h3 h4) x_aNil)) (by simp)) x_aNil)) (by simp)
  refine fn_ (δ0 := [some (.ref a), none, none, none]) rfl ?_
  unfold gg_law_kinds
  refine seq_as (M1 := M) (δ' := [some (.ref a), some (.lst [.tup [.str "row", .bl false], .tup [.str "sketch", .bl false]]), none, none]) (two rfl rfl i1 rfl i2) rfl ?_
  refine seq_as (M1 := M) (δ' := [some (.ref a), some (.lst [.tup [.str "row", .bl false], .tup [.str "sketch", .bl false], .tup [.str "block", .bl false], .tup [.str "outline", .bl false]]), none, none]) (op_of rfl (two rfl rfl i3 rfl i4) (app_l (by simp))) rfl ?_
  refine seq_as (M1 := M) (δ' := [some (.ref a), some (.lst [.tup [.str "row", .bl false], .tup [.str "sketch", .bl false], .tup [.str "block", .bl false], .tup [.str "outline", .bl false], .tup [.str "feature", .bl false], .tup [.str "field", .bl true]]), none, none]) (op_of rfl (two rfl rfl i5 rfl i6) (app_l (by simp))) rfl ?_
  refine seq_as (M1 := M) (δ' := [some (.ref a), some (.lst [.tup [.str "row", .bl false], .tup [.str "sketch", .bl false], .tup [.str "block", .bl false], .tup [.str "outline", .bl false], .tup [.str "feature", .bl false], .tup [.str "field", .bl true], .tup [.str "tools", .bl false], .tup [.str "way", .bl false]]), none, none]) (op_of rfl (two rfl rfl i7 rfl i8) (app_l (by simp))) rfl ?_
  refine seq_as (M1 := M) (δ' := [some (.ref a), some (.lst [.tup [.str "row", .bl false], .tup [.str "sketch", .bl false], .tup [.str "block", .bl false], .tup [.str "outline", .bl false], .tup [.str "feature", .bl false], .tup [.str "field", .bl true], .tup [.str "tools", .bl false], .tup [.str "way", .bl false], .tup [.str "paper", .bl false], .tup [.str "clash", .bl false]]), none, none]) (op_of rfl (two rfl rfl i9 rfl i10) (app_l (by simp))) rfl ?_
  refine seq_as (M1 := M) (δ' := [some (.ref a), some (.lst [.tup [.str "row", .bl false], .tup [.str "sketch", .bl false], .tup [.str "block", .bl false], .tup [.str "outline", .bl false], .tup [.str "feature", .bl false], .tup [.str "field", .bl true], .tup [.str "tools", .bl false], .tup [.str "way", .bl false], .tup [.str "paper", .bl false], .tup [.str "clash", .bl false], .tup [.str "twice", .bl false], .tup [.str "place", .bl false]]), none, none]) (op_of rfl (two rfl rfl i11 rfl i12) (app_l (by simp))) rfl ?_
  refine seq_as (M1 := M) (δ' := [some (.ref a), some (.lst [.tup [.str "row", .bl false], .tup [.str "sketch", .bl false], .tup [.str "block", .bl false], .tup [.str "outline", .bl false], .tup [.str "feature", .bl false], .tup [.str "field", .bl true], .tup [.str "tools", .bl false], .tup [.str "way", .bl false], .tup [.str "paper", .bl false], .tup [.str "clash", .bl false], .tup [.str "twice", .bl false], .tup [.str "place", .bl false], .tup [.str "great", .bl false], .tup [.str "point", .bl false]]), none, none]) (op_of rfl (two rfl rfl i13 rfl i14) (app_l (by simp))) rfl ?_
  refine seq_as (M1 := M) (δ' := [some (.ref a), some (.lst [.tup [.str "row", .bl false], .tup [.str "sketch", .bl false], .tup [.str "block", .bl false], .tup [.str "outline", .bl false], .tup [.str "feature", .bl false], .tup [.str "field", .bl true], .tup [.str "tools", .bl false], .tup [.str "way", .bl false], .tup [.str "paper", .bl false], .tup [.str "clash", .bl false], .tup [.str "twice", .bl false], .tup [.str "place", .bl false], .tup [.str "great", .bl false], .tup [.str "point", .bl false], .tup [.str "saying", .bl false], .tup [.str "none", .bl false]]), none, none]) (op_of rfl (two rfl rfl i15 rfl i16) (app_l (by simp))) rfl ?_
  refine seq_as (M1 := M) (δ' := [some (.ref a), some (.lst [.tup [.str "row", .bl false], .tup [.str "sketch", .bl false], .tup [.str "block", .bl false], .tup [.str "outline", .bl false], .tup [.str "feature", .bl false], .tup [.str "field", .bl true], .tup [.str "tools", .bl false], .tup [.str "way", .bl false], .tup [.str "paper", .bl false], .tup [.str "clash", .bl false], .tup [.str "twice", .bl false], .tup [.str "place", .bl false], .tup [.str "great", .bl false], .tup [.str "point", .bl false], .tup [.str "saying", .bl false], .tup [.str "none", .bl false], .tup [.str "nothing", .bl false], .tup [.str "no tool", .bl false]]), none, none]) (op_of rfl (two rfl rfl i17 rfl i18) (app_l (by simp))) rfl ?_
  refine seq_as (M1 := M) (δ' := [some (.ref a), some (.lst [.tup [.str "row", .bl false], .tup [.str "sketch", .bl false], .tup [.str "block", .bl false], .tup [.str "outline", .bl false], .tup [.str "feature", .bl false], .tup [.str "field", .bl true], .tup [.str "tools", .bl false], .tup [.str "way", .bl false], .tup [.str "paper", .bl false], .tup [.str "clash", .bl false], .tup [.str "twice", .bl false], .tup [.str "place", .bl false], .tup [.str "great", .bl false], .tup [.str "point", .bl false], .tup [.str "saying", .bl false], .tup [.str "none", .bl false], .tup [.str "nothing", .bl false], .tup [.str "no tool", .bl false], .tup [.str "lifted", .bl false], .tup [.str "lowered", .bl false]]), none, none]) (op_of rfl (two rfl rfl i19 rfl i20) (app_l (by simp))) rfl ?_
  refine seq_as (M1 := M) (δ' := [some (.ref a), some (.lst [.tup [.str "row", .bl false], .tup [.str "sketch", .bl false], .tup [.str "block", .bl false], .tup [.str "outline", .bl false], .tup [.str "feature", .bl false], .tup [.str "field", .bl true], .tup [.str "tools", .bl false], .tup [.str "way", .bl false], .tup [.str "paper", .bl false], .tup [.str "clash", .bl false], .tup [.str "twice", .bl false], .tup [.str "place", .bl false], .tup [.str "great", .bl false], .tup [.str "point", .bl false], .tup [.str "saying", .bl false], .tup [.str "none", .bl false], .tup [.str "nothing", .bl false], .tup [.str "no tool", .bl false], .tup [.str "lifted", .bl false], .tup [.str "lowered", .bl false], .tup [.str "beyond", .bl false], .tup [.str "blocked", .bl false]]), none, none]) (op_of rfl (two rfl rfl i21 rfl i22) (app_l (by simp))) rfl ?_
  refine seq_as (M1 := M) (δ' := [some (.ref a), some (.lst [.tup [.str "row", .bl false], .tup [.str "sketch", .bl false], .tup [.str "block", .bl false], .tup [.str "outline", .bl false], .tup [.str "feature", .bl false], .tup [.str "field", .bl true], .tup [.str "tools", .bl false], .tup [.str "way", .bl false], .tup [.str "paper", .bl false], .tup [.str "clash", .bl false], .tup [.str "twice", .bl false], .tup [.str "place", .bl false], .tup [.str "great", .bl false], .tup [.str "point", .bl false], .tup [.str "saying", .bl false], .tup [.str "none", .bl false], .tup [.str "nothing", .bl false], .tup [.str "no tool", .bl false], .tup [.str "lifted", .bl false], .tup [.str "lowered", .bl false], .tup [.str "beyond", .bl false], .tup [.str "blocked", .bl false], .tup [.str "deep", .bl false], .tup [.str "ours", .bl true]]), none, none]) (op_of rfl (two rfl rfl i23 rfl i24) (app_l (by simp))) rfl ?_
  refine seq_as (M1 := M) (δ' := [some (.ref a), some (.lst [.tup [.str "row", .bl false], .tup [.str "sketch", .bl false], .tup [.str "block", .bl false], .tup [.str "outline", .bl false], .tup [.str "feature", .bl false], .tup [.str "field", .bl true], .tup [.str "tools", .bl false], .tup [.str "way", .bl false], .tup [.str "paper", .bl false], .tup [.str "clash", .bl false], .tup [.str "twice", .bl false], .tup [.str "place", .bl false], .tup [.str "great", .bl false], .tup [.str "point", .bl false], .tup [.str "saying", .bl false], .tup [.str "none", .bl false], .tup [.str "nothing", .bl false], .tup [.str "no tool", .bl false], .tup [.str "lifted", .bl false], .tup [.str "lowered", .bl false], .tup [.str "beyond", .bl false], .tup [.str "blocked", .bl false], .tup [.str "deep", .bl false], .tup [.str "ours", .bl true], .tup [.str "value", .bl true], .tup [.str "miss", .bl false]]), none, none]) (op_of rfl (two rfl rfl i25 rfl i26) (app_l (by simp))) rfl ?_
  refine seq_as (M1 := M) (δ' := [some (.ref a), some (.lst [.tup [.str "row", .bl false], .tup [.str "sketch", .bl false], .tup [.str "block", .bl false], .tup [.str "outline", .bl false], .tup [.str "feature", .bl false], .tup [.str "field", .bl true], .tup [.str "tools", .bl false], .tup [.str "way", .bl false], .tup [.str "paper", .bl false], .tup [.str "clash", .bl false], .tup [.str "twice", .bl false], .tup [.str "place", .bl false], .tup [.str "great", .bl false], .tup [.str "point", .bl false], .tup [.str "saying", .bl false], .tup [.str "none", .bl false], .tup [.str "nothing", .bl false], .tup [.str "no tool", .bl false], .tup [.str "lifted", .bl false], .tup [.str "lowered", .bl false], .tup [.str "beyond", .bl false], .tup [.str "blocked", .bl false], .tup [.str "deep", .bl false], .tup [.str "ours", .bl true], .tup [.str "value", .bl true], .tup [.str "miss", .bl false], .tup [.str "lookup", .bl false], .tup [.str "fault", .bl false]]), none, none]) (op_of rfl (two rfl rfl i27 rfl i28) (app_l (by simp))) rfl ?_
  refine seq_as (M1 := M) (δ' := [some (.ref a), some (.lst [.tup [.str "row", .bl false], .tup [.str "sketch", .bl false], .tup [.str "block", .bl false], .tup [.str "outline", .bl false], .tup [.str "feature", .bl false], .tup [.str "field", .bl true], .tup [.str "tools", .bl false], .tup [.str "way", .bl false], .tup [.str "paper", .bl false], .tup [.str "clash", .bl false], .tup [.str "twice", .bl false], .tup [.str "place", .bl false], .tup [.str "great", .bl false], .tup [.str "point", .bl false], .tup [.str "saying", .bl false], .tup [.str "none", .bl false], .tup [.str "nothing", .bl false], .tup [.str "no tool", .bl false], .tup [.str "lifted", .bl false], .tup [.str "lowered", .bl false], .tup [.str "beyond", .bl false], .tup [.str "blocked", .bl false], .tup [.str "deep", .bl false], .tup [.str "ours", .bl true], .tup [.str "value", .bl true], .tup [.str "miss", .bl false], .tup [.str "lookup", .bl false], .tup [.str "fault", .bl false], .tup [.str "runtime", .bl false]]), none, none]) (op_of rfl (one rfl rfl i29) (app_l (by simp))) rfl ?_
  refine seq_as (M1 := M) (δ' := [some (.ref a), some (.lst [.tup [.str "no such tool", .bl false], .tup [.str "row", .bl false], .tup [.str "sketch", .bl false], .tup [.str "block", .bl false], .tup [.str "outline", .bl false], .tup [.str "feature", .bl false], .tup [.str "field", .bl true], .tup [.str "tools", .bl false], .tup [.str "way", .bl false], .tup [.str "paper", .bl false], .tup [.str "clash", .bl false], .tup [.str "twice", .bl false], .tup [.str "place", .bl false], .tup [.str "great", .bl false], .tup [.str "point", .bl false], .tup [.str "saying", .bl false], .tup [.str "none", .bl false], .tup [.str "nothing", .bl false], .tup [.str "no tool", .bl false], .tup [.str "lifted", .bl false], .tup [.str "lowered", .bl false], .tup [.str "beyond", .bl false], .tup [.str "blocked", .bl false], .tup [.str "deep", .bl false], .tup [.str "ours", .bl true], .tup [.str "value", .bl true], .tup [.str "miss", .bl false], .tup [.str "lookup", .bl false], .tup [.str "fault", .bl false], .tup [.str "runtime", .bl false]]), none, none]) (op_of (one rfl rfl i30) rfl (app_l (by simp))) rfl ?_
  refine ret_ (lc_ (ys := [.str "field", .str "ours", .str "value"]) (itemsL_ rfl) rfl ?_ (by simp))
  rfl
theorem caught_exF {ct : CT} {f c : Addr} {q : Str} {vs : List V} {ds : List D} {dm : DM} {fs : List (Str × D)} {M M1 : Mh} (h : dm M = some (.ex "BadField" fs M1)) : fnF 3 (lg_law_caught ct f c q vs ds dm) [.lam f c q vs ds] M = some (.ref (M1.length + 1), M1 ++ [.exg fs, .exf ct.BadField M1.length]) := by
  refine fn_rt ?_
  show lg_law_caught ct f c q vs ds dm [some (.lam f c q vs ds), none, none] M = _
  unfold lg_law_caught
  refine seq_as (M1 := M) (δ' := [some (.lam f c q vs ds), some .non, none]) x_eC rfl ?_
  refine seq_nx (δ' := [some (.lam f c q vs ds), some (.ref (M1.length + 1)), none]) (M1 := M1 ++ [.exg fs, .exf ct.BadField M1.length]) ?_ (ret_of rfl)
  unfold sTryB
  have qd : qE (qDeed f c q vs ds dm) [some (.lam f c q vs ds), some .non, none] M = some (.ex "BadField" fs [some (.lam f c q vs ds), some .non, none] M1) := by
    have qd0 : qDeed f c q vs ds dm [some (.lam f c q vs ds), some .non, none] M = dm M := by
      unfold qDeed
      exact if_pos rfl
    unfold qE
    rw [qd0, h]
  rw [qd]
  dsimp only
  rw [if_pos rfl]
  dsimp only
  have e1 : sAs (eVar 2) (gN 1) (([some (.lam f c q vs ds), some .non, none] : Pl.Env).set 2 (some (.ref (M1 ++ [MO.exg fs]).length))) ((M1 ++ [.exg fs]) ++ [.dead]) = some (.nx [some (.lam f c q vs ds), some (.ref (M1.length + 1)), some (.ref (M1.length + 1))] ((M1 ++ [.exg fs]) ++ [.dead])) := by
    rw [show (M1 ++ [MO.exg fs]).length = M1.length + 1 by simp]
    exact as_of rfl rfl
  rw [e1]
  unfold kpOD kpD
  dsimp only
  rw [at_end]
  dsimp only
  rw [set_end]
  simp
theorem lam_exF {ct : CT} {m0 : Nat} {P : Addr} {q : Str} {is : List Nat} {fb : EXQ} {δ : Pl.Env} {ds : List D} {fs : List (Str × D)} {M M1 : Mh} (hM : M[m0]? = some (.tab P q)) (hc : capGet δ is = some ds) (h : fb (capEnv δ.length is ds) M = some (.ex "BadField" fs M1)) : eLam m0 P q 3 (lg_law_caught ct) is fb δ M = some (.ref (M1.length + 1), M1 ++ [.exg fs, .exf ct.BadField M1.length]) :=
  eLam_of hM hc fun f c vs => caught_exF h
def badP (w : D) : List (Str × D) := [("place", w)]
theorem initF_sp {ct : CT} (hI : Isa ct) (w : D) (M : Mh) : ff_BadField_init ct [.ref M.length, w] (M ++ [MO.exo ct.BadField none]) = some (.non, M ++ [MO.exo ct.BadField (some (M.length + 1)), .exd (badP w)]) := by
  refine fnN_ (δ' := [some (.ref M.length), some w]) ?_
  show gg_BadField_init ct [some (.ref M.length), some w] _ = _
  unfold gg_BadField_init
  unfold sOg
  rw [show eVar 1 [some (D.ref M.length), some w] (M ++ [MO.exo ct.BadField none]) = some (w, M ++ [MO.exo ct.BadField none]) from rfl]
  dsimp only
  rw [show eVar 0 [some (D.ref M.length), some w] (M ++ [MO.exo ct.BadField none]) = some (.ref M.length, M ++ [MO.exo ct.BadField none]) from rfl]
  dsimp only
  rw [at_end]
  dsimp only
  rw [if_pos hI.f_BadField_place]
  rw [List.append_assoc, List.set_append_right _ _ (Nat.le_refl _)]
  simp [badP]
theorem raiseF_sp {ct : CT} (hI : Isa ct) {g : AF} {δ : Pl.Env} {M M1 : Mh} {w : D} (h : g δ M = some ([w], M1)) : qRaise ct.BadField "BadField" (ff_BadField_init ct) g [] δ M = some (.ex "BadField" (badP w) δ (M1 ++ [.dead, .dead])) := by
  unfold qRaise
  rw [h]
  dsimp only
  rw [show (D.ref M1.length :: ([w] ++ ([] : List D))) = [.ref M1.length, w] from rfl, initF_sp hI]
  dsimp only
  have g0 : (M1 ++ [MO.exo ct.BadField (some (M1.length + 1)), .exd (badP w)])[M1.length]? = some (.exo ct.BadField (some (M1.length + 1))) := by simp
  have g1 : (M1 ++ [MO.exo ct.BadField (some (M1.length + 1)), .exd (badP w)])[M1.length + 1]? = some (.exd (badP w)) := by simp
  rw [g0]
  dsimp only
  rw [if_pos ⟨rfl, by omega⟩, g1]
  dsimp only
  rw [List.set_append_right _ _ (Nat.le_refl _), Nat.sub_self, List.set_cons_zero, List.set_append_right _ _ (by omega), Nat.add_sub_cancel_left]
  rfl
theorem kinds_field {ct : CT} (I : Isa ct) {a m : Nat} {fs : List (Str × D)} {M : Mh} (g1 : M[a]? = some (.exf ct.BadField m)) (g0 : M[m]? = some (.exg fs)) : ff_law_kinds ct [.ref a] M = some (.lst [.str "field", .str "ours", .str "value"], M) := kinds_fl I.l_BadField (isi_f g1 g0)
theorem gvF_e {ct : CT} (I : Isa ct) {i a m : Nat} {w : D} {δ : Pl.Env} {M : Mh} (h : δ[i]? = some (some (.ref a))) (g1 : M[a]? = some (.exf ct.BadField m)) (g0 : M[m]? = some (.exg (badP w))) : eGv ct.okg "place" (eVar i) δ M = some (w, M) := by
  unfold eGv
  rw [var_ h]
  dsimp only
  rw [g1]
  dsimp only
  rw [if_pos I.g_BadField_place, g0]
  dsimp only
  have : List.lookup ("place" : Str) (badP w) = some w := by
    simp [badP, List.lookup]
  rw [this]
  rfl
section
variable {ct : CT} {h : Int} {R S : List (List Int)} {W : Nat}
theorem pair2_t {a b : D} {δ : Pl.Env} {M : Mh} {i : Nat} (h0 : δ[i]? = some (some (.tup [a, b]))) : tOrr (tNt (tV (eB gIsi (aCons (eVar i) (aCons (eC (.ty "tuple")) aNil))))) (tV (eOp (gEq fun p q => !PyData.eqv p q) (eB gLen (aCons (eVar i) aNil)) (eC (.int 2)))) δ M = some (false, M) :=
  or0 (M1 := M) (nt_of (b := true) (v_bl (isi_of (t := "tuple") (var_ h0) rfl kit_tt))) (v_bl (op_of (lenT (L := [a, b]) (var_ h0)) x_eC ((ne_int _ _ _).trans rfl)))
theorem fieldQ_no2 (I : Isa ct) {d : D} (hd : No2 d) (M : Mh) : qq_need_field ct [d] M = some (.ex "BadField" (badP .non) (M ++ [.dead, .dead])) := by
  refine fq_X (δ := [some d, none, none, none, none, none]) ?_
  show qg_need_field ct [some d, none, none, none, none, none] M = _
  unfold qg_need_field
  exact q_seqX (q_if1 (no2_t hd rfl) (raiseF_sp I (w := .non) (cons_of x_eC x_aNil)))
theorem fieldQ_high (I : Isa ct) {d e : D} {f : Int → Int → Bool} (hd : Am d f) (hf : f 1 6 = false) (M : Mh) : qq_need_field ct [.tup [d, e]] M = some (.ex "BadField" (badP (.str "high")) (M ++ [.dead, .dead])) := by
  refine fq_X (δ := [some (.tup [d, e]), some d, some e, none, none, none]) ?_
  show qg_need_field ct [some (.tup [d, e]), none, none, none, none, none] M = _
  unfold qg_need_field
  refine q_seq (q_if0 (pair2_t rfl) q_nil) ?_
  refine q_seq (q_ok (as_of (M1 := M) (δ' := [some (.tup [d, e]), some d, some e, none, none, none]) rfl rfl)) ?_
  exact q_seqX (q_if1 (nt_of (b := false) (v_bl (call_of (cons_of rfl (cons_of x_eC (cons_of x_eC x_aNil))) ((hd 1 6 M).trans (by rw [hf]))))) (raiseF_sp I (w := .str "high") (cons_of x_eC x_aNil)))
theorem high_t {i : Int} (hi : 1 ≤ i ∧ i ≤ 6) {a c d e f : Option D} (M : Mh) : tNt (tV (eCall ff_is_among (aCons (eVar 1) (aCons (eC (.int 1)) (aCons (eC (.int 6)) aNil))) [])) [a, some (.int i), c, d, e, f] M = some (false, M) := by
  refine nt_of (b := true) (v_bl (call_of (cons_of rfl (cons_of x_eC (cons_of x_eC x_aNil))) ((amongI i 1 6 M).trans ?_)))
  rw [decide_eq_true hi.1, decide_eq_true hi.2]
  rfl
theorem fieldQ_rows (I : Isa ct) {i : Int} (hi : 1 ≤ i ∧ i ≤ 6) {e : D} (he : (∃ xs, e = .lst xs) ∨ e = .tup []) (M : Mh) : qq_need_field ct [.tup [.int i, e]] M = some (.ex "BadField" (badP (.str "rows")) (M ++ [.dead, .dead])) := by
  refine fq_X (δ := [some (.tup [.int i, e]), some (.int i), some e, none, none, none]) ?_
  show qg_need_field ct [some (.tup [.int i, e]), none, none, none, none, none] M = _
  unfold qg_need_field
  refine q_seq (q_if0 (pair2_t rfl) q_nil) ?_
  refine q_seq (q_ok (as_of (M1 := M) (δ' := [some (.tup [.int i, e]), some (.int i), some e, none, none, none]) rfl rfl)) ?_
  refine q_seq (q_if0 (high_t hi M) q_nil) ?_
  refine q_seqX (q_if1 (M1 := M) ?_ (raiseF_sp I (w := .str "rows") (cons_of x_eC x_aNil)))
  rcases he with ⟨xs, rfl⟩ | rfl
  · exact or1 (nt_of (b := false) (v_bl (isi_of (t := "list") rfl rfl kit_lt)))
  · refine or0 (M1 := M) (nt_of (b := true) (v_bl (isi_of (t := "tuple") rfl rfl kit_tt))) (nt_of (b := false) (v_bl (chain_ (x := false) (M3 := M) x_eC (lenT (L := []) rfl) rfl rfl)))
theorem fieldQ_row0 (I : Isa ct) {i j : Int} (hi : 1 ≤ i ∧ i ≤ 6) {ys : List D} (hl : ys.length ≤ 7) (M : Mh) : qq_need_field ct [.tup [.int i, .tup (.int j :: ys)]] M = some (.ex "BadField" (badP (.int 0)) (M ++ [.dead, .dead])) := by
  refine fq_X (δ := [some (.tup [.int i, .tup (.int j :: ys)]), some (.int i), some (.tup (.int j :: ys)), some (.int 0), some (.int j), none]) ?_
  show qg_need_field ct [some (.tup [.int i, .tup (.int j :: ys)]), none, none, none, none, none] M = _
  unfold qg_need_field
  refine q_seq (q_if0 (pair2_t rfl) q_nil) ?_
  refine q_seq (q_ok (as_of (M1 := M) (δ' := [some (.tup [.int i, .tup (.int j :: ys)]), some (.int i), some (.tup (.int j :: ys)), none, none, none]) rfl rfl)) ?_
  refine q_seq (q_if0 (high_t hi M) q_nil) ?_
  refine q_seq (q_if0 (M1 := M) (or0 (M1 := M) (nt_of (b := true) (v_bl (isi_of (t := "tuple") rfl rfl kit_tt))) (nt_of (b := true) (v_bl (chain_ (x := true) (M3 := M) x_eC (lenT (L := .int j :: ys) rfl) ?_ ?_)))) q_nil) ?_
  · show some (D.bl (decide ((1 : Int) ≤ (((.int j :: ys : List D).length : Nat) : Int))), M) = _
    rw [decide_eq_true (by rw [List.length_cons]; omega)]
  · rw [cond_true]
    refine op_of x_eC x_eC ?_
    show some (D.bl (decide ((((.int j :: ys : List D).length : Nat) : Int) ≤ 8)), M) = _
    rw [decide_eq_true (by rw [List.length_cons]; omega)]
  · unfold qFor
    rw [enumT_of (W := .int j :: ys) rfl]
    dsimp only
    show forGoQ _ _ (.tup [.int ((0 : Nat) : Int), .int j] :: enumX 1 ys) _ _ = _
    unfold forGoQ
    rw [show gTp (gsCons (gN 3) (gsCons (gN 4) gsNil)) (.tup [.int ((0 : Nat) : Int), .int j]) [some (.tup [.int i, .tup (.int j :: ys)]), some (.int i), some (.tup (.int j :: ys)), none, none, none] = some [some (.tup [.int i, .tup (.int j :: ys)]), some (.int i), some (.tup (.int j :: ys)), some (.int 0), some (.int j), none] from rfl]
    dsimp only
    rw [q_seqX (q_if1 (M1 := M) (or1 (nt_of (b := false) (v_bl (isi_of (t := "int") rfl rfl kit_it)))) (raiseF_sp I (w := .int 0) (cons_of rfl x_aNil)))]
theorem stockQ_bad (ok : FldOk h R W) {d w : D} {M : Mh} (hq : qq_need_field ct [d] M = some (.ex "BadField" (badP w) (M ++ [.dead, .dead]))) : qq_need_stock ct [fldD h R, d] M = some (.ex "BadField" (badP w) (M ++ [.dead, .dead])) := by
  refine fq_X (δ := [some (fldD h R), some d]) ?_
  show qg_need_stock ct [some (fldD h R), some d] M = _
  unfold qg_need_stock
  exact q_seq (q_eV (q_call (cons_of rfl x_aNil) (fieldQ_good ok M))) (q_seqX (q_eX (q_call (cons_of rfl x_aNil) hq)))
theorem stockQ_high (I : Isa ct) {h' : Int} {W' : Nat} (ok : FldOk h R W) (os : FldOk h' S W') (ne : h' ≠ h) (M : Mh) : qq_need_stock ct [fldD h R, fldD h' S] M = some (.ex "BadField" (badP (.str "high")) (M ++ [.dead, .dead])) := by
  refine fq_X (δ := [some (fldD h R), some (fldD h' S)]) ?_
  show qg_need_stock ct [some (fldD h R), some (fldD h' S)] M = _
  unfold qg_need_stock
  refine q_seq (q_eV (q_call (cons_of rfl x_aNil) (fieldQ_good ok M))) (q_seq (q_eV (q_call (cons_of rfl x_aNil) (fieldQ_good os M))) ?_)
  refine q_seqX (q_if1 (M1 := M) (v_bl (op_of (op_of rfl x_eC rfl) (op_of rfl x_eC rfl) ((ne_int _ _ _).trans ?_))) (raiseF_sp I (w := .str "high") (cons_of x_eC x_aNil)))
  rw [decide_eq_false ne]
  rfl
theorem stockQ_rows (I : Isa ct) {W' : Nat} (ok : FldOk h R W) (os : FldOk h S W') (ne : W' ≠ W ∨ S.length ≠ R.length) (M : Mh) : qq_need_stock ct [fldD h R, fldD h S] M = some (.ex "BadField" (badP (.str "rows")) (M ++ [.dead, .dead])) := by
  refine fq_X (δ := [some (fldD h R), some (fldD h S)]) ?_
  show qg_need_stock ct [some (fldD h R), some (fldD h S)] M = _
  unfold qg_need_stock
  refine q_seq (q_eV (q_call (cons_of rfl x_aNil) (fieldQ_good ok M))) (q_seq (q_eV (q_call (cons_of rfl x_aNil) (fieldQ_good os M))) ?_)
  refine q_seq (q_if0 (M1 := M) (v_bl (op_of (op_of rfl x_eC rfl) (op_of rfl x_eC rfl) ne_intF)) q_nil) ?_
  refine q_if1 (M1 := M) (v_bl (op_of (call_of (cons_of rfl x_aNil) (sides_sp os M)) (call_of (cons_of rfl x_aNil) (sides_sp ok M)) ((ne_cell _ _ _).trans ?_))) (raiseF_sp I (w := .str "rows") (cons_of x_eC x_aNil))
  rw [decide_eq_false (fun e => by
    have e1 : ((W' : Nat) : Int) = ((W : Nat) : Int) := (Prod.mk.inj e).1
    have e2 : ((S.length : Nat) : Int) = ((R.length : Nat) : Int) := (Prod.mk.inj e).2
    omega)]
  rfl
theorem stockQ_good (ok : FldOk h R W) (os : FldOk h S W) (hl : S.length = R.length) (M : Mh) : qq_need_stock ct [fldD h R, fldD h S] M = some (.v .non M) := by
  refine fq_N (δ := [some (fldD h R), some (fldD h S)]) ?_
  show qg_need_stock ct [some (fldD h R), some (fldD h S)] M = _
  unfold qg_need_stock
  refine q_seq (q_eV (q_call (cons_of rfl x_aNil) (fieldQ_good ok M))) (q_seq (q_eV (q_call (cons_of rfl x_aNil) (fieldQ_good os M))) ?_)
  refine q_seq (q_if0 (M1 := M) (v_bl (op_of (op_of rfl x_eC rfl) (op_of rfl x_eC rfl) ne_intF)) q_nil) ?_
  refine q_if0 (M1 := M) (v_bl (op_of (call_of (cons_of rfl x_aNil) (sides_sp os M)) (call_of (cons_of rfl x_aNil) (sides_sp ok M)) ?_)) q_nil
  rw [hl]
  exact ne_cellF
theorem lowestQ_stock {a d e f w : D} {M : Mh} (hq : qq_need_stock ct [a, d] M = some (.ex "BadField" (badP w) (M ++ [.dead, .dead]))) : qq_lowest ct [a, d, e, f] M = some (.ex "BadField" (badP w) (M ++ [.dead, .dead])) := by
  refine fq_X (δ := [some a, some d, some e, some f, none, none, none, none]) ?_
  show qg_lowest ct [some a, some d, some e, some f, none, none, none, none] M = _
  unfold qg_lowest
  exact q_seqX (q_eX (q_call (cons_of rfl (cons_of rfl x_aNil)) hq))
theorem standQ_stock {a d e f z w : D} {M : Mh} (hq : qq_need_stock ct [a, d] M = some (.ex "BadField" (badP w) (M ++ [.dead, .dead]))) : qq_may_stand ct [a, d, e, f, z] M = some (.ex "BadField" (badP w) (M ++ [.dead, .dead])) := by
  refine fq_X (δ := [some a, some d, some e, some f, some z]) ?_
  show qg_may_stand ct [some a, some d, some e, some f, some z] M = _
  unfold qg_may_stand
  exact q_seqX (q_eX (q_call (cons_of rfl (cons_of rfl x_aNil)) hq))
end
end Law
namespace Law
open PySem L2 Pl Pl.Ev
theorem begin_i {P : Mh → Nat → Prop} (pa : ∀ {S : Mh} {a : Nat}, P S a → ∀ l, P (S ++ l) a) {Ts : Mh} {n : Nat} {B : Int} {S : Mh} (p : Bz Ts n B S) {δ : Pl.Env} (i : Nat) {f : EF} {a : Nat} {l : Mh} (e : f δ S = some (.ref a, S ++ l)) (q : P (S ++ l) a) :
    ∃ (k : Nat) (S' : Mh), (∀ r : SF, sSeq (sAs (eNew (aCons f aNil)) (gN i)) r δ S = r (δ.set i (some (.ref k))) S') ∧ Kp P k [a] S' ∧ Bz Ts n B S' ∧ n < k := by
  have lt := p.a.lt
  refine ⟨(S ++ l).length, (S ++ l) ++ [.lst [.ref a]], fun r => seq_as (new_ (cons_of e x_aNil) (by simp)) rfl rfl, ⟨by simp, fun b hb => ?_⟩, (p.apps l).apps _, by rw [List.length_append]; omega⟩
  rw [List.mem_singleton.mp hb]
  exact pa q _
theorem kp_appI {P : Mh → Nat → Prop} (pa : ∀ {S : Mh} {a : Nat}, P S a → ∀ l, P (S ++ l) a) (ps : ∀ {S : Mh} {a k : Nat} {xs : List D} {o : MO}, P S a → S[k]? = some (.lst xs) → P (S.set k o) a) {k : Nat} {A : List Nat} {S : Mh} (h : Kp P k A S) (hA : A.length ≤ 900) {δ : Pl.Env} {i : Nat} {f : EF} {a : Nat} {l : Mh} (h9 : δ[i]? = some (some (.ref k))) (e : f δ S = some (.ref a, S ++ l)) (q : P (S ++ l) a) :
    eMeth2 gApp (eVar i) (aCons f aNil) δ S = some (.non, (S ++ l).set k (.lst ((A ++ [a]).map D.ref))) ∧ Kp P k (A ++ [a]) ((S ++ l).set k (.lst ((A ++ [a]).map D.ref))) := by
  have lt := (List.getElem?_eq_some_iff.mp h.l).1
  have g : (S ++ l)[k]? = some (.lst (A.map D.ref)) := by rw [List.getElem?_append_left lt]; exact h.l
  refine ⟨?_, ⟨by rw [List.getElem?_set_self (by rw [List.length_append]; omega)], fun b hb => ?_⟩⟩
  · unfold eMeth2
    rw [var_ h9]
    dsimp only
    rw [if_pos (by show (lstOf S (.ref k)).isSome = true; unfold lstOf; dsimp only; rw [h.l]; rfl), cons_of e x_aNil]
    dsimp only
    unfold gApp
    dsimp only
    rw [g]
    dsimp only
    rw [if_pos (by
      rw [List.length_map]
      have : (900 : Nat) < sizeLine := by decide
      omega)]
    rw [List.map_append]
    rfl
  · rcases List.mem_append.mp hb with hb | hb
    · exact ps (pa (h.a b hb) l) g
    · rw [List.mem_singleton.mp hb]
      exact ps q g
theorem more_i {P : Mh → Nat → Prop} (pa : ∀ {S : Mh} {a : Nat}, P S a → ∀ l, P (S ++ l) a) (ps : ∀ {S : Mh} {a k : Nat} {xs : List D} {o : MO}, P S a → S[k]? = some (.lst xs) → P (S.set k o) a) {Ts : Mh} {n : Nat} {B : Int} {S : Mh} (p : Bz Ts n B S) {k : Nat} {A : List Nat} (h : Kp P k A S) (hk : n < k) (hA : A.length ≤ 900) {δ : Pl.Env} {i : Nat} {f : EF} {a : Nat} {l : Mh} (h9 : δ[i]? = some (some (.ref k))) (e : f δ S = some (.ref a, S ++ l)) (q : P (S ++ l) a) :
    ∃ S' : Mh, (∀ r : SF, sSeq (sE (eMeth2 gApp (eVar i) (aCons f aNil))) r δ S = r δ S') ∧ Kp P k (A ++ [a]) S' ∧ Bz Ts n B S' := by
  obtain ⟨e1, k1⟩ := kp_appI (P := P) (fun {S a} h l => pa h l) (fun {S a k xs o} h g => ps h g) h hA h9 e q
  exact ⟨_, fun r => seq_nx (se_ e1) rfl, k1, (p.apps l).set hk⟩
theorem still_i {P : Mh → Nat → Prop} (ps : ∀ {S : Mh} {a k : Nat} {xs : List D} {o : MO}, P S a → S[k]? = some (.lst xs) → P (S.set k o) a) {Ts : Mh} {n : Nat} {B : Int} {S : Mh} (p : Bz Ts n B S) {k : Nat} {A : List Nat} (h : Kp P k A S) (hk : n < k) {δ : Pl.Env} {i : Nat} (h9 : δ[i]? = some (some (.ref k))) :
    aItems (eFrz i) δ S = some (A.map D.ref, S.set k .dead) ∧ (∀ a ∈ A, P (S.set k .dead) a) ∧ Bz Ts n B (S.set k .dead) := by
  refine ⟨?_, fun a ha => ps (h.a a ha) h.l, p.set hk⟩
  unfold aItems eFrz
  rw [h9]
  dsimp only
  rw [h.l]
def IsF (ct : CT) (w : D) (S : Mh) (a : Nat) : Prop := ∃ m, S[a]? = some (.exf ct.BadField m) ∧ S[m]? = some (.exg (badP w))
theorem IsF.apps {ct : CT} {w : D} {S : Mh} {a : Nat} (h : IsF ct w S a) (l : Mh) : IsF ct w (S ++ l) a := by
  obtain ⟨m, h1, h2⟩ := h
  exact ⟨m, by rw [List.getElem?_append_left (List.getElem?_eq_some_iff.mp h1).1]; exact h1, by rw [List.getElem?_append_left (List.getElem?_eq_some_iff.mp h2).1]; exact h2⟩
theorem IsF.set {ct : CT} {w : D} {S : Mh} {a k : Nat} {xs : List D} {o : MO} (h : IsF ct w S a) (g : S[k]? = some (.lst xs)) : IsF ct w (S.set k o) a := by
  obtain ⟨m, h1, h2⟩ := h
  have n1 : a ≠ k := fun z => by subst z; rw [h1] at g; cases g
  have n2 : m ≠ k := fun z => by subst z; rw [h2] at g; cases g
  exact ⟨m, by rw [List.getElem?_set_ne (Ne.symm n1)]; exact h1, by rw [List.getElem?_set_ne (Ne.symm n2)]; exact h2⟩
theorem isF_x {ct : CT} {w : D} (M1 : Mh) : IsF ct w (M1 ++ [.exg (badP w), .exf ct.BadField M1.length]) (M1.length + 1) := ⟨M1.length, by simp, by simp⟩
/-- one of a list that changes, drawn -/
theorem pick_r {Ts : Mh} {n k i : Nat} {M : Mh} {B : Int} {δ : Pl.Env} {xs : List D} {many : Int} (h0 : δ[0]? = some (some (.ref n))) (hi : δ[i]? = some (some (.ref k))) (hk : M[k]? = some (.lst xs)) (hn : (xs.length : Int) = many) (kn : k ≠ n) (p : Bz Ts n B M) (hB : B < 2 ^ 57) (m0 : 0 < many) (m1 : many ≤ 1000000) :
    ∃ (d : D) (M' : Mh), eOp gIx (eVar i) (eCall ff_law_digit (aCons (eVar 0) (aCons (eC (.int many)) aNil)) []) δ M = some (d, M') ∧ d ∈ xs ∧ Bz Ts n (B + 4) M' := by
  obtain ⟨f, M1, e, f1, p1, r1⟩ := dgB (i := 0) (fm := eC (.int many)) h0 x_eC p hB m0 m1
  have lt : f < xs.length := by omega
  refine ⟨xs[f], M1, op_of (var_ hi) e ?_, List.getElem_mem lt, p1⟩
  unfold gIx
  dsimp only
  rw [r1 k kn, hk]
  dsimp only
  rw [atI_nat (List.getElem?_eq_getElem lt)]
  rfl
def wdF : D := .lst [.str "field", .str "ours", .str "value"]
theorem neF (M : Mh) : gEq (fun p q => !PyData.eqv p q) wdF wdF M = some (.bl false, M) := by
  unfold gEq wdF
  rw [show toP (deref M (.lst [.str "field", .str "ours", .str "value"])) = some (.list [.str "field", .str "ours", .str "value"]) from rfl]
  dsimp only
  rw [if_pos (by decide +kernel)]
  simp [PyData.eqv, PyData.eqvAll]
theorem wF_e {δ : Pl.Env} {M : Mh} : eLst (aCons (eC (.str "field")) (aCons (eC (.str "ours")) (aCons (eC (.str "value")) aNil))) δ M = some (wdF, M) := x_eLst (cons_of x_eC (cons_of x_eC (cons_of x_eC x_aNil))) (by simp)
/-- none of them told otherwise -/
theorem loop_ok {E : Option D → Pl.Env} {g : GF} {tf : TF} {f : SF} {M : Mh} (hE : ∀ x d, g d (E x) = some (E (some d))) : ∀ A : List Nat, (∀ a ∈ A, tf (E (some (.ref a))) M = some (false, M)) → ∀ x, ∃ x', forGo g (sIf tf f sNil) (A.map D.ref) (E x) M = some (.nx (E x') M)
  | [], _, x => ⟨x, forN_⟩
  | a :: A, h, x => by
    obtain ⟨x', ih⟩ := loop_ok (f := f) hE A (fun b hb => h b (List.mem_cons_of_mem _ hb)) (some (.ref a))
    rw [List.map_cons]
    exact ⟨x', forC_ (hE _ _) (if_ff (h a List.mem_cons_self) nil_of) ih⟩
section
variable {ct : CT} {h : Int} {R S : List (List Int)} {W : Nat}
def BadS (ct : CT) (h : Int) (R : List (List Int)) (d due : D) : Prop := (∀ M, qq_need_stock ct [fldD h R, d] M = some (.ex "BadField" (badP due) (M ++ [.dead, .dead]))) ∧ Nz 1921 0 due
abbrev rwD (r : List Int) : D := .tup (r.map D.int)
def Z0 (S : List (List Int)) : List (List Int) := S.map fun r => r.map fun _ => 0
def othr (h : Int) : Int := 1 + h.fmod 6
def elevens (h : Int) (S : List (List Int)) : List D := [.tup [fldD (othr h) (Z0 S), .str "high"], .tup [fldD h (S ++ S.take 1), .str "rows"], .tup [fldD h (S.map fun r => r ++ r.take 1), .str "rows"], .tup [.non, .non], .tup [.tup [.int h], .non], .tup [.tup [.int 0, .tup (S.map rwD)], .str "high"], .tup [.tup [.int h, .tup []], .str "rows"], .tup [.tup [.int h, .lst (S.map rwD)], .str "rows"], .tup [.tup [.int h, .tup (.int 5 :: (S.drop 1).map rwD)], .int 0], .tup [.tup [.int 7, .tup []], .str "high"], .tup [fldD (othr h) (Z0 (S ++ S.take 1)), .str "high"]]
theorem othr_ok (hh : 1 ≤ h ∧ h ≤ 6) : (1 ≤ othr h ∧ othr h ≤ 6) ∧ othr h ≠ h := by
  have : h = 1 ∨ h = 2 ∨ h = 3 ∨ h = 4 ∨ h = 5 ∨ h = 6 := by omega
  rcases this with rfl | rfl | rfl | rfl | rfl | rfl <;> decide
theorem z0_ok {h' : Int} (hh : 1 ≤ h' ∧ h' ≤ 6) (os : FldOk h S W) : FldOk h' (Z0 S) W := by
  refine ⟨hh, by unfold Z0; rw [List.length_map]; exact os.l, os.w, fun r hr => ?_⟩
  obtain ⟨q, hq, rfl⟩ := List.mem_map.mp hr
  refine ⟨by rw [List.length_map]; exact (os.r q hq).1, fun x hx => ?_⟩
  obtain ⟨_, _, rfl⟩ := List.mem_map.mp hx
  omega
theorem more_ok (os : FldOk h S W) (hl : S.length ≤ 7) : FldOk h (S ++ S.take 1) W := by
  have l := os.l
  refine ⟨os.h1, by rw [List.length_append, List.length_take]; omega, os.w, fun r hr => ?_⟩
  rcases List.mem_append.mp hr with hr | hr
  · exact os.r r hr
  · exact os.r r (List.mem_of_mem_take hr)
theorem wider_ok (os : FldOk h S W) (hw : W ≤ 7) : FldOk h (S.map fun r => r ++ r.take 1) (W + 1) := by
  have w := os.w
  refine ⟨os.h1, by rw [List.length_map]; exact os.l, by omega, fun r hr => ?_⟩
  obtain ⟨q, hq, rfl⟩ := List.mem_map.mp hr
  have hr := os.r q hq
  refine ⟨by rw [List.length_append, List.length_take]; omega, fun x hx => ?_⟩
  rcases List.mem_append.mp hx with hx | hx
  · exact hr.2 x hx
  · exact hr.2 x (List.mem_of_mem_take hx)
theorem low_high : Low ("high" : Str) := low_of (by decide +kernel) (by decide +kernel)
theorem low_rows' : Low ("rows" : Str) := low_of (by decide +kernel) (by decide +kernel)
theorem elevens_bad (I : Isa ct) (ok : FldOk h R W) (os : FldOk h S W) (hl : S.length = R.length) (hS : S.length ≤ 7) (hW : W ≤ 7) : ∀ e ∈ elevens h S, ∃ d due, e = .tup [d, due] ∧ BadS ct h R d due := by
  have hh := ok.h1
  obtain ⟨o1, o2⟩ := othr_ok hh
  have l := os.l
  intro e he
  simp only [elevens, List.mem_cons, List.not_mem_nil, or_false] at he
  rcases he with rfl | rfl | rfl | rfl | rfl | rfl | rfl | rfl | rfl | rfl | rfl
  · exact ⟨_, _, rfl, stockQ_high I ok (z0_ok o1 os) o2, nz_low low_high⟩
  · exact ⟨_, _, rfl, stockQ_rows I ok (more_ok os hS) (.inr (by rw [List.length_append, List.length_take]; omega)), nz_low low_rows'⟩
  · exact ⟨_, _, rfl, stockQ_rows I ok (wider_ok os hW) (.inl (by omega)), nz_low low_rows'⟩
  · exact ⟨_, _, rfl, fun M => stockQ_bad ok (fieldQ_no2 I no2_non M), nz_smp trivial⟩
  · exact ⟨_, _, rfl, fun M => stockQ_bad ok (fieldQ_no2 I (no2_len (by simp)) M), nz_smp trivial⟩
  · exact ⟨_, _, rfl, fun M => stockQ_bad ok (fieldQ_high I (am_int 0) rfl M), nz_low low_high⟩
  · exact ⟨_, _, rfl, fun M => stockQ_bad ok (fieldQ_rows I hh (.inr rfl) M), nz_low low_rows'⟩
  · exact ⟨_, _, rfl, fun M => stockQ_bad ok (fieldQ_rows I hh (.inl ⟨_, rfl⟩) M), nz_low low_rows'⟩
  · exact ⟨_, _, rfl, fun M => stockQ_bad ok (fieldQ_row0 I hh (by rw [List.length_map, List.length_drop]; omega) M), nz_int (by omega)⟩
  · exact ⟨_, _, rfl, fun M => stockQ_bad ok (fieldQ_high I (am_int 7) rfl M), nz_low low_high⟩
  · exact ⟨_, _, rfl, stockQ_high I ok (z0_ok o1 (more_ok os hS)) o2, nz_low low_high⟩
end
end Law
namespace Law
open PySem L2 Pl Pl.Ev
theorem cut_back {α : Type} (xs : List α) (k : Nat) : cutD xs (some (k : Int)) none = xs.drop k := by
  unfold cutD
  rw [HT.sIx_nat, HT.sIx_none]
  by_cases h : k ≤ xs.length
  · rw [Nat.min_eq_left h, List.take_of_length_le (by rw [List.length_drop]; omega)]
  · rw [Nat.min_eq_right (show xs.length ≤ k by omega), Nat.sub_self, List.take_zero, List.drop_of_length_le (show xs.length ≤ k by omega)]
theorem sl_T {xs : List D} {f : EF} {p q : Pl.Env → Mh → Option (Option Int × Mh)} {δ : Pl.Env} {M : Mh} {lo hi : Option Int} (h : f δ M = some (.tup xs, M)) (h1 : p δ M = some (lo, M)) (h2 : q δ M = some (hi, M)) : eSl f p q δ M = some (.tup (cutD xs lo hi), M) := by
  unfold eSl
  rw [h]
  dsimp only
  rw [h1]
  dsimp only
  rw [h2]
theorem app_tT {A B : List D} {M : Mh} (h : A.length + B.length ≤ 1000) : gAdd (.tup A) (.tup B) M = some (.tup (A ++ B), M) := if_pos (Nat.le_trans h (by decide))
theorem addN_e {f g : EF} {δ : Pl.Env} {M : Mh} {k : Nat} {xs ys : List D} (h1 : f δ M = some (.ref k, M)) (hk : M[k]? = some (.lst xs)) (h2 : g δ M = some (.lst ys, M)) (hl : xs.length + ys.length ≤ 1000) : eAddN f g δ M = some (.ref M.length, M ++ [.lst (xs ++ ys)]) := by
  unfold eAddN
  rw [h1]
  dsimp only
  rw [h2]
  have e1 : lstT M (.ref k) = some xs := by
    unfold lstT
    dsimp only
    rw [hk]
  have e2 : lstT M (.lst ys) = some ys := rfl
  dsimp only
  rw [e1, e2]
  exact if_pos (Nat.le_trans hl (by decide))
section
variable {ct : CT} {h : Int} {R S : List (List Int)} {W : Nat}
theorem zeros_e {a0 a1 a2 a3 a4 a5 a6 a7 a8 a9 a10 a11 a12 : Option D} {q : AF} {X : List (List Int)} {M : Mh} (hX : X.length ≤ 16) (hr : ∀ r ∈ X, r.length ≤ 16) (hq : q [a0, a1, a2, a3, a4, a5, a6, a7, a8, a9, a10, a11, a12] M = some (X.map rwD, M)) : eB gTupOf (aCons (eLc [8] q (gN 8) tTrue (eB gTupOf (aCons (eLc [7] (aItems (eVar 8)) (gN 7) tTrue (eC (.int 0))) aNil))) aNil) [a0, a1, a2, a3, a4, a5, a6, a7, a8, a9, a10, a11, a12] M = some (.tup ((Z0 X).map rwD), M) := by
  have inner : ∀ r ∈ X, eB gTupOf (aCons (eLc [7] (aItems (eVar 8)) (gN 7) tTrue (eC (.int 0))) aNil) (([a0, a1, a2, a3, a4, a5, a6, a7, none, a9, a10, a11, a12] : Pl.Env).set 8 (some (rwD r))) M = some (rwD (r.map fun _ => 0), M) := fun r h => by
    have := hr r h
    refine tupL ?_
    rw [List.map_map]
    exact lc_ (δ1 := [a0, a1, a2, a3, a4, a5, a6, none, some (rwD r), a9, a10, a11, a12]) (itemsT_ (ds := r.map D.int) rfl) rfl (lc_all (emb := D.int) (f := D.int ∘ fun _ => 0) r fun _ _ => x_eC) (by rw [List.length_map]; omega)
  refine tupL ?_
  unfold Z0
  rw [List.map_map]
  exact lc_ (δ1 := [a0, a1, a2, a3, a4, a5, a6, a7, none, a9, a10, a11, a12]) hq rfl (lc_all (emb := rwD) (f := rwD ∘ fun r => r.map fun _ => 0) X inner) (by rw [List.length_map]; omega)
theorem wider_e {a0 a1 a2 a3 a4 a5 a6 a7 a8 a9 a10 a11 a12 : Option D} {q : AF} {X : List (List Int)} {M : Mh} (hX : X.length ≤ 16) (hr : ∀ r ∈ X, r.length ≤ 16) (hq : q [a0, a1, a2, a3, a4, a5, a6, a7, a8, a9, a10, a11, a12] M = some (X.map rwD, M)) : eB gTupOf (aCons (eLc [8] q (gN 8) tTrue (eOp gAdd (eVar 8) (eSl (eVar 8) pNone (pSome (eC (.int 1)))))) aNil) [a0, a1, a2, a3, a4, a5, a6, a7, a8, a9, a10, a11, a12] M = some (.tup ((X.map fun r => r ++ r.take 1).map rwD), M) := by
  have inner : ∀ r ∈ X, eOp gAdd (eVar 8) (eSl (eVar 8) pNone (pSome (eC (.int 1)))) (([a0, a1, a2, a3, a4, a5, a6, a7, none, a9, a10, a11, a12] : Pl.Env).set 8 (some (rwD r))) M = some (rwD (r ++ r.take 1), M) := fun r h => by
    have := hr r h
    refine (op_of rfl (sl_T (xs := r.map D.int) rfl rfl (ps_of x_eC)) ?_)
    rw [show (1 : Int) = ((1 : Nat) : Int) from rfl, cut_front]
    refine (app_tT (by rw [List.length_take, List.length_map]; omega)).trans ?_
    unfold rwD
    rw [List.map_append, List.map_take]
  refine tupL ?_
  rw [List.map_map]
  exact lc_ (δ1 := [a0, a1, a2, a3, a4, a5, a6, a7, none, a9, a10, a11, a12]) hq rfl (lc_all (emb := rwD) (f := rwD ∘ fun r => r ++ r.take 1) X inner) (by rw [List.length_map]; omega)
theorem plus1_e {δ : Pl.Env} {X : List (List Int)} {M : Mh} (hX : X.length ≤ 16) (h4 : δ[4]? = some (some (.tup (X.map rwD)))) : eOp gAdd (eVar 4) (eSl (eVar 4) pNone (pSome (eC (.int 1)))) δ M = some (.tup ((X ++ X.take 1).map rwD), M) := by
  refine op_of (var_ h4) (sl_T (var_ h4) rfl (ps_of x_eC)) ?_
  rw [show (1 : Int) = ((1 : Nat) : Int) from rfl, cut_front, List.map_append, List.map_take]
  exact app_tT (by rw [List.length_take, List.length_map]; omega)
/-- the eleven -/
theorem elevens_e (os : FldOk h S W) (s f : D) (M : Mh) : ∃ (k : Nat) (l : Mh), M.length ≤ k ∧ (M ++ l)[k]? = some (.lst (elevens h S)) ∧ ∀ (r : SF), (sSeq (sAs (eVar 2) (gTp (gsCons (gN 3) (gsCons (gN 4) gsNil)))) (sSeq (sAs (eOp gAdd (eC (.int 1)) (eOp (gIntC (fun _ j => j ≠ 0) fun i j => .int (i.fmod j)) (eVar 3) (eC (.int 6)))) (gN 5)) (sSeq (sAs (eNew (aCons (eTup (aCons (eTup (aCons (eVar 5) (aCons (eB gTupOf (aCons (eLc [8] (aItems (eVar 4)) (gN 8) tTrue (eB gTupOf (aCons (eLc [7] (aItems (eVar 8)) (gN 7) tTrue (eC (.int 0))) aNil))) aNil)) aNil))) (aCons (eC (.str "high")) aNil))) (aCons (eTup (aCons (eTup (aCons (eVar 3) (aCons (eOp gAdd (eVar 4) (eSl (eVar 4) pNone (pSome (eC (.int 1))))) aNil))) (aCons (eC (.str "rows")) aNil))) aNil))) (gN 6)) (sSeq (sAs (eAddN (eVar 6) (eLst (aCons (eTup (aCons (eTup (aCons (eVar 3) (aCons (eB gTupOf (aCons (eLc [8] (aItems (eVar 4)) (gN 8) tTrue (eOp gAdd (eVar 8) (eSl (eVar 8) pNone (pSome (eC (.int 1)))))) aNil)) aNil))) (aCons (eC (.str "rows")) aNil))) (aCons (eTup (aCons (eC .non) (aCons (eC .non) aNil))) (aCons (eTup (aCons (eTup (aCons (eVar 3) aNil)) (aCons (eC .non) aNil))) aNil))))) (gN 6)) (sSeq (sAs (eAddN (eVar 6) (eLst (aCons (eTup (aCons (eTup (aCons (eC (.int 0)) (aCons (eVar 4) aNil))) (aCons (eC (.str "high")) aNil))) (aCons (eTup (aCons (eTup (aCons (eVar 3) (aCons (eTup aNil) aNil))) (aCons (eC (.str "rows")) aNil))) (aCons (eTup (aCons (eTup (aCons (eVar 3) (aCons (eB gLstA (aCons (eVar 4) aNil)) aNil))) (aCons (eC (.str "rows")) aNil))) aNil))))) (gN 6)) (sSeq (sAs (eAddN (eVar 6) (eLst (aCons (eTup (aCons (eTup (aCons (eVar 3) (aCons (eOp gAdd (eTup (aCons (eC (.int 5)) aNil)) (eSl (eVar 4) (pSome (eC (.int 1))) pNone)) aNil))) (aCons (eC (.int 0)) aNil))) (aCons (eTup (aCons (eTup (aCons (eC (.int 7)) (aCons (eTup aNil) aNil))) (aCons (eC (.str "high")) aNil))) aNil)))) (gN 6)) (sSeq (sE (eMeth2 gApp (eVar 6) (aCons (eTup (aCons (eTup (aCons (eVar 5) (aCons (eB gTupOf (aCons (eLc [8] (aItems (eOp gAdd (eVar 4) (eSl (eVar 4) pNone (pSome (eC (.int 1)))))) (gN 8) tTrue (eB gTupOf (aCons (eLc [7] (aItems (eVar 8)) (gN 7) tTrue (eC (.int 0))) aNil))) aNil)) aNil))) (aCons (eC (.str "high")) aNil))) aNil))) r))))))) [some s, some f, some (fldD h S), none, none, none, none, none, none, none, none, none, none] M = r [some s, some f, some (fldD h S), some (.int h), some (.tup (S.map rwD)), some (.int (othr h)), some (.ref k), none, none, none, none, none, none] (M ++ l) := by
  have l := os.l
  have w := os.w
  have lr : ∀ r ∈ S, r.length ≤ 16 := fun r hr => by
    have := (os.r r hr).1
    omega
  have lr2 : ∀ r ∈ S ++ S.take 1, r.length ≤ 16 := fun r hr => by
    rcases List.mem_append.mp hr with hr | hr
    · exact lr r hr
    · exact lr r (List.mem_of_mem_take hr)
  let q1 : List D := [.tup [fldD (othr h) (Z0 S), .str "high"], .tup [fldD h (S ++ S.take 1), .str "rows"]]
  let q2 : List D := [.tup [fldD h (S.map fun r => r ++ r.take 1), .str "rows"], .tup [.non, .non], .tup [.tup [.int h], .non]]
  let q3 : List D := [.tup [.tup [.int 0, .tup (S.map rwD)], .str "high"], .tup [.tup [.int h, .tup []], .str "rows"], .tup [.tup [.int h, .lst (S.map rwD)], .str "rows"]]
  let q4 : List D := [.tup [.tup [.int h, .tup (.int 5 :: (S.drop 1).map rwD)], .int 0], .tup [.tup [.int 7, .tup []], .str "high"]]
  let q5 : D := .tup [fldD (othr h) (Z0 (S ++ S.take 1)), .str "high"]
  refine ⟨(M ++ [MO.lst q1] ++ [MO.lst (q1 ++ q2)] ++ [MO.lst ((q1 ++ q2) ++ q3)]).length, [MO.lst q1] ++ ([MO.lst (q1 ++ q2)] ++ ([MO.lst ((q1 ++ q2) ++ q3)] ++ [MO.lst ((((q1 ++ q2) ++ q3) ++ q4) ++ [q5])])), by simp, ?_, fun r => ?_⟩
  · rw [← List.append_assoc, ← List.append_assoc, ← List.append_assoc]
    exact at_end
  · rw [← List.append_assoc, ← List.append_assoc, ← List.append_assoc]
    refine seq_as (M1 := M) (δ' := [some s, some f, some (fldD h S), some (.int h), some (.tup (S.map rwD)), none, none, none, none, none, none, none, none]) rfl rfl ?_
    refine seq_as (M1 := M) (δ' := [some s, some f, some (fldD h S), some (.int h), some (.tup (S.map rwD)), some (.int (othr h)), none, none, none, none, none, none, none]) (op_of x_eC (op_of (r := some (.int (h.fmod 6), M)) rfl x_eC (by
      show (if (6 : Int) ≠ 0 then some (D.int (h.fmod 6), M) else none) = _
      exact if_pos (by decide))) rfl) rfl ?_
    refine seq_as (M1 := M ++ [MO.lst q1]) (δ' := [some s, some f, some (fldD h S), some (.int h), some (.tup (S.map rwD)), some (.int (othr h)), some (.ref M.length), none, none, none, none, none, none]) (new_ (ds := q1) (cons_of (two_e (two_e rfl (zeros_e (by omega) lr (itemsT_ rfl))) x_eC) (cons_of (two_e (two_e rfl (plus1_e (by omega) rfl)) x_eC) x_aNil)) (by show 2 ≤ 1000; omega)) rfl ?_
    refine seq_as (M1 := M ++ [MO.lst q1] ++ [MO.lst (q1 ++ q2)]) (δ' := [some s, some f, some (fldD h S), some (.int h), some (.tup (S.map rwD)), some (.int (othr h)), some (.ref (M ++ [MO.lst q1]).length), none, none, none, none, none, none]) (addN_e (k := M.length) (xs := q1) (ys := q2) rfl at_end (x_eLst (cons_of (two_e (two_e rfl (wider_e (by omega) lr (itemsT_ rfl))) x_eC) (cons_of (two_e x_eC x_eC) (cons_of (two_e (x_eTup (cons_of rfl x_aNil) (by simp)) x_eC) x_aNil))) (by show 3 ≤ 1000; omega)) (by show 2 + 3 ≤ 1000; omega)) rfl ?_
    refine seq_as (M1 := M ++ [MO.lst q1] ++ [MO.lst (q1 ++ q2)] ++ [MO.lst ((q1 ++ q2) ++ q3)]) (δ' := [some s, some f, some (fldD h S), some (.int h), some (.tup (S.map rwD)), some (.int (othr h)), some (.ref (M ++ [MO.lst q1] ++ [MO.lst (q1 ++ q2)]).length), none, none, none, none, none, none]) (addN_e (k := (M ++ [MO.lst q1]).length) (xs := q1 ++ q2) (ys := q3) rfl at_end (x_eLst (cons_of (two_e (two_e x_eC rfl) x_eC) (cons_of (two_e (two_e rfl (x_eTup x_aNil (by simp))) x_eC) (cons_of (two_e (two_e rfl ((show eB gLstA (aCons (eVar 4) aNil) _ _ = some (.lst (S.map rwD), _) from by
      rw [x_eB, cons_of (d := .tup (S.map rwD)) rfl x_aNil]
      rfl))) x_eC) x_aNil))) (by show 3 ≤ 1000; omega)) (by show 5 + 3 ≤ 1000; omega)) rfl ?_
    refine seq_as (M1 := M ++ [MO.lst q1] ++ [MO.lst (q1 ++ q2)] ++ [MO.lst ((q1 ++ q2) ++ q3)] ++ [MO.lst (((q1 ++ q2) ++ q3) ++ q4)]) (δ' := [some s, some f, some (fldD h S), some (.int h), some (.tup (S.map rwD)), some (.int (othr h)), some (.ref (M ++ [MO.lst q1] ++ [MO.lst (q1 ++ q2)] ++ [MO.lst ((q1 ++ q2) ++ q3)]).length), none, none, none, none, none, none]) (addN_e (k := (M ++ [MO.lst q1] ++ [MO.lst (q1 ++ q2)]).length) (xs := (q1 ++ q2) ++ q3) (ys := q4) rfl at_end (x_eLst (cons_of (two_e (two_e rfl (op_of (x_eTup (cons_of x_eC x_aNil) (by simp)) (sl_T (xs := S.map rwD) rfl (ps_of x_eC) rfl) ((app_tT (by
      rw [show (1 : Int) = ((1 : Nat) : Int) from rfl, cut_back, List.length_drop, List.length_map]
      show 1 + _ ≤ 1000
      omega)).trans (by
      rw [show (1 : Int) = ((1 : Nat) : Int) from rfl, cut_back, ← List.map_drop]
      rfl)))) x_eC) (cons_of (two_e (two_e x_eC (x_eTup x_aNil (by simp))) x_eC) x_aNil)) (by show 2 ≤ 1000; omega)) (by show 8 + 2 ≤ 1000; omega)) rfl ?_
    refine seq_nx (se_ (d := .non) (app_mid (xs := ((q1 ++ q2) ++ q3) ++ q4) (d := q5) (l := []) rfl (cons_of (two_e (two_e rfl (zeros_e (X := S ++ S.take 1) (by rw [List.length_append, List.length_take]; omega) lr2 (itemsT_ (plus1_e (by omega) rfl)))) x_eC) x_aNil) (by show 10 < 1000; omega))) rfl
end
end Law
namespace Law
open PySem L2 Pl Pl.Ev
section
variable {ct : CT} {h : Int} {R S : List (List Int)} {W : Nat} {t : Int × Int}
theorem place_goodQ {a b d : D} {M : Mh} (h : ff_is_place_of [a, b, d] M = some (.bl true, M)) : qq_need_place ct [a, b, d] M = some (.v .non M) := by
  have t1 : tNt (tV (eCall ff_is_place_of (aCons (eVar 0) (aCons (eVar 1) (aCons (eVar 2) aNil))) [])) [some a, some b, some d] M = some (false, M) := tnt_ (v_bl (call_of (ds := [a, b, d]) (cons_of rfl (cons_of rfl (cons_of rfl x_aNil))) h))
  refine fq_N (δ := [some a, some b, some d]) ?_
  show qg_need_place ct [some a, some b, some d] M = _
  exact q_if0 t1 q_nil
theorem seatQ_good (ok : FldOk h R W) (ht : ToolOk t) {p : Int × Int} (hp : plB (W : Nat) (R.length : Nat) t.1 p = true) (M : Mh) : qq_need_seat ct [fldD h R, cellD t, cellD p] M = some (.v .non M) := by
  refine fq_N (δ := [some (fldD h R), some (cellD t), some (cellD p)]) ?_
  show qg_need_seat ct [some (fldD h R), some (cellD t), some (cellD p)] M = _
  unfold qg_need_seat
  exact q_seq (q_eV (q_call (ds := [fldD h R]) (cons_of rfl x_aNil) (fieldQ_good ok M))) (q_seq (q_eV (q_call (ds := [cellD t]) (cons_of rfl x_aNil) (tool_good (tool_ok ht M)))) (q_eV (q_call (ds := [cellD ((W : Nat), (R.length : Nat)), cellD t, cellD p]) (cons_of (call_of (ds := [fldD h R]) (cons_of rfl x_aNil) (sides_sp ok M)) (cons_of rfl (cons_of rfl x_aNil))) (place_goodQ ((place_sp M).trans (by rw [hp]))))))
theorem lowestQ_tool (I : Isa ct) (ok : FldOk h R W) (os : FldOk h S W) (hl : S.length = R.length) {d e : D} (bt : BadT d) (M : Mh) : qq_lowest ct [fldD h R, fldD h S, d, e] M = some (.ex "BadTools" (badN .non) (M ++ [.dead, .dead])) := by
  refine fq_X (δ := [some (fldD h R), some (fldD h S), some d, some e, none, none, none, none]) ?_
  show qg_lowest ct [some (fldD h R), some (fldD h S), some d, some e, none, none, none, none] M = _
  unfold qg_lowest
  exact q_seq (q_eV (q_call (cons_of rfl (cons_of rfl x_aNil)) (stockQ_good ok os hl M))) (q_seqX (q_eX (q_call (cons_of rfl (cons_of rfl (cons_of rfl x_aNil))) (seatQ_tool I ok bt M))))
theorem standQ_tool (I : Isa ct) (ok : FldOk h R W) (os : FldOk h S W) (hl : S.length = R.length) {d e z : D} (bt : BadT d) (M : Mh) : qq_may_stand ct [fldD h R, fldD h S, d, e, z] M = some (.ex "BadTools" (badN .non) (M ++ [.dead, .dead])) := by
  refine fq_X (δ := [some (fldD h R), some (fldD h S), some d, some e, some z]) ?_
  show qg_may_stand ct [some (fldD h R), some (fldD h S), some d, some e, some z] M = _
  unfold qg_may_stand
  exact q_seq (q_eV (q_call (cons_of rfl (cons_of rfl x_aNil)) (stockQ_good ok os hl M))) (q_seqX (q_eX (q_call (cons_of rfl (cons_of rfl (cons_of rfl x_aNil))) (seatQ_tool I ok bt M))))
theorem lowestQ_place (ok : FldOk h R W) (os : FldOk h S W) (hl : S.length = R.length) (ht : ToolOk t) {e : D} (bp : BadP (W : Nat) (R.length : Nat) t e) (M : Mh) : qq_lowest ct [fldD h R, fldD h S, cellD t, e] M = some (.ep "OutOfPlace" M) := by
  refine fq_P (δ := [some (fldD h R), some (fldD h S), some (cellD t), some e, none, none, none, none]) ?_
  show qg_lowest ct [some (fldD h R), some (fldD h S), some (cellD t), some e, none, none, none, none] M = _
  unfold qg_lowest
  exact q_seq (q_eV (q_call (cons_of rfl (cons_of rfl x_aNil)) (stockQ_good ok os hl M))) (q_seqP (q_eP (q_call (cons_of rfl (cons_of rfl (cons_of rfl x_aNil))) (seatQ_place ok ht bp M))))
theorem standQ_place (ok : FldOk h R W) (os : FldOk h S W) (hl : S.length = R.length) (ht : ToolOk t) {e z : D} (bp : BadP (W : Nat) (R.length : Nat) t e) (M : Mh) : qq_may_stand ct [fldD h R, fldD h S, cellD t, e, z] M = some (.ep "OutOfPlace" M) := by
  refine fq_P (δ := [some (fldD h R), some (fldD h S), some (cellD t), some e, some z]) ?_
  show qg_may_stand ct [some (fldD h R), some (fldD h S), some (cellD t), some e, some z] M = _
  unfold qg_may_stand
  exact q_seq (q_eV (q_call (cons_of rfl (cons_of rfl x_aNil)) (stockQ_good ok os hl M))) (q_seqP (q_eP (q_call (cons_of rfl (cons_of rfl (cons_of rfl x_aNil))) (seatQ_place ok ht bp M))))
theorem heightQ_bad {d : D} {f : Int → Int → Bool} (hd : Am d f) (hf : f 0 h = false) (M : Mh) : qq_need_height ct [fldD h R, d] M = some (.ep "OutOfPlace" M) := by
  refine fq_P (δ := [some (fldD h R), some d]) ?_
  show qg_need_height ct [some (fldD h R), some d] M = _
  unfold qg_need_height
  exact q_if1 (nt_of (b := false) (v_bl (call_of (ds := [d, .int 0, .int h]) (cons_of rfl (cons_of x_eC (cons_of (op_of rfl x_eC rfl) x_aNil))) ((hd 0 h M).trans (by rw [hf]))))) rfl
theorem standQ_height (ok : FldOk h R W) (os : FldOk h S W) (hl : S.length = R.length) (ht : ToolOk t) {p : Int × Int} (hp : plB (W : Nat) (R.length : Nat) t.1 p = true) {d : D} {f : Int → Int → Bool} (hd : Am d f) (hf : f 0 h = false) (M : Mh) : qq_may_stand ct [fldD h R, fldD h S, cellD t, cellD p, d] M = some (.ep "OutOfPlace" M) := by
  refine fq_P (δ := [some (fldD h R), some (fldD h S), some (cellD t), some (cellD p), some d]) ?_
  show qg_may_stand ct [some (fldD h R), some (fldD h S), some (cellD t), some (cellD p), some d] M = _
  unfold qg_may_stand
  exact q_seq (q_eV (q_call (cons_of rfl (cons_of rfl x_aNil)) (stockQ_good ok os hl M))) (q_seq (q_eV (q_call (cons_of rfl (cons_of rfl (cons_of rfl x_aNil))) (seatQ_good ok ht hp M))) (q_seqP (q_eP (q_call (cons_of rfl (cons_of rfl x_aNil)) (heightQ_bad hd hf M)))))
theorem eleven_pair : ∀ e ∈ elevens h S, ∃ d due, e = .tup [d, due] := by
  intro e he
  simp only [elevens, List.mem_cons, List.not_mem_nil, or_false] at he
  rcases he with rfl | rfl | rfl | rfl | rfl | rfl | rfl | rfl | rfl | rfl | rfl <;> exact ⟨_, _, rfl⟩
theorem lens8 (os : FldOk h S W) {δ : Pl.Env} (h4 : δ[4]? = some (some (.tup (S.map rwD)))) (M : Mh) : tOrr (tV (eOp (gEq PyData.eqv) (eB gLen (aCons (eVar 4) aNil)) (eC (.int 8)))) (tV (eOp (gEq PyData.eqv) (eB gLen (aCons (eOp gIx (eVar 4) (eC (.int 0))) aNil)) (eC (.int 8)))) δ M = some (decide (S.length = 8) || decide (W = 8), M) := by
  obtain ⟨r, l0, e0⟩ := row0 os M
  have t1 : tV (eOp (gEq PyData.eqv) (eB gLen (aCons (eVar 4) aNil)) (eC (.int 8))) δ M = some (decide (S.length = 8), M) := v_bl (op_of ((lenT (var_ h4)).trans (by rw [List.length_map])) x_eC ((eq_int _ _ _).trans (by rw [show decide (((S.length : Nat) : Int) = 8) = decide (S.length = 8) from decide_eq_decide.mpr (by omega)])))
  have t2 : tV (eOp (gEq PyData.eqv) (eB gLen (aCons (eOp gIx (eVar 4) (eC (.int 0))) aNil)) (eC (.int 8))) δ M = some (decide (W = 8), M) := v_bl (op_of ((lenT (op_of (var_ h4) x_eC e0)).trans (by rw [List.length_map, l0])) x_eC ((eq_int _ _ _).trans (by rw [show decide (((W : Nat) : Int) = 8) = decide (W = 8) from decide_eq_decide.mpr (by omega)])))
  cases hb : decide (S.length = 8) with
  | true =>
    rw [hb] at t1
    rw [Bool.true_or]
    exact or1 t1
  | false =>
    rw [hb] at t1
    rw [Bool.false_or]
    exact or0 t1 t2
theorem stocks_sp (I : Isa ct) {Ts : Mh} {n : Nat} {B : Int} {M : Mh} (ok : FldOk h R W) (os : FldOk h S W) (hl : S.length = R.length) (hT : Ts[0]? = some (.tab ct.P_law_stocks_refused "_law_stocks_refused.<locals>.<lambda>")) (p : Bz Ts n B M) (hB : B < 2 ^ 54) :
    ∃ M', ff_law_stocks_refused ct [.ref n, fldD h R, fldD h S] M = some (.bl true, M') ∧ Bz Ts n (B + 4) M' := by
  have lt : 0 < Ts.length := (List.getElem?_eq_some_iff.mp hT).1
  have tz : ∀ {B' : Int} {S : Mh}, Bz Ts n B' S → S[0]? = some (.tab ct.P_law_stocks_refused "_law_stocks_refused.<locals>.<lambda>") := fun z => (z.z 0 lt).trans hT
  have nlt := p.a.lt
  obtain ⟨k, l, hk, hM, el⟩ := elevens_e os (.ref n) (fldD h R) M
  obtain ⟨e, M2, e2, m2, p2⟩ := pick_r (i := 6) (many := 11) (δ := [some (.ref n), some (fldD h R), some (fldD h S), some (.int h), some (.tup (S.map rwD)), some (.int (othr h)), some (.ref k), none, none, none, none, none, none]) rfl rfl hM rfl (by omega) (p.apps l) (by omega) (by omega) (by omega)
  obtain ⟨d, due, rfl⟩ := eleven_pair e m2
  have t8 := lens8 os (δ := [some (.ref n), some (fldD h R), some (fldD h S), some (.int h), some (.tup (S.map rwD)), some (.int (othr h)), some (.ref k), none, none, some d, some due, none, none]) rfl M2
  by_cases h8 : S.length = 8 ∨ W = 8
  · refine ⟨M2, fn_ (δ0 := [some (.ref n), some (fldD h R), some (fldD h S), none, none, none, none, none, none, none, none, none, none]) rfl ?_, p2⟩
    have e8 : (decide (S.length = 8) || decide (W = 8)) = true := by simpa using h8
    rw [e8] at t8
    unfold gg_law_stocks_refused
    refine (el _).trans ?_
    refine seq_as (M1 := M2) (δ' := [some (.ref n), some (fldD h R), some (fldD h S), some (.int h), some (.tup (S.map rwD)), some (.int (othr h)), some (.ref k), none, none, some d, some due, none, none]) e2 rfl ?_
    exact seq_rt (if_tt t8 (ret_ x_eC))
  · have l8 := os.l
    have w8 := os.w
    have e8 : (decide (S.length = 8) || decide (W = 8)) = false := by simpa using h8
    rw [e8] at t8
    obtain ⟨d0, due0, eq, bs⟩ := elevens_bad I ok os hl (by omega) (by omega) (.tup [d, due]) m2
    simp only [D.tup.injEq, List.cons.injEq, and_true] at eq
    obtain ⟨rfl, rfl⟩ := eq
    have papF : ∀ {S : Mh} {a : Nat}, IsF ct due S a → ∀ l, IsF ct due (S ++ l) a := fun h l => h.apps l
    have pstF : ∀ {S : Mh} {a k : Nat} {xs : List D} {o : MO}, IsF ct due S a → S[k]? = some (.lst xs) → IsF ct due (S.set k o) a := fun h g => h.set g
    obtain ⟨kf, S3, g3, k3, b3, hkf⟩ := begin_i (P := IsF ct due) papF p2 (δ := [some (.ref n), some (fldD h R), some (fldD h S), some (.int h), some (.tup (S.map rwD)), some (.int (othr h)), some (.ref k), none, none, some d, some due, none, none]) 11 (l := [MO.dead, .dead] ++ [.exg (badP due), .exf ct.BadField (M2 ++ [MO.dead, .dead]).length]) (a := (M2 ++ [MO.dead, .dead]).length + 1) ((lam_exF (ct := ct) (is := [1, 9]) (fb := qCall (qq_lowest ct) (aCons (eVar 1) (aCons (eVar 9) (aCons (eC .non) (aCons (eC .non) aNil)))) []) (tz p2) rfl (q_call (ds := [fldD h R, d, .non, .non]) (cons_of rfl (cons_of rfl (cons_of x_eC (cons_of x_eC x_aNil)))) (lowestQ_stock (bs.1 M2)))).trans (by rw [List.append_assoc])) (by rw [← List.append_assoc]; exact isF_x _)
    obtain ⟨S4, g4, k4, b4⟩ := more_i (P := IsF ct due) papF pstF b3 k3 hkf (by simp) (δ := [some (.ref n), some (fldD h R), some (fldD h S), some (.int h), some (.tup (S.map rwD)), some (.int (othr h)), some (.ref k), none, none, some d, some due, some (.ref kf), none]) (i := 11) rfl (l := [MO.dead, .dead] ++ [.exg (badP due), .exf ct.BadField (S3 ++ [MO.dead, .dead]).length]) (a := (S3 ++ [MO.dead, .dead]).length + 1) ((lam_exF (ct := ct) (is := [1, 9]) (fb := qCall (qq_may_stand ct) (aCons (eVar 1) (aCons (eVar 9) (aCons (eTup (aCons (eC (.int 1)) (aCons (eC (.int 1)) aNil))) (aCons (eTup (aCons (eC (.int 0)) (aCons (eC (.int 0)) aNil))) (aCons (eC (.int 0)) aNil))))) []) (tz b3) rfl (q_call (ds := [fldD h R, d, .tup [.int 1, .int 1], .tup [.int 0, .int 0], .int 0]) (cons_of rfl (cons_of rfl (cons_of (two_e x_eC x_eC) (cons_of (two_e x_eC x_eC) (cons_of x_eC x_aNil))))) (standQ_stock (bs.1 S3)))).trans (by rw [List.append_assoc])) (by rw [← List.append_assoc]; exact isF_x _)
    obtain ⟨i5, a5, b5⟩ := still_i (P := IsF ct due) pstF b4 k4 hkf (δ := [some (.ref n), some (fldD h R), some (fldD h S), some (.int h), some (.tup (S.map rwD)), some (.int (othr h)), some (.ref k), none, none, some d, some due, some (.ref kf), none]) (i := 11) rfl
    obtain ⟨x', lp⟩ := loop_ok (f := sRet (eC (.bl false))) (g := gN 12) (E := fun x => [some (.ref n), some (fldD h R), some (fldD h S), some (.int h), some (.tup (S.map rwD)), some (.int (othr h)), some (.ref k), none, none, some d, some due, some (.ref kf), x]) (tf := tOrr (tV (eOp (gEq fun p q => !PyData.eqv p q) (eCall (ff_law_kinds ct) (aCons (eVar 12) aNil) []) (eLst (aCons (eC (.str "field")) (aCons (eC (.str "ours")) (aCons (eC (.str "value")) aNil)))))) (tV (eOp (gEq fun p q => !PyData.eqv p q) (eB gRepr (aCons (eGv ct.okg "place" (eVar 12)) aNil)) (eB gRepr (aCons (eVar 10) aNil))))) (M := S4.set kf .dead) (fun _ _ => rfl) _ (fun a ha => by
      obtain ⟨m, f1, f0⟩ := a5 a ha
      exact or0 (M1 := S4.set kf .dead) (v_bl (op_of (call_of (ds := [.ref a]) (cons_of rfl x_aNil) (kinds_field I f1 f0)) wF_e (neF _))) (reprs_eq bs.2 (by decide) (by decide) (gvF_e I rfl f1 f0) rfl)) none
    refine ⟨_, fn_ (δ0 := [some (.ref n), some (fldD h R), some (fldD h S), none, none, none, none, none, none, none, none, none, none]) rfl ?_, b5⟩
    unfold gg_law_stocks_refused
    refine (el _).trans ?_
    refine seq_as (M1 := M2) (δ' := [some (.ref n), some (fldD h R), some (fldD h S), some (.int h), some (.tup (S.map rwD)), some (.int (othr h)), some (.ref k), none, none, some d, some due, none, none]) e2 rfl ?_
    refine seq_if0 (M1 := M2) t8 ?_
    refine (g3 _).trans ((g4 _).trans ?_)
    exact seq_nx (for_ i5 lp) (ret_ x_eC)
end
end Law
namespace Law
open PySem L2 Pl Pl.Ev
theorem lc_none {v : Nat} {tf : TF} {f : EF} {δ : Pl.Env} {M : Mh} : ∀ A : List Nat, (∀ a ∈ A, tf (δ.set v (some (.ref a))) M = some (false, M)) → lcGo (gN v) tf f (A.map D.ref) δ M = some ([], M)
  | [], _ => lcN_
  | a :: A, h => by
    rw [List.map_cons]
    exact lcC_ (x := false) (M1 := M) (δ1 := δ.set v (some (.ref a))) rfl (h a List.mem_cons_self) (lc_none A fun b hb => h b (List.mem_cons_of_mem _ hb))
def bads7 : List D := [.non, .tup [.int 0, .int 1], .tup [.int 5, .int 1], .tup [.int 1, .int 7], .lst [.int 1, .int 1], .tup [.bl true, .int 1], .tup [.int 1]]
theorem bads7_bad : ∀ d ∈ bads7, BadT d := by
  intro d hd
  simp only [bads7, List.mem_cons, List.not_mem_nil, or_false] at hd
  rcases hd with rfl | rfl | rfl | rfl | rfl | rfl | rfl <;> exact jt_bad _ (by simp [JT])
def fars8 (s W L : Int) : List D := [.non, .tup [.int W, .int 0], .tup [.int 0, .int L], .tup [.int (0 - s), .int 0], .tup [.int 0, .int (0 - s)], .lst [.int 0, .int 0], .tup [.int 0, .bl true], .tup [.int 0]]
theorem fars8_bad {W L : Int} {t : Int × Int} (hW : 1 ≤ W) (hL : 1 ≤ L) : ∀ d ∈ fars8 t.1 W L, BadP W L t d := by
  intro d hd
  simp only [fars8, List.mem_cons, List.not_mem_nil, or_false] at hd
  rcases hd with rfl | rfl | rfl | rfl | rfl | rfl | rfl | rfl <;> exact jp_bad hW hL _ (by simp [JP])
section
variable {ct : CT} {h : Int} {R S : List (List Int)} {W : Nat} {t : Int × Int}
theorem order_sp (I : Isa ct) {Ts : Mh} {n : Nat} {B : Int} {M : Mh} (ok : FldOk h R W) (os : FldOk h S W) (hl : S.length = R.length) (ht : ToolOk t) (hT : Ts[1]? = some (.tab ct.P_law_order_right "_law_order_right.<locals>.<lambda>")) (p : Bz Ts n B M) (hB : B < 2 ^ 54) :
    ∃ M', ff_law_order_right ct [.ref n, fldD h R, fldD h S, cellD t] M = some (.bl true, M') ∧ Bz Ts n (B + 8) M' := by
  have w := ok.w
  have l := ok.l
  have lt : 1 < Ts.length := (List.getElem?_eq_some_iff.mp hT).1
  have tz : ∀ {B' : Int} {S : Mh}, Bz Ts n B' S → S[1]? = some (.tab ct.P_law_order_right "_law_order_right.<locals>.<lambda>") := fun z => (z.z 1 lt).trans hT
  obtain ⟨d, M1, e1, m1, p1⟩ := pick_e (many := 7) (xs := bads7) (fl := eLst (aCons (eC .non) (aCons (eTup (aCons (eC (.int 0)) (aCons (eC (.int 1)) aNil))) (aCons (eTup (aCons (eC (.int 5)) (aCons (eC (.int 1)) aNil))) (aCons (eTup (aCons (eC (.int 1)) (aCons (eC (.int 7)) aNil))) (aCons (eLst (aCons (eC (.int 1)) (aCons (eC (.int 1)) aNil))) (aCons (eTup (aCons (eC (.bl true)) (aCons (eC (.int 1)) aNil))) (aCons (eTup (aCons (eC (.int 1)) aNil)) aNil)))))))) (δ := [some (.ref n), some (fldD h R), some (fldD h S), some (cellD t), none, none, none, none, none, none]) rfl (x_eLst (cons_of x_eC (cons_of (two_e x_eC x_eC) (cons_of (two_e x_eC x_eC) (cons_of (two_e x_eC x_eC) (cons_of (x_eLst (cons_of x_eC (cons_of x_eC x_aNil)) (by simp)) (cons_of (two_e x_eC x_eC) (cons_of (x_eTup (cons_of x_eC x_aNil) (by simp)) x_aNil))))))) (by simp [bads7])) rfl p (by omega) (by omega) (by omega)
  have bt := bads7_bad d m1
  obtain ⟨l1, l2⟩ := lens_e ok (δ := [some (.ref n), some (fldD h R), some (fldD h S), some (cellD t), some d, none, none, none, none, none]) rfl M1
  have sm : eOp (gInt fun i j => .int (i - j)) (eC (.int 0)) (eOp gIx (eVar 3) (eC (.int 0))) [some (.ref n), some (fldD h R), some (fldD h S), some (cellD t), some d, some (.int (W : Nat)), some (.int (R.length : Nat)), none, none, none] M1 = some (.int (0 - t.1), M1) := op_of x_eC (op_of rfl x_eC ix_c0) rfl
  obtain ⟨f, M2, e2, m2, p2⟩ := pick_e (many := 8) (xs := fars8 t.1 (W : Nat) (R.length : Nat)) (fl := eLst (aCons (eC .non) (aCons (eTup (aCons (eVar 5) (aCons (eC (.int 0)) aNil))) (aCons (eTup (aCons (eC (.int 0)) (aCons (eVar 6) aNil))) (aCons (eTup (aCons (eOp (gInt fun i j => .int (i - j)) (eC (.int 0)) (eOp gIx (eVar 3) (eC (.int 0)))) (aCons (eC (.int 0)) aNil))) (aCons (eTup (aCons (eC (.int 0)) (aCons (eOp (gInt fun i j => .int (i - j)) (eC (.int 0)) (eOp gIx (eVar 3) (eC (.int 0)))) aNil))) (aCons (eLst (aCons (eC (.int 0)) (aCons (eC (.int 0)) aNil))) (aCons (eTup (aCons (eC (.int 0)) (aCons (eC (.bl true)) aNil))) (aCons (eTup (aCons (eC (.int 0)) aNil)) aNil))))))))) (δ := [some (.ref n), some (fldD h R), some (fldD h S), some (cellD t), some d, some (.int (W : Nat)), some (.int (R.length : Nat)), none, none, none]) rfl (x_eLst (cons_of x_eC (cons_of (two_e rfl x_eC) (cons_of (two_e x_eC rfl) (cons_of (two_e sm x_eC) (cons_of (two_e x_eC sm) (cons_of (x_eLst (cons_of x_eC (cons_of x_eC x_aNil)) (by simp)) (cons_of (two_e x_eC x_eC) (cons_of (x_eTup (cons_of x_eC x_aNil) (by simp)) x_aNil)))))))) (by simp [fars8])) rfl p1 (by omega) (by omega) (by omega)
  have bp := fars8_bad (W := (W : Nat)) (L := (R.length : Nat)) (t := t) (by omega) (by omega) f m2
  have papP : ∀ {S : Mh} {a : Nat}, IsP ct S a → ∀ l, IsP ct (S ++ l) a := fun h l => h.apps l
  have pstP : ∀ {S : Mh} {a k : Nat} {xs : List D} {o : MO}, IsP ct S a → S[k]? = some (.lst xs) → IsP ct (S.set k o) a := fun h g => h.set g
  have papT : ∀ {S : Mh} {a : Nat}, IsT ct S a → ∀ l, IsT ct (S ++ l) a := fun h l => h.apps l
  have pstT : ∀ {S : Mh} {a k : Nat} {xs : List D} {o : MO}, IsT ct S a → S[k]? = some (.lst xs) → IsT ct (S.set k o) a := fun h g => h.set g
  have isT_y : ∀ (M1 : Mh), IsT ct (M1 ++ [.exg (badN .non), .exf ct.BadTools M1.length]) (M1.length + 1) := fun M1 => ⟨M1.length, by simp, by simp⟩
  have isP_y : ∀ (M1 : Mh), IsP ct (M1 ++ [.exc ct.OutOfPlace]) M1.length := fun M1 => by unfold IsP; simp
  -- tools
  obtain ⟨k, S3, g3, k3, b3, hk⟩ := begin_i (P := IsT ct) papT p2 (δ := [some (.ref n), some (fldD h R), some (fldD h S), some (cellD t), some d, some (.int (W : Nat)), some (.int (R.length : Nat)), some f, none, none]) 8 (l := [MO.dead, .dead] ++ [.exg (badN .non), .exf ct.BadTools (M2 ++ [MO.dead, .dead]).length]) (a := (M2 ++ [MO.dead, .dead]).length + 1) ((lam_ex (ct := ct) (is := [1, 2, 4, 7]) (fb := qCall (qq_lowest ct) (aCons (eVar 1) (aCons (eVar 2) (aCons (eVar 4) (aCons (eVar 7) aNil)))) []) (tz p2) rfl (q_call (ds := [fldD h R, fldD h S, d, f]) (cons_of rfl (cons_of rfl (cons_of rfl (cons_of rfl x_aNil)))) (lowestQ_tool I ok os hl bt M2))).trans (by rw [List.append_assoc])) (by rw [← List.append_assoc]; exact isT_y _)
  obtain ⟨S4, g4, k4, b4⟩ := more_i (P := IsT ct) papT pstT b3 k3 hk (by simp) (δ := [some (.ref n), some (fldD h R), some (fldD h S), some (cellD t), some d, some (.int (W : Nat)), some (.int (R.length : Nat)), some f, some (.ref k), none]) (i := 8) rfl (l := [MO.dead, .dead] ++ [.exg (badN .non), .exf ct.BadTools (S3 ++ [MO.dead, .dead]).length]) (a := (S3 ++ [MO.dead, .dead]).length + 1) ((lam_ex (ct := ct) (is := [1, 2, 4, 7]) (fb := qCall (qq_may_stand ct) (aCons (eVar 1) (aCons (eVar 2) (aCons (eVar 4) (aCons (eVar 7) (aCons (eC .non) aNil))))) []) (tz b3) rfl (q_call (ds := [fldD h R, fldD h S, d, f, .non]) (cons_of rfl (cons_of rfl (cons_of rfl (cons_of rfl (cons_of x_eC x_aNil))))) (standQ_tool I ok os hl bt S3))).trans (by rw [List.append_assoc])) (by rw [← List.append_assoc]; exact isT_y _)
  obtain ⟨i5, a5, b5⟩ := still_i (P := IsT ct) pstT b4 k4 hk (δ := [some (.ref n), some (fldD h R), some (fldD h S), some (cellD t), some d, some (.int (W : Nat)), some (.int (R.length : Nat)), some f, some (.ref k), none]) (i := 8) rfl
  obtain ⟨x', lp⟩ := loop_ok (f := sRet (eC (.bl false))) (g := gN 9) (E := fun x => [some (.ref n), some (fldD h R), some (fldD h S), some (cellD t), some d, some (.int (W : Nat)), some (.int (R.length : Nat)), some f, some (.ref k), x]) (tf := tOrr (tV (eOp (gEq fun p q => !PyData.eqv p q) (eCall (ff_law_kinds ct) (aCons (eVar 9) aNil) []) (eLst (aCons (eC (.str "tools")) (aCons (eC (.str "ours")) (aCons (eC (.str "value")) aNil)))))) (tV (eOp (gIsN fun b => !b) (eGv ct.okg "number" (eVar 9)) (eC .non)))) (M := S4.set k .dead) (fun _ _ => rfl) _ (fun a ha => by
    obtain ⟨m, f1, f0⟩ := a5 a ha
    exact or0 (M1 := S4.set k .dead) (v_bl (op_of (call_of (ds := [.ref a]) (cons_of rfl x_aNil) (kinds_tools I f1 f0)) wT_e (neT _))) (v_bl (op_of (gv_e I rfl f1 f0) x_eC rfl))) none
  generalize S4.set k .dead = S5 at i5 b5 lp
  -- places
  obtain ⟨k', S6, g6, k6, b6, hk'⟩ := begin_i (P := IsP ct) papP b5 (δ := [some (.ref n), some (fldD h R), some (fldD h S), some (cellD t), some d, some (.int (W : Nat)), some (.int (R.length : Nat)), some f, some (.ref k), x']) 8 (lam_ep (ct := ct) (is := [1, 2, 3, 7]) (fb := qCall (qq_lowest ct) (aCons (eVar 1) (aCons (eVar 2) (aCons (eVar 3) (aCons (eVar 7) aNil)))) []) (tz b5) rfl (q_call (ds := [fldD h R, fldD h S, cellD t, f]) (cons_of rfl (cons_of rfl (cons_of rfl (cons_of rfl x_aNil)))) (lowestQ_place ok os hl ht bp S5))) (isP_y S5)
  obtain ⟨S7, g7, k7, b7⟩ := more_i (P := IsP ct) papP pstP b6 k6 hk' (by simp) (δ := [some (.ref n), some (fldD h R), some (fldD h S), some (cellD t), some d, some (.int (W : Nat)), some (.int (R.length : Nat)), some f, some (.ref k'), x']) (i := 8) rfl (lam_ep (ct := ct) (is := [1, 2, 3, 7]) (fb := qCall (qq_may_stand ct) (aCons (eVar 1) (aCons (eVar 2) (aCons (eVar 3) (aCons (eVar 7) (aCons (eC .non) aNil))))) []) (tz b6) rfl (q_call (ds := [fldD h R, fldD h S, cellD t, f, .non]) (cons_of rfl (cons_of rfl (cons_of rfl (cons_of rfl (cons_of x_eC x_aNil))))) (standQ_place ok os hl ht bp S6))) (isP_y S6)
  obtain ⟨i8, a8, b8⟩ := still_i (P := IsP ct) pstP b7 k7 hk' (δ := [some (.ref n), some (fldD h R), some (fldD h S), some (cellD t), some d, some (.int (W : Nat)), some (.int (R.length : Nat)), some f, some (.ref k'), x']) (i := 8) rfl
  have c8 := lc_ (vs := [9]) (p := gN 9) (t := tV (eOp (gEq fun p q => !PyData.eqv p q) (eCall (ff_law_kinds ct) (aCons (eVar 9) aNil) []) (eLst (aCons (eC (.str "place")) (aCons (eC (.str "ours")) (aCons (eC (.str "value")) aNil)))))) (f := eC (.int 1)) (δ1 := [some (.ref n), some (fldD h R), some (fldD h S), some (cellD t), some d, some (.int (W : Nat)), some (.int (R.length : Nat)), some f, some (.ref k'), none]) i8 rfl (lc_none _ fun a ha => v_bl (op_of (call_of (ds := [.ref a]) (cons_of rfl x_aNil) (kinds_place I (a8 a ha))) wP_e (neP _))) (by simp)
  refine ⟨_, fn_ (δ0 := [some (.ref n), some (fldD h R), some (fldD h S), some (cellD t), none, none, none, none, none, none]) rfl ?_, b8.up (by omega)⟩
  unfold gg_law_order_right
  refine seq_as (M1 := M1) (δ' := [some (.ref n), some (fldD h R), some (fldD h S), some (cellD t), some d, none, none, none, none, none]) e1 rfl ?_
  refine seq_ (spar_ l1 l2 rfl) ?_
  refine seq_as (M1 := M2) (δ' := [some (.ref n), some (fldD h R), some (fldD h S), some (cellD t), some d, some (.int (W : Nat)), some (.int (R.length : Nat)), some f, none, none]) e2 rfl ?_
  refine (g3 _).trans ((g4 _).trans ?_)
  refine seq_nx (for_ i5 lp) ?_
  refine (g6 _).trans ((g7 _).trans ?_)
  exact ret_ (op_of c8 (x_eLst x_aNil (by simp)) (eqN _))
end
end Law
namespace Law
open PySem L2 Pl Pl.Ev
def Fz (Ts M : Mh) : Prop := Ts.length ≤ M.length ∧ ∀ i, i < Ts.length → M[i]? = Ts[i]?
theorem Bz.fz {Ts : Mh} {n : Nat} {B : Int} {M : Mh} (h : Bz Ts n B M) : Fz Ts M := ⟨by
  have := h.a.lt
  have := h.le
  omega, h.z⟩
theorem drawB {Ts M : Mh} {cell k : Int} (k0 : 0 ≤ k) (k1 : k ≤ 1000) (h : Fz Ts M) : ∃ M', ff_law_draw [.int cell, .int k] M = some (.ref M.length, M') ∧ Bz Ts M.length 1000000 M' := by
  obtain ⟨m, e, a⟩ := draw_X (M := M) (cell := cell) k0 k1
  refine ⟨_, e, a, h.1, fun i hi => ?_⟩
  have := h.1
  rw [List.getElem?_append_left (by omega)]
  exact h.2 i hi
/-- one of a list, drawn; what stands elsewhere stays -/
theorem pick_f {Ts : Mh} {n j : Nat} {M : Mh} {B : Int} {δ : Pl.Env} {fl : EF} {xs : List D} {many : Int} (h0 : δ[j]? = some (some (.ref n))) (hl : fl δ M = some (.lst xs, M)) (hn : (xs.length : Int) = many) (p : Bz Ts n B M) (hB : B < 2 ^ 57) (m0 : 0 < many) (m1 : many ≤ 1000000) :
    ∃ (d : D) (M' : Mh), eOp gIx fl (eCall ff_law_digit (aCons (eVar j) (aCons (eC (.int many)) aNil)) []) δ M = some (d, M') ∧ d ∈ xs ∧ Bz Ts n (B + 4) M' ∧ Fr n M M' := by
  obtain ⟨f, M1, e, f1, p1, r1⟩ := dgB (i := j) (fm := eC (.int many)) h0 x_eC p hB m0 m1
  have lt : f < xs.length := by omega
  refine ⟨xs[f], M1, op_of hl e ?_, List.getElem_mem lt, p1, r1⟩
  show (atI xs (f : Int)).map _ = _
  rw [atI_nat (List.getElem?_eq_getElem lt)]
  rfl
theorem spots_len {W L s : Int} (hW : 0 ≤ W ∧ W ≤ 8) (hL : 0 ≤ L ∧ L ≤ 8) (hs : 1 ≤ s ∧ s ≤ 4) : (spotsC W L s).length ≤ 144 := by
  unfold spotsC
  rw [prod_len, zr_len, zr_len]
  exact Nat.le_trans (Nat.mul_le_mul (show (W - (1 - s)).toNat ≤ 12 by omega) (show (L - (1 - s)).toNat ≤ 12 by omega)) (by decide)
theorem am_tup (xs : List D) : Am (.tup xs) (fun _ _ => false) := fun lo hi M => by
  have k : kitB "tuple" "int" = some false := by decide +kernel
  have wt : ff_is_whole [.tup xs] M = some (.bl false, M) := by
    refine fn_rt ?_
    show gg_is_whole [some (.tup xs)] M = _
    unfold gg_is_whole
    exact ret_of (an_of0 (isi_of (t := "tuple") rfl rfl k))
  refine fn_rt ?_
  show gg_is_among [some (.tup xs), some (.int lo), some (.int hi)] M = _
  unfold gg_is_among
  exact seq_if1 (M1 := M) (or1 (nt_of (b := false) (v_bl (call_of (cons_of rfl x_aNil) wt)))) (ret_of x_eC)
section
variable {ct : CT} {h : Int} {R : List (List Int)} {W : Nat} {t : Int × Int}
theorem low_bounds (ok : FldOk h R W) (ht : ToolOk t) {g : Int × Int → Int} (hg : ∀ c, 0 ≤ g c ∧ g c ≤ h) (p : Int × Int) : 0 ≤ lowI R g (W : Nat) (R.length : Nat) t p ∧ lowI R g (W : Nat) (R.length : Nat) t p ≤ h := by
  have hh := ok.h1
  refine ⟨(maxI_le _ 0).1, ?_⟩
  unfold lowI
  rcases List.mem_cons.mp (maxI_mem (lowL R g (W : Nat) (R.length : Nat) t p) 0) with e | e
  · rw [e]; omega
  · revert e
    generalize maxI 0 (lowL R g (W : Nat) (R.length : Nat) t p) = m
    intro e
    unfold lowL at e
    rcases List.mem_append.mp e with e | e
    · obtain ⟨c, hc, rfl⟩ := List.mem_map.mp e
      obtain ⟨_, _, _, b⟩ := at_ix ok (cells_in hc) []
      exact b.2
    · obtain ⟨c, hc, rfl⟩ := List.mem_map.mp e
      have := hg c
      have := ht.2
      omega
noncomputable def sSpot4 (ct : CT) : SF := (sSeq (sAs (eCall ff_law_low (aCons (eVar 4) (aCons (eVar 5) (aCons (eVar 8) (aCons (eVar 9) aNil)))) []) (gN 10)) (sSeq (sIf (tV (eOp (gEq fun p q => !PyData.eqv p q) (eB gRepr (aCons (eCall (ff_lowest ct) (aCons (eVar 4) (aCons (eVar 6) (aCons (eVar 8) (aCons (eVar 9) aNil)))) []) aNil)) (eB gRepr (aCons (eVar 10) aNil)))) (sRet (eC (.bl false))) sNil) (sSeq (sAs (eOp gIx (eLst (aCons (eC (.int 0)) (aCons (eOp gIx (eVar 4) (eC (.int 0))) (aCons (eB (gL2 fun i j => .int (if j > i then j else i)) (aCons (eC (.int 0)) (aCons (eOp (gInt fun i j => .int (i - j)) (eVar 10) (eC (.int 1))) aNil))) (aCons (eVar 10) aNil))))) (eCall ff_law_digit (aCons (eVar 3) (aCons (eC (.int 4)) aNil)) [])) (gN 11)) (sIf (tV (eOp (gEq fun p q => !PyData.eqv p q) (eB gRepr (aCons (eCall (ff_may_stand ct) (aCons (eVar 4) (aCons (eVar 6) (aCons (eVar 8) (aCons (eVar 9) (aCons (eVar 11) aNil))))) []) aNil)) (eB gRepr (aCons (eOp (gInt fun i j => .bl (decide (j ≤ i))) (eVar 11) (eVar 10)) aNil)))) (sRet (eC (.bl false))) sNil))))
/-- what stands for good while a tool is tried -/
structure Stk (Ts : Mh) (n k : Nat) (g : Int × Int → Int) (C : List (Int × Int)) (B : Int) (M : Mh) : Prop where
  p : Bz Ts n B M
  kn : k ≠ n
  d : M[k]? = some (.dct (dctOf g C))
theorem Stk.apps {Ts : Mh} {n k : Nat} {g : Int × Int → Int} {C : List (Int × Int)} {B : Int} {M : Mh} (s : Stk Ts n k g C B M) (l : Mh) : Stk Ts n k g C B (M ++ l) := ⟨s.p.apps l, s.kn, by
  rw [List.getElem?_append_left (List.getElem?_eq_some_iff.mp s.d).1]
  exact s.d⟩
theorem Stk.fr {Ts : Mh} {n k : Nat} {g : Int × Int → Int} {C : List (Int × Int)} {B B' : Int} {M M' : Mh} (s : Stk Ts n k g C B M) (p : Bz Ts n B' M') (f : Fr n M M') : Stk Ts n k g C B' M' := ⟨p, s.kn, by
  rw [f k s.kn]
  exact s.d⟩
theorem Stk.up {Ts : Mh} {n k : Nat} {g : Int × Int → Int} {C : List (Int × Int)} {B B' : Int} {M : Mh} (s : Stk Ts n k g C B M) (h : B ≤ B') : Stk Ts n k g C B' M := ⟨s.p.up h, s.kn, s.d⟩
theorem spot_step4 (ok : FldOk h R W) (ht : ToolOk t) {g : Int × Int → Int} (hg : ∀ c, 0 ≤ g c ∧ g c ≤ h) {Ts : Mh} {n k : Nat} {B : Int} {M : Mh} (s : Stk Ts n k g (allC (W : Nat) (R.length : Nat)) B M) (hB : B < 2 ^ 55) {p : Int × Int} (hp : p ∈ spotsC (W : Nat) (R.length : Nat) t.1) (a b c x7 x10 x11 x12 x13 : Option D) :
    ∃ y10 y11 M', sSpot4 ct [a, b, c, some (.ref n), some (fldD h R), some (.ref k), some (fldD h (rowsOf g W R.length)), x7, some (cellD t), some (cellD p), x10, x11, x12, x13] M = some (.nx [a, b, c, some (.ref n), some (fldD h R), some (.ref k), some (fldD h (rowsOf g W R.length)), x7, some (cellD t), some (cellD p), y10, y11, x12, x13] M') ∧ Stk Ts n k g (allC (W : Nat) (R.length : Nat)) (B + 4) M' := by
  have hh := ok.h1
  have hpl := spots_pl hp
  have os : FldOk h (rowsOf g W R.length) W := rows_ok hh ok.w ok.l fun c _ => hg c
  have hl : (rowsOf g W R.length).length = R.length := rows_len _ _ _
  have bd := low_bounds ok ht hg p
  obtain ⟨l, e1⟩ := low_sp (t := t) ok s.d p
  have s1 := s.apps l
  have lw := lowest_sp (ct := ct) ok os hl ht hpl (M ++ l)
  rw [low_rows] at lw
  generalize hlow : lowI R g (W : Nat) (R.length : Nat) t p = low at bd e1 lw
  have mx : eB (gL2 fun i j => .int (if j > i then j else i)) (aCons (eC (.int 0)) (aCons (eOp (gInt fun i j => .int (i - j)) (eVar 10) (eC (.int 1))) aNil)) [a, b, c, some (.ref n), some (fldD h R), some (.ref k), some (fldD h (rowsOf g W R.length)), x7, some (cellD t), some (cellD p), some (.int low), x11, x12, x13] (M ++ l) = some (.int (if low - 1 > 0 then low - 1 else 0), M ++ l) := maxZ x_eC (op_of rfl x_eC rfl)
  obtain ⟨d, M2, e2, m2, p2, r2⟩ := pick_f (j := 3) (many := 4) (xs := [.int 0, .int h, .int (if low - 1 > 0 then low - 1 else 0), .int low]) (fl := eLst (aCons (eC (.int 0)) (aCons (eOp gIx (eVar 4) (eC (.int 0))) (aCons (eB (gL2 fun i j => .int (if j > i then j else i)) (aCons (eC (.int 0)) (aCons (eOp (gInt fun i j => .int (i - j)) (eVar 10) (eC (.int 1))) aNil))) (aCons (eVar 10) aNil))))) (δ := [a, b, c, some (.ref n), some (fldD h R), some (.ref k), some (fldD h (rowsOf g W R.length)), x7, some (cellD t), some (cellD p), some (.int low), x11, x12, x13]) rfl (x_eLst (cons_of x_eC (cons_of (op_of rfl x_eC rfl) (cons_of mx (cons_of rfl x_aNil)))) (by simp)) rfl s1.p (by omega) (by omega) (by omega)
  have hz : ∃ z : Int, d = .int z ∧ 0 ≤ z ∧ z ≤ h := by
    simp only [List.mem_cons, List.not_mem_nil, or_false] at m2
    rcases m2 with rfl | rfl | rfl | rfl
    · exact ⟨0, rfl, by omega, by omega⟩
    · exact ⟨h, rfl, by omega, by omega⟩
    · exact ⟨_, rfl, by split <;> omega, by split <;> omega⟩
    · exact ⟨low, rfl, by omega, by omega⟩
  obtain ⟨z, rfl, hz⟩ := hz
  have ms := may_stand_sp (ct := ct) ok os hl ht hpl hz M2
  rw [low_rows, hlow] at ms
  refine ⟨some (.int low), some (.int z), M2, ?_, s1.fr p2 r2⟩
  unfold sSpot4
  refine seq_as (M1 := M ++ l) (δ' := [a, b, c, some (.ref n), some (fldD h R), some (.ref k), some (fldD h (rowsOf g W R.length)), x7, some (cellD t), some (cellD p), some (.int low), x11, x12, x13]) (call_of (ds := [fldD h R, .ref k, cellD t, cellD p]) (cons_of rfl (cons_of rfl (cons_of rfl (cons_of rfl x_aNil)))) e1) rfl ?_
  refine seq_if0 (M1 := M ++ l) (reprs_eq (nz_int (i := low) ⟨bd.1, by omega⟩) (by decide) (by decide) (call_of (ds := [fldD h R, fldD h (rowsOf g W R.length), cellD t, cellD p]) (cons_of rfl (cons_of rfl (cons_of rfl (cons_of rfl x_aNil)))) lw) rfl) ?_
  refine seq_as (M1 := M2) (δ' := [a, b, c, some (.ref n), some (fldD h R), some (.ref k), some (fldD h (rowsOf g W R.length)), x7, some (cellD t), some (cellD p), some (.int low), some (.int z), x12, x13]) e2 rfl ?_
  exact if_ff (M1 := M2) (reprs_eq (n := 1921) (k := 0) (nz_smp (d := .bl (decide (low ≤ z))) trivial) (by decide) (by decide) (call_of (ds := [fldD h R, fldD h (rowsOf g W R.length), cellD t, cellD p, .int z]) (cons_of rfl (cons_of rfl (cons_of rfl (cons_of rfl (cons_of rfl x_aNil))))) ms) (op_of rfl rfl rfl)) nil_of
theorem spot_go4 (ok : FldOk h R W) (ht : ToolOk t) {g : Int × Int → Int} (hg : ∀ c, 0 ≤ g c ∧ g c ≤ h) {Ts : Mh} {n k : Nat} (a b c x7 x12 x13 : Option D) : ∀ (A : List (Int × Int)), (∀ p ∈ A, p ∈ spotsC (W : Nat) (R.length : Nat) t.1) → ∀ (B : Int) (M : Mh), Stk Ts n k g (allC (W : Nat) (R.length : Nat)) B M → B + 4 * A.length < 2 ^ 55 → ∀ (x9 x10 x11 : Option D),
    ∃ y9 y10 y11 M', forGo (gN 9) (sSpot4 ct) (A.map cellD) [a, b, c, some (.ref n), some (fldD h R), some (.ref k), some (fldD h (rowsOf g W R.length)), x7, some (cellD t), x9, x10, x11, x12, x13] M = some (.nx [a, b, c, some (.ref n), some (fldD h R), some (.ref k), some (fldD h (rowsOf g W R.length)), x7, some (cellD t), y9, y10, y11, x12, x13] M') ∧ Stk Ts n k g (allC (W : Nat) (R.length : Nat)) (B + 4 * A.length) M'
  | [], _, B, M, s, _, x9, x10, x11 => ⟨x9, x10, x11, M, forN_, s.up (by simp)⟩
  | p :: A, hA, B, M, s, hB, x9, x10, x11 => by
    rw [List.length_cons] at hB ⊢
    obtain ⟨y10, y11, M1, e1, s1⟩ := spot_step4 (ct := ct) ok ht hg s (by omega) (hA p List.mem_cons_self) a b c x7 x10 x11 x12 x13
    obtain ⟨z9, z10, z11, M', e2, s2⟩ := spot_go4 ok ht hg a b c x7 x12 x13 A (fun q hq => hA q (List.mem_cons_of_mem _ hq)) (B + 4) M1 s1 (by omega) (some (cellD p)) y10 y11
    refine ⟨z9, z10, z11, M', ?_, s2.up (by omega)⟩
    rw [List.map_cons]
    exact forC_ (δ1 := [a, b, c, some (.ref n), some (fldD h R), some (.ref k), some (fldD h (rowsOf g W R.length)), x7, some (cellD t), some (cellD p), x10, x11, x12, x13]) rfl e1 e2
noncomputable def sTurn4 (ct : CT) : SF := (sSeq (sAs (eTup (aCons (eOp gAdd (eC (.int 1)) (eCall ff_law_digit (aCons (eVar 3) (aCons (eC (.int 4)) aNil)) [])) (aCons (eOp gAdd (eC (.int 1)) (eCall ff_law_digit (aCons (eVar 3) (aCons (eC (.int 6)) aNil)) [])) aNil))) (gN 8)) (sSeq (sFor (aItems (eCall ff_law_spots (aCons (eVar 4) (aCons (eOp gIx (eVar 8) (eC (.int 0))) aNil)) [])) (gN 9) (sSpot4 ct)) (sSeq (sAs (eOp gIx (eLst (aCons (eUn gNeg (eC (.int 1))) (aCons (eOp gAdd (eOp gIx (eVar 4) (eC (.int 0))) (eC (.int 1))) (aCons (eC (.bl true)) (aCons (eC .non) (aCons (eC (.str "0")) (aCons (eTup (aCons (eC (.int 0)) aNil)) aNil))))))) (eCall ff_law_digit (aCons (eVar 3) (aCons (eC (.int 6)) aNil)) [])) (gN 12)) (sSeq (sAs (eLam 2 ct.P_law "law.<locals>.<lambda>" 3 (lg_law_caught ct) [4, 6, 8, 12] (qCall (qq_may_stand ct) (aCons (eVar 4) (aCons (eVar 6) (aCons (eVar 8) (aCons (eTup (aCons (eC (.int 0)) (aCons (eC (.int 0)) aNil))) (aCons (eVar 12) aNil))))) [])) (gN 13)) (sIf (tV (eOp (gEq fun p q => !PyData.eqv p q) (eCall (ff_law_kinds ct) (aCons (eVar 13) aNil) []) (eLst (aCons (eC (.str "place")) (aCons (eC (.str "ours")) (aCons (eC (.str "value")) aNil)))))) (sRet (eC (.bl false))) sNil)))))
theorem turn4 (I : Isa ct) (ok : FldOk h R W) {g : Int × Int → Int} (hg : ∀ c, 0 ≤ g c ∧ g c ≤ h) {Ts : Mh} {n k : Nat} {B : Int} {M : Mh} (hT : Ts[2]? = some (.tab ct.P_law "law.<locals>.<lambda>")) (s : Stk Ts n k g (allC (W : Nat) (R.length : Nat)) B M) (hB : B < 2 ^ 54) (a b c x7 x8 x9 x10 x11 x12 x13 : Option D) :
    ∃ (t : Int × Int) (y9 y10 y11 y12 y13 : Option D) (M' : Mh), sTurn4 ct [a, b, c, some (.ref n), some (fldD h R), some (.ref k), some (fldD h (rowsOf g W R.length)), x7, x8, x9, x10, x11, x12, x13] M = some (.nx [a, b, c, some (.ref n), some (fldD h R), some (.ref k), some (fldD h (rowsOf g W R.length)), x7, some (cellD t), y9, y10, y11, y12, y13] M') ∧ ToolOk t ∧ Stk Ts n k g (allC (W : Nat) (R.length : Nat)) (B + 600) M' := by
  have lt : 2 < Ts.length := (List.getElem?_eq_some_iff.mp hT).1
  obtain ⟨v, M1, e1, b1, p1, r1⟩ := dg1 (i := 3) (fm := eC (.int 4)) (many := 4) (δ := [a, b, c, some (.ref n), some (fldD h R), some (.ref k), some (fldD h (rowsOf g W R.length)), x7, x8, x9, x10, x11, x12, x13]) rfl x_eC s.p (by omega) (by omega) (by omega)
  obtain ⟨u, M2, e2, b2, p2, r2⟩ := dg1 (i := 3) (fm := eC (.int 6)) (many := 6) (δ := [a, b, c, some (.ref n), some (fldD h R), some (.ref k), some (fldD h (rowsOf g W R.length)), x7, x8, x9, x10, x11, x12, x13]) rfl x_eC p1 (by omega) (by omega) (by omega)
  have ht : ToolOk (v, u) := ⟨b1, b2⟩
  obtain ⟨d1, d2⟩ := ok.dim
  have hh := ok.h1
  have s2 := (s.fr p1 r1).fr p2 r2
  have sl : (spotsC (W : Nat) (R.length : Nat) v).length ≤ 144 := spots_len d1 d2 ht.1
  obtain ⟨y9, y10, y11, M3, e3, s3⟩ := spot_go4 (ct := ct) ok ht hg a b c x7 x12 x13 (spotsC (W : Nat) (R.length : Nat) v) (fun p hp => hp) _ _ (s2.apps [.dead]) (by omega) x9 x10 x11
  obtain ⟨d, M4, e4, m4, p4, r4⟩ := pick_f (j := 3) (many := 6) (xs := [.int (-1), .int (h + 1), .bl true, .non, .str "0", .tup [.int 0]]) (fl := eLst (aCons (eUn gNeg (eC (.int 1))) (aCons (eOp gAdd (eOp gIx (eVar 4) (eC (.int 0))) (eC (.int 1))) (aCons (eC (.bl true)) (aCons (eC .non) (aCons (eC (.str "0")) (aCons (eTup (aCons (eC (.int 0)) aNil)) aNil))))))) (δ := [a, b, c, some (.ref n), some (fldD h R), some (.ref k), some (fldD h (rowsOf g W R.length)), x7, some (cellD (v, u)), y9, y10, y11, x12, x13]) rfl (x_eLst (cons_of (show eUn gNeg (eC (.int 1)) _ M3 = some (.int (-1), M3) from rfl) (cons_of (op_of (op_of rfl x_eC rfl) x_eC rfl) (cons_of x_eC (cons_of x_eC (cons_of x_eC (cons_of (x_eTup (cons_of x_eC x_aNil) (by simp)) x_aNil)))))) (by simp)) rfl s3.p (by omega) (by omega) (by omega)
  have s4 := s3.fr p4 r4
  have hd : ∃ f : Int → Int → Bool, Am d f ∧ f 0 h = false := by
    simp only [List.mem_cons, List.not_mem_nil, or_false] at m4
    rcases m4 with rfl | rfl | rfl | rfl | rfl | rfl
    · exact ⟨_, am_int _, rfl⟩
    · refine ⟨_, am_int _, ?_⟩
      show (decide (0 ≤ h + 1) && decide (h + 1 ≤ h)) = false
      rw [decide_eq_false (show ¬ h + 1 ≤ h by omega), Bool.and_false]
    · exact ⟨_, am_bl _, rfl⟩
    · exact ⟨_, am_non, rfl⟩
    · exact ⟨_, am_str _, rfl⟩
    · exact ⟨_, am_tup _, rfl⟩
  obtain ⟨f, hd, hf⟩ := hd
  have os : FldOk h (rowsOf g W R.length) W := rows_ok hh ok.w ok.l fun c _ => hg c
  have p00 : plB (W : Nat) (R.length : Nat) v ((0 : Int), (0 : Int)) = true := by
    have w := ok.w
    have l := ok.l
    unfold plB
    simp only [Bool.and_eq_true, decide_eq_true_eq]
    omega
  have e5 := lam_ep (ct := ct) (m0 := 2) (P := ct.P_law) (q := "law.<locals>.<lambda>") (is := [4, 6, 8, 12]) (fb := qCall (qq_may_stand ct) (aCons (eVar 4) (aCons (eVar 6) (aCons (eVar 8) (aCons (eTup (aCons (eC (.int 0)) (aCons (eC (.int 0)) aNil))) (aCons (eVar 12) aNil))))) []) (δ := [a, b, c, some (.ref n), some (fldD h R), some (.ref k), some (fldD h (rowsOf g W R.length)), x7, some (cellD (v, u)), y9, y10, y11, some d, x13]) ((s4.p.z 2 lt).trans hT) rfl (q_call (ds := [fldD h R, fldD h (rowsOf g W R.length), cellD (v, u), cellD (0, 0), d]) (cons_of rfl (cons_of rfl (cons_of rfl (cons_of (two_e x_eC x_eC) (cons_of rfl x_aNil))))) (standQ_height ok os (rows_len _ _ _) ht p00 hd hf M4))
  refine ⟨(v, u), y9, y10, y11, some d, some (.ref M4.length), M4 ++ [.exc ct.OutOfPlace], ?_, ht, (s4.apps _).up (by omega)⟩
  unfold sTurn4
  refine seq_as (M1 := M2) (δ' := [a, b, c, some (.ref n), some (fldD h R), some (.ref k), some (fldD h (rowsOf g W R.length)), x7, some (cellD (v, u)), x9, x10, x11, x12, x13]) (tup_ (ds := [.int v, .int u]) (cons_of e1 (cons_of e2 x_aNil)) (by simp)) rfl ?_
  refine seq_nx (for_ (itemsL_ (call_of (ds := [fldD h R, .int v]) (cons_of rfl (cons_of (op_of rfl x_eC ix_c0) x_aNil)) (spots_sp ok ht.1 M2))) e3) ?_
  refine seq_as (M1 := M4) (δ' := [a, b, c, some (.ref n), some (fldD h R), some (.ref k), some (fldD h (rowsOf g W R.length)), x7, some (cellD (v, u)), y9, y10, y11, some d, x13]) e4 rfl ?_
  refine seq_as (M1 := M4 ++ [.exc ct.OutOfPlace]) (δ' := [a, b, c, some (.ref n), some (fldD h R), some (.ref k), some (fldD h (rowsOf g W R.length)), x7, some (cellD (v, u)), y9, y10, y11, some d, some (.ref M4.length)]) e5 rfl ?_
  exact if_ff (M1 := M4 ++ [MO.exc ct.OutOfPlace]) (v_bl (op_of (call_of (ds := [.ref M4.length]) (cons_of rfl x_aNil) (kinds_place I (M := M4 ++ [MO.exc ct.OutOfPlace]) (by simp))) wP_e (neP (M4 ++ [MO.exc ct.OutOfPlace])))) nil_of
noncomputable def sCell4 (ct : CT) : SF := (sSeq (sAs (eCall ff_law_draw (aCons (eVar 2) (aCons (eVar 1) aNil)) []) (gN 3)) (sSeq (sAs (eCall ff_law_a_field (aCons (eVar 3) (aCons (eC (.int 5)) aNil)) []) (gN 4)) (sSeq (sAs (eCall ff_law_stock (aCons (eVar 3) (aCons (eVar 4) aNil)) []) (gN 5)) (sSeq (sAs (eCall ff_law_as_field (aCons (eVar 4) (aCons (eVar 5) aNil)) []) (gN 6)) (sSeq (sIf (tV (eOp (gEq fun p q => !PyData.eqv p q) (eB gRepr (aCons (eCall (ff_solid ct) (aCons (eVar 4) aNil) []) aNil)) (eB gRepr (aCons (eCall ff_law_as_field (aCons (eVar 4) (aCons (eCall ff_law_full (aCons (eVar 4) aNil) []) aNil)) []) aNil)))) (sRet (eC (.bl false))) sNil) (sSeq (sFor (aRng1 (aCons (eC (.int 3)) aNil)) (gN 7) (sTurn4 ct)) (sIf (tOrr (tNt (tV (eCall (ff_law_stocks_refused ct) (aCons (eVar 3) (aCons (eVar 4) (aCons (eVar 6) aNil))) []))) (tNt (tV (eCall (ff_law_order_right ct) (aCons (eVar 3) (aCons (eVar 4) (aCons (eVar 6) (aCons (eVar 8) aNil)))) [])))) (sRet (eC (.bl false))) sNil)))))))
noncomputable def eL4 : EF := eSl (eOp gAddQ (eVar 0) (eLst (aCons (eC (.int 5)) (aCons (eC (.int 2)) aNil)))) pNone (pSome (eC (.int 8)))
theorem law_gg4 (ct : CT) : gg_law ct = sSeq (sFor (aEnum (aCons eL4 aNil)) (gTp (gsCons (gN 1) (gsCons (gN 2) gsNil))) (sCell4 ct)) (sRet (eC (.bl true))) := rfl
theorem cell_step4 (I : Isa ct) {Ts M : Mh} {k cl : Int} (k0 : 0 ≤ k) (k1 : k ≤ 1000) (h0 : Ts[0]? = some (.tab ct.P_law_stocks_refused "_law_stocks_refused.<locals>.<lambda>")) (h1 : Ts[1]? = some (.tab ct.P_law_order_right "_law_order_right.<locals>.<lambda>")) (h2 : Ts[2]? = some (.tab ct.P_law "law.<locals>.<lambda>")) (hz : Fz Ts M) (s x3 x4 x5 x6 x7 x8 x9 x10 x11 x12 x13 : Option D) :
    ∃ y3 y4 y5 y6 y7 y8 y9 y10 y11 y12 y13 M', sCell4 ct [s, some (.int k), some (.int cl), x3, x4, x5, x6, x7, x8, x9, x10, x11, x12, x13] M = some (.nx [s, some (.int k), some (.int cl), y3, y4, y5, y6, y7, y8, y9, y10, y11, y12, y13] M') ∧ Fz Ts M' := by
  obtain ⟨M1, e1, p1⟩ := drawB (cell := cl) k0 k1 hz
  generalize M.length = n at e1 p1
  obtain ⟨h, R, W, M2, e2, ok, p2⟩ := afield_sp p1 (by omega)
  obtain ⟨g, kk, M3, e3, hg, d3, p3⟩ := stock_sp ok p2 (by omega)
  have kn : kk ≠ n := fun e => by
    have := p3.a.lt
    subst e
    obtain ⟨_, _, _, hk, _⟩ := p3.a
    rw [d3] at hk
    unfold dk at hk
    cases hk
  have s3 : Stk Ts n kk g (allC (W : Nat) (R.length : Nat)) _ M3 := ⟨p3, kn, d3⟩
  have hh := ok.h1
  have os : FldOk h (rowsOf g W R.length) W := rows_ok hh ok.w ok.l fun c _ => hg c
  have of : FldOk h (rowsOf (fun _ => h) W R.length) W := rows_ok hh ok.w ok.l fun c _ => ⟨by omega, Int.le_refl _⟩
  have e4 := full_sp ok M3
  have s4 := (s3.apps [.dead]).apps [.dct (dctOf (fun _ => h) (allC (W : Nat) (R.length : Nat)))]
  have e5 := as_field_sp (g := fun _ => h) (n := (M3 ++ [MO.dead]).length) (M := (M3 ++ [.dead]) ++ [.dct (dctOf (fun _ => h) (allC (W : Nat) (R.length : Nat)))]) ok at_end
  obtain ⟨t1, a9, a10, a11, a12, a13, N1, f1, _, s5⟩ := turn4 (ct := ct) I ok hg h2 s4 (by omega) s (some (.int k)) (some (.int cl)) (some (.int 0)) x8 x9 x10 x11 x12 x13
  obtain ⟨t2, b9, b10, b11, b12, b13, N2, f2, _, s6⟩ := turn4 (ct := ct) I ok hg h2 s5 (by omega) s (some (.int k)) (some (.int cl)) (some (.int 1)) (some (cellD t1)) a9 a10 a11 a12 a13
  obtain ⟨t3, c9, c10, c11, c12, c13, N3, f3, ht, s7⟩ := turn4 (ct := ct) I ok hg h2 s6 (by omega) s (some (.int k)) (some (.int cl)) (some (.int 2)) (some (cellD t2)) b9 b10 b11 b12 b13
  obtain ⟨M8, e8, p8⟩ := stocks_sp I ok os (rows_len _ _ _) h0 s7.p (by omega)
  obtain ⟨M9, e9, p9⟩ := order_sp I ok os (rows_len _ _ _) ht h1 p8 (by omega)
  refine ⟨some (.ref n), some (fldD h R), some (.ref kk), some (fldD h (rowsOf g W R.length)), some (.int 2), some (cellD t3), c9, c10, c11, c12, c13, M9, ?_, p9.fz⟩
  unfold sCell4
  refine seq_as (M1 := M1) (δ' := [s, some (.int k), some (.int cl), some (.ref n), x4, x5, x6, x7, x8, x9, x10, x11, x12, x13]) (call_of (ds := [.int cl, .int k]) (cons_of rfl (cons_of rfl x_aNil)) e1) rfl ?_
  refine seq_as (M1 := M2) (δ' := [s, some (.int k), some (.int cl), some (.ref n), some (fldD h R), x5, x6, x7, x8, x9, x10, x11, x12, x13]) (call_of (ds := [.ref n, .int 5]) (cons_of rfl (cons_of x_eC x_aNil)) e2) rfl ?_
  refine seq_as (M1 := M3) (δ' := [s, some (.int k), some (.int cl), some (.ref n), some (fldD h R), some (.ref kk), x6, x7, x8, x9, x10, x11, x12, x13]) (call_of (ds := [.ref n, fldD h R]) (cons_of rfl (cons_of rfl x_aNil)) e3) rfl ?_
  refine seq_as (M1 := M3) (δ' := [s, some (.int k), some (.int cl), some (.ref n), some (fldD h R), some (.ref kk), some (fldD h (rowsOf g W R.length)), x7, x8, x9, x10, x11, x12, x13]) (call_of (ds := [fldD h R, .ref kk]) (cons_of rfl (cons_of rfl x_aNil)) (as_field_sp ok d3)) rfl ?_
  refine seq_if0 (M1 := (M3 ++ [MO.dead]) ++ [MO.dct (dctOf (fun _ => h) (allC (W : Nat) (R.length : Nat)))]) (reprs_eq (M1 := M3) (M2 := (M3 ++ [MO.dead]) ++ [MO.dct (dctOf (fun _ => h) (allC (W : Nat) (R.length : Nat)))]) (nz_fld of) (by decide) (by decide) (call_of (ds := [fldD h R]) (cons_of rfl x_aNil) ((solid_sp ok M3).trans (by rw [solid_eq ok]))) (call_of (ds := [fldD h R, .ref (M3 ++ [MO.dead]).length]) (cons_of rfl (cons_of (call_of (ds := [fldD h R]) (cons_of rfl x_aNil) e4) x_aNil)) e5)) ?_
  refine seq_nx (for_ (rng1Z (j := 3) (cons_of x_eC x_aNil) (by omega)) (show forGo (gN 7) (sTurn4 ct) [.int 0, .int 1, .int 2] _ _ = _ from forC_ (δ1 := [s, some (.int k), some (.int cl), some (.ref n), some (fldD h R), some (.ref kk), some (fldD h (rowsOf g W R.length)), some (.int 0), x8, x9, x10, x11, x12, x13]) rfl f1 (forC_ (δ1 := [s, some (.int k), some (.int cl), some (.ref n), some (fldD h R), some (.ref kk), some (fldD h (rowsOf g W R.length)), some (.int 1), some (cellD t1), a9, a10, a11, a12, a13]) rfl f2 (forC_ (δ1 := [s, some (.int k), some (.int cl), some (.ref n), some (fldD h R), some (.ref kk), some (fldD h (rowsOf g W R.length)), some (.int 2), some (cellD t2), b9, b10, b11, b12, b13]) rfl f3 forN_)))) ?_
  exact if_ff (or0 (M1 := M8) (nt_of (b := true) (v_bl (call_of (ds := [.ref n, fldD h R, fldD h (rowsOf g W R.length)]) (cons_of rfl (cons_of rfl (cons_of rfl x_aNil))) e8))) (nt_of (b := true) (v_bl (call_of (ds := [.ref n, fldD h R, fldD h (rowsOf g W R.length), cellD t3]) (cons_of rfl (cons_of rfl (cons_of rfl (cons_of rfl x_aNil)))) e9)))) nil_of
theorem cell_go4 (I : Isa ct) {Ts : Mh} (h0 : Ts[0]? = some (.tab ct.P_law_stocks_refused "_law_stocks_refused.<locals>.<lambda>")) (h1 : Ts[1]? = some (.tab ct.P_law_order_right "_law_order_right.<locals>.<lambda>")) (h2 : Ts[2]? = some (.tab ct.P_law "law.<locals>.<lambda>")) (s : Option D) : ∀ (L : List D), (∀ d ∈ L, ∃ k c : Int, d = .tup [.int k, .int c] ∧ 0 ≤ k ∧ k ≤ 1000) → ∀ (M : Mh), Fz Ts M → ∀ (x1 x2 x3 x4 x5 x6 x7 x8 x9 x10 x11 x12 x13 : Option D), ∃ (δ' : Pl.Env) (M' : Mh), forGo (gTp (gsCons (gN 1) (gsCons (gN 2) gsNil))) (sCell4 ct) L [s, x1, x2, x3, x4, x5, x6, x7, x8, x9, x10, x11, x12, x13] M = some (.nx δ' M')
  | [], _, M, _, _, _, _, _, _, _, _, _, _, _, _, _, _ => ⟨_, M, forN_⟩
  | d :: L, h, M, hz, x1, x2, x3, x4, x5, x6, x7, x8, x9, x10, x11, x12, x13 => by
    obtain ⟨k, c, rfl, k0, k1⟩ := h d List.mem_cons_self
    obtain ⟨y3, y4, y5, y6, y7, y8, y9, y10, y11, y12, y13, M1, e, z1⟩ := cell_step4 I (M := M) (cl := c) k0 k1 h0 h1 h2 hz s x3 x4 x5 x6 x7 x8 x9 x10 x11 x12 x13
    obtain ⟨δ', M', e2⟩ := cell_go4 I h0 h1 h2 s L (fun q hq => h q (List.mem_cons_of_mem _ hq)) M1 z1 (some (.int k)) (some (.int c)) y3 y4 y5 y6 y7 y8 y9 y10 y11 y12 y13
    exact ⟨δ', M', forC_ (δ1 := [s, some (.int k), some (.int c), x3, x4, x5, x6, x7, x8, x9, x10, x11, x12, x13]) rfl e e2⟩
theorem truth (ct : CT) (I : Isa ct) : ∀ ns : List Int, ns.length ≤ 63 → ∃ M', ff_law ct [.lsk (ns.map D.int)] (tabsM [(0, ct.P_law_stocks_refused, "_law_stocks_refused.<locals>.<lambda>"), (0, ct.P_law_order_right, "_law_order_right.<locals>.<lambda>"), (0, ct.P_law, "law.<locals>.<lambda>")]) = some (.bl true, M') := by
  intro ns hn
  generalize hM : tabsM [(0, ct.P_law_stocks_refused, "_law_stocks_refused.<locals>.<lambda>"), (0, ct.P_law_order_right, "_law_order_right.<locals>.<lambda>"), (0, ct.P_law, "law.<locals>.<lambda>")] = M0
  have h0 : M0[0]? = some (.tab ct.P_law_stocks_refused "_law_stocks_refused.<locals>.<lambda>") := by rw [← hM]; rfl
  have h1 : M0[1]? = some (.tab ct.P_law_order_right "_law_order_right.<locals>.<lambda>") := by rw [← hM]; rfl
  have h2 : M0[2]? = some (.tab ct.P_law "law.<locals>.<lambda>") := by rw [← hM]; rfl
  have s1 : eL4 [some (.lsk (ns.map D.int)), none, none, none, none, none, none, none, none, none, none, none, none, none] M0 = some (.lst (((ns ++ [5, 2]).take 8).map D.int), M0) := by
    refine (sl_L (xs := (ns ++ [5, 2]).map D.int) (op_of (a := .lsk (ns.map D.int)) (b := .lst [.int 5, .int 2]) (M1 := M0) (M2 := M0) rfl (x_eLst (cons_of x_eC (cons_of x_eC x_aNil)) (by simp)) ?_) rfl (ps_of (i := 8) x_eC)).trans ?_
    · show (if _ then _ else none) = _
      rw [if_pos (by rw [List.length_map]; exact Nat.le_trans (show _ ≤ 65 by simp; omega) (by decide)), List.map_append]
      rfl
    · rw [show (8 : Int) = ((8 : Nat) : Int) from rfl, cut_front, List.map_take]
  have s2 : ∃ L : List D, aEnum (aCons eL4 aNil) [some (.lsk (ns.map D.int)), none, none, none, none, none, none, none, none, none, none, none, none, none] M0 = some (L, M0) ∧ ∀ d ∈ L, ∃ k c : Int, d = .tup [.int k, .int c] ∧ 0 ≤ k ∧ k ≤ 1000 := by
    unfold aEnum
    rw [cons_of s1 x_aNil]
    refine ⟨_, rfl, fun d hd => ?_⟩
    obtain ⟨⟨p, q⟩, hp, rfl⟩ := List.mem_map.mp hd
    obtain ⟨hp1, hp2⟩ := List.of_mem_zip hp
    obtain ⟨i, hi, rfl⟩ := List.mem_map.mp hp1
    have hi' := List.mem_range.mp hi
    rw [List.length_map, List.length_take] at hi'
    obtain ⟨c, _, rfl⟩ := List.mem_map.mp hp2
    exact ⟨i, c, rfl, by omega, by omega⟩
  obtain ⟨L, e, hL⟩ := s2
  obtain ⟨δ', M', ec⟩ := cell_go4 I h0 h1 h2 (some (.lsk (ns.map D.int))) L hL M0 ⟨Nat.le_refl _, fun _ _ => rfl⟩ none none none none none none none none none none none none none
  refine ⟨M', fn_ (δ0 := [some (.lsk (ns.map D.int)), none, none, none, none, none, none, none, none, none, none, none, none, none]) rfl ?_⟩
  rw [law_gg4]
  refine seq_nx (δ' := δ') (M1 := M') ?_ (ret_ x_eC)
  unfold sFor
  rw [e]
  exact ec
end
end Law
namespace Law
open PySem L2 Pl
theorem all_mk {l : PySem.W.OpenLaw} {w : World} {K : PySem.W.Frag} {h : Heap} {mg : Str → Option Value} {fa : Addr} (X : K.In h) (G : h.Ns mainGlobals mg) (hfa : mg "law" = some (.ref fa)) {ts : List Addr}
    {tk_MOST_HIGH : Tok}
    {tk_MOST_SIDE : Tok}
    {tk_MOST_TOOL : Tok}
    {tk_MOST_LENGTH : Tok}
    {C_BadField : Addr}
    {C_BadTools : Addr}
    {C_OutOfPlace : Addr}
    {C_BadSketch : Addr}
    {C_BadRow : Addr}
    {C_BadOutline : Addr}
    {C_BadBlock : Addr}
    {C_BadFeature : Addr}
    {C_BadWay : Addr}
    {C_Clash : Addr}
    {C_BadPaper : Addr}
    {C_Twice : Addr}
    {C_NoPoint : Addr}
    {C_TooGreat : Addr}
    {C_NoFeature : Addr}
    {C_NoSaying : Addr}
    {C_NoToolThere : Addr}
    {C_Nothing : Addr}
    {C_Lowered : Addr}
    {C_Lifted : Addr}
    {C_Blocked : Addr}
    {C_Beyond : Addr}
    {C_WorksError : Addr}
    {C_TooDeep : Addr}
    {C_MissError : Addr}
    {C_FaultError : Addr}
    {C_NoTool : Addr}
    {f_is_whole : Addr} {od_is_whole an_is_whole : Option Addr} {sl_is_whole : Array (Option Value)} {oc_is_whole dc_is_whole pm_is_whole cd_is_whole ct_is_whole : Value}
    {kV_is_whole : Value}
    {f_is_among : Addr} {od_is_among an_is_among : Option Addr} {sl_is_among : Array (Option Value)} {oc_is_among dc_is_among pm_is_among cd_is_among ct_is_among : Value}
    {kV_is_among : Value}
    {f_BadField_init : Addr} {od_BadField_init an_BadField_init : Option Addr} {sl_BadField_init : Array (Option Value)} {oc_BadField_init dc_BadField_init pm_BadField_init cd_BadField_init ct_BadField_init : Value}
    {dT_BadField_init : Addr} {dO_BadField_init : Obj} {dI_BadField_init : Array Value} {dN_BadField_init : Nat}
    {kV_BadField_init : Value}
    {f_need_field : Addr} {od_need_field an_need_field : Option Addr} {sl_need_field : Array (Option Value)} {oc_need_field dc_need_field pm_need_field cd_need_field ct_need_field : Value}
    {kV_need_field : Value}
    {f_plain_sides : Addr} {od_plain_sides an_plain_sides : Option Addr} {sl_plain_sides : Array (Option Value)} {oc_plain_sides dc_plain_sides pm_plain_sides cd_plain_sides ct_plain_sides : Value}
    {kV_plain_sides : Value}
    {f_height_of : Addr} {od_height_of an_height_of : Option Addr} {sl_height_of : Array (Option Value)} {oc_height_of dc_height_of pm_height_of cd_height_of ct_height_of : Value}
    {kV_height_of : Value}
    {f_need_stock : Addr} {od_need_stock an_need_stock : Option Addr} {sl_need_stock : Array (Option Value)} {oc_need_stock dc_need_stock pm_need_stock cd_need_stock ct_need_stock : Value}
    {kV_need_stock : Value}
    {f_is_tool : Addr} {od_is_tool an_is_tool : Option Addr} {sl_is_tool : Array (Option Value)} {oc_is_tool dc_is_tool pm_is_tool cd_is_tool ct_is_tool : Value}
    {kV_is_tool : Value}
    {f_BadTools_init : Addr} {od_BadTools_init an_BadTools_init : Option Addr} {sl_BadTools_init : Array (Option Value)} {oc_BadTools_init dc_BadTools_init pm_BadTools_init cd_BadTools_init ct_BadTools_init : Value}
    {dT_BadTools_init : Addr} {dO_BadTools_init : Obj} {dI_BadTools_init : Array Value} {dN_BadTools_init : Nat}
    {kV_BadTools_init : Value}
    {f_need_tool : Addr} {od_need_tool an_need_tool : Option Addr} {sl_need_tool : Array (Option Value)} {oc_need_tool dc_need_tool pm_need_tool cd_need_tool ct_need_tool : Value}
    {kV_need_tool : Value}
    {f_is_place_of : Addr} {od_is_place_of an_is_place_of : Option Addr} {sl_is_place_of : Array (Option Value)} {oc_is_place_of dc_is_place_of pm_is_place_of cd_is_place_of ct_is_place_of : Value}
    {kV_is_place_of : Value}
    {f_need_place : Addr} {od_need_place an_need_place : Option Addr} {sl_need_place : Array (Option Value)} {oc_need_place dc_need_place pm_need_place cd_need_place ct_need_place : Value}
    {kV_need_place : Value}
    {f_need_seat : Addr} {od_need_seat an_need_seat : Option Addr} {sl_need_seat : Array (Option Value)} {oc_need_seat dc_need_seat pm_need_seat cd_need_seat ct_need_seat : Value}
    {kV_need_seat : Value}
    {f_need_height : Addr} {od_need_height an_need_height : Option Addr} {sl_need_height : Array (Option Value)} {oc_need_height dc_need_height pm_need_height cd_need_height ct_need_height : Value}
    {kV_need_height : Value}
    {f_cells_between : Addr} {od_cells_between an_cells_between : Option Addr} {sl_cells_between : Array (Option Value)} {oc_cells_between dc_cells_between pm_cells_between cd_cells_between ct_cells_between : Value}
    {kV_cells_between : Value}
    {f_plain_under : Addr} {od_plain_under an_plain_under : Option Addr} {sl_plain_under : Array (Option Value)} {oc_plain_under dc_plain_under pm_plain_under cd_plain_under ct_plain_under : Value}
    {kV_plain_under : Value}
    {f_plain_ring : Addr} {od_plain_ring an_plain_ring : Option Addr} {sl_plain_ring : Array (Option Value)} {oc_plain_ring dc_plain_ring pm_plain_ring cd_plain_ring ct_plain_ring : Value}
    {kV_plain_ring : Value}
    {f_first_of_ring : Addr} {od_first_of_ring an_first_of_ring : Option Addr} {sl_first_of_ring : Array (Option Value)} {oc_first_of_ring dc_first_of_ring pm_first_of_ring cd_first_of_ring ct_first_of_ring : Value}
    {kV_first_of_ring : Value}
    {f_first_in_way : Addr} {od_first_in_way an_first_in_way : Option Addr} {sl_first_in_way : Array (Option Value)} {oc_first_in_way dc_first_in_way pm_first_in_way cd_first_in_way ct_first_in_way : Value}
    {kV_first_in_way : Value}
    {f_may_stand : Addr} {od_may_stand an_may_stand : Option Addr} {sl_may_stand : Array (Option Value)} {oc_may_stand dc_may_stand pm_may_stand cd_may_stand ct_may_stand : Value}
    {kV_may_stand : Value}
    {f_lowest : Addr} {od_lowest an_lowest : Option Addr} {sl_lowest : Array (Option Value)} {oc_lowest dc_lowest pm_lowest cd_lowest ct_lowest : Value}
    {kV_lowest : Value}
    {f_solid : Addr} {od_solid an_solid : Option Addr} {sl_solid : Array (Option Value)} {oc_solid dc_solid pm_solid cd_solid ct_solid : Value}
    {kV_solid : Value}
    {f_law_mixed : Addr} {od_law_mixed an_law_mixed : Option Addr} {sl_law_mixed : Array (Option Value)} {oc_law_mixed dc_law_mixed pm_law_mixed cd_law_mixed ct_law_mixed : Value}
    {kV_law_mixed : Value}
    {f_law_draw : Addr} {od_law_draw an_law_draw : Option Addr} {sl_law_draw : Array (Option Value)} {oc_law_draw dc_law_draw pm_law_draw cd_law_draw ct_law_draw : Value}
    {kV_law_draw : Value}
    {f_law_digit : Addr} {od_law_digit an_law_digit : Option Addr} {sl_law_digit : Array (Option Value)} {oc_law_digit dc_law_digit pm_law_digit cd_law_digit ct_law_digit : Value}
    {kV_law_digit : Value}
    {f_law_a_field : Addr} {od_law_a_field an_law_a_field : Option Addr} {sl_law_a_field : Array (Option Value)} {oc_law_a_field dc_law_a_field pm_law_a_field cd_law_a_field ct_law_a_field : Value}
    {kV_law_a_field : Value}
    {f_law_cells : Addr} {od_law_cells an_law_cells : Option Addr} {sl_law_cells : Array (Option Value)} {oc_law_cells dc_law_cells pm_law_cells cd_law_cells ct_law_cells : Value}
    {kV_law_cells : Value}
    {f_law_spots : Addr} {od_law_spots an_law_spots : Option Addr} {sl_law_spots : Array (Option Value)} {oc_law_spots dc_law_spots pm_law_spots cd_law_spots ct_law_spots : Value}
    {kV_law_spots : Value}
    {f_law_near : Addr} {od_law_near an_law_near : Option Addr} {sl_law_near : Array (Option Value)} {oc_law_near dc_law_near pm_law_near cd_law_near ct_law_near : Value}
    {kV_law_near : Value}
    {f_law_aim : Addr} {od_law_aim an_law_aim : Option Addr} {sl_law_aim : Array (Option Value)} {oc_law_aim dc_law_aim pm_law_aim cd_law_aim ct_law_aim : Value}
    {kV_law_aim : Value}
    {f_law_low : Addr} {od_law_low an_law_low : Option Addr} {sl_law_low : Array (Option Value)} {oc_law_low dc_law_low pm_law_low cd_law_low ct_law_low : Value}
    {kV_law_low : Value}
    {f_law_full : Addr} {od_law_full an_law_full : Option Addr} {sl_law_full : Array (Option Value)} {oc_law_full dc_law_full pm_law_full cd_law_full ct_law_full : Value}
    {kV_law_full : Value}
    {f_law_as_field : Addr} {od_law_as_field an_law_as_field : Option Addr} {sl_law_as_field : Array (Option Value)} {oc_law_as_field dc_law_as_field pm_law_as_field cd_law_as_field ct_law_as_field : Value}
    {kV_law_as_field : Value}
    {f_law_kinds : Addr} {od_law_kinds an_law_kinds : Option Addr} {sl_law_kinds : Array (Option Value)} {oc_law_kinds dc_law_kinds pm_law_kinds cd_law_kinds ct_law_kinds : Value}
    {kV_law_kinds : Value}
    {f_law_caught : Addr} {od_law_caught an_law_caught : Option Addr} {sl_law_caught : Array (Option Value)} {oc_law_caught dc_law_caught pm_law_caught cd_law_caught ct_law_caught : Value}
    {kV_law_caught : Value}
    {f_law_stock : Addr} {od_law_stock an_law_stock : Option Addr} {sl_law_stock : Array (Option Value)} {oc_law_stock dc_law_stock pm_law_stock cd_law_stock ct_law_stock : Value}
    {kV_law_stock : Value}
    {f_law_stocks_refused : Addr} {od_law_stocks_refused an_law_stocks_refused : Option Addr} {sl_law_stocks_refused : Array (Option Value)} {oc_law_stocks_refused dc_law_stocks_refused pm_law_stocks_refused ct_law_stocks_refused : Value}
    {cA_law_stocks_refused P_law_stocks_refused : Addr} {te_law_stocks_refused : Value} {td_law_stocks_refused : Option Addr} {ts_law_stocks_refused : Array Value} {tu_law_stocks_refused : Array (Option Value)}
    {kV_law_stocks_refused : Value}
    {f_law_order_right : Addr} {od_law_order_right an_law_order_right : Option Addr} {sl_law_order_right : Array (Option Value)} {oc_law_order_right dc_law_order_right pm_law_order_right ct_law_order_right : Value}
    {cA_law_order_right P_law_order_right : Addr} {te_law_order_right : Value} {td_law_order_right : Option Addr} {ts_law_order_right : Array Value} {tu_law_order_right : Array (Option Value)}
    {kV_law_order_right : Value}
    {f_law : Addr} {od_law an_law : Option Addr} {sl_law : Array (Option Value)} {oc_law dc_law pm_law ct_law : Value}
    {cA_law P_law : Addr} {te_law : Value} {td_law : Option Addr} {ts_law : Array Value} {tu_law : Array (Option Value)}
    {kV_law : Value}
    (z_int : PySem.W.nsIn K mainGlobals "int" = some none)
    (z_isinstance : PySem.W.nsIn K mainGlobals "isinstance" = some none)
    (z_bool : PySem.W.nsIn K mainGlobals "bool" = some none)
    (z_tuple : PySem.W.nsIn K mainGlobals "tuple" = some none)
    (z_len : PySem.W.nsIn K mainGlobals "len" = some none)
    (z_enumerate : PySem.W.nsIn K mainGlobals "enumerate" = some none)
    (z_all : PySem.W.nsIn K mainGlobals "all" = some none)
    (z_zip : PySem.W.nsIn K mainGlobals "zip" = some none)
    (z_range : PySem.W.nsIn K mainGlobals "range" = some none)
    (z_min : PySem.W.nsIn K mainGlobals "min" = some none)
    (z_max : PySem.W.nsIn K mainGlobals "max" = some none)
    (z_dict : PySem.W.nsIn K mainGlobals "dict" = some none)
    (z_ValueError : PySem.W.nsIn K mainGlobals "ValueError" = some none)
    (z_LookupError : PySem.W.nsIn K mainGlobals "LookupError" = some none)
    (z_RuntimeError : PySem.W.nsIn K mainGlobals "RuntimeError" = some none)
    (z_list : PySem.W.nsIn K mainGlobals "list" = some none)
    (z_repr : PySem.W.nsIn K mainGlobals "repr" = some none)
    (g_MOST_HIGH : PySem.W.nsIn K mainGlobals "MOST_HIGH" = some (some (.int 6 tk_MOST_HIGH)))
    (g_MOST_SIDE : PySem.W.nsIn K mainGlobals "MOST_SIDE" = some (some (.int 8 tk_MOST_SIDE)))
    (g_MOST_TOOL : PySem.W.nsIn K mainGlobals "MOST_TOOL" = some (some (.int 4 tk_MOST_TOOL)))
    (g_MOST_LENGTH : PySem.W.nsIn K mainGlobals "MOST_LENGTH" = some (some (.int 6 tk_MOST_LENGTH)))
    (a_BadField : PySem.W.nsIn K mainGlobals "BadField" = some (some (.ref C_BadField)))
    (a_BadTools : PySem.W.nsIn K mainGlobals "BadTools" = some (some (.ref C_BadTools)))
    (a_OutOfPlace : PySem.W.nsIn K mainGlobals "OutOfPlace" = some (some (.ref C_OutOfPlace)))
    (a_BadSketch : PySem.W.nsIn K mainGlobals "BadSketch" = some (some (.ref C_BadSketch)))
    (a_BadRow : PySem.W.nsIn K mainGlobals "BadRow" = some (some (.ref C_BadRow)))
    (a_BadOutline : PySem.W.nsIn K mainGlobals "BadOutline" = some (some (.ref C_BadOutline)))
    (a_BadBlock : PySem.W.nsIn K mainGlobals "BadBlock" = some (some (.ref C_BadBlock)))
    (a_BadFeature : PySem.W.nsIn K mainGlobals "BadFeature" = some (some (.ref C_BadFeature)))
    (a_BadWay : PySem.W.nsIn K mainGlobals "BadWay" = some (some (.ref C_BadWay)))
    (a_Clash : PySem.W.nsIn K mainGlobals "Clash" = some (some (.ref C_Clash)))
    (a_BadPaper : PySem.W.nsIn K mainGlobals "BadPaper" = some (some (.ref C_BadPaper)))
    (a_Twice : PySem.W.nsIn K mainGlobals "Twice" = some (some (.ref C_Twice)))
    (a_NoPoint : PySem.W.nsIn K mainGlobals "NoPoint" = some (some (.ref C_NoPoint)))
    (a_TooGreat : PySem.W.nsIn K mainGlobals "TooGreat" = some (some (.ref C_TooGreat)))
    (a_NoFeature : PySem.W.nsIn K mainGlobals "NoFeature" = some (some (.ref C_NoFeature)))
    (a_NoSaying : PySem.W.nsIn K mainGlobals "NoSaying" = some (some (.ref C_NoSaying)))
    (a_NoToolThere : PySem.W.nsIn K mainGlobals "NoToolThere" = some (some (.ref C_NoToolThere)))
    (a_Nothing : PySem.W.nsIn K mainGlobals "Nothing" = some (some (.ref C_Nothing)))
    (a_Lowered : PySem.W.nsIn K mainGlobals "Lowered" = some (some (.ref C_Lowered)))
    (a_Lifted : PySem.W.nsIn K mainGlobals "Lifted" = some (some (.ref C_Lifted)))
    (a_Blocked : PySem.W.nsIn K mainGlobals "Blocked" = some (some (.ref C_Blocked)))
    (a_Beyond : PySem.W.nsIn K mainGlobals "Beyond" = some (some (.ref C_Beyond)))
    (a_WorksError : PySem.W.nsIn K mainGlobals "WorksError" = some (some (.ref C_WorksError)))
    (a_TooDeep : PySem.W.nsIn K mainGlobals "TooDeep" = some (some (.ref C_TooDeep)))
    (a_MissError : PySem.W.nsIn K mainGlobals "MissError" = some (some (.ref C_MissError)))
    (a_FaultError : PySem.W.nsIn K mainGlobals "FaultError" = some (some (.ref C_FaultError)))
    (a_NoTool : PySem.W.nsIn K mainGlobals "NoTool" = some (some (.ref C_NoTool)))
    (e1_BadField : PySem.W.excInitIn K C_BadField [.type "ValueError", .type "Exception", .type "BaseException", .type "object"] "ValueError.__new__" = true) (e2_BadField : PySem.W.excOver K C_BadField [.type "ValueError", .type "Exception", .type "BaseException", .type "object"] = true) (sa_BadField : PySem.W.findIn K (.ref C_BadField) "__setattr__" = some (some (.builtin "object.__setattr__")))
    (ii_BadField : PySem.W.findIn K (.ref C_BadField) "__init__" = some (some (.ref f_BadField_init))) (ti_BadField : PySem.W.typeIn K (.ref f_BadField_init) = some (.type "function"))
    (tk_BadField_place : PySem.W.takerIn K C_BadField "place" = some none) (fn_BadField_place : PySem.W.findIn K (.ref C_BadField) "place" = some none)
    (e1_BadTools : PySem.W.excInitIn K C_BadTools [.type "ValueError", .type "Exception", .type "BaseException", .type "object"] "ValueError.__new__" = true) (e2_BadTools : PySem.W.excOver K C_BadTools [.type "ValueError", .type "Exception", .type "BaseException", .type "object"] = true) (sa_BadTools : PySem.W.findIn K (.ref C_BadTools) "__setattr__" = some (some (.builtin "object.__setattr__")))
    (ii_BadTools : PySem.W.findIn K (.ref C_BadTools) "__init__" = some (some (.ref f_BadTools_init))) (ti_BadTools : PySem.W.typeIn K (.ref f_BadTools_init) = some (.type "function"))
    (tk_BadTools_number : PySem.W.takerIn K C_BadTools "number" = some none) (fn_BadTools_number : PySem.W.findIn K (.ref C_BadTools) "number" = some none)
    (xe_OutOfPlace : PySem.W.excIn K C_OutOfPlace [.type "ValueError", .type "Exception", .type "BaseException", .type "object"] "ValueError.__new__" = true)
    (ke_BadField : PySem.W.keepIn K (.ref C_BadField) = true) (be_BadField : PySem.W.subIn K (.ref C_BadField) (.type "BaseException") = some true)
    (q1_BadField : PySem.W.findIn K (.ref C_BadField) "__getattribute__" = some (some (.builtin "BaseException.__getattribute__"))) (q2_BadField : PySem.W.findIn K (.ref C_BadField) "__getattr__" = some none) (q3_BadField : PySem.W.hasDictIn K C_BadField = true)
    (q4_BadField : PySem.W.findIn K (.ref C_BadField) "__class__" = some (some (.builtin "object.__class__"))) (q7_BadField : PySem.W.mroIn K C_BadField (.type "object") = some true)
    (il_BadField : ([.ref C_BadRow, .ref C_BadSketch, .ref C_BadBlock, .ref C_BadOutline, .ref C_BadFeature, .ref C_BadField, .ref C_BadTools, .ref C_BadWay, .ref C_BadPaper, .ref C_Clash, .ref C_Twice, .ref C_OutOfPlace, .ref C_TooGreat, .ref C_NoPoint, .ref C_NoSaying, .ref C_NoFeature, .ref C_Nothing, .ref C_NoToolThere, .ref C_Lifted, .ref C_Lowered, .ref C_Beyond, .ref C_Blocked, .ref C_TooDeep, .ref C_WorksError, .type "ValueError", .ref C_MissError, .type "LookupError", .ref C_FaultError, .type "RuntimeError", .ref C_NoTool] : List Value).map (PySem.W.kitOne K (.ref C_BadField)) = [some false, some false, some false, some false, some false, some true, some false, some false, some false, some false, some false, some false, some false, some false, some false, some false, some false, some false, some false, some false, some false, some false, some false, some true, some true, some false, some false, some false, some false, some false])
    (ke_BadTools : PySem.W.keepIn K (.ref C_BadTools) = true) (be_BadTools : PySem.W.subIn K (.ref C_BadTools) (.type "BaseException") = some true)
    (q1_BadTools : PySem.W.findIn K (.ref C_BadTools) "__getattribute__" = some (some (.builtin "BaseException.__getattribute__"))) (q2_BadTools : PySem.W.findIn K (.ref C_BadTools) "__getattr__" = some none) (q3_BadTools : PySem.W.hasDictIn K C_BadTools = true)
    (q4_BadTools : PySem.W.findIn K (.ref C_BadTools) "__class__" = some (some (.builtin "object.__class__"))) (q7_BadTools : PySem.W.mroIn K C_BadTools (.type "object") = some true)
    (il_BadTools : ([.ref C_BadRow, .ref C_BadSketch, .ref C_BadBlock, .ref C_BadOutline, .ref C_BadFeature, .ref C_BadField, .ref C_BadTools, .ref C_BadWay, .ref C_BadPaper, .ref C_Clash, .ref C_Twice, .ref C_OutOfPlace, .ref C_TooGreat, .ref C_NoPoint, .ref C_NoSaying, .ref C_NoFeature, .ref C_Nothing, .ref C_NoToolThere, .ref C_Lifted, .ref C_Lowered, .ref C_Beyond, .ref C_Blocked, .ref C_TooDeep, .ref C_WorksError, .type "ValueError", .ref C_MissError, .type "LookupError", .ref C_FaultError, .type "RuntimeError", .ref C_NoTool] : List Value).map (PySem.W.kitOne K (.ref C_BadTools)) = [some false, some false, some false, some false, some false, some false, some true, some false, some false, some false, some false, some false, some false, some false, some false, some false, some false, some false, some false, some false, some false, some false, some false, some true, some true, some false, some false, some false, some false, some false])
    (ke_OutOfPlace : PySem.W.keepIn K (.ref C_OutOfPlace) = true) (be_OutOfPlace : PySem.W.subIn K (.ref C_OutOfPlace) (.type "BaseException") = some true)
    (q1_OutOfPlace : PySem.W.findIn K (.ref C_OutOfPlace) "__getattribute__" = some (some (.builtin "BaseException.__getattribute__"))) (q2_OutOfPlace : PySem.W.findIn K (.ref C_OutOfPlace) "__getattr__" = some none) (q3_OutOfPlace : PySem.W.hasDictIn K C_OutOfPlace = true)
    (q4_OutOfPlace : PySem.W.findIn K (.ref C_OutOfPlace) "__class__" = some (some (.builtin "object.__class__"))) (q7_OutOfPlace : PySem.W.mroIn K C_OutOfPlace (.type "object") = some true)
    (il_OutOfPlace : ([.ref C_BadRow, .ref C_BadSketch, .ref C_BadBlock, .ref C_BadOutline, .ref C_BadFeature, .ref C_BadField, .ref C_BadTools, .ref C_BadWay, .ref C_BadPaper, .ref C_Clash, .ref C_Twice, .ref C_OutOfPlace, .ref C_TooGreat, .ref C_NoPoint, .ref C_NoSaying, .ref C_NoFeature, .ref C_Nothing, .ref C_NoToolThere, .ref C_Lifted, .ref C_Lowered, .ref C_Beyond, .ref C_Blocked, .ref C_TooDeep, .ref C_WorksError, .type "ValueError", .ref C_MissError, .type "LookupError", .ref C_FaultError, .type "RuntimeError", .ref C_NoTool] : List Value).map (PySem.W.kitOne K (.ref C_OutOfPlace)) = [some false, some false, some false, some false, some false, some false, some false, some false, some false, some false, some false, some true, some false, some false, some false, some false, some false, some false, some false, some false, some false, some false, some false, some true, some true, some false, some false, some false, some false, some false])
    (q5_ : PySem.W.specialIn K (.builtin "object.__class__") "__get__" = some (some (.builtin "getset_descriptor.__get__"))) (q6_ : PySem.W.takesIn K (.builtin "object.__class__") = some true)
    (hd_BadField : PySem.W.hasDictIn K C_BadField = true) (ht_BadField : PySem.W.typeIn K (.ref C_BadField) = some (.type "type"))
    (hd_BadTools : PySem.W.hasDictIn K C_BadTools = true) (ht_BadTools : PySem.W.typeIn K (.ref C_BadTools) = some (.type "type"))
    (hd_OutOfPlace : PySem.W.hasDictIn K C_OutOfPlace = true) (ht_OutOfPlace : PySem.W.typeIn K (.ref C_OutOfPlace) = some (.type "type"))
    (xt_BadField_WorksError_MissError_FaultError : PySem.W.exmAny K (.ref C_BadField) [.ref C_WorksError, .ref C_MissError, .ref C_FaultError] = some true)
    (xt_BadTools_WorksError_MissError_FaultError : PySem.W.exmAny K (.ref C_BadTools) [.ref C_WorksError, .ref C_MissError, .ref C_FaultError] = some true)
    (xt_OutOfPlace_WorksError_MissError_FaultError : PySem.W.exmAny K (.ref C_OutOfPlace) [.ref C_WorksError, .ref C_MissError, .ref C_FaultError] = some true)
    (a_is_whole : PySem.W.nsIn K mainGlobals "is_whole" = some (some (.ref f_is_whole)))
    (l_is_whole : K.lookup f_is_whole = some ⟨oc_is_whole, od_is_whole, .func (PySem.W.fnOf "is_whole" "is_whole" (defArgs ss_is_whole) (defBody ss_is_whole) (defScope ss_is_whole) .none kV_is_whole dc_is_whole pm_is_whole an_is_whole cd_is_whole ct_is_whole), sl_is_whole⟩)
    (c_is_whole : PySem.W.codeIn K cd_is_whole "is_whole" = true) (k_is_whole : PySem.W.keepIn K (.ref f_is_whole) = true)
    (a_is_among : PySem.W.nsIn K mainGlobals "is_among" = some (some (.ref f_is_among)))
    (l_is_among : K.lookup f_is_among = some ⟨oc_is_among, od_is_among, .func (PySem.W.fnOf "is_among" "is_among" (defArgs ss_is_among) (defBody ss_is_among) (defScope ss_is_among) .none kV_is_among dc_is_among pm_is_among an_is_among cd_is_among ct_is_among), sl_is_among⟩)
    (c_is_among : PySem.W.codeIn K cd_is_among "is_among" = true) (k_is_among : PySem.W.keepIn K (.ref f_is_among) = true)
    (l_BadField_init : K.lookup f_BadField_init = some ⟨oc_BadField_init, od_BadField_init, .func (PySem.W.fnOf "__init__" "BadField.__init__" (defArgs ss_BadField_init) (defBody ss_BadField_init) (defScope ss_BadField_init) (.ref dT_BadField_init) kV_BadField_init dc_BadField_init pm_BadField_init an_BadField_init cd_BadField_init ct_BadField_init), sl_BadField_init⟩)
    (c_BadField_init : PySem.W.codeIn K cd_BadField_init "BadField.__init__" = true) (k_BadField_init : PySem.W.keepIn K (.ref f_BadField_init) = true)
    (dl_BadField_init : K.lookup dT_BadField_init = some dO_BadField_init) (dd_BadField_init : dO_BadField_init.data = .seq dI_BadField_init dN_BadField_init) (dv_BadField_init : Vals [.non] dI_BadField_init.toList)
    (a_need_field : PySem.W.nsIn K mainGlobals "need_field" = some (some (.ref f_need_field)))
    (l_need_field : K.lookup f_need_field = some ⟨oc_need_field, od_need_field, .func (PySem.W.fnOf "need_field" "need_field" (defArgs ss_need_field) (defBody ss_need_field) (defScope ss_need_field) .none kV_need_field dc_need_field pm_need_field an_need_field cd_need_field ct_need_field), sl_need_field⟩)
    (c_need_field : PySem.W.codeIn K cd_need_field "need_field" = true) (k_need_field : PySem.W.keepIn K (.ref f_need_field) = true)
    (a_plain_sides : PySem.W.nsIn K mainGlobals "plain_sides" = some (some (.ref f_plain_sides)))
    (l_plain_sides : K.lookup f_plain_sides = some ⟨oc_plain_sides, od_plain_sides, .func (PySem.W.fnOf "plain_sides" "plain_sides" (defArgs ss_plain_sides) (defBody ss_plain_sides) (defScope ss_plain_sides) .none kV_plain_sides dc_plain_sides pm_plain_sides an_plain_sides cd_plain_sides ct_plain_sides), sl_plain_sides⟩)
    (c_plain_sides : PySem.W.codeIn K cd_plain_sides "plain_sides" = true) (k_plain_sides : PySem.W.keepIn K (.ref f_plain_sides) = true)
    (a_height_of : PySem.W.nsIn K mainGlobals "height_of" = some (some (.ref f_height_of)))
    (l_height_of : K.lookup f_height_of = some ⟨oc_height_of, od_height_of, .func (PySem.W.fnOf "height_of" "height_of" (defArgs ss_height_of) (defBody ss_height_of) (defScope ss_height_of) .none kV_height_of dc_height_of pm_height_of an_height_of cd_height_of ct_height_of), sl_height_of⟩)
    (c_height_of : PySem.W.codeIn K cd_height_of "height_of" = true) (k_height_of : PySem.W.keepIn K (.ref f_height_of) = true)
    (a_need_stock : PySem.W.nsIn K mainGlobals "need_stock" = some (some (.ref f_need_stock)))
    (l_need_stock : K.lookup f_need_stock = some ⟨oc_need_stock, od_need_stock, .func (PySem.W.fnOf "need_stock" "need_stock" (defArgs ss_need_stock) (defBody ss_need_stock) (defScope ss_need_stock) .none kV_need_stock dc_need_stock pm_need_stock an_need_stock cd_need_stock ct_need_stock), sl_need_stock⟩)
    (c_need_stock : PySem.W.codeIn K cd_need_stock "need_stock" = true) (k_need_stock : PySem.W.keepIn K (.ref f_need_stock) = true)
    (a_is_tool : PySem.W.nsIn K mainGlobals "is_tool" = some (some (.ref f_is_tool)))
    (l_is_tool : K.lookup f_is_tool = some ⟨oc_is_tool, od_is_tool, .func (PySem.W.fnOf "is_tool" "is_tool" (defArgs ss_is_tool) (defBody ss_is_tool) (defScope ss_is_tool) .none kV_is_tool dc_is_tool pm_is_tool an_is_tool cd_is_tool ct_is_tool), sl_is_tool⟩)
    (c_is_tool : PySem.W.codeIn K cd_is_tool "is_tool" = true) (k_is_tool : PySem.W.keepIn K (.ref f_is_tool) = true)
    (l_BadTools_init : K.lookup f_BadTools_init = some ⟨oc_BadTools_init, od_BadTools_init, .func (PySem.W.fnOf "__init__" "BadTools.__init__" (defArgs ss_BadTools_init) (defBody ss_BadTools_init) (defScope ss_BadTools_init) (.ref dT_BadTools_init) kV_BadTools_init dc_BadTools_init pm_BadTools_init an_BadTools_init cd_BadTools_init ct_BadTools_init), sl_BadTools_init⟩)
    (c_BadTools_init : PySem.W.codeIn K cd_BadTools_init "BadTools.__init__" = true) (k_BadTools_init : PySem.W.keepIn K (.ref f_BadTools_init) = true)
    (dl_BadTools_init : K.lookup dT_BadTools_init = some dO_BadTools_init) (dd_BadTools_init : dO_BadTools_init.data = .seq dI_BadTools_init dN_BadTools_init) (dv_BadTools_init : Vals [.non] dI_BadTools_init.toList)
    (a_need_tool : PySem.W.nsIn K mainGlobals "need_tool" = some (some (.ref f_need_tool)))
    (l_need_tool : K.lookup f_need_tool = some ⟨oc_need_tool, od_need_tool, .func (PySem.W.fnOf "need_tool" "need_tool" (defArgs ss_need_tool) (defBody ss_need_tool) (defScope ss_need_tool) .none kV_need_tool dc_need_tool pm_need_tool an_need_tool cd_need_tool ct_need_tool), sl_need_tool⟩)
    (c_need_tool : PySem.W.codeIn K cd_need_tool "need_tool" = true) (k_need_tool : PySem.W.keepIn K (.ref f_need_tool) = true)
    (a_is_place_of : PySem.W.nsIn K mainGlobals "is_place_of" = some (some (.ref f_is_place_of)))
    (l_is_place_of : K.lookup f_is_place_of = some ⟨oc_is_place_of, od_is_place_of, .func (PySem.W.fnOf "is_place_of" "is_place_of" (defArgs ss_is_place_of) (defBody ss_is_place_of) (defScope ss_is_place_of) .none kV_is_place_of dc_is_place_of pm_is_place_of an_is_place_of cd_is_place_of ct_is_place_of), sl_is_place_of⟩)
    (c_is_place_of : PySem.W.codeIn K cd_is_place_of "is_place_of" = true) (k_is_place_of : PySem.W.keepIn K (.ref f_is_place_of) = true)
    (a_need_place : PySem.W.nsIn K mainGlobals "need_place" = some (some (.ref f_need_place)))
    (l_need_place : K.lookup f_need_place = some ⟨oc_need_place, od_need_place, .func (PySem.W.fnOf "need_place" "need_place" (defArgs ss_need_place) (defBody ss_need_place) (defScope ss_need_place) .none kV_need_place dc_need_place pm_need_place an_need_place cd_need_place ct_need_place), sl_need_place⟩)
    (c_need_place : PySem.W.codeIn K cd_need_place "need_place" = true) (k_need_place : PySem.W.keepIn K (.ref f_need_place) = true)
    (a_need_seat : PySem.W.nsIn K mainGlobals "_need_seat" = some (some (.ref f_need_seat)))
    (l_need_seat : K.lookup f_need_seat = some ⟨oc_need_seat, od_need_seat, .func (PySem.W.fnOf "_need_seat" "_need_seat" (defArgs ss_need_seat) (defBody ss_need_seat) (defScope ss_need_seat) .none kV_need_seat dc_need_seat pm_need_seat an_need_seat cd_need_seat ct_need_seat), sl_need_seat⟩)
    (c_need_seat : PySem.W.codeIn K cd_need_seat "_need_seat" = true) (k_need_seat : PySem.W.keepIn K (.ref f_need_seat) = true)
    (a_need_height : PySem.W.nsIn K mainGlobals "need_height" = some (some (.ref f_need_height)))
    (l_need_height : K.lookup f_need_height = some ⟨oc_need_height, od_need_height, .func (PySem.W.fnOf "need_height" "need_height" (defArgs ss_need_height) (defBody ss_need_height) (defScope ss_need_height) .none kV_need_height dc_need_height pm_need_height an_need_height cd_need_height ct_need_height), sl_need_height⟩)
    (c_need_height : PySem.W.codeIn K cd_need_height "need_height" = true) (k_need_height : PySem.W.keepIn K (.ref f_need_height) = true)
    (a_cells_between : PySem.W.nsIn K mainGlobals "_cells_between" = some (some (.ref f_cells_between)))
    (l_cells_between : K.lookup f_cells_between = some ⟨oc_cells_between, od_cells_between, .func (PySem.W.fnOf "_cells_between" "_cells_between" (defArgs ss_cells_between) (defBody ss_cells_between) (defScope ss_cells_between) .none kV_cells_between dc_cells_between pm_cells_between an_cells_between cd_cells_between ct_cells_between), sl_cells_between⟩)
    (c_cells_between : PySem.W.codeIn K cd_cells_between "_cells_between" = true) (k_cells_between : PySem.W.keepIn K (.ref f_cells_between) = true)
    (a_plain_under : PySem.W.nsIn K mainGlobals "plain_under" = some (some (.ref f_plain_under)))
    (l_plain_under : K.lookup f_plain_under = some ⟨oc_plain_under, od_plain_under, .func (PySem.W.fnOf "plain_under" "plain_under" (defArgs ss_plain_under) (defBody ss_plain_under) (defScope ss_plain_under) .none kV_plain_under dc_plain_under pm_plain_under an_plain_under cd_plain_under ct_plain_under), sl_plain_under⟩)
    (c_plain_under : PySem.W.codeIn K cd_plain_under "plain_under" = true) (k_plain_under : PySem.W.keepIn K (.ref f_plain_under) = true)
    (a_plain_ring : PySem.W.nsIn K mainGlobals "plain_ring" = some (some (.ref f_plain_ring)))
    (l_plain_ring : K.lookup f_plain_ring = some ⟨oc_plain_ring, od_plain_ring, .func (PySem.W.fnOf "plain_ring" "plain_ring" (defArgs ss_plain_ring) (defBody ss_plain_ring) (defScope ss_plain_ring) .none kV_plain_ring dc_plain_ring pm_plain_ring an_plain_ring cd_plain_ring ct_plain_ring), sl_plain_ring⟩)
    (c_plain_ring : PySem.W.codeIn K cd_plain_ring "plain_ring" = true) (k_plain_ring : PySem.W.keepIn K (.ref f_plain_ring) = true)
    (a_first_of_ring : PySem.W.nsIn K mainGlobals "first_of_ring" = some (some (.ref f_first_of_ring)))
    (l_first_of_ring : K.lookup f_first_of_ring = some ⟨oc_first_of_ring, od_first_of_ring, .func (PySem.W.fnOf "first_of_ring" "first_of_ring" (defArgs ss_first_of_ring) (defBody ss_first_of_ring) (defScope ss_first_of_ring) .none kV_first_of_ring dc_first_of_ring pm_first_of_ring an_first_of_ring cd_first_of_ring ct_first_of_ring), sl_first_of_ring⟩)
    (c_first_of_ring : PySem.W.codeIn K cd_first_of_ring "first_of_ring" = true) (k_first_of_ring : PySem.W.keepIn K (.ref f_first_of_ring) = true)
    (a_first_in_way : PySem.W.nsIn K mainGlobals "first_in_way" = some (some (.ref f_first_in_way)))
    (l_first_in_way : K.lookup f_first_in_way = some ⟨oc_first_in_way, od_first_in_way, .func (PySem.W.fnOf "first_in_way" "first_in_way" (defArgs ss_first_in_way) (defBody ss_first_in_way) (defScope ss_first_in_way) .none kV_first_in_way dc_first_in_way pm_first_in_way an_first_in_way cd_first_in_way ct_first_in_way), sl_first_in_way⟩)
    (c_first_in_way : PySem.W.codeIn K cd_first_in_way "first_in_way" = true) (k_first_in_way : PySem.W.keepIn K (.ref f_first_in_way) = true)
    (a_may_stand : PySem.W.nsIn K mainGlobals "may_stand" = some (some (.ref f_may_stand)))
    (l_may_stand : K.lookup f_may_stand = some ⟨oc_may_stand, od_may_stand, .func (PySem.W.fnOf "may_stand" "may_stand" (defArgs ss_may_stand) (defBody ss_may_stand) (defScope ss_may_stand) .none kV_may_stand dc_may_stand pm_may_stand an_may_stand cd_may_stand ct_may_stand), sl_may_stand⟩)
    (c_may_stand : PySem.W.codeIn K cd_may_stand "may_stand" = true) (k_may_stand : PySem.W.keepIn K (.ref f_may_stand) = true)
    (a_lowest : PySem.W.nsIn K mainGlobals "lowest" = some (some (.ref f_lowest)))
    (l_lowest : K.lookup f_lowest = some ⟨oc_lowest, od_lowest, .func (PySem.W.fnOf "lowest" "lowest" (defArgs ss_lowest) (defBody ss_lowest) (defScope ss_lowest) .none kV_lowest dc_lowest pm_lowest an_lowest cd_lowest ct_lowest), sl_lowest⟩)
    (c_lowest : PySem.W.codeIn K cd_lowest "lowest" = true) (k_lowest : PySem.W.keepIn K (.ref f_lowest) = true)
    (a_solid : PySem.W.nsIn K mainGlobals "solid" = some (some (.ref f_solid)))
    (l_solid : K.lookup f_solid = some ⟨oc_solid, od_solid, .func (PySem.W.fnOf "solid" "solid" (defArgs ss_solid) (defBody ss_solid) (defScope ss_solid) .none kV_solid dc_solid pm_solid an_solid cd_solid ct_solid), sl_solid⟩)
    (c_solid : PySem.W.codeIn K cd_solid "solid" = true) (k_solid : PySem.W.keepIn K (.ref f_solid) = true)
    (a_law_mixed : PySem.W.nsIn K mainGlobals "_law_mixed" = some (some (.ref f_law_mixed)))
    (l_law_mixed : K.lookup f_law_mixed = some ⟨oc_law_mixed, od_law_mixed, .func (PySem.W.fnOf "_law_mixed" "_law_mixed" (defArgs ss_law_mixed) (defBody ss_law_mixed) (defScope ss_law_mixed) .none kV_law_mixed dc_law_mixed pm_law_mixed an_law_mixed cd_law_mixed ct_law_mixed), sl_law_mixed⟩)
    (c_law_mixed : PySem.W.codeIn K cd_law_mixed "_law_mixed" = true) (k_law_mixed : PySem.W.keepIn K (.ref f_law_mixed) = true)
    (a_law_draw : PySem.W.nsIn K mainGlobals "_law_draw" = some (some (.ref f_law_draw)))
    (l_law_draw : K.lookup f_law_draw = some ⟨oc_law_draw, od_law_draw, .func (PySem.W.fnOf "_law_draw" "_law_draw" (defArgs ss_law_draw) (defBody ss_law_draw) (defScope ss_law_draw) .none kV_law_draw dc_law_draw pm_law_draw an_law_draw cd_law_draw ct_law_draw), sl_law_draw⟩)
    (c_law_draw : PySem.W.codeIn K cd_law_draw "_law_draw" = true) (k_law_draw : PySem.W.keepIn K (.ref f_law_draw) = true)
    (a_law_digit : PySem.W.nsIn K mainGlobals "_law_digit" = some (some (.ref f_law_digit)))
    (l_law_digit : K.lookup f_law_digit = some ⟨oc_law_digit, od_law_digit, .func (PySem.W.fnOf "_law_digit" "_law_digit" (defArgs ss_law_digit) (defBody ss_law_digit) (defScope ss_law_digit) .none kV_law_digit dc_law_digit pm_law_digit an_law_digit cd_law_digit ct_law_digit), sl_law_digit⟩)
    (c_law_digit : PySem.W.codeIn K cd_law_digit "_law_digit" = true) (k_law_digit : PySem.W.keepIn K (.ref f_law_digit) = true)
    (a_law_a_field : PySem.W.nsIn K mainGlobals "_law_a_field" = some (some (.ref f_law_a_field)))
    (l_law_a_field : K.lookup f_law_a_field = some ⟨oc_law_a_field, od_law_a_field, .func (PySem.W.fnOf "_law_a_field" "_law_a_field" (defArgs ss_law_a_field) (defBody ss_law_a_field) (defScope ss_law_a_field) .none kV_law_a_field dc_law_a_field pm_law_a_field an_law_a_field cd_law_a_field ct_law_a_field), sl_law_a_field⟩)
    (c_law_a_field : PySem.W.codeIn K cd_law_a_field "_law_a_field" = true) (k_law_a_field : PySem.W.keepIn K (.ref f_law_a_field) = true)
    (a_law_cells : PySem.W.nsIn K mainGlobals "_law_cells" = some (some (.ref f_law_cells)))
    (l_law_cells : K.lookup f_law_cells = some ⟨oc_law_cells, od_law_cells, .func (PySem.W.fnOf "_law_cells" "_law_cells" (defArgs ss_law_cells) (defBody ss_law_cells) (defScope ss_law_cells) .none kV_law_cells dc_law_cells pm_law_cells an_law_cells cd_law_cells ct_law_cells), sl_law_cells⟩)
    (c_law_cells : PySem.W.codeIn K cd_law_cells "_law_cells" = true) (k_law_cells : PySem.W.keepIn K (.ref f_law_cells) = true)
    (a_law_spots : PySem.W.nsIn K mainGlobals "_law_spots" = some (some (.ref f_law_spots)))
    (l_law_spots : K.lookup f_law_spots = some ⟨oc_law_spots, od_law_spots, .func (PySem.W.fnOf "_law_spots" "_law_spots" (defArgs ss_law_spots) (defBody ss_law_spots) (defScope ss_law_spots) .none kV_law_spots dc_law_spots pm_law_spots an_law_spots cd_law_spots ct_law_spots), sl_law_spots⟩)
    (c_law_spots : PySem.W.codeIn K cd_law_spots "_law_spots" = true) (k_law_spots : PySem.W.keepIn K (.ref f_law_spots) = true)
    (a_law_near : PySem.W.nsIn K mainGlobals "_law_near" = some (some (.ref f_law_near)))
    (l_law_near : K.lookup f_law_near = some ⟨oc_law_near, od_law_near, .func (PySem.W.fnOf "_law_near" "_law_near" (defArgs ss_law_near) (defBody ss_law_near) (defScope ss_law_near) .none kV_law_near dc_law_near pm_law_near an_law_near cd_law_near ct_law_near), sl_law_near⟩)
    (c_law_near : PySem.W.codeIn K cd_law_near "_law_near" = true) (k_law_near : PySem.W.keepIn K (.ref f_law_near) = true)
    (a_law_aim : PySem.W.nsIn K mainGlobals "_law_aim" = some (some (.ref f_law_aim)))
    (l_law_aim : K.lookup f_law_aim = some ⟨oc_law_aim, od_law_aim, .func (PySem.W.fnOf "_law_aim" "_law_aim" (defArgs ss_law_aim) (defBody ss_law_aim) (defScope ss_law_aim) .none kV_law_aim dc_law_aim pm_law_aim an_law_aim cd_law_aim ct_law_aim), sl_law_aim⟩)
    (c_law_aim : PySem.W.codeIn K cd_law_aim "_law_aim" = true) (k_law_aim : PySem.W.keepIn K (.ref f_law_aim) = true)
    (a_law_low : PySem.W.nsIn K mainGlobals "_law_low" = some (some (.ref f_law_low)))
    (l_law_low : K.lookup f_law_low = some ⟨oc_law_low, od_law_low, .func (PySem.W.fnOf "_law_low" "_law_low" (defArgs ss_law_low) (defBody ss_law_low) (defScope ss_law_low) .none kV_law_low dc_law_low pm_law_low an_law_low cd_law_low ct_law_low), sl_law_low⟩)
    (c_law_low : PySem.W.codeIn K cd_law_low "_law_low" = true) (k_law_low : PySem.W.keepIn K (.ref f_law_low) = true)
    (a_law_full : PySem.W.nsIn K mainGlobals "_law_full" = some (some (.ref f_law_full)))
    (l_law_full : K.lookup f_law_full = some ⟨oc_law_full, od_law_full, .func (PySem.W.fnOf "_law_full" "_law_full" (defArgs ss_law_full) (defBody ss_law_full) (defScope ss_law_full) .none kV_law_full dc_law_full pm_law_full an_law_full cd_law_full ct_law_full), sl_law_full⟩)
    (c_law_full : PySem.W.codeIn K cd_law_full "_law_full" = true) (k_law_full : PySem.W.keepIn K (.ref f_law_full) = true)
    (a_law_as_field : PySem.W.nsIn K mainGlobals "_law_as_field" = some (some (.ref f_law_as_field)))
    (l_law_as_field : K.lookup f_law_as_field = some ⟨oc_law_as_field, od_law_as_field, .func (PySem.W.fnOf "_law_as_field" "_law_as_field" (defArgs ss_law_as_field) (defBody ss_law_as_field) (defScope ss_law_as_field) .none kV_law_as_field dc_law_as_field pm_law_as_field an_law_as_field cd_law_as_field ct_law_as_field), sl_law_as_field⟩)
    (c_law_as_field : PySem.W.codeIn K cd_law_as_field "_law_as_field" = true) (k_law_as_field : PySem.W.keepIn K (.ref f_law_as_field) = true)
    (a_law_kinds : PySem.W.nsIn K mainGlobals "_law_kinds" = some (some (.ref f_law_kinds)))
    (l_law_kinds : K.lookup f_law_kinds = some ⟨oc_law_kinds, od_law_kinds, .func (PySem.W.fnOf "_law_kinds" "_law_kinds" (defArgs ss_law_kinds) (defBody ss_law_kinds) (defScope ss_law_kinds) .none kV_law_kinds dc_law_kinds pm_law_kinds an_law_kinds cd_law_kinds ct_law_kinds), sl_law_kinds⟩)
    (c_law_kinds : PySem.W.codeIn K cd_law_kinds "_law_kinds" = true) (k_law_kinds : PySem.W.keepIn K (.ref f_law_kinds) = true)
    (a_law_caught : PySem.W.nsIn K mainGlobals "_law_caught" = some (some (.ref f_law_caught)))
    (l_law_caught : K.lookup f_law_caught = some ⟨oc_law_caught, od_law_caught, .func (PySem.W.fnOf "_law_caught" "_law_caught" (defArgs ss_law_caught) (defBody ss_law_caught) (defScope ss_law_caught) .none kV_law_caught dc_law_caught pm_law_caught an_law_caught cd_law_caught ct_law_caught), sl_law_caught⟩)
    (c_law_caught : PySem.W.codeIn K cd_law_caught "_law_caught" = true) (k_law_caught : PySem.W.keepIn K (.ref f_law_caught) = true)
    (a_law_stock : PySem.W.nsIn K mainGlobals "_law_stock" = some (some (.ref f_law_stock)))
    (l_law_stock : K.lookup f_law_stock = some ⟨oc_law_stock, od_law_stock, .func (PySem.W.fnOf "_law_stock" "_law_stock" (defArgs ss_law_stock) (defBody ss_law_stock) (defScope ss_law_stock) .none kV_law_stock dc_law_stock pm_law_stock an_law_stock cd_law_stock ct_law_stock), sl_law_stock⟩)
    (c_law_stock : PySem.W.codeIn K cd_law_stock "_law_stock" = true) (k_law_stock : PySem.W.keepIn K (.ref f_law_stock) = true)
    (a_law_stocks_refused : PySem.W.nsIn K mainGlobals "_law_stocks_refused" = some (some (.ref f_law_stocks_refused)))
    (l_law_stocks_refused : K.lookup f_law_stocks_refused = some ⟨oc_law_stocks_refused, od_law_stocks_refused, .func (PySem.W.fnOf "_law_stocks_refused" "_law_stocks_refused" (defArgs ss_law_stocks_refused) (defBody ss_law_stocks_refused) (defScope ss_law_stocks_refused) .none kV_law_stocks_refused dc_law_stocks_refused pm_law_stocks_refused an_law_stocks_refused (.ref cA_law_stocks_refused) ct_law_stocks_refused), sl_law_stocks_refused⟩)
    (tl_law_stocks_refused : K.lookup cA_law_stocks_refused = some ⟨te_law_stocks_refused, td_law_stocks_refused, .fields ts_law_stocks_refused, tu_law_stocks_refused⟩) (tv_law_stocks_refused : ts_law_stocks_refused[11]? = some (.ref P_law_stocks_refused)) (tn_law_stocks_refused : K.lookup P_law_stocks_refused = none) (th_law_stocks_refused : PySem.W.codeHdIn K cA_law_stocks_refused P_law_stocks_refused = true)
    (tm_law_stocks_refused : P_law_stocks_refused ∈ ts)
    (c_law_stocks_refused : PySem.W.codeIn K (.ref cA_law_stocks_refused) "_law_stocks_refused" = true) (k_law_stocks_refused : PySem.W.keepIn K (.ref f_law_stocks_refused) = true)
    (a_law_order_right : PySem.W.nsIn K mainGlobals "_law_order_right" = some (some (.ref f_law_order_right)))
    (l_law_order_right : K.lookup f_law_order_right = some ⟨oc_law_order_right, od_law_order_right, .func (PySem.W.fnOf "_law_order_right" "_law_order_right" (defArgs ss_law_order_right) (defBody ss_law_order_right) (defScope ss_law_order_right) .none kV_law_order_right dc_law_order_right pm_law_order_right an_law_order_right (.ref cA_law_order_right) ct_law_order_right), sl_law_order_right⟩)
    (tl_law_order_right : K.lookup cA_law_order_right = some ⟨te_law_order_right, td_law_order_right, .fields ts_law_order_right, tu_law_order_right⟩) (tv_law_order_right : ts_law_order_right[11]? = some (.ref P_law_order_right)) (tn_law_order_right : K.lookup P_law_order_right = none) (th_law_order_right : PySem.W.codeHdIn K cA_law_order_right P_law_order_right = true)
    (tm_law_order_right : P_law_order_right ∈ ts)
    (c_law_order_right : PySem.W.codeIn K (.ref cA_law_order_right) "_law_order_right" = true) (k_law_order_right : PySem.W.keepIn K (.ref f_law_order_right) = true)
    (a_law : PySem.W.nsIn K mainGlobals "law" = some (some (.ref f_law)))
    (l_law : K.lookup f_law = some ⟨oc_law, od_law, .func (PySem.W.fnOf "law" "law" (defArgs ss_law) (defBody ss_law) (defScope ss_law) .none kV_law dc_law pm_law an_law (.ref cA_law) ct_law), sl_law⟩)
    (tl_law : K.lookup cA_law = some ⟨te_law, td_law, .fields ts_law, tu_law⟩) (tv_law : ts_law[11]? = some (.ref P_law)) (tn_law : K.lookup P_law = none) (th_law : PySem.W.codeHdIn K cA_law P_law = true)
    (tm_law : P_law ∈ ts)
    (c_law : PySem.W.codeIn K (.ref cA_law) "law" = true) (k_law : PySem.W.keepIn K (.ref f_law) = true)
    (tnd_ : ([P_law_stocks_refused, P_law_order_right, P_law] : List Addr).Nodup)
    : ∃ (fd : FuncData) (F : Fn) (cs : List CTab), (∀ p ∈ cs, p.2.1 ∈ ts) ∧ (∀ p ∈ cs, K.lookup p.2.1 = none) ∧ (∀ p ∈ cs, PySem.W.codeHdIn K p.1 p.2.1 = true) ∧ (tabsOf cs).Nodup ∧ (∀ (s : Shared) (v : Value), BindsTo s fd ⟨[v], []⟩ [("script", v)]) ∧ (∀ base : Heap, K.In base → base.Ns mainGlobals mg → (∀ p ∈ cs, LamX.TabB base mg p.1 p.2.1) → DFn l.prog w K mg base 10 fa fd ["script"] F) ∧ ∀ ns : List Int, ns.length ≤ 63 → ∃ M', F [.lsk (ns.map D.int)] (tabsM cs) = some (.bl true, M') := by
  have e := hfa.symm.trans (PySem.W.mg_of X G a_law)
  cases e
  have EC_BadField : ExcC K C_BadField := ⟨q1_BadField, q2_BadField, be_BadField, q3_BadField, q4_BadField, q5_, q6_, q7_BadField⟩
  have EC_BadTools : ExcC K C_BadTools := ⟨q1_BadTools, q2_BadTools, be_BadTools, q3_BadTools, q4_BadTools, q5_, q6_, q7_BadTools⟩
  have EC_OutOfPlace : ExcC K C_OutOfPlace := ⟨q1_OutOfPlace, q2_OutOfPlace, be_OutOfPlace, q3_OutOfPlace, q4_OutOfPlace, q5_, q6_, q7_OutOfPlace⟩
  have EG_BadField : ExG K C_BadField "ValueError" "ValueError.__new__" "ValueError.__init__" [.type "ValueError", .type "Exception", .type "BaseException", .type "object"] := ⟨PySem.F.excBase_ValueError, PySem.F.store_ValueError, e1_BadField, e2_BadField, PySem.W.any_some q3_BadField, sa_BadField, ke_BadField⟩
  have EG_BadTools : ExG K C_BadTools "ValueError" "ValueError.__new__" "ValueError.__init__" [.type "ValueError", .type "Exception", .type "BaseException", .type "object"] := ⟨PySem.F.excBase_ValueError, PySem.F.store_ValueError, e1_BadTools, e2_BadTools, PySem.W.any_some q3_BadTools, sa_BadTools, ke_BadTools⟩
  have T : Txt (⟨C_BadField, C_BadTools, C_OutOfPlace, C_BadSketch, C_BadRow, C_BadOutline, C_BadBlock, C_BadFeature, C_BadWay, C_Clash, C_BadPaper, C_Twice, C_NoPoint, C_TooGreat, C_NoFeature, C_NoSaying, C_NoToolThere, C_Nothing, C_Lowered, C_Lifted, C_Blocked, C_Beyond, C_WorksError, C_TooDeep, C_MissError, C_FaultError, C_NoTool, P_law_stocks_refused, P_law_order_right, P_law, Pl.isaOf K, Pl.okfOf K, Pl.okgOf K⟩ : CT) K mg := ⟨PySem.W.mg_none_of X G z_int, PySem.W.mg_none_of X G z_isinstance, PySem.W.mg_none_of X G z_bool, PySem.W.mg_none_of X G z_tuple, PySem.W.mg_none_of X G z_len, PySem.W.mg_none_of X G z_enumerate, PySem.W.mg_none_of X G z_all, PySem.W.mg_none_of X G z_zip, PySem.W.mg_none_of X G z_range, PySem.W.mg_none_of X G z_min, PySem.W.mg_none_of X G z_max, PySem.W.mg_none_of X G z_dict, PySem.W.mg_none_of X G z_ValueError, PySem.W.mg_none_of X G z_LookupError, PySem.W.mg_none_of X G z_RuntimeError, PySem.W.mg_none_of X G z_list, PySem.W.mg_none_of X G z_repr, ⟨(.int 6), _, PySem.W.mg_of X G g_MOST_HIGH, ⟨_, rfl⟩, fun _ _ => .int _⟩, ⟨(.int 8), _, PySem.W.mg_of X G g_MOST_SIDE, ⟨_, rfl⟩, fun _ _ => .int _⟩, ⟨(.int 4), _, PySem.W.mg_of X G g_MOST_TOOL, ⟨_, rfl⟩, fun _ _ => .int _⟩, ⟨(.int 6), _, PySem.W.mg_of X G g_MOST_LENGTH, ⟨_, rfl⟩, fun _ _ => .int _⟩, PySem.W.mg_of X G a_BadField, PySem.W.mg_of X G a_BadTools, PySem.W.mg_of X G a_OutOfPlace, PySem.W.mg_of X G a_BadSketch, PySem.W.mg_of X G a_BadRow, PySem.W.mg_of X G a_BadOutline, PySem.W.mg_of X G a_BadBlock, PySem.W.mg_of X G a_BadFeature, PySem.W.mg_of X G a_BadWay, PySem.W.mg_of X G a_Clash, PySem.W.mg_of X G a_BadPaper, PySem.W.mg_of X G a_Twice, PySem.W.mg_of X G a_NoPoint, PySem.W.mg_of X G a_TooGreat, PySem.W.mg_of X G a_NoFeature, PySem.W.mg_of X G a_NoSaying, PySem.W.mg_of X G a_NoToolThere, PySem.W.mg_of X G a_Nothing, PySem.W.mg_of X G a_Lowered, PySem.W.mg_of X G a_Lifted, PySem.W.mg_of X G a_Blocked, PySem.W.mg_of X G a_Beyond, PySem.W.mg_of X G a_WorksError, PySem.W.mg_of X G a_TooDeep, PySem.W.mg_of X G a_MissError, PySem.W.mg_of X G a_FaultError, PySem.W.mg_of X G a_NoTool, ⟨⟨_, _, _, _, PySem.F.excBase_ValueError, xe_OutOfPlace, PySem.W.mg_of X G a_OutOfPlace, ke_OutOfPlace⟩⟩, Pl.okfOf_ok, Pl.okgOf_ok, Pl.isaOf_ok, EC_BadField.hs, ht_BadField, EC_BadField, EC_BadTools.hs, ht_BadTools, EC_BadTools, EC_OutOfPlace.hs, ht_OutOfPlace, EC_OutOfPlace, xt_BadField_WorksError_MissError_FaultError, xt_BadTools_WorksError_MissError_FaultError, xt_OutOfPlace_WorksError_MissError_FaultError⟩
  have F_is_whole : FF_is_whole K f_is_whole _ := ⟨⟨_, _, _, _, _, _, _, _, _, _, rfl, l_is_whole, c_is_whole, .inl ⟨rfl, rfl⟩, .inl rfl⟩, k_is_whole⟩
  have b_is_whole := F_is_whole.bindsN (ps := ["thing"]) fun _ _ _ _ _ _ us hl => match us, hl with | [_], _ => rfl
  have F_is_among : FF_is_among K f_is_among _ := ⟨⟨_, _, _, _, _, _, _, _, _, _, rfl, l_is_among, c_is_among, .inl ⟨rfl, rfl⟩, .inl rfl⟩, k_is_among⟩
  have b_is_among := F_is_among.bindsN (ps := ["thing", "least", "most"]) fun _ _ _ _ _ _ us hl => match us, hl with | [_, _, _], _ => rfl
  have F_BadField_init : FF_BadField_init K f_BadField_init _ := ⟨⟨_, _, _, _, _, _, _, _, _, _, rfl, l_BadField_init, c_BadField_init, .inr ⟨by decide, dT_BadField_init, dO_BadField_init, dI_BadField_init.toList, dN_BadField_init, rfl, dl_BadField_init, by simpa using dd_BadField_init, dv_BadField_init⟩, .inl rfl⟩, k_BadField_init⟩
  have F_need_field : FF_need_field K f_need_field _ := ⟨⟨_, _, _, _, _, _, _, _, _, _, rfl, l_need_field, c_need_field, .inl ⟨rfl, rfl⟩, .inl rfl⟩, k_need_field⟩
  have b_need_field := F_need_field.bindsN (ps := ["field"]) fun _ _ _ _ _ _ us hl => match us, hl with | [_], _ => rfl
  have F_plain_sides : FF_plain_sides K f_plain_sides _ := ⟨⟨_, _, _, _, _, _, _, _, _, _, rfl, l_plain_sides, c_plain_sides, .inl ⟨rfl, rfl⟩, .inl rfl⟩, k_plain_sides⟩
  have b_plain_sides := F_plain_sides.bindsN (ps := ["field"]) fun _ _ _ _ _ _ us hl => match us, hl with | [_], _ => rfl
  have F_height_of : FF_height_of K f_height_of _ := ⟨⟨_, _, _, _, _, _, _, _, _, _, rfl, l_height_of, c_height_of, .inl ⟨rfl, rfl⟩, .inl rfl⟩, k_height_of⟩
  have b_height_of := F_height_of.bindsN (ps := ["field", "cell"]) fun _ _ _ _ _ _ us hl => match us, hl with | [_, _], _ => rfl
  have F_need_stock : FF_need_stock K f_need_stock _ := ⟨⟨_, _, _, _, _, _, _, _, _, _, rfl, l_need_stock, c_need_stock, .inl ⟨rfl, rfl⟩, .inl rfl⟩, k_need_stock⟩
  have b_need_stock := F_need_stock.bindsN (ps := ["field", "stock"]) fun _ _ _ _ _ _ us hl => match us, hl with | [_, _], _ => rfl
  have F_is_tool : FF_is_tool K f_is_tool _ := ⟨⟨_, _, _, _, _, _, _, _, _, _, rfl, l_is_tool, c_is_tool, .inl ⟨rfl, rfl⟩, .inl rfl⟩, k_is_tool⟩
  have b_is_tool := F_is_tool.bindsN (ps := ["thing"]) fun _ _ _ _ _ _ us hl => match us, hl with | [_], _ => rfl
  have F_BadTools_init : FF_BadTools_init K f_BadTools_init _ := ⟨⟨_, _, _, _, _, _, _, _, _, _, rfl, l_BadTools_init, c_BadTools_init, .inr ⟨by decide, dT_BadTools_init, dO_BadTools_init, dI_BadTools_init.toList, dN_BadTools_init, rfl, dl_BadTools_init, by simpa using dd_BadTools_init, dv_BadTools_init⟩, .inl rfl⟩, k_BadTools_init⟩
  have F_need_tool : FF_need_tool K f_need_tool _ := ⟨⟨_, _, _, _, _, _, _, _, _, _, rfl, l_need_tool, c_need_tool, .inl ⟨rfl, rfl⟩, .inl rfl⟩, k_need_tool⟩
  have b_need_tool := F_need_tool.bindsN (ps := ["tool"]) fun _ _ _ _ _ _ us hl => match us, hl with | [_], _ => rfl
  have F_is_place_of : FF_is_place_of K f_is_place_of _ := ⟨⟨_, _, _, _, _, _, _, _, _, _, rfl, l_is_place_of, c_is_place_of, .inl ⟨rfl, rfl⟩, .inl rfl⟩, k_is_place_of⟩
  have b_is_place_of := F_is_place_of.bindsN (ps := ["sides", "tool", "thing"]) fun _ _ _ _ _ _ us hl => match us, hl with | [_, _, _], _ => rfl
  have F_need_place : FF_need_place K f_need_place _ := ⟨⟨_, _, _, _, _, _, _, _, _, _, rfl, l_need_place, c_need_place, .inl ⟨rfl, rfl⟩, .inl rfl⟩, k_need_place⟩
  have b_need_place := F_need_place.bindsN (ps := ["sides", "tool", "place"]) fun _ _ _ _ _ _ us hl => match us, hl with | [_, _, _], _ => rfl
  have F_need_seat : FF_need_seat K f_need_seat _ := ⟨⟨_, _, _, _, _, _, _, _, _, _, rfl, l_need_seat, c_need_seat, .inl ⟨rfl, rfl⟩, .inl rfl⟩, k_need_seat⟩
  have b_need_seat := F_need_seat.bindsN (ps := ["field", "tool", "place"]) fun _ _ _ _ _ _ us hl => match us, hl with | [_, _, _], _ => rfl
  have F_need_height : FF_need_height K f_need_height _ := ⟨⟨_, _, _, _, _, _, _, _, _, _, rfl, l_need_height, c_need_height, .inl ⟨rfl, rfl⟩, .inl rfl⟩, k_need_height⟩
  have b_need_height := F_need_height.bindsN (ps := ["field", "height"]) fun _ _ _ _ _ _ us hl => match us, hl with | [_, _], _ => rfl
  have F_cells_between : FF_cells_between K f_cells_between _ := ⟨⟨_, _, _, _, _, _, _, _, _, _, rfl, l_cells_between, c_cells_between, .inl ⟨rfl, rfl⟩, .inl rfl⟩, k_cells_between⟩
  have b_cells_between := F_cells_between.bindsN (ps := ["sides", "first", "last"]) fun _ _ _ _ _ _ us hl => match us, hl with | [_, _, _], _ => rfl
  have F_plain_under : FF_plain_under K f_plain_under _ := ⟨⟨_, _, _, _, _, _, _, _, _, _, rfl, l_plain_under, c_plain_under, .inl ⟨rfl, rfl⟩, .inl rfl⟩, k_plain_under⟩
  have b_plain_under := F_plain_under.bindsN (ps := ["sides", "tool", "place"]) fun _ _ _ _ _ _ us hl => match us, hl with | [_, _, _], _ => rfl
  have F_plain_ring : FF_plain_ring K f_plain_ring _ := ⟨⟨_, _, _, _, _, _, _, _, _, _, rfl, l_plain_ring, c_plain_ring, .inl ⟨rfl, rfl⟩, .inl rfl⟩, k_plain_ring⟩
  have b_plain_ring := F_plain_ring.bindsN (ps := ["sides", "tool", "place"]) fun _ _ _ _ _ _ us hl => match us, hl with | [_, _, _], _ => rfl
  have F_first_of_ring : FF_first_of_ring K f_first_of_ring _ := ⟨⟨_, _, _, _, _, _, _, _, _, _, rfl, l_first_of_ring, c_first_of_ring, .inl ⟨rfl, rfl⟩, .inl rfl⟩, k_first_of_ring⟩
  have b_first_of_ring := F_first_of_ring.bindsN (ps := ["stock", "tool", "place", "height"]) fun _ _ _ _ _ _ us hl => match us, hl with | [_, _, _, _], _ => rfl
  have F_first_in_way : FF_first_in_way K f_first_in_way _ := ⟨⟨_, _, _, _, _, _, _, _, _, _, rfl, l_first_in_way, c_first_in_way, .inl ⟨rfl, rfl⟩, .inl rfl⟩, k_first_in_way⟩
  have b_first_in_way := F_first_in_way.bindsN (ps := ["field", "stock", "tool", "place", "height"]) fun _ _ _ _ _ _ us hl => match us, hl with | [_, _, _, _, _], _ => rfl
  have F_may_stand : FF_may_stand K f_may_stand _ := ⟨⟨_, _, _, _, _, _, _, _, _, _, rfl, l_may_stand, c_may_stand, .inl ⟨rfl, rfl⟩, .inl rfl⟩, k_may_stand⟩
  have b_may_stand := F_may_stand.bindsN (ps := ["field", "stock", "tool", "place", "height"]) fun _ _ _ _ _ _ us hl => match us, hl with | [_, _, _, _, _], _ => rfl
  have F_lowest : FF_lowest K f_lowest _ := ⟨⟨_, _, _, _, _, _, _, _, _, _, rfl, l_lowest, c_lowest, .inl ⟨rfl, rfl⟩, .inl rfl⟩, k_lowest⟩
  have b_lowest := F_lowest.bindsN (ps := ["field", "stock", "tool", "place"]) fun _ _ _ _ _ _ us hl => match us, hl with | [_, _, _, _], _ => rfl
  have F_solid : FF_solid K f_solid _ := ⟨⟨_, _, _, _, _, _, _, _, _, _, rfl, l_solid, c_solid, .inl ⟨rfl, rfl⟩, .inl rfl⟩, k_solid⟩
  have b_solid := F_solid.bindsN (ps := ["field"]) fun _ _ _ _ _ _ us hl => match us, hl with | [_], _ => rfl
  have F_law_mixed : FF_law_mixed K f_law_mixed _ := ⟨⟨_, _, _, _, _, _, _, _, _, _, rfl, l_law_mixed, c_law_mixed, .inl ⟨rfl, rfl⟩, .inl rfl⟩, k_law_mixed⟩
  have b_law_mixed := F_law_mixed.bindsN (ps := ["cell", "k"]) fun _ _ _ _ _ _ us hl => match us, hl with | [_, _], _ => rfl
  have F_law_draw : FF_law_draw K f_law_draw _ := ⟨⟨_, _, _, _, _, _, _, _, _, _, rfl, l_law_draw, c_law_draw, .inl ⟨rfl, rfl⟩, .inl rfl⟩, k_law_draw⟩
  have b_law_draw := F_law_draw.bindsN (ps := ["cell", "k"]) fun _ _ _ _ _ _ us hl => match us, hl with | [_, _], _ => rfl
  have F_law_digit : FF_law_digit K f_law_digit _ := ⟨⟨_, _, _, _, _, _, _, _, _, _, rfl, l_law_digit, c_law_digit, .inl ⟨rfl, rfl⟩, .inl rfl⟩, k_law_digit⟩
  have b_law_digit := F_law_digit.bindsN (ps := ["state", "many"]) fun _ _ _ _ _ _ us hl => match us, hl with | [_, _], _ => rfl
  have F_law_a_field : FF_law_a_field K f_law_a_field _ := ⟨⟨_, _, _, _, _, _, _, _, _, _, rfl, l_law_a_field, c_law_a_field, .inl ⟨rfl, rfl⟩, .inl rfl⟩, k_law_a_field⟩
  have b_law_a_field := F_law_a_field.bindsN (ps := ["state", "most"]) fun _ _ _ _ _ _ us hl => match us, hl with | [_, _], _ => rfl
  have F_law_cells : FF_law_cells K f_law_cells _ := ⟨⟨_, _, _, _, _, _, _, _, _, _, rfl, l_law_cells, c_law_cells, .inl ⟨rfl, rfl⟩, .inl rfl⟩, k_law_cells⟩
  have b_law_cells := F_law_cells.bindsN (ps := ["field"]) fun _ _ _ _ _ _ us hl => match us, hl with | [_], _ => rfl
  have F_law_spots : FF_law_spots K f_law_spots _ := ⟨⟨_, _, _, _, _, _, _, _, _, _, rfl, l_law_spots, c_law_spots, .inl ⟨rfl, rfl⟩, .inl rfl⟩, k_law_spots⟩
  have b_law_spots := F_law_spots.bindsN (ps := ["field", "side"]) fun _ _ _ _ _ _ us hl => match us, hl with | [_, _], _ => rfl
  have F_law_near : FF_law_near K f_law_near _ := ⟨⟨_, _, _, _, _, _, _, _, _, _, rfl, l_law_near, c_law_near, .inl ⟨rfl, rfl⟩, .inl rfl⟩, k_law_near⟩
  have b_law_near := F_law_near.bindsN (ps := ["field", "spot", "side", "more"]) fun _ _ _ _ _ _ us hl => match us, hl with | [_, _, _, _], _ => rfl
  have F_law_aim : FF_law_aim K f_law_aim _ := ⟨⟨_, _, _, _, _, _, _, _, _, _, rfl, l_law_aim, c_law_aim, .inl ⟨rfl, rfl⟩, .inl rfl⟩, k_law_aim⟩
  have b_law_aim := F_law_aim.bindsN (ps := ["field", "cell"]) fun _ _ _ _ _ _ us hl => match us, hl with | [_, _], _ => rfl
  have F_law_low : FF_law_low K f_law_low _ := ⟨⟨_, _, _, _, _, _, _, _, _, _, rfl, l_law_low, c_law_low, .inl ⟨rfl, rfl⟩, .inl rfl⟩, k_law_low⟩
  have b_law_low := F_law_low.bindsN (ps := ["field", "heights", "one", "spot"]) fun _ _ _ _ _ _ us hl => match us, hl with | [_, _, _, _], _ => rfl
  have F_law_full : FF_law_full K f_law_full _ := ⟨⟨_, _, _, _, _, _, _, _, _, _, rfl, l_law_full, c_law_full, .inl ⟨rfl, rfl⟩, .inl rfl⟩, k_law_full⟩
  have b_law_full := F_law_full.bindsN (ps := ["field"]) fun _ _ _ _ _ _ us hl => match us, hl with | [_], _ => rfl
  have F_law_as_field : FF_law_as_field K f_law_as_field _ := ⟨⟨_, _, _, _, _, _, _, _, _, _, rfl, l_law_as_field, c_law_as_field, .inl ⟨rfl, rfl⟩, .inl rfl⟩, k_law_as_field⟩
  have b_law_as_field := F_law_as_field.bindsN (ps := ["field", "heights"]) fun _ _ _ _ _ _ us hl => match us, hl with | [_, _], _ => rfl
  have F_law_kinds : FF_law_kinds K f_law_kinds _ := ⟨⟨_, _, _, _, _, _, _, _, _, _, rfl, l_law_kinds, c_law_kinds, .inl ⟨rfl, rfl⟩, .inl rfl⟩, k_law_kinds⟩
  have b_law_kinds := F_law_kinds.bindsN (ps := ["error"]) fun _ _ _ _ _ _ us hl => match us, hl with | [_], _ => rfl
  have F_law_caught : FF_law_caught K f_law_caught _ := ⟨⟨_, _, _, _, _, _, _, _, _, _, rfl, l_law_caught, c_law_caught, .inl ⟨rfl, rfl⟩, .inl rfl⟩, k_law_caught⟩
  have b_law_caught := F_law_caught.bindsN (ps := ["deed"]) fun _ _ _ _ _ _ us hl => match us, hl with | [_], _ => rfl
  have F_law_stock : FF_law_stock K f_law_stock _ := ⟨⟨_, _, _, _, _, _, _, _, _, _, rfl, l_law_stock, c_law_stock, .inl ⟨rfl, rfl⟩, .inl rfl⟩, k_law_stock⟩
  have b_law_stock := F_law_stock.bindsN (ps := ["state", "field"]) fun _ _ _ _ _ _ us hl => match us, hl with | [_, _], _ => rfl
  have F_law_stocks_refused : FF_law_stocks_refused K f_law_stocks_refused _ := ⟨⟨_, _, _, _, _, _, _, _, _, _, rfl, l_law_stocks_refused, c_law_stocks_refused, .inl ⟨rfl, rfl⟩, .inl rfl⟩, k_law_stocks_refused⟩
  have b_law_stocks_refused := F_law_stocks_refused.bindsN (ps := ["state", "field", "stock"]) fun _ _ _ _ _ _ us hl => match us, hl with | [_, _, _], _ => rfl
  have F_law_order_right : FF_law_order_right K f_law_order_right _ := ⟨⟨_, _, _, _, _, _, _, _, _, _, rfl, l_law_order_right, c_law_order_right, .inl ⟨rfl, rfl⟩, .inl rfl⟩, k_law_order_right⟩
  have b_law_order_right := F_law_order_right.bindsN (ps := ["state", "field", "stock", "one"]) fun _ _ _ _ _ _ us hl => match us, hl with | [_, _, _, _], _ => rfl
  have F_law : FF_law K fa _ := ⟨⟨_, _, _, _, _, _, _, _, _, _, rfl, l_law, c_law, .inl ⟨rfl, rfl⟩, .inl rfl⟩, k_law⟩
  have b_law := F_law.bindsN (ps := ["script"]) fun _ _ _ _ _ _ us hl => match us, hl with | [_], _ => rfl
  refine ⟨_, ff_law (⟨C_BadField, C_BadTools, C_OutOfPlace, C_BadSketch, C_BadRow, C_BadOutline, C_BadBlock, C_BadFeature, C_BadWay, C_Clash, C_BadPaper, C_Twice, C_NoPoint, C_TooGreat, C_NoFeature, C_NoSaying, C_NoToolThere, C_Nothing, C_Lowered, C_Lifted, C_Blocked, C_Beyond, C_WorksError, C_TooDeep, C_MissError, C_FaultError, C_NoTool, P_law_stocks_refused, P_law_order_right, P_law, Pl.isaOf K, Pl.okfOf K, Pl.okgOf K⟩ : CT), [(cA_law_stocks_refused, P_law_stocks_refused, "_law_stocks_refused.<locals>.<lambda>"), (cA_law_order_right, P_law_order_right, "_law_order_right.<locals>.<lambda>"), (cA_law, P_law, "law.<locals>.<lambda>")], (fun p hp => by
      simp only [List.mem_cons, List.not_mem_nil, or_false] at hp
      rcases hp with rfl | rfl | rfl
      · exact tm_law_stocks_refused
      · exact tm_law_order_right
      · exact tm_law), (fun p hp => by
      simp only [List.mem_cons, List.not_mem_nil, or_false] at hp
      rcases hp with rfl | rfl | rfl
      · exact tn_law_stocks_refused
      · exact tn_law_order_right
      · exact tn_law), (fun p hp => by
      simp only [List.mem_cons, List.not_mem_nil, or_false] at hp
      rcases hp with rfl | rfl | rfl
      · exact th_law_stocks_refused
      · exact th_law_order_right
      · exact th_law), tnd_, fun s v => F_law.bindsA (ps := ["script"]) (fun _ _ _ _ _ _ us hl => match us, hl with | [_], _ => rfl) s [v] rfl, fun base _ _ TBs => ?_, Law.truth (⟨C_BadField, C_BadTools, C_OutOfPlace, C_BadSketch, C_BadRow, C_BadOutline, C_BadBlock, C_BadFeature, C_BadWay, C_Clash, C_BadPaper, C_Twice, C_NoPoint, C_TooGreat, C_NoFeature, C_NoSaying, C_NoToolThere, C_Nothing, C_Lowered, C_Lifted, C_Blocked, C_Beyond, C_WorksError, C_TooDeep, C_MissError, C_FaultError, C_NoTool, P_law_stocks_refused, P_law_order_right, P_law, Pl.isaOf K, Pl.okfOf K, Pl.okgOf K⟩ : CT) ⟨Pl.isaOf_map EC_BadField il_BadField, Pl.isaOf_map EC_BadTools il_BadTools, Pl.isaOf_map EC_OutOfPlace il_OutOfPlace, Pl.okfOf_eq ⟨⟨_, _, _, _, EG_BadField⟩, tk_BadField_place⟩, Pl.okgOf_eq ⟨⟨q1_BadField, q2_BadField, be_BadField, q3_BadField⟩, fn_BadField_place⟩, Pl.okfOf_eq ⟨⟨_, _, _, _, EG_BadTools⟩, tk_BadTools_number⟩, Pl.okgOf_eq ⟨⟨q1_BadTools, q2_BadTools, be_BadTools, q3_BadTools⟩, fn_BadTools_number⟩⟩⟩
  have O_is_whole := ok_is_whole (P := l.prog) (w := w) (base := base) T  F_is_whole
  have L_is_whole : Lk l.prog w K mg base "is_whole" 1 ["thing"] ff_is_whole := ⟨_, _, O_is_whole, PySem.W.mg_of X G a_is_whole, k_is_whole, b_is_whole⟩
  have O_is_among := ok_is_among (P := l.prog) (w := w) (base := base) T L_is_whole F_is_among
  have L_is_among : Lk l.prog w K mg base "is_among" 2 ["thing", "least", "most"] ff_is_among := ⟨_, _, O_is_among, PySem.W.mg_of X G a_is_among, k_is_among, b_is_among⟩
  have O_BadField_init := ok_BadField_init (P := l.prog) (w := w) (base := base) T  F_BadField_init
  have G_BadField_1 : LkG l.prog w K mg base "BadField" 1 ["self", "place"] (ff_BadField_init (⟨C_BadField, C_BadTools, C_OutOfPlace, C_BadSketch, C_BadRow, C_BadOutline, C_BadBlock, C_BadFeature, C_BadWay, C_Clash, C_BadPaper, C_Twice, C_NoPoint, C_TooGreat, C_NoFeature, C_NoSaying, C_NoToolThere, C_Nothing, C_Lowered, C_Lifted, C_Blocked, C_Beyond, C_WorksError, C_TooDeep, C_MissError, C_FaultError, C_NoTool, P_law_stocks_refused, P_law_order_right, P_law, Pl.isaOf K, Pl.okfOf K, Pl.okgOf K⟩ : CT)) C_BadField [] := by
    obtain ⟨ds, h1, h2⟩ := F_BadField_init.binds1 (ps := ["self", "place"]) 2 1 (by simp) rfl (fun D kV doc pm an cdv ct us its hu hk => match us, hu, its, hk with | [_, _], _, [_], _ => ⟨_, rfl, rfl⟩)
    exact ⟨⟨_, _, [], ds, _, _, _, _, EG_BadField, ii_BadField, ti_BadField, O_BadField_init, PySem.W.mg_of X G a_BadField, h2, h1, fun _ _ => .nil⟩⟩
  have O_need_field := ok_need_field (P := l.prog) (w := w) (base := base) T L_is_among G_BadField_1 F_need_field
  have OQ_need_field := okq_need_field (P := l.prog) (w := w) (base := base) T L_is_among G_BadField_1 F_need_field
  have Q_need_field : LkQ l.prog w K mg base "need_field" 3 ["field"] (qq_need_field (⟨C_BadField, C_BadTools, C_OutOfPlace, C_BadSketch, C_BadRow, C_BadOutline, C_BadBlock, C_BadFeature, C_BadWay, C_Clash, C_BadPaper, C_Twice, C_NoPoint, C_TooGreat, C_NoFeature, C_NoSaying, C_NoToolThere, C_Nothing, C_Lowered, C_Lifted, C_Blocked, C_Beyond, C_WorksError, C_TooDeep, C_MissError, C_FaultError, C_NoTool, P_law_stocks_refused, P_law_order_right, P_law, Pl.isaOf K, Pl.okfOf K, Pl.okgOf K⟩ : CT)) := ⟨_, _, OQ_need_field, PySem.W.mg_of X G a_need_field, k_need_field, b_need_field⟩
  have L_need_field : Lk l.prog w K mg base "need_field" 3 ["field"] (ff_need_field _) := ⟨_, _, O_need_field, PySem.W.mg_of X G a_need_field, k_need_field, b_need_field⟩
  have O_plain_sides := ok_plain_sides (P := l.prog) (w := w) (base := base) T  F_plain_sides
  have L_plain_sides : Lk l.prog w K mg base "plain_sides" 1 ["field"] ff_plain_sides := ⟨_, _, O_plain_sides, PySem.W.mg_of X G a_plain_sides, k_plain_sides, b_plain_sides⟩
  have O_height_of := ok_height_of (P := l.prog) (w := w) (base := base) T  F_height_of
  have L_height_of : Lk l.prog w K mg base "height_of" 1 ["field", "cell"] ff_height_of := ⟨_, _, O_height_of, PySem.W.mg_of X G a_height_of, k_height_of, b_height_of⟩
  have O_need_stock := ok_need_stock (P := l.prog) (w := w) (base := base) T L_need_field L_plain_sides Q_need_field G_BadField_1 F_need_stock
  have OQ_need_stock := okq_need_stock (P := l.prog) (w := w) (base := base) T L_need_field L_plain_sides Q_need_field G_BadField_1 F_need_stock
  have Q_need_stock : LkQ l.prog w K mg base "need_stock" 4 ["field", "stock"] (qq_need_stock (⟨C_BadField, C_BadTools, C_OutOfPlace, C_BadSketch, C_BadRow, C_BadOutline, C_BadBlock, C_BadFeature, C_BadWay, C_Clash, C_BadPaper, C_Twice, C_NoPoint, C_TooGreat, C_NoFeature, C_NoSaying, C_NoToolThere, C_Nothing, C_Lowered, C_Lifted, C_Blocked, C_Beyond, C_WorksError, C_TooDeep, C_MissError, C_FaultError, C_NoTool, P_law_stocks_refused, P_law_order_right, P_law, Pl.isaOf K, Pl.okfOf K, Pl.okgOf K⟩ : CT)) := ⟨_, _, OQ_need_stock, PySem.W.mg_of X G a_need_stock, k_need_stock, b_need_stock⟩
  have L_need_stock : Lk l.prog w K mg base "need_stock" 4 ["field", "stock"] (ff_need_stock _) := ⟨_, _, O_need_stock, PySem.W.mg_of X G a_need_stock, k_need_stock, b_need_stock⟩
  have O_is_tool := ok_is_tool (P := l.prog) (w := w) (base := base) T L_is_among F_is_tool
  have L_is_tool : Lk l.prog w K mg base "is_tool" 3 ["thing"] ff_is_tool := ⟨_, _, O_is_tool, PySem.W.mg_of X G a_is_tool, k_is_tool, b_is_tool⟩
  have O_BadTools_init := ok_BadTools_init (P := l.prog) (w := w) (base := base) T  F_BadTools_init
  have G_BadTools_1 : LkG l.prog w K mg base "BadTools" 1 ["self", "number"] (ff_BadTools_init (⟨C_BadField, C_BadTools, C_OutOfPlace, C_BadSketch, C_BadRow, C_BadOutline, C_BadBlock, C_BadFeature, C_BadWay, C_Clash, C_BadPaper, C_Twice, C_NoPoint, C_TooGreat, C_NoFeature, C_NoSaying, C_NoToolThere, C_Nothing, C_Lowered, C_Lifted, C_Blocked, C_Beyond, C_WorksError, C_TooDeep, C_MissError, C_FaultError, C_NoTool, P_law_stocks_refused, P_law_order_right, P_law, Pl.isaOf K, Pl.okfOf K, Pl.okgOf K⟩ : CT)) C_BadTools [] := by
    obtain ⟨ds, h1, h2⟩ := F_BadTools_init.binds1 (ps := ["self", "number"]) 2 1 (by simp) rfl (fun D kV doc pm an cdv ct us its hu hk => match us, hu, its, hk with | [_, _], _, [_], _ => ⟨_, rfl, rfl⟩)
    exact ⟨⟨_, _, [], ds, _, _, _, _, EG_BadTools, ii_BadTools, ti_BadTools, O_BadTools_init, PySem.W.mg_of X G a_BadTools, h2, h1, fun _ _ => .nil⟩⟩
  have O_need_tool := ok_need_tool (P := l.prog) (w := w) (base := base) T L_is_tool G_BadTools_1 F_need_tool
  have OQ_need_tool := okq_need_tool (P := l.prog) (w := w) (base := base) T L_is_tool G_BadTools_1 F_need_tool
  have Q_need_tool : LkQ l.prog w K mg base "need_tool" 4 ["tool"] (qq_need_tool (⟨C_BadField, C_BadTools, C_OutOfPlace, C_BadSketch, C_BadRow, C_BadOutline, C_BadBlock, C_BadFeature, C_BadWay, C_Clash, C_BadPaper, C_Twice, C_NoPoint, C_TooGreat, C_NoFeature, C_NoSaying, C_NoToolThere, C_Nothing, C_Lowered, C_Lifted, C_Blocked, C_Beyond, C_WorksError, C_TooDeep, C_MissError, C_FaultError, C_NoTool, P_law_stocks_refused, P_law_order_right, P_law, Pl.isaOf K, Pl.okfOf K, Pl.okgOf K⟩ : CT)) := ⟨_, _, OQ_need_tool, PySem.W.mg_of X G a_need_tool, k_need_tool, b_need_tool⟩
  have L_need_tool : Lk l.prog w K mg base "need_tool" 4 ["tool"] (ff_need_tool _) := ⟨_, _, O_need_tool, PySem.W.mg_of X G a_need_tool, k_need_tool, b_need_tool⟩
  have O_is_place_of := ok_is_place_of (P := l.prog) (w := w) (base := base) T L_is_among F_is_place_of
  have L_is_place_of : Lk l.prog w K mg base "is_place_of" 3 ["sides", "tool", "thing"] ff_is_place_of := ⟨_, _, O_is_place_of, PySem.W.mg_of X G a_is_place_of, k_is_place_of, b_is_place_of⟩
  have O_need_place := ok_need_place (P := l.prog) (w := w) (base := base) T L_is_place_of F_need_place
  have OQ_need_place := okq_need_place (P := l.prog) (w := w) (base := base) T L_is_place_of F_need_place
  have Q_need_place : LkQ l.prog w K mg base "need_place" 4 ["sides", "tool", "place"] (qq_need_place (⟨C_BadField, C_BadTools, C_OutOfPlace, C_BadSketch, C_BadRow, C_BadOutline, C_BadBlock, C_BadFeature, C_BadWay, C_Clash, C_BadPaper, C_Twice, C_NoPoint, C_TooGreat, C_NoFeature, C_NoSaying, C_NoToolThere, C_Nothing, C_Lowered, C_Lifted, C_Blocked, C_Beyond, C_WorksError, C_TooDeep, C_MissError, C_FaultError, C_NoTool, P_law_stocks_refused, P_law_order_right, P_law, Pl.isaOf K, Pl.okfOf K, Pl.okgOf K⟩ : CT)) := ⟨_, _, OQ_need_place, PySem.W.mg_of X G a_need_place, k_need_place, b_need_place⟩
  have L_need_place : Lk l.prog w K mg base "need_place" 4 ["sides", "tool", "place"] (ff_need_place _) := ⟨_, _, O_need_place, PySem.W.mg_of X G a_need_place, k_need_place, b_need_place⟩
  have O_need_seat := ok_need_seat (P := l.prog) (w := w) (base := base) T L_need_field L_need_tool L_plain_sides L_need_place Q_need_field Q_need_tool Q_need_place F_need_seat
  have OQ_need_seat := okq_need_seat (P := l.prog) (w := w) (base := base) T L_need_field L_need_tool L_plain_sides L_need_place Q_need_field Q_need_tool Q_need_place F_need_seat
  have Q_need_seat : LkQ l.prog w K mg base "_need_seat" 5 ["field", "tool", "place"] (qq_need_seat (⟨C_BadField, C_BadTools, C_OutOfPlace, C_BadSketch, C_BadRow, C_BadOutline, C_BadBlock, C_BadFeature, C_BadWay, C_Clash, C_BadPaper, C_Twice, C_NoPoint, C_TooGreat, C_NoFeature, C_NoSaying, C_NoToolThere, C_Nothing, C_Lowered, C_Lifted, C_Blocked, C_Beyond, C_WorksError, C_TooDeep, C_MissError, C_FaultError, C_NoTool, P_law_stocks_refused, P_law_order_right, P_law, Pl.isaOf K, Pl.okfOf K, Pl.okgOf K⟩ : CT)) := ⟨_, _, OQ_need_seat, PySem.W.mg_of X G a_need_seat, k_need_seat, b_need_seat⟩
  have L_need_seat : Lk l.prog w K mg base "_need_seat" 5 ["field", "tool", "place"] (ff_need_seat _) := ⟨_, _, O_need_seat, PySem.W.mg_of X G a_need_seat, k_need_seat, b_need_seat⟩
  have O_need_height := ok_need_height (P := l.prog) (w := w) (base := base) T L_is_among F_need_height
  have OQ_need_height := okq_need_height (P := l.prog) (w := w) (base := base) T L_is_among F_need_height
  have Q_need_height : LkQ l.prog w K mg base "need_height" 3 ["field", "height"] (qq_need_height (⟨C_BadField, C_BadTools, C_OutOfPlace, C_BadSketch, C_BadRow, C_BadOutline, C_BadBlock, C_BadFeature, C_BadWay, C_Clash, C_BadPaper, C_Twice, C_NoPoint, C_TooGreat, C_NoFeature, C_NoSaying, C_NoToolThere, C_Nothing, C_Lowered, C_Lifted, C_Blocked, C_Beyond, C_WorksError, C_TooDeep, C_MissError, C_FaultError, C_NoTool, P_law_stocks_refused, P_law_order_right, P_law, Pl.isaOf K, Pl.okfOf K, Pl.okgOf K⟩ : CT)) := ⟨_, _, OQ_need_height, PySem.W.mg_of X G a_need_height, k_need_height, b_need_height⟩
  have L_need_height : Lk l.prog w K mg base "need_height" 3 ["field", "height"] (ff_need_height _) := ⟨_, _, O_need_height, PySem.W.mg_of X G a_need_height, k_need_height, b_need_height⟩
  have O_cells_between := ok_cells_between (P := l.prog) (w := w) (base := base) T  F_cells_between
  have L_cells_between : Lk l.prog w K mg base "_cells_between" 1 ["sides", "first", "last"] ff_cells_between := ⟨_, _, O_cells_between, PySem.W.mg_of X G a_cells_between, k_cells_between, b_cells_between⟩
  have O_plain_under := ok_plain_under (P := l.prog) (w := w) (base := base) T L_cells_between F_plain_under
  have L_plain_under : Lk l.prog w K mg base "plain_under" 2 ["sides", "tool", "place"] ff_plain_under := ⟨_, _, O_plain_under, PySem.W.mg_of X G a_plain_under, k_plain_under, b_plain_under⟩
  have O_plain_ring := ok_plain_ring (P := l.prog) (w := w) (base := base) T L_plain_under L_cells_between F_plain_ring
  have L_plain_ring : Lk l.prog w K mg base "plain_ring" 3 ["sides", "tool", "place"] ff_plain_ring := ⟨_, _, O_plain_ring, PySem.W.mg_of X G a_plain_ring, k_plain_ring, b_plain_ring⟩
  have O_first_of_ring := ok_first_of_ring (P := l.prog) (w := w) (base := base) T L_plain_sides L_plain_ring L_height_of F_first_of_ring
  have L_first_of_ring : Lk l.prog w K mg base "first_of_ring" 4 ["stock", "tool", "place", "height"] ff_first_of_ring := ⟨_, _, O_first_of_ring, PySem.W.mg_of X G a_first_of_ring, k_first_of_ring, b_first_of_ring⟩
  have O_first_in_way := ok_first_in_way (P := l.prog) (w := w) (base := base) T L_plain_sides L_plain_under L_height_of L_first_of_ring F_first_in_way
  have L_first_in_way : Lk l.prog w K mg base "first_in_way" 5 ["field", "stock", "tool", "place", "height"] ff_first_in_way := ⟨_, _, O_first_in_way, PySem.W.mg_of X G a_first_in_way, k_first_in_way, b_first_in_way⟩
  have O_may_stand := ok_may_stand (P := l.prog) (w := w) (base := base) T L_need_stock L_need_seat L_need_height L_first_in_way Q_need_stock Q_need_seat Q_need_height F_may_stand
  have OQ_may_stand := okq_may_stand (P := l.prog) (w := w) (base := base) T L_need_stock L_need_seat L_need_height L_first_in_way Q_need_stock Q_need_seat Q_need_height F_may_stand
  have Q_may_stand : LkQ l.prog w K mg base "may_stand" 6 ["field", "stock", "tool", "place", "height"] (qq_may_stand (⟨C_BadField, C_BadTools, C_OutOfPlace, C_BadSketch, C_BadRow, C_BadOutline, C_BadBlock, C_BadFeature, C_BadWay, C_Clash, C_BadPaper, C_Twice, C_NoPoint, C_TooGreat, C_NoFeature, C_NoSaying, C_NoToolThere, C_Nothing, C_Lowered, C_Lifted, C_Blocked, C_Beyond, C_WorksError, C_TooDeep, C_MissError, C_FaultError, C_NoTool, P_law_stocks_refused, P_law_order_right, P_law, Pl.isaOf K, Pl.okfOf K, Pl.okgOf K⟩ : CT)) := ⟨_, _, OQ_may_stand, PySem.W.mg_of X G a_may_stand, k_may_stand, b_may_stand⟩
  have L_may_stand : Lk l.prog w K mg base "may_stand" 6 ["field", "stock", "tool", "place", "height"] (ff_may_stand _) := ⟨_, _, O_may_stand, PySem.W.mg_of X G a_may_stand, k_may_stand, b_may_stand⟩
  have O_lowest := ok_lowest (P := l.prog) (w := w) (base := base) T L_need_stock L_need_seat L_plain_sides L_plain_under L_height_of L_plain_ring Q_need_stock Q_need_seat F_lowest
  have OQ_lowest := okq_lowest (P := l.prog) (w := w) (base := base) T L_need_stock L_need_seat L_plain_sides L_plain_under L_height_of L_plain_ring Q_need_stock Q_need_seat F_lowest
  have Q_lowest : LkQ l.prog w K mg base "lowest" 6 ["field", "stock", "tool", "place"] (qq_lowest (⟨C_BadField, C_BadTools, C_OutOfPlace, C_BadSketch, C_BadRow, C_BadOutline, C_BadBlock, C_BadFeature, C_BadWay, C_Clash, C_BadPaper, C_Twice, C_NoPoint, C_TooGreat, C_NoFeature, C_NoSaying, C_NoToolThere, C_Nothing, C_Lowered, C_Lifted, C_Blocked, C_Beyond, C_WorksError, C_TooDeep, C_MissError, C_FaultError, C_NoTool, P_law_stocks_refused, P_law_order_right, P_law, Pl.isaOf K, Pl.okfOf K, Pl.okgOf K⟩ : CT)) := ⟨_, _, OQ_lowest, PySem.W.mg_of X G a_lowest, k_lowest, b_lowest⟩
  have L_lowest : Lk l.prog w K mg base "lowest" 6 ["field", "stock", "tool", "place"] (ff_lowest _) := ⟨_, _, O_lowest, PySem.W.mg_of X G a_lowest, k_lowest, b_lowest⟩
  have O_solid := ok_solid (P := l.prog) (w := w) (base := base) T L_need_field F_solid
  have L_solid : Lk l.prog w K mg base "solid" 4 ["field"] (ff_solid _) := ⟨_, _, O_solid, PySem.W.mg_of X G a_solid, k_solid, b_solid⟩
  have O_law_mixed := ok_law_mixed (P := l.prog) (w := w) (base := base) T  F_law_mixed
  have L_law_mixed : Lk l.prog w K mg base "_law_mixed" 1 ["cell", "k"] ff_law_mixed := ⟨_, _, O_law_mixed, PySem.W.mg_of X G a_law_mixed, k_law_mixed, b_law_mixed⟩
  have O_law_draw := ok_law_draw (P := l.prog) (w := w) (base := base) T  F_law_draw
  have L_law_draw : Lk l.prog w K mg base "_law_draw" 1 ["cell", "k"] ff_law_draw := ⟨_, _, O_law_draw, PySem.W.mg_of X G a_law_draw, k_law_draw, b_law_draw⟩
  have O_law_digit := ok_law_digit (P := l.prog) (w := w) (base := base) T L_law_mixed F_law_digit
  have L_law_digit : Lk l.prog w K mg base "_law_digit" 2 ["state", "many"] ff_law_digit := ⟨_, _, O_law_digit, PySem.W.mg_of X G a_law_digit, k_law_digit, b_law_digit⟩
  have O_law_a_field := ok_law_a_field (P := l.prog) (w := w) (base := base) T L_law_digit F_law_a_field
  have L_law_a_field : Lk l.prog w K mg base "_law_a_field" 3 ["state", "most"] ff_law_a_field := ⟨_, _, O_law_a_field, PySem.W.mg_of X G a_law_a_field, k_law_a_field, b_law_a_field⟩
  have O_law_cells := ok_law_cells (P := l.prog) (w := w) (base := base) T  F_law_cells
  have L_law_cells : Lk l.prog w K mg base "_law_cells" 1 ["field"] ff_law_cells := ⟨_, _, O_law_cells, PySem.W.mg_of X G a_law_cells, k_law_cells, b_law_cells⟩
  have O_law_spots := ok_law_spots (P := l.prog) (w := w) (base := base) T  F_law_spots
  have L_law_spots : Lk l.prog w K mg base "_law_spots" 1 ["field", "side"] ff_law_spots := ⟨_, _, O_law_spots, PySem.W.mg_of X G a_law_spots, k_law_spots, b_law_spots⟩
  have O_law_near := ok_law_near (P := l.prog) (w := w) (base := base) T L_law_cells F_law_near
  have L_law_near : Lk l.prog w K mg base "_law_near" 2 ["field", "spot", "side", "more"] ff_law_near := ⟨_, _, O_law_near, PySem.W.mg_of X G a_law_near, k_law_near, b_law_near⟩
  have O_law_aim := ok_law_aim (P := l.prog) (w := w) (base := base) T  F_law_aim
  have L_law_aim : Lk l.prog w K mg base "_law_aim" 1 ["field", "cell"] ff_law_aim := ⟨_, _, O_law_aim, PySem.W.mg_of X G a_law_aim, k_law_aim, b_law_aim⟩
  have O_law_low := ok_law_low (P := l.prog) (w := w) (base := base) T L_law_near L_law_aim F_law_low
  have L_law_low : Lk l.prog w K mg base "_law_low" 3 ["field", "heights", "one", "spot"] ff_law_low := ⟨_, _, O_law_low, PySem.W.mg_of X G a_law_low, k_law_low, b_law_low⟩
  have O_law_full := ok_law_full (P := l.prog) (w := w) (base := base) T L_law_cells F_law_full
  have L_law_full : Lk l.prog w K mg base "_law_full" 2 ["field"] ff_law_full := ⟨_, _, O_law_full, PySem.W.mg_of X G a_law_full, k_law_full, b_law_full⟩
  have O_law_as_field := ok_law_as_field (P := l.prog) (w := w) (base := base) T  F_law_as_field
  have L_law_as_field : Lk l.prog w K mg base "_law_as_field" 1 ["field", "heights"] ff_law_as_field := ⟨_, _, O_law_as_field, PySem.W.mg_of X G a_law_as_field, k_law_as_field, b_law_as_field⟩
  have O_law_kinds := ok_law_kinds (P := l.prog) (w := w) (base := base) T  F_law_kinds
  have L_law_kinds : Lk l.prog w K mg base "_law_kinds" 1 ["error"] (ff_law_kinds _) := ⟨_, _, O_law_kinds, PySem.W.mg_of X G a_law_kinds, k_law_kinds, b_law_kinds⟩
  have LG_law_caught : LkL l.prog w K mg base "_law_caught" 7 "deed" 3 (lg_law_caught (⟨C_BadField, C_BadTools, C_OutOfPlace, C_BadSketch, C_BadRow, C_BadOutline, C_BadBlock, C_BadFeature, C_BadWay, C_Clash, C_BadPaper, C_Twice, C_NoPoint, C_TooGreat, C_NoFeature, C_NoSaying, C_NoToolThere, C_Nothing, C_Lowered, C_Lifted, C_Blocked, C_Beyond, C_WorksError, C_TooDeep, C_MissError, C_FaultError, C_NoTool, P_law_stocks_refused, P_law_order_right, P_law, Pl.isaOf K, Pl.okfOf K, Pl.okgOf K⟩ : CT)) := okl_law_caught (P := l.prog) (w := w) (base := base) T  F_law_caught (PySem.W.mg_of X G a_law_caught) k_law_caught b_law_caught
  have O_law_stock := ok_law_stock (P := l.prog) (w := w) (base := base) T L_law_digit L_law_cells F_law_stock
  have L_law_stock : Lk l.prog w K mg base "_law_stock" 3 ["state", "field"] ff_law_stock := ⟨_, _, O_law_stock, PySem.W.mg_of X G a_law_stock, k_law_stock, b_law_stock⟩
  have O_law_stocks_refused := ok_law_stocks_refused (P := l.prog) (w := w) (base := base) T L_law_digit L_law_kinds Q_lowest Q_may_stand LG_law_caught (TBs (cA_law_stocks_refused, P_law_stocks_refused, "_law_stocks_refused.<locals>.<lambda>") (by simp)) F_law_stocks_refused rfl
  have L_law_stocks_refused : Lk l.prog w K mg base "_law_stocks_refused" 9 ["state", "field", "stock"] (ff_law_stocks_refused _) := ⟨_, _, O_law_stocks_refused, PySem.W.mg_of X G a_law_stocks_refused, k_law_stocks_refused, b_law_stocks_refused⟩
  have O_law_order_right := ok_law_order_right (P := l.prog) (w := w) (base := base) T L_law_digit L_law_kinds Q_lowest Q_may_stand LG_law_caught (TBs (cA_law_order_right, P_law_order_right, "_law_order_right.<locals>.<lambda>") (by simp)) F_law_order_right rfl
  have L_law_order_right : Lk l.prog w K mg base "_law_order_right" 9 ["state", "field", "stock", "one"] (ff_law_order_right _) := ⟨_, _, O_law_order_right, PySem.W.mg_of X G a_law_order_right, k_law_order_right, b_law_order_right⟩
  have O_law := ok_law (P := l.prog) (w := w) (base := base) T L_law_draw L_law_a_field L_law_stock L_law_as_field L_solid L_law_full L_law_digit L_law_spots L_law_low L_lowest L_may_stand L_law_kinds L_law_stocks_refused L_law_order_right Q_may_stand LG_law_caught (TBs (cA_law, P_law, "law.<locals>.<lambda>") (by simp)) F_law rfl
  exact O_law
end Law
open PySem PySem.W PyProof.Rows
set_option maxRecDepth 100000 in
set_option maxHeartbeats 0 in
theorem PySem.Challenge.cw_panelworks_k41_where_tools_may_stand_holds : PySem.Challenge.rw_panelworks_k41_where_tools_may_stand.Holds := by
  w_on; o_law; k_head; (case hw => w_witness2)
  k_fill
  refine Pl.walk_ofXTs (l := PySem.Challenge.rw_panelworks_k41_where_tools_may_stand) (n := 63) (k := 10) (x := "script") rfl (by decide) rfl ⟨rfl, by decide, by decide⟩ (fun w h Y => PySem.W.km_in_of Y) (fun w h Y => PySem.W.km_tabs_of Y) ?F
  case F =>
    intro w mg fa h KX G hmg
    refine' Law.all_mk KX G hmg ?q_z_int ?q_z_isinstance ?q_z_bool ?q_z_tuple ?q_z_len ?q_z_enumerate ?q_z_all ?q_z_zip ?q_z_range ?q_z_min ?q_z_max ?q_z_dict ?q_z_ValueError ?q_z_LookupError ?q_z_RuntimeError ?q_z_list ?q_z_repr ?q_g_MOST_HIGH ?q_g_MOST_SIDE ?q_g_MOST_TOOL ?q_g_MOST_LENGTH ?q_a_BadField ?q_a_BadTools ?q_a_OutOfPlace ?q_a_BadSketch ?q_a_BadRow ?q_a_BadOutline ?q_a_BadBlock ?q_a_BadFeature ?q_a_BadWay ?q_a_Clash ?q_a_BadPaper ?q_a_Twice ?q_a_NoPoint ?q_a_TooGreat ?q_a_NoFeature ?q_a_NoSaying ?q_a_NoToolThere ?q_a_Nothing ?q_a_Lowered ?q_a_Lifted ?q_a_Blocked ?q_a_Beyond ?q_a_WorksError ?q_a_TooDeep ?q_a_MissError ?q_a_FaultError ?q_a_NoTool ?q_e1_BadField ?q_e2_BadField ?q_sa_BadField ?q_ii_BadField ?q_ti_BadField ?q_tk_BadField_place ?q_fn_BadField_place ?q_e1_BadTools ?q_e2_BadTools ?q_sa_BadTools ?q_ii_BadTools ?q_ti_BadTools ?q_tk_BadTools_number ?q_fn_BadTools_number ?q_xe_OutOfPlace ?q_ke_BadField ?q_be_BadField ?q_q1_BadField ?q_q2_BadField ?q_q3_BadField ?q_q4_BadField ?q_q7_BadField ?q_il_BadField ?q_ke_BadTools ?q_be_BadTools ?q_q1_BadTools ?q_q2_BadTools ?q_q3_BadTools ?q_q4_BadTools ?q_q7_BadTools ?q_il_BadTools ?q_ke_OutOfPlace ?q_be_OutOfPlace ?q_q1_OutOfPlace ?q_q2_OutOfPlace ?q_q3_OutOfPlace ?q_q4_OutOfPlace ?q_q7_OutOfPlace ?q_il_OutOfPlace ?q_q5_ ?q_q6_ ?q_hd_BadField ?q_ht_BadField ?q_hd_BadTools ?q_ht_BadTools ?q_hd_OutOfPlace ?q_ht_OutOfPlace ?q_xt_BadField_WorksError_MissError_FaultError ?q_xt_BadTools_WorksError_MissError_FaultError ?q_xt_OutOfPlace_WorksError_MissError_FaultError ?q_a_is_whole ?q_l_is_whole ?q_c_is_whole ?q_k_is_whole ?q_a_is_among ?q_l_is_among ?q_c_is_among ?q_k_is_among ?q_l_BadField_init ?q_c_BadField_init ?q_k_BadField_init ?q_dl_BadField_init ?q_dd_BadField_init ?q_dv_BadField_init ?q_a_need_field ?q_l_need_field ?q_c_need_field ?q_k_need_field ?q_a_plain_sides ?q_l_plain_sides ?q_c_plain_sides ?q_k_plain_sides ?q_a_height_of ?q_l_height_of ?q_c_height_of ?q_k_height_of ?q_a_need_stock ?q_l_need_stock ?q_c_need_stock ?q_k_need_stock ?q_a_is_tool ?q_l_is_tool ?q_c_is_tool ?q_k_is_tool ?q_l_BadTools_init ?q_c_BadTools_init ?q_k_BadTools_init ?q_dl_BadTools_init ?q_dd_BadTools_init ?q_dv_BadTools_init ?q_a_need_tool ?q_l_need_tool ?q_c_need_tool ?q_k_need_tool ?q_a_is_place_of ?q_l_is_place_of ?q_c_is_place_of ?q_k_is_place_of ?q_a_need_place ?q_l_need_place ?q_c_need_place ?q_k_need_place ?q_a_need_seat ?q_l_need_seat ?q_c_need_seat ?q_k_need_seat ?q_a_need_height ?q_l_need_height ?q_c_need_height ?q_k_need_height ?q_a_cells_between ?q_l_cells_between ?q_c_cells_between ?q_k_cells_between ?q_a_plain_under ?q_l_plain_under ?q_c_plain_under ?q_k_plain_under ?q_a_plain_ring ?q_l_plain_ring ?q_c_plain_ring ?q_k_plain_ring ?q_a_first_of_ring ?q_l_first_of_ring ?q_c_first_of_ring ?q_k_first_of_ring ?q_a_first_in_way ?q_l_first_in_way ?q_c_first_in_way ?q_k_first_in_way ?q_a_may_stand ?q_l_may_stand ?q_c_may_stand ?q_k_may_stand ?q_a_lowest ?q_l_lowest ?q_c_lowest ?q_k_lowest ?q_a_solid ?q_l_solid ?q_c_solid ?q_k_solid ?q_a_law_mixed ?q_l_law_mixed ?q_c_law_mixed ?q_k_law_mixed ?q_a_law_draw ?q_l_law_draw ?q_c_law_draw ?q_k_law_draw ?q_a_law_digit ?q_l_law_digit ?q_c_law_digit ?q_k_law_digit ?q_a_law_a_field ?q_l_law_a_field ?q_c_law_a_field ?q_k_law_a_field ?q_a_law_cells ?q_l_law_cells ?q_c_law_cells ?q_k_law_cells ?q_a_law_spots ?q_l_law_spots ?q_c_law_spots ?q_k_law_spots ?q_a_law_near ?q_l_law_near ?q_c_law_near ?q_k_law_near ?q_a_law_aim ?q_l_law_aim ?q_c_law_aim ?q_k_law_aim ?q_a_law_low ?q_l_law_low ?q_c_law_low ?q_k_law_low ?q_a_law_full ?q_l_law_full ?q_c_law_full ?q_k_law_full ?q_a_law_as_field ?q_l_law_as_field ?q_c_law_as_field ?q_k_law_as_field ?q_a_law_kinds ?q_l_law_kinds ?q_c_law_kinds ?q_k_law_kinds ?q_a_law_caught ?q_l_law_caught ?q_c_law_caught ?q_k_law_caught ?q_a_law_stock ?q_l_law_stock ?q_c_law_stock ?q_k_law_stock ?q_a_law_stocks_refused ?q_l_law_stocks_refused ?q_tl_law_stocks_refused ?q_tv_law_stocks_refused ?q_tn_law_stocks_refused ?q_th_law_stocks_refused ?q_tm_law_stocks_refused ?q_c_law_stocks_refused ?q_k_law_stocks_refused ?q_a_law_order_right ?q_l_law_order_right ?q_tl_law_order_right ?q_tv_law_order_right ?q_tn_law_order_right ?q_th_law_order_right ?q_tm_law_order_right ?q_c_law_order_right ?q_k_law_order_right ?q_a_law ?q_l_law ?q_tl_law ?q_tv_law ?q_tn_law ?q_th_law ?q_tm_law ?q_c_law ?q_k_law ?q_tnd_
    (case q_z_int => k_is)
    (case q_z_isinstance => k_is)
    (case q_z_bool => k_is)
    (case q_z_tuple => k_is)
    (case q_z_len => k_is)
    (case q_z_enumerate => k_is)
    (case q_z_all => k_is)
    (case q_z_zip => k_is)
    (case q_z_range => k_is)
    (case q_z_min => k_is)
    (case q_z_max => k_is)
    (case q_z_dict => k_is)
    (case q_z_ValueError => k_is)
    (case q_z_LookupError => k_is)
    (case q_z_RuntimeError => k_is)
    (case q_z_list => k_is)
    (case q_z_repr => k_is)
    (case q_g_MOST_HIGH => k_is)
    (case q_g_MOST_SIDE => k_is)
    (case q_g_MOST_TOOL => k_is)
    (case q_g_MOST_LENGTH => k_is)
    (case q_a_BadField => k_is)
    (case q_a_BadTools => k_is)
    (case q_a_OutOfPlace => k_is)
    (case q_a_BadSketch => k_is)
    (case q_a_BadRow => k_is)
    (case q_a_BadOutline => k_is)
    (case q_a_BadBlock => k_is)
    (case q_a_BadFeature => k_is)
    (case q_a_BadWay => k_is)
    (case q_a_Clash => k_is)
    (case q_a_BadPaper => k_is)
    (case q_a_Twice => k_is)
    (case q_a_NoPoint => k_is)
    (case q_a_TooGreat => k_is)
    (case q_a_NoFeature => k_is)
    (case q_a_NoSaying => k_is)
    (case q_a_NoToolThere => k_is)
    (case q_a_Nothing => k_is)
    (case q_a_Lowered => k_is)
    (case q_a_Lifted => k_is)
    (case q_a_Blocked => k_is)
    (case q_a_Beyond => k_is)
    (case q_a_WorksError => k_is)
    (case q_a_TooDeep => k_is)
    (case q_a_MissError => k_is)
    (case q_a_FaultError => k_is)
    (case q_a_NoTool => k_is)
    (case q_e1_BadField => kernel_rfl)
    (case q_e2_BadField => kernel_rfl)
    (case q_sa_BadField => k_is)
    (case q_ii_BadField => k_is)
    (case q_ti_BadField => k_is)
    (case q_tk_BadField_place => k_is)
    (case q_fn_BadField_place => k_is)
    (case q_e1_BadTools => kernel_rfl)
    (case q_e2_BadTools => kernel_rfl)
    (case q_sa_BadTools => k_is)
    (case q_ii_BadTools => k_is)
    (case q_ti_BadTools => k_is)
    (case q_tk_BadTools_number => k_is)
    (case q_fn_BadTools_number => k_is)
    (case q_xe_OutOfPlace => k_exc)
    (case q_ke_BadField => k_is)
    (case q_be_BadField => k_is)
    (case q_q1_BadField => k_is)
    (case q_q2_BadField => k_is)
    (case q_q3_BadField => k_is)
    (case q_q4_BadField => k_is)
    (case q_q7_BadField => k_is)
    (case q_il_BadField => kernel_rfl)
    (case q_ke_BadTools => k_is)
    (case q_be_BadTools => k_is)
    (case q_q1_BadTools => k_is)
    (case q_q2_BadTools => k_is)
    (case q_q3_BadTools => k_is)
    (case q_q4_BadTools => k_is)
    (case q_q7_BadTools => k_is)
    (case q_il_BadTools => kernel_rfl)
    (case q_ke_OutOfPlace => k_is)
    (case q_be_OutOfPlace => k_is)
    (case q_q1_OutOfPlace => k_is)
    (case q_q2_OutOfPlace => k_is)
    (case q_q3_OutOfPlace => k_is)
    (case q_q4_OutOfPlace => k_is)
    (case q_q7_OutOfPlace => k_is)
    (case q_il_OutOfPlace => kernel_rfl)
    (case q_q5_ => k_is)
    (case q_q6_ => k_is)
    (case q_hd_BadField => k_is)
    (case q_ht_BadField => k_is)
    (case q_hd_BadTools => k_is)
    (case q_ht_BadTools => k_is)
    (case q_hd_OutOfPlace => k_is)
    (case q_ht_OutOfPlace => k_is)
    (case q_xt_BadField_WorksError_MissError_FaultError => kernel_rfl)
    (case q_xt_BadTools_WorksError_MissError_FaultError => kernel_rfl)
    (case q_xt_OutOfPlace_WorksError_MissError_FaultError => kernel_rfl)
    (case q_a_is_whole => k_is)
    (case q_l_is_whole => k_is)
    (case q_c_is_whole => k_is)
    (case q_k_is_whole => k_is)
    (case q_a_is_among => k_is)
    (case q_l_is_among => k_is)
    (case q_c_is_among => k_is)
    (case q_k_is_among => k_is)
    (case q_l_BadField_init => k_is)
    (case q_c_BadField_init => k_is)
    (case q_k_BadField_init => k_is)
    (case q_dl_BadField_init => k_is)
    (case q_dd_BadField_init => rfl)
    (case q_dv_BadField_init => exact (.cons rfl .nil))
    (case q_a_need_field => k_is)
    (case q_l_need_field => k_is)
    (case q_c_need_field => k_is)
    (case q_k_need_field => k_is)
    (case q_a_plain_sides => k_is)
    (case q_l_plain_sides => k_is)
    (case q_c_plain_sides => k_is)
    (case q_k_plain_sides => k_is)
    (case q_a_height_of => k_is)
    (case q_l_height_of => k_is)
    (case q_c_height_of => k_is)
    (case q_k_height_of => k_is)
    (case q_a_need_stock => k_is)
    (case q_l_need_stock => k_is)
    (case q_c_need_stock => k_is)
    (case q_k_need_stock => k_is)
    (case q_a_is_tool => k_is)
    (case q_l_is_tool => k_is)
    (case q_c_is_tool => k_is)
    (case q_k_is_tool => k_is)
    (case q_l_BadTools_init => k_is)
    (case q_c_BadTools_init => k_is)
    (case q_k_BadTools_init => k_is)
    (case q_dl_BadTools_init => k_is)
    (case q_dd_BadTools_init => rfl)
    (case q_dv_BadTools_init => exact (.cons rfl .nil))
    (case q_a_need_tool => k_is)
    (case q_l_need_tool => k_is)
    (case q_c_need_tool => k_is)
    (case q_k_need_tool => k_is)
    (case q_a_is_place_of => k_is)
    (case q_l_is_place_of => k_is)
    (case q_c_is_place_of => k_is)
    (case q_k_is_place_of => k_is)
    (case q_a_need_place => k_is)
    (case q_l_need_place => k_is)
    (case q_c_need_place => k_is)
    (case q_k_need_place => k_is)
    (case q_a_need_seat => k_is)
    (case q_l_need_seat => k_is)
    (case q_c_need_seat => k_is)
    (case q_k_need_seat => k_is)
    (case q_a_need_height => k_is)
    (case q_l_need_height => k_is)
    (case q_c_need_height => k_is)
    (case q_k_need_height => k_is)
    (case q_a_cells_between => k_is)
    (case q_l_cells_between => k_is)
    (case q_c_cells_between => k_is)
    (case q_k_cells_between => k_is)
    (case q_a_plain_under => k_is)
    (case q_l_plain_under => k_is)
    (case q_c_plain_under => k_is)
    (case q_k_plain_under => k_is)
    (case q_a_plain_ring => k_is)
    (case q_l_plain_ring => k_is)
    (case q_c_plain_ring => k_is)
    (case q_k_plain_ring => k_is)
    (case q_a_first_of_ring => k_is)
    (case q_l_first_of_ring => k_is)
    (case q_c_first_of_ring => k_is)
    (case q_k_first_of_ring => k_is)
    (case q_a_first_in_way => k_is)
    (case q_l_first_in_way => k_is)
    (case q_c_first_in_way => k_is)
    (case q_k_first_in_way => k_is)
    (case q_a_may_stand => k_is)
    (case q_l_may_stand => k_is)
    (case q_c_may_stand => k_is)
    (case q_k_may_stand => k_is)
    (case q_a_lowest => k_is)
    (case q_l_lowest => k_is)
    (case q_c_lowest => k_is)
    (case q_k_lowest => k_is)
    (case q_a_solid => k_is)
    (case q_l_solid => k_is)
    (case q_c_solid => k_is)
    (case q_k_solid => k_is)
    (case q_a_law_mixed => k_is)
    (case q_l_law_mixed => k_is)
    (case q_c_law_mixed => k_is)
    (case q_k_law_mixed => k_is)
    (case q_a_law_draw => k_is)
    (case q_l_law_draw => k_is)
    (case q_c_law_draw => k_is)
    (case q_k_law_draw => k_is)
    (case q_a_law_digit => k_is)
    (case q_l_law_digit => k_is)
    (case q_c_law_digit => k_is)
    (case q_k_law_digit => k_is)
    (case q_a_law_a_field => k_is)
    (case q_l_law_a_field => k_is)
    (case q_c_law_a_field => k_is)
    (case q_k_law_a_field => k_is)
    (case q_a_law_cells => k_is)
    (case q_l_law_cells => k_is)
    (case q_c_law_cells => k_is)
    (case q_k_law_cells => k_is)
    (case q_a_law_spots => k_is)
    (case q_l_law_spots => k_is)
    (case q_c_law_spots => k_is)
    (case q_k_law_spots => k_is)
    (case q_a_law_near => k_is)
    (case q_l_law_near => k_is)
    (case q_c_law_near => k_is)
    (case q_k_law_near => k_is)
    (case q_a_law_aim => k_is)
    (case q_l_law_aim => k_is)
    (case q_c_law_aim => k_is)
    (case q_k_law_aim => k_is)
    (case q_a_law_low => k_is)
    (case q_l_law_low => k_is)
    (case q_c_law_low => k_is)
    (case q_k_law_low => k_is)
    (case q_a_law_full => k_is)
    (case q_l_law_full => k_is)
    (case q_c_law_full => k_is)
    (case q_k_law_full => k_is)
    (case q_a_law_as_field => k_is)
    (case q_l_law_as_field => k_is)
    (case q_c_law_as_field => k_is)
    (case q_k_law_as_field => k_is)
    (case q_a_law_kinds => k_is)
    (case q_l_law_kinds => k_is)
    (case q_c_law_kinds => k_is)
    (case q_k_law_kinds => k_is)
    (case q_a_law_caught => k_is)
    (case q_l_law_caught => k_is)
    (case q_c_law_caught => k_is)
    (case q_k_law_caught => k_is)
    (case q_a_law_stock => k_is)
    (case q_l_law_stock => k_is)
    (case q_c_law_stock => k_is)
    (case q_k_law_stock => k_is)
    (case q_a_law_stocks_refused => k_is)
    (case q_l_law_stocks_refused => k_is)
    (case q_tl_law_stocks_refused => k_is)
    (case q_tv_law_stocks_refused => first | exact rfl | kernel_rfl)
    (case q_tn_law_stocks_refused => first | kernel_rfl | rfl | decide)
    (case q_th_law_stocks_refused => kernel_rfl)
    (case q_tm_law_stocks_refused => decide)
    (case q_c_law_stocks_refused => k_is)
    (case q_k_law_stocks_refused => k_is)
    (case q_a_law_order_right => k_is)
    (case q_l_law_order_right => k_is)
    (case q_tl_law_order_right => k_is)
    (case q_tv_law_order_right => first | exact rfl | kernel_rfl)
    (case q_tn_law_order_right => first | kernel_rfl | rfl | decide)
    (case q_th_law_order_right => kernel_rfl)
    (case q_tm_law_order_right => decide)
    (case q_c_law_order_right => k_is)
    (case q_k_law_order_right => k_is)
    (case q_a_law => k_is)
    (case q_l_law => k_is)
    (case q_tl_law => k_is)
    (case q_tv_law => first | exact rfl | kernel_rfl)
    (case q_tn_law => first | kernel_rfl | rfl | decide)
    (case q_th_law => kernel_rfl)
    (case q_tm_law => decide)
    (case q_c_law => k_is)
    (case q_k_law => k_is)
    (case q_tnd_ => decide)
