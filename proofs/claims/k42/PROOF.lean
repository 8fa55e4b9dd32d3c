import PyProof.Rows.All
import Wide.All
import OpenK.AllK
import Wide.FinOn
import HandS.Base
import HandS.Call
import HandS.List
import HandS.Comp
import HandS.ExcIs
import HandS.ExcInit
import HandS.ExcValue
import HandS.Lambda
import HandS.Dict
import HandS.Words
import HandS.WordsList
import HandS.NoneIn
import HandS.Wide
import HandS.WideBits
import HandS.Gcd
import HandS.TupAny
import HandS.Text
import HandS.Deep
import HandS.TupLe
import HandS.Defaults
import HandS.IsInst
import HandS.FStr
import HandS.More
import HandS.Zip
import HandS.Iter
import HandS.Ends
import PyProof.ReprRoads
import HandS.Exc
import HandS.ExcOwn
import HandS.WordsExc
import HandS.TryOnly
import HandS.Style
import KE.GoesMore
import PyProof.ListNew
import HandS.Flow
import KE.KExcInit
import HandS.ExcField
import KE.KExcIs
import HandS.MakeKw
import HandS.TupMul
import HandS.RaiseMore
import PyProof.ListStr
import KE.GoesZip
import HandS.Replace
import KE.GoesEnum
import HandS.EndOwn
import KE.KDictPairs
import HandS.DictComp
import PyProof.MaxThree
import KE.KRevSl
import KE.KTupSum
import HandS.TupSets
import KE.KDictWalk
import KE.KEqDict
import HandS.Finally
import HandS.MakeKwOnly
import PySem.Challenge.RW_panelworks_k42_reached_round_by_round
set_option Elab.async false
set_option linter.all false
set_option maxRecDepth 100000
set_option maxHeartbeats 8000000
namespace Pl
open PySem L2
/-- a value without addresses; ref n: the n-th of the store of what changes -/
inductive D where
  | non | bl (b : Bool) | int (i : Int) | str (x : Str) | ty (n : String) | ob (a : Addr)
  | tup (xs : List D) | lst (xs : List D) | lsk (xs : List D) | ref (n : Nat)
  /-- a lambda at f, its code object at c of the name q, what it holds -/
  | lam (f c : Addr) (q : Str) (vs : List V) (ds : List D)
  /-- a dict by cells that stays as it is: its keys, what stands there -/
  | dcf (ks : List (List Int)) (ds : List D)
/-- what changes -/
inductive MO where
  | dead | lst (xs : List D) | dic (kvs : List (Key × D)) | exc (C : Addr)
  | exo (C : Addr) (d : Option Nat) | exd (fs : List (Str × D)) | exn (C : Addr)
  /-- caught, its dict the m-th -/
  | exf (C : Addr) (m : Nat)
  /-- the dict of one that was caught -/
  | exg (fs : List (Str × D))
  /-- the table of a def's code objects, of the name q -/
  | tab (a : Addr) (q : Str)
  /-- a dict whose keys are cells, rows of ints -/
  | dct (kvs : List (List Int × D))
  /-- an instance of an own class -/
  | ins (C : Addr) (fs : List (Str × D))
abbrev Mh := List MO
abbrev Env := List (Option D)
def cellHash (k : List Int) : Int := reduceHash (Builtin.Tuple.tupleHashOf (k.map hashInt))
def cellE (x : List Int × Addr × Value) : DictEntry := ⟨cellHash x.1, .ref x.2.1, x.2.2⟩
abbrev KC : List (List Int × Addr × V) → List (List Int × Addr × Value) → Prop := Paired fun p q => p.1 = q.1 ∧ q.2.1 = p.2.1 ∧ RelV p.2.2 q.2.2
def DCL (a : Addr) (kvs : List (List Int × Addr × V)) : HO := .ext fun h => kvs.length ≤ sizeLine ∧ (a == sysModules) = false ∧ ∃ xs, KC kvs xs ∧ ∃ o es ep, h.get? a = some o ∧ o.ExactDict ∧ o.data = .dict es ep ∧ es.toList = xs.map cellE ∧ (xs.map (·.1)).Nodup
section
variable (K : PySem.W.Frag) (B : Hp) (ι : List Addr)
mutual
inductive Rep : V → D → Prop
  | non : Rep .non .non
  | bl (b : Bool) : Rep (.bl b) (.bl b)
  | int (i : Int) : Rep (.int i) (.int i)
  | str (x : Str) : Rep (.str x) (.str x)
  | ty (n : String) : Rep (.ty n) (.ty n)
  | ob (a : Addr) : Rep (.ref a) (.ob a)
  | tup {a : Addr} {vs : List V} {ds : List D} : SqT K B a vs → RepL vs ds → Rep (.ref a) (.tup ds)
  | lst {a : Addr} {vs : List V} {ds : List D} : B a = some (.lst vs) → RepL vs ds → Rep (.ref a) (.lst ds)
  | lsk {a : Addr} {vs : List V} {ds : List D} : SqL K B a vs → RepL vs ds → Rep (.ref a) (.lsk ds)
  | ref {a : Addr} {n : Nat} : ι[n]? = some a → Rep (.ref a) (.ref n)
  | lam {f c : Addr} {q : Str} {vs : List V} {ds : List D} : B c = some (LamX.CodeO c q) → RepL vs ds → Rep (.ref f) (.lam f c q vs ds)
  | dcf {a : Addr} {o : Obj} {kv : List (List Int × Addr × V)} {ks : List (List Int)} {ds : List D} : B a = some (.frz o (DCL a kv)) → kv.map (·.1) = ks → (∀ p ∈ kv, SqT K B p.2.1 (p.1.map V.int)) → RepL (kv.map (·.2.2)) ds → Rep (.ref a) (.dcf ks ds)
inductive RepL : List V → List D → Prop
  | nil : RepL [] []
  | cons {v : V} {d : D} {vs : List V} {ds : List D} : Rep v d → RepL vs ds → RepL (v :: vs) (d :: ds)
end
/-- a dict's pairs -/
inductive RepK : List (Key × V) → List (Key × D) → Prop
  | nil : RepK [] []
  | cons {k : Key} {v : V} {d : D} {vs : List (Key × V)} {ds : List (Key × D)} : Rep K B ι v d → RepK vs ds → RepK ((k, v) :: vs) ((k, d) :: ds)
end
theorem sqT_mono {K : PySem.W.Frag} {B B' : Hp} (s : ∀ b o, B b = some o → B' b = some o) {a : Addr} {vs : List V} (h : SqT K B a vs) : SqT K B' a vs := by
  rcases h with h | h
  · refine .inl ?_
    rcases h with h | ⟨o, h⟩
    · exact .inl (s _ _ h)
    · exact .inr ⟨o, s _ _ h⟩
  · exact .inr h
theorem sqL_mono {K : PySem.W.Frag} {B B' : Hp} (s : ∀ b o, B b = some o → B' b = some o) {a : Addr} {vs : List V} (h : SqL K B a vs) : SqL K B' a vs := by
  rcases h with h | h
  · refine .inl ?_
    rcases h with h | ⟨o, h⟩
    · exact .inl (s _ _ h)
    · exact .inr ⟨o, s _ _ h⟩
  · exact .inr h
section
variable {K : PySem.W.Frag} {B B' : Hp} {ι ι' : List Addr}
mutual
theorem Rep.mono (s : ∀ b o, B b = some o → B' b = some o) (p : ∀ (n : Nat) (a : Addr), ι[n]? = some a → ι'[n]? = some a) : ∀ {v : V} {d : D}, Rep K B ι v d → Rep K B' ι' v d
  | _, _, .non => .non
  | _, _, .bl b => .bl b
  | _, _, .int i => .int i
  | _, _, .str x => .str x
  | _, _, .ty n => .ty n
  | _, _, .ob a => .ob a
  | _, _, .tup h r => .tup (sqT_mono s h) (RepL.mono s p r)
  | _, _, .lst h r => .lst (s _ _ h) (RepL.mono s p r)
  | _, _, .lsk h r => .lsk (sqL_mono s h) (RepL.mono s p r)
  | _, _, .ref h => .ref (p _ _ h)
  | _, _, .lam h r => .lam (s _ _ h) (RepL.mono s p r)
  | _, _, .dcf h e q r => .dcf (s _ _ h) e (fun x hx => sqT_mono s (q x hx)) (RepL.mono s p r)
theorem RepL.mono (s : ∀ b o, B b = some o → B' b = some o) (p : ∀ (n : Nat) (a : Addr), ι[n]? = some a → ι'[n]? = some a) : ∀ {vs : List V} {ds : List D}, RepL K B ι vs ds → RepL K B' ι' vs ds
  | _, _, .nil => .nil
  | _, _, .cons h r => .cons (Rep.mono s p h) (RepL.mono s p r)
end
theorem RepK.mono (s : ∀ b o, B b = some o → B' b = some o) (p : ∀ (n : Nat) (a : Addr), ι[n]? = some a → ι'[n]? = some a) : ∀ {vs : List (Key × V)} {ds : List (Key × D)}, RepK K B ι vs ds → RepK K B' ι' vs ds
  | _, _, .nil => .nil
  | _, _, .cons h r => .cons (h.mono s p) (RepK.mono s p r)
theorem RepL.len : ∀ {vs : List V} {ds : List D}, RepL K B ι vs ds → vs.length = ds.length
  | _, _, .nil => rfl
  | _, _, .cons _ r => congrArg (· + 1) r.len
theorem RepL.get : ∀ {vs : List V} {ds : List D} {i : Nat} {d : D}, RepL K B ι vs ds → ds[i]? = some d → ∃ v, vs[i]? = some v ∧ Rep K B ι v d
  | _, _, _, _, .nil, e => by simp at e
  | _, _, 0, _, .cons r _, e => by
    simp at e
    subst e
    exact ⟨_, rfl, r⟩
  | _, _, i + 1, _, .cons _ t, e => by
    obtain ⟨v, h1, h2⟩ := RepL.get (i := i) t (by simpa using e)
    exact ⟨v, by simpa using h1, h2⟩
theorem RepL.append : ∀ {vs ws : List V} {ds es : List D}, RepL K B ι vs ds → RepL K B ι ws es → RepL K B ι (vs ++ ws) (ds ++ es)
  | _, _, _, _, .nil, s => s
  | _, _, _, _, .cons r t, s => .cons r (t.append s)
theorem RepL.take : ∀ {vs : List V} {ds : List D} (n : Nat), RepL K B ι vs ds → RepL K B ι (vs.take n) (ds.take n)
  | _, _, 0, _ => .nil
  | _, _, _ + 1, .nil => .nil
  | _, _, n + 1, .cons r t => .cons r (t.take n)
theorem RepL.drop : ∀ {vs : List V} {ds : List D} (n : Nat), RepL K B ι vs ds → RepL K B ι (vs.drop n) (ds.drop n)
  | _, _, 0, r => r
  | _, _, _ + 1, .nil => .nil
  | _, _, n + 1, .cons _ t => t.drop n
theorem RepL.set {v : V} {d : D} (r : Rep K B ι v d) : ∀ {vs : List V} {ds : List D} (i : Nat), RepL K B ι vs ds → RepL K B ι (vs.set i v) (ds.set i d)
  | _, _, _, .nil => .nil
  | _, _, 0, .cons _ t => .cons r t
  | _, _, i + 1, .cons q t => .cons q (RepL.set r i t)
theorem RepL.reverse : ∀ {vs : List V} {ds : List D}, RepL K B ι vs ds → RepL K B ι vs.reverse ds.reverse
  | _, _, .nil => .nil
  | _, _, .cons r t => by
    rw [List.reverse_cons, List.reverse_cons]
    exact t.reverse.append (.cons r .nil)
end
structure Wd where
  H : Hp
  B : Hp
  ι : List Addr
  P : Hp
/-- alive at a -/
def Live (W : Wd) (M : Mh) (n : Nat) (a : Addr) (o : MO) : Prop := W.ι[n]? = some a ∧ M[n]? = some o ∧ o ≠ .dead
/-- an exception that was caught and is kept -/
def ExV (C a : Addr) : HO := .ext fun h => ∃ (oe : Obj) (vs : Array Value), h.get? a = some oe ∧ Zc (.ref C) none oe ∧ oe.data = .fields vs
/-- a caught exception with its dict -/
def ExVD (C d a : Addr) : HO := .ext fun h => ∃ (oe : Obj) (vs : Array Value), h.get? a = some oe ∧ Zc (.ref C) (some d) oe ∧ oe.data = .fields vs
/-- an exception's fields -/
inductive RepF (K : PySem.W.Frag) (B : Hp) (ι : List Addr) : List (Str × V) → List (Str × D) → Prop
  | nil : RepF K B ι [] []
  | cons {f : Str} {v : V} {d : D} {vs : List (Str × V)} {ds : List (Str × D)} : Rep K B ι v d → RepF K B ι vs ds → RepF K B ι ((f, v) :: vs) ((f, d) :: ds)
theorem RepF.mono {K : PySem.W.Frag} {B B' : Hp} {ι ι' : List Addr} (s : ∀ b o, B b = some o → B' b = some o) (p : ∀ (n : Nat) (a : Addr), ι[n]? = some a → ι'[n]? = some a) : ∀ {vs : List (Str × V)} {ds : List (Str × D)}, RepF K B ι vs ds → RepF K B' ι' vs ds
  | _, _, .nil => .nil
  | _, _, .cons h r => .cons (h.mono s p) (r.mono s p)
theorem RepF.len {K : PySem.W.Frag} {B : Hp} {ι : List Addr} : ∀ {vs : List (Str × V)} {ds : List (Str × D)}, RepF K B ι vs ds → vs.length = ds.length
  | _, _, .nil => rfl
  | _, _, .cons _ r => congrArg (· + 1) r.len
theorem RepF.get {K : PySem.W.Frag} {B : Hp} {ι : List Addr} : ∀ {vs : List (Str × V)} {ds : List (Str × D)} {f : Str} {d : D}, RepF K B ι vs ds → ds.lookup f = some d → ∃ v, vs.lookup f = some v ∧ Rep K B ι v d
  | _, _, _, _, .nil, e => by simp at e
  | _, _, f, d, .cons (f := g) h r, e => by
    rw [List.lookup_cons] at e ⊢
    by_cases q : f == g
    · rw [q] at e ⊢
      cases e
      exact ⟨_, rfl, h⟩
    · have q' : (f == g) = false := by simpa using q
      rw [q'] at e ⊢
      exact r.get e
inductive RepC (K : PySem.W.Frag) (B : Hp) (ι : List Addr) : List (List Int × Addr × V) → List (List Int × D) → Prop
  | nil : RepC K B ι [] []
  | cons {k : List Int} {b : Addr} {v : V} {d : D} {vs : List (List Int × Addr × V)} {ds : List (List Int × D)} : SqT K B b (k.map V.int) → Rep K B ι v d → RepC K B ι vs ds → RepC K B ι ((k, b, v) :: vs) ((k, d) :: ds)
theorem RepC.mono {K : PySem.W.Frag} {B B' : Hp} {ι ι' : List Addr} (s : ∀ b o, B b = some o → B' b = some o) (p : ∀ (n : Nat) (a : Addr), ι[n]? = some a → ι'[n]? = some a) : ∀ {vs : List (List Int × Addr × V)} {ds : List (List Int × D)}, RepC K B ι vs ds → RepC K B' ι' vs ds
  | _, _, .nil => .nil
  | _, _, .cons h g r => .cons (sqT_mono s h) (g.mono s p) (r.mono s p)
inductive RepO (K : PySem.W.Frag) (B : Hp) (ι : List Addr) (a : Addr) : HO → MO → Prop
  | lst {vs : List V} {ds : List D} : RepL K B ι vs ds → RepO K B ι a (.lst vs) (.lst ds)
  | dic {vs : List (Key × V)} {ds : List (Key × D)} : RepK K B ι vs ds → RepO K B ι a (.dK vs) (.dic ds)
  | exc {C : Addr} : ExcC K C → RepO K B ι a (ExV C a) (.exc C)
  | exo {C : Addr} : RepO K B ι a (exo a C none) (.exo C none)
  | exoD {C d : Addr} {m : Nat} : ι[m]? = some d → RepO K B ι a (exo a C (some d)) (.exo C (some m))
  | exd {fs : List (Str × V)} {ds : List (Str × D)} : RepF K B ι fs ds → RepO K B ι a (exd a fs) (.exd ds)
  | exn {C : Addr} : RepO K B ι a (ExO (.ref C) a) (.exn C)
  | exg {fs : List (Str × V)} {ds : List (Str × D)} : RepF K B ι fs ds → RepO K B ι a (.xd fs) (.exg ds)
  | exf {C d : Addr} {m : Nat} : ExcC K C → ι[m]? = some d → RepO K B ι a (ExVD C d a) (.exf C m)
  | tab {q : Str} {ps : Array Value} : PySem.TriplesOk ps.toList → (∀ (pos : Pos) (cv : Value), PySem.codeAmong pos ps.toList = some cv → ∃ c, cv = .ref c ∧ B c = some (LamX.CodeO c q)) → RepO K B ι a (.tbl ps) (.tab a q)
  | dct {vs : List (List Int × Addr × V)} {ds : List (List Int × D)} : RepC K B ι vs ds → RepO K B ι a (DCL a vs) (.dct ds)
  | ins {C dx : Addr} {fs : List (Str × V)} {ds : List (Str × D)} : B dx = some (.own a) → RepF K B ι fs ds → RepO K B ι a (.ins C dx fs) (.ins C ds)
theorem RepO.mono {K : PySem.W.Frag} {B B' : Hp} {ι ι' : List Addr} (s : ∀ b o, B b = some o → B' b = some o) (p : ∀ (n : Nat) (a : Addr), ι[n]? = some a → ι'[n]? = some a) {a : Addr} {o : HO} {m : MO} : RepO K B ι a o m → RepO K B' ι' a o m
  | .lst r => .lst (r.mono s p)
  | .dic r => .dic (r.mono s p)
  | .exc h => .exc h
  | .exo => .exo
  | .exoD h => .exoD (p _ _ h)
  | .exd r => .exd (r.mono s p)
  | .exn => .exn
  | .exf h q => .exf h (p _ _ q)
  | .tab h q => .tab h fun pos cv e => by
    obtain ⟨c, e1, e2⟩ := q pos cv e
    exact ⟨c, e1, s _ _ e2⟩
  | .exg r => .exg (r.mono s p)
  | .dct r => .dct (r.mono s p)
  | .ins h r => .ins (s _ _ h) (r.mono s p)
structure Wd.Ok (K : PySem.W.Frag) (W : Wd) (M : Mh) : Prop where
  sub : ∀ a o, W.B a = some o → W.H a = some o
  pin : ∀ a o, W.P a = some o → W.H a = some o ∧ W.B a = none
  len : W.ι.length = M.length
  live : ∀ n a o, Live W M n a o → W.B a = none ∧ W.P a = none ∧ ∃ h, W.H a = some h ∧ RepO K W.B W.ι a h o
  inj : ∀ n m a o u, Live W M n a o → Live W M m a u → n = m
structure Wd.Le (W W' : Wd) : Prop where
  same : ∀ b o, W.B b = some o → W'.B b = some o
  pre : ∃ l, W'.ι = W.ι ++ l
  pp : W'.P = W.P
theorem Wd.Le.refl (W : Wd) : W.Le W := ⟨fun _ _ h => h, ⟨[], by simp⟩, rfl⟩
theorem Wd.Le.trans {W W1 W2 : Wd} (a : W.Le W1) (b : W1.Le W2) : W.Le W2 := by
  obtain ⟨l, hl⟩ := a.pre
  obtain ⟨m, hm⟩ := b.pre
  exact ⟨fun c o h => b.same c o (a.same c o h), ⟨l ++ m, by rw [hm, hl, List.append_assoc]⟩, b.pp.trans a.pp⟩
theorem Wd.Le.ix {W W' : Wd} (a : W.Le W') : ∀ (n : Nat) (c : Addr), W.ι[n]? = some c → W'.ι[n]? = some c := fun n c h => by
  obtain ⟨l, hl⟩ := a.pre
  rw [hl, List.getElem?_append_left (List.getElem?_eq_some_iff.mp h).1]
  exact h
theorem Rep.le {K : PySem.W.Frag} {W W' : Wd} (a : W.Le W') {v : V} {d : D} (r : Rep K W.B W.ι v d) : Rep K W'.B W'.ι v d := r.mono a.same a.ix
theorem RepL.le {K : PySem.W.Frag} {W W' : Wd} (a : W.Le W') {v : List V} {d : List D} (r : RepL K W.B W.ι v d) : RepL K W'.B W'.ι v d := r.mono a.same a.ix
/-- the same, whatever is held -/
structure Wd.Lo (W W' : Wd) : Prop where
  same : ∀ b o, W.B b = some o → W'.B b = some o
  pre : ∃ l, W'.ι = W.ι ++ l
theorem Wd.Le.lo {W W' : Wd} (a : W.Le W') : W.Lo W' := ⟨a.same, a.pre⟩
theorem Wd.Lo.ix {W W' : Wd} (a : W.Lo W') : ∀ (n : Nat) (c : Addr), W.ι[n]? = some c → W'.ι[n]? = some c := fun n c h => by
  obtain ⟨l, hl⟩ := a.pre
  rw [hl, List.getElem?_append_left (List.getElem?_eq_some_iff.mp h).1]
  exact h
/-- the slots -/
structure Slots (K : PySem.W.Frag) (W : Wd) (σ : St) (δ : Env) : Prop where
  len : σ.length = δ.length
  at_ : ∀ (i : Nat) (d : D), δ[i]? = some (some d) → ∃ v, σ[i]? = some (some v) ∧ Rep K W.B W.ι v d
theorem Slots.le {K : PySem.W.Frag} {W W' : Wd} (a : W.Le W') {σ : St} {δ : Env} (s : Slots K W σ δ) : Slots K W' σ δ :=
  ⟨s.len, fun i d h => by
    obtain ⟨v, h1, h2⟩ := s.at_ i d h
    exact ⟨v, h1, h2.le a⟩⟩
theorem Slots.set {K : PySem.W.Frag} {W : Wd} {σ : St} {δ : Env} {v : V} {d : D} (s : Slots K W σ δ) (r : Rep K W.B W.ι v d) (i : Nat) : Slots K W (σ.set i (some v)) (δ.set i (some d)) :=
  ⟨by rw [List.length_set, List.length_set]; exact s.len, fun j e h => by
    rw [List.getElem?_set] at h
    rw [List.getElem?_set]
    by_cases hij : i = j
    · subst hij
      rw [if_pos rfl] at h
      rw [if_pos rfl]
      by_cases hl : i < δ.length
      · rw [if_pos hl] at h
        rw [if_pos (by rw [s.len]; exact hl)]
        cases h
        exact ⟨v, rfl, r⟩
      · rw [if_neg hl] at h
        cases h
    · rw [if_neg hij] at h
      rw [if_neg hij]
      exact s.at_ j e h⟩
section
variable {K : PySem.W.Frag} {W : Wd} {M : Mh} {p : Addr} {o : HO}
def Wd.lay (W : Wd) (p : Addr) (o : HO) : Wd := ⟨upd W.H p o, upd W.B p o, W.ι, W.P⟩
theorem updk {H : Hp} {p : Addr} {o : HO} (h : H p = none) : ∀ b u, H b = some u → upd H p o b = some u := fun b u e => by
  rw [upd_ne (ne_of_none e h)]
  exact e
theorem Wd.Ok.bnone (w : W.Ok K M) (hp : W.H p = none) : W.B p = none := by
  cases e : W.B p with
  | none => rfl
  | some u =>
    have := w.sub p u e
    rw [hp] at this
    cases this
theorem Wd.Ok.pnone (w : W.Ok K M) (hp : W.H p = none) : W.P p = none := by
  cases e : W.P p with
  | none => rfl
  | some u =>
    have := (w.pin p u e).1
    rw [hp] at this
    cases this
theorem Wd.lay_le (w : W.Ok K M) (hp : W.H p = none) : W.Le (W.lay p o) := ⟨updk (w.bnone hp), ⟨[], by simp [Wd.lay]⟩, rfl⟩
theorem Wd.lay_ok (w : W.Ok K M) (hp : W.H p = none) : (W.lay p o).Ok K M := by
  have lv : ∀ n a u, Live (W.lay p o) M n a u → Live W M n a u := fun n a u h => h
  have ne : ∀ {n a u}, Live W M n a u → a ≠ p := fun {n a u} h e => by
    obtain ⟨_, _, k, hk, _⟩ := w.live n a u h
    rw [e, hp] at hk
    cases hk
  refine ⟨fun a u h => ?_, fun a u h => ?_, w.len, fun n a u h => ?_, fun n m a u v h k => w.inj n m a u v (lv _ _ _ h) (lv _ _ _ k)⟩
  · by_cases e : a = p
    · subst e
      show upd W.H a o a = _
      have h' : upd W.B a o a = some u := h
      rw [upd_same] at h' ⊢
      exact h'
    · show upd W.H p o a = _
      have h' : upd W.B p o a = some u := h
      rw [upd_ne e] at h' ⊢
      exact w.sub a u h'
  · have q := w.pin a u h
    have e : a ≠ p := fun e => by
      rw [e, hp] at q
      cases q.1
    exact ⟨(upd_ne e).trans q.1, (upd_ne e).trans q.2⟩
  · obtain ⟨h1, h2, k, h3, h4⟩ := w.live n a u (lv _ _ _ h)
    have e := ne (lv _ _ _ h)
    exact ⟨(upd_ne e).trans h1, h2, k, (upd_ne e).trans h3, h4.mono (updk (w.bnone hp)) fun _ _ q => q⟩
/-- a new thing of the store -/
def Wd.new (W : Wd) (p : Addr) (o : HO) : Wd := ⟨upd W.H p o, W.B, W.ι ++ [p], W.P⟩
theorem Wd.new_le : W.Le (W.new p o) := ⟨fun _ _ h => h, ⟨[p], rfl⟩, rfl⟩
theorem Wd.new_ok {m : MO} (w : W.Ok K M) (hp : W.H p = none) (r : RepO K W.B W.ι p o m) : (W.new p o).Ok K (M ++ [m]) := by
  have lv : ∀ n a u, Live (W.new p o) (M ++ [m]) n a u → Live W M n a u ∨ (n = M.length ∧ a = p ∧ u = m) := fun n a u h => by
    obtain ⟨h1, h2, h3⟩ := h
    have h1' : (W.ι ++ [p])[n]? = some a := h1
    by_cases hn : n < M.length
    · rw [List.getElem?_append_left (by rw [w.len]; exact hn)] at h1'
      rw [List.getElem?_append_left hn] at h2
      exact .inl ⟨h1', h2, h3⟩
    · have e : n = M.length := by
        have := (List.getElem?_eq_some_iff.mp h2).1
        rw [List.length_append] at this
        simp at this
        omega
      subst e
      rw [List.getElem?_append_right (by rw [w.len]; exact Nat.le_refl _), w.len] at h1'
      rw [List.getElem?_append_right (Nat.le_refl _)] at h2
      simp at h1' h2
      exact .inr ⟨rfl, h1'.symm, h2.symm⟩
  have ne : ∀ {n a u}, Live W M n a u → a ≠ p := fun {n a u} h e => by
    obtain ⟨_, _, k, hk, _⟩ := w.live n a u h
    rw [e, hp] at hk
    cases hk
  have ln : ∀ {n a u}, Live W M n a u → n < M.length := fun {n a u} h => (List.getElem?_eq_some_iff.mp h.2.1).1
  refine ⟨fun a u h => ?_, fun a u h => ?_, ?_, fun n a u h => ?_, fun n k a u v h g => ?_⟩
  · exact (upd_ne (fun e => by
      rw [e] at h
      have := w.bnone hp
      rw [show (W.new p o).B p = W.B p from rfl, this] at h
      cases h)).trans (w.sub a u h)
  · have q := w.pin a u h
    have e : a ≠ p := fun e => by
      rw [e, hp] at q
      cases q.1
    exact ⟨(upd_ne e).trans q.1, q.2⟩
  · show (W.ι ++ [p]).length = _
    simp [w.len]
  · rcases lv n a u h with h | ⟨_, rfl, rfl⟩
    · obtain ⟨h1, h2, k, h3, h4⟩ := w.live n a u h
      exact ⟨h1, h2, k, (upd_ne (ne h)).trans h3, h4.mono (fun _ _ q => q) Wd.new_le.ix⟩
    · exact ⟨w.bnone hp, w.pnone hp, o, upd_same, r.mono (fun _ _ q => q) Wd.new_le.ix⟩
  · rcases lv n a u h with h | ⟨h1, h2, h3⟩
    · rcases lv k a v g with g | ⟨g1, g2, g3⟩
      · exact w.inj n k a u v h g
      · exact absurd g2 (ne h)
    · rcases lv k a v g with g | ⟨g1, g2, g3⟩
      · exact absurd h2 (ne g)
      · omega
/-- a thing of the store changed -/
def Wd.put (W : Wd) (p : Addr) (o : HO) : Wd := ⟨upd W.H p o, W.B, W.ι, W.P⟩
theorem Wd.put_le : W.Le (W.put p o) := ⟨fun _ _ h => h, ⟨[], by simp [Wd.put]⟩, rfl⟩
theorem Wd.put_ok {n : Nat} {m m' : MO} (w : W.Ok K M) (lv0 : Live W M n p m) (r : RepO K W.B W.ι p o m') : (W.put p o).Ok K (M.set n m') := by
  have hn : n < M.length := (List.getElem?_eq_some_iff.mp lv0.2.1).1
  have lv : ∀ k a u, Live (W.put p o) (M.set n m') k a u → (k = n ∧ a = p ∧ u = m') ∨ (k ≠ n ∧ Live W M k a u) := fun k a u h => by
    obtain ⟨h1, h2, h3⟩ := h
    by_cases e : n = k
    · subst e
      rw [List.getElem?_set_self hn] at h2
      have e1 : some a = some p := (show W.ι[n]? = some a from h1).symm.trans lv0.1
      cases e1
      cases h2
      exact .inl ⟨rfl, rfl, rfl⟩
    · rw [List.getElem?_set_ne e] at h2
      exact .inr ⟨fun z => e z.symm, h1, h2, h3⟩
  have ne : ∀ {k a u}, k ≠ n → Live W M k a u → a ≠ p := fun {k a u} hk h e => by
    subst e
    exact hk (w.inj _ _ _ _ _ h lv0)
  obtain ⟨b0, p0, _⟩ := w.live n p m lv0
  refine ⟨fun a u h => ?_, fun a u h => ?_, ?_, fun k a u h => ?_, fun k j a u v h g => ?_⟩
  · exact (upd_ne (fun e => by
      rw [e] at h
      rw [show (W.put p o).B p = W.B p from rfl, b0] at h
      cases h)).trans (w.sub a u h)
  · have e : a ≠ p := fun e => by
      rw [e] at h
      rw [show (W.put p o).P p = W.P p from rfl, p0] at h
      cases h
    have q := w.pin a u h
    exact ⟨(upd_ne e).trans q.1, q.2⟩
  · show W.ι.length = _
    rw [List.length_set]
    exact w.len
  · rcases lv k a u h with ⟨rfl, rfl, rfl⟩ | ⟨hk, h⟩
    · exact ⟨b0, p0, o, upd_same, r⟩
    · obtain ⟨h1, h2, g, h3, h4⟩ := w.live k a u h
      exact ⟨h1, h2, g, (upd_ne (ne hk h)).trans h3, h4⟩
  · rcases lv k a u h with ⟨rfl, rfl, rfl⟩ | ⟨hk, h2⟩
    · rcases lv j a v g with ⟨rfl, _, _⟩ | ⟨hj, g⟩
      · rfl
      · exact absurd rfl (ne hj g)
    · rcases lv j a v g with ⟨_, e2, _⟩ | ⟨hj, g⟩
      · exact absurd e2 (ne hk h2)
      · exact w.inj _ _ _ _ _ h2 g
/-- a list of the store stands still from here on -/
def Wd.frz (W : Wd) (p : Addr) (o : HO) : Wd := ⟨W.H, upd W.B p o, W.ι, W.P⟩
theorem Wd.frz_le {n : Nat} {m : MO} (w : W.Ok K M) (lv0 : Live W M n p m) : W.Le (W.frz p o) := ⟨updk (w.live n p m lv0).1, ⟨[], by simp [Wd.frz]⟩, rfl⟩
theorem Wd.frz_ok {n : Nat} {m : MO} (w : W.Ok K M) (lv0 : Live W M n p m) (ho : W.H p = some o) : (W.frz p o).Ok K (M.set n .dead) := by
  have hn : n < M.length := (List.getElem?_eq_some_iff.mp lv0.2.1).1
  have lv : ∀ k a u, Live (W.frz p o) (M.set n .dead) k a u → k ≠ n ∧ Live W M k a u := fun k a u h => by
    obtain ⟨h1, h2, h3⟩ := h
    by_cases e : n = k
    · subst e
      rw [List.getElem?_set_self hn] at h2
      cases h2
      exact absurd rfl h3
    · rw [List.getElem?_set_ne e] at h2
      exact ⟨fun z => e z.symm, h1, h2, h3⟩
  have ne : ∀ {k a u}, k ≠ n → Live W M k a u → a ≠ p := fun {k a u} hk h e => by
    subst e
    exact hk (w.inj _ _ _ _ _ h lv0)
  obtain ⟨b0, p0, _⟩ := w.live n p m lv0
  refine ⟨fun a u h => ?_, fun a u h => ?_, ?_, fun k a u h => ?_, fun k j a u v h g => ?_⟩
  · by_cases e : a = p
    · subst e
      have h' : upd W.B a o a = some u := h
      rw [upd_same] at h'
      cases h'
      exact ho
    · have h' : upd W.B p o a = some u := h
      rw [upd_ne e] at h'
      exact w.sub a u h'
  · have q := w.pin a u h
    have e : a ≠ p := fun e => by
      rw [e] at h
      rw [show (W.frz p o).P p = W.P p from rfl, p0] at h
      cases h
    exact ⟨q.1, (upd_ne e).trans q.2⟩
  · show W.ι.length = _
    rw [List.length_set]
    exact w.len
  · obtain ⟨hk, h⟩ := lv k a u h
    obtain ⟨h1, h2, g, h3, h4⟩ := w.live k a u h
    exact ⟨(upd_ne (ne hk h)).trans h1, h2, g, h3, h4.mono (updk b0) fun _ _ q => q⟩
  · exact w.inj _ _ _ _ _ (lv k a u h).2 (lv j a v g).2
/-- something of another's, while it is looked at -/
def Wd.hold (W : Wd) (p : Addr) (o : HO) : Wd := ⟨upd W.H p o, W.B, W.ι, upd W.P p o⟩
theorem Wd.hold_ok (w : W.Ok K M) (hp : W.H p = none) : (W.hold p o).Ok K M := by
  have ne : ∀ {n a u}, Live W M n a u → a ≠ p := fun {n a u} h e => by
    obtain ⟨_, _, k, hk, _⟩ := w.live n a u h
    rw [e, hp] at hk
    cases hk
  refine ⟨fun a u h => ?_, fun a u h => ?_, w.len, fun n a u h => ?_, fun n m a u v h k => w.inj n m a u v h k⟩
  · exact (upd_ne (fun e => by
      rw [e] at h
      have := w.bnone hp
      rw [show (W.hold p o).B p = W.B p from rfl, this] at h
      cases h)).trans (w.sub a u h)
  · by_cases e : a = p
    · subst e
      have h' : upd W.P a o a = some u := h
      rw [upd_same] at h'
      exact ⟨upd_same.trans h', w.bnone hp⟩
    · have h' : upd W.P p o a = some u := h
      rw [upd_ne e] at h'
      have q := w.pin a u h'
      exact ⟨(upd_ne e).trans q.1, q.2⟩
  · obtain ⟨h1, h2, k, h3, h4⟩ := w.live n a u h
    exact ⟨h1, (upd_ne (ne h)).trans h2, k, (upd_ne (ne h)).trans h3, h4⟩
end
end Pl
namespace Pl
open PySem L2
theorem ifF {A B : Prop} (h : B) : if false = true then A else B := by
  rw [if_neg Bool.false_ne_true]
  exact h
theorem ifT {A B : Prop} (h : A) : if true = true then A else B := by
  rw [if_pos rfl]
  exact h
abbrev EF := Env → Mh → Option (D × Mh)
abbrev TF := Env → Mh → Option (Bool × Mh)
abbrev AF := Env → Mh → Option (List D × Mh)
abbrev GF := D → Env → Option Env
inductive Out where
  | nx (δ : Env) (M : Mh) | rt (d : D) (M : Mh) | bk (δ : Env) (M : Mh) | ct (δ : Env) (M : Mh)
abbrev SF := Env → Mh → Option Out
abbrev Fn := List D → Mh → Option (D × Mh)
/-- what is wanted of a value d behind, the store M' -/
def VR (K : PySem.W.Frag) (W : Wd) (d : D) (M' : Mh) (Q : VK) : Prop := ∀ v W', W.Le W' → W'.Ok K M' → Rep K W'.B W'.ι v d → Q v W'.H
def VRL (K : PySem.W.Frag) (W : Wd) (d : List D) (M' : Mh) (Q : List V → Hp → Prop) : Prop := ∀ v W', W.Le W' → W'.Ok K M' → RepL K W'.B W'.ι v d → Q v W'.H
theorem VR.le {K : PySem.W.Frag} {W W1 : Wd} {d : D} {M' : Mh} {Q : VK} (h : VR K W d M' Q) (l : W.Le W1) : VR K W1 d M' Q := fun v W' a o r => h v W' (l.trans a) o r
def ER (K : PySem.W.Frag) (t : TE) (f : EF) : Prop := ∀ (σ : St) (W : Wd) (δ : Env) (M : Mh) (d : D) (M' : Mh) (Q : VK), W.Ok K M → Slots K W σ δ → f δ M = some (d, M') → VR K W d M' Q → t σ W.H Q
def AR (K : PySem.W.Frag) (t : TA) (f : AF) : Prop := ∀ (σ : St) (W : Wd) (δ : Env) (M : Mh) (d : List D) (M' : Mh) (Q : List V → Hp → Prop), W.Ok K M → Slots K W σ δ → f δ M = some (d, M') → VRL K W d M' Q → t σ W.H Q
def TR (K : PySem.W.Frag) (t : TT) (f : TF) : Prop := ∀ (σ : St) (W : Wd) (δ : Env) (M : Mh) (b : Bool) (M' : Mh) (Q : Bool → Hp → Prop), W.Ok K M → Slots K W σ δ → f δ M = some (b, M') → (∀ W', W.Le W' → W'.Ok K M' → Q b W'.H) → t σ W.H Q
/-- what is wanted behind a statement -/
def Post (K : PySem.W.Frag) (E : Ends) (W : Wd) : Out → Prop
  | .nx δ M => ∀ σ W', W.Le W' → W'.Ok K M → Slots K W' σ δ → E.nx σ W'.H
  | .bk δ M => ∀ σ W', W.Le W' → W'.Ok K M → Slots K W' σ δ → E.bk σ W'.H
  | .ct δ M => ∀ σ W', W.Le W' → W'.Ok K M → Slots K W' σ δ → E.ct σ W'.H
  | .rt d M => VR K W d M E.rt
theorem Post.le {K : PySem.W.Frag} {E : Ends} {W W1 : Wd} {o : Out} (l : W.Le W1) (h : Post K E W o) : Post K E W1 o := by
  cases o with
  | nx δ M => exact fun σ W' a b c => h σ W' (l.trans a) b c
  | bk δ M => exact fun σ W' a b c => h σ W' (l.trans a) b c
  | ct δ M => exact fun σ W' a b c => h σ W' (l.trans a) b c
  | rt d M => exact fun v W' a b c => h v W' (l.trans a) b c
def SR (K : PySem.W.Frag) (t : TS) (f : SF) : Prop := ∀ (σ : St) (W : Wd) (δ : Env) (M : Mh) (o : Out) (E : Ends), W.Ok K M → Slots K W σ δ → f δ M = some o → Post K E W o → t E σ W.H
section
variable {I : Type}
structure DE (X : I → Cx) (K : PySem.W.Frag) (e : Expr) (f : EF) : Prop where
  go : ∃ t : TE, (∀ i, PE (X i) e t) ∧ ER K t f
structure DA (X : I → Cx) (K : PySem.W.Frag) (es : List Expr) (f : AF) : Prop where
  go : ∃ t : TA, (∀ i, PA (X i) es t) ∧ AR K t f
structure DT (X : I → Cx) (K : PySem.W.Frag) (e : Expr) (f : TF) : Prop where
  go : ∃ t : TT, (∀ i, PT (X i) e t) ∧ TR K t f
structure DW (X : I → Cx) (K : PySem.W.Frag) (e : Expr) (f : TF) : Prop where
  go : ∃ t : TT, (∀ i, PW (X i) e t) ∧ TR K t f
structure DS (X : I → Cx) (K : PySem.W.Frag) (s : Stmt) (f : SF) : Prop where
  go : ∃ t : TS, (∀ i, PS (X i) s t) ∧ SR K t f
structure DB (X : I → Cx) (K : PySem.W.Frag) (s : List Stmt) (f : SF) : Prop where
  go : ∃ t : TS, (∀ i, PSs (X i) s t) ∧ SR K t f
/-- a comparison: both as a value and as a test -/
structure DC (X : I → Cx) (K : PySem.W.Frag) (e : Expr) (f : EF) : Prop where
  go : ∃ t : TE, (∀ i, PE (X i) e t) ∧ (∀ i, PT (X i) e (tTest t)) ∧ ER K t f
/-- what all contexts of the family have in common -/
structure Ctx (X : I → Cx) (P : Program) (w : World) (K : PySem.W.Frag) (mg : Str → Option Value) (base : Heap) (k : Nat) : Prop where
  prog : ∀ i, (X i).prog = P
  wd : ∀ i, (X i).w = w
  K : ∀ i, (X i).K = K
  mg : ∀ i, (X i).mg = mg
  base : ∀ i, (X i).base = base
  room : ∀ i, Room k (X i).A
  grd : ∀ i, (X i).A.guards = some []
  calm : ∀ i, (X i).calm = true
variable {X : I → Cx} {P : Program} {w : World} {K : PySem.W.Frag} {mg : Str → Option Value} {base : Heap} {k : Nat}
def eVar (i : Nat) : EF := fun δ M => match δ[i]? with
  | some (some d) => some (d, M)
  | _ => none
theorem DE.var (j : Nat) {x : Str} {pos : Pos} (hN : ∀ i, (X i).N[j]? = some x := by intro _; rfl) (hv : ∀ i, Vis (X i).env.scope x := by intro _; first | exact Or.inl rfl | exact Or.inr (Or.inl rfl) | exact Or.inr (Or.inr rfl)) (hd : (x == ("__debug__" : Str)) = false := by decide)
    (hcd : (x == ("__classdict__" : Str)) = false := by decide) : DE X K (.Name x pos) (eVar j) := by
  refine ⟨tVar j, fun i => pe_var (hN i) (hv i) hd hcd, fun σ W δ M d M' Q w s e q => ?_⟩
  unfold eVar at e
  split at e
  · rename_i d' h
    cases e
    obtain ⟨v, h1, h2⟩ := s.at_ _ _ h
    exact ⟨v, h1, q v W (.refl W) w h2⟩
  · cases e
def eC (d : D) : EF := fun _ M => some (d, M)
theorem er_c {v : V} {d : D} (r : ∀ B ι, Rep K B ι v d) : ER K (tC v) (eC d) := fun σ W δ M d' M' Q w s e q => by
  cases e
  exact q v W (.refl W) w (r _ _)
theorem DE.int {n : Int} {j pos} : DE X K (.Constant (.int n) j pos) (eC (.int n)) := ⟨_, fun i => pe_int, er_c fun _ _ => .int n⟩
theorem DE.bool {b : Bool} {j pos} : DE X K (.Constant (.bool b) j pos) (eC (.bl b)) := ⟨_, fun i => pe_bl, er_c fun _ _ => .bl b⟩
theorem DE.non {j pos} : DE X K (.Constant .none j pos) (eC .non) := ⟨_, fun i => pe_non, er_c fun _ _ => .non⟩
theorem DE.str {x : Str} {j pos} : DE X K (.Constant (.str x) j pos) (eC (.str x)) := ⟨_, fun i => pe_str, er_c fun _ _ => .str x⟩
/-- a name of the module -/
theorem DE.glob (c : Ctx X P w K mg base k) {x : Str} {pos : Pos} {v : V} {u : Value} {d : D} (hm : mg x = some u) (r : RelV v u) (q : ∀ B ι, Rep K B ι v d) (hg : ∀ i, Gl (X i) x := by intro _; rfl)
    (hd : (x == ("__debug__" : Str)) = false := by decide) : DE X K (.Name x pos) (eC d) :=
  ⟨_, fun i => pe_glob (hg i) (by rw [c.mg i]; exact hm) r (hd := hd), er_c q⟩
/-- a built-in's name, not called -/
theorem DE.bltn (c : Ctx X P w K mg base k) {x : Str} {pos : Pos} {v : V} {u : Value} {d : D} (hm : mg x = none) (hv : bootBuiltins x = some u) (r : RelV v u) (q : ∀ B ι, Rep K B ι v d) (hg : ∀ i, Gl (X i) x := by intro _; rfl)
    (hn : x ≠ "__name__" := by decide) (hd : (x == ("__debug__" : Str)) = false := by decide) : DE X K (.Name x pos) (eC d) :=
  ⟨_, fun i => pe_bltn (hg i) (by rw [c.mg i]; exact hm) hv r (hn := hn) (hd := hd), er_c q⟩
def aNil : AF := fun _ M => some ([], M)
def aCons (f : EF) (g : AF) : AF := fun δ M => match f δ M with
  | some (d, M1) => (match g δ M1 with
    | some (ds, M2) => some (d :: ds, M2)
    | none => none)
  | none => none
theorem DA.nil : DA X K [] aNil := ⟨tNil, fun i => pa_nil, fun σ W δ M d M' Q w s e q => by
  cases e
  exact q [] W (.refl W) w .nil⟩
theorem DA.cons {e : Expr} {es : List Expr} {f : EF} {g : AF} (a : DE X K e f) (b : DA X K es g) (he : ∀ i, starEach (e :: es) (X i).env = (false, eval e (X i).env) :: starEach es (X i).env := by intro _; rfl) : DA X K (e :: es) (aCons f g) := by
  obtain ⟨ta, pa, ra⟩ := a.go
  obtain ⟨tb, pb, rb⟩ := b.go
  refine ⟨tCons ta tb, fun i => pa_cons (pa i) (pb i) (he i), fun σ W δ M d M' Q w s e q => ?_⟩
  unfold aCons at e
  split at e
  · rename_i d1 M1 h1
    split at e
    · rename_i ds M2 h2
      cases e
      refine ra σ W δ M d1 M1 _ w s h1 fun v W1 l1 w1 r1 => ?_
      refine rb σ W1 δ M1 ds _ _ w1 (s.le l1) h2 fun vs W2 l2 w2 r2 => ?_
      exact q _ W2 (l1.trans l2) w2 (.cons (r1.le l2) r2)
    · cases e
  · cases e
def eTup (g : AF) : EF := fun δ M => match g δ M with
  | some (ds, M1) => if ds.length ≤ sizeLine then some (.tup ds, M1) else none
  | none => none
def eLst (g : AF) : EF := fun δ M => match g δ M with
  | some (ds, M1) => if ds.length ≤ sizeLine then some (.lst ds, M1) else none
  | none => none
/-- a new list of the store -/
def eNew (g : AF) : EF := fun δ M => match g δ M with
  | some (ds, M1) => if ds.length ≤ sizeLine then some (.ref M1.length, M1 ++ [.lst ds]) else none
  | none => none
theorem lay_tup {W : Wd} {M : Mh} {p : Addr} {vs : List V} {ds : List D} (w : W.Ok K M) (hp : W.H p = none) (r : RepL K W.B W.ι vs ds) :
    W.Le (W.lay p (.tup vs)) ∧ (W.lay p (.tup vs)).Ok K M ∧ Rep K (W.lay p (.tup vs)).B (W.lay p (.tup vs)).ι (.ref p) (.tup ds) :=
  ⟨Wd.lay_le w hp, Wd.lay_ok w hp, .tup (.inl (.inl upd_same)) (r.le (Wd.lay_le w hp))⟩
theorem lay_lst {W : Wd} {M : Mh} {p : Addr} {vs : List V} {ds : List D} (w : W.Ok K M) (hp : W.H p = none) (r : RepL K W.B W.ι vs ds) :
    W.Le (W.lay p (.lst vs)) ∧ (W.lay p (.lst vs)).Ok K M ∧ Rep K (W.lay p (.lst vs)).B (W.lay p (.lst vs)).ι (.ref p) (.lst ds) :=
  ⟨Wd.lay_le w hp, Wd.lay_ok w hp, .lst upd_same (r.le (Wd.lay_le w hp))⟩
theorem new_lst {W : Wd} {M : Mh} {p : Addr} {vs : List V} {ds : List D} (w : W.Ok K M) (hp : W.H p = none) (r : RepL K W.B W.ι vs ds) :
    W.Le (W.new p (.lst vs)) ∧ (W.new p (.lst vs)).Ok K (M ++ [.lst ds]) ∧ Rep K (W.new p (.lst vs)).B (W.new p (.lst vs)).ι (.ref p) (.ref M.length) :=
  ⟨Wd.new_le, Wd.new_ok w hp (.lst r), .ref (by
    show (W.ι ++ [p])[M.length]? = some p
    rw [← w.len]
    simp)⟩
theorem DE.tup {es : List Expr} {j pos} {g : AF} (a : DA X K es g) (hpl : ∀ i, (backTo pos (starEach es (X i).env)).any (·.1) = false := by intro _; rfl) : DE X K (.Tuple es j pos) (eTup g) := by
  obtain ⟨ta, pa, ra⟩ := a.go
  refine ⟨tTup ta, fun i => pe_tup (pa i), fun σ W δ M d M' Q w s e q => ?_⟩
  unfold eTup at e
  split at e
  · rename_i ds M1 h1
    split at e
    · rename_i hl
      cases e
      refine ra σ W δ M ds _ _ w s h1 fun vs W1 l1 w1 r1 => ⟨by rw [r1.len]; exact hl, fun p hp => ?_⟩
      obtain ⟨l2, w2, r2⟩ := lay_tup w1 hp r1
      exact q _ _ (l1.trans l2) w2 r2
    · cases e
  · cases e
theorem DE.lst {es : List Expr} {pos} {g : AF} (a : DA X K es g) : DE X K (.List es pos) (eLst g) := by
  obtain ⟨ta, pa, ra⟩ := a.go
  refine ⟨tLst ta, fun i => pe_lst (pa i), fun σ W δ M d M' Q w s e q => ?_⟩
  unfold eLst at e
  split at e
  · rename_i ds M1 h1
    split at e
    · rename_i hl
      cases e
      refine ra σ W δ M ds _ _ w s h1 fun vs W1 l1 w1 r1 => ⟨by rw [r1.len]; exact hl, fun p hp => ?_⟩
      obtain ⟨l2, w2, r2⟩ := lay_lst w1 hp r1
      exact q _ _ (l1.trans l2) w2 r2
    · cases e
  · cases e
theorem DE.new {es : List Expr} {pos} {g : AF} (a : DA X K es g) : DE X K (.List es pos) (eNew g) := by
  obtain ⟨ta, pa, ra⟩ := a.go
  refine ⟨tLst ta, fun i => pe_lst (pa i), fun σ W δ M d M' Q w s e q => ?_⟩
  unfold eNew at e
  split at e
  · rename_i ds M1 h1
    split at e
    · rename_i hl
      cases e
      refine ra σ W δ M ds _ _ w s h1 fun vs W1 l1 w1 r1 => ⟨by rw [r1.len]; exact hl, fun p hp => ?_⟩
      obtain ⟨l2, w2, r2⟩ := new_lst w1 hp r1
      exact q _ _ (l1.trans l2) w2 r2
    · cases e
  · cases e
abbrev O1 := D → Mh → Option (D × Mh)
abbrev O2 := D → D → Mh → Option (D × Mh)
def OD (K : PySem.W.Frag) (r : R2) (g : O2) : Prop := ∀ (W : Wd) (M : Mh) (x y : V) (a b : D) (z : D) (M' : Mh) (Q : VK), W.Ok K M → Rep K W.B W.ι x a → Rep K W.B W.ι y b → g a b M = some (z, M') → VR K W z M' Q → r x y W.H Q
def eOp (g : O2) (fa fb : EF) : EF := fun δ M => match fa δ M with
  | some (a, M1) => (match fb δ M1 with
    | some (b, M2) => g a b M2
    | none => none)
  | none => none
theorem er_op {r : R2} {g : O2} {ta tb : TE} {fa fb : EF} (o : OD K r g) (ra : ER K ta fa) (rb : ER K tb fb) : ER K (tOp r ta tb) (eOp g fa fb) := fun σ W δ M d M' Q w s e q => by
  unfold eOp at e
  split at e
  · rename_i a M1 h1
    split at e
    · rename_i b M2 h2
      refine ra σ W δ M a M1 _ w s h1 fun x W1 l1 w1 r1 => ?_
      refine rb σ W1 δ M1 b M2 _ w1 (s.le l1) h2 fun y W2 l2 w2 r2 => ?_
      exact o W2 M2 x y a b d M' Q w2 (r1.le l2) r2 e (q.le (l1.trans l2))
    · cases e
  · cases e
/-- a rule for an operator in every context -/
structure OpF (X : I → Cx) (K : PySem.W.Frag) (f : Value → Value → Sem Value) (g : O2) : Prop where
  go : ∃ r : R2, (∀ i, OpR (X i) f r) ∧ OD K r g
theorem DE.op {op : Operator} {a b : Expr} {pos} {g : O2} {fa fb : EF} (o : OpF X K (binaryOp op) g) (ha : DE X K a fa) (hb : DE X K b fb) : DE X K (.BinOp a op b pos) (eOp g fa fb) := by
  obtain ⟨r, ho, od⟩ := o.go
  obtain ⟨ta, pa, ra⟩ := ha.go
  obtain ⟨tb, pb, rb⟩ := hb.go
  exact ⟨_, fun i => pe_op (ho i) (pa i) (pb i), er_op od ra rb⟩
theorem DC.op {op : CmpOp} {a b : Expr} {pos} {g : O2} {fa fb : EF} (o : OpF X K (compareOp op) g) (ha : DE X K a fa) (hb : DE X K b fb) (hm : behindInMarks op b = false := by first | exact nomark _ | rfl) : DC X K (.Compare a [op] [b] pos) (eOp g fa fb) := by
  obtain ⟨r, ho, od⟩ := o.go
  obtain ⟨ta, pa, ra⟩ := ha.go
  obtain ⟨tb, pb, rb⟩ := hb.go
  exact ⟨_, fun i => pe_cmpR (ho i) (pa i) (pb i) hm, fun i => pt_cmpR (ho i) (pa i) (pb i) hm, er_op od ra rb⟩
/-- x < y < z -/
def eChain (g g' : O2) (fa fb fc : EF) : EF := fun δ M => match fa δ M with
  | some (a, M1) => (match fb δ M1 with
    | some (b, M2) => (match g a b M2 with
      | some (.bl true, M3) => (match fc δ M3 with
        | some (c, M4) => g' b c M4
        | none => none)
      | some (.bl false, M3) => some (.bl false, M3)
      | _ => none)
    | none => none)
  | none => none
theorem er_chain {r r' : R2} {g g' : O2} {ta tb tc : TE} {fa fb fc : EF} (o : OD K r g) (o' : OD K r' g') (ra : ER K ta fa) (rb : ER K tb fb) (rc : ER K tc fc) : ER K (tChain r r' ta tb tc) (eChain g g' fa fb fc) := fun σ W δ M d M' Q w s e q => by
  unfold eChain at e
  split at e
  · rename_i a M1 h1
    split at e
    · rename_i b M2 h2
      refine ra σ W δ M a M1 _ w s h1 fun x W1 l1 w1 r1 => ?_
      refine rb σ W1 δ M1 b M2 _ w1 (s.le l1) h2 fun y W2 l2 w2 r2 => ?_
      split at e
      · rename_i M3 h3
        split at e
        · rename_i c M4 h4
          refine o W2 M2 x y a b _ M3 _ w2 (r1.le l2) r2 h3 fun v W3 l3 w3 r3 => ?_
          cases r3
          refine ⟨true, rfl, ifT ?_⟩
          refine rc σ W3 δ M3 c M4 _ w3 (s.le ((l1.trans l2).trans l3)) h4 fun z W4 l4 w4 r4 => ?_
          exact o' W4 M4 y z b c d M' Q w4 (r2.le (l3.trans l4)) r4 e (q.le (((l1.trans l2).trans l3).trans l4))
        · cases e
      · rename_i M3 h3
        cases e
        refine o W2 M2 x y a b _ _ _ w2 (r1.le l2) r2 h3 fun v W3 l3 w3 r3 => ?_
        cases r3
        exact ⟨false, rfl, ifF (q _ W3 ((l1.trans l2).trans l3) w3 (.bl false))⟩
      · cases e
    · cases e
  · cases e
theorem DC.chain {op op' : CmpOp} {a b c : Expr} {pos} {g g' : O2} {fa fb fc : EF} (o : OpF X K (compareOp op) g) (o' : OpF X K (compareOp op') g') (ha : DE X K a fa) (hb : DE X K b fb) (hc : DE X K c fc) (hm : lastMarks [op, op'] [b, c] = false := by rfl) :
    DC X K (.Compare a [op, op'] [b, c] pos) (eChain g g' fa fb fc) := by
  obtain ⟨r, ho, od⟩ := o.go
  obtain ⟨r', ho', od'⟩ := o'.go
  obtain ⟨ta, pa, ra⟩ := ha.go
  obtain ⟨tb, pb, rb⟩ := hb.go
  obtain ⟨tc, pc, rc⟩ := hc.go
  exact ⟨_, fun i => pe_chain (ho i) (ho' i) (pa i) (pb i) (pc i) (hm := hm), fun i => pt_chain (ho i) (ho' i) (pa i) (pb i) (pc i) (hm := hm), er_chain od od' ra rb rc⟩
theorem DC.val {e : Expr} {f : EF} (h : DC X K e f) : DE X K e f := by
  obtain ⟨t, a, _, c⟩ := h.go
  exact ⟨t, a, c⟩
def tV (f : EF) : TF := fun δ M => match f δ M with
  | some (.bl b, M1) => some (b, M1)
  | _ => none
theorem tr_test {t : TE} {f : EF} (r : ER K t f) : TR K (tTest t) (tV f) := fun σ W δ M b M' Q w s e q => by
  unfold tV at e
  split at e
  · rename_i c M1 h1
    cases e
    refine r σ W δ M _ _ _ w s h1 fun v W1 l1 w1 r1 => ?_
    cases r1
    exact ⟨b, rfl, q W1 l1 w1⟩
  · cases e
theorem DC.test {e : Expr} {f : EF} (h : DC X K e f) : DT X K e (tV f) := by
  obtain ⟨t, _, b, c⟩ := h.go
  exact ⟨_, b, tr_test c⟩
theorem DE.test {e : Expr} {f : EF} (h : DE X K e f) (he : ∀ i whole, isTrue e (X i).env whole = (do let v ← whole; standAt e.pos; holding [v] (truthy v)) := by intro _ _; rfl) : DT X K e (tV f) := by
  obtain ⟨t, a, c⟩ := h.go
  exact ⟨_, fun i => pt_val (a i) (he i), tr_test c⟩
def tNt (f : TF) : TF := fun δ M => match f δ M with
  | some (b, M1) => some (!b, M1)
  | none => none
theorem DT.not {a : Expr} {pos} {f : TF} (h : DT X K a f) : DT X K (.UnaryOp .Not a pos) (tNt f) := by
  obtain ⟨t, p, r⟩ := h.go
  refine ⟨_, fun i => pt_not (p i), fun σ W δ M b M' Q w s e q => ?_⟩
  unfold tNt at e
  split at e
  · rename_i c M1 h1
    cases e
    exact r σ W δ M c _ _ w s h1 q
  · cases e
def tAn (f g : TF) : TF := fun δ M => match f δ M with
  | some (true, M1) => g δ M1
  | some (false, M1) => some (false, M1)
  | none => none
def tOrr (f g : TF) : TF := fun δ M => match f δ M with
  | some (true, M1) => some (true, M1)
  | some (false, M1) => g δ M1
  | none => none
theorem DW.and1 {a : Expr} {pos} {f : TF} (h : DT X K a f) : DW X K (.BoolOp .And [a] pos) f := by
  obtain ⟨t, p, r⟩ := h.go
  exact ⟨t, fun i => pw_and1 (p i), r⟩
theorem DW.or1 {a : Expr} {pos} {f : TF} (h : DT X K a f) : DW X K (.BoolOp .Or [a] pos) f := by
  obtain ⟨t, p, r⟩ := h.go
  exact ⟨t, fun i => pw_or1 (p i), r⟩
theorem DW.and {a b : Expr} {es : List Expr} {pos} {f g : TF} (h : DT X K a f) (h' : DW X K (.BoolOp .And (b :: es) pos) g) : DW X K (.BoolOp .And (a :: b :: es) pos) (tAn f g) := by
  obtain ⟨t, p, r⟩ := h.go
  obtain ⟨t', p', r'⟩ := h'.go
  refine ⟨_, fun i => pw_and (p i) (p' i), fun σ W δ M b M' Q w s e q => ?_⟩
  unfold tAn at e
  split at e
  · rename_i M1 h1
    refine r σ W δ M true M1 _ w s h1 fun W1 l1 w1 => ifT ?_
    exact r' σ W1 δ M1 b M' Q w1 (s.le l1) e fun W2 l2 w2 => q W2 (l1.trans l2) w2
  · rename_i M1 h1
    cases e
    exact r σ W δ M false _ _ w s h1 fun W1 l1 w1 => ifF (q W1 l1 w1)
  · cases e
theorem DW.or {a b : Expr} {es : List Expr} {pos} {f g : TF} (h : DT X K a f) (h' : DW X K (.BoolOp .Or (b :: es) pos) g) : DW X K (.BoolOp .Or (a :: b :: es) pos) (tOrr f g) := by
  obtain ⟨t, p, r⟩ := h.go
  obtain ⟨t', p', r'⟩ := h'.go
  refine ⟨_, fun i => pw_or (p i) (p' i), fun σ W δ M b M' Q w s e q => ?_⟩
  unfold tOrr at e
  split at e
  · rename_i M1 h1
    cases e
    exact r σ W δ M true _ _ w s h1 fun W1 l1 w1 => ifT (q W1 l1 w1)
  · rename_i M1 h1
    refine r σ W δ M false M1 _ w s h1 fun W1 l1 w1 => ifF ?_
    exact r' σ W1 δ M1 b M' Q w1 (s.le l1) e fun W2 l2 w2 => q W2 (l1.trans l2) w2
  · cases e
theorem DW.test {e : Expr} {f : TF} (h : DW X K e f) : DT X K e f := by
  obtain ⟨t, p, r⟩ := h.go
  exact ⟨t, fun i => PW.pt (p i), r⟩
def eIf (t : TF) (f g : EF) : EF := fun δ M => match t δ M with
  | some (true, M1) => f δ M1
  | some (false, M1) => g δ M1
  | none => none
theorem DE.ite {c a b : Expr} {pos} {t : TF} {f g : EF} (h : DT X K c t) (ha : DE X K a f) (hb : DE X K b g) : DE X K (.IfExp c a b pos) (eIf t f g) := by
  obtain ⟨tt, p, r⟩ := h.go
  obtain ⟨ta, pa, ra⟩ := ha.go
  obtain ⟨tb, pb, rb⟩ := hb.go
  refine ⟨_, fun i => pe_ifExp (p i) (pa i) (pb i), fun σ W δ M d M' Q w s e q => ?_⟩
  unfold eIf at e
  split at e
  · rename_i M1 h1
    exact r σ W δ M true M1 _ w s h1 fun W1 l1 w1 => ifT (ra σ W1 δ M1 d M' Q w1 (s.le l1) e (q.le l1))
  · rename_i M1 h1
    exact r σ W δ M false M1 _ w s h1 fun W1 l1 w1 => ifF (rb σ W1 δ M1 d M' Q w1 (s.le l1) e (q.le l1))
  · cases e
/-- not a, a and b, a or b as values, all of them True or False -/
def eNt (f : EF) : EF := fun δ M => match f δ M with
  | some (.bl b, M1) => some (.bl (!b), M1)
  | _ => none
def eAn (f g : EF) : EF := fun δ M => match f δ M with
  | some (.bl true, M1) => g δ M1
  | some (.bl false, M1) => some (.bl false, M1)
  | _ => none
def eOr (f g : EF) : EF := fun δ M => match f δ M with
  | some (.bl true, M1) => some (.bl true, M1)
  | some (.bl false, M1) => g δ M1
  | _ => none
theorem DE.not {a : Expr} {pos} {f : EF} (h : DE X K a f) (he : ∀ i whole, isTrue a (X i).env whole = (do let v ← whole; standAt a.pos; holding [v] (truthy v)) := by intro _ _; rfl) : DE X K (.UnaryOp .Not a pos) (eNt f) := by
  obtain ⟨t, p, r⟩ := h.go
  refine ⟨_, fun i => pe_not (p i), fun σ W δ M d M' Q w s e q => ?_⟩
  unfold eNt at e
  split at e
  · rename_i b M1 h1
    cases e
    refine r σ W δ M _ _ _ w s h1 fun v W1 l1 w1 r1 => ?_
    cases r1
    exact ⟨b, rfl, q _ W1 l1 w1 (.bl _)⟩
  · cases e
theorem DE.one {op : BoolOp} {a : Expr} {pos} {f : EF} (h : DE X K a f) : DE X K (.BoolOp op [a] pos) f := by
  obtain ⟨t, p, r⟩ := h.go
  exact ⟨t, fun i => pe_one (p i), r⟩
theorem DE.and {a b : Expr} {es : List Expr} {pos} {f g : EF} (h : DE X K a f) (h' : DE X K (.BoolOp .And (b :: es) pos) g) : DE X K (.BoolOp .And (a :: b :: es) pos) (eAn f g) := by
  obtain ⟨t, p, r⟩ := h.go
  obtain ⟨t', p', r'⟩ := h'.go
  refine ⟨_, fun i => pe_and (p i) (p' i), fun σ W δ M d M' Q w s e q => ?_⟩
  unfold eAn at e
  split at e
  · rename_i M1 h1
    refine r σ W δ M _ M1 _ w s h1 fun v W1 l1 w1 r1 => ?_
    cases r1
    exact ⟨true, rfl, ifT (r' σ W1 δ M1 d M' Q w1 (s.le l1) e (q.le l1))⟩
  · rename_i M1 h1
    cases e
    refine r σ W δ M _ _ _ w s h1 fun v W1 l1 w1 r1 => ?_
    cases r1
    exact ⟨false, rfl, ifF (q _ W1 l1 w1 (.bl _))⟩
  · cases e
theorem DE.or {a b : Expr} {es : List Expr} {pos} {f g : EF} (h : DE X K a f) (h' : DE X K (.BoolOp .Or (b :: es) pos) g) : DE X K (.BoolOp .Or (a :: b :: es) pos) (eOr f g) := by
  obtain ⟨t, p, r⟩ := h.go
  obtain ⟨t', p', r'⟩ := h'.go
  refine ⟨_, fun i => pe_or (p i) (p' i), fun σ W δ M d M' Q w s e q => ?_⟩
  unfold eOr at e
  split at e
  · rename_i M1 h1
    cases e
    refine r σ W δ M _ _ _ w s h1 fun v W1 l1 w1 r1 => ?_
    cases r1
    exact ⟨true, rfl, ifT (q _ W1 l1 w1 (.bl _))⟩
  · rename_i M1 h1
    refine r σ W δ M _ M1 _ w s h1 fun v W1 l1 w1 r1 => ?_
    cases r1
    exact ⟨false, rfl, ifF (r' σ W1 δ M1 d M' Q w1 (s.le l1) e (q.le l1))⟩
  · cases e
end
end Pl
namespace Pl
open PySem L2
section
variable {I : Type} {X : I → Cx} {P : Program} {w : World} {K : PySem.W.Frag} {mg : Str → Option Value} {base : Heap} {k : Nat}
def sNil : SF := fun δ M => some (.nx δ M)
def sSeq (f g : SF) : SF := fun δ M => match f δ M with
  | some (.nx δ' M') => g δ' M'
  | o => o
theorem DB.nil : DB X K [] sNil := ⟨tNext, fun i => pss_nil, fun σ W δ M o E w s e q => by
  cases e
  exact q σ W (.refl W) w s⟩
theorem DB.cons {s : Stmt} {ss : List Stmt} {f g : SF} (a : DS X K s f) (b : DB X K ss g) : DB X K (s :: ss) (sSeq f g) := by
  obtain ⟨ta, pa, ra⟩ := a.go
  obtain ⟨tb, pb, rb⟩ := b.go
  refine ⟨tSeq ta tb, fun i => pss_cons (pa i) (pb i), fun σ W δ M o E w s e q => ?_⟩
  unfold sSeq at e
  split at e
  · rename_i δ' M' h1
    refine ra σ W δ M _ _ w s h1 fun σ' W1 l1 w1 s1 => ?_
    exact rb σ' W1 δ' M' o E w1 s1 e (q.le l1)
  · rename_i hn
    refine ra σ W δ M o _ w s e ?_
    cases o with
    | nx δ' M' => exact absurd e (hn δ' M')
    | bk _ _ => exact q
    | ct _ _ => exact q
    | rt _ _ => exact q
theorem DB.one {s : Stmt} {f : SF} (a : DS X K s f) : DB X K [s] f := by
  obtain ⟨ta, pa, ra⟩ := a.go
  exact ⟨ta, fun i => pss_one (pa i), ra⟩
theorem DS.brk {pos} : DS X K (.Break pos) (fun δ M => some (.bk δ M)) := ⟨tBreak, fun i => ps_break, fun σ W δ M o E w s e q => by
  cases e
  exact q σ W (.refl W) w s⟩
theorem DS.cont {pos} : DS X K (.Continue pos) (fun δ M => some (.ct δ M)) := ⟨tCont, fun i => ps_continue, fun σ W δ M o E w s e q => by
  cases e
  exact q σ W (.refl W) w s⟩
def sE (f : EF) : SF := fun δ M => match f δ M with
  | some (_, M') => some (.nx δ M')
  | none => none
theorem DS.expr {e : Expr} {pos} {f : EF} (a : DE X K e f) (hs : ∀ i, swapsWith e none pos.line (X i).env = pure false := by intro _; rfl) : DS X K (.Expr e pos) (sE f) := by
  obtain ⟨ta, pa, ra⟩ := a.go
  refine ⟨tDrop ta, fun i => ps_expr (pa i) (hs i), fun σ W δ M o E w s e q => ?_⟩
  unfold sE at e
  split at e
  · rename_i d M' h1
    cases e
    exact ra σ W δ M _ _ _ w s h1 fun v W1 l1 w1 r1 => q σ W1 l1 w1 (s.le l1)
  · cases e
def sRet (f : EF) : SF := fun δ M => match f δ M with
  | some (d, M') => some (.rt d M')
  | none => none
theorem DS.ret {e : Expr} {pos} {f : EF} (a : DE X K e f) : DS X K (.Return (some e) pos) (sRet f) := by
  obtain ⟨ta, pa, ra⟩ := a.go
  refine ⟨tRet ta, fun i => ps_ret (pa i), fun σ W δ M o E w s e q => ?_⟩
  unfold sRet at e
  split at e
  · rename_i d M' h1
    cases e
    exact ra σ W δ M _ _ _ w s h1 q
  · cases e
def sIf (t : TF) (f g : SF) : SF := fun δ M => match t δ M with
  | some (true, M1) => f δ M1
  | some (false, M1) => g δ M1
  | none => none
theorem DS.ite {c : Expr} {a b : List Stmt} {pos} {t : TF} {f g : SF} (h : DT X K c t) (ha : DB X K a f) (hb : DB X K b g) : DS X K (.If c a b pos) (sIf t f g) := by
  obtain ⟨tt, p, r⟩ := h.go
  obtain ⟨ta, pa, ra⟩ := ha.go
  obtain ⟨tb, pb, rb⟩ := hb.go
  refine ⟨_, fun i => ps_if (p i) (pa i) (pb i), fun σ W δ M o E w s e q => ?_⟩
  unfold sIf at e
  split at e
  · rename_i M1 h1
    exact r σ W δ M true M1 _ w s h1 fun W1 l1 w1 => ifT (ra σ W1 δ M1 o E w1 (s.le l1) e (q.le l1))
  · rename_i M1 h1
    exact r σ W δ M false M1 _ w s h1 fun W1 l1 w1 => ifF (rb σ W1 δ M1 o E w1 (s.le l1) e (q.le l1))
  · cases e
def GR (K : PySem.W.Frag) (t : TG) (f : GF) (sl : List Nat) : Prop := ∀ (v : V) (d : D) (σ : St) (W : Wd) (δ δ' : Env) (M : Mh) (Q : St → Hp → Prop), W.Ok K M → Slots K W σ δ → Rep K W.B W.ι v d → f d δ = some δ' →
  (∀ σ', Slots K W σ' δ' → (∀ vs : List Nat, (∀ j ∈ sl, j ∈ vs) → wipe σ' vs = wipe σ vs) → Q σ' W.H) → t v σ W.H Q
def GRs (K : PySem.W.Frag) (t : TGs) (f : List D → Env → Option Env) (sl : List Nat) : Prop := ∀ (v : List V) (d : List D) (σ : St) (W : Wd) (δ δ' : Env) (M : Mh) (Q : St → Hp → Prop), W.Ok K M → Slots K W σ δ → RepL K W.B W.ι v d → f d δ = some δ' →
  (∀ σ', Slots K W σ' δ' → (∀ vs : List Nat, (∀ j ∈ sl, j ∈ vs) → wipe σ' vs = wipe σ vs) → Q σ' W.H) → t v σ W.H Q
structure DG (X : I → Cx) (K : PySem.W.Frag) (tg : Expr) (f : GF) (sl : List Nat) : Prop where
  go : ∃ t : TG, (∀ i, PG (X i) tg t) ∧ GR K t f sl
structure DGs (X : I → Cx) (K : PySem.W.Frag) (tg : List Expr) (f : List D → Env → Option Env) (sl : List Nat) (n : Nat) : Prop where
  go : ∃ t : TGs, (∀ i, PGs (X i) tg t) ∧ GRs K t f sl
  len : ∀ ds δ δ', f ds δ = some δ' → ds.length = n
theorem wipe_set (σ : St) (o : Option V) (i : Nat) : ∀ vs : List Nat, (i ∈ vs → wipe (σ.set i o) vs = wipe σ vs) ∧ (i ∉ vs → wipe (σ.set i o) vs = (wipe σ vs).set i o)
  | [] => ⟨fun h => absurd h (by simp), fun _ => rfl⟩
  | v :: vs => by
    obtain ⟨h1, h2⟩ := wipe_set σ o i vs
    refine ⟨fun h => ?_, fun h => ?_⟩
    · show (wipe (σ.set i o) vs).set v none = (wipe σ vs).set v none
      by_cases hm : i ∈ vs
      · rw [h1 hm]
      · have e : i = v := by
          rcases List.mem_cons.mp h with e | e
          · exact e
          · exact absurd e hm
        rw [h2 hm, ← e, List.set_set]
    · show (wipe (σ.set i o) vs).set v none = ((wipe σ vs).set v none).set i o
      have hv : i ≠ v := fun e => h (by rw [e]; exact List.mem_cons_self)
      rw [h2 fun z => h (List.mem_cons_of_mem _ z), List.set_comm _ _ hv]
def gN (i : Nat) : GF := fun d δ => some (δ.set i (some d))
theorem DG.name (j : Nat) {x : Str} {pos} (hN : ∀ i, (X i).N.Nodup) (hi : ∀ i, (X i).N[j]? = some x := by intro _; rfl) (hx : ∀ i, Loc (X i).env.scope x := by intro _; first | exact Or.inl rfl | exact Or.inr rfl)
    (hf : ∀ i, (X i).fn x = true ∨ (X i).env.scope.names.lookup x = some .local := by intro _; first | exact Or.inl rfl | exact Or.inr rfl) : DG X K (.Name x pos) (gN j) [j] :=
  ⟨gName j, fun i => pg_name (hN i) (hi i) (hx i) (hf i), fun v d σ W δ δ' M Q w s r e q => by
    cases e
    exact q _ (s.set r j) fun vs h => (wipe_set σ _ j vs).1 (h j List.mem_cons_self)⟩
def gsNil : List D → Env → Option Env := fun ds δ => match ds with
  | [] => some δ
  | _ => none
def gsCons (f : GF) (g : List D → Env → Option Env) : List D → Env → Option Env := fun ds δ => match ds with
  | [] => none
  | d :: r => (match f d δ with
    | some δ1 => g r δ1
    | none => none)
theorem DGs.nil : DGs X K [] gsNil [] 0 := ⟨⟨gNil, fun i => pgs_nil, fun v d σ W δ δ' M Q w s r e q => by
  cases r with
  | nil =>
    cases e
    exact ⟨rfl, q σ s fun _ _ => rfl⟩
  | cons _ _ => cases e⟩, fun ds δ δ' h => by
    cases ds with
    | nil => rfl
    | cons _ _ => cases h⟩
theorem DGs.cons {e : Expr} {es : List Expr} {f : GF} {g : List D → Env → Option Env} {sl sm : List Nat} {n : Nat} (a : DG X K e f sl) (b : DGs X K es g sm n)
    (hs : ∀ i, (assignEach (e :: es) (X i).env).map (·.2) = assign e (X i).env :: (assignEach es (X i).env).map (·.2) := by intro _; rfl) : DGs X K (e :: es) (gsCons f g) (sl ++ sm) (n + 1) := by
  obtain ⟨ta, pa, ra⟩ := a.go
  obtain ⟨tb, pb, rb⟩ := b.go
  refine ⟨⟨gCons ta tb, fun i => pgs_cons (pa i) (pb i) (hs i), fun v d σ W δ δ' M Q w s r e q => ?_⟩, fun ds δ δ' h => ?_⟩
  · cases r with
    | nil => cases e
    | cons r1 r2 =>
      have e' : (match f _ δ with
        | some δ1 => g _ δ1
        | none => none) = some δ' := e
      split at e'
      · rename_i δ1 h1
        refine ⟨_, _, rfl, ra _ _ σ W δ δ1 M _ w s r1 h1 fun σ1 s1 k1 => ?_⟩
        refine rb _ _ σ1 W δ1 δ' M _ w s1 r2 e' fun σ2 s2 k2 => ?_
        exact q σ2 s2 fun vs hv => (k2 vs fun j hj => hv j (List.mem_append_right _ hj)).trans (k1 vs fun j hj => hv j (List.mem_append_left _ hj))
      · cases e'
  · cases ds with
    | nil => cases h
    | cons d r =>
      have h' : (match f d δ with
        | some δ1 => g r δ1
        | none => none) = some δ' := h
      split at h'
      · exact congrArg (· + 1) (b.len _ _ _ h')
      · cases h'
def gTp (f : List D → Env → Option Env) : GF := fun d δ => match d with
  | .tup ds => f ds δ
  | .lst ds => f ds δ
  | .lsk ds => f ds δ
  | _ => none
theorem pg_or {Y : Cx} {tg : Expr} {t u : TG} (a : PG Y tg t) (b : PG Y tg u) : PG Y tg (fun v σ H Q => t v σ H Q ∨ u v σ H Q) := ⟨fun pins s σ H v us Q I r h => by
  rcases h with h | h
  · exact a.run pins s σ H v us Q I r h
  · exact b.run pins s σ H v us Q I r h⟩
theorem DG.tup (c : Ctx X P w K mg base k) {es : List Expr} {m : Nat} {pos} {f : List D → Env → Option Env} {sl : List Nat} {n : Nat} (a : DGs X K es f sl n) (hn : ∀ i, (assignEach es (X i).env).length = n := by intro _; rfl)
    (hst : ∀ i, (assignEach es (X i).env).findIdx? (·.1) = none := by intro _; rfl) : DG X K (.Tuple es m pos) (gTp f) sl := by
  obtain ⟨ta, pa, ra⟩ := a.go
  refine ⟨fun v σ H Q => gTup K n ta v σ H Q ∨ gUnl K n ta v σ H Q, fun i => ?_, fun v d σ W δ δ' M Q w s r e q => ?_⟩
  · have h1 := pg_tup (c.calm i) (pa i) (hn i) (hst i) (k := m) (pos := pos)
    have h2 := pg_unl (c.calm i) (pa i) (hn i) (hst i) (k := m) (pos := pos)
    rw [c.K i] at h1 h2
    exact pg_or h1 h2
  · cases r with
    | tup h r =>
      have e' : f _ δ = some δ' := e
      exact .inl ⟨_, _, rfl, sqT_mono w.sub h, by rw [r.len]; exact a.len _ _ _ e', ra _ _ σ W δ δ' M Q w s r e' q⟩
    | lst h r =>
      have e' : f _ δ = some δ' := e
      exact .inr ⟨_, _, rfl, .inl (.inl (w.sub _ _ h)), by rw [r.len]; exact a.len _ _ _ e', ra _ _ σ W δ δ' M Q w s r e' q⟩
    | lsk h r =>
      have e' : f _ δ = some δ' := e
      exact .inr ⟨_, _, rfl, sqL_mono w.sub h, by rw [r.len]; exact a.len _ _ _ e', ra _ _ σ W δ δ' M Q w s r e' q⟩
    | _ => cases e
def sAs (f : EF) (g : GF) : SF := fun δ M => match f δ M with
  | some (d, M1) => (match g d δ with
    | some δ' => some (.nx δ' M1)
    | none => none)
  | none => none
theorem sr_as {te : TE} {t : TG} {f : EF} {g : GF} {sl : List Nat} (re : ER K te f) (rg : GR K t g sl) : SR K (tAsg te t) (sAs f g) := fun σ W δ M o E w s e q => by
  unfold sAs at e
  split at e
  · rename_i d M1 h1
    split at e
    · rename_i δ' h2
      cases e
      refine re σ W δ M d _ _ w s h1 fun v W1 l1 w1 r1 => ?_
      exact rg v d σ W1 δ δ' _ _ w1 (s.le l1) r1 h2 fun σ' s' _ => q σ' W1 l1 w1 s'
    · cases e
  · cases e
theorem DS.set (j : Nat) {x : Str} {e : Expr} {pos pos'} {f : EF} (a : DE X K e f) (hN : ∀ i, (X i).N.Nodup) (hi : ∀ i, (X i).N[j]? = some x := by intro _; rfl) (hx : ∀ i, Loc (X i).env.scope x := by intro _; first | exact Or.inl rfl | exact Or.inr rfl)
    (hs : ∀ i, swapsWith e (some (.Name x pos')) pos.line (X i).env = pure false := by intro _; rfl) (hf : ∀ i, (X i).fn x = true ∨ (X i).env.scope.names.lookup x = some .local := by intro _; first | exact Or.inl rfl | exact Or.inr rfl) :
    DS X K (.Assign [.Name x pos'] e pos) (sAs f (gN j)) := by
  obtain ⟨t, p, r⟩ := a.go
  obtain ⟨tg, _, rg⟩ := (⟨gName j, fun i => pg_name (hN i) (hi i) (hx i) (hf i), fun v d σ W δ δ' M Q w s r e q => by
    cases e
    exact q _ (s.set r j) fun vs h => (wipe_set σ _ j vs).1 (h j List.mem_cons_self)⟩ : ∃ t : TG, (∀ i, PG (X i) (.Name x pos') t) ∧ GR K t (gN j) [j])
  refine ⟨tAsg t (gName j), fun i => ps_set (hN i) (hi i) (hx i) (p i) (hs i) (hf i), sr_as r (sl := [j]) fun v d σ W δ δ' M Q w s r e q => ?_⟩
  cases e
  exact q _ (s.set r j) fun vs h => (wipe_set σ _ j vs).1 (h j List.mem_cons_self)
theorem DS.asg {tg e : Expr} {pos} {f : EF} {g : GF} {sl : List Nat} (a : DE X K e f) (b : DG X K tg g sl) (hs : ∀ i, swapsWithSole [tg] e pos.line (X i).env = pure false := by intro _; rfl) (hw : ∀ i, swappedStores [tg] e (X i).env = pure none := by intro _; rfl)
    (h1 : ∀ i, (assignEach [tg] (X i).env).map (·.2) = [assign tg (X i).env] := by intro _; rfl) : DS X K (.Assign [tg] e pos) (sAs f g) := by
  obtain ⟨t, p, r⟩ := a.go
  obtain ⟨tg, pg, rg⟩ := b.go
  exact ⟨_, fun i => ps_asg (p i) (pg i) (hs i) (hw i) (h1 i), sr_as r rg⟩
def sPar (i j : Nat) (f g : EF) : SF := fun δ M => match f δ M with
  | some (d, M1) => (match g δ M1 with
    | some (e, M2) => some (.nx ((δ.set i (some d)).set j (some e)) M2)
    | none => none)
  | none => none
theorem DS.par (a b : Nat) {x y : Str} {e1 e2 : Expr} {f g : EF} {px py pt : Pos} {kt k2 pt2 pos} (c : Ctx X P w K mg base k) (h1 : DE X K e1 f) (h2 : DE X K e2 g) (hN : ∀ i, (X i).N.Nodup) (hi : ∀ i, (X i).N[a]? = some x := by intro _; rfl) (hj : ∀ i, (X i).N[b]? = some y := by intro _; rfl)
    (hij : a ≠ b := by decide) (hx : ∀ i, (X i).env.scope.names.lookup x = some .local := by intro _; rfl) (hy : ∀ i, (X i).env.scope.names.lookup y = some .local := by intro _; rfl)
    (hw : ∀ i, swappedStores [.Tuple [.Name x px, .Name y py] kt pt] (.Tuple [e1, e2] k2 pt2) (X i).env = pure (some [x, y]) := by intro _; rfl)
    (hs : ∀ i, swapsWithSole [.Tuple [.Name x px, .Name y py] kt pt] (.Tuple [e1, e2] k2 pt2) pos.line (X i).env = pure false := by intro _; rfl)
    (he1 : ∀ i, starEach [e1, e2] (X i).env = (false, eval e1 (X i).env) :: starEach [e2] (X i).env := by intro _; rfl) (he2 : ∀ i, starEach [e2] (X i).env = (false, eval e2 (X i).env) :: starEach [] (X i).env := by intro _; rfl) :
    DS X K (.Assign [.Tuple [.Name x px, .Name y py] kt pt] (.Tuple [e1, e2] k2 pt2) pos) (sPar a b f g) := by
  obtain ⟨ta, pa, ra⟩ := h1.go
  obtain ⟨tb, pb, rb⟩ := h2.go
  refine ⟨tPar a b (tCons ta (tCons tb tNil)), fun i => ps_par (c.calm i) (hN i) (hi i) (hj i) hij (hx i) (hy i) (pa_cons (pa i) (pa_cons (pb i) pa_nil (he2 i)) (he1 i)) (hw i) (hs i), fun σ W δ M o E w s e q => ?_⟩
  unfold sPar at e
  split at e
  · rename_i d M1 h1
    split at e
    · rename_i d2 M2 h2
      cases e
      refine ra σ W δ M d M1 _ w s h1 fun v W1 l1 w1 r1 => ?_
      refine rb σ W1 δ M1 d2 _ _ w1 (s.le l1) h2 fun u W2 l2 w2 r2 => ?_
      exact ⟨v, u, rfl, q _ W2 (l1.trans l2) w2 (((s.le (l1.trans l2)).set (r1.le l2) a).set r2 b)⟩
    · cases e
  · cases e
/-- from W0 on an iterator gives ds -/
def Wk (K : PySem.W.Frag) (J : It) (W0 : Wd) (ds : List D) : Prop := ∀ (i : Nat) (W : Wd) (M : Mh), W0.Lo W → W.Ok K M →
  (ds[i]? = none → J.stop i W.H) ∧ (∀ d, ds[i]? = some d → J.go i W.H ∧ ∀ x H', J.yld i W.H x H' → ∃ W', W'.H = H' ∧ W.Le W' ∧ W'.Ok K M ∧ Rep K W'.B W'.ι x d)
structure DI (X : I → Cx) (K : PySem.W.Frag) (tg iter : Expr) (f : AF) : Prop where
  go : ∃ t : TI, (∀ i, PI (X i) tg iter t) ∧ ∀ (σ : St) (W : Wd) (δ : Env) (M : Mh) (ds : List D) (M' : Mh) (R : It → Hp → Prop), W.Ok K M → Slots K W σ δ → f δ M = some (ds, M') → (∀ J W', W.Le W' → W'.Ok K M' → Wk K J W' ds → R J W'.H) → t σ W.H R
theorem wk_list {W0 : Wd} {a : Addr} {vs : List V} {ds : List D} (h : SqL K W0.B a vs) (r : RepL K W0.B W0.ι vs ds) : Wk K (Itl K a) W0 ds := fun i W M l w => by
  have hs : SqL K W.H a vs := sqL_mono w.sub (sqL_mono l.same h)
  have r' := r.mono l.same l.ix
  refine ⟨fun e => ⟨vs, hs, by rw [r.len]; exact List.getElem?_eq_none_iff.mp e⟩, fun d e => ?_⟩
  obtain ⟨v, h1, h2⟩ := r'.get e
  refine ⟨⟨vs, v, hs, h1⟩, fun x H' y => ?_⟩
  obtain ⟨e1, e2⟩ := y
  have e3 := (e2 vs hs).symm.trans h1
  cases e3
  exact ⟨W, e1.symm, .refl W, w, h2⟩
theorem wk_tup {W0 : Wd} {a : Addr} {vs : List V} {ds : List D} (h : SqT K W0.B a vs) (r : RepL K W0.B W0.ι vs ds) : Wk K (Itt K a) W0 ds := fun i W M l w => by
  have hs : SqT K W.H a vs := sqT_mono w.sub (sqT_mono l.same h)
  have r' := r.mono l.same l.ix
  refine ⟨fun e => ⟨vs, hs, by rw [r.len]; exact List.getElem?_eq_none_iff.mp e⟩, fun d e => ?_⟩
  obtain ⟨v, h1, h2⟩ := r'.get e
  refine ⟨⟨vs, v, hs, h1⟩, fun x H' y => ?_⟩
  obtain ⟨e1, e2⟩ := y
  have e3 := (e2 vs hs).symm.trans h1
  cases e3
  exact ⟨W, e1.symm, .refl W, w, h2⟩
def aItems (f : EF) : AF := fun δ M => match f δ M with
  | some (.lst ds, M1) => some (ds, M1)
  | some (.lsk ds, M1) => some (ds, M1)
  | some (.tup ds, M1) => some (ds, M1)
  | _ => none
theorem pi_or {Y : Cx} {tg e : Expr} {t u : TI} (a : PI Y tg e t) (b : PI Y tg e u) : PI Y tg e (fun σ H R => t σ H R ∨ u σ H R) := ⟨fun pins s σ H R I h => by
  rcases h with h | h
  · exact a.run pins s σ H R I h
  · exact b.run pins s σ H R I h⟩
theorem DI.seq (c : Ctx X P w K mg base k) {tg e : Expr} {f : EF} (a : DE X K e f) : DI X K tg e (aItems f) := by
  obtain ⟨t, p, r⟩ := a.go
  refine ⟨fun σ H R => iList K t σ H R ∨ iTup K t σ H R, fun i => ?_, fun σ W δ M ds M' R w s e q => ?_⟩
  · have h1 := pi_list (tg := tg) (p i)
    have h2 := pi_tup (tg := tg) (p i)
    rw [c.K i] at h1 h2
    exact pi_or h1 h2
  · unfold aItems at e
    split at e
    · rename_i es M1 h
      cases e
      refine .inl (r σ W δ M _ _ _ w s h fun v W1 l1 w1 r1 => ?_)
      cases r1 with
      | lst h1 r1 => exact ⟨_, rfl, ⟨_, .inl (.inl (w1.sub _ _ h1))⟩, q _ W1 l1 w1 (wk_list (.inl (.inl h1)) r1)⟩
    · rename_i es M1 h
      cases e
      refine .inl (r σ W δ M _ _ _ w s h fun v W1 l1 w1 r1 => ?_)
      cases r1 with
      | lsk h1 r1 => exact ⟨_, rfl, ⟨_, sqL_mono w1.sub h1⟩, q _ W1 l1 w1 (wk_list h1 r1)⟩
    · rename_i es M1 h
      cases e
      refine .inr (r σ W δ M _ _ _ w s h fun v W1 l1 w1 r1 => ?_)
      cases r1 with
      | tup h1 r1 => exact ⟨_, rfl, ⟨_, sqT_mono w1.sub h1⟩, q _ W1 l1 w1 (wk_tup h1 r1)⟩
    · cases e
/-- lo, lo + 1, .. below hi -/
def rng (lo hi : Int) : List D := (List.range (hi - lo).toNat).map fun i => .int (lo + (i : Nat))
theorem wk_rng {W0 : Wd} {lo hi : Int} : Wk K (Itr lo (hi - lo).toNat) W0 (rng lo hi) := fun i W M l w => by
  refine ⟨fun e => ?_, fun d e => ?_⟩
  · have h := List.getElem?_eq_none_iff.mp e
    rw [show (rng lo hi).length = (hi - lo).toNat by simp [rng]] at h
    exact h
  · have h := (List.getElem?_eq_some_iff.mp e).1
    rw [show (rng lo hi).length = (hi - lo).toNat by simp [rng]] at h
    refine ⟨h, fun x H' y => ?_⟩
    obtain ⟨e1, e2⟩ := y
    subst e2
    have e3 : d = .int (lo + (i : Nat)) := by
      unfold rng at e
      rw [List.getElem?_map, List.getElem?_range h] at e
      exact (Option.some.inj e).symm
    subst e3
    exact ⟨W, e1.symm, .refl W, w, .int _⟩
def aRng1 (f : AF) : AF := fun δ M => match f δ M with
  | some ([.int j], M1) => if -(2 ^ 62) ≤ j ∧ j < 2 ^ 62 then some (rng 0 j, M1) else none
  | _ => none
def aRng2 (f : AF) : AF := fun δ M => match f δ M with
  | some ([.int i, .int j], M1) => if -(2 ^ 62) ≤ i ∧ i < 2 ^ 62 ∧ -(2 ^ 62) ≤ j ∧ j < 2 ^ 62 then some (rng i j, M1) else none
  | _ => none
theorem DI.rng1 (c : Ctx X P w K mg base k) (hm : mg "range" = none) {tg a : Expr} {p pos : Pos} {f : AF} (h : DA X K [a] f) (hg : ∀ i, Gl (X i) "range" := by intro _; rfl) (hs : ∀ i, starEach [a] (X i).env = [(false, eval a (X i).env)] := by intro _; rfl) :
    DI X K tg (.Call (.Name "range" p) [a] [] pos) (aRng1 f) := by
  obtain ⟨t, pa, r⟩ := h.go
  refine ⟨iRng1 t, fun i => pi_range1 (hg i) (by rw [c.mg i]; exact hm) (pa i) (hs i), fun σ W δ M ds M' R w s e q => ?_⟩
  unfold aRng1 at e
  split at e
  · rename_i j M1 h1
    split at e
    · rename_i hb
      cases e
      refine r σ W δ M _ _ _ w s h1 fun v W1 l1 w1 r1 => ?_
      cases r1 with
      | cons r1 r2 =>
        cases r1
        cases r2
        refine ⟨j, rfl, hb.1, hb.2, ?_⟩
        have := q (Itr 0 (j - 0).toNat) W1 l1 w1 wk_rng
        rw [Int.sub_zero] at this
        exact this
    · cases e
  · cases e
theorem DI.rng2 (c : Ctx X P w K mg base k) (hm : mg "range" = none) {tg a b : Expr} {p pos : Pos} {f : AF} (h : DA X K [a, b] f) (hg : ∀ i, Gl (X i) "range" := by intro _; rfl) (hs : ∀ i, starEach [a, b] (X i).env = [(false, eval a (X i).env), (false, eval b (X i).env)] := by intro _; rfl)
    (hs2 : ∀ i, starEach [b] (X i).env = [(false, eval b (X i).env)] := by intro _; rfl) :
    DI X K tg (.Call (.Name "range" p) [a, b] [] pos) (aRng2 f) := by
  obtain ⟨t, pa, r⟩ := h.go
  refine ⟨iRng2 t, fun i => pi_range2 (hg i) (by rw [c.mg i]; exact hm) (pa i) (hs i) (hs2 i), fun σ W δ M ds M' R w s e q => ?_⟩
  unfold aRng2 at e
  split at e
  · rename_i i j M1 h1
    split at e
    · rename_i hb
      cases e
      refine r σ W δ M _ _ _ w s h1 fun v W1 l1 w1 r1 => ?_
      cases r1 with
      | cons r1 r2 =>
        cases r1
        cases r2 with
        | cons r2 r3 =>
          cases r2
          cases r3
          exact ⟨i, j, rfl, hb, q (Itr i (j - i).toNat) W1 l1 w1 wk_rng⟩
    · cases e
  · cases e
def forGo (g : GF) (b : SF) : List D → Env → Mh → Option Out
  | [], δ, M => some (.nx δ M)
  | x :: xs, δ, M => match g x δ with
    | none => none
    | some δ1 => match b δ1 M with
      | some (.nx δ' M') => forGo g b xs δ' M'
      | some (.ct δ' M') => forGo g b xs δ' M'
      | some (.bk δ' M') => some (.nx δ' M')
      | some (.rt d M') => some (.rt d M')
      | none => none
def sFor (a : AF) (g : GF) (b : SF) : SF := fun δ M => match a δ M with
  | some (ds, M1) => forGo g b ds δ M1
  | none => none
theorem DS.for (c : Ctx X P w K mg base k) {tg iter : Expr} {body : List Stmt} {pos} {a : AF} {g : GF} {b : SF} {sl : List Nat} (hp : ∀ i, PassesOwn (model (X i).prog (X i).w) (X i).A (X i).env (X i).xe) (hi : DI X K tg iter a) (hg : DG X K tg g sl) (hb : DB X K body b)
    (hs : ∀ i x, foldedSetIterable iter (X i).env x = pure x := by intro _ _; rfl) : DS X K (.For tg iter body [] pos) (sFor a g b) := by
  obtain ⟨ti, pi, ri⟩ := hi.go
  obtain ⟨tg, pg, rg⟩ := hg.go
  obtain ⟨tb, pb, rb⟩ := hb.go
  refine ⟨tFor ti tg tb, fun i => ps_for (hp i) (c.calm i) (pi i) (pg i) (pb i) (hs i), fun σ W δ M o E w s e q => ?_⟩
  unfold sFor at e
  split at e
  · rename_i ds M1 h1
    refine ri σ W δ M ds M1 _ w s h1 fun J W1 l1 w1 wk => ?_
    refine ⟨fun i m σ' H => ∃ W' δ' M', W'.H = H ∧ W1.Le W' ∧ W'.Ok K M' ∧ Slots K W' σ' δ' ∧ i + m = ds.length ∧ forGo g b (ds.drop i) δ' M' = some o, ⟨ds.length, W1, δ, M1, rfl, .refl W1, w1, s.le l1, by omega, e⟩, ?_⟩
    rintro i m σ' H ⟨W', δ', M', rfl, l', w', s', em, e'⟩
    obtain ⟨k1, k2⟩ := wk i W' M' l'.lo w'
    cases hd : ds[i]? with
    | none =>
      have hl : ds.length ≤ i := List.getElem?_eq_none_iff.mp hd
      rw [List.drop_of_length_le hl] at e'
      cases e'
      exact .inl ⟨k1 hd, q σ' W' (l1.trans l') w' s'⟩
    | some d =>
      obtain ⟨hgo, hy⟩ := k2 d hd
      have hl : i < ds.length := (List.getElem?_eq_some_iff.mp hd).1
      have hdr : ds.drop i = d :: ds.drop (i + 1) := by
        rw [List.drop_eq_getElem_cons hl]
        congr 1
        exact Option.some.inj ((List.getElem?_eq_getElem hl).symm.trans hd)
      rw [hdr] at e'
      unfold forGo at e'
      refine .inr ⟨hgo, fun σ2 H2 => ∃ W2 δ2 M2, W2.H = H2 ∧ W1.Le W2 ∧ W2.Ok K M2 ∧ Slots K W2 σ2 δ2 ∧ forGo g b (ds.drop (i + 1)) δ2 M2 = some o, fun σ2 H2 ⟨W2, δ2, M2, a1, a2, a3, a4, a5⟩ => ⟨m - 1, by omega, W2, δ2, M2, a1, a2, a3, a4, by omega, a5⟩, fun x H' y => ?_⟩
      obtain ⟨W3, rfl, l3, w3, r3⟩ := hy x H' y
      split at e'
      · cases e'
      · rename_i δ1 h2
        refine rg x d σ' W3 δ' δ1 M' _ w3 (s'.le l3) r3 h2 fun σ3 s3 _ => ?_
        split at e'
        · rename_i δ4 M4 h3
          exact rb σ3 W3 δ1 M' _ _ w3 s3 h3 fun σ4 W4 l4 w4 s4 => ⟨W4, δ4, M4, rfl, (l'.trans l3).trans l4, w4, s4, e'⟩
        · rename_i δ4 M4 h3
          exact rb σ3 W3 δ1 M' _ _ w3 s3 h3 fun σ4 W4 l4 w4 s4 => ⟨W4, δ4, M4, rfl, (l'.trans l3).trans l4, w4, s4, e'⟩
        · rename_i δ4 M4 h3
          cases e'
          exact rb σ3 W3 δ1 M' _ _ w3 s3 h3 fun σ4 W4 l4 w4 s4 => q σ4 W4 (((l1.trans l').trans l3).trans l4) w4 s4
        · rename_i d4 M4 h3
          cases e'
          exact rb σ3 W3 δ1 M' _ _ w3 s3 h3 fun v W4 l4 w4 r4 => q v W4 (((l1.trans l').trans l3).trans l4) w4 r4
        · cases e'
  · cases e
def whN (c : TF) (b : SF) : Nat → Env → Mh → Option Out
  | 0, _, _ => none
  | n + 1, δ, M => match c δ M with
    | some (true, M1) => (match b δ M1 with
      | some (.nx δ' M') => whN c b n δ' M'
      | some (.ct δ' M') => whN c b n δ' M'
      | some (.bk δ' M') => some (.nx δ' M')
      | some (.rt d M') => some (.rt d M')
      | none => none)
    | some (false, M1) => some (.nx δ M1)
    | none => none
open Classical in
noncomputable def sWh (c : TF) (b : SF) : SF := fun δ M => if h : ∃ n o, whN c b n δ M = some o then some (Classical.choose (Classical.choose_spec h)) else none
theorem whN_mono (c : TF) (b : SF) : ∀ (n m : Nat) (δ : Env) (M : Mh) (o : Out), n ≤ m → whN c b n δ M = some o → whN c b m δ M = some o
  | 0, _, _, _, _, _, h => by cases h
  | n + 1, 0, _, _, _, hl, _ => absurd hl (by omega)
  | n + 1, m + 1, δ, M, o, hl, h => by
    unfold whN at h ⊢
    split at h
    · split at h
      · exact whN_mono c b n m _ _ o (by omega) h
      · exact whN_mono c b n m _ _ o (by omega) h
      · exact h
      · exact h
      · cases h
    · exact h
    · cases h
theorem sWh_of {c : TF} {b : SF} {n : Nat} {δ : Env} {M : Mh} {o : Out} (h : whN c b n δ M = some o) : sWh c b δ M = some o := by
  have hx : ∃ n o, whN c b n δ M = some o := ⟨n, o, h⟩
  unfold sWh
  rw [dif_pos hx]
  have h2 := Classical.choose_spec (Classical.choose_spec hx)
  have a := whN_mono c b _ (max n (Classical.choose hx)) δ M _ (Nat.le_max_right _ _) h2
  have d := whN_mono c b _ (max n (Classical.choose hx)) δ M _ (Nat.le_max_left _ _) h
  exact a.symm.trans d
theorem of_sWh {c : TF} {b : SF} {δ : Env} {M : Mh} {o : Out} (h : sWh c b δ M = some o) : ∃ n, whN c b n δ M = some o := by
  unfold sWh at h
  split at h
  · rename_i hx
    have h2 := Classical.choose_spec (Classical.choose_spec hx)
    cases h
    exact ⟨_, h2⟩
  · cases h
/-- one turn -/
theorem sWh_eq (c : TF) (b : SF) (δ : Env) (M : Mh) : sWh c b δ M = (match c δ M with
    | some (true, M1) => (match b δ M1 with
      | some (.nx δ' M') => sWh c b δ' M'
      | some (.ct δ' M') => sWh c b δ' M'
      | some (.bk δ' M') => some (.nx δ' M')
      | some (.rt d M') => some (.rt d M')
      | none => none)
    | some (false, M1) => some (.nx δ M1)
    | none => none) := by
  apply Option.ext
  intro o
  constructor
  · intro h
    obtain ⟨n, hn⟩ := of_sWh h
    cases n with
    | zero => cases hn
    | succ n =>
      unfold whN at hn
      split at hn
      · split at hn
        · exact sWh_of hn
        · exact sWh_of hn
        · exact hn
        · exact hn
        · cases hn
      · exact hn
      · cases hn
  · intro h
    split at h
    · rename_i M1 h1
      split at h
      · rename_i δ' M' h2
        obtain ⟨n, hn⟩ := of_sWh h
        refine sWh_of (n := n + 1) ?_
        unfold whN
        rw [h1]
        dsimp only
        rw [h2]
        exact hn
      · rename_i δ' M' h2
        obtain ⟨n, hn⟩ := of_sWh h
        refine sWh_of (n := n + 1) ?_
        unfold whN
        rw [h1]
        dsimp only
        rw [h2]
        exact hn
      · rename_i δ' M' h2
        refine sWh_of (n := 1) ?_
        unfold whN
        rw [h1]
        dsimp only
        rw [h2]
        exact h
      · rename_i d' M' h2
        refine sWh_of (n := 1) ?_
        unfold whN
        rw [h1]
        dsimp only
        rw [h2]
        exact h
      · cases h
    · rename_i M1 h1
      refine sWh_of (n := 1) ?_
      unfold whN
      rw [h1]
      exact h
    · cases h
theorem DS.wh {cnd : Expr} {body : List Stmt} {pos} {t : TF} {b : SF} (hp : ∀ i, PassesOwn (model (X i).prog (X i).w) (X i).A (X i).env (X i).xe) (hc : DT X K cnd t) (hb : DB X K body b) : DS X K (.While cnd body [] pos) (sWh t b) := by
  obtain ⟨tt, pt, rt⟩ := hc.go
  obtain ⟨tb, pb, rb⟩ := hb.go
  refine ⟨tWhile tt tb, fun i => ps_while (hp i) (pt i) (pb i), fun σ W δ M o E w s e q => ?_⟩
  obtain ⟨n, hn⟩ := of_sWh e
  refine ⟨fun m σ' H => ∃ W' δ' M', W'.H = H ∧ W.Le W' ∧ W'.Ok K M' ∧ Slots K W' σ' δ' ∧ whN t b m δ' M' = some o, ⟨n, W, δ, M, rfl, .refl W, w, s, hn⟩, ?_⟩
  rintro m σ' H ⟨W', δ', M', rfl, l', w', s', e'⟩
  cases m with
  | zero => cases e'
  | succ m =>
    unfold whN at e'
    split at e'
    · rename_i M1 h1
      refine rt σ' W' δ' M' _ M1 _ w' s' h1 fun W1 l1 w1 => ifT ?_
      refine ⟨fun σ2 H2 => ∃ W2 δ2 M2, W2.H = H2 ∧ W.Le W2 ∧ W2.Ok K M2 ∧ Slots K W2 σ2 δ2 ∧ whN t b m δ2 M2 = some o, fun σ2 H2 ⟨W2, δ2, M2, a1, a2, a3, a4, a5⟩ => ⟨m, by omega, W2, δ2, M2, a1, a2, a3, a4, a5⟩, ?_⟩
      split at e'
      · rename_i δ4 M4 h3
        exact rb σ' W1 δ' M1 _ _ w1 (s'.le l1) h3 fun σ4 W4 l4 w4 s4 => ⟨W4, δ4, M4, rfl, (l'.trans l1).trans l4, w4, s4, e'⟩
      · rename_i δ4 M4 h3
        exact rb σ' W1 δ' M1 _ _ w1 (s'.le l1) h3 fun σ4 W4 l4 w4 s4 => ⟨W4, δ4, M4, rfl, (l'.trans l1).trans l4, w4, s4, e'⟩
      · rename_i δ4 M4 h3
        cases e'
        exact rb σ' W1 δ' M1 _ _ w1 (s'.le l1) h3 fun σ4 W4 l4 w4 s4 => q σ4 W4 ((l'.trans l1).trans l4) w4 s4
      · rename_i d4 M4 h3
        cases e'
        exact rb σ' W1 δ' M1 _ _ w1 (s'.le l1) h3 fun v W4 l4 w4 r4 => q v W4 ((l'.trans l1).trans l4) w4 r4
      · cases e'
    · rename_i M1 h1
      cases e'
      exact rt σ' W' δ' M' _ _ _ w' s' h1 fun W1 l1 w1 => ifF (q σ' W1 (l'.trans l1) w1 (s'.le l1))
    · cases e'
end
end Pl
namespace Pl
open PySem L2
section
variable {I : Type} {X : I → Cx} {P : Program} {w : World} {K : PySem.W.Frag} {mg : Str → Option Value} {base : Heap} {k : Nat}
/-- the block's contexts -/
def blkF (X : I → Cx) (scope : Scope) (j : I × Shared × Hp × Addr × List (Str × Addr) × List Addr) : Cx := (X j.1).blk j.2.1 j.2.2.1 scope (compEnvC scope j.2.2.2.2.1 j.2.2.2.1 (X j.1).env) j.2.2.2.2.2
theorem Ctx.blk (c : Ctx X P w K mg base k) (scope : Scope) : Ctx (blkF X scope) P w K mg base k :=
  ⟨fun j => c.prog j.1, fun j => c.wd j.1, fun j => c.K j.1, fun j => c.mg j.1, fun j => c.base j.1, fun j => c.room j.1, fun j => c.grd j.1, fun j => c.calm j.1⟩
structure DTs (X : I → Cx) (K : PySem.W.Frag) (ifs : List Expr) (f : TF) : Prop where
  go : ∃ t : TT, (∀ i, PTs (X i) ifs t) ∧ TR K t f
def tTrue : TF := fun _ M => some (true, M)
theorem DTs.nil : DTs X K [] tTrue := ⟨tYes, fun i => pts_nil, fun σ W δ M b M' Q w s e q => by
  cases e
  exact q W (.refl W) w⟩
theorem DTs.one {e : Expr} {f : TF} (h : DT X K e f) : DTs X K [e] f := by
  obtain ⟨t, p, r⟩ := h.go
  exact ⟨t, fun i => pts_one (p i), r⟩
def wipeD (δ : Env) : List Nat → Env
  | [] => δ
  | v :: vs => (wipeD δ vs).set v none
theorem Slots.wipe {W : Wd} {σ : St} {δ : Env} (s : Slots K W σ δ) : ∀ vs : List Nat, Slots K W (wipe σ vs) (wipeD δ vs)
  | [] => s
  | v :: vs => by
    have ih := s.wipe vs
    refine ⟨?_, fun i d h => ?_⟩
    · show ((L2.wipe σ vs).set v none).length = ((wipeD δ vs).set v none).length
      rw [List.length_set, List.length_set]
      exact ih.len
    · have h' : ((wipeD δ vs).set v none)[i]? = some (some d) := h
      show ∃ u, ((L2.wipe σ vs).set v none)[i]? = some (some u) ∧ _
      rw [List.getElem?_set] at h' ⊢
      by_cases e : v = i
      · rw [if_pos e] at h'
        split at h' <;> cases h'
      · rw [if_neg e] at h' ⊢
        exact ih.at_ i d h'
def lcGo (g : GF) (t : TF) (f : EF) : List D → Env → Mh → Option (List D × Mh)
  | [], _, M => some ([], M)
  | x :: xs, δ, M => match g x δ with
    | none => none
    | some δ1 => match t δ1 M with
      | some (true, M1) => (match f δ1 M1 with
        | some (y, M2) => (match lcGo g t f xs δ M2 with
          | some (ys, M3) => some (y :: ys, M3)
          | none => none)
        | none => none)
      | some (false, M1) => lcGo g t f xs δ M1
      | none => none
def eLc (vs : List Nat) (a : AF) (g : GF) (t : TF) (f : EF) : EF := fun δ M => match a δ M with
  | some (ds, M1) => (match lcGo g t f ds (wipeD δ vs) M1 with
    | some (ys, M2) => if ys.length ≤ sizeLine then some (.lst ys, M2) else none
    | none => none)
  | none => none
/-- the world while a list is made at p -/
def Wd.mk' (W : Wd) (H : Hp) (P : Hp) : Wd := ⟨H, W.B, W.ι, P⟩
theorem Slots.cong {W W' : Wd} {σ : St} {δ : Env} (s : Slots K W σ δ) (h1 : W'.B = W.B) (h2 : W'.ι = W.ι) : Slots K W' σ δ := ⟨s.len, fun i d h => by
  rw [h1, h2]
  exact s.at_ i d h⟩
theorem Wd.hold_put {W : Wd} {M : Mh} {p : Addr} {o o' : HO} (w : W.Ok K M) (hp : W.P p = some o) : (⟨upd W.H p o', W.B, W.ι, upd W.P p o'⟩ : Wd).Ok K M := by
  have ne : ∀ {n a u}, Live W M n a u → a ≠ p := fun {n a u} h e => by
    obtain ⟨_, q, _⟩ := w.live n a u h
    rw [e, hp] at q
    cases q
  have bp := (w.pin p o hp).2
  refine ⟨fun a u h => ?_, fun a u h => ?_, w.len, fun n a u h => ?_, fun n m a u v h k => w.inj n m a u v h k⟩
  · exact (upd_ne (fun e => by
      rw [e] at h
      have h' : W.B p = some u := h
      rw [bp] at h'
      cases h')).trans (w.sub a u h)
  · by_cases e : a = p
    · subst e
      have h' : upd W.P a o' a = some u := h
      rw [upd_same] at h'
      exact ⟨upd_same.trans h', bp⟩
    · have h' : upd W.P p o' a = some u := h
      rw [upd_ne e] at h'
      have q := w.pin a u h'
      exact ⟨(upd_ne e).trans q.1, q.2⟩
  · obtain ⟨h1, h2, k, h3, h4⟩ := w.live n a u h
    exact ⟨h1, (upd_ne (ne h)).trans h2, k, (upd_ne (ne h)).trans h3, h4⟩
theorem Wd.unhold {W : Wd} {M : Mh} {p : Addr} {o : HO} {P0 : Hp} (w : W.Ok K M) (hP : W.P = upd P0 p o) (h0 : P0 p = none) : (⟨W.H, upd W.B p o, W.ι, P0⟩ : Wd).Ok K M := by
  have hp : W.P p = some o := by rw [hP, upd_same]
  have ne : ∀ {n a u}, Live W M n a u → a ≠ p := fun {n a u} h e => by
    obtain ⟨_, q, _⟩ := w.live n a u h
    rw [e, hp] at q
    cases q
  have bp := (w.pin p o hp)
  refine ⟨fun a u h => ?_, fun a u h => ?_, w.len, fun n a u h => ?_, fun n m a u v h k => w.inj n m a u v h k⟩
  · by_cases e : a = p
    · subst e
      have h' : upd W.B a o a = some u := h
      rw [upd_same] at h'
      cases h'
      exact bp.1
    · have h' : upd W.B p o a = some u := h
      rw [upd_ne e] at h'
      exact w.sub a u h'
  · have h' : P0 a = some u := h
    have e : a ≠ p := fun e => by
      rw [e, h0] at h'
      cases h'
    have q := w.pin a u (by rw [hP, upd_ne e]; exact h')
    exact ⟨q.1, (upd_ne e).trans q.2⟩
  · obtain ⟨h1, h2, k, h3, h4⟩ := w.live n a u h
    have e := ne h
    rw [hP, upd_ne e] at h2
    exact ⟨(upd_ne e).trans h1, h2, k, h3, h4.mono (updk bp.2) fun _ _ q => q⟩
theorem wipe_twice (σ : St) : ∀ vs : List Nat, L2.wipe (L2.wipe σ vs) vs = L2.wipe σ vs := fun vs => by
  have h : ∀ us : List Nat, (∀ j ∈ us, j ∈ vs) → L2.wipe (L2.wipe σ us) vs = L2.wipe σ vs := fun us => by
    induction us with
    | nil => exact fun _ => rfl
    | cons u us ih =>
      intro hu
      show L2.wipe ((L2.wipe σ us).set u none) vs = _
      rw [(wipe_set _ none u vs).1 (hu u List.mem_cons_self)]
      exact ih fun j hj => hu j (List.mem_cons_of_mem _ hj)
  exact h vs fun _ z => z
/-- the reading of a comprehension, from its parts' -/
theorem lc_er {ti : TI} {tg : TG} {tt : TT} {te : TE} {vs : List Nat} {a : AF} {g : GF} {t : TF} {f : EF} {sl : List Nat}
    (ri : ∀ (σ : St) (W : Wd) (δ : Env) (M : Mh) (ds : List D) (M' : Mh) (R : It → Hp → Prop), W.Ok K M → Slots K W σ δ → a δ M = some (ds, M') → (∀ J W', W.Le W' → W'.Ok K M' → Wk K J W' ds → R J W'.H) → ti σ W.H R)
    (rg : GR K tg g sl) (hsl : ∀ j ∈ sl, j ∈ vs) (rt : TR K tt t) (re : ER K te f) : ER K (tLc ti tg tt te vs) (eLc vs a g t f) := fun σ W δ M d M' Q w s e q => by
  unfold eLc at e
  split at e
  · rename_i ds M1 h1
    split at e
    · rename_i fin M2 h2
      split at e
      · rename_i hlen
        cases e
        refine ri σ W δ M ds M1 _ w s h1 fun J W1 l1 w1 wk => fun p hp => ?_
        have P0 : W1.P p = none := w1.pnone hp
        have B0 : W1.B p = none := w1.bnone hp
        refine ⟨fun i m H => ∃ (W' : Wd) (N : Mh) (acc : List V) (ac ys : List D), W'.H = H ∧ W1.Le (W'.mk' W'.H W1.P) ∧ W'.P = upd W1.P p (.lst acc) ∧ W'.Ok K N ∧ RepL K W'.B W'.ι acc ac ∧ i + m = ds.length ∧ lcGo g t f (ds.drop i) (wipeD δ vs) N = some (ys, M') ∧ ac ++ ys = fin,
          ⟨ds.length, W1.hold p (.lst []), M1, [], [], fin, rfl, ⟨fun _ _ h => h, ⟨[], by simp [Wd.mk', Wd.hold]⟩, rfl⟩, rfl, Wd.hold_ok w1 hp, .nil, by omega, h2, rfl⟩, ?_⟩
        rintro i m H ⟨W', N, acc, ac, ys, rfl, l', hP, w', ra, em, e', ef⟩
        obtain ⟨k1, k2⟩ := wk i W' N ⟨l'.same, l'.pre⟩ w'
        cases hd : ds[i]? with
        | none =>
          have hl : ds.length ≤ i := List.getElem?_eq_none_iff.mp hd
          rw [List.drop_of_length_le hl] at e'
          cases e'
          rw [List.append_nil] at ef
          subst ef
          have u := Wd.unhold w' hP P0
          refine .inl ⟨k1 hd, q _ ⟨W'.H, upd W'.B p (.lst acc), W'.ι, W1.P⟩ (l1.trans ⟨fun b o h => ?_, l'.pre, rfl⟩) u (.lst upd_same (ra.mono (updk (w'.pin p (.lst acc) (by rw [hP, upd_same])).2) fun _ _ z => z))⟩
          have hb : b ≠ p := fun z => by
            rw [z, B0] at h
            cases h
          show upd W'.B p (.lst acc) b = some o
          rw [upd_ne hb]
          exact l'.same b o h
        | some x0 =>
          obtain ⟨hgo, hy⟩ := k2 x0 hd
          have hl : i < ds.length := (List.getElem?_eq_some_iff.mp hd).1
          have hdr : ds.drop i = x0 :: ds.drop (i + 1) := by
            rw [List.drop_eq_getElem_cons hl]
            congr 1
            exact Option.some.inj ((List.getElem?_eq_getElem hl).symm.trans hd)
          rw [hdr] at e'
          unfold lcGo at e'
          refine .inr ⟨hgo, fun H2 => ∃ (W2 : Wd) (N2 : Mh) (acc2 : List V) (ac2 ys2 : List D), W2.H = H2 ∧ W1.Le (W2.mk' W2.H W1.P) ∧ W2.P = upd W1.P p (.lst acc2) ∧ W2.Ok K N2 ∧ RepL K W2.B W2.ι acc2 ac2 ∧ lcGo g t f (ds.drop (i + 1)) (wipeD δ vs) N2 = some (ys2, M') ∧ ac2 ++ ys2 = fin,
            fun H2 ⟨W2, N2, acc2, ac2, ys2, a1, a2, a3, a4, a5, a6, a7⟩ => ⟨m - 1, by omega, W2, N2, acc2, ac2, ys2, a1, a2, a3, a4, a5, by omega, a6, a7⟩, fun x H' y => ?_⟩
          obtain ⟨W3, rfl, l3, w3, r3⟩ := hy x H' y
          have sw : Slots K W3 (L2.wipe σ vs) (wipeD δ vs) := ((((s.le l1).wipe vs).le l').cong (W' := W') rfl rfl).le l3
          have up : ∀ {W4 : Wd}, W'.Le W4 → W1.Le (W4.mk' W4.H W1.P) := fun {W4} l => l'.trans ⟨l.same, l.pre, rfl⟩
          split at e'
          · cases e'
          · rename_i δ1 h3
            refine rg x x0 _ W3 _ δ1 N _ w3 sw r3 h3 fun σ3 s3 hw => ⟨(hw vs hsl).trans ?_, ?_⟩
            · exact wipe_twice σ vs
            · split at e'
              · rename_i N1 h4
                refine rt σ3 W3 δ1 N _ N1 _ w3 s3 h4 fun W4 l4 w4 => ifT ?_
                split at e'
                · rename_i y0 N2 h5
                  split at e'
                  · rename_i ys2 N3 h6
                    cases e'
                    refine re σ3 W4 δ1 N1 y0 N2 _ w4 (s3.le l4) h5 fun v W5 l5 w5 r5 => ?_
                    have l35 : W'.Le W5 := (l3.trans l4).trans l5
                    have p5 : W5.P = upd W1.P p (.lst acc) := l35.pp.trans hP
                    have p5' : W5.P p = some (.lst acc) := by rw [p5, upd_same]
                    have ra5 := ra.le l35
                    refine ⟨acc, (w5.pin p _ p5').1, ?_, ⟨upd W5.H p (.lst (acc ++ [v])), W5.B, W5.ι, upd W5.P p (.lst (acc ++ [v]))⟩, N2, acc ++ [v], ac ++ [y0], ys2, rfl, l'.trans ⟨l35.same, l35.pre, rfl⟩, ?_, Wd.hold_put w5 p5', ra5.append (.cons r5 .nil), h6, ?_⟩
                    · have := ra.len
                      have h7 := congrArg List.length ef
                      rw [List.length_append, List.length_cons] at h7
                      omega
                    · show upd W5.P p _ = _
                      rw [p5, upd_upd]
                    · rw [List.append_assoc]
                      exact ef
                  · cases e'
                · cases e'
              · rename_i N1 h4
                refine rt σ3 W3 δ1 N _ N1 _ w3 s3 h4 fun W4 l4 w4 => ifF ?_
                have l34 : W'.Le W4 := l3.trans l4
                exact ⟨W4, N1, acc, ac, ys, rfl, up l34, l34.pp.trans hP, w4, ra.le l34, e', ef⟩
              · cases e'
      · cases e
    · cases e
  · cases e
theorem DE.lc (c : Ctx X P w K mg base k) {elt tg iter : Expr} {ifs : List Expr} {scope : Scope} {own : List (Str × Nat)} {pos} {a : AF} {g : GF} {t : TF} {f : EF} {sl : List Nat} (hN : ∀ i, (X i).N.Nodup) (hi : DI X K tg iter a) (ok : ∀ i, BlkOk (X i).N (X i).env.scope scope own)
    (hg : DG (blkF X scope) K tg g sl) (hsl : ∀ j ∈ sl, j ∈ own.map (·.2)) (ht : DTs (blkF X scope) K ifs t) (he : DE (blkF X scope) K elt f) (hs : ∀ i x, foldedSetIterable iter (X i).env x = pure x := by intro _ _; rfl) :
    DE X K (.ListComp elt [⟨tg, iter, ifs, 0⟩] scope pos) (eLc (own.map (·.2)) a g t f) := by
  obtain ⟨ti, pi, ri⟩ := hi.go
  obtain ⟨tg', pg, rg⟩ := hg.go
  obtain ⟨tt, pt, rt⟩ := ht.go
  obtain ⟨te, pe, re⟩ := he.go
  refine ⟨tLc ti tg' tt te (own.map (·.2)), fun i => pe_lc (c.calm i) (hN i) (pi i) (ok i) (fun s H C cl fp => pg (i, s, H, C, cl, fp)) (fun s H C cl fp => pt (i, s, H, C, cl, fp)) (fun s H C cl fp => pe (i, s, H, C, cl, fp)) (hs i), fun σ W δ M d M' Q w s e q => ?_⟩
  exact lc_er ri rg hsl rt re σ W δ M d M' Q w s e q
theorem DS.setLc (j : Nat) (c : Ctx X P w K mg base k) {y : Str} {py : Pos} {elt tg iter : Expr} {ifs : List Expr} {scope : Scope} {own : List (Str × Nat)} {pos spos} {a : AF} {g : GF} {t : TF} {f : EF} {sl : List Nat} (hN : ∀ i, (X i).N.Nodup) (hi : DI X K tg iter a) (ok : ∀ i, BlkOk (X i).N (X i).env.scope scope own)
    (hg : DG (blkF X scope) K tg g sl) (hsl : ∀ j ∈ sl, j ∈ own.map (·.2)) (ht : DTs (blkF X scope) K ifs t) (he : DE (blkF X scope) K elt f) (hs : ∀ i x, foldedSetIterable iter (X i).env x = pure x := by intro _ _; rfl)
    (hy : ∀ i, (X i).N[j]? = some y := by intro _; rfl) (hyl : ∀ i, (X i).env.scope.names.lookup y = some .local := by intro _; rfl) (hsw : ∀ i, swapsWith (.ListComp elt [⟨tg, iter, ifs, 0⟩] scope pos) (some (.Name y py)) spos.line (X i).env = pure true := by intro _; exact sw_true rfl rfl rfl (by decide +kernel)) :
    DS X K (.Assign [.Name y py] (.ListComp elt [⟨tg, iter, ifs, 0⟩] scope pos) spos) (sAs (eLc (own.map (·.2)) a g t f) (gN j)) := by
  obtain ⟨ti, pi, ri⟩ := hi.go
  obtain ⟨tg', pg, rg⟩ := hg.go
  obtain ⟨tt, pt, rt⟩ := ht.go
  obtain ⟨te, pe, re⟩ := he.go
  refine ⟨tAsg (tLc ti tg' tt te (own.map (·.2))) (gName j), fun i => ps_setLc (c.calm i) (hN i) (hy i) (hyl i) (hsw i) (pi i) (ok i) (fun s H C cl fp => pg (i, s, H, C, cl, fp)) (fun s H C cl fp => pt (i, s, H, C, cl, fp)) (fun s H C cl fp => pe (i, s, H, C, cl, fp)) (hs i), sr_as (sl := [j]) (lc_er ri rg hsl rt re) fun v d σ W δ δ' M Q w s r e q => ?_⟩
  cases e
  exact q _ (s.set r j) fun vs h => (wipe_set σ _ j vs).1 (h j List.mem_cons_self)
end
end Pl
namespace Pl
open PySem L2
section
variable {I : Type} {X : I → Cx} {P : Program} {w : World} {K : PySem.W.Frag} {mg : Str → Option Value} {base : Heap} {k : Nat}
def gInt (h : Int → Int → D) : O2 := fun a b M => match a, b with
  | .int i, .int j => some (h i j, M)
  | _, _ => none
theorem od_int0 {g : Int → Int → V} {h : Int → Int → D} (r : ∀ B ι i j, Rep K B ι (g i j) (h i j)) : OD K (rI0 g) (gInt h) := fun W M x y a b z M' Q w ra rb e q => by
  unfold gInt at e
  split at e
  · cases ra
    cases rb
    cases e
    exact ⟨_, _, rfl, rfl, q _ W (.refl W) w (r _ _ _ _)⟩
  · cases e
theorem opSub : OpF X K (binaryOp .Sub) (gInt fun i j => .int (i - j)) := ⟨_, fun _ => op_sub, od_int0 fun _ _ _ _ => .int _⟩
theorem opLt : OpF X K (compareOp .Lt) (gInt fun i j => .bl (decide (i < j))) := ⟨_, fun _ => op_lt, od_int0 fun _ _ _ _ => .bl _⟩
theorem opLe : OpF X K (compareOp .LtE) (gInt fun i j => .bl (decide (i ≤ j))) := ⟨_, fun _ => op_le, od_int0 fun _ _ _ _ => .bl _⟩
theorem opGt : OpF X K (compareOp .Gt) (gInt fun i j => .bl (decide (j < i))) := ⟨_, fun _ => op_gt, od_int0 fun _ _ _ _ => .bl _⟩
theorem opGe : OpF X K (compareOp .GtE) (gInt fun i j => .bl (decide (j ≤ i))) := ⟨_, fun _ => op_ge, od_int0 fun _ _ _ _ => .bl _⟩
def gIntC (C : Int → Int → Prop) [∀ i j, Decidable (C i j)] (h : Int → Int → D) : O2 := fun a b M => match a, b with
  | .int i, .int j => if C i j then some (h i j, M) else none
  | _, _ => none
theorem od_intC {C : Int → Int → Prop} [∀ i j, Decidable (C i j)] {C' : Int → Int → Prop} {g : Int → Int → V} {h : Int → Int → D} (hc : ∀ i j, C i j → C' i j) (r : ∀ B ι i j, Rep K B ι (g i j) (h i j)) : OD K (rI C' g) (gIntC C h) := fun W M x y a b z M' Q w ra rb e q => by
  unfold gIntC at e
  split at e
  · split at e
    · rename_i c
      cases ra
      cases rb
      cases e
      exact ⟨_, _, rfl, rfl, hc _ _ c, q _ W (.refl W) w (r _ _ _ _)⟩
    · cases e
  · cases e
abbrev MulOk (i j : Int) : Prop := (Builtin.Int.intBits i : Int) + (Builtin.Int.intBits j : Int) ≤ 134217728
theorem mulOk {i j : Int} {a b : Nat} (ha : i.natAbs < 2 ^ a) (hb : j.natAbs < 2 ^ b) (h : a + b ≤ 134217728) : MulOk i j := mulx_ok ha hb h
abbrev DivOk (_ j : Int) : Prop := j ≠ 0 ∧ j.natAbs.log2 < 9000
theorem divOk {i j : Int} {b : Nat} (h : j ≠ 0) (hb : j.natAbs < 2 ^ b) (h0 : 0 < b) (h9 : b ≤ 9000) : DivOk i j := ⟨h, Nat.lt_of_lt_of_le (PySem.Flt.log2_lt_of h0 hb) h9⟩
theorem op_fdivG {Y : Cx} : OpR Y (binaryOp .FloorDiv) (rI DivOk fun i j => .int (i.fdiv j)) := opI fun i j _ _ _ _ _ hc q =>
  PyProof.Rows.floordiv_int hc.1 q (.inl (PyProof.noPylong_of_log2 hc.2))
theorem opDiv : OpF X K (binaryOp .FloorDiv) (gIntC DivOk fun i j => .int (i.fdiv j)) := ⟨_, fun _ => op_fdivG, od_intC (fun _ _ h => h) fun _ _ _ _ => .int _⟩
theorem opMod : OpF X K (binaryOp .Mod) (gIntC (fun _ j => j ≠ 0) fun i j => .int (i.fmod j)) := ⟨_, fun _ => op_modN, od_intC (fun _ _ h => h) fun _ _ _ _ => .int _⟩
abbrev PowOk (i j : Int) : Prop := 0 ≤ j ∧ j ≤ 1000000 ∧ i.natAbs < 2 ^ 64
theorem opPow : OpF X K (binaryOp .Pow) (gIntC PowOk fun i j => .int (i ^ j.toNat)) := ⟨_, fun _ => op_pow, od_intC (fun _ _ h => h) fun _ _ _ _ => .int _⟩
def eUn (g : O1) (f : EF) : EF := fun δ M => match f δ M with
  | some (d, M1) => g d M1
  | none => none
def gNeg : O1 := fun a M => match a with
  | .int i => some (.int (-i), M)
  | _ => none
theorem DE.neg {a : Expr} {pos} {f : EF} (h : DE X K a f) : DE X K (.UnaryOp .USub a pos) (eUn gNeg f) := by
  obtain ⟨t, p, r⟩ := h.go
  refine ⟨_, fun i => pe_un un_neg (p i), fun σ W δ M d M' Q w s e q => ?_⟩
  unfold eUn at e
  split at e
  · rename_i d1 M1 h1
    unfold gNeg at e
    split at e
    · cases e
      refine r σ W δ M _ _ _ w s h1 fun v W1 l1 w1 r1 => ?_
      cases r1
      exact ⟨_, rfl, q _ W1 l1 w1 (.int _)⟩
    · cases e
  · cases e
mutual
def toP : D → Option PyData
  | .non => some .none
  | .bl b => some (.bool b)
  | .int i => some (.int i)
  | .str x => some (.str x)
  | .tup xs => (match toPs xs with
    | some ps => some (.tuple ps)
    | none => none)
  | .lst xs => (match toPs xs with
    | some ps => some (.list ps)
    | none => none)
  | .lsk xs => (match toPs xs with
    | some ps => some (.list ps)
    | none => none)
  | .ty _ => none
  | .ob _ => none
  | .ref _ => none
  | .lam _ _ _ _ _ => none
  | .dcf _ _ => none
def toPs : List D → Option (List PyData)
  | [] => some []
  | x :: xs => (match toP x with
    | some p => (match toPs xs with
      | some ps => some (p :: ps)
      | none => none)
    | none => none)
end
mutual
theorem Rep.dp {B H : Hp} {ι : List Addr} (s : ∀ b o, B b = some o → H b = some o) : ∀ {v : V} {d : D} {p : PyData}, Rep K B ι v d → toP d = some p → Dp K H v p
  | _, _, _, .non, e => by cases e; exact .non
  | _, _, _, .bl b, e => by cases e; exact .bl b
  | _, _, _, .int b, e => by cases e; exact .int b
  | _, _, _, .str b, e => by cases e; exact .str b
  | _, _, _, .ty b, e => by cases e
  | _, _, _, .ob b, e => by cases e
  | _, _, _, .ref b, e => by cases e
  | _, _, _, .lam _ _, e => by cases e
  | _, _, _, .dcf _ _ _ _, e => by cases e
  | _, _, _, .tup h r, e => by
    unfold toP at e
    split at e
    · rename_i ps h2
      cases e
      exact .tup (sqT_mono s h) (RepL.dp s r h2)
    · cases e
  | _, _, _, .lst h r, e => by
    unfold toP at e
    split at e
    · rename_i ps h2
      cases e
      exact .lst (.inl (.inl (s _ _ h))) (RepL.dp s r h2)
    · cases e
  | _, _, _, .lsk h r, e => by
    unfold toP at e
    split at e
    · rename_i ps h2
      cases e
      exact .lst (sqL_mono s h) (RepL.dp s r h2)
    · cases e
theorem RepL.dp {B H : Hp} {ι : List Addr} (s : ∀ b o, B b = some o → H b = some o) : ∀ {v : List V} {d : List D} {p : List PyData}, RepL K B ι v d → toPs d = some p → DpAll K H v p
  | _, _, _, .nil, e => by cases e; exact .nil
  | _, _, _, .cons h r, e => by
    unfold toPs at e
    split at e
    · rename_i p h2
      split at e
      · rename_i ps h3
        cases e
        exact .cons (Rep.dp s h h2) (RepL.dp s r h3)
      · cases e
    · cases e
end
def deref (M : Mh) : D → D
  | .ref n => (match M[n]? with
    | some (.lst xs) => .lst xs
    | _ => .ref n)
  | d => d
theorem dp_of {W : Wd} {M : Mh} {v : V} {d : D} {p : PyData} (w : W.Ok K M) (r : Rep K W.B W.ι v d) (h : toP (deref M d) = some p) : Dp K W.H v p := by
  cases r with
  | ref hi =>
    rename_i a n
    unfold deref at h
    dsimp only at h
    split at h
    · rename_i xs hm
      obtain ⟨_, _, o, ho, ro⟩ := w.live _ _ _ ⟨hi, hm, fun z => by cases z⟩
      cases ro with
      | lst r1 =>
        unfold toP at h
        split at h
        · rename_i ps h2
          cases h
          exact .lst (.inl (.inl ho)) (r1.dp w.sub h2)
        · cases h
    · cases h
  | non => exact Rep.dp (d := .non) (B := W.B) (ι := W.ι) w.sub .non h
  | bl b => exact Rep.dp (B := W.B) (ι := W.ι) w.sub (.bl b) h
  | int b => exact Rep.dp (B := W.B) (ι := W.ι) w.sub (.int b) h
  | str b => exact Rep.dp (B := W.B) (ι := W.ι) w.sub (.str b) h
  | ty b => cases h
  | ob b => cases h
  | lam _ _ => cases h
  | dcf _ _ _ _ => cases h
  | tup h1 r1 => exact Rep.dp w.sub (.tup h1 r1) h
  | lst h1 r1 => exact Rep.dp w.sub (.lst h1 r1) h
  | lsk h1 r1 => exact Rep.dp w.sub (.lsk h1 r1) h
def gEq (h : PyData → PyData → Bool) : O2 := fun a b M => match toP (deref M a), toP (deref M b) with
  | some p, some q => if SeqAt.shaped p && SeqAt.shaped q then some (.bl (h p q), M) else none
  | _, _ => none
theorem opEq (c : Ctx X P w K mg base k) : OpF X K (compareOp .Eq) (gEq PyData.eqv) := ⟨rEqD K, fun i => by
  have := op_eqD (X := X i) (c.room i).units
  rw [c.K i] at this
  exact this, fun W M x y a b z M' Q w ra rb e q => by
  unfold gEq at e
  split at e
  · rename_i p p' h1 h2
    split at e
    · rename_i hs
      cases e
      rw [Bool.and_eq_true] at hs
      exact ⟨p, p', dp_of w ra h1, dp_of w rb h2, hs.1, hs.2, q _ W (.refl W) w (.bl _)⟩
    · cases e
  · cases e⟩
theorem opNe (c : Ctx X P w K mg base k) : OpF X K (compareOp .NotEq) (gEq fun p q => !PyData.eqv p q) := ⟨rNeD K, fun i => by
  have := op_neD (X := X i) (c.room i).units
  rw [c.K i] at this
  exact this, fun W M x y a b z M' Q w ra rb e q => by
  unfold gEq at e
  split at e
  · rename_i p p' h1 h2
    split at e
    · rename_i hs
      cases e
      rw [Bool.and_eq_true] at hs
      exact ⟨p, p', dp_of w ra h1, dp_of w rb h2, hs.1, hs.2, q _ W (.refl W) w (.bl _)⟩
    · cases e
  · cases e⟩
theorem RepL.atI {B : Hp} {ι : List Addr} {vs : List V} {ds : List D} {i : Int} {d : D} (r : RepL K B ι vs ds) (h : L2.atI ds i = some d) : ∃ v, L2.atI vs i = some v ∧ Rep K B ι v d := by
  unfold L2.atI at h ⊢
  rw [r.len]
  cases e : ixN ds.length i with
  | none =>
    rw [e] at h
    cases h
  | some j =>
    rw [e] at h
    exact r.get (i := j) h
def gIx : O2 := fun a b M => match b with
  | .int i => (match a with
    | .tup xs => (L2.atI xs i).map fun d => (d, M)
    | .lst xs => (L2.atI xs i).map fun d => (d, M)
    | .lsk xs => (L2.atI xs i).map fun d => (d, M)
    | .ref n => (match M[n]? with
      | some (.lst xs) => (L2.atI xs i).map fun d => (d, M)
      | _ => none)
    | .str z => if z.length ≤ sizeLine then (L2.atI z.cps.toList i).map fun c => (.str ⟨#[c]⟩, M) else none
    | _ => none)
  | _ => none
theorem od_ix : OD K (rIx K) gIx := fun W M x y a b z M' Q w ra rb e q => by
  unfold gIx at e
  split at e
  · rename_i i
    cases rb
    split at e
    · rename_i xs
      cases h : L2.atI xs i with
      | none =>
        rw [h] at e
        cases e
      | some d =>
        rw [h] at e
        cases e
        cases ra with
        | tup h1 r1 =>
          obtain ⟨v, hv, rv⟩ := r1.atI h
          exact .inr (.inl ⟨_, _, _, v, rfl, rfl, sqT_mono w.sub h1, hv, q v W (.refl W) w rv⟩)
    · rename_i xs
      cases h : L2.atI xs i with
      | none =>
        rw [h] at e
        cases e
      | some d =>
        rw [h] at e
        cases e
        cases ra with
        | lst h1 r1 =>
          obtain ⟨v, hv, rv⟩ := r1.atI h
          exact .inl ⟨_, _, _, v, rfl, rfl, .inl (.inl (w.sub _ _ h1)), hv, q v W (.refl W) w rv⟩
    · rename_i xs
      cases h : L2.atI xs i with
      | none =>
        rw [h] at e
        cases e
      | some d =>
        rw [h] at e
        cases e
        cases ra with
        | lsk h1 r1 =>
          obtain ⟨v, hv, rv⟩ := r1.atI h
          exact .inl ⟨_, _, _, v, rfl, rfl, sqL_mono w.sub h1, hv, q v W (.refl W) w rv⟩
    · rename_i n
      split at e
      · rename_i xs hm
        cases h : L2.atI xs i with
        | none =>
          rw [h] at e
          cases e
        | some d =>
          rw [h] at e
          cases e
          cases ra with
          | ref h1 =>
            obtain ⟨_, _, o, ho, ro⟩ := w.live n _ _ ⟨h1, hm, fun z => by cases z⟩
            cases ro with
            | lst r1 =>
              obtain ⟨v, hv, rv⟩ := r1.atI h
              exact .inl ⟨_, _, _, v, rfl, rfl, .inl (.inl ho), hv, q v W (.refl W) w rv⟩
      · cases e
    · rename_i z0
      split at e
      · rename_i hz
        cases h : L2.atI z0.cps.toList i with
        | none =>
          rw [h] at e
          cases e
        | some c =>
          rw [h] at e
          cases e
          cases ra
          exact .inr (.inr ⟨_, _, _, rfl, rfl, hz, h, q _ W (.refl W) w (.str _)⟩)
      · cases e
    · cases e
  · cases e
theorem DE.ix (c : Ctx X P w K mg base k) {a b : Expr} {pos} {f g : EF} (ha : DE X K a f) (hb : DE X K b g) (hs : PlainIx b := by exact fun _ _ => rfl) : DE X K (.Subscript a b pos) (eOp gIx f g) := by
  obtain ⟨ta, pa, ra⟩ := ha.go
  obtain ⟨tb, pb, rb⟩ := hb.go
  refine ⟨tOp (rIx K) ta tb, fun i => ?_, er_op od_ix ra rb⟩
  have h := pe_ix (ix_seq (X := X i)) (pa i) (pb i) hs (pos := pos)
  rw [c.K i] at h
  exact h
end
end Pl
namespace Pl
open PySem L2
open PyProof.Rows (envOfC)
def spD (K : PySem.W.Frag) (n : Nat) (F : Fn) (vs : List V) (H : Hp) (Q : VK) : Prop :=
  ∃ W M ds d M', W.H = H ∧ W.Ok K M ∧ RepL K W.B W.ι vs ds ∧ ds.length = n ∧ F ds M = some (d, M') ∧ VR K W d M' Q
structure DFn (P : Program) (w : World) (K : PySem.W.Frag) (mg : Str → Option Value) (base : Heap) (k : Nat) (f : Addr) (fd : FuncData) (ps : List Str) (F : Fn) : Prop where
  run : ∀ (A : Around) (outer : List PySem.Env) (s : Shared) (H : Hp) (args : Args) (us : List Value) (vs : List V) (Q : VK), Room k A → A.guards = some [] → Env0 P w K mg base A outer s H → BindsTo s fd args (ps.zip us) → Vals vs us →
    spD K ps.length F vs H Q → codeAny (model P w) A (.call (.ref f) args) (CR CX0 outer P w H s Q E0) s
theorem DFn.mono {P : Program} {w : World} {K : PySem.W.Frag} {mg : Str → Option Value} {base : Heap} {j k : Nat} {f : Addr} {fd : FuncData} {ps : List Str} {F : Fn} (h : DFn P w K mg base j f fd ps F) (l : j ≤ k) : DFn P w K mg base k f fd ps F :=
  ⟨fun A outer s H args us vs Q r g => h.run A outer s H args us vs Q (r.mono l) g⟩
/-- the same values, told otherwise -/
theorem DFn.imp {P : Program} {w : World} {K : PySem.W.Frag} {mg : Str → Option Value} {base : Heap} {k : Nat} {f : Addr} {fd : FuncData} {ps : List Str} {F G : Fn} (h : DFn P w K mg base k f fd ps F) (l : ∀ ds M d M', G ds M = some (d, M') → F ds M = some (d, M')) : DFn P w K mg base k f fd ps G :=
  ⟨fun A outer s H args us vs Q r g e b v ⟨W, M, ds, d, M', a1, a2, a3, a4, a5, a6⟩ => h.run A outer s H args us vs Q r g e b v ⟨W, M, ds, d, M', a1, a2, a3, a4, l _ _ _ _ a5, a6⟩⟩
section
variable {I : Type} {X : I → Cx} {P : Program} {w : World} {K : PySem.W.Frag} {mg : Str → Option Value} {base : Heap} {k : Nat}
/-- the callee runs -/
theorem run_dfn {Y : Cx} {pins : List (Addr × Obj)} {σ : L2.St} {H : Hp} {s : Shared} {Q : VK} {f : Addr} {fd : FuncData} {ps ks : List Str} {F : Fn} {us ws us' : List Value} {vs : List V} (h : DFn Y.prog Y.w Y.K Y.mg Y.base k f fd ps F) (room : Room k Y.A) (grd : Y.A.guards = some [])
    (J : Inv Y pins σ H s) (hb : BindsTo s fd ⟨us, ks.zip ws⟩ (ps.zip us')) (r : Vals vs us') (q : spD Y.K ps.length F vs H Q) : wpAny (model Y.prog Y.w) Y.A (call (.ref f) us (ks.zip ws)) (EP Y pins σ Q) Y.xe s := by
  refine wpAny_call (codeAny_mono (h.run Y.A Y.stack s H _ us' vs Q room grd J.env0 hb r q) fun o s' ho => ?_)
  match o, ho with
  | .ok (.ret u), ho => exact J.after ho
  | .ok .next, ho => exact False.elim ho
  | .ok .brk, ho => exact False.elim ho
  | .ok .cont, ho => exact False.elim ho
  | .error _, ho => exact False.elim ho
def eCall (F : Fn) (g : AF) (dds : List D) : EF := fun δ M => match g δ M with
  | some (ds, M1) => F (ds ++ dds) M1
  | none => none
/-- f(e, ..): dvs the defaults that fill up -/
theorem DE.call (c : Ctx X P w K mg base k) {x : Str} {p pos : Pos} {e : Expr} {es : List Expr} {g : AF} {f : Addr} {fd : FuncData} {ps : List Str} {F : Fn} {kf : Nat} {dvs : List V} {dds : List D} {dsv : List Value} (h : DFn P w K mg base kf f fd ps F) (hk : kf ≤ k)
    (hm : mg x = some (.ref f)) (kp : PySem.W.keepIn K (.ref f) = true) (hb : Binds K fd ps dsv) (hd : Vals dvs dsv) (hr : ∀ B ι, RepL K B ι dvs dds) (hn : (e :: es).length + dds.length = ps.length) (ha : DA X K (e :: es) g) (hlen : ∀ δ M ds M', g δ M = some (ds, M') → ds.length = (e :: es).length) (hg : ∀ i, Gl (X i) x := by intro _; rfl)
    (hdbg : (x == ("__debug__" : Str)) = false := by decide) (he : ∀ i, starEach (e :: es) (X i).env = (false, eval e (X i).env) :: starEach es (X i).env := by intro _; rfl) (hpl : ∀ i, (backTo pos (starEach es (X i).env)).any (·.1) = false := by intro _; rfl) :
    DE X K (.Call (.Name x p) (e :: es) [] pos) (eCall F g dds) := by
  obtain ⟨t, pa, ra⟩ := ha.go
  refine ⟨fun σ H Q => t σ H fun vs H1 => spD K ps.length F (vs ++ dvs) H1 Q, fun i => ⟨fun pins s σ H Q J q => ?_⟩, fun σ W δ M d M' Q w s ev q => ?_⟩
  · have cK := c.K i
    refine wpAny_Call_Name_kw (ld_glob J (hg i) (by rw [c.mg i]; exact hm) ?_ hdbg)
    refine PySem.W.callWith_K (h₀ := (X i).base) J.ok.mod.kin (by rw [cK]; exact kp) (thn ((pa i).run pos pins s σ H _ J q) fun us s1 ⟨vs, H1, J1, r, q1⟩ => ⟨J1.kIn, ?_⟩) (he i) (hpl i)
    obtain ⟨W, M, ds, d, M', a1, a2, a3, a4, a5, a6⟩ := id q1
    have h' : DFn (X i).prog (X i).w (X i).K (X i).mg (X i).base k f fd ps F := by
      rw [c.prog i, c.wd i, c.K i, c.mg i, c.base i]
      exact h.mono hk
    have r2 := r.append hd
    refine run_dfn (ks := []) (ws := []) (us := us) h' (c.room i) (c.grd i) J1 (hb s1 us (by rw [← cK]; exact J1.kIn) ?_) r2 (by rw [cK]; exact q1)
    rw [← r2.length, a3.len, a4]
  · unfold eCall at ev
    split at ev
    · rename_i ds M1 h1
      refine ra σ W δ M ds M1 _ w s h1 fun vs W1 l1 w1 r1 => ⟨W1, M1, ds ++ dds, d, M', rfl, w1, r1.append (hr _ _), ?_, ev, q.le l1⟩
      rw [List.length_append, hlen _ _ _ _ h1]
      exact hn
    · cases ev
theorem aLen_cons {f : EF} {g : AF} {n : Nat} (h : ∀ δ M ds M', g δ M = some (ds, M') → ds.length = n) : ∀ δ M ds M', aCons f g δ M = some (ds, M') → ds.length = n + 1 := fun δ M ds M' e => by
  unfold aCons at e
  split at e
  · split at e
    · rename_i h2
      cases e
      exact congrArg (· + 1) (h _ _ _ _ h2)
    · cases e
  · cases e
theorem aLen_nil : ∀ δ M ds M', aNil δ M = some (ds, M') → ds.length = 0 := fun δ M ds M' e => by
  cases e
  rfl
/-- keywords -/
structure DK (X : I → Cx) (K : PySem.W.Frag) (kws : List Keyword) (f : AF) (n : Nat) : Prop where
  go : ∃ t : TA, (∀ i, PK (X i) kws t) ∧ AR K t f
  len : ∀ δ M ds M', f δ M = some (ds, M') → ds.length = n
theorem DK.nil : DK X K [] aNil 0 := ⟨⟨tNil, fun i => pk_nil, fun σ W δ M d M' Q w s e q => by
  cases e
  exact q [] W (.refl W) w .nil⟩, aLen_nil⟩
theorem DK.cons {nm} {e : Expr} {kpos} {kws : List Keyword} {f : EF} {g : AF} {n : Nat} (a : DE X K e f) (b : DK X K kws g n) : DK X K (⟨nm, e, kpos⟩ :: kws) (aCons f g) (n + 1) := by
  obtain ⟨ta, pa, ra⟩ := a.go
  obtain ⟨tb, pb, rb⟩ := b.go
  refine ⟨⟨tCons ta tb, fun i => pk_cons (pa i) (pb i), fun σ W δ M d M' Q w s e q => ?_⟩, aLen_cons b.len⟩
  unfold aCons at e
  split at e
  · rename_i d1 M1 h1
    split at e
    · rename_i ds M2 h2
      cases e
      refine ra σ W δ M d1 M1 _ w s h1 fun v W1 l1 w1 r1 => ?_
      refine rb σ W1 δ M1 ds _ _ w1 (s.le l1) h2 fun vs W2 l2 w2 r2 => ?_
      exact q _ W2 (l1.trans l2) w2 (.cons (r1.le l2) r2)
    · cases e
  · cases e
end
def startD (n : Nat) (ds : List D) : Env := ds.map some ++ List.replicate (n - ds.length) none
def fnF (n : Nat) (g : SF) : Fn := fun ds M => match g (startD n ds) M with
  | some (.rt d M') => some (d, M')
  | some (.nx _ M') => some (.non, M')
  | _ => none
/-- an entry of the def -/
structure Entry (k : Nat) (qual : Str) (scope : Scope) (f : Addr) where
  cdv : Value
  A : Around
  outer : List PySem.Env
  s : Shared
  H : Hp
  room : Room k (A.deeper (envOfC qual scope s.heap.objs.size f cdv))
  grd : A.guards = some []
def bodyF (P : Program) (w : World) (K : PySem.W.Frag) (mg : Str → Option Value) (base : Heap) (N : List Str) {k : Nat} {qual : Str} {scope : Scope} {f : Addr} (e : Entry k qual scope f) : Cx := (cxOf CX0 P w K mg base N qual scope f e.cdv e.A e.outer e.s e.H E0).nox
theorem bodyF_ctx (P : Program) (w : World) (K : PySem.W.Frag) (mg : Str → Option Value) (base : Heap) (N : List Str) {k : Nat} {qual : Str} {scope : Scope} {f : Addr} : Ctx (bodyF P w K mg base N (k := k) (qual := qual) (scope := scope) (f := f)) P w K mg base k :=
  ⟨fun _ => rfl, fun _ => rfl, fun _ => rfl, fun _ => rfl, fun _ => rfl, fun e => e.room, fun e => e.grd, fun _ => rfl⟩
theorem slots_start {K : PySem.W.Frag} {W : Wd} {N : List Str} {vs : List V} {ds : List D} (r : RepL K W.B W.ι vs ds) : Slots K W (L2.start N vs) (startD N.length ds) := by
  have hl := r.len
  refine ⟨by simp [L2.start, startD, hl], fun i d h => ?_⟩
  unfold startD at h
  by_cases hi : i < ds.length
  · rw [List.getElem?_append_left (by simpa using hi), List.getElem?_map] at h
    cases e : ds[i]? with
    | none =>
      rw [e] at h
      cases h
    | some d' =>
      rw [e] at h
      cases h
      obtain ⟨v, h1, h2⟩ := r.get e
      refine ⟨v, ?_, h2⟩
      unfold L2.start
      rw [List.getElem?_append_left (by simp [hl]; exact hi), List.getElem?_map, h1]
      rfl
  · rw [List.getElem?_append_right (by simpa using hi), List.getElem?_replicate] at h
    split at h <;> cases h
/-- THE RULE of a def -/
theorem DFn.of {P : Program} {w : World} {K : PySem.W.Frag} {mg : Str → Option Value} {base : Heap} {k : Nat} {x qual : Str} {params : Arguments} {body : List Stmt} {scope : Scope} {dvs : List V} {kws : List (Str × V)} {f : Addr} {fd : FuncData} {N ps : List Str} {g : SF}
    (h : FunD K x qual params body scope dvs kws f fd) (S : FnScope N ps scope) (hb : Ctx (bodyF P w K mg base N (k := k) (qual := qual) (scope := scope) (f := f)) P w K mg base k → DB (bodyF P w K mg base N (k := k) (qual := qual) (scope := scope) (f := f)) K body g) : DFn P w K mg base (k + 1) f fd ps (fnF N.length g) := by
  obtain ⟨oc, od, dV, kV, doc, pm, an, cdv, ct, osl, rfl, lk, hcd, _, _⟩ := h.ex
  obtain ⟨t, pt, rt⟩ := (hb (bodyF_ctx P w K mg base N)).go
  refine ⟨fun A outer s H args us vs Q room grd e0 bd r q => ?_⟩
  obtain ⟨W, M, ds, d, M', rfl, a2, a3, a4, a5, a6⟩ := q
  have hl : vs.length = ps.length := a3.len.trans a4
  have KX : K.In s.heap := e0.mod.kin.keeps fun b o e => (e0.bs b o e).1
  have lim : s.heap.NoLimit := e0.mod.nolimit.keeps fun b o e => (e0.bs b o e).1
  have knd : ∀ y ∈ ps.zip us, scope.names.lookup y.1 = some .local ∨ (scope.names.lookup y.1 = some .cell ∧ ((cellsFrom (s.heap.objs.size + 1) scope.names []).lookup y.1).isSome = true) := fun y hy => by
    rcases S.par y.1 (List.of_mem_zip (a := y.1) (b := y.2) hy).1 with q | q
    · exact .inl q
    · exact .inr ⟨q, PySem.W.cellsFrom_some _ _ _ (.inl q)⟩
  refine codeAny_call_function room.depth (KX _ _ lk) rfl S.co S.gen rfl (PySem.W.codeRec_of KX hcd) (bd _ _ _ _ ?_)
  refine wpAny_newFunctionEnv_cells S.kind knd fun env he s1 xc => ?_
  subst he
  refine ⟨lim.keeps xc.toInCall.keep, codeAny_func ?_⟩
  have J : Inv (cxOf CX0 P w K mg base N qual scope f cdv A outer s W.H E0) [] (L2.start N vs) W.H s1 := inv_start S room.hd e0 hl r xc
  have ht := (pt ⟨cdv, A, outer, s, W.H, room.deeper _, grd⟩).nox
  have q2 : t { nx := fun _ H' => Q .non H', rt := Q } (L2.start N vs) W.H := by
    unfold fnF at a5
    split at a5
    · rename_i d2 M2 h2
      cases a5
      exact rt _ W _ M _ _ a2 (slots_start a3) h2 a6
    · rename_i δ2 M2 h2
      cases a5
      exact rt _ W _ M _ _ a2 (slots_start a3) h2 fun σ' W' l o s' => a6 .non W' l o .non
    · cases a5
  refine wpAny_mono (ht.run [] s1 (L2.start N vs) W.H _ J q2) (fun fl s' hs => ?_) fun e s' hs => hs
  have fin : ∀ {σ' : St} {H' : Hp} {v : V} {u : Value}, Inv (cxOf CX0 P w K mg base N qual scope f cdv A outer s W.H E0) [] σ' H' s' → RelV v u → Q v H' → CE outer P w W.H s Q u s' :=
    fun {σ' H' v u} J rv q => ⟨v, H', J.os, J.bare, J.base, J.hok, rv, q⟩
  match fl, hs with
  | .ret u, ⟨v, σ', H', J2, rv, q3⟩ => exact fin J2 rv q3
  | .next, ⟨σ', H', J2, q3⟩ => exact fin (v := V.non) (u := Value.none) J2 rfl q3
  | .brk, ⟨_, _, _, q3⟩ => exact False.elim q3
  | .cont, ⟨_, _, _, q3⟩ => exact False.elim q3
end Pl
namespace Pl
open PySem L2
section
variable {I : Type} {X : I → Cx} {P : Program} {w : World} {K : PySem.W.Frag} {mg : Str → Option Value} {base : Heap} {k : Nat}
def lstT (M : Mh) : D → Option (List D)
  | .lst xs => some xs
  | .ref n => (match M[n]? with
    | some (.lst xs) => some xs
    | _ => none)
  | _ => none
def lstOf (M : Mh) : D → Option (List D)
  | .lst xs => some xs
  | .lsk xs => some xs
  | .ref n => (match M[n]? with
    | some (.lst xs) => some xs
    | _ => none)
  | _ => none
theorem lstT_rep {W : Wd} {M : Mh} {x : V} {d : D} {ds : List D} (w : W.Ok K M) (r : Rep K W.B W.ι x d) (h : lstT M d = some ds) : ∃ l vs, x = .ref l ∧ W.H l = some (.lst vs) ∧ RepL K W.B W.ι vs ds := by
  unfold lstT at h
  split at h
  · cases h
    cases r with
    | lst h1 r1 => exact ⟨_, _, rfl, w.sub _ _ h1, r1⟩
  · split at h
    · rename_i hm
      cases h
      cases r with
      | ref h1 =>
        obtain ⟨_, _, o, ho, ro⟩ := w.live _ _ _ ⟨h1, hm, fun z => by cases z⟩
        cases ro with
        | lst r1 => exact ⟨_, _, rfl, ho, r1⟩
    · cases h
  · cases h
theorem lstOf_rep {W : Wd} {M : Mh} {x : V} {d : D} {ds : List D} (w : W.Ok K M) (r : Rep K W.B W.ι x d) (h : lstOf M d = some ds) : ∃ l vs, x = .ref l ∧ SqL K W.H l vs ∧ RepL K W.B W.ι vs ds := by
  unfold lstOf at h
  split at h
  · cases h
    cases r with
    | lst h1 r1 => exact ⟨_, _, rfl, .inl (.inl (w.sub _ _ h1)), r1⟩
  · cases h
    cases r with
    | lsk h1 r1 => exact ⟨_, _, rfl, sqL_mono w.sub h1, r1⟩
  · split at h
    · rename_i hm
      cases h
      cases r with
      | ref h1 =>
        obtain ⟨_, _, o, ho, ro⟩ := w.live _ _ _ ⟨h1, hm, fun z => by cases z⟩
        cases ro with
        | lst r1 => exact ⟨_, _, rfl, .inl (.inl ho), r1⟩
    · cases h
  · cases h
theorem tup_rep {W : Wd} {M : Mh} {x : V} {ds : List D} (w : W.Ok K M) (r : Rep K W.B W.ι x (.tup ds)) : ∃ l vs, x = .ref l ∧ SqT K W.H l vs ∧ RepL K W.B W.ι vs ds := by
  cases r with
  | tup h1 r1 => exact ⟨_, _, rfl, sqT_mono w.sub h1, r1⟩
def gAdd : O2 := fun a b M => match a, b with
  | .int i, .int j => some (.int (i + j), M)
  | .str x, .str y => if x.length + y.length ≤ sizeLine then some (.str (x ++ y), M) else none
  | .tup xs, .tup ys => if xs.length + ys.length ≤ sizeLine then some (.tup (xs ++ ys), M) else none
  | a, b => (match lstT M a, lstT M b with
    | some xs, some ys => if xs.length + ys.length ≤ sizeLine then some (.lst (xs ++ ys), M) else none
    | _, _ => none)
def rAdd4 (K : PySem.W.Frag) : R2 := fun x y H Q => rI0 (fun i j => .int (i + j)) x y H Q ∨ (∃ i j, x = .str i ∧ y = .str j ∧ i.length + j.length ≤ sizeLine ∧ Q (.str (i ++ j)) H) ∨ rCat x y H Q ∨ rCatA K x y H Q
theorem opAdd4 (c : Ctx X P w K mg base k) : OpF X K (binaryOp .Add) gAdd := ⟨rAdd4 K, fun i => by
  have h := OpR.or (X := X i) op_add (OpR.or op_add_str (OpR.or op_cat op_catA))
  rw [c.K i] at h
  exact h, fun W M x y a b z M' Q w ra rb e q => by
  unfold gAdd at e
  split at e
  · cases ra
    cases rb
    cases e
    exact .inl ⟨_, _, rfl, rfl, q _ W (.refl W) w (.int _)⟩
  · split at e
    · rename_i hl
      cases ra
      cases rb
      cases e
      exact .inr (.inl ⟨_, _, rfl, rfl, hl, q _ W (.refl W) w (.str _)⟩)
    · cases e
  · split at e
    · rename_i hl
      cases e
      obtain ⟨a, vs, rfl, s1, r1⟩ := tup_rep w ra
      obtain ⟨b, us, rfl, s2, r2⟩ := tup_rep w rb
      refine .inr (.inr (.inr ⟨a, b, vs, us, rfl, rfl, s1, s2, by rw [r1.len, r2.len]; exact hl, fun h => ?_, fun h0 h => ?_, fun h0 h1 p hp => ?_⟩))
      · subst h
        cases r1
        exact q _ W (.refl W) w rb
      · subst h
        cases r2
        rw [List.append_nil] at q
        exact q _ W (.refl W) w ra
      · obtain ⟨l2, w2, r3⟩ := lay_tup w hp (r1.append r2)
        exact q _ _ l2 w2 r3
    · cases e
  · split at e
    · rename_i xs ys h1 h2
      split at e
      · rename_i hl
        cases e
        obtain ⟨a, vs, rfl, s1, r1⟩ := lstT_rep w ra h1
        obtain ⟨b, us, rfl, s2, r2⟩ := lstT_rep w rb h2
        refine .inr (.inr (.inl ⟨a, b, vs, us, rfl, rfl, s1, s2, by rw [r1.len, r2.len]; exact hl, fun p hp => ?_⟩))
        obtain ⟨l2, w2, r3⟩ := lay_lst w hp (r1.append r2)
        exact q _ _ l2 w2 r3
      · cases e
    · cases e⟩
theorem RepL.rep {B : Hp} {ι : List Addr} {vs : List V} {ds : List D} (r : RepL K B ι vs ds) : ∀ n : Nat, RepL K B ι (List.replicate n vs).flatten (List.replicate n ds).flatten
  | 0 => .nil
  | n + 1 => by
    rw [List.replicate_succ, List.replicate_succ, List.flatten_cons, List.flatten_cons]
    exact r.append (r.rep n)
def gMul : O2 := fun a b M => match a, b with
  | .int i, .int j => if MulOk i j then some (.int (i * j), M) else none
  | .lst xs, .int j => if -(2 ^ 63) ≤ j ∧ j < 2 ^ 63 ∧ xs.length * j.toNat ≤ sizeLine then some (.lst (List.replicate j.toNat xs).flatten, M) else none
  | _, _ => none
theorem opMul2 : OpF X K (binaryOp .Mult) gMul := ⟨_, fun i => OpR.or op_mulX op_rep, fun W M x y a b z M' Q w ra rb e q => by
  unfold gMul at e
  split at e
  · split at e
    · rename_i hc
      cases ra
      cases rb
      cases e
      exact .inl ⟨_, _, rfl, rfl, hc, q _ W (.refl W) w (.int _)⟩
    · cases e
  · split at e
    · rename_i hc
      cases rb
      cases e
      cases ra with
      | lst h1 r1 =>
        refine .inr ⟨_, _, _, rfl, rfl, w.sub _ _ h1, hc.1, hc.2.1, by rw [r1.len]; exact hc.2.2, fun p hp => ?_⟩
        obtain ⟨l2, w2, r3⟩ := lay_lst w hp (r1.rep _)
        exact q _ _ l2 w2 r3
    · cases e
  · cases e⟩
structure DP (X : I → Cx) (K : PySem.W.Frag) (e : Option Expr) (f : Env → Mh → Option (Option Int × Mh)) : Prop where
  go : ∃ t : St → Hp → (Option Int → Hp → Prop) → Prop, (∀ i, PO (X i) e t) ∧ ∀ (σ : St) (W : Wd) (δ : Env) (M : Mh) (d : Option Int) (M' : Mh) (Q : Option Int → Hp → Prop), W.Ok K M → Slots K W σ δ → f δ M = some (d, M') → (∀ W', W.Le W' → W'.Ok K M' → Q d W'.H) → t σ W.H Q
def pNone : Env → Mh → Option (Option Int × Mh) := fun _ M => some (none, M)
def pSome (f : EF) : Env → Mh → Option (Option Int × Mh) := fun δ M => match f δ M with
  | some (.int i, M1) => some (some i, M1)
  | _ => none
theorem DP.none : DP X K none pNone := ⟨_, fun i => po_none, fun σ W δ M d M' Q w s e q => by
  cases e
  exact q W (.refl W) w⟩
theorem DP.some {e : Expr} {f : EF} (h : DE X K e f) : DP X K (some e) (pSome f) := by
  obtain ⟨t, p, r⟩ := h.go
  refine ⟨_, fun i => po_some (p i), fun σ W δ M d M' Q w s ev q => ?_⟩
  unfold pSome at ev
  split at ev
  · rename_i h1
    cases ev
    refine r σ W δ M _ _ _ w s h1 fun v W1 l1 w1 r1 => ?_
    cases r1
    exact ⟨_, rfl, q W1 l1 w1⟩
  · cases ev
def cutD {α : Type} (xs : List α) (lo hi : Option Int) : List α := (xs.drop (HT.sIx xs.length 0 lo)).take (HT.sIx xs.length xs.length hi - HT.sIx xs.length 0 lo)
theorem RepL.cut {B : Hp} {ι : List Addr} {vs : List V} {ds : List D} (r : RepL K B ι vs ds) (lo hi : Option Int) : RepL K B ι (cutV vs lo hi) (cutD ds lo hi) := by
  unfold cutV cutD
  rw [r.len]
  exact (r.drop _).take _
theorem cutD_all {α : Type} {xs : List α} {lo hi : Option Int} (h : HT.sIx xs.length 0 lo = 0 ∧ HT.sIx xs.length xs.length hi = xs.length) : cutD xs lo hi = xs := by
  unfold cutD
  rw [h.1, h.2]
  simp
def eSl (f : EF) (p q : Env → Mh → Option (Option Int × Mh)) : EF := fun δ M => match f δ M with
  | some (a, M1) => (match p δ M1 with
    | some (lo, M2) => (match q δ M2 with
      | some (hi, M3) => (match a with
        | .tup xs => some (.tup (cutD xs lo hi), M3)
        | .str z => if z.length ≤ sizeLine then some (.str (cutS z lo hi), M3) else none
        | a => (match lstOf M3 a with
          | some xs => some (.lst (cutD xs lo hi), M3)
          | none => none))
      | none => none)
    | none => none)
  | none => none
theorem DE.sl (c : Ctx X P w K mg base k) {e : Expr} {lo hi : Option Expr} {p2 pos} {f : EF} {p q : Env → Mh → Option (Option Int × Mh)} (ha : DE X K e f) (hlo : DP X K lo p) (hhi : DP X K hi q) : DE X K (.Subscript e (.Slice lo hi none p2) pos) (eSl f p q) := by
  obtain ⟨t, pa, r⟩ := ha.go
  obtain ⟨tl, pl, rl⟩ := hlo.go
  obtain ⟨th, ph, rh⟩ := hhi.go
  refine ⟨tSl (fun x lo hi H Q => rSlL K x lo hi H Q ∨ rSlA K x lo hi H Q ∨ rSlS x lo hi H Q) t tl th, fun i => ?_, fun σ W δ M d M' Q w s ev qq => ?_⟩
  · have h := pe_slice (SlR.or (X := X i) sl_list (SlR.or sl_tupA sl_str)) (pa i) (pl i) (ph i) (p2 := p2) (pos := pos)
    rw [c.K i] at h
    exact h
  · unfold eSl at ev
    split at ev
    · rename_i a M1 h1
      split at ev
      · rename_i lo' M2 h2
        split at ev
        · rename_i hi' M3 h3
          refine r σ W δ M _ _ _ w s h1 fun v W1 l1 w1 r1 => ?_
          refine rl σ W1 δ M1 _ _ _ w1 (s.le l1) h2 fun W2 l2 w2 => ?_
          refine rh σ W2 δ M2 _ _ _ w2 (s.le (l1.trans l2)) h3 fun W3 l3 w3 => ?_
          have r3 := r1.le (l2.trans l3)
          have l13 := (l1.trans l2).trans l3
          split at ev
          · cases ev
            obtain ⟨b, vs, rfl, s1, q1⟩ := tup_rep w3 r3
            refine .inr (.inl ⟨b, vs, rfl, s1, fun h => ?_, fun h p hp => ?_⟩)
            · rw [q1.len] at h
              rw [cutD_all h] at qq
              exact qq _ W3 l13 w3 r3
            · obtain ⟨l4, w4, r4⟩ := lay_tup w3 hp (q1.cut lo' hi')
              exact qq _ _ (l13.trans l4) w4 r4
          · split at ev
            · rename_i hz
              cases ev
              cases r3
              exact .inr (.inr ⟨_, rfl, hz, qq _ W3 l13 w3 (.str _)⟩)
            · cases ev
          · split at ev
            · rename_i xs hx
              cases ev
              obtain ⟨b, vs, rfl, s1, q1⟩ := lstOf_rep w3 r3 hx
              refine .inl ⟨b, vs, rfl, s1, fun p hp => ?_⟩
              obtain ⟨l4, w4, r4⟩ := lay_lst w3 hp (q1.cut lo' hi')
              exact qq _ _ (l13.trans l4) w4 r4
            · cases ev
        · cases ev
      · cases ev
    · cases ev
abbrev GL := List D → Mh → Option (D × Mh)
structure CalF (X : I → Cx) (K : PySem.W.Frag) (f : Value) (g : GL) : Prop where
  go : ∃ r : List V → Hp → VK → Prop, (∀ i, CallR (X i) f r) ∧ ∀ (W : Wd) (M : Mh) (vs : List V) (ds : List D) (z : D) (M' : Mh) (Q : VK), W.Ok K M → RepL K W.B W.ι vs ds → g ds M = some (z, M') → VR K W z M' Q → r vs W.H Q
def eB (g : GL) (a : AF) : EF := fun δ M => match a δ M with
  | some (ds, M1) => g ds M1
  | none => none
theorem er_b {r : List V → Hp → VK → Prop} {g : GL} {a : AF} {t : TA} (h : ∀ (W : Wd) (M : Mh) (vs : List V) (ds : List D) (z : D) (M' : Mh) (Q : VK), W.Ok K M → RepL K W.B W.ι vs ds → g ds M = some (z, M') → VR K W z M' Q → r vs W.H Q) (ra : AR K t a) : ER K (tCB r t) (eB g a) := fun σ W δ M d M' Q w s e q => by
  unfold eB at e
  split at e
  · rename_i ds M1 h1
    exact ra σ W δ M _ _ _ w s h1 fun vs W1 l1 w1 r1 => h W1 M1 vs ds d M' Q w1 r1 e (q.le l1)
  · cases e
theorem DE.callB (c : Ctx X P w K mg base k) {x : Str} {p pos : Pos} {e : Expr} {es : List Expr} {id : String} {g : GL} {a : AF} (o : CalF X K (.builtin id) g) (hm : mg x = none) (hv : bootBuiltins x = some (.builtin id)) (ha : DA X K (e :: es) a) (hg : ∀ i, Gl (X i) x := by intro _; rfl)
    (hn : x ≠ "__name__" := by decide) (hdbg : (x == ("__debug__" : Str)) = false := by decide) (he : ∀ i, starEach (e :: es) (X i).env = (false, eval e (X i).env) :: starEach es (X i).env := by intro _; rfl) (hpl : ∀ i, (backTo pos (starEach es (X i).env)).any (·.1) = false := by intro _; rfl) :
    DE X K (.Call (.Name x p) (e :: es) [] pos) (eB g a) := by
  obtain ⟨r, hc, h⟩ := o.go
  obtain ⟨t, pa, ra⟩ := ha.go
  exact ⟨_, fun i => pe_callB (hc i) (hg i) (by rw [c.mg i]; exact hm) hv (pa i) (hn := hn) (hdb := hdbg) (he := he i) (hpl := hpl i), er_b h ra⟩
theorem DE.callTy (c : Ctx X P w K mg base k) {x : Str} {p pos : Pos} {e : Expr} {es : List Expr} {id : String} {g : GL} {a : AF} (o : CalF X K (.type id) g) (hm : mg x = none) (hv : bootBuiltins x = some (.type id)) (ha : DA X K (e :: es) a) (hg : ∀ i, Gl (X i) x := by intro _; rfl)
    (hn : x ≠ "__name__" := by decide) (hdbg : (x == ("__debug__" : Str)) = false := by decide) (he : ∀ i, starEach (e :: es) (X i).env = (false, eval e (X i).env) :: starEach es (X i).env := by intro _; rfl) (hpl : ∀ i, (backTo pos (starEach es (X i).env)).any (·.1) = false := by intro _; rfl) :
    DE X K (.Call (.Name x p) (e :: es) [] pos) (eB g a) := by
  obtain ⟨r, hc, h⟩ := o.go
  obtain ⟨t, pa, ra⟩ := ha.go
  exact ⟨_, fun i => pe_callTy (hc i) (hg i) (by rw [c.mg i]; exact hm) hv (pa i) (hn := hn) (hdb := hdbg) (he := he i) (hpl := hpl i), er_b h ra⟩
def lenOf (M : Mh) : D → Option Nat
  | .str z => if z.length ≤ sizeLine then some z.length else none
  | .tup xs => some xs.length
  | d => (lstOf M d).map (·.length)
def gLen : GL := fun ds M => match ds with
  | [d] => (lenOf M d).map fun n => (.int (n : Nat), M)
  | _ => none
theorem cLen (c : Ctx X P w K mg base k) : CalF X K (.builtin "len") gLen := ⟨fun xs H Q => ∃ x n, xs = [x] ∧ LenV K x H n ∧ Q (.int n) H, fun i => by
  have h := call_len (X := X i)
  rw [c.K i] at h
  exact h, fun W M vs ds z M' Q w r e q => by
  unfold gLen at e
  split at e
  · rename_i d
    cases hl : lenOf M d with
    | none =>
      rw [hl] at e
      cases e
    | some n =>
      rw [hl] at e
      cases e
      cases r with
      | cons r1 r2 =>
        cases r2
        refine ⟨_, n, rfl, ?_, q _ W (.refl W) w (.int _)⟩
        unfold lenOf at hl
        split at hl
        · split at hl
          · rename_i hz
            cases hl
            cases r1
            exact ⟨hz, rfl⟩
          · cases hl
        · cases hl
          obtain ⟨a, us, rfl, s1, q1⟩ := tup_rep w r1
          exact .inr ⟨us, s1, q1.len.symm⟩
        · cases hx : lstOf M d with
          | none =>
            rw [hx] at hl
            cases hl
          | some xs =>
            rw [hx] at hl
            cases hl
            obtain ⟨a, us, rfl, s1, q1⟩ := lstOf_rep w r1 hx
            exact .inl ⟨us, s1, q1.len.symm⟩
  · cases e⟩
def gL2 (h : Int → Int → D) : GL := fun ds M => match ds with
  | [.int i, .int j] => some (h i j, M)
  | _ => none
theorem cMax2 (c : Ctx X P w K mg base k) : CalF X K (.builtin "max") (gL2 fun i j => .int (if j > i then j else i)) := ⟨_, fun i => call_max2 (c.calm i), fun W M vs ds z M' Q w r e q => by
  unfold gL2 at e
  split at e
  · cases e
    cases r with
    | cons r1 r2 =>
      cases r2 with
      | cons r2 r3 =>
        cases r1
        cases r2
        cases r3
        exact ⟨_, _, rfl, q _ W (.refl W) w (.int _)⟩
  · cases e⟩
theorem cMin2 (c : Ctx X P w K mg base k) : CalF X K (.builtin "min") (gL2 fun i j => .int (if j < i then j else i)) := ⟨_, fun i => call_min2 (c.calm i), fun W M vs ds z M' Q w r e q => by
  unfold gL2 at e
  split at e
  · cases e
    cases r with
    | cons r1 r2 =>
      cases r2 with
      | cons r2 r3 =>
        cases r1
        cases r2
        cases r3
        exact ⟨_, _, rfl, q _ W (.refl W) w (.int _)⟩
  · cases e⟩
def intsOf : List D → Option (List Int)
  | [] => some []
  | .int i :: r => (match intsOf r with
    | some is => some (i :: is)
    | none => none)
  | _ => none
theorem rep_ints {B : Hp} {ι : List Addr} : ∀ {vs : List V} {ds : List D} {is : List Int}, RepL K B ι vs ds → intsOf ds = some is → vs = is.map V.int
  | _, _, _, .nil, e => by
    cases e
    rfl
  | _, _, _, .cons (d := d) r t, e => by
    unfold intsOf at e
    split at e
    · rename_i h1
      cases h1
    · rename_i h1
      split at e
      · rename_i is h2
        cases e
        cases h1
        cases r
        rw [List.map_cons, rep_ints t h2]
      · cases e
    · cases e
def gTupOf : GL := fun ds M => match ds with
  | [.tup xs] => some (.tup xs, M)
  | [d] => (match lstOf M d with
    | some xs => some (.tup xs, M)
    | none => none)
  | _ => none
theorem cTupOf (c : Ctx X P w K mg base k) : CalF X K (.type "tuple") gTupOf := ⟨fun xs H Q => ∃ p ys, xs = [.ref p] ∧ ((SqL K H p ys ∧ ∀ l, H l = none → Q (.ref l) (upd H l (.tup ys))) ∨ (SqT K H p ys ∧ Q (.ref p) H)), fun i => by
  have h := call_tuple_of (X := X i)
  rw [c.K i] at h
  exact h, fun W M vs ds z M' Q w r e q => by
  unfold gTupOf at e
  split at e
  · cases e
    cases r with
    | cons r1 r2 =>
      cases r2
      obtain ⟨a, us, rfl, s1, q1⟩ := tup_rep w r1
      exact ⟨a, us, rfl, .inr ⟨s1, q _ W (.refl W) w r1⟩⟩
  · split at e
    · rename_i xs h1
      cases e
      cases r with
      | cons r1 r2 =>
        cases r2
        obtain ⟨a, us, rfl, s1, q1⟩ := lstOf_rep w r1 h1
        refine ⟨a, us, rfl, .inl ⟨s1, fun p hp => ?_⟩⟩
        obtain ⟨l2, w2, r3⟩ := lay_tup w hp q1
        exact q _ _ l2 w2 r3
    · cases e
  · cases e⟩
def bsOf : List D → Option (List Bool)
  | [] => some []
  | .bl i :: r => (match bsOf r with
    | some is => some (i :: is)
    | none => none)
  | _ => none
theorem rep_bs {B : Hp} {ι : List Addr} : ∀ {vs : List V} {ds : List D} {is : List Bool}, RepL K B ι vs ds → bsOf ds = some is → vs = is.map V.bl
  | _, _, _, .nil, e => by
    cases e
    rfl
  | _, _, _, .cons (d := d) r t, e => by
    unfold bsOf at e
    split at e
    · rename_i h1
      cases h1
    · rename_i h1
      split at e
      · rename_i is h2
        cases e
        cases h1
        cases r
        rw [List.map_cons, rep_bs t h2]
      · cases e
    · cases e
def gBs (h : List Bool → Bool) : GL := fun ds M => match ds with
  | [d] => (match lstOf M d with
    | some xs => (match bsOf xs with
      | some bs => some (.bl (h bs), M)
      | none => none)
    | none => none)
  | _ => none
theorem cAll (c : Ctx X P w K mg base k) : CalF X K (.builtin "all") (gBs fun bs => bs.all id) := ⟨rAll K, fun i => by
  have h := cr_all (X := X i) (c.calm i)
  rw [c.K i] at h
  exact h, fun W M vs ds z M' Q w r e q => by
  unfold gBs at e
  split at e
  · split at e
    · rename_i xs h1
      split at e
      · rename_i is h2
        cases e
        cases r with
        | cons r1 r2 =>
          cases r2
          obtain ⟨a, us, rfl, s1, q1⟩ := lstOf_rep w r1 h1
          have := rep_bs q1 h2
          subst this
          exact ⟨a, is, rfl, s1, q _ W (.refl W) w (.bl _)⟩
      · cases e
    · cases e
  · cases e⟩
end
end Pl
namespace Pl
open PySem L2
section
variable {I : Type} {X : I → Cx} {P : Program} {w : World} {K : PySem.W.Frag} {mg : Str → Option Value} {base : Heap} {k : Nat}
def tyN (M : Mh) : D → Option String
  | .non => some "NoneType"
  | .bl _ => some "bool"
  | .int _ => some "int"
  | .str _ => some "str"
  | .tup _ => some "tuple"
  | .lst _ => some "list"
  | .ref n => (match M[n]? with
    | some (.lst _) => some "list"
    | some (.dic _) => some "dict"
    | _ => none)
  | _ => none
theorem sqT_ty {H : Hp} {a : Addr} {vs : List V} (h : SqT K H a vs) : TyX K H (.ref a) (.type "tuple") := by
  rcases h with h | ⟨o, its, n, h1, h2, _⟩
  · rcases h with h | ⟨o, h⟩
    · exact .base (.tup h)
    · exact .fTuple h
  · exact .kTuple h1 h2
theorem tyN_rep {W : Wd} {M : Mh} {x : V} {d : D} {n : String} (w : W.Ok K M) (r : Rep K W.B W.ι x d) (h : tyN M d = some n) : TyX K W.H x (.type n) := by
  cases r with
  | non => cases h; exact .base .non
  | bl b => cases h; exact .base (.bl b)
  | int b => cases h; exact .base (.int b)
  | str b => cases h; exact .base (.str b)
  | tup h1 _ => cases h; exact sqT_ty (sqT_mono w.sub h1)
  | lst h1 _ => cases h; exact .base (.lst (w.sub _ _ h1))
  | ty _ => cases h
  | ob _ => cases h
  | lam _ _ => cases h
  | dcf _ _ _ _ => cases h
  | lsk _ _ => cases h
  | ref h1 =>
    unfold tyN at h
    dsimp only at h
    split at h
    · rename_i hm
      cases h
      obtain ⟨_, _, o, ho, ro⟩ := w.live _ _ _ ⟨h1, hm, fun z => by cases z⟩
      cases ro with
      | lst _ => exact .base (.lst ho)
    · rename_i hm
      cases h
      obtain ⟨_, _, o, ho, ro⟩ := w.live _ _ _ ⟨h1, hm, fun z => by cases z⟩
      cases ro with
      | dic _ => exact .base (.dK ho)
    · cases h
def gIsi : GL := fun ds M => match ds with
  | [d, .ty n] => (match tyN M d with
    | some t => (match kitB t n with
      | some b => some (.bl b, M)
      | none => none)
    | none => none)
  | _ => none
theorem cIsi (c : Ctx X P w K mg base k) : CalF X K (.builtin "isinstance") gIsi := ⟨rIsi K, fun i => by
  have h := call_isi (X := X i)
  rw [c.K i] at h
  exact h, fun W M vs ds z M' Q w r e q => by
  unfold gIsi at e
  split at e
  · split at e
    · rename_i t h1
      split at e
      · rename_i b h2
        cases e
        cases r with
        | cons r1 r2 =>
          cases r2 with
          | cons r2 r3 =>
            cases r2
            cases r3
            exact ⟨_, _, _, _, b, rfl, .ty _, tyN_rep w r1 h1, kit_ty h2, q _ W (.refl W) w (.bl _)⟩
      · cases e
    · cases e
  · cases e⟩
theorem room_in {A : Around} {xs : List PyData} {d : PyData} (h : SeqAt.shaped d = true) (u : A.units + 65 < cLine) : A.units + 1 + min (PyData.depthAll xs) d.depth < cLine := by
  have h1 := SeqAt.depth_of_shaped h
  have h2 := Nat.min_le_right (PyData.depthAll xs) d.depth
  omega
def rInT (K : PySem.W.Frag) : R2 := fun x y H Q => ∃ d ds, Dp K H x d ∧ Dp K H y (.tuple ds) ∧ SeqAt.shaped d = true ∧ SeqAt.shaped (.tuple ds) = true ∧ Q (.bl (ds.any fun z => PyData.eqv z d)) H
def rNotInT (K : PySem.W.Frag) : R2 := fun x y H Q => ∃ d ds, Dp K H x d ∧ Dp K H y (.tuple ds) ∧ SeqAt.shaped d = true ∧ SeqAt.shaped (.tuple ds) = true ∧ Q (.bl (!ds.any fun z => PyData.eqv z d)) H
theorem op_inT {Y : Cx} (room : Y.A.units + 65 < cLine) : OpR Y (compareOp .In) (rInT Y.K) := fun pins s σ H x y v u Q J rx ry ⟨d, ds, hd, he, sd, se, q⟩ => by
  obtain ⟨as, r1⟩ := Dp.reads J d x v hd rx
  obtain ⟨bs, r2⟩ := Dp.reads J (.tuple ds) y u he ry
  exact SeqAt.in_tuple_reads r2 r1 (SeqAt.canLay_of_shaped se) (SeqAt.canLay_of_shaped sd) (room_in sd room) ⟨.bl _, H, J, rfl, q⟩
theorem op_notInT {Y : Cx} (room : Y.A.units + 65 < cLine) : OpR Y (compareOp .NotIn) (rNotInT Y.K) := fun pins s σ H x y v u Q J rx ry ⟨d, ds, hd, he, sd, se, q⟩ => by
  obtain ⟨as, r1⟩ := Dp.reads J d x v hd rx
  obtain ⟨bs, r2⟩ := Dp.reads J (.tuple ds) y u he ry
  exact SeqAt.notIn_tuple_reads r2 r1 (SeqAt.canLay_of_shaped se) (SeqAt.canLay_of_shaped sd) (room_in sd room) ⟨.bl _, H, J, rfl, q⟩
/-- a sign in a text, a thing in a row -/
def gIn (h : Bool → Bool) : O2 := fun a b M => match a, b with
  | .str ⟨⟨[s]⟩⟩, .str z => some (.bl (h (decide (s ∈ z.cps.toList))), M)
  | a, b => (match toP (deref M a), toP (deref M b) with
    | some p, some (.tuple ps) => if SeqAt.shaped p && SeqAt.shaped (.tuple ps) then some (.bl (h (ps.any fun z => PyData.eqv z p)), M) else none
    | some p, some (.list ps) => if SeqAt.shaped p && SeqAt.shaped (.list ps) then some (.bl (h (ps.any fun z => PyData.eqv z p)), M) else none
    | _, _ => none)
theorem room65 {A : Around} {j : Nat} (r : Room j A) : A.units + 65 < cLine := by
  have := r.un
  omega
theorem opIn (c : Ctx X P w K mg base k) : OpF X K (compareOp .In) (gIn fun b => b) := ⟨fun x y H Q => (∃ (c : Nat) (z : Str), x = .str ⟨#[c]⟩ ∧ y = .str z ∧ Q (.bl (decide (c ∈ z.cps.toList))) H) ∨ rInT K x y H Q ∨ rInD K x y H Q, fun i => by
  have h := OpR.or (X := X i) op_in_sign (OpR.or (op_inT (room65 (c.room i))) (op_inD (room65 (c.room i))))
  rw [c.K i] at h
  exact h, fun W M x y a b z M' Q w ra rb e q => by
  unfold gIn at e
  split at e
  · cases ra
    cases rb
    cases e
    exact .inl ⟨_, _, rfl, rfl, q _ W (.refl W) w (.bl _)⟩
  · split at e
    · rename_i h1 h2
      split at e
      · rename_i hs
        cases e
        rw [Bool.and_eq_true] at hs
        exact .inr (.inl ⟨_, _, dp_of w ra h1, dp_of w rb h2, hs.1, hs.2, q _ W (.refl W) w (.bl _)⟩)
      · cases e
    · rename_i h1 h2
      split at e
      · rename_i hs
        cases e
        rw [Bool.and_eq_true] at hs
        exact .inr (.inr ⟨_, _, dp_of w ra h1, dp_of w rb h2, hs.1, hs.2, q _ W (.refl W) w (.bl _)⟩)
      · cases e
    · cases e⟩
theorem opNotIn (c : Ctx X P w K mg base k) : OpF X K (compareOp .NotIn) (gIn fun b => !b) := ⟨fun x y H Q => (∃ (c : Nat) (z : Str), x = .str ⟨#[c]⟩ ∧ y = .str z ∧ Q (.bl (!decide (c ∈ z.cps.toList))) H) ∨ rNotInT K x y H Q ∨ rNotInD K x y H Q, fun i => by
  have h := OpR.or (X := X i) op_notIn_sign (OpR.or (op_notInT (room65 (c.room i))) (op_notInD (room65 (c.room i))))
  rw [c.K i] at h
  exact h, fun W M x y a b z M' Q w ra rb e q => by
  unfold gIn at e
  split at e
  · cases ra
    cases rb
    cases e
    exact .inl ⟨_, _, rfl, rfl, q _ W (.refl W) w (.bl _)⟩
  · split at e
    · rename_i h1 h2
      split at e
      · rename_i hs
        cases e
        rw [Bool.and_eq_true] at hs
        exact .inr (.inl ⟨_, _, dp_of w ra h1, dp_of w rb h2, hs.1, hs.2, q _ W (.refl W) w (.bl _)⟩)
      · cases e
    · rename_i h1 h2
      split at e
      · rename_i hs
        cases e
        rw [Bool.and_eq_true] at hs
        exact .inr (.inr ⟨_, _, dp_of w ra h1, dp_of w rb h2, hs.1, hs.2, q _ W (.refl W) w (.bl _)⟩)
      · cases e
    · cases e⟩
def eFrz (i : Nat) : EF := fun δ M => match δ[i]? with
  | some (some (.ref n)) => (match M[n]? with
    | some (.lst ds) => some (.lst ds, M.set n .dead)
    | _ => none)
  | _ => none
theorem DE.frz (j : Nat) {x : Str} {pos : Pos} (hN : ∀ i, (X i).N[j]? = some x := by intro _; rfl) (hv : ∀ i, Vis (X i).env.scope x := by intro _; first | exact Or.inl rfl | exact Or.inr (Or.inl rfl) | exact Or.inr (Or.inr rfl)) (hd : (x == ("__debug__" : Str)) = false := by decide)
    (hcd : (x == ("__classdict__" : Str)) = false := by decide) : DE X K (.Name x pos) (eFrz j) := by
  refine ⟨tVar j, fun i => pe_var (hN i) (hv i) hd hcd, fun σ W δ M d M' Q w s e q => ?_⟩
  unfold eFrz at e
  split at e
  · rename_i n h
    split at e
    · rename_i ds hm
      cases e
      obtain ⟨v, h1, h2⟩ := s.at_ _ _ h
      refine ⟨v, h1, ?_⟩
      cases h2 with
      | ref hi =>
        have lv : Live W M n _ (.lst ds) := ⟨hi, hm, fun z => by cases z⟩
        obtain ⟨_, _, o, ho, ro⟩ := w.live _ _ _ lv
        cases ro with
        | lst r1 => exact q _ (W.frz _ _) (Wd.frz_le w lv) (Wd.frz_ok w lv ho) (.lst upd_same (r1.le (Wd.frz_le w lv)))
    · cases e
  · cases e
def eMeth2 (g : D → List D → Mh → Option (D × Mh)) (f : EF) (a : AF) : EF := fun δ M => match f δ M with
  | some (o, M1) => if (lstOf M1 o).isSome then (match a δ M1 with
    | some (ds, M2) => g o ds M2
    | none => none) else none
  | none => none
def gApp : D → List D → Mh → Option (D × Mh) := fun o ds M => match o, ds with
  | .ref n, [d] => (match M[n]? with
    | some (.lst xs) => if xs.length < sizeLine then some (.non, M.set n (.lst (xs ++ [d]))) else none
    | _ => none)
  | _, _ => none
theorem lst_live {W : Wd} {M : Mh} {x : V} {n : Nat} {xs : List D} (w : W.Ok K M) (r : Rep K W.B W.ι x (.ref n)) (hm : M[n]? = some (.lst xs)) : ∃ a vs, x = .ref a ∧ Live W M n a (.lst xs) ∧ W.H a = some (.lst vs) ∧ RepL K W.B W.ι vs xs := by
  cases r with
  | ref hi =>
    have lv : Live W M n _ (.lst xs) := ⟨hi, hm, fun z => by cases z⟩
    obtain ⟨_, _, o, ho, ro⟩ := w.live _ _ _ lv
    cases ro with
    | lst r1 => exact ⟨_, _, rfl, lv, ho, r1⟩
/-- a method of a list -/
structure MetF (X : I → Cx) (K : PySem.W.Frag) (id : String) (g : D → List D → Mh → Option (D × Mh)) : Prop where
  go : ∃ r : V → List V → Hp → VK → Prop, (∀ i, MtR (X i) id r) ∧ ∀ (W : Wd) (M : Mh) (x : V) (o : D) (vs : List V) (ds : List D) (z : D) (M' : Mh) (Q : VK), W.Ok K M → Rep K W.B W.ι x o → RepL K W.B W.ι vs ds → g o ds M = some (z, M') → VR K W z M' Q → r x vs W.H Q
theorem DE.lmeth (c : Ctx X P w K mg base k) {o e : Expr} {es : List Expr} {name : Str} {id : String} {apos cpos : Pos} {g : D → List D → Mh → Option (D × Mh)} {f : EF} {a : AF} (m : MetF X K id g) (slot : Slot "list" name id) (ty : typeOf (.builtin id) = pure (.type "method_descriptor")) (ho : DE X K o f) (ha : DA X K (e :: es) a)
    (hbase : ∀ i, attributeBase o name (X i).env (eval o (X i).env) = eval o (X i).env := by intro _; rfl)
    (hfew : ∀ i, ((backTo cpos (starEach (e :: es) (X i).env)).all (fun x => !x.1) && (backToKw cpos (keywordEach [] (X i).env)).all (fun x => x.1.isSome) && decide ((e :: es).length + ([] : List Keyword).length + (if ([] : List Keyword).isEmpty then 0 else 1) < 30)) = true := by intro _; rfl)
    (hline : (apos.endLine == cpos.line) = true := by rfl) (hs : ∀ i, starEach (e :: es) (X i).env = (false, eval e (X i).env) :: starEach es (X i).env := by intro _; rfl) (hpl : ∀ i, (backTo cpos (starEach es (X i).env)).any (·.1) = false := by intro _; rfl) :
    DE X K (.Call (.Attribute o name apos) (e :: es) [] cpos) (eMeth2 g f a) := by
  obtain ⟨t, pa, r⟩ := ho.go
  obtain ⟨ta, paa, ra⟩ := ha.go
  obtain ⟨rr, hm, hr⟩ := m.go
  refine ⟨tBM K "list" rr t ta, fun i => ?_, fun σ W δ M d M' Q w s ev q => ?_⟩
  · have h := pe_bm (X := X i) PySem.F.plainAttrs_list slot ty (hm i) (pa i) (paa i) (hbase i) (hfew i) hline (hs i) (hpl i)
    rw [c.K i] at h
    exact h
  · unfold eMeth2 at ev
    split at ev
    · rename_i od M1 h1
      split at ev
      · rename_i hso
        split at ev
        · rename_i ds M2 h2
          obtain ⟨xs, hxs⟩ := Option.isSome_iff_exists.mp hso
          refine r σ W δ M _ _ _ w s h1 fun v W1 l1 w1 r1 => ⟨?_, ?_⟩
          · obtain ⟨l, vs, rfl, s1, _⟩ := lstOf_rep w1 r1 hxs
            exact .inl ⟨rfl, vs, s1⟩
          · exact ra σ W1 δ M1 _ _ _ w1 (s.le l1) h2 fun vs W2 l2 w2 r2 => hr W2 M2 v od vs ds d M' Q w2 (r1.le l2) r2 ev (q.le (l1.trans l2))
        · cases ev
      · cases ev
    · cases ev
theorem mApp : MetF X K "list.append" gApp := ⟨_, fun i => mt_append, fun W M x o vs ds z M' Q w rx rv ev q => by
  unfold gApp at ev
  split at ev
  · split at ev
    · rename_i xs hm
      split at ev
      · rename_i hl
        cases ev
        obtain ⟨p, us, rfl, lv, hp, ru⟩ := lst_live w rx hm
        cases rv with
        | cons ry r3 =>
          cases r3
          refine ⟨p, us, _, rfl, rfl, hp, by rw [ru.len]; exact hl, ?_⟩
          exact q .non (W.put p _) Wd.put_le (Wd.put_ok w lv (.lst (ru.append (.cons ry .nil)))) .non
      · cases ev
    · cases ev
  · cases ev⟩
structure DJ (X : I → Cx) (K : PySem.W.Frag) (es : List Expr) (f : Str → Env → Mh → Option (D × Mh)) : Prop where
  go : ∃ ts : List TE, (∀ i, PJ (X i) es ts) ∧ ∀ (acc : Str) (σ : St) (W : Wd) (δ : Env) (M : Mh) (d : D) (M' : Mh) (Q : VK), W.Ok K M → Slots K W σ δ → f acc δ M = some (d, M') → VR K W d M' Q → tJs ts acc σ W.H (fun out H1 => Q (.str out) H1)
def jNil : Str → Env → Mh → Option (D × Mh) := fun acc _ M => some (.str acc, M)
def jCons (f : EF) (g : Str → Env → Mh → Option (D × Mh)) : Str → Env → Mh → Option (D × Mh) := fun acc δ M => match f δ M with
  | some (.str x, M1) => if (acc ++ x).length ≤ sizeLine then g (acc ++ x) δ M1 else none
  | _ => none
theorem DJ.nil : DJ X K [] jNil := ⟨[], fun i => .nil, fun acc σ W δ M d M' Q w s ev q => by
  cases ev
  exact q _ W (.refl W) w (.str _)⟩
theorem DJ.cons {e : Expr} {es : List Expr} {f : EF} {g : Str → Env → Mh → Option (D × Mh)} (a : DE X K e f) (b : DJ X K es g) : DJ X K (e :: es) (jCons f g) := by
  obtain ⟨t, p, r⟩ := a.go
  obtain ⟨ts, ps, rs⟩ := b.go
  refine ⟨t :: ts, fun i => .cons (p i) (ps i), fun acc σ W δ M d M' Q w s ev q => ?_⟩
  unfold jCons at ev
  split at ev
  · rename_i x M1 h1
    split at ev
    · rename_i hz
      refine r σ W δ M _ _ _ w s h1 fun v W1 l1 w1 r1 => ?_
      cases r1
      exact ⟨x, rfl, hz, rs _ σ W1 δ M1 d M' Q w1 (s.le l1) ev (q.le l1)⟩
    · cases ev
  · cases ev
def aSigns (f : EF) : AF := fun δ M => match f δ M with
  | some (.str x, M1) => some (x.cps.toList.map fun c => .str ⟨#[c]⟩, M1)
  | _ => none
theorem DI.str {tg e : Expr} {f : EF} (h : DE X K e f) : DI X K tg e (aSigns f) := by
  obtain ⟨t, p, r⟩ := h.go
  refine ⟨iStr t, fun i => pi_str (p i), fun σ W δ M ds M' R w s ev q => ?_⟩
  unfold aSigns at ev
  split at ev
  · rename_i x M1 h1
    cases ev
    refine r σ W δ M _ _ _ w s h1 fun v W1 l1 w1 r1 => ?_
    cases r1
    refine ⟨x, rfl, q _ W1 l1 w1 fun i W2 M2 l2 w2 => ⟨fun e => ?_, fun d e => ?_⟩⟩
    · have := List.getElem?_eq_none_iff.mp e
      rw [List.length_map, Array.length_toList] at this
      exact this
    · rw [List.getElem?_map] at e
      cases hc : x.cps.toList[i]? with
      | none =>
        rw [hc] at e
        cases e
      | some c =>
        rw [hc] at e
        cases e
        have hi : i < x.cps.size := by
          have := (List.getElem?_eq_some_iff.mp hc).1
          simpa using this
        refine ⟨hi, fun y H' ⟨e1, c', e2, e3⟩ => ⟨W2, e1.symm, .refl W2, w2, ?_⟩⟩
        have e4 : some c' = some c := by rw [← e2, ← hc]; simp
        cases e4
        subst e3
        exact .str _
  · cases ev
theorem wk_pair {J : It} {W0 : Wd} {ds es : List D} {n : Nat} (hs : ∀ (W : Wd) (M : Mh), W0.Lo W → W.Ok K M → (∀ i, n ≤ i → J.stop i W.H) ∧ ∀ i a b, i < n → ds[i]? = some a → es[i]? = some b → J.go i W.H ∧ ∀ x H', J.yld i W.H x H' → ∃ T x1 x2, x = .ref T ∧ W.H T = none ∧ H' = upd W.H T (.tup [x1, x2]) ∧ Rep K W.B W.ι x1 a ∧ Rep K W.B W.ι x2 b)
    (h1 : n ≤ ds.length) (h2 : n ≤ es.length) (hn : n = min ds.length es.length) : Wk K J W0 ((ds.zip es).map fun p => .tup [p.1, p.2]) := fun i W M l w => by
  obtain ⟨hst, hgo⟩ := hs W M l w
  refine ⟨fun e => ?_, fun d e => ?_⟩
  · have := List.getElem?_eq_none_iff.mp e
    rw [List.length_map, List.length_zip] at this
    exact hst i (by omega)
  · rw [List.getElem?_map] at e
    cases hz : (ds.zip es)[i]? with
    | none =>
      rw [hz] at e
      cases e
    | some p =>
      rw [hz] at e
      cases e
      obtain ⟨a1, a2⟩ := List.getElem?_zip_eq_some.mp hz
      have hi : i < n := by
        have := (List.getElem?_eq_some_iff.mp hz).1
        rw [List.length_zip] at this
        omega
      obtain ⟨g1, g2⟩ := hgo i _ _ hi a1 a2
      refine ⟨g1, fun x H' y => ?_⟩
      obtain ⟨T, x1, x2, rfl, hT, rfl, r1, r2⟩ := g2 x H' y
      obtain ⟨l2, w2, r3⟩ := lay_tup w hT (.cons r1 (.cons r2 .nil))
      exact ⟨_, rfl, l2, w2, r3⟩
def aEnum (a : AF) : AF := fun δ M => match a δ M with
  | some ([.lst xs], M1) => some ((((List.range xs.length).map fun (i : Nat) => D.int i).zip xs).map fun p => .tup [p.1, p.2], M1)
  | some ([.lsk xs], M1) => some ((((List.range xs.length).map fun (i : Nat) => D.int i).zip xs).map fun p => .tup [p.1, p.2], M1)
  | _ => none
theorem wk_enum {W0 : Wd} {a : Addr} {vs : List V} {ds : List D} (h : SqL K W0.B a vs) (r : RepL K W0.B W0.ι vs ds) : Wk K (Ite K a) W0 ((((List.range ds.length).map fun (i : Nat) => D.int i).zip ds).map fun p => .tup [p.1, p.2]) := by
  refine wk_pair (n := ds.length) (fun W M l w => ⟨fun i hi => ?_, fun i d1 d2 hi e1 e2 => ?_⟩) (by simp) (Nat.le_refl _) (by simp)
  · exact ⟨vs, sqL_mono w.sub (sqL_mono l.same h), by rw [r.len]; exact hi⟩
  · have hs : SqL K W.H a vs := sqL_mono w.sub (sqL_mono l.same h)
    obtain ⟨v, h1, h2⟩ := (r.mono l.same l.ix).get e2
    refine ⟨⟨vs, v, hs, h1⟩, fun x H' ⟨T, x2, a1, a2, a3, a4⟩ => ⟨T, _, x2, a1, a2, a3, ?_, ?_⟩⟩
    · rw [List.getElem?_map, List.getElem?_range hi] at e1
      cases e1
      exact .int _
    · have e3 := (a4 vs hs).symm.trans h1
      cases e3
      exact h2
theorem DI.enum (c : Ctx X P w K mg base k) (hm : mg "enumerate" = none) {e : Expr} {p pos tpos : Pos} {elts : List Expr} {kk : Nat} {a : AF} (h : DA X K [e] a) (hg : ∀ i, Gl (X i) "enumerate" := by intro _; rfl) (hs : ∀ i, starEach [e] (X i).env = [(false, eval e (X i).env)] := by intro _; rfl) :
    DI X K (.Tuple elts kk tpos) (.Call (.Name "enumerate" p) [e] [] pos) (aEnum a) := by
  obtain ⟨t, pa, r⟩ := h.go
  refine ⟨iEnum K t, fun i => ?_, fun σ W δ M ds M' R w s ev q => ?_⟩
  · have h := pi_enum (X := X i) (hg i) (by rw [c.mg i]; exact hm) (pa i) (hs i) (p := p) (pos := pos) (tpos := tpos) (elts := elts) (kk := kk)
    rw [c.K i] at h
    exact h
  · unfold aEnum at ev
    split at ev
    · rename_i xs M1 h1
      cases ev
      refine r σ W δ M _ _ _ w s h1 fun vs W1 l1 w1 r1 => ?_
      cases r1 with
      | cons r1 r2 =>
        cases r2
        cases r1 with
        | lst h1 r1 => exact ⟨_, _, rfl, .inl (.inl (w1.sub _ _ h1)), q _ W1 l1 w1 (wk_enum (.inl (.inl h1)) r1)⟩
    · rename_i xs M1 h1
      cases ev
      refine r σ W δ M _ _ _ w s h1 fun vs W1 l1 w1 r1 => ?_
      cases r1 with
      | cons r1 r2 =>
        cases r2
        cases r1 with
        | lsk h1 r1 => exact ⟨_, _, rfl, sqL_mono w1.sub h1, q _ W1 l1 w1 (wk_enum h1 r1)⟩
    · cases ev
def aZip (a : AF) : AF := fun δ M => match a δ M with
  | some ([.lst xs, .lst ys], M1) => some ((xs.zip ys).map fun p => .tup [p.1, p.2], M1)
  | some ([.tup xs, .tup ys], M1) => some ((xs.zip ys).map fun p => .tup [p.1, p.2], M1)
  | _ => none
theorem wk_zip {W0 : Wd} {a b : Addr} {vs us : List V} {ds es : List D} (h : SqL K W0.B a vs) (r : RepL K W0.B W0.ι vs ds) (h' : SqL K W0.B b us) (r' : RepL K W0.B W0.ι us es) : Wk K (Itz K a b) W0 ((ds.zip es).map fun p => .tup [p.1, p.2]) := by
  refine wk_pair (n := min ds.length es.length) (fun W M l w => ⟨fun i hi => ?_, fun i d1 d2 hi e1 e2 => ?_⟩) (Nat.min_le_left _ _) (Nat.min_le_right _ _) rfl
  · exact ⟨vs, us, sqL_mono w.sub (sqL_mono l.same h), sqL_mono w.sub (sqL_mono l.same h'), by rw [r.len, r'.len]; omega⟩
  · have hs : SqL K W.H a vs := sqL_mono w.sub (sqL_mono l.same h)
    have hs' : SqL K W.H b us := sqL_mono w.sub (sqL_mono l.same h')
    obtain ⟨v, h1, h2⟩ := (r.mono l.same l.ix).get e1
    obtain ⟨u, h3, h4⟩ := (r'.mono l.same l.ix).get e2
    refine ⟨⟨vs, us, v, u, hs, hs', h1, h3⟩, fun x H' ⟨T, x1, x2, a1, a2, a3, a4, a5⟩ => ⟨T, x1, x2, a1, a2, a3, ?_, ?_⟩⟩
    · have e3 := (a4 vs hs).symm.trans h1
      cases e3
      exact h2
    · have e3 := (a5 us hs').symm.trans h3
      cases e3
      exact h4
theorem wk_zipT {W0 : Wd} {a b : Addr} {vs us : List V} {ds es : List D} (h : SqT K W0.B a vs) (r : RepL K W0.B W0.ι vs ds) (h' : SqT K W0.B b us) (r' : RepL K W0.B W0.ι us es) : Wk K (RZ.ItzT K a b) W0 ((ds.zip es).map fun p => .tup [p.1, p.2]) := by
  refine wk_pair (n := min ds.length es.length) (fun W M l w => ⟨fun i hi => ?_, fun i d1 d2 hi e1 e2 => ?_⟩) (Nat.min_le_left _ _) (Nat.min_le_right _ _) rfl
  · exact ⟨vs, us, sqT_mono w.sub (sqT_mono l.same h), sqT_mono w.sub (sqT_mono l.same h'), by rw [r.len, r'.len]; omega⟩
  · have hs : SqT K W.H a vs := sqT_mono w.sub (sqT_mono l.same h)
    have hs' : SqT K W.H b us := sqT_mono w.sub (sqT_mono l.same h')
    obtain ⟨v, h1, h2⟩ := (r.mono l.same l.ix).get e1
    obtain ⟨u, h3, h4⟩ := (r'.mono l.same l.ix).get e2
    refine ⟨⟨vs, us, v, u, hs, hs', h1, h3⟩, fun x H' ⟨T, x1, x2, a1, a2, a3, a4, a5⟩ => ⟨T, x1, x2, a1, a2, a3, ?_, ?_⟩⟩
    · have e3 := (a4 vs hs).symm.trans h1
      cases e3
      exact h2
    · have e3 := (a5 us hs').symm.trans h3
      cases e3
      exact h4
theorem DI.zip (c : Ctx X P w K mg base k) (hm : mg "zip" = none) {e e2 : Expr} {p pos tpos : Pos} {elts : List Expr} {kk : Nat} {a : AF} (h : DA X K [e, e2] a) (hg : ∀ i, Gl (X i) "zip" := by intro _; rfl) (hs : ∀ i, starEach [e, e2] (X i).env = (false, eval e (X i).env) :: starEach [e2] (X i).env := by intro _; rfl) (hpl : ∀ i, (backTo pos (starEach [e2] (X i).env)).any (·.1) = false := by intro _; rfl) :
    DI X K (.Tuple elts kk tpos) (.Call (.Name "zip" p) [e, e2] [] pos) (aZip a) := by
  obtain ⟨t, pa, r⟩ := h.go
  refine ⟨RZ.iZipA K t, fun i => ?_, fun σ W δ M ds M' R w s ev q => ?_⟩
  · have h := RZ.pi_zipA (X := X i) (hg i) (by rw [c.mg i]; exact hm) (pa i) (hs i) (hpl i) (p := p) (pos := pos) (tpos := tpos) (elts := elts) (kk := kk)
    rw [c.K i] at h
    exact h
  · unfold aZip at ev
    split at ev
    · rename_i xs ys M1 h1
      cases ev
      refine r σ W δ M _ _ _ w s h1 fun vs W1 l1 w1 r1 => ?_
      cases r1 with
      | cons r1 r2 =>
        cases r2 with
        | cons r2 r3 =>
          cases r3
          cases r1 with
          | lst h1 r1 =>
            cases r2 with
            | lst h2 r2 => exact ⟨_, _, _, _, rfl, .inl ⟨.inl (.inl (w1.sub _ _ h1)), .inl (.inl (w1.sub _ _ h2)), q _ W1 l1 w1 (wk_zip (.inl (.inl h1)) r1 (.inl (.inl h2)) r2)⟩⟩
    · rename_i xs ys M1 h1
      cases ev
      refine r σ W δ M _ _ _ w s h1 fun vs W1 l1 w1 r1 => ?_
      cases r1 with
      | cons r1 r2 =>
        cases r2 with
        | cons r2 r3 =>
          cases r3
          cases r1 with
          | tup h1 r1 =>
            cases r2 with
            | tup h2 r2 => exact ⟨_, _, _, _, rfl, .inr ⟨sqT_mono w1.sub h1, sqT_mono w1.sub h2, q _ W1 l1 w1 (wk_zipT h1 r1 h2 r2)⟩⟩
    · cases ev
end
end Pl
namespace Pl
open PySem L2
section
variable {I : Type} {X : I → Cx} {P : Program} {w : World} {K : PySem.W.Frag} {mg : Str → Option Value} {base : Heap} {k : Nat}
/-- what is never reached -/
def sNever : SF := fun _ _ => none
theorem DS.never {s : Stmt} : DS X K s sNever := ⟨tNever, fun i => ps_never, fun σ W δ M o E w s e q => by cases e⟩
theorem DB.never {s : List Stmt} : DB X K s sNever := ⟨tNever, fun i => pss_never, fun σ W δ M o E w s e q => by cases e⟩
def dget (kvs : List (Key × D)) (q : Key) : Option D := (kvs.find? fun kv => decide (kv.1 = q)).map (·.2)
def dput (kvs : List (Key × D)) (q : Key) (v : D) : List (Key × D) :=
  if (kvs.any fun kv => decide (kv.1 = q)) = true then kvs.map (fun kv => if kv.1 = q then (kv.1, v) else kv) else kvs ++ [(q, v)]
def dmerge (kvs : List (Key × D)) : List (Key × D) := kvs.foldl (fun acc kv => dput acc kv.1 kv.2) []
section
variable {B : Hp} {ι : List Addr}
theorem RepK.len : ∀ {vs : List (Key × V)} {ds : List (Key × D)}, RepK K B ι vs ds → vs.length = ds.length
  | _, _, .nil => rfl
  | _, _, .cons _ r => congrArg (· + 1) r.len
theorem RepK.any (q : Key) : ∀ {vs : List (Key × V)} {ds : List (Key × D)}, RepK K B ι vs ds → (vs.any fun kv => decide (kv.1 = q)) = (ds.any fun kv => decide (kv.1 = q))
  | _, _, .nil => rfl
  | _, _, .cons _ r => by
    rw [List.any_cons, List.any_cons, r.any]
theorem RepK.get (q : Key) : ∀ {vs : List (Key × V)} {ds : List (Key × D)}, RepK K B ι vs ds → (dget ds q = none → valV vs q = none) ∧ ∀ d, dget ds q = some d → ∃ v, valV vs q = some v ∧ Rep K B ι v d
  | _, _, .nil => ⟨fun _ => rfl, fun d e => by cases e⟩
  | _, _, .cons (k := k0) (v := v0) (d := d0) r0 r => by
    obtain ⟨h1, h2⟩ := r.get q
    by_cases e : k0 = q
    · refine ⟨fun h => ?_, fun d h => ?_⟩
      · simp [dget, List.find?_cons, e] at h
      · simp [dget, List.find?_cons, e] at h
        subst h
        exact ⟨v0, valV_pos e, r0⟩
    · have e1 : ∀ rest : List (Key × D), dget ((k0, d0) :: rest) q = dget rest q := fun rest => by simp [dget, List.find?_cons, e]
      refine ⟨fun h => ?_, fun d h => ?_⟩
      · rw [e1] at h
        rw [valV_neg e]
        exact h1 h
      · rw [e1] at h
        rw [valV_neg e]
        exact h2 d h
theorem RepK.append : ∀ {vs us : List (Key × V)} {ds es : List (Key × D)}, RepK K B ι vs ds → RepK K B ι us es → RepK K B ι (vs ++ us) (ds ++ es)
  | _, _, _, _, .nil, s => s
  | _, _, _, _, .cons r t, s => .cons r (t.append s)
theorem RepK.map_put (q : Key) {v : V} {d : D} (rv : Rep K B ι v d) : ∀ {vs : List (Key × V)} {ds : List (Key × D)}, RepK K B ι vs ds → RepK K B ι (vs.map fun kv => if kv.1 = q then (kv.1, v) else kv) (ds.map fun kv => if kv.1 = q then (kv.1, d) else kv)
  | _, _, .nil => .nil
  | _, _, .cons (k := k0) r0 r => by
    have ih := RepK.map_put q rv r
    rw [List.map_cons, List.map_cons]
    by_cases e : k0 = q
    · simp only [e, if_true]
      exact .cons rv ih
    · simp only [e, if_false]
      exact .cons r0 ih
theorem RepK.put (q : Key) {v : V} {d : D} (rv : Rep K B ι v d) {vs : List (Key × V)} {ds : List (Key × D)} (r : RepK K B ι vs ds) : RepK K B ι (putK vs q v) (dput ds q d) := by
  unfold putK dput
  rw [r.any q]
  split
  · exact r.map_put q rv
  · exact r.append (.cons rv .nil)
theorem RepK.merge {vs : List (Key × V)} {ds : List (Key × D)} (r : RepK K B ι vs ds) : RepK K B ι (mergeK [] vs) (dmerge ds) := by
  unfold mergeK dmerge
  have h : ∀ {a : List (Key × V)} {b : List (Key × D)}, RepK K B ι a b → RepK K B ι (vs.foldl (fun acc kv => putK acc kv.1 kv.2) a) (ds.foldl (fun acc kv => dput acc kv.1 kv.2) b) := by
    induction r with
    | nil => exact fun h => h
    | @cons k0 v0 d0 vs ds r0 r ih => exact fun h => ih (h.put k0 r0)
  exact h .nil
end
def keyOf : D → Option Key
  | .int i => some (.inl i)
  | .str x => some (.inr x)
  | _ => none
theorem keyOf_rep {B : Hp} {ι : List Addr} {v : V} {d : D} {q : Key} (r : Rep K B ι v d) (h : keyOf d = some q) : v = kV q := by
  cases r <;> cases h <;> rfl
def dicOf (M : Mh) : D → Option (List (Key × D))
  | .ref n => (match M[n]? with
    | some (.dic kvs) => some kvs
    | _ => none)
  | _ => none
theorem dicOf_rep {W : Wd} {M : Mh} {x : V} {d : D} {kvs : List (Key × D)} (w : W.Ok K M) (r : Rep K W.B W.ι x d) (h : dicOf M d = some kvs) : ∃ a n vs, d = .ref n ∧ x = .ref a ∧ Live W M n a (.dic kvs) ∧ W.H a = some (.dK vs) ∧ RepK K W.B W.ι vs kvs := by
  unfold dicOf at h
  split at h
  · split at h
    · rename_i hm
      cases h
      cases r with
      | ref hi =>
        have lv : Live W M _ _ (.dic kvs) := ⟨hi, hm, fun z => by cases z⟩
        obtain ⟨_, _, o, ho, ro⟩ := w.live _ _ _ lv
        cases ro with
        | dic r1 => exact ⟨_, _, _, rfl, rfl, lv, ho, r1⟩
    · cases h
  · cases h
def gDget : O2 := fun a b M => match dicOf M a, keyOf b with
  | some kvs, some q => (dget kvs q).map fun d => (d, M)
  | _, _ => none
theorem hu1 {A : Around} {j : Nat} (r : Room j A) : A.units + 1 < cLine := by
  have := r.un
  omega
theorem DE.dgt (c : Ctx X P w K mg base k) {a b : Expr} {pos} {f g : EF} (ha : DE X K a f) (hb : DE X K b g) (hs : NoSl b := by exact fun _ _ => rfl) : DE X K (.Subscript a b pos) (eOp gDget f g) := by
  obtain ⟨ta, pa, ra⟩ := ha.go
  obtain ⟨tb, pb, rb⟩ := hb.go
  refine ⟨tDGet ta tb, fun i => pe_dget (hu1 (c.room i)) (pa i) (pb i) hs, fun σ W δ M d M' Q w s e q => ?_⟩
  unfold eOp at e
  split at e
  · rename_i a' M1 h1
    split at e
    · rename_i b' M2 h2
      refine ra σ W δ M a' M1 _ w s h1 fun x W1 l1 w1 r1 => ?_
      refine rb σ W1 δ M1 b' M2 _ w1 (s.le l1) h2 fun y W2 l2 w2 r2 => ?_
      unfold gDget at e
      split at e
      · rename_i kvs q0 h3 h4
        obtain ⟨p, n, vs, _, rfl, lv, hp, rk⟩ := dicOf_rep w2 (r1.le l2) h3
        have ey := keyOf_rep r2 h4
        subst ey
        cases hd : Pl.dget kvs q0 with
        | none =>
          rw [hd] at e
          cases e
        | some d0 =>
          rw [hd] at e
          cases e
          obtain ⟨v, hv, rv⟩ := (rk.get q0).2 _ hd
          exact ⟨p, v, rfl, by rw [← hv]; exact DGet.k hp, q v W2 (l1.trans l2) w2 rv⟩
      · cases e
    · cases e
  · cases e
def gDput (a b v : D) (M : Mh) : Option Mh := match a with
  | .ref n => (match M[n]?, keyOf b with
    | some (.dic kvs), some q => if kvs.length < sizeLine then some (M.set n (.dic (dput kvs q v))) else none
    | _, _ => none)
  | _ => none
def sDput (f g h : EF) : SF := fun δ M => match h δ M with
  | some (v, M1) => (match f δ M1 with
    | some (a, M2) => (match g δ M2 with
      | some (b, M3) => (match gDput a b v M3 with
        | some M4 => some (.nx δ M4)
        | none => none)
      | none => none)
    | none => none)
  | none => none
theorem DS.dput (c : Ctx X P w K mg base k) {o i v : Expr} {pos pos'} {f g h : EF} (ho : DE X K o f) (hi : DE X K i g) (hv : DE X K v h) (hs : ∀ j, swapsWith v (some (.Subscript o i pos')) pos.line (X j).env = pure false := by intro _; rfl) :
    DS X K (.Assign [.Subscript o i pos'] v pos) (sDput f g h) := by
  obtain ⟨to, po, ro⟩ := ho.go
  obtain ⟨ti, pi, ri⟩ := hi.go
  obtain ⟨tv, pv', rv⟩ := hv.go
  refine ⟨sDPut to ti tv, fun j => ps_dput (hu1 (c.room j)) (po j) (pi j) (pv' j) (hs j), fun σ W δ M out E w s e q => ?_⟩
  unfold sDput at e
  split at e
  · rename_i vd M1 h1
    split at e
    · rename_i od M2 h2
      split at e
      · rename_i id M3 h3
        split at e
        · rename_i M4 h4
          cases e
          refine rv σ W δ M vd M1 _ w s h1 fun v W1 l1 w1 r1 => ?_
          refine ro σ W1 δ M1 od M2 _ w1 (s.le l1) h2 fun x W2 l2 w2 r2 => ?_
          refine ri σ W2 δ M2 id M3 _ w2 (s.le (l1.trans l2)) h3 fun y W3 l3 w3 r3 => ?_
          unfold gDput at h4
          split at h4
          · rename_i n
            split at h4
            · rename_i kvs q0 h5 h6
              split at h4
              · rename_i hl
                cases h4
                obtain ⟨p, n', vs, en, rfl, lv, hp, rk⟩ := dicOf_rep (kvs := kvs) w3 (r2.le l3) (by unfold dicOf; dsimp only; rw [h5])
                cases en
                have ey := keyOf_rep r3 h6
                subst ey
                refine ⟨p, _, rfl, DPut.k hp (by rw [rk.len]; exact hl), ?_⟩
                have l13 := (l1.trans l2).trans l3
                exact q σ (W3.put p _) (l13.trans Wd.put_le) (Wd.put_ok w3 lv (.dic (rk.put q0 (r1.le (l2.trans l3))))) (s.le (l13.trans Wd.put_le))
              · cases h4
            · cases h4
          · cases h4
        · cases e
      · cases e
    · cases e
  · cases e
/-- pairs of a display -/
structure DPs (X : I → Cx) (K : PySem.W.Frag) (pos : Pos) (keys : List (Option Expr)) (values : List Expr) (f : Env → Mh → Option (List (Key × D) × Mh)) : Prop where
  go : ∃ trs : List (TE × TE), (∀ i, PPs (X i) pos keys values trs) ∧ ∀ (σ : St) (W : Wd) (δ : Env) (M : Mh) (kvs : List (Key × D)) (M' : Mh) (Q : List (V × V) → Hp → Prop), W.Ok K M → Slots K W σ δ → f δ M = some (kvs, M') →
    (∀ vs W', W.Le W' → W'.Ok K M' → RepK K W'.B W'.ι vs kvs → Q (vs.map fun kv => (kV kv.1, kv.2)) W'.H) → tPairs trs σ W.H Q
def psNil : Env → Mh → Option (List (Key × D) × Mh) := fun _ M => some ([], M)
def psCons (f g : EF) (h : Env → Mh → Option (List (Key × D) × Mh)) : Env → Mh → Option (List (Key × D) × Mh) := fun δ M => match f δ M with
  | some (a, M1) => (match g δ M1 with
    | some (v, M2) => (match keyOf a with
      | some q => (match h δ M2 with
        | some (r, M3) => some ((q, v) :: r, M3)
        | none => none)
      | none => none)
    | none => none)
  | none => none
theorem DPs.nil {pos : Pos} : DPs X K pos [] [] psNil := ⟨[], fun i => pps_nil, fun σ W δ M kvs M' Q w s e q => by
  cases e
  exact q [] W (.refl W) w .nil⟩
theorem DPs.cons {pos : Pos} {a v : Expr} {ks : List (Option Expr)} {vs : List Expr} {f g : EF} {h : Env → Mh → Option (List (Key × D) × Mh)} (ha : DE X K a f) (hv : DE X K v g) (hr : DPs X K pos ks vs h) : DPs X K pos (some a :: ks) (v :: vs) (psCons f g h) := by
  obtain ⟨ta, pa, ra⟩ := ha.go
  obtain ⟨tv, pv', rv⟩ := hv.go
  obtain ⟨ts, ps, rs⟩ := hr.go
  refine ⟨(ta, tv) :: ts, fun i => pps_cons (pa i) (pv' i) (ps i), fun σ W δ M kvs M' Q w s e q => ?_⟩
  unfold psCons at e
  split at e
  · rename_i ad M1 h1
    split at e
    · rename_i vd M2 h2
      split at e
      · rename_i q0 h3
        split at e
        · rename_i r M3 h4
          cases e
          refine ra σ W δ M _ _ _ w s h1 fun x W1 l1 w1 r1 => ?_
          refine rv σ W1 δ M1 _ _ _ w1 (s.le l1) h2 fun y W2 l2 w2 r2 => ?_
          refine rs σ W2 δ M2 _ _ _ w2 (s.le (l1.trans l2)) h4 fun us W3 l3 w3 r3 => ?_
          have ex := keyOf_rep r1 h3
          subst ex
          exact q ((q0, y) :: us) W3 ((l1.trans l2).trans l3) w3 (.cons (r2.le l3) r3)
        · cases e
      · cases e
    · cases e
  · cases e
def eDic (h : Env → Mh → Option (List (Key × D) × Mh)) : EF := fun δ M => match h δ M with
  | some (kvs, M1) => if kvs.length ≤ 15 then some (.ref M1.length, M1 ++ [.dic (dmerge kvs)]) else none
  | none => none
theorem Wd.unhold_new {W : Wd} {M : Mh} {p : Addr} {o o' : HO} {m : MO} {P0 : Hp} (w : W.Ok K M) (hP : W.P = upd P0 p o) (h0 : P0 p = none) (r : RepO K W.B W.ι p o' m) : (⟨upd W.H p o', W.B, W.ι ++ [p], P0⟩ : Wd).Ok K (M ++ [m]) := by
  have hp : W.P p = some o := by rw [hP, upd_same]
  have bp := w.pin p o hp
  have ne : ∀ {n a u}, Live W M n a u → a ≠ p := fun {n a u} h e => by
    obtain ⟨_, q, _⟩ := w.live n a u h
    rw [e, hp] at q
    cases q
  have lv : ∀ n a u, Live (⟨upd W.H p o', W.B, W.ι ++ [p], P0⟩ : Wd) (M ++ [m]) n a u → Live W M n a u ∨ (n = M.length ∧ a = p ∧ u = m) := fun n a u h => by
    obtain ⟨h1, h2, h3⟩ := h
    have h1' : (W.ι ++ [p])[n]? = some a := h1
    by_cases hn : n < M.length
    · rw [List.getElem?_append_left (by rw [w.len]; exact hn)] at h1'
      rw [List.getElem?_append_left hn] at h2
      exact .inl ⟨h1', h2, h3⟩
    · have e : n = M.length := by
        have := (List.getElem?_eq_some_iff.mp h2).1
        rw [List.length_append] at this
        simp at this
        omega
      subst e
      rw [List.getElem?_append_right (by rw [w.len]; exact Nat.le_refl _), w.len] at h1'
      rw [List.getElem?_append_right (Nat.le_refl _)] at h2
      simp at h1' h2
      exact .inr ⟨rfl, h1'.symm, h2.symm⟩
  have ln : ∀ {n a u}, Live W M n a u → n < M.length := fun {n a u} h => (List.getElem?_eq_some_iff.mp h.2.1).1
  have ix : ∀ (n : Nat) (c : Addr), W.ι[n]? = some c → (W.ι ++ [p])[n]? = some c := fun n c h => by
    rw [List.getElem?_append_left (List.getElem?_eq_some_iff.mp h).1]
    exact h
  refine ⟨fun a u h => ?_, fun a u h => ?_, ?_, fun n a u h => ?_, fun n j a u v h g => ?_⟩
  · exact (upd_ne (fun e => by
      rw [e] at h
      have h' : W.B p = some u := h
      rw [bp.2] at h'
      cases h')).trans (w.sub a u h)
  · have h' : P0 a = some u := h
    have e : a ≠ p := fun e => by
      rw [e, h0] at h'
      cases h'
    have q := w.pin a u (by rw [hP, upd_ne e]; exact h')
    exact ⟨(upd_ne e).trans q.1, q.2⟩
  · show (W.ι ++ [p]).length = _
    simp [w.len]
  · rcases lv n a u h with h | ⟨_, rfl, rfl⟩
    · obtain ⟨h1, h2, g, h3, h4⟩ := w.live n a u h
      have e := ne h
      rw [hP, upd_ne e] at h2
      exact ⟨h1, h2, g, (upd_ne e).trans h3, h4.mono (fun _ _ q => q) ix⟩
    · exact ⟨bp.2, h0, o', upd_same, r.mono (fun _ _ q => q) ix⟩
  · rcases lv n a u h with h | ⟨h1, h2, h3⟩
    · rcases lv j a v g with g | ⟨g1, g2, g3⟩
      · exact w.inj n j a u v h g
      · exact absurd g2 (ne h)
    · rcases lv j a v g with g | ⟨g1, g2, g3⟩
      · exact absurd h2 (ne g)
      · omega
theorem DE.dic {pos : Pos} {keys : List (Option Expr)} {values : List Expr} {h : Env → Mh → Option (List (Key × D) × Mh)} (hp : DPs X K pos keys values h) (hall : keys.all (·.isSome) = true := by rfl) (hl : keys.length = values.length := by rfl) (h0 : keys ≠ [] := by exact fun z => nomatch z)
    (h15 : keys.length ≤ 15 := by decide) : DE X K (.Dict keys values pos) (eDic h) := by
  obtain ⟨ts, ps, rs⟩ := hp.go
  refine ⟨tDisp ts, fun i => pe_disp (ps i) hall hl h0 h15, fun σ W δ M d M' Q w s e q => fun p hp => ?_⟩
  unfold eDic at e
  split at e
  · rename_i kvs M1 h1
    split at e
    · rename_i hlen
      cases e
      have P0 := w.pnone hp
      have B0 := w.bnone hp
      refine rs σ (W.hold p (.dK [])) δ M kvs M1 _ (Wd.hold_ok w hp) (s.cong rfl rfl) h1 fun vs W1 l1 w1 r1 => ?_
      have hP : W1.P = upd W.P p (.dK []) := l1.pp
      refine ⟨(w1.pin p _ (by rw [hP, upd_same])).1, vs, rfl, by rw [r1.len]; exact hlen, ?_⟩
      have w2 := Wd.unhold_new w1 hP P0 (.dic r1.merge)
      refine q (.ref p) ⟨upd W1.H p (.dK (mergeK [] vs)), W1.B, W1.ι ++ [p], W.P⟩ ⟨l1.same, ?_, rfl⟩ w2 (.ref ?_)
      · obtain ⟨l, hl⟩ := l1.pre
        exact ⟨l ++ [p], by
          show W1.ι ++ [p] = _
          rw [hl]
          show W.ι ++ l ++ [p] = _
          rw [List.append_assoc]⟩
      · show (W1.ι ++ [p])[M1.length]? = some p
        rw [← w1.len]
        simp
    · cases e
  · cases e
end
end Pl
namespace Pl
open PySem L2
open PyProof.Rows (IntsAre AllBare)
theorem ints_rep {K : PySem.W.Frag} {B : Hp} {ι : List Addr} : ∀ ns : List Int, RepL K B ι (ns.map V.int) (ns.map D.int)
  | [] => .nil
  | n :: ns => .cons (.int n) (ints_rep ns)
theorem law_callD {P : Program} {w : World} {K : PySem.W.Frag} {mg mb : Str → Option Value} {k : Nat} {fa a : Addr} {fd : FuncData} {x : Str} {F : Fn} {t₁ : Shared} {us : List Value} {ns : List Int}
    (kin : K.In t₁.heap) (gl : t₁.heap.Ns mainGlobals mg) (bl : t₁.heap.Ns builtinsNs mb) (blx : ∀ x : Str, x ≠ "__name__" → mb x = bootBuiltins x) (nl : t₁.heap.NoLimit) (gn : t₁.gens = #[])
    (at_a : t₁.heap.get? a = some { cls := .type "list", data := .seq us.toArray }) (isv : IntsAre us ns) (small : ns.length ≤ sizeLine) (room : Room k PySem.callerA)
    (hF : ∀ base : Heap, K.In base → base.Ns mainGlobals mg → DFn P w K mg base k fa fd [x] F) (bnd : ∀ (s : Shared) (u : Value), BindsTo s fd ⟨[u], []⟩ [(x, u)])
    (tru : ∃ M', F [.lsk (ns.map D.int)] [] = some (.bl true, M')) :
    codeAny (model P w) PySem.callerA (.call (.ref fa) ⟨[.ref a], []⟩) (fun o t' => o = .ok (.ret (.bool true)) ∧ OldK t₁.heap t'.heap ∧ t'.os = t₁.os ∧ AllBare t'.gens) t₁ := by
  have rel := vals_ints isv
  have lenU := isv.length
  have main : ∀ G : Hp, L2.Only G → SqL K G a (ns.map V.int) → HOk P w G t₁.heap → (∀ b, G b ≠ none → b = a) → (G a ≠ none → K.lookup a = none) →
      codeAny (model P w) PySem.callerA (.call (.ref fa) ⟨[.ref a], []⟩) (fun o t' => o = .ok (.ret (.bool true)) ∧ OldK t₁.heap t'.heap ∧ t'.os = t₁.os ∧ AllBare t'.gens) t₁ := fun G only seqA gok ga gk => by
    have keepB : ∀ {b : Addr} {o : Obj}, t₁.heap.get? b = some o → G b = none → (hidT t₁.heap G).get? b = some o := fun e n => hidT_get e n
    have noDict : ∀ {b : Addr} {o : Obj} {es : Array DictEntry} {ep : Nat}, t₁.heap.get? b = some o → o.data = .dict es ep → G b = none := fun {b o es ep} e dd => by
      cases gq : G b with
      | none => rfl
      | some u =>
        have eb : b = a := ga b (by rw [gq]; simp)
        rw [eb, at_a] at e
        cases e
        exact nomatch (show Data.seq us.toArray _ = Data.dict es ep from dd)
    have nsB : ∀ {b : Addr} {m : Str → Option Value}, t₁.heap.Ns b m → (hidT t₁.heap G).Ns b m := fun ⟨o, es, ep, e, dd, r⟩ => ⟨o, es, ep, keepB e (noDict e dd), dd, r⟩
    have kinB : K.In (hidT t₁.heap G) := fun b o e => keepB (kin b o e) (by
      cases gq : G b with
      | none => rfl
      | some u =>
        have eb : b = a := ga b (by rw [gq]; simp)
        rw [eb] at gq e
        rw [gk (by rw [gq]; simp)] at e
        cases e)
    have modB : Mod K mg (hidT t₁.heap G) := ⟨kinB, nsB gl, ⟨mb, nsB bl, blx⟩, let ⟨mc, n1, n2⟩ := nl; ⟨mc, nsB n1, n2⟩⟩
    have envB : Env0 P w K mg (hidT t₁.heap G) PySem.callerA [] t₁ G := ⟨rfl, modB, fun b o e => of_hidT e, Nat.le_of_eq (hidT_size _ _), trivial, fun b hb => (by cases hb), gok, .of_eq gn⟩
    obtain ⟨M', hv⟩ := tru
    have rs : RepL K G [] (ns.map V.int) (ns.map D.int) := by
      exact ints_rep ns
    have W0 : (⟨G, G, [], fun _ => none⟩ : Wd).Ok K [] := ⟨fun _ _ e => e, fun b o e => (by cases e), rfl, fun n b o l => (by cases l.1), fun n m b o u l => (by cases l.1)⟩
    refine codeAny_mono ((hF _ kinB (nsB gl)).run PySem.callerA [] t₁ G ⟨[.ref a], []⟩ [.ref a] [.ref a] (fun v _ => v = .bl true) room rfl envB (bnd t₁ (.ref a)) (.cons rfl .nil)
      ⟨⟨G, G, [], fun _ => none⟩, [], [.lsk (ns.map D.int)], .bl true, M', rfl, W0, .cons (.lsk seqA rs) .nil, rfl, hv, fun v W' _ _ r => by cases r; rfl⟩) fun o t' ho => ?_
    match o, ho with
    | .ok (.ret u), ⟨v, G', os, bare, un, gok', rv, q⟩ =>
      have q' : v = .bl true := q
      rw [q'] at rv
      have eu : u = Value.bool true := rv
      rw [eu]
      refine ⟨rfl, OldK.of_keep fun b o e => ?_, os, bare⟩
      cases gq : G b with
      | none => exact un.keep b o e gq (fun z => nomatch (show b ∈ ([] : List Addr) from z)) (fun z => nomatch z)
      | some u =>
        rcases only b with z | ⟨ob, xs, z⟩
        · rw [gq] at z
          cases z
        · have z2 := un.frzs b ob _ z
          obtain ⟨e1, _⟩ := gok b _ z
          obtain ⟨e2, _⟩ := gok' b _ z2
          rw [e] at e1
          cases e1
          exact e2
    | .ok .next, ho => exact False.elim ho
    | .ok .brk, ho => exact False.elim ho
    | .ok .cont, ho => exact False.elim ho
    | .error _, ho => exact False.elim ho
  cases lk : K.lookup a with
  | some o =>
    have e := kin a o lk
    rw [at_a] at e
    cases e
    exact main (fun _ => none) (fun _ => .inl rfl) (.inr ⟨_, us.toArray, _, lk, rfl, rfl, rfl, by rw [List.size_toArray, lenU]; exact small, by simpa using rel⟩) (fun b u z => nomatch (show (none : Option HO) = some u from z)) (fun b z => absurd rfl z) fun z => absurd rfl z
  | none =>
    refine main (fun b => if b = a then some (.frz { cls := .type "list", data := .seq us.toArray } (.lst (ns.map V.int))) else none) (fun b => ?_) (.inl (.inr ⟨{ cls := .type "list", data := .seq us.toArray }, if_pos rfl⟩)) (fun b u z => ?_) (fun b z => ?_) fun _ => lk
    · by_cases eb : b = a
      · exact .inr ⟨_, _, if_pos eb⟩
      · exact .inl (if_neg eb)
    · by_cases eb : b = a
      · have z' := (if_pos eb).symm.trans z
        cases z'
        rw [eb]
        exact ⟨at_a, by rw [List.length_map]; exact small, us, _, rel, at_a⟩
      · exact nomatch (if_neg eb).symm.trans z
    · exact Classical.byContradiction fun eb => z (if_neg eb)
/-- a def as it is called -/
structure Lk (P : Program) (w : World) (K : PySem.W.Frag) (mg : Str → Option Value) (base : Heap) (x : Str) (k : Nat) (ps : List Str) (F : Fn) : Prop where
  go : ∃ (f : Addr) (fd : FuncData), DFn P w K mg base k f fd ps F ∧ mg x = some (.ref f) ∧ PySem.W.keepIn K (.ref f) = true ∧ Binds K fd ps []
/-- a name of the module -/
def GV (K : PySem.W.Frag) (mg : Str → Option Value) (x : Str) (d : D) : Prop := ∃ v u, mg x = some u ∧ RelV v u ∧ ∀ B ι, Rep K B ι v d
section
variable {I : Type} {X : I → Cx} {P : Program} {w : World} {K : PySem.W.Frag} {mg : Str → Option Value} {base : Heap} {k : Nat}
theorem DE.gv (c : Ctx X P w K mg base k) {x : Str} {pos : Pos} {d : D} (h : GV K mg x d) (hg : ∀ i, Gl (X i) x := by intro _; rfl) (hd : (x == ("__debug__" : Str)) = false := by decide) : DE X K (.Name x pos) (eC d) := by
  obtain ⟨v, u, h1, h2, h3⟩ := h
  exact DE.glob c h1 h2 h3 hg hd
theorem DE.cl (c : Ctx X P w K mg base k) {x : Str} {p pos : Pos} {e : Expr} {es : List Expr} {g : AF} {ps : List Str} {F : Fn} {kf : Nat} (h : Lk P w K mg base x kf ps F) (hk : kf ≤ k) (hn : (e :: es).length = ps.length) (ha : DA X K (e :: es) g) (hlen : ∀ δ M ds M', g δ M = some (ds, M') → ds.length = (e :: es).length) (hg : ∀ i, Gl (X i) x := by intro _; rfl)
    (hdbg : (x == ("__debug__" : Str)) = false := by decide) (he : ∀ i, starEach (e :: es) (X i).env = (false, eval e (X i).env) :: starEach es (X i).env := by intro _; rfl) (hpl : ∀ i, (backTo pos (starEach es (X i).env)).any (·.1) = false := by intro _; rfl) :
    DE X K (.Call (.Name x p) (e :: es) [] pos) (eCall F g []) := by
  obtain ⟨f, fd, h1, h2, h3, h4⟩ := h.go
  exact DE.call c h1 hk h2 h3 h4 .nil (fun _ _ => .nil) hn ha hlen hg hdbg he hpl
end
end Pl
namespace Pl
open PySem L2
section
variable {I : Type} {X : I → Cx} {P : Program} {w : World} {K : PySem.W.Frag} {mg : Str → Option Value} {base : Heap} {k : Nat}
def reprOk (p : PyData) : Bool := p.showable && SeqAt.shaped p && !p.hasDict && decide (p.shown.length ≤ sizeLine)
def rReprD (K : PySem.W.Frag) (xs : List V) (H : Hp) (Q : VK) : Prop := ∃ x p, xs = [x] ∧ Dp K H x p ∧ reprOk p = true ∧ Q (.str p.shown) H
theorem call_reprD {Y : Cx} (hu : Y.A.units + 66 < cLine) (hg : Y.A.guards = some []) : CallR Y (.builtin "repr") (rReprD Y.K) := fun pins s σ H xs us Q J hv h => by
  obtain ⟨x, p, rfl, hp, ok, q⟩ := h
  simp only [reprOk, Bool.and_eq_true, Bool.not_eq_true', decide_eq_true_eq] at ok
  obtain ⟨⟨⟨sh, sp⟩, nd⟩, ln⟩ := ok
  cases hv with
  | cons hx hv =>
    cases hv
    have dp := SeqAt.depth_of_shaped sp
    have same : ∀ (h' : Heap) (t : Nat), (∀ b o, s.heap.get? b = some o → h'.get? b = some o) → L2.Inv Y pins σ H { heap := h', gens := s.gens, drawn := s.drawn, toks := t, os := s.os } := fun h' t kp => J.turnedL (ch := []) (fun b o _ e => kp b o e) (fun b hb => nomatch hb)
    obtain ⟨as, rd⟩ := Dp.reads J p x _ hp hx
    cases hp with
    | non =>
      cases hx
      exact P.repr_of_none ⟨.str _, H, same _ _ fun _ _ e => e, ⟨_, rfl⟩, q⟩
    | bl b =>
      cases hx
      refine P.repr_of_bool ⟨.str _, H, same _ _ fun _ _ e => e, ⟨_, rfl⟩, ?_⟩
      rw [PyData.shown] at q
      exact q
    | int i =>
      obtain ⟨t, rfl⟩ := hx
      refine P.repr_of_int ?_ ⟨.str _, H, same _ _ fun _ _ e => e, ⟨_, rfl⟩, ?_⟩
      · rw [PyData.showable] at sh
        simpa using sh
      · rw [PyData.shown] at q
        exact q
    | str y =>
      obtain ⟨t, rfl⟩ := hx
      rw [PyData.shown] at q ln
      exact P.repr_of_str ⟨.str _, H, same _ _ fun _ _ e => e, ⟨_, rfl⟩, q⟩ ln
    | lst h1 h2 =>
      cases hx
      exact repr_of_reads' rd sh (fun z => by rw [nd] at z; cases z) hg (by omega) (fun _ _ e => e) (fun h' u tk kp => ⟨.str _, H, same h' tk kp, ⟨_, rfl⟩, q⟩) ln
    | tup h1 h2 =>
      cases hx
      exact repr_of_reads' rd sh (fun z => by rw [nd] at z; cases z) hg (by omega) (fun _ _ e => e) (fun h' u tk kp => ⟨.str _, H, same h' tk kp, ⟨_, rfl⟩, q⟩) ln
def gRepr : GL := fun ds M => match ds with
  | [d] => (match toP (deref M d) with
    | some p => if reprOk p then some (.str p.shown, M) else none
    | none => none)
  | _ => none
theorem cRepr (c : Ctx X P w K mg base k) : CalF X K (.builtin "repr") gRepr := ⟨rReprD K, fun i => by
  have h := call_reprD (Y := X i) (by have := (c.room i).un; omega) (c.grd i)
  rw [c.K i] at h
  exact h, fun W M vs ds z M' Q w r e q => by
  unfold gRepr at e
  split at e
  · split at e
    · rename_i p h1
      split at e
      · rename_i h2
        cases e
        cases r with
        | cons r1 r2 =>
          cases r2
          exact ⟨_, p, rfl, dp_of w r1 h1, h2, q _ W (.refl W) w (.str _)⟩
      · cases e
    · cases e
  · cases e⟩
end
end Pl
namespace Pl
open PySem L2
end Pl
namespace Pl
open PySem L2
/-- how a statement ends: as it does, or by an exception of the module's class of that name -/
inductive XO where
  | ok (o : Out) | ex (y : Str) (δ : Env) (M : Mh)
inductive EO where
  | v (d : D) (M : Mh) | ex (y : Str) (M : Mh)
abbrev XF := Env → Mh → Option XO
abbrev EXF := Env → Mh → Option EO
abbrev FnX := List D → Mh → Option EO
def PostX (K : PySem.W.Frag) (mg : Str → Option Value) (S : WX) (E : Ends) (W : Wd) : XO → Prop
  | .ok o => Post K E W o
  | .ex y δ M => ∀ C σ W', mg y = some (.ref C) → W.Le W' → W'.Ok K M → Slots K W' σ δ → S (.ref C) none σ W'.H
theorem PostX.le {K : PySem.W.Frag} {mg : Str → Option Value} {S : WX} {E : Ends} {W W1 : Wd} {o : XO} (l : W.Le W1) (h : PostX K mg S E W o) : PostX K mg S E W1 o := by
  cases o with
  | ok o => exact Post.le l h
  | ex y δ M => exact fun C σ W' m a b c => h C σ W' m (l.trans a) b c
def PostE (K : PySem.W.Frag) (mg : Str → Option Value) (S : Value → Option Addr → Hp → Prop) (Q : VK) (W : Wd) : EO → Prop
  | .v d M => VR K W d M Q
  | .ex y M => ∀ C W', mg y = some (.ref C) → W.Le W' → W'.Ok K M → S (.ref C) none W'.H
theorem PostE.le {K : PySem.W.Frag} {mg : Str → Option Value} {S : Value → Option Addr → Hp → Prop} {Q : VK} {W W1 : Wd} {o : EO} (l : W.Le W1) (h : PostE K mg S Q W o) : PostE K mg S Q W1 o := by
  cases o with
  | v d M => exact VR.le h l
  | ex y M => exact fun C W' m a b => h C W' m (l.trans a) b
def SRX (K : PySem.W.Frag) (mg : Str → Option Value) (S : WX) (t : TS) (f : XF) : Prop := ∀ (σ : St) (W : Wd) (δ : Env) (M : Mh) (o : XO) (E : Ends), W.Ok K M → Slots K W σ δ → f δ M = some o → PostX K mg S E W o → t E σ W.H
def ERX (K : PySem.W.Frag) (mg : Str → Option Value) (S : WX) (t : TE) (f : EXF) : Prop := ∀ (σ : St) (W : Wd) (δ : Env) (M : Mh) (o : EO) (Q : VK), W.Ok K M → Slots K W σ δ → f δ M = some o → PostE K mg (fun c d H => S c d σ H) Q W o → t σ W.H Q
section
variable {I : Type}
structure DSX (X : I → Cx) (K : PySem.W.Frag) (mg : Str → Option Value) (S : WX) (s : Stmt) (f : XF) : Prop where
  go : ∃ t : TS, (∀ i, PS (X i) s t) ∧ SRX K mg S t f
structure DBX (X : I → Cx) (K : PySem.W.Frag) (mg : Str → Option Value) (S : WX) (s : List Stmt) (f : XF) : Prop where
  go : ∃ t : TS, (∀ i, PSs (X i) s t) ∧ SRX K mg S t f
structure DEX (X : I → Cx) (K : PySem.W.Frag) (mg : Str → Option Value) (S : WX) (e : Expr) (f : EXF) : Prop where
  go : ∃ t : TE, (∀ i, PE (X i) e t) ∧ ERX K mg S t f
variable {X : I → Cx} {P : Program} {w : World} {K : PySem.W.Frag} {mg : Str → Option Value} {base : Heap} {k : Nat} {S : WX}
def xSeq (f g : XF) : XF := fun δ M => match f δ M with
  | some (.ok (.nx δ' M')) => g δ' M'
  | o => o
theorem DBX.cons {s : Stmt} {ss : List Stmt} {f g : XF} (a : DSX X K mg S s f) (b : DBX X K mg S ss g) : DBX X K mg S (s :: ss) (xSeq f g) := by
  obtain ⟨ta, pa, ra⟩ := a.go
  obtain ⟨tb, pb, rb⟩ := b.go
  refine ⟨tSeq ta tb, fun i => pss_cons (pa i) (pb i), fun σ W δ M o E w s e q => ?_⟩
  unfold xSeq at e
  split at e
  · rename_i δ' M' h1
    refine ra σ W δ M _ _ w s h1 fun σ' W1 l1 w1 s1 => ?_
    exact rb σ' W1 δ' M' o E w1 s1 e (q.le l1)
  · rename_i hn
    refine ra σ W δ M o _ w s e ?_
    match o, e, q with
    | .ok (.nx δ' M'), e, q => exact absurd e (hn δ' M')
    | .ok (.bk _ _), e, q => exact q
    | .ok (.ct _ _), e, q => exact q
    | .ok (.rt _ _), e, q => exact q
    | .ex _ _ _, e, q => exact q
def spDX (K : PySem.W.Frag) (mg : Str → Option Value) (n : Nat) (F : FnX) (vs : List V) (H : Hp) (Q : VK) (E : XK) : Prop :=
  ∃ W M ds o, W.H = H ∧ W.Ok K M ∧ RepL K W.B W.ι vs ds ∧ ds.length = n ∧ F ds M = some o ∧ PostE K mg E Q W o
structure DFnX (P : Program) (w : World) (K : PySem.W.Frag) (mg : Str → Option Value) (base : Heap) (k : Nat) (f : Addr) (fd : FuncData) (ps : List Str) (F : FnX) : Prop where
  run : ∀ (A : Around) (outer : List PySem.Env) (s : Shared) (H : Hp) (args : Args) (us : List Value) (vs : List V) (Q : VK) (E : XK), Room k A → A.guards = some [] → Env0 P w K mg base A outer s H → BindsTo s fd args (ps.zip us) → Vals vs us →
    spDX K mg ps.length F vs H Q E → codeAny (model P w) A (.call (.ref f) args) (CR (L2.CX P w) outer P w H s Q E) s
theorem DFnX.mono {f : Addr} {fd : FuncData} {ps : List Str} {F : FnX} {j : Nat} (h : DFnX P w K mg base j f fd ps F) (l : j ≤ k) : DFnX P w K mg base k f fd ps F :=
  ⟨fun A outer s H args us vs Q E r g => h.run A outer s H args us vs Q E (r.mono l) g⟩
theorem run_dfnX {Y : Cx} {pins : List (Addr × Obj)} {σ : L2.St} {H : Hp} {s : Shared} {Q : VK} {f : Addr} {fd : FuncData} {ps ks : List Str} {F : FnX} {us ws us' : List Value} {vs : List V} (h : DFnX Y.prog Y.w Y.K Y.mg Y.base k f fd ps F) (room : Room k Y.A) (grd : Y.A.guards = some []) (tk : Takes Y S)
    (J : Inv Y pins σ H s) (hb : BindsTo s fd ⟨us, ks.zip ws⟩ (ps.zip us')) (r : Vals vs us') (q : spDX Y.K Y.mg ps.length F vs H Q (fun c d H' => S c d σ H')) : wpAny (model Y.prog Y.w) Y.A (call (.ref f) us (ks.zip ws)) (EP Y pins σ Q) Y.xe s := by
  refine wpAny_call (codeAny_mono (h.run Y.A Y.stack s H _ us' vs Q _ room grd J.env0 hb r q) fun o s' ho => ?_)
  match o, ho with
  | .ok (.ret u), ho => exact J.after ho
  | .ok .next, ho => exact False.elim ho
  | .ok .brk, ho => exact False.elim ho
  | .ok .cont, ho => exact False.elim ho
  | .error _, ho => exact passAt tk σ pins H s _ s' J ho
def xCall (F : FnX) (g : AF) (dds : List D) : EXF := fun δ M => match g δ M with
  | some (ds, M1) => F (ds ++ dds) M1
  | none => none
theorem DEX.call (c : Ctx X P w K mg base k) (tk : ∀ i, Takes (X i) S) {x : Str} {p pos : Pos} {e : Expr} {es : List Expr} {g : AF} {f : Addr} {fd : FuncData} {ps : List Str} {F : FnX} {kf : Nat} {dvs : List V} {dds : List D} {dsv : List Value} (h : DFnX P w K mg base kf f fd ps F) (hk : kf ≤ k)
    (hm : mg x = some (.ref f)) (kp : PySem.W.keepIn K (.ref f) = true) (hb : Binds K fd ps dsv) (hd : Vals dvs dsv) (hr : ∀ B ι, RepL K B ι dvs dds) (hn : (e :: es).length + dds.length = ps.length) (ha : DA X K (e :: es) g) (hlen : ∀ δ M ds M', g δ M = some (ds, M') → ds.length = (e :: es).length) (hg : ∀ i, Gl (X i) x := by intro _; rfl)
    (hdbg : (x == ("__debug__" : Str)) = false := by decide) (he : ∀ i, starEach (e :: es) (X i).env = (false, eval e (X i).env) :: starEach es (X i).env := by intro _; rfl) (hpl : ∀ i, (backTo pos (starEach es (X i).env)).any (·.1) = false := by intro _; rfl) :
    DEX X K mg S (.Call (.Name x p) (e :: es) [] pos) (xCall F g dds) := by
  obtain ⟨t, pa, ra⟩ := ha.go
  refine ⟨fun σ H Q => t σ H fun vs H1 => spDX K mg ps.length F (vs ++ dvs) H1 Q (fun c d H' => S c d σ H'), fun i => ⟨fun pins s σ H Q J q => ?_⟩, fun σ W δ M o Q w s ev q => ?_⟩
  · have cK := c.K i
    have cmg := c.mg i
    refine wpAny_Call_Name_kw (ld_glob J (hg i) (by rw [c.mg i]; exact hm) ?_ hdbg)
    refine PySem.W.callWith_K (h₀ := (X i).base) J.ok.mod.kin (by rw [cK]; exact kp) (thn ((pa i).run pos pins s σ H _ J q) fun us s1 ⟨vs, H1, J1, r, q1⟩ => ⟨J1.kIn, ?_⟩) (he i) (hpl i)
    obtain ⟨W, M, ds, o, a1, a2, a3, a4, a5, a6⟩ := id q1
    have h' : DFnX (X i).prog (X i).w (X i).K (X i).mg (X i).base k f fd ps F := by
      rw [c.prog i, c.wd i, c.K i, c.mg i, c.base i]
      exact h.mono hk
    have r2 := r.append hd
    refine run_dfnX (ks := []) (ws := []) (us := us) h' (c.room i) (c.grd i) (tk i) J1 (hb s1 us (by rw [← cK]; exact J1.kIn) ?_) r2 (by rw [cK, cmg]; exact q1)
    rw [← r2.length, a3.len, a4]
  · unfold xCall at ev
    split at ev
    · rename_i ds M1 h1
      refine ra σ W δ M ds M1 _ w s h1 fun vs W1 l1 w1 r1 => ⟨W1, M1, ds ++ dds, o, rfl, w1, r1.append (hr _ _), ?_, ev, q.le l1⟩
      rw [List.length_append, hlen _ _ _ _ h1]
      exact hn
    · cases ev
def xAs (f : EXF) (j : Nat) : XF := fun δ M => match f δ M with
  | some (.v d M1) => some (.ok (.nx (δ.set j (some d)) M1))
  | some (.ex y M1) => some (.ex y δ M1)
  | none => none
theorem DSX.set (j : Nat) {x : Str} {e : Expr} {pos pos'} {f : EXF} (a : DEX X K mg S e f) (hN : ∀ i, (X i).N.Nodup) (hi : ∀ i, (X i).N[j]? = some x := by intro _; rfl) (hx : ∀ i, Loc (X i).env.scope x := by intro _; first | exact Or.inl rfl | exact Or.inr rfl)
    (hs : ∀ i, swapsWith e (some (.Name x pos')) pos.line (X i).env = pure false := by intro _; rfl) (hf : ∀ i, (X i).fn x = true ∨ (X i).env.scope.names.lookup x = some .local := by intro _; first | exact Or.inl rfl | exact Or.inr rfl) :
    DSX X K mg S (.Assign [.Name x pos'] e pos) (xAs f j) := by
  obtain ⟨t, p, r⟩ := a.go
  refine ⟨tAsg t (gName j), fun i => ps_set (hN i) (hi i) (hx i) (p i) (hs i) (hf i), fun σ W δ M o E w s ev q => ?_⟩
  unfold xAs at ev
  split at ev
  · rename_i d M1 h1
    cases ev
    exact r σ W δ M _ _ w s h1 fun v W1 l1 w1 r1 => q _ W1 l1 w1 ((s.le l1).set r1 j)
  · rename_i y M1 h1
    cases ev
    exact r σ W δ M _ _ w s h1 fun C W1 m l1 w1 => q C σ W1 m l1 w1 (s.le l1)
  · cases ev
def xRet (f : EXF) : XF := fun δ M => match f δ M with
  | some (.v d M1) => some (.ok (.rt d M1))
  | some (.ex y M1) => some (.ex y δ M1)
  | none => none
theorem DSX.ret {e : Expr} {pos} {f : EXF} (a : DEX X K mg S e f) : DSX X K mg S (.Return (some e) pos) (xRet f) := by
  obtain ⟨t, p, r⟩ := a.go
  refine ⟨tRet t, fun i => ps_ret (p i), fun σ W δ M o E w s ev q => ?_⟩
  unfold xRet at ev
  split at ev
  · rename_i d M1 h1
    cases ev
    exact r σ W δ M _ _ w s h1 q
  · rename_i y M1 h1
    cases ev
    exact r σ W δ M _ _ w s h1 fun C W1 m l1 w1 => q C σ W1 m l1 w1 (s.le l1)
  · cases ev
def trI (X : I → Cx) (S : WX) : Type := { p : I × List (Addr × Obj) × (Value → Shared → Prop) // Takes ((X p.1).tr p.2.1 p.2.2) S ∧ PassesOwn (model (X p.1).prog (X p.1).w) (X p.1).A (X p.1).env p.2.2 }
def trF (X : I → Cx) (S : WX) (i : trI X S) : Cx := (X i.1.1).tr i.1.2.1 i.1.2.2
theorem Ctx.tr (c : Ctx X P w K mg base k) : Ctx (trF X S) P w K mg base k :=
  ⟨fun j => c.prog j.1.1, fun j => c.wd j.1.1, fun j => c.K j.1.1, fun j => c.mg j.1.1, fun j => c.base j.1.1, fun j => c.room j.1.1, fun j => c.grd j.1.1, fun j => c.calm j.1.1⟩
end
end Pl
namespace L2
open PySem PySem.Spec PyProof.Rows
end L2
namespace Pl
open PySem L2
section
variable {I : Type} {X : I → Cx} {P : Program} {w : World} {K : PySem.W.Frag} {mg : Str → Option Value} {base : Heap} {k : Nat}
def kp (n : Nat) (C : Addr) (M : Mh) : Option Mh := match M[n]? with
  | some .dead => some (M.set n (.exc C))
  | _ => none
theorem GV.cls {x : Str} {C : Addr} (h : mg x = some (.ref C)) : GV K mg x (.ob C) := ⟨.ref C, .ref C, h, rfl, fun _ _ => .ob _⟩
end
section
variable {I : Type} {X : I → Cx} {P : Program} {w : World} {K : PySem.W.Frag} {mg : Str → Option Value} {base : Heap} {k : Nat}
def sPar3 (i j l : Nat) (f g h : EF) : SF := fun δ M => match f δ M with
  | some (d, M1) => (match g δ M1 with
    | some (e, M2) => (match h δ M2 with
      | some (u, M3) => some (.nx (((δ.set i (some d)).set j (some e)).set l (some u)) M3)
      | none => none)
    | none => none)
  | none => none
theorem DS.par3 (a b d : Nat) {x y z : Str} {e1 e2 e3 : Expr} {f g h : EF} {px py pz pt : Pos} {kt k2 pt2 pos} (c : Ctx X P w K mg base k) (h1 : DE X K e1 f) (h2 : DE X K e2 g) (h3 : DE X K e3 h) (hN : ∀ i, (X i).N.Nodup) (hi : ∀ i, (X i).N[a]? = some x := by intro _; rfl) (hj : ∀ i, (X i).N[b]? = some y := by intro _; rfl) (hl : ∀ i, (X i).N[d]? = some z := by intro _; rfl)
    (hij : a ≠ b := by decide) (hil : a ≠ d := by decide) (hjl : b ≠ d := by decide) (hx : ∀ i, (X i).env.scope.names.lookup x = some .local := by intro _; rfl) (hy : ∀ i, (X i).env.scope.names.lookup y = some .local := by intro _; rfl) (hz : ∀ i, (X i).env.scope.names.lookup z = some .local := by intro _; rfl)
    (hw : ∀ i, swappedStores [.Tuple [.Name x px, .Name y py, .Name z pz] kt pt] (.Tuple [e1, e2, e3] k2 pt2) (X i).env = pure (some [x, y, z]) := by intro _; rfl)
    (hs : ∀ i, swapsWithSole [.Tuple [.Name x px, .Name y py, .Name z pz] kt pt] (.Tuple [e1, e2, e3] k2 pt2) pos.line (X i).env = pure false := by intro _; rfl)
    (he1 : ∀ i, starEach [e1, e2, e3] (X i).env = (false, eval e1 (X i).env) :: starEach [e2, e3] (X i).env := by intro _; rfl) (he2 : ∀ i, starEach [e2, e3] (X i).env = (false, eval e2 (X i).env) :: starEach [e3] (X i).env := by intro _; rfl) (he3 : ∀ i, starEach [e3] (X i).env = (false, eval e3 (X i).env) :: starEach [] (X i).env := by intro _; rfl) :
    DS X K (.Assign [.Tuple [.Name x px, .Name y py, .Name z pz] kt pt] (.Tuple [e1, e2, e3] k2 pt2) pos) (sPar3 a b d f g h) := by
  obtain ⟨ta, pa, ra⟩ := h1.go
  obtain ⟨tb, pb, rb⟩ := h2.go
  obtain ⟨tc, pc, rc⟩ := h3.go
  refine ⟨tPar3 a b d (tCons ta (tCons tb (tCons tc tNil))), fun i => ps_par3 (c.calm i) (hN i) (hi i) (hj i) (hl i) hij hil hjl (hx i) (hy i) (hz i) (pa_cons (pa i) (pa_cons (pb i) (pa_cons (pc i) pa_nil (he3 i)) (he2 i)) (he1 i)) (hw i) (hs i), fun σ W δ M o E w s e q => ?_⟩
  unfold sPar3 at e
  split at e
  · rename_i d1 M1 h1
    split at e
    · rename_i d2 M2 h2
      split at e
      · rename_i d3 M3 h3
        cases e
        refine ra σ W δ M d1 M1 _ w s h1 fun v W1 l1 w1 r1 => ?_
        refine rb σ W1 δ M1 d2 _ _ w1 (s.le l1) h2 fun u W2 l2 w2 r2 => ?_
        refine rc σ W2 δ M2 d3 _ _ w2 (s.le (l1.trans l2)) h3 fun t W3 l3 w3 r3 => ?_
        exact ⟨v, u, t, rfl, q _ W3 ((l1.trans l2).trans l3) w3 ((((s.le ((l1.trans l2).trans l3)).set (r1.le (l2.trans l3)) a).set (r2.le l3) b).set r3 d)⟩
      · cases e
    · cases e
  · cases e
end
theorem walk_ofX {l : PySem.W.OpenLaw} {n k : Nat} {q : Program} {loose : List Str} {XP : (Str → Option Value) → Heap → Prop} {YP : World → Heap → Prop} {d : DefRec} {K : Params → PySem.W.Frag} {x : Str}
    (hn : l.most = some n) (hn2 : n ≤ sizeLine) (hdf : d.params.defaults = []) (room : Room k PySem.callerA) (hY : ∀ (w : World) (h : Heap), YP w h → (K w.params).In h)
    (hF : ∀ (w : World) (mg : Str → Option Value) (fa : Addr) (h : Heap), (K w.params).In h → h.Ns mainGlobals mg → mg d.name = some (.ref fa) →
      ∃ (fd : FuncData) (F : Fn), (∀ (s : Shared) (u : Value), BindsTo s fd ⟨[u], []⟩ [(x, u)]) ∧ (∀ base : Heap, (K w.params).In base → base.Ns mainGlobals mg → DFn l.prog w (K w.params) mg base k fa fd [x] F) ∧
        ∀ ns : List Int, ns.length ≤ n → ∃ M', F [.lsk (ns.map D.int)] [] = some (.bl true, M')) :
    PySem.W.WalkO q loose XP YP l.row.toRowW d [] (fun f vs => PySem.call f vs) :=
  Att.attach_call hn hdf fun w _ t₁ mg _ fa _ _ _ _ a us ns G Y _ _ _ hmg obj isv len gn => by
    have kin := hY w _ Y
    obtain ⟨fd, F, hb, h, tru⟩ := hF w mg fa _ kin G.T.g hmg
    exact law_callD kin G.T.g G.T.b G.T.builtins G.T.nolimit gn obj isv (Nat.le_trans len hn2) room h hb (tru ns len)
end Pl
namespace PySem
open Sem (wp)
abbrev IsZipU (h : Heap) (zp TI TO : Addr) (f0 : Value) (b : Bool) : Prop := h.get? zp = some { cls := .type "zip", data := .fields #[f0, .bool b, .bool false, .ref TI, .ref TO] }
end PySem
namespace PySem
open Sem (wp)
/-- a zip that has given i tuples, all kept -/
structure ZS (zp TI TO i1 i2 : Addr) (P1 P2 : Nat → Value → Prop) (St1 St2 : Nat → Heap → Prop) (N : Nat) (h : Heap) (i : Nat) (Ts : List Addr) : Prop where
  len : Ts.length = i
  zip : (i = 0 ∧ IsZip h zp TI TO .none) ∨ (0 < i ∧ ∃ (T0 : Addr) (b : Bool), IsZipU h zp TI TO (rawInt T0) b ∧ T0 ∈ Ts)
  ti : IsTupOf2 h TI (.ref i1) (.ref i2)
  to : i = 0 → ∃ a1 a2, IsTupOf2 h TO a1 a2
  st1 : St1 i h
  st2 : St2 i h
  tup : ∀ j T, Ts[j]? = some T → ∃ u1 u2, P1 j u1 ∧ P2 j u2 ∧ IsTupOf2 h T u1 u2
  new : ∀ T ∈ Ts, N ≤ T
  nd : Ts.Nodup
end PySem
namespace PySem
open Sem (wp)
section
variable {prog : Program} {w : World} {A : Around} {s : Shared} {R : Result → Shared → Prop} {zp TI TO i1 i2 : Addr} {fp1 fp2 : List Addr} {n1 n2 : Nat} {P1 P2 : Nat → Value → Prop} {St1 St2 : Nat → Heap → Prop}
theorem ZS.start {N : Nat} {h : Heap} {a1 a2 : Value} (hz : IsZip h zp TI TO .none) (iTI : IsTupOf2 h TI (.ref i1) (.ref i2)) (iTO : IsTupOf2 h TO a1 a2) (st1 : St1 0 h) (st2 : St2 0 h) : ZS zp TI TO i1 i2 P1 P2 St1 St2 N h 0 [] :=
  ⟨rfl, .inl ⟨rfl, hz⟩, iTI, fun _ => ⟨a1, a2, iTO⟩, st1, st2, fun j T e => by simp at e, fun T tyZ => by simp at tyZ, List.nodup_nil⟩
end
end PySem
namespace Pl
open PySem PySem.Spec PyProof.Rows L2
end Pl
namespace Pl
open PySem PySem.Spec PyProof.Rows L2
end Pl
namespace PySem
end PySem
namespace Pl
open PySem PySem.Spec PyProof.Rows L2
/-- what the written part says of an own exception class, whatever its built-in base -/
structure ExG (K : PySem.W.Frag) (C : Addr) (B newId initId : String) (bmB : List Value) : Prop where
  base : ExcBaseFacts B newId initId bmB
  store : StoreFacts B bmB "object.__setattr__" "object"
  ini : PySem.W.excInitIn K C bmB newId = true
  ov : PySem.W.excOver K C bmB = true
  di : ∃ cd, PySem.W.clsIn K C = some cd ∧ cd.hasDict = true
  sa : PySem.W.findIn K (.ref C) "__setattr__" = some (some (.builtin "object.__setattr__"))
  keep : PySem.W.keepIn K (.ref C) = true
/-- what the written part says of an own exception class's fields: they are set and read -/
def OkF (K : PySem.W.Frag) (C : Addr) (f : Str) : Prop := (∃ B newId initId bmB, ExG K C B newId initId bmB) ∧ PySem.W.takerIn K C f = some none
end Pl
namespace Pl
open PySem PySem.Spec PyProof.Rows L2
end Pl
namespace Pl
open PySem PySem.Spec PyProof.Rows L2
end Pl
namespace PySem
end PySem
namespace Pl
open PySem PySem.Spec PyProof.Rows L2
end Pl
namespace Pl
open PySem PySem.Spec PyProof.Rows L2
end Pl
namespace Pl
open PySem PySem.Spec PyProof.Rows L2
/-- the j-th row of a class -/
def memD (s : Stmt) (j : Nat) : Stmt := match s with
  | .ClassDef _ _ _ body _ _ _ _ _ _ _ => body.getD j s
  | s => s
open Classical in
noncomputable def isaOf (K : PySem.W.Frag) : Addr → Value → Option Bool := fun c v => if L2.ExcC K c then PySem.W.kitOne K (.ref c) v else none
theorem isaOf_ok {K : PySem.W.Frag} : ∀ C v b, isaOf K C v = some b → L2.ExcC K C ∧ PySem.W.kitOne K (.ref C) v = some b := fun C v b h => by
  unfold isaOf at h
  split at h
  · exact ⟨by assumption, h⟩
  · cases h
open Classical in
noncomputable def okfOf (K : PySem.W.Frag) : Addr → Str → Bool := fun c f => decide (OkF K c f)
theorem okfOf_ok {K : PySem.W.Frag} : ∀ C f, okfOf K C f = true → OkF K C f := fun C f h => @of_decide_eq_true _ (Classical.propDecidable _) h
open Classical in
noncomputable def okgOf (K : PySem.W.Frag) : Addr → Str → Bool := fun c f => @decide (XfC K c ∧ PySem.W.findIn K (.ref c) f = some none) (Classical.propDecidable _)
theorem okgOf_ok {K : PySem.W.Frag} : ∀ C f, okgOf K C f = true → XfC K C ∧ PySem.W.findIn K (.ref C) f = some none := fun C f h => by
  exact @of_decide_eq_true _ (Classical.propDecidable _) h
end Pl
namespace Pl
namespace Ev
open PySem L2
section
variable {δ δ' : Pl.Env} {M M1 M2 M3 : Mh} {d e a b : D} {ds zs : List D} {r : Option Out} {u : Option (D × Mh)} {f g h : EF} {t t2 : TF} {s s2 : SF} {p : GF} {q : AF} {x : Bool}
theorem var_ {i : Nat} (h : δ[i]? = some (some d)) : eVar i δ M = some (d, M) := by unfold eVar; rw [h]
theorem tup_ (h : q δ M = some (ds, M1)) (hl : ds.length ≤ 1000) : eTup q δ M = some (.tup ds, M1) := by
  unfold eTup; rw [h]; exact if_pos (Nat.le_trans hl (by decide))
theorem new_ (h : q δ M = some (ds, M1)) (hl : ds.length ≤ 1000) : eNew q δ M = some (.ref M1.length, M1 ++ [.lst ds]) := by
  unfold eNew; rw [h]; exact if_pos (Nat.le_trans hl (by decide))
theorem chain_ {o o2 : O2} (h1 : f δ M = some (a, M1)) (h2 : g δ M1 = some (b, M2)) (h3 : o a b M2 = some (.bl x, M3)) (k : (bif x then eOp o2 (eC b) h δ M3 else some (.bl false, M3)) = u) : eChain o o2 f g h δ M = u := by
  unfold eChain; rw [h1]; dsimp only; rw [h2]; dsimp only; rw [h3]
  cases x
  · exact k
  · rw [← k]
    show _ = eOp o2 (eC b) h δ M3
    unfold eOp
    rfl
theorem tt_ : tTrue δ M = some (true, M) := (fun h => h) (by unfold tTrue; rfl)
theorem snil_ : sNil δ M = some (.nx δ M) := (fun h => h) (by unfold sNil; rfl)
theorem sas_ (h1 : f δ M = some (d, M1)) (h2 : p d δ = some δ') : sAs f p δ M = some (.nx δ' M1) := by
  unfold sAs; rw [h1]; dsimp only; rw [h2]
theorem seq_ (h1 : s δ M = some (.nx δ' M1)) (k : s2 δ' M1 = r) : sSeq s s2 δ M = r := by
  unfold sSeq; rw [h1]; exact k
theorem ret_ (h1 : f δ M = some (d, M1)) : sRet f δ M = some (.rt d M1) := by unfold sRet; rw [h1]
theorem se_ (h1 : f δ M = some (d, M1)) : sE f δ M = some (.nx δ M1) := by unfold sE; rw [h1]
theorem for_ {s : SF} (h1 : q δ M = some (ds, M1)) (k : forGo p s ds δ M1 = r) : sFor q p s δ M = r := by
  unfold sFor; rw [h1]; exact k
theorem forN_ {s : SF} : forGo p s [] δ M = some (.nx δ M) := (fun h => h) (by unfold forGo; rfl)
theorem forC_ {s : SF} {δ1 δ2 : Pl.Env} (h1 : p d δ = some δ1) (h2 : s δ1 M = some (.nx δ2 M2)) (k : forGo p s ds δ2 M2 = r) : forGo p s (d :: ds) δ M = r := by
  unfold forGo; rw [h1]; dsimp only; rw [h2]; exact k
theorem lc_ {vs : List Nat} {ys : List D} {δ1 : Pl.Env} (h : q δ M = some (ds, M1)) (hw : (some (wipeD δ vs) : Option Pl.Env) = some δ1) (k : lcGo p t f ds δ1 M1 = some (ys, M2)) (hl : ys.length ≤ 1000) : eLc vs q p t f δ M = some (.lst ys, M2) := by
  cases hw; unfold eLc; rw [h]; dsimp only; rw [k]; exact if_pos (Nat.le_trans hl (by decide))
theorem lcN_ : lcGo p t f [] δ M = some ([], M) := (fun h => h) (by unfold lcGo; rfl)
/-- one member is told, then the others -/
def lcK (p : GF) (t : TF) (f : EF) (ds : List D) (δ δ1 : Pl.Env) (M1 : Mh) : Option (List D × Mh) := match f δ1 M1 with | some (y, M2) => (match lcGo p t f ds δ M2 with | some (ys, M3) => some (y :: ys, M3) | none => none) | none => none
theorem lcC_ {δ1 : Pl.Env} {w : Option (List D × Mh)} (h1 : p d δ = some δ1) (h2 : t δ1 M = some (x, M1)) (k : (bif x then lcK p t f ds δ δ1 M1 else lcGo p t f ds δ M1) = w) : lcGo p t f (d :: ds) δ M = w := by
  conv => lhs; unfold lcGo
  unfold lcK at k
  rw [h1]; dsimp only; rw [h2]; cases x <;> exact k
theorem lcY_ {ys : List D} {δ1 : Pl.Env} (h3 : f δ1 M1 = some (e, M2)) (k : lcGo p t f ds δ M2 = some (ys, M3)) : lcK p t f ds δ δ1 M1 = some (e :: ys, M3) := by
  unfold lcK; rw [h3]; dsimp only; rw [k]
theorem fn_ {n : Nat} {s : SF} {δ0 : Pl.Env} (h0 : (some (startD n ds) : Option Pl.Env) = some δ0) (h : s δ0 M = some (.rt d M1)) : fnF n s ds M = some (d, M1) := by
  cases h0; unfold fnF; rw [h]
theorem fnN_ {n : Nat} {s : SF} {δ0 : Pl.Env} (h0 : (some (startD n ds) : Option Pl.Env) = some δ0) (h : s δ0 M = some (.nx δ' M1)) : fnF n s ds M = some (.non, M1) := by
  cases h0; unfold fnF; rw [h]
theorem rng1_ {j : Int} (h : q δ M = some ([.int j], M1)) (hj : -(2 ^ 62) ≤ j ∧ j < 2 ^ 62) : aRng1 q δ M = some (rng 0 j, M1) := by
  unfold aRng1; rw [h]; exact if_pos hj
theorem itemsT_ (h : f δ M = some (.tup ds, M1)) : aItems f δ M = some (ds, M1) := by unfold aItems; rw [h]
theorem itemsL_ (h : f δ M = some (.lst ds, M1)) : aItems f δ M = some (ds, M1) := by unfold aItems; rw [h]
end
end Ev
end Pl
namespace Pl
open PySem PySem.Spec PyProof.Rows L2
section
variable {I : Type} {X : I → Cx} {P : Program} {w : World} {K : PySem.W.Frag} {mg : Str → Option Value} {base : Heap} {k : Nat}
/-- each function that a name may hold here, by its address -/
structure LkV (P : Program) (w : World) (K : PySem.W.Frag) (mg : Str → Option Value) (base : Heap) (k n : Nat) (tab : Addr → Option Fn) : Prop where
  go : ∀ a F, tab a = some F → ∃ (fd : FuncData) (ps : List Str), DFn P w K mg base k a fd ps F ∧ ps.length = n ∧ PySem.W.keepIn K (.ref a) = true ∧ Binds K fd ps []
def eCallV (tab : Addr → Option Fn) (j : Nat) (g : AF) : EF := fun δ M => match δ[j]? with
  | some (some (.ob a)) => (match tab a with
    | some F => (match g δ M with
      | some (ds, M1) => F ds M1
      | none => none)
    | none => none)
  | _ => none
theorem DE.cv (j : Nat) (c : Ctx X P w K mg base k) {x : Str} {p pos : Pos} {e : Expr} {es : List Expr} {g : AF} {tab : Addr → Option Fn} {kf n : Nat} (h : LkV P w K mg base kf n tab) (hk : kf ≤ k) (hn : (e :: es).length = n) (ha : DA X K (e :: es) g)
    (hlen : ∀ δ M ds M', g δ M = some (ds, M') → ds.length = (e :: es).length) (hN : ∀ i, (X i).N[j]? = some x := by intro _; rfl) (hv : ∀ i, Vis (X i).env.scope x := by intro _; first | exact Or.inl rfl | exact Or.inr (Or.inl rfl) | exact Or.inr (Or.inr rfl))
    (hdbg : (x == ("__debug__" : Str)) = false := by decide) (hcd : (x == ("__classdict__" : Str)) = false := by decide) (he : ∀ i, starEach (e :: es) (X i).env = (false, eval e (X i).env) :: starEach es (X i).env := by intro _; rfl) (hpl : ∀ i, (backTo pos (starEach es (X i).env)).any (·.1) = false := by intro _; rfl) :
    DE X K (.Call (.Name x p) (e :: es) [] pos) (eCallV tab j g) := by
  obtain ⟨t, pa, ra⟩ := ha.go
  refine ⟨fun σ H Q => ∃ (a : Addr) (F : Fn) (fd : FuncData) (ps : List Str), σ[j]? = some (some (.ref a)) ∧ DFn P w K mg base kf a fd ps F ∧ PySem.W.keepIn K (.ref a) = true ∧ Binds K fd ps [] ∧ t σ H fun vs H1 => spD K ps.length F vs H1 Q, fun i => ⟨fun pins s σ H Q J q => ?_⟩, fun σ W δ M d M' Q w s ev q => ?_⟩
  · obtain ⟨a, F, fd, ps, ea, hF, kp, hb, q⟩ := q
    have cK := c.K i
    have var := (pe_var (X := X i) (pos := p) (hN i) (hv i) hdbg hcd).run pins s σ H (fun v H' => v = .ref a ∧ H' = H) J ⟨.ref a, ea, rfl, rfl⟩
    refine wpAny_Call_Name_kw (thn var fun u s0 ⟨v, H0, J0, r0, e1, e2⟩ => ?_)
    subst e1 e2
    cases r0
    refine PySem.W.callWith_K (h₀ := (X i).base) J0.ok.mod.kin (by rw [cK]; exact kp) (thn ((pa i).run pos pins s0 σ H0 _ J0 q) fun us s1 ⟨vs, H1, J1, r, q1⟩ => ⟨J1.kIn, ?_⟩) (he i) (hpl i)
    obtain ⟨W, M, ds, d, M', a1, a2, a3, a4, a5, a6⟩ := id q1
    have h' : DFn (X i).prog (X i).w (X i).K (X i).mg (X i).base k a fd ps F := by
      rw [c.prog i, c.wd i, c.K i, c.mg i, c.base i]
      exact hF.mono hk
    refine run_dfn (ks := []) (ws := []) (us := us) (us' := us) h' (c.room i) (c.grd i) J1 (by
      have := hb s1 us (by rw [← cK]; exact J1.kIn) (by rw [List.append_nil, ← r.length, a3.len, a4])
      rw [List.append_nil] at this
      exact this) r (by rw [cK]; exact q1)
  · unfold eCallV at ev
    split at ev
    · rename_i a hd
      split at ev
      · rename_i F hF
        split at ev
        · rename_i ds M1 h1
          obtain ⟨v, hv1, rv⟩ := s.at_ _ _ hd
          cases rv
          obtain ⟨fd, ps, f1, f2, f3, f4⟩ := h.go a F hF
          refine ⟨a, F, fd, ps, hv1, f1, f3, f4, ?_⟩
          refine ra σ W δ M ds M1 _ w s h1 fun vs W1 l1 w1 r1 => ⟨W1, M1, ds, d, M', rfl, w1, r1, ?_, ev, q.le l1⟩
          rw [hlen _ _ _ _ h1, f2, hn]
        · cases ev
      · cases ev
    · cases ev
end
end Pl
namespace Pl
open PySem PySem.Spec PyProof.Rows L2
end Pl
namespace Pl
open PySem PySem.Spec PyProof.Rows L2
end Pl
namespace Pl
open PySem PySem.Spec PyProof.Rows L2
section
variable {I : Type} {X : I → Cx} {P : Program} {w : World} {K : PySem.W.Frag} {mg : Str → Option Value} {base : Heap} {k : Nat}
theorem DFn.none {f : Addr} {fd : FuncData} {ps : List Str} : DFn P w K mg base k f fd ps (fun _ _ => none) :=
  ⟨fun A outer s H args us vs Q r g e b v q => by
    obtain ⟨W, M, ds, d, M', a1, a2, a3, a4, a5, a6⟩ := id q
    cases a5⟩
end
end Pl
namespace Pl
open PySem L2
end Pl
namespace L2
open PySem PySem.Spec PyProof.Rows
end L2
namespace Pl
open PySem L2
/-- how a statement ends: as it does, or by an exception of the module's class of that name -/
inductive XOQ where
  | ok (o : Out) | ex (y : Str) (fs : List (Str × D)) (δ : Env) (M : Mh)
  /-- one without fields -/
  | ep (y : Str) (δ : Env) (M : Mh)
inductive EOQ where
  | v (d : D) (M : Mh) | ex (y : Str) (fs : List (Str × D)) (M : Mh) | ep (y : Str) (M : Mh)
abbrev XFQ := Env → Mh → Option XOQ
abbrev EXQ := Env → Mh → Option EOQ
abbrev FnQ := List D → Mh → Option EOQ
/-- an exception's dict, told -/
def FsAt (K : PySem.W.Frag) (W : Wd) (M : Mh) (dx : Addr) (vs : List (Str × V)) (fs : List (Str × D)) : Prop := W.H dx = some (.xd vs) ∧ RepF K W.B W.ι vs fs ∧ W.B dx = none ∧ W.P dx = none ∧ ∀ n o, ¬ Live W M n dx o
def PostXQ (K : PySem.W.Frag) (mg : Str → Option Value) (S : WX) (E : Ends) (W : Wd) : XOQ → Prop
  | .ok o => Post K E W o
  | .ex y fs δ M => ∀ C σ W' dx vs, mg y = some (.ref C) → W.Le W' → W'.Ok K M → Slots K W' σ δ → FsAt K W' M dx vs fs → S (.ref C) (some dx) σ W'.H
  | .ep y δ M => ∀ C σ W', mg y = some (.ref C) → W.Le W' → W'.Ok K M → Slots K W' σ δ → S (.ref C) none σ W'.H
theorem PostXQ.le {K : PySem.W.Frag} {mg : Str → Option Value} {S : WX} {E : Ends} {W W1 : Wd} {o : XOQ} (l : W.Le W1) (h : PostXQ K mg S E W o) : PostXQ K mg S E W1 o := by
  cases o with
  | ok o => exact Post.le l h
  | ex y fs δ M => exact fun C σ W' dx vs m a b c z => h C σ W' dx vs m (l.trans a) b c z
  | ep y δ M => exact fun C σ W' m a b c => h C σ W' m (l.trans a) b c
def PostEQ (K : PySem.W.Frag) (mg : Str → Option Value) (S : Value → Option Addr → Hp → Prop) (Q : VK) (W : Wd) : EOQ → Prop
  | .v d M => VR K W d M Q
  | .ex y fs M => ∀ C W' dx vs, mg y = some (.ref C) → W.Le W' → W'.Ok K M → FsAt K W' M dx vs fs → S (.ref C) (some dx) W'.H
  | .ep y M => ∀ C W', mg y = some (.ref C) → W.Le W' → W'.Ok K M → S (.ref C) none W'.H
theorem PostEQ.le {K : PySem.W.Frag} {mg : Str → Option Value} {S : Value → Option Addr → Hp → Prop} {Q : VK} {W W1 : Wd} {o : EOQ} (l : W.Le W1) (h : PostEQ K mg S Q W o) : PostEQ K mg S Q W1 o := by
  cases o with
  | v d M => exact VR.le h l
  | ex y fs M => exact fun C W' dx vs m a b z => h C W' dx vs m (l.trans a) b z
  | ep y M => exact fun C W' m a b => h C W' m (l.trans a) b
def SRQ (K : PySem.W.Frag) (mg : Str → Option Value) (S : WX) (t : TS) (f : XFQ) : Prop := ∀ (σ : St) (W : Wd) (δ : Env) (M : Mh) (o : XOQ) (E : Ends), W.Ok K M → Slots K W σ δ → f δ M = some o → PostXQ K mg S E W o → t E σ W.H
def ERQ (K : PySem.W.Frag) (mg : Str → Option Value) (S : WX) (t : TE) (f : EXQ) : Prop := ∀ (σ : St) (W : Wd) (δ : Env) (M : Mh) (o : EOQ) (Q : VK), W.Ok K M → Slots K W σ δ → f δ M = some o → PostEQ K mg (fun c d H => S c d σ H) Q W o → t σ W.H Q
section
variable {I : Type}
structure DSQ (X : I → Cx) (K : PySem.W.Frag) (mg : Str → Option Value) (S : WX) (s : Stmt) (f : XFQ) : Prop where
  go : ∃ t : TS, (∀ i, PS (X i) s t) ∧ SRQ K mg S t f
structure DBQ (X : I → Cx) (K : PySem.W.Frag) (mg : Str → Option Value) (S : WX) (s : List Stmt) (f : XFQ) : Prop where
  go : ∃ t : TS, (∀ i, PSs (X i) s t) ∧ SRQ K mg S t f
structure DEQ (X : I → Cx) (K : PySem.W.Frag) (mg : Str → Option Value) (S : WX) (e : Expr) (f : EXQ) : Prop where
  go : ∃ t : TE, (∀ i, PE (X i) e t) ∧ ERQ K mg S t f
variable {X : I → Cx} {P : Program} {w : World} {K : PySem.W.Frag} {mg : Str → Option Value} {base : Heap} {k : Nat} {S : WX}
def qSeq (f g : XFQ) : XFQ := fun δ M => match f δ M with
  | some (.ok (.nx δ' M')) => g δ' M'
  | o => o
theorem DBQ.cons {s : Stmt} {ss : List Stmt} {f g : XFQ} (a : DSQ X K mg S s f) (b : DBQ X K mg S ss g) : DBQ X K mg S (s :: ss) (qSeq f g) := by
  obtain ⟨ta, pa, ra⟩ := a.go
  obtain ⟨tb, pb, rb⟩ := b.go
  refine ⟨tSeq ta tb, fun i => pss_cons (pa i) (pb i), fun σ W δ M o E w s e q => ?_⟩
  unfold qSeq at e
  split at e
  · rename_i δ' M' h1
    refine ra σ W δ M _ _ w s h1 fun σ' W1 l1 w1 s1 => ?_
    exact rb σ' W1 δ' M' o E w1 s1 e (q.le l1)
  · rename_i hn
    refine ra σ W δ M o _ w s e ?_
    match o, e, q with
    | .ok (.nx δ' M'), e, q => exact absurd e (hn δ' M')
    | .ok (.bk _ _), e, q => exact q
    | .ok (.ct _ _), e, q => exact q
    | .ok (.rt _ _), e, q => exact q
    | .ex _ _ _ _, e, q => exact q
    | .ep _ _ _, e, q => exact q
def spDQ (K : PySem.W.Frag) (mg : Str → Option Value) (n : Nat) (F : FnQ) (vs : List V) (H : Hp) (Q : VK) (E : XK) : Prop :=
  ∃ W M ds o, W.H = H ∧ W.Ok K M ∧ RepL K W.B W.ι vs ds ∧ ds.length = n ∧ F ds M = some o ∧ PostEQ K mg E Q W o
structure DFnQ (P : Program) (w : World) (K : PySem.W.Frag) (mg : Str → Option Value) (base : Heap) (k : Nat) (f : Addr) (fd : FuncData) (ps : List Str) (F : FnQ) : Prop where
  run : ∀ (A : Around) (outer : List PySem.Env) (s : Shared) (H : Hp) (args : Args) (us : List Value) (vs : List V) (Q : VK) (E : XK), Room k A → A.guards = some [] → Env0 P w K mg base A outer s H → BindsTo s fd args (ps.zip us) → Vals vs us →
    spDQ K mg ps.length F vs H Q E → codeAny (model P w) A (.call (.ref f) args) (CR (L2.CX P w) outer P w H s Q E) s
theorem DFnQ.mono {f : Addr} {fd : FuncData} {ps : List Str} {F : FnQ} {j : Nat} (h : DFnQ P w K mg base j f fd ps F) (l : j ≤ k) : DFnQ P w K mg base k f fd ps F :=
  ⟨fun A outer s H args us vs Q E r g => h.run A outer s H args us vs Q E (r.mono l) g⟩
theorem run_dfnQ {Y : Cx} {pins : List (Addr × Obj)} {σ : L2.St} {H : Hp} {s : Shared} {Q : VK} {f : Addr} {fd : FuncData} {ps ks : List Str} {F : FnQ} {us ws us' : List Value} {vs : List V} (h : DFnQ Y.prog Y.w Y.K Y.mg Y.base k f fd ps F) (room : Room k Y.A) (grd : Y.A.guards = some []) (tk : Takes Y S)
    (J : Inv Y pins σ H s) (hb : BindsTo s fd ⟨us, ks.zip ws⟩ (ps.zip us')) (r : Vals vs us') (q : spDQ Y.K Y.mg ps.length F vs H Q (fun c d H' => S c d σ H')) : wpAny (model Y.prog Y.w) Y.A (call (.ref f) us (ks.zip ws)) (EP Y pins σ Q) Y.xe s := by
  refine wpAny_call (codeAny_mono (h.run Y.A Y.stack s H _ us' vs Q _ room grd J.env0 hb r q) fun o s' ho => ?_)
  match o, ho with
  | .ok (.ret u), ho => exact J.after ho
  | .ok .next, ho => exact False.elim ho
  | .ok .brk, ho => exact False.elim ho
  | .ok .cont, ho => exact False.elim ho
  | .error _, ho => exact passAt tk σ pins H s _ s' J ho
def qCall (F : FnQ) (g : AF) (dds : List D) : EXQ := fun δ M => match g δ M with
  | some (ds, M1) => F (ds ++ dds) M1
  | none => none
theorem DEQ.call (c : Ctx X P w K mg base k) (tk : ∀ i, Takes (X i) S) {x : Str} {p pos : Pos} {e : Expr} {es : List Expr} {g : AF} {f : Addr} {fd : FuncData} {ps : List Str} {F : FnQ} {kf : Nat} {dvs : List V} {dds : List D} {dsv : List Value} (h : DFnQ P w K mg base kf f fd ps F) (hk : kf ≤ k)
    (hm : mg x = some (.ref f)) (kp : PySem.W.keepIn K (.ref f) = true) (hb : Binds K fd ps dsv) (hd : Vals dvs dsv) (hr : ∀ B ι, RepL K B ι dvs dds) (hn : (e :: es).length + dds.length = ps.length) (ha : DA X K (e :: es) g) (hlen : ∀ δ M ds M', g δ M = some (ds, M') → ds.length = (e :: es).length) (hg : ∀ i, Gl (X i) x := by intro _; rfl)
    (hdbg : (x == ("__debug__" : Str)) = false := by decide) (he : ∀ i, starEach (e :: es) (X i).env = (false, eval e (X i).env) :: starEach es (X i).env := by intro _; rfl) (hpl : ∀ i, (backTo pos (starEach es (X i).env)).any (·.1) = false := by intro _; rfl) :
    DEQ X K mg S (.Call (.Name x p) (e :: es) [] pos) (qCall F g dds) := by
  obtain ⟨t, pa, ra⟩ := ha.go
  refine ⟨fun σ H Q => t σ H fun vs H1 => spDQ K mg ps.length F (vs ++ dvs) H1 Q (fun c d H' => S c d σ H'), fun i => ⟨fun pins s σ H Q J q => ?_⟩, fun σ W δ M o Q w s ev q => ?_⟩
  · have cK := c.K i
    have cmg := c.mg i
    refine wpAny_Call_Name_kw (ld_glob J (hg i) (by rw [c.mg i]; exact hm) ?_ hdbg)
    refine PySem.W.callWith_K (h₀ := (X i).base) J.ok.mod.kin (by rw [cK]; exact kp) (thn ((pa i).run pos pins s σ H _ J q) fun us s1 ⟨vs, H1, J1, r, q1⟩ => ⟨J1.kIn, ?_⟩) (he i) (hpl i)
    obtain ⟨W, M, ds, o, a1, a2, a3, a4, a5, a6⟩ := id q1
    have h' : DFnQ (X i).prog (X i).w (X i).K (X i).mg (X i).base k f fd ps F := by
      rw [c.prog i, c.wd i, c.K i, c.mg i, c.base i]
      exact h.mono hk
    have r2 := r.append hd
    refine run_dfnQ (ks := []) (ws := []) (us := us) h' (c.room i) (c.grd i) (tk i) J1 (hb s1 us (by rw [← cK]; exact J1.kIn) ?_) r2 (by rw [cK, cmg]; exact q1)
    rw [← r2.length, a3.len, a4]
  · unfold qCall at ev
    split at ev
    · rename_i ds M1 h1
      refine ra σ W δ M ds M1 _ w s h1 fun vs W1 l1 w1 r1 => ⟨W1, M1, ds ++ dds, o, rfl, w1, r1.append (hr _ _), ?_, ev, q.le l1⟩
      rw [List.length_append, hlen _ _ _ _ h1]
      exact hn
    · cases ev
def qAs (f : EXQ) (j : Nat) : XFQ := fun δ M => match f δ M with
  | some (.v d M1) => some (.ok (.nx (δ.set j (some d)) M1))
  | some (.ex y fs M1) => some (.ex y fs δ M1)
  | some (.ep y M1) => some (.ep y δ M1)
  | none => none
theorem DSQ.set (j : Nat) {x : Str} {e : Expr} {pos pos'} {f : EXQ} (a : DEQ X K mg S e f) (hN : ∀ i, (X i).N.Nodup) (hi : ∀ i, (X i).N[j]? = some x := by intro _; rfl) (hx : ∀ i, Loc (X i).env.scope x := by intro _; first | exact Or.inl rfl | exact Or.inr rfl)
    (hs : ∀ i, swapsWith e (some (.Name x pos')) pos.line (X i).env = pure false := by intro _; rfl) (hf : ∀ i, (X i).fn x = true ∨ (X i).env.scope.names.lookup x = some .local := by intro _; first | exact Or.inl rfl | exact Or.inr rfl) :
    DSQ X K mg S (.Assign [.Name x pos'] e pos) (qAs f j) := by
  obtain ⟨t, p, r⟩ := a.go
  refine ⟨tAsg t (gName j), fun i => ps_set (hN i) (hi i) (hx i) (p i) (hs i) (hf i), fun σ W δ M o E w s ev q => ?_⟩
  unfold qAs at ev
  split at ev
  · rename_i d M1 h1
    cases ev
    exact r σ W δ M _ _ w s h1 fun v W1 l1 w1 r1 => q _ W1 l1 w1 ((s.le l1).set r1 j)
  · rename_i y fs M1 h1
    cases ev
    exact r σ W δ M _ _ w s h1 fun C W1 dx vs m l1 w1 z => q C σ W1 dx vs m l1 w1 (s.le l1) z
  · rename_i y M1 h1
    cases ev
    exact r σ W δ M _ _ w s h1 fun C W1 m l1 w1 => q C σ W1 m l1 w1 (s.le l1)
  · cases ev
def qRet (f : EXQ) : XFQ := fun δ M => match f δ M with
  | some (.v d M1) => some (.ok (.rt d M1))
  | some (.ex y fs M1) => some (.ex y fs δ M1)
  | some (.ep y M1) => some (.ep y δ M1)
  | none => none
theorem DSQ.ret {e : Expr} {pos} {f : EXQ} (a : DEQ X K mg S e f) : DSQ X K mg S (.Return (some e) pos) (qRet f) := by
  obtain ⟨t, p, r⟩ := a.go
  refine ⟨tRet t, fun i => ps_ret (p i), fun σ W δ M o E w s ev q => ?_⟩
  unfold qRet at ev
  split at ev
  · rename_i d M1 h1
    cases ev
    exact r σ W δ M _ _ w s h1 q
  · rename_i y fs M1 h1
    cases ev
    exact r σ W δ M _ _ w s h1 fun C W1 dx vs m l1 w1 z => q C σ W1 dx vs m l1 w1 (s.le l1) z
  · rename_i y M1 h1
    cases ev
    exact r σ W δ M _ _ w s h1 fun C W1 m l1 w1 => q C σ W1 m l1 w1 (s.le l1)
  · cases ev
end
end Pl
namespace L2
open PySem PySem.Spec PyProof.Rows
end L2
namespace Pl
open PySem PySem.Spec PyProof.Rows L2
end Pl
namespace Pl
open PySem L2
end Pl
namespace Pl
open PySem L2
inductive AOQ where
  | v (ds : List D) (M : Mh) | ex (y : Str) (fs : List (Str × D)) (M : Mh) | ep (y : Str) (M : Mh)
abbrev AXQ := Env → Mh → Option AOQ
def PostAQ (K : PySem.W.Frag) (mg : Str → Option Value) (S : Value → Option Addr → Hp → Prop) (Q : List V → Hp → Prop) (W : Wd) : AOQ → Prop
  | .v ds M => VRL K W ds M Q
  | .ex y fs M => ∀ C W' dx vs, mg y = some (.ref C) → W.Le W' → W'.Ok K M → FsAt K W' M dx vs fs → S (.ref C) (some dx) W'.H
  | .ep y M => ∀ C W', mg y = some (.ref C) → W.Le W' → W'.Ok K M → S (.ref C) none W'.H
def ARQ (K : PySem.W.Frag) (mg : Str → Option Value) (S : WX) (t : TA) (f : AXQ) : Prop := ∀ (σ : St) (W : Wd) (δ : Env) (M : Mh) (o : AOQ) (Q : List V → Hp → Prop), W.Ok K M → Slots K W σ δ → f δ M = some o → PostAQ K mg (fun c d H => S c d σ H) Q W o → t σ W.H Q
section
variable {I : Type}
structure DAQ (X : I → Cx) (K : PySem.W.Frag) (mg : Str → Option Value) (S : WX) (es : List Expr) (f : AXQ) : Prop where
  go : ∃ t : TA, (∀ i, PA (X i) es t) ∧ ARQ K mg S t f
variable {X : I → Cx} {P : Program} {w : World} {K : PySem.W.Frag} {mg : Str → Option Value} {base : Heap} {k : Nat} {S : WX}
def qaNil : AXQ := fun _ M => some (.v [] M)
theorem DAQ.nil : DAQ X K mg S [] qaNil := ⟨tNil, fun i => pa_nil, fun σ W δ M o Q w s e q => by
  cases e
  exact q [] W (.refl W) w .nil⟩
def qaCons (f : EXQ) (g : AXQ) : AXQ := fun δ M => match f δ M with
  | some (.v d M1) => (match g δ M1 with
    | some (.v ds M2) => some (.v (d :: ds) M2)
    | some (.ex y fs M2) => some (.ex y fs M2)
    | some (.ep y M2) => some (.ep y M2)
    | none => none)
  | some (.ex y fs M1) => some (.ex y fs M1)
  | some (.ep y M1) => some (.ep y M1)
  | none => none
theorem DAQ.cons {e : Expr} {es : List Expr} {f : EXQ} {g : AXQ} (a : DEQ X K mg S e f) (b : DAQ X K mg S es g) (he : ∀ i, starEach (e :: es) (X i).env = (false, eval e (X i).env) :: starEach es (X i).env := by intro _; rfl) : DAQ X K mg S (e :: es) (qaCons f g) := by
  obtain ⟨ta, pa, ra⟩ := a.go
  obtain ⟨tb, pb, rb⟩ := b.go
  refine ⟨tCons ta tb, fun i => pa_cons (pa i) (pb i) (he i), fun σ W δ M o Q w s ev q => ?_⟩
  unfold qaCons at ev
  split at ev
  · rename_i d1 M1 h1
    split at ev
    · rename_i ds M2 h2
      cases ev
      refine ra σ W δ M (.v d1 M1) _ w s h1 fun v W1 l1 w1 r1 => ?_
      refine rb σ W1 δ M1 (.v ds M2) _ w1 (s.le l1) h2 fun vs W2 l2 w2 r2 => ?_
      exact q _ W2 (l1.trans l2) w2 (.cons (r1.le l2) r2)
    · rename_i y fs M2 h2
      cases ev
      refine ra σ W δ M (.v d1 M1) _ w s h1 fun v W1 l1 w1 r1 => ?_
      exact rb σ W1 δ M1 (.ex y fs M2) _ w1 (s.le l1) h2 fun C W2 dx vs m l2 w2 z => q C W2 dx vs m (l1.trans l2) w2 z
    · rename_i y M2 h2
      cases ev
      refine ra σ W δ M (.v d1 M1) _ w s h1 fun v W1 l1 w1 r1 => ?_
      exact rb σ W1 δ M1 (.ep y M2) _ w1 (s.le l1) h2 fun C W2 m l2 w2 => q C W2 m (l1.trans l2) w2
    · cases ev
  · rename_i y fs M1 h1
    cases ev
    exact ra σ W δ M (.ex y fs M1) _ w s h1 q
  · rename_i y M1 h1
    cases ev
    exact ra σ W δ M (.ep y M1) _ w s h1 q
  · cases ev
end
end Pl
namespace L2
open PySem PySem.Spec PyProof.Rows
end L2
namespace Pl
open PySem PySem.Spec PyProof.Rows L2
end Pl
namespace Pl
open PySem L2
end Pl
namespace Pl
open PySem PySem.Spec PyProof.Rows L2
end Pl
namespace LamY
open PySem PySem.Spec PySem.Calls PyProof.Rows L2 LamX
open PySem.W (CodeHd tabObj)
abbrev fnD (name qual : Str) (params : Arguments) (body : Expr) (scope : Scope) (cl : List (Str × Addr)) (pm cdv ct dv : Value) : FuncData :=
  { name, qualname := qual, params, body := .expr body, scope, globals := mainGlobals, closure := cl, defaults := dv, kwdefaults := .none, doc := .none, pyModule := pm, annotations := none, code := cdv, closureTuple := ct, builtins := builtinsNs }
abbrev objD (name qual : Str) (params : Arguments) (body : Expr) (scope : Scope) (clos : List (Str × Addr)) (pm : Value) (c' : Addr) (ctv dv : Value) : Obj :=
  { cls := .type "function", data := .func (fnD name qual params body scope clos pm (.ref c') ctv dv) }
section
variable {M : Model} {A : Around} {E : Value → Shared → Prop} {s : Shared} {name qual : Str} {params : Arguments} {body : Expr} {scope : Scope} {env : Env} {c P : Addr} {ps : Array Value} {pos : Pos} {firstLine : Nat} {mg : Str → Option Value}
  {clos : List (Str × Addr)} {Q : Value → Shared → Prop} {dv : Value}
theorem makeTailD (hcl : closureFor scope env = pure clos) (hge0 : env.globals = mainGlobals) (hg : s.heap.Ns mainGlobals mg) (hcode : env.code = .ref c) (C : CodeHd s.heap c P) (hP : s.heap.get? P = some (tabObj ps)) (ht : TriplesOk ps.toList)
    (hnf : codeAmong pos ps.toList = none) (hgP : mainGlobals ≠ P) (hb : s.heap.BuiltinsAt mg P)
    (h : ∀ c' ctv h' tk, Heap.ExtBut P s.heap h' → s.heap.objs.size ≤ c' → c' < h'.objs.size → h'.CodeRec (.ref c') qual → h'.get? P = some (tabObj (ps ++ #[rawInt pos.line, rawInt pos.col, .ref c'])) →
      Q (.ref h'.objs.size) { s with heap := h'.push (objD name qual params body scope clos ((mg "__name__").getD .none) c' ctv dv), toks := tk }) :
    wpAny M A (makeTail name qual params (.expr body) scope env dv .none none pos firstLine) Q E s := by
  obtain ⟨bm, ob, hbm, hne0, _, hneP, hbo, hcls, hdict, hdata⟩ := hb
  unfold makeTail
  rw [hcl, hge0]
  refine wpAny_bind (wpAny_pure ?_)
  cases clos with
  | nil =>
    simp only [List.isEmpty_nil, if_true]
    refine wpAny_bind (wpAny_pure ?_)
    refine wpAny_bind (wpAny_functionCodeX hcode (C.code hP ht) (C.tab hP) hnf fun c' h' tk hx hge hlt _ hrec htb _ => ?_)
    have hg' := hg.extBut hx hgP
    refine wpAny_bind (wpAny_builtinsFor hg' hbm hne0 (hx _ _ hneP hbo) hcls hdict hdata ?_)
    refine wpAny_bind (wpAny_nsGet hg' ?_)
    exact wpAny_bind (wpAny_pure (wpAny_newObj_type (h c' .none h' tk hx hge hlt hrec htb.2) (by size_fits)))
  | cons q r =>
    simp only [List.isEmpty_cons, Bool.false_eq_true, if_false]
    refine wpAny_bind (wpAny_newTextTuple ?_)
    refine wpAny_bind (wpAny_functionCodeX hcode ((C.keeps fun b o e => Heap.get?_push_of_some _ e).code (Heap.get?_push_of_some _ hP) ht) ((C.keeps fun b o e => Heap.get?_push_of_some _ e).tab (Heap.get?_push_of_some _ hP)) hnf fun c' h' tk hx hge hlt _ hrec htb _ => ?_)
    have hg' := (hg.push _).extBut hx hgP
    have hx' : Heap.ExtBut P s.heap h' := fun b o hb' e => hx b o hb' (Heap.get?_push_of_some _ e)
    have hge' : s.heap.objs.size ≤ c' := Nat.le_trans (by rw [Heap.size_push]; omega) hge
    refine wpAny_bind (wpAny_builtinsFor hg' hbm hne0 (hx' _ _ hneP hbo) hcls hdict hdata ?_)
    refine wpAny_bind (wpAny_nsGet hg' ?_)
    exact wpAny_bind (wpAny_pure (wpAny_newObj_type (h c' _ h' tk hx' hge' hlt hrec htb.2) (by size_fits)))
theorem makeTailHitD {c' : Addr} (hcl : closureFor scope env = pure clos) (hge0 : env.globals = mainGlobals) (hg : s.heap.Ns mainGlobals mg) (hcode : env.code = .ref c) (C : CodeHd s.heap c P) (hP : s.heap.get? P = some (tabObj ps)) (ht : TriplesOk ps.toList)
    (hf : codeAmong pos ps.toList = some (.ref c')) (hb : s.heap.BuiltinsAt mg P)
    (h : ∀ (ctv : Value) (h' : Heap) (tk : Tok), (∀ b o, s.heap.get? b = some o → h'.get? b = some o) → s.heap.objs.size ≤ h'.objs.size →
      Q (.ref h'.objs.size) { s with heap := h'.push (objD name qual params body scope clos ((mg "__name__").getD .none) c' ctv dv), toks := tk }) :
    wpAny M A (makeTail name qual params (.expr body) scope env dv .none none pos firstLine) Q E s := by
  obtain ⟨bm, ob, hbm, hne0, _, hneP, hbo, hcls, hdict, hdata⟩ := hb
  unfold makeTail
  rw [hcl, hge0]
  refine wpAny_bind (wpAny_pure ?_)
  cases clos with
  | nil =>
    simp only [List.isEmpty_nil, if_true]
    refine wpAny_bind (wpAny_pure ?_)
    refine wpAny_bind (wpAny_functionCode_hit hcode (C.code hP ht) hf ?_)
    refine wpAny_bind (wpAny_builtinsFor hg hbm hne0 hbo hcls hdict hdata ?_)
    refine wpAny_bind (wpAny_nsGet hg ?_)
    exact wpAny_bind (wpAny_pure (wpAny_newObj_type (h .none s.heap s.toks (fun _ _ e => e) (Nat.le_refl _)) (by size_fits)))
  | cons q r =>
    simp only [List.isEmpty_cons, Bool.false_eq_true, if_false]
    refine wpAny_bind (wpAny_newTextTuple ?_)
    refine wpAny_bind (wpAny_functionCode_hit hcode ((C.keeps fun b o e => Heap.get?_push_of_some _ e).code (Heap.get?_push_of_some _ hP) ht) hf ?_)
    refine wpAny_bind (wpAny_builtinsFor (hg.push _) hbm hne0 (Heap.get?_push_of_some _ hbo) hcls hdict hdata ?_)
    refine wpAny_bind (wpAny_nsGet (hg.push _) ?_)
    have hsz : ∀ oT : Obj, s.heap.objs.size ≤ (s.heap.push oT).objs.size := fun oT => by rw [Heap.size_push]; omega
    exact wpAny_bind (wpAny_pure (wpAny_newObj_type (h _ _ s.toks (fun b o e => Heap.get?_push_of_some _ e) (hsz _)) (by size_fits)))
end
/-- where a lambda's defaults stand: nowhere, or in a tuple of one -/
def DfOk (s : Heap) (dv : Value) (us : List Value) : Prop := (dv = .none ∧ us = []) ∨ ∃ t, dv = .ref t ∧ us ≠ [] ∧ s.get? t = some { cls := .type "tuple", data := .seq us.toArray }
section
variable {X : Cx} {pins : List (Addr × Obj)} {σ : L2.St} {H : Hp} {s : Shared}
/-- what the code object's address is then, and what is told of it -/
def NewCode (H H1 : Hp) (P c' : Addr) (q : Str) (ps : Array Value) (pos : Pos) : Prop := (H1 = H ∧ H c' = some (CodeO c' q) ∧ codeAmong pos ps.toList = some (.ref c')) ∨ (H c' = none ∧ c' ≠ P ∧ H1 = upd (upd H P (.tbl (ps ++ #[rawInt pos.line, rawInt pos.col, .ref c']))) c' (CodeO c' q))
theorem lam_tail {c P : Addr} {q : Str} {ps : Array Value} {params : Arguments} {body : Expr} {scope : Scope} {pos : Pos} {fl : Nat} {dv : Value} {us : List Value} {E : Value → Shared → Prop} {Q : Value → Shared → Prop} (I : Inv X pins σ H s) (TB : TabB X.base X.mg c P) (hcode : X.env.code = .ref c)
    (hP : H P = some (.tbl ps)) (ht : TriplesOk ps.toList) (ha : ∀ (pos : Pos) (cv : Value), codeAmong pos ps.toList = some cv → ∃ c, cv = .ref c ∧ H c = some (CodeO c q))
    (hfree : ∀ y ∈ scope.names, y.2 = .free → ∃ c, X.env.cells.lookup y.1 = some c) (hdv : DfOk s.heap dv us) (hdt : ∀ t, dv = .ref t → H t = none ∧ t ∉ frs X.stack)
    (h : ∀ (f c' : Addr) (pm ctv : Value) (H1 : Hp) (s' : Shared), Inv X pins σ H1 s' → NewCode H H1 P c' q ps pos →
      s'.heap.get? f = some (objD "<lambda>" q params body scope (cloFrom X.env.cells scope.names []) pm c' ctv dv) → DfOk s'.heap dv us → (∀ t, dv = .ref t → H1 t = none ∧ t ∉ frs X.stack) → H1 f = none → f ∉ frs X.stack → Q (.ref f) s') :
    wpAny (model X.prog X.w) X.A (makeTail "<lambda>" q params (.expr body) scope X.env dv .none none pos fl) Q E s := by
  have bP : s.heap.BuiltinsAt X.mg P := TB.bm.keeps I.bk
  have hP' : s.heap.get? P = some { cls := .none, data := .fields ps } := I.hok P _ hP
  have nofr : ∀ f, s.heap.objs.size ≤ f → f ∉ frs X.stack := fun f hf z => by
    rcases List.mem_cons.mp (I.stkSub _ z) with e | e
    · have h1 := I.lt
      rw [← e] at h1
      exact Nat.lt_irrefl _ (Nat.lt_of_lt_of_le h1 hf)
    · exact I.nofs hf e
  have dfk : ∀ {h' : Heap}, (∀ b o, b ≠ P → s.heap.get? b = some o → h'.get? b = some o) → DfOk h' dv us := fun {h'} k => by
    rcases hdv with ⟨e1, e2⟩ | ⟨t, e1, e2, e3⟩
    · exact .inl ⟨e1, e2⟩
    · refine .inr ⟨t, e1, e2, k t _ (fun z => ?_) e3⟩
      have := (hdt t e1).1
      rw [z, hP] at this
      cases this
  cases hc : codeAmong pos ps.toList with
  | none =>
    refine makeTailD (mg := X.mg) (c := c) (P := P) (ps := ps) (closure_ok hfree) I.ok.glob (I.mod.glob.keeps I.bk) hcode (TB.code.keeps I.bk) hP' ht hc TB.gP bP fun c' ctv h' tk hx hge hlt hrec htb => ?_
    obtain ⟨c2, oc, vs, t, e2, hoc, hd, hv⟩ := hrec
    cases e2
    have hsz : s.heap.objs.size ≤ h'.objs.size := Nat.le_trans hge (Nat.le_of_lt hlt)
    have nC : H c' = none := I.hok.fresh hge
    have nPc : c' ≠ P := fun z => by
      rw [z, hP] at nC
      cases nC
    have I1 := inv_table (t' := tk) (more := #[rawInt pos.line, rawInt pos.col, .ref c']) (h' := h'.push (objD "<lambda>" q params body scope (cloFrom X.env.cells scope.names []) ((X.mg "__name__").getD .none) c' ctv dv)) I hP
      (fun b o hb e => Heap.get?_push_of_some _ (hx b o hb e)) (Heap.get?_push_of_some _ htb) hge ⟨oc, vs, t, Heap.get?_push_of_some _ hoc, hd, hv⟩
    refine h h'.objs.size c' ((X.mg "__name__").getD .none) ctv _ _ I1 (.inr ⟨nC, nPc, rfl⟩) (Heap.get?_push_size _ rfl) (dfk fun b o hb e => Heap.get?_push_of_some _ (hx b o hb e)) (fun t et => ⟨?_, (hdt t et).2⟩) ?_ (nofr _ hsz)
    · have h1 := (hdt t et).1
      rcases hdv with ⟨e1, _⟩ | ⟨t', e1, _, e3⟩
      · rw [e1] at et; cases et
      · rw [e1] at et; cases et
        rw [upd_ne (Nat.ne_of_lt (Nat.lt_of_lt_of_le (Heap.lt_size e3) hge)), upd_ne (fun z => by rw [z, hP] at h1; cases h1)]
        exact h1
    · have n1 : h'.objs.size ≠ c' := Nat.ne_of_gt hlt
      have n2 : h'.objs.size ≠ P := Nat.ne_of_gt (Nat.lt_of_lt_of_le (Heap.lt_size hP') hsz)
      rw [upd_ne n1, upd_ne n2]
      exact I.hok.fresh hsz
  | some cv =>
    obtain ⟨c', e, hco⟩ := ha pos cv hc
    subst e
    refine makeTailHitD (mg := X.mg) (c := c) (P := P) (ps := ps) (closure_ok hfree) I.ok.glob (I.mod.glob.keeps I.bk) hcode (TB.code.keeps I.bk) hP' ht hc bP fun ctv h' tk hx hsz => ?_
    have I1 : Inv X pins σ H { s with heap := h'.push (objD "<lambda>" q params body scope (cloFrom X.env.cells scope.names []) ((X.mg "__name__").getD .none) c' ctv dv), toks := tk } := I.kept fun b o e => Heap.get?_push_of_some _ (hx b o e)
    exact h h'.objs.size c' ((X.mg "__name__").getD .none) ctv H _ I1 (.inl ⟨rfl, hco, hc⟩) (Heap.get?_push_size _ rfl) (dfk fun b o hb e => Heap.get?_push_of_some _ (hx b o e)) hdt (I.hok.fresh hsz) (nofr _ hsz)
/-- the defaults of a lambda: none, or one whole number -/
inductive DfIs (X : Cx) (params : Arguments) : List V → Prop
  | none : defaultsOf params X.env = ([], []) → DfIs X params []
  | int {i : Int} {j : Nat} {p : Pos} : defaultsOf params X.env = ([eval (.Constant (.int i) j p) X.env], []) → DfIs X params [.int i]
theorem lam_make {c P : Addr} {q : Str} {ps : Array Value} {params : Arguments} {body : Expr} {scope : Scope} {pos : Pos} {vs : List V} {E : Value → Shared → Prop} {Q : Value → Shared → Prop} (I : Inv X pins σ H s) (TB : TabB X.base X.mg c P) (hcode : X.env.code = .ref c)
    (hq : X.env.qual ++ "<lambda>" = q) (hP : H P = some (.tbl ps)) (ht : TriplesOk ps.toList) (ha : ∀ (pos : Pos) (cv : Value), codeAmong pos ps.toList = some cv → ∃ c, cv = .ref c ∧ H c = some (CodeO c q))
    (hfree : ∀ y ∈ scope.names, y.2 = .free → ∃ c, X.env.cells.lookup y.1 = some c) (hd : DfIs X params vs)
    (h : ∀ (us : List Value) (f c' : Addr) (pm ctv dv : Value) (H1 : Hp) (s' : Shared), Vals vs us → Inv X pins σ H1 s' → NewCode H H1 P c' q ps pos →
      s'.heap.get? f = some (objD "<lambda>" q params body scope (cloFrom X.env.cells scope.names []) pm c' ctv dv) → DfOk s'.heap dv us → (∀ t, dv = .ref t → H1 t = none ∧ t ∉ frs X.stack) → H1 f = none → f ∉ frs X.stack → Q (.ref f) s') :
    wpAny (model X.prog X.w) X.A (eval (.Lambda params body scope pos) X.env) Q E s := by
  subst hq
  cases hd with
  | none hdef =>
    refine PySem.W.kla_eval hdef ?_
    rw [makeFunction_eq]
    simp only [List.zip_nil_right, List.filterMap_nil, List.isEmpty_nil, if_true, pure_bind]
    exact lam_tail (us := []) I TB hcode hP ht ha hfree (.inl ⟨rfl, rfl⟩) (fun t e => nomatch e) fun f c' pm ctv H1 s' a1 a2 a3 a4 a5 a6 a7 => h [] f c' pm ctv .none H1 s' .nil a1 a2 a3 a4 a5 a6 a7
  | int hdef =>
    rename_i i j p
    rw [arm_eval_Lambda, hdef]
    show wpAny _ _ (do let dv ← evalAll [eval (.Constant (.int i) j p) X.env]; let kdv ← holding dv (evalAllOpt []); makeFunction "<lambda>" (X.env.qual ++ "<lambda>") params (.expr body) scope X.env dv kdv [] pos pos.line) Q E s
    refine wpAny_bind (m := evalAll [eval (.Constant (.int i) j p) X.env]) ?_
    show wpAny _ _ (do let v ← eval (.Constant (.int i) j p) X.env; return v :: (← holding [v] (evalAll []))) _ _ _
    refine wpAny_bind (m := eval (.Constant (.int i) j p) X.env) (wpAny_Constant_int ?_)
    refine wpAny_bind (wpAny_holding (wpAny_pure (wpAny_pure ?_)))
    refine wpAny_bind (wpAny_holding (wpAny_pure ?_))
    rw [makeFunction_eq]
    simp only [List.zip_nil_right, List.filterMap_nil, List.isEmpty_nil, List.isEmpty_cons, if_true, pure_bind]
    rw [if_neg (by decide)]
    refine wpAny_bind (wpAny_newTextTuple ?_)
    refine lam_tail (H := H) (ps := ps) (us := [.int i s.toks]) (c := c) (P := P) (I.kept (t' := s.toks + 1) fun b o e => Heap.get?_push_of_some _ e) TB hcode hP ht ha hfree (.inr ⟨_, rfl, (fun z => nomatch z), Heap.get?_push_size _ rfl⟩) (fun t e => ?_) fun f c' pm ctv H1 s' a1 a2 a3 a4 a5 a6 a7 => h _ f c' pm ctv _ H1 s' (.cons ⟨_, rfl⟩ .nil) a1 a2 a3 a4 a5 a6 a7
    cases e
    refine ⟨I.hok.fresh (Nat.le_refl _), fun z => ?_⟩
    rcases List.mem_cons.mp (I.stkSub _ z) with e | e
    · have h1 := I.lt
      rw [← e] at h1
      exact Nat.lt_irrefl _ h1
    · exact I.nofs (Nat.le_refl _) e
end
/-- captured names and globals, and parameters (of no name of the def around) -/
structure LamS2 (ns N : List Str) (sc scope : Scope) : Prop where
  kind : scope.kind = .function
  co : scope.isCoroutine = false
  gen : scope.isGenerator = false
  own : ∀ y ∈ scope.names, y.2 ≠ .cell ∧ (y.2 = .local → y.1 ∈ ns)
  free : ∀ y ∈ scope.names, y.2 = .free → sc.names.lookup y.1 = some .cell ∨ sc.names.lookup y.1 = some .free
  par : ∀ n ∈ ns, scope.names.lookup n = some .local ∧ n ∉ N
theorem LamS2.has {ns N : List Str} {X : Cx} {scope : Scope} (L : LamS2 ns N X.env.scope scope) (ok : X.Ok) : ∀ y ∈ scope.names, y.2 = .free → ∃ c, X.env.cells.lookup y.1 = some c := fun y hy e => by
  rcases L.free y hy e with k | k
  · exact ok.has _ (.inl k)
  · exact ok.has _ (.inr k)
section
variable {X : Cx} {pins : List (Addr × Obj)} {σ : L2.St} {H HZ : Hp} {s s1 : Shared} {ns : List Str}
theorem lam_start3 {A : Around} {outer : List Env} {E : XK} {scope : Scope} {f c' : Addr} {h₁ : Heap} {tk : Nat} {bs : List (Str × Value)} (I : Inv X pins σ H s) (L : LamS2 ns X.N X.env.scope scope) (e0 : Env0 X.prog X.w X.K X.mg X.base A outer s1 HZ) (hd : A.handled = none)
    (un : Un (frs X.stack) [] H HZ s.heap s1.heap) (hns : h₁.Ns s1.heap.objs.size fun y => bs.reverse.lookup y) (kp : ∀ b o, s1.heap.get? b = some o → h₁.get? b = some o) :
    Inv (lamCx X A outer s1 HZ E scope f c') [] σ HZ { s1 with heap := h₁, toks := tk } := by
  have hfree := L.has I.ok
  have cm : ∀ {y c}, (cloFrom X.env.cells scope.names []).lookup y = some c → X.env.cells.lookup y = some c := fun {y c} e => by
    rcases cloFrom_mem (PySem.mem_of_lookup e) with hm | ⟨h1, h2⟩
    · cases hm
    · obtain ⟨c1, hc⟩ := hfree _ h1 rfl
      have hc : X.env.cells.lookup y = some c1 := hc
      have e2 : c = c1 := by
        rw [h2, hc] <;> rfl
      rw [e2]
      exact hc
  have look : ∀ {y}, scope.names.lookup y = some .free → ∃ c, (cloFrom X.env.cells scope.names []).lookup y = some c := fun {y} hl => by
    have hy : (y, NameKind.free) ∈ scope.names := PySem.mem_of_lookup hl
    exact mem_lookup (cloFrom_has (cells := X.env.cells) (acc := []) hy)
  have cellK : ∀ {c : Addr} {v : Option Value}, H c = none → s.heap.IsCell c v → h₁.IsCell c v := fun {c v} n ⟨o, ho, hd⟩ => by
    obtain ⟨sl, q⟩ := un.any ho n (by simp)
    exact ⟨_, kp _ _ q, hd⟩
  have noA : ∀ b : Addr, b ∉ (lamCx X A outer s1 HZ E scope f c').ex := fun b z => absurd (show b ∈ ([] : List Addr) from z) (by simp)
  refine ⟨⟨e0.mod, L.kind, rfl, rfl, Nat.le_refl _, fun y z c e1 e2 => I.ok.inj y z c (cm e1) (cm e2), fun y hy => ?_, fun y c z _ => ?_, fun _ => hd, Around.frames_deeper e0.frames, .inr ⟨rfl, rfl⟩, fun b z => absurd z (noA b), e0.bs, e0.bsz, fun b _ _ => noA b,
      fun b z => absurd z (noA b), e0.funs, e0.frf⟩,
    rfl, e0.bare, Un.kept kp, ⟨_, hns, fun i y v e1 e2 e3 => ?_⟩, fun y c e => ?_, e0.hok.fresh (Nat.le_refl _), fun y c e => ?_, fun q hq => absurd (show q ∈ ([] : List (Addr × Obj)) ++ [] from hq) (by simp), e0.hok.kept kp, I.len⟩
  · have hy : scope.names.lookup y = some .cell ∨ scope.names.lookup y = some .free := hy
    rcases hy with hy | hy
    · exact absurd rfl (L.own _ (PySem.mem_of_lookup hy)).1
    · exact look hy
  · have z : false = true := z
    cases z
  · have e3 : Vis scope y := e3
    rcases e3 with k | k | k
    · have hn := (L.own _ (PySem.mem_of_lookup k)).2 rfl
      have e1' : X.N[i]? = some y := e1
      exact absurd (List.mem_of_getElem? e1') (L.par y hn).2
    · exact absurd rfl (L.own _ (PySem.mem_of_lookup k)).1
    · obtain ⟨m, hn, hl⟩ := I.loc
      have hvis : Vis X.env.scope y := (L.free _ (PySem.mem_of_lookup k) rfl).elim (fun k => .inr (.inl k)) (fun k => .inr (.inr k))
      obtain ⟨w', r, q⟩ := hl i y v e1 e2 hvis
      obtain ⟨c2, h2⟩ := look k
      refine ⟨w', r, .inr ⟨.inr k, c2, h2, ?_⟩⟩
      have c1 := cm h2
      rcases q with ⟨k', _⟩ | ⟨_, c3, e', z⟩
      · have k' : X.env.scope.names.lookup y = some .local := k'
        rcases L.free _ (PySem.mem_of_lookup k) rfl with k2 | k2 <;> rw [show X.env.scope.names.lookup y = _ from k2] at k' <;> cases k'
      · rw [c1] at e'
        cases e'
        exact cellK (I.freeC y _ c1) z
  · obtain ⟨w', z⟩ := I.cell y c (cm e)
    exact ⟨w', cellK (I.freeC y c (cm e)) z⟩
  · obtain ⟨v, o, ho, hd⟩ := I.cell y c (cm e)
    exact un.free c o ho (I.freeC y c (cm e)) (by simp)
/-- how a call without arguments binds the lambda's parameters -/
structure LamB (params : Arguments) (body : Expr) (scope : Scope) (ns : List Str) (n : Nat) : Prop where
  no : n = 0 → ∀ (q : Str) (cl : List (Str × Addr)) (pm cv ctv : Value), bindArgs (fnD "<lambda>" q params body scope cl pm cv ctv .none) ⟨[], []⟩ = pure (ns.zip [])
  df : n ≠ 0 → ∀ (q : Str) (cl : List (Str × Addr)) (pm cv ctv : Value) (t : Addr) (us : List Value), us.length = n → ∃ k, bindArgs (fnD "<lambda>" q params body scope cl pm cv ctv (.ref t)) ⟨[], []⟩ = seqItems? (.ref t) >>= k ∧ k (some us.toArray) = pure (ns.zip us)
theorem LamB.binds {params : Arguments} {body : Expr} {scope : Scope} {n : Nat} (L : LamB params body scope ns n) {q : Str} {cl : List (Str × Addr)} {pm cv ctv dv : Value} {us : List Value} (hl : us.length = n) (d : DfOk s.heap dv us) : BindsTo s (fnD "<lambda>" q params body scope cl pm cv ctv dv) ⟨[], []⟩ (ns.zip us) := by
  rcases d with ⟨e1, e2⟩ | ⟨t, e1, e2, e3⟩
  · subst e1 e2
    exact BindsTo.of_eq (L.no hl.symm q cl pm cv ctv)
  · subst e1
    obtain ⟨k, k1, k2⟩ := L.df (fun z => e2 (List.length_eq_zero_iff.mp (hl.trans z))) q cl pm cv ctv t us hl
    exact BindsTo.of_defaults rfl e3 rfl k1 k2
/-- x(), in the def that got the lambda: Z is that def's context, entered at s -/
theorem pe_act3 {CXg : CXT} {Eg : XK} {Ng : List Str} {qg : Str} {sg : Scope} {g f c' : Addr} {cdg pm ctv dv : Value} {params : Arguments} {body : Expr} {scope : Scope} {k i n : Nat} {a q : Str} {pn : List (Addr × Obj)} {xe : Value → Shared → Prop} {W : WX} {tb : XK → TE} {p1 p2 : Pos} {us : List Value}
    (I : Inv X pins σ H s) (L : LamS2 ns X.N X.env.scope scope) (hq : X.env.qual ++ "<lambda>" = q) (hf : s.heap.get? f = some (objD "<lambda>" q params body scope (cloFrom X.env.cells scope.names []) pm c' ctv dv)) (hfn : H f = none) (hfr : f ∉ frs X.stack) (hdv : DfOk s.heap dv us) (hdt : ∀ t, dv = .ref t → H t = none ∧ t ∉ frs X.stack)
    (B : LamB params body scope ns n) (hl : us.length = n)
    (tk : Takes ((cxOf CXg X.prog X.w X.K X.mg X.base Ng qg sg g cdg X.A X.stack s H Eg).tr pn xe) W) (hr : Room (k + 1) (X.A.deeper (envOfC qg sg s.heap.objs.size g cdg)))
    (hbody : ∀ (E : XK) (A : Around) (outer : List Env) (s : Shared) (H : Hp), Room k (A.deeper (lamEnv X scope s.heap.objs.size f c')) → A.guards = X.A.guards → PE (lamCx X A outer s H E scope f c') body (tb E))
    (hN : Ng[i]? = some a) (hv : Vis sg a) (hd : (a == ("__debug__" : Str)) = false := by decide) (hcd : (a == ("__classdict__" : Str)) = false := by decide) :
    PE ((cxOf CXg X.prog X.w X.K X.mg X.base Ng qg sg g cdg X.A X.stack s H Eg).tr pn xe) (.Call (.Name a p1) [] [] p2)
      (fun σZ HZ Q => σZ[i]? = some (some (.ref f)) ∧ HZ c' = some (CodeO c' q) ∧ tb (fun c d H' => W c d σZ H') σ HZ Q) := by
  subst hq
  refine ⟨fun pinsZ sZ σZ HZ Q IZ h => ?_⟩
  obtain ⟨hs, hc, ht⟩ := h
  refine wpAny_Call_Name_kw (thn ((pe_var (pos := p1) (i := i) hN hv hd hcd).run pinsZ sZ σZ HZ (fun v H1 => v = .ref f ∧ H1 = HZ) IZ ⟨.ref f, hs, rfl, rfl⟩) fun u s1 ⟨v, H1, I1, r1, q1⟩ => ?_)
  obtain ⟨ev, eH⟩ := q1
  subst ev
  rw [eH] at I1
  obtain rfl : u = Value.ref f := r1
  have of1 : s1.heap.get? f = some (objD "<lambda>" (X.env.qual ++ "<lambda>") params body scope (cloFrom X.env.cells scope.names []) pm c' ctv dv) := I1.base.keep f _ hf hfn hfr (fun z => nomatch (show f ∈ ([] : List Addr) from z))
  have dv1 : DfOk s1.heap dv us := by
    rcases hdv with ⟨e1, e2⟩ | ⟨t, e1, e2, e3⟩
    · exact .inl ⟨e1, e2⟩
    · exact .inr ⟨t, e1, e2, I1.base.keep t _ e3 (hdt t e1).1 (hdt t e1).2 (fun z => nomatch (show t ∈ ([] : List Addr) from z))⟩
  refine PySem.W.callWith_F0 ⟨_, _, _, _, of1⟩ ?_
  have un : Un (frs X.stack) [] H HZ s.heap s1.heap := I1.base
  obtain ⟨⟨oc, vs, t, hoc, hdc, hvc⟩, _, _⟩ := I1.hok c' _ hc
  have rc : codeAny (model X.prog X.w) (X.A.deeper (envOfC qg sg s.heap.objs.size g cdg)) (.call (.ref f) ⟨[], []⟩) (CR (L2.CX X.prog X.w) (envOfC qg sg s.heap.objs.size g cdg :: X.stack) X.prog X.w HZ s1 Q (fun c d H' => W c d σZ H')) s1 := by
    refine PySem.W.kla_callFunE hr.depth of1 rfl L.co L.gen rfl ⟨c', oc, vs, t, rfl, hoc, hdc, hvc⟩ ?_
    refine B.binds hl dv1 _ _ _ _ ?_
    refine wpAny_newFunctionEnv (fun y hy => (L.own y hy).1) (fun y hy => (L.par y.1 (List.of_mem_zip (a := y.1) (b := y.2) hy).1).1) (fun h₁ hns hsb => ⟨I1.nolimit.fresh _ hsb, ?_⟩) L.kind
    show codeAny _ _ (.expr body (lamEnv X scope s1.heap.objs.size f c')) _ _
    have kp : ∀ b o, s1.heap.get? b = some o → h₁.get? b = some o := fun b o e => hsb.extBut b o (Nat.ne_of_lt (Heap.lt_size e)) (Heap.get?_push_of_some _ e)
    have J : Inv (lamCx X (X.A.deeper (envOfC qg sg s.heap.objs.size g cdg)) (envOfC qg sg s.heap.objs.size g cdg :: X.stack) s1 HZ (fun c d H' => W c d σZ H') scope f c') [] σ HZ { s1 with heap := h₁, toks := s1.toks + (ns.zip us).length } :=
      lam_start3 I L I1.env0 hr.hd un hns kp
    refine PySem.W.kla_codeExpr (wpAny_mono ((hbody _ _ _ s1 HZ (hr.deeper _) rfl).run [] _ _ HZ Q J ht) (fun v s' hq => ?_) fun e s' hq => hq)
    obtain ⟨w', H', J', rv, q⟩ := hq
    exact ⟨w', H', J'.os, J'.bare, J'.base, J'.hok, rv, q⟩
  refine wpAny_call (codeAny_mono rc fun r s' hq => ?_)
  cases r with
  | error e => exact passAt tk σZ pinsZ HZ s1 e s' I1 hq
  | ok fl =>
    cases fl with
    | ret u => exact I1.after hq
    | next => exact False.elim hq
    | brk => exact False.elim hq
    | cont => exact False.elim hq
end
end LamY
namespace Pl
open PySem PySem.Spec PyProof.Rows L2 LamX LamY
open PyProof.Rows (envOfC)
/-- what the call of a lambda does -/
abbrev DM := Mh → Option EOQ
open Classical in
noncomputable def qDeed (f c : Addr) (q : Str) (vs : List V) (ds : List D) (dm : DM) : EXQ := fun δ M => if δ[0]? = some (some (D.lam f c q vs ds)) then dm M else none
/-- the slots that a lambda holds -/
def capEnv (n : Nat) : List Nat → List D → Env
  | i :: is, d :: ds => (capEnv n is ds).set i (some d)
  | _, _ => List.replicate n none
def capGet (δ : Env) : List Nat → Option (List D)
  | [] => some []
  | i :: is => match δ[i]?, capGet δ is with
    | some (some d), some ds => some (d :: ds)
    | _, _ => none
def CapS (σ : L2.St) : List Nat → List V → Prop
  | [], [] => True
  | i :: is, v :: vs => σ[i]? = some (some v) ∧ CapS σ is vs
  | _, _ => False
theorem cap_slots {K : PySem.W.Frag} {W : Wd} {σ : L2.St} {δ : Env} (s : Slots K W σ δ) : ∀ {is : List Nat} {ds : List D}, capGet δ is = some ds → ∃ vs, RepL K W.B W.ι vs ds ∧ CapS σ is vs
  | [], ds, h => by
    cases h
    exact ⟨[], .nil, trivial⟩
  | i :: is, ds, h => by
    unfold capGet at h
    split at h
    · rename_i d ds' h1 h2
      cases h
      obtain ⟨v, e1, e2⟩ := s.at_ i d h1
      obtain ⟨vs, r, c⟩ := cap_slots s h2
      exact ⟨v :: vs, .cons e2 r, e1, c⟩
    · cases h
theorem slots_cap {K : PySem.W.Frag} {W : Wd} {σ : L2.St} : ∀ {is : List Nat} {vs : List V} {ds : List D}, CapS σ is vs → RepL K W.B W.ι vs ds → Slots K W σ (capEnv σ.length is ds)
  | [], _, ds, _, _ => by
    have e : capEnv σ.length [] ds = List.replicate σ.length none := by rw [capEnv.eq_def]
    rw [e]
    refine ⟨by simp, fun i d h => ?_⟩
    rw [List.getElem?_replicate] at h
    split at h
    · cases h
    · cases h
  | i :: is, [], _, c, _ => absurd c (by unfold CapS; exact fun z => z)
  | i :: is, v :: vs, _, c, .cons (d := d) (ds := ds) r1 r2 => by
    obtain ⟨c1, c2⟩ := c
    have ih := slots_cap c2 r2
    show Slots K W σ ((capEnv σ.length is ds).set i (some d))
    refine ⟨by rw [List.length_set]; exact ih.len, fun j e h => ?_⟩
    rw [List.getElem?_set] at h
    by_cases hij : i = j
    · subst hij
      rw [if_pos rfl] at h
      split at h
      · cases h
        exact ⟨v, c1, r1⟩
      · cases h
    · rw [if_neg hij] at h
      exact ih.at_ j e h
def bodyU (P : Program) (w : World) (K : PySem.W.Frag) (mg : Str → Option Value) (base : Heap) (N : List Str) {k : Nat} {qual : Str} {scope : Scope} {f : Addr} (e : Entry k qual scope f) : Unit → Cx := fun _ => bodyF P w K mg base N e
/-- the parameter's call -/
def DeedJ (X : Unit → Cx) (K : PySem.W.Frag) (mg : Str → Option Value) (a : Str) (qd : EXQ) : Prop := ∀ S : WX, (∀ i, Takes (trF X S i) S) → ∀ p1 p2 : Pos, DEQ (trF X S) K mg S (.Call (.Name a p1) [] [] p2) qd
abbrev LamG := Addr → Addr → Str → List V → List D → DM → SF
structure LkL (P : Program) (w : World) (K : PySem.W.Frag) (mg : Str → Option Value) (base : Heap) (x : Str) (k : Nat) (a : Str) (n : Nat) (G : LamG) : Prop where
  go : ∃ (g : Addr) (oc : Value) (od : Option Addr) (pg : Arguments) (bg : List Stmt) (sg : Scope) (dV kV doc pm : Value) (an : Option Addr) (cdv ct : Value) (osl : Array (Option Value)) (Ng : List Str),
    Ng.length = n ∧ mg x = some (.ref g) ∧ PySem.W.keepIn K (.ref g) = true ∧ K.lookup g = some ⟨oc, od, .func (PySem.W.fnOf x x pg bg sg dV kV doc pm an cdv ct), osl⟩ ∧ PySem.W.codeIn K cdv x = true ∧ L2.Binds K (PySem.W.fnOf x x pg bg sg dV kV doc pm an cdv ct) [a] [] ∧ FnScope Ng [a] sg ∧
    Ng[0]? = some a ∧ Vis sg a ∧ (a == ("__debug__" : Str)) = false ∧ (a == ("__classdict__" : Str)) = false ∧ (x == ("__debug__" : Str)) = false ∧
    ∀ (e : Entry k x sg g) (f c : Addr) (q : Str) (vs : List V) (ds : List D) (dm : DM), DeedJ (bodyU P w K mg base Ng e) K mg a (qDeed f c q vs ds dm) → DB (bodyU P w K mg base Ng e) K bg (G f c q vs ds dm)
section
variable {I : Type}
structure LamIx (X : I → Cx) (scope : Scope) (kb : Nat) where
  i : I
  A : Around
  outer : List PySem.Env
  s : Shared
  H : Hp
  f : Addr
  c : Addr
  room : Room kb (A.deeper (lamEnv (X i) scope s.heap.objs.size f c))
  grd : A.guards = some []
def lamF (X : I → Cx) (scope : Scope) {kb : Nat} (E : XK) (j : LamIx X scope kb) : Cx := lamCx (X j.i) j.A j.outer j.s j.H E scope j.f j.c
variable {X : I → Cx} {P : Program} {w : World} {K : PySem.W.Frag} {mg : Str → Option Value} {base : Heap} {k : Nat}
theorem lamF_ctx (c : Ctx X P w K mg base k) (scope : Scope) {kb : Nat} (E : XK) : Ctx (lamF X scope (kb := kb) E) P w K mg base kb :=
  ⟨fun j => c.prog j.i, fun j => c.wd j.i, fun j => c.K j.i, fun j => c.mg j.i, fun j => c.base j.i, fun j => j.room, fun j => j.grd, fun _ => rfl⟩
theorem lamF_takes (scope : Scope) {kb : Nat} (E : XK) (j : LamIx X scope kb) : Takes (lamF X scope E j) (fun c d _ H => E c d H) := takes_of rfl rfl rfl rfl
theorem Wd.tab_ok {W : Wd} {M : Mh} {m0 : Nat} {P0 c' : Addr} {q : Str} {ps : Array Value} {pos : Pos} (w : W.Ok K M) (lv0 : Live W M m0 P0 (.tab P0 q)) (ht : TriplesOk ps.toList)
    (ha : ∀ (pos : Pos) (cv : Value), codeAmong pos ps.toList = some cv → ∃ c, cv = .ref c ∧ W.B c = some (CodeO c q)) (hc : W.H c' = none) (hcP : c' ≠ P0) :
    (⟨upd (upd W.H P0 (.tbl (ps ++ #[rawInt pos.line, rawInt pos.col, .ref c']))) c' (CodeO c' q), upd W.B c' (CodeO c' q), W.ι, W.P⟩ : Wd).Ok K M := by
  obtain ⟨b0, p0, _⟩ := w.live _ _ _ lv0
  have hB : W.B c' = none := w.bnone hc
  have kB : ∀ b o, W.B b = some o → upd W.B c' (CodeO c' q) b = some o := updk hB
  have nP : ∀ {n a u}, n ≠ m0 → Live W M n a u → a ≠ P0 := fun {n a u} hn h e => by
    subst e
    exact hn (w.inj _ _ _ _ _ h lv0)
  have nc : ∀ {n a u}, Live W M n a u → a ≠ c' := fun {n a u} h e => by
    obtain ⟨_, _, k, hk, _⟩ := w.live n a u h
    rw [e, hc] at hk
    cases hk
  refine ⟨fun a o h => ?_, fun a o h => ?_, w.len, fun n a u h => ?_, fun n m a u v h g => w.inj n m a u v h g⟩
  · have h' : upd W.B c' (CodeO c' q) a = some o := h
    show upd (upd W.H P0 _) c' _ a = some o
    by_cases e : a = c'
    · subst e
      rw [upd_same] at h' ⊢
      exact h'
    · rw [upd_ne e] at h' ⊢
      rw [upd_ne (fun z => by rw [z, b0] at h'; cases h')]
      exact w.sub a o h'
  · obtain ⟨q1, q2⟩ := w.pin a o h
    have e : a ≠ c' := fun e => by
      rw [e, hc] at q1
      cases q1
    have e2 : a ≠ P0 := fun e => by
      have h' : W.P a = some o := h
      rw [e, p0] at h'
      cases h'
    exact ⟨(upd_ne e).trans ((upd_ne e2).trans q1), (upd_ne e).trans q2⟩
  · have h' : Live W M n a u := h
    obtain ⟨h1, h2, g, h3, h4⟩ := w.live n a u h'
    have e := nc h'
    by_cases hn : n = m0
    · subst hn
      have ea : a = P0 := by
        have := h'.1.symm.trans lv0.1
        cases this
        rfl
      have eu : u = .tab P0 q := by
        have := h'.2.1.symm.trans lv0.2.1
        cases this
        rfl
      subst ea eu
      refine ⟨(upd_ne e).trans h1, h2, .tbl (ps ++ #[rawInt pos.line, rawInt pos.col, .ref c']), (upd_ne e).trans upd_same, ?_⟩
      have eL : (ps ++ #[rawInt pos.line, rawInt pos.col, .ref c']).toList = ps.toList ++ [rawInt pos.line, rawInt pos.col, .ref c'] := by simp
      refine .tab (by rw [eL]; exact PySem.TriplesOk_snoc _ _ _ _ ht) fun p' cv hcv => ?_
      rw [eL] at hcv
      rcases among_app _ ht hcv with z | z
      · obtain ⟨c0, e1, e2⟩ := ha p' cv z
        exact ⟨c0, e1, kB _ _ e2⟩
      · exact ⟨c', z, upd_same⟩
    · exact ⟨(upd_ne e).trans h1, h2, g, (upd_ne e).trans ((upd_ne (nP hn h')).trans h3), h4.mono kB fun _ _ z => z⟩
theorem Wd.tab_le {W : Wd} {M : Mh} {c' : Addr} {q : Str} {H' : Hp} (w : W.Ok K M) (hc : W.H c' = none) : W.Le ⟨H', upd W.B c' (CodeO c' q), W.ι, W.P⟩ := ⟨updk (w.bnone hc), ⟨[], by simp⟩, rfl⟩
/-- the table, live -/
theorem tab_live {W : Wd} {M : Mh} {m0 : Nat} {P0 : Addr} {q : Str} (w : W.Ok K M) (hM : M[m0]? = some (.tab P0 q)) : Live W M m0 P0 (.tab P0 q) ∧ ∃ ps : Array Value, W.H P0 = some (.tbl ps) ∧ TriplesOk ps.toList ∧ ∀ (pos : Pos) (cv : Value), codeAmong pos ps.toList = some cv → ∃ c, cv = .ref c ∧ W.B c = some (CodeO c q) := by
  have hl : m0 < W.ι.length := by
    rw [w.len]
    exact (List.getElem?_eq_some_iff.mp hM).1
  have lv : Live W M m0 W.ι[m0] (.tab P0 q) := ⟨List.getElem?_eq_getElem hl, hM, fun z => by cases z⟩
  obtain ⟨_, _, o, ho, ro⟩ := w.live _ _ _ lv
  generalize W.ι[m0] = a at lv ho ro
  cases ro with
  | tab h1 h2 => exact ⟨lv, _, ho, h1, h2⟩
open Classical in
noncomputable def eLam (m0 : Nat) (P0 : Addr) (q : Str) (n : Nat) (G : LamG) (is : List Nat) (fb : EXQ) : EF := fun δ M =>
  if M[m0]? = some (.tab P0 q) then (match capGet δ is with
    | some ds => if h : ∃ r, ∀ (f c : Addr) (vs : List V), fnF n (G f c q vs ds fun M' => fb (capEnv δ.length is ds) M') [.lam f c q vs ds] M = some r then some (Classical.choose h) else none
    | none => none) else none
theorem eLam_to {m0 : Nat} {P0 : Addr} {q : Str} {n : Nat} {G : LamG} {is : List Nat} {fb : EXQ} {δ : Env} {M : Mh} {r : D × Mh} (e : eLam m0 P0 q n G is fb δ M = some r) : M[m0]? = some (.tab P0 q) ∧ ∃ ds, capGet δ is = some ds ∧ ∀ (f c : Addr) (vs : List V), fnF n (G f c q vs ds fun M' => fb (capEnv δ.length is ds) M') [.lam f c q vs ds] M = some r := by
  unfold eLam at e
  split at e
  · rename_i hM
    split at e
    · rename_i ds hc
      split at e
      · rename_i hx
        cases e
        exact ⟨hM, ds, hc, Classical.choose_spec hx⟩
      · cases e
    · cases e
  · cases e
theorem DE.lam (c : Ctx X P w K mg base k) {x a q : Str} {kf kb n m0 : Nat} {G : LamG} {is : List Nat} {fb : EXQ} {cA P0 : Addr} {ns : List Str} {params : Arguments} {body : Expr} {scope : Scope} {p lpos pos : Pos} {vs : List V} (L : LkL P w K mg base x kf a n G) (hk : kf + 1 ≤ k) (hkb : kb + 1 ≤ kf)
    (TB : TabB base mg cA P0) (hcode : ∀ i, (X i).env.code = .ref cA) (hq : ∀ i, (X i).env.qual ++ "<lambda>" = q) (LS : ∀ i, LamS2 ns (X i).N (X i).env.scope scope) {nd : Nat} (LB : LamB params body scope ns nd) (hd : ∀ i, DfIs (X i) params vs) (hnd : vs.length = nd)
    (hb : ∀ E : XK, Ctx (lamF X scope (kb := kb) E) P w K mg base kb → (∀ j, Takes (lamF X scope (kb := kb) E j) (fun c d _ H => E c d H)) → DEQ (lamF X scope (kb := kb) E) K mg (fun c d _ H => E c d H) body fb)
    (hst : ∀ i, (X i).stack = (X i).env :: (X i).outer := by intro _; rfl) (hg : ∀ i, Gl (X i) x := by intro _; rfl) : DE X K (.Call (.Name x p) [.Lambda params body scope lpos] [] pos) (eLam m0 P0 q n G is fb) := by
  refine ⟨fun σ H Q => ∃ W M δ d M', W.H = H ∧ W.Ok K M ∧ Slots K W σ δ ∧ eLam m0 P0 q n G is fb δ M = some (d, M') ∧ VR K W d M' Q, fun i => ⟨fun pins s σ H Q J h => ?_⟩, fun σ W δ M d M' Q w s e q => ⟨W, M, δ, d, M', rfl, w, s, e, q⟩⟩
  obtain ⟨W, M, δ, d, M', rfl, wOk, sl, ev, qv⟩ := h
  obtain ⟨hM, ds, hcap, hrun⟩ := eLam_to ev
  obtain ⟨lv0, ps, hP, ht, ha⟩ := tab_live wOk hM
  obtain ⟨g, oc, od, pg, bg, sg, dV, kV, doc, pm, an, cdv, ct, osl, Ng, hNl, hm, hkp, lk, hcd, hbn, Sg, hN0, hva, hda, hcda, hxd, hG⟩ := L.go
  have cK := c.K i
  have cmg := c.mg i
  have cb := c.base i
  have cp := c.prog i
  have cw := c.wd i
  have room := c.room i
  have grd := c.grd i
  refine wpAny_Call_Name_kw (ld_glob J (hg i) (by rw [cmg]; exact hm) ?_ hxd)
  refine PySem.W.callWith_K (h₀ := (X i).base) J.ok.mod.kin (by rw [cK]; exact hkp) ?_ (by rfl) (by rfl)
  show wpAny _ _ (spliced ((false, eval (.Lambda params body scope lpos) (X i).env) :: backTo pos (starEach [] (X i).env))) _ _ s
  refine Calls.spliced_cons (lam_make (q := q) (ps := ps) (c := cA) (P := P0) J (by rw [cb, cmg]; exact TB) (hcode i) (hq i) hP ht (fun p' cv hcv => ?_) ((LS i).has J.ok) (hd i) fun us f c' pm' ctv dv H1 s' hus I1 nc hf hdf hdt hfn hfr => ?_)
  · obtain ⟨c0, e1, e2⟩ := ha p' cv hcv
    exact ⟨c0, e1, wOk.sub _ _ e2⟩
  refine Calls.spliced_nil ⟨I1.kIn, ?_⟩
  -- the world behind the making
  have hW1 : ∃ W1 : Wd, W1.H = H1 ∧ W.Le W1 ∧ W1.Ok K M ∧ W1.B c' = some (CodeO c' q) := by
    rcases nc with ⟨e1, e2, e3⟩ | ⟨e1, e2, e3⟩
    · obtain ⟨c0, z1, z2⟩ := ha _ _ e3
      cases z1
      exact ⟨W, e1.symm, .refl W, wOk, z2⟩
    · exact ⟨⟨H1, upd W.B c' (CodeO c' q), W.ι, W.P⟩, rfl, Wd.tab_le wOk e1, by rw [e3]; exact Wd.tab_ok wOk lv0 ht ha e1 e2, upd_same⟩
  obtain ⟨W1, rfl, l1, w1, b1⟩ := hW1
  obtain ⟨vs1, rcap, scap⟩ := cap_slots (sl.le l1) hcap
  have hrn := hrun f c' vs1
  have q1 := qv.le l1
  have rc : codeAny (model (X i).prog (X i).w) (X i).A (.call (.ref g) ⟨[.ref f], []⟩) (CR C8.CX0 (X i).stack (X i).prog (X i).w W1.H s' Q C8.E0) s' := by
    have KX : (X i).K.lookup g = some ⟨oc, od, .func (PySem.W.fnOf x x pg bg sg dV kV doc pm an cdv ct), osl⟩ := by rw [cK]; exact lk
    refine run_ofS (N := Ng) (ps := [a]) (us := [.ref f]) (vs := [.ref f]) KX (by rw [cK]; exact hcd) Sg (room.mono hk) I1.env0 (by rw [← cK] at hbn; exact hbn s' [.ref f] I1.kIn rfl) (.cons rfl .nil) rfl fun hr' => ?_
    -- the call of what it got
    have hj : DeedJ (bodyU (X i).prog (X i).w (X i).K (X i).mg (X i).base Ng (k := kf) (qual := x) (scope := sg) (f := g) ⟨cdv, (X i).A, (X i).stack, s', W1.H, hr', grd⟩) (X i).K (X i).mg a (qDeed f c' q vs1 ds fun M' => fb (capEnv δ.length is ds) M') := by
      intro S htk p1 p2
      have hbX : ∀ E : XK, DEQ (lamF X scope (kb := kb) E) K mg (fun c d _ H => E c d H) body fb := fun E => hb E (lamF_ctx c scope E) (lamF_takes scope E)
      let tB : XK → TE := fun E => Classical.choose (hbX E).go
      have pB : ∀ E j, PE (lamF X scope (kb := kb) E j) body (tB E) := fun E => (Classical.choose_spec (hbX E).go).1
      have rB : ∀ E : XK, ERQ K mg (fun c d _ H => E c d H) (tB E) fb := fun E => (Classical.choose_spec (hbX E).go).2
      refine ⟨fun σZ HZ Q => σZ[0]? = some (some (.ref f)) ∧ HZ c' = some (CodeO c' q) ∧ tB (fun c d H' => S c d σZ H') σ HZ Q, fun jj => ?_, fun σZ WZ δZ MZ o QZ wz sz ez pz => ?_⟩
      · obtain ⟨⟨uu, pn, xe⟩, tk, po⟩ := jj
        exact pe_act3 (CXg := CX0) (Eg := E0) (Ng := Ng) (i := 0) (n := nd) I1 (LS i) (hq i) hf hfn hfr hdf hdt LB ((Vals.length hus).symm.trans hnd) tk (hr'.mono hkb) (fun E A outer s H r2 gg => pB E ⟨i, A, outer, s, H, f, c', r2, gg.trans grd⟩) hN0 hva hda hcda
      · unfold qDeed at ez
        split at ez
        · rename_i h0
          obtain ⟨v, e1, e2⟩ := sz.at_ 0 _ h0
          cases e2 with
          | lam hB hr =>
            refine ⟨e1, wz.sub _ _ hB, ?_⟩
            rw [cK] at wz hr pz
            rw [cmg] at pz
            refine rB (fun c d H' => S c d σZ H') σ WZ _ MZ o QZ wz ?_ ez pz
            rw [← sl.len]
            exact slots_cap scap hr
        · cases ez
    have hDB : DB (bodyU (X i).prog (X i).w (X i).K (X i).mg (X i).base Ng (k := kf) (qual := x) (scope := sg) (f := g) ⟨cdv, (X i).A, (X i).stack, s', W1.H, hr', grd⟩) (X i).K bg (G f c' q vs1 ds fun M' => fb (capEnv δ.length is ds) M') := by
      have := hG
      rw [← cp, ← cw, ← cK, ← cmg, ← cb] at this
      exact this _ _ _ _ _ _ _ hj
    obtain ⟨t, pt, rt⟩ := hDB.go
    refine ⟨t, (pt ()).nox, ?_⟩
    rw [cK] at rt
    have rL : RepL K W1.B W1.ι [.ref f] [.lam f c' q vs1 ds] := .cons (.lam b1 rcap) .nil
    have st := slots_start (N := Ng) rL
    rw [hNl] at st
    unfold fnF at hrn
    split at hrn
    · rename_i d2 M2 h2
      cases hrn
      exact rt _ W1 _ M _ _ w1 st h2 q1
    · rename_i δ2 M2 h2
      cases hrn
      exact rt _ W1 _ M _ _ w1 st h2 fun σ' W' l o s' => q1 .non W' l o .non
    · cases hrn
  refine wpAny_call (codeAny_mono rc fun r s2 hq => ?_)
  cases r with
  | error e => exact (show False from hq).elim
  | ok fl =>
    cases fl with
    | ret u => exact I1.after hq
    | next => exact False.elim hq
    | brk => exact False.elim hq
    | cont => exact False.elim hq
end
end Pl
namespace L2
open PySem PySem.Spec PyProof.Rows
end L2
namespace Pl
open PySem L2
section
variable {I : Type} {X : I → Cx} {P : Program} {w : World} {K : PySem.W.Frag} {mg : Str → Option Value} {base : Heap} {k : Nat} {S : WX}
def qE (f : EXQ) : XFQ := fun δ M => match f δ M with
  | some (.v _ M') => some (.ok (.nx δ M'))
  | some (.ex y fs M') => some (.ex y fs δ M')
  | some (.ep y M') => some (.ep y δ M')
  | none => none
theorem DSQ.expr {e : Expr} {pos} {f : EXQ} (a : DEQ X K mg S e f) (hs : ∀ i, swapsWith e none pos.line (X i).env = pure false := by intro _; rfl) : DSQ X K mg S (.Expr e pos) (qE f) := by
  obtain ⟨ta, pa, ra⟩ := a.go
  refine ⟨tDrop ta, fun i => ps_expr (pa i) (hs i), fun σ W δ M o E w s e q => ?_⟩
  unfold qE at e
  split at e
  · rename_i d M' h1
    cases e
    exact ra σ W δ M (.v d M') _ w s h1 fun v W1 l1 w1 r1 => q σ W1 l1 w1 (s.le l1)
  · rename_i y fs M' h1
    cases e
    exact ra σ W δ M (.ex y fs M') _ w s h1 fun C W1 dx vs m l1 w1 z => q C σ W1 dx vs m l1 w1 (s.le l1) z
  · rename_i y M' h1
    cases e
    exact ra σ W δ M (.ep y M') _ w s h1 fun C W1 m l1 w1 => q C σ W1 m l1 w1 (s.le l1)
  · cases e
def qNever : XFQ := fun _ _ => none
theorem DSQ.never {s : Stmt} : DSQ X K mg S s qNever := ⟨fun _ _ _ => False, fun _ => ⟨fun _ _ _ _ _ _ h => h.elim⟩, fun _ _ _ _ _ _ _ _ e _ => by cases e⟩
def eNever : EF := fun _ _ => none
theorem DE.never {e : Expr} : DE X K e eNever := ⟨fun _ _ _ => False, fun _ => ⟨fun _ _ _ _ _ _ h => h.elim⟩, fun _ _ _ _ _ _ _ _ _ e _ => by cases e⟩
def tNever : TF := fun _ _ => none
theorem DT.never {e : Expr} : DT X K e tNever := ⟨fun _ _ _ => False, fun _ => ⟨fun _ _ _ _ _ _ h => h.elim⟩, fun _ _ _ _ _ _ _ _ _ e _ => by cases e⟩
end
end Pl
namespace L2
open PySem PySem.Spec PyProof.Rows
set_option maxHeartbeats 4000000 in
theorem meets_enumerate_new1 {v : Value} {o : Obj} {H : Heap → Prop} (B : Begins v o H) :
    Meets (Builtin.«enumerate.__new__» ⟨[.type "enumerate", v], []⟩) (fun _ R s => H s.heap ∧
      R (.ok (.ret (.ref (s.heap.push o).objs.size))) { s with heap := (s.heap.push o).push { cls := .type "enumerate", data := .fields #[.none, .bool false, .ref s.heap.objs.size, rawInt 0, .none, .none] } }) :=
  .of_wp fun prog w A R s h => by
    obtain ⟨hp, g, d, tk, os⟩ := s; obtain ⟨h1, h⟩ := h
    have hsub := sub_enumerate
    have q1 : ∀ {A' : Around} {E : Value → Shared → Prop} {Q : Value → Shared → Prop}, Q (.ref hp.objs.size) ⟨hp.push o, g, d, tk, os⟩ → wpAny (model prog w) A' (pyIter v) Q E ⟨hp, g, d, tk, os⟩ :=
      fun q => B.iter prog w _ _ ⟨hp, g, d, tk, os⟩ _ h1 q
    wp_walk using q1
    refine wpAny_stack_any fun st => wpAny_pure ?_
    split
    · rename_i c _ _ _ _ _
      cases (c == Value.type "enumerate")
      · wp_walk using q1
        exact ⟨_, rfl, h⟩
      · wp_walk using q1
        exact ⟨_, rfl, h⟩
    · wp_walk using q1
      exact ⟨_, rfl, h⟩
theorem enum_begins1 {prog : Program} {w : World} {A : Around} {E : Value → Shared → Prop} {s : Shared} {v : Value} {o : Obj} {H : Heap → Prop} {Q : Value → Shared → Prop} (B : Begins v o H) (h1 : H s.heap)
    (h : ∀ h', IsEnum h' (s.heap.objs.size + 1) s.heap.objs.size 0 .none → h'.get? s.heap.objs.size = some o → h'.objs.size = s.heap.objs.size + 2 →
      (∀ b o, s.heap.get? b = some o → h'.get? b = some o) → Q (.ref (s.heap.objs.size + 1)) { s with heap := h' }) :
    wpAny (model prog w) A (call (.type "enumerate") [v]) Q E s := by
  refine callType_new F.called_enumerate (by decide) (F.typeCall_enumerate_1 _) (F.newCall_enumerate_1 _) (fun obj => F.args_object_init_2 obj _) F.entry_enumerate_new
    (meets_enumerate_new1 B) ⟨h1, ?_⟩
  have hz : (s.heap.push o).objs.size = s.heap.objs.size + 1 := Heap.size_push ..
  show _ ∧ _
  rw [hz]
  have he : IsEnum ((s.heap.push o).push
      { cls := .type "enumerate", data := .fields #[.none, .bool false, .ref s.heap.objs.size, rawInt 0, .none, .none] }) (s.heap.objs.size + 1) s.heap.objs.size 0 .none := by
    have := Heap.get?_push_size (s.heap.push o)
      (o := { cls := .type "enumerate", data := .fields #[.none, .bool false, .ref s.heap.objs.size, rawInt 0, .none, .none] }) rfl
    rw [hz] at this; exact this
  exact ⟨⟨_, he, rfl⟩, h _ he (Heap.get?_push_of_some _ (Heap.get?_push_size _ B.free)) (by rw [Heap.size_push, hz]) fun b o x => Heap.get?_push_of_some _ (Heap.get?_push_of_some _ x)⟩
/-- the tuple at a, each item in a new pair -/
def IteT (K : PySem.W.Frag) (n : Nat) (a : Addr) : It :=
  ⟨fun i H => ∃ (xs : List V) (x : V), SqT K H a xs ∧ xs.length = n ∧ xs[i]? = some x, fun i H v H' => ∃ T x, v = .ref T ∧ H T = none ∧ H' = upd H T (.tup [.int (i : Nat), x]) ∧ ∀ xs, SqT K H a xs → xs[i]? = some x, fun i H => ∃ xs : List V, SqT K H a xs ∧ xs.length = n ∧ n ≤ i⟩
theorem turn_enumT {P : Program} {w : World} {K : PySem.W.Frag} {elts : List Expr} {kk : Nat} {tpos : Pos} {n a e it : Nat} (ne : e ≠ it) (na : a ≠ it) (nae : a ≠ e) :
    Turn P w K (.Tuple elts kk tpos) (IteT K n a) [e, it] e (fun i h => (∃ old, IsEnum h e it ((i : Nat) : Int) old) ∧ h.IsTupleIter it a i ∧ i ≤ n) where
  mem := by simp
  obj := fun i h st b hb => by
    obtain ⟨⟨old, he⟩, ⟨o, ho, hc, hd⟩, _⟩ := st
    have e' : b = e ∨ b = it := by simpa using hb
    rcases e' with z | z
    · rw [z]; exact ⟨_, he, fun v q => nomatch q⟩
    · rw [z]; exact ⟨o, ho, fun v q => by rw [hd] at q; cases q⟩
  keep := fun i h h' st k => let ⟨⟨old, he⟩, hi, hn⟩ := st; ⟨⟨old, k e (by simp) _ he⟩, hi.at fun o q => k it (by simp) o q, hn⟩
  item := by
    intro X hP hw hK hc i pins s σ H E I hf st hg
    subst hP hw hK
    obtain ⟨⟨old, he⟩, hit, hin⟩ := st
    obtain ⟨xs, x, hq, hlen, hx⟩ := hg
    obtain ⟨its, rv, p, hz⟩ := I.tuple hq
    obtain ⟨u, hu, ru⟩ := rv.get hx
    have t1 : s.heap.IsTuple a its.toArray := p
    have hel : e < s.heap.objs.size := Heap.lt_size he
    have hil : it < s.heap.objs.size := by obtain ⟨_, q, _⟩ := hit; exact Heap.lt_size q
    have D1 := Draws.tuple (prog := X.prog) (w := X.w) (A := X.A.in1) (I.ok.hd hc) it a na its.toArray
    have m1 : i < its.toArray.size := by
      have := (List.getElem?_eq_some_iff.mp hu).1
      simpa using this
    have nef : e ∉ [it, a] := by
      intro z
      rcases List.mem_cons.mp z with z | z
      · exact ne z
      · exact nae (List.mem_singleton.mp z).symm
    refine wpAny_pyNext_enum_itemD D1 he ⟨hit, t1⟩ m1 ne nef fun v1 h' tk q1 ho st' hT hsz hk => ?_
    have ev1 : v1 = u := by
      rw [show its.toArray[i]? = some u by simpa using hu] at q1
      exact (Option.some.inj q1).symm
    subst ev1
    refine ⟨_, rfl, wpAny_letOwnedTupleGo_enum (s := { s with heap := h', toks := tk + 1 }) ho fun h'' he' sb => ?_⟩
    have hT2 : h''.get? s.heap.objs.size = some { cls := .type "tuple", data := .seq #[.int i tk, v1] } := (sb.2 _ (Nat.ne_of_gt hel)).trans hT
    have new : ObjOk X.prog X.w (upd H s.heap.objs.size (.tup [.int (i : Nat), x])) h'' s.heap.objs.size (.tup [.int (i : Nat), x]) :=
      ⟨by show 2 ≤ sizeLine; decide, [.int i tk, v1], .cons ⟨_, rfl⟩ (.cons ru .nil), ⟨_, hT2, rfl, _, rfl⟩⟩
    have I1 : Inv X pins σ (upd H s.heap.objs.size (.tup [.int (i : Nat), x])) { s with heap := h'', toks := tk + 1 } :=
      I.turnedNew (ch := [e, it]) (fun b ob hb q => (sb.2 b (fun z => hb (by simp [z]))).trans (hk b ob (fun z => hb (by simp [z])) (fun z => hb (by simp [z])) q)) hf (Nat.le_refl _) new
    refine ⟨.ref s.heap.objs.size, _, I1, rfl, ⟨_, x, rfl, I.hok.fresh (Nat.le_refl _), rfl, fun ys hy => by rw [I.tuple_inj hy hq]; exact hx⟩, ⟨⟨v1, ?_⟩, st'.1.at fun o q => (sb.2 it (Ne.symm ne)).trans q, ?_⟩, fun b hb => ?_⟩
    · have e1 : ((i + 1 : Nat) : Int) = (i : Int) + 1 := by omega
      rw [e1]; exact he'
    · have := (List.getElem?_eq_some_iff.mp hx).1
      omega
    · have hb' : b < s.heap.objs.size := by
        have e' : b = e ∨ b = it := by simpa using hb
        rcases e' with z | z
        · rw [z]; exact hel
        · rw [z]; exact hil
      rw [upd_ne (Nat.ne_of_lt hb')]
      exact (hf b hb).1
  done := by
    intro X hP hw hK hc i pins s σ H E I hf st hg
    subst hP hw hK
    obtain ⟨⟨old, he⟩, hit, hin⟩ := st
    obtain ⟨xs, hq, hlen, hx⟩ := hg
    obtain ⟨its, rv, p, hz⟩ := I.tuple hq
    obtain ⟨f0, f1, f2, f3, f4, f5⟩ := hf it (by simp)
    have hl := rv.length
    have t1 : s.heap.IsTuple a its.toArray := p
    have ei : i = its.toArray.size := by rw [List.size_toArray]; omega
    have D1 := Draws.tuple (prog := X.prog) (w := X.w) (A := X.A.in1) (I.ok.hd hc) it a na its.toArray
    refine wpAny_pyNext_enum_endD D1 he ⟨by rw [← ei]; exact hit, t1⟩ fun h' eb => ⟨rfl, I.turned (t' := s.toks) (fun b o hb q => eb b o hb q) f0 f1 f3 f4 f5⟩
  self := fun A i s Q E st h => let ⟨⟨_, he⟩, _⟩ := st; wpAny_pyIter_enum he h
def iEnumT (K : PySem.W.Frag) (ta : TA) : TI := fun σ H R => ta σ H fun vs H1 => ∃ a xs, vs = [.ref a] ∧ SqT K H1 a xs ∧ R (IteT K xs.length a) H1
theorem pi_enumT {X : Cx} {e : Expr} {ta : TA} {p pos tpos : Pos} {elts : List Expr} {kk : Nat} (hg : Gl X "enumerate") (hm : X.mg "enumerate" = none) (ha : PA X [e] ta) (hs : starEach [e] X.env = [(false, eval e X.env)] := by rfl) :
    PI X (.Tuple elts kk tpos) (.Call (.Name "enumerate" p) [e] [] pos) (iEnumT X.K ta) := by
  refine ⟨fun pins s σ H R I h => ?_⟩
  refine Call_ (ld_blt I hg hm boot_enumerate (PyProof.Rows.callWith_type1 (thn (ha.run pos pins s σ H _ I h) fun us s1 ⟨vs, H1, I1, r1, q1⟩ => ?_) hs rfl))
  obtain ⟨a, xs, ex, hq, q⟩ := q1
  subst ex
  cases r1 with
  | cons r rr =>
    cases rr
    cases r
    obtain ⟨its, rv, p', hz⟩ := I1.tuple hq
    have t1 : s1.heap.IsTuple a its.toArray := p'
    obtain ⟨o1, ho1, _⟩ := id p'
    have la := Heap.lt_size ho1
    refine enum_begins1 (begins_tuple a its.toArray) t1 fun h' he hit hsz hk => wpAny_pyIter_enum he ?_
    have I2 : Inv X pins σ H1 { s1 with heap := h' } := I1.kept (t' := s1.toks) hk
    refine ⟨s1.heap.objs.size + 1, [s1.heap.objs.size + 1, s1.heap.objs.size], _, _, H1, rfl, I2, turn_enumT (n := xs.length) (a := a) (e := s1.heap.objs.size + 1) (it := s1.heap.objs.size) (Nat.succ_ne_self _) (Nat.ne_of_lt la) (Nat.ne_of_lt (Nat.lt_succ_of_lt la)), ⟨⟨.none, he⟩, ⟨_, hit, rfl, rfl⟩, Nat.zero_le _⟩, fun b hb => ?_, q⟩
    have e' : b = s1.heap.objs.size + 1 ∨ b = s1.heap.objs.size := by simpa using hb
    have hle : s1.heap.objs.size ≤ b := by
      rcases e' with z | z
      · rw [z]; exact Nat.le_add_right _ _
      · rw [z]; exact Nat.le_refl _
    exact I1.fpOk hle (I1.hok.fresh hle)
end L2
namespace Pl
open PySem L2
section
variable {I : Type} {X : I → Cx} {P : Program} {w : World} {K : PySem.W.Frag} {mg : Str → Option Value} {base : Heap} {k : Nat}
theorem wk_enumT {W0 : Wd} {a : Addr} {vs : List V} {ds : List D} (h : SqT K W0.B a vs) (r : RepL K W0.B W0.ι vs ds) : Wk K (IteT K vs.length a) W0 ((((List.range ds.length).map fun (i : Nat) => D.int i).zip ds).map fun p => .tup [p.1, p.2]) := by
  refine wk_pair (n := ds.length) (fun W M l w => ⟨fun i hi => ?_, fun i d1 d2 hi e1 e2 => ?_⟩) (by simp) (Nat.le_refl _) (by simp)
  · exact ⟨vs, sqT_mono w.sub (sqT_mono l.same h), rfl, by rw [r.len]; exact hi⟩
  · have hs : SqT K W.H a vs := sqT_mono w.sub (sqT_mono l.same h)
    obtain ⟨v, h1, h2⟩ := (r.mono l.same l.ix).get e2
    refine ⟨⟨vs, v, hs, rfl, h1⟩, fun x H' ⟨T, x2, a1, a2, a3, a4⟩ => ⟨T, _, x2, a1, a2, a3, ?_, ?_⟩⟩
    · rw [List.getElem?_map, List.getElem?_range hi] at e1
      cases e1
      exact .int _
    · have e3 := (a4 vs hs).symm.trans h1
      cases e3
      exact h2
def aEnumT (a : AF) : AF := fun δ M => match a δ M with
  | some ([.tup xs], M1) => some ((((List.range xs.length).map fun (i : Nat) => D.int i).zip xs).map fun p => .tup [p.1, p.2], M1)
  | _ => none
theorem DI.enumT (c : Ctx X P w K mg base k) (hm : mg "enumerate" = none) {e : Expr} {p pos tpos : Pos} {elts : List Expr} {kk : Nat} {a : AF} (h : DA X K [e] a) (hg : ∀ i, Gl (X i) "enumerate" := by intro _; rfl) (hs : ∀ i, starEach [e] (X i).env = [(false, eval e (X i).env)] := by intro _; rfl) :
    DI X K (.Tuple elts kk tpos) (.Call (.Name "enumerate" p) [e] [] pos) (aEnumT a) := by
  obtain ⟨t, pa, r⟩ := h.go
  refine ⟨iEnumT K t, fun i => ?_, fun σ W δ M ds M' R w s ev q => ?_⟩
  · have h := pi_enumT (X := X i) (hg i) (by rw [c.mg i]; exact hm) (pa i) (hs i) (p := p) (pos := pos) (tpos := tpos) (elts := elts) (kk := kk)
    rw [c.K i] at h
    exact h
  · unfold aEnumT at ev
    split at ev
    · rename_i xs M1 h1
      cases ev
      refine r σ W δ M _ _ _ w s h1 fun vs W1 l1 w1 r1 => ?_
      cases r1 with
      | cons r1 r2 =>
        cases r2
        cases r1 with
        | tup h1 r1 => exact ⟨_, _, rfl, sqT_mono w1.sub h1, q _ W1 l1 w1 (wk_enumT h1 r1)⟩
    · cases ev
end
end Pl
namespace Pl
open PySem PySem.Spec PyProof.Rows L2
end Pl
namespace Pl
open PySem L2 LamX
open PyProof.Rows (IntsAre AllBare)
end Pl
namespace Pl
open PySem L2
end Pl
namespace Pl
open PySem L2
section
variable {I : Type} {X : I → Cx} {P : Program} {w : World} {K : PySem.W.Frag} {mg : Str → Option Value} {base : Heap} {k : Nat}
def lcGo2 (g : GF) (t : TF) (a1 : AF) (vs1 : List Nat) (g1 : GF) (t1 : TF) (f : EF) : List D → Env → Mh → Option (List D × Mh)
  | [], _, M => some ([], M)
  | x :: xs, δ, M => match g x δ with
    | none => none
    | some δ1 => match t δ1 M with
      | some (true, M1) => (match a1 δ1 M1 with
        | some (ds1, M2) => (match lcGo g1 t1 f ds1 (wipeD δ1 vs1) M2 with
          | some (ys, M3) => (match lcGo2 g t a1 vs1 g1 t1 f xs δ M3 with
            | some (zs, M4) => some (ys ++ zs, M4)
            | none => none)
          | none => none)
        | none => none)
      | some (false, M1) => lcGo2 g t a1 vs1 g1 t1 f xs δ M1
      | none => none
def eLc2 (vs vs1 : List Nat) (a : AF) (g : GF) (t : TF) (a1 : AF) (g1 : GF) (t1 : TF) (f : EF) : EF := fun δ M => match a δ M with
  | some (ds, M1) => (match lcGo2 g t a1 vs1 g1 t1 f ds (wipeD δ vs) M1 with
    | some (ys, M2) => if ys.length ≤ sizeLine then some (.lst ys, M2) else none
    | none => none)
  | none => none
theorem lc2_er {ti ti1 : TI} {tg tg1 : TG} {tt tt1 : TT} {te : TE} {vs vs1 : List Nat} {a a1 : AF} {g g1 : GF} {t t1 : TF} {f : EF} {sl sl1 : List Nat}
    (ri : ∀ (σ : St) (W : Wd) (δ : Env) (M : Mh) (ds : List D) (M' : Mh) (R : It → Hp → Prop), W.Ok K M → Slots K W σ δ → a δ M = some (ds, M') → (∀ J W', W.Le W' → W'.Ok K M' → Wk K J W' ds → R J W'.H) → ti σ W.H R)
    (rg : GR K tg g sl) (hsl : ∀ j ∈ sl, j ∈ vs) (rt : TR K tt t)
    (ri1 : ∀ (σ : St) (W : Wd) (δ : Env) (M : Mh) (ds : List D) (M' : Mh) (R : It → Hp → Prop), W.Ok K M → Slots K W σ δ → a1 δ M = some (ds, M') → (∀ J W', W.Le W' → W'.Ok K M' → Wk K J W' ds → R J W'.H) → ti1 σ W.H R)
    (rg1 : GR K tg1 g1 sl1) (hsl1 : ∀ j ∈ sl1, j ∈ vs1) (rt1 : TR K tt1 t1) (re : ER K te f) : ER K (tLc2 ti tg tt ti1 tg1 tt1 te vs vs1) (eLc2 vs vs1 a g t a1 g1 t1 f) := fun σ W δ M d M' Q w s e q => by
  unfold eLc2 at e
  split at e
  · rename_i ds M1 h1
    split at e
    · rename_i fin M2 h2
      split at e
      · rename_i hlen
        cases e
        refine ri σ W δ M ds M1 _ w s h1 fun J W1 l1 w1 wk => fun p hp => ?_
        have P0 : W1.P p = none := w1.pnone hp
        have B0 : W1.B p = none := w1.bnone hp
        refine ⟨fun i m H => ∃ (W' : Wd) (N : Mh) (acc : List V) (ac ys : List D), W'.H = H ∧ W1.Le (W'.mk' W'.H W1.P) ∧ W'.P = upd W1.P p (.lst acc) ∧ W'.Ok K N ∧ RepL K W'.B W'.ι acc ac ∧ i + m = ds.length ∧ lcGo2 g t a1 vs1 g1 t1 f (ds.drop i) (wipeD δ vs) N = some (ys, M') ∧ ac ++ ys = fin,
          ⟨ds.length, W1.hold p (.lst []), M1, [], [], fin, rfl, ⟨fun _ _ h => h, ⟨[], by simp [Wd.mk', Wd.hold]⟩, rfl⟩, rfl, Wd.hold_ok w1 hp, .nil, by omega, h2, rfl⟩, ?_⟩
        rintro i m H ⟨W', N, acc, ac, ys, rfl, l', hP, w', ra, em, e', ef⟩
        obtain ⟨k1, k2⟩ := wk i W' N ⟨l'.same, l'.pre⟩ w'
        cases hd : ds[i]? with
        | none =>
          have hl : ds.length ≤ i := List.getElem?_eq_none_iff.mp hd
          rw [List.drop_of_length_le hl] at e'
          cases e'
          rw [List.append_nil] at ef
          subst ef
          have u := Wd.unhold w' hP P0
          refine .inl ⟨k1 hd, q _ ⟨W'.H, upd W'.B p (.lst acc), W'.ι, W1.P⟩ (l1.trans ⟨fun b o h => ?_, l'.pre, rfl⟩) u (.lst upd_same (ra.mono (updk (w'.pin p (.lst acc) (by rw [hP, upd_same])).2) fun _ _ z => z))⟩
          have hb : b ≠ p := fun z => by
            rw [z, B0] at h
            cases h
          show upd W'.B p (.lst acc) b = some o
          rw [upd_ne hb]
          exact l'.same b o h
        | some x0 =>
          obtain ⟨hgo, hy⟩ := k2 x0 hd
          have hl : i < ds.length := (List.getElem?_eq_some_iff.mp hd).1
          have hdr : ds.drop i = x0 :: ds.drop (i + 1) := by
            rw [List.drop_eq_getElem_cons hl]
            congr 1
            exact Option.some.inj ((List.getElem?_eq_getElem hl).symm.trans hd)
          rw [hdr] at e'
          unfold lcGo2 at e'
          refine .inr ⟨hgo, fun H2 => ∃ (W2 : Wd) (N2 : Mh) (acc2 : List V) (ac2 ys2 : List D), W2.H = H2 ∧ W1.Le (W2.mk' W2.H W1.P) ∧ W2.P = upd W1.P p (.lst acc2) ∧ W2.Ok K N2 ∧ RepL K W2.B W2.ι acc2 ac2 ∧ lcGo2 g t a1 vs1 g1 t1 f (ds.drop (i + 1)) (wipeD δ vs) N2 = some (ys2, M') ∧ ac2 ++ ys2 = fin,
            fun H2 ⟨W2, N2, acc2, ac2, ys2, a1, a2, a3, a4, a5, a6, a7⟩ => ⟨m - 1, by omega, W2, N2, acc2, ac2, ys2, a1, a2, a3, a4, a5, by omega, a6, a7⟩, fun x H' y => ?_⟩
          obtain ⟨W3, rfl, l3, w3, r3⟩ := hy x H' y
          have sw : Slots K W3 (L2.wipe σ vs) (wipeD δ vs) := ((((s.le l1).wipe vs).le l').cong (W' := W') rfl rfl).le l3
          have up : ∀ {W4 : Wd}, W'.Le W4 → W1.Le (W4.mk' W4.H W1.P) := fun {W4} l => l'.trans ⟨l.same, l.pre, rfl⟩
          split at e'
          · cases e'
          · rename_i δ1 h3
            refine rg x x0 _ W3 _ δ1 N _ w3 sw r3 h3 fun σ3 s3 hw => ⟨(hw vs hsl).trans (wipe_twice σ vs), ?_⟩
            split at e'
            · rename_i N1 h4
              refine rt σ3 W3 δ1 N _ N1 _ w3 s3 h4 fun W4 l4 w4 => ifT ?_
              split at e'
              · rename_i ds1 N2 h5
                split at e'
                · rename_i ys1 N3 h6
                  split at e'
                  · rename_i zs N4 h7
                    cases e'
                    -- the second for
                    refine ri1 σ3 W4 δ1 N1 ds1 N2 _ w4 (s3.le l4) h5 fun J1 W5 l5 w5 wk1 => ?_
                    have l35 : W'.Le W5 := (l3.trans l4).trans l5
                    refine ⟨fun j k H => ∃ (W6 : Wd) (N6 : Mh) (acc6 : List V) (ac6 ys6 : List D), W6.H = H ∧ W5.Le (W6.mk' W6.H W5.P) ∧ W6.P = upd W1.P p (.lst acc6) ∧ W6.Ok K N6 ∧ RepL K W6.B W6.ι acc6 ac6 ∧ j + k = ds1.length ∧ lcGo g1 t1 f (ds1.drop j) (wipeD δ1 vs1) N6 = some (ys6, N3) ∧ ac6 ++ (ys6 ++ zs) = fin,
                      ⟨ds1.length, W5, N2, acc, ac, ys1, rfl, ⟨fun _ _ h => h, ⟨[], by simp [Wd.mk']⟩, rfl⟩, l35.pp.trans hP, w5, ra.le l35, by omega, h6, ef⟩, ?_⟩
                    rintro j k H ⟨W6, N6, acc6, ac6, ys6, rfl, l6, hP6, w6, ra6, ek, e6, ef6⟩
                    obtain ⟨k3, k4⟩ := wk1 j W6 N6 ⟨l6.same, l6.pre⟩ w6
                    have l16 : W1.Le (W6.mk' W6.H W1.P) := (l'.trans (show (W'.mk' W'.H W1.P).Le (W5.mk' W5.H W1.P) from ⟨l35.same, l35.pre, rfl⟩)).trans (show (W5.mk' W5.H W1.P).Le (W6.mk' W6.H W1.P) from ⟨l6.same, l6.pre, rfl⟩)
                    cases hd1 : ds1[j]? with
                    | none =>
                      have hl1 : ds1.length ≤ j := List.getElem?_eq_none_iff.mp hd1
                      rw [List.drop_of_length_le hl1] at e6
                      cases e6
                      rw [List.nil_append] at ef6
                      exact .inl ⟨k3 hd1, W6, _, acc6, ac6, zs, rfl, l16, hP6, w6, ra6, h7, ef6⟩
                    | some x1 =>
                      obtain ⟨hgo1, hy1⟩ := k4 x1 hd1
                      have hl1 : j < ds1.length := (List.getElem?_eq_some_iff.mp hd1).1
                      have hdr1 : ds1.drop j = x1 :: ds1.drop (j + 1) := by
                        rw [List.drop_eq_getElem_cons hl1]
                        congr 1
                        exact Option.some.inj ((List.getElem?_eq_getElem hl1).symm.trans hd1)
                      rw [hdr1] at e6
                      unfold lcGo at e6
                      refine .inr ⟨hgo1, fun H2 => ∃ (W7 : Wd) (N7 : Mh) (acc7 : List V) (ac7 ys7 : List D), W7.H = H2 ∧ W5.Le (W7.mk' W7.H W5.P) ∧ W7.P = upd W1.P p (.lst acc7) ∧ W7.Ok K N7 ∧ RepL K W7.B W7.ι acc7 ac7 ∧ lcGo g1 t1 f (ds1.drop (j + 1)) (wipeD δ1 vs1) N7 = some (ys7, N3) ∧ ac7 ++ (ys7 ++ zs) = fin,
                        fun H2 ⟨W7, N7, acc7, ac7, ys7, b1, b2, b3, b4, b5, b6, b7⟩ => ⟨k - 1, by omega, W7, N7, acc7, ac7, ys7, b1, b2, b3, b4, b5, by omega, b6, b7⟩, fun x H' y => ?_⟩
                      obtain ⟨W8, rfl, l8, w8, r8⟩ := hy1 x H' y
                      have sw8 : Slots K W8 (L2.wipe σ3 vs1) (wipeD δ1 vs1) := (((((s3.le l4).le l5).wipe vs1).le l6).cong (W' := W6) rfl rfl).le l8
                      have up8 : ∀ {W9 : Wd}, W6.Le W9 → W5.Le (W9.mk' W9.H W5.P) := fun {W9} l => l6.trans ⟨l.same, l.pre, rfl⟩
                      split at e6
                      · cases e6
                      · rename_i δ2 h8
                        refine rg1 x x1 _ W8 _ δ2 N6 _ w8 sw8 r8 h8 fun σ4 s4 hw1 => ⟨(hw1 vs1 hsl1).trans (wipe_twice σ3 vs1), ?_⟩
                        split at e6
                        · rename_i N7 h9
                          refine rt1 σ4 W8 δ2 N6 _ N7 _ w8 s4 h9 fun W9 l9 w9 => ifT ?_
                          split at e6
                          · rename_i y0 N8 h10
                            split at e6
                            · rename_i ys8 N9 h11
                              cases e6
                              refine re σ4 W9 δ2 N7 y0 N8 _ w9 (s4.le l9) h10 fun v W10 l10 w10 r10 => ?_
                              have l610 : W6.Le W10 := (l8.trans l9).trans l10
                              have p10 : W10.P = upd W1.P p (.lst acc6) := l610.pp.trans hP6
                              have p10' : W10.P p = some (.lst acc6) := by rw [p10, upd_same]
                              have ra10 := ra6.le l610
                              refine ⟨acc6, (w10.pin p _ p10').1, ?_, ⟨upd W10.H p (.lst (acc6 ++ [v])), W10.B, W10.ι, upd W10.P p (.lst (acc6 ++ [v]))⟩, N8, acc6 ++ [v], ac6 ++ [y0], ys8, rfl, l6.trans ⟨l610.same, l610.pre, rfl⟩, ?_, Wd.hold_put w10 p10', ra10.append (.cons r10 .nil), h11, ?_⟩
                              · have := ra6.len
                                have h12 := congrArg List.length ef6
                                rw [List.length_append, List.length_append, List.length_cons] at h12
                                omega
                              · show upd W10.P p _ = _
                                rw [p10, upd_upd]
                              · rw [List.append_assoc]
                                exact ef6
                            · cases e6
                          · cases e6
                        · rename_i N7 h9
                          refine rt1 σ4 W8 δ2 N6 _ N7 _ w8 s4 h9 fun W9 l9 w9 => ifF ?_
                          have l69 : W6.Le W9 := l8.trans l9
                          exact ⟨W9, N7, acc6, ac6, ys6, rfl, up8 l69, l69.pp.trans hP6, w9, ra6.le l69, e6, ef6⟩
                        · cases e6
                  · cases e'
                · cases e'
              · cases e'
            · rename_i N1 h4
              refine rt σ3 W3 δ1 N _ N1 _ w3 s3 h4 fun W4 l4 w4 => ifF ?_
              have l34 : W'.Le W4 := l3.trans l4
              exact ⟨W4, N1, acc, ac, ys, rfl, up l34, l34.pp.trans hP, w4, ra.le l34, e', ef⟩
            · cases e'
      · cases e
    · cases e
  · cases e
theorem DE.lc2 (c : Ctx X P w K mg base k) {elt tg iter tg1 iter1 : Expr} {ifs ifs1 : List Expr} {scope : Scope} {own : List (Str × Nat)} {vs1 : List Nat} {pos} {a a1 : AF} {g g1 : GF} {t t1 : TF} {f : EF} {sl sl1 : List Nat} (hN : ∀ i, (X i).N.Nodup) (hi : DI X K tg iter a) (ok : ∀ i, BlkOk (X i).N (X i).env.scope scope own)
    (hg : DG (blkF X scope) K tg g sl) (hsl : ∀ j ∈ sl, j ∈ own.map (·.2)) (ht : DTs (blkF X scope) K ifs t) (hi1 : DI (blkF X scope) K tg1 iter1 a1) (hg1 : DG (blkF X scope) K tg1 g1 sl1) (hsl1 : ∀ j ∈ sl1, j ∈ vs1) (hv : ∀ i ∈ vs1, i ∈ own.map (·.2)) (ht1 : DTs (blkF X scope) K ifs1 t1) (he : DE (blkF X scope) K elt f)
    (hs : ∀ i x, foldedSetIterable iter (X i).env x = pure x := by intro _ _; rfl) (hs1 : ∀ env x, foldedSetIterable iter1 env x = pure x := by intro _ _; rfl) :
    DE X K (.ListComp elt [⟨tg, iter, ifs, 0⟩, ⟨tg1, iter1, ifs1, 0⟩] scope pos) (eLc2 (own.map (·.2)) vs1 a g t a1 g1 t1 f) := by
  obtain ⟨ti, pi, ri⟩ := hi.go
  obtain ⟨tg', pg, rg⟩ := hg.go
  obtain ⟨tt, pt, rt⟩ := ht.go
  obtain ⟨ti1, pi1, ri1⟩ := hi1.go
  obtain ⟨tg1', pg1, rg1⟩ := hg1.go
  obtain ⟨tt1, pt1, rt1⟩ := ht1.go
  obtain ⟨te, pe, re⟩ := he.go
  refine ⟨tLc2 ti tg' tt ti1 tg1' tt1 te (own.map (·.2)) vs1, fun i => pe_lc2 (c.calm i) (hN i) (pi i) (ok i) hv (fun s H C cl fp => pg (i, s, H, C, cl, fp)) (fun s H C cl fp => pt (i, s, H, C, cl, fp)) (fun s H C cl fp => pi1 (i, s, H, C, cl, fp)) (fun s H C cl fp => pg1 (i, s, H, C, cl, fp)) (fun s H C cl fp => pt1 (i, s, H, C, cl, fp)) (fun s H C cl fp => pe (i, s, H, C, cl, fp)) (hs i) hs1, fun σ W δ M d M' Q w s e q => ?_⟩
  exact lc2_er ri rg hsl rt ri1 rg1 hsl1 rt1 re σ W δ M d M' Q w s e q
end
end Pl
namespace Pl
open PySem L2
section
variable {I : Type} {X : I → Cx} {P : Program} {w : World} {K : PySem.W.Frag} {mg : Str → Option Value} {base : Heap} {k : Nat}
def gExt : D → List D → Mh → Option (D × Mh) := fun o ds M => match o, ds with
  | .ref n, [d] => (match M[n]?, lstT M d with
    | some (.lst xs), some ys => if xs.length + ys.length ≤ sizeLine then some (.non, M.set n (.lst (xs ++ ys))) else none
    | _, _ => none)
  | _, _ => none
theorem mExt : MetF X K "list.extend" gExt := ⟨_, fun i => mt_extend, fun W M x o vs ds z M' Q w rx rv ev q => by
  unfold gExt at ev
  split at ev
  · split at ev
    · rename_i xs ys hm hy
      split at ev
      · rename_i hl
        cases ev
        obtain ⟨p, us, rfl, lv, hp, ru⟩ := lst_live w rx hm
        cases rv with
        | cons ry r3 =>
          cases r3
          obtain ⟨b, zs, rfl, hb, rz⟩ := lstT_rep w ry hy
          refine ⟨p, b, us, zs, rfl, rfl, hp, hb, by rw [ru.len, rz.len]; exact hl, ?_⟩
          exact q .non (W.put p _) Wd.put_le (Wd.put_ok w lv (.lst (ru.append rz))) .non
      · cases ev
    · cases ev
  · cases ev⟩
end
end Pl
namespace Pl
open PySem L2
section
variable {I : Type} {X : I → Cx} {P : Program} {w : World} {K : PySem.W.Frag} {mg : Str → Option Value} {base : Heap} {k : Nat}
/-- list * int, as a list that changes on -/
def gMulN : O2 := fun a b M => match b with
  | .int j => (match lstT M a with
    | some xs => if -(2 ^ 63) ≤ j ∧ j < 2 ^ 63 ∧ xs.length * j.toNat ≤ sizeLine then some (.ref M.length, M ++ [.lst (List.replicate j.toNat xs).flatten]) else none
    | none => none)
  | _ => none
theorem opMulN : OpF X K (binaryOp .Mult) gMulN := ⟨_, fun _ => op_rep, fun W M x y a b z M' Q w ra rb e q => by
  unfold gMulN at e
  split at e
  · split at e
    · rename_i xs h1
      split at e
      · rename_i hc
        cases rb
        cases e
        obtain ⟨l, vs, rfl, hl, r1⟩ := lstT_rep w ra h1
        refine ⟨l, _, vs, rfl, rfl, hl, hc.1, hc.2.1, by rw [r1.len]; exact hc.2.2, fun p hp => ?_⟩
        obtain ⟨l2, w2, r3⟩ := new_lst w hp (r1.rep _)
        exact q _ _ l2 w2 r3
      · cases e
    · cases e
  · cases e⟩
/-- o[i] = v, a list that changes -/
def gLput : D → D → D → Mh → Option Mh := fun o i v M => match o, i with
  | .ref n, .int j => (match M[n]? with
    | some (.lst xs) => (match ixN xs.length j with
      | some m => some (M.set n (.lst (xs.set m v)))
      | none => none)
    | _ => none)
  | _, _ => none
def sLput (f g h : EF) : SF := fun δ M => match h δ M with
  | some (v, M1) => (match f δ M1 with
    | some (o, M2) => (match g δ M2 with
      | some (i, M3) => (match gLput o i v M3 with
        | some M4 => some (.nx δ M4)
        | none => none)
      | none => none)
    | none => none)
  | none => none
theorem DS.lput {o i v : Expr} {pos pos'} {f g h : EF} (ho : DE X K o f) (hi : DE X K i g) (hv : DE X K v h) (hs : ∀ j, swapsWithSole [.Subscript o i pos'] v pos.line (X j).env = pure false := by intro _; rfl) (hw : ∀ j, swappedStores [.Subscript o i pos'] v (X j).env = pure none := by intro _; rfl)
    (h1 : ∀ j, (assignEach [.Subscript o i pos'] (X j).env).map (·.2) = [assign (.Subscript o i pos') (X j).env] := by intro _; rfl)
    (ha : ∀ j u, assign (.Subscript o i pos') (X j).env u = (do
      let ov ← holding [u] (eval o (X j).env)
      let iv ← holding [u, ov] (eval i (X j).env)
      standAt pos'
      holding [u, ov, iv] (setItem ov iv u)
      release [u, ov, iv] []) := by intro _ _; rfl) : DS X K (.Assign [.Subscript o i pos'] v pos) (sLput f g h) := by
  obtain ⟨to, po, ro⟩ := ho.go
  obtain ⟨ti, pi, ri⟩ := hi.go
  obtain ⟨tv, pv', rv⟩ := hv.go
  refine ⟨tAsg tv (gSub to ti rSetL), fun j => ps_asg (pv' j) (pg_sub (po j) (pi j) set_list (ha j)) (hs j) (hw j) (h1 j), fun σ W δ M out E w s e q => ?_⟩
  unfold sLput at e
  split at e
  · rename_i vd M1 h1
    split at e
    · rename_i od M2 h2
      split at e
      · rename_i id M3 h3
        split at e
        · rename_i M4 h4
          cases e
          refine rv σ W δ M vd M1 _ w s h1 fun v W1 l1 w1 r1 => ?_
          refine ro σ W1 δ M1 od M2 _ w1 (s.le l1) h2 fun x W2 l2 w2 r2 => ?_
          refine ri σ W2 δ M2 id M3 _ w2 (s.le (l1.trans l2)) h3 fun y W3 l3 w3 r3 => ?_
          unfold gLput at h4
          split at h4
          · rename_i n j
            split at h4
            · rename_i xs h5
              split at h4
              · rename_i m h6
                cases h4
                obtain ⟨p, us, rfl, lv, hp, ru⟩ := lst_live w3 (r2.le l3) h5
                cases r3
                refine ⟨p, us, j, m, rfl, rfl, hp, by rw [ru.len]; exact h6, ?_⟩
                exact q σ (W3.put p (.lst (us.set m v))) (((l1.trans l2).trans l3).trans Wd.put_le) (Wd.put_ok w3 lv (.lst (RepL.set (r1.le (l2.trans l3)) m ru))) ((s.le ((l1.trans l2).trans l3)).le Wd.put_le)
              · cases h4
            · cases h4
          · cases h4
        · cases e
      · cases e
    · cases e
  · cases e
end
end Pl
namespace Pl
open PySem L2
end Pl
namespace L2
open PySem PySem.Spec PyProof.Rows
end L2
namespace Pl
open PySem L2
end Pl
namespace Pl
open PySem PySem.Spec PyProof.Rows L2 LamX
section
variable {I : Type} {X : I → Cx} {P : Program} {w : World} {K : PySem.W.Frag} {mg : Str → Option Value} {base : Heap} {k : Nat} {S : WX}
/-- list + list, the script among them -/
def rCatQ (K : PySem.W.Frag) : R2 := fun x y H Q => ∃ l b xs zs, x = .ref l ∧ y = .ref b ∧ SqL K H l xs ∧ SqL K H b zs ∧ xs.length + zs.length ≤ sizeLine ∧ ∀ p, H p = none → Q (.ref p) (upd H p (.lst (xs ++ zs)))
theorem op_catQ {Y : Cx} : OpR Y (binaryOp .Add) (rCatQ Y.K) := by
  intro pins s σ H x y v u Q J rx ry h
  obtain ⟨l, b, xs, zs, rfl, rfl, hH, hB, hz, q⟩ := h
  cases rx
  cases ry
  obtain ⟨its, r, p1, _⟩ := J.list hH
  obtain ⟨its2, r2, p2, _⟩ := J.list hB
  obtain ⟨⟨cls, dd, data, sl⟩, n, ho, hc, _, hd⟩ := p1
  obtain ⟨⟨cls2, dd2, data2, sl2⟩, n2, ho2, hc2, _, hd2⟩ := p2
  simp only at hc hd hc2 hd2
  subst hc hd hc2 hd2
  have l1 := r.length
  have l2 := r2.length
  refine concat_meets ⟨_, ho, rfl⟩ ⟨_, ho2, rfl⟩ noFill_list_add seq_list_add PySem.F.slot_list_add PySem.F.entry_list_add (PySem.F.args_list_add_2 _ _) (list_addW l b its.toArray its2.toArray n n2 dd dd2 sl sl2 (by rw [List.size_toArray, List.size_toArray]; omega)) ⟨ho, ho2, ?_⟩
  have ea : its.toArray ++ its2.toArray = (its ++ its2).toArray := by simp
  rw [ea]
  exact ⟨.ref _, _, J.lnew (t' := s.toks) (r.append r2) (by rw [List.length_append]; omega), rfl, q _ J.fresh⟩
def gAddQ : O2 := fun a b M => match lstOf M a, lstOf M b with
  | some xs, some ys => if xs.length + ys.length ≤ sizeLine then some (.lst (xs ++ ys), M) else none
  | _, _ => none
theorem opAddQ (c : Ctx X P w K mg base k) : OpF X K (binaryOp .Add) gAddQ := ⟨rCatQ K, fun i => by
  have h := op_catQ (Y := X i)
  rw [c.K i] at h
  exact h, fun W M x y a b z M' Q w ra rb e q => by
  unfold gAddQ at e
  split at e
  · rename_i xs ys h1 h2
    split at e
    · rename_i hl
      cases e
      obtain ⟨l, vs, rfl, s1, r1⟩ := lstOf_rep w ra h1
      obtain ⟨m, us, rfl, s2, r2⟩ := lstOf_rep w rb h2
      refine ⟨l, m, vs, us, rfl, rfl, s1, s2, by rw [r1.len, r2.len]; exact hl, fun p hp => ?_⟩
      obtain ⟨l2, w2, r3⟩ := lay_lst w hp (r1.append r2)
      exact q _ _ l2 w2 r3
    · cases e
  · cases e⟩
end
end Pl
namespace Pl
open PySem L2 LamX
open PyProof.Rows (IntsAre AllBare)
end Pl
namespace Pl
open PySem L2
open PyProof.Rows (IsTup)
section
variable {prog : Program} {w : World} {A : Around} {E : Value → Shared → Prop}
abbrev kI (prog : Program) (w : World) : HeapKind prog w (List Int) := tupleKind (intKind prog w)
theorem is_ext {h h' : Heap} {k : List Int} {b : Addr} (x : (kI prog w).is h k b) (e : ∀ o, h.get? b = some o → h'.get? b = some o) : (kI prog w).is h' k b := by
  obtain ⟨o, its, n, h1, h2, h3, h4⟩ := x
  exact ⟨o, its, n, e o h1, h2, h3, h4⟩
theorem atKey_none {acc : List (List Int × Addr × Value)} {k : List Int} (h : k ∉ acc.map (·.1)) : atKey acc k = none := by
  unfold atKey
  rw [List.find?_eq_none.mpr fun x hx e => h (List.mem_map.mpr ⟨x, hx, by simpa using e⟩)]
  rfl
/-- keys all unlike: the pairs as they come -/
theorem all_new : ∀ (ps acc : List (List Int × Addr × Value)), ((acc ++ ps).map (·.1)).Nodup → storedAllH acc ps = acc ++ ps
  | [], acc, _ => (List.append_nil acc).symm
  | p :: ps, acc, h => by
    have nk : atKey acc p.1 = none := atKey_none fun hm => by
      rw [List.map_append, List.map_cons] at h
      exact (List.nodup_append.mp h).2.2 p.1 hm p.1 List.mem_cons_self rfl
    have e : (acc ++ [(p.1, p.2.1, p.2.2)]) ++ ps = acc ++ p :: ps := by rw [List.append_assoc]; rfl
    show storedAllH (storedH acc p.1 p.2.1 p.2.2) ps = _
    rw [storedH_new nk, all_new ps _ (by rw [e]; exact h), e]
/-- where the pairs stand -/
def pairAddr (items : Array Value) (j : Nat) : Addr := match items[j]? with
  | some (.ref c) => c
  | _ => 0
theorem call_dict_cells {s : Shared} {l : Addr} {ol : Obj} {items : Array Value} {n : Nat} {prs : List (List Int × Addr × Value)} {Q : Value → Shared → Prop} (hu : A.units + 2 < cLine) (hh : A.handled = none) (hl : s.heap.get? l = some ol) (hc : ol.cls = .type "list") (hd : ol.dict = none)
    (hdat : ol.data = .seq items n) (hsz : items.size = prs.length) (hln : prs.length ≤ sizeLine) (hnd : (prs.map (·.1)).Nodup)
    (ht : ∀ (j : Nat) (q : List Int × Addr × Value), prs[j]? = some q → ∃ c : Addr, items[j]? = some (.ref c) ∧ IsTup s.heap c #[.ref q.2.1, q.2.2])
    (hk : ∀ x ∈ prs, (kI prog w).is s.heap x.1 x.2.1)
    (h : ∀ h' tk, h'.DictOfH (kI prog w) s.heap.objs.size prs → (∀ b o, s.heap.get? b = some o → h'.get? b = some o) → Q (.ref s.heap.objs.size) { s with heap := h', toks := tk }) :
    wpAny (model prog w) A (call (.type "dict") [.ref l]) Q E s := by
  have len : (prs.map fun q => (Value.ref q.2.1, q.2.2)).length = prs.length := List.length_map _
  refine call_dict_pairsH (knd := kI prog w) (ps := prs) (PairArg.list l items (pairAddr items) (prs.map fun q => (Value.ref q.2.1, q.2.2))) hh (show A.units + 1 + 1 < cLine from hu) ⟨⟨ol, n, hl, hc, hd, hdat⟩, hsz.trans len.symm, fun j k v e => ?_⟩ ⟨len.symm, fun i key v e => ?_⟩ (fun h' keep x hx => ?_) (by rw [len]; exact hln) fun h' tk hd' k => ?_
  · rw [List.getElem?_map] at e
    obtain ⟨q, hq, eq⟩ := Option.map_eq_some_iff.mp e
    obtain ⟨rfl, rfl⟩ := Prod.mk.inj eq
    obtain ⟨c, e1, o, e2, e3, m, e4⟩ := ht j q hq
    have ec : pairAddr items j = c := by unfold pairAddr; rw [e1]
    rw [ec]
    exact ⟨e1, .inl ⟨o, e2, e3, m, e4⟩⟩
  · have e' : (prs.map fun q => (Value.ref q.2.1, q.2.2))[i]? = some (key, v) := e
    rw [List.getElem?_map] at e'
    obtain ⟨q, hq, eq⟩ := Option.map_eq_some_iff.mp e'
    obtain ⟨rfl, rfl⟩ := Prod.mk.inj eq
    exact ⟨q.1, q.2.1, hq, rfl⟩
  · have a := hk x hx
    obtain ⟨o, _, _, ho, _⟩ := id a
    exact is_ext a fun o' e' => keep _ o' (Nat.ne_of_lt (Heap.lt_size ho)) (fun z => nomatch z) e'
  · rw [all_new prs [] (by rw [List.nil_append]; exact hnd), List.nil_append] at hd'
    exact h h' tk hd' fun b o e => k b o (fun z => nomatch z) e
end
end Pl
namespace Pl
open PySem L2
open PyProof.Rows (IsTup)
section
variable {P : Program} {w : World}
theorem items_int : ∀ {ks : List Int} {us : List Value}, Vals (ks.map V.int) us → ItemsAre (intKind P w) ks us
  | [], _, r => by rw [List.map_nil] at r; cases r; exact .nil
  | k :: ks, _, r => by
    rw [List.map_cons] at r
    cases r with
    | cons h t =>
      obtain ⟨tk, e⟩ := (show ∃ t, _ = Value.int k t from h)
      subst e
      exact .cons (by simp [intKind, Value.isInt]) (items_int t)
end
section
variable {X : Cx} {pins : List (Addr × Obj)} {σ : St} {H : Hp} {s : Shared} {a b : Addr}
theorem is_of (I : Inv X pins σ H s) {k : List Int} (h : SqT X.K H b (k.map V.int)) : (kI X.prog X.w).is s.heap k b := by
  obtain ⟨its, rv, ⟨o, h1, h2, n, h3⟩, _⟩ := I.tuple h
  exact ⟨o, its.toArray, n, h1, h2, h3, by simpa using items_int rv⟩
theorem kc_is {h : Heap} {P : Program} {w : World} {kvs : List (List Int × Addr × V)} {xs : List (List Int × Addr × Value)} (r : KC kvs xs) (hk : ∀ p ∈ kvs, (kI P w).is h p.1 p.2.1) : ∀ x ∈ xs, (kI P w).is h x.1 x.2.1 := by
  induction r with
  | nil => intro x hx; exact nomatch hx
  | @cons p q ps qs hq t ih =>
    intro x hx
    rcases List.mem_cons.mp hx with e | hx
    · subst e
      rw [← hq.1, hq.2.1]
      exact hk p List.mem_cons_self
    · exact ih (fun p hp => hk p (List.mem_cons_of_mem _ hp)) x hx
theorem kc_keys {kvs : List (List Int × Addr × V)} {xs : List (List Int × Addr × Value)} (r : KC kvs xs) : kvs.map (·.1) = xs.map (·.1) := by
  induction r with
  | nil => rfl
  | @cons p q ps qs hq t ih => rw [List.map_cons, List.map_cons, ih, hq.1]
theorem dcl_of (I : Inv X pins σ H s) {kvs : List (List Int × Addr × V)} (e : H a = some (DCL a kvs)) (hk : ∀ p ∈ kvs, SqT X.K H p.2.1 (p.1.map V.int)) : kvs.length ≤ sizeLine ∧ (a == sysModules) = false ∧ ∃ xs, KC kvs xs ∧ s.heap.DictOfH (kI X.prog X.w) a xs := by
  obtain ⟨⟨l, m, xs, r, o, es, ep, h1, h2, h3, h4, h5⟩, _⟩ := (show ObjOk X.prog X.w H s.heap a (DCL a kvs) from I.hok a _ e)
  exact ⟨l, m, xs, r, o, es, ep, h1, h2, h3, h4, kc_is r fun p hp => is_of I (hk p hp), h5⟩
theorem dcl_obj {P : Program} {w : World} {H' : Hp} {h' : Heap} {kvs : List (List Int × Addr × V)} {xs : List (List Int × Addr × Value)} (l : kvs.length ≤ sizeLine) (m : (a == sysModules) = false) (r : KC kvs xs) (d : h'.DictOfH (kI P w) a xs) : ObjOk P w H' h' a (DCL a kvs) := by
  obtain ⟨o, es, ep, h1, h2, h3, h4, _, h5⟩ := d
  exact ⟨⟨l, m, xs, r, o, es, ep, h1, h2, h3, h4, h5⟩, ⟨o, h1⟩, fun g1 g2 ⟨l, m, xs, r, o, es, ep, e, z⟩ k => ⟨l, m, xs, r, o, es, ep, k o e, z⟩⟩
theorem pairs_ofC (I : Inv X pins σ H s) : ∀ {ps : List Addr} {kvs : List (List Int × Addr × V)}, Paired (fun p (kv : List Int × Addr × V) => SqT X.K H p [.ref kv.2.1, kv.2.2]) ps kvs →
    ∃ prs : List (List Int × Addr × Value), KC kvs prs ∧ prs.length = ps.length ∧ ∀ (j : Nat) (q : List Int × Addr × Value), prs[j]? = some q → ∃ c : Addr, ps[j]? = some c ∧ IsTup s.heap c #[.ref q.2.1, q.2.2]
  | _, _, .nil => ⟨[], .nil, rfl, fun j q e => by simp at e⟩
  | _, _, .cons (a := p) (b := kv) h t => by
    obtain ⟨prs, r, hl, hp⟩ := pairs_ofC I t
    obtain ⟨its, rv, ht, _⟩ := I.tuple h
    obtain ⟨u, y, ei, ru, ry⟩ := vals2 rv
    subst ei
    cases (show u = Value.ref kv.2.1 from ru)
    refine ⟨(kv.1, kv.2.1, y) :: prs, .cons ⟨rfl, rfl, ry⟩ r, by rw [List.length_cons, List.length_cons, hl], fun j q e => ?_⟩
    cases j with
    | zero =>
      have e' : (kv.1, kv.2.1, y) = q := Option.some.inj e
      subst e'
      exact ⟨p, rfl, ht⟩
    | succ j =>
      obtain ⟨c, e1, e2⟩ := hp j q (by simpa using e)
      exact ⟨c, by simpa using e1, e2⟩
def valC (kvs : List (List Int × Addr × V)) (k : List Int) : Option V := (kvs.find? fun p => decide (p.1 = k)).map (·.2.2)
theorem kc_val {kvs : List (List Int × Addr × V)} {xs : List (List Int × Addr × Value)} (r : KC kvs xs) (k : List Int) : RelO (valC kvs k) ((atKey xs k).map (·.2)) := by
  induction r with
  | nil => exact True.intro
  | @cons p q ps qs h t ih =>
    obtain ⟨h1, _, h2⟩ := h
    by_cases e : p.1 = k
    · have e' : q.1 = k := h1.symm.trans e
      have b : atKey (q :: qs) k = some q.2 := by simp [atKey, List.find?_cons, e']
      have c : valC (p :: ps) k = some p.2.2 := by simp [valC, List.find?_cons, e]
      rw [c, b]; exact h2
    · have e' : ¬ q.1 = k := fun z => e (h1.trans z)
      have b : atKey (q :: qs) k = atKey qs k := by simp [atKey, List.find?_cons, e']
      have c : valC (p :: ps) k = valC ps k := by simp [valC, List.find?_cons, e]
      rw [c, b]; exact ih
def rIxC (K : PySem.W.Frag) : R2 := fun x y H Q => ∃ (a b : Addr) (kvs : List (List Int × Addr × V)) (k : List Int) (v : V), x = .ref a ∧ y = .ref b ∧ H a = some (DCL a kvs) ∧ (∀ p ∈ kvs, SqT K H p.2.1 (p.1.map V.int)) ∧ SqT K H b (k.map V.int) ∧ valC kvs k = some v ∧ Q v H
theorem pe_ixC {o i : Expr} {pos : Pos} {td ty : TE} (hu : X.A.units + 1 < cLine) (ho : PE X o td) (hi : PE X i ty) (hs : NoSl i) : PE X (.Subscript o i pos) (tOp (rIxC X.K) td ty) := by
  refine ⟨fun pins s σ H Q I h => ?_⟩
  refine subD_of PySem.F.slot_dict_getitem.lookup hs (thn (ho.run pins s σ H _ I h) fun u s1 ⟨x, H1, I1, rx, q1⟩ => thn (hi.run pins s1 σ H1 _ I1 q1) fun iv s2 ⟨y, H2, I2, ry, q2⟩ => ?_)
  obtain ⟨a, b, kvs, k, v, ex, ey, e, hk, hb, hv, q2⟩ := q2
  subst ex ey
  obtain rfl : u = Value.ref a := rx
  obtain rfl : iv = Value.ref b := ry
  obtain ⟨z, hd, xs, rel, dd⟩ := dcl_of I2 e hk
  obtain ⟨w', hw, rw'⟩ := RelO.some_of (v := v) (o := (atKey xs k).map (·.2)) (by rw [← hv]; exact kc_val rel k)
  obtain ⟨p, hp, hp2⟩ := Option.map_eq_some_iff.mp hw
  refine ⟨dd.typeIs, ?_⟩
  refine wpAny_getItem_heap (tupleKind_room_in1 hu) (is_of I2 hb) dd hp ?_
  rw [hp2]
  exact ⟨v, H2, I2.tok _, rw', q2⟩
end
section
variable {I : Type} {X : I → Cx} {P : Program} {w : World} {K : PySem.W.Frag} {mg : Str → Option Value} {base : Heap} {k : Nat}
def pairsD : List D → Option (List (List Int × D))
  | [] => some []
  | .tup [.tup ks, d] :: r => (match intsOf ks, pairsD r with
    | some k, some kvs => some ((k, d) :: kvs)
    | _, _ => none)
  | _ => none
theorem pairs_rep {W : Wd} {M : Mh} (w : W.Ok K M) : ∀ (xs : List D) (us : List V) (kvs : List (List Int × D)), RepL K W.B W.ι us xs → pairsD xs = some kvs →
    ∃ (ps : List Addr) (kv : List (List Int × Addr × V)), us = ps.map V.ref ∧ Paired (fun p (kv : List Int × Addr × V) => SqT K W.H p [.ref kv.2.1, kv.2.2]) ps kv ∧ (∀ p ∈ kv, SqT K W.H p.2.1 (p.1.map V.int)) ∧ RepC K W.B W.ι kv kvs ∧ kv.map (·.1) = kvs.map (·.1)
  | [], us, kvs, r, e => by
    cases r
    cases e
    exact ⟨[], [], rfl, .nil, fun p hp => (List.not_mem_nil hp).elim, .nil, rfl⟩
  | x :: xs, us, kvs, r, e => by
    unfold pairsD at e
    split at e
    · cases ‹(_ : List D) = []›
    · rename_i ks d r0 eq
      cases eq
      split at e
      · rename_i k kvs' h1 h2
        cases e
        cases r with
        | cons r1 r2 =>
          obtain ⟨ps, kv, rfl, a1, a2, a3, a4⟩ := pairs_rep w _ _ _ r2 h2
          cases r1 with
          | tup s1 q1 =>
            rename_i a vs
            cases q1 with
            | cons t1 t2 =>
              cases t2 with
              | cons t3 t4 =>
                cases t4
                cases t1 with
                | tup s2 q2 =>
                  rename_i v3 b ws
                  have hi := rep_ints q2 h1
                  subst hi
                  refine ⟨a :: ps, (k, b, v3) :: kv, rfl, .cons (sqT_mono w.sub s1) a1, fun p hp => ?_, .cons s2 t3 a3, by rw [List.map_cons, List.map_cons, a4]⟩
                  rcases List.mem_cons.mp hp with rfl | hp
                  · exact sqT_mono w.sub s2
                  · exact a2 p hp
      · cases e
    · cases e
def valD (kvs : List (List Int × D)) (k : List Int) : Option D := (kvs.find? fun p => decide (p.1 = k)).map (·.2)
def gIxC : O2 := fun a b M => match a, b with
  | .ref n, .tup ks => (match M[n]?, intsOf ks with
    | some (.dct kvs), some k => (valD kvs k).map fun d => (d, M)
    | _, _ => none)
  | _, _ => none
theorem repC_val {B : Hp} {ι : List Addr} {k : List Int} {d : D} : ∀ {vs : List (List Int × Addr × V)} {ds : List (List Int × D)}, RepC K B ι vs ds → valD ds k = some d → ∃ v, valC vs k = some v ∧ Rep K B ι v d
  | _, _, .nil, e => by simp [valD] at e
  | _, _, .cons (k := k0) (b := b0) (v := v0) (d := d0) (vs := vs) (ds := ds) s g r, e => by
    by_cases q : k0 = k
    · simp [valD, List.find?_cons, q] at e
      subst e
      exact ⟨_, by simp [valC, List.find?_cons, q], g⟩
    · have e' : valD ds k = some d := by simpa [valD, List.find?_cons, q] using e
      obtain ⟨v, h1, h2⟩ := repC_val r e'
      exact ⟨v, by simpa [valC, List.find?_cons, q] using h1, h2⟩
theorem repC_keys {B : Hp} {ι : List Addr} : ∀ {vs : List (List Int × Addr × V)} {ds : List (List Int × D)}, RepC K B ι vs ds → ∀ p ∈ vs, SqT K B p.2.1 (p.1.map V.int)
  | _, _, .nil => fun p hp => (List.not_mem_nil hp).elim
  | _, _, .cons s g r => fun p hp => by
    rcases List.mem_cons.mp hp with rfl | hp
    · exact s
    · exact repC_keys r p hp
theorem dct_live {W : Wd} {M : Mh} {n : Nat} {x : V} {kvs : List (List Int × D)} (w : W.Ok K M) (r : Rep K W.B W.ι x (.ref n)) (h : M[n]? = some (.dct kvs)) : ∃ a vs, x = .ref a ∧ W.H a = some (DCL a vs) ∧ RepC K W.B W.ι vs kvs := by
  cases r with
  | ref hi =>
    obtain ⟨_, _, o, ho, ro⟩ := w.live n _ _ ⟨hi, h, fun z => nomatch z⟩
    cases ro with
    | dct rc => exact ⟨_, _, rfl, ho, rc⟩
theorem od_ixC : OD K (rIxC K) gIxC := fun W M x y a b z M' Q w ra rb e q => by
  unfold gIxC at e
  split at e
  · rename_i n ks
    split at e
    · rename_i kvs k h1 h2
      cases h : valD kvs k with
      | none =>
        rw [h] at e
        cases e
      | some d =>
        rw [h] at e
        cases e
        obtain ⟨p, vs, rfl, hp, rc⟩ := dct_live w ra h1
        obtain ⟨v, hv, rv⟩ := repC_val rc h
        cases rb with
        | tup s1 q1 =>
          have := rep_ints q1 h2
          subst this
          exact ⟨p, _, vs, k, v, rfl, rfl, hp, fun p hp => sqT_mono w.sub (repC_keys rc p hp), sqT_mono w.sub s1, hv, q v W (.refl W) w rv⟩
    · cases e
  · cases e
theorem DE.ixC (c : Ctx X P w K mg base k) {a b : Expr} {pos} {f g : EF} (ha : DE X K a f) (hb : DE X K b g) (hs : NoSl b := by exact fun _ _ => rfl) : DE X K (.Subscript a b pos) (eOp gIxC f g) := by
  obtain ⟨ta, pa, ra⟩ := ha.go
  obtain ⟨tb, pb, rb⟩ := hb.go
  refine ⟨tOp (rIxC K) ta tb, fun i => ?_, er_op od_ixC ra rb⟩
  have h := pe_ixC (X := X i) (by have := (c.room i).un; omega) (pa i) (pb i) hs (pos := pos)
  rw [c.K i] at h
  exact h
def maxI : Int → List Int → Int
  | m, [] => m
  | m, i :: is => maxI (if i > m then i else m) is
theorem maxI_le : ∀ (is : List Int) (m : Int), m ≤ maxI m is ∧ ∀ y ∈ is, y ≤ maxI m is
  | [], m => ⟨Int.le_refl _, fun y hy => (List.not_mem_nil hy).elim⟩
  | i :: is, m => by
    obtain ⟨h1, h2⟩ := maxI_le is (if i > m then i else m)
    have h3 : m ≤ (if i > m then i else m) ∧ i ≤ (if i > m then i else m) := by split <;> omega
    refine ⟨Int.le_trans h3.1 h1, fun y hy => ?_⟩
    rcases List.mem_cons.mp hy with rfl | hy
    · exact Int.le_trans h3.2 h1
    · exact h2 y hy
theorem maxI_mem : ∀ (is : List Int) (m : Int), maxI m is ∈ m :: is
  | [], m => List.mem_cons_self
  | i :: is, m => by
    have := maxI_mem is (if i > m then i else m)
    unfold maxI
    rcases List.mem_cons.mp this with h | h
    · rw [h]
      split
      · exact List.mem_cons_of_mem _ List.mem_cons_self
      · exact List.mem_cons_self
    · exact List.mem_cons_of_mem _ (List.mem_cons_of_mem _ h)
def gMaxL : GL := fun ds M => match ds with
  | [d] => (match lstOf M d with
    | some xs => (match intsOf xs with
      | some (i :: is) => some (.int (maxI i is), M)
      | _ => none)
    | none => none)
  | _ => none
theorem cMaxL (c : Ctx X P w K mg base k) : CalF X K (.builtin "max") gMaxL := ⟨rMax K, fun i => by
  have h := cr_max (X := X i) (c.calm i)
  rw [c.K i] at h
  exact h, fun W M vs ds z M' Q w r e q => by
  unfold gMaxL at e
  split at e
  · split at e
    · rename_i xs h1
      split at e
      · rename_i i is h2
        cases e
        cases r with
        | cons r1 r2 =>
          cases r2
          obtain ⟨a, us, rfl, s1, q1⟩ := lstOf_rep w r1 h1
          have := rep_ints q1 h2
          subst this
          refine ⟨a, i :: is, rfl, s1, by simp, fun m hm hy => ?_⟩
          have e1 := maxI_le is i
          have e2 := hy _ (maxI_mem is i)
          have e3 : m ≤ maxI i is := by
            rcases List.mem_cons.mp hm with rfl | hm
            · exact e1.1
            · exact e1.2 m hm
          rw [Int.le_antisymm e3 e2]
          exact q _ W (.refl W) w (.int _)
      · cases e
    · cases e
  · cases e⟩
def eLcN (vs : List Nat) (a : AF) (g : GF) (t : TF) (f : EF) : EF := fun δ M => match a δ M with
  | some (ds, M1) => (match lcGo g t f ds (wipeD δ vs) M1 with
    | some (ys, M2) => if ys.length ≤ sizeLine then some (.ref M2.length, M2 ++ [.lst ys]) else none
    | none => none)
  | none => none
theorem lcN_er {ti : TI} {tg : TG} {tt : TT} {te : TE} {vs : List Nat} {a : AF} {g : GF} {t : TF} {f : EF} {sl : List Nat}
    (ri : ∀ (σ : St) (W : Wd) (δ : Env) (M : Mh) (ds : List D) (M' : Mh) (R : It → Hp → Prop), W.Ok K M → Slots K W σ δ → a δ M = some (ds, M') → (∀ J W', W.Le W' → W'.Ok K M' → Wk K J W' ds → R J W'.H) → ti σ W.H R)
    (rg : GR K tg g sl) (hsl : ∀ j ∈ sl, j ∈ vs) (rt : TR K tt t) (re : ER K te f) : ER K (tLc ti tg tt te vs) (eLcN vs a g t f) := fun σ W δ M d M' Q w s e q => by
  unfold eLcN at e
  split at e
  · rename_i ds M1 h1
    split at e
    · rename_i fin M2 h2
      split at e
      · rename_i hlen
        cases e
        refine ri σ W δ M ds M1 _ w s h1 fun J W1 l1 w1 wk => fun p hp => ?_
        have P0 : W1.P p = none := w1.pnone hp
        have B0 : W1.B p = none := w1.bnone hp
        refine ⟨fun i m H => ∃ (W' : Wd) (N : Mh) (acc : List V) (ac ys : List D), W'.H = H ∧ W1.Le (W'.mk' W'.H W1.P) ∧ W'.P = upd W1.P p (.lst acc) ∧ W'.Ok K N ∧ RepL K W'.B W'.ι acc ac ∧ i + m = ds.length ∧ lcGo g t f (ds.drop i) (wipeD δ vs) N = some (ys, M2) ∧ ac ++ ys = fin,
          ⟨ds.length, W1.hold p (.lst []), M1, [], [], fin, rfl, ⟨fun _ _ h => h, ⟨[], by simp [Wd.mk', Wd.hold]⟩, rfl⟩, rfl, Wd.hold_ok w1 hp, .nil, by omega, h2, rfl⟩, ?_⟩
        rintro i m H ⟨W', N, acc, ac, ys, rfl, l', hP, w', ra, em, e', ef⟩
        obtain ⟨k1, k2⟩ := wk i W' N ⟨l'.same, l'.pre⟩ w'
        cases hd : ds[i]? with
        | none =>
          have hl : ds.length ≤ i := List.getElem?_eq_none_iff.mp hd
          rw [List.drop_of_length_le hl] at e'
          cases e'
          rw [List.append_nil] at ef
          subst ef
          have u := Wd.unhold_new (o' := .lst acc) (m := .lst ac) w' hP P0 (.lst ra)
          have eH : upd W'.H p (.lst acc) = W'.H := by
            funext z
            by_cases hz : z = p
            · subst hz
              rw [upd_same]
              exact (w'.pin z (.lst acc) (by rw [hP, upd_same])).1.symm
            · rw [upd_ne hz]
          rw [eH] at u
          refine .inl ⟨k1 hd, q _ ⟨W'.H, W'.B, W'.ι ++ [p], W1.P⟩ (l1.trans ⟨l'.same, ?_, rfl⟩) u (.ref ?_)⟩
          · obtain ⟨l0, hl0⟩ := l'.pre
            exact ⟨l0 ++ [p], by rw [← List.append_assoc, ← hl0]; rfl⟩
          · have hw := w'.len
            rw [← hw]
            simp
        | some x0 =>
          obtain ⟨hgo, hy⟩ := k2 x0 hd
          have hl : i < ds.length := (List.getElem?_eq_some_iff.mp hd).1
          have hdr : ds.drop i = x0 :: ds.drop (i + 1) := by
            rw [List.drop_eq_getElem_cons hl]
            congr 1
            exact Option.some.inj ((List.getElem?_eq_getElem hl).symm.trans hd)
          rw [hdr] at e'
          unfold lcGo at e'
          refine .inr ⟨hgo, fun H2 => ∃ (W2 : Wd) (N2 : Mh) (acc2 : List V) (ac2 ys2 : List D), W2.H = H2 ∧ W1.Le (W2.mk' W2.H W1.P) ∧ W2.P = upd W1.P p (.lst acc2) ∧ W2.Ok K N2 ∧ RepL K W2.B W2.ι acc2 ac2 ∧ lcGo g t f (ds.drop (i + 1)) (wipeD δ vs) N2 = some (ys2, M2) ∧ ac2 ++ ys2 = fin,
            fun H2 ⟨W2, N2, acc2, ac2, ys2, a1, a2, a3, a4, a5, a6, a7⟩ => ⟨m - 1, by omega, W2, N2, acc2, ac2, ys2, a1, a2, a3, a4, a5, by omega, a6, a7⟩, fun x H' y => ?_⟩
          obtain ⟨W3, rfl, l3, w3, r3⟩ := hy x H' y
          have sw : Slots K W3 (L2.wipe σ vs) (wipeD δ vs) := ((((s.le l1).wipe vs).le l').cong (W' := W') rfl rfl).le l3
          have up : ∀ {W4 : Wd}, W'.Le W4 → W1.Le (W4.mk' W4.H W1.P) := fun {W4} l => l'.trans ⟨l.same, l.pre, rfl⟩
          split at e'
          · cases e'
          · rename_i δ1 h3
            refine rg x x0 _ W3 _ δ1 N _ w3 sw r3 h3 fun σ3 s3 hw => ⟨(hw vs hsl).trans ?_, ?_⟩
            · exact wipe_twice σ vs
            · split at e'
              · rename_i N1 h4
                refine rt σ3 W3 δ1 N _ N1 _ w3 s3 h4 fun W4 l4 w4 => ifT ?_
                split at e'
                · rename_i y0 N2 h5
                  split at e'
                  · rename_i ys2 N3 h6
                    cases e'
                    refine re σ3 W4 δ1 N1 y0 N2 _ w4 (s3.le l4) h5 fun v W5 l5 w5 r5 => ?_
                    have l35 : W'.Le W5 := (l3.trans l4).trans l5
                    have p5 : W5.P = upd W1.P p (.lst acc) := l35.pp.trans hP
                    have p5' : W5.P p = some (.lst acc) := by rw [p5, upd_same]
                    have ra5 := ra.le l35
                    refine ⟨acc, (w5.pin p _ p5').1, ?_, ⟨upd W5.H p (.lst (acc ++ [v])), W5.B, W5.ι, upd W5.P p (.lst (acc ++ [v]))⟩, N2, acc ++ [v], ac ++ [y0], ys2, rfl, l'.trans ⟨l35.same, l35.pre, rfl⟩, ?_, Wd.hold_put w5 p5', ra5.append (.cons r5 .nil), h6, ?_⟩
                    · have := ra.len
                      have h7 := congrArg List.length ef
                      rw [List.length_append, List.length_cons] at h7
                      omega
                    · show upd W5.P p _ = _
                      rw [p5, upd_upd]
                    · rw [List.append_assoc]
                      exact ef
                  · cases e'
                · cases e'
              · rename_i N1 h4
                refine rt σ3 W3 δ1 N _ N1 _ w3 s3 h4 fun W4 l4 w4 => ifF ?_
                have l34 : W'.Le W4 := l3.trans l4
                exact ⟨W4, N1, acc, ac, ys, rfl, up l34, l34.pp.trans hP, w4, ra.le l34, e', ef⟩
              · cases e'
      · cases e
    · cases e
  · cases e
theorem DS.setLcN (j : Nat) (c : Ctx X P w K mg base k) {y : Str} {py : Pos} {elt tg iter : Expr} {ifs : List Expr} {scope : Scope} {own : List (Str × Nat)} {pos spos} {a : AF} {g : GF} {t : TF} {f : EF} {sl : List Nat} (hN : ∀ i, (X i).N.Nodup) (hi : DI X K tg iter a) (ok : ∀ i, BlkOk (X i).N (X i).env.scope scope own)
    (hg : DG (blkF X scope) K tg g sl) (hsl : ∀ j ∈ sl, j ∈ own.map (·.2)) (ht : DTs (blkF X scope) K ifs t) (he : DE (blkF X scope) K elt f) (hs : ∀ i x, foldedSetIterable iter (X i).env x = pure x := by intro _ _; rfl)
    (hy : ∀ i, (X i).N[j]? = some y := by intro _; rfl) (hyl : ∀ i, (X i).env.scope.names.lookup y = some .local := by intro _; rfl) (hsw : ∀ i, swapsWith (.ListComp elt [⟨tg, iter, ifs, 0⟩] scope pos) (some (.Name y py)) spos.line (X i).env = pure true := by intro _; exact sw_true rfl rfl rfl (by decide +kernel)) :
    DS X K (.Assign [.Name y py] (.ListComp elt [⟨tg, iter, ifs, 0⟩] scope pos) spos) (sAs (eLcN (own.map (·.2)) a g t f) (gN j)) := by
  obtain ⟨ti, pi, ri⟩ := hi.go
  obtain ⟨tg', pg, rg⟩ := hg.go
  obtain ⟨tt, pt, rt⟩ := ht.go
  obtain ⟨te, pe, re⟩ := he.go
  refine ⟨tAsg (tLc ti tg' tt te (own.map (·.2))) (gName j), fun i => ps_setLc (c.calm i) (hN i) (hy i) (hyl i) (hsw i) (pi i) (ok i) (fun s H C cl fp => pg (i, s, H, C, cl, fp)) (fun s H C cl fp => pt (i, s, H, C, cl, fp)) (fun s H C cl fp => pe (i, s, H, C, cl, fp)) (hs i), sr_as (sl := [j]) (lcN_er ri rg hsl rt re) fun v d σ W δ δ' M Q w s r e q => ?_⟩
  cases e
  exact q _ (s.set r j) fun vs h => (wipe_set σ _ j vs).1 (h j List.mem_cons_self)
end
end Pl
namespace Pl
open PySem L2
end Pl
namespace Pl
open PySem L2
section
variable {I : Type} {X : I → Cx} {P : Program} {w : World} {K : PySem.W.Frag} {mg : Str → Option Value} {base : Heap} {k : Nat}
def lstV (M : Mh) : D → Option (List D)
  | .tup xs => some xs
  | d => lstOf M d
def WkG (K : PySem.W.Frag) (G : Mh → Prop) (J : It) (W0 : Wd) (ds : List D) : Prop := ∀ (i : Nat) (W : Wd) (M : Mh), W0.Lo W → W.Ok K M → G M →
  (ds[i]? = none → J.stop i W.H) ∧ (∀ d, ds[i]? = some d → J.go i W.H ∧ ∀ x H', J.yld i W.H x H' → ∃ W', W'.H = H' ∧ W.Le W' ∧ W'.Ok K M ∧ Rep K W'.B W'.ι x d)
structure DIV (X : I → Cx) (K : PySem.W.Frag) (tg iter : Expr) (f : EF) : Prop where
  go : ∃ t : TI, (∀ i, PI (X i) tg iter t) ∧ ∀ (σ : St) (W : Wd) (δ : Env) (M : Mh) (d : D) (ds : List D) (M' : Mh) (R : It → Hp → Prop), W.Ok K M → Slots K W σ δ → f δ M = some (d, M') → lstV M' d = some ds → (∀ J W', W.Le W' → W'.Ok K M' → WkG K (fun N => lstV N d = some ds) J W' ds → R J W'.H) → t σ W.H R
theorem DIV.of (c : Ctx X P w K mg base k) {tg e : Expr} {f : EF} (a : DE X K e f) : DIV X K tg e f := by
  obtain ⟨t, p, r⟩ := a.go
  refine ⟨fun σ H R => iList K t σ H R ∨ iTup K t σ H R, fun i => ?_, fun σ W δ M d ds M' R w s e h q => ?_⟩
  · have h1 := pi_list (tg := tg) (p i)
    have h2 := pi_tup (tg := tg) (p i)
    rw [c.K i] at h1 h2
    exact pi_or h1 h2
  · cases d with
    | tup xs =>
      cases h
      refine .inr (r σ W δ M _ _ _ w s e fun v W1 l1 w1 r1 => ?_)
      cases r1 with
      | tup h1 rl => exact ⟨_, rfl, ⟨_, sqT_mono w1.sub h1⟩, q _ W1 l1 w1 fun i W2 M2 l2 w2 _ => wk_tup h1 rl i W2 M2 l2 w2⟩
    | lst xs =>
      cases h
      refine .inl (r σ W δ M _ _ _ w s e fun v W1 l1 w1 r1 => ?_)
      cases r1 with
      | lst h1 rl => exact ⟨_, rfl, ⟨_, .inl (.inl (w1.sub _ _ h1))⟩, q _ W1 l1 w1 fun i W2 M2 l2 w2 _ => wk_list (.inl (.inl h1)) rl i W2 M2 l2 w2⟩
    | lsk xs =>
      cases h
      refine .inl (r σ W δ M _ _ _ w s e fun v W1 l1 w1 r1 => ?_)
      cases r1 with
      | lsk h1 rl => exact ⟨_, rfl, ⟨_, sqL_mono w1.sub h1⟩, q _ W1 l1 w1 fun i W2 M2 l2 w2 _ => wk_list h1 rl i W2 M2 l2 w2⟩
    | ref n =>
      refine .inl (r σ W δ M _ _ _ w s e fun v W1 l1 w1 r1 => ?_)
      cases r1 with
      | ref hi =>
        rename_i a
        obtain ⟨l, vs, e1, s1, rl⟩ := lstOf_rep w1 (.ref hi) h
        cases e1
        refine ⟨_, rfl, ⟨vs, s1⟩, q _ W1 l1 w1 fun i W2 M2 l2 w2 g2 => ?_⟩
        obtain ⟨l', vs2, e2, s2, rl2⟩ := lstOf_rep w2 (Rep.ref (l2.ix _ _ hi)) g2
        cases e2
        refine ⟨fun e => ⟨vs2, s2, by rw [rl2.len]; exact List.getElem?_eq_none_iff.mp e⟩, fun d0 e => ?_⟩
        obtain ⟨v2, h1, h2⟩ := rl2.get e
        refine ⟨⟨vs2, v2, s2, h1⟩, fun x H' y => ?_⟩
        obtain ⟨y1, y2⟩ := y
        have z := (y2 vs2 s2).symm.trans h1
        cases z
        exact ⟨W2, y1.symm, .refl W2, w2, h2⟩
    | _ => cases h
open Classical in
noncomputable def lcGoV (d0 : D) (all : List D) (g : GF) (t : TF) (f : EF) : List D → Env → Mh → Option (List D × Mh)
  | [], _, M => if lstV M d0 = some all then some ([], M) else none
  | x :: xs, δ, M => if lstV M d0 = some all then (match g x δ with
    | none => none
    | some δ1 => match t δ1 M with
      | some (true, M1) => (match f δ1 M1 with
        | some (y, M2) => (match lcGoV d0 all g t f xs δ M2 with
          | some (ys, M3) => some (y :: ys, M3)
          | none => none)
        | none => none)
      | some (false, M1) => lcGoV d0 all g t f xs δ M1
      | none => none) else none
noncomputable def eLcV (vs : List Nat) (a : EF) (g : GF) (t : TF) (f : EF) : EF := fun δ M => match a δ M with
  | some (d0, M1) => (match lstV M1 d0 with
    | some ds => (match lcGoV d0 ds g t f ds (wipeD δ vs) M1 with
      | some (ys, M2) => if ys.length ≤ sizeLine then some (.lst ys, M2) else none
      | none => none)
    | none => none)
  | none => none
theorem lcV_er {ti : TI} {tg : TG} {tt : TT} {te : TE} {vs : List Nat} {a : EF} {g : GF} {t : TF} {f : EF} {sl : List Nat}
    (ri : ∀ (σ : St) (W : Wd) (δ : Env) (M : Mh) (d0 : D) (ds : List D) (M' : Mh) (R : It → Hp → Prop), W.Ok K M → Slots K W σ δ → a δ M = some (d0, M') → lstV M' d0 = some ds → (∀ J W', W.Le W' → W'.Ok K M' → WkG K (fun N => lstV N d0 = some ds) J W' ds → R J W'.H) → ti σ W.H R)
    (rg : GR K tg g sl) (hsl : ∀ j ∈ sl, j ∈ vs) (rt : TR K tt t) (re : ER K te f) : ER K (tLc ti tg tt te vs) (eLcV vs a g t f) := fun σ W δ M d M' Q w s e q => by
  unfold eLcV at e
  split at e
  · rename_i d0 M1 h1
    split at e
    case h_2 => cases e
    rename_i ds hds
    split at e
    · rename_i fin M2 h2
      split at e
      · rename_i hlen
        cases e
        refine ri σ W δ M d0 ds M1 _ w s h1 hds fun J W1 l1 w1 wk => fun p hp => ?_
        have P0 : W1.P p = none := w1.pnone hp
        have B0 : W1.B p = none := w1.bnone hp
        refine ⟨fun i m H => ∃ (W' : Wd) (N : Mh) (acc : List V) (ac ys : List D), W'.H = H ∧ W1.Le (W'.mk' W'.H W1.P) ∧ W'.P = upd W1.P p (.lst acc) ∧ W'.Ok K N ∧ RepL K W'.B W'.ι acc ac ∧ i + m = ds.length ∧ lcGoV d0 ds g t f (ds.drop i) (wipeD δ vs) N = some (ys, M') ∧ ac ++ ys = fin,
          ⟨ds.length, W1.hold p (.lst []), M1, [], [], fin, rfl, ⟨fun _ _ h => h, ⟨[], by simp [Wd.mk', Wd.hold]⟩, rfl⟩, rfl, Wd.hold_ok w1 hp, .nil, by omega, h2, rfl⟩, ?_⟩
        rintro i m H ⟨W', N, acc, ac, ys, rfl, l', hP, w', ra, em, e', ef⟩
        have gd : lstV N d0 = some ds := by
          cases hq : ds.drop i with
          | nil =>
            rw [hq] at e'
            unfold lcGoV at e'
            split at e'
            · rename_i hh; exact hh
            · cases e'
          | cons y ys =>
            rw [hq] at e'
            unfold lcGoV at e'
            split at e'
            · rename_i hh; exact hh
            · cases e'
        obtain ⟨k1, k2⟩ := wk i W' N ⟨l'.same, l'.pre⟩ w' gd
        cases hd : ds[i]? with
        | none =>
          have hl : ds.length ≤ i := List.getElem?_eq_none_iff.mp hd
          rw [List.drop_of_length_le hl] at e'
          unfold lcGoV at e'
          rw [if_pos gd] at e'
          cases e'
          rw [List.append_nil] at ef
          subst ef
          have u := Wd.unhold w' hP P0
          refine .inl ⟨k1 hd, q _ ⟨W'.H, upd W'.B p (.lst acc), W'.ι, W1.P⟩ (l1.trans ⟨fun b o h => ?_, l'.pre, rfl⟩) u (.lst upd_same (ra.mono (updk (w'.pin p (.lst acc) (by rw [hP, upd_same])).2) fun _ _ z => z))⟩
          have hb : b ≠ p := fun z => by
            rw [z, B0] at h
            cases h
          show upd W'.B p (.lst acc) b = some o
          rw [upd_ne hb]
          exact l'.same b o h
        | some x0 =>
          obtain ⟨hgo, hy⟩ := k2 x0 hd
          have hl : i < ds.length := (List.getElem?_eq_some_iff.mp hd).1
          have hdr : ds.drop i = x0 :: ds.drop (i + 1) := by
            rw [List.drop_eq_getElem_cons hl]
            congr 1
            exact Option.some.inj ((List.getElem?_eq_getElem hl).symm.trans hd)
          rw [hdr] at e'
          unfold lcGoV at e'
          rw [if_pos gd] at e'
          refine .inr ⟨hgo, fun H2 => ∃ (W2 : Wd) (N2 : Mh) (acc2 : List V) (ac2 ys2 : List D), W2.H = H2 ∧ W1.Le (W2.mk' W2.H W1.P) ∧ W2.P = upd W1.P p (.lst acc2) ∧ W2.Ok K N2 ∧ RepL K W2.B W2.ι acc2 ac2 ∧ lcGoV d0 ds g t f (ds.drop (i + 1)) (wipeD δ vs) N2 = some (ys2, M') ∧ ac2 ++ ys2 = fin,
            fun H2 ⟨W2, N2, acc2, ac2, ys2, a1, a2, a3, a4, a5, a6, a7⟩ => ⟨m - 1, by omega, W2, N2, acc2, ac2, ys2, a1, a2, a3, a4, a5, by omega, a6, a7⟩, fun x H' y => ?_⟩
          obtain ⟨W3, rfl, l3, w3, r3⟩ := hy x H' y
          have sw : Slots K W3 (L2.wipe σ vs) (wipeD δ vs) := ((((s.le l1).wipe vs).le l').cong (W' := W') rfl rfl).le l3
          have up : ∀ {W4 : Wd}, W'.Le W4 → W1.Le (W4.mk' W4.H W1.P) := fun {W4} l => l'.trans ⟨l.same, l.pre, rfl⟩
          split at e'
          · cases e'
          · rename_i δ1 h3
            refine rg x x0 _ W3 _ δ1 N _ w3 sw r3 h3 fun σ3 s3 hw => ⟨(hw vs hsl).trans ?_, ?_⟩
            · exact wipe_twice σ vs
            · split at e'
              · rename_i N1 h4
                refine rt σ3 W3 δ1 N _ N1 _ w3 s3 h4 fun W4 l4 w4 => ifT ?_
                split at e'
                · rename_i y0 N2 h5
                  split at e'
                  · rename_i ys2 N3 h6
                    cases e'
                    refine re σ3 W4 δ1 N1 y0 N2 _ w4 (s3.le l4) h5 fun v W5 l5 w5 r5 => ?_
                    have l35 : W'.Le W5 := (l3.trans l4).trans l5
                    have p5 : W5.P = upd W1.P p (.lst acc) := l35.pp.trans hP
                    have p5' : W5.P p = some (.lst acc) := by rw [p5, upd_same]
                    have ra5 := ra.le l35
                    refine ⟨acc, (w5.pin p _ p5').1, ?_, ⟨upd W5.H p (.lst (acc ++ [v])), W5.B, W5.ι, upd W5.P p (.lst (acc ++ [v]))⟩, N2, acc ++ [v], ac ++ [y0], ys2, rfl, l'.trans ⟨l35.same, l35.pre, rfl⟩, ?_, Wd.hold_put w5 p5', ra5.append (.cons r5 .nil), h6, ?_⟩
                    · have := ra.len
                      have h7 := congrArg List.length ef
                      rw [List.length_append, List.length_cons] at h7
                      omega
                    · show upd W5.P p _ = _
                      rw [p5, upd_upd]
                    · rw [List.append_assoc]
                      exact ef
                  · cases e'
                · cases e'
              · rename_i N1 h4
                refine rt σ3 W3 δ1 N _ N1 _ w3 s3 h4 fun W4 l4 w4 => ifF ?_
                have l34 : W'.Le W4 := l3.trans l4
                exact ⟨W4, N1, acc, ac, ys, rfl, up l34, l34.pp.trans hP, w4, ra.le l34, e', ef⟩
              · cases e'
      · cases e
    · cases e
  · cases e
theorem DE.lcV (c : Ctx X P w K mg base k) {elt tg iter : Expr} {ifs : List Expr} {scope : Scope} {own : List (Str × Nat)} {pos} {a : EF} {g : GF} {t : TF} {f : EF} {sl : List Nat} (hN : ∀ i, (X i).N.Nodup) (hi : DIV X K tg iter a) (ok : ∀ i, BlkOk (X i).N (X i).env.scope scope own)
    (hg : DG (blkF X scope) K tg g sl) (hsl : ∀ j ∈ sl, j ∈ own.map (·.2)) (ht : DTs (blkF X scope) K ifs t) (he : DE (blkF X scope) K elt f) (hs : ∀ i x, foldedSetIterable iter (X i).env x = pure x := by intro _ _; rfl) :
    DE X K (.ListComp elt [⟨tg, iter, ifs, 0⟩] scope pos) (eLcV (own.map (·.2)) a g t f) := by
  obtain ⟨ti, pi, ri⟩ := hi.go
  obtain ⟨tg', pg, rg⟩ := hg.go
  obtain ⟨tt, pt, rt⟩ := ht.go
  obtain ⟨te, pe, re⟩ := he.go
  refine ⟨tLc ti tg' tt te (own.map (·.2)), fun i => pe_lc (c.calm i) (hN i) (pi i) (ok i) (fun s H C cl fp => pg (i, s, H, C, cl, fp)) (fun s H C cl fp => pt (i, s, H, C, cl, fp)) (fun s H C cl fp => pe (i, s, H, C, cl, fp)) (hs i), fun σ W δ M d M' Q w s e q => ?_⟩
  exact lcV_er ri rg hsl rt re σ W δ M d M' Q w s e q
end
end Pl
namespace Pl
open PySem L2
end Pl
namespace Pl
open PySem PySem.Spec PyProof.Rows L2
end Pl
namespace Pl
open PySem L2
/-- the pairs behind d[k] = v -/
def putC (kvs : List (List Int × Addr × V)) (k : List Int) (b : Addr) (v : V) : List (List Int × Addr × V) := if (valC kvs k).isSome then kvs.map (fun p => if p.1 = k then (p.1, p.2.1, v) else p) else kvs ++ [(k, b, v)]
def putD (kvs : List (List Int × D)) (k : List Int) (d : D) : List (List Int × D) := if (valD kvs k).isSome then kvs.map (fun p => if p.1 = k then (p.1, d) else p) else kvs ++ [(k, d)]
theorem putC_len (kvs : List (List Int × Addr × V)) (k : List Int) (b : Addr) (v : V) : (putC kvs k b v).length ≤ kvs.length + 1 := by
  unfold putC
  split
  · rw [List.length_map]; omega
  · rw [List.length_append]; exact Nat.le_refl _
theorem KC.repl {kvs : List (List Int × Addr × V)} {xs : List (List Int × Addr × Value)} (r : KC kvs xs) (k : List Int) {y : V} {u : Value} (ry : RelV y u) : KC (kvs.map fun p => if p.1 = k then (p.1, p.2.1, y) else p) (xs.map (putAt k u)) := by
  induction r with
  | nil => exact .nil
  | @cons p q ps qs h t ih =>
    rw [List.map_cons, List.map_cons]
    refine .cons ?_ ih
    obtain ⟨h1, h2, h3⟩ := h
    unfold putAt
    by_cases e : p.1 = k
    · rw [if_pos e, if_pos (h1.symm.trans e)]; exact ⟨h1, h2, ry⟩
    · rw [if_neg e, if_neg (fun z => e (h1.trans z))]; exact ⟨h1, h2, h3⟩
theorem kc_put {kvs : List (List Int × Addr × V)} {xs : List (List Int × Addr × Value)} (r : KC kvs xs) (k : List Int) (b : Addr) {y : V} {u : Value} (ry : RelV y u) : KC (putC kvs k b y) (storedH xs k b u) := by
  have e : (valC kvs k).isSome = (atKey xs k).isSome := by rw [(kc_val r k).isSome_eq, Option.isSome_map]
  unfold putC storedH
  rw [e]
  by_cases q : (atKey xs k).isSome = true
  · rw [if_pos q, if_pos q]; exact KC.repl r k ry
  · rw [if_neg q, if_neg q]; exact Paired.snoc r ⟨rfl, rfl, ry⟩
theorem repC_some {K : PySem.W.Frag} {B : Hp} {ι : List Addr} (k : List Int) : ∀ {vs : List (List Int × Addr × V)} {ds : List (List Int × D)}, RepC K B ι vs ds → (valC vs k).isSome = (valD ds k).isSome
  | _, _, .nil => rfl
  | _, _, .cons (k := k0) (b := b0) (v := v0) (d := d0) (vs := vs) (ds := ds) s g r => by
    by_cases q : k0 = k
    · simp [valC, valD, List.find?_cons, q]
    · have ih := repC_some k r
      unfold valC valD at ih ⊢
      rw [List.find?_cons, List.find?_cons, decide_eq_false q]
      exact ih
theorem repC_map {K : PySem.W.Frag} {B : Hp} {ι : List Addr} {k : List Int} {v : V} {d : D} (rv : Rep K B ι v d) : ∀ {vs : List (List Int × Addr × V)} {ds : List (List Int × D)}, RepC K B ι vs ds → RepC K B ι (vs.map fun p => if p.1 = k then (p.1, p.2.1, v) else p) (ds.map fun p => if p.1 = k then (p.1, d) else p)
  | _, _, .nil => .nil
  | _, _, .cons (k := k0) (b := b0) (v := v0) (d := d0) s g r => by
    rw [List.map_cons, List.map_cons]
    by_cases q : k0 = k
    · rw [if_pos q, if_pos q]
      exact .cons s rv (repC_map rv r)
    · rw [if_neg q, if_neg q]
      exact .cons s g (repC_map rv r)
theorem repC_snoc {K : PySem.W.Frag} {B : Hp} {ι : List Addr} {k : List Int} {b : Addr} {v : V} {d : D} (sk : SqT K B b (k.map V.int)) (rv : Rep K B ι v d) : ∀ {vs : List (List Int × Addr × V)} {ds : List (List Int × D)}, RepC K B ι vs ds → RepC K B ι (vs ++ [(k, b, v)]) (ds ++ [(k, d)])
  | _, _, .nil => .cons sk rv .nil
  | _, _, .cons s g r => .cons s g (repC_snoc sk rv r)
theorem repC_put {K : PySem.W.Frag} {B : Hp} {ι : List Addr} {k : List Int} {b : Addr} {v : V} {d : D} {vs : List (List Int × Addr × V)} {ds : List (List Int × D)} (r : RepC K B ι vs ds) (sk : SqT K B b (k.map V.int)) (rv : Rep K B ι v d) : RepC K B ι (putC vs k b v) (putD ds k d) := by
  unfold putC putD
  rw [repC_some k r]
  split
  · exact repC_map rv r
  · exact repC_snoc sk rv r
theorem repC_len {K : PySem.W.Frag} {B : Hp} {ι : List Addr} : ∀ {vs : List (List Int × Addr × V)} {ds : List (List Int × D)}, RepC K B ι vs ds → vs.length = ds.length
  | _, _, .nil => rfl
  | _, _, .cons _ _ r => congrArg (· + 1) (repC_len r)
section
variable {X : Cx} {pins : List (Addr × Obj)} {σ : St} {H : Hp} {s : Shared} {E : Value → Shared → Prop} {A : Around}
/-- what stands behind d[y] = v -/
def PutC (K : PySem.W.Frag) (H : Hp) (a : Addr) (y v : V) (Q : Hp → Prop) : Prop := ∃ (kvs : List (List Int × Addr × V)) (k : List Int) (b : Addr), y = .ref b ∧ H a = some (DCL a kvs) ∧ (∀ p ∈ kvs, SqT K H p.2.1 (p.1.map V.int)) ∧ SqT K H b (k.map V.int) ∧ kvs.length < sizeLine ∧ Q (upd H a (DCL a (putC kvs k b v)))
theorem c_write {a : Addr} {kvs : List (List Int × Addr × V)} {k : List Int} {b : Addr} {v : V} {r : Value} {xs : List (List Int × Addr × Value)} {h' : Heap} {t' : Nat} (I : Inv X pins σ H s) (hD : H a = some (DCL a kvs)) (hz : kvs.length < sizeLine) (hd : (a == sysModules) = false) (rel : KC kvs xs) (rv : RelV v r) (dd : h'.DictOfH (kI X.prog X.w) a (storedH xs k b r)) (hs : Heap.SameBut a s.heap h') : Inv X pins σ (upd H a (DCL a (putC kvs k b v))) { s with heap := h', toks := t' } := by
  have hl : (putC kvs k b v).length ≤ sizeLine := by have := putC_len kvs k b v; omega
  have he : ∃ q, h'.get? a = some q := let ⟨q, _, _, hq, _⟩ := dd; ⟨q, hq⟩
  exact d_write I (by rw [hD]; exact True.intro) hs he (dcl_obj hl hd (kc_put rel k b rv) dd)
theorem c_dictSet {a : Addr} {y v : V} {u r : Value} {Q : Unit → Shared → Prop} {N : Hp → Prop} (hu : X.A.units + 1 < cLine) (I : Inv X pins σ H s) (g : PutC X.K H a y v N) (ry : RelV y u) (rv : RelV v r) (h : ∀ H' s', N H' → Inv X pins σ H' s' → Q () s') : wpAny (model X.prog X.w) X.A (dictSet a u r) Q E s := by
  obtain ⟨kvs, k, b, ey, hD, hk, hb, hz, n⟩ := g
  subst ey
  cases (show u = Value.ref b from ry)
  obtain ⟨z, hd, xs, rel, dd⟩ := dcl_of I hD hk
  have hzx : xs.length ≤ sizeLine := by
    have := congrArg List.length (kc_keys rel)
    rw [List.length_map, List.length_map] at this
    omega
  exact wpAny_dictSet_heap (hsz := hzx) (show X.A.units < cLine by omega) (is_of I hb) dd fun h' dd' hs => h _ _ n (c_write I hD hz hd rel rv dd' hs)
theorem c_setItem {a : Addr} {y v : V} {u r : Value} {Q : Unit → Shared → Prop} {N : Hp → Prop} (hu : X.A.units + 1 < cLine) (I : Inv X pins σ H s) (g : PutC X.K H a y v N) (ry : RelV y u) (rv : RelV v r) (h : ∀ H' s', N H' → Inv X pins σ H' s' → Q () s') : wpAny (model X.prog X.w) X.A (setItem (.ref a) u r) Q E s := by
  obtain ⟨kvs, k, b, ey, hD, hk, hb, hz, n⟩ := g
  subst ey
  cases (show u = Value.ref b from ry)
  obtain ⟨z, hd, xs, rel, dd⟩ := dcl_of I hD hk
  have hzx : xs.length ≤ sizeLine := by
    have := congrArg List.length (kc_keys rel)
    rw [List.length_map, List.length_map] at this
    omega
  exact wpAny_setItem_heap (hsz := hzx) (tupleKind_room_in1 hu) (is_of I hb) dd fun h' dd' hs => h _ _ n (c_write I hD hz hd rel rv dd' hs)
def rSetC (K : PySem.W.Frag) : V → V → V → Hp → (Hp → Prop) → Prop := fun o i v H Q => ∃ a, o = .ref a ∧ PutC K H a i v Q
theorem set_cells (hu : X.A.units + 1 < cLine) : PSet X (rSetC X.K) := by
  intro pins s σ H o i v ov iv u Q I ro ri rv h
  obtain ⟨a, eo, g⟩ := h
  subst eo
  cases (show ov = Value.ref a from ro)
  exact c_setItem hu I g ri rv fun H' s' n I' => ⟨H', I', n⟩
end
section
variable {X : Cx}
/-- what a dict by cells that a comprehension makes asks: an iterator, and for each new dict a measure that each turn lowers -/
def tDcC (K : PySem.W.Frag) (wi : TI) (g : TG) (tt : TT) (tk tv : TE) (vs : List Nat) : TE := fun σ H Q => wi σ H fun J H1 => ∀ D, H1 D = none → ∃ W : Nat → Nat → Hp → Prop, (∃ m, W 0 m (upd H1 D (DCL D []))) ∧ ∀ i m H, W i m H →
  (J.stop i H ∧ Q (.ref D) H) ∨ (J.go i H ∧ ∃ Nx : Hp → Prop, (∀ H', Nx H' → ∃ m', m' < m ∧ W (i + 1) m' H') ∧ ∀ x H', J.yld i H x H' → g x (wipe σ vs) H' fun σ2 H2 => wipe σ2 vs = wipe σ vs ∧ tt σ2 H2 fun b H3 =>
    if b = true then tk σ2 H3 fun y H4 => tv σ2 H4 fun z H5 => PutC K H5 D y z Nx else Nx H3)
section
variable {s0 : Shared} {H0 : Hp} {scope : Scope} {ce : PySem.Env} {fp : List Addr} {σ : St} {vs : List Nat} {tn : Nat → Heap → Prop} {W : Nat → Nat → Hp → Prop}
/-- the block's loop stands at a turn, with so much ahead of it -/
def DcAt (X : Cx) (s0 : Shared) (H0 : Hp) (scope : Scope) (ce : PySem.Env) (fp : List Addr) (σ : St) (vs : List Nat) (tn : Nat → Heap → Prop) (W : Nat → Nat → Hp → Prop) (n : Nat) (s : Shared) : Prop :=
  ∃ i H, Inv (X.blk s0 H0 scope ce fp) [] (wipe σ vs) H s ∧ tn i s.heap ∧ (∀ b ∈ fp, H b = none) ∧ W i n H
theorem blk_own {τ : St} {H : Hp} {s : Shared} (J : Inv (X.blk s0 H0 scope ce fp) [] τ H s) (free : ∀ b ∈ fp, H b = none) : ∀ b ∈ fp, FpOk (X.blk s0 H0 scope ce fp) [] H b := fun b m => by
  have z := J.ok.exf b m
  exact ⟨free b m, z.1, J.ok.exfs b m, .inl m, fun x c e => z.2 x c e, fun p hp => by cases hp⟩
/-- a turn has ended: the pins of the iterator's parts are let go -/
theorem dc_at {τ : St} {H : Hp} {s s1 : Shared} {i m n : Nat} {it : Addr} {tg : Expr} {J : It} (T : Turn X.prog X.w X.K tg J fp it tn) (at_ : tn (i + 1) s1.heap) (I : Inv (X.blk s0 H0 scope ce fp) ([] ++ pinsAt fp s1.heap) τ H s) (hτ : wipe τ vs = wipe σ vs) (lt : m < n) (w : W (i + 1) m H) :
    ∃ m, m < n ∧ DcAt X s0 H0 scope ce fp σ vs tn W m s := by
  have same : ∀ b ∈ fp, ∀ o, s1.heap.get? b = some o → s.heap.get? b = some o ∧ H b = none := fun b hb o e => by
    obtain ⟨z1, z2, _⟩ := I.pin (b, o) (List.mem_append_right _ (List.mem_append_right _ (mem_pinsAt hb e)))
    exact ⟨z1, z2⟩
  refine ⟨m, lt, i + 1, H, I.unpinned.weak (by rw [← hτ, wipe_length]) (fun j v e => (wipe_some (by rw [hτ]; exact e)).1), T.keep _ _ _ at_ fun b hb o e => (same b hb o e).1, fun b hb => ?_, w⟩
  obtain ⟨o, e, _⟩ := T.obj _ _ at_ b hb
  exact (same b hb o e).2
/-- one turn that goes -/
theorem dc_turn {E : Value → Shared → Prop} {kx vx tg : Expr} {ifs : List Expr} {J : It} {it D : Addr} {i n : Nat} {H : Hp} {s : Shared} {g : TG} {tt : TT} {tk tv : TE} {Nx : Hp → Prop} (hc : X.calm = true) (hu : X.A.units + 1 < cLine) (T : Turn X.prog X.w X.K tg J fp it tn)
    (pg : PG (X.blk s0 H0 scope ce fp) tg g) (pt : PTs (X.blk s0 H0 scope ce fp) ifs tt) (pk : PE (X.blk s0 H0 scope ce fp) kx tk) (pv : PE (X.blk s0 H0 scope ce fp) vx tv)
    (I : Inv (X.blk s0 H0 scope ce fp) [] (wipe σ vs) H s) (at_ : tn i s.heap) (free : ∀ b ∈ fp, H b = none) (go : J.go i H) (nx : ∀ H', Nx H' → ∃ m', m' < n ∧ W (i + 1) m' H')
    (step : ∀ x H', J.yld i H x H' → g x (wipe σ vs) H' fun σ2 H2 => wipe σ2 vs = wipe σ vs ∧ tt σ2 H2 fun b H3 => if b = true then tk σ2 H3 fun y H4 => tv σ2 H4 fun z H5 => PutC X.K H5 D y z Nx else Nx H3) :
    wpAny (model X.prog X.w) X.A (pyNext (.ref it)) (fun r s1 => ∃ u, r = some u ∧ wpAny (model X.prog X.w) X.A (letOwnedTupleGo tg (.ref it) u) (fun _ s2 => wpAny (model X.prog X.w) X.A (assign tg ce u) (fun _ s3 =>
      wpAny (model X.prog X.w) X.A (forIn ifs true fun c r => if r = true then do let ok ← isTrue c ce (eval c ce); pure (ForInStep.yield ok) else pure (ForInStep.yield r)) (fun ok s4 => if ok = true then wpAny (model X.prog X.w) X.A (eval kx ce) (fun kv s5 => wpAny (model X.prog X.w) X.A (eval vx ce) (fun vv s6 =>
        wpAny (model X.prog X.w) X.A (dictSet D kv vv) (fun _ s7 => ∃ m, m < n ∧ DcAt X s0 H0 scope ce fp σ vs tn W m s7) E s6) E s5) E s4 else ∃ m, m < n ∧ DcAt X s0 H0 scope ce fp σ vs tn W m s4) E s3) E s2) E s1) E s := by
  refine thnF (T.item (X.blk s0 H0 scope ce fp) rfl rfl rfl hc i [] s _ H (fun _ _ => False) I (blk_own I free) at_ go) fun r s1 ⟨u, hr, h1⟩ => ⟨u, hr, thnF h1 fun _ s2 ⟨x, H2, I2, rx, yx, at2, free2⟩ => ?_⟩
  refine thnF (pg.run _ s2 _ H2 x u _ (I2.pinned (blk_own I2 free2) (T.obj _ _ at2)) rx (step x H2 yx)) fun _ s3 ⟨σ3, H3, I3, hw, q3⟩ => ?_
  refine thnF (pt.run _ s3 σ3 H3 _ I3 q3) fun b s4 ⟨H4, I4, q4⟩ => ?_
  have fin : ∀ {s' : Shared} {H' : Hp}, Inv (X.blk s0 H0 scope ce fp) ([] ++ pinsAt fp s2.heap) σ3 H' s' → Nx H' → ∃ m, m < n ∧ DcAt X s0 H0 scope ce fp σ vs tn W m s' := fun I' z => by
    obtain ⟨m, lt, w⟩ := nx _ z
    exact dc_at T at2 I' hw lt w
  cases b with
  | false =>
    simp only [Bool.false_eq_true, if_false] at q4 ⊢
    exact fin I4 q4
  | true =>
    simp only [if_true] at q4 ⊢
    exact thnF (pk.run _ s4 σ3 H4 _ I4 q4) fun kv s5 ⟨yk, H5, I5, rk, q5⟩ => thnF (pv.run _ s5 σ3 H5 _ I5 q5) fun vv s6 ⟨yv, H6, I6, rv, put⟩ => c_dictSet (X := X.blk s0 H0 scope ce fp) hu I6 put rk rv fun H' s7 z I7 => fin I7 z
/-- the block's loop -/
theorem dc_loop {kx vx tg iter : Expr} {ifs : List Expr} {pos : Pos} {J : It} {it D : Addr} {s : Shared} {g : TG} {tt : TT} {tk tv : TE} {Q : VK} {post : Result → Shared → Prop} (hc : X.calm = true) (hu : X.A.units + 1 < cLine) (T : Turn X.prog X.w X.K tg J fp it tn)
    (pg : PG (X.blk s0 H0 scope ce fp) tg g) (pt : PTs (X.blk s0 H0 scope ce fp) ifs tt) (pk : PE (X.blk s0 H0 scope ce fp) kx tk) (pv : PE (X.blk s0 H0 scope ce fp) vx tv)
    (turn : ∀ i m H, W i m H → (J.stop i H ∧ Q (.ref D) H) ∨ (J.go i H ∧ ∃ Nx : Hp → Prop, (∀ H', Nx H' → ∃ m', m' < m ∧ W (i + 1) m' H') ∧ ∀ x H', J.yld i H x H' → g x (wipe σ vs) H' fun σ2 H2 => wipe σ2 vs = wipe σ vs ∧ tt σ2 H2 fun b H3 =>
      if b = true then tk σ2 H3 fun y H4 => tv σ2 H4 fun z H5 => PutC X.K H5 D y z Nx else Nx H3))
    (stop : ∀ H' s', Inv (X.blk s0 H0 scope ce fp) [] (wipe σ vs) H' s' → Q (.ref D) H' → post (.ok .next) s') {m : Nat} (h : DcAt X s0 H0 scope ce fp σ vs tn W m s) :
    codeAny (model X.prog X.w) X.A (.compLoop (.DictComp kx vx [⟨tg, iter, ifs, 0⟩] scope pos) 0 (.ref it) (.ref D) ce) post s := by
  refine compLoop_anyD (DcAt X s0 H0 scope ce fp σ vs tn W) (fun n s1 ⟨i, H1, I1, at1, free, w⟩ => ?_) m h
  rcases turn i n H1 w with ⟨no, q⟩ | ⟨go, Nx, nx, step⟩
  · refine thnF (T.done (X.blk s0 H0 scope ce fp) rfl rfl rfl hc i [] s1 _ H1 (fun _ _ => False) I1 (blk_own I1 free) at1 no) fun r s2 ⟨hr, I2⟩ => ?_
    subst hr
    exact stop H1 s2 I2 q
  · refine thn (dc_turn hc hu T pg pt pk pv I1 at1 free go nx step) fun r s2 ⟨u, hr, h2⟩ => ?_
    subst hr
    exact h2
end
/-- a dict by cells, made by a comprehension -/
theorem pe_dcC {kx vx tg iter : Expr} {ifs : List Expr} {scope : Scope} {own : List (Str × Nat)} {pos : Pos} {wi : TI} {g : TG} {tt : TT} {tk tv : TE} (hc : X.calm = true) (hN : X.N.Nodup) (hi : PI X tg iter wi) (ok : BlkOk X.N X.env.scope scope own)
    (hg : ∀ (s : Shared) (H : Hp) (C : Addr) (cl : List (Str × Addr)) (fp : List Addr), PG (X.blk s H scope (compEnvC scope cl C X.env) fp) tg g) (ht : ∀ (s : Shared) (H : Hp) (C : Addr) (cl : List (Str × Addr)) (fp : List Addr), PTs (X.blk s H scope (compEnvC scope cl C X.env) fp) ifs tt)
    (hk : ∀ (s : Shared) (H : Hp) (C : Addr) (cl : List (Str × Addr)) (fp : List Addr), PE (X.blk s H scope (compEnvC scope cl C X.env) fp) kx tk)
    (he : ∀ (s : Shared) (H : Hp) (C : Addr) (cl : List (Str × Addr)) (fp : List Addr), PE (X.blk s H scope (compEnvC scope cl C X.env) fp) vx tv) (hu : X.A.units + 1 < cLine) (hs : ∀ x, foldedSetIterable iter X.env x = pure x := by intro _; rfl) :
    PE X (.DictComp kx vx [⟨tg, iter, ifs, 0⟩] scope pos) (tDcC X.K wi g tt tk tv (own.map (·.2))) := by
  refine ⟨fun pins s σ H Q I h => ?_⟩
  rw [arm_eval_DictComp]
  have hfree : ∀ y ∈ scope.names, y.2 = .free → ∃ c, X.env.cells.lookup y.1 = some c := fun y hy e => I.ok.has _ ((ok.free y hy e).imp id id)
  refine wpAny_comprehension_free (use := none) rfl hs (closure_ok hfree) ok.kind (fun y hy e => by rw [ok.uniq y hy, e]) (thn (hi.run pins s σ H _ I h) fun xv s1 hx => thn hx fun itv s2 ⟨it, fp, tn, J, H2, e, I2, T, at2, own2, q⟩ => ?_)
  subst e
  refine wpAny_newObj_type (newEnv_comp ?_)
  have hDn : H2 s2.heap.objs.size = none := I2.hok.fresh (Nat.le_refl _)
  obtain ⟨W, ⟨m0, w0⟩, turn⟩ := q _ hDn
  have I3 : Inv X pins σ (upd H2 s2.heap.objs.size (DCL s2.heap.objs.size [])) { s2 with heap := s2.heap.push { cls := .type "dict", data := .dict #[] } } :=
    I2.laid (t' := s2.toks) (fun b o e => Heap.get?_push_of_some _ e) (Nat.le_refl _) (dcl_obj (Nat.zero_le _) (beq_eq_false_iff_ne.mpr (Nat.ne_of_gt I2.big)) .nil (Heap.DictOfH.new s2.heap))
  generalize hs3 : ({ s2 with heap := s2.heap.push { cls := .type "dict", data := .dict #[] } } : Shared) = s3 at I3
  have h3 : s3.heap = s2.heap.push { cls := .type "dict", data := .dict #[] } := by rw [← hs3]
  have lt : ∀ b ∈ fp, b < s2.heap.objs.size := fun b hb => by
    obtain ⟨o, e, _⟩ := T.obj _ _ at2 b hb
    exact Heap.lt_size e
  have own3 : ∀ b ∈ fp, FpOk X pins (upd H2 s2.heap.objs.size (DCL s2.heap.objs.size [])) b ∧ b < s3.heap.objs.size := fun b hb => by
    refine ⟨⟨?_, (own2 b hb).2⟩, by rw [h3, Heap.size_push]; exact Nat.lt_succ_of_lt (lt b hb)⟩
    rw [upd_ne (Nat.ne_of_lt (lt b hb))]
    exact (own2 b hb).1
  have at3 : tn 0 s3.heap := T.keep _ _ _ at2 fun b _ o e => by rw [h3]; exact Heap.get?_push_of_some _ e
  have I4 := block_start I3 ok hN own3
  have pg := hg s3 (upd H2 s2.heap.objs.size (DCL s2.heap.objs.size [])) s3.heap.objs.size (cellsFrom (s3.heap.objs.size + 1) scope.names (cloFrom X.env.cells scope.names [])) fp
  have pt := ht s3 (upd H2 s2.heap.objs.size (DCL s2.heap.objs.size [])) s3.heap.objs.size (cellsFrom (s3.heap.objs.size + 1) scope.names (cloFrom X.env.cells scope.names [])) fp
  have pk := hk s3 (upd H2 s2.heap.objs.size (DCL s2.heap.objs.size [])) s3.heap.objs.size (cellsFrom (s3.heap.objs.size + 1) scope.names (cloFrom X.env.cells scope.names [])) fp
  have pv := he s3 (upd H2 s2.heap.objs.size (DCL s2.heap.objs.size [])) s3.heap.objs.size (cellsFrom (s3.heap.objs.size + 1) scope.names (cloFrom X.env.cells scope.names [])) fp
  generalize hce : compEnvC scope (cellsFrom (s3.heap.objs.size + 1) scope.names (cloFrom X.env.cells scope.names [])) s3.heap.objs.size X.env = ce at I4 pg pt pk pv
  have cL : ce.locals = s3.heap.objs.size := by subst hce; rfl
  have start : DcAt X s3 (upd H2 s2.heap.objs.size (DCL s2.heap.objs.size [])) scope ce fp σ (own.map (·.2)) tn W m0 { s3 with heap := pushCells (s3.heap.push { cls := .type "dict", data := .dict #[] }) scope.names } :=
    ⟨0, _, I4, T.keep _ _ _ at3 fun b _ o e => pushCells_keeps _ _ _ _ (Heap.get?_push_of_some _ e), fun b hb => (own3 b hb).1.1, w0⟩
  show codeAny _ _ (.compStart (.DictComp kx vx [⟨tg, iter, ifs, 0⟩] scope pos) 0 (.ref it) (.ref s2.heap.objs.size) (compEnvC scope (cellsFrom (s3.heap.objs.size + 1) scope.names (cloFrom X.env.cells scope.names [])) s3.heap.objs.size X.env)) (compPost (model X.prog X.w) X.A X.xe none (EP X pins σ Q) (.ref s2.heap.objs.size) s3.heap.objs.size) { s3 with heap := pushCells (s3.heap.push { cls := .type "dict", data := .dict #[] }) scope.names }
  rw [hce]
  have loop := dc_loop (X := X) (iter := iter) (pos := pos) (post := compPost (model X.prog X.w) X.A X.xe none (EP X pins σ Q) (.ref s2.heap.objs.size) s3.heap.objs.size) hc hu T pg pt pk pv turn (fun H' s' I' q' => ?_) start
  · exact codeAny_compStart_dict loop (T.self X.A 0 _ _ _ (T.keep _ _ _ at3 fun b _ o e => pushCells_keeps _ _ _ _ (Heap.get?_push_of_some _ e)) loop)
  · have back : Inv X pins σ H' s' := I3.call' (ch := fp) I'.os I'.base I'.hok I'.bare fun b hb => ⟨(own3 b hb).1.2.2.2.1, (own3 b hb).1.2.1, (own3 b hb).1.2.2.2.2.1, (own3 b hb).1.2.2.2.2.2⟩
    have nC : H' s3.heap.objs.size = none := by
      have z : H' ce.locals = none := I'.free
      rw [cL] at z
      exact z
    obtain ⟨m, hn, _⟩ := I'.loc
    have hn : s'.heap.Ns ce.locals m := hn
    rw [cL] at hn
    obtain ⟨f0, f1, f2, f3, f4, f5⟩ := I3.fpOk (Nat.le_refl _) nC
    exact ⟨m, hn, fun h2 sb => ⟨.ref s2.heap.objs.size, H', back.turned (t' := s'.toks) (fun b o hb e => (sb.2 b hb).trans e) f0 f1 f3 f4 f5, rfl, q'⟩⟩
end
end Pl
namespace Pl
open PySem L2
def keyC : D → Option (List Int)
  | .tup ks => intsOf ks
  | _ => none
noncomputable def dcGo (g : GF) (t : TF) (fk fv : EF) : List D → List (List Int × D) → Env → Mh → Option (List (List Int × D) × Mh)
  | [], kvs, _, M => some (kvs, M)
  | x :: xs, kvs, δ, M => match g x δ with
    | none => none
    | some δ1 => match t δ1 M with
      | some (true, M1) => (match fk δ1 M1 with
        | some (kd, M2) => (match fv δ1 M2 with
          | some (v, M3) => (match keyC kd with
            | some k => if kvs.length < sizeLine then dcGo g t fk fv xs (putD kvs k v) δ M3 else none
            | none => none)
          | none => none)
        | none => none)
      | some (false, M1) => dcGo g t fk fv xs kvs δ M1
      | none => none
noncomputable def eDcC (vs : List Nat) (a : AF) (g : GF) (t : TF) (fk fv : EF) : EF := fun δ M => match a δ M with
  | some (ds, M1) => (match dcGo g t fk fv ds [] (wipeD δ vs) M1 with
    | some (kvs, M2) => some (.ref M2.length, M2 ++ [.dct kvs])
    | none => none)
  | none => none
section
variable {I : Type} {X : I → Cx} {P : Program} {w : World} {K : PySem.W.Frag} {mg : Str → Option Value} {base : Heap} {k : Nat}
theorem key_rep {W : Wd} {M : Mh} {x : V} {d : D} {ks : List Int} (w : W.Ok K M) (r : Rep K W.B W.ι x d) (h : keyC d = some ks) : ∃ b, x = .ref b ∧ SqT K W.B b (ks.map V.int) := by
  cases r with
  | tup h1 rl =>
    have e := rep_ints rl h
    subst e
    exact ⟨_, rfl, h1⟩
  | _ => cases h
theorem DE.dcC (c : Ctx X P w K mg base k) {kx vx tg iter : Expr} {ifs : List Expr} {scope : Scope} {own : List (Str × Nat)} {pos} {a : AF} {g : GF} {t : TF} {fk fv : EF} {sl : List Nat} (hN : ∀ i, (X i).N.Nodup) (hi : DI X K tg iter a) (ok : ∀ i, BlkOk (X i).N (X i).env.scope scope own)
    (hg : DG (blkF X scope) K tg g sl) (hsl : ∀ j ∈ sl, j ∈ own.map (·.2)) (ht : DTs (blkF X scope) K ifs t) (hk : DE (blkF X scope) K kx fk) (he : DE (blkF X scope) K vx fv) (hs : ∀ i x, foldedSetIterable iter (X i).env x = pure x := by intro _ _; rfl) :
    DE X K (.DictComp kx vx [⟨tg, iter, ifs, 0⟩] scope pos) (eDcC (own.map (·.2)) a g t fk fv) := by
  obtain ⟨ti, pi, ri⟩ := hi.go
  obtain ⟨tg', pg, rg⟩ := hg.go
  obtain ⟨tt, pt, rt⟩ := ht.go
  obtain ⟨tk, pk, rk⟩ := hk.go
  obtain ⟨te, pe, re⟩ := he.go
  refine ⟨tDcC K ti tg' tt tk te (own.map (·.2)), fun i => ?_, fun σ W δ M d M' Q w s e q => ?_⟩
  · have h := pe_dcC (X := X i) (pos := pos) (c.calm i) (hN i) (pi i) (ok i) (fun s H C cl fp => pg (i, s, H, C, cl, fp)) (fun s H C cl fp => pt (i, s, H, C, cl, fp)) (fun s H C cl fp => pk (i, s, H, C, cl, fp)) (fun s H C cl fp => pe (i, s, H, C, cl, fp)) (hu1 (c.room i)) (hs i)
    rw [c.K i] at h
    exact h
  · unfold eDcC at e
    split at e
    · rename_i ds M1 h1
      split at e
      · rename_i fin M2 h2
        cases e
        refine ri σ W δ M ds M1 _ w s h1 fun J W1 l1 w1 wk => fun p hp => ?_
        have P0 : W1.P p = none := w1.pnone hp
        have B0 : W1.B p = none := w1.bnone hp
        refine ⟨fun i m H => ∃ (W' : Wd) (N : Mh) (acc : List (List Int × Addr × V)) (ac : List (List Int × D)), W'.H = H ∧ W1.Le (W'.mk' W'.H W1.P) ∧ W'.P = upd W1.P p (DCL p acc) ∧ W'.Ok K N ∧ RepC K W'.B W'.ι acc ac ∧ i + m = ds.length ∧ dcGo g t fk fv (ds.drop i) ac (wipeD δ (own.map (·.2))) N = some (fin, M2),
          ⟨ds.length, W1.hold p (DCL p []), M1, [], [], rfl, ⟨fun _ _ h => h, ⟨[], by simp [Wd.mk', Wd.hold]⟩, rfl⟩, rfl, Wd.hold_ok w1 hp, .nil, by omega, h2⟩, ?_⟩
        rintro i m H ⟨W', N, acc, ac, rfl, l', hP, w', ra, em, e'⟩
        obtain ⟨k1, k2⟩ := wk i W' N ⟨l'.same, l'.pre⟩ w'
        cases hd : ds[i]? with
        | none =>
          have hl : ds.length ≤ i := List.getElem?_eq_none_iff.mp hd
          rw [List.drop_of_length_le hl] at e'
          cases e'
          have hh : upd W'.H p (DCL p acc) = W'.H := by
            funext b
            by_cases z : b = p
            · subst z
              rw [upd_same]
              exact ((w'.pin b (DCL b acc) (by rw [hP, upd_same])).1).symm
            · exact upd_ne z
          have u := Wd.unhold_new (o' := DCL p acc) (m := .dct fin) w' hP P0 (.dct ra)
          rw [hh] at u
          refine .inl ⟨k1 hd, q _ ⟨W'.H, W'.B, W'.ι ++ [p], W1.P⟩ (l1.trans ⟨l'.same, ?_, rfl⟩) u (.ref ?_)⟩
          · obtain ⟨z, hz⟩ := l'.pre
            exact ⟨z ++ [p], by rw [← List.append_assoc]; exact congrArg (· ++ [p]) hz⟩
          · show (W'.ι ++ [p])[M2.length]? = some p
            rw [← w'.len]
            simp
        | some x0 =>
          obtain ⟨hgo, hy⟩ := k2 x0 hd
          have hl : i < ds.length := (List.getElem?_eq_some_iff.mp hd).1
          have hdr : ds.drop i = x0 :: ds.drop (i + 1) := by
            rw [List.drop_eq_getElem_cons hl]
            congr 1
            exact Option.some.inj ((List.getElem?_eq_getElem hl).symm.trans hd)
          rw [hdr] at e'
          unfold dcGo at e'
          refine .inr ⟨hgo, fun H2 => ∃ (W2 : Wd) (N2 : Mh) (acc2 : List (List Int × Addr × V)) (ac2 : List (List Int × D)), W2.H = H2 ∧ W1.Le (W2.mk' W2.H W1.P) ∧ W2.P = upd W1.P p (DCL p acc2) ∧ W2.Ok K N2 ∧ RepC K W2.B W2.ι acc2 ac2 ∧ dcGo g t fk fv (ds.drop (i + 1)) ac2 (wipeD δ (own.map (·.2))) N2 = some (fin, M2),
            fun H2 ⟨W2, N2, acc2, ac2, a1, a2, a3, a4, a5, a6⟩ => ⟨m - 1, by omega, W2, N2, acc2, ac2, a1, a2, a3, a4, a5, by omega, a6⟩, fun x H' y => ?_⟩
          obtain ⟨W3, rfl, l3, w3, r3⟩ := hy x H' y
          have sw : Slots K W3 (L2.wipe σ (own.map (·.2))) (wipeD δ (own.map (·.2))) := ((((s.le l1).wipe (own.map (·.2))).le l').cong (W' := W') rfl rfl).le l3
          split at e'
          · cases e'
          · rename_i δ1 h3
            refine rg x x0 _ W3 _ δ1 N _ w3 sw r3 h3 fun σ3 s3 hw => ⟨(hw (own.map (·.2)) hsl).trans (wipe_twice σ (own.map (·.2))), ?_⟩
            split at e'
            · rename_i N1 h4
              refine rt σ3 W3 δ1 N _ N1 _ w3 s3 h4 fun W4 l4 w4 => ifT ?_
              split at e'
              · rename_i kd N2 h5
                split at e'
                · rename_i v0 N3 h6
                  split at e'
                  · rename_i ks hks
                    split at e'
                    · rename_i hz
                      refine rk σ3 W4 δ1 N1 kd N2 _ w4 (s3.le l4) h5 fun kv W5 l5 w5 r5 => ?_
                      refine re σ3 W5 δ1 N2 v0 N3 _ w5 ((s3.le l4).le l5) h6 fun v W6 l6 w6 r6 => ?_
                      have l36 : W'.Le W6 := ((l3.trans l4).trans l5).trans l6
                      have p6 : W6.P = upd W1.P p (DCL p acc) := l36.pp.trans hP
                      have p6' : W6.P p = some (DCL p acc) := by rw [p6, upd_same]
                      have ra6 := ra.mono (K := K) l36.same l36.ix
                      obtain ⟨b, eb, sb⟩ := key_rep w6 (r5.le l6) hks
                      refine ⟨acc, ks, b, eb, (w6.pin p _ p6').1, fun q hq => sqT_mono w6.sub (repC_keys ra6 q hq), sqT_mono w6.sub sb, by rw [repC_len ra6]; exact hz, ⟨upd W6.H p (DCL p (putC acc ks b v)), W6.B, W6.ι, upd W6.P p (DCL p (putC acc ks b v))⟩, N3, putC acc ks b v, putD ac ks v0, rfl, l'.trans ⟨l36.same, l36.pre, rfl⟩, ?_, Wd.hold_put w6 p6', repC_put ra6 sb r6, e'⟩
                      show upd W6.P p _ = _
                      rw [p6, upd_upd]
                    · cases e'
                  · cases e'
                · cases e'
              · cases e'
            · rename_i N1 h4
              refine rt σ3 W3 δ1 N _ N1 _ w3 s3 h4 fun W4 l4 w4 => ifF ?_
              have l34 : W'.Le W4 := l3.trans l4
              exact ⟨W4, N1, acc, ac, rfl, l'.trans ⟨l34.same, l34.pre, rfl⟩, l34.pp.trans hP, w4, ra.mono l34.same l34.ix, e'⟩
            · cases e'
      · cases e
    · cases e
theorem dct_alive {W : Wd} {M : Mh} {n : Nat} {x : V} {kvs : List (List Int × D)} (w : W.Ok K M) (r : Rep K W.B W.ι x (.ref n)) (h : M[n]? = some (.dct kvs)) : ∃ a vs, x = .ref a ∧ Live W M n a (.dct kvs) ∧ W.H a = some (DCL a vs) ∧ RepC K W.B W.ι vs kvs := by
  cases r with
  | ref hi =>
    rename_i a
    have lv : Live W M n a (.dct kvs) := ⟨hi, h, fun z => nomatch z⟩
    obtain ⟨_, _, o, ho, ro⟩ := w.live n _ _ lv
    cases ro with
    | dct rc => exact ⟨_, _, rfl, lv, ho, rc⟩
def gCput : D → D → D → Mh → Option Mh := fun o i v M => match o with
  | .ref n => (match M[n]?, keyC i with
    | some (.dct kvs), some k => if kvs.length < sizeLine then some (M.set n (.dct (putD kvs k v))) else none
    | _, _ => none)
  | _ => none
theorem cput_rep {W : Wd} {M M' : Mh} {x y v : V} {o i d : D} {σ : St} {δ : Env} {N : Hp → Prop} (w : W.Ok K M) (rx : Rep K W.B W.ι x o) (ry : Rep K W.B W.ι y i) (rv : Rep K W.B W.ι v d) (h : gCput o i d M = some M') (q : ∀ W', W.Le W' → W'.Ok K M' → N W'.H) : ∃ a, x = .ref a ∧ PutC K W.H a y v N := by
  unfold gCput at h
  split at h
  · rename_i n
    split at h
    · rename_i kvs ks h1 h2
      split at h
      · rename_i hl
        cases h
        obtain ⟨a, vs, rfl, lv, ha, rc⟩ := dct_alive w rx h1
        obtain ⟨b, rfl, sb⟩ := key_rep w ry h2
        exact ⟨a, rfl, vs, ks, b, rfl, ha, fun p hp => sqT_mono w.sub (repC_keys rc p hp), sqT_mono w.sub sb, by rw [repC_len rc]; exact hl, q (W.put a (DCL a (putC vs ks b v))) Wd.put_le (Wd.put_ok w lv (.dct (repC_put rc sb rv)))⟩
      · cases h
    · cases h
  · cases h
def sCput (f g h : EF) : SF := fun δ M => match h δ M with
  | some (v, M1) => (match f δ M1 with
    | some (o, M2) => (match g δ M2 with
      | some (i, M3) => (match gCput o i v M3 with
        | some M4 => some (.nx δ M4)
        | none => none)
      | none => none)
    | none => none)
  | none => none
theorem DS.cput (c : Ctx X P w K mg base k) {o i v : Expr} {pos pos'} {f g h : EF} (ho : DE X K o f) (hi : DE X K i g) (hv : DE X K v h) (hs : ∀ j, swapsWithSole [.Subscript o i pos'] v pos.line (X j).env = pure false := by intro _; rfl) (hw : ∀ j, swappedStores [.Subscript o i pos'] v (X j).env = pure none := by intro _; rfl)
    (h1 : ∀ j, (assignEach [.Subscript o i pos'] (X j).env).map (·.2) = [assign (.Subscript o i pos') (X j).env] := by intro _; rfl)
    (ha : ∀ j u, assign (.Subscript o i pos') (X j).env u = (do
      let ov ← holding [u] (eval o (X j).env)
      let iv ← holding [u, ov] (eval i (X j).env)
      standAt pos'
      holding [u, ov, iv] (setItem ov iv u)
      release [u, ov, iv] []) := by intro _ _; rfl) : DS X K (.Assign [.Subscript o i pos'] v pos) (sCput f g h) := by
  obtain ⟨to, po, ro⟩ := ho.go
  obtain ⟨ti, pi, ri⟩ := hi.go
  obtain ⟨tv, pv', rv⟩ := hv.go
  refine ⟨tAsg tv (gSub to ti (rSetC K)), fun j => ?_, fun σ W δ M out E w s e q => ?_⟩
  · have hset := set_cells (X := X j) (hu1 (c.room j))
    rw [c.K j] at hset
    exact ps_asg (pv' j) (pg_sub (po j) (pi j) hset (ha j)) (hs j) (hw j) (h1 j)
  · unfold sCput at e
    split at e
    · rename_i vd M1 e1
      split at e
      · rename_i od M2 e2
        split at e
        · rename_i id M3 e3
          split at e
          · rename_i M4 e4
            cases e
            exact rv σ W δ M vd M1 _ w s e1 fun v W1 l1 w1 r1 => ro σ W1 δ M1 od M2 _ w1 (s.le l1) e2 fun x W2 l2 w2 r2 => ri σ W2 δ M2 id M3 _ w2 (s.le (l1.trans l2)) e3 fun y W3 l3 w3 r3 =>
              cput_rep (σ := σ) (δ := δ) w3 (r2.le l3) r3 (r1.le (l2.trans l3)) e4 fun W4 l4 w4 => q σ W4 (((l1.trans l2).trans l3).trans l4) w4 (s.le (((l1.trans l2).trans l3).trans l4))
          · cases e
        · cases e
      · cases e
    · cases e
end
end Pl
namespace Pl
open PySem PySem.Spec PyProof.Rows L2
end Pl
namespace Pl
open PySem L2
end Pl
namespace Pl
open PySem PySem.Spec PyProof.Rows L2
end Pl
namespace Pl
open PySem PySem.Spec PyProof.Rows L2 HT
end Pl
namespace Pl
open PySem PySem.Spec PyProof.Rows L2
end Pl
namespace Pl
open PySem L2
open PyProof.Rows (envOfC)
section
variable {I : Type} {X : I → Cx} {P : Program} {w : World} {K : PySem.W.Frag} {mg : Str → Option Value} {base : Heap} {k : Nat}
theorem RepF.getN {B : Hp} {ι : List Addr} : ∀ {vs : List (Str × V)} {ds : List (Str × D)} {f : Str}, RepF K B ι vs ds → ds.lookup f = none → vs.lookup f = none
  | _, _, _, .nil, _ => rfl
  | _, _, f, .cons (f := g) h r, e => by
    rw [List.lookup_cons] at e ⊢
    by_cases q : f == g
    · rw [q] at e
      cases e
    · have q' : (f == g) = false := by simpa using q
      rw [q'] at e ⊢
      exact r.getN e
def putFD (f : Str) (d : D) : List (Str × D) → List (Str × D)
  | [] => [(f, d)]
  | (g, e) :: xs => if g = f then (g, d) :: xs else (g, e) :: putFD f d xs
theorem RepF.put {B : Hp} {ι : List Addr} {v : V} {d : D} {f : Str} (r : Rep K B ι v d) : ∀ {vs : List (Str × V)} {ds : List (Str × D)}, RepF K B ι vs ds → RepF K B ι (putF f v vs) (putFD f d ds)
  | _, _, .nil => .cons r .nil
  | _, _, .cons (f := g) h t => by
    unfold putF putFD
    by_cases e : g = f
    · rw [if_pos e, if_pos e]
      exact .cons r t
    · rw [if_neg e, if_neg e]
      exact .cons h (t.put r)
theorem ins_live {W : Wd} {M : Mh} {x : V} {n : Nat} {C : Addr} {fs : List (Str × D)} (w : W.Ok K M) (r : Rep K W.B W.ι x (.ref n)) (hm : M[n]? = some (.ins C fs)) :
    ∃ a dx vs, x = .ref a ∧ W.H a = some (.ins C dx vs) ∧ Live W M n a (.ins C fs) ∧ W.B dx = some (.own a) ∧ RepF K W.B W.ι vs fs := by
  cases r with
  | ref h =>
    have lv : Live W M n _ (.ins C fs) := ⟨h, hm, fun z => by cases z⟩
    obtain ⟨_, _, o, ho, ro⟩ := w.live _ _ _ lv
    cases ro with
    | ins g rf => exact ⟨_, _, _, rfl, ho, lv, g, rf⟩
/-- o.f -/
def eFl (cs : List Addr) (f : Str) (fo : EF) : EF := fun δ M => match fo δ M with
  | some (.ref n, M1) => (match M1[n]? with
    | some (.ins C fs) => if C ∈ cs then (fs.lookup f).map fun d => (d, M1) else none
    | _ => none)
  | _ => none
theorem DE.fl {cs : List Addr} {f : Str} (hc : ∀ C ∈ cs, Cls K C ∧ NoAttr K C f) (c : Ctx X P w K mg base k) {o : Expr} {pos : Pos} {fo : EF} (b : DE X K o fo) (hb : ∀ i, attributeBase o f (X i).env (eval o (X i).env) = eval o (X i).env := by intro _; rfl) : DE X K (.Attribute o f pos) (eFl cs f fo) := by
  obtain ⟨tO, po, ro⟩ := b.go
  refine ⟨tFld K tO f, fun i => ?_, fun σ W δ M d M' Q w s ev q => ?_⟩
  · have h := pe_fld (X := X i) (pos := pos) (po i) (hb i)
    rw [c.K i] at h
    exact h
  · unfold eFl at ev
    split at ev
    · rename_i n M1 h1
      refine ro σ W δ M _ M1 _ w s h1 fun u W1 l1 w1 r1 => ?_
      split at ev
      · rename_i C fs hm
        split at ev
        · rename_i hf
          cases hl : fs.lookup f with
          | none =>
            rw [hl] at ev
            cases ev
          | some z =>
            rw [hl] at ev
            cases ev
            obtain ⟨a, dx, vs, rfl, ha, lv, hd, rf⟩ := ins_live w1 r1 hm
            obtain ⟨v, e1, e2⟩ := rf.get hl
            exact ⟨a, C, dx, vs, v, rfl, ha, (hc C hf).1, (hc C hf).2, e1, q v W1 l1 w1 e2⟩
        · cases ev
      · cases ev
    · cases ev
/-- o.f = e -/
def sFl (cs : List Addr) (f : Str) (fo fv : EF) : SF := fun δ M => match fv δ M with
  | some (v, M1) => (match fo δ M1 with
    | some (.ref n, M2) => (match M2[n]? with
      | some (.ins C fs) => if C ∈ cs ∧ fs.length < 1000 then some (.nx δ (M2.set n (.ins C (putFD f v fs)))) else none
      | _ => none)
    | _ => none)
  | none => none
theorem RepF.length {B : Hp} {ι : List Addr} {vs : List (Str × V)} {ds : List (Str × D)} (r : RepF K B ι vs ds) : vs.length = ds.length := r.len
theorem DS.fl {cs : List Addr} {f : Str} (hc : ∀ C ∈ cs, Cls K C ∧ NoAttr K C f) (c : Ctx X P w K mg base k) {o value : Expr} {pos pos' : Pos} {fo fv : EF} (b : DE X K o fo) (bv : DE X K value fv) (hs : ∀ i, swapsWith value (some (o.Attribute f pos')) pos.line (X i).env = pure false := by intro _; rfl) :
    DS X K (.Assign [.Attribute o f pos'] value pos) (sFl cs f fo fv) := by
  obtain ⟨tO, po, ro⟩ := b.go
  obtain ⟨tV, pv', rv⟩ := bv.go
  refine ⟨sFld K tO tV f, fun i => ?_, fun σ W δ M out E w s e q => ?_⟩
  · have h := ps_fld (X := X i) (pos := pos) (pos' := pos') (f := f) (po i) (pv' i) (hs i)
    rw [c.K i] at h
    exact h
  · unfold sFl at e
    split at e
    · rename_i v M1 h1
      split at e
      · rename_i n M2 h2
        split at e
        · rename_i C fs hm
          split at e
          · rename_i hf
            cases e
            refine rv σ W δ M v M1 _ w s h1 fun y W1 l1 w1 r1 => ?_
            refine ro σ W1 δ M1 _ M2 _ w1 (s.le l1) h2 fun u W2 l2 w2 r2 => ?_
            obtain ⟨a, dx, vs, rfl, ha, lv, hd, rf⟩ := ins_live w2 r2 hm
            refine ⟨a, C, dx, vs, rfl, ha, (hc C hf.1).1, (hc C hf.1).2, by rw [rf.len]; exact hf.2, ?_⟩
            exact q σ (W2.put a (.ins C dx (putF f y vs))) ((l1.trans l2).trans Wd.put_le) (Wd.put_ok w2 lv (.ins hd (RepF.put (r1.le l2) rf))) ((s.le (l1.trans l2)).le Wd.put_le)
          · cases e
        · cases e
      · cases e
    · cases e
/-- a class is called: its __init__ runs -/
theorem run_makeD {Y : Cx} {pins : List (Addr × Obj)} {σ : L2.St} {H : Hp} {s : Shared} {Q : VK} {C f : Addr} {fd : FuncData} {ps : List Str} {F : Fn} {kf : Nat} {us : List Value} {vs dvs : List V} {dsv : List Value} (M : Mk Y.K C f) (h : DFn Y.prog Y.w Y.K Y.mg Y.base kf f fd ps F) (hr : Room (kf + 1) Y.A) (grd : Y.A.guards = some [])
    (hb : Binds Y.K fd ps dsv) (hd : Vals dvs dsv) (J : Inv Y pins σ H s) (r : Vals vs us) (hl : vs.length + dvs.length + 1 = ps.length)
    (q : ∀ x dx, H x = none → H dx = none → dx ≠ x → spD Y.K ps.length F (.ref x :: (vs ++ dvs)) (upd (upd H dx (.own x)) x (.ins C dx [])) fun v H2 => v = .non ∧ Q (.ref x) H2) : wpAny (model Y.prog Y.w) Y.A (call (.ref C) us) (EP Y pins σ Q) Y.xe s := by
  have hq := q (s.heap.objs.size + 1) s.heap.objs.size (J.hok.fresh (Nat.le_succ _)) (J.hok.fresh (Nat.le_refl _)) (Nat.ne_of_lt (Nat.lt_succ_self _))
  have I2 := J.made (C := C)
  have r2 : Vals (V.ref (s.heap.objs.size + 1) :: (vs ++ dvs)) (Value.ref (s.heap.objs.size + 1) :: (us ++ dsv)) := .cons rfl (r.append hd)
  have le : (Value.ref (s.heap.objs.size + 1) :: us ++ dsv).length = ps.length := by
    have e := r2.length
    rw [List.length_cons, List.length_append] at e
    rw [← hl]
    exact e.symm
  refine wpAny_call (make_map J.kIn M.makes M.init (beq_iff_eq.mp M.fn) (codeAny_mono (h.run _ Y.stack _ _ ⟨Value.ref (s.heap.objs.size + 1) :: us, []⟩ (Value.ref (s.heap.objs.size + 1) :: (us ++ dsv)) _ _ (hr.make C us []) ?_ (I2.env0.make C us []) (hb _ (Value.ref (s.heap.objs.size + 1) :: us) I2.kIn le) r2 hq) fun o s' ho => ?_))
  · unfold Around.under
    dsimp only
    rw [grd]
    rfl
  · match o, ho with
    | .ok (.ret u), ho =>
      obtain ⟨v, H', I3, rv, ev, q3⟩ := I2.after ho
      subst ev
      exact ⟨rv, V.ref (s.heap.objs.size + 1), H', I3, rfl, q3⟩
    | .ok .next, ho => exact False.elim ho
    | .ok .brk, ho => exact False.elim ho
    | .ok .cont, ho => exact False.elim ho
    | .error _, ho => exact False.elim ho
def eMake (C : Addr) (F : Fn) (g : AF) (dds : List D) : EF := fun δ M => match g δ M with
  | some (ds, M1) => (match F (.ref M1.length :: (ds ++ dds)) (M1 ++ [MO.ins C []]) with
    | some (.non, M2) => some (.ref M1.length, M2)
    | _ => none)
  | none => none
/-- a class that is called -/
structure LkC (P : Program) (w : World) (K : PySem.W.Frag) (mg : Str → Option Value) (base : Heap) (x : Str) (C : Addr) (k : Nat) (ps : List Str) (F : Fn) (dds : List D) : Prop where
  go : ∃ (f : Addr) (fd : FuncData) (dvs : List V) (dsv : List Value), Mk K C f ∧ DFn P w K mg base k f fd ps F ∧ mg x = some (.ref C) ∧ Vals dvs dsv ∧ Binds K fd ps dsv ∧ ∀ B ι, RepL K B ι dvs dds
theorem DE.make (c : Ctx X P w K mg base k) {x : Str} {p pos : Pos} {e : Expr} {es : List Expr} {g : AF} {C : Addr} {ps : List Str} {F : Fn} {kf : Nat} {dds : List D} (h : LkC P w K mg base x C kf ps F dds) (hk : kf + 1 ≤ k)
    (hn : (e :: es).length + dds.length + 1 = ps.length) (ha : DA X K (e :: es) g) (hlen : ∀ δ M ds M', g δ M = some (ds, M') → ds.length = (e :: es).length) (hg : ∀ i, Gl (X i) x := by intro _; rfl)
    (hdbg : (x == ("__debug__" : Str)) = false := by decide) (he : ∀ i, starEach (e :: es) (X i).env = (false, eval e (X i).env) :: starEach es (X i).env := by intro _; rfl) (hpl : ∀ i, (backTo pos (starEach es (X i).env)).any (·.1) = false := by intro _; rfl) :
    DE X K (.Call (.Name x p) (e :: es) [] pos) (eMake C F g dds) := by
  obtain ⟨f, fd, dvs, dsv, mk, hD, hm, hd, hb, hr⟩ := h.go
  obtain ⟨t, pa, ra⟩ := ha.go
  refine ⟨fun σ H Q => t σ H fun vs H1 => vs.length + dvs.length + 1 = ps.length ∧ ∀ a dx, H1 a = none → H1 dx = none → dx ≠ a → spD K ps.length F (.ref a :: (vs ++ dvs)) (upd (upd H1 dx (.own a)) a (.ins C dx [])) fun v H2 => v = .non ∧ Q (.ref a) H2, fun i => ⟨fun pins s σ H Q J q => ?_⟩, fun σ W δ M d M' Q w s ev q => ?_⟩
  · have cK := c.K i
    refine wpAny_Call_Name_kw (ld_glob J (hg i) (by rw [c.mg i]; exact hm) ?_ hdbg)
    refine PySem.W.callWith_K (h₀ := (X i).base) J.ok.mod.kin (by rw [cK]; exact mk.kp) (thn ((pa i).run pos pins s σ H _ J q) fun us s1 ⟨vs, H1, J1, r, hv, q1⟩ => ⟨J1.kIn, ?_⟩) (he i) (hpl i)
    have h' : DFn (X i).prog (X i).w (X i).K (X i).mg (X i).base kf f fd ps F := by
      rw [c.prog i, c.wd i, c.K i, c.mg i, c.base i]
      exact hD
    refine run_makeD (by rw [cK]; exact mk) h' ((c.room i).mono hk) (c.grd i) (by rw [cK]; exact hb) hd J1 r hv (by rw [cK]; exact q1)
  · unfold eMake at ev
    split at ev
    · rename_i ds M1 h1
      refine ra σ W δ M ds M1 _ w s h1 fun vs W1 l1 w1 r1 => ⟨?_, fun a dx na ndx ne => ?_⟩
      · rw [r1.len, hlen _ _ _ _ h1, (hr W1.B W1.ι).len]
        exact hn
      · split at ev
        · rename_i M2 h2
          cases ev
          have wl := Wd.lay_ok (o := .own a) w1 ndx
          have na' : (W1.lay dx (.own a)).H a = none := (upd_ne (Ne.symm ne)).trans na
          have ll : W1.Le (W1.lay dx (.own a)) := Wd.lay_le w1 ndx
          have wn := Wd.new_ok (o := .ins C dx []) (m := .ins C []) wl na' (.ins upd_same .nil)
          have ln : (W1.lay dx (.own a)).Le ((W1.lay dx (.own a)).new a (.ins C dx [])) := Wd.new_le
          have ra' : Rep K ((W1.lay dx (.own a)).new a (.ins C dx [])).B ((W1.lay dx (.own a)).new a (.ins C dx [])).ι (.ref a) (.ref M1.length) := by
            refine .ref ?_
            show (W1.ι ++ [a])[M1.length]? = some a
            rw [← w1.len]
            simp
          refine ⟨_, _, _, _, _, rfl, wn, .cons ra' ((r1.le (ll.trans ln)).append (hr _ _)), ?_, h2, fun v W3 l3 w3 r3 => ?_⟩
          · rw [List.length_cons, List.length_append, hlen _ _ _ _ h1]
            exact hn
          · cases r3
            exact ⟨rfl, q _ W3 (l1.trans ((ll.trans ln).trans l3)) w3 (ra'.le l3)⟩
        · cases ev
    · cases ev
/-- a method -/
structure LkM (P : Program) (w : World) (K : PySem.W.Frag) (mg : Str → Option Value) (base : Heap) (C : Addr) (m : Str) (k : Nat) (ps : List Str) (F : Fn) (dds : List D) : Prop where
  go : ∃ (f : Addr) (fd : FuncData) (dvs : List V) (dsv : List Value), Cls K C ∧ Meth K C m f ∧ DFn P w K mg base k f fd ps F ∧ Vals dvs dsv ∧ Binds K fd ps dsv ∧ ∀ B ι, RepL K B ι dvs dds
def eMeth (C : Addr) (m : Str) (F : Fn) (fo : EF) (g : AF) (dds : List D) : EF := fun δ M => match fo δ M with
  | some (.ref n, M1) => (match M1[n]? with
    | some (.ins C' fs) => if C' = C ∧ fs.lookup m = none then (match g δ M1 with
      | some (ds, M2) => F (.ref n :: (ds ++ dds)) M2
      | none => none) else none
    | _ => none)
  | _ => none
theorem DE.meth (c : Ctx X P w K mg base k) {m : Str} {apos pos : Pos} {o e : Expr} {es : List Expr} {fo : EF} {g : AF} {C : Addr} {ps : List Str} {F : Fn} {kf : Nat} {dds : List D} (h : LkM P w K mg base C m kf ps F dds) (hk : kf ≤ k) (ho : DE X K o fo)
    (hn : (e :: es).length + dds.length + 1 = ps.length) (ha : DA X K (e :: es) g) (hlen : ∀ δ M ds M', g δ M = some (ds, M') → ds.length = (e :: es).length)
    (ht : ∀ i, ∃ pl : Sem Bool, eval (.Call (.Attribute o m apos) (e :: es) [] pos) (X i).env = (do
      let ov ← eval o (X i).env
      standAt apos.atName
      let __x ← holding [ov] (getMethod ov m pl)
      match __x with
        | (f, first) => callWith pos f first (backTo pos (starEach (e :: es) (X i).env)) (backToKw pos (keywordEach [] (X i).env))) := by intro _; exact ⟨_, rfl⟩)
    (he : ∀ i, starEach (e :: es) (X i).env = (false, eval e (X i).env) :: starEach es (X i).env := by intro _; rfl) (hpl : ∀ i, (backTo pos (starEach es (X i).env)).any (·.1) = false := by intro _; rfl) :
    DE X K (.Call (.Attribute o m apos) (e :: es) [] pos) (eMeth C m F fo g dds) := by
  obtain ⟨f, fd, dvs, dsv, cl, hm, hD, hd, hb, hr⟩ := h.go
  obtain ⟨tO, po, ro⟩ := ho.go
  obtain ⟨t, pa, ra⟩ := ha.go
  refine ⟨fun σ H Q => tO σ H fun x H1 => ∃ a dx fs, x = .ref a ∧ H1 a = some (.ins C dx fs) ∧ fs.lookup m = none ∧ t σ H1 fun vs H2 => spD K ps.length F (x :: (vs ++ dvs)) H2 Q, fun i => ⟨fun pins s σ H Q J q => ?_⟩, fun σ W δ M d M' Q w s ev q => ?_⟩
  · have cK := c.K i
    obtain ⟨pl, ht'⟩ := ht i
    refine PySem.W.methodCall_KW (thn ((po i).run pins s σ H _ J q) fun u s1 ⟨x, H1, J1, rx, a, dx, fs, ex, ea, l, q1⟩ => ?_) ht'
    subst ex
    have eu : u = .ref a := rx
    subst eu
    refine getmeth_ok J1 ea (by rw [cK]; exact cl) (by rw [cK]; exact hm) l ?_
    refine PySem.W.callWith_K (h₀ := (X i).base) J.ok.mod.kin (by rw [cK]; exact hm.kp) (thn ((pa i).run pos pins s1 σ H1 _ J1 q1) fun us s2 ⟨vs, H2, J2, r, q2⟩ => ⟨J2.kIn, ?_⟩) (he i) (hpl i)
    obtain ⟨W, M, ds, d, M', a1, a2, a3, a4, a5, a6⟩ := id q2
    have h' : DFn (X i).prog (X i).w (X i).K (X i).mg (X i).base k f fd ps F := by
      rw [c.prog i, c.wd i, c.K i, c.mg i, c.base i]
      exact hD.mono hk
    have r2 : Vals (V.ref a :: (vs ++ dvs)) (Value.ref a :: (us ++ dsv)) := .cons rfl (r.append hd)
    refine run_dfn (ks := []) (ws := []) (us := .ref a :: us) h' (c.room i) (c.grd i) J2 (hb s2 (.ref a :: us) (by rw [← cK]; exact J2.kIn) ?_) r2 (by rw [cK]; exact q2)
    have e := r2.length
    rw [a3.len, a4] at e
    exact e.symm
  · unfold eMeth at ev
    split at ev
    · rename_i n M1 h1
      refine ro σ W δ M _ M1 _ w s h1 fun u W1 l1 w1 r1 => ?_
      split at ev
      · rename_i C' fs hm'
        split at ev
        · rename_i hf
          obtain ⟨rfl, hf⟩ := hf
          split at ev
          · rename_i ds M2 h2
            obtain ⟨a, dx, vs, rfl, ha', lv, _, rf⟩ := ins_live w1 r1 hm'
            refine ⟨a, dx, vs, rfl, ha', rf.getN hf, ra σ W1 δ M1 ds M2 _ w1 (s.le l1) h2 fun us W2 l2 w2 r2 => ⟨W2, M2, .ref n :: (ds ++ dds), d, M', rfl, w2, .cons (r1.le l2) (r2.append (hr _ _)), ?_, ev, (q.le l1).le l2⟩⟩
            rw [List.length_cons, List.length_append, hlen _ _ _ _ h2]
            exact hn
          · cases ev
        · cases ev
      · cases ev
    · cases ev
end
end Pl
namespace L2
open PySem PySem.Spec PyProof.Rows
end L2
namespace Pl
open PySem L2
end Pl
namespace Pl
open PySem L2
/-- entry by entry: what the other dict has there -/
inductive HitsH {K : Type} [DecidableEq K] (A : Around) (s : Shared) (kb : List (K × Addr × Value)) : List (K × Addr × Value) → Bool → Prop
  | nil : HitsH A s kb [] true
  | miss {k : K} {p : Addr × Value} {r : List (K × Addr × Value)} : atKey kb k = none → HitsH A s kb ((k, p) :: r) false
  | hit {k : K} {c d : Addr} {v y : Value} {r : List (K × Addr × Value)} {e q : Bool} : atKey kb k = some (d, y) → SeqAt.EqAt A s v y e → HitsH A s kb r q → HitsH A s kb ((k, c, v) :: r) (e && q)
theorem atKeyH_none {K : Type} [DecidableEq K] {xs : List (K × Addr × Value)} {k : K} (h : ∀ (j : Nat) (p : Addr × Value), xs[j]? ≠ some (k, p)) : atKey xs k = none := by
  unfold atKey
  rw [Option.map_eq_none_iff, List.find?_eq_none]
  intro x hx hk
  obtain ⟨j, hj⟩ := List.getElem?_of_mem hx
  have : x.1 = k := by simpa using hk
  exact h j x.2 (by rw [hj, ← this])
theorem atKeyH_some {K : Type} [DecidableEq K] : ∀ {xs : List (K × Addr × Value)} {k : K} {j : Nat} {p : Addr × Value}, (xs.map (·.1)).Nodup → xs[j]? = some (k, p) → atKey xs k = some p
  | [], _, _, _, _, h => by simp at h
  | x :: xs, k, 0, p, _, h => by
    simp at h
    subst h
    simp [atKey, List.find?_cons]
  | x :: xs, k, j + 1, p, n, h => by
    have h' : xs[j]? = some (k, p) := by simpa using h
    rw [List.map_cons, List.nodup_cons] at n
    have ne : ¬ x.1 = k := fun e => n.1 (List.mem_map.mpr ⟨(k, p), List.mem_of_getElem? h', e.symm⟩)
    have := atKeyH_some n.2 h'
    unfold atKey at this ⊢
    rw [List.find?_cons, decide_eq_false ne]
    exact this
theorem samePairsH {prog : Program} {w : World} {K : Type} [DecidableEq K] {knd : HeapKind prog w K} {A : Around} {E : Value → Shared → Prop} {s : Shared} {nm : String} {a b : Addr} {ka kb : List (K × Addr × Value)} {r : Bool} {Q : Bool → Shared → Prop}
    (ha : (a == sysModules) = false) (hb : (b == sysModules) = false) (hr : knd.room A) (da : s.heap.DictOfH knd a ka) (db : s.heap.DictOfH knd b kb)
    (hits : ka.length = kb.length → HitsH A s kb ka r) (h : Q (ka.length == kb.length && r) s) : wpAny (model prog w) A (Builtin.Dict.samePairs nm a b) Q E s := by
  obtain ⟨oa, es, ep, hoa, _, hda, hka, hpa, hna⟩ := da
  obtain ⟨ob, es', ep', hob, _, hdb, hkb, hpb, hnb⟩ := db
  have hla : ka.length = es.size := by rw [← Array.length_toList, hka, List.length_map]
  have hlb : kb.length = es'.size := by rw [← Array.length_toList, hkb, List.length_map]
  unfold Builtin.Dict.samePairs Builtin.Dict.showsAll
  rw [if_neg (by rw [ha]; exact Bool.false_ne_true), if_neg (by rw [hb]; exact Bool.false_ne_true)]
  refine wpAny_bind (wpAny_pure (wpAny_bind (wpAny_pure (wpAny_bind (wpAny_dictEntries hoa hda (wpAny_bind (wpAny_dictEntries hob hdb ?_)))))))
  by_cases hsz : es.size = es'.size
  · rw [if_neg (by simp [hsz])]
    rw [show (ka.length == kb.length && r) = r by rw [hla, hlb, hsz]; simp] at h
    have hits := hits (by rw [hla, hlb, hsz])
    refine wpAny_bind (wpAny_dictEpoch hoa hda (wpAny_bind ?_))
    rw [Std.Legacy.Range.forIn_eq_forIn_range']
    refine wpAny_forIn_list _ (fun rest q s' => s' = s ∧ q = (none, ()) ∧ ∃ i, rest = List.range' i (es.size - i) ∧ i ≤ es.size ∧ HitsH A s kb (ka.drop i) r) _ ?_ ?_ _ _ ?_
    · rintro x rest q s' ⟨rfl, rfl, i, hrest, hi, ht⟩
      have hi' : i < es.size := by
        rcases Nat.lt_or_ge i es.size with h | h
        · exact h
        · rw [Nat.sub_eq_zero_of_le h] at hrest
          cases hrest
      obtain ⟨n, hn⟩ : ∃ n, es.size - i = n + 1 := ⟨es.size - i - 1, by omega⟩
      rw [hn, List.range'_succ] at hrest
      cases hrest
      have hk : x < ka.length := by rw [hla]; exact hi'
      have hd : ka.drop x = ka[x] :: ka.drop (x + 1) := List.drop_eq_getElem_cons hk
      have he : es[x]? = some (entryOfKey knd ka[x]) := by
        rw [← Array.getElem?_toList, hka, List.getElem?_map, List.getElem?_eq_getElem hk]
        rfl
      generalize hx : ka[x] = x0 at hd he
      obtain ⟨k, c, v⟩ := x0
      have hm : (k, c, v) ∈ ka := by rw [← hx]; exact List.getElem_mem hk
      rw [hd] at ht
      refine wpAny_bind (wpAny_dictEntries hoa hda ?_)
      rw [he]
      show wpAny (model prog w) A (do
        let same ← holding [Value.ref c, v] (do
          let z ← dictFind b (.ref c) (knd.hash k)
          match z with
          | some j => do
            let l ← dictEntries b
            match l[j]? with
            | some f => holding [f.val] (eqBool v f.val)
            | _ => unsupported "internal:dict-equal"
          | _ => pure false)
        if (!same) = true then pure (ForInStep.done (some false, ()))
        else do
          let l ← dictEpoch a
          if (l != ep) = true then do
            unsupported (toString nm ++ toString ":changed-during-callback")
            pure (ForInStep.yield (none, ()))
          else pure (ForInStep.yield (none, ()))) _ E s'
      refine wpAny_bind (wpAny_holding (wpAny_bind (wpAny_dictFind_heap (k := k) hr (hpa _ hm) hob hdb hkb hpb hnb (fun no => ?_) fun j p yes => ?_)))
      · have hz := atKeyH_none no
        cases ht with
        | miss _ => exact wpAny_pure (wpAny_pure (wpAny_pure h))
        | hit h1 _ _ => rw [hz] at h1; cases h1
      · have hz := atKeyH_some hnb yes
        obtain ⟨d, y⟩ := p
        have hj : j < kb.length := (List.getElem?_eq_some_iff.mp yes).1
        have hf : es'[j]? = some (entryOfKey knd (k, d, y)) := by
          rw [← Array.getElem?_toList, hkb, List.getElem?_map, yes]
          rfl
        refine wpAny_bind (wpAny_dictEntries hob hdb ?_)
        rw [hf]
        cases ht with
        | miss h1 => rw [hz] at h1; cases h1
        | @hit _ _ _ _ _ _ e q h1 h2 h3 =>
          rw [hz] at h1
          cases h1
          refine wpAny_holding (h2 _ _ _ _ ?_)
          cases e with
          | false => exact wpAny_pure (wpAny_pure h)
          | true =>
            refine wpAny_bind (wpAny_dictEpoch hoa hda ?_)
            rw [if_neg (by simp)]
            refine wpAny_pure ⟨rfl, rfl, x + 1, ?_, by omega, ?_⟩
            · rw [show es.size - (x + 1) = n by omega]
            · rw [Bool.true_and]; exact h3
    · rintro q s' ⟨rfl, rfl, i, hrest, hi, ht⟩
      have : es.size - i = 0 := by
        rcases Nat.eq_zero_or_pos (es.size - i) with h | h
        · exact h
        · obtain ⟨n, hn⟩ : ∃ n, es.size - i = n + 1 := ⟨es.size - i - 1, by omega⟩
          rw [hn, List.range'_succ] at hrest
          cases hrest
      rw [List.drop_of_length_le (by rw [hla]; omega)] at ht
      cases ht
      exact wpAny_pure h
    · refine ⟨rfl, rfl, 0, ?_, Nat.zero_le _, ?_⟩
      · simp [Std.Legacy.Range.size]
      · exact hits
  · rw [if_pos (by simp [hsz])]
    have : (ka.length == kb.length && r) = false := by rw [hla, hlb]; simp [hsz]
    rw [this] at h
    exact wpAny_bind (wpAny_rule (wpAny_pure h))
section
variable {prog : Program} {w : World} {A : Around} {E : Value → Shared → Prop} {s : Shared}
theorem kneH {K : Type} [DecidableEq K] {knd : HeapKind prog w K} {a b : Addr} {ka kb : List (K × Addr × Value)} {r : Bool} {Q : Value → Shared → Prop}
    (ha : (a == sysModules) = false) (hb : (b == sysModules) = false) (hr : knd.room A.in1) (da : s.heap.DictOfH knd a ka) (db : s.heap.DictOfH knd b kb) (hu : A.units < cLine)
    (hits : ka.length = kb.length → HitsH A.in1 s kb ka r) (h : Q (.bool (!(ka.length == kb.length && r))) s) : wpAny (model prog w) A (compareOp .NotEq (.ref a) (.ref b)) Q E s := by
  change wpAny (model prog w) A (richCompare .NotEq (.ref a) (.ref b)) Q E s
  refine wpAny_richCompare_same_room da.typeIs db.typeIs F.slot_dict_ne ?_ hu
  refine wpAny_call_entry F.slot_dict_ne da.typeIs F.entry_dict_ne ?_ (F.args_dict_ne_2 (.ref a) (.ref b))
  refine wpAny_bind ?_
  refine wpAny_bind ?_
  refine wpAny_notOrdered_dict da.typeIs ?_
  refine wpAny_pure ?_
  refine wpAny_bind ?_
  refine wpAny_isInstance db.typeIs F.sub_dict_dict ?_
  simp only [Bool.not_true, Bool.false_eq_true, if_false]
  refine wpAny_bind (wpAny_pure (wpAny_bind (wpAny_pure (wpAny_bind (samePairsH ha hb hr da db hits ?_)))))
  refine wpAny_pure ⟨_, rfl, (fun z => nomatch z), ?_⟩
  rw [beq_false]; exact h
end
/-- what a row of pairs has at a key -/
def lookI (kb : List (List Int × Int)) (k : List Int) : Option Int := (kb.find? fun q => decide (q.1 = k)).map (·.2)
/-- two rows of pairs, each key once, tell the same -/
def sameI (ka kb : List (List Int × Int)) : Bool := ka.length == kb.length && ka.all fun p => lookI kb p.1 == some p.2
def IntsC (kv : List (List Int × Addr × V)) (is : List (List Int × Int)) : Prop := kv.map (fun p => (p.1, p.2.2)) = is.map fun q => (q.1, V.int q.2)
theorem look_at : ∀ {kb : List (List Int × Addr × V)} {xb : List (List Int × Addr × Value)} {ib : List (List Int × Int)} (k : List Int), KC kb xb → IntsC kb ib → (atKey xb k = none ∧ lookI ib k = none) ∨ ∃ d j t, atKey xb k = some (d, .int j t) ∧ lookI ib k = some j
  | [], [], ib, k, _, h => by
    cases ib with
    | nil => exact .inl ⟨rfl, rfl⟩
    | cons q ib => exact nomatch h
  | p :: kb, x :: xb, ib, k, r, h => by
    cases ib with
    | nil => exact nomatch h
    | cons q ib =>
      unfold IntsC at h
      rw [List.map_cons, List.map_cons] at h
      obtain ⟨h1, h2⟩ := List.cons.inj h
      have h3 := congrArg Prod.fst h1
      have h4 := congrArg Prod.snd h1
      dsimp only at h3 h4
      cases r with
      | cons hq t =>
        obtain ⟨e1, e2, e3⟩ := hq
        rw [h4] at e3
        obtain ⟨tk, e3⟩ := (show ∃ t, x.2.2 = Value.int q.2 t from e3)
        by_cases e : q.1 = k
        · refine .inr ⟨x.2.1, q.2, tk, ?_, ?_⟩
          · have : x.1 = k := by rw [← e1, h3]; exact e
            simp [atKey, List.find?_cons, this]
            exact Prod.ext rfl e3
          · simp [lookI, List.find?_cons, e]
        · have n1 : ¬ x.1 = k := fun z => e (by rw [← h3, e1]; exact z)
          have := look_at k t h2
          unfold atKey lookI at this ⊢
          rw [List.find?_cons, List.find?_cons, decide_eq_false n1, decide_eq_false e]
          exact this
theorem hits_int {A : Around} {s : Shared} {kb : List (List Int × Addr × V)} {xb : List (List Int × Addr × Value)} {ib : List (List Int × Int)} (rb : KC kb xb) (hb : IntsC kb ib) : ∀ {ka : List (List Int × Addr × V)} {xa : List (List Int × Addr × Value)} {ia : List (List Int × Int)}, KC ka xa → IntsC ka ia → HitsH A s xb xa (ia.all fun p => lookI ib p.1 == some p.2)
  | [], [], ia, _, h => by
    cases ia with
    | nil => exact .nil
    | cons q ia => exact nomatch h
  | p :: ka, x :: xa, ia, r, h => by
    cases ia with
    | nil => exact nomatch h
    | cons q ia =>
      unfold IntsC at h
      rw [List.map_cons, List.map_cons] at h
      obtain ⟨h1, h2⟩ := List.cons.inj h
      have h3 := congrArg Prod.fst h1
      have h4 := congrArg Prod.snd h1
      dsimp only at h3 h4
      cases r with
      | cons hq t =>
        obtain ⟨e1, e2, e3⟩ := hq
        rw [h4] at e3
        obtain ⟨tk, e3⟩ := (show ∃ t, x.2.2 = Value.int q.2 t from e3)
        have ih := hits_int (A := A) (s := s) rb hb t h2
        have ek : x.1 = q.1 := by rw [← e1, h3]
        obtain ⟨xk, xc, xv⟩ := x
        dsimp only at ek e3
        obtain ⟨pk, pb, pv⟩ := p
        dsimp only at h3 h4 e1 e2
        subst e3
        subst ek
        rw [List.all_cons]
        rcases look_at q.1 rb hb with ⟨z1, z2⟩ | ⟨d, j, tj, z1, z2⟩
        · rw [z2]
          exact .miss z1
        · rw [z2]
          have : ((some j == some q.2) : Bool) = (q.2 == j) := by
            rw [Bool.eq_iff_iff]
            simp
            exact eq_comm
          rw [this]
          exact .hit z1 (SeqAt.EqAt.int_int _ _ _ _) ih
section
variable {X : Cx} {pins : List (Addr × Obj)} {σ : St} {H : Hp} {s : Shared} {a b : Addr}
theorem dcf_of (I : Inv X pins σ H s) {o : Obj} {kvs : List (List Int × Addr × V)} (e : H a = some (.frz o (DCL a kvs))) : s.heap.get? a = some o ∧ kvs.length ≤ sizeLine ∧ (a == sysModules) = false ∧ ∃ xs es ep, KC kvs xs ∧ o.ExactDict ∧ o.data = .dict es ep ∧ es.toList = xs.map cellE ∧ (xs.map (·.1)).Nodup := by
  obtain ⟨h0, ⟨l, m, xs, r, o', es, ep, h1, h2, h3, h4, h5⟩, _⟩ := (show ObjOk X.prog X.w H s.heap a (.frz o (DCL a kvs)) from I.hok a _ e)
  cases h0.symm.trans h1
  exact ⟨h0, l, m, xs, es, ep, r, h2, h3, h4, h5⟩
theorem dcf_dict (I : Inv X pins σ H s) {o : Obj} {kvs : List (List Int × Addr × V)} (e : H a = some (.frz o (DCL a kvs))) (hk : ∀ p ∈ kvs, SqT X.K H p.2.1 (p.1.map V.int)) : (a == sysModules) = false ∧ ∃ xs, KC kvs xs ∧ s.heap.DictOfH (kI X.prog X.w) a xs := by
  obtain ⟨h0, l, m, xs, es, ep, r, h2, h3, h4, h5⟩ := dcf_of I e
  exact ⟨m, xs, r, o, es, ep, h0, h2, h3, h4, kc_is r fun p hp => is_of I (hk p hp), h5⟩
def rEqC (K : PySem.W.Frag) (f : Bool → Bool) : R2 := fun x y H Q => ∃ (a b : Addr) (oa ob : Obj) (ka kb : List (List Int × Addr × V)) (ia ib : List (List Int × Int)), x = .ref a ∧ y = .ref b ∧ H a = some (.frz oa (DCL a ka)) ∧ H b = some (.frz ob (DCL b kb)) ∧ (∀ p ∈ ka, SqT K H p.2.1 (p.1.map V.int)) ∧ (∀ p ∈ kb, SqT K H p.2.1 (p.1.map V.int)) ∧ IntsC ka ia ∧ IntsC kb ib ∧ Q (.bl (f (sameI ia ib))) H
theorem intsC_len {kv : List (List Int × Addr × V)} {is : List (List Int × Int)} (h : IntsC kv is) : kv.length = is.length := by
  have := congrArg List.length h
  rwa [List.length_map, List.length_map] at this
theorem kc_len {kvs : List (List Int × Addr × V)} {xs : List (List Int × Addr × Value)} (r : KC kvs xs) : kvs.length = xs.length := by
  have := congrArg List.length (kc_keys r)
  rwa [List.length_map, List.length_map] at this
theorem op_neC (hu : X.A.units + 1 < cLine) : OpR X (compareOp .NotEq) (rEqC X.K fun b => !b) := by
  intro pins s σ H x y u v Q I rx ry h
  obtain ⟨a, b, oa, ob, ka, kb, ia, ib, rfl, rfl, ha, hb, ta, tb, na, nb, q⟩ := h
  obtain rfl : u = Value.ref a := rx
  obtain rfl : v = Value.ref b := ry
  obtain ⟨ma, xa, ra, da⟩ := dcf_dict I ha ta
  obtain ⟨mb, xb, rb, db⟩ := dcf_dict I hb tb
  refine kneH ma mb (tupleKind_room_in1 hu) da db (by omega) (fun _ => hits_int rb nb ra na) ?_
  rw [← kc_len ra, ← kc_len rb, intsC_len na, intsC_len nb]
  exact ⟨.bl _, H, I, rfl, q⟩
theorem kc_at : ∀ {kvs : List (List Int × Addr × V)} {xs : List (List Int × Addr × Value)} {i : Nat} {p : List Int × Addr × V}, KC kvs xs → kvs[i]? = some p → (hx : i < xs.length) → p.1 = xs[i].1 ∧ xs[i].2.1 = p.2.1 ∧ RelV p.2.2 xs[i].2.2
  | _, _, _, _, .nil, _, hx => absurd hx (Nat.not_lt_zero _)
  | _, _, 0, _, .cons h _, e, _ => by
    simp at e
    subst e
    exact h
  | _, _, i + 1, _, .cons _ t, e, hx => kc_at t (by simpa using e) (Nat.lt_of_succ_lt_succ hx)
def ItiC (d : Addr) (o : Obj) (kvs : List (List Int × Addr × V)) : It :=
  { go := fun i H => H d = some (.frz o (DCL d kvs)) ∧ i < kvs.length,
    yld := fun i H x H' => ∃ T p, kvs[i]? = some p ∧ x = .ref T ∧ H T = none ∧ H' = upd H T (.tup [.ref p.2.1, p.2.2]),
    stop := fun i H => H d = some (.frz o (DCL d kvs)) ∧ kvs.length ≤ i }
def iItemsC (td : TE) : TI := fun σ H R => td σ H fun x H1 => ∃ d o kvs, x = .ref d ∧ H1 d = some (.frz o (DCL d kvs)) ∧ R (ItiC d o kvs) H1
theorem turn_itemsC {P : Program} {w : World} {K : PySem.W.Frag} {d : Addr} {o : Obj} {es : Array DictEntry} {ep : Nat} {kvs : List (List Int × Addr × V)} {elts : List Expr} {kk : Nat} {tpos : Pos} (it : Addr) (hod : o.data = .dict es ep) :
    Turn P w K (.Tuple elts kk tpos) (ItiC d o kvs) [it] it (fun i h => ∃ ok ov, IsItemIter h it d i es.size ep ok ov) where
  mem := by simp
  obj := fun i h ⟨ok, ov, e⟩ b hb => by
    obtain rfl : b = it := by simpa using hb
    exact ⟨_, e, fun v z => nomatch z⟩
  keep := fun i h h' ⟨ok, ov, e⟩ k => ⟨ok, ov, k it (by simp) _ e⟩
  item := fun X hP hw hK hc i pins s σ H E I hf ⟨ok, ov, he⟩ ⟨hd, hi⟩ => by
    subst hP hw
    obtain ⟨h0, l, m, xs, es', ep', r, h2, h3, h4, h5⟩ := dcf_of I hd
    have z := hod.symm.trans h3
    cases z
    have hes : es.size = kvs.length := by rw [kc_len r, ← Array.length_toList, h4, List.length_map]
    have hlt : i < es.size := by rw [hes]; exact hi
    have hx : i < xs.length := by rw [← kc_len r]; exact hi
    obtain ⟨p, hp⟩ : ∃ p, kvs[i]? = some p := ⟨kvs[i], List.getElem?_eq_getElem hi⟩
    have hen : es[i] = cellE xs[i] := by
      have : es[i]? = some (cellE xs[i]) := by rw [← Array.getElem?_toList, h4, List.getElem?_map, List.getElem?_eq_getElem hx]; rfl
      rw [Array.getElem?_eq_getElem hlt] at this
      exact Option.some.inj this
    obtain ⟨e1, e2, e3⟩ : p.1 = xs[i].1 ∧ xs[i].2.1 = p.2.1 ∧ RelV p.2.2 xs[i].2.2 := kc_at r hp hx
    have hit : it < s.heap.objs.size := Heap.lt_size he
    refine wpAny_pyNext_items_item_raw he ⟨o, h0, h2, hod⟩ hlt fun h' out hT hz hk => ⟨_, rfl, wpAny_letOwnedTupleGo_items out fun h'' he' sb => ?_⟩
    have hT2 := (sb.2 s.heap.objs.size (Nat.ne_of_gt hit)).trans hT
    have new : ObjOk X.prog X.w (upd H s.heap.objs.size (.tup [.ref p.2.1, p.2.2])) h'' s.heap.objs.size (.tup [.ref p.2.1, p.2.2]) := by
      refine ⟨by show 2 ≤ sizeLine; decide, [.ref xs[i].2.1, xs[i].2.2], .cons ?_ (.cons e3 .nil), ?_⟩
      · rw [e2]; exact rfl
      · refine ⟨_, hT2, rfl, 0, ?_⟩
        rw [hen]
        rfl
    have I1 := I.turnedNew (t' := s.toks) (h' := h'') (ch := [it]) (fun b ob hb e => (sb.2 b (by simpa using hb)).trans (hk b ob (by simpa using hb) e)) hf (Nat.le_refl s.heap.objs.size) new
    refine ⟨.ref s.heap.objs.size, _, I1, rfl, ⟨s.heap.objs.size, p, hp, rfl, I.hok.fresh (Nat.le_refl _), rfl⟩, ⟨_, _, he'⟩, fun b hb => ?_⟩
    obtain rfl : b = it := by simpa using hb
    rw [upd_ne (Nat.ne_of_lt hit)]
    exact (hf b (by simp)).1
  done := fun X hP hw hK hc i pins s σ H E I hf ⟨ok, ov, he⟩ ⟨hd, hi⟩ => by
    subst hP hw
    obtain ⟨h0, l, m, xs, es', ep', r, h2, h3, h4, h5⟩ := dcf_of I hd
    have z := hod.symm.trans h3
    cases z
    have hes : es.size = kvs.length := by rw [kc_len r, ← Array.length_toList, h4, List.length_map]
    refine wpAny_pyNext_items_end_raw (I.ok.hd hc) he ⟨o, h0, h2, hod⟩ (by rw [hes]; exact hi) fun h' eb => ⟨rfl, ?_⟩
    obtain ⟨f0, f1, f2, f3, f4, f5⟩ := hf it (by simp)
    exact I.turned (t' := s.toks) (fun b ob hb e => eb b ob hb e) f0 f1 f3 f4 f5
  self := fun A i s Q E ⟨ok, ov, he⟩ h => wpAny_pyIter_itemiter he h
theorem pi_itemsC {e : Expr} {td : TE} {apos cpos : Pos} {elts : List Expr} {kk : Nat} {tpos : Pos} (he : PE X e td) (hbase : attributeBase e (Str.ofString "items") X.env (eval e X.env) = eval e X.env := by rfl) (hline : (apos.endLine == cpos.line) = true := by rfl) :
    PI X (.Tuple elts kk tpos) (.Call (.Attribute e (Str.ofString "items") apos) [] [] cpos) (iItemsC td) := ⟨fun pins s σ H R I h => by
  refine wpAny_Call_method hbase rfl hline F.plainAttrs_dict F.slot_dict_items F.type_dict_items (thn (he.run pins s σ H _ I h) fun u s1 ⟨x, H1, I1, rx, d, o, kvs, ex, hd, q⟩ => ?_)
  subst ex
  obtain rfl : u = Value.ref d := rx
  obtain ⟨h0, l, m, xs, es, ep, r, h2, h3, h4, h5⟩ := dcf_of I1 hd
  have raw : s1.heap.DictRaw d es ep := ⟨o, h0, h2, h3⟩
  refine ⟨raw.typeIs, fun a ea => ?_, ?_⟩
  · cases ea
    exact ⟨o, h0, h2.2.1⟩
  · refine method_meetsIn F.slot_dict_items F.entry_dict_items rfl (evalArgs_none ⟨rfl, raw.typeIs, F.args_dict_items_1 (.ref d), _, meets_dict_items_raw d m, ⟨es, ep, raw⟩, ?_⟩)
    have I2 := I1.kept (t' := s1.toks) (h' := s1.heap.push { cls := .type "dict_items", data := .fields #[.ref d] }) fun b ob q => Heap.get?_push_of_some _ q
    refine wpAny_pyIter_items_raw ⟨_, Heap.get?_push_size s1.1 rfl, rfl, rfl⟩ ⟨o, Heap.get?_push_of_some _ h0, h2, h3⟩ ?_
    exact pi_one I2 _ (turn_itemsC _ h3) ⟨.none, .none, Heap.get?_push_size _ rfl⟩ q⟩
end
end Pl
namespace Pl
open PySem L2
open PyProof.Rows (IsTup)
section
variable {X : Cx} {pins : List (Addr × Obj)} {σ : St} {H : Hp} {s : Shared} {a b : Addr}
def rDictF (K : PySem.W.Frag) : List V → Hp → VK → Prop := fun xs H Q => ∃ (a : Addr) (ps : List Addr) (kvs : List (List Int × Addr × V)), xs = [.ref a] ∧ SqL K H a (ps.map V.ref) ∧ Paired (fun p (kv : List Int × Addr × V) => SqT K H p [.ref kv.2.1, kv.2.2]) ps kvs ∧
    (∀ p ∈ kvs, SqT K H p.2.1 (p.1.map V.int)) ∧ (kvs.map (·.1)).Nodup ∧ ∀ (o : Obj) p, H p = none → Q (.ref p) (upd H p (.frz o (DCL p kvs)))
theorem cr_dictF (hcalm : X.calm = true) (hu : X.A.units + 2 < cLine) : CallR X (.type "dict") (rDictF X.K) := by
  intro pins s σ H xs us Q I r q
  obtain ⟨a, ps, kvs, ex, hq, hp, hk, hnd, q⟩ := q
  subst ex
  obtain ⟨u, eu, rx⟩ := vals1 r
  subst eu
  cases rx
  obtain ⟨its, rv, pl, hz⟩ := I.list hq
  have ei := refs_at rv
  subst ei
  rw [List.length_map] at hz
  obtain ⟨prs, rel, hl, hpr⟩ := pairs_ofC I hp
  obtain ⟨o, n, ho, hc, hd, hdat⟩ := pl
  refine call_dict_cells (prs := prs) hu (I.ok.hd hcalm) ho hc hd hdat (by simp [hl]) (by rw [hl]; exact hz) (by rw [← kc_keys rel]; exact hnd) (fun j q' e => ?_) (kc_is rel fun p hp => is_of I (hk p hp)) fun h' tk hd' k => ?_
  · obtain ⟨b, e1, e2⟩ := hpr j q' e
    exact ⟨b, by simp [e1], e2⟩
  · have hm : (s.heap.objs.size == sysModules) = false := beq_eq_false_iff_ne.mpr (Nat.ne_of_gt I.big)
    have hlen : kvs.length ≤ sizeLine := by
      have := congrArg List.length (kc_keys rel)
      rw [List.length_map, List.length_map, hl] at this
      rw [this]
      exact hz
    obtain ⟨od, _, _, hod, _⟩ := id hd'
    have ok : ∀ H', ObjOk X.prog X.w H' h' s.heap.objs.size (.frz od (DCL s.heap.objs.size kvs)) := fun H' => ⟨hod, dcl_obj (H' := H') hlen hm rel hd'⟩
    exact ⟨.ref s.heap.objs.size, upd H s.heap.objs.size (.frz od (DCL s.heap.objs.size kvs)), I.laid (t' := tk) k (Nat.le_refl _) (ok _), rfl, q od _ (I.hok.fresh (Nat.le_refl _))⟩
def rIxF (K : PySem.W.Frag) : R2 := fun x y H Q => ∃ (a b : Addr) (o : Obj) (kvs : List (List Int × Addr × V)) (k : List Int) (v : V), x = .ref a ∧ y = .ref b ∧ H a = some (.frz o (DCL a kvs)) ∧ (∀ p ∈ kvs, SqT K H p.2.1 (p.1.map V.int)) ∧ SqT K H b (k.map V.int) ∧ valC kvs k = some v ∧ Q v H
theorem pe_ixF {o i : Expr} {pos : Pos} {td ty : TE} (hu : X.A.units + 1 < cLine) (ho : PE X o td) (hi : PE X i ty) (hs : NoSl i) : PE X (.Subscript o i pos) (tOp (rIxF X.K) td ty) := by
  refine ⟨fun pins s σ H Q I h => ?_⟩
  refine subD_of PySem.F.slot_dict_getitem.lookup hs (thn (ho.run pins s σ H _ I h) fun u s1 ⟨x, H1, I1, rx, q1⟩ => thn (hi.run pins s1 σ H1 _ I1 q1) fun iv s2 ⟨y, H2, I2, ry, q2⟩ => ?_)
  obtain ⟨a, b, ob, kvs, k, v, ex, ey, e, hk, hb, hv, q2⟩ := q2
  subst ex ey
  obtain rfl : u = Value.ref a := rx
  obtain rfl : iv = Value.ref b := ry
  obtain ⟨hd, xs, rel, dd⟩ := dcf_dict I2 e hk
  obtain ⟨w', hw, rw'⟩ := RelO.some_of (v := v) (o := (atKey xs k).map (·.2)) (by rw [← hv]; exact kc_val rel k)
  obtain ⟨p, hp, hp2⟩ := Option.map_eq_some_iff.mp hw
  refine ⟨dd.typeIs, ?_⟩
  refine wpAny_getItem_heap (tupleKind_room_in1 hu) (is_of I2 hb) dd hp ?_
  rw [hp2]
  exact ⟨v, H2, I2.tok _, rw', q2⟩
/-- lists of unlike lengths -/
def rEqL (K : PySem.W.Frag) : R2 := fun x y H Q => ∃ (a b : Addr) (xs ys : List V), x = .ref a ∧ y = .ref b ∧ SqL K H a xs ∧ SqL K H b ys ∧ xs.length ≠ ys.length ∧ Q (.bl false) H
theorem op_eqL (hu : X.A.units < cLine) : OpR X (compareOp .Eq) (rEqL X.K) := by
  intro pins s σ H x y u v Q I rx ry h
  obtain ⟨a, b, xs, ys, rfl, rfl, ha, hb, ne, q⟩ := h
  obtain rfl : u = Value.ref a := rx
  obtain rfl : v = Value.ref b := ry
  obtain ⟨its, rv, pl, hz⟩ := I.list ha
  obtain ⟨itt, rw', pm, hw⟩ := I.list hb
  obtain ⟨o1, n1, c1, c2, c3, c4⟩ := pl
  obtain ⟨o2, n2, d1, d2, d3, d4⟩ := pm
  change wpAny (model X.prog X.w) X.A (richCompare .Eq (.ref a) (.ref b)) _ X.xe s
  refine SeqAt.RcAt.lists_lengths ⟨o1, c1, c2, n1, c4⟩ ⟨o2, d1, d2, n2, d4⟩ ?_ hu _ _ _ _ ⟨.bl false, H, I, rfl, q⟩
  have e1 : xs.length = its.length := Paired.length rv
  have e2 : ys.length = itt.length := Paired.length rw'
  simp
  omega
end
section
variable {I : Type} {X : I → Cx} {P : Program} {w : World} {K : PySem.W.Frag} {mg : Str → Option Value} {base : Heap} {k : Nat}
theorem repC_vals {B : Hp} {ι : List Addr} : ∀ {vs : List (List Int × Addr × V)} {ds : List (List Int × D)}, RepC K B ι vs ds → RepL K B ι (vs.map (·.2.2)) (ds.map (·.2))
  | _, _, .nil => .nil
  | _, _, .cons _ g r => .cons g (repC_vals r)
theorem lay_dcf {W : Wd} {M : Mh} {p : Addr} {o : Obj} {vs : List (List Int × Addr × V)} {ds : List (List Int × D)} (w : W.Ok K M) (hp : W.H p = none) (r : RepC K W.B W.ι vs ds) (e : vs.map (·.1) = ds.map (·.1)) :
    W.Le (W.lay p (.frz o (DCL p vs))) ∧ (W.lay p (.frz o (DCL p vs))).Ok K M ∧ Rep K (W.lay p (.frz o (DCL p vs))).B (W.lay p (.frz o (DCL p vs))).ι (.ref p) (.dcf (ds.map (·.1)) (ds.map (·.2))) := by
  have l := Wd.lay_le (o := .frz o (DCL p vs)) w hp
  exact ⟨l, Wd.lay_ok w hp, .dcf upd_same e (fun q hq => sqT_mono l.same (repC_keys r q hq)) ((repC_vals r).le l)⟩
def gDictF : GL := fun ds M => match ds with
  | [d] => (match lstOf M d with
    | some xs => (match pairsD xs with
      | some kvs => if (kvs.map (·.1)).Nodup then some (.dcf (kvs.map (·.1)) (kvs.map (·.2)), M) else none
      | none => none)
    | none => none)
  | _ => none
theorem cDictF (c : Ctx X P w K mg base k) : CalF X K (.type "dict") gDictF := ⟨rDictF K, fun i => by
  have h := cr_dictF (X := X i) (c.calm i) (by have := (c.room i).un; omega)
  rw [c.K i] at h
  exact h, fun W M vs ds z M' Q w r e q => by
  unfold gDictF at e
  split at e
  · split at e
    · rename_i xs h1
      split at e
      · rename_i kvs h2
        split at e
        · rename_i hn
          cases e
          cases r with
          | cons r1 r2 =>
            cases r2
            obtain ⟨a, us, rfl, s1, q1⟩ := lstOf_rep w r1 h1
            obtain ⟨ps, kv, rfl, a1, a2, a3, a4⟩ := pairs_rep w _ _ _ q1 h2
            refine ⟨a, ps, kv, rfl, s1, a1, a2, by rw [a4]; exact hn, fun o p hp => ?_⟩
            obtain ⟨l2, w2, r3⟩ := lay_dcf (o := o) w hp a3 a4
            exact q _ _ l2 w2 r3
        · cases e
      · cases e
    · cases e
  · cases e⟩
theorem dcf_live {W : Wd} {M : Mh} {x : V} {ks : List (List Int)} {ds : List D} (w : W.Ok K M) (r : Rep K W.B W.ι x (.dcf ks ds)) : ∃ a o kv, x = .ref a ∧ W.H a = some (.frz o (DCL a kv)) ∧ W.B a = some (.frz o (DCL a kv)) ∧ kv.map (·.1) = ks ∧ (∀ p ∈ kv, SqT K W.B p.2.1 (p.1.map V.int)) ∧ RepL K W.B W.ι (kv.map (·.2.2)) ds := by
  cases r with
  | dcf h e q r => exact ⟨_, _, _, rfl, w.sub _ _ h, h, e, q, r⟩
theorem dcf_val {B : Hp} {ι : List Addr} {k : List Int} {d : D} : ∀ {kv : List (List Int × Addr × V)} {ds : List D}, RepL K B ι (kv.map (·.2.2)) ds → valD ((kv.map (·.1)).zip ds) k = some d → ∃ v, valC kv k = some v ∧ Rep K B ι v d
  | [], _, _, e => by simp [valD] at e
  | p :: kv, [], r, e => by cases r
  | p :: kv, d0 :: ds, .cons g r, e => by
    by_cases q : p.1 = k
    · have : some d0 = some d := by simpa [valD, List.find?_cons, q] using e
      cases this
      exact ⟨_, by simp [valC, List.find?_cons, q], g⟩
    · have e' : valD ((kv.map (·.1)).zip ds) k = some d := by simpa [valD, List.find?_cons, q] using e
      obtain ⟨v, h1, h2⟩ := dcf_val r e'
      exact ⟨v, by simpa [valC, List.find?_cons, q] using h1, h2⟩
def gIxF : O2 := fun a b M => match a, b with
  | .dcf ks ds, .tup k => (match intsOf k with
    | some k => (valD (ks.zip ds) k).map fun d => (d, M)
    | none => none)
  | _, _ => none
theorem od_ixF : OD K (rIxF K) gIxF := fun W M x y a b z M' Q w ra rb e q => by
  unfold gIxF at e
  split at e
  · rename_i ks ds kk
    split at e
    · rename_i k h2
      cases h : valD (ks.zip ds) k with
      | none =>
        rw [h] at e
        cases e
      | some d =>
        rw [h] at e
        cases e
        obtain ⟨p, o, kv, rfl, hp, _, rfl, hk, rl⟩ := dcf_live w ra
        obtain ⟨v, hv, rv⟩ := dcf_val rl h
        cases rb with
        | tup s1 q1 =>
          have := rep_ints q1 h2
          subst this
          exact ⟨p, _, o, kv, k, v, rfl, rfl, hp, fun p hp => sqT_mono w.sub (hk p hp), sqT_mono w.sub s1, hv, q v W (.refl W) w rv⟩
    · cases e
  · cases e
theorem DE.ixF (c : Ctx X P w K mg base k) {a b : Expr} {pos} {f g : EF} (ha : DE X K a f) (hb : DE X K b g) (hs : NoSl b := by exact fun _ _ => rfl) : DE X K (.Subscript a b pos) (eOp gIxF f g) := by
  obtain ⟨ta, pa, ra⟩ := ha.go
  obtain ⟨tb, pb, rb⟩ := hb.go
  refine ⟨tOp (rIxF K) ta tb, fun i => ?_, er_op od_ixF ra rb⟩
  have h := pe_ixF (X := X i) (by have := (c.room i).un; omega) (pa i) (pb i) hs (pos := pos)
  rw [c.K i] at h
  exact h
def aItemsC (f : EF) : AF := fun δ M => match f δ M with
  | some (.dcf ks ds, M1) => some (((ks.map fun k => D.tup (k.map D.int)).zip ds).map fun p => .tup [p.1, p.2], M1)
  | _ => none
theorem rep_row {B : Hp} {ι : List Addr} : ∀ (k : List Int), RepL K B ι (k.map V.int) (k.map D.int)
  | [] => .nil
  | i :: k => .cons (.int i) (rep_row k)
theorem DI.itemsC (c : Ctx X P w K mg base k) {e : Expr} {apos cpos tpos : Pos} {elts : List Expr} {kk : Nat} {f : EF} (h : DE X K e f) (hbase : ∀ i, attributeBase e (Str.ofString "items") (X i).env (eval e (X i).env) = eval e (X i).env := by intro _; rfl) (hline : (apos.endLine == cpos.line) = true := by rfl) :
    DI X K (.Tuple elts kk tpos) (.Call (.Attribute e (Str.ofString "items") apos) [] [] cpos) (aItemsC f) := by
  obtain ⟨t, pa, r⟩ := h.go
  refine ⟨iItemsC t, fun i => pi_itemsC (pa i) (hbase i) hline, fun σ W δ M ds M' R w s ev q => ?_⟩
  unfold aItemsC at ev
  split at ev
  · rename_i ks vs M1 h1
    cases ev
    refine r σ W δ M _ _ _ w s h1 fun x W1 l1 w1 r1 => ?_
    obtain ⟨a, o, kv, rfl, hH, hB, rfl, hk, rl⟩ := dcf_live w1 r1
    refine ⟨a, o, kv, rfl, hH, q _ W1 l1 w1 ?_⟩
    have hl : kv.length = vs.length := by have := rl.len; rwa [List.length_map] at this
    refine wk_pair (n := kv.length) (fun W M l w => ?_) (by simp) (by omega) (by simp; omega)
    have hW : W.H a = some (.frz o (DCL a kv)) := w.sub _ _ (l.same _ _ hB)
    refine ⟨fun i hi => ⟨hW, hi⟩, fun i d1 d2 hi e1 e2 => ⟨⟨hW, hi⟩, fun x H' ⟨T, p, hp, ex, hT, eH⟩ => ⟨T, _, _, ex, hT, eH, ?_, ?_⟩⟩⟩
    · rw [List.getElem?_map, List.getElem?_map, hp] at e1
      cases e1
      exact .tup (sqT_mono l.same (hk p (List.mem_of_getElem? hp))) (rep_row _)
    · obtain ⟨v, h1, h2⟩ := (rl.mono l.same l.ix).get e2
      rw [List.getElem?_map, hp] at h1
      cases h1
      exact h2
  · cases ev
def intsD : List (List Int) → List D → Option (List (List Int × Int))
  | [], [] => some []
  | k :: ks, .int i :: ds => (match intsD ks ds with
    | some r => some ((k, i) :: r)
    | none => none)
  | _, _ => none
theorem ints_of {B : Hp} {ι : List Addr} : ∀ {kv : List (List Int × Addr × V)} {ds : List D} {is : List (List Int × Int)}, RepL K B ι (kv.map (·.2.2)) ds → intsD (kv.map (·.1)) ds = some is → IntsC kv is
  | [], _, _, .nil, e => by cases e; exact rfl
  | p :: kv, d :: ds, is, r, e => by
    cases r with
    | cons g r =>
    rw [List.map_cons] at e
    unfold intsD at e
    split at e
    · rename_i h _; cases h
    · rename_i i ds2 e1 e2
      cases e2
      cases e1
      split at e
      · rename_i is2 h2
        cases e
        have := ints_of r h2
        unfold IntsC at this ⊢
        rw [List.map_cons, List.map_cons, this]
        congr 1
        obtain ⟨p1, p2, p3⟩ := p
        cases (show Rep K B ι p3 (.int i) from g)
        rfl
      · cases e
    · cases e
def gEqC (f : Bool → Bool) : O2 := fun a b M => match a, b with
  | .dcf k1 d1, .dcf k2 d2 => (match intsD k1 d1, intsD k2 d2 with
    | some x, some y => some (.bl (f (sameI x y)), M)
    | _, _ => none)
  | _, _ => none
theorem od_eqC {f : Bool → Bool} : OD K (rEqC K f) (gEqC f) := fun W M x y a b z M' Q w ra rb e q => by
  unfold gEqC at e
  split at e
  · split at e
    · rename_i x y h1 h2
      cases e
      obtain ⟨p, o, kv, rfl, hp, _, rfl, hk, rl⟩ := dcf_live w ra
      obtain ⟨p2, o2, kv2, rfl, hp2, _, rfl, hk2, rl2⟩ := dcf_live w rb
      exact ⟨p, p2, o, o2, kv, kv2, x, y, rfl, rfl, hp, hp2, fun p hp => sqT_mono w.sub (hk p hp), fun p hp => sqT_mono w.sub (hk2 p hp), ints_of rl h1, ints_of rl2 h2, q _ W (.refl W) w (.bl _)⟩
    · cases e
  · cases e
theorem opNeC (c : Ctx X P w K mg base k) : OpF X K (compareOp .NotEq) (gEqC fun b => !b) := ⟨_, fun i => by
  have := op_neC (X := X i) (by have := (c.room i).un; omega)
  rw [c.K i] at this
  exact this, od_eqC⟩
/-- == of a list with an empty one -/
def gEqE : O2 := fun a b M => match b with
  | .lst [] => (match lstOf M a with
    | some xs => some (.bl xs.isEmpty, M)
    | none => none)
  | _ => none
theorem opEqE (c : Ctx X P w K mg base k) : OpF X K (compareOp .Eq) gEqE := ⟨fun x y H Q => rEqD K x y H Q ∨ rEqL K x y H Q, fun i pins s σ H x y u v Q J rx ry h => by
  rcases h with h | h
  · have := op_eqD (X := X i) (c.room i).units
    rw [c.K i] at this
    exact this pins s σ H x y u v Q J rx ry h
  · have := op_eqL (X := X i) (by have := (c.room i).un; omega)
    rw [c.K i] at this
    exact this pins s σ H x y u v Q J rx ry h, fun W M x y a b z M' Q w ra rb e q => by
  unfold gEqE at e
  split at e
  · split at e
    · rename_i xs h1
      cases e
      obtain ⟨l, vs, rfl, s1, r1⟩ := lstOf_rep w ra h1
      cases rb with
      | lst h2 r2 =>
        cases r2
        cases xs with
        | nil =>
          cases r1
          refine .inl ⟨.list [], .list [], .lst s1 .nil, .lst (.inl (.inl (w.sub _ _ h2))) .nil, rfl, rfl, ?_⟩
          exact q _ W (.refl W) w (.bl _)
        | cons x xs =>
          refine .inr ⟨l, _, vs, [], rfl, rfl, s1, .inl (.inl (w.sub _ _ h2)), ?_, ?_⟩
          · rw [r1.len]; simp
          · exact q _ W (.refl W) w (.bl _)
    · cases e
  · cases e⟩
def gClr : D → List D → Mh → Option (D × Mh) := fun o ds M => match o, ds with
  | .ref n, [] => (match M[n]? with
    | some (.lst _) => some (.non, M.set n (.lst []))
    | _ => none)
  | _, _ => none
theorem mClr : MetF X K "list.clear" gClr := ⟨_, fun i => mt_clear, fun W M x o vs ds z M' Q w rx rv ev q => by
  unfold gClr at ev
  split at ev
  · split at ev
    · rename_i xs hm
      cases ev
      obtain ⟨p, us, rfl, lv, hp, ru⟩ := lst_live w rx hm
      cases rv
      refine ⟨p, us, rfl, rfl, hp, ?_⟩
      exact q .non (W.put p _) Wd.put_le (Wd.put_ok w lv (.lst .nil)) .non
    · cases ev
  · cases ev⟩
theorem DE.lmeth0 (c : Ctx X P w K mg base k) {o : Expr} {name : Str} {id : String} {apos cpos : Pos} {g : D → List D → Mh → Option (D × Mh)} {f : EF} (m : MetF X K id g) (slot : Slot "list" name id) (ty : typeOf (.builtin id) = pure (.type "method_descriptor")) (ho : DE X K o f)
    (hbase : ∀ i, attributeBase o name (X i).env (eval o (X i).env) = eval o (X i).env := by intro _; rfl) (hline : (apos.endLine == cpos.line) = true := by rfl) :
    DE X K (.Call (.Attribute o name apos) [] [] cpos) (eMeth2 g f aNil) := by
  obtain ⟨t, pa, r⟩ := ho.go
  obtain ⟨rr, hm, hr⟩ := m.go
  refine ⟨tBM0 K "list" rr t, fun i => ?_, fun σ W δ M d M' Q w s ev q => ?_⟩
  · have h := pe_bm0 (X := X i) PySem.F.plainAttrs_list slot ty (hm i) (pa i) (hbase i) hline
    rw [c.K i] at h
    exact h
  · unfold eMeth2 at ev
    split at ev
    · rename_i od M1 h1
      split at ev
      · rename_i hso
        split at ev
        · rename_i ds M2 h2
          cases h2
          obtain ⟨xs, hxs⟩ := Option.isSome_iff_exists.mp hso
          refine r σ W δ M _ _ _ w s h1 fun v W1 l1 w1 r1 => ⟨?_, ?_⟩
          · obtain ⟨l, vs, rfl, s1, _⟩ := lstOf_rep w1 r1 hxs
            exact .inl ⟨rfl, vs, s1⟩
          · exact hr W1 M1 v od [] [] d M' Q w1 r1 .nil ev (q.le l1)
        · cases ev
      · cases ev
    · cases ev
end
end Pl
namespace Law
open PySem L2 Pl
structure CT where
  Seat : Addr
  isa : Addr → Value → Option Bool
  okf : Addr → Str → Bool
  okg : Addr → Str → Bool
structure Isa (ct : CT) : Prop where
def nn_is_whole : List Str := ["thing"]
noncomputable def gg_is_whole : SF := (sRet (eAn (eB gIsi (aCons (eVar 0) (aCons (eC (.ty "int")) aNil))) (eNt (eB gIsi (aCons (eVar 0) (aCons (eC (.ty "bool")) aNil))))))
noncomputable def ff_is_whole : Fn := fnF 1 gg_is_whole
def nn_is_among : List Str := ["thing", "least", "most"]
noncomputable def gg_is_among : SF := (sSeq (sIf (tOrr (tNt (tV (eCall ff_is_whole (aCons (eVar 0) aNil) []))) (tOrr (tNt (tV (eCall ff_is_whole (aCons (eVar 1) aNil) []))) (tNt (tV (eCall ff_is_whole (aCons (eVar 2) aNil) []))))) (sRet (eC (.bl false))) sNil) (sRet (eChain (gInt fun i j => .bl (decide (i ≤ j))) (gInt fun i j => .bl (decide (i ≤ j))) (eVar 1) (eVar 0) (eVar 2))))
noncomputable def ff_is_among : Fn := fnF 3 gg_is_among
def nn_need_field : List Str := ["field", "high", "rows", "number", "row", "height"]
noncomputable def gg_need_field : SF := (sSeq (sIf (tOrr (tNt (tV (eB gIsi (aCons (eVar 0) (aCons (eC (.ty "tuple")) aNil))))) (tV (eOp (gEq fun p q => !PyData.eqv p q) (eB gLen (aCons (eVar 0) aNil)) (eC (.int 2))))) sNever sNil) (sSeq (sAs (eVar 0) (gTp (gsCons (gN 1) (gsCons (gN 2) gsNil)))) (sSeq (sIf (tNt (tV (eCall ff_is_among (aCons (eVar 1) (aCons (eC (.int 1)) (aCons (eC (.int 6)) aNil))) []))) sNever sNil) (sSeq (sIf (tOrr (tNt (tV (eB gIsi (aCons (eVar 2) (aCons (eC (.ty "tuple")) aNil))))) (tNt (tV (eChain (gInt fun i j => .bl (decide (i ≤ j))) (gInt fun i j => .bl (decide (i ≤ j))) (eC (.int 1)) (eB gLen (aCons (eVar 2) aNil)) (eC (.int 8)))))) sNever sNil) (sFor (aEnumT (aCons (eVar 2) aNil)) (gTp (gsCons (gN 3) (gsCons (gN 4) gsNil))) (sSeq (sIf (tOrr (tNt (tV (eB gIsi (aCons (eVar 4) (aCons (eC (.ty "tuple")) aNil))))) (tOrr (tNt (tV (eChain (gInt fun i j => .bl (decide (i ≤ j))) (gInt fun i j => .bl (decide (i ≤ j))) (eC (.int 1)) (eB gLen (aCons (eVar 4) aNil)) (eC (.int 8))))) (tV (eOp (gEq fun p q => !PyData.eqv p q) (eB gLen (aCons (eVar 4) aNil)) (eB gLen (aCons (eOp gIx (eVar 2) (eC (.int 0))) aNil)))))) sNever sNil) (sIf (tNt (tV (eB (gBs fun bs => bs.all id) (aCons (eLc [5] (aItems (eVar 4)) (gN 5) tTrue (eCall ff_is_among (aCons (eVar 5) (aCons (eC (.int 0)) (aCons (eVar 1) aNil))) [])) aNil)))) sNever sNil)))))))
noncomputable def ff_need_field : Fn := fnF 6 gg_need_field
def nn_plain_sides : List Str := ["field"]
noncomputable def gg_plain_sides : SF := (sRet (eTup (aCons (eB gLen (aCons (eOp gIx (eOp gIx (eVar 0) (eC (.int 1))) (eC (.int 0))) aNil)) (aCons (eB gLen (aCons (eOp gIx (eVar 0) (eC (.int 1))) aNil)) aNil))))
noncomputable def ff_plain_sides : Fn := fnF 1 gg_plain_sides
def nn_cells_of : List Str := ["field", "wide", "long", "i", "j"]
noncomputable def gg_cells_of : SF := (sSeq (sAs (eCall ff_plain_sides (aCons (eVar 0) aNil) []) (gTp (gsCons (gN 1) (gsCons (gN 2) gsNil)))) (sRet (eLc2 [3, 4] [4] (aRng1 (aCons (eVar 1) aNil)) (gN 3) tTrue (aRng1 (aCons (eVar 2) aNil)) (gN 4) tTrue (eTup (aCons (eVar 3) (aCons (eVar 4) aNil))))))
noncomputable def ff_cells_of : Fn := fnF 5 gg_cells_of
def nn_height_of : List Str := ["field", "cell", "i", "j"]
noncomputable def gg_height_of : SF := (sSeq (sAs (eVar 1) (gTp (gsCons (gN 2) (gsCons (gN 3) gsNil)))) (sRet (eOp gIx (eOp gIx (eOp gIx (eVar 0) (eC (.int 1))) (eVar 3)) (eVar 2))))
noncomputable def ff_height_of : Fn := fnF 4 gg_height_of
def nn_heights_of : List Str := ["field", "cell"]
noncomputable def gg_heights_of : SF := (sRet (eDcC [1] (aItems (eCall ff_cells_of (aCons (eVar 0) aNil) [])) (gN 1) tTrue (eVar 1) (eCall ff_height_of (aCons (eVar 0) (aCons (eVar 1) aNil)) [])))
noncomputable def ff_heights_of : Fn := fnF 2 gg_heights_of
def nn_field_by : List Str := ["field", "heights", "wide", "long", "i", "j"]
noncomputable def gg_field_by : SF := (sSeq (sAs (eCall ff_plain_sides (aCons (eVar 0) aNil) []) (gTp (gsCons (gN 2) (gsCons (gN 3) gsNil)))) (sRet (eTup (aCons (eOp gIx (eVar 0) (eC (.int 0))) (aCons (eB gTupOf (aCons (eLc [5] (aRng1 (aCons (eVar 3) aNil)) (gN 5) tTrue (eB gTupOf (aCons (eLc [4] (aRng1 (aCons (eVar 2) aNil)) (gN 4) tTrue (eOp gIxC (eVar 1) (eTup (aCons (eVar 4) (aCons (eVar 5) aNil))))) aNil))) aNil)) aNil)))))
noncomputable def ff_field_by : Fn := fnF 6 gg_field_by
def nn_is_tool : List Str := ["thing"]
noncomputable def gg_is_tool : SF := (sSeq (sIf (tOrr (tNt (tV (eB gIsi (aCons (eVar 0) (aCons (eC (.ty "tuple")) aNil))))) (tV (eOp (gEq fun p q => !PyData.eqv p q) (eB gLen (aCons (eVar 0) aNil)) (eC (.int 2))))) (sRet (eC (.bl false))) sNil) (sRet (eAn (eCall ff_is_among (aCons (eOp gIx (eVar 0) (eC (.int 0))) (aCons (eC (.int 1)) (aCons (eC (.int 4)) aNil))) []) (eCall ff_is_among (aCons (eOp gIx (eVar 0) (eC (.int 1))) (aCons (eC (.int 1)) (aCons (eC (.int 6)) aNil))) []))))
noncomputable def ff_is_tool : Fn := fnF 1 gg_is_tool
def nn_need_tools : List Str := ["tools", "number", "tool"]
noncomputable def gg_need_tools : SF := (sSeq (sIf (tOrr (tNt (tV (eB gIsi (aCons (eVar 0) (aCons (eC (.ty "tuple")) aNil))))) (tV (eOp (gInt fun i j => .bl (decide (j < i))) (eB gLen (aCons (eVar 0) aNil)) (eC (.int 4))))) sNever sNil) (sFor (aEnumT (aCons (eVar 0) aNil)) (gTp (gsCons (gN 1) (gsCons (gN 2) gsNil))) (sIf (tOrr (tNt (tV (eCall ff_is_tool (aCons (eVar 2) aNil) []))) (tV (eOp (gIn fun b => b) (eVar 2) (eSl (eVar 0) pNone (pSome (eVar 1)))))) sNever sNil)))
noncomputable def ff_need_tools : Fn := fnF 3 gg_need_tools
def nn_solid : List Str := ["field", "high", "_", "row"]
noncomputable def gg_solid : SF := (sSeq (sE (eCall ff_need_field (aCons (eVar 0) aNil) [])) (sSeq (sAs (eOp gIx (eVar 0) (eC (.int 0))) (gN 1)) (sRet (eTup (aCons (eVar 1) (aCons (eB gTupOf (aCons (eLc [3] (aItems (eOp gIx (eVar 0) (eC (.int 1)))) (gN 3) tTrue (eB gTupOf (aCons (eLc [2] (aItems (eVar 3)) (gN 2) tTrue (eVar 1)) aNil))) aNil)) aNil))))))
noncomputable def ff_solid : Fn := fnF 4 gg_solid
def nn_cells_between : List Str := ["sides", "first", "last", "left", "low", "right", "top", "wide", "long", "i", "j"]
noncomputable def gg_cells_between : SF := (sSeq (sAs (eTup (aCons (eVar 1) (aCons (eVar 2) aNil))) (gTp (gsCons (gTp (gsCons (gN 3) (gsCons (gN 4) gsNil))) (gsCons (gTp (gsCons (gN 5) (gsCons (gN 6) gsNil))) gsNil)))) (sSeq (sAs (eVar 0) (gTp (gsCons (gN 7) (gsCons (gN 8) gsNil)))) (sRet (eLc2 [9, 10] [10] (aRng2 (aCons (eB (gL2 fun i j => .int (if j > i then j else i)) (aCons (eVar 3) (aCons (eC (.int 0)) aNil))) (aCons (eB (gL2 fun i j => .int (if j < i then j else i)) (aCons (eVar 5) (aCons (eVar 7) aNil))) aNil))) (gN 9) tTrue (aRng2 (aCons (eB (gL2 fun i j => .int (if j > i then j else i)) (aCons (eVar 4) (aCons (eC (.int 0)) aNil))) (aCons (eB (gL2 fun i j => .int (if j < i then j else i)) (aCons (eVar 6) (aCons (eVar 8) aNil))) aNil))) (gN 10) tTrue (eTup (aCons (eVar 9) (aCons (eVar 10) aNil)))))))
noncomputable def ff_cells_between : Fn := fnF 11 gg_cells_between
def nn_plain_under : List Str := ["sides", "tool", "place", "i", "j"]
noncomputable def gg_plain_under : SF := (sSeq (sAs (eVar 2) (gTp (gsCons (gN 3) (gsCons (gN 4) gsNil)))) (sRet (eB gTupOf (aCons (eCall ff_cells_between (aCons (eVar 0) (aCons (eVar 2) (aCons (eTup (aCons (eOp gAdd (eVar 3) (eOp gIx (eVar 1) (eC (.int 0)))) (aCons (eOp gAdd (eVar 4) (eOp gIx (eVar 1) (eC (.int 0)))) aNil))) aNil))) []) aNil))))
noncomputable def ff_plain_under : Fn := fnF 5 gg_plain_under
def nn_plain_ring : List Str := ["sides", "tool", "place", "i", "j", "under", "around", "cell"]
noncomputable def gg_plain_ring : SF := (sSeq (sAs (eVar 2) (gTp (gsCons (gN 3) (gsCons (gN 4) gsNil)))) (sSeq (sAs (eCall ff_plain_under (aCons (eVar 0) (aCons (eVar 1) (aCons (eVar 2) aNil))) []) (gN 5)) (sSeq (sAs (eCall ff_cells_between (aCons (eVar 0) (aCons (eTup (aCons (eOp (gInt fun i j => .int (i - j)) (eVar 3) (eC (.int 1))) (aCons (eOp (gInt fun i j => .int (i - j)) (eVar 4) (eC (.int 1))) aNil))) (aCons (eTup (aCons (eOp gAdd (eOp gAdd (eVar 3) (eOp gIx (eVar 1) (eC (.int 0)))) (eC (.int 1))) (aCons (eOp gAdd (eOp gAdd (eVar 4) (eOp gIx (eVar 1) (eC (.int 0)))) (eC (.int 1))) aNil))) aNil))) []) (gN 6)) (sRet (eB gTupOf (aCons (eLc [7] (aItems (eVar 6)) (gN 7) (tV (eOp (gIn fun b => !b) (eVar 7) (eVar 5))) (eVar 7)) aNil))))))
noncomputable def ff_plain_ring : Fn := fnF 8 gg_plain_ring
def nn_plain_places : List Str := ["sides", "tool", "wide", "long", "i", "j"]
noncomputable def gg_plain_places : SF := (sSeq (sAs (eVar 0) (gTp (gsCons (gN 2) (gsCons (gN 3) gsNil)))) (sRet (eB gTupOf (aCons (eLc2 [4, 5] [5] (aRng2 (aCons (eOp (gInt fun i j => .int (i - j)) (eC (.int 1)) (eOp gIx (eVar 1) (eC (.int 0)))) (aCons (eVar 2) aNil))) (gN 4) tTrue (aRng2 (aCons (eOp (gInt fun i j => .int (i - j)) (eC (.int 1)) (eOp gIx (eVar 1) (eC (.int 0)))) (aCons (eVar 3) aNil))) (gN 5) tTrue (eTup (aCons (eVar 4) (aCons (eVar 5) aNil)))) aNil))))
noncomputable def ff_plain_places : Fn := fnF 6 gg_plain_places
def nn_Seat_init : List Str := ["self", "field", "tool", "place", "sides", "cell"]
noncomputable def gg_Seat_init (ct : CT) : SF := (sSeq (sAs (eCall ff_plain_sides (aCons (eVar 1) aNil) []) (gN 4)) (sSeq (sFl [ct.Seat] "tool" (eVar 0) (eVar 2)) (sSeq (sFl [ct.Seat] "place" (eVar 0) (eVar 3)) (sSeq (sFl [ct.Seat] "under" (eVar 0) (eCall ff_plain_under (aCons (eVar 4) (aCons (eVar 2) (aCons (eVar 3) aNil))) [])) (sSeq (sFl [ct.Seat] "ring" (eVar 0) (eCall ff_plain_ring (aCons (eVar 4) (aCons (eVar 2) (aCons (eVar 3) aNil))) [])) (sFl [ct.Seat] "floor" (eVar 0) (eB gMaxL (aCons (eLc [5] (aItems (eFl [ct.Seat] "under" (eVar 0))) (gN 5) tTrue (eCall ff_height_of (aCons (eVar 1) (aCons (eVar 5) aNil)) [])) aNil))))))))
noncomputable def ff_Seat_init (ct : CT) : Fn := fnF 6 (gg_Seat_init ct)
def nn_seats_of : List Str := ["field", "tools", "sides", "tool", "place"]
noncomputable def gg_seats_of (ct : CT) : SF := (sSeq (sAs (eCall ff_plain_sides (aCons (eVar 0) aNil) []) (gN 2)) (sRet (eLc2 [3, 4] [4] (aItems (eVar 1)) (gN 3) tTrue (aItems (eCall ff_plain_places (aCons (eVar 2) (aCons (eVar 3) aNil)) [])) (gN 4) tTrue (eMake ct.Seat (ff_Seat_init ct) (aCons (eVar 0) (aCons (eVar 3) (aCons (eVar 4) aNil))) []))))
noncomputable def ff_seats_of (ct : CT) : Fn := fnF 5 (gg_seats_of ct)
def nn_Seat_lowest_by : List Str := ["self", "heights", "_", "length", "cell"]
noncomputable def gg_Seat_lowest_by (ct : CT) : SF := (sSeq (sAs (eFl [ct.Seat] "tool" (eVar 0)) (gTp (gsCons (gN 2) (gsCons (gN 3) gsNil)))) (sRet (eB gMaxL (aCons (eOp gAdd (eLst (aCons (eFl [ct.Seat] "floor" (eVar 0)) aNil)) (eLc [4] (aItems (eFl [ct.Seat] "ring" (eVar 0))) (gN 4) tTrue (eOp (gInt fun i j => .int (i - j)) (eOp gIxC (eVar 1) (eVar 4)) (eVar 3)))) aNil))))
noncomputable def ff_Seat_lowest_by (ct : CT) : Fn := fnF 5 (gg_Seat_lowest_by ct)
def nn_after_round : List Str := ["field", "seats", "stock", "ahead", "behind", "seat", "height", "cell"]
noncomputable def gg_after_round (ct : CT) : SF := (sSeq (sAs (eCall ff_heights_of (aCons (eVar 2) aNil) []) (gN 3)) (sSeq (sAs (eCall ff_heights_of (aCons (eVar 2) aNil) []) (gN 4)) (sSeq (sFor (aItems (eVar 1)) (gN 5) (sSeq (sAs (eMeth ct.Seat "lowest_by" (ff_Seat_lowest_by ct) (eVar 5) (aCons (eVar 3) aNil) []) (gN 6)) (sFor (aItems (eFl [ct.Seat] "under" (eVar 5))) (gN 7) (sCput (eVar 4) (eVar 7) (eB (gL2 fun i j => .int (if j < i then j else i)) (aCons (eOp gIxC (eVar 4) (eVar 7)) (aCons (eVar 6) aNil))))))) (sRet (eCall ff_field_by (aCons (eVar 0) (aCons (eVar 4) aNil)) [])))))
noncomputable def ff_after_round (ct : CT) : Fn := fnF 8 (gg_after_round ct)
def nn_steady : List Str := ["field", "tools", "seats", "stocks", "following"]
noncomputable def gg_steady (ct : CT) : SF := (sSeq (sE (eCall ff_need_field (aCons (eVar 0) aNil) [])) (sSeq (sE (eCall ff_need_tools (aCons (eVar 1) aNil) [])) (sSeq (sAs (eCall (ff_seats_of ct) (aCons (eVar 0) (aCons (eVar 1) aNil)) []) (gN 2)) (sSeq (sAs (eNew (aCons (eCall ff_solid (aCons (eVar 0) aNil) []) aNil)) (gN 3)) (sSeq (sAs (eCall (ff_after_round ct) (aCons (eVar 0) (aCons (eVar 2) (aCons (eOp gIx (eVar 3) (eUn gNeg (eC (.int 1)))) aNil))) []) (gN 4)) (sSeq (sWh (tV (eOp (gEq fun p q => !PyData.eqv p q) (eVar 4) (eOp gIx (eVar 3) (eUn gNeg (eC (.int 1)))))) (sSeq (sE (eMeth2 gApp (eVar 3) (aCons (eVar 4) aNil))) (sAs (eCall (ff_after_round ct) (aCons (eVar 0) (aCons (eVar 2) (aCons (eOp gIx (eVar 3) (eUn gNeg (eC (.int 1)))) aNil))) []) (gN 4)))) (sRet (eVar 3))))))))
noncomputable def ff_steady (ct : CT) : Fn := fnF 5 (gg_steady ct)
def nn_reached : List Str := ["field", "tools"]
noncomputable def gg_reached (ct : CT) : SF := (sRet (eOp gIx (eCall (ff_steady ct) (aCons (eVar 0) (aCons (eVar 1) aNil)) []) (eUn gNeg (eC (.int 1)))))
noncomputable def ff_reached (ct : CT) : Fn := fnF 2 (gg_reached ct)
def nn_law_mixed : List Str := ["cell", "k", "number"]
noncomputable def gg_law_mixed : SF := (sSeq (sAs (eOp gAdd (eOp gAdd (eOp (gIntC (fun _ j => j ≠ 0) fun i j => .int (i.fmod j)) (eVar 0) (eOp gIx (eLst (aCons (eC (.int 1000000007)) (aCons (eC (.int 998244353)) (aCons (eC (.int 2147483629)) (aCons (eC (.int 1000000009)) aNil))))) (eOp (gIntC (fun _ j => j ≠ 0) fun i j => .int (i.fmod j)) (eVar 1) (eC (.int 4))))) (eOp gMul (eC (.int 7919)) (eVar 1))) (eC (.int 13))) (gN 2)) (sRet (eOp (gIntC (fun _ j => j ≠ 0) fun i j => .int (i.fmod j)) (eOp gMul (eOp (gIntC (fun _ j => j ≠ 0) fun i j => .int (i.fmod j)) (eOp gMul (eVar 2) (eVar 2)) (eC (.int 2147483647))) (eC (.int 48271))) (eC (.int 2147483647)))))
noncomputable def ff_law_mixed : Fn := fnF 3 gg_law_mixed
def nn_law_draw : List Str := ["cell", "k"]
noncomputable def gg_law_draw : SF := (sRet (eDic (psCons (eC (.str "left")) (eIf (tV (eOp (gInt fun i j => .bl (decide (j ≤ i))) (eVar 0) (eOp (gIntC PowOk fun i j => .int (i ^ j.toNat)) (eC (.int 10)) (eC (.int 18))))) (eVar 0) (eC (.int 0))) (psCons (eC (.str "cell")) (eVar 0) (psCons (eC (.str "turns")) (eOp gMul (eC (.int 1000)) (eVar 1)) psNil)))))
noncomputable def ff_law_draw : Fn := fnF 2 gg_law_draw
def nn_law_digit : List Str := ["state", "many", "j", "found"]
noncomputable def gg_law_digit : SF := (sSeq (sIf (tV (eOp (gEq PyData.eqv) (eOp gDget (eVar 0) (eC (.str "left"))) (eC (.int 0)))) (sFor (aRng1 (aCons (eC (.int 4)) aNil)) (gN 2) (sSeq (sDput (eVar 0) (eC (.str "turns")) (eOp gAdd (eOp gDget (eVar 0) (eC (.str "turns"))) (eC (.int 1)))) (sDput (eVar 0) (eC (.str "left")) (eOp gAdd (eOp gMul (eOp gDget (eVar 0) (eC (.str "left"))) (eC (.int 2147483647))) (eCall ff_law_mixed (aCons (eOp gDget (eVar 0) (eC (.str "cell"))) (aCons (eOp gDget (eVar 0) (eC (.str "turns"))) aNil)) []))))) sNil) (sSeq (sAs (eOp (gIntC (fun _ j => j ≠ 0) fun i j => .int (i.fmod j)) (eOp gDget (eVar 0) (eC (.str "left"))) (eVar 1)) (gN 3)) (sSeq (sDput (eVar 0) (eC (.str "left")) (eOp (gIntC DivOk fun i j => .int (i.fdiv j)) (eOp gDget (eVar 0) (eC (.str "left"))) (eVar 1))) (sRet (eVar 3)))))
noncomputable def ff_law_digit : Fn := fnF 4 gg_law_digit
def nn_law_a_field : List Str := ["state", "most", "wide", "long", "high", "aims", "j", "turn", "i", "height", "k", "m", "b", "a", "row"]
noncomputable def gg_law_a_field : SF := (sSeq (sAs (eTup (aCons (eOp gAdd (eC (.int 1)) (eCall ff_law_digit (aCons (eVar 0) (aCons (eVar 1) aNil)) [])) (aCons (eOp gAdd (eC (.int 1)) (eCall ff_law_digit (aCons (eVar 0) (aCons (eVar 1) aNil)) [])) (aCons (eOp gAdd (eC (.int 1)) (eCall ff_law_digit (aCons (eVar 0) (aCons (eC (.int 6)) aNil)) [])) aNil)))) (gTp (gsCons (gN 2) (gsCons (gN 3) (gsCons (gN 4) gsNil))))) (sSeq (sAs (eLc [6] (aRng1 (aCons (eVar 3) aNil)) (gN 6) tTrue (eOp gMulN (eLst (aCons (eVar 4) aNil)) (eVar 2))) (gN 5)) (sSeq (sFor (aRng1 (aCons (eCall ff_law_digit (aCons (eVar 0) (aCons (eC (.int 5)) aNil)) []) aNil)) (gN 7) (sSeq (sPar3 8 6 9 (eCall ff_law_digit (aCons (eVar 0) (aCons (eVar 2) aNil)) []) (eCall ff_law_digit (aCons (eVar 0) (aCons (eVar 3) aNil)) []) (eCall ff_law_digit (aCons (eVar 0) (aCons (eOp gAdd (eVar 4) (eC (.int 1))) aNil)) [])) (sSeq (sPar 10 11 (eOp gAdd (eOp gAdd (eVar 8) (eC (.int 1))) (eCall ff_law_digit (aCons (eVar 0) (aCons (eOp (gInt fun i j => .int (i - j)) (eVar 2) (eVar 8)) aNil)) [])) (eOp gAdd (eOp gAdd (eVar 6) (eC (.int 1))) (eCall ff_law_digit (aCons (eVar 0) (aCons (eOp (gInt fun i j => .int (i - j)) (eVar 3) (eVar 6)) aNil)) []))) (sFor (aRng2 (aCons (eVar 6) (aCons (eVar 11) aNil))) (gN 12) (sFor (aRng2 (aCons (eVar 8) (aCons (eVar 10) aNil))) (gN 13) (sLput (eOp gIx (eVar 5) (eVar 12)) (eVar 13) (eVar 9))))))) (sRet (eTup (aCons (eVar 4) (aCons (eB gTupOf (aCons (eLc [14] (aItems (eVar 5)) (gN 14) tTrue (eB gTupOf (aCons (eVar 14) aNil))) aNil)) aNil)))))))
noncomputable def ff_law_a_field : Fn := fnF 15 gg_law_a_field
def nn_law_some_tools : List Str := ["state", "most", "found", "turn", "one"]
noncomputable def gg_law_some_tools : SF := (sSeq (sAs (eNew aNil) (gN 2)) (sSeq (sFor (aRng1 (aCons (eCall ff_law_digit (aCons (eVar 0) (aCons (eOp gAdd (eVar 1) (eC (.int 1))) aNil)) []) aNil)) (gN 3) (sSeq (sAs (eTup (aCons (eOp gAdd (eC (.int 1)) (eCall ff_law_digit (aCons (eVar 0) (aCons (eC (.int 4)) aNil)) [])) (aCons (eOp gAdd (eC (.int 1)) (eCall ff_law_digit (aCons (eVar 0) (aCons (eC (.int 6)) aNil)) [])) aNil))) (gN 4)) (sIf (tV (eOp (gIn fun b => !b) (eVar 4) (eVar 2))) (sE (eMeth2 gApp (eVar 2) (aCons (eVar 4) aNil))) sNil))) (sRet (eB gTupOf (aCons (eVar 2) aNil)))))
noncomputable def ff_law_some_tools : Fn := fnF 5 gg_law_some_tools
def nn_law_cells : List Str := ["field", "found", "i", "j"]
noncomputable def gg_law_cells : SF := (sSeq (sAs (eNew aNil) (gN 1)) (sSeq (sFor (aRng1 (aCons (eB gLen (aCons (eOp gIx (eOp gIx (eVar 0) (eC (.int 1))) (eC (.int 0))) aNil)) aNil)) (gN 2) (sE (eMeth2 gExt (eVar 1) (aCons (eLc [3] (aRng1 (aCons (eB gLen (aCons (eOp gIx (eVar 0) (eC (.int 1))) aNil)) aNil)) (gN 3) tTrue (eTup (aCons (eVar 2) (aCons (eVar 3) aNil)))) aNil)))) (sRet (eFrz 1))))
noncomputable def ff_law_cells : Fn := fnF 4 gg_law_cells
def nn_law_spots : List Str := ["field", "side", "found", "i", "j"]
noncomputable def gg_law_spots : SF := (sSeq (sAs (eNew aNil) (gN 2)) (sSeq (sFor (aRng2 (aCons (eOp (gInt fun i j => .int (i - j)) (eC (.int 1)) (eVar 1)) (aCons (eB gLen (aCons (eOp gIx (eOp gIx (eVar 0) (eC (.int 1))) (eC (.int 0))) aNil)) aNil))) (gN 3) (sE (eMeth2 gExt (eVar 2) (aCons (eLc [4] (aRng2 (aCons (eOp (gInt fun i j => .int (i - j)) (eC (.int 1)) (eVar 1)) (aCons (eB gLen (aCons (eOp gIx (eVar 0) (eC (.int 1))) aNil)) aNil))) (gN 4) tTrue (eTup (aCons (eVar 3) (aCons (eVar 4) aNil)))) aNil)))) (sRet (eFrz 2))))
noncomputable def ff_law_spots : Fn := fnF 5 gg_law_spots
def nn_law_near : List Str := ["field", "spot", "side", "more", "i", "j", "found", "a", "b"]
noncomputable def gg_law_near : SF := (sSeq (sAs (eVar 1) (gTp (gsCons (gN 4) (gsCons (gN 5) gsNil)))) (sSeq (sAs (eNew aNil) (gN 6)) (sSeq (sFor (aItems (eCall ff_law_cells (aCons (eVar 0) aNil) [])) (gTp (gsCons (gN 7) (gsCons (gN 8) gsNil))) (sIf (tAn (tV (eChain (gInt fun i j => .bl (decide (i ≤ j))) (gInt fun i j => .bl (decide (i < j))) (eOp (gInt fun i j => .int (i - j)) (eVar 4) (eVar 3)) (eVar 7) (eOp gAdd (eOp gAdd (eVar 4) (eVar 2)) (eVar 3)))) (tV (eChain (gInt fun i j => .bl (decide (i ≤ j))) (gInt fun i j => .bl (decide (i < j))) (eOp (gInt fun i j => .int (i - j)) (eVar 5) (eVar 3)) (eVar 8) (eOp gAdd (eOp gAdd (eVar 5) (eVar 2)) (eVar 3))))) (sE (eMeth2 gApp (eVar 6) (aCons (eTup (aCons (eVar 7) (aCons (eVar 8) aNil))) aNil))) sNil)) (sRet (eFrz 6)))))
noncomputable def ff_law_near : Fn := fnF 9 gg_law_near
def nn_law_aim : List Str := ["field", "cell"]
noncomputable def gg_law_aim : SF := (sRet (eOp gIx (eOp gIx (eOp gIx (eVar 0) (eC (.int 1))) (eOp gIx (eVar 1) (eC (.int 1)))) (eOp gIx (eVar 1) (eC (.int 0)))))
noncomputable def ff_law_aim : Fn := fnF 2 gg_law_aim
def nn_law_low : List Str := ["field", "heights", "one", "spot", "under", "some", "cell"]
noncomputable def gg_law_low : SF := (sSeq (sAs (eCall ff_law_near (aCons (eVar 0) (aCons (eVar 3) (aCons (eOp gIx (eVar 2) (eC (.int 0))) (aCons (eC (.int 0)) aNil)))) []) (gN 4)) (sSeq (sAs (eLcN [6] (aItems (eVar 4)) (gN 6) tTrue (eCall ff_law_aim (aCons (eVar 0) (aCons (eVar 6) aNil)) [])) (gN 5)) (sSeq (sFor (aItems (eCall ff_law_near (aCons (eVar 0) (aCons (eVar 3) (aCons (eOp gIx (eVar 2) (eC (.int 0))) (aCons (eC (.int 1)) aNil)))) [])) (gN 6) (sIf (tV (eOp (gIn fun b => !b) (eVar 6) (eVar 4))) (sE (eMeth2 gApp (eVar 5) (aCons (eOp (gInt fun i j => .int (i - j)) (eOp gIxF (eVar 1) (eVar 6)) (eOp gIx (eVar 2) (eC (.int 1)))) aNil))) sNil)) (sRet (eB gMaxL (aCons (eOp gAdd (eLst (aCons (eC (.int 0)) aNil)) (eVar 5)) aNil))))))
noncomputable def ff_law_low : Fn := fnF 7 gg_law_low
def nn_law_full : List Str := ["field", "cell"]
noncomputable def gg_law_full : SF := (sRet (eB gDictF (aCons (eLc [1] (aItems (eCall ff_law_cells (aCons (eVar 0) aNil) [])) (gN 1) tTrue (eTup (aCons (eVar 1) (aCons (eOp gIx (eVar 0) (eC (.int 0))) aNil)))) aNil)))
noncomputable def ff_law_full : Fn := fnF 2 gg_law_full
def nn_law_cut : List Str := ["field", "heights", "stand", "one", "spot", "height", "under", "cell", "at"]
noncomputable def gg_law_cut : SF := (sSeq (sAs (eVar 2) (gTp (gsCons (gN 3) (gsCons (gN 4) (gsCons (gN 5) gsNil))))) (sSeq (sAs (eCall ff_law_near (aCons (eVar 0) (aCons (eVar 4) (aCons (eOp gIx (eVar 3) (eC (.int 0))) (aCons (eC (.int 0)) aNil)))) []) (gN 6)) (sRet (eB gDictF (aCons (eLc [7, 8] (aItemsC (eVar 1)) (gTp (gsCons (gN 7) (gsCons (gN 8) gsNil))) tTrue (eTup (aCons (eVar 7) (aCons (eIf (tV (eOp (gIn fun b => b) (eVar 7) (eVar 6))) (eB (gL2 fun i j => .int (if j < i then j else i)) (aCons (eVar 8) (aCons (eVar 5) aNil))) (eVar 8)) aNil)))) aNil)))))
noncomputable def ff_law_cut : Fn := fnF 9 gg_law_cut
def nn_law_as_field : List Str := ["field", "heights", "wide", "long", "i", "j"]
noncomputable def gg_law_as_field : SF := (sSeq (sAs (eTup (aCons (eB gLen (aCons (eOp gIx (eOp gIx (eVar 0) (eC (.int 1))) (eC (.int 0))) aNil)) (aCons (eB gLen (aCons (eOp gIx (eVar 0) (eC (.int 1))) aNil)) aNil))) (gTp (gsCons (gN 2) (gsCons (gN 3) gsNil)))) (sRet (eTup (aCons (eOp gIx (eVar 0) (eC (.int 0))) (aCons (eB gTupOf (aCons (eLc [5] (aRng1 (aCons (eVar 3) aNil)) (gN 5) tTrue (eB gTupOf (aCons (eLc [4] (aRng1 (aCons (eVar 2) aNil)) (gN 4) tTrue (eOp gIxF (eVar 1) (eTup (aCons (eVar 4) (aCons (eVar 5) aNil))))) aNil))) aNil)) aNil)))))
noncomputable def ff_law_as_field : Fn := fnF 6 gg_law_as_field
def nn_law_all_stands : List Str := ["field", "tools", "found", "one", "spot"]
noncomputable def gg_law_all_stands : SF := (sSeq (sAs (eNew aNil) (gN 2)) (sSeq (sFor (aItems (eVar 1)) (gN 3) (sE (eMeth2 gExt (eVar 2) (aCons (eLc [4] (aItems (eCall ff_law_spots (aCons (eVar 0) (aCons (eOp gIx (eVar 3) (eC (.int 0))) aNil)) [])) (gN 4) tTrue (eTup (aCons (eVar 3) (aCons (eVar 4) aNil)))) aNil)))) (sRet (eFrz 2))))
noncomputable def ff_law_all_stands : Fn := fnF 5 gg_law_all_stands
def nn_law_round : List Str := ["field", "heights", "tools", "found", "one", "spot"]
noncomputable def gg_law_round : SF := (sSeq (sAs (eVar 1) (gN 3)) (sSeq (sFor (aItems (eCall ff_law_all_stands (aCons (eVar 0) (aCons (eVar 2) aNil)) [])) (gTp (gsCons (gN 4) (gsCons (gN 5) gsNil))) (sAs (eCall ff_law_cut (aCons (eVar 0) (aCons (eVar 3) (aCons (eTup (aCons (eVar 4) (aCons (eVar 5) (aCons (eCall ff_law_low (aCons (eVar 0) (aCons (eVar 1) (aCons (eVar 4) (aCons (eVar 5) aNil)))) []) aNil)))) aNil))) []) (gN 3))) (sRet (eVar 3))))
noncomputable def ff_law_round : Fn := fnF 6 gg_law_round
def nn_law : List Str := ["script", "k", "cell", "state", "field", "tools", "heights", "due", "told", "rows", "one"]
noncomputable def gg_law (ct : CT) : SF := (sSeq (sFor (aEnum (aCons (eSl (eOp gAddQ (eVar 0) (eLst (aCons (eC (.int 4)) (aCons (eC (.int 9)) aNil)))) pNone (pSome (eC (.int 3)))) aNil)) (gTp (gsCons (gN 1) (gsCons (gN 2) gsNil))) (sSeq (sAs (eCall ff_law_draw (aCons (eVar 2) (aCons (eVar 1) aNil)) []) (gN 3)) (sSeq (sAs (eTup (aCons (eCall ff_law_a_field (aCons (eVar 3) (aCons (eC (.int 4)) aNil)) []) (aCons (eCall ff_law_some_tools (aCons (eVar 3) (aCons (eC (.int 4)) aNil)) []) aNil))) (gTp (gsCons (gN 4) (gsCons (gN 5) gsNil)))) (sSeq (sPar 6 7 (eCall ff_law_full (aCons (eVar 4) aNil) []) (eNew aNil)) (sSeq (sWh (tOrr (tV (eOp gEqE (eVar 7) (eLst aNil))) (tV (eOp (gEqC fun b => !b) (eOp gIx (eVar 7) (eUn gNeg (eC (.int 1)))) (eVar 6)))) (sSeq (sE (eMeth2 gApp (eVar 7) (aCons (eVar 6) aNil))) (sAs (eCall ff_law_round (aCons (eVar 4) (aCons (eVar 6) (aCons (eVar 5) aNil))) []) (gN 6)))) (sSeq (sPar 8 9 (eCall (ff_steady ct) (aCons (eVar 4) (aCons (eVar 5) aNil)) []) (eLcV [10] (eVar 7) (gN 10) tTrue (eCall ff_law_as_field (aCons (eVar 4) (aCons (eVar 10) aNil)) []))) (sSeq (sIf (tOrr (tNt (tV (eB gIsi (aCons (eVar 8) (aCons (eC (.ty "list")) aNil))))) (tOrr (tV (eOp (gEq fun p q => !PyData.eqv p q) (eB gRepr (aCons (eVar 8) aNil)) (eB gRepr (aCons (eVar 9) aNil)))) (tV (eOp (gEq fun p q => !PyData.eqv p q) (eB gRepr (aCons (eCall (ff_reached ct) (aCons (eVar 4) (aCons (eVar 5) aNil)) []) aNil)) (eB gRepr (aCons (eOp gIx (eVar 9) (eUn gNeg (eC (.int 1)))) aNil)))))) (sRet (eC (.bl false))) sNil) (sSeq (sE (eMeth2 gClr (eVar 8) aNil)) (sIf (tV (eOp (gEq fun p q => !PyData.eqv p q) (eCall (ff_steady ct) (aCons (eVar 4) (aCons (eVar 5) aNil)) []) (eVar 9))) (sRet (eC (.bl false))) sNil))))))))) (sRet (eC (.bl true))))
noncomputable def ff_law (ct : CT) : Fn := fnF 11 (gg_law ct)
end Law
namespace Law
open PySem L2 Pl
def topS (i : Nat) : Stmt := PySem.Challenge.pw_panelworks_k42_reached_round_by_round.main.body.getD i (.Pass ⟨0, 0, 0, 0⟩)
structure Txt (ct : CT) (K : PySem.W.Frag) (mg : Str → Option Value) : Prop where
  n_int : mg "int" = none
  n_isinstance : mg "isinstance" = none
  n_bool : mg "bool" = none
  n_tuple : mg "tuple" = none
  n_len : mg "len" = none
  n_enumerate : mg "enumerate" = none
  n_all : mg "all" = none
  n_range : mg "range" = none
  n_min : mg "min" = none
  n_max : mg "max" = none
  n_dict : mg "dict" = none
  n_list : mg "list" = none
  n_repr : mg "repr" = none
  g_MOST_HIGH : GV K mg "MOST_HIGH" (.int 6)
  g_MOST_SIDE : GV K mg "MOST_SIDE" (.int 8)
  g_MOST_TOOL : GV K mg "MOST_TOOL" (.int 4)
  g_MOST_LENGTH : GV K mg "MOST_LENGTH" (.int 6)
  g_MOST_TOOLS : GV K mg "MOST_TOOLS" (.int 4)
  c_Seat : mg "Seat" = some (.ref ct.Seat)
  okf : ∀ C f, ct.okf C f = true → OkF K C f
  okg : ∀ C f, ct.okg C f = true → XfC K C ∧ PySem.W.findIn K (.ref C) f = some none
  isa : ∀ C v b, ct.isa C v = some b → ExcC K C ∧ PySem.W.kitOne K (.ref C) v = some b
  fl_tool : ∀ C ∈ [ct.Seat], Cls K C ∧ NoAttr K C "tool"
  fl_place : ∀ C ∈ [ct.Seat], Cls K C ∧ NoAttr K C "place"
  fl_under : ∀ C ∈ [ct.Seat], Cls K C ∧ NoAttr K C "under"
  fl_ring : ∀ C ∈ [ct.Seat], Cls K C ∧ NoAttr K C "ring"
  fl_floor : ∀ C ∈ [ct.Seat], Cls K C ∧ NoAttr K C "floor"
section
variable {P : Program} {w : World} {K : PySem.W.Frag} {mg : Str → Option Value} {base : Heap} {ct : CT}
abbrev ss_is_whole : Stmt := topS 11
theorem sc_is_whole : FnScope nn_is_whole ["thing"] (defScope ss_is_whole) := ⟨rfl, rfl, rfl, by decide +kernel, rfl, by decide +kernel, by decide +kernel⟩
abbrev FF_is_whole (K : PySem.W.Frag) (f : Addr) (fd : FuncData) : Prop := FunD K "is_whole" "is_whole" (defArgs ss_is_whole) (defBody ss_is_whole) (defScope ss_is_whole) [] [] f fd
theorem ok_is_whole (T : Txt ct K mg) {f : Addr} {fd : FuncData} (F : FF_is_whole K f fd) : DFn P w K mg base 1 f fd ["thing"] ff_is_whole :=
  DFn.of F sc_is_whole fun c => (DB.one (DS.ret (DE.and (DE.callB c (cIsi c) T.n_isinstance (by decide +kernel) (DA.cons (DE.var 0) (DA.cons (DE.bltn c T.n_int (by decide +kernel) (v := .ty "int") rfl fun _ _ => .ty _) DA.nil))) (DE.one (DE.not (DE.callB c (cIsi c) T.n_isinstance (by decide +kernel) (DA.cons (DE.var 0) (DA.cons (DE.bltn c T.n_bool (by decide +kernel) (v := .ty "bool") rfl fun _ _ => .ty _) DA.nil))))))))
abbrev ss_is_among : Stmt := topS 12
theorem sc_is_among : FnScope nn_is_among ["thing", "least", "most"] (defScope ss_is_among) := ⟨rfl, rfl, rfl, by decide +kernel, rfl, by decide +kernel, by decide +kernel⟩
abbrev FF_is_among (K : PySem.W.Frag) (f : Addr) (fd : FuncData) : Prop := FunD K "is_among" "is_among" (defArgs ss_is_among) (defBody ss_is_among) (defScope ss_is_among) [] [] f fd
theorem ok_is_among (T : Txt ct K mg) (L_is_whole : Lk P w K mg base "is_whole" 1 ["thing"] ff_is_whole) {f : Addr} {fd : FuncData} (F : FF_is_among K f fd) : DFn P w K mg base 2 f fd ["thing", "least", "most"] ff_is_among :=
  DFn.of F sc_is_among fun c => (DB.cons (DS.ite (DW.test (DW.or (DT.not (DE.test (DE.cl c L_is_whole (by decide) rfl (DA.cons (DE.var 0) DA.nil) (aLen_cons aLen_nil)))) (DW.or (DT.not (DE.test (DE.cl c L_is_whole (by decide) rfl (DA.cons (DE.var 1) DA.nil) (aLen_cons aLen_nil)))) (DW.or1 (DT.not (DE.test (DE.cl c L_is_whole (by decide) rfl (DA.cons (DE.var 2) DA.nil) (aLen_cons aLen_nil))))))))
  (DB.one (DS.ret DE.bool)) DB.nil)
  (DB.one (DS.ret (DC.val (DC.chain opLe opLe (DE.var 1) (DE.var 0) (DE.var 2))))))
abbrev ss_need_field : Stmt := topS 14
theorem sc_need_field : FnScope nn_need_field ["field"] (defScope ss_need_field) := ⟨rfl, rfl, rfl, by decide +kernel, rfl, by decide +kernel, by decide +kernel⟩
abbrev FF_need_field (K : PySem.W.Frag) (f : Addr) (fd : FuncData) : Prop := FunD K "need_field" "need_field" (defArgs ss_need_field) (defBody ss_need_field) (defScope ss_need_field) [] [] f fd
theorem ok_need_field (T : Txt ct K mg) (L_is_among : Lk P w K mg base "is_among" 2 ["thing", "least", "most"] ff_is_among) {f : Addr} {fd : FuncData} (F : FF_need_field K f fd) : DFn P w K mg base 3 f fd ["field"] ff_need_field :=
  DFn.of F sc_need_field fun c => (DB.cons (DS.ite (DW.test (DW.or (DT.not (DE.test (DE.callB c (cIsi c) T.n_isinstance (by decide +kernel) (DA.cons (DE.var 0) (DA.cons (DE.bltn c T.n_tuple (by decide +kernel) (v := .ty "tuple") rfl fun _ _ => .ty _) DA.nil))))) (DW.or1 (DC.test (DC.op (opNe c) (DE.callB c (cLen c) T.n_len (by decide +kernel) (DA.cons (DE.var 0) DA.nil)) DE.int)))))
  (DB.one DS.never) DB.nil)
  (DB.cons (DS.asg (DE.var 0) (DG.tup c (DGs.cons (DG.name 1 fun _ => sc_need_field.nd) (DGs.cons (DG.name 2 fun _ => sc_need_field.nd) DGs.nil))))
  (DB.cons (DS.ite (DT.not (DE.test (DE.cl c L_is_among (by decide) rfl (DA.cons (DE.var 1) (DA.cons DE.int (DA.cons (DE.gv c T.g_MOST_HIGH) DA.nil))) (aLen_cons (aLen_cons (aLen_cons aLen_nil))))))
  (DB.one DS.never) DB.nil)
  (DB.cons (DS.ite (DW.test (DW.or (DT.not (DE.test (DE.callB c (cIsi c) T.n_isinstance (by decide +kernel) (DA.cons (DE.var 2) (DA.cons (DE.bltn c T.n_tuple (by decide +kernel) (v := .ty "tuple") rfl fun _ _ => .ty _) DA.nil))))) (DW.or1 (DT.not (DC.test (DC.chain opLe opLe DE.int (DE.callB c (cLen c) T.n_len (by decide +kernel) (DA.cons (DE.var 2) DA.nil)) (DE.gv c T.g_MOST_SIDE)))))))
  (DB.one DS.never) DB.nil)
  (DB.one (DS.for c (by first | exact fun _ => PassesOwn.never | exact fun _ => PassesOwn.leaving) (DI.enumT c T.n_enumerate (DA.cons (DE.var 2) DA.nil)) (DG.tup c (DGs.cons (DG.name 3 fun _ => sc_need_field.nd) (DGs.cons (DG.name 4 fun _ => sc_need_field.nd) DGs.nil)))
  (DB.cons (DS.ite (DW.test (DW.or (DT.not (DE.test (DE.callB c (cIsi c) T.n_isinstance (by decide +kernel) (DA.cons (DE.var 4) (DA.cons (DE.bltn c T.n_tuple (by decide +kernel) (v := .ty "tuple") rfl fun _ _ => .ty _) DA.nil))))) (DW.or (DT.not (DC.test (DC.chain opLe opLe DE.int (DE.callB c (cLen c) T.n_len (by decide +kernel) (DA.cons (DE.var 4) DA.nil)) (DE.gv c T.g_MOST_SIDE)))) (DW.or1 (DC.test (DC.op (opNe c) (DE.callB c (cLen c) T.n_len (by decide +kernel) (DA.cons (DE.var 4) DA.nil)) (DE.callB c (cLen c) T.n_len (by decide +kernel) (DA.cons (DE.ix c (DE.var 2) DE.int) DA.nil))))))))
  (DB.one DS.never) DB.nil)
  (DB.one (DS.ite (DT.not (DE.test (DE.callB c (cAll c) T.n_all (by decide +kernel) (DA.cons (DE.lc c (own := [("height", 5)]) (fun _ => sc_need_field.nd) (DI.seq c (DE.var 4)) (fun _ => blkOk_by (N := nn_need_field) (by rfl)) (DG.name 5 fun _ => sc_need_field.nd) (by decide) DTs.nil (DE.cl (c.blk _) L_is_among (by decide) rfl (DA.cons (DE.var 5) (DA.cons DE.int (DA.cons (DE.var 1) DA.nil))) (aLen_cons (aLen_cons (aLen_cons aLen_nil))))) DA.nil))))
  (DB.one DS.never) DB.nil)))))))))
abbrev ss_plain_sides : Stmt := topS 15
theorem sc_plain_sides : FnScope nn_plain_sides ["field"] (defScope ss_plain_sides) := ⟨rfl, rfl, rfl, by decide +kernel, rfl, by decide +kernel, by decide +kernel⟩
abbrev FF_plain_sides (K : PySem.W.Frag) (f : Addr) (fd : FuncData) : Prop := FunD K "plain_sides" "plain_sides" (defArgs ss_plain_sides) (defBody ss_plain_sides) (defScope ss_plain_sides) [] [] f fd
theorem ok_plain_sides (T : Txt ct K mg) {f : Addr} {fd : FuncData} (F : FF_plain_sides K f fd) : DFn P w K mg base 1 f fd ["field"] ff_plain_sides :=
  DFn.of F sc_plain_sides fun c => (DB.one (DS.ret (DE.tup (DA.cons (DE.callB c (cLen c) T.n_len (by decide +kernel) (DA.cons (DE.ix c (DE.ix c (DE.var 0) DE.int) DE.int) DA.nil)) (DA.cons (DE.callB c (cLen c) T.n_len (by decide +kernel) (DA.cons (DE.ix c (DE.var 0) DE.int) DA.nil)) DA.nil)))))
abbrev ss_cells_of : Stmt := topS 16
theorem sc_cells_of : FnScope nn_cells_of ["field"] (defScope ss_cells_of) := ⟨rfl, rfl, rfl, by decide +kernel, rfl, by decide +kernel, by decide +kernel⟩
abbrev FF_cells_of (K : PySem.W.Frag) (f : Addr) (fd : FuncData) : Prop := FunD K "cells_of" "cells_of" (defArgs ss_cells_of) (defBody ss_cells_of) (defScope ss_cells_of) [] [] f fd
theorem ok_cells_of (T : Txt ct K mg) (L_plain_sides : Lk P w K mg base "plain_sides" 1 ["field"] ff_plain_sides) {f : Addr} {fd : FuncData} (F : FF_cells_of K f fd) : DFn P w K mg base 2 f fd ["field"] ff_cells_of :=
  DFn.of F sc_cells_of fun c => (DB.cons (DS.asg (DE.cl c L_plain_sides (by decide) rfl (DA.cons (DE.var 0) DA.nil) (aLen_cons aLen_nil)) (DG.tup c (DGs.cons (DG.name 1 fun _ => sc_cells_of.nd) (DGs.cons (DG.name 2 fun _ => sc_cells_of.nd) DGs.nil))))
  (DB.one (DS.ret (DE.lc2 c (own := [("i", 3), ("j", 4)]) (vs1 := [4]) (fun _ => sc_cells_of.nd) (DI.rng1 c T.n_range (DA.cons (DE.var 1) DA.nil)) (fun _ => blkOk_by (N := nn_cells_of) (by rfl)) (DG.name 3 fun _ => sc_cells_of.nd) (by decide) DTs.nil (DI.rng1 (c.blk _) T.n_range (DA.cons (DE.var 2) DA.nil)) (DG.name 4 fun _ => sc_cells_of.nd) (by decide) (by decide) DTs.nil (DE.tup (DA.cons (DE.var 3) (DA.cons (DE.var 4) DA.nil)))))))
abbrev ss_height_of : Stmt := topS 17
theorem sc_height_of : FnScope nn_height_of ["field", "cell"] (defScope ss_height_of) := ⟨rfl, rfl, rfl, by decide +kernel, rfl, by decide +kernel, by decide +kernel⟩
abbrev FF_height_of (K : PySem.W.Frag) (f : Addr) (fd : FuncData) : Prop := FunD K "height_of" "height_of" (defArgs ss_height_of) (defBody ss_height_of) (defScope ss_height_of) [] [] f fd
theorem ok_height_of (T : Txt ct K mg) {f : Addr} {fd : FuncData} (F : FF_height_of K f fd) : DFn P w K mg base 1 f fd ["field", "cell"] ff_height_of :=
  DFn.of F sc_height_of fun c => (DB.cons (DS.asg (DE.var 1) (DG.tup c (DGs.cons (DG.name 2 fun _ => sc_height_of.nd) (DGs.cons (DG.name 3 fun _ => sc_height_of.nd) DGs.nil))))
  (DB.one (DS.ret (DE.ix c (DE.ix c (DE.ix c (DE.var 0) DE.int) (DE.var 3)) (DE.var 2)))))
abbrev ss_heights_of : Stmt := topS 18
theorem sc_heights_of : FnScope nn_heights_of ["field"] (defScope ss_heights_of) := ⟨rfl, rfl, rfl, by decide +kernel, rfl, by decide +kernel, by decide +kernel⟩
abbrev FF_heights_of (K : PySem.W.Frag) (f : Addr) (fd : FuncData) : Prop := FunD K "heights_of" "heights_of" (defArgs ss_heights_of) (defBody ss_heights_of) (defScope ss_heights_of) [] [] f fd
theorem ok_heights_of (T : Txt ct K mg) (L_cells_of : Lk P w K mg base "cells_of" 2 ["field"] ff_cells_of) (L_height_of : Lk P w K mg base "height_of" 1 ["field", "cell"] ff_height_of) {f : Addr} {fd : FuncData} (F : FF_heights_of K f fd) : DFn P w K mg base 3 f fd ["field"] ff_heights_of :=
  DFn.of F sc_heights_of fun c => (DB.one (DS.ret (DE.dcC c (own := [("cell", 1)]) (fun _ => sc_heights_of.nd) (DI.seq c (DE.cl c L_cells_of (by decide) rfl (DA.cons (DE.var 0) DA.nil) (aLen_cons aLen_nil))) (fun _ => blkOk_by (N := nn_heights_of) (by rfl)) (DG.name 1 fun _ => sc_heights_of.nd) (by decide) DTs.nil (DE.var 1) (DE.cl (c.blk _) L_height_of (by decide) rfl (DA.cons (DE.var 0) (DA.cons (DE.var 1) DA.nil)) (aLen_cons (aLen_cons aLen_nil))))))
abbrev ss_field_by : Stmt := topS 19
theorem sc_field_by : FnScope nn_field_by ["field", "heights"] (defScope ss_field_by) := ⟨rfl, rfl, rfl, by decide +kernel, rfl, by decide +kernel, by decide +kernel⟩
abbrev FF_field_by (K : PySem.W.Frag) (f : Addr) (fd : FuncData) : Prop := FunD K "field_by" "field_by" (defArgs ss_field_by) (defBody ss_field_by) (defScope ss_field_by) [] [] f fd
theorem ok_field_by (T : Txt ct K mg) (L_plain_sides : Lk P w K mg base "plain_sides" 1 ["field"] ff_plain_sides) {f : Addr} {fd : FuncData} (F : FF_field_by K f fd) : DFn P w K mg base 2 f fd ["field", "heights"] ff_field_by :=
  DFn.of F sc_field_by fun c => (DB.cons (DS.asg (DE.cl c L_plain_sides (by decide) rfl (DA.cons (DE.var 0) DA.nil) (aLen_cons aLen_nil)) (DG.tup c (DGs.cons (DG.name 2 fun _ => sc_field_by.nd) (DGs.cons (DG.name 3 fun _ => sc_field_by.nd) DGs.nil))))
  (DB.one (DS.ret (DE.tup (DA.cons (DE.ix c (DE.var 0) DE.int) (DA.cons (DE.callTy c (cTupOf c) T.n_tuple (by decide +kernel) (DA.cons (DE.lc c (own := [("j", 5)]) (fun _ => sc_field_by.nd) (DI.rng1 c T.n_range (DA.cons (DE.var 3) DA.nil)) (fun _ => blkOk_by (N := nn_field_by) (by rfl)) (DG.name 5 fun _ => sc_field_by.nd) (by decide) DTs.nil (DE.callTy (c.blk _) (cTupOf (c.blk _)) T.n_tuple (by decide +kernel) (DA.cons (DE.lc (c.blk _) (own := [("i", 4)]) (fun _ => sc_field_by.nd) (DI.rng1 (c.blk _) T.n_range (DA.cons (DE.var 2) DA.nil)) (fun _ => blkOk_by (N := nn_field_by) (by rfl)) (DG.name 4 fun _ => sc_field_by.nd) (by decide) DTs.nil (DE.ixC ((c.blk _).blk _) (DE.var 1) (DE.tup (DA.cons (DE.var 4) (DA.cons (DE.var 5) DA.nil))))) DA.nil))) DA.nil)) DA.nil))))))
abbrev ss_is_tool : Stmt := topS 23
theorem sc_is_tool : FnScope nn_is_tool ["thing"] (defScope ss_is_tool) := ⟨rfl, rfl, rfl, by decide +kernel, rfl, by decide +kernel, by decide +kernel⟩
abbrev FF_is_tool (K : PySem.W.Frag) (f : Addr) (fd : FuncData) : Prop := FunD K "is_tool" "is_tool" (defArgs ss_is_tool) (defBody ss_is_tool) (defScope ss_is_tool) [] [] f fd
theorem ok_is_tool (T : Txt ct K mg) (L_is_among : Lk P w K mg base "is_among" 2 ["thing", "least", "most"] ff_is_among) {f : Addr} {fd : FuncData} (F : FF_is_tool K f fd) : DFn P w K mg base 3 f fd ["thing"] ff_is_tool :=
  DFn.of F sc_is_tool fun c => (DB.cons (DS.ite (DW.test (DW.or (DT.not (DE.test (DE.callB c (cIsi c) T.n_isinstance (by decide +kernel) (DA.cons (DE.var 0) (DA.cons (DE.bltn c T.n_tuple (by decide +kernel) (v := .ty "tuple") rfl fun _ _ => .ty _) DA.nil))))) (DW.or1 (DC.test (DC.op (opNe c) (DE.callB c (cLen c) T.n_len (by decide +kernel) (DA.cons (DE.var 0) DA.nil)) DE.int)))))
  (DB.one (DS.ret DE.bool)) DB.nil)
  (DB.one (DS.ret (DE.and (DE.cl c L_is_among (by decide) rfl (DA.cons (DE.ix c (DE.var 0) DE.int) (DA.cons DE.int (DA.cons (DE.gv c T.g_MOST_TOOL) DA.nil))) (aLen_cons (aLen_cons (aLen_cons aLen_nil)))) (DE.one (DE.cl c L_is_among (by decide) rfl (DA.cons (DE.ix c (DE.var 0) DE.int) (DA.cons DE.int (DA.cons (DE.gv c T.g_MOST_LENGTH) DA.nil))) (aLen_cons (aLen_cons (aLen_cons aLen_nil)))))))))
abbrev ss_need_tools : Stmt := topS 21
theorem sc_need_tools : FnScope nn_need_tools ["tools"] (defScope ss_need_tools) := ⟨rfl, rfl, rfl, by decide +kernel, rfl, by decide +kernel, by decide +kernel⟩
abbrev FF_need_tools (K : PySem.W.Frag) (f : Addr) (fd : FuncData) : Prop := FunD K "need_tools" "need_tools" (defArgs ss_need_tools) (defBody ss_need_tools) (defScope ss_need_tools) [] [] f fd
theorem ok_need_tools (T : Txt ct K mg) (L_is_tool : Lk P w K mg base "is_tool" 3 ["thing"] ff_is_tool) {f : Addr} {fd : FuncData} (F : FF_need_tools K f fd) : DFn P w K mg base 4 f fd ["tools"] ff_need_tools :=
  DFn.of F sc_need_tools fun c => (DB.cons (DS.ite (DW.test (DW.or (DT.not (DE.test (DE.callB c (cIsi c) T.n_isinstance (by decide +kernel) (DA.cons (DE.var 0) (DA.cons (DE.bltn c T.n_tuple (by decide +kernel) (v := .ty "tuple") rfl fun _ _ => .ty _) DA.nil))))) (DW.or1 (DC.test (DC.op opGt (DE.callB c (cLen c) T.n_len (by decide +kernel) (DA.cons (DE.var 0) DA.nil)) (DE.gv c T.g_MOST_TOOLS))))))
  (DB.one DS.never) DB.nil)
  (DB.one (DS.for c (by first | exact fun _ => PassesOwn.never | exact fun _ => PassesOwn.leaving) (DI.enumT c T.n_enumerate (DA.cons (DE.var 0) DA.nil)) (DG.tup c (DGs.cons (DG.name 1 fun _ => sc_need_tools.nd) (DGs.cons (DG.name 2 fun _ => sc_need_tools.nd) DGs.nil)))
  (DB.one (DS.ite (DW.test (DW.or (DT.not (DE.test (DE.cl c L_is_tool (by decide) rfl (DA.cons (DE.var 2) DA.nil) (aLen_cons aLen_nil)))) (DW.or1 (DC.test (DC.op (opIn c) (DE.var 2) (DE.sl c (DE.var 0) DP.none (DP.some (DE.var 1))))))))
  (DB.one DS.never) DB.nil)))))
abbrev ss_solid : Stmt := topS 22
theorem sc_solid : FnScope nn_solid ["field"] (defScope ss_solid) := ⟨rfl, rfl, rfl, by decide +kernel, rfl, by decide +kernel, by decide +kernel⟩
abbrev FF_solid (K : PySem.W.Frag) (f : Addr) (fd : FuncData) : Prop := FunD K "solid" "solid" (defArgs ss_solid) (defBody ss_solid) (defScope ss_solid) [] [] f fd
theorem ok_solid (T : Txt ct K mg) (L_need_field : Lk P w K mg base "need_field" 3 ["field"] ff_need_field) {f : Addr} {fd : FuncData} (F : FF_solid K f fd) : DFn P w K mg base 4 f fd ["field"] ff_solid :=
  DFn.of F sc_solid fun c => (DB.cons (DS.expr (DE.cl c L_need_field (by decide) rfl (DA.cons (DE.var 0) DA.nil) (aLen_cons aLen_nil)))
  (DB.cons (DS.set 1 (DE.ix c (DE.var 0) DE.int) (fun _ => sc_solid.nd))
  (DB.one (DS.ret (DE.tup (DA.cons (DE.var 1) (DA.cons (DE.callTy c (cTupOf c) T.n_tuple (by decide +kernel) (DA.cons (DE.lc c (own := [("row", 3)]) (fun _ => sc_solid.nd) (DI.seq c (DE.ix c (DE.var 0) DE.int)) (fun _ => blkOk_by (N := nn_solid) (by rfl)) (DG.name 3 fun _ => sc_solid.nd) (by decide) DTs.nil (DE.callTy (c.blk _) (cTupOf (c.blk _)) T.n_tuple (by decide +kernel) (DA.cons (DE.lc (c.blk _) (own := [("_", 2)]) (fun _ => sc_solid.nd) (DI.seq (c.blk _) (DE.var 3)) (fun _ => blkOk_by (N := nn_solid) (by rfl)) (DG.name 2 fun _ => sc_solid.nd) (by decide) DTs.nil (DE.var 1)) DA.nil))) DA.nil)) DA.nil)))))))
abbrev ss_cells_between : Stmt := topS 27
theorem sc_cells_between : FnScope nn_cells_between ["sides", "first", "last"] (defScope ss_cells_between) := ⟨rfl, rfl, rfl, by decide +kernel, rfl, by decide +kernel, by decide +kernel⟩
abbrev FF_cells_between (K : PySem.W.Frag) (f : Addr) (fd : FuncData) : Prop := FunD K "_cells_between" "_cells_between" (defArgs ss_cells_between) (defBody ss_cells_between) (defScope ss_cells_between) [] [] f fd
theorem ok_cells_between (T : Txt ct K mg) {f : Addr} {fd : FuncData} (F : FF_cells_between K f fd) : DFn P w K mg base 1 f fd ["sides", "first", "last"] ff_cells_between :=
  DFn.of F sc_cells_between fun c => (DB.cons (DS.asg (DE.tup (DA.cons (DE.var 1) (DA.cons (DE.var 2) DA.nil))) (DG.tup c (DGs.cons (DG.tup c (DGs.cons (DG.name 3 fun _ => sc_cells_between.nd) (DGs.cons (DG.name 4 fun _ => sc_cells_between.nd) DGs.nil))) (DGs.cons (DG.tup c (DGs.cons (DG.name 5 fun _ => sc_cells_between.nd) (DGs.cons (DG.name 6 fun _ => sc_cells_between.nd) DGs.nil))) DGs.nil))))
  (DB.cons (DS.asg (DE.var 0) (DG.tup c (DGs.cons (DG.name 7 fun _ => sc_cells_between.nd) (DGs.cons (DG.name 8 fun _ => sc_cells_between.nd) DGs.nil))))
  (DB.one (DS.ret (DE.lc2 c (own := [("i", 9), ("j", 10)]) (vs1 := [10]) (fun _ => sc_cells_between.nd) (DI.rng2 c T.n_range (DA.cons (DE.callB c (cMax2 c) T.n_max (by decide +kernel) (DA.cons (DE.var 3) (DA.cons DE.int DA.nil))) (DA.cons (DE.callB c (cMin2 c) T.n_min (by decide +kernel) (DA.cons (DE.var 5) (DA.cons (DE.var 7) DA.nil))) DA.nil))) (fun _ => blkOk_by (N := nn_cells_between) (by rfl)) (DG.name 9 fun _ => sc_cells_between.nd) (by decide) DTs.nil (DI.rng2 (c.blk _) T.n_range (DA.cons (DE.callB (c.blk _) (cMax2 (c.blk _)) T.n_max (by decide +kernel) (DA.cons (DE.var 4) (DA.cons DE.int DA.nil))) (DA.cons (DE.callB (c.blk _) (cMin2 (c.blk _)) T.n_min (by decide +kernel) (DA.cons (DE.var 6) (DA.cons (DE.var 8) DA.nil))) DA.nil))) (DG.name 10 fun _ => sc_cells_between.nd) (by decide) (by decide) DTs.nil (DE.tup (DA.cons (DE.var 9) (DA.cons (DE.var 10) DA.nil))))))))
abbrev ss_plain_under : Stmt := topS 24
theorem sc_plain_under : FnScope nn_plain_under ["sides", "tool", "place"] (defScope ss_plain_under) := ⟨rfl, rfl, rfl, by decide +kernel, rfl, by decide +kernel, by decide +kernel⟩
abbrev FF_plain_under (K : PySem.W.Frag) (f : Addr) (fd : FuncData) : Prop := FunD K "plain_under" "plain_under" (defArgs ss_plain_under) (defBody ss_plain_under) (defScope ss_plain_under) [] [] f fd
theorem ok_plain_under (T : Txt ct K mg) (L_cells_between : Lk P w K mg base "_cells_between" 1 ["sides", "first", "last"] ff_cells_between) {f : Addr} {fd : FuncData} (F : FF_plain_under K f fd) : DFn P w K mg base 2 f fd ["sides", "tool", "place"] ff_plain_under :=
  DFn.of F sc_plain_under fun c => (DB.cons (DS.asg (DE.var 2) (DG.tup c (DGs.cons (DG.name 3 fun _ => sc_plain_under.nd) (DGs.cons (DG.name 4 fun _ => sc_plain_under.nd) DGs.nil))))
  (DB.one (DS.ret (DE.callTy c (cTupOf c) T.n_tuple (by decide +kernel) (DA.cons (DE.cl c L_cells_between (by decide) rfl (DA.cons (DE.var 0) (DA.cons (DE.var 2) (DA.cons (DE.tup (DA.cons (DE.op (opAdd4 c) (DE.var 3) (DE.ix c (DE.var 1) DE.int)) (DA.cons (DE.op (opAdd4 c) (DE.var 4) (DE.ix c (DE.var 1) DE.int)) DA.nil))) DA.nil))) (aLen_cons (aLen_cons (aLen_cons aLen_nil)))) DA.nil)))))
abbrev ss_plain_ring : Stmt := topS 25
theorem sc_plain_ring : FnScope nn_plain_ring ["sides", "tool", "place"] (defScope ss_plain_ring) := ⟨rfl, rfl, rfl, by decide +kernel, rfl, by decide +kernel, by decide +kernel⟩
abbrev FF_plain_ring (K : PySem.W.Frag) (f : Addr) (fd : FuncData) : Prop := FunD K "plain_ring" "plain_ring" (defArgs ss_plain_ring) (defBody ss_plain_ring) (defScope ss_plain_ring) [] [] f fd
theorem ok_plain_ring (T : Txt ct K mg) (L_plain_under : Lk P w K mg base "plain_under" 2 ["sides", "tool", "place"] ff_plain_under) (L_cells_between : Lk P w K mg base "_cells_between" 1 ["sides", "first", "last"] ff_cells_between) {f : Addr} {fd : FuncData} (F : FF_plain_ring K f fd) : DFn P w K mg base 3 f fd ["sides", "tool", "place"] ff_plain_ring :=
  DFn.of F sc_plain_ring fun c => (DB.cons (DS.asg (DE.var 2) (DG.tup c (DGs.cons (DG.name 3 fun _ => sc_plain_ring.nd) (DGs.cons (DG.name 4 fun _ => sc_plain_ring.nd) DGs.nil))))
  (DB.cons (DS.set 5 (DE.cl c L_plain_under (by decide) rfl (DA.cons (DE.var 0) (DA.cons (DE.var 1) (DA.cons (DE.var 2) DA.nil))) (aLen_cons (aLen_cons (aLen_cons aLen_nil)))) (fun _ => sc_plain_ring.nd))
  (DB.cons (DS.set 6 (DE.cl c L_cells_between (by decide) rfl (DA.cons (DE.var 0) (DA.cons (DE.tup (DA.cons (DE.op opSub (DE.var 3) DE.int) (DA.cons (DE.op opSub (DE.var 4) DE.int) DA.nil))) (DA.cons (DE.tup (DA.cons (DE.op (opAdd4 c) (DE.op (opAdd4 c) (DE.var 3) (DE.ix c (DE.var 1) DE.int)) DE.int) (DA.cons (DE.op (opAdd4 c) (DE.op (opAdd4 c) (DE.var 4) (DE.ix c (DE.var 1) DE.int)) DE.int) DA.nil))) DA.nil))) (aLen_cons (aLen_cons (aLen_cons aLen_nil)))) (fun _ => sc_plain_ring.nd))
  (DB.one (DS.ret (DE.callTy c (cTupOf c) T.n_tuple (by decide +kernel) (DA.cons (DE.lc c (own := [("cell", 7)]) (fun _ => sc_plain_ring.nd) (DI.seq c (DE.var 6)) (fun _ => blkOk_by (N := nn_plain_ring) (by rfl)) (DG.name 7 fun _ => sc_plain_ring.nd) (by decide) (DTs.one (DC.test (DC.op (opNotIn (c.blk _)) (DE.var 7) (DE.var 5)))) (DE.var 7)) DA.nil)))))))
abbrev ss_plain_places : Stmt := topS 26
theorem sc_plain_places : FnScope nn_plain_places ["sides", "tool"] (defScope ss_plain_places) := ⟨rfl, rfl, rfl, by decide +kernel, rfl, by decide +kernel, by decide +kernel⟩
abbrev FF_plain_places (K : PySem.W.Frag) (f : Addr) (fd : FuncData) : Prop := FunD K "plain_places" "plain_places" (defArgs ss_plain_places) (defBody ss_plain_places) (defScope ss_plain_places) [] [] f fd
theorem ok_plain_places (T : Txt ct K mg) {f : Addr} {fd : FuncData} (F : FF_plain_places K f fd) : DFn P w K mg base 1 f fd ["sides", "tool"] ff_plain_places :=
  DFn.of F sc_plain_places fun c => (DB.cons (DS.asg (DE.var 0) (DG.tup c (DGs.cons (DG.name 2 fun _ => sc_plain_places.nd) (DGs.cons (DG.name 3 fun _ => sc_plain_places.nd) DGs.nil))))
  (DB.one (DS.ret (DE.callTy c (cTupOf c) T.n_tuple (by decide +kernel) (DA.cons (DE.lc2 c (own := [("i", 4), ("j", 5)]) (vs1 := [5]) (fun _ => sc_plain_places.nd) (DI.rng2 c T.n_range (DA.cons (DE.op opSub DE.int (DE.ix c (DE.var 1) DE.int)) (DA.cons (DE.var 2) DA.nil))) (fun _ => blkOk_by (N := nn_plain_places) (by rfl)) (DG.name 4 fun _ => sc_plain_places.nd) (by decide) DTs.nil (DI.rng2 (c.blk _) T.n_range (DA.cons (DE.op opSub DE.int (DE.ix (c.blk _) (DE.var 1) DE.int)) (DA.cons (DE.var 3) DA.nil))) (DG.name 5 fun _ => sc_plain_places.nd) (by decide) (by decide) DTs.nil (DE.tup (DA.cons (DE.var 4) (DA.cons (DE.var 5) DA.nil)))) DA.nil)))))
abbrev ss_Seat_init : Stmt := memD (topS 29) 0
theorem sc_Seat_init : FnScope nn_Seat_init ["self", "field", "tool", "place"] (defScope ss_Seat_init) := ⟨rfl, rfl, rfl, by decide +kernel, rfl, by decide +kernel, by decide +kernel⟩
abbrev FF_Seat_init (K : PySem.W.Frag) (f : Addr) (fd : FuncData) : Prop := FunD K "__init__" "Seat.__init__" (defArgs ss_Seat_init) (defBody ss_Seat_init) (defScope ss_Seat_init) [] [] f fd
theorem ok_Seat_init (T : Txt ct K mg) (L_plain_sides : Lk P w K mg base "plain_sides" 1 ["field"] ff_plain_sides) (L_plain_under : Lk P w K mg base "plain_under" 2 ["sides", "tool", "place"] ff_plain_under) (L_plain_ring : Lk P w K mg base "plain_ring" 3 ["sides", "tool", "place"] ff_plain_ring) (L_height_of : Lk P w K mg base "height_of" 1 ["field", "cell"] ff_height_of) {f : Addr} {fd : FuncData} (F : FF_Seat_init K f fd) : DFn P w K mg base 4 f fd ["self", "field", "tool", "place"] (ff_Seat_init ct) :=
  DFn.of F sc_Seat_init fun c => (DB.cons (DS.set 4 (DE.cl c L_plain_sides (by decide) rfl (DA.cons (DE.var 1) DA.nil) (aLen_cons aLen_nil)) (fun _ => sc_Seat_init.nd))
  (DB.cons (DS.fl T.fl_tool c (DE.var 0) (DE.var 2))
  (DB.cons (DS.fl T.fl_place c (DE.var 0) (DE.var 3))
  (DB.cons (DS.fl T.fl_under c (DE.var 0) (DE.cl c L_plain_under (by decide) rfl (DA.cons (DE.var 4) (DA.cons (DE.var 2) (DA.cons (DE.var 3) DA.nil))) (aLen_cons (aLen_cons (aLen_cons aLen_nil)))))
  (DB.cons (DS.fl T.fl_ring c (DE.var 0) (DE.cl c L_plain_ring (by decide) rfl (DA.cons (DE.var 4) (DA.cons (DE.var 2) (DA.cons (DE.var 3) DA.nil))) (aLen_cons (aLen_cons (aLen_cons aLen_nil)))))
  (DB.one (DS.fl T.fl_floor c (DE.var 0) (DE.callB c (cMaxL c) T.n_max (by decide +kernel) (DA.cons (DE.lc c (own := [("cell", 5)]) (fun _ => sc_Seat_init.nd) (DI.seq c (DE.fl T.fl_under c (DE.var 0))) (fun _ => blkOk_by (N := nn_Seat_init) (by rfl)) (DG.name 5 fun _ => sc_Seat_init.nd) (by decide) DTs.nil (DE.cl (c.blk _) L_height_of (by decide) rfl (DA.cons (DE.var 1) (DA.cons (DE.var 5) DA.nil)) (aLen_cons (aLen_cons aLen_nil)))) DA.nil)))))))))
abbrev ss_seats_of : Stmt := topS 30
theorem sc_seats_of : FnScope nn_seats_of ["field", "tools"] (defScope ss_seats_of) := ⟨rfl, rfl, rfl, by decide +kernel, rfl, by decide +kernel, by decide +kernel⟩
abbrev FF_seats_of (K : PySem.W.Frag) (f : Addr) (fd : FuncData) : Prop := FunD K "seats_of" "seats_of" (defArgs ss_seats_of) (defBody ss_seats_of) (defScope ss_seats_of) [] [] f fd
theorem ok_seats_of (T : Txt ct K mg) (L_plain_sides : Lk P w K mg base "plain_sides" 1 ["field"] ff_plain_sides) (L_plain_places : Lk P w K mg base "plain_places" 1 ["sides", "tool"] ff_plain_places) (C_Seat_3 : LkC P w K mg base "Seat" ct.Seat 4 ["self", "field", "tool", "place"] (ff_Seat_init ct) []) {f : Addr} {fd : FuncData} (F : FF_seats_of K f fd) : DFn P w K mg base 6 f fd ["field", "tools"] (ff_seats_of ct) :=
  DFn.of F sc_seats_of fun c => (DB.cons (DS.set 2 (DE.cl c L_plain_sides (by decide) rfl (DA.cons (DE.var 0) DA.nil) (aLen_cons aLen_nil)) (fun _ => sc_seats_of.nd))
  (DB.one (DS.ret (DE.lc2 c (own := [("tool", 3), ("place", 4)]) (vs1 := [4]) (fun _ => sc_seats_of.nd) (DI.seq c (DE.var 1)) (fun _ => blkOk_by (N := nn_seats_of) (by rfl)) (DG.name 3 fun _ => sc_seats_of.nd) (by decide) DTs.nil (DI.seq (c.blk _) (DE.cl (c.blk _) L_plain_places (by decide) rfl (DA.cons (DE.var 2) (DA.cons (DE.var 3) DA.nil)) (aLen_cons (aLen_cons aLen_nil)))) (DG.name 4 fun _ => sc_seats_of.nd) (by decide) (by decide) DTs.nil (DE.make (c.blk _) C_Seat_3 (by decide) rfl (DA.cons (DE.var 0) (DA.cons (DE.var 3) (DA.cons (DE.var 4) DA.nil))) (aLen_cons (aLen_cons (aLen_cons aLen_nil))))))))
abbrev ss_Seat_lowest_by : Stmt := memD (topS 29) 1
theorem sc_Seat_lowest_by : FnScope nn_Seat_lowest_by ["self", "heights"] (defScope ss_Seat_lowest_by) := ⟨rfl, rfl, rfl, by decide +kernel, rfl, by decide +kernel, by decide +kernel⟩
abbrev FF_Seat_lowest_by (K : PySem.W.Frag) (f : Addr) (fd : FuncData) : Prop := FunD K "lowest_by" "Seat.lowest_by" (defArgs ss_Seat_lowest_by) (defBody ss_Seat_lowest_by) (defScope ss_Seat_lowest_by) [] [] f fd
theorem ok_Seat_lowest_by (T : Txt ct K mg) {f : Addr} {fd : FuncData} (F : FF_Seat_lowest_by K f fd) : DFn P w K mg base 1 f fd ["self", "heights"] (ff_Seat_lowest_by ct) :=
  DFn.of F sc_Seat_lowest_by fun c => (DB.cons (DS.asg (DE.fl T.fl_tool c (DE.var 0)) (DG.tup c (DGs.cons (DG.name 2 fun _ => sc_Seat_lowest_by.nd) (DGs.cons (DG.name 3 fun _ => sc_Seat_lowest_by.nd) DGs.nil))))
  (DB.one (DS.ret (DE.callB c (cMaxL c) T.n_max (by decide +kernel) (DA.cons (DE.op (opAdd4 c) (DE.lst (DA.cons (DE.fl T.fl_floor c (DE.var 0)) DA.nil)) (DE.lc c (own := [("cell", 4)]) (fun _ => sc_Seat_lowest_by.nd) (DI.seq c (DE.fl T.fl_ring c (DE.var 0))) (fun _ => blkOk_by (N := nn_Seat_lowest_by) (by rfl)) (DG.name 4 fun _ => sc_Seat_lowest_by.nd) (by decide) DTs.nil (DE.op opSub (DE.ixC (c.blk _) (DE.var 1) (DE.var 4)) (DE.var 3)))) DA.nil)))))
abbrev ss_after_round : Stmt := topS 34
theorem sc_after_round : FnScope nn_after_round ["field", "seats", "stock"] (defScope ss_after_round) := ⟨rfl, rfl, rfl, by decide +kernel, rfl, by decide +kernel, by decide +kernel⟩
abbrev FF_after_round (K : PySem.W.Frag) (f : Addr) (fd : FuncData) : Prop := FunD K "after_round" "after_round" (defArgs ss_after_round) (defBody ss_after_round) (defScope ss_after_round) [] [] f fd
theorem ok_after_round (T : Txt ct K mg) (L_heights_of : Lk P w K mg base "heights_of" 3 ["field"] ff_heights_of) (L_field_by : Lk P w K mg base "field_by" 2 ["field", "heights"] ff_field_by) (M_Seat_lowest_by_1 : LkM P w K mg base ct.Seat "lowest_by" 1 ["self", "heights"] (ff_Seat_lowest_by ct) []) {f : Addr} {fd : FuncData} (F : FF_after_round K f fd) : DFn P w K mg base 4 f fd ["field", "seats", "stock"] (ff_after_round ct) :=
  DFn.of F sc_after_round fun c => (DB.cons (DS.set 3 (DE.cl c L_heights_of (by decide) rfl (DA.cons (DE.var 2) DA.nil) (aLen_cons aLen_nil)) (fun _ => sc_after_round.nd))
  (DB.cons (DS.set 4 (DE.cl c L_heights_of (by decide) rfl (DA.cons (DE.var 2) DA.nil) (aLen_cons aLen_nil)) (fun _ => sc_after_round.nd))
  (DB.cons (DS.for c (by first | exact fun _ => PassesOwn.never | exact fun _ => PassesOwn.leaving) (DI.seq c (DE.var 1)) (DG.name 5 fun _ => sc_after_round.nd)
  (DB.cons (DS.set 6 (DE.meth c M_Seat_lowest_by_1 (by decide) (DE.var 5) rfl (DA.cons (DE.var 3) DA.nil) (aLen_cons aLen_nil)) (fun _ => sc_after_round.nd))
  (DB.one (DS.for c (by first | exact fun _ => PassesOwn.never | exact fun _ => PassesOwn.leaving) (DI.seq c (DE.fl T.fl_under c (DE.var 5))) (DG.name 7 fun _ => sc_after_round.nd)
  (DB.one (DS.cput c (DE.var 4) (DE.var 7) (DE.callB c (cMin2 c) T.n_min (by decide +kernel) (DA.cons (DE.ixC c (DE.var 4) (DE.var 7)) (DA.cons (DE.var 6) DA.nil)))))))))
  (DB.one (DS.ret (DE.cl c L_field_by (by decide) rfl (DA.cons (DE.var 0) (DA.cons (DE.var 4) DA.nil)) (aLen_cons (aLen_cons aLen_nil))))))))
abbrev ss_steady : Stmt := topS 33
theorem sc_steady : FnScope nn_steady ["field", "tools"] (defScope ss_steady) := ⟨rfl, rfl, rfl, by decide +kernel, rfl, by decide +kernel, by decide +kernel⟩
abbrev FF_steady (K : PySem.W.Frag) (f : Addr) (fd : FuncData) : Prop := FunD K "steady" "steady" (defArgs ss_steady) (defBody ss_steady) (defScope ss_steady) [] [] f fd
theorem ok_steady (T : Txt ct K mg) (L_need_field : Lk P w K mg base "need_field" 3 ["field"] ff_need_field) (L_need_tools : Lk P w K mg base "need_tools" 4 ["tools"] ff_need_tools) (L_seats_of : Lk P w K mg base "seats_of" 6 ["field", "tools"] (ff_seats_of ct)) (L_solid : Lk P w K mg base "solid" 4 ["field"] ff_solid) (L_after_round : Lk P w K mg base "after_round" 4 ["field", "seats", "stock"] (ff_after_round ct)) {f : Addr} {fd : FuncData} (F : FF_steady K f fd) : DFn P w K mg base 7 f fd ["field", "tools"] (ff_steady ct) :=
  DFn.of F sc_steady fun c => (DB.cons (DS.expr (DE.cl c L_need_field (by decide) rfl (DA.cons (DE.var 0) DA.nil) (aLen_cons aLen_nil)))
  (DB.cons (DS.expr (DE.cl c L_need_tools (by decide) rfl (DA.cons (DE.var 1) DA.nil) (aLen_cons aLen_nil)))
  (DB.cons (DS.set 2 (DE.cl c L_seats_of (by decide) rfl (DA.cons (DE.var 0) (DA.cons (DE.var 1) DA.nil)) (aLen_cons (aLen_cons aLen_nil))) (fun _ => sc_steady.nd))
  (DB.cons (DS.set 3 (DE.new (DA.cons (DE.cl c L_solid (by decide) rfl (DA.cons (DE.var 0) DA.nil) (aLen_cons aLen_nil)) DA.nil)) (fun _ => sc_steady.nd))
  (DB.cons (DS.set 4 (DE.cl c L_after_round (by decide) rfl (DA.cons (DE.var 0) (DA.cons (DE.var 2) (DA.cons (DE.ix c (DE.var 3) (DE.neg DE.int)) DA.nil))) (aLen_cons (aLen_cons (aLen_cons aLen_nil)))) (fun _ => sc_steady.nd))
  (DB.cons (DS.wh (by first | exact fun _ => PassesOwn.never | exact fun _ => PassesOwn.leaving) (DC.test (DC.op (opNe c) (DE.var 4) (DE.ix c (DE.var 3) (DE.neg DE.int))))
  (DB.cons (DS.expr (DE.lmeth c mApp PySem.F.slot_list_append PySem.F.type_list_append (DE.var 3) (DA.cons (DE.var 4) DA.nil)))
  (DB.one (DS.set 4 (DE.cl c L_after_round (by decide) rfl (DA.cons (DE.var 0) (DA.cons (DE.var 2) (DA.cons (DE.ix c (DE.var 3) (DE.neg DE.int)) DA.nil))) (aLen_cons (aLen_cons (aLen_cons aLen_nil)))) (fun _ => sc_steady.nd)))))
  (DB.one (DS.ret (DE.var 3)))))))))
abbrev ss_reached : Stmt := topS 32
theorem sc_reached : FnScope nn_reached ["field", "tools"] (defScope ss_reached) := ⟨rfl, rfl, rfl, by decide +kernel, rfl, by decide +kernel, by decide +kernel⟩
abbrev FF_reached (K : PySem.W.Frag) (f : Addr) (fd : FuncData) : Prop := FunD K "reached" "reached" (defArgs ss_reached) (defBody ss_reached) (defScope ss_reached) [] [] f fd
theorem ok_reached (T : Txt ct K mg) (L_steady : Lk P w K mg base "steady" 7 ["field", "tools"] (ff_steady ct)) {f : Addr} {fd : FuncData} (F : FF_reached K f fd) : DFn P w K mg base 8 f fd ["field", "tools"] (ff_reached ct) :=
  DFn.of F sc_reached fun c => (DB.one (DS.ret (DE.ix c (DE.cl c L_steady (by decide) rfl (DA.cons (DE.var 0) (DA.cons (DE.var 1) DA.nil)) (aLen_cons (aLen_cons aLen_nil))) (DE.neg DE.int))))
abbrev ss_law_mixed : Stmt := topS 36
theorem sc_law_mixed : FnScope nn_law_mixed ["cell", "k"] (defScope ss_law_mixed) := ⟨rfl, rfl, rfl, by decide +kernel, rfl, by decide +kernel, by decide +kernel⟩
abbrev FF_law_mixed (K : PySem.W.Frag) (f : Addr) (fd : FuncData) : Prop := FunD K "_law_mixed" "_law_mixed" (defArgs ss_law_mixed) (defBody ss_law_mixed) (defScope ss_law_mixed) [] [] f fd
theorem ok_law_mixed (T : Txt ct K mg) {f : Addr} {fd : FuncData} (F : FF_law_mixed K f fd) : DFn P w K mg base 1 f fd ["cell", "k"] ff_law_mixed :=
  DFn.of F sc_law_mixed fun c => (DB.cons (DS.set 2 (DE.op (opAdd4 c) (DE.op (opAdd4 c) (DE.op opMod (DE.var 0) (DE.ix c (DE.lst (DA.cons DE.int (DA.cons DE.int (DA.cons DE.int (DA.cons DE.int DA.nil))))) (DE.op opMod (DE.var 1) DE.int))) (DE.op opMul2 DE.int (DE.var 1))) DE.int) (fun _ => sc_law_mixed.nd))
  (DB.one (DS.ret (DE.op opMod (DE.op opMul2 (DE.op opMod (DE.op opMul2 (DE.var 2) (DE.var 2)) DE.int) DE.int) DE.int))))
abbrev ss_law_draw : Stmt := topS 37
theorem sc_law_draw : FnScope nn_law_draw ["cell", "k"] (defScope ss_law_draw) := ⟨rfl, rfl, rfl, by decide +kernel, rfl, by decide +kernel, by decide +kernel⟩
abbrev FF_law_draw (K : PySem.W.Frag) (f : Addr) (fd : FuncData) : Prop := FunD K "_law_draw" "_law_draw" (defArgs ss_law_draw) (defBody ss_law_draw) (defScope ss_law_draw) [] [] f fd
theorem ok_law_draw (T : Txt ct K mg) {f : Addr} {fd : FuncData} (F : FF_law_draw K f fd) : DFn P w K mg base 1 f fd ["cell", "k"] ff_law_draw :=
  DFn.of F sc_law_draw fun c => (DB.one (DS.ret (DE.dic (DPs.cons DE.str (DE.ite (DC.test (DC.op opGe (DE.var 0) (DE.op opPow DE.int DE.int))) (DE.var 0) DE.int) (DPs.cons DE.str (DE.var 0) (DPs.cons DE.str (DE.op opMul2 DE.int (DE.var 1)) DPs.nil))))))
abbrev ss_law_digit : Stmt := topS 38
theorem sc_law_digit : FnScope nn_law_digit ["state", "many"] (defScope ss_law_digit) := ⟨rfl, rfl, rfl, by decide +kernel, rfl, by decide +kernel, by decide +kernel⟩
abbrev FF_law_digit (K : PySem.W.Frag) (f : Addr) (fd : FuncData) : Prop := FunD K "_law_digit" "_law_digit" (defArgs ss_law_digit) (defBody ss_law_digit) (defScope ss_law_digit) [] [] f fd
theorem ok_law_digit (T : Txt ct K mg) (L_law_mixed : Lk P w K mg base "_law_mixed" 1 ["cell", "k"] ff_law_mixed) {f : Addr} {fd : FuncData} (F : FF_law_digit K f fd) : DFn P w K mg base 2 f fd ["state", "many"] ff_law_digit :=
  DFn.of F sc_law_digit fun c => (DB.cons (DS.ite (DC.test (DC.op (opEq c) (DE.dgt c (DE.var 0) DE.str) DE.int))
  (DB.one (DS.for c (by first | exact fun _ => PassesOwn.never | exact fun _ => PassesOwn.leaving) (DI.rng1 c T.n_range (DA.cons DE.int DA.nil)) (DG.name 2 fun _ => sc_law_digit.nd)
  (DB.cons (DS.dput c (DE.var 0) DE.str (DE.op (opAdd4 c) (DE.dgt c (DE.var 0) DE.str) DE.int))
  (DB.one (DS.dput c (DE.var 0) DE.str (DE.op (opAdd4 c) (DE.op opMul2 (DE.dgt c (DE.var 0) DE.str) DE.int) (DE.cl c L_law_mixed (by decide) rfl (DA.cons (DE.dgt c (DE.var 0) DE.str) (DA.cons (DE.dgt c (DE.var 0) DE.str) DA.nil)) (aLen_cons (aLen_cons aLen_nil))))))))) DB.nil)
  (DB.cons (DS.set 3 (DE.op opMod (DE.dgt c (DE.var 0) DE.str) (DE.var 1)) (fun _ => sc_law_digit.nd))
  (DB.cons (DS.dput c (DE.var 0) DE.str (DE.op opDiv (DE.dgt c (DE.var 0) DE.str) (DE.var 1)))
  (DB.one (DS.ret (DE.var 3))))))
abbrev ss_law_a_field : Stmt := topS 39
theorem sc_law_a_field : FnScope nn_law_a_field ["state", "most"] (defScope ss_law_a_field) := ⟨rfl, rfl, rfl, by decide +kernel, rfl, by decide +kernel, by decide +kernel⟩
abbrev FF_law_a_field (K : PySem.W.Frag) (f : Addr) (fd : FuncData) : Prop := FunD K "_law_a_field" "_law_a_field" (defArgs ss_law_a_field) (defBody ss_law_a_field) (defScope ss_law_a_field) [] [] f fd
theorem ok_law_a_field (T : Txt ct K mg) (L_law_digit : Lk P w K mg base "_law_digit" 2 ["state", "many"] ff_law_digit) {f : Addr} {fd : FuncData} (F : FF_law_a_field K f fd) : DFn P w K mg base 3 f fd ["state", "most"] ff_law_a_field :=
  DFn.of F sc_law_a_field fun c => (DB.cons (DS.asg (DE.tup (DA.cons (DE.op (opAdd4 c) DE.int (DE.cl c L_law_digit (by decide) rfl (DA.cons (DE.var 0) (DA.cons (DE.var 1) DA.nil)) (aLen_cons (aLen_cons aLen_nil)))) (DA.cons (DE.op (opAdd4 c) DE.int (DE.cl c L_law_digit (by decide) rfl (DA.cons (DE.var 0) (DA.cons (DE.var 1) DA.nil)) (aLen_cons (aLen_cons aLen_nil)))) (DA.cons (DE.op (opAdd4 c) DE.int (DE.cl c L_law_digit (by decide) rfl (DA.cons (DE.var 0) (DA.cons DE.int DA.nil)) (aLen_cons (aLen_cons aLen_nil)))) DA.nil)))) (DG.tup c (DGs.cons (DG.name 2 fun _ => sc_law_a_field.nd) (DGs.cons (DG.name 3 fun _ => sc_law_a_field.nd) (DGs.cons (DG.name 4 fun _ => sc_law_a_field.nd) DGs.nil)))))
  (DB.cons (DS.setLc 5 c (own := [("j", 6)]) (fun _ => sc_law_a_field.nd) (DI.rng1 c T.n_range (DA.cons (DE.var 3) DA.nil)) (fun _ => blkOk_by (N := nn_law_a_field) (by rfl)) (DG.name 6 fun _ => sc_law_a_field.nd) (by decide) DTs.nil (DE.op opMulN (DE.lst (DA.cons (DE.var 4) DA.nil)) (DE.var 2)))
  (DB.cons (DS.for c (by first | exact fun _ => PassesOwn.never | exact fun _ => PassesOwn.leaving) (DI.rng1 c T.n_range (DA.cons (DE.cl c L_law_digit (by decide) rfl (DA.cons (DE.var 0) (DA.cons DE.int DA.nil)) (aLen_cons (aLen_cons aLen_nil))) DA.nil)) (DG.name 7 fun _ => sc_law_a_field.nd)
  (DB.cons (DS.par3 8 6 9 c (DE.cl c L_law_digit (by decide) rfl (DA.cons (DE.var 0) (DA.cons (DE.var 2) DA.nil)) (aLen_cons (aLen_cons aLen_nil))) (DE.cl c L_law_digit (by decide) rfl (DA.cons (DE.var 0) (DA.cons (DE.var 3) DA.nil)) (aLen_cons (aLen_cons aLen_nil))) (DE.cl c L_law_digit (by decide) rfl (DA.cons (DE.var 0) (DA.cons (DE.op (opAdd4 c) (DE.var 4) DE.int) DA.nil)) (aLen_cons (aLen_cons aLen_nil))) (fun _ => sc_law_a_field.nd))
  (DB.cons (DS.par 10 11 c (DE.op (opAdd4 c) (DE.op (opAdd4 c) (DE.var 8) DE.int) (DE.cl c L_law_digit (by decide) rfl (DA.cons (DE.var 0) (DA.cons (DE.op opSub (DE.var 2) (DE.var 8)) DA.nil)) (aLen_cons (aLen_cons aLen_nil)))) (DE.op (opAdd4 c) (DE.op (opAdd4 c) (DE.var 6) DE.int) (DE.cl c L_law_digit (by decide) rfl (DA.cons (DE.var 0) (DA.cons (DE.op opSub (DE.var 3) (DE.var 6)) DA.nil)) (aLen_cons (aLen_cons aLen_nil)))) (fun _ => sc_law_a_field.nd))
  (DB.one (DS.for c (by first | exact fun _ => PassesOwn.never | exact fun _ => PassesOwn.leaving) (DI.rng2 c T.n_range (DA.cons (DE.var 6) (DA.cons (DE.var 11) DA.nil))) (DG.name 12 fun _ => sc_law_a_field.nd)
  (DB.one (DS.for c (by first | exact fun _ => PassesOwn.never | exact fun _ => PassesOwn.leaving) (DI.rng2 c T.n_range (DA.cons (DE.var 8) (DA.cons (DE.var 10) DA.nil))) (DG.name 13 fun _ => sc_law_a_field.nd)
  (DB.one (DS.lput (DE.ix c (DE.var 5) (DE.var 12)) (DE.var 13) (DE.var 9))))))))))
  (DB.one (DS.ret (DE.tup (DA.cons (DE.var 4) (DA.cons (DE.callTy c (cTupOf c) T.n_tuple (by decide +kernel) (DA.cons (DE.lc c (own := [("row", 14)]) (fun _ => sc_law_a_field.nd) (DI.seq c (DE.var 5)) (fun _ => blkOk_by (N := nn_law_a_field) (by rfl)) (DG.name 14 fun _ => sc_law_a_field.nd) (by decide) DTs.nil (DE.callTy (c.blk _) (cTupOf (c.blk _)) T.n_tuple (by decide +kernel) (DA.cons (DE.var 14) DA.nil))) DA.nil)) DA.nil))))))))
abbrev ss_law_some_tools : Stmt := topS 40
theorem sc_law_some_tools : FnScope nn_law_some_tools ["state", "most"] (defScope ss_law_some_tools) := ⟨rfl, rfl, rfl, by decide +kernel, rfl, by decide +kernel, by decide +kernel⟩
abbrev FF_law_some_tools (K : PySem.W.Frag) (f : Addr) (fd : FuncData) : Prop := FunD K "_law_some_tools" "_law_some_tools" (defArgs ss_law_some_tools) (defBody ss_law_some_tools) (defScope ss_law_some_tools) [] [] f fd
theorem ok_law_some_tools (T : Txt ct K mg) (L_law_digit : Lk P w K mg base "_law_digit" 2 ["state", "many"] ff_law_digit) {f : Addr} {fd : FuncData} (F : FF_law_some_tools K f fd) : DFn P w K mg base 3 f fd ["state", "most"] ff_law_some_tools :=
  DFn.of F sc_law_some_tools fun c => (DB.cons (DS.set 2 (DE.new DA.nil) (fun _ => sc_law_some_tools.nd))
  (DB.cons (DS.for c (by first | exact fun _ => PassesOwn.never | exact fun _ => PassesOwn.leaving) (DI.rng1 c T.n_range (DA.cons (DE.cl c L_law_digit (by decide) rfl (DA.cons (DE.var 0) (DA.cons (DE.op (opAdd4 c) (DE.var 1) DE.int) DA.nil)) (aLen_cons (aLen_cons aLen_nil))) DA.nil)) (DG.name 3 fun _ => sc_law_some_tools.nd)
  (DB.cons (DS.set 4 (DE.tup (DA.cons (DE.op (opAdd4 c) DE.int (DE.cl c L_law_digit (by decide) rfl (DA.cons (DE.var 0) (DA.cons DE.int DA.nil)) (aLen_cons (aLen_cons aLen_nil)))) (DA.cons (DE.op (opAdd4 c) DE.int (DE.cl c L_law_digit (by decide) rfl (DA.cons (DE.var 0) (DA.cons DE.int DA.nil)) (aLen_cons (aLen_cons aLen_nil)))) DA.nil))) (fun _ => sc_law_some_tools.nd))
  (DB.one (DS.ite (DC.test (DC.op (opNotIn c) (DE.var 4) (DE.var 2)))
  (DB.one (DS.expr (DE.lmeth c mApp PySem.F.slot_list_append PySem.F.type_list_append (DE.var 2) (DA.cons (DE.var 4) DA.nil)))) DB.nil))))
  (DB.one (DS.ret (DE.callTy c (cTupOf c) T.n_tuple (by decide +kernel) (DA.cons (DE.var 2) DA.nil))))))
abbrev ss_law_cells : Stmt := topS 41
theorem sc_law_cells : FnScope nn_law_cells ["field"] (defScope ss_law_cells) := ⟨rfl, rfl, rfl, by decide +kernel, rfl, by decide +kernel, by decide +kernel⟩
abbrev FF_law_cells (K : PySem.W.Frag) (f : Addr) (fd : FuncData) : Prop := FunD K "_law_cells" "_law_cells" (defArgs ss_law_cells) (defBody ss_law_cells) (defScope ss_law_cells) [] [] f fd
theorem ok_law_cells (T : Txt ct K mg) {f : Addr} {fd : FuncData} (F : FF_law_cells K f fd) : DFn P w K mg base 1 f fd ["field"] ff_law_cells :=
  DFn.of F sc_law_cells fun c => (DB.cons (DS.set 1 (DE.new DA.nil) (fun _ => sc_law_cells.nd))
  (DB.cons (DS.for c (by first | exact fun _ => PassesOwn.never | exact fun _ => PassesOwn.leaving) (DI.rng1 c T.n_range (DA.cons (DE.callB c (cLen c) T.n_len (by decide +kernel) (DA.cons (DE.ix c (DE.ix c (DE.var 0) DE.int) DE.int) DA.nil)) DA.nil)) (DG.name 2 fun _ => sc_law_cells.nd)
  (DB.one (DS.expr (DE.lmeth c mExt PySem.F.slot_list_extend PySem.F.type_list_extend (DE.var 1) (DA.cons (DE.lc c (own := [("j", 3)]) (fun _ => sc_law_cells.nd) (DI.rng1 c T.n_range (DA.cons (DE.callB c (cLen c) T.n_len (by decide +kernel) (DA.cons (DE.ix c (DE.var 0) DE.int) DA.nil)) DA.nil)) (fun _ => blkOk_by (N := nn_law_cells) (by rfl)) (DG.name 3 fun _ => sc_law_cells.nd) (by decide) DTs.nil (DE.tup (DA.cons (DE.var 2) (DA.cons (DE.var 3) DA.nil)))) DA.nil)))))
  (DB.one (DS.ret (DE.frz 1)))))
abbrev ss_law_spots : Stmt := topS 42
theorem sc_law_spots : FnScope nn_law_spots ["field", "side"] (defScope ss_law_spots) := ⟨rfl, rfl, rfl, by decide +kernel, rfl, by decide +kernel, by decide +kernel⟩
abbrev FF_law_spots (K : PySem.W.Frag) (f : Addr) (fd : FuncData) : Prop := FunD K "_law_spots" "_law_spots" (defArgs ss_law_spots) (defBody ss_law_spots) (defScope ss_law_spots) [] [] f fd
theorem ok_law_spots (T : Txt ct K mg) {f : Addr} {fd : FuncData} (F : FF_law_spots K f fd) : DFn P w K mg base 1 f fd ["field", "side"] ff_law_spots :=
  DFn.of F sc_law_spots fun c => (DB.cons (DS.set 2 (DE.new DA.nil) (fun _ => sc_law_spots.nd))
  (DB.cons (DS.for c (by first | exact fun _ => PassesOwn.never | exact fun _ => PassesOwn.leaving) (DI.rng2 c T.n_range (DA.cons (DE.op opSub DE.int (DE.var 1)) (DA.cons (DE.callB c (cLen c) T.n_len (by decide +kernel) (DA.cons (DE.ix c (DE.ix c (DE.var 0) DE.int) DE.int) DA.nil)) DA.nil))) (DG.name 3 fun _ => sc_law_spots.nd)
  (DB.one (DS.expr (DE.lmeth c mExt PySem.F.slot_list_extend PySem.F.type_list_extend (DE.var 2) (DA.cons (DE.lc c (own := [("j", 4)]) (fun _ => sc_law_spots.nd) (DI.rng2 c T.n_range (DA.cons (DE.op opSub DE.int (DE.var 1)) (DA.cons (DE.callB c (cLen c) T.n_len (by decide +kernel) (DA.cons (DE.ix c (DE.var 0) DE.int) DA.nil)) DA.nil))) (fun _ => blkOk_by (N := nn_law_spots) (by rfl)) (DG.name 4 fun _ => sc_law_spots.nd) (by decide) DTs.nil (DE.tup (DA.cons (DE.var 3) (DA.cons (DE.var 4) DA.nil)))) DA.nil)))))
  (DB.one (DS.ret (DE.frz 2)))))
abbrev ss_law_near : Stmt := topS 43
theorem sc_law_near : FnScope nn_law_near ["field", "spot", "side", "more"] (defScope ss_law_near) := ⟨rfl, rfl, rfl, by decide +kernel, rfl, by decide +kernel, by decide +kernel⟩
abbrev FF_law_near (K : PySem.W.Frag) (f : Addr) (fd : FuncData) : Prop := FunD K "_law_near" "_law_near" (defArgs ss_law_near) (defBody ss_law_near) (defScope ss_law_near) [] [] f fd
theorem ok_law_near (T : Txt ct K mg) (L_law_cells : Lk P w K mg base "_law_cells" 1 ["field"] ff_law_cells) {f : Addr} {fd : FuncData} (F : FF_law_near K f fd) : DFn P w K mg base 2 f fd ["field", "spot", "side", "more"] ff_law_near :=
  DFn.of F sc_law_near fun c => (DB.cons (DS.asg (DE.var 1) (DG.tup c (DGs.cons (DG.name 4 fun _ => sc_law_near.nd) (DGs.cons (DG.name 5 fun _ => sc_law_near.nd) DGs.nil))))
  (DB.cons (DS.set 6 (DE.new DA.nil) (fun _ => sc_law_near.nd))
  (DB.cons (DS.for c (by first | exact fun _ => PassesOwn.never | exact fun _ => PassesOwn.leaving) (DI.seq c (DE.cl c L_law_cells (by decide) rfl (DA.cons (DE.var 0) DA.nil) (aLen_cons aLen_nil))) (DG.tup c (DGs.cons (DG.name 7 fun _ => sc_law_near.nd) (DGs.cons (DG.name 8 fun _ => sc_law_near.nd) DGs.nil)))
  (DB.one (DS.ite (DW.test (DW.and (DC.test (DC.chain opLe opLt (DE.op opSub (DE.var 4) (DE.var 3)) (DE.var 7) (DE.op (opAdd4 c) (DE.op (opAdd4 c) (DE.var 4) (DE.var 2)) (DE.var 3)))) (DW.and1 (DC.test (DC.chain opLe opLt (DE.op opSub (DE.var 5) (DE.var 3)) (DE.var 8) (DE.op (opAdd4 c) (DE.op (opAdd4 c) (DE.var 5) (DE.var 2)) (DE.var 3)))))))
  (DB.one (DS.expr (DE.lmeth c mApp PySem.F.slot_list_append PySem.F.type_list_append (DE.var 6) (DA.cons (DE.tup (DA.cons (DE.var 7) (DA.cons (DE.var 8) DA.nil))) DA.nil)))) DB.nil)))
  (DB.one (DS.ret (DE.frz 6))))))
abbrev ss_law_aim : Stmt := topS 44
theorem sc_law_aim : FnScope nn_law_aim ["field", "cell"] (defScope ss_law_aim) := ⟨rfl, rfl, rfl, by decide +kernel, rfl, by decide +kernel, by decide +kernel⟩
abbrev FF_law_aim (K : PySem.W.Frag) (f : Addr) (fd : FuncData) : Prop := FunD K "_law_aim" "_law_aim" (defArgs ss_law_aim) (defBody ss_law_aim) (defScope ss_law_aim) [] [] f fd
theorem ok_law_aim (T : Txt ct K mg) {f : Addr} {fd : FuncData} (F : FF_law_aim K f fd) : DFn P w K mg base 1 f fd ["field", "cell"] ff_law_aim :=
  DFn.of F sc_law_aim fun c => (DB.one (DS.ret (DE.ix c (DE.ix c (DE.ix c (DE.var 0) DE.int) (DE.ix c (DE.var 1) DE.int)) (DE.ix c (DE.var 1) DE.int))))
abbrev ss_law_low : Stmt := topS 45
theorem sc_law_low : FnScope nn_law_low ["field", "heights", "one", "spot"] (defScope ss_law_low) := ⟨rfl, rfl, rfl, by decide +kernel, rfl, by decide +kernel, by decide +kernel⟩
abbrev FF_law_low (K : PySem.W.Frag) (f : Addr) (fd : FuncData) : Prop := FunD K "_law_low" "_law_low" (defArgs ss_law_low) (defBody ss_law_low) (defScope ss_law_low) [] [] f fd
theorem ok_law_low (T : Txt ct K mg) (L_law_near : Lk P w K mg base "_law_near" 2 ["field", "spot", "side", "more"] ff_law_near) (L_law_aim : Lk P w K mg base "_law_aim" 1 ["field", "cell"] ff_law_aim) {f : Addr} {fd : FuncData} (F : FF_law_low K f fd) : DFn P w K mg base 3 f fd ["field", "heights", "one", "spot"] ff_law_low :=
  DFn.of F sc_law_low fun c => (DB.cons (DS.set 4 (DE.cl c L_law_near (by decide) rfl (DA.cons (DE.var 0) (DA.cons (DE.var 3) (DA.cons (DE.ix c (DE.var 2) DE.int) (DA.cons DE.int DA.nil)))) (aLen_cons (aLen_cons (aLen_cons (aLen_cons aLen_nil))))) (fun _ => sc_law_low.nd))
  (DB.cons (DS.setLcN 5 c (own := [("cell", 6)]) (fun _ => sc_law_low.nd) (DI.seq c (DE.var 4)) (fun _ => blkOk_by (N := nn_law_low) (by rfl)) (DG.name 6 fun _ => sc_law_low.nd) (by decide) DTs.nil (DE.cl (c.blk _) L_law_aim (by decide) rfl (DA.cons (DE.var 0) (DA.cons (DE.var 6) DA.nil)) (aLen_cons (aLen_cons aLen_nil))))
  (DB.cons (DS.for c (by first | exact fun _ => PassesOwn.never | exact fun _ => PassesOwn.leaving) (DI.seq c (DE.cl c L_law_near (by decide) rfl (DA.cons (DE.var 0) (DA.cons (DE.var 3) (DA.cons (DE.ix c (DE.var 2) DE.int) (DA.cons DE.int DA.nil)))) (aLen_cons (aLen_cons (aLen_cons (aLen_cons aLen_nil)))))) (DG.name 6 fun _ => sc_law_low.nd)
  (DB.one (DS.ite (DC.test (DC.op (opNotIn c) (DE.var 6) (DE.var 4)))
  (DB.one (DS.expr (DE.lmeth c mApp PySem.F.slot_list_append PySem.F.type_list_append (DE.var 5) (DA.cons (DE.op opSub (DE.ixF c (DE.var 1) (DE.var 6)) (DE.ix c (DE.var 2) DE.int)) DA.nil)))) DB.nil)))
  (DB.one (DS.ret (DE.callB c (cMaxL c) T.n_max (by decide +kernel) (DA.cons (DE.op (opAdd4 c) (DE.lst (DA.cons DE.int DA.nil)) (DE.var 5)) DA.nil)))))))
abbrev ss_law_full : Stmt := topS 46
theorem sc_law_full : FnScope nn_law_full ["field"] (defScope ss_law_full) := ⟨rfl, rfl, rfl, by decide +kernel, rfl, by decide +kernel, by decide +kernel⟩
abbrev FF_law_full (K : PySem.W.Frag) (f : Addr) (fd : FuncData) : Prop := FunD K "_law_full" "_law_full" (defArgs ss_law_full) (defBody ss_law_full) (defScope ss_law_full) [] [] f fd
theorem ok_law_full (T : Txt ct K mg) (L_law_cells : Lk P w K mg base "_law_cells" 1 ["field"] ff_law_cells) {f : Addr} {fd : FuncData} (F : FF_law_full K f fd) : DFn P w K mg base 2 f fd ["field"] ff_law_full :=
  DFn.of F sc_law_full fun c => (DB.one (DS.ret (DE.callTy c (cDictF c) T.n_dict (by decide +kernel) (DA.cons (DE.lc c (own := [("cell", 1)]) (fun _ => sc_law_full.nd) (DI.seq c (DE.cl c L_law_cells (by decide) rfl (DA.cons (DE.var 0) DA.nil) (aLen_cons aLen_nil))) (fun _ => blkOk_by (N := nn_law_full) (by rfl)) (DG.name 1 fun _ => sc_law_full.nd) (by decide) DTs.nil (DE.tup (DA.cons (DE.var 1) (DA.cons (DE.ix (c.blk _) (DE.var 0) DE.int) DA.nil)))) DA.nil))))
abbrev ss_law_cut : Stmt := topS 47
theorem sc_law_cut : FnScope nn_law_cut ["field", "heights", "stand"] (defScope ss_law_cut) := ⟨rfl, rfl, rfl, by decide +kernel, rfl, by decide +kernel, by decide +kernel⟩
abbrev FF_law_cut (K : PySem.W.Frag) (f : Addr) (fd : FuncData) : Prop := FunD K "_law_cut" "_law_cut" (defArgs ss_law_cut) (defBody ss_law_cut) (defScope ss_law_cut) [] [] f fd
theorem ok_law_cut (T : Txt ct K mg) (L_law_near : Lk P w K mg base "_law_near" 2 ["field", "spot", "side", "more"] ff_law_near) {f : Addr} {fd : FuncData} (F : FF_law_cut K f fd) : DFn P w K mg base 3 f fd ["field", "heights", "stand"] ff_law_cut :=
  DFn.of F sc_law_cut fun c => (DB.cons (DS.asg (DE.var 2) (DG.tup c (DGs.cons (DG.name 3 fun _ => sc_law_cut.nd) (DGs.cons (DG.name 4 fun _ => sc_law_cut.nd) (DGs.cons (DG.name 5 fun _ => sc_law_cut.nd) DGs.nil)))))
  (DB.cons (DS.set 6 (DE.cl c L_law_near (by decide) rfl (DA.cons (DE.var 0) (DA.cons (DE.var 4) (DA.cons (DE.ix c (DE.var 3) DE.int) (DA.cons DE.int DA.nil)))) (aLen_cons (aLen_cons (aLen_cons (aLen_cons aLen_nil))))) (fun _ => sc_law_cut.nd))
  (DB.one (DS.ret (DE.callTy c (cDictF c) T.n_dict (by decide +kernel) (DA.cons (DE.lc c (own := [("cell", 7), ("at", 8)]) (fun _ => sc_law_cut.nd) (DI.itemsC c (DE.var 1)) (fun _ => blkOk_by (N := nn_law_cut) (by rfl)) (DG.tup (c.blk _) (DGs.cons (DG.name 7 fun _ => sc_law_cut.nd) (DGs.cons (DG.name 8 fun _ => sc_law_cut.nd) DGs.nil))) (by decide) DTs.nil (DE.tup (DA.cons (DE.var 7) (DA.cons (DE.ite (DC.test (DC.op (opIn (c.blk _)) (DE.var 7) (DE.var 6))) (DE.callB (c.blk _) (cMin2 (c.blk _)) T.n_min (by decide +kernel) (DA.cons (DE.var 8) (DA.cons (DE.var 5) DA.nil))) (DE.var 8)) DA.nil)))) DA.nil))))))
abbrev ss_law_as_field : Stmt := topS 48
theorem sc_law_as_field : FnScope nn_law_as_field ["field", "heights"] (defScope ss_law_as_field) := ⟨rfl, rfl, rfl, by decide +kernel, rfl, by decide +kernel, by decide +kernel⟩
abbrev FF_law_as_field (K : PySem.W.Frag) (f : Addr) (fd : FuncData) : Prop := FunD K "_law_as_field" "_law_as_field" (defArgs ss_law_as_field) (defBody ss_law_as_field) (defScope ss_law_as_field) [] [] f fd
theorem ok_law_as_field (T : Txt ct K mg) {f : Addr} {fd : FuncData} (F : FF_law_as_field K f fd) : DFn P w K mg base 1 f fd ["field", "heights"] ff_law_as_field :=
  DFn.of F sc_law_as_field fun c => (DB.cons (DS.asg (DE.tup (DA.cons (DE.callB c (cLen c) T.n_len (by decide +kernel) (DA.cons (DE.ix c (DE.ix c (DE.var 0) DE.int) DE.int) DA.nil)) (DA.cons (DE.callB c (cLen c) T.n_len (by decide +kernel) (DA.cons (DE.ix c (DE.var 0) DE.int) DA.nil)) DA.nil))) (DG.tup c (DGs.cons (DG.name 2 fun _ => sc_law_as_field.nd) (DGs.cons (DG.name 3 fun _ => sc_law_as_field.nd) DGs.nil))))
  (DB.one (DS.ret (DE.tup (DA.cons (DE.ix c (DE.var 0) DE.int) (DA.cons (DE.callTy c (cTupOf c) T.n_tuple (by decide +kernel) (DA.cons (DE.lc c (own := [("j", 5)]) (fun _ => sc_law_as_field.nd) (DI.rng1 c T.n_range (DA.cons (DE.var 3) DA.nil)) (fun _ => blkOk_by (N := nn_law_as_field) (by rfl)) (DG.name 5 fun _ => sc_law_as_field.nd) (by decide) DTs.nil (DE.callTy (c.blk _) (cTupOf (c.blk _)) T.n_tuple (by decide +kernel) (DA.cons (DE.lc (c.blk _) (own := [("i", 4)]) (fun _ => sc_law_as_field.nd) (DI.rng1 (c.blk _) T.n_range (DA.cons (DE.var 2) DA.nil)) (fun _ => blkOk_by (N := nn_law_as_field) (by rfl)) (DG.name 4 fun _ => sc_law_as_field.nd) (by decide) DTs.nil (DE.ixF ((c.blk _).blk _) (DE.var 1) (DE.tup (DA.cons (DE.var 4) (DA.cons (DE.var 5) DA.nil))))) DA.nil))) DA.nil)) DA.nil))))))
abbrev ss_law_all_stands : Stmt := topS 49
theorem sc_law_all_stands : FnScope nn_law_all_stands ["field", "tools"] (defScope ss_law_all_stands) := ⟨rfl, rfl, rfl, by decide +kernel, rfl, by decide +kernel, by decide +kernel⟩
abbrev FF_law_all_stands (K : PySem.W.Frag) (f : Addr) (fd : FuncData) : Prop := FunD K "_law_all_stands" "_law_all_stands" (defArgs ss_law_all_stands) (defBody ss_law_all_stands) (defScope ss_law_all_stands) [] [] f fd
theorem ok_law_all_stands (T : Txt ct K mg) (L_law_spots : Lk P w K mg base "_law_spots" 1 ["field", "side"] ff_law_spots) {f : Addr} {fd : FuncData} (F : FF_law_all_stands K f fd) : DFn P w K mg base 2 f fd ["field", "tools"] ff_law_all_stands :=
  DFn.of F sc_law_all_stands fun c => (DB.cons (DS.set 2 (DE.new DA.nil) (fun _ => sc_law_all_stands.nd))
  (DB.cons (DS.for c (by first | exact fun _ => PassesOwn.never | exact fun _ => PassesOwn.leaving) (DI.seq c (DE.var 1)) (DG.name 3 fun _ => sc_law_all_stands.nd)
  (DB.one (DS.expr (DE.lmeth c mExt PySem.F.slot_list_extend PySem.F.type_list_extend (DE.var 2) (DA.cons (DE.lc c (own := [("spot", 4)]) (fun _ => sc_law_all_stands.nd) (DI.seq c (DE.cl c L_law_spots (by decide) rfl (DA.cons (DE.var 0) (DA.cons (DE.ix c (DE.var 3) DE.int) DA.nil)) (aLen_cons (aLen_cons aLen_nil)))) (fun _ => blkOk_by (N := nn_law_all_stands) (by rfl)) (DG.name 4 fun _ => sc_law_all_stands.nd) (by decide) DTs.nil (DE.tup (DA.cons (DE.var 3) (DA.cons (DE.var 4) DA.nil)))) DA.nil)))))
  (DB.one (DS.ret (DE.frz 2)))))
abbrev ss_law_round : Stmt := topS 50
theorem sc_law_round : FnScope nn_law_round ["field", "heights", "tools"] (defScope ss_law_round) := ⟨rfl, rfl, rfl, by decide +kernel, rfl, by decide +kernel, by decide +kernel⟩
abbrev FF_law_round (K : PySem.W.Frag) (f : Addr) (fd : FuncData) : Prop := FunD K "_law_round" "_law_round" (defArgs ss_law_round) (defBody ss_law_round) (defScope ss_law_round) [] [] f fd
theorem ok_law_round (T : Txt ct K mg) (L_law_all_stands : Lk P w K mg base "_law_all_stands" 2 ["field", "tools"] ff_law_all_stands) (L_law_low : Lk P w K mg base "_law_low" 3 ["field", "heights", "one", "spot"] ff_law_low) (L_law_cut : Lk P w K mg base "_law_cut" 3 ["field", "heights", "stand"] ff_law_cut) {f : Addr} {fd : FuncData} (F : FF_law_round K f fd) : DFn P w K mg base 4 f fd ["field", "heights", "tools"] ff_law_round :=
  DFn.of F sc_law_round fun c => (DB.cons (DS.set 3 (DE.var 1) (fun _ => sc_law_round.nd))
  (DB.cons (DS.for c (by first | exact fun _ => PassesOwn.never | exact fun _ => PassesOwn.leaving) (DI.seq c (DE.cl c L_law_all_stands (by decide) rfl (DA.cons (DE.var 0) (DA.cons (DE.var 2) DA.nil)) (aLen_cons (aLen_cons aLen_nil)))) (DG.tup c (DGs.cons (DG.name 4 fun _ => sc_law_round.nd) (DGs.cons (DG.name 5 fun _ => sc_law_round.nd) DGs.nil)))
  (DB.one (DS.set 3 (DE.cl c L_law_cut (by decide) rfl (DA.cons (DE.var 0) (DA.cons (DE.var 3) (DA.cons (DE.tup (DA.cons (DE.var 4) (DA.cons (DE.var 5) (DA.cons (DE.cl c L_law_low (by decide) rfl (DA.cons (DE.var 0) (DA.cons (DE.var 1) (DA.cons (DE.var 4) (DA.cons (DE.var 5) DA.nil)))) (aLen_cons (aLen_cons (aLen_cons (aLen_cons aLen_nil))))) DA.nil)))) DA.nil))) (aLen_cons (aLen_cons (aLen_cons aLen_nil)))) (fun _ => sc_law_round.nd))))
  (DB.one (DS.ret (DE.var 3)))))
abbrev ss_law : Stmt := topS 51
theorem sc_law : FnScope nn_law ["script"] (defScope ss_law) := ⟨rfl, rfl, rfl, by decide +kernel, rfl, by decide +kernel, by decide +kernel⟩
abbrev FF_law (K : PySem.W.Frag) (f : Addr) (fd : FuncData) : Prop := FunD K "law" "law" (defArgs ss_law) (defBody ss_law) (defScope ss_law) [] [] f fd
theorem ok_law (T : Txt ct K mg) (L_law_draw : Lk P w K mg base "_law_draw" 1 ["cell", "k"] ff_law_draw) (L_law_some_tools : Lk P w K mg base "_law_some_tools" 3 ["state", "most"] ff_law_some_tools) (L_law_a_field : Lk P w K mg base "_law_a_field" 3 ["state", "most"] ff_law_a_field) (L_law_full : Lk P w K mg base "_law_full" 2 ["field"] ff_law_full) (L_law_round : Lk P w K mg base "_law_round" 4 ["field", "heights", "tools"] ff_law_round) (L_steady : Lk P w K mg base "steady" 7 ["field", "tools"] (ff_steady ct)) (L_law_as_field : Lk P w K mg base "_law_as_field" 1 ["field", "heights"] ff_law_as_field) (L_reached : Lk P w K mg base "reached" 8 ["field", "tools"] (ff_reached ct)) {f : Addr} {fd : FuncData} (F : FF_law K f fd) : DFn P w K mg base 9 f fd ["script"] (ff_law ct) :=
  DFn.of F sc_law fun c => (DB.cons (DS.for c (by first | exact fun _ => PassesOwn.never | exact fun _ => PassesOwn.leaving) (DI.enum c T.n_enumerate (DA.cons (DE.sl c (DE.op (opAddQ c) (DE.var 0) (DE.lst (DA.cons DE.int (DA.cons DE.int DA.nil)))) DP.none (DP.some DE.int)) DA.nil)) (DG.tup c (DGs.cons (DG.name 1 fun _ => sc_law.nd) (DGs.cons (DG.name 2 fun _ => sc_law.nd) DGs.nil)))
  (DB.cons (DS.set 3 (DE.cl c L_law_draw (by decide) rfl (DA.cons (DE.var 2) (DA.cons (DE.var 1) DA.nil)) (aLen_cons (aLen_cons aLen_nil))) (fun _ => sc_law.nd))
  (DB.cons (DS.asg (DE.tup (DA.cons (DE.cl c L_law_a_field (by decide) rfl (DA.cons (DE.var 3) (DA.cons DE.int DA.nil)) (aLen_cons (aLen_cons aLen_nil))) (DA.cons (DE.cl c L_law_some_tools (by decide) rfl (DA.cons (DE.var 3) (DA.cons DE.int DA.nil)) (aLen_cons (aLen_cons aLen_nil))) DA.nil))) (DG.tup c (DGs.cons (DG.name 4 fun _ => sc_law.nd) (DGs.cons (DG.name 5 fun _ => sc_law.nd) DGs.nil))))
  (DB.cons (DS.par 6 7 c (DE.cl c L_law_full (by decide) rfl (DA.cons (DE.var 4) DA.nil) (aLen_cons aLen_nil)) (DE.new DA.nil) (fun _ => sc_law.nd))
  (DB.cons (DS.wh (by first | exact fun _ => PassesOwn.never | exact fun _ => PassesOwn.leaving) (DW.test (DW.or (DC.test (DC.op (opEqE c) (DE.var 7) (DE.lst DA.nil))) (DW.or1 (DC.test (DC.op (opNeC c) (DE.ix c (DE.var 7) (DE.neg DE.int)) (DE.var 6))))))
  (DB.cons (DS.expr (DE.lmeth c mApp PySem.F.slot_list_append PySem.F.type_list_append (DE.var 7) (DA.cons (DE.var 6) DA.nil)))
  (DB.one (DS.set 6 (DE.cl c L_law_round (by decide) rfl (DA.cons (DE.var 4) (DA.cons (DE.var 6) (DA.cons (DE.var 5) DA.nil))) (aLen_cons (aLen_cons (aLen_cons aLen_nil)))) (fun _ => sc_law.nd)))))
  (DB.cons (DS.par 8 9 c (DE.cl c L_steady (by decide) rfl (DA.cons (DE.var 4) (DA.cons (DE.var 5) DA.nil)) (aLen_cons (aLen_cons aLen_nil))) (DE.lcV c (own := [("one", 10)]) (fun _ => sc_law.nd) (DIV.of c (DE.var 7)) (fun _ => blkOk_by (N := nn_law) (by rfl)) (DG.name 10 fun _ => sc_law.nd) (by decide) DTs.nil (DE.cl (c.blk _) L_law_as_field (by decide) rfl (DA.cons (DE.var 4) (DA.cons (DE.var 10) DA.nil)) (aLen_cons (aLen_cons aLen_nil)))) (fun _ => sc_law.nd))
  (DB.cons (DS.ite (DW.test (DW.or (DT.not (DE.test (DE.callB c (cIsi c) T.n_isinstance (by decide +kernel) (DA.cons (DE.var 8) (DA.cons (DE.bltn c T.n_list (by decide +kernel) (v := .ty "list") rfl fun _ _ => .ty _) DA.nil))))) (DW.or (DC.test (DC.op (opNe c) (DE.callB c (cRepr c) T.n_repr (by decide +kernel) (DA.cons (DE.var 8) DA.nil)) (DE.callB c (cRepr c) T.n_repr (by decide +kernel) (DA.cons (DE.var 9) DA.nil)))) (DW.or1 (DC.test (DC.op (opNe c) (DE.callB c (cRepr c) T.n_repr (by decide +kernel) (DA.cons (DE.cl c L_reached (by decide) rfl (DA.cons (DE.var 4) (DA.cons (DE.var 5) DA.nil)) (aLen_cons (aLen_cons aLen_nil))) DA.nil)) (DE.callB c (cRepr c) T.n_repr (by decide +kernel) (DA.cons (DE.ix c (DE.var 9) (DE.neg DE.int)) DA.nil))))))))
  (DB.one (DS.ret DE.bool)) DB.nil)
  (DB.cons (DS.expr (DE.lmeth0 c mClr PySem.F.slot_list_clear PySem.F.type_list_clear (DE.var 8)))
  (DB.one (DS.ite (DC.test (DC.op (opNe c) (DE.cl c L_steady (by decide) rfl (DA.cons (DE.var 4) (DA.cons (DE.var 5) DA.nil)) (aLen_cons (aLen_cons aLen_nil))) (DE.var 9)))
  (DB.one (DS.ret DE.bool)) DB.nil))))))))))
  (DB.one (DS.ret DE.bool)))
end
end Law
namespace Law
namespace Rc
abbrev Cl := Int × Int
structure Fd where
  w : Int
  l : Int
  top : Int
  f : Cl → Int
def inb (F : Fd) (c : Cl) : Prop := 0 ≤ c.1 ∧ c.1 < F.w ∧ 0 ≤ c.2 ∧ c.2 < F.l
def und (F : Fd) (s : Int) (p c : Cl) : Prop := inb F c ∧ p.1 ≤ c.1 ∧ c.1 < p.1 + s ∧ p.2 ≤ c.2 ∧ c.2 < p.2 + s
def rng (F : Fd) (s : Int) (p c : Cl) : Prop := inb F c ∧ (p.1 - 1 ≤ c.1 ∧ c.1 < p.1 + s + 1 ∧ p.2 - 1 ≤ c.2 ∧ c.2 < p.2 + s + 1) ∧ ¬ (p.1 ≤ c.1 ∧ c.1 < p.1 + s ∧ p.2 ≤ c.2 ∧ c.2 < p.2 + s)
def plc (F : Fd) (s : Int) (p : Cl) : Prop := 1 - s ≤ p.1 ∧ p.1 < F.w ∧ 1 - s ≤ p.2 ∧ p.2 < F.l
/-- v is no higher than where t stands lowest at p -/
def lowGe (F : Fd) (g : Cl → Int) (t p : Cl) (v : Int) : Prop := (∃ c, und F t.1 p c ∧ v ≤ F.f c) ∨ ∃ c, rng F t.1 p c ∧ v ≤ g c - t.2
def Post (F : Fd) (ts : List Cl) (g : Cl → Int) : Prop := ∀ c, inb F c → ∀ t ∈ ts, ∀ p, plc F t.1 p → und F t.1 p c → lowGe F g t p (g c)
def Le (F : Fd) (g h : Cl → Int) : Prop := ∀ c, inb F c → g c ≤ h c
/-- T is what is reached -/
structure Rch (F : Fd) (ts : List Cl) (T : Cl → Int) : Prop where
  post : Post F ts T
  top : ∀ c, inb F c → T c ≤ F.top
  most : ∀ g, Post F ts g → (∀ c, inb F c → g c ≤ F.top) → Le F g T
theorem lowGe.mono {F : Fd} {g h : Cl → Int} (l : Le F g h) {t p : Cl} {v u : Int} (hv : u ≤ v) : lowGe F g t p v → lowGe F h t p u
  | .inl ⟨c, a, b⟩ => .inl ⟨c, a, Int.le_trans hv b⟩
  | .inr ⟨c, a, b⟩ => .inr ⟨c, a, by
    have := l c a.1
    omega⟩
theorem Rch.same {F : Fd} {ts : List Cl} {S T : Cl → Int} (a : Rch F ts S) (b : Rch F ts T) : ∀ c, inb F c → S c = T c := fun c hc =>
  Int.le_antisymm (b.most S a.post a.top c hc) (a.most T b.post b.top c hc)
/-- turned over its diagonal -/
def turn (c : Cl) : Cl := (c.2, c.1)
def Fd.turn (F : Fd) : Fd := ⟨F.l, F.w, F.top, fun c => F.f (Rc.turn c)⟩
theorem Post.turn {F : Fd} {ts : List Cl} {g : Cl → Int} (h : Post F ts g) : Post F.turn ts fun c => g (Rc.turn c) := by
  rintro ⟨i, j⟩ ⟨c1, c2, c3, c4⟩ t ht ⟨x, y⟩ ⟨p1, p2, p3, p4⟩ ⟨_, u1, u2, u3, u4⟩
  rcases h (j, i) ⟨c3, c4, c1, c2⟩ t ht (y, x) ⟨p3, p4, p1, p2⟩ ⟨⟨c3, c4, c1, c2⟩, u3, u4, u1, u2⟩ with ⟨⟨a, b⟩, ⟨⟨d1, d2, d3, d4⟩, v1, v2, v3, v4⟩, v⟩ | ⟨⟨a, b⟩, ⟨⟨d1, d2, d3, d4⟩, ⟨v1, v2, v3, v4⟩, v5⟩, v⟩
  · exact .inl ⟨(b, a), ⟨⟨d3, d4, d1, d2⟩, v3, v4, v1, v2⟩, v⟩
  · exact .inr ⟨(b, a), ⟨⟨d3, d4, d1, d2⟩, ⟨v3, v4, v1, v2⟩, fun z => v5 ⟨z.2.2.1, z.2.2.2, z.1, z.2.1⟩⟩, v⟩
theorem turned {F : Fd} {ts : List Cl} {S T : Cl → Int} (a : Rch F ts S) (b : Rch F.turn ts T) : ∀ c, inb F c → T (Rc.turn c) = S c := by
  intro c hc
  have hc' : inb F.turn (Rc.turn c) := ⟨hc.2.2.1, hc.2.2.2, hc.1, hc.2.1⟩
  have ti : ∀ d, inb F.turn d → inb F (Rc.turn d) := fun d h => ⟨h.2.2.1, h.2.2.2, h.1, h.2.1⟩
  refine Int.le_antisymm ?_ ?_
  · have q := Post.turn b.post
    exact a.most (fun c => T (Rc.turn c)) q (fun d hd => b.top (Rc.turn d) ⟨hd.2.2.1, hd.2.2.2, hd.1, hd.2.1⟩) c hc
  · exact b.most (fun c => S (Rc.turn c)) (Post.turn a.post) (fun d hd => a.top _ (ti d hd)) (Rc.turn c) hc'
end Rc
end Law
namespace Law
open PySem L2 Pl
/-- a fraction as a value -/
def R (q : Rat) : D := .tup [.int q.num, .int (q.den : Int)]
theorem dOk {t s : Int} (h : s ≠ 0) (hb : s.natAbs < 2 ^ 8000) : DivOk t s := divOk h hb (by decide) (by decide)
end Law
namespace Law
open PySem L2 Pl
theorem mul_int {i j : Int} (h : MulOk i j) {M : Mh} : gMul (.int i) (.int j) M = some (.int (i * j), M) := if_pos h
theorem add_int {i j : Int} {M : Mh} : gAdd (.int i) (.int j) M = some (.int (i + j), M) := rfl
section
variable {a b c : Rat} {i j k : Nat}
theorem eqv_int (i j : Int) : PyData.eqv (.int i) (.int j) = decide (i = j) := by
  by_cases h : i = j
  · subst h; simp [PyData.eqv]
  · rw [decide_eq_false h]; simp [PyData.eqv, h]
theorem eq_int (i j : Int) (M : Mh) : gEq PyData.eqv (.int i) (.int j) M = some (.bl (decide (i = j)), M) := by
  rw [← eqv_int]; rfl
theorem ne_int (i j : Int) (M : Mh) : gEq (fun p q => !PyData.eqv p q) (.int i) (.int j) M = some (.bl (!decide (i = j)), M) := by
  rw [← eqv_int]; rfl
/-- the told order -/
def cmpR (a b : Rat) : Int := if a < b then -1 else if b < a then 1 else 0
theorem kit_tt : kitB "tuple" "tuple" = some true := by decide +kernel
theorem kit_ii : kitB "int" "int" = some true := by decide +kernel
theorem kit_ib : kitB "int" "bool" = some false := by decide +kernel
end
end Law
namespace Law
open PySem L2 Pl
theorem x_aCons {f : EF} {g : AF} {δ : Pl.Env} {M : Mh} : aCons f g δ M = (match f δ M with | some (d, M1) => (match g δ M1 with | some (ds, M2) => some (d :: ds, M2) | none => none) | none => none) := (fun h => h) (by unfold aCons; rfl)
theorem x_aNil {δ : Pl.Env} {M : Mh} : aNil δ M = some ([], M) := (fun h => h) (by unfold aNil; rfl)
theorem x_eC {δ : Pl.Env} {M : Mh} {d : D} : eC d δ M = some (d, M) := (fun h => h) (by unfold eC; rfl)
theorem x_eVar {i : Nat} {δ : Pl.Env} {M : Mh} : eVar i δ M = (match δ[i]? with | some (some d) => some (d, M) | _ => none) := (fun h => h) (by unfold eVar; rfl)
theorem x_eB {g : GL} {f : AF} {δ : Pl.Env} {M : Mh} : eB g f δ M = (match f δ M with | some (ds, M1) => g ds M1 | none => none) := (fun h => h) (by unfold eB; rfl)
theorem x_eTup {f : AF} {δ : Pl.Env} {M : Mh} {ds : List D} {M1 : Mh} (h : f δ M = some (ds, M1)) (hl : ds.length ≤ 1000) : eTup f δ M = some (.tup ds, M1) := by
  unfold eTup; rw [h]; exact if_pos (Nat.le_trans hl (by decide))
theorem x_eLst {f : AF} {δ : Pl.Env} {M : Mh} {ds : List D} {M1 : Mh} (h : f δ M = some (ds, M1)) (hl : ds.length ≤ 1000) : eLst f δ M = some (.lst ds, M1) := by
  unfold eLst; rw [h]; exact if_pos (Nat.le_trans hl (by decide))
theorem seq_nx {f g : SF} {δ δ' : Pl.Env} {M M1 : Mh} {r : Option Out} (h : f δ M = some (.nx δ' M1)) (k : g δ' M1 = r) : sSeq f g δ M = r := by
  unfold sSeq; rw [h]; exact k
theorem seq_rt {f g : SF} {δ : Pl.Env} {M M1 : Mh} {d : D} (h : f δ M = some (.rt d M1)) : sSeq f g δ M = some (.rt d M1) := by
  unfold sSeq; rw [h]
theorem if_ff {t : TF} {f g : SF} {δ : Pl.Env} {M M1 : Mh} {r : Option Out} (h : t δ M = some (false, M1)) (k : g δ M1 = r) : sIf t f g δ M = r := by
  unfold sIf; rw [h]; exact k
theorem if_tt {t : TF} {f g : SF} {δ : Pl.Env} {M M1 : Mh} {r : Option Out} (h : t δ M = some (true, M1)) (k : f δ M1 = r) : sIf t f g δ M = r := by
  unfold sIf; rw [h]; exact k
theorem nil_of {δ : Pl.Env} {M : Mh} : sNil δ M = some (.nx δ M) := (fun h => h) (by unfold sNil; rfl)
theorem seq_if0 {t : TF} {f g : SF} {δ : Pl.Env} {M M1 : Mh} {r : Option Out} (h : t δ M = some (false, M1)) (k : g δ M1 = r) : sSeq (sIf t f sNil) g δ M = r :=
  seq_nx (if_ff h nil_of) k
theorem seq_if1 {t : TF} {f f2 g : SF} {δ : Pl.Env} {M M1 M2 : Mh} {d : D} (h : t δ M = some (true, M1)) (k : f δ M1 = some (.rt d M2)) : sSeq (sIf t f f2) g δ M = some (.rt d M2) :=
  seq_rt (if_tt h k)
theorem as_of {f : EF} {p : GF} {δ δ' : Pl.Env} {M M1 : Mh} {d : D} (h : f δ M = some (d, M1)) (hp : p d δ = some δ') : sAs f p δ M = some (.nx δ' M1) := by
  unfold sAs; rw [h]; dsimp only; rw [hp]
theorem seq_as {f : EF} {p : GF} {g : SF} {δ δ' : Pl.Env} {M M1 : Mh} {d : D} {r : Option Out} (h : f δ M = some (d, M1)) (hp : p d δ = some δ') (k : g δ' M1 = r) : sSeq (sAs f p) g δ M = r :=
  seq_nx (as_of h hp) k
theorem ret_of {f : EF} {δ : Pl.Env} {M M1 : Mh} {d : D} (h : f δ M = some (d, M1)) : sRet f δ M = some (.rt d M1) := by
  unfold sRet; rw [h]
theorem fn_rt {n : Nat} {g : SF} {ds : List D} {M M1 : Mh} {d : D} (h : g (startD n ds) M = some (.rt d M1)) : fnF n g ds M = some (d, M1) := by
  unfold fnF; rw [h]
theorem or0 {f g : TF} {δ : Pl.Env} {M M1 : Mh} {r : Option (Bool × Mh)} (h : f δ M = some (false, M1)) (k : g δ M1 = r) : tOrr f g δ M = r := by
  unfold tOrr; rw [h]; exact k
theorem or1 {f g : TF} {δ : Pl.Env} {M M1 : Mh} (h : f δ M = some (true, M1)) : tOrr f g δ M = some (true, M1) := by
  unfold tOrr; rw [h]
theorem an1 {f g : TF} {δ : Pl.Env} {M M1 : Mh} {r : Option (Bool × Mh)} (h : f δ M = some (true, M1)) (k : g δ M1 = r) : tAn f g δ M = r := by
  unfold tAn; rw [h]; exact k
theorem an0 {f g : TF} {δ : Pl.Env} {M M1 : Mh} (h : f δ M = some (false, M1)) : tAn f g δ M = some (false, M1) := by
  unfold tAn; rw [h]
theorem op_of {g : O2} {fa fb : EF} {δ : Pl.Env} {M M1 M2 : Mh} {a b : D} {r : Option (D × Mh)} (h1 : fa δ M = some (a, M1)) (h2 : fb δ M1 = some (b, M2)) (h3 : g a b M2 = r) : eOp g fa fb δ M = r := by
  unfold eOp; rw [h1]; dsimp only; rw [h2]; exact h3
theorem v_bl {f : EF} {δ : Pl.Env} {M M1 : Mh} {b : Bool} (h : f δ M = some (.bl b, M1)) : tV f δ M = some (b, M1) := by
  unfold tV; rw [h]
theorem nt_of {f : TF} {δ : Pl.Env} {M M1 : Mh} {b : Bool} (h : f δ M = some (b, M1)) : tNt f δ M = some (!b, M1) := by
  unfold tNt; rw [h]
theorem call_of {F : Fn} {g : AF} {dds ds : List D} {δ : Pl.Env} {M M1 : Mh} {r : Option (D × Mh)} (h : g δ M = some (ds, M1)) (k : F (ds ++ dds) M1 = r) : eCall F g dds δ M = r := by
  unfold eCall; rw [h]; exact k
theorem cons_of {f : EF} {g : AF} {δ : Pl.Env} {M M1 M2 : Mh} {d : D} {ds : List D} (h : f δ M = some (d, M1)) (k : g δ M1 = some (ds, M2)) : aCons f g δ M = some (d :: ds, M2) := by
  unfold aCons; rw [h]; dsimp only; rw [k]
end Law
namespace Law
open PySem L2 Pl
theorem c1 (a b : Rat) : cmpR a b = 0 - cmpR b a := by unfold cmpR; grind
theorem c2 (a b : Rat) : decide (cmpR a b = 0) = decide (a = b) := by unfold cmpR; grind
theorem c3 (a b c : Rat) : cmpR (a + c) (b + c) = cmpR a b := by unfold cmpR; grind
theorem c4 (a b : Rat) : cmpR (a - b) 0 = cmpR a b := by unfold cmpR; grind
theorem c6 (a b : Rat) (h : a < b) : ¬ (a + b) / 2 < a ∧ ¬ b < (a + b) / 2 ∧ (a + b) / 2 ≠ a ∧ (a + b) / 2 ≠ b := by grind
theorem c7 (a : Rat) : ¬ a < (a.floor : Rat) ∧ a < (a.floor : Rat) + 1 := by
  refine ⟨?_, ?_⟩
  · have := Rat.floor_le (a := a); grind
  · have := Rat.lt_floor (x := a); grind
theorem intC_of {C : Int → Int → Prop} [∀ i j, Decidable (C i j)] {f : Int → Int → D} {i j : Int} {M : Mh} (h : C i j) : gIntC C f (.int i) (.int j) M = some (f i j, M) := if_pos h
end Law
namespace Law
open PySem L2 Pl
/-- what draws are made by -/
def dk (l c t : Int) : MO := .dic [(.inr "left", .int l), (.inr "cell", .int c), (.inr "turns", .int t)]
theorem k1 : ¬ (("cell" : Str) = "left") := by decide +kernel
theorem k2 : ¬ (("turns" : Str) = "left") := by decide +kernel
theorem k3 : ¬ (("left" : Str) = "cell") := by decide +kernel
theorem k5 : ¬ (("left" : Str) = "turns") := by decide +kernel
theorem k6 : ¬ (("cell" : Str) = "turns") := by decide +kernel
section
variable {n : Nat} {l c t v : Int} {M : Mh}
theorem get_l (h : M[n]? = some (dk l c t)) : gDget (.ref n) (.str "left") M = some (.int l, M) := by
  simp [gDget, dicOf, h, dk, Pl.keyOf, Pl.dget]
theorem get_c (h : M[n]? = some (dk l c t)) : gDget (.ref n) (.str "cell") M = some (.int c, M) := by
  simp [gDget, dicOf, h, dk, Pl.keyOf, Pl.dget, List.find?, k3]
theorem get_t (h : M[n]? = some (dk l c t)) : gDget (.ref n) (.str "turns") M = some (.int t, M) := by
  simp [gDget, dicOf, h, dk, Pl.keyOf, Pl.dget, List.find?, k5, k6]
theorem put_l (h : M[n]? = some (dk l c t)) : gDput (.ref n) (.str "left") (.int v) M = some (M.set n (dk v c t)) := by
  simp [gDput, h, dk, Pl.keyOf, sizeLine, Pl.dput, k1, k2]
theorem put_t (h : M[n]? = some (dk l c t)) : gDput (.ref n) (.str "turns") (.int v) M = some (M.set n (dk l c v)) := by
  simp [gDput, h, dk, Pl.keyOf, sizeLine, Pl.dput, k5, k6]
theorem set_at {m m' : MO} (h : M[n]? = some m) : (M.set n m')[n]? = some m' := by
  have : n < M.length := (List.getElem?_eq_some_iff.mp h).1
  simp [this]
theorem put_of {f g h : EF} {δ : Pl.Env} {M1 M2 M3 M4 : Mh} {a b v : D} (h1 : h δ M = some (v, M1)) (h2 : f δ M1 = some (a, M2)) (h3 : g δ M2 = some (b, M3)) (h4 : gDput a b v M3 = some M4) : sDput f g h δ M = some (.nx δ M4) := by
  unfold sDput; rw [h1]; dsimp only; rw [h2]; dsimp only; rw [h3]; dsimp only; rw [h4]
theorem fm {a b : Int} (h : 0 < b) : 0 ≤ a.fmod b ∧ a.fmod b < b := ⟨Int.fmod_nonneg_of_pos _ h, Int.fmod_lt_of_pos _ h⟩
theorem mixed_ok {k : Int} (h0 : 0 ≤ k) (h1 : k < 2 ^ 60) : ∃ r : Int, ff_law_mixed [.int c, .int k] M = some (.int r, M) ∧ 0 ≤ r ∧ r < 2147483647 := by
  have hk := fm (a := k) (b := 4) (by decide)
  have ix : ∃ m : Int, gIx (.lst [.int 1000000007, .int 998244353, .int 2147483629, .int 1000000009]) (.int (k.fmod 4)) M = some (.int m, M) ∧ 0 < m ∧ m < 2 ^ 40 := by
    have : k.fmod 4 = 0 ∨ k.fmod 4 = 1 ∨ k.fmod 4 = 2 ∨ k.fmod 4 = 3 := by omega
    rcases this with e | e | e | e <;> rw [e]
    · exact ⟨1000000007, rfl, by decide, by decide⟩
    · exact ⟨998244353, rfl, by decide, by decide⟩
    · exact ⟨2147483629, rfl, by decide, by decide⟩
    · exact ⟨1000000009, rfl, by decide, by decide⟩
  obtain ⟨m, im, m0, m1⟩ := ix
  have hc := fm (a := c) m0
  have o1 : Pl.MulOk 7919 k := mulOk (a := 64) (b := 64) (by decide) (by omega) (by decide)
  have o2 : Pl.MulOk (c.fmod m + 7919 * k + 13) (c.fmod m + 7919 * k + 13) := mulOk (a := 100) (b := 100) (by omega) (by omega) (by decide)
  have h5 := fm (a := (c.fmod m + 7919 * k + 13) * (c.fmod m + 7919 * k + 13)) (b := 2147483647) (by decide)
  have o3 : Pl.MulOk (((c.fmod m + 7919 * k + 13) * (c.fmod m + 7919 * k + 13)).fmod 2147483647) 48271 := mulOk (a := 100) (b := 100) (by omega) (by decide) (by decide)
  have h6 := fm (a := ((c.fmod m + 7919 * k + 13) * (c.fmod m + 7919 * k + 13)).fmod 2147483647 * 48271) (b := 2147483647) (by decide)
  refine ⟨_, fn_rt ?_, h6.1, h6.2⟩
  show gg_law_mixed [some (.int c), some (.int k), none] M = _
  unfold gg_law_mixed
  refine seq_as (d := .int (c.fmod m + 7919 * k + 13)) (M1 := M) (δ' := [some (.int c), some (.int k), some (.int (c.fmod m + 7919 * k + 13))]) ?_ rfl ?_
  · exact op_of (op_of (op_of rfl (op_of (x_eLst (cons_of x_eC (cons_of x_eC (cons_of x_eC (cons_of x_eC x_aNil)))) (by simp)) (op_of rfl rfl (intC_of (by decide))) im) (intC_of (by omega))) (op_of rfl rfl (mul_int o1)) add_int) rfl add_int
  · exact ret_of (op_of (op_of (op_of (op_of rfl rfl (mul_int o2)) rfl (intC_of (by decide))) rfl (mul_int o3)) rfl (intC_of (by decide)))
/-- the draws' things stand there -/
def At (n : Nat) (B : Int) (M : Mh) : Prop := ∃ l c t : Int, M[n]? = some (dk l c t) ∧ 0 ≤ l ∧ 0 ≤ t ∧ t ≤ B
theorem fill_ok {t : Int} (h : M[n]? = some (dk 0 c t)) (h0 : 0 ≤ t) (h1 : t + 4 < 2 ^ 59) (x y z : Option D) : ∃ l' : Int, sFor (aRng1 (aCons (eC (.int 4)) aNil)) (gN 2) (sSeq (sDput (eVar 0) (eC (.str "turns")) (eOp gAdd (eOp gDget (eVar 0) (eC (.str "turns"))) (eC (.int 1)))) (sDput (eVar 0) (eC (.str "left")) (eOp gAdd (eOp gMul (eOp gDget (eVar 0) (eC (.str "left"))) (eC (.int 2147483647))) (eCall ff_law_mixed (aCons (eOp gDget (eVar 0) (eC (.str "cell"))) (aCons (eOp gDget (eVar 0) (eC (.str "turns"))) aNil)) [])))) [some (.ref n), x, y, z] M = some (.nx [some (.ref n), x, some (.int 3), z] (M.set n (dk l' c (t + 4)))) ∧ 0 ≤ l' := by
  have step : ∀ (l t : Int) (N : Mh) (y : Option D), N[n]? = some (dk l c t) → 0 ≤ t → t + 1 < 2 ^ 60 → 0 ≤ l → l < 2 ^ 200 → ∃ l' : Int, sSeq (sDput (eVar 0) (eC (.str "turns")) (eOp gAdd (eOp gDget (eVar 0) (eC (.str "turns"))) (eC (.int 1)))) (sDput (eVar 0) (eC (.str "left")) (eOp gAdd (eOp gMul (eOp gDget (eVar 0) (eC (.str "left"))) (eC (.int 2147483647))) (eCall ff_law_mixed (aCons (eOp gDget (eVar 0) (eC (.str "cell"))) (aCons (eOp gDget (eVar 0) (eC (.str "turns"))) aNil)) []))) [some (.ref n), x, y, z] N = some (.nx [some (.ref n), x, y, z] (N.set n (dk l' c (t + 1)))) ∧ 0 ≤ l' ∧ l' < l * 2147483647 + 2147483647 := fun l t N y hN t0 t1 l0 l1 => by
    have hN1 : (N.set n (dk l c (t + 1)))[n]? = some (dk l c (t + 1)) := set_at hN
    obtain ⟨r, hr, r0, r1⟩ := mixed_ok (c := c) (M := N.set n (dk l c (t + 1))) (k := t + 1) (by omega) (by omega)
    refine ⟨l * 2147483647 + r, ?_, by omega, by omega⟩
    have o : Pl.MulOk l 2147483647 := mulOk (a := 200) (b := 32) (by omega) (by decide) (by decide)
    have e2 : (N.set n (dk l c (t + 1))).set n (dk (l * 2147483647 + r) c (t + 1)) = N.set n (dk (l * 2147483647 + r) c (t + 1)) := List.set_set ..
    rw [← e2]
    exact seq_nx (put_of (op_of (op_of rfl rfl (get_t hN)) rfl add_int) rfl rfl (put_t hN)) (put_of (op_of (op_of (op_of rfl rfl (get_l hN1)) rfl (mul_int o)) (call_of (cons_of (op_of rfl rfl (get_c hN1)) (cons_of (op_of rfl rfl (get_t hN1)) x_aNil)) hr) add_int) rfl rfl (put_l hN1))
  obtain ⟨l1, s1, a1, b1⟩ := step 0 t M (some (.int 0)) h h0 (by omega) (by decide) (by decide)
  obtain ⟨l2, s2, a2, b2⟩ := step l1 (t + 1) _ (some (.int 1)) (set_at h) (by omega) (by omega) a1 (by omega)
  obtain ⟨l3, s3, a3, b3⟩ := step l2 (t + 1 + 1) _ (some (.int 2)) (set_at (set_at h)) (by omega) (by omega) a2 (by omega)
  obtain ⟨l4, s4, a4, b4⟩ := step l3 (t + 1 + 1 + 1) _ (some (.int 3)) (set_at (set_at (set_at h))) (by omega) (by omega) a3 (by omega)
  refine ⟨l4, ?_, a4⟩
  have er : aRng1 (aCons (eC (.int 4)) aNil) [some (.ref n), x, y, z] M = some ([.int 0, .int 1, .int 2, .int 3], M) := rfl
  unfold sFor
  rw [er]
  dsimp only [forGo, gN, List.set_cons_succ, List.set_cons_zero]
  rw [s1]
  dsimp only [forGo, gN, List.set_cons_succ, List.set_cons_zero]
  rw [s2]
  dsimp only [forGo, gN, List.set_cons_succ, List.set_cons_zero]
  rw [s3]
  dsimp only [forGo, gN, List.set_cons_succ, List.set_cons_zero]
  rw [s4]
  dsimp only [forGo]
  simp only [List.set_set]
  rw [show t + 1 + 1 + 1 + 1 = t + 4 by omega]
end
end Law
namespace Law
open PySem L2 Pl
theorem strOk_of {x : Str} (h : ∀ s ∈ TL.tl x, s < 1114112) : PyData.strOk x = true := by
  unfold PyData.strOk
  rw [Array.all_eq_true']
  intro c hc
  exact decide_eq_true (h c (by simpa using hc))
theorem eqv_str (x y : Str) : PyData.eqv (.str x) (.str y) = decide (x = y) := by
  by_cases h : x = y
  · subst h; simp [PyData.eqv]
  · rw [decide_eq_false h]; simp [PyData.eqv, h]
theorem str_sh {x : Str} (h : PyData.strOk x = true) : SeqAt.shaped (.str x) = true := by
  simp [SeqAt.shaped, PyData.canLay0, PyData.depth, h]
theorem ne_str {x y : Str} (hx : PyData.strOk x = true) (hy : PyData.strOk y = true) (M : Mh) : gEq (fun p q => !PyData.eqv p q) (.str x) (.str y) M = some (.bl (!decide (x = y)), M) := by
  simp only [gEq, toP, deref, str_sh hx, str_sh hy, Bool.and_self, if_true, eqv_str]
end Law
namespace Law
open PySem L2 Pl
theorem ints_of : ∀ ns : List Int, intsOf (ns.map D.int) = some ns
  | [] => rfl
  | n :: ns => by rw [List.map_cons, intsOf, ints_of ns]
end Law
namespace Law
open PySem L2 Pl
theorem t0 : TL.tl ("0" : Str) = [48] := by decide +kernel
end Law
namespace Law
open PySem L2 Pl
def optI : Option Int → D
  | none => .non
  | some n => .int n
/-- signs that a text may have -/
def SOk (x : Str) : Prop := ∀ s ∈ TL.tl x, s < 1114112
end Law
namespace Law
open PySem L2 Pl
theorem kit_ni : kitB "NoneType" "int" = some false := by decide +kernel
theorem whole_sp (u : Option Int) (M : Mh) : ff_is_whole [optI u] M = some (.bl u.isSome, M) := by
  cases u with
  | none => simp [ff_is_whole, gg_is_whole, fnF, startD, sRet, eAn, x_eB, x_aCons, x_aNil, x_eVar, x_eC, gIsi, tyN, optI, kit_ni]
  | some z => simp [ff_is_whole, gg_is_whole, fnF, startD, sRet, eAn, eNt, x_eB, x_aCons, x_aNil, x_eVar, x_eC, gIsi, tyN, optI, kit_ii, kit_ib]
def up : Option Nat → Option Int
  | none => none
  | some n => some (n : Int)
end Law
namespace Law
open PySem L2 Pl
theorem ei_tt {t : TF} {f g : EF} {δ : Pl.Env} {M M1 : Mh} {r : Option (D × Mh)} (h : t δ M = some (true, M1)) (k : f δ M1 = r) : eIf t f g δ M = r := by
  unfold eIf; rw [h]; exact k
theorem ei_ff {t : TF} {f g : EF} {δ : Pl.Env} {M M1 : Mh} {r : Option (D × Mh)} (h : t δ M = some (false, M1)) (k : g δ M1 = r) : eIf t f g δ M = r := by
  unfold eIf; rw [h]; exact k
end Law
namespace Law
open PySem L2 Pl
theorem set_ne {M : Mh} {n m : Nat} {x : MO} (h : m ≠ n) : (M.set n x)[m]? = M[m]? := List.getElem?_set_ne (Ne.symm h)
theorem digit_fr {n : Nat} {M : Mh} {B many : Int} (h : At n B M) (hB : B < 2 ^ 58) (m0 : 0 < many) (m1 : many < 2 ^ 200) : ∃ (f : Int) (M' : Mh), ff_law_digit [.ref n, .int many] M = some (.int f, M') ∧ At n (B + 4) M' ∧ 0 ≤ f ∧ f < many ∧ ∀ m, m ≠ n → M'[m]? = M[m]? := by
  obtain ⟨l, c, t, hM, l0, t0, tB⟩ := h
  have om : DivOk l many := dOk (by omega) (Nat.lt_of_lt_of_le (m := 2 ^ 200) (by omega) (Nat.pow_le_pow_right (by decide) (by decide)))
  have tail : ∀ (l t : Int) (N : Mh) (x : Option D), N[n]? = some (dk l c t) → 0 ≤ l → 0 ≤ t → t ≤ B + 4 → ∃ (f : Int) (M' : Mh), sSeq (sAs (eOp (gIntC (fun _ j => j ≠ 0) fun i j => .int (i.fmod j)) (eOp gDget (eVar 0) (eC (.str "left"))) (eVar 1)) (gN 3)) (sSeq (sDput (eVar 0) (eC (.str "left")) (eOp (gIntC DivOk fun i j => .int (i.fdiv j)) (eOp gDget (eVar 0) (eC (.str "left"))) (eVar 1))) (sRet (eVar 3))) [some (.ref n), some (.int many), x, none] N = some (.rt (.int f) M') ∧ At n (B + 4) M' ∧ 0 ≤ f ∧ f < many ∧ ∀ m, m ≠ n → M'[m]? = N[m]? := fun l t N x hN l0 t0 tB => by
    have om : DivOk l many := ⟨om.1, om.2⟩
    have hf := fm (a := l) m0
    refine ⟨l.fmod many, N.set n (dk (l.fdiv many) c t), ?_, ⟨l.fdiv many, c, t, set_at hN, ?_, t0, tB⟩, hf.1, hf.2, fun m hm => set_ne hm⟩
    · exact seq_as (M1 := N) (δ' := [some (.ref n), some (.int many), x, some (.int (l.fmod many))]) (op_of (op_of rfl rfl (get_l hN)) rfl (intC_of (by omega))) rfl (seq_nx (put_of (op_of (op_of rfl rfl (get_l hN)) rfl (intC_of om)) rfl rfl (put_l hN)) (ret_of rfl))
    · exact Int.fdiv_nonneg l0 (by omega)
  have tst : tV (eOp (gEq PyData.eqv) (eOp gDget (eVar 0) (eC (.str "left"))) (eC (.int 0))) [some (.ref n), some (.int many), none, none] M = some (decide (l = 0), M) := v_bl (op_of (op_of rfl rfl (get_l hM)) rfl (eq_int _ _ _))
  by_cases hl : l = 0
  · subst hl
    obtain ⟨l', e1, p1⟩ := fill_ok hM t0 (by omega) (some (.int many)) none none
    obtain ⟨f, M', e2, p2, p3, p4, p5⟩ := tail l' (t + 4) _ (some (.int 3)) (set_at hM) p1 (by omega) (by omega)
    refine ⟨f, M', fn_rt ?_, p2, p3, p4, fun m hm => (p5 m hm).trans (set_ne hm)⟩
    show gg_law_digit [some (.ref n), some (.int many), none, none] M = _
    unfold gg_law_digit
    exact seq_nx (if_tt (tst.trans (by rw [decide_eq_true rfl])) e1) e2
  · obtain ⟨f, M', e2, p2⟩ := tail l t M none hM l0 t0 (by omega)
    refine ⟨f, M', fn_rt ?_, p2⟩
    show gg_law_digit [some (.ref n), some (.int many), none, none] M = _
    unfold gg_law_digit
    exact seq_if0 (tst.trans (by rw [decide_eq_false hl])) e2
/-- a word that may come -/
def Wd? (x : Str) (n : Nat) : Prop := x.length ≤ n ∧ SOk x
end Law
namespace Law
open PySem L2 Pl
theorem an_of1 {f g : EF} {δ : Pl.Env} {M M1 : Mh} {r : Option (D × Mh)} (h : f δ M = some (.bl true, M1)) (k : g δ M1 = r) : eAn f g δ M = r := by
  unfold eAn; rw [h]; exact k
theorem an_of0 {f g : EF} {δ : Pl.Env} {M M1 : Mh} (h : f δ M = some (.bl false, M1)) : eAn f g δ M = some (.bl false, M1) := by
  unfold eAn; rw [h]
theorem par_e {i j : Nat} {f g : EF} {δ : Pl.Env} {M M1 M2 : Mh} {d e : D} (h : f δ M = some (d, M1)) (k : g δ M1 = some (e, M2)) : sPar i j f g δ M = some (.nx ((δ.set i (some d)).set j (some e)) M2) := by
  unfold sPar; rw [h]; dsimp only; rw [k]
end Law
namespace Law
open PySem L2 Pl
def AOk (x : Str) : Prop := ∀ s ∈ TL.tl x, s < 128
theorem AOk.s {x : Str} (h : AOk x) : SOk x := fun s hs => Nat.lt_trans (h s hs) (by decide)
theorem dgcA {n : Nat} {M : Mh} {B many : Int} {δ : Pl.Env} {i : Nat} {fm : EF} {M1 : Mh} (h0 : δ[i]? = some (some (.ref n))) (hm : fm δ M = some (.int many, M1)) (h : At n B M1) (hB : B < 2 ^ 58) (m0 : 0 < many) (m1 : many < 2 ^ 200) : ∃ (f : Int) (M' : Mh), eCall ff_law_digit (aCons (eVar i) (aCons fm aNil)) [] δ M = some (.int f, M') ∧ At n (B + 4) M' ∧ 0 ≤ f ∧ f < many ∧ ∀ m, m ≠ n → M'[m]? = M1[m]? := by
  obtain ⟨f, M', e, p⟩ := digit_fr h hB m0 m1
  exact ⟨f, M', call_of (cons_of (by rw [x_eVar, h0]) (cons_of hm x_aNil)) e, p⟩
theorem len1 : ∀ cs : List Nat, ((cs.map fun c => (⟨#[c]⟩ : Str)).map Str.length).sum = cs.length
  | [] => rfl
  | c :: cs => by
    rw [List.map_cons, List.map_cons, List.sum_cons, len1 cs, List.length_cons]
    show 1 + _ = _
    omega
end Law
namespace Law
open PySem L2 Pl
theorem Wd?.mono {x : Str} {n m : Nat} (h : Wd? x n) (l : n ≤ m) : Wd? x m := ⟨Nat.le_trans h.1 l, h.2⟩
end Law
namespace Law
open PySem L2 Pl
theorem joinL_mem (S : List Nat) : ∀ (ps : List (List Nat)), ∀ s ∈ TL.joinL S ps, s ∈ S ∨ ∃ p ∈ ps, s ∈ p
  | [], s, h => by cases h
  | [p], s, h => .inr ⟨p, List.mem_singleton.mpr rfl, h⟩
  | p :: q :: r, s, h => by
    rcases List.mem_append.mp (show s ∈ p ++ (S ++ TL.joinL S (q :: r)) from h) with z | z
    · exact .inr ⟨p, List.mem_cons_self, z⟩
    · rcases List.mem_append.mp z with z | z
      · exact .inl z
      · rcases joinL_mem S (q :: r) s z with z | ⟨u, hu, z⟩
        · exact .inl z
        · exact .inr ⟨u, List.mem_cons_of_mem _ hu, z⟩
end Law
namespace Law
open PySem L2 Pl Pl.Ev
/-- what repr and == can take -/
def Nz (n k : Nat) (d : D) : Prop := ∃ p, toP d = some p ∧ p.showable = true ∧ p.canLay0 = true ∧ p.depth ≤ k ∧ p.hasDict = false ∧ SOk p.shown ∧ p.shown.length ≤ n
theorem Nz.mono {n m k j : Nat} {d : D} (h : Nz n k d) (l : n ≤ m) (g : k ≤ j) : Nz m j d := by
  obtain ⟨p, a1, a2, a3, a4, a5, a6, a7⟩ := h
  exact ⟨p, a1, a2, a3, Nat.le_trans a4 g, a5, a6, Nat.le_trans a7 l⟩
/-- small letters alone, and few -/
def Low (x : Str) : Prop := x.length ≤ 20 ∧ ∀ s ∈ TL.tl x, 97 ≤ s ∧ s ≤ 122
theorem Low.s {x : Str} (h : Low x) : SOk x := fun s hs => by have := h.2 s hs; omega
theorem joins_ok : ∀ ps : List Str, (∀ t ∈ ps, SOk t) → SOk (Str.join ", " ps) := fun ps h s hs => by
  rw [TL.tl_join] at hs
  have e : TL.tl (", " : Str) = [44, 32] := by decide +kernel
  rw [e] at hs
  rcases joinL_mem _ _ s hs with z | ⟨p, hp, z⟩
  · simp only [List.mem_cons, List.not_mem_nil, or_false] at z
    omega
  · obtain ⟨t, ht, rfl⟩ := List.mem_map.mp hp
    exact h t ht s z
theorem nzs {n k : Nat} : ∀ L : List D, (∀ d ∈ L, Nz n k d) → ∃ ps, toPs L = some ps ∧ PyData.showableAll ps = true ∧ PyData.canLayAll0 ps = true ∧ PyData.depthAll ps ≤ k ∧ PyData.hasDictAll ps = false ∧ (∀ t ∈ PyData.shownAll ps, SOk t ∧ t.length ≤ n) ∧ (PyData.shownAll ps).length = L.length
  | [], _ => ⟨[], rfl, by simp [PyData.showableAll], by simp [PyData.canLayAll0], by simp [PyData.depthAll], by simp [PyData.hasDictAll], (fun t ht => by rw [PyData.shownAll] at ht; exact absurd ht (by simp)), (by rw [PyData.shownAll]; rfl)⟩
  | d :: L, h => by
    obtain ⟨p, e, a1, a2, a3, a4, a5, a6⟩ := h d List.mem_cons_self
    obtain ⟨ps, f, b1, b2, b3, b4, b5, b6⟩ := nzs L fun x hx => h x (List.mem_cons_of_mem _ hx)
    refine ⟨p :: ps, by rw [toPs, e, f], by rw [PyData.showableAll, a1, b1]; rfl, by rw [PyData.canLayAll0, a2, b2]; rfl, by rw [PyData.depthAll]; omega, by rw [PyData.hasDictAll, a4, b4]; rfl, fun t ht => ?_, ?_⟩
    · rw [PyData.shownAll] at ht
      rcases List.mem_cons.mp ht with z | z
      · rw [z]; exact ⟨a5, a6⟩
      · exact b5 t z
    · rw [PyData.shownAll, List.length_cons, List.length_cons, b6]
theorem sum_le {n : Nat} : ∀ ts : List Str, (∀ t ∈ ts, t.length ≤ n) → (ts.map (·.length)).sum ≤ ts.length * n
  | [], _ => by simp
  | t :: ts, h => by
    rw [List.map_cons, List.sum_cons, List.length_cons, Nat.add_mul]
    have := h t List.mem_cons_self
    have := sum_le ts fun u hu => h u (List.mem_cons_of_mem _ hu)
    omega
theorem nz_tup {n k : Nat} (c : Nat) {L : List D} (h : ∀ d ∈ L, Nz n k d) (hl : L.length ≤ c) : Nz (c * (n + 2) + 3) (k + 1) (.tup L) := by
  obtain ⟨ps, f, b1, b2, b3, b4, b5, b6⟩ := nzs L h
  refine ⟨.tuple ps, by rw [toP, f], by rw [PyData.showable, b1], by rw [PyData.canLay0, b2], by rw [PyData.depth]; omega, by rw [PyData.hasDict, b4], ?_, ?_⟩
  · rw [PyData.shown, tupleText]
    intro s hs
    rw [TL.tl_append, TL.tl_append] at hs
    rcases List.mem_append.mp hs with z | z
    · rcases List.mem_append.mp z with z | z
      · have e : TL.tl ("(" : Str) = [40] := by decide +kernel
        rw [e] at z
        have := List.mem_singleton.mp z
        omega
      · exact joins_ok _ (fun t ht => (b5 t ht).1) s z
    · split at z
      · have e : TL.tl (Str.ofString ",)") = [44, 41] := by decide +kernel
        rw [e] at z
        simp only [List.mem_cons, List.not_mem_nil, or_false] at z
        omega
      · have e : TL.tl (Str.ofString ")") = [41] := by decide +kernel
        rw [e] at z
        have := List.mem_singleton.mp z
        omega
  · rw [PyData.shown]
    have h1 := PySem.tupleText_len_le (PyData.shownAll ps)
    have h2 := sum_le (n := n) (PyData.shownAll ps) fun t ht => (b5 t ht).2
    have h3 : (PyData.shownAll ps).length * n ≤ c * n := Nat.mul_le_mul_right _ (by omega)
    rw [Nat.mul_add]
    omega
theorem nz_repr {n k : Nat} {d : D} (h : Nz n k d) (hn : n ≤ 10000000) (hk : k ≤ 20) (nr : ∀ M, deref M d = d) : ∃ s : Str, PyData.strOk s = true ∧ ∀ M, gRepr [d] M = some (.str s, M) := by
  obtain ⟨p, a1, a2, a3, a4, a5, a6, a7⟩ := h
  refine ⟨p.shown, strOk_of a6, fun M => ?_⟩
  have ok : reprOk p = true := by
    have s1 : SeqAt.shaped p = true := by
      unfold SeqAt.shaped
      rw [a3, decide_eq_true (by omega)]; rfl
    have l3 : p.shown.length ≤ sizeLine := Nat.le_trans (Nat.le_trans a7 hn) (by decide)
    simp [reprOk, s1, a2, a5, l3]
  unfold gRepr
  dsimp only
  rw [nr, a1]
  dsimp only
  rw [if_pos ok]
end Law
namespace Law
open PySem L2 Pl Pl.Ev
theorem isi_of {f : EF} {δ : Pl.Env} {M : Mh} {d : D} {t n : String} {b : Bool} (h : f δ M = some (d, M)) (ht : tyN M d = some t) (k : kitB t n = some b) : eB gIsi (aCons f (aCons (eC (.ty n)) aNil)) δ M = some (.bl b, M) := by
  rw [x_eB, cons_of h (cons_of x_eC x_aNil)]
  simp [gIsi, ht, k]
inductive Kd | n | a | z | v | f
def Kd.c : Kd → Nat
  | .n => 110
  | .a => 97
  | .z => 122
  | .v => 118
  | .f => 102
end Law
namespace Law
open PySem L2 Pl Pl.Ev
/-- a word that may be read -/
def Wk? (x : Str) : Prop := x.length ≤ 100000 ∧ SOk x
theorem Wk?.l {x : Str} (h : Wk? x) : x.length ≤ 1000000 := Nat.le_trans h.1 (by decide)
theorem set_end {M : Mh} {a b : MO} : (M ++ [a]).set M.length b = M ++ [b] := by
  rw [List.set_append_right _ _ (Nat.le_refl _)]
  simp
theorem at_end {M : Mh} {a : MO} : (M ++ [a])[M.length]? = some a := by simp
end Law
namespace Law
open PySem L2 Pl Pl.Ev
theorem app_l {A B : List D} {M : Mh} (h : A.length + B.length ≤ 1000) : gAdd (.lst A) (.lst B) M = some (.lst (A ++ B), M) := if_pos (Nat.le_trans h (by decide))
end Law
namespace Law
open PySem L2 Pl Pl.Ev
/-- read and due: the same text -/
theorem nz_deref {n k : Nat} {d : D} (h : Nz n k d) : ∀ M, deref M d = d := fun M => by
  obtain ⟨p, e, _⟩ := h
  cases d with
  | ref m => simp [toP] at e
  | _ => rfl
theorem reprs_eq {n k : Nat} {d : D} {f g : EF} {δ : Pl.Env} {M M1 M2 : Mh} (hd : Nz n k d) (hn : n ≤ 10000000) (hk : k ≤ 20) (h1 : f δ M = some (d, M1)) (h2 : g δ M1 = some (d, M2)) :
    tV (eOp (gEq fun p q => !PyData.eqv p q) (eB gRepr (aCons f aNil)) (eB gRepr (aCons g aNil))) δ M = some (false, M2) := by
  obtain ⟨s, so, e⟩ := nz_repr hd hn hk (nz_deref hd)
  refine v_bl (op_of (a := .str s) (b := .str s) (M1 := M1) (M2 := M2) ?_ ?_ ((ne_str so so _).trans (by rw [decide_eq_true rfl]; rfl)))
  · rw [x_eB, cons_of h1 x_aNil]; exact e _
  · rw [x_eB, cons_of h2 x_aNil]; exact e _
end Law
namespace Law
open PySem L2 Pl Pl.Ev
theorem Low.w {x : Str} (h : Low x) : Wk? x := ⟨Nat.le_trans h.1 (by decide), h.s⟩
end Law
namespace Law
open PySem L2 Pl Pl.Ev
theorem Wk?.h {x : Str} (h : Wk? x) : x.length ≤ 500000 := Nat.le_trans h.1 (by decide)
end Law
namespace Law
open PySem L2 Pl Pl.Ev
/-- what stands elsewhere stays -/
def Fr (n : Nat) (M M' : Mh) : Prop := ∀ m, m ≠ n → M'[m]? = M[m]?
theorem Fr.refl (n : Nat) (M : Mh) : Fr n M M := fun _ _ => rfl
theorem Fr.trans {n : Nat} {M M1 M2 : Mh} (a : Fr n M M1) (b : Fr n M1 M2) : Fr n M M2 := fun m h => (b m h).trans (a m h)
theorem At.up {n : Nat} {B C : Int} {M : Mh} (h : At n B M) (l : B ≤ C) : At n C M := by
  obtain ⟨a, b, c, e, h1, h2, h3⟩ := h
  exact ⟨a, b, c, e, h1, h2, by omega⟩
theorem At.lt {n : Nat} {B : Int} {M : Mh} (h : At n B M) : n < M.length := by
  obtain ⟨a, b, c, e, h1, h2, h3⟩ := h
  exact (List.getElem?_eq_some_iff.mp e).1
theorem At.apps {n : Nat} {B : Int} {M : Mh} (h : At n B M) (l : List MO) : At n B (M ++ l) := by
  have lt := h.lt
  obtain ⟨a, b, c, e, h1, h2, h3⟩ := h
  exact ⟨a, b, c, by rw [List.getElem?_append_left lt]; exact e, h1, h2, h3⟩
theorem At.set {n j : Nat} {B : Int} {M : Mh} {m : MO} (h : At n B M) (hj : j ≠ n) : At n B (M.set j m) := by
  obtain ⟨a, b, c, e, h1, h2, h3⟩ := h
  exact ⟨a, b, c, by rw [set_ne (Ne.symm hj)]; exact e, h1, h2, h3⟩
theorem dgE {n : Nat} {M : Mh} {B many : Int} {δ : Pl.Env} {i : Nat} {fm : EF} (h0 : δ[i]? = some (some (.ref n))) (hm : fm δ M = some (.int many, M)) (h : At n B M) (hB : B < 2 ^ 57) (m0 : 0 < many) (m1 : many ≤ 1000000) :
    ∃ (f : Nat) (M' : Mh), eCall ff_law_digit (aCons (eVar i) (aCons fm aNil)) [] δ M = some (.int f, M') ∧ At n (B + 4) M' ∧ (f : Int) < many ∧ Fr n M M' := by
  obtain ⟨f, M', e, p1, p2, p3, p4⟩ := dgcA h0 hm h (by omega) m0 (Int.lt_of_le_of_lt m1 (by decide))
  have : ((f.toNat : Nat) : Int) = f := Int.toNat_of_nonneg p2
  exact ⟨f.toNat, M', by rw [this]; exact e, p1, by omega, p4⟩
theorem atI_nat {α : Type} {xs : List α} {k : Nat} {x : α} (h : xs[k]? = some x) : atI xs (k : Int) = some x := by
  have hl := (List.getElem?_eq_some_iff.mp h).1
  unfold atI ixN
  rw [if_pos (by omega), if_pos (by omega)]
  simpa using h
end Law
namespace Law
open PySem L2 Pl Pl.Ev
theorem cut_mem {W : List Str} {lo hi : Option Int} : (∀ x ∈ cutD W lo hi, x ∈ W) ∧ (cutD W lo hi).length ≤ W.length := by
  unfold cutD
  refine ⟨fun x h => List.mem_of_mem_drop (List.mem_of_mem_take h), ?_⟩
  rw [List.length_take, List.length_drop]
  omega
end Law
namespace Law
open PySem L2 Pl Pl.Ev
theorem Low.h {x : Str} (h : Low x) : x.length ≤ 4000 := Nat.le_trans h.1 (by decide)
end Law
namespace Law
open PySem L2 Pl Pl.Ev
def fitI (r : Int × Int) : Option Int → Bool
  | none => false
  | some i => decide (r.1 ≤ i) && decide (i ≤ r.2)
theorem among_sp (u : Option Int) (lo hi : Int) (M : Mh) : ff_is_among [optI u, .int lo, .int hi] M = some (.bl (fitI (lo, hi) u), M) := by
  refine fn_rt ?_
  show gg_is_among [some (optI u), some (.int lo), some (.int hi)] M = _
  unfold gg_is_among
  have w : ∀ (i : Nat) (v : Option Int), ([some (optI u), some (D.int lo), some (D.int hi)] : Pl.Env)[i]? = some (some (optI v)) → tNt (tV (eCall ff_is_whole (aCons (eVar i) aNil) [])) [some (optI u), some (.int lo), some (.int hi)] M = some (!v.isSome, M) := fun i v h => nt_of (v_bl (call_of (cons_of (var_ h) x_aNil) (whole_sp v M)))
  cases u with
  | none => exact seq_if1 (M1 := M) (or1 (w 0 none rfl)) (ret_of rfl)
  | some i =>
    refine seq_if0 (M1 := M) (or0 (M1 := M) (w 0 (some i) rfl) (or0 (M1 := M) (w 1 (some lo) rfl) (w 2 (some hi) rfl))) (ret_of (chain_ (x := decide (lo ≤ i)) rfl rfl rfl ?_))
    show _ = some (D.bl (decide (lo ≤ i) && decide (i ≤ hi)), M)
    cases decide (lo ≤ i) <;> rfl
def lim (k : Str) : Int × Int := if k = "side" then (1, 4) else if k = "length" then (1, 6) else if k = "height" then (0, 5) else (-3, 7)
end Law
namespace Law
open PySem L2 Pl Pl.Ev
def wt (W : List Str) : Nat := (W.map fun y => y.length + 1).sum
theorem wt_len : ∀ W : List Str, W.length ≤ wt W
  | [] => Nat.le_refl _
  | z :: W => by
    have := wt_len W
    unfold wt at this ⊢
    rw [List.map_cons, List.sum_cons, List.length_cons]
    omega
theorem wt_app (A B : List Str) : wt (A ++ B) = wt A + wt B := by
  unfold wt
  rw [List.map_append, List.sum_append]
theorem wt_td (W : List Str) (i j : Nat) : wt ((W.drop i).take j) ≤ wt W := by
  have h1 : wt W = wt (W.take i) + wt (W.drop i) := by rw [← wt_app, List.take_append_drop]
  have h2 : wt (W.drop i) = wt ((W.drop i).take j) + wt ((W.drop i).drop j) := by rw [← wt_app, List.take_append_drop]
  omega
theorem wt_cut (W : List Str) (lo hi : Option Int) : wt (cutD W lo hi) ≤ wt W := by
  unfold cutD
  exact wt_td _ _ _
/-- a text that is not too long -/
def Tx (n : Nat) (x : Str) : Prop := x.length ≤ n ∧ SOk x
def Txs (n : Nat) (W : List Str) : Prop := wt W ≤ n ∧ ∀ y ∈ W, SOk y
theorem Txs.len {n : Nat} {W : List Str} (h : Txs n W) : W.length ≤ n := Nat.le_trans (wt_len W) h.1
theorem Txs.cut {n : Nat} {W : List Str} (h : Txs n W) (lo hi : Option Int) : Txs n (cutD W lo hi) := ⟨Nat.le_trans (wt_cut _ _ _) h.1, fun y hy => h.2 y (cut_mem.1 y hy)⟩
theorem Txs.mono {n m : Nat} {W : List Str} (h : Txs n W) (l : n ≤ m) : Txs m W := ⟨Nat.le_trans h.1 l, h.2⟩
theorem Tx.mono {n m : Nat} {x : Str} (h : Tx n x) (l : n ≤ m) : Tx m x := ⟨Nat.le_trans h.1 l, h.2⟩
end Law
namespace Law
open PySem L2 Pl Pl.Ev
def kinds (z : Str) : Option (List Str) := if z = "tool" then some ["side", "length"] else if z = "go" then some ["place", "place"] else if z = "down" then some ["height"] else if z = "cut" then some ["place", "place"] else if z = "up" then some [] else none
end Law
namespace Law
open PySem L2 Pl Pl.Ev
theorem app_mid {M l : Mh} {xs : List D} {d : D} {f : EF} {q : AF} {δ : Pl.Env} (h1 : f δ (M ++ (.lst xs :: l)) = some (.ref M.length, M ++ (.lst xs :: l))) (h2 : q δ (M ++ (.lst xs :: l)) = some ([d], M ++ (.lst xs :: l))) (hl : xs.length < 1000) : eMeth2 gApp f q δ (M ++ (.lst xs :: l)) = some (.non, M ++ (.lst (xs ++ [d]) :: l)) := by
  have g : (M ++ (MO.lst xs :: l))[M.length]? = some (.lst xs) := by simp
  unfold eMeth2
  rw [h1]
  dsimp only
  have : (lstOf (M ++ (MO.lst xs :: l)) (.ref M.length)).isSome = true := by
    unfold lstOf
    dsimp only
    rw [g]
    rfl
  rw [if_pos this, h2]
  dsimp only
  unfold gApp
  dsimp only
  rw [g]
  dsimp only
  rw [if_pos (Nat.lt_of_lt_of_le hl (by decide))]
  simp
theorem nz_lst {n k : Nat} (c : Nat) {L : List D} (h : ∀ d ∈ L, Nz n k d) (hl : L.length ≤ c) : Nz (c * (n + 2) + 3) (k + 1) (.lst L) := by
  obtain ⟨ps, f, b1, b2, b3, b4, b5, b6⟩ := nzs L h
  refine ⟨.list ps, by rw [toP, f], by rw [PyData.showable, b1], by rw [PyData.canLay0, b2], by rw [PyData.depth]; omega, by rw [PyData.hasDict, b4], ?_, ?_⟩
  · rw [PyData.shown, PySem.listText_eq_join]
    intro s hs
    rw [TL.tl_append, TL.tl_append] at hs
    rcases List.mem_append.mp hs with z | z
    · rcases List.mem_append.mp z with z | z
      · have e : TL.tl ("[" : Str) = [91] := by decide +kernel
        rw [e] at z
        have := List.mem_singleton.mp z
        omega
      · exact joins_ok _ (fun t ht => (b5 t ht).1) s z
    · have e : TL.tl ("]" : Str) = [93] := by decide +kernel
      rw [e] at z
      have := List.mem_singleton.mp z
      omega
  · rw [PyData.shown]
    have h1 := PySem.listText_len_le (PyData.shownAll ps)
    have h2 := sum_le (n := n) (PyData.shownAll ps) fun t ht => (b5 t ht).2
    have h3 : (PyData.shownAll ps).length * n ≤ c * n := Nat.mul_le_mul_right _ (by omega)
    rw [Nat.mul_add]
    omega
end Law
namespace Law
open PySem L2 Pl Pl.Ev
def Sml (i : Int) : Prop := -3 ≤ i ∧ i ≤ 7
def mnsT (i : Int) : Str := if i < 0 then "-" else ""
def figT (i : Int) : Str := ⟨#[48 + i.natAbs]⟩
def rowT (z : Str) : List Int → Str
  | [] => z
  | i :: L => rowT (z ++ " " ++ mnsT i ++ figT i) L
theorem tB : TL.tl (" " : Str) = [32] := by decide +kernel
def fitL : List (Int × Int) → List Int → Bool
  | [], [] => true
  | r :: R, i :: L => fitI r (some i) && fitL R L
  | _, _ => false
theorem lim_sml {k : Str} {i : Int} (h : fitI (lim k) (some i) = true) : Sml i := by
  unfold fitI lim at h
  unfold Sml
  simp only [Bool.and_eq_true, decide_eq_true_eq] at h
  split at h
  · dsimp only at h; omega
  split at h
  · dsimp only at h; omega
  split at h
  · dsimp only at h; omega
  · dsimp only at h; omega
theorem fitL_sml : ∀ {K : List Str} {L : List Int}, fitL (K.map lim) L = true → (∀ i ∈ L, Sml i) ∧ L.length = K.length
  | [], [], _ => ⟨fun i h => (by cases h), rfl⟩
  | [], i :: L, h => by cases h
  | k :: K, [], h => by cases h
  | k :: K, i :: L, h => by
    rw [List.map_cons, fitL, Bool.and_eq_true] at h
    obtain ⟨a, b⟩ := fitL_sml h.2
    refine ⟨fun j hj => ?_, by rw [List.length_cons, List.length_cons, b]⟩
    rcases List.mem_cons.mp hj with e | hj
    · rw [e]; exact lim_sml h.1
    · exact a j hj
structure StepV (z : Str) (L : List Int) (K : List Str) : Prop where
  k : kinds z = some K
  f : fitL (K.map lim) L = true
theorem StepV.len {z : Str} {L : List Int} {K : List Str} (h : StepV z L K) : L.length = K.length := (fitL_sml h.f).2
def stD (z : Str) (L : List Int) : D := .tup (.str z :: L.map D.int)
end Law
namespace Law
open PySem L2 Pl Pl.Ev
/-- a step, its word and numbers -/
structure St where
  z : Str
  L : List Int
  K : List Str
  ok : StepV z L K
def St.d (s : St) : D := stD s.z s.L
def St.r (s : St) : Str := rowT s.z s.L
end Law
namespace Law
open PySem L2 Pl Pl.Ev
/-- a part: a whole number, None or a truth value -/
def toI : D → Option Int
  | .int i => some i
  | _ => none
def fitBs : List Str → List D → List Bool
  | k :: K, d :: ds => fitI (lim k) (toI d) :: fitBs K ds
  | _, _ => []
theorem bs_D : ∀ bs : List Bool, bsOf (bs.map D.bl) = some bs
  | [] => rfl
  | b :: bs => by
    rw [List.map_cons, bsOf, bs_D bs]
    try rfl
def areB (K : List Str) (ds : List D) : Bool := decide (ds.length = K.length) && (fitBs K ds).all id
def isB : D → Bool
  | .tup (.str z :: xs) => (match kinds z with
    | some K => areB K xs
    | none => false)
  | _ => false
theorem ix0_t {d : D} {xs : List D} {M : Mh} : gIx (.tup (d :: xs)) (.int 0) M = some (d, M) := by
  simp [gIx, L2.atI, L2.ixN]
theorem fitBs_all : ∀ {K : List Str} {L : List Int}, fitL (K.map lim) L = true → (fitBs K (L.map D.int)).all id = true
  | [], [], _ => rfl
  | [], i :: L, h => by cases h
  | k :: K, [], h => by cases h
  | k :: K, i :: L, h => by
    rw [List.map_cons, fitL, Bool.and_eq_true] at h
    rw [List.map_cons, fitBs, List.all_cons, fitBs_all h.2, Bool.and_true]
    exact h.1
theorem St.is (s : St) : isB s.d = true := by
  show (match kinds s.z with
    | some K => areB K (s.L.map D.int)
    | none => false) = true
  rw [s.ok.k]
  dsimp only
  unfold areB
  rw [fitBs_all s.ok.f, List.length_map, decide_eq_true s.ok.len]
  rfl
end Law
namespace Law
open PySem L2 Pl Pl.Ev
def enumX : Nat → List D → List D
  | _, [] => []
  | j, x :: xs => .tup [.int (j : Nat), x] :: enumX (j + 1) xs
theorem enumX_sp : ∀ (W : List D) (j : Nat), ((((List.range' j W.length).map fun (i : Nat) => D.int i).zip W).map fun p => D.tup [p.1, p.2]) = enumX j W
  | [], _ => rfl
  | x :: W, j => by
    rw [List.length_cons, List.range'_succ, List.map_cons, List.zip_cons_cons, List.map_cons, enumX_sp W (j + 1)]
    rfl
theorem enumT_of {W : List D} {f : EF} {δ : Pl.Env} {M M1 : Mh} (h : f δ M = some (.tup W, M1)) : aEnumT (aCons f aNil) δ M = some (enumX 0 W, M1) := by
  unfold aEnumT
  rw [cons_of h x_aNil]
  dsimp only
  rw [List.range_eq_range', enumX_sp]
theorem fnN_ {n : Nat} {g : SF} {ds : List D} {M M1 : Mh} {δ' : Pl.Env} (h : g (startD n ds) M = some (.nx δ' M1)) : fnF n g ds M = some (.non, M1) := by
  unfold fnF; rw [h]
end Law
namespace Law
open PySem L2 Pl Pl.Ev
structure Az (T : MO) (n : Nat) (B : Int) (M : Mh) : Prop where
  a : At n B M
  ne : n ≠ 0
  z : M[0]? = some T
theorem Az.up {T : MO} {n : Nat} {B C : Int} {M : Mh} (h : Az T n B M) (l : B ≤ C) : Az T n C M := ⟨h.a.up l, h.ne, h.z⟩
theorem Az.apps {T : MO} {n : Nat} {B : Int} {M : Mh} (h : Az T n B M) (l : List MO) : Az T n B (M ++ l) := ⟨h.a.apps l, h.ne, by rw [List.getElem?_append_left (List.getElem?_eq_some_iff.mp h.z).1]; exact h.z⟩
end Law
namespace Law
open PySem L2 Pl Pl.Ev
theorem draw_X {M : Mh} {cell : Int} {k : Int} (k0 : 0 ≤ k) (k1 : k ≤ 1000) : ∃ m, ff_law_draw [.int cell, .int k] M = some (.ref M.length, M ++ [m]) ∧ At M.length 1000000 (M ++ [m]) := by
  have o : Pl.MulOk 1000 k := mulOk (a := 64) (b := 64) (by decide) (by omega) (by decide)
  have p18 : eOp (gIntC PowOk fun i j => .int (i ^ j.toNat)) (eC (.int 10)) (eC (.int 18)) [some (.int cell), some (.int k)] M = some (.int (10 ^ 18), M) := op_of rfl rfl (intC_of (by decide))
  have lf : ∃ l : Int, 0 ≤ l ∧ eIf (tV (eOp (gInt fun i j => .bl (decide (j ≤ i))) (eVar 0) (eOp (gIntC PowOk fun i j => .int (i ^ j.toNat)) (eC (.int 10)) (eC (.int 18))))) (eVar 0) (eC (.int 0)) [some (.int cell), some (.int k)] M = some (.int l, M) := by
    have tst : tV (eOp (gInt fun i j => .bl (decide (j ≤ i))) (eVar 0) (eOp (gIntC PowOk fun i j => .int (i ^ j.toNat)) (eC (.int 10)) (eC (.int 18)))) [some (.int cell), some (.int k)] M = some (decide (10 ^ 18 ≤ cell), M) := v_bl (op_of rfl p18 rfl)
    by_cases hc : (10 ^ 18 : Int) ≤ cell
    · refine ⟨cell, by omega, ?_⟩
      unfold eIf
      rw [tst, decide_eq_true hc]; rfl
    · refine ⟨0, by omega, ?_⟩
      unfold eIf
      rw [tst, decide_eq_false hc]; rfl
  obtain ⟨l, l0, el⟩ := lf
  refine ⟨dk l cell (1000 * k), fn_rt ?_, ⟨l, cell, 1000 * k, by simp, l0, by omega, by omega⟩⟩
  show gg_law_draw [some (.int cell), some (.int k)] M = _
  unfold gg_law_draw
  refine ret_of ?_
  have pc : ∀ {f g : EF} {h : Pl.Env → Mh → Option (List (Key × D) × Mh)} {δ : Pl.Env} {a v : D} {q : Key} {r : List (Key × D)}, f δ M = some (a, M) → g δ M = some (v, M) → Pl.keyOf a = some q → h δ M = some (r, M) → psCons f g h δ M = some ((q, v) :: r, M) := fun h1 h2 h3 h4 => by
    unfold psCons; rw [h1]; dsimp only; rw [h2]; dsimp only; rw [h3]; dsimp only; rw [h4]
  have e := pc (f := eC (.str "left")) rfl el rfl (pc (f := eC (.str "cell")) (g := eVar 0) rfl rfl rfl (pc (f := eC (.str "turns")) (g := eOp gMul (eC (.int 1000)) (eVar 1)) rfl (op_of rfl rfl (mul_int o)) rfl (h := psNil) rfl))
  unfold eDic
  rw [e]
  have dm : dmerge [(.inr "left", .int l), (.inr "cell", .int cell), (.inr "turns", .int (1000 * k))] = [((.inr "left" : Key), D.int l), (.inr "cell", .int cell), (.inr "turns", .int (1000 * k))] := by
    simp [dmerge, Pl.dput, k3, k5, k6]
  show (if _ then some (D.ref M.length, M ++ [MO.dic (dmerge _)]) else none) = _
  rw [dm]
  rfl
end Law
namespace Law
open PySem L2 Pl Pl.Ev
/-- the whole numbers from a up to b -/
def zr (a b : Int) : List Int := (List.range (b - a).toNat).map fun (n : Nat) => a + (n : Int)
theorem zr_rng (a b : Int) : rng a b = (zr a b).map D.int := by
  unfold rng zr
  rw [List.map_map]
  rfl
theorem zr_mem {a b i : Int} : i ∈ zr a b ↔ a ≤ i ∧ i < b := by
  unfold zr
  rw [List.mem_map]
  constructor
  · rintro ⟨n, hn, rfl⟩
    have := List.mem_range.mp hn
    omega
  · rintro ⟨h1, h2⟩
    exact ⟨(i - a).toNat, List.mem_range.mpr (by omega), by omega⟩
theorem zr_len (a b : Int) : (zr a b).length = (b - a).toNat := by unfold zr; simp
theorem zr_nil {a b : Int} (h : b ≤ a) : zr a b = [] := by
  unfold zr
  rw [show (b - a).toNat = 0 by omega]
  rfl
theorem zr_cons {a b : Int} (h : a < b) : zr a b = a :: zr (a + 1) b := by
  unfold zr
  rw [show (b - a).toNat = (b - (a + 1)).toNat + 1 by omega, List.range_succ_eq_map, List.map_cons, List.map_map]
  congr 1
  · omega
  · refine List.map_congr_left fun n _ => ?_
    show a + ((n + 1 : Nat) : Int) = a + 1 + (n : Int)
    omega
/-- those of a range that lie within another -/
theorem zr_filter (c d : Int) : ∀ (n : Nat) (a b : Int), (b - a).toNat = n → (zr a b).filter (fun i => decide (c ≤ i) && decide (i < d)) = zr (if c > a then c else a) (if d < b then d else b)
  | 0, a, b, h => by
    rw [zr_nil (a := a) (b := b) (by omega), List.filter_nil, zr_nil]
    split <;> split <;> omega
  | n + 1, a, b, h => by
    have ih := zr_filter c d n (a + 1) b (by omega)
    rw [zr_cons (a := a) (b := b) (by omega), List.filter_cons]
    by_cases h1 : c ≤ a
    · by_cases h2 : a < d
      · rw [decide_eq_true h1, decide_eq_true h2]
        simp only [Bool.and_self, if_true]
        rw [ih]
        have e1 : (if c > a then c else a) = a := if_neg (by omega)
        have e2 : (if c > a + 1 then c else a + 1) = a + 1 := if_neg (by omega)
        rw [e1, e2, ← zr_cons]
        split <;> omega
      · rw [decide_eq_false h2]
        simp only [Bool.and_false, Bool.false_eq_true, if_false]
        rw [ih, zr_nil (a := if c > a + 1 then c else a + 1), zr_nil]
        · split <;> split <;> omega
        · split <;> split <;> omega
    · rw [decide_eq_false h1]
      simp only [Bool.false_and, Bool.false_eq_true, if_false]
      rw [ih]
      have e1 : (if c > a then c else a) = c := if_pos (by omega)
      have e2 : (if c > a + 1 then c else a + 1) = c := by split <;> omega
      rw [e1, e2]
def prod (A B : List Int) : List (Int × Int) := A.flatMap fun i => B.map fun j => (i, j)
def cellD (p : Int × Int) : D := .tup [.int p.1, .int p.2]
theorem prod_cons (i : Int) (A B : List Int) : prod (i :: A) B = (B.map fun j => (i, j)) ++ prod A B := by unfold prod; rw [List.flatMap_cons]
theorem prod_mem {A B : List Int} {p : Int × Int} : p ∈ prod A B ↔ p.1 ∈ A ∧ p.2 ∈ B := by
  unfold prod
  rw [List.mem_flatMap]
  constructor
  · rintro ⟨i, hi, h⟩
    obtain ⟨j, hj, rfl⟩ := List.mem_map.mp h
    exact ⟨hi, hj⟩
  · rintro ⟨h1, h2⟩
    exact ⟨p.1, h1, List.mem_map.mpr ⟨p.2, h2, rfl⟩⟩
theorem prod_len (A B : List Int) : (prod A B).length = A.length * B.length := by
  induction A with
  | nil => simp [prod]
  | cons i A ih => rw [prod_cons, List.length_append, List.length_map, ih, List.length_cons, Nat.succ_mul]; omega
theorem prod_filter (f g : Int → Bool) (A B : List Int) : (prod A B).filter (fun p => f p.1 && g p.2) = prod (A.filter f) (B.filter g) := by
  induction A with
  | nil => rfl
  | cons i A ih =>
    rw [prod_cons, List.filter_append, ih, List.filter_cons]
    have e : (B.map fun j => (i, j)).filter (fun p => f p.1 && g p.2) = if f i then (B.filter g).map fun j => (i, j) else [] := by
      rw [List.filter_map]
      cases hf : f i with
      | true =>
        rw [if_pos rfl]
        simp [Function.comp_def, hf]
      | false =>
        rw [if_neg (by decide)]
        simp [Function.comp_def, hf]
    rw [e]
    cases f i with
    | true => rw [if_pos rfl, if_pos rfl, prod_cons]
    | false => rw [if_neg (by decide), if_neg (by decide), List.nil_append]
/-- two fors over whole numbers -/
theorem lc2_prod {u v : Nat} {a1 : AF} {B : List Int} {δ : Pl.Env} {M : Mh} {e : EF} (hu : u < δ.length) (hv : v < δ.length) (hb : ∀ i : Int, a1 (δ.set u (some (.int i))) M = some (B.map D.int, M)) (he : ∀ i j : Int, e (((δ.set u (some (.int i))).set v none).set v (some (.int j))) M = some (cellD (i, j), M)) :
    ∀ A : List Int, lcGo2 (gN u) tTrue a1 [v] (gN v) tTrue e (A.map D.int) δ M = some ((prod A B).map cellD, M)
  | [] => rfl
  | i :: A => by
    have inner : ∀ B : List Int, lcGo (gN v) tTrue e (B.map D.int) ((δ.set u (some (.int i))).set v none) M = some ((B.map fun j => (i, j)).map cellD, M) := by
      intro B
      induction B with
      | nil => exact lcN_
      | cons j B ih =>
        rw [List.map_cons, List.map_cons, List.map_cons]
        exact lcC_ (x := true) (M1 := M) (δ1 := ((δ.set u (some (.int i))).set v none).set v (some (.int j))) rfl tt_ (lcY_ (p := gN v) (t := tTrue) (ds := B.map D.int) (δ := (δ.set u (some (.int i))).set v none) (δ1 := ((δ.set u (some (.int i))).set v none).set v (some (.int j))) (he i j) ih)
    rw [List.map_cons]
    unfold lcGo2
    rw [show gN u (.int i) δ = some (δ.set u (some (.int i))) from rfl]
    dsimp only
    rw [show tTrue (δ.set u (some (.int i))) M = some (true, M) from rfl]
    dsimp only
    rw [hb i]
    dsimp only
    rw [show wipeD (δ.set u (some (.int i))) [v] = (δ.set u (some (.int i))).set v none from rfl, inner B]
    dsimp only
    rw [lc2_prod hu hv hb he A]
    dsimp only
    rw [prod_cons, List.map_append]
theorem rng2Z {q : AF} {δ : Pl.Env} {M M1 : Mh} {i j : Int} (h : q δ M = some ([.int i, .int j], M1)) (hi : -1000 ≤ i ∧ i ≤ 1000) (hj : -1000 ≤ j ∧ j ≤ 1000) : aRng2 q δ M = some ((zr i j).map D.int, M1) := by
  unfold aRng2
  rw [h]
  dsimp only
  rw [if_pos ⟨by omega, by omega, by omega, by omega⟩, zr_rng]
theorem maxZ {f g : EF} {δ : Pl.Env} {M : Mh} {i j : Int} (h1 : f δ M = some (.int i, M)) (h2 : g δ M = some (.int j, M)) : eB (gL2 fun i j => .int (if j > i then j else i)) (aCons f (aCons g aNil)) δ M = some (.int (if j > i then j else i), M) := by
  rw [x_eB, cons_of h1 (cons_of h2 x_aNil)]; rfl
theorem minZ {f g : EF} {δ : Pl.Env} {M : Mh} {i j : Int} (h1 : f δ M = some (.int i, M)) (h2 : g δ M = some (.int j, M)) : eB (gL2 fun i j => .int (if j < i then j else i)) (aCons f (aCons g aNil)) δ M = some (.int (if j < i then j else i), M) := by
  rw [x_eB, cons_of h1 (cons_of h2 x_aNil)]; rfl
/-- the cells between two corners -/
def cells (W L a b c d : Int) : List (Int × Int) := prod (zr (if 0 > a then 0 else a) (if W < c then W else c)) (zr (if 0 > b then 0 else b) (if L < d then L else d))
def Smal (i : Int) : Prop := -100 ≤ i ∧ i ≤ 100
theorem between_sp {W L a b c d : Int} {M : Mh} (hW : 0 ≤ W ∧ W ≤ 8) (hL : 0 ≤ L ∧ L ≤ 8) (ha : Smal a) (hb : Smal b) (hc : Smal c) (hd : Smal d) : ff_cells_between [cellD (W, L), cellD (a, b), cellD (c, d)] M = some (.lst ((cells W L a b c d).map cellD), M) := by
  unfold Smal at ha hb hc hd
  refine fn_rt ?_
  show gg_cells_between [some (cellD (W, L)), some (cellD (a, b)), some (cellD (c, d)), none, none, none, none, none, none, none, none] M = _
  unfold gg_cells_between
  refine seq_as (M1 := M) (δ' := [some (cellD (W, L)), some (cellD (a, b)), some (cellD (c, d)), some (.int a), some (.int b), some (.int c), some (.int d), none, none, none, none]) (x_eTup (ds := [cellD (a, b), cellD (c, d)]) (cons_of rfl (cons_of rfl x_aNil)) (by simp)) rfl ?_
  refine seq_as (M1 := M) (δ' := [some (cellD (W, L)), some (cellD (a, b)), some (cellD (c, d)), some (.int a), some (.int b), some (.int c), some (.int d), some (.int W), some (.int L), none, none]) rfl rfl ?_
  refine ret_of ?_
  have r1 : ∀ {x y : Option D}, aRng2 (aCons (eB (gL2 fun i j => .int (if j > i then j else i)) (aCons (eVar 3) (aCons (eC (.int 0)) aNil))) (aCons (eB (gL2 fun i j => .int (if j < i then j else i)) (aCons (eVar 5) (aCons (eVar 7) aNil))) aNil)) [some (cellD (W, L)), some (cellD (a, b)), some (cellD (c, d)), some (.int a), some (.int b), some (.int c), some (.int d), some (.int W), some (.int L), x, y] M = some ((zr (if 0 > a then 0 else a) (if W < c then W else c)).map D.int, M) := fun {x y} =>
    rng2Z (cons_of (maxZ rfl x_eC) (cons_of (minZ rfl rfl) x_aNil)) (by split <;> omega) (by split <;> omega)
  have r2 : ∀ {x y : Option D}, aRng2 (aCons (eB (gL2 fun i j => .int (if j > i then j else i)) (aCons (eVar 4) (aCons (eC (.int 0)) aNil))) (aCons (eB (gL2 fun i j => .int (if j < i then j else i)) (aCons (eVar 6) (aCons (eVar 8) aNil))) aNil)) [some (cellD (W, L)), some (cellD (a, b)), some (cellD (c, d)), some (.int a), some (.int b), some (.int c), some (.int d), some (.int W), some (.int L), x, y] M = some ((zr (if 0 > b then 0 else b) (if L < d then L else d)).map D.int, M) := fun {x y} =>
    rng2Z (cons_of (maxZ rfl x_eC) (cons_of (minZ rfl rfl) x_aNil)) (by split <;> omega) (by split <;> omega)
  have go := lc2_prod (u := 9) (v := 10) (δ := [some (cellD (W, L)), some (cellD (a, b)), some (cellD (c, d)), some (.int a), some (.int b), some (.int c), some (.int d), some (.int W), some (.int L), none, none]) (M := M) (e := eTup (aCons (eVar 9) (aCons (eVar 10) aNil))) (by simp) (by simp) (fun i => r2) (fun i j => x_eTup (cons_of rfl (cons_of rfl x_aNil)) (by simp)) (zr (if 0 > a then 0 else a) (if W < c then W else c))
  unfold eLc2
  rw [r1]
  dsimp only
  rw [show wipeD [some (cellD (W, L)), some (cellD (a, b)), some (cellD (c, d)), some (D.int a), some (D.int b), some (D.int c), some (D.int d), some (D.int W), some (D.int L), none, none] [9, 10] = [some (cellD (W, L)), some (cellD (a, b)), some (cellD (c, d)), some (.int a), some (.int b), some (.int c), some (.int d), some (.int W), some (.int L), none, none] from rfl, go]
  dsimp only
  rw [if_pos]
  · rfl
  · rw [List.length_map, prod_len, zr_len, zr_len]
    have h1 : ((if W < c then W else c) - (if 0 > a then 0 else a)).toNat ≤ 8 := by split <;> split <;> omega
    have h2 : ((if L < d then L else d) - (if 0 > b then 0 else b)).toNat ≤ 8 := by split <;> split <;> omega
    exact Nat.le_trans (Nat.mul_le_mul h1 h2) (by decide)
end Law
namespace Law
open PySem L2 Pl Pl.Ev
theorem amongI (i lo hi : Int) (M : Mh) : ff_is_among [.int i, .int lo, .int hi] M = some (.bl (decide (lo ≤ i) && decide (i ≤ hi)), M) := among_sp (some i) lo hi M
def fldD (h : Int) (R : List (List Int)) : D := .tup [.int h, .tup (R.map fun r => .tup (r.map D.int))]
structure FldOk (h : Int) (R : List (List Int)) (W : Nat) : Prop where
  h1 : 1 ≤ h ∧ h ≤ 6
  l : 1 ≤ R.length ∧ R.length ≤ 5
  w : 1 ≤ W ∧ W ≤ 5
  r : ∀ r ∈ R, r.length = W ∧ ∀ x ∈ r, 0 ≤ x ∧ x ≤ h
theorem lenT {L : List D} {f : EF} {δ : Pl.Env} {M M1 : Mh} (h : f δ M = some (.tup L, M1)) : eB gLen (aCons f aNil) δ M = some (.int (L.length : Nat), M1) := by
  rw [x_eB, cons_of h x_aNil]
  simp [gLen, lenOf]
theorem row0 {h : Int} {R : List (List Int)} {W : Nat} (ok : FldOk h R W) (M : Mh) : ∃ r : List Int, r.length = W ∧ gIx (.tup (R.map fun r => D.tup (r.map D.int))) (.int 0) M = some (.tup (r.map D.int), M) := by
  match R, ok with
  | [], ok => exact absurd ok.l.1 (by simp)
  | r :: R, ok => exact ⟨r, (ok.r r List.mem_cons_self).1, ix0_t⟩
theorem sides_sp {h : Int} {R : List (List Int)} {W : Nat} (ok : FldOk h R W) (M : Mh) : ff_plain_sides [fldD h R] M = some (cellD ((W : Nat), (R.length : Nat)), M) := by
  obtain ⟨r, l0, e0⟩ := row0 ok M
  refine fn_rt ?_
  show gg_plain_sides [some (fldD h R)] M = _
  unfold gg_plain_sides
  have f1 : eOp gIx (eVar 0) (eC (.int 1)) [some (fldD h R)] M = some (.tup (R.map fun r => .tup (r.map D.int)), M) := op_of rfl x_eC rfl
  refine ret_of (x_eTup (ds := [.int (W : Nat), .int (R.length : Nat)]) (cons_of ((lenT (op_of f1 x_eC e0)).trans (by rw [List.length_map, l0])) (cons_of ((lenT f1).trans (by rw [List.length_map])) x_aNil)) (by simp))
theorem row_go40 {h : Int} (M : Mh) (a b c d e f g : Option D) : ∀ r : List Int, (∀ x ∈ r, 0 ≤ x ∧ x ≤ h) → lcGo (gN 5) tTrue (eCall ff_is_among (aCons (eVar 5) (aCons (eC (.int 0)) (aCons (eVar 1) aNil))) []) (r.map D.int) [a, some (.int h), c, d, e, f] M = some ((r.map fun _ => true).map D.bl, M)
  | [], _ => lcN_
  | x :: r, hx => by
    have ih := row_go40 M a b c d e f g r fun y hy => hx y (List.mem_cons_of_mem _ hy)
    rw [List.map_cons, List.map_cons, List.map_cons]
    refine lcC_ (x := true) (M1 := M) (δ1 := [a, some (.int h), c, d, e, some (.int x)]) rfl tt_ (lcY_ (p := gN 5) (t := tTrue) (ds := r.map D.int) (δ := [a, some (.int h), c, d, e, f]) (δ1 := [a, some (.int h), c, d, e, some (.int x)]) (call_of (cons_of rfl (cons_of x_eC (cons_of rfl x_aNil))) ((amongI _ _ _ M).trans ?_)) ih)
    have := hx x List.mem_cons_self
    rw [decide_eq_true this.1, decide_eq_true this.2]
    rfl
/-- a row that is good -/
theorem row_all {h : Int} {r : List Int} (hr : ∀ x ∈ r, 0 ≤ x ∧ x ≤ h) (hl : r.length ≤ 8) (M : Mh) (a c d : Option D) : tV (eB (gBs fun bs => bs.all id) (aCons (eLc [5] (aItems (eVar 4)) (gN 5) tTrue (eCall ff_is_among (aCons (eVar 5) (aCons (eC (.int 0)) (aCons (eVar 1) aNil))) [])) aNil)) [a, some (.int h), c, d, some (.tup (r.map D.int)), none] M = some (true, M) := by
  refine v_bl ?_
  rw [x_eB, cons_of (d := .lst ((r.map fun _ => true).map D.bl)) (M1 := M) (lc_ (δ1 := [a, some (.int h), c, d, some (.tup (r.map D.int)), none]) (itemsT_ (ds := r.map D.int) rfl) rfl (row_go40 M a none c d (some (.tup (r.map D.int))) none none r hr) (by rw [List.length_map, List.length_map]; omega)) x_aNil]
  show gBs (fun bs => bs.all id) [.lst ((r.map fun _ => true).map D.bl)] M = _
  unfold gBs
  dsimp only [lstOf]
  rw [bs_D]
  simp
theorem row_tests {h : Int} {R : List (List Int)} {W : Nat} (ok : FldOk h R W) {r : List Int} (hr : r ∈ R) (M : Mh) (a d z : Option D) :
    tOrr (tNt (tV (eB gIsi (aCons (eVar 4) (aCons (eC (.ty "tuple")) aNil))))) (tOrr (tNt (tV (eChain (gInt fun i j => .bl (decide (i ≤ j))) (gInt fun i j => .bl (decide (i ≤ j))) (eC (.int 1)) (eB gLen (aCons (eVar 4) aNil)) (eC (.int 8))))) (tV (eOp (gEq fun p q => !PyData.eqv p q) (eB gLen (aCons (eVar 4) aNil)) (eB gLen (aCons (eOp gIx (eVar 2) (eC (.int 0))) aNil))))) [a, some (.int h), some (.tup (R.map fun r => .tup (r.map D.int))), d, some (.tup (r.map D.int)), z] M = some (false, M) := by
  obtain ⟨r0, l0, e0⟩ := row0 ok M
  have lr := (ok.r r hr).1
  have w := ok.w
  have ln : eB gLen (aCons (eVar 4) aNil) [a, some (.int h), some (.tup (R.map fun r => .tup (r.map D.int))), d, some (.tup (r.map D.int)), z] M = some (.int (W : Nat), M) := (lenT rfl).trans (by rw [List.length_map, lr])
  refine or0 (M1 := M) (nt_of (b := true) (v_bl (isi_of (t := "tuple") rfl rfl kit_tt))) (or0 (M1 := M) (nt_of (b := true) (v_bl (chain_ (x := true) (M3 := M) x_eC ln ?_ ?_))) (v_bl (op_of ln ((lenT (op_of rfl x_eC e0)).trans (by rw [List.length_map, l0])) ((ne_int _ _ _).trans (by rw [decide_eq_true rfl]; rfl)))))
  · show some (D.bl (decide ((1 : Int) ≤ ((W : Nat) : Int))), M) = _
    rw [decide_eq_true (by omega)]
  · rw [cond_true]
    refine op_of x_eC x_eC ?_
    show some (D.bl (decide (((W : Nat) : Int) ≤ 8)), M) = _
    rw [decide_eq_true (by omega)]
theorem rows_good {h : Int} {R : List (List Int)} {W : Nat} (ok : FldOk h R W) (a : Option D) (M : Mh) : ∀ (S : List (List Int)) (j : Nat) (x y z : Option D), (∀ r ∈ S, r ∈ R) → ∃ x' y' z', forGo (gTp (gsCons (gN 3) (gsCons (gN 4) gsNil))) (sSeq (sIf (tOrr (tNt (tV (eB gIsi (aCons (eVar 4) (aCons (eC (.ty "tuple")) aNil))))) (tOrr (tNt (tV (eChain (gInt fun i j => .bl (decide (i ≤ j))) (gInt fun i j => .bl (decide (i ≤ j))) (eC (.int 1)) (eB gLen (aCons (eVar 4) aNil)) (eC (.int 8))))) (tV (eOp (gEq fun p q => !PyData.eqv p q) (eB gLen (aCons (eVar 4) aNil)) (eB gLen (aCons (eOp gIx (eVar 2) (eC (.int 0))) aNil)))))) sNever sNil) (sIf (tNt (tV (eB (gBs fun bs => bs.all id) (aCons (eLc [5] (aItems (eVar 4)) (gN 5) tTrue (eCall ff_is_among (aCons (eVar 5) (aCons (eC (.int 0)) (aCons (eVar 1) aNil))) [])) aNil)))) sNever sNil)) (enumX j (S.map fun r => .tup (r.map D.int))) [a, some (.int h), some (.tup (R.map fun r => .tup (r.map D.int))), x, y, none] M = some (.nx [a, some (.int h), some (.tup (R.map fun r => .tup (r.map D.int))), x', y', z'] M)
  | [], j, x, y, z, _ => ⟨x, y, none, forN_⟩
  | r :: S, j, x, y, z, hS => by
    have hr := hS r List.mem_cons_self
    obtain ⟨x', y', z', ih⟩ := rows_good ok a M S (j + 1) (some (.int (j : Nat))) (some (.tup (r.map D.int))) none fun q hq => hS q (List.mem_cons_of_mem _ hq)
    refine ⟨x', y', z', ?_⟩
    rw [List.map_cons]
    refine forC_ (δ1 := [a, some (.int h), some (.tup (R.map fun r => .tup (r.map D.int))), some (.int (j : Nat)), some (.tup (r.map D.int)), none]) (δ2 := [a, some (.int h), some (.tup (R.map fun r => .tup (r.map D.int))), some (.int (j : Nat)), some (.tup (r.map D.int)), none]) (M2 := M) rfl ?_ ih
    have lr := (ok.r r hr).1
    have w := ok.w
    exact seq_if0 (row_tests ok hr M a _ none) (if_ff (nt_of (b := true) (row_all (ok.r r hr).2 (by omega) M _ _ _)) nil_of)
theorem fld_tests {h : Int} {R : List (List Int)} {W : Nat} (ok : FldOk h R W) (M : Mh) (x y z u v : Option D) :
    tOrr (tNt (tV (eB gIsi (aCons (eVar 0) (aCons (eC (.ty "tuple")) aNil))))) (tV (eOp (gEq fun p q => !PyData.eqv p q) (eB gLen (aCons (eVar 0) aNil)) (eC (.int 2)))) [some (fldD h R), x, y, z, u, v] M = some (false, M) :=
  or0 (M1 := M) (nt_of (b := true) (v_bl (isi_of (t := "tuple") rfl rfl kit_tt))) (v_bl (op_of (lenT rfl) x_eC ((ne_int _ _ _).trans rfl)))
theorem fld_tests2 {h : Int} {R : List (List Int)} {W : Nat} (ok : FldOk h R W) (M : Mh) (a z u v : Option D) :
    tNt (tV (eCall ff_is_among (aCons (eVar 1) (aCons (eC (.int 1)) (aCons (eC (.int 6)) aNil))) [])) [a, some (.int h), some (.tup (R.map fun r => .tup (r.map D.int))), z, u, v] M = some (false, M) ∧
    tOrr (tNt (tV (eB gIsi (aCons (eVar 2) (aCons (eC (.ty "tuple")) aNil))))) (tNt (tV (eChain (gInt fun i j => .bl (decide (i ≤ j))) (gInt fun i j => .bl (decide (i ≤ j))) (eC (.int 1)) (eB gLen (aCons (eVar 2) aNil)) (eC (.int 8))))) [a, some (.int h), some (.tup (R.map fun r => .tup (r.map D.int))), z, u, v] M = some (false, M) := by
  have l := ok.l
  have h1 := ok.h1
  have ln : eB gLen (aCons (eVar 2) aNil) [a, some (.int h), some (.tup (R.map fun r => .tup (r.map D.int))), z, u, v] M = some (.int (R.length : Nat), M) := (lenT rfl).trans (by rw [List.length_map])
  refine ⟨nt_of (b := true) (v_bl (call_of (cons_of rfl (cons_of x_eC (cons_of x_eC x_aNil))) ((amongI _ _ _ M).trans (by rw [decide_eq_true h1.1, decide_eq_true h1.2]; rfl)))), or0 (M1 := M) (nt_of (b := true) (v_bl (isi_of (t := "tuple") rfl rfl kit_tt))) (nt_of (b := true) (v_bl (chain_ (x := true) (M3 := M) x_eC ln ?_ ?_)))⟩
  · show some (D.bl (decide ((1 : Int) ≤ ((R.length : Nat) : Int))), M) = _
    rw [decide_eq_true (by omega)]
  · rw [cond_true]
    refine op_of x_eC x_eC ?_
    show some (D.bl (decide (((R.length : Nat) : Int) ≤ 8)), M) = _
    rw [decide_eq_true (by omega)]
theorem need_field_ok {h : Int} {R : List (List Int)} {W : Nat} (ok : FldOk h R W) (M : Mh) : ff_need_field [fldD h R] M = some (.non, M) := by
  obtain ⟨t2, t3⟩ := fld_tests2 ok M (some (fldD h R)) none none none
  obtain ⟨x', y', z', go⟩ := rows_good ok (some (fldD h R)) M R 0 none none none fun r hr => hr
  refine fnN_ (δ' := [some (fldD h R), some (.int h), some (.tup (R.map fun r => .tup (r.map D.int))), x', y', z']) ?_
  show gg_need_field [some (fldD h R), none, none, none, none, none] M = _
  unfold gg_need_field
  refine seq_if0 (fld_tests ok M _ _ _ _ _) ?_
  refine seq_as (M1 := M) (δ' := [some (fldD h R), some (.int h), some (.tup (R.map fun r => .tup (r.map D.int))), none, none, none]) rfl rfl ?_
  refine seq_if0 t2 (seq_if0 t3 ?_)
  exact for_ (enumT_of (W := R.map fun r => .tup (r.map D.int)) rfl) go
theorem tool_sp {s l : Int} (M : Mh) : ff_is_tool [cellD (s, l)] M = some (.bl ((decide (1 ≤ s) && decide (s ≤ 4)) && (decide (1 ≤ l) && decide (l ≤ 6))), M) := by
  refine fn_rt ?_
  show gg_is_tool [some (cellD (s, l))] M = _
  unfold gg_is_tool
  refine seq_if0 (M1 := M) (or0 (M1 := M) (nt_of (b := true) (v_bl (isi_of (t := "tuple") rfl rfl kit_tt))) (v_bl (op_of (lenT (L := [.int s, .int l]) rfl) x_eC ((ne_int _ _ _).trans rfl)))) (ret_of ?_)
  have a1 : eCall ff_is_among (aCons (eOp gIx (eVar 0) (eC (.int 0))) (aCons (eC (.int 1)) (aCons (eC (.int 4)) aNil))) [] [some (cellD (s, l))] M = some (.bl (decide (1 ≤ s) && decide (s ≤ 4)), M) := call_of (cons_of (op_of rfl x_eC rfl) (cons_of x_eC (cons_of x_eC x_aNil))) (amongI _ _ _ M)
  have a2 : eCall ff_is_among (aCons (eOp gIx (eVar 0) (eC (.int 1))) (aCons (eC (.int 1)) (aCons (eC (.int 6)) aNil))) [] [some (cellD (s, l))] M = some (.bl (decide (1 ≤ l) && decide (l ≤ 6)), M) := call_of (cons_of (op_of rfl x_eC rfl) (cons_of x_eC (cons_of x_eC x_aNil))) (amongI _ _ _ M)
  cases hb : (decide (1 ≤ s) && decide (s ≤ 4)) with
  | true =>
    rw [hb] at a1
    rw [Bool.true_and]
    exact an_of1 a1 a2
  | false =>
    rw [hb] at a1
    rw [Bool.false_and]
    exact an_of0 a1
def ToolOk (t : Int × Int) : Prop := (1 ≤ t.1 ∧ t.1 ≤ 4) ∧ 1 ≤ t.2 ∧ t.2 ≤ 6
theorem tool_ok {t : Int × Int} (h : ToolOk t) (M : Mh) : ff_is_tool [cellD t] M = some (.bl true, M) := by
  refine (tool_sp (s := t.1) (l := t.2) M).trans ?_
  rw [decide_eq_true h.1.1, decide_eq_true h.1.2, decide_eq_true h.2.1, decide_eq_true h.2.2]
  rfl
end Law
namespace Law
open PySem L2 Pl Pl.Ev
theorem ix_c0 {p : Int × Int} {M : Mh} : gIx (cellD p) (.int 0) M = some (.int p.1, M) := rfl
theorem ix_c1 {p : Int × Int} {M : Mh} : gIx (cellD p) (.int 1) M = some (.int p.2, M) := rfl
theorem tupL {L : List D} {f : EF} {δ : Pl.Env} {M M1 : Mh} (h : f δ M = some (.lst L, M1)) : eB gTupOf (aCons f aNil) δ M = some (.tup L, M1) := by
  rw [x_eB, cons_of h x_aNil]
  rfl
def Tl (t : Int × Int) : Prop := 1 ≤ t.1 ∧ t.1 ≤ 4
theorem ToolOk.tl {t : Int × Int} (h : ToolOk t) : Tl t := h.1
theorem under_sp {W L : Int} {t p : Int × Int} (hW : 0 ≤ W ∧ W ≤ 8) (hL : 0 ≤ L ∧ L ≤ 8) (ht : Tl t) (h1 : -50 ≤ p.1 ∧ p.1 ≤ 50) (h2 : -50 ≤ p.2 ∧ p.2 ≤ 50) (M : Mh) : ff_plain_under [cellD (W, L), cellD t, cellD p] M = some (.tup ((cells W L p.1 p.2 (p.1 + t.1) (p.2 + t.1)).map cellD), M) := by
  unfold Tl at ht
  refine fn_rt ?_
  show gg_plain_under [some (cellD (W, L)), some (cellD t), some (cellD p), none, none] M = _
  unfold gg_plain_under
  refine seq_as (M1 := M) (δ' := [some (cellD (W, L)), some (cellD t), some (cellD p), some (.int p.1), some (.int p.2)]) rfl rfl (ret_of (tupL ?_))
  refine call_of (ds := [cellD (W, L), cellD p, cellD (p.1 + t.1, p.2 + t.1)]) (cons_of rfl (cons_of rfl (cons_of (x_eTup (ds := [.int (p.1 + t.1), .int (p.2 + t.1)]) (cons_of (op_of rfl (op_of rfl x_eC ix_c0) rfl) (cons_of (op_of rfl (op_of rfl x_eC ix_c0) rfl) x_aNil)) (by simp)) x_aNil))) ?_
  exact between_sp (a := p.1) (b := p.2) hW hL (by unfold Smal; omega) (by unfold Smal; omega) (by unfold Smal; omega) (by unfold Smal; omega)
theorem eqv_cell (p q : Int × Int) : PyData.eqv (.tuple [.int p.1, .int p.2]) (.tuple [.int q.1, .int q.2]) = decide (p = q) := by
  simp only [PyData.eqv, PyData.eqvAll, Bool.and_true]
  rw [show decide (p = q) = (decide (p.1 = q.1) && decide (p.2 = q.2)) from by rw [← Bool.decide_and]; exact decide_eq_decide.mpr ⟨fun e => by rw [e]; exact ⟨rfl, rfl⟩, fun e => Prod.ext e.1 e.2⟩]
  congr 1 <;> simp [PyData.eqv]
theorem toPs_cells : ∀ L : List (Int × Int), toPs (L.map cellD) = some (L.map fun p => .tuple [.int p.1, .int p.2])
  | [] => rfl
  | p :: L => by
    rw [List.map_cons, toPs, toPs_cells L]
    rfl
theorem lay_cells : ∀ L : List (Int × Int), PyData.canLayAll0 (L.map fun p => .tuple [.int p.1, .int p.2]) = true ∧ PyData.depthAll (L.map fun p => .tuple [.int p.1, .int p.2]) ≤ 1
  | [] => by constructor <;> decide +kernel
  | p :: L => by
    obtain ⟨a, b⟩ := lay_cells L
    rw [List.map_cons]
    constructor
    · rw [PyData.canLayAll0, a]
      simp [PyData.canLay0, PyData.canLayAll0]
    · rw [PyData.depthAll]
      have : PyData.depth (.tuple [.int p.1, .int p.2]) = 1 := by simp [PyData.depth, PyData.depthAll]
      omega
theorem shaped_cells (L : List (Int × Int)) : SeqAt.shaped (.tuple (L.map fun p => .tuple [.int p.1, .int p.2])) = true ∧ SeqAt.shaped (.list (L.map fun p => .tuple [.int p.1, .int p.2])) = true := by
  obtain ⟨a, b⟩ := lay_cells L
  constructor
  · simp only [SeqAt.shaped, Bool.and_eq_true, decide_eq_true_eq]
    refine ⟨by rw [PyData.canLay0, a], ?_⟩
    rw [PyData.depth]
    omega
  · simp only [SeqAt.shaped, Bool.and_eq_true, decide_eq_true_eq]
    refine ⟨by rw [PyData.canLay0, a], ?_⟩
    rw [PyData.depth]
    omega
theorem shaped_cell (p : Int × Int) : SeqAt.shaped (.tuple [.int p.1, .int p.2]) = true := by
  simp only [SeqAt.shaped, Bool.and_eq_true, decide_eq_true_eq]
  exact ⟨by simp [PyData.canLay0, PyData.canLayAll0], by simp [PyData.depth, PyData.depthAll]⟩
theorem in_cells (f : Bool → Bool) (p : Int × Int) (L : List (Int × Int)) (M : Mh) : gIn f (cellD p) (.tup (L.map cellD)) M = some (.bl (f (decide (p ∈ L))), M) ∧ gIn f (cellD p) (.lst (L.map cellD)) M = some (.bl (f (decide (p ∈ L))), M) := by
  have e0 : toP (deref M (cellD p)) = some (.tuple [.int p.1, .int p.2]) := rfl
  have e1 : toP (deref M (.tup (L.map cellD))) = some (.tuple (L.map fun p => .tuple [.int p.1, .int p.2])) := by
    show toP (.tup (L.map cellD)) = _
    rw [toP, toPs_cells]
  have e2 : toP (deref M (.lst (L.map cellD))) = some (.list (L.map fun p => .tuple [.int p.1, .int p.2])) := by
    show toP (.lst (L.map cellD)) = _
    rw [toP, toPs_cells]
  obtain ⟨s1, s2⟩ := shaped_cells L
  have any : ((L.map fun p => PyData.tuple [.int p.1, .int p.2]).any fun z => PyData.eqv z (.tuple [.int p.1, .int p.2])) = decide (p ∈ L) := by
    rw [List.any_map]
    rw [Bool.eq_iff_iff, List.any_eq_true, decide_eq_true_eq]
    constructor
    · rintro ⟨q, hq, h⟩
      have : decide (q = p) = true := (eqv_cell q p).symm.trans h
      rw [← of_decide_eq_true this]
      exact hq
    · exact fun h => ⟨p, h, (eqv_cell p p).trans (decide_eq_true rfl)⟩
  constructor
  · unfold gIn cellD
    dsimp only
    rw [show toP (deref M (D.tup [.int p.1, .int p.2])) = some (.tuple [.int p.1, .int p.2]) from rfl, show toP (deref M (D.tup (L.map fun p => D.tup [.int p.1, .int p.2]))) = some (.tuple (L.map fun p => .tuple [.int p.1, .int p.2])) from e1]
    dsimp only
    rw [shaped_cell, s1, any]
    rfl
  · unfold gIn cellD
    dsimp only
    rw [show toP (deref M (D.tup [.int p.1, .int p.2])) = some (.tuple [.int p.1, .int p.2]) from rfl, show toP (deref M (D.lst (L.map fun p => D.tup [.int p.1, .int p.2]))) = some (.list (L.map fun p => .tuple [.int p.1, .int p.2])) from e2]
    dsimp only
    rw [shaped_cell, s2, any]
    rfl
/-- those that are none of U -/
theorem lc_notin {v u : Nat} {δ : Pl.Env} {M : Mh} {U : List (Int × Int)} (hv : v < δ.length) (hu : u ≠ v) (tup : Bool) (hU : δ[u]? = some (some (if tup then .tup (U.map cellD) else .lst (U.map cellD)))) : ∀ L : List (Int × Int), lcGo (gN v) (tV (eOp (gIn fun b => !b) (eVar v) (eVar u))) (eVar v) (L.map cellD) δ M = some ((L.filter fun p => !decide (p ∈ U)).map cellD, M)
  | [] => lcN_
  | p :: L => by
    have ih := lc_notin (M := M) hv hu tup hU L
    have vs : eVar v (δ.set v (some (cellD p))) M = some (cellD p, M) := var_ (by rw [List.getElem?_set_self hv])
    have us : eVar u (δ.set v (some (cellD p))) M = some (if tup then .tup (U.map cellD) else .lst (U.map cellD), M) := var_ (by rw [List.getElem?_set_ne (Ne.symm hu)]; exact hU)
    have t : tV (eOp (gIn fun b => !b) (eVar v) (eVar u)) (δ.set v (some (cellD p))) M = some (!decide (p ∈ U), M) := by
      refine v_bl (op_of vs us ?_)
      cases tup with
      | true => exact (in_cells _ p U M).1
      | false => exact (in_cells _ p U M).2
    rw [List.map_cons, List.filter_cons]
    cases hd : (!decide (p ∈ U)) with
    | true =>
      rw [hd] at t
      rw [if_pos rfl, List.map_cons]
      exact lcC_ (x := true) (M1 := M) (δ1 := δ.set v (some (cellD p))) rfl t (lcY_ (t := tV (eOp (gIn fun b => !b) (eVar v) (eVar u))) (p := gN v) (ds := L.map cellD) (δ := δ) (δ1 := δ.set v (some (cellD p))) vs ih)
    | false =>
      rw [hd] at t
      rw [if_neg (by decide)]
      exact lcC_ (x := false) (M1 := M) (δ1 := δ.set v (some (cellD p))) rfl t ih
/-- the cells about a tool -/
def ringC (W L : Int) (p : Int × Int) (s : Int) : List (Int × Int) := (cells W L (p.1 - 1) (p.2 - 1) (p.1 + s + 1) (p.2 + s + 1)).filter fun q => !decide (q ∈ cells W L p.1 p.2 (p.1 + s) (p.2 + s))
theorem cells_len {W L a b c d : Int} (hW : 0 ≤ W ∧ W ≤ 8) (hL : 0 ≤ L ∧ L ≤ 8) : (cells W L a b c d).length ≤ 64 := by
  unfold cells
  rw [prod_len, zr_len, zr_len]
  have h1 : ((if W < c then W else c) - (if 0 > a then 0 else a)).toNat ≤ 8 := by split <;> split <;> omega
  have h2 : ((if L < d then L else d) - (if 0 > b then 0 else b)).toNat ≤ 8 := by split <;> split <;> omega
  exact Nat.le_trans (Nat.mul_le_mul h1 h2) (by decide)
theorem ring_sp {W L : Int} {t p : Int × Int} (hW : 0 ≤ W ∧ W ≤ 8) (hL : 0 ≤ L ∧ L ≤ 8) (ht : Tl t) (h1 : -50 ≤ p.1 ∧ p.1 ≤ 50) (h2 : -50 ≤ p.2 ∧ p.2 ≤ 50) (M : Mh) : ff_plain_ring [cellD (W, L), cellD t, cellD p] M = some (.tup ((ringC W L p t.1).map cellD), M) := by
  have ht' := ht
  unfold Tl at ht'
  refine fn_rt ?_
  show gg_plain_ring [some (cellD (W, L)), some (cellD t), some (cellD p), none, none, none, none, none] M = _
  unfold gg_plain_ring
  refine seq_as (M1 := M) (δ' := [some (cellD (W, L)), some (cellD t), some (cellD p), some (.int p.1), some (.int p.2), none, none, none]) rfl rfl ?_
  refine seq_as (M1 := M) (δ' := [some (cellD (W, L)), some (cellD t), some (cellD p), some (.int p.1), some (.int p.2), some (.tup ((cells W L p.1 p.2 (p.1 + t.1) (p.2 + t.1)).map cellD)), none, none]) (call_of (cons_of rfl (cons_of rfl (cons_of rfl x_aNil))) (under_sp hW hL ht h1 h2 M)) rfl ?_
  refine seq_as (M1 := M) (δ' := [some (cellD (W, L)), some (cellD t), some (cellD p), some (.int p.1), some (.int p.2), some (.tup ((cells W L p.1 p.2 (p.1 + t.1) (p.2 + t.1)).map cellD)), some (.lst ((cells W L (p.1 - 1) (p.2 - 1) (p.1 + t.1 + 1) (p.2 + t.1 + 1)).map cellD)), none]) ?_ rfl ?_
  · refine call_of (ds := [cellD (W, L), cellD (p.1 - 1, p.2 - 1), cellD (p.1 + t.1 + 1, p.2 + t.1 + 1)]) (cons_of rfl (cons_of (x_eTup (ds := [.int (p.1 - 1), .int (p.2 - 1)]) (cons_of (op_of rfl x_eC rfl) (cons_of (op_of rfl x_eC rfl) x_aNil)) (by simp)) (cons_of (x_eTup (ds := [.int (p.1 + t.1 + 1), .int (p.2 + t.1 + 1)]) (cons_of (op_of (op_of rfl (op_of rfl x_eC ix_c0) rfl) x_eC rfl) (cons_of (op_of (op_of rfl (op_of rfl x_eC ix_c0) rfl) x_eC rfl) x_aNil)) (by simp)) x_aNil))) ?_
    exact between_sp hW hL (by unfold Smal; omega) (by unfold Smal; omega) (by unfold Smal; omega) (by unfold Smal; omega)
  · refine ret_of (tupL ?_)
    refine lc_ (δ1 := [some (cellD (W, L)), some (cellD t), some (cellD p), some (.int p.1), some (.int p.2), some (.tup ((cells W L p.1 p.2 (p.1 + t.1) (p.2 + t.1)).map cellD)), some (.lst ((cells W L (p.1 - 1) (p.2 - 1) (p.1 + t.1 + 1) (p.2 + t.1 + 1)).map cellD)), none]) (itemsL_ (ds := (cells W L (p.1 - 1) (p.2 - 1) (p.1 + t.1 + 1) (p.2 + t.1 + 1)).map cellD) rfl) rfl (lc_notin (v := 7) (u := 5) (U := cells W L p.1 p.2 (p.1 + t.1) (p.2 + t.1)) (by simp) (by decide) true rfl _) ?_
    rw [List.length_map]
    exact Nat.le_trans (List.length_filter_le _ _) (Nat.le_trans (cells_len hW hL) (by decide))
end Law
namespace Law
open PySem L2 Pl Pl.Ev
def spotsC (W L s : Int) : List (Int × Int) := prod (zr (1 - s) W) (zr (1 - s) L)
theorem sub1_t {t : Int × Int} {δ : Pl.Env} {M : Mh} {u : Nat} (h : δ[u]? = some (some (cellD t))) : eOp (gInt fun i j => .int (i - j)) (eC (.int 1)) (eOp gIx (eVar u) (eC (.int 0))) δ M = some (.int (1 - t.1), M) := op_of x_eC (op_of (var_ h) x_eC ix_c0) rfl
theorem places_sp {W L : Int} {t : Int × Int} (hW : 0 ≤ W ∧ W ≤ 8) (hL : 0 ≤ L ∧ L ≤ 8) (ht : Tl t) (M : Mh) : ff_plain_places [cellD (W, L), cellD t] M = some (.tup ((spotsC W L t.1).map cellD), M) := by
  unfold Tl at ht
  refine fn_rt ?_
  show gg_plain_places [some (cellD (W, L)), some (cellD t), none, none, none, none] M = _
  unfold gg_plain_places
  refine seq_as (M1 := M) (δ' := [some (cellD (W, L)), some (cellD t), some (.int W), some (.int L), none, none]) rfl rfl (ret_of (tupL ?_))
  have r1 : ∀ {x y : Option D}, aRng2 (aCons (eOp (gInt fun i j => .int (i - j)) (eC (.int 1)) (eOp gIx (eVar 1) (eC (.int 0)))) (aCons (eVar 2) aNil)) [some (cellD (W, L)), some (cellD t), some (.int W), some (.int L), x, y] M = some ((zr (1 - t.1) W).map D.int, M) := fun {x y} =>
    rng2Z (cons_of (sub1_t rfl) (cons_of rfl x_aNil)) (by omega) (by omega)
  have r2 : ∀ {x y : Option D}, aRng2 (aCons (eOp (gInt fun i j => .int (i - j)) (eC (.int 1)) (eOp gIx (eVar 1) (eC (.int 0)))) (aCons (eVar 3) aNil)) [some (cellD (W, L)), some (cellD t), some (.int W), some (.int L), x, y] M = some ((zr (1 - t.1) L).map D.int, M) := fun {x y} =>
    rng2Z (cons_of (sub1_t rfl) (cons_of rfl x_aNil)) (by omega) (by omega)
  have go := lc2_prod (u := 4) (v := 5) (δ := [some (cellD (W, L)), some (cellD t), some (.int W), some (.int L), none, none]) (M := M) (e := eTup (aCons (eVar 4) (aCons (eVar 5) aNil))) (by simp) (by simp) (fun i => r2) (fun i j => x_eTup (cons_of rfl (cons_of rfl x_aNil)) (by simp)) (zr (1 - t.1) W)
  unfold eLc2
  rw [r1]
  dsimp only
  rw [show wipeD [some (cellD (W, L)), some (cellD t), some (D.int W), some (D.int L), none, none] [4, 5] = [some (cellD (W, L)), some (cellD t), some (.int W), some (.int L), none, none] from rfl, go]
  dsimp only
  rw [if_pos]
  · rfl
  · rw [List.length_map, prod_len, zr_len, zr_len]
    exact Nat.le_trans (Nat.mul_le_mul (show (W - (1 - t.1)).toNat ≤ 12 by omega) (show (L - (1 - t.1)).toNat ≤ 12 by omega)) (by decide)
section
variable {ct : CT} {h : Int} {R : List (List Int)} {W : Nat} {t : Int × Int}
theorem FldOk.dim (ok : FldOk h R W) : (0 ≤ ((W : Nat) : Int) ∧ ((W : Nat) : Int) ≤ 8) ∧ 0 ≤ ((R.length : Nat) : Int) ∧ ((R.length : Nat) : Int) ≤ 8 := by
  have := ok.w
  have := ok.l
  omega
end
end Law
namespace Law
open PySem L2 Pl Pl.Ev
theorem ext_end {M : Mh} {xs ys : List D} {f : EF} {q : AF} {δ : Pl.Env} (h1 : f δ (M ++ [.lst xs]) = some (.ref M.length, M ++ [.lst xs])) (h2 : q δ (M ++ [.lst xs]) = some ([.lst ys], M ++ [.lst xs])) (hl : xs.length + ys.length ≤ 1000) : eMeth2 gExt f q δ (M ++ [.lst xs]) = some (.non, M ++ [.lst (xs ++ ys)]) := by
  unfold eMeth2
  rw [h1]
  dsimp only
  rw [if_pos (show (lstOf (M ++ [MO.lst xs]) (.ref M.length)).isSome = true by unfold lstOf; dsimp only; rw [at_end]; rfl), h2]
  dsimp only
  unfold gExt
  dsimp only
  rw [at_end]
  dsimp only [lstT]
  rw [if_pos (Nat.le_trans hl (by decide)), set_end]
theorem ext_go {u fi : Nat} {B : List Int} {e : EF} {δ0 : Pl.Env} {M : Mh} (hf : fi ≠ u) (hB : B.length ≤ 12) : ∀ (A : List Int) (acc : List (Int × Int)) (δ : Pl.Env), δ[fi]? = some (some (.ref M.length)) → u < δ.length → (∀ (i : Int) (acc : List D) (x : Option D), e ((δ.set u x).set u (some (.int i))) (M ++ [.lst acc]) = some (.lst ((B.map fun j => (i, j)).map cellD), M ++ [.lst acc])) → acc.length + A.length * 12 ≤ 900 →
    ∃ x, forGo (gN u) (sE (eMeth2 gExt (eVar fi) (aCons e aNil))) (A.map D.int) δ (M ++ [.lst (acc.map cellD)]) = some (.nx (δ.set u x) (M ++ [.lst ((acc ++ prod A B).map cellD)])) ∨ forGo (gN u) (sE (eMeth2 gExt (eVar fi) (aCons e aNil))) (A.map D.int) δ (M ++ [.lst (acc.map cellD)]) = some (.nx δ (M ++ [.lst ((acc ++ prod A B).map cellD)]))
  | [], acc, δ, _, _, _, _ => ⟨none, .inr (by
    rw [show prod [] B = [] from rfl, List.append_nil]
    exact forN_)⟩
  | i :: A, acc, δ, h0, hu, he, hl => by
    rw [List.length_cons] at hl
    have he' : ∀ (i' : Int) (acc : List D) (x : Option D), e (((δ.set u (some (.int i))).set u x).set u (some (.int i'))) (M ++ [.lst acc]) = some (.lst ((B.map fun j => (i', j)).map cellD), M ++ [.lst acc]) := fun i' acc x => by
      rw [List.set_set]
      exact he i' acc (some (.int i))
    have st : sE (eMeth2 gExt (eVar fi) (aCons e aNil)) (δ.set u (some (.int i))) (M ++ [.lst (acc.map cellD)]) = some (.nx (δ.set u (some (.int i))) (M ++ [.lst ((acc ++ B.map fun j => (i, j)).map cellD)])) := by
      refine se_ (d := .non) ?_
      rw [List.map_append]
      refine ext_end (var_ (by rw [List.getElem?_set_ne (Ne.symm hf)]; exact h0)) (cons_of ?_ x_aNil) (by rw [List.length_map, List.length_map, List.length_map]; omega)
      have := he i (acc.map cellD) (some (.int i))
      rw [List.set_set] at this
      exact this
    obtain ⟨x, ih⟩ := ext_go (e := e) (δ0 := δ0) hf hB A (acc ++ B.map fun j => (i, j)) (δ.set u (some (.int i))) (by rw [List.getElem?_set_ne (Ne.symm hf)]; exact h0) (by rw [List.length_set]; exact hu) he' (by rw [List.length_append, List.length_map]; omega)
    rw [List.append_assoc, ← prod_cons] at ih
    rw [List.map_cons]
    rcases ih with ih | ih
    · refine ⟨x, .inl ?_⟩
      rw [List.set_set] at ih
      exact forC_ (δ1 := δ.set u (some (.int i))) rfl st ih
    · exact ⟨some (.int i), .inl (forC_ (δ1 := δ.set u (some (.int i))) rfl st ih)⟩
theorem frz_end {i : Nat} {δ : Pl.Env} {M : Mh} {xs : List D} (h : δ[i]? = some (some (.ref M.length))) : eFrz i δ (M ++ [.lst xs]) = some (.lst xs, M ++ [.dead]) := by
  unfold eFrz
  rw [h]
  dsimp only
  rw [at_end]
  dsimp only
  rw [set_end]
theorem rng1Z {q : AF} {δ : Pl.Env} {M M1 : Mh} {j : Int} (h : q δ M = some ([.int j], M1)) (hj : -1000 ≤ j ∧ j ≤ 1000) : aRng1 q δ M = some ((zr 0 j).map D.int, M1) := by
  rw [rng1_ h ⟨by omega, by omega⟩, zr_rng]
theorem pairs_go {u v : Nat} {i : Int} {δ : Pl.Env} {M : Mh} (huv : u ≠ v) (hv : v < δ.length) (hu : δ[u]? = some (some (.int i))) : ∀ B : List Int, lcGo (gN v) tTrue (eTup (aCons (eVar u) (aCons (eVar v) aNil))) (B.map D.int) δ M = some ((B.map fun j => (i, j)).map cellD, M)
  | [] => lcN_
  | j :: B => by
    have ih := pairs_go (M := M) huv hv hu B
    rw [List.map_cons, List.map_cons, List.map_cons]
    exact lcC_ (x := true) (M1 := M) (δ1 := δ.set v (some (.int j))) rfl tt_ (lcY_ (p := gN v) (t := tTrue) (ds := B.map D.int) (δ := δ) (δ1 := δ.set v (some (.int j))) (x_eTup (ds := [.int i, .int j]) (cons_of (var_ (by rw [List.getElem?_set_ne huv.symm]; exact hu)) (cons_of (var_ (by rw [List.getElem?_set_self hv])) x_aNil)) (by simp)) ih)
section
variable {h : Int} {R : List (List Int)} {W : Nat}
theorem wide_of (ok : FldOk h R W) {δ : Pl.Env} {M : Mh} {i : Nat} (h0 : δ[i]? = some (some (fldD h R))) : eB gLen (aCons (eOp gIx (eOp gIx (eVar i) (eC (.int 1))) (eC (.int 0))) aNil) δ M = some (.int (W : Nat), M) := by
  obtain ⟨r, l0, e0⟩ := row0 ok M
  exact (lenT (op_of (op_of (var_ h0) x_eC rfl) x_eC e0)).trans (by rw [List.length_map, l0])
theorem long_of {δ : Pl.Env} {M : Mh} {i : Nat} (h0 : δ[i]? = some (some (fldD h R))) : eB gLen (aCons (eOp gIx (eVar i) (eC (.int 1))) aNil) δ M = some (.int (R.length : Nat), M) :=
  (lenT (op_of (var_ h0) x_eC rfl)).trans (by rw [List.length_map])
def allC (W L : Int) : List (Int × Int) := prod (zr 0 W) (zr 0 L)
theorem cells_sp (ok : FldOk h R W) (M : Mh) : ff_law_cells [fldD h R] M = some (.lst ((allC (W : Nat) (R.length : Nat)).map cellD), M ++ [.dead]) := by
  have dm := ok.dim
  refine fn_rt ?_
  show gg_law_cells [some (fldD h R), none, none, none] M = _
  unfold gg_law_cells
  refine seq_as (M1 := M ++ [.lst []]) (δ' := [some (fldD h R), some (.ref M.length), none, none]) (new_ x_aNil (by simp)) rfl ?_
  have inner : ∀ (i : Int) (acc : List D) (x : Option D), eLc [3] (aRng1 (aCons (eB gLen (aCons (eOp gIx (eVar 0) (eC (.int 1))) aNil)) aNil)) (gN 3) tTrue (eTup (aCons (eVar 2) (aCons (eVar 3) aNil))) (([some (fldD h R), some (.ref M.length), none, none].set 2 x).set 2 (some (.int i))) (M ++ [.lst acc]) = some (.lst (((zr 0 (R.length : Nat)).map fun j => (i, j)).map cellD), M ++ [.lst acc]) := fun i acc x =>
    lc_ (δ1 := [some (fldD h R), some (.ref M.length), some (.int i), none]) (rng1Z (cons_of (long_of rfl) x_aNil) (by omega)) rfl (pairs_go (by decide) (by simp) rfl _) (by rw [List.length_map, List.length_map, zr_len]; omega)
  obtain ⟨x, go⟩ := ext_go (u := 2) (fi := 1) (B := zr 0 (R.length : Nat)) (δ0 := []) (by decide) (by rw [zr_len]; omega) (zr 0 (W : Nat)) [] [some (fldD h R), some (.ref M.length), none, none] rfl (by simp) inner (by rw [zr_len]; simp; omega)
  rw [List.nil_append] at go
  have it : aRng1 (aCons (eB gLen (aCons (eOp gIx (eOp gIx (eVar 0) (eC (.int 1))) (eC (.int 0))) aNil)) aNil) [some (fldD h R), some (.ref M.length), none, none] (M ++ [.lst []]) = some ((zr 0 (W : Nat)).map D.int, M ++ [.lst []]) := rng1Z (cons_of (wide_of ok rfl) x_aNil) (by omega)
  rcases go with go | go
  · exact seq_nx (for_ it go) (ret_of (frz_end rfl))
  · exact seq_nx (for_ it go) (ret_of (frz_end rfl))
theorem spots_sp (ok : FldOk h R W) {s : Int} (hs : 1 ≤ s ∧ s ≤ 4) (M : Mh) : ff_law_spots [fldD h R, .int s] M = some (.lst ((spotsC (W : Nat) (R.length : Nat) s).map cellD), M ++ [.dead]) := by
  have dm := ok.dim
  refine fn_rt ?_
  show gg_law_spots [some (fldD h R), some (.int s), none, none, none] M = _
  unfold gg_law_spots
  refine seq_as (M1 := M ++ [.lst []]) (δ' := [some (fldD h R), some (.int s), some (.ref M.length), none, none]) (new_ x_aNil (by simp)) rfl ?_
  have inner : ∀ (i : Int) (acc : List D) (x : Option D), eLc [4] (aRng2 (aCons (eOp (gInt fun i j => .int (i - j)) (eC (.int 1)) (eVar 1)) (aCons (eB gLen (aCons (eOp gIx (eVar 0) (eC (.int 1))) aNil)) aNil))) (gN 4) tTrue (eTup (aCons (eVar 3) (aCons (eVar 4) aNil))) (([some (fldD h R), some (.int s), some (.ref M.length), none, none].set 3 x).set 3 (some (.int i))) (M ++ [.lst acc]) = some (.lst (((zr (1 - s) (R.length : Nat)).map fun j => (i, j)).map cellD), M ++ [.lst acc]) := fun i acc x =>
    lc_ (δ1 := [some (fldD h R), some (.int s), some (.ref M.length), some (.int i), none]) (rng2Z (cons_of (op_of x_eC rfl rfl) (cons_of (long_of rfl) x_aNil)) (by omega) (by omega)) rfl (pairs_go (by decide) (by simp) rfl _) (by rw [List.length_map, List.length_map, zr_len]; omega)
  obtain ⟨x, go⟩ := ext_go (u := 3) (fi := 2) (B := zr (1 - s) (R.length : Nat)) (δ0 := []) (by decide) (by rw [zr_len]; omega) (zr (1 - s) (W : Nat)) [] [some (fldD h R), some (.int s), some (.ref M.length), none, none] rfl (by simp) inner (by rw [zr_len]; simp; omega)
  rw [List.nil_append] at go
  have it : aRng2 (aCons (eOp (gInt fun i j => .int (i - j)) (eC (.int 1)) (eVar 1)) (aCons (eB gLen (aCons (eOp gIx (eOp gIx (eVar 0) (eC (.int 1))) (eC (.int 0))) aNil)) aNil)) [some (fldD h R), some (.int s), some (.ref M.length), none, none] (M ++ [.lst []]) = some ((zr (1 - s) (W : Nat)).map D.int, M ++ [.lst []]) := rng2Z (cons_of (op_of x_eC rfl rfl) (cons_of (wide_of ok rfl) x_aNil)) (by omega) (by omega)
  rcases go with go | go
  · exact seq_nx (for_ it go) (ret_of (frz_end rfl))
  · exact seq_nx (for_ it go) (ret_of (frz_end rfl))
/-- the cells near a place -/
def nearB (p : Int × Int) (s m : Int) (q : Int × Int) : Bool := (decide (p.1 - m ≤ q.1) && decide (q.1 < p.1 + s + m)) && (decide (p.2 - m ≤ q.2) && decide (q.2 < p.2 + s + m))
def nearC (W L : Int) (p : Int × Int) (s m : Int) : List (Int × Int) := (allC W L).filter (nearB p s m)
theorem near_go {f : D} {p : Int × Int} {s m : Int} {M l : Mh} : ∀ (A acc : List (Int × Int)) (x y : Option D), acc.length + A.length ≤ 900 →
    ∃ x' y', forGo (gTp (gsCons (gN 7) (gsCons (gN 8) gsNil))) (sIf (tAn (tV (eChain (gInt fun i j => .bl (decide (i ≤ j))) (gInt fun i j => .bl (decide (i < j))) (eOp (gInt fun i j => .int (i - j)) (eVar 4) (eVar 3)) (eVar 7) (eOp gAdd (eOp gAdd (eVar 4) (eVar 2)) (eVar 3)))) (tV (eChain (gInt fun i j => .bl (decide (i ≤ j))) (gInt fun i j => .bl (decide (i < j))) (eOp (gInt fun i j => .int (i - j)) (eVar 5) (eVar 3)) (eVar 8) (eOp gAdd (eOp gAdd (eVar 5) (eVar 2)) (eVar 3))))) (sE (eMeth2 gApp (eVar 6) (aCons (eTup (aCons (eVar 7) (aCons (eVar 8) aNil))) aNil))) sNil) (A.map cellD) [some f, some (cellD p), some (.int s), some (.int m), some (.int p.1), some (.int p.2), some (.ref M.length), x, y] (M ++ (.lst (acc.map cellD) :: l)) = some (.nx [some f, some (cellD p), some (.int s), some (.int m), some (.int p.1), some (.int p.2), some (.ref M.length), x', y'] (M ++ (.lst ((acc ++ A.filter (nearB p s m)).map cellD) :: l)))
  | [], acc, x, y, _ => ⟨x, y, by rw [List.filter_nil, List.append_nil]; exact forN_⟩
  | q :: A, acc, x, y, hl => by
    rw [List.length_cons] at hl
    have t : tAn (tV (eChain (gInt fun i j => .bl (decide (i ≤ j))) (gInt fun i j => .bl (decide (i < j))) (eOp (gInt fun i j => .int (i - j)) (eVar 4) (eVar 3)) (eVar 7) (eOp gAdd (eOp gAdd (eVar 4) (eVar 2)) (eVar 3)))) (tV (eChain (gInt fun i j => .bl (decide (i ≤ j))) (gInt fun i j => .bl (decide (i < j))) (eOp (gInt fun i j => .int (i - j)) (eVar 5) (eVar 3)) (eVar 8) (eOp gAdd (eOp gAdd (eVar 5) (eVar 2)) (eVar 3)))) [some f, some (cellD p), some (.int s), some (.int m), some (.int p.1), some (.int p.2), some (.ref M.length), some (.int q.1), some (.int q.2)] (M ++ (.lst (acc.map cellD) :: l)) = some (nearB p s m q, M ++ (.lst (acc.map cellD) :: l)) := by
      have one : ∀ {a b c : EF} {i j k : Int} {δ : Pl.Env} {N : Mh}, a δ N = some (.int i, N) → b δ N = some (.int j, N) → c δ N = some (.int k, N) → tV (eChain (gInt fun i j => .bl (decide (i ≤ j))) (gInt fun i j => .bl (decide (i < j))) a b c) δ N = some (decide (i ≤ j) && decide (j < k), N) := fun {a b c i j k δ N} h1 h2 h3 => by
        refine v_bl (chain_ (x := decide (i ≤ j)) (M3 := N) h1 h2 rfl ?_)
        cases decide (i ≤ j) with
        | true =>
          rw [cond_true, Bool.true_and]
          exact op_of x_eC h3 rfl
        | false => rfl
      have t1 := one (a := eOp (gInt fun i j => .int (i - j)) (eVar 4) (eVar 3)) (b := eVar 7) (c := eOp gAdd (eOp gAdd (eVar 4) (eVar 2)) (eVar 3)) (δ := [some f, some (cellD p), some (.int s), some (.int m), some (.int p.1), some (.int p.2), some (.ref M.length), some (.int q.1), some (.int q.2)]) (N := M ++ (.lst (acc.map cellD) :: l)) (i := p.1 - m) (j := q.1) (k := p.1 + s + m) (op_of rfl rfl rfl) rfl (op_of (op_of rfl rfl rfl) rfl rfl)
      have t2 := one (a := eOp (gInt fun i j => .int (i - j)) (eVar 5) (eVar 3)) (b := eVar 8) (c := eOp gAdd (eOp gAdd (eVar 5) (eVar 2)) (eVar 3)) (δ := [some f, some (cellD p), some (.int s), some (.int m), some (.int p.1), some (.int p.2), some (.ref M.length), some (.int q.1), some (.int q.2)]) (N := M ++ (.lst (acc.map cellD) :: l)) (i := p.2 - m) (j := q.2) (k := p.2 + s + m) (op_of rfl rfl rfl) rfl (op_of (op_of rfl rfl rfl) rfl rfl)
      unfold nearB
      cases hb : (decide (p.1 - m ≤ q.1) && decide (q.1 < p.1 + s + m)) with
      | true =>
        rw [hb] at t1
        rw [Bool.true_and]
        exact an1 t1 t2
      | false =>
        rw [hb] at t1
        rw [Bool.false_and]
        exact an0 t1
    rw [List.map_cons, List.filter_cons]
    cases hb : nearB p s m q with
    | true =>
      rw [hb] at t
      obtain ⟨x', y', ih⟩ := near_go (f := f) (p := p) (s := s) (m := m) (M := M) (l := l) A (acc ++ [q]) (some (.int q.1)) (some (.int q.2)) (by rw [List.length_append]; simp; omega)
      rw [List.append_assoc] at ih
      refine ⟨x', y', ?_⟩
      rw [if_pos rfl]
      refine forC_ (δ1 := [some f, some (cellD p), some (.int s), some (.int m), some (.int p.1), some (.int p.2), some (.ref M.length), some (.int q.1), some (.int q.2)]) (δ2 := [some f, some (cellD p), some (.int s), some (.int m), some (.int p.1), some (.int p.2), some (.ref M.length), some (.int q.1), some (.int q.2)]) (M2 := M ++ (.lst ((acc ++ [q]).map cellD) :: l)) rfl (if_tt t (se_ (d := .non) ?_)) ih
      rw [List.map_append]
      exact app_mid rfl (cons_of (x_eTup (ds := [.int q.1, .int q.2]) (cons_of rfl (cons_of rfl x_aNil)) (by simp)) x_aNil) (by rw [List.length_map]; omega)
    | false =>
      rw [hb] at t
      obtain ⟨x', y', ih⟩ := near_go (f := f) (p := p) (s := s) (m := m) (M := M) (l := l) A acc (some (.int q.1)) (some (.int q.2)) (by omega)
      refine ⟨x', y', ?_⟩
      rw [if_neg (by decide)]
      exact forC_ (δ1 := [some f, some (cellD p), some (.int s), some (.int m), some (.int p.1), some (.int p.2), some (.ref M.length), some (.int q.1), some (.int q.2)]) (δ2 := [some f, some (cellD p), some (.int s), some (.int m), some (.int p.1), some (.int p.2), some (.ref M.length), some (.int q.1), some (.int q.2)]) (M2 := M ++ (.lst (acc.map cellD) :: l)) rfl (if_ff t nil_of) ih
theorem frz_mid {i : Nat} {δ : Pl.Env} {M l : Mh} {xs : List D} (h : δ[i]? = some (some (.ref M.length))) : eFrz i δ (M ++ (.lst xs :: l)) = some (.lst xs, M ++ (.dead :: l)) := by
  unfold eFrz
  rw [h]
  dsimp only
  rw [show (M ++ (MO.lst xs :: l))[M.length]? = some (.lst xs) by simp]
  simp
theorem allC_len {W L : Int} (hW : 0 ≤ W ∧ W ≤ 8) (hL : 0 ≤ L ∧ L ≤ 8) : (allC W L).length ≤ 64 := by
  unfold allC
  rw [prod_len, zr_len, zr_len]
  exact Nat.le_trans (Nat.mul_le_mul (show (W - 0).toNat ≤ 8 by omega) (show (L - 0).toNat ≤ 8 by omega)) (by decide)
theorem near_sp (ok : FldOk h R W) (p : Int × Int) (s m : Int) (M : Mh) : ff_law_near [fldD h R, cellD p, .int s, .int m] M = some (.lst ((nearC (W : Nat) (R.length : Nat) p s m).map cellD), M ++ [.dead, .dead]) := by
  obtain ⟨d1, d2⟩ := ok.dim
  have al := allC_len d1 d2
  obtain ⟨x', y', go⟩ := near_go (f := fldD h R) (p := p) (s := s) (m := m) (M := M) (l := [.dead]) (allC (W : Nat) (R.length : Nat)) [] none none (by simp; omega)
  rw [List.nil_append] at go
  refine fn_rt ?_
  show gg_law_near [some (fldD h R), some (cellD p), some (.int s), some (.int m), none, none, none, none, none] M = _
  unfold gg_law_near
  refine seq_as (M1 := M) (δ' := [some (fldD h R), some (cellD p), some (.int s), some (.int m), some (.int p.1), some (.int p.2), none, none, none]) rfl rfl ?_
  refine seq_as (M1 := M ++ [.lst []]) (δ' := [some (fldD h R), some (cellD p), some (.int s), some (.int m), some (.int p.1), some (.int p.2), some (.ref M.length), none, none]) (new_ x_aNil (by simp)) rfl ?_
  have hc : ff_law_cells ([fldD h R] ++ []) (M ++ [MO.lst []]) = some (.lst ((allC (W : Nat) (R.length : Nat)).map cellD), M ++ (MO.lst [] :: [.dead])) := by
    rw [List.append_nil, cells_sp ok, List.append_assoc]
    rfl
  have ha : aCons (eVar 0) aNil [some (fldD h R), some (cellD p), some (.int s), some (.int m), some (.int p.1), some (.int p.2), some (.ref M.length), none, none] (M ++ [MO.lst []]) = some ([fldD h R], M ++ [MO.lst []]) := cons_of rfl x_aNil
  have it : aItems (eCall ff_law_cells (aCons (eVar 0) aNil) []) [some (fldD h R), some (cellD p), some (.int s), some (.int m), some (.int p.1), some (.int p.2), some (.ref M.length), none, none] (M ++ [MO.lst []]) = some ((allC (W : Nat) (R.length : Nat)).map cellD, M ++ (MO.lst [] :: [.dead])) := itemsL_ (call_of ha hc)
  refine seq_nx (for_ it go) (ret_of ?_)
  exact frz_mid rfl
end
end Law
namespace Law
open PySem L2 Pl Pl.Ev
theorem near_eq (W L : Int) (p : Int × Int) (s m : Int) : nearC W L p s m = cells W L (p.1 - m) (p.2 - m) (p.1 + s + m) (p.2 + s + m) := by
  unfold nearC allC nearB cells
  rw [prod_filter (fun i => decide (p.1 - m ≤ i) && decide (i < p.1 + s + m)) (fun j => decide (p.2 - m ≤ j) && decide (j < p.2 + s + m)), zr_filter _ _ _ 0 W rfl, zr_filter _ _ _ 0 L rfl]
  congr 2
  · split <;> split <;> omega
  · split <;> split <;> omega
  · split <;> split <;> omega
  · split <;> split <;> omega
theorem under_eq (W L : Int) (p : Int × Int) (s : Int) : nearC W L p s 0 = cells W L p.1 p.2 (p.1 + s) (p.2 + s) := by
  rw [near_eq, Int.sub_zero, Int.sub_zero, Int.add_zero, Int.add_zero]
theorem ring_eq (W L : Int) (p : Int × Int) (s : Int) : ((nearC W L p s 1).filter fun q => !decide (q ∈ nearC W L p s 0)) = ringC W L p s := by
  unfold ringC
  rw [under_eq, near_eq]
theorem near_mem {W L : Int} {p q : Int × Int} {s m : Int} : q ∈ nearC W L p s m ↔ ((0 ≤ q.1 ∧ q.1 < W) ∧ 0 ≤ q.2 ∧ q.2 < L) ∧ (p.1 - m ≤ q.1 ∧ q.1 < p.1 + s + m) ∧ p.2 - m ≤ q.2 ∧ q.2 < p.2 + s + m := by
  unfold nearC allC nearB
  rw [List.mem_filter, prod_mem, zr_mem, zr_mem]
  simp only [Bool.and_eq_true, decide_eq_true_eq]
theorem spots_mem {W L s : Int} {p : Int × Int} : p ∈ spotsC W L s ↔ (1 - s ≤ p.1 ∧ p.1 < W) ∧ 1 - s ≤ p.2 ∧ p.2 < L := by
  unfold spotsC
  rw [prod_mem, zr_mem, zr_mem]
theorem under_ne {W L s : Int} {p : Int × Int} (hs : 1 ≤ s) (hW : 1 ≤ W) (hL : 1 ≤ L) (h : p ∈ spotsC W L s) : nearC W L p s 0 ≠ [] := fun e => by
  have hm := spots_mem.mp h
  have : ((if p.1 < 0 then 0 else p.1, if p.2 < 0 then 0 else p.2) : Int × Int) ∈ nearC W L p s 0 := by
    refine near_mem.mpr ?_
    dsimp only
    refine ⟨⟨?_, ?_⟩, ?_, ?_⟩ <;> split <;> omega
  rw [e] at this
  cases this
theorem near_len {W L : Int} {p : Int × Int} {s m : Int} (hW : 0 ≤ W ∧ W ≤ 8) (hL : 0 ≤ L ∧ L ≤ 8) : (nearC W L p s m).length ≤ 64 := Nat.le_trans (List.length_filter_le _ _) (allC_len hW hL)
end Law
namespace Law
open PySem L2 Pl Pl.Ev
structure Bz (Ts : Mh) (n : Nat) (B : Int) (M : Mh) : Prop where
  a : At n B M
  le : Ts.length ≤ n
  z : ∀ i, i < Ts.length → M[i]? = Ts[i]?
theorem Bz.up {Ts : Mh} {n : Nat} {B C : Int} {M : Mh} (h : Bz Ts n B M) (l : B ≤ C) : Bz Ts n C M := ⟨h.a.up l, h.le, h.z⟩
theorem Bz.apps {Ts : Mh} {n : Nat} {B : Int} {M : Mh} (h : Bz Ts n B M) (l : List MO) : Bz Ts n B (M ++ l) := ⟨h.a.apps l, h.le, fun i hi => by
  have := h.a.lt
  have := h.le
  rw [List.getElem?_append_left (by omega)]
  exact h.z i hi⟩
theorem Bz.set {Ts : Mh} {n j : Nat} {B : Int} {M : Mh} {m : MO} (h : Bz Ts n B M) (hj : n < j) : Bz Ts n B (M.set j m) := ⟨h.a.set (by omega), h.le, fun i hi => by
  have := h.le
  rw [List.getElem?_set_ne (by omega)]
  exact h.z i hi⟩
theorem dgB {Ts : Mh} {n : Nat} {M : Mh} {B many : Int} {δ : Pl.Env} {i : Nat} {fm : EF} (h0 : δ[i]? = some (some (.ref n))) (hm : fm δ M = some (.int many, M)) (h : Bz Ts n B M) (hB : B < 2 ^ 57) (m0 : 0 < many) (m1 : many ≤ 1000000) :
    ∃ (f : Nat) (M' : Mh), eCall ff_law_digit (aCons (eVar i) (aCons fm aNil)) [] δ M = some (.int f, M') ∧ (f : Int) < many ∧ Bz Ts n (B + 4) M' ∧ Fr n M M' := by
  obtain ⟨f, M1, e, p, f1, r⟩ := dgE h0 hm h.a hB m0 m1
  exact ⟨f, M1, e, f1, ⟨p, h.le, fun i hi => by
    have := h.le
    rw [r i (by omega)]
    exact h.z i hi⟩, r⟩
/-- one and what is drawn -/
theorem dg1 {Ts : Mh} {n : Nat} {M : Mh} {B many : Int} {δ : Pl.Env} {i : Nat} {fm : EF} (h0 : δ[i]? = some (some (.ref n))) (hm : fm δ M = some (.int many, M)) (h : Bz Ts n B M) (hB : B < 2 ^ 57) (m0 : 0 < many) (m1 : many ≤ 1000000) :
    ∃ (v : Int) (M' : Mh), eOp gAdd (eC (.int 1)) (eCall ff_law_digit (aCons (eVar i) (aCons fm aNil)) []) δ M = some (.int v, M') ∧ (1 ≤ v ∧ v ≤ many) ∧ Bz Ts n (B + 4) M' ∧ Fr n M M' := by
  obtain ⟨f, M1, e, f1, p, r⟩ := dgB h0 hm h hB m0 m1
  exact ⟨1 + f, M1, op_of x_eC e rfl, by omega, p, r⟩
def RwOk (l : List Int) (W : Nat) (h : Int) : Prop := l.length = W ∧ ∀ x ∈ l, 0 ≤ x ∧ x ≤ h
def Rw (base k W : Nat) (h : Int) (M : Mh) : Prop := ∀ b, b < k → ∃ l : List Int, RwOk l W h ∧ M[base + b]? = some (.lst (l.map D.int))
theorem Rw.fr {base k W n : Nat} {h : Int} {M M' : Mh} (r : Rw base k W h M) (hn : n < base) (f : Fr n M M') : Rw base k W h M' := fun b hb => by
  obtain ⟨l, o, e⟩ := r b hb
  exact ⟨l, o, by rw [f _ (by omega)]; exact e⟩
theorem set_map (l : List Int) (m : Nat) (z : Int) : (l.map D.int).set m (.int z) = (l.set m z).map D.int := by rw [List.map_set]
theorem RwOk.set {l : List Int} {W : Nat} {h : Int} (r : RwOk l W h) (m : Nat) {z : Int} (hz : 0 ≤ z ∧ z ≤ h) : RwOk (l.set m z) W h := by
  refine ⟨by rw [List.length_set]; exact r.1, fun x hx => ?_⟩
  rcases List.mem_or_eq_of_mem_set hx with h1 | h1
  · exact r.2 x h1
  · rw [h1]; exact hz
theorem Rw.put {base k W : Nat} {h : Int} {M : Mh} (r : Rw base k W h M) {b : Nat} (hb : b < k) (m : Nat) {z : Int} (hz : 0 ≤ z ∧ z ≤ h) {l : List Int} (o : RwOk l W h) : Rw base k W h (M.set (base + b) (.lst ((l.map D.int).set m (.int z)))) := fun c hc => by
  by_cases hcb : c = b
  · subst hcb
    obtain ⟨l0, _, e0⟩ := r c hc
    refine ⟨l.set m z, o.set m hz, ?_⟩
    rw [set_map, List.getElem?_set_self (List.getElem?_eq_some_iff.mp e0).1]
  · obtain ⟨l0, o0, e0⟩ := r c hc
    exact ⟨l0, o0, by rw [List.getElem?_set_ne (by omega)]; exact e0⟩
/-- the rows' names -/
def refs (base k : Nat) : List D := (List.range k).map fun b => .ref (base + b)
theorem refs_at {base k b : Nat} (h : b < k) : (refs base k)[b]? = some (.ref (base + b)) := by
  unfold refs
  rw [List.getElem?_map, List.getElem?_range h]
  rfl
theorem put_step {Ts : Mh} {n base k W : Nat} {h z : Int} {B : Int} {M : Mh} {δ : Pl.Env} {b a : Nat} (h5 : δ[5]? = some (some (.lst (refs base k)))) (h12 : δ[12]? = some (some (.int b))) (h13 : δ[13]? = some (some (.int a))) (h9 : δ[9]? = some (some (.int z))) (hb : b < k) (ha : a < W) (hz : 0 ≤ z ∧ z ≤ h) (hn : n < base) (r : Rw base k W h M) (p : Bz Ts n B M) :
    ∃ M', sLput (eOp gIx (eVar 5) (eVar 12)) (eVar 13) (eVar 9) δ M = some (.nx δ M') ∧ Rw base k W h M' ∧ Bz Ts n B M' := by
  obtain ⟨l, o, e⟩ := r b hb
  refine ⟨M.set (base + b) (.lst ((l.map D.int).set a (.int z))), ?_, r.put hb a hz o, p.set (by omega)⟩
  have hi : eOp gIx (eVar 5) (eVar 12) δ M = some (.ref (base + b), M) := op_of (var_ h5) (var_ h12) (by
    show (atI (refs base k) (b : Int)).map _ = _
    rw [atI_nat (refs_at hb)]
    rfl)
  unfold sLput
  rw [var_ h9]
  dsimp only
  rw [hi]
  dsimp only
  rw [var_ h13]
  dsimp only
  unfold gLput
  dsimp only
  rw [e]
  dsimp only
  rw [show ixN (l.map D.int).length (a : Int) = some a from by
    have : (l.map D.int).length = W := by rw [List.length_map]; exact o.1
    rw [this]
    unfold ixN
    rw [if_pos (by omega), if_pos (by omega)]
    simp]
end Law
namespace Law
open PySem L2 Pl Pl.Ev
def sPut : SF := sLput (eOp gIx (eVar 5) (eVar 12)) (eVar 13) (eVar 9)
/-- what stands but for slots 12 and 13 -/
def Same (δ δ' : Pl.Env) : Prop := δ'.length = δ.length ∧ ∀ i, i ≠ 12 → i ≠ 13 → δ'[i]? = δ[i]?
theorem Same.refl (δ : Pl.Env) : Same δ δ := ⟨rfl, fun _ _ _ => rfl⟩
theorem Same.trans {a b c : Pl.Env} (h : Same a b) (k : Same b c) : Same a c := ⟨k.1.trans h.1, fun i h1 h2 => (k.2 i h1 h2).trans (h.2 i h1 h2)⟩
theorem Same.set {δ : Pl.Env} {i : Nat} (hi : i = 12 ∨ i = 13) (d : Option D) : Same δ (δ.set i d) := ⟨List.length_set, fun j h1 h2 => List.getElem?_set_ne (by omega)⟩
theorem put_go {Ts : Mh} {n base k W : Nat} {h z : Int} {B : Int} {b : Nat} (hb : b < k) (hz : 0 ≤ z ∧ z ≤ h) (hn : n < base) : ∀ (A : List Int) (δ : Pl.Env) (M : Mh), (∀ x ∈ A, 0 ≤ x ∧ x < W) → δ.length = 15 → δ[5]? = some (some (.lst (refs base k))) → δ[12]? = some (some (.int b)) → δ[9]? = some (some (.int z)) → Rw base k W h M → Bz Ts n B M →
    ∃ δ' M', forGo (gN 13) sPut (A.map D.int) δ M = some (.nx δ' M') ∧ Same δ δ' ∧ Rw base k W h M' ∧ Bz Ts n B M'
  | [], δ, M, _, _, _, _, _, r, p => ⟨δ, M, forN_, Same.refl δ, r, p⟩
  | x :: A, δ, M, hA, hl, h5, h12, h9, r, p => by
    have hx := hA x List.mem_cons_self
    obtain ⟨a, rfl⟩ := Int.eq_ofNat_of_zero_le hx.1
    have g5 : (δ.set 13 (some (.int a)))[5]? = some (some (.lst (refs base k))) := by rw [List.getElem?_set_ne (by decide)]; exact h5
    have g12 : (δ.set 13 (some (.int a)))[12]? = some (some (.int b)) := by rw [List.getElem?_set_ne (by decide)]; exact h12
    have g9 : (δ.set 13 (some (.int a)))[9]? = some (some (.int z)) := by rw [List.getElem?_set_ne (by decide)]; exact h9
    have g13 : (δ.set 13 (some (.int a)))[13]? = some (some (.int a)) := by rw [List.getElem?_set_self (by omega)]
    obtain ⟨M1, e1, r1, p1⟩ := put_step g5 g12 g13 g9 hb (by omega) hz hn r p
    obtain ⟨δ', M', e2, s2, r2, p2⟩ := put_go hb hz hn A (δ.set 13 (some (.int a))) M1 (fun y hy => hA y (List.mem_cons_of_mem _ hy)) (by rw [List.length_set]; exact hl) g5 g12 g9 r1 p1
    exact ⟨δ', M', forC_ (δ1 := δ.set 13 (some (.int a))) rfl e1 e2, (Same.set (.inr rfl) _).trans s2, r2, p2⟩
/-- the numbers of a range are small -/
theorem rng2_e {i j : Nat} {a b : Int} {δ : Pl.Env} {M : Mh} (h1 : δ[i]? = some (some (.int a))) (h2 : δ[j]? = some (some (.int b))) (ha : 0 ≤ a ∧ a ≤ 100) (hb : 0 ≤ b ∧ b ≤ 100) : aRng2 (aCons (eVar i) (aCons (eVar j) aNil)) δ M = some ((zr a b).map D.int, M) := by
  unfold aRng2
  rw [cons_of (var_ h1) (cons_of (var_ h2) x_aNil)]
  dsimp only
  rw [if_pos (by omega), zr_rng]
def sWin : SF := sFor (aRng2 (aCons (eVar 8) (aCons (eVar 10) aNil))) (gN 13) sPut
theorem win_go {Ts : Mh} {n base k W : Nat} {h z : Int} {B : Int} {a1 a2 : Int} (ha : 0 ≤ a1 ∧ a1 ≤ 100) (ha2 : 0 ≤ a2 ∧ a2 ≤ W) (hW : W ≤ 100) (hz : 0 ≤ z ∧ z ≤ h) (hn : n < base) : ∀ (A : List Int) (δ : Pl.Env) (M : Mh), (∀ x ∈ A, 0 ≤ x ∧ x < k) → δ.length = 15 → δ[5]? = some (some (.lst (refs base k))) → δ[8]? = some (some (.int a1)) → δ[10]? = some (some (.int a2)) → δ[9]? = some (some (.int z)) → Rw base k W h M → Bz Ts n B M →
    ∃ δ' M', forGo (gN 12) sWin (A.map D.int) δ M = some (.nx δ' M') ∧ Same δ δ' ∧ Rw base k W h M' ∧ Bz Ts n B M'
  | [], δ, M, _, _, _, _, _, _, r, p => ⟨δ, M, forN_, Same.refl δ, r, p⟩
  | x :: A, δ, M, hA, hl, h5, h8, h10, h9, r, p => by
    have hx := hA x List.mem_cons_self
    obtain ⟨b, rfl⟩ := Int.eq_ofNat_of_zero_le hx.1
    have g5 : (δ.set 12 (some (.int b)))[5]? = some (some (.lst (refs base k))) := by rw [List.getElem?_set_ne (by decide)]; exact h5
    have g8 : (δ.set 12 (some (.int b)))[8]? = some (some (.int a1)) := by rw [List.getElem?_set_ne (by decide)]; exact h8
    have g10 : (δ.set 12 (some (.int b)))[10]? = some (some (.int a2)) := by rw [List.getElem?_set_ne (by decide)]; exact h10
    have g9 : (δ.set 12 (some (.int b)))[9]? = some (some (.int z)) := by rw [List.getElem?_set_ne (by decide)]; exact h9
    have g12 : (δ.set 12 (some (.int b)))[12]? = some (some (.int b)) := by rw [List.getElem?_set_self (by omega)]
    obtain ⟨δ1, M1, e1, s1, r1, p1⟩ := put_go (b := b) (k := k) (by omega) hz hn (zr a1 a2) (δ.set 12 (some (.int b))) M (fun y hy => by
      have := zr_mem.mp hy
      omega) (by rw [List.length_set]; exact hl) g5 g12 g9 r p
    have e0 : sWin (δ.set 12 (some (.int b))) M = some (.nx δ1 M1) := for_ (rng2_e g8 g10 ha (by omega)) e1
    obtain ⟨δ', M', e2, s2, r2, p2⟩ := win_go ha ha2 hW hz hn A δ1 M1 (fun y hy => hA y (List.mem_cons_of_mem _ hy)) (by rw [s1.1, List.length_set]; exact hl) ((s1.2 5 (by decide) (by decide)).trans g5) ((s1.2 8 (by decide) (by decide)).trans g8) ((s1.2 10 (by decide) (by decide)).trans g10) ((s1.2 9 (by decide) (by decide)).trans g9) r1 p1
    exact ⟨δ', M', forC_ (δ1 := δ.set 12 (some (.int b))) rfl e0 e2, ((Same.set (.inl rfl) _).trans s1).trans s2, r2, p2⟩
end Law
namespace Law
open PySem L2 Pl Pl.Ev
structure Tn (δ : Pl.Env) (n W k base : Nat) (h : Int) : Prop where
  l : δ.length = 15
  g0 : δ[0]? = some (some (.ref n))
  g2 : δ[2]? = some (some (.int W))
  g3 : δ[3]? = some (some (.int k))
  g4 : δ[4]? = some (some (.int h))
  g5 : δ[5]? = some (some (.lst (refs base k)))
theorem Tn.set {δ : Pl.Env} {n W k base : Nat} {h : Int} (t : Tn δ n W k base h) {i : Nat} (hi : 6 ≤ i) (d : Option D) : Tn (δ.set i d) n W k base h :=
  ⟨by rw [List.length_set]; exact t.l, by rw [List.getElem?_set_ne (by omega)]; exact t.g0, by rw [List.getElem?_set_ne (by omega)]; exact t.g2, by rw [List.getElem?_set_ne (by omega)]; exact t.g3, by rw [List.getElem?_set_ne (by omega)]; exact t.g4, by rw [List.getElem?_set_ne (by omega)]; exact t.g5⟩
theorem Tn.same {δ δ' : Pl.Env} {n W k base : Nat} {h : Int} (t : Tn δ n W k base h) (s : Same δ δ') : Tn δ' n W k base h :=
  ⟨s.1.trans t.l, (s.2 0 (by decide) (by decide)).trans t.g0, (s.2 2 (by decide) (by decide)).trans t.g2, (s.2 3 (by decide) (by decide)).trans t.g3, (s.2 4 (by decide) (by decide)).trans t.g4, (s.2 5 (by decide) (by decide)).trans t.g5⟩
theorem par3_e {i j l : Nat} {f g h : EF} {δ : Pl.Env} {M M1 M2 M3 : Mh} {d e u : D} (h1 : f δ M = some (d, M1)) (h2 : g δ M1 = some (e, M2)) (h3 : h δ M2 = some (u, M3)) : sPar3 i j l f g h δ M = some (.nx (((δ.set i (some d)).set j (some e)).set l (some u)) M3) := by
  unfold sPar3; rw [h1]; dsimp only; rw [h2]; dsimp only; rw [h3]
noncomputable def eDg (fm : EF) : EF := eCall ff_law_digit (aCons (eVar 0) (aCons fm aNil)) []
noncomputable def eUpTo (a b : Nat) : EF := eOp gAdd (eOp gAdd (eVar a) (eC (.int 1))) (eDg (eOp (gInt fun i j => .int (i - j)) (eVar b) (eVar a)))
/-- up to at most the side -/
theorem upto_e {Ts : Mh} {n : Nat} {M : Mh} {B : Int} {δ : Pl.Env} {a b : Nat} {x s : Int} (h0 : δ[0]? = some (some (.ref n))) (ha : δ[a]? = some (some (.int x))) (hb : δ[b]? = some (some (.int s))) (hx : 0 ≤ x ∧ x < s) (hs : s ≤ 100) (p : Bz Ts n B M) (hB : B < 2 ^ 56) :
    ∃ (y : Int) (M' : Mh), eUpTo a b δ M = some (.int y, M') ∧ (x < y ∧ y ≤ s) ∧ Bz Ts n (B + 4) M' ∧ Fr n M M' := by
  obtain ⟨f, M1, e, f1, p1, r1⟩ := dgB (i := 0) (fm := eOp (gInt fun i j => .int (i - j)) (eVar b) (eVar a)) (many := s - x) h0 (op_of (var_ hb) (var_ ha) rfl) p (by omega) (by omega) (by omega)
  exact ⟨x + 1 + f, M1, op_of (op_of (var_ ha) x_eC rfl) e rfl, by omega, p1, r1⟩
noncomputable def sTurn : SF := sSeq (sPar3 8 6 9 (eDg (eVar 2)) (eDg (eVar 3)) (eDg (eOp gAdd (eVar 4) (eC (.int 1))))) (sSeq (sPar 10 11 (eUpTo 8 2) (eUpTo 6 3)) (sFor (aRng2 (aCons (eVar 6) (aCons (eVar 11) aNil))) (gN 12) sWin))
theorem turn_step {Ts : Mh} {n base k W : Nat} {h : Int} {B : Int} {δ : Pl.Env} {M : Mh} (t : Tn δ n W k base h) (hW : 1 ≤ W ∧ W ≤ 50) (hk : 1 ≤ k ∧ k ≤ 50) (hh : 1 ≤ h ∧ h ≤ 50) (hn : n < base) (r : Rw base k W h M) (p : Bz Ts n B M) (hB : B < 2 ^ 55) :
    ∃ δ' M', sTurn δ M = some (.nx δ' M') ∧ Tn δ' n W k base h ∧ Rw base k W h M' ∧ Bz Ts n (B + 20) M' := by
  obtain ⟨i, M1, e1, b1, p1, f1⟩ := dgB (i := 0) (fm := eVar 2) (many := W) t.g0 (var_ t.g2) p (by omega) (by omega) (by omega)
  obtain ⟨j, M2, e2, b2, p2, f2⟩ := dgB (i := 0) (fm := eVar 3) (many := k) t.g0 (var_ t.g3) p1 (by omega) (by omega) (by omega)
  obtain ⟨z, M3, e3, b3, p3, f3⟩ := dgB (i := 0) (fm := eOp gAdd (eVar 4) (eC (.int 1))) (many := h + 1) t.g0 (op_of (var_ t.g4) x_eC rfl) p2 (by omega) (by omega) (by omega)
  have l1 := t.l
  have t1 := ((t.set (i := 8) (by decide) (some (.int i))).set (i := 6) (by decide) (some (.int j))).set (i := 9) (by decide) (some (.int z))
  have q0 := par3_e (i := 8) (j := 6) (l := 9) e1 e2 e3
  have g8 : (((δ.set 8 (some (.int i))).set 6 (some (.int j))).set 9 (some (.int z)))[8]? = some (some (.int i)) := by
    rw [List.getElem?_set_ne (by decide), List.getElem?_set_ne (by decide), List.getElem?_set_self (by omega)]
  have g6 : (((δ.set 8 (some (.int i))).set 6 (some (.int j))).set 9 (some (.int z)))[6]? = some (some (.int j)) := by
    rw [List.getElem?_set_ne (by decide), List.getElem?_set_self (by rw [List.length_set]; omega)]
  have g9 : (((δ.set 8 (some (.int i))).set 6 (some (.int j))).set 9 (some (.int z)))[9]? = some (some (.int z)) := by
    rw [List.getElem?_set_self (by rw [List.length_set, List.length_set]; omega)]
  revert q0 g8 g6 g9 t1
  generalize ((δ.set 8 (some (.int i))).set 6 (some (.int j))).set 9 (some (.int z)) = δ1
  intro t1 q0 g8 g6 g9
  obtain ⟨y1, M4, e4, b4, p4, f4⟩ := upto_e (a := 8) (b := 2) t1.g0 g8 t1.g2 (by omega) (by omega) p3 (by omega)
  obtain ⟨y2, M5, e5, b5, p5, f5⟩ := upto_e (a := 6) (b := 3) t1.g0 g6 t1.g3 (by omega) (by omega) p4 (by omega)
  have l2 := t1.l
  have q1 := par_e (i := 10) (j := 11) e4 e5
  have t2 := (t1.set (i := 10) (by decide) (some (.int y1))).set (i := 11) (by decide) (some (.int y2))
  have h8 : ((δ1.set 10 (some (.int y1))).set 11 (some (.int y2)))[8]? = some (some (.int i)) := by
    rw [List.getElem?_set_ne (by decide), List.getElem?_set_ne (by decide)]; exact g8
  have h6 : ((δ1.set 10 (some (.int y1))).set 11 (some (.int y2)))[6]? = some (some (.int j)) := by
    rw [List.getElem?_set_ne (by decide), List.getElem?_set_ne (by decide)]; exact g6
  have h9 : ((δ1.set 10 (some (.int y1))).set 11 (some (.int y2)))[9]? = some (some (.int z)) := by
    rw [List.getElem?_set_ne (by decide), List.getElem?_set_ne (by decide)]; exact g9
  have h10 : ((δ1.set 10 (some (.int y1))).set 11 (some (.int y2)))[10]? = some (some (.int y1)) := by
    rw [List.getElem?_set_ne (by decide), List.getElem?_set_self (by omega)]
  have h11 : ((δ1.set 10 (some (.int y1))).set 11 (some (.int y2)))[11]? = some (some (.int y2)) := by
    rw [List.getElem?_set_self (by rw [List.length_set]; omega)]
  revert q1 t2 h8 h6 h9 h10 h11
  generalize (δ1.set 10 (some (.int y1))).set 11 (some (.int y2)) = δ2
  intro q1 t2 h8 h6 h9 h10 h11
  have r5 := ((((r.fr hn f1).fr hn f2).fr hn f3).fr hn f4).fr hn f5
  obtain ⟨δ3, M6, e6, s6, r6, p6⟩ := win_go (z := z) (a1 := i) (a2 := y1) (by omega) (by omega) (by omega) (by omega) hn (zr j y2) δ2 M5 (fun y hy => by
    have := zr_mem.mp hy
    omega) t2.l t2.g5 h8 h10 h9 r5 p5
  exact ⟨δ3, M6, seq_ q0 (seq_ q1 (for_ (rng2_e h6 h11 (by omega) (by omega)) e6)), t2.same s6, r6, p6.up (by omega)⟩
theorem turn_go {Ts : Mh} {n base k W : Nat} {h : Int} (hW : 1 ≤ W ∧ W ≤ 50) (hk : 1 ≤ k ∧ k ≤ 50) (hh : 1 ≤ h ∧ h ≤ 50) (hn : n < base) : ∀ (A : List D) (B : Int) (δ : Pl.Env) (M : Mh), Tn δ n W k base h → Rw base k W h M → Bz Ts n B M → B + 20 * A.length < 2 ^ 55 →
    ∃ δ' M', forGo (gN 7) sTurn A δ M = some (.nx δ' M') ∧ Tn δ' n W k base h ∧ Rw base k W h M' ∧ Bz Ts n (B + 20 * A.length) M'
  | [], B, δ, M, t, r, p, _ => ⟨δ, M, forN_, t, r, p.up (by simp)⟩
  | d :: A, B, δ, M, t, r, p, hB => by
    rw [List.length_cons] at hB ⊢
    obtain ⟨δ1, M1, e1, t1, r1, p1⟩ := turn_step (t.set (i := 7) (by decide) (some d)) hW hk hh hn r p (by omega)
    obtain ⟨δ', M', e2, t2, r2, p2⟩ := turn_go hW hk hh hn A (B + 20) δ1 M1 t1 r1 p1 (by omega)
    exact ⟨δ', M', forC_ (δ1 := δ.set 7 (some d)) rfl e1 e2, t2, r2, p2.up (by omega)⟩
end Law
namespace Law
open PySem L2 Pl Pl.Ev
theorem refs_cons (base k : Nat) : refs base (k + 1) = .ref base :: refs (base + 1) k := by
  unfold refs
  rw [List.range_succ_eq_map, List.map_cons, List.map_map]
  congr 1
  refine List.map_congr_left fun n _ => ?_
  show D.ref (base + (n + 1)) = D.ref (base + 1 + n)
  congr 1
  omega
theorem flat_one (x : D) : ∀ m : Nat, (List.replicate m [x]).flatten = List.replicate m x
  | 0 => rfl
  | m + 1 => by rw [List.replicate_succ, List.flatten_cons, flat_one x m]; rfl
noncomputable def eRow : EF := eOp gMulN (eLst (aCons (eVar 4) aNil)) (eVar 2)
theorem row_new {W : Nat} {h : Int} {δ : Pl.Env} {M : Mh} (h4 : δ[4]? = some (some (.int h))) (h2 : δ[2]? = some (some (.int W))) (hW : W ≤ 50) : eRow δ M = some (.ref M.length, M ++ [MO.lst (List.replicate W (D.int h))]) := by
  refine op_of (x_eLst (cons_of (var_ h4) x_aNil) (by simp)) (var_ h2) ?_
  unfold gMulN lstT
  dsimp only
  rw [if_pos ⟨by omega, by omega, by
    show 1 * (W : Int).toNat ≤ sizeLine
    have : (50 : Nat) ≤ sizeLine := by decide
    omega⟩]
  rw [show ((W : Int).toNat) = W from Int.toNat_natCast W, flat_one]
theorem rows_new {W : Nat} {h : Int} (hW : W ≤ 50) : ∀ (A : List D) (δ : Pl.Env) (M : Mh), δ[4]? = some (some (.int h)) → δ[2]? = some (some (.int W)) → lcGo (gN 6) tTrue eRow A δ M = some (refs M.length A.length, M ++ List.replicate A.length (MO.lst (List.replicate W (D.int h))))
  | [], δ, M, _, _ => by rw [show List.replicate ([] : List D).length (MO.lst (List.replicate W (D.int h))) = [] from rfl, List.append_nil]; exact lcN_
  | d :: A, δ, M, h4, h2 => by
    have ih := rows_new hW A δ (M ++ [MO.lst (List.replicate W (D.int h))]) h4 h2
    rw [List.length_append, List.append_assoc] at ih
    rw [List.length_cons, refs_cons, List.replicate_succ]
    exact lcC_ (x := true) (M1 := M) (δ1 := δ.set 6 (some d)) rfl tt_ (lcY_ (row_new (by rw [List.getElem?_set_ne (by decide)]; exact h4) (by rw [List.getElem?_set_ne (by decide)]; exact h2) hW) ih)
theorem rw_new {W k : Nat} {h : Int} (M : Mh) (hh : 0 ≤ h) : Rw M.length k W h (M ++ List.replicate k (MO.lst (List.replicate W (D.int h)))) := fun b hb => by
  refine ⟨List.replicate W h, ⟨List.length_replicate, fun x hx => ?_⟩, ?_⟩
  · rw [List.eq_of_mem_replicate hx]; omega
  · rw [List.getElem?_append_right (by omega), List.map_replicate, List.getElem?_replicate, if_pos (by omega)]
/-- the rows, no longer changing -/
theorem rows_tup {W : Nat} {h : Int} : ∀ (k base : Nat) (δ : Pl.Env) (M : Mh), δ.length = 15 → Rw base k W h M → ∃ R : List (List Int), R.length = k ∧ (∀ r ∈ R, RwOk r W h) ∧ lcGo (gN 14) tTrue (eB gTupOf (aCons (eVar 14) aNil)) (refs base k) δ M = some (R.map fun r => D.tup (r.map D.int), M)
  | 0, base, δ, M, _, _ => ⟨[], rfl, fun _ h => (List.not_mem_nil h).elim, lcN_⟩
  | k + 1, base, δ, M, hl, r => by
    obtain ⟨l, o, e⟩ := r 0 (by omega)
    obtain ⟨R, h1, h2, h3⟩ := rows_tup k (base + 1) δ M hl (fun b hb => by
      have := r (b + 1) (by omega)
      rw [show base + 1 + b = base + (b + 1) by omega]
      exact this)
    refine ⟨l :: R, by rw [List.length_cons, h1], fun x hx => ?_, ?_⟩
    · rcases List.mem_cons.mp hx with rfl | hx
      · exact o
      · exact h2 x hx
    · rw [refs_cons, List.map_cons]
      refine lcC_ (x := true) (M1 := M) (δ1 := δ.set 14 (some (.ref base))) rfl tt_ (lcY_ ?_ h3)
      rw [x_eB, cons_of (var_ (d := .ref base) (by rw [List.getElem?_set_self (by omega)])) x_aNil]
      dsimp only
      unfold gTupOf
      dsimp only [lstOf]
      rw [show M[base]? = some (.lst (l.map D.int)) from e]
end Law
namespace Law
open PySem L2 Pl Pl.Ev
theorem cut_front {α : Type} (xs : List α) (k : Nat) : cutD xs none (some (k : Int)) = xs.take k := by
  unfold cutD
  rw [HT.sIx_nat, HT.sIx_none, List.drop_zero, Nat.sub_zero]
  by_cases h : k ≤ xs.length
  · rw [Nat.min_eq_left h]
  · rw [Nat.min_eq_right (by omega), List.take_of_length_le (Nat.le_refl _), List.take_of_length_le (by omega)]
noncomputable def tTl : TF := tOrr (tNt (tV (eCall ff_is_tool (aCons (eVar 2) aNil) []))) (tV (eOp (gIn fun b => b) (eVar 2) (eSl (eVar 0) pNone (pSome (eVar 1)))))
theorem sl_frontT {xs : List D} {k : Nat} {z : Option D} {M : Mh} : eSl (eVar 0) pNone (pSome (eVar 1)) [some (.tup xs), some (.int (k : Nat)), z] M = some (.tup (xs.take k), M) := by
  unfold eSl
  rw [show eVar 0 [some (D.tup xs), some (.int (k : Nat)), z] M = some (.tup xs, M) from rfl]
  dsimp only
  rw [show pNone [some (D.tup xs), some (.int (k : Nat)), z] M = some (none, M) from rfl]
  dsimp only
  rw [show pSome (eVar 1) [some (D.tup xs), some (.int (k : Nat)), z] M = some (some (k : Int), M) from rfl]
  dsimp only
  rw [cut_front]
theorem take_at {A : List (Int × Int)} {ys : List D} : (A.map cellD ++ ys).take A.length = A.map cellD := List.take_left' (by rw [List.length_map])
theorem tl_good {A : List (Int × Int)} {c : Int × Int} {ys : List D} (hc : ToolOk c) (hn : c ∉ A) (M : Mh) : tTl [some (.tup (A.map cellD ++ ys)), some (.int (A.length : Nat)), some (cellD c)] M = some (false, M) := by
  refine or0 (M1 := M) (nt_of (b := true) (v_bl (call_of (cons_of rfl x_aNil) (tool_ok hc M)))) (v_bl (op_of rfl sl_frontT ?_))
  rw [take_at, (in_cells (fun b => b) c A M).1, decide_eq_false hn]
theorem tl_go : ∀ (B A : List (Int × Int)) (x y : Option D) (M : Mh), (∀ c ∈ B, ToolOk c) → (A ++ B).Nodup → ∃ x' y', forGo (gTp (gsCons (gN 1) (gsCons (gN 2) gsNil))) (sIf tTl sNever sNil) (enumX A.length (B.map cellD)) [some (.tup (A.map cellD ++ B.map cellD)), x, y] M = some (.nx [some (.tup (A.map cellD ++ B.map cellD)), x', y'] M)
  | [], A, x, y, M, _, _ => ⟨x, y, forN_⟩
  | c :: B, A, x, y, M, h, nd => by
    have nd' : ((A ++ [c]) ++ B).Nodup := by rw [List.append_assoc]; exact nd
    have hn : c ∉ A := fun hm => (List.nodup_append.mp nd).2.2 c hm c List.mem_cons_self rfl
    obtain ⟨x', y', ih⟩ := tl_go B (A ++ [c]) (some (.int (A.length : Nat))) (some (cellD c)) M (fun d hd => h d (List.mem_cons_of_mem _ hd)) nd'
    rw [List.length_append, List.length_singleton, List.map_append, List.append_assoc] at ih
    refine ⟨x', y', ?_⟩
    rw [List.map_cons]
    exact forC_ (δ1 := [some (.tup (A.map cellD ++ (cellD c :: B.map cellD))), some (.int (A.length : Nat)), some (cellD c)]) (δ2 := [some (.tup (A.map cellD ++ (cellD c :: B.map cellD))), some (.int (A.length : Nat)), some (cellD c)]) (M2 := M) rfl (if_ff (tl_good (h c List.mem_cons_self) hn M) nil_of) ih
theorem len_gt {L : List D} {k : Int} {δ : Pl.Env} {M : Mh} {f : EF} (h : f δ M = some (.tup L, M)) : tV (eOp (gInt fun i j => .bl (decide (j < i))) (eB gLen (aCons f aNil)) (eC (.int k))) δ M = some (decide (k < (L.length : Nat)), M) := v_bl (op_of (lenT h) x_eC rfl)
theorem need_tools_ok {ct : CT} {B : List (Int × Int)} (h : ∀ c ∈ B, ToolOk c) (nd : B.Nodup) (hl : B.length ≤ 4) (M : Mh) : ff_need_tools [.tup (B.map cellD)] M = some (.non, M) := by
  obtain ⟨x', y', go⟩ := tl_go B [] none none M h nd
  refine fnN_ (δ' := [some (.tup (B.map cellD)), x', y']) ?_
  show gg_need_tools [some (.tup (B.map cellD)), none, none] M = _
  unfold gg_need_tools
  refine seq_if0 (M1 := M) (or0 (M1 := M) (nt_of (b := true) (v_bl (isi_of (t := "tuple") rfl rfl kit_tt))) ((len_gt rfl).trans ?_)) ?_
  · rw [List.length_map, decide_eq_false (by omega)]
  · exact for_ (enumT_of (W := B.map cellD) rfl) go
end Law
namespace Law
open PySem L2 Pl Pl.Ev
def Gt (t : Int × Int) : List (Int × Int) := t :: ([((1 : Int), (6 : Int)), (4, 1), (2, 3)].filter fun u => !decide (u = t))
end Law
namespace Law
open PySem L2 Pl Pl.Ev
theorem spots_len {W L s : Int} (hW : 0 ≤ W ∧ W ≤ 8) (hL : 0 ≤ L ∧ L ≤ 8) (hs : 1 ≤ s ∧ s ≤ 4) : (spotsC W L s).length ≤ 144 := by
  unfold spotsC
  rw [prod_len, zr_len, zr_len]
  exact Nat.le_trans (Nat.mul_le_mul (show (W - (1 - s)).toNat ≤ 12 by omega) (show (L - (1 - s)).toNat ≤ 12 by omega)) (by decide)
end Law
namespace Law
open PySem L2 Pl Pl.Ev
def Fz (Ts M : Mh) : Prop := Ts.length ≤ M.length ∧ ∀ i, i < Ts.length → M[i]? = Ts[i]?
theorem drawB {Ts M : Mh} {cell k : Int} (k0 : 0 ≤ k) (k1 : k ≤ 1000) (h : Fz Ts M) : ∃ M', ff_law_draw [.int cell, .int k] M = some (.ref M.length, M') ∧ Bz Ts M.length 1000000 M' := by
  obtain ⟨m, e, a⟩ := draw_X (M := M) (cell := cell) k0 k1
  refine ⟨_, e, a, h.1, fun i hi => ?_⟩
  have := h.1
  rw [List.getElem?_append_left (by omega)]
  exact h.2 i hi
end Law
namespace Law
open PySem L2 Pl Pl.Ev
def at2 (R : List (List Int)) (c : Int × Int) : Int := (R.getD c.2.toNat []).getD c.1.toNat 0
def InB (W L : Int) (c : Int × Int) : Prop := (0 ≤ c.1 ∧ c.1 < W) ∧ 0 ≤ c.2 ∧ c.2 < L
theorem ixT_nat {xs : List D} {i : Nat} {d : D} {M : Mh} (h : xs[i]? = some d) : gIx (.tup xs) (.int (i : Nat)) M = some (d, M) := by
  show (atI xs (i : Int)).map _ = _
  rw [atI_nat h]
  rfl
theorem at_ix {h : Int} {R : List (List Int)} {W : Nat} (ok : FldOk h R W) {c : Int × Int} (hc : InB (W : Nat) (R.length : Nat) c) (M : Mh) :
    ∃ r : List Int, gIx (.tup (R.map fun r => D.tup (r.map D.int))) (.int c.2) M = some (.tup (r.map D.int), M) ∧ gIx (.tup (r.map D.int)) (.int c.1) M = some (.int (at2 R c), M) ∧ (0 ≤ at2 R c ∧ at2 R c ≤ h) := by
  obtain ⟨i, j⟩ := c
  obtain ⟨⟨h1, h2⟩, h3, h4⟩ := hc
  dsimp only at h1 h2 h3 h4
  obtain ⟨n, rfl⟩ := Int.eq_ofNat_of_zero_le h3
  obtain ⟨m, rfl⟩ := Int.eq_ofNat_of_zero_le h1
  have hn : n < R.length := by omega
  have hr := ok.r R[n] (List.getElem_mem hn)
  have hm : m < (R[n]).length := by rw [hr.1]; omega
  have ea : at2 R ((m : Int), (n : Int)) = (R[n])[m] := by
    unfold at2
    simp [List.getD_eq_getElem?_getD, List.getElem?_eq_getElem hn, List.getElem?_eq_getElem hm]
  refine ⟨R[n], ixT_nat (by rw [List.getElem?_map, List.getElem?_eq_getElem hn]; rfl), ?_, ?_⟩
  · refine (ixT_nat (i := m) (d := .int (R[n])[m]) (by rw [List.getElem?_map, List.getElem?_eq_getElem hm]; rfl)).trans ?_
    rw [ea]
  · rw [ea]
    exact hr.2 _ (List.getElem_mem hm)
theorem height_sp {h : Int} {R : List (List Int)} {W : Nat} (ok : FldOk h R W) {c : Int × Int} (hc : InB (W : Nat) (R.length : Nat) c) (M : Mh) : ff_height_of [fldD h R, cellD c] M = some (.int (at2 R c), M) := by
  obtain ⟨r, e1, e2, _⟩ := at_ix ok hc M
  refine fn_rt ?_
  show gg_height_of [some (fldD h R), some (cellD c), none, none] M = _
  unfold gg_height_of
  refine seq_as (M1 := M) (δ' := [some (fldD h R), some (cellD c), some (.int c.1), some (.int c.2)]) rfl rfl ?_
  exact ret_of (op_of (op_of (op_of rfl x_eC rfl) rfl e1) rfl e2)
theorem aim_sp {h : Int} {R : List (List Int)} {W : Nat} (ok : FldOk h R W) {c : Int × Int} (hc : InB (W : Nat) (R.length : Nat) c) (M : Mh) : ff_law_aim [fldD h R, cellD c] M = some (.int (at2 R c), M) := by
  obtain ⟨r, e1, e2, _⟩ := at_ix ok hc M
  refine fn_rt ?_
  show gg_law_aim [some (fldD h R), some (cellD c)] M = _
  unfold gg_law_aim
  exact ret_of (op_of (op_of (op_of rfl x_eC rfl) (op_of rfl x_eC ix_c1) e1) (op_of rfl x_eC ix_c0) e2)
def rowsOf (g : Int × Int → Int) (W L : Nat) : List (List Int) := (zr 0 (L : Nat)).map fun j => (zr 0 (W : Nat)).map fun i => g (i, j)
theorem zr_at {L n : Nat} (h : n < L) : (zr 0 (L : Nat))[n]? = some (n : Int) := by
  unfold zr
  rw [List.getElem?_map, List.getElem?_range (by omega)]
  simp
theorem rows_len (g : Int × Int → Int) (W L : Nat) : (rowsOf g W L).length = L := by
  unfold rowsOf
  rw [List.length_map, zr_len]
  omega
theorem at_rows {g : Int × Int → Int} {W L : Nat} {c : Int × Int} (hc : InB (W : Nat) (L : Nat) c) : at2 (rowsOf g W L) c = g c := by
  obtain ⟨i, j⟩ := c
  obtain ⟨⟨h1, h2⟩, h3, h4⟩ := hc
  dsimp only at h1 h2 h3 h4
  obtain ⟨n, rfl⟩ := Int.eq_ofNat_of_zero_le h3
  obtain ⟨m, rfl⟩ := Int.eq_ofNat_of_zero_le h1
  have e1 := zr_at (L := L) (n := n) (by omega)
  have e2 := zr_at (L := W) (n := m) (by omega)
  unfold at2 rowsOf
  simp [List.getD_eq_getElem?_getD, List.getElem?_map, e1, e2]
def dctOf (g : Int × Int → Int) (A : List (Int × Int)) : List (List Int × D) := A.map fun c => ([c.1, c.2], .int (g c))
theorem val_dct {g : Int × Int → Int} {c : Int × Int} : ∀ {A : List (Int × Int)}, c ∈ A → valD (dctOf g A) [c.1, c.2] = some (.int (g c))
  | [], h => (List.not_mem_nil h).elim
  | a :: A, h => by
    by_cases e : a = c
    · subst e
      simp [valD, dctOf]
    · have h' : c ∈ A := by
        rcases List.mem_cons.mp h with q | q
        · exact absurd q.symm e
        · exact q
      have ne : ¬ ([a.1, a.2] : List Int) = [c.1, c.2] := fun q => e (by
        simp only [List.cons.injEq, and_true] at q
        exact Prod.ext q.1 q.2)
      have ih := val_dct (g := g) h'
      unfold valD dctOf at ih ⊢
      rw [List.map_cons, List.find?_cons, decide_eq_false ne]
      exact ih
theorem ixC_e {fa fb : EF} {δ : Pl.Env} {M : Mh} {n : Nat} {g : Int × Int → Int} {A : List (Int × Int)} {c : Int × Int} (h1 : fa δ M = some (.ref n, M)) (hM : M[n]? = some (.dct (dctOf g A))) (h2 : fb δ M = some (cellD c, M)) (hc : c ∈ A) : eOp gIxC fa fb δ M = some (.int (g c), M) := by
  refine op_of h1 h2 ?_
  unfold gIxC cellD
  dsimp only
  rw [hM]
  show (valD (dctOf g A) [c.1, c.2]).map _ = _
  rw [val_dct hc]
  rfl
theorem lc_all {α : Type} {emb f : α → D} {v : Nat} {e : EF} {δ : Pl.Env} {M : Mh} : ∀ A : List α, (∀ a ∈ A, e (δ.set v (some (emb a))) M = some (f a, M)) → lcGo (gN v) tTrue e (A.map emb) δ M = some (A.map f, M)
  | [], _ => lcN_
  | a :: A, h => by
    have ih := lc_all (emb := emb) (f := f) (e := e) (δ := δ) (v := v) (M := M) A fun b hb => h b (List.mem_cons_of_mem _ hb)
    rw [List.map_cons, List.map_cons]
    exact lcC_ (x := true) (M1 := M) (δ1 := δ.set v (some (emb a))) rfl tt_ (lcY_ (p := gN v) (t := tTrue) (ds := A.map emb) (δ := δ) (δ1 := δ.set v (some (emb a))) (h a List.mem_cons_self) ih)
end Law
namespace Law
open PySem L2 Pl Pl.Ev
theorem near_in {W L : Int} {p q : Int × Int} {s m : Int} (h : q ∈ nearC W L p s m) : InB W L q := (near_mem.mp h).1
theorem max_e {f : EF} {δ : Pl.Env} {M : Mh} {m : Int} {is : List Int} (h : f δ M = some (.lst ((m :: is).map D.int), M)) : eB gMaxL (aCons f aNil) δ M = some (.int (maxI m is), M) := by
  rw [x_eB, cons_of h x_aNil]
  show gMaxL [.lst ((m :: is).map D.int)] M = _
  unfold gMaxL
  dsimp only [lstOf]
  rw [ints_of]
end Law
namespace Law
open PySem L2 Pl Pl.Ev
theorem add_ref {A B : List D} {n : Nat} {M : Mh} (hM : M[n]? = some (.lst B)) (h : A.length + B.length ≤ 1000) : gAdd (.lst A) (.ref n) M = some (.lst (A ++ B), M) := by
  show (match lstT M (.lst A), lstT M (.ref n) with
    | some xs, some ys => if xs.length + ys.length ≤ sizeLine then some (D.lst (xs ++ ys), M) else none
    | _, _ => none) = _
  have e1 : lstT M (.lst A) = some A := rfl
  have e2 : lstT M (.ref n) = some B := by
    unfold lstT
    dsimp only
    rw [hM]
  rw [e1, e2]
  exact if_pos (Nat.le_trans h (by decide))
theorem lcLive_ {vs : List Nat} {q : AF} {p : GF} {t : TF} {f : EF} {ds ys : List D} {δ δ1 : Pl.Env} {M M1 M2 : Mh} (h : q δ M = some (ds, M1)) (hw : (some (wipeD δ vs) : Option Pl.Env) = some δ1) (k : lcGo p t f ds δ1 M1 = some (ys, M2)) (hl : ys.length ≤ 1000) : eLcN vs q p t f δ M = some (.ref M2.length, M2 ++ [.lst ys]) := by
  cases hw
  unfold eLcN
  rw [h]
  dsimp only
  rw [k]
  exact if_pos (Nat.le_trans hl (by decide))
end Law
namespace Law
open PySem L2 Pl Pl.Ev
theorem zr_nodup (a b : Int) : (zr a b).Nodup := by
  unfold zr
  exact List.Pairwise.map _ (fun x y hxy => by
    show a + (x : Int) ≠ a + (y : Int)
    omega) List.nodup_range
theorem prod_nodup : ∀ {A B : List Int}, A.Nodup → B.Nodup → (prod A B).Nodup
  | [], B, _, _ => List.nodup_nil
  | i :: A, B, hA, hB => by
    rw [prod_cons]
    have hA' := List.nodup_cons.mp hA
    refine List.nodup_append.mpr ⟨List.Pairwise.map _ (fun x y hxy q => hxy (Prod.mk.inj q).2) hB, prod_nodup hA'.2 hB, fun x hx y hy e => ?_⟩
    subst e
    obtain ⟨j, _, rfl⟩ := List.mem_map.mp hx
    exact hA'.1 (prod_mem.mp hy).1
theorem allC_nodup (W L : Int) : (allC W L).Nodup := prod_nodup (zr_nodup _ _) (zr_nodup _ _)
theorem dct_keys {g : Int × Int → Int} {A : List (Int × Int)} (h : A.Nodup) : ((dctOf g A).map (·.1)).Nodup := by
  unfold dctOf
  rw [List.map_map]
  exact List.Pairwise.map _ (fun x y hxy q => hxy (by
    have q' : ([x.1, x.2] : List Int) = [y.1, y.2] := q
    simp only [List.cons.injEq, and_true] at q'
    exact Prod.ext q'.1 q'.2)) h
theorem pairs_dct {g : Int × Int → Int} : ∀ A : List (Int × Int), pairsD (A.map fun c => D.tup [cellD c, .int (g c)]) = some (dctOf g A)
  | [] => rfl
  | c :: A => by
    have ih := pairs_dct (g := g) A
    rw [List.map_cons]
    unfold cellD at ih ⊢
    unfold pairsD
    rw [ih]
    rfl
section
variable {ct : CT} {h : Int} {R : List (List Int)} {W : Nat}
theorem solid_sp (ok : FldOk h R W) (M : Mh) : ff_solid [fldD h R] M = some (fldD h (R.map fun r => r.map fun _ => h), M) := by
  have w := ok.w
  have l := ok.l
  refine fn_rt ?_
  show gg_solid [some (fldD h R), none, none, none] M = _
  unfold gg_solid
  refine seq_nx (se_ (call_of (cons_of rfl x_aNil) (need_field_ok ok M))) ?_
  refine seq_as (M1 := M) (δ' := [some (fldD h R), some (.int h), none, none]) (op_of rfl x_eC rfl) rfl ?_
  have inner : ∀ r ∈ R, eB gTupOf (aCons (eLc [2] (aItems (eVar 3)) (gN 2) tTrue (eVar 1)) aNil) (([some (fldD h R), some (.int h), none, none] : Pl.Env).set 3 (some (.tup (r.map D.int)))) M = some (.tup ((r.map fun _ => h).map D.int), M) := fun r hr => by
    have lr := (ok.r r hr).1
    refine tupL ?_
    rw [List.map_map]
    exact lc_ (δ1 := [some (fldD h R), some (.int h), none, some (.tup (r.map D.int))]) (itemsT_ rfl) rfl (lc_all (emb := D.int) (f := D.int ∘ fun _ => h) _ fun i hi => rfl) (by rw [List.length_map]; omega)
  refine ret_of (tup_ (ds := [.int h, .tup ((R.map fun r => r.map fun _ => h).map fun r => .tup (r.map D.int))]) (cons_of rfl (cons_of (tupL (lc_ (δ1 := [some (fldD h R), some (.int h), none, none]) (itemsT_ (ds := R.map fun (r : List Int) => D.tup (r.map D.int)) (op_of rfl x_eC rfl)) rfl ((lc_all (emb := fun (r : List Int) => D.tup (r.map D.int)) (f := fun (r : List Int) => D.tup ((r.map fun _ => h).map D.int)) _ inner).trans ?_) ?_)) x_aNil)) (by simp))
  · rw [List.map_map]
    rfl
  · rw [List.length_map, List.length_map]; omega
theorem solid_eq (ok : FldOk h R W) : (R.map fun r => r.map fun _ => h) = rowsOf (fun _ => h) W R.length := by
  have e1 : (R.map fun r => r.map fun _ => h) = List.replicate R.length (List.replicate W h) := by
    rw [List.eq_replicate_iff]
    refine ⟨by rw [List.length_map], fun r hr => ?_⟩
    obtain ⟨q, hq, rfl⟩ := List.mem_map.mp hr
    rw [List.eq_replicate_iff]
    refine ⟨by rw [List.length_map]; exact (ok.r q hq).1, fun x hx => ?_⟩
    obtain ⟨_, _, rfl⟩ := List.mem_map.mp hx
    rfl
  have e2 : rowsOf (fun _ => h) W R.length = List.replicate R.length (List.replicate W h) := by
    rw [List.eq_replicate_iff]
    refine ⟨rows_len _ _ _, fun r hr => ?_⟩
    unfold rowsOf at hr
    obtain ⟨q, hq, rfl⟩ := List.mem_map.mp hr
    rw [List.eq_replicate_iff]
    refine ⟨by rw [List.length_map, zr_len]; omega, fun x hx => ?_⟩
    obtain ⟨_, _, rfl⟩ := List.mem_map.mp hx
    rfl
  rw [e1, e2]
end
end Law
namespace Law
open PySem L2 Pl Pl.Ev
section
variable {ct : CT} {h : Int} {R : List (List Int)} {W : Nat} {t : Int × Int}
/-- what stands for good while a tool is tried -/
structure Stk (Ts : Mh) (n k : Nat) (g : Int × Int → Int) (C : List (Int × Int)) (B : Int) (M : Mh) : Prop where
  p : Bz Ts n B M
  kn : k ≠ n
  d : M[k]? = some (.dct (dctOf g C))
theorem Stk.apps {Ts : Mh} {n k : Nat} {g : Int × Int → Int} {C : List (Int × Int)} {B : Int} {M : Mh} (s : Stk Ts n k g C B M) (l : Mh) : Stk Ts n k g C B (M ++ l) := ⟨s.p.apps l, s.kn, by
  rw [List.getElem?_append_left (List.getElem?_eq_some_iff.mp s.d).1]
  exact s.d⟩
theorem Stk.fr {Ts : Mh} {n k : Nat} {g : Int × Int → Int} {C : List (Int × Int)} {B B' : Int} {M M' : Mh} (s : Stk Ts n k g C B M) (p : Bz Ts n B' M') (f : Fr n M M') : Stk Ts n k g C B' M' := ⟨p, s.kn, by
  rw [f k s.kn]
  exact s.d⟩
theorem Stk.up {Ts : Mh} {n k : Nat} {g : Int × Int → Int} {C : List (Int × Int)} {B B' : Int} {M : Mh} (s : Stk Ts n k g C B M) (h : B ≤ B') : Stk Ts n k g C B' M := ⟨s.p.up h, s.kn, s.d⟩
end
end Law
namespace Law
open PySem L2 Pl Pl.Ev
inductive Cm where
  | tool (s l : Int) | go (x y : Int) | down (z : Int) | cut (x y : Int) | up
def Cm.d : Cm → D
  | .tool s l => .tup [.str "tool", .int s, .int l]
  | .go x y => .tup [.str "go", .int x, .int y]
  | .down z => .tup [.str "down", .int z]
  | .cut x y => .tup [.str "cut", .int x, .int y]
  | .up => .tup [.str "up"]
def Cm.Ok : Cm → Prop
  | .tool s l => (1 ≤ s ∧ s ≤ 4) ∧ 1 ≤ l ∧ l ≤ 6
  | .go x y => (-3 ≤ x ∧ x ≤ 7) ∧ -3 ≤ y ∧ y ≤ 7
  | .down z => 0 ≤ z ∧ z ≤ 5
  | .cut x y => (-3 ≤ x ∧ x ≤ 7) ∧ -3 ≤ y ∧ y ≤ 7
  | .up => True
/-- what the machine stands at -/
structure Sx where
  t : Option (Int × Int)
  p : Int × Int
  z : Int
  h : Int
  R : List (List Int)
def toolD : Option (Int × Int) → D
  | none => .tup []
  | some t => cellD t
def Sx.d (s : Sx) : D := .tup [toolD s.t, .int s.p.1, .int s.p.2, .int s.z, fldD s.h s.R]
def inb (W L s x y : Int) : Bool := (decide (-s < x) && decide (x < W)) && (decide (-s < y) && decide (y < L))
end Law
namespace Law
open PySem L2 Pl Pl.Ev
def Cm.w : Cm → Str
  | .tool _ _ => "tool"
  | .go _ _ => "go"
  | .down _ => "down"
  | .cut _ _ => "cut"
  | .up => "up"
def Cm.a : Cm → List Int
  | .tool s l => [s, l]
  | .go x y => [x, y]
  | .down z => [z]
  | .cut x y => [x, y]
  | .up => []
def Cm.p (c : Cm) : PyData := .tuple (.str c.w :: c.a.map PyData.int)
end Law
namespace Law
open PySem L2 Pl Pl.Ev
theorem wh_nx {c : TF} {b : SF} {δ δ' : Pl.Env} {M M1 M' : Mh} {r : Option Out} (h1 : c δ M = some (true, M1)) (h2 : b δ M1 = some (.nx δ' M')) (h3 : sWh c b δ' M' = r) : sWh c b δ M = r := by rw [sWh_eq, h1]; dsimp only; rw [h2]; exact h3
theorem wh_no {c : TF} {b : SF} {δ : Pl.Env} {M M1 : Mh} (h1 : c δ M = some (false, M1)) : sWh c b δ M = some (.nx δ M1) := by rw [sWh_eq, h1]
end Law
namespace Law
open PySem L2 Pl Pl.Ev
instance decSOk (x : Str) : Decidable (SOk x) := (inferInstance : Decidable (∀ s ∈ TL.tl x, s < 1114112))
end Law
namespace Law
open PySem L2 Pl Pl.Ev
theorem app_at {M : Mh} {n : Nat} {xs : List D} {d : D} {f : EF} {q : AF} {δ : Pl.Env} (h1 : f δ M = some (.ref n, M)) (hm : M[n]? = some (.lst xs)) (h2 : q δ M = some ([d], M)) (hl : xs.length < 1000) : eMeth2 gApp f q δ M = some (.non, M.set n (.lst (xs ++ [d]))) := by
  unfold eMeth2
  rw [h1]
  dsimp only
  rw [if_pos (show (lstOf M (.ref n)).isSome = true from by
    unfold lstOf
    dsimp only
    rw [hm]
    rfl), h2]
  dsimp only
  unfold gApp
  dsimp only
  rw [hm]
  exact if_pos (Nat.lt_of_lt_of_le hl (by decide))
theorem ext_at {M M2 : Mh} {n : Nat} {xs ys : List D} {f : EF} {q : AF} {δ : Pl.Env} (h1 : f δ M = some (.ref n, M)) (hm : M[n]? = some (.lst xs)) (h2 : q δ M = some ([.lst ys], M2)) (hm2 : M2[n]? = some (.lst xs)) (hl : xs.length + ys.length ≤ 1000) : eMeth2 gExt f q δ M = some (.non, M2.set n (.lst (xs ++ ys))) := by
  unfold eMeth2
  rw [h1]
  dsimp only
  rw [if_pos (show (lstOf M (.ref n)).isSome = true from by
    unfold lstOf
    dsimp only
    rw [hm]
    rfl), h2]
  dsimp only
  unfold gExt
  dsimp only
  rw [hm2]
  exact if_pos (Nat.le_trans hl (by decide))
theorem ix_last {M : Mh} {n : Nat} {xs : List D} {d : D} (hm : M[n]? = some (.lst (xs ++ [d]))) : gIx (.ref n) (.int (-1)) M = some (d, M) := by
  unfold gIx
  dsimp only
  rw [hm]
  dsimp only
  unfold L2.atI L2.ixN
  rw [if_neg (by decide), if_pos (by rw [List.length_append]; simp; omega)]
  have : (-1 + ((xs ++ [d]).length : Int)).toNat = xs.length := by rw [List.length_append]; simp; omega
  simp [this]
  rw [show (-1 + ((xs.length : Int) + 1)).toNat = xs.length by omega]
  simp
end Law
namespace Law
open PySem L2 Pl Pl.Ev
def line (s : Int × Int) : Nat → Int × Int → List (Int × Int)
  | 0, _ => []
  | n + 1, p => (p.1 + s.1, p.2 + s.2) :: line s n (p.1 + s.1, p.2 + s.2)
end Law
namespace Law
open PySem L2 Pl Pl.Ev
theorem dct_put {g : Int × Int → Int} {A : List (Int × Int)} {c : Int × Int} {v : Int} (hc : c ∈ A) : putD (dctOf g A) [c.1, c.2] (.int v) = dctOf (fun d => if d = c then v else g d) A := by
  unfold putD
  rw [val_dct hc, if_pos (show (some (D.int (g c))).isSome = true from rfl)]
  unfold dctOf
  rw [List.map_map]
  refine List.map_congr_left fun d _ => ?_
  show (if ([d.1, d.2] : List Int) = [c.1, c.2] then (([d.1, d.2] : List Int), D.int v) else ([d.1, d.2], D.int (g d))) = ([d.1, d.2], D.int (if d = c then v else g d))
  by_cases e : d = c
  · subst e
    rw [if_pos rfl, if_pos rfl]
  · rw [if_neg e, if_neg fun q => e (by
      simp only [List.cons.injEq, and_true] at q
      exact Prod.ext q.1 q.2)]
theorem val_no {g : Int × Int → Int} {c : Int × Int} : ∀ {A : List (Int × Int)}, c ∉ A → valD (dctOf g A) [c.1, c.2] = none := fun {A} h => by
  unfold valD dctOf
  rw [Option.map_eq_none_iff, List.find?_eq_none]
  intro p hp
  obtain ⟨d, hd, rfl⟩ := List.mem_map.mp hp
  simp only [decide_eq_true_eq, List.cons.injEq, and_true]
  exact fun q => h (by rw [← Prod.ext (x := d) (y := c) q.1 q.2]; exact hd)
theorem lc2_of {vs vs1 : List Nat} {a : AF} {g : GF} {t : TF} {a1 : AF} {g1 : GF} {t1 : TF} {f : EF} {δ δ1 : Pl.Env} {M M1 M2 : Mh} {ds ys : List D} (h : a δ M = some (ds, M1)) (hw : (some (wipeD δ vs) : Option Pl.Env) = some δ1) (k : lcGo2 g t a1 vs1 g1 t1 f ds δ1 M1 = some (ys, M2)) (hl : ys.length ≤ 1000) : eLc2 vs vs1 a g t a1 g1 t1 f δ M = some (.lst ys, M2) := by
  cases hw
  unfold eLc2
  rw [h]
  dsimp only
  rw [k]
  exact if_pos (Nat.le_trans hl (by decide))
section
variable {ct : CT} {h : Int} {R : List (List Int)} {W : Nat} {t : Int × Int}
theorem cellsof_sp (ok : FldOk h R W) (M : Mh) : ff_cells_of [fldD h R] M = some (.lst ((allC (W : Nat) (R.length : Nat)).map cellD), M) := by
  have w := ok.w
  have l := ok.l
  refine fn_rt ?_
  show gg_cells_of [some (fldD h R), none, none, none, none] M = _
  unfold gg_cells_of
  refine seq_as (M1 := M) (δ' := [some (fldD h R), some (.int (W : Nat)), some (.int (R.length : Nat)), none, none]) (call_of (cons_of rfl x_aNil) (sides_sp ok M)) rfl ?_
  refine ret_of ?_
  have r1 : ∀ {x y : Option D}, aRng1 (aCons (eVar 1) aNil) [some (fldD h R), some (.int (W : Nat)), some (.int (R.length : Nat)), x, y] M = some ((zr 0 (W : Nat)).map D.int, M) := fun {x y} => rng1Z (cons_of rfl x_aNil) (by omega)
  have r2 : ∀ {x y : Option D}, aRng1 (aCons (eVar 2) aNil) [some (fldD h R), some (.int (W : Nat)), some (.int (R.length : Nat)), x, y] M = some ((zr 0 (R.length : Nat)).map D.int, M) := fun {x y} => rng1Z (cons_of rfl x_aNil) (by omega)
  have go := lc2_prod (u := 3) (v := 4) (δ := [some (fldD h R), some (.int (W : Nat)), some (.int (R.length : Nat)), none, none]) (M := M) (e := eTup (aCons (eVar 3) (aCons (eVar 4) aNil))) (by simp) (by simp) (fun i => r2) (fun i j => x_eTup (cons_of rfl (cons_of rfl x_aNil)) (by simp)) (zr 0 (W : Nat))
  have al := allC_len (W := (W : Nat)) (L := (R.length : Nat)) (by omega) (by omega)
  exact lc2_of (δ1 := [some (fldD h R), some (.int (W : Nat)), some (.int (R.length : Nat)), none, none]) r1 rfl go (by rw [List.length_map]; exact Nat.le_trans al (by decide))
theorem dcGo_all {g : Int × Int → Int} {v : Nat} {e : EF} {δ : Pl.Env} {M : Mh} (hv : v < δ.length) : ∀ (A P : List (Int × Int)), (P ++ A).Nodup → (P ++ A).length ≤ 900 → (∀ a ∈ A, e (δ.set v (some (cellD a))) M = some (.int (g a), M)) → dcGo (gN v) tTrue (eVar v) e (A.map cellD) (dctOf g P) δ M = some (dctOf g (P ++ A), M)
  | [], P, _, _, _ => by rw [List.append_nil]; rfl
  | a :: A, P, hn, hl, h => by
    have na : a ∉ P := fun q => by
      have := (List.nodup_append.mp hn).2.2 a q a List.mem_cons_self
      exact this rfl
    have pd : putD (dctOf g P) [a.1, a.2] (.int (g a)) = dctOf g (P ++ [a]) := by
      unfold putD
      rw [val_no na]
      unfold dctOf
      rw [List.map_append]
      rfl
    have ih := dcGo_all (g := g) (e := e) (δ := δ) (M := M) hv A (P ++ [a]) (by rw [List.append_assoc]; exact hn) (by rw [List.append_assoc]; exact hl) fun b hb => h b (List.mem_cons_of_mem _ hb)
    rw [List.append_assoc, List.singleton_append] at ih
    rw [List.map_cons]
    unfold dcGo
    rw [show gN v (cellD a) δ = some (δ.set v (some (cellD a))) from rfl]
    dsimp only
    rw [tt_]
    dsimp only
    rw [var_ (d := cellD a) (by rw [List.getElem?_set_self hv])]
    dsimp only
    rw [h a List.mem_cons_self]
    dsimp only
    rw [show keyC (cellD a) = some [a.1, a.2] from rfl]
    dsimp only
    rw [if_pos (show (dctOf g P).length < sizeLine from Nat.lt_of_lt_of_le (by unfold dctOf; rw [List.length_map]; rw [List.length_append, List.length_cons] at hl; omega : (dctOf g P).length < 1000) (by decide)), pd]
    exact ih
theorem heights_sp (ok : FldOk h R W) (M : Mh) : ff_heights_of [fldD h R] M = some (.ref M.length, M ++ [.dct (dctOf (at2 R) (allC (W : Nat) (R.length : Nat)))]) := by
  have w := ok.w
  have l := ok.l
  have al := allC_len (W := (W : Nat)) (L := (R.length : Nat)) (by omega) (by omega)
  refine fn_rt ?_
  show gg_heights_of [some (fldD h R), none] M = _
  unfold gg_heights_of
  refine ret_of ?_
  unfold eDcC
  rw [itemsL_ (call_of (cons_of rfl x_aNil) (cellsof_sp ok M))]
  dsimp only
  have go := dcGo_all (g := at2 R) (v := 1) (e := eCall ff_height_of (aCons (eVar 0) (aCons (eVar 1) aNil)) []) (δ := [some (fldD h R), none]) (M := M) (by simp) (allC (W : Nat) (R.length : Nat)) [] (allC_nodup _ _) (by show (allC _ _).length ≤ 900; omega) fun c hc => call_of (cons_of rfl (cons_of rfl x_aNil)) (height_sp ok (by
    obtain ⟨a, b⟩ := prod_mem.mp hc
    exact ⟨zr_mem.mp a, zr_mem.mp b⟩) M)
  rw [show wipeD [some (fldD h R), none] [1] = [some (fldD h R), none] from rfl]
  rw [List.nil_append] at go
  rw [show dctOf (at2 R) [] = [] from rfl] at go
  rw [go]
theorem fieldby_sp (ok : FldOk h R W) {n : Nat} {g : Int × Int → Int} {M : Mh} (hM : M[n]? = some (.dct (dctOf g (allC (W : Nat) (R.length : Nat))))) : ff_field_by [fldD h R, .ref n] M = some (fldD h (rowsOf g W R.length), M) := by
  have w := ok.w
  have l := ok.l
  refine fn_rt ?_
  show gg_field_by [some (fldD h R), some (.ref n), none, none, none, none] M = _
  unfold gg_field_by
  refine seq_as (M1 := M) (δ' := [some (fldD h R), some (.ref n), some (.int (W : Nat)), some (.int (R.length : Nat)), none, none]) (call_of (cons_of rfl x_aNil) (sides_sp ok M)) rfl ?_
  have inner : ∀ j ∈ zr 0 (R.length : Nat), eB gTupOf (aCons (eLc [4] (aRng1 (aCons (eVar 2) aNil)) (gN 4) tTrue (eOp gIxC (eVar 1) (eTup (aCons (eVar 4) (aCons (eVar 5) aNil))))) aNil) (([some (fldD h R), some (.ref n), some (.int (W : Nat)), some (.int (R.length : Nat)), none, none] : Pl.Env).set 5 (some (.int j))) M = some (.tup (((zr 0 (W : Nat)).map fun i => g (i, j)).map D.int), M) := fun j hj => by
    refine tupL ?_
    rw [List.map_map]
    refine lc_ (δ1 := [some (fldD h R), some (.ref n), some (.int (W : Nat)), some (.int (R.length : Nat)), none, some (.int j)]) (rng1Z (cons_of rfl x_aNil) (by omega)) rfl (lc_all (emb := D.int) (f := D.int ∘ fun i => g (i, j)) _ fun i hi => ?_) (by rw [List.length_map, zr_len]; omega)
    exact ixC_e (c := (i, j)) rfl hM (x_eTup (cons_of rfl (cons_of rfl x_aNil)) (by simp)) (prod_mem.mpr ⟨hi, hj⟩)
  refine ret_of (tup_ (ds := [.int h, .tup ((rowsOf g W R.length).map fun r => .tup (r.map D.int))]) (cons_of (op_of rfl x_eC rfl) (cons_of (tupL (lc_ (δ1 := [some (fldD h R), some (.ref n), some (.int (W : Nat)), some (.int (R.length : Nat)), none, none]) (rng1Z (cons_of rfl x_aNil) (by omega)) rfl ((lc_all (emb := D.int) (f := fun j => .tup (((zr 0 (W : Nat)).map fun i => g (i, j)).map D.int)) _ inner).trans ?_) ?_)) x_aNil)) (by simp))
  · unfold rowsOf
    rw [List.map_map]
    rfl
  · rw [List.length_map, rows_len]; omega
end
end Law
namespace Law
open PySem L2 Pl Pl.Ev
/-- what stands beside the state stays -/
def Kq (n : Nat) (M M' : Mh) : Prop := ∀ m x, m ≠ n → M[m]? = some x → M'[m]? = some x
theorem Kq.refl (n : Nat) (M : Mh) : Kq n M M := fun _ _ _ h => h
theorem Kq.trans {n : Nat} {A B C : Mh} (h : Kq n A B) (k : Kq n B C) : Kq n A C := fun m x hm e => k m x hm (h m x hm e)
theorem Kq.app (n : Nat) (M l : Mh) : Kq n M (M ++ l) := fun m x _ e => by
  rw [List.getElem?_append_left (List.getElem?_eq_some_iff.mp e).1]
  exact e
structure Dv (n : Nat) (M0 : Mh) (B : Int) (M : Mh) : Prop where
  a : At n B M
  k : Kq n M0 M
theorem Dv.up {n : Nat} {M0 : Mh} {B C : Int} {M : Mh} (h : Dv n M0 B M) (l : B ≤ C) : Dv n M0 C M := ⟨h.a.up l, h.k⟩
theorem Dv.apps {n : Nat} {M0 : Mh} {B : Int} {M : Mh} (h : Dv n M0 B M) (l : List MO) : Dv n M0 B (M ++ l) := ⟨h.a.apps l, h.k.trans (Kq.app n M l)⟩
section
variable {n : Nat} {M0 : Mh}
/-- a list that grows, at a place behind all that stood -/
structure Gv (n : Nat) (M0 : Mh) (r : Nat) (xs : List D) (B : Int) (M : Mh) : Prop where
  w : Dv n M0 B M
  at_ : M[r]? = some (.lst xs)
  rn : r ≠ n
  r0 : M0.length ≤ r
theorem Gv.push {r : Nat} {xs ys : List D} {B : Int} {M : Mh} (h : Gv n M0 r xs B M) : Gv n M0 r ys B (M.set r (.lst ys)) := by
  have lt := (List.getElem?_eq_some_iff.mp h.at_).1
  refine ⟨⟨h.w.a.set h.rn, fun m x hm e => ?_⟩, by rw [List.getElem?_set_self lt], h.rn, h.r0⟩
  have lm := (List.getElem?_eq_some_iff.mp e).1
  rw [List.getElem?_set_ne (by have := h.r0; omega)]
  exact h.w.k m x hm e
theorem Dv.len {B : Int} {M : Mh} (h : Dv n M0 B M) : M0.length ≤ M.length := by
  by_cases q : M0.length ≤ n + 1
  · have := h.a.lt
    omega
  · have hx : M0[M0.length - 1]? = some (M0[M0.length - 1]'(by omega)) := List.getElem?_eq_getElem (by omega)
    have := h.k (M0.length - 1) _ (by omega) hx
    have := (List.getElem?_eq_some_iff.mp this).1
    omega
end
end Law
namespace Law
open PySem L2 Pl Ev
theorem sfl_ {cs : List Addr} {f : Str} {fo fv : EF} {δ : Pl.Env} {M M1 : Mh} {n : Nat} {C : Addr} {fs : List (Str × D)} {v : D} (h1 : fv δ M = some (v, M1)) (h2 : fo δ M1 = some (.ref n, M1)) (h3 : M1[n]? = some (.ins C fs)) (hc : C ∈ cs) (hl : fs.length < 1000) :
    sFl cs f fo fv δ M = some (.nx δ (M1.set n (.ins C (putFD f v fs)))) := by
  unfold sFl
  rw [h1]
  dsimp only
  rw [h2]
  dsimp only
  rw [h3]
  exact if_pos ⟨hc, hl⟩
theorem efl_ {cs : List Addr} {f : Str} {fo : EF} {δ : Pl.Env} {M : Mh} {n : Nat} {C : Addr} {fs : List (Str × D)} {d : D} (h2 : fo δ M = some (.ref n, M)) (h3 : M[n]? = some (.ins C fs)) (hc : C ∈ cs) (hl : fs.lookup f = some d) : eFl cs f fo δ M = some (d, M) := by
  unfold eFl
  rw [h2]
  dsimp only
  rw [h3]
  dsimp only
  rw [if_pos hc, hl]
  rfl
def undC (W L : Int) (t p : Int × Int) : List (Int × Int) := cells W L p.1 p.2 (p.1 + t.1) (p.2 + t.1)
def topOf (g : Int × Int → Int) : List (Int × Int) → Int
  | [] => 0
  | c :: cs => maxI (g c) (cs.map g)
def seatFs (R : List (List Int)) (W L : Int) (t p : Int × Int) : List (Str × D) :=
  [("tool", cellD t), ("place", cellD p), ("under", .tup ((undC W L t p).map cellD)), ("ring", .tup ((ringC W L p t.1).map cellD)), ("floor", .int (topOf (at2 R) (undC W L t p)))]
def seat4 (W L : Int) (t p : Int × Int) : List (Str × D) :=
  [("tool", cellD t), ("place", cellD p), ("under", .tup ((undC W L t p).map cellD)), ("ring", .tup ((ringC W L p t.1).map cellD))]
theorem putFD_len {f : Str} {v : D} : ∀ fs : List (Str × D), (putFD f v fs).length ≤ fs.length + 1
  | [] => Nat.le_refl _
  | (g, e) :: fs => by
    unfold putFD
    split
    · exact Nat.le_succ _
    · exact Nat.succ_le_succ (putFD_len fs)
theorem items_t {f : EF} {δ : Pl.Env} {M M1 : Mh} {ds : List D} (h : f δ M = some (.tup ds, M1)) : aItems f δ M = some (ds, M1) := by
  unfold aItems
  rw [h]
theorem cells_inB {W L : Nat} {a b c d : Int} {q : Int × Int} (h : q ∈ cells (W : Int) (L : Int) a b c d) : InB (W : Int) (L : Int) q := by
  unfold cells at h
  rw [prod_mem, zr_mem, zr_mem] at h
  obtain ⟨⟨h1, h2⟩, h3, h4⟩ := h
  refine ⟨⟨?_, ?_⟩, ?_, ?_⟩
  · split at h1 <;> omega
  · split at h2 <;> omega
  · split at h3 <;> omega
  · split at h4 <;> omega
theorem max_of {f : EF} {δ : Pl.Env} {M : Mh} {g : Int × Int → Int} {cs : List (Int × Int)} (h : f δ M = some (.lst (cs.map fun c => .int (g c)), M)) (hn : cs ≠ []) : eB gMaxL (aCons f aNil) δ M = some (.int (topOf g cs), M) := by
  cases cs with
  | nil => exact absurd rfl hn
  | cons c cs =>
    refine max_e (m := g c) (is := cs.map g) ?_
    rw [h, List.map_cons, List.map_cons, List.map_map]
    rfl
section
variable {h : Int} {R : List (List Int)} {W : Nat}
theorem seat_init (ct : CT) (ok : FldOk h R W) {t p : Int × Int} (ht : Tl t) (h1 : -50 ≤ p.1 ∧ p.1 ≤ 50) (h2 : -50 ≤ p.2 ∧ p.2 ≤ 50) (hn : undC (W : Nat) (R.length : Nat) t p ≠ []) (M : Mh) :
    ff_Seat_init ct [.ref M.length, fldD h R, cellD t, cellD p] (M ++ [MO.ins ct.Seat []]) = some (.non, M ++ [MO.ins ct.Seat (seatFs R (W : Nat) (R.length : Nat) t p)]) := by
  have w := ok.w
  have l := ok.l
  have cm : ct.Seat ∈ [ct.Seat] := List.mem_singleton.mpr rfl
  have wd : 0 ≤ ((W : Nat) : Int) ∧ ((W : Nat) : Int) ≤ 8 := by omega
  have ld : 0 ≤ ((R.length : Nat) : Int) ∧ ((R.length : Nat) : Int) ≤ 8 := by omega
  unfold ff_Seat_init
  refine fnN_ (δ' := [some (.ref M.length), some (fldD h R), some (cellD t), some (cellD p), some (cellD ((W : Nat), (R.length : Nat))), none]) ?_
  show gg_Seat_init ct [some (.ref M.length), some (fldD h R), some (cellD t), some (cellD p), none, none] _ = _
  unfold gg_Seat_init
  have step : ∀ {f : Str} {fv : EF} {fs : List (Str × D)} {v : D} {g : SF} {r : Option Out} {δ : Pl.Env}, fv δ (M ++ [MO.ins ct.Seat fs]) = some (v, M ++ [MO.ins ct.Seat fs]) → eVar 0 δ (M ++ [MO.ins ct.Seat fs]) = some (.ref M.length, M ++ [MO.ins ct.Seat fs]) → fs.length < 1000 → g δ (M ++ [MO.ins ct.Seat (putFD f v fs)]) = r → sSeq (sFl [ct.Seat] f (eVar 0) fv) g δ (M ++ [MO.ins ct.Seat fs]) = r := fun a b c d => by
    refine seq_nx (sfl_ a b at_end cm c) ?_
    rw [set_end]
    exact d
  refine seq_as (M1 := M ++ [MO.ins ct.Seat []]) (δ' := [some (.ref M.length), some (fldD h R), some (cellD t), some (cellD p), some (cellD ((W : Nat), (R.length : Nat))), none]) (call_of (cons_of rfl x_aNil) (sides_sp ok _)) rfl ?_
  refine step (v := cellD t) rfl rfl (by decide) ?_
  refine step (v := cellD p) rfl rfl (Nat.lt_of_le_of_lt (putFD_len _) (by decide)) ?_
  refine step (call_of (cons_of rfl (cons_of rfl (cons_of rfl x_aNil))) (under_sp wd ld ht h1 h2 _)) rfl (Nat.lt_of_le_of_lt (putFD_len _) (Nat.lt_of_le_of_lt (Nat.succ_le_succ (putFD_len _)) (by decide))) ?_
  refine step (call_of (cons_of rfl (cons_of rfl (cons_of rfl x_aNil))) (ring_sp wd ld ht h1 h2 _)) rfl (Nat.lt_of_le_of_lt (putFD_len _) (Nat.lt_of_le_of_lt (Nat.succ_le_succ (putFD_len _)) (Nat.lt_of_le_of_lt (Nat.succ_le_succ (Nat.succ_le_succ (putFD_len _))) (by decide)))) ?_
  generalize hfs : putFD "ring" _ _ = fs
  have efs : fs = seat4 (W : Nat) (R.length : Nat) t p := by
    rw [← hfs]
    rfl
  rw [efs]
  have mx : eB gMaxL (aCons (eLc [5] (aItems (eFl [ct.Seat] "under" (eVar 0))) (gN 5) tTrue (eCall ff_height_of (aCons (eVar 1) (aCons (eVar 5) aNil)) [])) aNil) [some (.ref M.length), some (fldD h R), some (cellD t), some (cellD p), some (cellD ((W : Nat), (R.length : Nat))), none] (M ++ [MO.ins ct.Seat (seat4 (W : Nat) (R.length : Nat) t p)]) = some (.int (topOf (at2 R) (undC (W : Nat) (R.length : Nat) t p)), M ++ [MO.ins ct.Seat (seat4 (W : Nat) (R.length : Nat) t p)]) :=
    max_of (g := at2 R) (cs := undC (W : Nat) (R.length : Nat) t p) (lc_ (items_t (efl_ rfl at_end cm rfl)) rfl (lc_all (emb := cellD) (f := fun c => .int (at2 R c)) _ fun c hc => call_of (cons_of rfl (cons_of (var_ rfl) x_aNil)) (height_sp ok (cells_inB hc) _)) (by rw [List.length_map]; exact Nat.le_trans (cells_len wd ld) (by decide))) hn
  have q := sfl_ (cs := [ct.Seat]) (f := "floor") (fo := eVar 0) (C := ct.Seat) mx rfl at_end cm (show 4 < 1000 by decide)
  rw [set_end] at q
  exact q
theorem low_by (ct : CT) {t p : Int × Int} (h1 : -50 ≤ p.1 ∧ p.1 ≤ 50) (h2 : -50 ≤ p.2 ∧ p.2 ≤ 50) {n m : Nat} {M : Mh} {K : Nat} {g : Int × Int → Int} (hK : K ≤ 8) (hW : W ≤ 8) (hn : M[n]? = some (.ins ct.Seat (seatFs R (W : Nat) (K : Nat) t p))) (hm : M[m]? = some (.dct (dctOf g (allC (W : Nat) (K : Nat))))) :
    ff_Seat_lowest_by ct [.ref n, .ref m] M = some (.int (maxI (topOf (at2 R) (undC (W : Nat) (K : Nat) t p)) ((ringC (W : Nat) (K : Nat) p t.1).map fun c => g c - t.2)), M) := by
  have cm : ct.Seat ∈ [ct.Seat] := List.mem_singleton.mpr rfl
  have wd : 0 ≤ ((W : Nat) : Int) ∧ ((W : Nat) : Int) ≤ 8 := by omega
  have ld : 0 ≤ ((K : Nat) : Int) ∧ ((K : Nat) : Int) ≤ 8 := by omega
  unfold ff_Seat_lowest_by
  refine fn_rt ?_
  show gg_Seat_lowest_by ct [some (.ref n), some (.ref m), none, none, none] M = _
  unfold gg_Seat_lowest_by
  refine seq_as (M1 := M) (δ' := [some (.ref n), some (.ref m), some (.int t.1), some (.int t.2), none]) (efl_ rfl hn cm rfl) rfl ?_
  have lc : eLc [4] (aItems (eFl [ct.Seat] "ring" (eVar 0))) (gN 4) tTrue (eOp (gInt fun i j => .int (i - j)) (eOp gIxC (eVar 1) (eVar 4)) (eVar 3)) [some (.ref n), some (.ref m), some (.int t.1), some (.int t.2), none] M = some (.lst ((ringC (W : Nat) (K : Nat) p t.1).map fun c => .int (g c - t.2)), M) := by
    refine lc_ (items_t (efl_ rfl hn cm rfl)) rfl (lc_all (emb := cellD) (f := fun c => .int (g c - t.2)) _ fun c hc => ?_) ?_
    · refine op_of (ixC_e rfl hm (var_ rfl) ?_) rfl rfl
      have q := cells_inB (List.mem_filter.mp hc).1
      unfold allC
      rw [prod_mem, zr_mem, zr_mem]
      exact q
    · rw [List.length_map]
      exact Nat.le_trans (List.length_filter_le _ _) (Nat.le_trans (cells_len wd ld) (by decide))
  refine ret_of (max_e ?_)
  refine op_of (x_eLst (cons_of (efl_ rfl hn cm rfl) x_aNil) (show 1 ≤ 1000 by decide)) lc ?_
  rw [List.map_cons, List.map_map]
  refine app_l (A := [.int (topOf (at2 R) (undC (W : Nat) (K : Nat) t p))]) (B := (ringC (W : Nat) (K : Nat) p t.1).map fun c => D.int (g c - t.2)) ?_
  rw [List.length_map]
  have := Nat.le_trans (List.length_filter_le (fun q => !decide (q ∈ cells (W : Nat) (K : Nat) p.1 p.2 (p.1 + t.1) (p.2 + t.1))) (cells (W : Nat) (K : Nat) (p.1 - 1) (p.2 - 1) (p.1 + t.1 + 1) (p.2 + t.1 + 1))) (cells_len wd ld)
  show 1 + (ringC (W : Nat) (K : Nat) p t.1).length ≤ 1000
  unfold ringC
  omega
end
end Law
namespace Law
open PySem L2 Pl Ev
abbrev Zt := (Int × Int) × (Int × Int)
def insM (ct : CT) (R : List (List Int)) (W L : Int) (z : Zt) : MO := .ins ct.Seat (seatFs R W L z.1 z.2)
def seatsL (ts : List (Int × Int)) (W L : Int) : List Zt := ts.flatMap fun t => (spotsC W L t.1).map fun p => (t, p)
theorem refs_app (b m n : Nat) : refs b (m + n) = refs b m ++ refs (b + m) n := by
  unfold refs
  rw [List.range_add, List.map_append, List.map_map]
  congr 1
  refine List.map_congr_left fun i _ => ?_
  show D.ref (b + (m + i)) = D.ref (b + m + i)
  rw [Nat.add_assoc]
section
variable {h : Int} {R : List (List Int)} {W : Nat}
theorem under_nz (ok : FldOk h R W) {t p : Int × Int} (ht : Tl t) (hp : p ∈ spotsC (W : Nat) (R.length : Nat) t.1) : undC (W : Nat) (R.length : Nat) t p ≠ [] := by
  have w := ok.w
  have l := ok.l
  have q := under_ne (W := (W : Nat)) (L := (R.length : Nat)) ht.1 (by omega) (by omega) hp
  rw [under_eq] at q
  exact q
theorem spot_bd (ok : FldOk h R W) {t p : Int × Int} (ht : Tl t) (hp : p ∈ spotsC (W : Nat) (R.length : Nat) t.1) : (-50 ≤ p.1 ∧ p.1 ≤ 50) ∧ -50 ≤ p.2 ∧ p.2 ≤ 50 := by
  have w := ok.w
  have l := ok.l
  unfold Tl at ht
  have q := spots_mem.mp hp
  omega
theorem make_e (ct : CT) (ok : FldOk h R W) {t p : Int × Int} (ht : Tl t) (hp : p ∈ spotsC (W : Nat) (R.length : Nat) t.1) (x y : Option D) (M : Mh) :
    eMake ct.Seat (ff_Seat_init ct) (aCons (eVar 0) (aCons (eVar 3) (aCons (eVar 4) aNil))) [] [some (fldD h R), x, y, some (cellD t), some (cellD p)] M = some (.ref M.length, M ++ [insM ct R (W : Nat) (R.length : Nat) (t, p)]) := by
  unfold eMake
  rw [cons_of (f := eVar 0) (M1 := M) rfl (cons_of (f := eVar 3) (M1 := M) rfl (cons_of (f := eVar 4) (M1 := M) rfl x_aNil))]
  dsimp only
  have q := seat_init ct ok ht (spot_bd ok ht hp).1 (spot_bd ok ht hp).2 (under_nz ok ht hp) M
  rw [show [fldD h R, cellD t, cellD p] ++ ([] : List D) = [fldD h R, cellD t, cellD p] from rfl, q]
  rfl
theorem seats_inner (ct : CT) (ok : FldOk h R W) {t : Int × Int} (ht : Tl t) (x y : Option D) : ∀ (ps : List (Int × Int)) (M : Mh), (∀ p ∈ ps, p ∈ spotsC (W : Nat) (R.length : Nat) t.1) →
    lcGo (gN 4) tTrue (eMake ct.Seat (ff_Seat_init ct) (aCons (eVar 0) (aCons (eVar 3) (aCons (eVar 4) aNil))) []) (ps.map cellD) [some (fldD h R), x, y, some (cellD t), none] M = some (refs M.length ps.length, M ++ (ps.map fun p => (t, p)).map (insM ct R (W : Nat) (R.length : Nat)))
  | [], M, _ => by
    rw [List.map_nil, List.map_nil, List.map_nil, List.append_nil]
    exact lcN_
  | p :: ps, M, hp => by
    have ih := seats_inner ct ok ht x y ps (M ++ [insM ct R (W : Nat) (R.length : Nat) (t, p)]) fun q hq => hp q (List.mem_cons_of_mem _ hq)
    rw [List.length_append, List.append_assoc] at ih
    rw [List.map_cons, List.map_cons, List.map_cons, List.length_cons, refs_cons]
    exact lcC_ (x := true) (M1 := M) (δ1 := [some (fldD h R), x, y, some (cellD t), some (cellD p)]) rfl tt_ (lcY_ (make_e ct ok ht (hp p List.mem_cons_self) x y M) ih)
theorem seats_outer (ct : CT) (ok : FldOk h R W) (x : Option D) : ∀ (ts : List (Int × Int)) (M : Mh), (∀ t ∈ ts, Tl t) →
    lcGo2 (gN 3) tTrue (aItems (eCall ff_plain_places (aCons (eVar 2) (aCons (eVar 3) aNil)) [])) [4] (gN 4) tTrue (eMake ct.Seat (ff_Seat_init ct) (aCons (eVar 0) (aCons (eVar 3) (aCons (eVar 4) aNil))) []) (ts.map cellD) [some (fldD h R), x, some (cellD ((W : Nat), (R.length : Nat))), none, none] M = some (refs M.length (seatsL ts (W : Nat) (R.length : Nat)).length, M ++ (seatsL ts (W : Nat) (R.length : Nat)).map (insM ct R (W : Nat) (R.length : Nat)))
  | [], M, _ => by
    show some ([], M) = some ([], M ++ [])
    rw [List.append_nil]
  | t :: ts, M, ht => by
    have w := ok.w
    have l := ok.l
    have ht0 := ht t List.mem_cons_self
    have ih := seats_outer ct ok x ts (M ++ ((spotsC (W : Nat) (R.length : Nat) t.1).map fun p => (t, p)).map (insM ct R (W : Nat) (R.length : Nat))) fun q hq => ht q (List.mem_cons_of_mem _ hq)
    rw [List.map_cons]
    unfold lcGo2
    rw [show gN 3 (cellD t) [some (fldD h R), x, some (cellD ((W : Nat), (R.length : Nat))), none, none] = some [some (fldD h R), x, some (cellD ((W : Nat), (R.length : Nat))), some (cellD t), none] from rfl]
    dsimp only
    rw [show tTrue [some (fldD h R), x, some (cellD ((W : Nat), (R.length : Nat))), some (cellD t), none] M = some (true, M) from rfl]
    dsimp only
    rw [items_t (call_of (cons_of (f := eVar 2) (M1 := M) rfl (cons_of (f := eVar 3) (M1 := M) rfl x_aNil)) (places_sp (W := (W : Nat)) (L := (R.length : Nat)) (by omega) (by omega) ht0 M))]
    dsimp only
    rw [show wipeD [some (fldD h R), x, some (cellD ((W : Nat), (R.length : Nat))), some (cellD t), none] [4] = [some (fldD h R), x, some (cellD ((W : Nat), (R.length : Nat))), some (cellD t), none] from rfl]
    rw [seats_inner ct ok ht0 x _ _ M fun p hp => hp]
    dsimp only
    rw [ih]
    dsimp only
    have e : seatsL (t :: ts) (W : Nat) (R.length : Nat) = ((spotsC (W : Nat) (R.length : Nat) t.1).map fun p => (t, p)) ++ seatsL ts (W : Nat) (R.length : Nat) := List.flatMap_cons
    rw [e, List.map_append, List.length_append (as := (spotsC (W : Nat) (R.length : Nat) t.1).map fun p => (t, p)), refs_app, List.length_append, List.length_map, List.length_map, List.append_assoc]
theorem seats_len (ok : FldOk h R W) : ∀ (ts : List (Int × Int)), (∀ t ∈ ts, Tl t) → (seatsL ts (W : Nat) (R.length : Nat)).length ≤ 144 * ts.length
  | [], _ => Nat.le_refl _
  | t :: ts, ht => by
    have w := ok.w
    have l := ok.l
    have e : seatsL (t :: ts) (W : Nat) (R.length : Nat) = ((spotsC (W : Nat) (R.length : Nat) t.1).map fun p => (t, p)) ++ seatsL ts (W : Nat) (R.length : Nat) := List.flatMap_cons
    rw [e, List.length_append, List.length_map, List.length_cons]
    have a := spots_len (W := (W : Nat)) (L := (R.length : Nat)) (s := t.1) (by omega) (by omega) (ht t List.mem_cons_self)
    have b := seats_len ok ts fun q hq => ht q (List.mem_cons_of_mem _ hq)
    omega
theorem seats_of (ct : CT) (ok : FldOk h R W) {ts : List (Int × Int)} (ht : ∀ t ∈ ts, Tl t) (hl : ts.length ≤ 4) (M : Mh) :
    ff_seats_of ct [fldD h R, .tup (ts.map cellD)] M = some (.lst (refs M.length (seatsL ts (W : Nat) (R.length : Nat)).length), M ++ (seatsL ts (W : Nat) (R.length : Nat)).map (insM ct R (W : Nat) (R.length : Nat))) := by
  unfold ff_seats_of
  refine fn_rt ?_
  show gg_seats_of ct [some (fldD h R), some (.tup (ts.map cellD)), none, none, none] M = _
  unfold gg_seats_of
  refine seq_as (M1 := M) (δ' := [some (fldD h R), some (.tup (ts.map cellD)), some (cellD ((W : Nat), (R.length : Nat))), none, none]) (call_of (cons_of rfl x_aNil) (sides_sp ok M)) rfl (ret_of ?_)
  refine lc2_of (items_t rfl) rfl (seats_outer ct ok _ ts M ht) ?_
  unfold refs
  rw [List.length_map, List.length_range]
  exact Nat.le_trans (seats_len ok ts ht) (by omega)
def minF (v : Int) : List (Int × Int) → (Int × Int → Int) → Int × Int → Int
  | [], b => b
  | c :: cs, b => minF v cs fun d => if d = c then (if v < b c then v else b c) else b d
theorem minF_le (v : Int) (x : Int) : ∀ (cs : List (Int × Int)) (b : Int × Int → Int) (d : Int × Int), x ≤ minF v cs b d ↔ x ≤ b d ∧ (d ∈ cs → x ≤ v)
  | [], b, d => by simp [minF]
  | c :: cs, b, d => by
    unfold minF
    rw [minF_le v x cs]
    by_cases e : d = c
    · subst e
      rw [if_pos rfl]
      constructor
      · rintro ⟨h1, h2⟩
        split at h1
        · exact ⟨by omega, fun _ => h1⟩
        · exact ⟨h1, fun _ => by omega⟩
      · rintro ⟨h1, h2⟩
        have := h2 List.mem_cons_self
        refine ⟨by split <;> omega, fun _ => this⟩
    · rw [if_neg e]
      constructor
      · rintro ⟨h1, h2⟩
        exact ⟨h1, fun m => h2 ((List.mem_cons.mp m).resolve_left e)⟩
      · rintro ⟨h1, h2⟩
        exact ⟨h1, fun m => h2 (List.mem_cons_of_mem _ m)⟩
theorem cput_e {fa fb fh : EF} {δ : Pl.Env} {M : Mh} {n : Nat} {g : Int × Int → Int} {A : List (Int × Int)} {c : Int × Int} {b : Int} (h1 : fa δ M = some (.ref n, M)) (h2 : fb δ M = some (cellD c, M)) (hM : M[n]? = some (.dct (dctOf g A))) (hc : c ∈ A) (hl : A.length ≤ 900) (h3 : fh δ M = some (.int b, M)) :
    sCput fa fb fh δ M = some (.nx δ (M.set n (.dct (dctOf (fun d => if d = c then b else g d) A)))) := by
  unfold sCput
  rw [h3]
  dsimp only
  rw [h1]
  dsimp only
  rw [h2]
  dsimp only
  unfold gCput
  dsimp only
  rw [hM, show keyC (cellD c) = some [c.1, c.2] from rfl]
  dsimp only
  rw [if_pos (show (dctOf g A).length < sizeLine from Nat.lt_of_le_of_lt (by unfold dctOf; rw [List.length_map]; exact hl) (by decide)), dct_put hc]
end
end Law
namespace Law
open PySem L2 Pl Ev
def lowZ (R : List (List Int)) (W L : Int) (g : Int × Int → Int) (z : Zt) : Int := maxI (topOf (at2 R) (undC W L z.1 z.2)) ((ringC W L z.2 z.1.1).map fun c => g c - z.1.2)
def roundF (R : List (List Int)) (W L : Int) (g : Int × Int → Int) : List Zt → (Int × Int → Int) → Int × Int → Int
  | [], b => b
  | z :: zs, b => roundF R W L g zs (minF (lowZ R W L g z) (undC W L z.1 z.2) b)
theorem roundF_le {R : List (List Int)} {W L : Int} {g : Int × Int → Int} (x : Int) : ∀ (zs : List Zt) (b : Int × Int → Int) (d : Int × Int), x ≤ roundF R W L g zs b d ↔ x ≤ b d ∧ ∀ z ∈ zs, d ∈ undC W L z.1 z.2 → x ≤ lowZ R W L g z
  | [], b, d => by simp [roundF]
  | z :: zs, b, d => by
    unfold roundF
    rw [roundF_le x zs, minF_le]
    constructor
    · rintro ⟨⟨h1, h2⟩, h3⟩
      refine ⟨h1, fun y hy => ?_⟩
      rcases List.mem_cons.mp hy with e | hy
      · rw [e]; exact h2
      · exact h3 y hy
    · rintro ⟨h1, h2⟩
      exact ⟨⟨h1, h2 z List.mem_cons_self⟩, fun y hy => h2 y (List.mem_cons_of_mem _ hy)⟩
theorem set_two {M : Mh} {x y z : MO} : (M ++ [x, y]).set (M.length + 1) z = M ++ [x, z] := by
  rw [List.set_append_right _ _ (by omega)]
  simp
theorem two_0 {M : Mh} {x y : MO} : (M ++ [x, y])[M.length]? = some x := by simp
theorem two_1 {M : Mh} {x y : MO} : (M ++ [x, y])[M.length + 1]? = some y := by
  rw [List.getElem?_append_right (by omega)]
  simp
theorem two_lt {M : Mh} {x y o : MO} {n : Nat} (h : M[n]? = some o) : (M ++ [x, y])[n]? = some o := by
  rw [List.getElem?_append_left (List.getElem?_eq_some_iff.mp h).1]
  exact h
section
variable {h : Int} {R : List (List Int)} {W : Nat}
theorem inner_go {A : List (Int × Int)} (hA : A.length ≤ 900) {M : Mh} {o : MO} {a0 a1 a2 a3 a5 : Option D} {v : Int} : ∀ (cs : List (Int × Int)), (∀ c ∈ cs, c ∈ A) → ∀ (b : Int × Int → Int) (x : Option D), ∃ x',
    forGo (gN 7) (sCput (eVar 4) (eVar 7) (eB (gL2 fun i j => .int (if j < i then j else i)) (aCons (eOp gIxC (eVar 4) (eVar 7)) (aCons (eVar 6) aNil)))) (cs.map cellD) [a0, a1, a2, a3, some (.ref (M.length + 1)), a5, some (.int v), x] (M ++ [o, .dct (dctOf b A)]) = some (.nx [a0, a1, a2, a3, some (.ref (M.length + 1)), a5, some (.int v), x'] (M ++ [o, .dct (dctOf (minF v cs b) A)]))
  | [], _, b, x => ⟨x, forN_⟩
  | c :: cs, hc, b, x => by
    obtain ⟨x', ih⟩ := inner_go hA (M := M) (o := o) (a0 := a0) (a1 := a1) (a2 := a2) (a3 := a3) (a5 := a5) (v := v) cs (fun q hq => hc q (List.mem_cons_of_mem _ hq)) (fun d => if d = c then (if v < b c then v else b c) else b d) (some (cellD c))
    refine ⟨x', ?_⟩
    rw [List.map_cons]
    refine forC_ (δ1 := [a0, a1, a2, a3, some (.ref (M.length + 1)), a5, some (.int v), some (cellD c)]) rfl ?_ ih
    have hcA := hc c List.mem_cons_self
    have q := cput_e (fa := eVar 4) (fb := eVar 7) (fh := eB (gL2 fun i j => .int (if j < i then j else i)) (aCons (eOp gIxC (eVar 4) (eVar 7)) (aCons (eVar 6) aNil))) (δ := [a0, a1, a2, a3, some (.ref (M.length + 1)), a5, some (.int v), some (cellD c)]) (M := M ++ [o, .dct (dctOf b A)]) (b := if v < b c then v else b c) rfl rfl two_1 hcA hA ?_
    · rw [set_two] at q
      exact q
    · rw [x_eB, cons_of (ixC_e (g := b) (A := A) (c := c) rfl two_1 rfl hcA) (cons_of (f := eVar 6) rfl x_aNil)]
      rfl
theorem outer_go (ct : CT) (hR : 1 ≤ R.length ∧ R.length ≤ 8) (hW : 1 ≤ W ∧ W ≤ 8) {M : Mh} {a0 a1 a2 : Option D} {g : Int × Int → Int} (hal : (allC (W : Nat) (R.length : Nat)).length ≤ 900) : ∀ (zs : List Zt) (b0 : Nat), (∀ (i : Nat) (z : Zt), zs[i]? = some z → M[b0 + i]? = some (insM ct R (W : Nat) (R.length : Nat) z) ∧ (-50 ≤ z.2.1 ∧ z.2.1 ≤ 50) ∧ (-50 ≤ z.2.2 ∧ z.2.2 ≤ 50)) → ∀ (b : Int × Int → Int) (x y w : Option D), ∃ x' y' w',
    forGo (gN 5) (sSeq (sAs (eMeth ct.Seat "lowest_by" (ff_Seat_lowest_by ct) (eVar 5) (aCons (eVar 3) aNil) []) (gN 6)) (sFor (aItems (eFl [ct.Seat] "under" (eVar 5))) (gN 7) (sCput (eVar 4) (eVar 7) (eB (gL2 fun i j => .int (if j < i then j else i)) (aCons (eOp gIxC (eVar 4) (eVar 7)) (aCons (eVar 6) aNil)))))) (refs b0 zs.length) [a0, a1, a2, some (.ref M.length), some (.ref (M.length + 1)), x, y, w] (M ++ [.dct (dctOf g (allC (W : Nat) (R.length : Nat))), .dct (dctOf b (allC (W : Nat) (R.length : Nat)))])
      = some (.nx [a0, a1, a2, some (.ref M.length), some (.ref (M.length + 1)), x', y', w'] (M ++ [.dct (dctOf g (allC (W : Nat) (R.length : Nat))), .dct (dctOf (roundF R (W : Nat) (R.length : Nat) g zs b) (allC (W : Nat) (R.length : Nat)))]))
  | [], b0, _, b, x, y, w => ⟨x, y, w, forN_⟩
  | z :: zs, b0, hz, b, x, y, w => by
    have cm : ct.Seat ∈ [ct.Seat] := List.mem_singleton.mpr rfl
    obtain ⟨hM, p1, p2⟩ := hz 0 z rfl
    rw [Nat.add_zero] at hM
    obtain ⟨w1, e1⟩ := inner_go (A := allC (W : Nat) (R.length : Nat)) hal (M := M) (o := .dct (dctOf g (allC (W : Nat) (R.length : Nat)))) (a0 := a0) (a1 := a1) (a2 := a2) (a3 := some (.ref M.length)) (a5 := some (.ref b0)) (v := lowZ R (W : Nat) (R.length : Nat) g z) (undC (W : Nat) (R.length : Nat) z.1 z.2) (fun c hc => by
      have q := cells_inB hc
      unfold allC
      rw [prod_mem, zr_mem, zr_mem]
      exact q) b w
    obtain ⟨x', y', w', ih⟩ := outer_go ct hR hW (M := M) (a0 := a0) (a1 := a1) (a2 := a2) (g := g) hal zs (b0 + 1) (fun i z hi => by
      have q := hz (i + 1) z (by simpa using hi)
      rw [show b0 + 1 + i = b0 + (i + 1) by omega]
      exact q) (minF (lowZ R (W : Nat) (R.length : Nat) g z) (undC (W : Nat) (R.length : Nat) z.1 z.2) b) (some (.ref b0)) (some (.int (lowZ R (W : Nat) (R.length : Nat) g z))) w1
    refine ⟨x', y', w', ?_⟩
    rw [List.length_cons, refs_cons]
    refine forC_ (δ1 := [a0, a1, a2, some (.ref M.length), some (.ref (M.length + 1)), some (.ref b0), y, w]) rfl ?_ ih
    have hM2 : (M ++ [.dct (dctOf g (allC (W : Nat) (R.length : Nat))), .dct (dctOf b (allC (W : Nat) (R.length : Nat)))])[b0]? = some (MO.ins ct.Seat (seatFs R (W : Nat) (R.length : Nat) z.1 z.2)) := two_lt hM
    have mt : eMeth ct.Seat "lowest_by" (ff_Seat_lowest_by ct) (eVar 5) (aCons (eVar 3) aNil) [] [a0, a1, a2, some (.ref M.length), some (.ref (M.length + 1)), some (.ref b0), y, w] (M ++ [.dct (dctOf g (allC (W : Nat) (R.length : Nat))), .dct (dctOf b (allC (W : Nat) (R.length : Nat)))]) = some (.int (lowZ R (W : Nat) (R.length : Nat) g z), M ++ [.dct (dctOf g (allC (W : Nat) (R.length : Nat))), .dct (dctOf b (allC (W : Nat) (R.length : Nat)))]) := by
      unfold eMeth
      rw [show eVar 5 [a0, a1, a2, some (.ref M.length), some (.ref (M.length + 1)), some (.ref b0), y, w] (M ++ [.dct (dctOf g (allC (W : Nat) (R.length : Nat))), .dct (dctOf b (allC (W : Nat) (R.length : Nat)))]) = some (.ref b0, M ++ [.dct (dctOf g (allC (W : Nat) (R.length : Nat))), .dct (dctOf b (allC (W : Nat) (R.length : Nat)))]) from rfl]
      dsimp only
      rw [hM2]
      dsimp only
      rw [if_pos ⟨rfl, rfl⟩, cons_of (f := eVar 3) rfl x_aNil]
      exact low_by ct p1 p2 hR.2 hW.2 hM2 two_0
    refine seq_as (δ' := [a0, a1, a2, some (.ref M.length), some (.ref (M.length + 1)), some (.ref b0), some (.int (lowZ R (W : Nat) (R.length : Nat) g z)), w]) mt rfl ?_
    unfold sFor
    rw [items_t (efl_ (f := "under") rfl hM2 cm rfl)]
    exact e1
end
end Law
namespace Law
open PySem L2 Pl Ev
section
variable {h : Int} {R : List (List Int)} {W : Nat}
/-- the rows behind a round -/
def nextR (R : List (List Int)) (W : Nat) (zs : List Zt) (S : List (List Int)) : List (List Int) := rowsOf (roundF R (W : Nat) (R.length : Nat) (at2 S) zs (at2 S)) W R.length
theorem after_e (ct : CT) (ok : FldOk h R W) {S : List (List Int)} (okS : FldOk h S W) (hl : S.length = R.length) {zs : List Zt} {b0 : Nat} {M : Mh} (hz : ∀ (i : Nat) (z : Zt), zs[i]? = some z → M[b0 + i]? = some (insM ct R (W : Nat) (R.length : Nat) z) ∧ (-50 ≤ z.2.1 ∧ z.2.1 ≤ 50) ∧ (-50 ≤ z.2.2 ∧ z.2.2 ≤ 50)) :
    ∃ x y : MO, ff_after_round ct [fldD h R, .lst (refs b0 zs.length), fldD h S] M = some (fldD h (nextR R W zs S), M ++ [x, y]) := by
  have w := ok.w
  have l := ok.l
  have al := allC_len (W := (W : Nat)) (L := (R.length : Nat)) (by omega) (by omega)
  refine ⟨.dct (dctOf (at2 S) (allC (W : Nat) (R.length : Nat))), .dct (dctOf (roundF R (W : Nat) (R.length : Nat) (at2 S) zs (at2 S)) (allC (W : Nat) (R.length : Nat))), ?_⟩
  have q1 := heights_sp okS M
  have q2 := heights_sp okS (M ++ [.dct (dctOf (at2 S) (allC (W : Nat) (R.length : Nat)))])
  rw [hl] at q1 q2
  rw [List.length_append, List.append_assoc] at q2
  unfold ff_after_round
  refine fn_rt ?_
  show gg_after_round ct [some (fldD h R), some (.lst (refs b0 zs.length)), some (fldD h S), none, none, none, none, none] M = _
  unfold gg_after_round
  refine seq_as (δ' := [some (fldD h R), some (.lst (refs b0 zs.length)), some (fldD h S), some (.ref M.length), none, none, none, none]) (call_of (cons_of rfl x_aNil) q1) rfl ?_
  refine seq_as (δ' := [some (fldD h R), some (.lst (refs b0 zs.length)), some (fldD h S), some (.ref M.length), some (.ref (M.length + 1)), none, none, none]) (call_of (cons_of rfl x_aNil) q2) rfl ?_
  obtain ⟨x', y', w', go⟩ := outer_go ct (R := R) (W := W) (by omega) (by omega) (M := M) (a0 := some (fldD h R)) (a1 := some (.lst (refs b0 zs.length))) (a2 := some (fldD h S)) (g := at2 S) (by omega) zs b0 hz (at2 S) none none none
  refine seq_nx (δ' := [some (fldD h R), some (.lst (refs b0 zs.length)), some (fldD h S), some (.ref M.length), some (.ref (M.length + 1)), x', y', w']) (M1 := M ++ [.dct (dctOf (at2 S) (allC (W : Nat) (R.length : Nat))), .dct (dctOf (roundF R (W : Nat) (R.length : Nat) (at2 S) zs (at2 S)) (allC (W : Nat) (R.length : Nat)))]) ?_ ?_
  · unfold sFor
    exact go
  · exact ret_of (call_of (cons_of (f := eVar 0) rfl (cons_of (f := eVar 4) rfl x_aNil)) (fieldby_sp ok two_1))
end
theorem toPs_ints : ∀ r : List Int, toPs (r.map D.int) = some (r.map PyData.int)
  | [] => rfl
  | i :: r => by
    rw [List.map_cons, toPs, toPs_ints r]
    rfl
theorem toPs_rows : ∀ R : List (List Int), toPs (R.map fun r => D.tup (r.map D.int)) = some (R.map fun r => PyData.tuple (r.map PyData.int))
  | [] => rfl
  | r :: R => by
    rw [List.map_cons, toPs, toPs_rows R, toP, toPs_ints]
    rfl
theorem eqv_ints : ∀ r s : List Int, PyData.eqvAll (r.map PyData.int) (s.map PyData.int) = decide (r = s)
  | [], [] => rfl
  | [], _ :: _ => rfl
  | _ :: _, [] => rfl
  | i :: r, j :: s => by
    rw [List.map_cons, List.map_cons, PyData.eqvAll, eqv_ints r s]
    rw [show PyData.eqv (.int i) (.int j) = decide (i = j) from by by_cases e : i = j <;> simp [PyData.eqv, e], ← Bool.decide_and]
    exact decide_eq_decide.mpr ⟨fun e => by rw [e.1, e.2], fun e => by cases e; exact ⟨rfl, rfl⟩⟩
theorem eqv_rows : ∀ A B : List (List Int), PyData.eqvAll (A.map fun r => PyData.tuple (r.map PyData.int)) (B.map fun r => PyData.tuple (r.map PyData.int)) = decide (A = B)
  | [], [] => rfl
  | [], _ :: _ => rfl
  | _ :: _, [] => rfl
  | r :: A, s :: B => by
    rw [List.map_cons, List.map_cons, PyData.eqvAll, eqv_rows A B]
    rw [show PyData.eqv (.tuple (r.map PyData.int)) (.tuple (s.map PyData.int)) = PyData.eqvAll (r.map PyData.int) (s.map PyData.int) from by simp [PyData.eqv], eqv_ints, ← Bool.decide_and]
    exact decide_eq_decide.mpr ⟨fun e => by rw [e.1, e.2], fun e => by cases e; exact ⟨rfl, rfl⟩⟩
theorem lay_ints : ∀ r : List Int, PyData.canLayAll0 (r.map PyData.int) = true ∧ PyData.depthAll (r.map PyData.int) ≤ 0
  | [] => by constructor <;> decide +kernel
  | i :: r => by
    obtain ⟨a, b⟩ := lay_ints r
    rw [List.map_cons]
    constructor
    · rw [PyData.canLayAll0, a]
      simp [PyData.canLay0]
    · rw [PyData.depthAll]
      have : PyData.depth (.int i) = 0 := by simp [PyData.depth]
      omega
theorem lay_rows : ∀ A : List (List Int), PyData.canLayAll0 (A.map fun r => PyData.tuple (r.map PyData.int)) = true ∧ PyData.depthAll (A.map fun r => PyData.tuple (r.map PyData.int)) ≤ 1
  | [] => by constructor <;> decide +kernel
  | r :: A => by
    obtain ⟨a, b⟩ := lay_rows A
    obtain ⟨c, d⟩ := lay_ints r
    rw [List.map_cons]
    constructor
    · rw [PyData.canLayAll0, a, PyData.canLay0, c]
      rfl
    · rw [PyData.depthAll, PyData.depth]
      omega
theorem toP_fld (a : Int) (A : List (List Int)) (M : Mh) : toP (deref M (fldD a A)) = some (.tuple [.int a, .tuple (A.map fun r => PyData.tuple (r.map PyData.int))]) := by
  show toP (.tup [.int a, .tup (A.map fun r => .tup (r.map D.int))]) = _
  simp only [toP, toPs, toPs_rows]
theorem ne_fld (a b : Int) (A B : List (List Int)) (M : Mh) : gEq (fun p q => !PyData.eqv p q) (fldD a A) (fldD b B) M = some (.bl (!decide (a = b ∧ A = B)), M) := by
  unfold gEq
  rw [toP_fld, toP_fld]
  dsimp only
  have sh : ∀ (a : Int) (A : List (List Int)), SeqAt.shaped (.tuple [.int a, .tuple (A.map fun r => PyData.tuple (r.map PyData.int))]) = true := fun a A => by
    obtain ⟨c, d⟩ := lay_rows A
    simp only [SeqAt.shaped, Bool.and_eq_true, decide_eq_true_eq]
    constructor
    · simp [PyData.canLay0, PyData.canLayAll0, c]
    · simp only [PyData.depth, PyData.depthAll]
      omega
  rw [sh, sh]
  have e : PyData.eqv (.tuple [.int a, .tuple (A.map fun r => PyData.tuple (r.map PyData.int))]) (.tuple [.int b, .tuple (B.map fun r => PyData.tuple (r.map PyData.int))]) = decide (a = b ∧ A = B) := by
    rw [Bool.decide_and]
    rw [show PyData.eqv (.tuple [.int a, .tuple (A.map fun r => PyData.tuple (r.map PyData.int))]) (.tuple [.int b, .tuple (B.map fun r => PyData.tuple (r.map PyData.int))]) = (PyData.eqv (.int a) (.int b) && (PyData.eqvAll (A.map fun r => PyData.tuple (r.map PyData.int)) (B.map fun r => PyData.tuple (r.map PyData.int)) && true)) from by simp [PyData.eqv, PyData.eqvAll], eqv_rows]
    by_cases h : a = b <;> simp [PyData.eqv, h]
  rw [e]
  rfl
end Law
namespace Law
open PySem L2 Pl Ev
section
variable {h : Int} {R : List (List Int)} {W : Nat}
theorem rowsOf_ok (ok : FldOk h R W) {g : Int × Int → Int} (hg : ∀ c, InB (W : Nat) (R.length : Nat) c → 0 ≤ g c ∧ g c ≤ h) : FldOk h (rowsOf g W R.length) W ∧ (rowsOf g W R.length).length = R.length := by
  have e : (rowsOf g W R.length).length = R.length := by
    unfold rowsOf
    rw [List.length_map, zr_len]
    omega
  refine ⟨⟨ok.h1, by rw [e]; exact ok.l, ok.w, fun r hr => ?_⟩, e⟩
  unfold rowsOf at hr
  obtain ⟨j, hj, rfl⟩ := List.mem_map.mp hr
  refine ⟨by rw [List.length_map, zr_len]; omega, fun x hx => ?_⟩
  obtain ⟨i, hi, rfl⟩ := List.mem_map.mp hx
  have a := zr_mem.mp hj
  have b := zr_mem.mp hi
  exact hg (i, j) ⟨⟨b.1, b.2⟩, a.1, a.2⟩
theorem rowsOf_ext {g g' : Int × Int → Int} {L : Nat} (e : ∀ c, InB (W : Nat) (L : Nat) c → g c = g' c) : rowsOf g W L = rowsOf g' W L := by
  unfold rowsOf
  refine List.map_congr_left fun j hj => List.map_congr_left fun i hi => ?_
  have a := zr_mem.mp hj
  have b := zr_mem.mp hi
  exact e (i, j) ⟨⟨b.1, b.2⟩, a.1, a.2⟩
/-- the n-th round's heights -/
def Gn (R : List (List Int)) (W : Nat) (zs : List Zt) (h : Int) : Nat → Int × Int → Int
  | 0 => fun _ => h
  | n + 1 => roundF R (W : Nat) (R.length : Nat) (at2 (rowsOf (Gn R W zs h n) W R.length)) zs (at2 (rowsOf (Gn R W zs h n) W R.length))
def Sn (R : List (List Int)) (W : Nat) (zs : List Zt) (h : Int) (n : Nat) : List (List Int) := rowsOf (Gn R W zs h n) W R.length
theorem next_Sn {zs : List Zt} (n : Nat) : nextR R W zs (Sn R W zs h n) = Sn R W zs h (n + 1) := rfl
theorem topOf_ge {g : Int × Int → Int} {cs : List (Int × Int)} (hg : ∀ c ∈ cs, 0 ≤ g c) : 0 ≤ topOf g cs := by
  cases cs with
  | nil => exact Int.le_refl _
  | cons c cs => exact Int.le_trans (hg c List.mem_cons_self) (maxI_le _ _).1
theorem at_fld (ok : FldOk h R W) {c : Int × Int} (hc : InB (W : Nat) (R.length : Nat) c) : 0 ≤ at2 R c ∧ at2 R c ≤ h := by
  obtain ⟨i, j⟩ := c
  obtain ⟨⟨h1, h2⟩, h3, h4⟩ := hc
  dsimp only at h1 h2 h3 h4
  have lj : j.toNat < R.length := by omega
  have hr := ok.r _ (List.getElem_mem lj)
  have li : i.toNat < (R[j.toNat]).length := by omega
  have q := hr.2 _ (List.getElem_mem li)
  unfold at2
  dsimp only
  rw [List.getD_eq_getElem?_getD (l := R), List.getElem?_eq_getElem lj]
  dsimp only [Option.getD_some]
  rw [List.getD_eq_getElem?_getD, List.getElem?_eq_getElem li]
  exact q
theorem Gn_bd (ok : FldOk h R W) (zs : List Zt) : ∀ (n : Nat) (c : Int × Int), InB (W : Nat) (R.length : Nat) c → 0 ≤ Gn R W zs h n c ∧ Gn R W zs h n c ≤ h
  | 0, c, _ => by
    have := ok.h1
    show 0 ≤ h ∧ h ≤ h
    omega
  | n + 1, c, hc => by
    have ih := Gn_bd ok zs n
    have e := at_rows (g := Gn R W zs h n) hc
    unfold Gn
    refine ⟨(roundF_le 0 zs _ c).mpr ⟨by rw [e]; exact (ih c hc).1, fun z hz hu => ?_⟩, ?_⟩
    · refine Int.le_trans (topOf_ge fun q hq => ?_) (maxI_le _ _).1
      exact (at_fld ok (cells_inB hq)).1
    · have q : roundF R (W : Nat) (R.length : Nat) (at2 (rowsOf (Gn R W zs h n) W R.length)) zs (at2 (rowsOf (Gn R W zs h n) W R.length)) c ≤ at2 (rowsOf (Gn R W zs h n) W R.length) c := ((roundF_le _ zs _ c).mp (Int.le_refl _)).1
      rw [e] at q
      exact Int.le_trans q (ih c hc).2
theorem Gn_down (zs : List Zt) (n : Nat) {c : Int × Int} (hc : InB (W : Nat) (R.length : Nat) c) : Gn R W zs h (n + 1) c ≤ Gn R W zs h n c := by
  have e := at_rows (g := Gn R W zs h n) hc
  have q : roundF R (W : Nat) (R.length : Nat) (at2 (rowsOf (Gn R W zs h n) W R.length)) zs (at2 (rowsOf (Gn R W zs h n) W R.length)) c ≤ at2 (rowsOf (Gn R W zs h n) W R.length) c := ((roundF_le _ zs _ c).mp (Int.le_refl _)).1
  rw [e] at q
  exact q
theorem Sn_ok (ok : FldOk h R W) (zs : List Zt) (n : Nat) : FldOk h (Sn R W zs h n) W ∧ (Sn R W zs h n).length = R.length := rowsOf_ok ok (Gn_bd ok zs n)
def tot (A : List (Int × Int)) (g : Int × Int → Int) : Int := (A.map g).sum
theorem tot_le {g g' : Int × Int → Int} : ∀ A : List (Int × Int), (∀ c ∈ A, g c ≤ g' c) → tot A g ≤ tot A g'
  | [], _ => Int.le_refl _
  | c :: A, e => by
    have a := e c List.mem_cons_self
    have b := tot_le A fun d hd => e d (List.mem_cons_of_mem _ hd)
    unfold tot at b ⊢
    rw [List.map_cons, List.map_cons, List.sum_cons, List.sum_cons]
    omega
theorem tot_lt {g g' : Int × Int → Int} : ∀ A : List (Int × Int), (∀ c ∈ A, g c ≤ g' c) → (∃ c ∈ A, g c ≠ g' c) → tot A g < tot A g'
  | [], _, ⟨c, hc, _⟩ => absurd hc List.not_mem_nil
  | c :: A, e, ⟨d, hd, ne⟩ => by
    have a := e c List.mem_cons_self
    have b := tot_le A fun d hd => e d (List.mem_cons_of_mem _ hd)
    by_cases q : g c = g' c
    · have hd' : d ∈ A := (List.mem_cons.mp hd).resolve_left fun z => ne (by rw [z]; exact q)
      have r := tot_lt A (fun d hd => e d (List.mem_cons_of_mem _ hd)) ⟨d, hd', ne⟩
      unfold tot at r ⊢
      rw [List.map_cons, List.map_cons, List.sum_cons, List.sum_cons]
      omega
    · unfold tot at b ⊢
      rw [List.map_cons, List.map_cons, List.sum_cons, List.sum_cons]
      omega
theorem tot_const (v : Int) : ∀ A : List (Int × Int), tot A (fun _ => v) = v * (A.length : Nat)
  | [] => by simp [tot]
  | c :: A => by
    have b := tot_const v A
    unfold tot at b ⊢
    rw [List.map_cons, List.sum_cons, b, List.length_cons]
    rw [Int.natCast_add, Int.mul_add]
    omega
theorem tot_nn {g : Int × Int → Int} : ∀ A : List (Int × Int), (∀ c ∈ A, 0 ≤ g c) → 0 ≤ tot A g := fun A e => by
  have := tot_le (g := fun _ => 0) A e
  rw [tot_const] at this
  omega
theorem allC_mem {W L : Nat} {c : Int × Int} : c ∈ allC (W : Nat) (L : Nat) ↔ InB (W : Int) (L : Int) c := by
  unfold allC InB
  rw [prod_mem, zr_mem, zr_mem]
theorem Sn_fall (ok : FldOk h R W) (zs : List Zt) (n : Nat) (ne : Sn R W zs h (n + 1) ≠ Sn R W zs h n) : tot (allC (W : Nat) (R.length : Nat)) (Gn R W zs h (n + 1)) < tot (allC (W : Nat) (R.length : Nat)) (Gn R W zs h n) := by
  refine tot_lt _ (fun c hc => Gn_down zs n (allC_mem.mp hc)) ?_
  refine Classical.byContradiction fun no => ne ?_
  refine rowsOf_ext fun c hc => ?_
  exact Classical.byContradiction fun q => no ⟨c, allC_mem.mpr hc, q⟩
end
end Law
namespace Law
open PySem L2 Pl Ev
theorem cells_mem {W L : Nat} {a b c d : Int} {q : Int × Int} : q ∈ cells (W : Int) (L : Int) a b c d ↔ InB (W : Int) (L : Int) q ∧ a ≤ q.1 ∧ q.1 < c ∧ b ≤ q.2 ∧ q.2 < d := by
  unfold cells InB
  rw [prod_mem, zr_mem, zr_mem]
  constructor
  · rintro ⟨⟨h1, h2⟩, h3, h4⟩
    refine ⟨⟨⟨?_, ?_⟩, ?_, ?_⟩, ?_, ?_, ?_, ?_⟩ <;> first | (split at h1 <;> omega) | (split at h2 <;> omega) | (split at h3 <;> omega) | (split at h4 <;> omega)
  · rintro ⟨⟨⟨h1, h2⟩, h3, h4⟩, h5, h6, h7, h8⟩
    refine ⟨⟨?_, ?_⟩, ?_, ?_⟩ <;> split <;> omega
theorem max_ge {v m : Int} {is : List Int} : v ≤ maxI m is ↔ v ≤ m ∨ ∃ y ∈ is, v ≤ y := by
  constructor
  · intro h
    rcases List.mem_cons.mp (maxI_mem is m) with e | e
    · exact .inl (by rw [← e]; exact h)
    · exact .inr ⟨_, e, h⟩
  · rintro (h | ⟨y, hy, h⟩)
    · exact Int.le_trans h (maxI_le is m).1
    · exact Int.le_trans h ((maxI_le is m).2 y hy)
theorem top_ge {v : Int} {g : Int × Int → Int} {cs : List (Int × Int)} (hn : cs ≠ []) : v ≤ topOf g cs ↔ ∃ c ∈ cs, v ≤ g c := by
  cases cs with
  | nil => exact absurd rfl hn
  | cons c cs =>
    unfold topOf
    rw [max_ge]
    constructor
    · rintro (h | ⟨y, hy, h⟩)
      · exact ⟨c, List.mem_cons_self, h⟩
      · obtain ⟨d, hd, rfl⟩ := List.mem_map.mp hy
        exact ⟨d, List.mem_cons_of_mem _ hd, h⟩
    · rintro ⟨d, hd, h⟩
      rcases List.mem_cons.mp hd with e | e
      · exact .inl (by rw [← e]; exact h)
      · exact .inr ⟨_, List.mem_map.mpr ⟨d, e, rfl⟩, h⟩
section
variable {h : Int} {R : List (List Int)} {W : Nat}
def FdOf (h : Int) (R : List (List Int)) (W : Nat) : Rc.Fd := ⟨(W : Nat), (R.length : Nat), h, at2 R⟩
theorem inb_iff {c : Int × Int} : Rc.inb (FdOf h R W) c ↔ InB (W : Nat) (R.length : Nat) c := by
  unfold Rc.inb InB FdOf
  dsimp only
  exact ⟨fun ⟨a, b, c, d⟩ => ⟨⟨a, b⟩, c, d⟩, fun ⟨⟨a, b⟩, c, d⟩ => ⟨a, b, c, d⟩⟩
theorem und_iff {t p c : Int × Int} : c ∈ undC (W : Nat) (R.length : Nat) t p ↔ Rc.und (FdOf h R W) t.1 p c := by
  unfold undC Rc.und
  rw [cells_mem, inb_iff]
theorem rng_iff {t p c : Int × Int} : c ∈ ringC (W : Nat) (R.length : Nat) p t.1 ↔ Rc.rng (FdOf h R W) t.1 p c := by
  unfold ringC Rc.rng
  rw [List.mem_filter, cells_mem, inb_iff]
  simp only [Bool.not_eq_true', decide_eq_false_iff_not]
  rw [cells_mem]
  constructor
  · rintro ⟨⟨a, b, c, d, e⟩, f⟩
    exact ⟨a, ⟨b, c, d, e⟩, fun z => f ⟨a, z⟩⟩
  · rintro ⟨a, ⟨b, c, d, e⟩, f⟩
    exact ⟨⟨a, b, c, d, e⟩, fun z => f z.2⟩
theorem seats_mem {ts : List (Int × Int)} {z : Zt} : z ∈ seatsL ts (W : Nat) (R.length : Nat) ↔ z.1 ∈ ts ∧ Rc.plc (FdOf h R W) z.1.1 z.2 := by
  unfold seatsL
  rw [List.mem_flatMap]
  constructor
  · rintro ⟨t, ht, hz⟩
    obtain ⟨p, hp, rfl⟩ := List.mem_map.mp hz
    have q := spots_mem.mp hp
    exact ⟨ht, q.1.1, q.1.2, q.2.1, q.2.2⟩
  · rintro ⟨h1, h2, h3, h4, h5⟩
    exact ⟨z.1, h1, List.mem_map.mpr ⟨z.2, spots_mem.mpr ⟨⟨h2, h3⟩, h4, h5⟩, rfl⟩⟩
theorem lowZ_ge {g g' : Int × Int → Int} (e : ∀ c, InB (W : Nat) (R.length : Nat) c → g' c = g c) {z : Zt} {v : Int} {d : Int × Int} (hd : d ∈ undC (W : Nat) (R.length : Nat) z.1 z.2) : v ≤ lowZ R (W : Nat) (R.length : Nat) g' z ↔ Rc.lowGe (FdOf h R W) g z.1 z.2 v := by
  unfold lowZ Rc.lowGe
  rw [max_ge, top_ge (List.ne_nil_of_mem hd)]
  constructor
  · rintro (⟨c, hc, q⟩ | ⟨y, hy, q⟩)
    · exact .inl ⟨c, und_iff.mp hc, q⟩
    · obtain ⟨c, hc, rfl⟩ := List.mem_map.mp hy
      have r := (rng_iff (h := h)).mp hc
      exact .inr ⟨c, r, by rw [← e c (inb_iff.mp r.1)]; exact q⟩
  · rintro (⟨c, hc, q⟩ | ⟨c, hc, q⟩)
    · exact .inl ⟨c, und_iff.mpr hc, q⟩
    · exact .inr ⟨_, List.mem_map.mpr ⟨c, rng_iff.mpr hc, rfl⟩, by rw [e c (inb_iff.mp hc.1)]; exact q⟩
end
end Law
namespace Law
open PySem L2 Pl Ev
/-- what stood before stands still, but for one place -/
def Keep (k : Nat) (M M' : Mh) : Prop := M.length ≤ M'.length ∧ ∀ i, i < M.length → i ≠ k → M'[i]? = M[i]?
theorem Keep.refl (k : Nat) (M : Mh) : Keep k M M := ⟨Nat.le_refl _, fun _ _ _ => rfl⟩
theorem Keep.trans {k : Nat} {M M1 M2 : Mh} (a : Keep k M M1) (b : Keep k M1 M2) : Keep k M M2 := ⟨Nat.le_trans a.1 b.1, fun i hi hk => (b.2 i (Nat.lt_of_lt_of_le hi a.1) hk).trans (a.2 i hi hk)⟩
theorem Keep.app (k : Nat) (M l : Mh) : Keep k M (M ++ l) := ⟨by rw [List.length_append]; omega, fun i hi _ => List.getElem?_append_left hi⟩
theorem Keep.set (k : Nat) (M : Mh) (o : MO) : Keep k M (M.set k o) := ⟨by rw [List.length_set]; exact Nat.le_refl _, fun i _ hk => List.getElem?_set_ne (Ne.symm hk)⟩
section
variable {h : Int} {R : List (List Int)} {W : Nat}
def condSt : TF := tV (eOp (gEq fun p q => !PyData.eqv p q) (eVar 4) (eOp gIx (eVar 3) (eUn gNeg (eC (.int 1)))))
noncomputable def bodySt (ct : CT) : SF := sSeq (sE (eMeth2 gApp (eVar 3) (aCons (eVar 4) aNil))) (sAs (eCall (ff_after_round ct) (aCons (eVar 0) (aCons (eVar 2) (aCons (eOp gIx (eVar 3) (eUn gNeg (eC (.int 1)))) aNil))) []) (gN 4))
theorem last_e {δ : Pl.Env} {M : Mh} {k : Nat} {xs : List D} {d : D} (h3 : δ[3]? = some (some (.ref k))) (hM : M[k]? = some (.lst (xs ++ [d]))) : eOp gIx (eVar 3) (eUn gNeg (eC (.int 1))) δ M = some (d, M) := op_of (var_ h3) (show eUn gNeg (eC (.int 1)) δ M = some (.int (-1), M) from rfl) (ix_last hM)
end
end Law
namespace Law
open PySem L2 Pl Ev
theorem ix_lastL {M : Mh} {xs : List D} {d : D} : gIx (.lst (xs ++ [d])) (.int (-1)) M = some (d, M) := by
  unfold gIx
  dsimp only
  rw [atI_last]
  rfl
end Law
namespace Law
open PySem L2 Pl Ev
theorem afield4 {Ts : Mh} {n : Nat} {B : Int} {M : Mh} (p : Bz Ts n B M) (hB : B < 2 ^ 54) : ∃ (h : Int) (R : List (List Int)) (W : Nat) (M' : Mh), ff_law_a_field [.ref n, .int 4] M = some (fldD h R, M') ∧ FldOk h R W ∧ Bz Ts n (B + 100) M' := by
  obtain ⟨w, M1, e1, b1, p1, _⟩ := dg1 (i := 0) (fm := eVar 1) (many := 4) (δ := [some (.ref n), some (.int 4), none, none, none, none, none, none, none, none, none, none, none, none, none]) rfl (var_ rfl) p (by omega) (by omega) (by omega)
  obtain ⟨k, M2, e2, b2, p2, _⟩ := dg1 (i := 0) (fm := eVar 1) (many := 4) (δ := [some (.ref n), some (.int 4), none, none, none, none, none, none, none, none, none, none, none, none, none]) rfl (var_ rfl) p1 (by omega) (by omega) (by omega)
  obtain ⟨h, M3, e3, b3, p3, _⟩ := dg1 (i := 0) (fm := eC (.int 6)) (many := 6) (δ := [some (.ref n), some (.int 4), none, none, none, none, none, none, none, none, none, none, none, none, none]) rfl x_eC p2 (by omega) (by omega) (by omega)
  obtain ⟨W, rfl⟩ := Int.eq_ofNat_of_zero_le (show 0 ≤ w by omega)
  obtain ⟨K, rfl⟩ := Int.eq_ofNat_of_zero_le (show 0 ≤ k by omega)
  have q1 := rows_new (W := W) (h := h) (by omega) (rng 0 (K : Nat)) [some (.ref n), some (.int 4), some (.int W), some (.int K), some (.int h), none, none, none, none, none, none, none, none, none, none] M3 rfl rfl
  have hlen : (rng 0 (K : Nat)).length = K := by simp [rng]
  rw [hlen] at q1
  have lt3 := p3.a.lt
  have r4 := rw_new (W := W) (k := K) (h := h) M3 (by omega)
  have p4 := p3.apps (List.replicate K (MO.lst (List.replicate W (D.int h))))
  revert q1 r4 p4
  generalize M3 ++ List.replicate K (MO.lst (List.replicate W (D.int h))) = M4
  intro q1 r4 p4
  have q1' : eLc [6] (aRng1 (aCons (eVar 3) aNil)) (gN 6) tTrue eRow [some (.ref n), some (.int 4), some (.int W), some (.int K), some (.int h), none, none, none, none, none, none, none, none, none, none] M3 = some (.lst (refs M3.length K), M4) :=
    lc_ (δ1 := [some (.ref n), some (.int 4), some (.int W), some (.int K), some (.int h), none, none, none, none, none, none, none, none, none, none]) (rng1_ (j := K) (cons_of rfl x_aNil) (by omega)) rfl q1 (by unfold refs; rw [List.length_map, List.length_range]; omega)
  obtain ⟨f, M5, e5, b5, p5, f5⟩ := dgB (i := 0) (fm := eC (.int 5)) (many := 5) (δ := [some (.ref n), some (.int 4), some (.int W), some (.int K), some (.int h), some (.lst (refs M3.length K)), none, none, none, none, none, none, none, none, none]) rfl x_eC p4 (by omega) (by omega) (by omega)
  have hfl : (rng 0 (f : Nat)).length = f := by simp [rng]
  obtain ⟨δ6, M6, e6, t6, r6, p6⟩ := turn_go (n := n) (base := M3.length) (k := K) (W := W) (h := h) (by omega) (by omega) (by omega) lt3 (rng 0 (f : Nat)) _ [some (.ref n), some (.int 4), some (.int W), some (.int K), some (.int h), some (.lst (refs M3.length K)), none, none, none, none, none, none, none, none, none] M5 ⟨rfl, rfl, rfl, rfl, rfl, rfl⟩ (r4.fr lt3 f5) p5 (by rw [hfl]; omega)
  rw [hfl] at p6
  obtain ⟨R, hR, ok, e7⟩ := rows_tup K M3.length (wipeD δ6 [14]) M6 (by simp [wipeD, t6.l]) r6
  refine ⟨h, R, W, M6, ?_, ⟨by omega, by omega, by omega, fun r hr => ok r hr⟩, p6.up (by omega)⟩
  refine fn_ (δ0 := [some (.ref n), some (.int 4), none, none, none, none, none, none, none, none, none, none, none, none, none]) rfl ?_
  refine seq_ (sas_ (tup_ (cons_of e1 (cons_of e2 (cons_of e3 x_aNil))) (by simp)) (δ' := [some (.ref n), some (.int 4), some (.int W), some (.int K), some (.int h), none, none, none, none, none, none, none, none, none, none]) rfl) ?_
  refine seq_ (sas_ q1' (δ' := [some (.ref n), some (.int 4), some (.int W), some (.int K), some (.int h), some (.lst (refs M3.length K)), none, none, none, none, none, none, none, none, none]) rfl) ?_
  refine seq_ (for_ (rng1_ (j := f) (cons_of e5 x_aNil) (by omega)) e6) ?_
  refine ret_ (tup_ (cons_of (var_ t6.g4) (cons_of (d := .tup (R.map fun r => .tup (r.map D.int))) (M1 := M6) ?_ x_aNil)) (by simp))
  have q7 : eLc [14] (aItems (eVar 5)) (gN 14) tTrue (eB gTupOf (aCons (eVar 14) aNil)) δ6 M6 = some (.lst (R.map fun r => D.tup (r.map D.int)), M6) := lc_ (δ1 := wipeD δ6 [14]) (by
    unfold aItems
    rw [var_ t6.g5]) rfl e7 (by rw [List.length_map]; omega)
  rw [x_eB, cons_of q7 x_aNil]
  rfl
end Law
namespace Law
open PySem L2 Pl Ev
theorem in_ref {f : Bool → Bool} {p : Int × Int} {L : List (Int × Int)} {M : Mh} {k : Nat} (hM : M[k]? = some (.lst (L.map cellD))) : gIn f (cellD p) (.ref k) M = some (.bl (f (decide (p ∈ L))), M) := by
  have q := (in_cells f p L M).2
  unfold gIn cellD at q ⊢
  dsimp only at q ⊢
  have e : deref M (.ref k) = .lst (L.map cellD) := by
    unfold deref
    dsimp only
    rw [hM]
  rw [e]
  exact q
end Law
namespace Law
open PySem L2 Pl Ev
theorem Bz.keep {Ts : Mh} {n : Nat} {B : Int} {M M' : Mh} (p : Bz Ts n B M) (hl : M.length ≤ M'.length) (hk : ∀ i, i < M.length → M'[i]? = M[i]?) : Bz Ts n B M' := by
  have lt := p.a.lt
  have le := p.le
  refine ⟨?_, p.le, fun m hm => ?_⟩
  · obtain ⟨a, b, c, e, q1, q2, q3⟩ := p.a
    exact ⟨a, b, c, by rw [hk n lt]; exact e, q1, q2, q3⟩
  · rw [hk m (by omega)]
    exact p.z m hm
end Law
namespace Law
open PySem L2 Pl Pl.Ev
def dcfD (g : Int × Int → Int) (A : List (Int × Int)) : D := .dcf (A.map fun c => [c.1, c.2]) (A.map fun c => .int (g c))
theorem zip_dcf {g : Int × Int → Int} {A : List (Int × Int)} : (A.map fun c => ([c.1, c.2] : List Int)).zip (A.map fun c => D.int (g c)) = dctOf g A := by
  unfold dctOf
  induction A with
  | nil => rfl
  | cons a A ih => rw [List.map_cons, List.map_cons, List.zip_cons_cons, ih, List.map_cons]
theorem ixF_e {fa fb : EF} {δ : Pl.Env} {M : Mh} {g : Int × Int → Int} {A : List (Int × Int)} {c : Int × Int} (h1 : fa δ M = some (dcfD g A, M)) (h2 : fb δ M = some (cellD c, M)) (hc : c ∈ A) : eOp gIxF fa fb δ M = some (.int (g c), M) := by
  refine op_of h1 h2 ?_
  unfold gIxF cellD dcfD
  dsimp only
  rw [zip_dcf]
  show (valD (dctOf g A) [c.1, c.2]).map _ = _
  rw [val_dct hc]
  rfl
theorem as_fieldF {h : Int} {R : List (List Int)} {W : Nat} (ok : FldOk h R W) {g : Int × Int → Int} {M : Mh} : ff_law_as_field [fldD h R, dcfD g (allC (W : Nat) (R.length : Nat))] M = some (fldD h (rowsOf g W R.length), M) := by
  have w := ok.w
  have l := ok.l
  generalize hX : dcfD g (allC (W : Nat) (R.length : Nat)) = X
  refine fn_rt ?_
  show gg_law_as_field [some (fldD h R), some X, none, none, none, none] M = _
  unfold gg_law_as_field
  refine seq_as (M1 := M) (δ' := [some (fldD h R), some X, some (.int (W : Nat)), some (.int (R.length : Nat)), none, none]) (tup_ (cons_of (wide_of ok rfl) (cons_of (long_of rfl) x_aNil)) (by simp)) rfl ?_
  have inner : ∀ j ∈ zr 0 (R.length : Nat), eB gTupOf (aCons (eLc [4] (aRng1 (aCons (eVar 2) aNil)) (gN 4) tTrue (eOp gIxF (eVar 1) (eTup (aCons (eVar 4) (aCons (eVar 5) aNil))))) aNil) (([some (fldD h R), some X, some (.int (W : Nat)), some (.int (R.length : Nat)), none, none] : Pl.Env).set 5 (some (.int j))) M = some (.tup (((zr 0 (W : Nat)).map fun i => g (i, j)).map D.int), M) := fun j hj => by
    have hj' := zr_mem.mp hj
    refine tupL ?_
    rw [List.map_map]
    refine lc_ (δ1 := [some (fldD h R), some X, some (.int (W : Nat)), some (.int (R.length : Nat)), none, some (.int j)]) (rng1Z (cons_of rfl x_aNil) (by omega)) rfl (lc_all (emb := D.int) (f := D.int ∘ fun i => g (i, j)) _ fun i hi => ?_) (by rw [List.length_map, zr_len]; omega)
    subst hX
    exact ixF_e (c := (i, j)) rfl (x_eTup (cons_of rfl (cons_of rfl x_aNil)) (by simp)) (prod_mem.mpr ⟨hi, hj⟩)
  refine ret_of (tup_ (ds := [.int h, .tup ((rowsOf g W R.length).map fun r => .tup (r.map D.int))]) (cons_of (op_of rfl x_eC rfl) (cons_of (tupL (lc_ (δ1 := [some (fldD h R), some X, some (.int (W : Nat)), some (.int (R.length : Nat)), none, none]) (rng1Z (cons_of rfl x_aNil) (by omega)) rfl ((lc_all (emb := D.int) (f := fun j => .tup (((zr 0 (W : Nat)).map fun i => g (i, j)).map D.int)) _ inner).trans ?_) ?_)) x_aNil)) (by simp))
  · unfold rowsOf
    rw [List.map_map]
    rfl
  · rw [List.length_map, rows_len]; omega
section
variable {h : Int} {R : List (List Int)} {W : Nat} {t : Int × Int}
noncomputable def sLowF : SF := sIf (tV (eOp (gIn fun b => !b) (eVar 6) (eVar 4))) (sE (eMeth2 gApp (eVar 5) (aCons (eOp (gInt fun i j => .int (i - j)) (eOp gIxF (eVar 1) (eVar 6)) (eOp gIx (eVar 2) (eC (.int 1)))) aNil))) sNil
theorem lowF_go {a s : Option D} {g : Int × Int → Int} {C U : List (Int × Int)} {P q : Mh} : ∀ (A : List (Int × Int)) (acc : List Int) (x : Option D), (∀ c ∈ A, c ∈ C) → acc.length + A.length ≤ 900 →
    ∃ x', forGo (gN 6) sLowF (A.map cellD) [a, some (dcfD g C), some (cellD t), s, some (.lst (U.map cellD)), some (.ref P.length), x] (P ++ (.lst (acc.map D.int) :: q)) = some (.nx [a, some (dcfD g C), some (cellD t), s, some (.lst (U.map cellD)), some (.ref P.length), x'] (P ++ (.lst ((acc ++ (A.filter fun c => !decide (c ∈ U)).map fun c => g c - t.2).map D.int) :: q)))
  | [], acc, x, _, _ => ⟨x, by simp only [List.filter_nil, List.map_nil, List.append_nil]; exact forN_⟩
  | c :: A, acc, x, hA, hl => by
    rw [List.length_cons] at hl
    have tst : tV (eOp (gIn fun b => !b) (eVar 6) (eVar 4)) [a, some (dcfD g C), some (cellD t), s, some (.lst (U.map cellD)), some (.ref P.length), some (cellD c)] (P ++ (.lst (acc.map D.int) :: q)) = some (!decide (c ∈ U), P ++ (.lst (acc.map D.int) :: q)) := v_bl (op_of rfl rfl (in_cells (fun b => !b) c U _).2)
    rw [List.map_cons, List.filter_cons]
    cases hd : (!decide (c ∈ U)) with
    | true =>
      rw [hd] at tst
      obtain ⟨x', ih⟩ := lowF_go (g := g) (C := C) (P := P) (a := a) (s := s) (U := U) (q := q) A (acc ++ [g c - t.2]) (some (cellD c)) (fun b hb => hA b (List.mem_cons_of_mem _ hb)) (by rw [List.length_append]; simp; omega)
      rw [List.append_assoc] at ih
      refine ⟨x', ?_⟩
      rw [if_pos rfl]
      refine forC_ (δ1 := [a, some (dcfD g C), some (cellD t), s, some (.lst (U.map cellD)), some (.ref P.length), some (cellD c)]) (δ2 := [a, some (dcfD g C), some (cellD t), s, some (.lst (U.map cellD)), some (.ref P.length), some (cellD c)]) (M2 := P ++ (.lst ((acc ++ [g c - t.2]).map D.int) :: q)) rfl (if_tt tst (se_ (d := .non) ?_)) ih
      rw [List.map_append]
      exact app_mid rfl (cons_of (op_of (ixF_e (A := C) rfl rfl (hA c List.mem_cons_self)) (op_of rfl x_eC ix_c1) rfl) x_aNil) (by rw [List.length_map]; omega)
    | false =>
      rw [hd] at tst
      obtain ⟨x', ih⟩ := lowF_go (g := g) (C := C) (P := P) (a := a) (s := s) (U := U) (q := q) A acc (some (cellD c)) (fun b hb => hA b (List.mem_cons_of_mem _ hb)) (by omega)
      refine ⟨x', ?_⟩
      rw [if_neg (by decide)]
      exact forC_ (δ1 := [a, some (dcfD g C), some (cellD t), s, some (.lst (U.map cellD)), some (.ref P.length), some (cellD c)]) (δ2 := [a, some (dcfD g C), some (cellD t), s, some (.lst (U.map cellD)), some (.ref P.length), some (cellD c)]) (M2 := P ++ (.lst (acc.map D.int) :: q)) rfl (if_ff tst nil_of) ih
def lowQ (R : List (List Int)) (F : Int × Int → Int) (W L : Int) (t p : Int × Int) : List Int := (cells W L p.1 p.2 (p.1 + t.1) (p.2 + t.1)).map (at2 R) ++ (ringC W L p t.1).map fun c => F c - t.2
def lowJ (R : List (List Int)) (F : Int × Int → Int) (W L : Int) (t p : Int × Int) : Int := maxI 0 (lowQ R F W L t p)
theorem lowQ_eq {F : Int × Int → Int} {p : Int × Int} {W' L : Int} : (nearC W' L p t.1 0).map (at2 R) ++ ((nearC W' L p t.1 1).filter fun c => !decide (c ∈ nearC W' L p t.1 0)).map (fun c => F c - t.2) = lowQ R F W' L t p := by
  unfold lowQ
  rw [ring_eq, under_eq]
theorem lowF_sp (ok : FldOk h R W) {g : Int × Int → Int} {M : Mh} (p : Int × Int) :
    ∃ l, ff_law_low [fldD h R, dcfD g (allC (W : Nat) (R.length : Nat)), cellD t, cellD p] M = some (.int (lowJ R g (W : Nat) (R.length : Nat) t p), M ++ l) := by
  obtain ⟨d1, d2⟩ := ok.dim
  have n0 := near_len (W := (W : Nat)) (L := (R.length : Nat)) (p := p) (s := t.1) (m := 0) d1 d2
  have n1 := near_len (W := (W : Nat)) (L := (R.length : Nat)) (p := p) (s := t.1) (m := 1) d1 d2
  obtain ⟨x', go⟩ := lowF_go (t := t) (g := g) (C := allC (W : Nat) (R.length : Nat)) (P := M ++ [MO.dead, .dead]) (a := some (fldD h R)) (s := some (cellD p)) (U := nearC (W : Nat) (R.length : Nat) p t.1 0) (q := [.dead, .dead]) (nearC (W : Nat) (R.length : Nat) p t.1 1) ((nearC (W : Nat) (R.length : Nat) p t.1 0).map (at2 R)) none (fun c hc => (List.mem_filter.mp hc).1) (by rw [List.length_map]; omega)
  rw [lowQ_eq] at go
  generalize dcfD g (allC (W : Nat) (R.length : Nat)) = X at go ⊢
  have e1 : eCall ff_law_near (aCons (eVar 0) (aCons (eVar 3) (aCons (eOp gIx (eVar 2) (eC (.int 0))) (aCons (eC (.int 0)) aNil)))) [] [some (fldD h R), some X, some (cellD t), some (cellD p), none, none, none] M = some (.lst ((nearC (W : Nat) (R.length : Nat) p t.1 0).map cellD), M ++ [.dead, .dead]) := call_of (cons_of rfl (cons_of rfl (cons_of (op_of rfl x_eC ix_c0) (cons_of x_eC x_aNil)))) (near_sp ok p t.1 0 M)
  have e2 := lcLive_ (vs := [6]) (q := aItems (eVar 4)) (p := gN 6) (t := tTrue) (f := eCall ff_law_aim (aCons (eVar 0) (aCons (eVar 6) aNil)) []) (δ := [some (fldD h R), some X, some (cellD t), some (cellD p), some (.lst ((nearC (W : Nat) (R.length : Nat) p t.1 0).map cellD)), none, none]) (δ1 := [some (fldD h R), some X, some (cellD t), some (cellD p), some (.lst ((nearC (W : Nat) (R.length : Nat) p t.1 0).map cellD)), none, none]) (M := M ++ [.dead, .dead]) (itemsL_ rfl) rfl ((lc_all (emb := cellD) (f := D.int ∘ at2 R) _ fun c hc => call_of (cons_of rfl (cons_of rfl x_aNil)) (aim_sp ok (near_in hc) _)).trans (by rw [← List.map_map])) (by rw [List.length_map, List.length_map]; omega)
  refine ⟨[.dead, .dead] ++ (.lst ((lowQ R g (W : Nat) (R.length : Nat) t p).map D.int) :: [.dead, .dead]), fn_rt ?_⟩
  rw [← List.append_assoc]
  show gg_law_low [some (fldD h R), some X, some (cellD t), some (cellD p), none, none, none] M = _
  unfold gg_law_low
  refine seq_as (δ' := [some (fldD h R), some X, some (cellD t), some (cellD p), some (.lst ((nearC (W : Nat) (R.length : Nat) p t.1 0).map cellD)), none, none]) e1 rfl ?_
  refine seq_as (δ' := [some (fldD h R), some X, some (cellD t), some (cellD p), some (.lst ((nearC (W : Nat) (R.length : Nat) p t.1 0).map cellD)), some (.ref (M ++ [MO.dead, .dead]).length), none]) e2 rfl ?_
  have it : aItems (eCall ff_law_near (aCons (eVar 0) (aCons (eVar 3) (aCons (eOp gIx (eVar 2) (eC (.int 0))) (aCons (eC (.int 1)) aNil)))) []) [some (fldD h R), some X, some (cellD t), some (cellD p), some (.lst ((nearC (W : Nat) (R.length : Nat) p t.1 0).map cellD)), some (.ref (M ++ [MO.dead, .dead]).length), none] ((M ++ [MO.dead, .dead]) ++ [.lst (((nearC (W : Nat) (R.length : Nat) p t.1 0).map (at2 R)).map D.int)]) = some ((nearC (W : Nat) (R.length : Nat) p t.1 1).map cellD, (M ++ [MO.dead, .dead]) ++ (.lst (((nearC (W : Nat) (R.length : Nat) p t.1 0).map (at2 R)).map D.int) :: [.dead, .dead])) := by
    refine itemsL_ (call_of (cons_of rfl (cons_of rfl (cons_of (op_of rfl x_eC ix_c0) (cons_of x_eC x_aNil)))) ((near_sp ok p t.1 1 _).trans ?_))
    rw [List.append_assoc]
    rfl
  refine seq_nx (for_ it go) (ret_of (max_e (m := 0) (is := lowQ R g (W : Nat) (R.length : Nat) t p) ?_))
  rw [List.map_cons]
  refine op_of (x_eLst (cons_of x_eC x_aNil) (by simp)) rfl (add_ref (by simp) ?_)
  unfold lowQ
  rw [← under_eq, ← ring_eq]
  have := List.length_filter_le (fun c => !decide (c ∈ nearC (W : Nat) (R.length : Nat) p t.1 0)) (nearC (W : Nat) (R.length : Nat) p t.1 1)
  simp
  omega
theorem dictF_e {f : EF} {δ : Pl.Env} {M M1 : Mh} {g : Int × Int → Int} {A : List (Int × Int)} (h : f δ M = some (.lst (A.map fun c => D.tup [cellD c, .int (g c)]), M1)) (hA : A.Nodup) : eB gDictF (aCons f aNil) δ M = some (dcfD g A, M1) := by
  rw [x_eB, cons_of h x_aNil]
  show gDictF [.lst (A.map fun c => D.tup [cellD c, .int (g c)])] M1 = _
  unfold gDictF
  dsimp only [lstOf]
  rw [pairs_dct]
  dsimp only
  rw [if_pos (dct_keys hA)]
  unfold dctOf dcfD
  rw [List.map_map, List.map_map]
  rfl
theorem fullF_sp (ok : FldOk h R W) (M : Mh) : ff_law_full [fldD h R] M = some (dcfD (fun _ => h) (allC (W : Nat) (R.length : Nat)), M ++ [.dead]) := by
  obtain ⟨d1, d2⟩ := ok.dim
  have al := allC_len d1 d2
  refine fn_rt ?_
  show gg_law_full [some (fldD h R), none] M = _
  unfold gg_law_full
  exact ret_of (dictF_e (g := fun _ => h) (A := allC (W : Nat) (R.length : Nat)) (lc_ (δ1 := [some (fldD h R), none]) (itemsL_ (call_of (cons_of rfl x_aNil) (cells_sp ok M))) rfl (lc_all (emb := cellD) (f := fun c => D.tup [cellD c, .int h]) _ fun c hc => x_eTup (cons_of rfl (cons_of (op_of rfl x_eC rfl) x_aNil)) (by simp)) (by rw [List.length_map]; omega)) (allC_nodup _ _))
/-- items() of such a dict -/
theorem items_zip {g : Int × Int → Int} : ∀ A : List (Int × Int), (((A.map fun c => ([c.1, c.2] : List Int)).map fun k => D.tup (k.map D.int)).zip (A.map fun c => D.int (g c))).map (fun p => D.tup [p.1, p.2]) = A.map fun c => D.tup [cellD c, .int (g c)]
  | [] => rfl
  | a :: A => congrArg (D.tup [cellD a, .int (g a)] :: ·) (items_zip A)
theorem itemsC_e {f : EF} {δ : Pl.Env} {M M1 : Mh} {g : Int × Int → Int} {A : List (Int × Int)} (h : f δ M = some (dcfD g A, M1)) : aItemsC f δ M = some (A.map fun c => D.tup [cellD c, .int (g c)], M1) := by
  unfold aItemsC
  rw [h]
  unfold dcfD
  dsimp only
  rw [items_zip]
/-- what stands behind a stand -/
def cutG (g : Int × Int → Int) (W L : Int) (z : Zt) (v : Int) (c : Int × Int) : Int := if c ∈ nearC W L z.2 z.1.1 0 then (if v < g c then v else g c) else g c
def zD (z : Zt) : D := .tup [cellD z.1, cellD z.2]
theorem lc_pair {α : Type} {x y : α → D} {f : α → D} {u v : Nat} {e : EF} {δ : Pl.Env} {M : Mh} : ∀ A : List α, (∀ a ∈ A, e ((δ.set u (some (x a))).set v (some (y a))) M = some (f a, M)) → lcGo (gTp (gsCons (gN u) (gsCons (gN v) gsNil))) tTrue e (A.map fun a => D.tup [x a, y a]) δ M = some (A.map f, M)
  | [], _ => lcN_
  | a :: A, h => by
    have ih := lc_pair (x := x) (y := y) (f := f) (e := e) (δ := δ) (u := u) (v := v) (M := M) A fun b hb => h b (List.mem_cons_of_mem _ hb)
    rw [List.map_cons, List.map_cons]
    exact lcC_ (x := true) (M1 := M) (δ1 := (δ.set u (some (x a))).set v (some (y a))) rfl tt_ (lcY_ (t := tTrue) (δ := δ) (δ1 := (δ.set u (some (x a))).set v (some (y a))) (h a List.mem_cons_self) ih)
theorem cutF_sp (ok : FldOk h R W) {g : Int × Int → Int} {M : Mh} (z : Zt) (v : Int) :
    ff_law_cut [fldD h R, dcfD g (allC (W : Nat) (R.length : Nat)), .tup [cellD z.1, cellD z.2, .int v]] M = some (dcfD (cutG g (W : Nat) (R.length : Nat) z v) (allC (W : Nat) (R.length : Nat)), M ++ [.dead, .dead]) := by
  obtain ⟨d1, d2⟩ := ok.dim
  have al := allC_len d1 d2
  refine fn_rt ?_
  show gg_law_cut [some (fldD h R), some (dcfD g (allC (W : Nat) (R.length : Nat))), some (.tup [cellD z.1, cellD z.2, .int v]), none, none, none, none, none, none] M = _
  unfold gg_law_cut
  refine seq_as (M1 := M) (δ' := [some (fldD h R), some (dcfD g (allC (W : Nat) (R.length : Nat))), some (.tup [cellD z.1, cellD z.2, .int v]), some (cellD z.1), some (cellD z.2), some (.int v), none, none, none]) rfl rfl ?_
  refine seq_as (M1 := M ++ [MO.dead, .dead]) (δ' := [some (fldD h R), some (dcfD g (allC (W : Nat) (R.length : Nat))), some (.tup [cellD z.1, cellD z.2, .int v]), some (cellD z.1), some (cellD z.2), some (.int v), some (.lst ((nearC (W : Nat) (R.length : Nat) z.2 z.1.1 0).map cellD)), none, none]) (call_of (cons_of rfl (cons_of rfl (cons_of (op_of rfl x_eC ix_c0) (cons_of x_eC x_aNil)))) (near_sp ok z.2 z.1.1 0 M)) rfl ?_
  refine ret_of (dictF_e (g := cutG g (W : Nat) (R.length : Nat) z v) (A := allC (W : Nat) (R.length : Nat)) (lc_ (δ1 := [some (fldD h R), some (dcfD g (allC (W : Nat) (R.length : Nat))), some (.tup [cellD z.1, cellD z.2, .int v]), some (cellD z.1), some (cellD z.2), some (.int v), some (.lst ((nearC (W : Nat) (R.length : Nat) z.2 z.1.1 0).map cellD)), none, none]) (itemsC_e rfl) rfl (lc_pair (x := cellD) (y := fun c => D.int (g c)) (f := fun c => D.tup [cellD c, .int (cutG g (W : Nat) (R.length : Nat) z v c)]) _ fun c hc => ?_) (by rw [List.length_map]; omega)) (allC_nodup _ _))
  refine x_eTup (cons_of rfl (cons_of (M1 := M ++ [MO.dead, .dead]) (d := .int (cutG g (W : Nat) (R.length : Nat) z v c)) ?_ x_aNil)) (by simp)
  have tst : tV (eOp (gIn fun b => b) (eVar 7) (eVar 6)) [some (fldD h R), some (dcfD g (allC (W : Nat) (R.length : Nat))), some (.tup [cellD z.1, cellD z.2, .int v]), some (cellD z.1), some (cellD z.2), some (.int v), some (.lst ((nearC (W : Nat) (R.length : Nat) z.2 z.1.1 0).map cellD)), some (cellD c), some (.int (g c))] (M ++ [.dead, .dead]) = some (decide (c ∈ nearC (W : Nat) (R.length : Nat) z.2 z.1.1 0), M ++ [.dead, .dead]) := v_bl (op_of rfl rfl (in_cells (fun b => b) c _ _).2)
  unfold cutG
  by_cases hm : c ∈ nearC (W : Nat) (R.length : Nat) z.2 z.1.1 0
  · rw [decide_eq_true hm] at tst
    rw [if_pos hm]
    refine ei_tt tst ?_
    rw [x_eB, cons_of (f := eVar 8) rfl (cons_of (f := eVar 5) rfl x_aNil)]
    rfl
  · rw [decide_eq_false hm] at tst
    rw [if_neg hm]
    exact ei_ff tst rfl
end
end Law
namespace Law
open PySem L2 Pl Pl.Ev
section
variable {h : Int} {R : List (List Int)} {W : Nat}
theorem near_und {z : Zt} {c : Int × Int} : c ∈ nearC (W : Nat) (R.length : Nat) z.2 z.1.1 0 ↔ c ∈ undC (W : Nat) (R.length : Nat) z.1 z.2 := by
  rw [under_eq]
  exact Iff.rfl
theorem lowJ_ge (ok : FldOk h R W) {g : Int × Int → Int} {z : Zt} {v : Int} {d : Int × Int} (hd : d ∈ undC (W : Nat) (R.length : Nat) z.1 z.2) : v ≤ lowJ R g (W : Nat) (R.length : Nat) z.1 z.2 ↔ Rc.lowGe (FdOf h R W) g z.1 z.2 v := by
  unfold lowJ lowQ Rc.lowGe
  rw [max_ge]
  constructor
  · rintro (q | ⟨y, hy, q⟩)
    · exact .inl ⟨d, und_iff.mp hd, Int.le_trans q (at_fld ok (cells_inB hd)).1⟩
    · rcases List.mem_append.mp hy with hy | hy
      · obtain ⟨c, hc, rfl⟩ := List.mem_map.mp hy
        exact .inl ⟨c, und_iff.mp hc, q⟩
      · obtain ⟨c, hc, rfl⟩ := List.mem_map.mp hy
        exact .inr ⟨c, rng_iff.mp hc, q⟩
  · rintro (⟨c, hc, q⟩ | ⟨c, hc, q⟩)
    · exact .inr ⟨_, List.mem_append_left _ (List.mem_map.mpr ⟨c, und_iff.mpr hc, rfl⟩), q⟩
    · exact .inr ⟨_, List.mem_append_right _ (List.mem_map.mpr ⟨c, rng_iff.mpr hc, rfl⟩), q⟩
theorem cutG_le (g : Int × Int → Int) (z : Zt) (v : Int) (c : Int × Int) : cutG g (W : Nat) (R.length : Nat) z v c ≤ g c := by
  unfold cutG
  split
  · split <;> omega
  · exact Int.le_refl _
/-- what always holds: nothing stands below what is reached, nor below the field -/
structure Abv (h : Int) (R : List (List Int)) (W : Nat) (T g : Int × Int → Int) : Prop where
  t : ∀ c, InB (W : Nat) (R.length : Nat) c → T c ≤ g c
  f : ∀ c, InB (W : Nat) (R.length : Nat) c → at2 R c ≤ g c
  h : ∀ c, InB (W : Nat) (R.length : Nat) c → g c ≤ h
theorem Abv.cut (ok : FldOk h R W) {ts : List (Int × Int)} {T g : Int × Int → Int} (r : Rc.Rch (FdOf h R W) ts T) (a : Abv h R W T g) {z : Zt} (hz : z ∈ seatsL ts (W : Nat) (R.length : Nat)) {v : Int} (hv : lowJ R g (W : Nat) (R.length : Nat) z.1 z.2 ≤ v) : Abv h R W T (cutG g (W : Nat) (R.length : Nat) z v) := by
  obtain ⟨m1, m2⟩ := (seats_mem (h := h)).mp hz
  refine ⟨fun c hc => ?_, fun c hc => ?_, fun c hc => Int.le_trans (cutG_le g z v c) (a.h c hc)⟩
  · unfold cutG
    split
    · rename_i hu
      have hu' := near_und.mp hu
      have q := r.post c (inb_iff.mpr hc) z.1 m1 z.2 m2 (und_iff.mp hu')
      have q2 := (lowJ_ge ok hu').mpr (Rc.lowGe.mono (fun d hd => a.t d (inb_iff.mp hd)) (Int.le_refl _) q)
      have := a.t c hc
      split <;> omega
    · exact a.t c hc
  · unfold cutG
    split
    · rename_i hu
      have hu' := near_und.mp hu
      have q2 := (lowJ_ge ok (g := g) (v := at2 R c) hu').mpr (.inl ⟨c, und_iff.mp hu', Int.le_refl _⟩)
      have := a.f c hc
      split <;> omega
    · exact a.f c hc
theorem set_mid {M l : Mh} {x y : MO} : (M ++ (x :: l)).set M.length y = M ++ (y :: l) := by
  rw [List.set_append_right _ _ (Nat.le_refl _), Nat.sub_self]
  rfl
theorem at_mid {M l : Mh} {x : MO} : (M ++ (x :: l))[M.length]? = some x := by simp
theorem stands_go (ok : FldOk h R W) {M : Mh} {a1 : Option D} : ∀ (ts : List (Int × Int)) (acc : List Zt) (l : Mh) (x : Option D), (∀ t ∈ ts, Tl t) → acc.length + 144 * ts.length ≤ 900 →
    ∃ (l' : Mh) (x' : Option D), forGo (gN 3) (sE (eMeth2 gExt (eVar 2) (aCons (eLc [4] (aItems (eCall ff_law_spots (aCons (eVar 0) (aCons (eOp gIx (eVar 3) (eC (.int 0))) aNil)) [])) (gN 4) tTrue (eTup (aCons (eVar 3) (aCons (eVar 4) aNil)))) aNil))) (ts.map cellD) [some (fldD h R), a1, some (.ref M.length), x, none] (M ++ (.lst (acc.map zD) :: l)) = some (.nx [some (fldD h R), a1, some (.ref M.length), x', none] (M ++ (.lst ((acc ++ seatsL ts (W : Nat) (R.length : Nat)).map zD) :: l')))
  | [], acc, l, x, _, _ => ⟨l, x, by
    rw [show seatsL [] (W : Nat) (R.length : Nat) = [] from rfl, List.append_nil]
    exact forN_⟩
  | t :: ts, acc, l, x, ht, hl => by
    have w := ok.w
    have lw := ok.l
    rw [List.length_cons] at hl
    have t0 := ht t List.mem_cons_self
    have sl := spots_len (W := (W : Nat)) (L := (R.length : Nat)) (s := t.1) (by omega) (by omega) t0
    obtain ⟨l', x', ih⟩ := stands_go ok (M := M) (a1 := a1) ts (acc ++ (spotsC (W : Nat) (R.length : Nat) t.1).map fun p => (t, p)) (l ++ [.dead]) (some (cellD t)) (fun q hq => ht q (List.mem_cons_of_mem _ hq)) (by rw [List.length_append, List.length_map]; omega)
    refine ⟨l', x', ?_⟩
    rw [List.map_cons]
    have e : seatsL (t :: ts) (W : Nat) (R.length : Nat) = ((spotsC (W : Nat) (R.length : Nat) t.1).map fun p => (t, p)) ++ seatsL ts (W : Nat) (R.length : Nat) := List.flatMap_cons
    rw [e, ← List.append_assoc]
    refine forC_ (δ1 := [some (fldD h R), a1, some (.ref M.length), some (cellD t), none]) rfl (se_ (d := .non) (M1 := M ++ (.lst ((acc ++ (spotsC (W : Nat) (R.length : Nat) t.1).map fun p => (t, p)).map zD) :: (l ++ [.dead]))) ?_) ih
    have sp := spots_sp ok t0 (M ++ (.lst (acc.map zD) :: l))
    rw [List.append_assoc, List.cons_append] at sp
    have lc : eLc [4] (aItems (eCall ff_law_spots (aCons (eVar 0) (aCons (eOp gIx (eVar 3) (eC (.int 0))) aNil)) [])) (gN 4) tTrue (eTup (aCons (eVar 3) (aCons (eVar 4) aNil))) [some (fldD h R), a1, some (.ref M.length), some (cellD t), none] (M ++ (.lst (acc.map zD) :: l)) = some (.lst ((spotsC (W : Nat) (R.length : Nat) t.1).map fun p => zD (t, p)), M ++ (.lst (acc.map zD) :: (l ++ [.dead]))) :=
      lc_ (δ1 := [some (fldD h R), a1, some (.ref M.length), some (cellD t), none]) (itemsL_ (call_of (cons_of rfl (cons_of (op_of rfl x_eC ix_c0) x_aNil)) sp)) rfl (lc_all (emb := cellD) (f := fun p => zD (t, p)) _ fun p hp => x_eTup (cons_of rfl (cons_of rfl x_aNil)) (show 2 ≤ 1000 by decide)) (by rw [List.length_map]; omega)
    have q := ext_at (f := eVar 2) (q := aCons (eLc [4] (aItems (eCall ff_law_spots (aCons (eVar 0) (aCons (eOp gIx (eVar 3) (eC (.int 0))) aNil)) [])) (gN 4) tTrue (eTup (aCons (eVar 3) (aCons (eVar 4) aNil)))) aNil) (δ := [some (fldD h R), a1, some (.ref M.length), some (cellD t), none]) (M := M ++ (.lst (acc.map zD) :: l)) (n := M.length) (xs := acc.map zD) rfl at_mid (cons_of lc x_aNil) at_mid (by rw [List.length_map, List.length_map]; omega)
    rw [set_mid] at q
    rw [q, List.map_append, List.map_map]
    rfl
theorem stands_sp (ok : FldOk h R W) {ts : List (Int × Int)} (ht : ∀ t ∈ ts, Tl t) (hl : ts.length ≤ 4) (M : Mh) : ∃ l, ff_law_all_stands [fldD h R, .tup (ts.map cellD)] M = some (.lst ((seatsL ts (W : Nat) (R.length : Nat)).map zD), M ++ l) := by
  obtain ⟨l', x', go⟩ := stands_go ok (M := M) (a1 := some (.tup (ts.map cellD))) ts [] [] none ht (by show 0 + 144 * ts.length ≤ 900; omega)
  refine ⟨.dead :: l', fn_rt ?_⟩
  show gg_law_all_stands [some (fldD h R), some (.tup (ts.map cellD)), none, none, none] M = _
  unfold gg_law_all_stands
  refine seq_as (δ' := [some (fldD h R), some (.tup (ts.map cellD)), some (.ref M.length), none, none]) (new_ x_aNil (by decide)) rfl ?_
  refine seq_nx (for_ (items_t rfl) go) (ret_of ?_)
  exact frz_mid rfl
end
end Law
namespace Law
open PySem L2 Pl Pl.Ev
theorem toolsd_go {Ts : Mh} {n k : Nat} (nk : n < k) {a1 : Option D} : ∀ (ds : List D) (A : List (Int × Int)) (B : Int) (M : Mh) (x y : Option D), Bz Ts n B M → B + 8 * (ds.length : Nat) < 2 ^ 56 → M[k]? = some (.lst (A.map cellD)) → (∀ t ∈ A, ToolOk t) → A.Nodup → A.length + ds.length ≤ 100 →
    ∃ (A' : List (Int × Int)) (M' : Mh) (x' y' : Option D), forGo (gN 3) (sSeq (sAs (eTup (aCons (eOp gAdd (eC (.int 1)) (eCall ff_law_digit (aCons (eVar 0) (aCons (eC (.int 4)) aNil)) [])) (aCons (eOp gAdd (eC (.int 1)) (eCall ff_law_digit (aCons (eVar 0) (aCons (eC (.int 6)) aNil)) [])) aNil))) (gN 4)) (sIf (tV (eOp (gIn fun b => !b) (eVar 4) (eVar 2))) (sE (eMeth2 gApp (eVar 2) (aCons (eVar 4) aNil))) sNil)) ds [some (.ref n), a1, some (.ref k), x, y] M = some (.nx [some (.ref n), a1, some (.ref k), x', y'] M') ∧
      M'[k]? = some (.lst (A'.map cellD)) ∧ (∀ t ∈ A', ToolOk t) ∧ A'.Nodup ∧ A'.length ≤ A.length + ds.length ∧ Bz Ts n (B + 8 * (ds.length : Nat)) M'
  | [], A, B, M, x, y, p, hB, hM, hA, nd, hl => ⟨A, M, x, y, forN_, hM, hA, nd, Nat.le_refl _, by simpa using p⟩
  | d :: ds, A, B, M, x, y, p, hB, hM, hA, nd, hl => by
    rw [List.length_cons] at hB hl
    obtain ⟨u, M1, e1, b1, p1, f1⟩ := dg1 (i := 0) (fm := eC (.int 4)) (many := 4) (δ := [some (.ref n), a1, some (.ref k), some d, y]) rfl x_eC p (by omega) (by omega) (by omega)
    obtain ⟨v, M2, e2, b2, p2, f2⟩ := dg1 (i := 0) (fm := eC (.int 6)) (many := 6) (δ := [some (.ref n), a1, some (.ref k), some d, y]) rfl x_eC p1 (by omega) (by omega) (by omega)
    have hM2 : M2[k]? = some (.lst (A.map cellD)) := ((f1.trans f2) k (by omega)).trans hM
    have tp := x_eTup (ds := [.int u, .int v]) (cons_of e1 (cons_of e2 x_aNil)) (by simp)
    have tk : ToolOk (u, v) := ⟨b1, b2⟩
    by_cases hm : (u, v) ∈ A
    · obtain ⟨A', M', x', y', g1, g2, g3, g4, g5, g6⟩ := toolsd_go nk (a1 := a1) ds A (B + 4 + 4) M2 (some d) (some (cellD (u, v))) p2 (by omega) hM2 hA nd (by omega)
      refine ⟨A', M', x', y', forC_ (δ1 := [some (.ref n), a1, some (.ref k), some d, y]) rfl (seq_as (δ' := [some (.ref n), a1, some (.ref k), some d, some (cellD (u, v))]) tp rfl (if_ff (v_bl (op_of (a := cellD (u, v)) (M1 := M2) rfl (b := .ref k) (M2 := M2) rfl ?_)) snil_)) g1, g2, g3, g4, by rw [List.length_cons]; omega, ?_⟩
      · rw [in_ref hM2, decide_eq_true hm]
        rfl
      · rw [List.length_cons, show B + 8 * ((ds.length + 1 : Nat) : Int) = B + 4 + 4 + 8 * ((ds.length : Nat) : Int) by omega]
        exact g6
    · have ap := app_at (f := eVar 2) (q := aCons (eVar 4) aNil) (δ := [some (.ref n), a1, some (.ref k), some d, some (cellD (u, v))]) (d := cellD (u, v)) rfl hM2 (cons_of rfl x_aNil) (by rw [List.length_map]; omega)
      have lt : k < M2.length := (List.getElem?_eq_some_iff.mp hM2).1
      obtain ⟨A', M', x', y', g1, g2, g3, g4, g5, g6⟩ := toolsd_go nk (a1 := a1) ds (A ++ [(u, v)]) (B + 4 + 4) (M2.set k (.lst (A.map cellD ++ [cellD (u, v)]))) (some d) (some (cellD (u, v))) (p2.set nk) (by omega) (by rw [List.getElem?_set_self lt, List.map_append]; rfl) (fun t ht => by
        rcases List.mem_append.mp ht with ht | ht
        · exact hA t ht
        · rw [List.mem_singleton.mp ht]; exact tk) (List.nodup_append.mpr ⟨nd, by simp, fun a ha b hb e => hm (by rw [List.mem_singleton.mp hb] at e; rw [← e]; exact ha)⟩) (by rw [List.length_append]; show A.length + 1 + ds.length ≤ 100; omega)
      refine ⟨A', M', x', y', forC_ (δ1 := [some (.ref n), a1, some (.ref k), some d, y]) rfl (seq_as (δ' := [some (.ref n), a1, some (.ref k), some d, some (cellD (u, v))]) tp rfl (if_tt (v_bl (op_of (a := cellD (u, v)) (M1 := M2) rfl (b := .ref k) (M2 := M2) rfl ?_)) (se_ ap))) g1, g2, g3, g4, ?_, ?_⟩
      · rw [in_ref hM2, decide_eq_false hm]
        rfl
      · rw [List.length_append] at g5
        rw [List.length_cons]
        have : ([(u, v)] : List (Int × Int)).length = 1 := rfl
        omega
      · rw [List.length_cons, show B + 8 * ((ds.length + 1 : Nat) : Int) = B + 4 + 4 + 8 * ((ds.length : Nat) : Int) by omega]
        exact g6
theorem sometools_e {Ts : Mh} {n : Nat} {B : Int} {M : Mh} (p : Bz Ts n B M) (hB : B < 2 ^ 54) : ∃ (ts : List (Int × Int)) (M' : Mh), ff_law_some_tools [.ref n, .int 4] M = some (.tup (ts.map cellD), M') ∧ (∀ t ∈ ts, ToolOk t) ∧ ts.Nodup ∧ ts.length ≤ 4 ∧ Bz Ts n (B + 100) M' := by
  have hn := p.a.lt
  have q1 : eNew aNil [some (.ref n), some (.int 4), none, none, none] M = some (.ref M.length, M ++ [.lst []]) := new_ x_aNil (by decide)
  obtain ⟨f, M2, e, f1, p2, fr⟩ := dgB (i := 0) (fm := eOp gAdd (eVar 1) (eC (.int 1))) (many := 5) (δ := [some (.ref n), some (.int 4), some (.ref M.length), none, none]) rfl (op_of rfl x_eC rfl) (p.apps [.lst []]) (by omega) (by omega) (by omega)
  have hM2 : M2[M.length]? = some (.lst (([] : List (Int × Int)).map cellD)) := (fr M.length (by omega)).trans at_end
  have lr : (rng 0 (f : Nat)).length = f := by
    rw [zr_rng, List.length_map, zr_len]
    omega
  obtain ⟨A, M3, x, y, g1, g2, g3, g4, g5, g6⟩ := toolsd_go (Ts := Ts) (n := n) (k := M.length) hn (a1 := some (.int 4)) (rng 0 (f : Nat)) [] (B + 4) M2 none none p2 (by rw [lr]; omega) hM2 (by simp) List.nodup_nil (by rw [lr]; show 0 + f ≤ 100; omega)
  rw [lr] at g5 g6
  refine ⟨A, M3, ?_, g3, g4, by have : ([] : List (Int × Int)).length = 0 := rfl; omega, g6.up (by omega)⟩
  refine fn_rt ?_
  show gg_law_some_tools [some (.ref n), some (.int 4), none, none, none] M = _
  unfold gg_law_some_tools
  refine seq_as (δ' := [some (.ref n), some (.int 4), some (.ref M.length), none, none]) q1 rfl ?_
  refine seq_nx (M1 := M3) (δ' := [some (.ref n), some (.int 4), some (.ref M.length), x, y]) ?_ (ret_of ?_)
  · unfold sFor
    rw [rng1_ (cons_of e x_aNil) (by omega)]
    exact g1
  · rw [x_eB, cons_of (f := eVar 2) (M1 := M3) rfl x_aNil]
    show gTupOf [.ref M.length] M3 = _
    unfold gTupOf
    dsimp only
    rw [show lstOf M3 (.ref M.length) = some (A.map cellD) from by
      unfold lstOf
      dsimp only
      rw [g2]]
end Law
namespace Law
open PySem L2 Pl Pl.Ev
section
variable {h : Int} {R : List (List Int)} {W : Nat}
/-- the first n rounds -/
def rws (R : List (List Int)) (W : Nat) (zs : List Zt) (h : Int) (n : Nat) : List D := (List.range n).map fun j => fldD h (Sn R W zs h j)
theorem rws_succ (zs : List Zt) (n : Nat) : rws R W zs h (n + 1) = rws R W zs h n ++ [fldD h (Sn R W zs h n)] := by
  unfold rws
  rw [List.range_succ, List.map_append]
  rfl
theorem rws_len (zs : List Zt) (n : Nat) : (rws R W zs h n).length = n := by
  unfold rws
  rw [List.length_map, List.length_range]
theorem loopA (ct : CT) (ok : FldOk h R W) {a1 : Option D} {zs : List Zt} {b0 k0 : Nat} (hk : ∀ i, i < zs.length → b0 + i ≠ k0) : ∀ (m n : Nat) (M : Mh), tot (allC (W : Nat) (R.length : Nat)) (Gn R W zs h n) ≤ (m : Nat) → n + m ≤ 900 → M[k0]? = some (.lst (rws R W zs h (n + 1))) → (∀ j, j < n → Sn R W zs h (j + 1) ≠ Sn R W zs h j) →
    (∀ (i : Nat) (z : Zt), zs[i]? = some z → M[b0 + i]? = some (insM ct R (W : Nat) (R.length : Nat) z) ∧ (-50 ≤ z.2.1 ∧ z.2.1 ≤ 50) ∧ (-50 ≤ z.2.2 ∧ z.2.2 ≤ 50)) →
    ∃ (N : Nat) (M' : Mh), N ≤ n + m ∧ Sn R W zs h (N + 1) = Sn R W zs h N ∧ (∀ j, j < N → Sn R W zs h (j + 1) ≠ Sn R W zs h j) ∧ sWh condSt (bodySt ct) [some (fldD h R), a1, some (.lst (refs b0 zs.length)), some (.ref k0), some (fldD h (Sn R W zs h (n + 1)))] M = some (.nx [some (fldD h R), a1, some (.lst (refs b0 zs.length)), some (.ref k0), some (fldD h (Sn R W zs h (N + 1)))] M') ∧ M'[k0]? = some (.lst (rws R W zs h (N + 1))) ∧ Keep k0 M M' := by
  intro m
  induction m with
  | zero =>
    intro n M hm hl hM hj hz
    have e : Sn R W zs h (n + 1) = Sn R W zs h n := Classical.byContradiction fun ne => by
      have a := Sn_fall ok zs n ne
      have b := tot_nn (g := Gn R W zs h (n + 1)) (allC (W : Nat) (R.length : Nat)) fun c hc => (Gn_bd ok zs (n + 1) c (allC_mem.mp hc)).1
      omega
    have hM' := hM
    rw [rws_succ] at hM'
    refine ⟨n, M, by omega, e, hj, wh_no ?_, hM, Keep.refl _ _⟩
    refine v_bl (op_of rfl (last_e rfl hM') ?_)
    rw [ne_fld, e]
    simp
  | succ m ih =>
    intro n M hm hl hM hj hz
    have hM' := hM
    rw [rws_succ] at hM'
    by_cases e : Sn R W zs h (n + 1) = Sn R W zs h n
    · refine ⟨n, M, by omega, e, hj, wh_no ?_, hM, Keep.refl _ _⟩
      refine v_bl (op_of rfl (last_e rfl hM') ?_)
      rw [ne_fld, e]
      simp
    · have fall := Sn_fall ok zs n e
      have hlt : k0 < M.length := (List.getElem?_eq_some_iff.mp hM).1
      have q1 := app_at (f := eVar 3) (q := aCons (eVar 4) aNil) (δ := [some (fldD h R), a1, some (.lst (refs b0 zs.length)), some (.ref k0), some (fldD h (Sn R W zs h (n + 1)))]) (d := fldD h (Sn R W zs h (n + 1))) rfl hM (cons_of rfl x_aNil) (by rw [rws_len]; omega)
      rw [← rws_succ] at q1
      have hM1 : (M.set k0 (.lst (rws R W zs h (n + 1 + 1))))[k0]? = some (.lst (rws R W zs h (n + 1 + 1))) := List.getElem?_set_self hlt
      have hM1' : (M.set k0 (.lst (rws R W zs h (n + 1 + 1))))[k0]? = some (.lst (rws R W zs h (n + 1) ++ [fldD h (Sn R W zs h (n + 1))])) := by
        rw [← rws_succ]
        exact hM1
      have hz1 : ∀ (i : Nat) (z : Zt), zs[i]? = some z → (M.set k0 (.lst (rws R W zs h (n + 1 + 1))))[b0 + i]? = some (insM ct R (W : Nat) (R.length : Nat) z) ∧ (-50 ≤ z.2.1 ∧ z.2.1 ≤ 50) ∧ (-50 ≤ z.2.2 ∧ z.2.2 ≤ 50) := fun i z hi => by
        obtain ⟨a, b⟩ := hz i z hi
        exact ⟨by rw [List.getElem?_set_ne (Ne.symm (hk i (List.getElem?_eq_some_iff.mp hi).1))]; exact a, b⟩
      obtain ⟨x, y, q2⟩ := after_e ct ok (Sn_ok ok zs (n + 1)).1 (Sn_ok ok zs (n + 1)).2 hz1
      rw [next_Sn] at q2
      obtain ⟨N, M', e0, e1, e1', e2, e3, e4⟩ := ih (n + 1) (M.set k0 (.lst (rws R W zs h (n + 1 + 1))) ++ [x, y]) (by omega) (by omega) (two_lt hM1) (fun j hjn => by
        rcases Nat.lt_or_ge j n with q | q
        · exact hj j q
        · have : j = n := by omega
          rw [this]
          exact e) (fun i z hi => ⟨two_lt (hz1 i z hi).1, (hz1 i z hi).2⟩)
      refine ⟨N, M', by omega, e1, e1', wh_nx (M1 := M) (v_bl (op_of rfl (last_e rfl hM') ?_)) ?_ e2, e3, ((Keep.set _ _ _).trans (Keep.app _ _ _)).trans e4⟩
      · rw [ne_fld]
        simp [e]
      · unfold bodySt
        refine seq_nx (se_ q1) ?_
        refine sas_ (call_of (cons_of (f := eVar 0) rfl (cons_of (f := eVar 2) rfl (cons_of (last_e rfl hM1') x_aNil))) q2) rfl
/-- the last round of all -/
def Fst (R : List (List Int)) (W : Nat) (zs : List Zt) (h : Int) (N : Nat) : Prop := N ≤ 400 ∧ Sn R W zs h (N + 1) = Sn R W zs h N ∧ ∀ j, j < N → Sn R W zs h (j + 1) ≠ Sn R W zs h j
theorem Fst.uniq {zs : List Zt} {N K : Nat} (a : Fst R W zs h N) (b : Fst R W zs h K) : N = K := by
  rcases Nat.lt_trichotomy N K with q | q | q
  · exact absurd a.2.1 (b.2.2 N q)
  · exact q
  · exact absurd b.2.1 (a.2.2 K q)
theorem steady_e (ct : CT) (ok : FldOk h R W) {ts : List (Int × Int)} (hT : ∀ t ∈ ts, ToolOk t) (nd : ts.Nodup) (hl : ts.length ≤ 4) (M : Mh) :
    ∃ (N k : Nat) (M' : Mh), ff_steady ct [fldD h R, .tup (ts.map cellD)] M = some (.ref k, M') ∧ Fst R W (seatsL ts (W : Nat) (R.length : Nat)) h N ∧ M'[k]? = some (.lst (rws R W (seatsL ts (W : Nat) (R.length : Nat)) h (N + 1))) ∧ M.length ≤ k ∧ M.length ≤ M'.length ∧ ∀ i, i < M.length → M'[i]? = M[i]? := by
  have w := ok.w
  have l := ok.l
  have h1 := ok.h1
  have tl : ∀ t ∈ ts, Tl t := fun t ht => (hT t ht).tl
  have al := allC_len (W := (W : Nat)) (L := (R.length : Nat)) (by omega) (by omega)
  generalize hzs : seatsL ts (W : Nat) (R.length : Nat) = zs
  generalize hM1 : M ++ zs.map (insM ct R (W : Nat) (R.length : Nat)) = M1
  have len1 : M1.length = M.length + zs.length := by rw [← hM1, List.length_append, List.length_map]
  have q3 := seats_of ct ok tl hl M
  rw [hzs, hM1] at q3
  have q4 : eNew (aCons (eCall ff_solid (aCons (eVar 0) aNil) []) aNil) [some (fldD h R), some (.tup (ts.map cellD)), some (.lst (refs M.length zs.length)), none, none] M1 = some (.ref M1.length, M1 ++ [.lst (rws R W zs h 1)]) := by
    refine new_ (cons_of (call_of (cons_of (f := eVar 0) rfl x_aNil) ?_) x_aNil) (show 1 ≤ 1000 by decide)
    show ff_solid [fldD h R] M1 = some (fldD h (Sn R W zs h 0), M1)
    rw [show Sn R W zs h 0 = rowsOf (fun _ => h) W R.length from rfl, ← solid_eq ok]
    exact solid_sp ok M1
  have hz : ∀ (i : Nat) (z : Zt), zs[i]? = some z → M1[M.length + i]? = some (insM ct R (W : Nat) (R.length : Nat) z) ∧ (-50 ≤ z.2.1 ∧ z.2.1 ≤ 50) ∧ (-50 ≤ z.2.2 ∧ z.2.2 ≤ 50) := fun i z hi => by
    constructor
    · rw [← hM1, List.getElem?_append_right (by omega), Nat.add_sub_cancel_left, List.getElem?_map, hi]
      rfl
    · have m := List.mem_of_getElem? hi
      rw [← hzs] at m
      obtain ⟨m1, m2⟩ := (seats_mem (h := h)).mp m
      exact spot_bd ok (tl z.1 m1) (spots_mem.mpr ⟨⟨m2.1, m2.2.1⟩, m2.2.2⟩)
  have hM2 : (M1 ++ [MO.lst (rws R W zs h 1)])[M1.length]? = some (.lst ([] ++ [fldD h (Sn R W zs h 0)])) := by simp [rws]
  have hz2 : ∀ (i : Nat) (z : Zt), zs[i]? = some z → (M1 ++ [MO.lst (rws R W zs h 1)])[M.length + i]? = some (insM ct R (W : Nat) (R.length : Nat) z) ∧ (-50 ≤ z.2.1 ∧ z.2.1 ≤ 50) ∧ (-50 ≤ z.2.2 ∧ z.2.2 ≤ 50) := fun i z hi => by
    have a := (hz i z hi).1
    exact ⟨by rw [List.getElem?_append_left (List.getElem?_eq_some_iff.mp a).1]; exact a, (hz i z hi).2⟩
  obtain ⟨x, y, q5⟩ := after_e ct ok (Sn_ok ok zs 0).1 (Sn_ok ok zs 0).2 hz2
  rw [next_Sn] at q5
  have t0 : tot (allC (W : Nat) (R.length : Nat)) (Gn R W zs h 0) ≤ ((384 : Nat) : Int) := by
    rw [show Gn R W zs h 0 = fun _ => h from rfl, tot_const]
    have : h * ((allC (W : Nat) (R.length : Nat)).length : Nat) ≤ 6 * 64 := Int.mul_le_mul h1.2 (by omega) (by omega) (by omega)
    omega
  obtain ⟨N, M', e0, e1, e1', e2, e3, e4⟩ := loopA ct ok (a1 := some (.tup (ts.map cellD))) (zs := zs) (b0 := M.length) (k0 := M1.length) (fun i hi => by omega) 384 0 (M1 ++ [MO.lst (rws R W zs h 1)] ++ [x, y]) t0 (by decide) (two_lt at_end) (fun j hj => absurd hj (Nat.not_lt_zero _)) (fun i z hi => ⟨two_lt (hz2 i z hi).1, (hz2 i z hi).2⟩)
  refine ⟨N, M1.length, M', ?_, ⟨by omega, e1, e1'⟩, e3, by omega, ?_, fun i hi => ?_⟩
  · unfold ff_steady
    refine fn_rt ?_
    show gg_steady ct [some (fldD h R), some (.tup (ts.map cellD)), none, none, none] M = _
    unfold gg_steady
    refine seq_nx (se_ (call_of (cons_of (f := eVar 0) rfl x_aNil) (need_field_ok ok M))) ?_
    refine seq_nx (se_ (call_of (cons_of (f := eVar 1) rfl x_aNil) (need_tools_ok (ct := ct) hT nd hl M))) ?_
    refine seq_as (M1 := M1) (δ' := [some (fldD h R), some (.tup (ts.map cellD)), some (.lst (refs M.length zs.length)), none, none]) (call_of (cons_of (f := eVar 0) rfl (cons_of (f := eVar 1) rfl x_aNil)) q3) rfl ?_
    refine seq_as (δ' := [some (fldD h R), some (.tup (ts.map cellD)), some (.lst (refs M.length zs.length)), some (.ref M1.length), none]) q4 rfl ?_
    refine seq_as (δ' := [some (fldD h R), some (.tup (ts.map cellD)), some (.lst (refs M.length zs.length)), some (.ref M1.length), some (fldD h (Sn R W zs h 1))]) (call_of (cons_of (f := eVar 0) rfl (cons_of (f := eVar 2) rfl (cons_of (last_e (xs := []) rfl hM2) x_aNil))) q5) rfl ?_
    exact seq_nx e2 (ret_of rfl)
  · have := e4.1
    rw [List.length_append, List.length_append] at this
    omega
  · rw [e4.2 i (by rw [List.length_append, List.length_append]; omega) (by omega)]
    rw [List.append_assoc, List.getElem?_append_left (by omega), ← hM1, List.getElem?_append_left hi]
def roundL (R : List (List Int)) (W L : Int) (g : Int × Int → Int) : List Zt → (Int × Int → Int) → Int × Int → Int
  | [], b => b
  | z :: zs, b => roundL R W L g zs (cutG b W L z (lowJ R g W L z.1 z.2))
theorem roundL_le {g : Int × Int → Int} (x : Int) : ∀ (zs : List Zt) (b : Int × Int → Int) (d : Int × Int), x ≤ roundL R (W : Nat) (R.length : Nat) g zs b d ↔ x ≤ b d ∧ ∀ z ∈ zs, d ∈ undC (W : Nat) (R.length : Nat) z.1 z.2 → x ≤ lowJ R g (W : Nat) (R.length : Nat) z.1 z.2
  | [], b, d => by simp [roundL]
  | z :: zs, b, d => by
    unfold roundL
    rw [roundL_le x zs]
    have e : x ≤ cutG b (W : Nat) (R.length : Nat) z (lowJ R g (W : Nat) (R.length : Nat) z.1 z.2) d ↔ x ≤ b d ∧ (d ∈ undC (W : Nat) (R.length : Nat) z.1 z.2 → x ≤ lowJ R g (W : Nat) (R.length : Nat) z.1 z.2) := by
      unfold cutG
      by_cases hm : d ∈ nearC (W : Nat) (R.length : Nat) z.2 z.1.1 0
      · rw [if_pos hm]
        have hm' := near_und.mp hm
        constructor
        · intro q
          split at q
          · exact ⟨by omega, fun _ => q⟩
          · exact ⟨q, fun _ => by omega⟩
        · rintro ⟨q1, q2⟩
          have := q2 hm'
          split <;> omega
      · rw [if_neg hm]
        exact ⟨fun q => ⟨q, fun m => absurd (near_und.mpr m) hm⟩, fun q => q.1⟩
    rw [e]
    constructor
    · rintro ⟨⟨h1, h2⟩, h3⟩
      refine ⟨h1, fun y hy => ?_⟩
      rcases List.mem_cons.mp hy with e | hy
      · rw [e]; exact h2
      · exact h3 y hy
    · rintro ⟨h1, h2⟩
      exact ⟨⟨h1, h2 z List.mem_cons_self⟩, fun y hy => h2 y (List.mem_cons_of_mem _ hy)⟩
def Qn (R : List (List Int)) (W : Nat) (zs : List Zt) (h : Int) : Nat → Int × Int → Int
  | 0 => fun _ => h
  | n + 1 => roundL R (W : Nat) (R.length : Nat) (Qn R W zs h n) zs (Qn R W zs h n)
theorem Qn_Gn (ok : FldOk h R W) (zs : List Zt) : ∀ (n : Nat) (c : Int × Int), InB (W : Nat) (R.length : Nat) c → Qn R W zs h n c = Gn R W zs h n c
  | 0, c, _ => rfl
  | n + 1, c, hc => by
    have ih := Qn_Gn ok zs n
    have e := fun d hd => at_rows (g := Gn R W zs h n) (W := W) (L := R.length) (c := d) hd
    have all : ∀ x : Int, x ≤ Qn R W zs h (n + 1) c ↔ x ≤ Gn R W zs h (n + 1) c := fun x => by
      rw [show Qn R W zs h (n + 1) = roundL R (W : Nat) (R.length : Nat) (Qn R W zs h n) zs (Qn R W zs h n) from rfl, show Gn R W zs h (n + 1) = roundF R (W : Nat) (R.length : Nat) (at2 (rowsOf (Gn R W zs h n) W R.length)) zs (at2 (rowsOf (Gn R W zs h n) W R.length)) from rfl, roundL_le, roundF_le, e c hc, ih c hc]
      constructor
      · rintro ⟨h1, h2⟩
        refine ⟨h1, fun z hz hu => ?_⟩
        exact (lowZ_ge (h := h) (g := Qn R W zs h n) (fun d hd => (e d hd).trans (ih d hd).symm) hu).mpr ((lowJ_ge ok hu).mp (h2 z hz hu))
      · rintro ⟨h1, h2⟩
        refine ⟨h1, fun z hz hu => ?_⟩
        exact (lowJ_ge ok hu).mpr ((lowZ_ge (h := h) (g := Qn R W zs h n) (fun d hd => (e d hd).trans (ih d hd).symm) hu).mp (h2 z hz hu))
    exact Int.le_antisymm ((all _).mp (Int.le_refl _)) ((all _).mpr (Int.le_refl _))
theorem Qn_rows (ok : FldOk h R W) (zs : List Zt) (n : Nat) : rowsOf (Qn R W zs h n) W R.length = Sn R W zs h n := rowsOf_ext (Qn_Gn ok zs n)
theorem Qn_same (ok : FldOk h R W) (zs : List Zt) (n m : Nat) : (∀ c ∈ allC (W : Nat) (R.length : Nat), Qn R W zs h n c = Qn R W zs h m c) ↔ Sn R W zs h n = Sn R W zs h m := by
  constructor
  · intro q
    rw [← Qn_rows ok, ← Qn_rows ok]
    exact rowsOf_ext fun c hc => q c (allC_mem.mpr hc)
  · intro q c hc
    have i := allC_mem.mp hc
    rw [← at_rows (g := Qn R W zs h n) i, ← at_rows (g := Qn R W zs h m) i, Qn_rows ok, Qn_rows ok, q]
theorem round_go (ok : FldOk h R W) {g : Int × Int → Int} {a2 : Option D} : ∀ (zs : List Zt) (b : Int × Int → Int) (M : Mh) (x4 x5 : Option D), ∃ (y4 y5 : Option D) (l : Mh),
    forGo (gTp (gsCons (gN 4) (gsCons (gN 5) gsNil))) (sAs (eCall ff_law_cut (aCons (eVar 0) (aCons (eVar 3) (aCons (eTup (aCons (eVar 4) (aCons (eVar 5) (aCons (eCall ff_law_low (aCons (eVar 0) (aCons (eVar 1) (aCons (eVar 4) (aCons (eVar 5) aNil)))) []) aNil)))) aNil))) []) (gN 3)) (zs.map zD) [some (fldD h R), some (dcfD g (allC (W : Nat) (R.length : Nat))), a2, some (dcfD b (allC (W : Nat) (R.length : Nat))), x4, x5] M = some (.nx [some (fldD h R), some (dcfD g (allC (W : Nat) (R.length : Nat))), a2, some (dcfD (roundL R (W : Nat) (R.length : Nat) g zs b) (allC (W : Nat) (R.length : Nat))), y4, y5] (M ++ l))
  | [], b, M, x4, x5 => ⟨x4, x5, [], by rw [List.append_nil]; exact forN_⟩
  | z :: zs, b, M, x4, x5 => by
    obtain ⟨l1, e1⟩ := lowF_sp (t := z.1) ok (g := g) (M := M) z.2
    have e2 := cutF_sp ok (g := b) (M := M ++ l1) z (lowJ R g (W : Nat) (R.length : Nat) z.1 z.2)
    obtain ⟨y4, y5, l2, ih⟩ := round_go ok (g := g) (a2 := a2) zs (cutG b (W : Nat) (R.length : Nat) z (lowJ R g (W : Nat) (R.length : Nat) z.1 z.2)) (M ++ l1 ++ [MO.dead, .dead]) (some (cellD z.1)) (some (cellD z.2))
    refine ⟨y4, y5, l1 ++ [MO.dead, .dead] ++ l2, ?_⟩
    rw [List.map_cons, ← List.append_assoc, ← List.append_assoc]
    refine forC_ (δ1 := [some (fldD h R), some (dcfD g (allC (W : Nat) (R.length : Nat))), a2, some (dcfD b (allC (W : Nat) (R.length : Nat))), some (cellD z.1), some (cellD z.2)]) rfl (sas_ (d := dcfD (cutG b (W : Nat) (R.length : Nat) z (lowJ R g (W : Nat) (R.length : Nat) z.1 z.2)) (allC (W : Nat) (R.length : Nat))) (M1 := M ++ l1 ++ [MO.dead, .dead]) (call_of (cons_of (f := eVar 0) (M1 := M) rfl (cons_of (f := eVar 3) (M1 := M) rfl (cons_of (x_eTup (cons_of (f := eVar 4) (M1 := M) rfl (cons_of (f := eVar 5) (M1 := M) rfl (cons_of (call_of (cons_of (f := eVar 0) (M1 := M) rfl (cons_of (f := eVar 1) (M1 := M) rfl (cons_of (f := eVar 4) (M1 := M) rfl (cons_of (f := eVar 5) (M1 := M) rfl x_aNil)))) e1) x_aNil))) (show 3 ≤ 1000 by decide)) x_aNil))) e2) rfl) ih
theorem round_sp (ok : FldOk h R W) {ts : List (Int × Int)} (ht : ∀ t ∈ ts, Tl t) (hl : ts.length ≤ 4) (g : Int × Int → Int) (M : Mh) : ∃ l, ff_law_round [fldD h R, dcfD g (allC (W : Nat) (R.length : Nat)), .tup (ts.map cellD)] M = some (dcfD (roundL R (W : Nat) (R.length : Nat) g (seatsL ts (W : Nat) (R.length : Nat)) g) (allC (W : Nat) (R.length : Nat)), M ++ l) := by
  obtain ⟨l1, e1⟩ := stands_sp ok ht hl M
  obtain ⟨y4, y5, l2, e2⟩ := round_go ok (g := g) (a2 := some (.tup (ts.map cellD))) (seatsL ts (W : Nat) (R.length : Nat)) g (M ++ l1) none none
  refine ⟨l1 ++ l2, fn_rt ?_⟩
  rw [← List.append_assoc]
  show gg_law_round [some (fldD h R), some (dcfD g (allC (W : Nat) (R.length : Nat))), some (.tup (ts.map cellD)), none, none, none] M = _
  unfold gg_law_round
  refine seq_as (d := dcfD g (allC (W : Nat) (R.length : Nat))) (M1 := M) (δ' := [some (fldD h R), some (dcfD g (allC (W : Nat) (R.length : Nat))), some (.tup (ts.map cellD)), some (dcfD g (allC (W : Nat) (R.length : Nat))), none, none]) rfl rfl ?_
  exact seq_nx (for_ (itemsL_ (call_of (cons_of (f := eVar 0) (M1 := M) rfl (cons_of (f := eVar 2) (M1 := M) rfl x_aNil)) e1)) e2) (ret_of rfl)
end
end Law
namespace Law
open PySem L2 Pl Pl.Ev
theorem ints_dcf {g : Int × Int → Int} : ∀ A : List (Int × Int), intsD (A.map fun c => ([c.1, c.2] : List Int)) (A.map fun c => D.int (g c)) = some (A.map fun c => (([c.1, c.2] : List Int), g c))
  | [] => rfl
  | a :: A => by
    rw [List.map_cons, List.map_cons, intsD, ints_dcf A]
    rfl
theorem look_dcf {g : Int × Int → Int} {c : Int × Int} : ∀ {A : List (Int × Int)}, c ∈ A → lookI (A.map fun c => (([c.1, c.2] : List Int), g c)) [c.1, c.2] = some (g c)
  | [], h => (List.not_mem_nil h).elim
  | a :: A, h => by
    by_cases e : a = c
    · subst e
      simp [lookI]
    · have h' : c ∈ A := by
        rcases List.mem_cons.mp h with q | q
        · exact absurd q.symm e
        · exact q
      have ne : ¬ ([a.1, a.2] : List Int) = [c.1, c.2] := fun q => e (by
        simp only [List.cons.injEq, and_true] at q
        exact Prod.ext q.1 q.2)
      have ih := look_dcf (g := g) h'
      unfold lookI at ih ⊢
      rw [List.map_cons, List.find?_cons, decide_eq_false ne]
      exact ih
theorem same_dcf {g g' : Int × Int → Int} (A : List (Int × Int)) : sameI (A.map fun c => (([c.1, c.2] : List Int), g c)) (A.map fun c => (([c.1, c.2] : List Int), g' c)) = decide (∀ c ∈ A, g c = g' c) := by
  unfold sameI
  rw [List.length_map, List.length_map, beq_self_eq_true, Bool.true_and, Bool.eq_iff_iff, List.all_eq_true, decide_eq_true_eq]
  constructor
  · intro h c hc
    have q := h ([c.1, c.2], g c) (List.mem_map.mpr ⟨c, hc, rfl⟩)
    dsimp only at q
    rw [look_dcf hc, beq_iff_eq] at q
    exact (Option.some.inj q).symm
  · intro h p hp
    obtain ⟨c, hc, rfl⟩ := List.mem_map.mp hp
    dsimp only
    rw [look_dcf hc, beq_iff_eq, h c hc]
theorem ne_dcf {g g' : Int × Int → Int} (A : List (Int × Int)) (M : Mh) : gEqC (fun b => !b) (dcfD g A) (dcfD g' A) M = some (.bl (!decide (∀ c ∈ A, g c = g' c)), M) := by
  unfold gEqC dcfD
  dsimp only
  rw [ints_dcf, ints_dcf]
  dsimp only
  rw [same_dcf]
theorem nz_dig {i : Int} (h : 0 ≤ i ∧ i ≤ 6) : Nz 1 0 (.int i) := by
  have : i = 0 ∨ i = 1 ∨ i = 2 ∨ i = 3 ∨ i = 4 ∨ i = 5 ∨ i = 6 := by omega
  rcases this with rfl | rfl | rfl | rfl | rfl | rfl | rfl
  all_goals
    refine ⟨_, rfl, by decide +kernel, by decide +kernel, by decide +kernel, by decide +kernel, ?_, by decide +kernel⟩
    exact fun s hs => (show ∀ t ∈ TL.tl (PyData.int _).shown, t < 1114112 from by decide +kernel) s hs
section
variable {h : Int} {R : List (List Int)} {W : Nat}
theorem nz_field (ok : FldOk h R W) : Nz 213 3 (fldD h R) := by
  have hh := ok.h1
  have w := ok.w
  have l := ok.l
  refine nz_tup (n := 103) (k := 2) 2 (fun d hd => ?_) (Nat.le_refl _)
  rcases List.mem_cons.mp hd with rfl | hd
  · exact (nz_dig (by omega)).mono (by decide) (by decide)
  · rw [List.mem_singleton.mp hd]
    refine nz_tup (n := 18) (k := 1) 5 (fun d hd => ?_) (by rw [List.length_map]; omega)
    obtain ⟨r, hr, rfl⟩ := List.mem_map.mp hd
    obtain ⟨lr, br⟩ := ok.r r hr
    refine nz_tup (n := 1) (k := 0) 5 (fun d hd => ?_) (by rw [List.length_map]; omega)
    obtain ⟨i, hi, rfl⟩ := List.mem_map.mp hd
    have := br i hi
    exact nz_dig (by omega)
theorem nz_rws (ok : FldOk h R W) (zs : List Zt) {n : Nat} (hn : n ≤ 401) : Nz 86218 4 (.lst (rws R W zs h n)) := by
  refine nz_lst (n := 213) (k := 3) 401 (fun d hd => ?_) (by rw [rws_len]; exact hn)
  unfold rws at hd
  obtain ⟨j, _, rfl⟩ := List.mem_map.mp hd
  exact nz_field (Sn_ok ok zs j).1
end
theorem deref_ref {k : Nat} {xs : List D} {M : Mh} (hM : M[k]? = some (.lst xs)) : deref M (.ref k) = .lst xs := by
  unfold deref
  dsimp only
  rw [hM]
theorem reprs_ref {n m k : Nat} {xs : List D} {f g : EF} {δ : Pl.Env} {M M1 M2 : Mh} (hd : Nz n m (.lst xs)) (hn : n ≤ 10000000) (hk : m ≤ 20) (h1 : f δ M = some (.ref k, M1)) (hM : M1[k]? = some (.lst xs)) (h2 : g δ M1 = some (.lst xs, M2)) :
    tV (eOp (gEq fun p q => !PyData.eqv p q) (eB gRepr (aCons f aNil)) (eB gRepr (aCons g aNil))) δ M = some (false, M2) := by
  obtain ⟨s, so, e⟩ := nz_repr hd hn hk (nz_deref hd)
  refine v_bl (op_of (a := .str s) (b := .str s) (M1 := M1) (M2 := M2) ?_ ?_ ((ne_str so so _).trans (by rw [decide_eq_true rfl]; rfl)))
  · rw [x_eB, cons_of h1 x_aNil]
    have q := e M1
    unfold gRepr at q ⊢
    dsimp only at q ⊢
    rw [deref_ref hM]
    exact q
  · rw [x_eB, cons_of h2 x_aNil]; exact e _
theorem ne_ref {n m k : Nat} {xs : List D} {M : Mh} (hd : Nz n m (.lst xs)) (hm : m ≤ 20) (hM : M[k]? = some (.lst xs)) : gEq (fun p q => !PyData.eqv p q) (.ref k) (.lst xs) M = some (.bl false, M) := by
  obtain ⟨p, a1, a2, a3, a4, a5, a6, a7⟩ := hd
  unfold gEq
  rw [deref_ref hM, show deref M (.lst xs) = .lst xs from rfl, a1]
  dsimp only
  have s1 : SeqAt.shaped p = true := by
    unfold SeqAt.shaped
    rw [a3, decide_eq_true (by omega)]; rfl
  rw [s1]
  show some (D.bl (!PyData.eqv p p), M) = _
  rw [SeqAt.eqv_refl p a3]
  rfl
theorem lcV_all {d0 : D} {all : List D} {α : Type} {emb f : α → D} {v : Nat} {e : EF} {δ : Pl.Env} {M : Mh} (hM : lstV M d0 = some all) : ∀ L : List α, (∀ a ∈ L, e (δ.set v (some (emb a))) M = some (f a, M)) → lcGoV d0 all (gN v) tTrue e (L.map emb) δ M = some (L.map f, M)
  | [], _ => by
    unfold lcGoV
    exact if_pos hM
  | a :: L, h => by
    have ih := lcV_all (emb := emb) (f := f) (e := e) (δ := δ) (v := v) hM L fun b hb => h b (List.mem_cons_of_mem _ hb)
    rw [List.map_cons, List.map_cons]
    unfold lcGoV
    rw [if_pos hM, show gN v (emb a) δ = some (δ.set v (some (emb a))) from rfl]
    dsimp only
    rw [show tTrue (δ.set v (some (emb a))) M = some (true, M) from rfl]
    dsimp only
    rw [h a List.mem_cons_self]
    dsimp only
    rw [ih]
def condD : TF := (tOrr (tV (eOp gEqE (eVar 7) (eLst aNil))) (tV (eOp (gEqC fun b => !b) (eOp gIx (eVar 7) (eUn gNeg (eC (.int 1)))) (eVar 6))))
noncomputable def sDu : SF := (sSeq (sE (eMeth2 gApp (eVar 7) (aCons (eVar 6) aNil))) (sAs (eCall ff_law_round (aCons (eVar 4) (aCons (eVar 6) (aCons (eVar 5) aNil))) []) (gN 6)))
noncomputable def sCe (ct : CT) : SF := (sSeq (sAs (eCall ff_law_draw (aCons (eVar 2) (aCons (eVar 1) aNil)) []) (gN 3)) (sSeq (sAs (eTup (aCons (eCall ff_law_a_field (aCons (eVar 3) (aCons (eC (.int 4)) aNil)) []) (aCons (eCall ff_law_some_tools (aCons (eVar 3) (aCons (eC (.int 4)) aNil)) []) aNil))) (gTp (gsCons (gN 4) (gsCons (gN 5) gsNil)))) (sSeq (sPar 6 7 (eCall ff_law_full (aCons (eVar 4) aNil) []) (eNew aNil)) (sSeq (sWh (tOrr (tV (eOp gEqE (eVar 7) (eLst aNil))) (tV (eOp (gEqC fun b => !b) (eOp gIx (eVar 7) (eUn gNeg (eC (.int 1)))) (eVar 6)))) (sSeq (sE (eMeth2 gApp (eVar 7) (aCons (eVar 6) aNil))) (sAs (eCall ff_law_round (aCons (eVar 4) (aCons (eVar 6) (aCons (eVar 5) aNil))) []) (gN 6)))) (sSeq (sPar 8 9 (eCall (ff_steady ct) (aCons (eVar 4) (aCons (eVar 5) aNil)) []) (eLcV [10] (eVar 7) (gN 10) tTrue (eCall ff_law_as_field (aCons (eVar 4) (aCons (eVar 10) aNil)) []))) (sSeq (sIf (tOrr (tNt (tV (eB gIsi (aCons (eVar 8) (aCons (eC (.ty "list")) aNil))))) (tOrr (tV (eOp (gEq fun p q => !PyData.eqv p q) (eB gRepr (aCons (eVar 8) aNil)) (eB gRepr (aCons (eVar 9) aNil)))) (tV (eOp (gEq fun p q => !PyData.eqv p q) (eB gRepr (aCons (eCall (ff_reached ct) (aCons (eVar 4) (aCons (eVar 5) aNil)) []) aNil)) (eB gRepr (aCons (eOp gIx (eVar 9) (eUn gNeg (eC (.int 1)))) aNil)))))) (sRet (eC (.bl false))) sNil) (sSeq (sE (eMeth2 gClr (eVar 8) aNil)) (sIf (tV (eOp (gEq fun p q => !PyData.eqv p q) (eCall (ff_steady ct) (aCons (eVar 4) (aCons (eVar 5) aNil)) []) (eVar 9))) (sRet (eC (.bl false))) sNil))))))))
section
variable {h : Int} {R : List (List Int)} {W : Nat}
def dues (R : List (List Int)) (W : Nat) (zs : List Zt) (h : Int) (n : Nat) : List D := (List.range n).map fun j => dcfD (Qn R W zs h j) (allC (W : Nat) (R.length : Nat))
theorem dues_succ (zs : List Zt) (n : Nat) : dues R W zs h (n + 1) = dues R W zs h n ++ [dcfD (Qn R W zs h n) (allC (W : Nat) (R.length : Nat))] := by
  unfold dues
  rw [List.range_succ, List.map_append]
  rfl
theorem dues_len (zs : List Zt) (n : Nat) : (dues R W zs h n).length = n := by
  unfold dues
  rw [List.length_map, List.length_range]
theorem due_go (ok : FldOk h R W) {ts : List (Int × Int)} (ht : ∀ t ∈ ts, Tl t) (hl : ts.length ≤ 4) {N : Nat} (F : Fst R W (seatsL ts (W : Nat) (R.length : Nat)) h N) {kd : Nat} {s k c st x8 x9 x10 : Option D} : ∀ (m n : Nat) (M : Mh), n + m = N + 1 → M[kd]? = some (.lst (dues R W (seatsL ts (W : Nat) (R.length : Nat)) h n)) →
    ∃ M', sWh condD sDu [s, k, c, st, some (fldD h R), some (.tup (ts.map cellD)), some (dcfD (Qn R W (seatsL ts (W : Nat) (R.length : Nat)) h n) (allC (W : Nat) (R.length : Nat))), some (.ref kd), x8, x9, x10] M = some (.nx [s, k, c, st, some (fldD h R), some (.tup (ts.map cellD)), some (dcfD (Qn R W (seatsL ts (W : Nat) (R.length : Nat)) h (N + 1)) (allC (W : Nat) (R.length : Nat))), some (.ref kd), x8, x9, x10] M') ∧ M'[kd]? = some (.lst (dues R W (seatsL ts (W : Nat) (R.length : Nat)) h (N + 1))) := by
  intro m
  have N4 := F.1
  -- the last of them and what stands now
  have cmp : ∀ (n : Nat) (M : Mh), M[kd]? = some (.lst (dues R W (seatsL ts (W : Nat) (R.length : Nat)) h (n + 1))) → tV (eOp (gEqC fun b => !b) (eOp gIx (eVar 7) (eUn gNeg (eC (.int 1)))) (eVar 6)) [s, k, c, st, some (fldD h R), some (.tup (ts.map cellD)), some (dcfD (Qn R W (seatsL ts (W : Nat) (R.length : Nat)) h (n + 1)) (allC (W : Nat) (R.length : Nat))), some (.ref kd), x8, x9, x10] M = some (!decide (Sn R W (seatsL ts (W : Nat) (R.length : Nat)) h n = Sn R W (seatsL ts (W : Nat) (R.length : Nat)) h (n + 1)), M) := fun n M hM => by
    rw [dues_succ] at hM
    have q := ne_dcf (g := Qn R W (seatsL ts (W : Nat) (R.length : Nat)) h n) (g' := Qn R W (seatsL ts (W : Nat) (R.length : Nat)) h (n + 1)) (allC (W : Nat) (R.length : Nat)) M
    rw [decide_eq_decide.mpr (Qn_same ok (seatsL ts (W : Nat) (R.length : Nat)) n (n + 1))] at q
    exact v_bl (op_of (b := dcfD (Qn R W (seatsL ts (W : Nat) (R.length : Nat)) h (n + 1)) (allC (W : Nat) (R.length : Nat))) (M2 := M) (op_of (a := .ref kd) (M1 := M) rfl (show eUn gNeg (eC (.int 1)) _ M = some (.int (-1), M) from rfl) (ix_last hM)) rfl q)
  have emp : ∀ (n : Nat) (x6 : Option D) (M : Mh), M[kd]? = some (.lst (dues R W (seatsL ts (W : Nat) (R.length : Nat)) h n)) → tV (eOp gEqE (eVar 7) (eLst aNil)) [s, k, c, st, some (fldD h R), some (.tup (ts.map cellD)), x6, some (.ref kd), x8, x9, x10] M = some ((dues R W (seatsL ts (W : Nat) (R.length : Nat)) h n).isEmpty, M) := fun n x6 M hM => by
    refine v_bl (op_of (a := .ref kd) (b := .lst []) (M1 := M) (M2 := M) rfl (x_eLst x_aNil (by decide)) ?_)
    unfold gEqE
    dsimp only
    rw [show lstOf M (.ref kd) = some (dues R W (seatsL ts (W : Nat) (R.length : Nat)) h n) from by unfold lstOf; dsimp only; rw [hM]]
  induction m with
  | zero =>
    intro n M hn hM
    have : n = N + 1 := by omega
    subst this
    refine ⟨M, wh_no ?_, hM⟩
    refine or0 ((emp (N + 1) _ M hM).trans ?_) ((cmp N M hM).trans ?_)
    · rw [dues_succ]
      simp
    · rw [decide_eq_true F.2.1.symm]
      rfl
  | succ m ih =>
    intro n M hn hM
    have cnd : condD [s, k, c, st, some (fldD h R), some (.tup (ts.map cellD)), some (dcfD (Qn R W (seatsL ts (W : Nat) (R.length : Nat)) h n) (allC (W : Nat) (R.length : Nat))), some (.ref kd), x8, x9, x10] M = some (true, M) := by
      unfold condD
      cases n with
      | zero => exact or1 ((emp 0 _ M hM).trans rfl)
      | succ n =>
        refine or0 (M1 := M) ((emp (n + 1) _ M hM).trans ?_) ((cmp n M hM).trans ?_)
        · rw [dues_succ]
          simp
        · rw [decide_eq_false (fun e => F.2.2 n (by omega) e.symm)]
          rfl
    have hlt : kd < M.length := (List.getElem?_eq_some_iff.mp hM).1
    have q1 := app_at (f := eVar 7) (q := aCons (eVar 6) aNil) (δ := [s, k, c, st, some (fldD h R), some (.tup (ts.map cellD)), some (dcfD (Qn R W (seatsL ts (W : Nat) (R.length : Nat)) h n) (allC (W : Nat) (R.length : Nat))), some (.ref kd), x8, x9, x10]) (d := dcfD (Qn R W (seatsL ts (W : Nat) (R.length : Nat)) h n) (allC (W : Nat) (R.length : Nat))) rfl hM (cons_of (f := eVar 6) rfl x_aNil) (by rw [dues_len]; omega)
    rw [← dues_succ] at q1
    obtain ⟨l, q2⟩ := round_sp ok ht hl (Qn R W (seatsL ts (W : Nat) (R.length : Nat)) h n) (M.set kd (.lst (dues R W (seatsL ts (W : Nat) (R.length : Nat)) h (n + 1))))
    obtain ⟨M', e1, e2⟩ := ih (n + 1) (M.set kd (.lst (dues R W (seatsL ts (W : Nat) (R.length : Nat)) h (n + 1))) ++ l) (by omega) (by
      rw [List.getElem?_append_left (by rw [List.length_set]; exact hlt)]
      exact List.getElem?_set_self hlt)
    refine ⟨M', wh_nx cnd ?_ e1, e2⟩
    unfold sDu
    refine seq_nx (se_ q1) ?_
    exact sas_ (call_of (cons_of (f := eVar 4) rfl (cons_of (f := eVar 6) rfl (cons_of (f := eVar 5) rfl x_aNil))) q2) rfl
end
theorem cell_sp (ct : CT) {M : Mh} {k cl : Int} (k0 : 0 ≤ k) (k1 : k ≤ 1000) (s x3 x4 x5 x6 x7 x8 x9 x10 : Option D) :
    ∃ (y3 y4 y5 y6 y7 y8 y9 y10 : Option D) (M' : Mh), sCe ct [s, some (.int k), some (.int cl), x3, x4, x5, x6, x7, x8, x9, x10] M = some (.nx [s, some (.int k), some (.int cl), y3, y4, y5, y6, y7, y8, y9, y10] M') := by
  obtain ⟨M1, e1, p1⟩ := drawB (Ts := []) (M := M) (cell := cl) k0 k1 ⟨Nat.zero_le _, fun i hi => absurd hi (Nat.not_lt_zero _)⟩
  generalize hn : M.length = n at e1 p1
  obtain ⟨h, R, W, M2, e2, ok, p2⟩ := afield4 p1 (by decide)
  have hh := ok.h1
  have w := ok.w
  have l := ok.l
  obtain ⟨ts, M3, e3, hT, nd, hl, p3⟩ := sometools_e p2 (by decide)
  have tl : ∀ t ∈ ts, Tl t := fun t ht => (hT t ht).tl
  have e4 := fullF_sp ok M3
  -- what the program's rounds are, for their number
  obtain ⟨N, _, _, _, F, _⟩ := steady_e ct ok hT nd hl M3
  obtain ⟨M5, e5, d5⟩ := due_go ok tl hl F (kd := (M3 ++ [MO.dead]).length) (s := s) (k := some (.int k)) (c := some (.int cl)) (st := some (.ref n)) (x8 := x8) (x9 := x9) (x10 := x10) (N + 1) 0 (M3 ++ [MO.dead] ++ [.lst []]) (by omega) (by rw [show dues R W (seatsL ts (W : Nat) (R.length : Nat)) h 0 = [] from rfl]; exact at_end)
  obtain ⟨N6, k6, M6, e6, F6, d6, b6, c6, f6⟩ := steady_e ct ok hT nd hl M5
  cases F.uniq F6
  have lt5 := (List.getElem?_eq_some_iff.mp d5).1
  have d56 : M6[(M3 ++ [MO.dead]).length]? = some (.lst (dues R W (seatsL ts (W : Nat) (R.length : Nat)) h (N + 1))) := (f6 _ lt5).trans d5
  have N4 := F.1
  have rows : eLcV [10] (eVar 7) (gN 10) tTrue (eCall ff_law_as_field (aCons (eVar 4) (aCons (eVar 10) aNil)) []) [s, some (.int k), some (.int cl), some (.ref n), some (fldD h R), some (.tup (ts.map cellD)), some (dcfD (Qn R W (seatsL ts (W : Nat) (R.length : Nat)) h (N + 1)) (allC (W : Nat) (R.length : Nat))), some (.ref (M3 ++ [MO.dead]).length), x8, x9, x10] M6 = some (.lst (rws R W (seatsL ts (W : Nat) (R.length : Nat)) h (N + 1)), M6) := by
    unfold eLcV
    rw [show eVar 7 [s, some (.int k), some (.int cl), some (.ref n), some (fldD h R), some (.tup (ts.map cellD)), some (dcfD (Qn R W (seatsL ts (W : Nat) (R.length : Nat)) h (N + 1)) (allC (W : Nat) (R.length : Nat))), some (.ref (M3 ++ [MO.dead]).length), x8, x9, x10] M6 = some (.ref (M3 ++ [MO.dead]).length, M6) from rfl]
    dsimp only
    have lv : lstV M6 (.ref (M3 ++ [MO.dead]).length) = some (dues R W (seatsL ts (W : Nat) (R.length : Nat)) h (N + 1)) := by
      show lstOf M6 (.ref (M3 ++ [MO.dead]).length) = _
      unfold lstOf
      dsimp only
      rw [d56]
    rw [lv]
    dsimp only
    have go := lcV_all (d0 := .ref (M3 ++ [MO.dead]).length) (emb := fun j => dcfD (Qn R W (seatsL ts (W : Nat) (R.length : Nat)) h j) (allC (W : Nat) (R.length : Nat))) (f := fun j => fldD h (Sn R W (seatsL ts (W : Nat) (R.length : Nat)) h j)) (v := 10) (e := eCall ff_law_as_field (aCons (eVar 4) (aCons (eVar 10) aNil)) []) (δ := wipeD [s, some (.int k), some (.int cl), some (.ref n), some (fldD h R), some (.tup (ts.map cellD)), some (dcfD (Qn R W (seatsL ts (W : Nat) (R.length : Nat)) h (N + 1)) (allC (W : Nat) (R.length : Nat))), some (.ref (M3 ++ [MO.dead]).length), x8, x9, x10] [10]) lv (List.range (N + 1)) fun j hj => by
      have q := as_fieldF ok (g := Qn R W (seatsL ts (W : Nat) (R.length : Nat)) h j) (M := M6)
      rw [Qn_rows ok] at q
      exact call_of (cons_of (f := eVar 4) (M1 := M6) rfl (cons_of (f := eVar 10) (M1 := M6) rfl x_aNil)) q
    rw [show (List.range (N + 1)).map (fun j => dcfD (Qn R W (seatsL ts (W : Nat) (R.length : Nat)) h j) (allC (W : Nat) (R.length : Nat))) = dues R W (seatsL ts (W : Nat) (R.length : Nat)) h (N + 1) from rfl] at go
    rw [go]
    dsimp only
    rw [if_pos (Nat.le_trans (show _ ≤ 1000 by rw [List.length_map, List.length_range]; omega) (by decide))]
    rfl
  obtain ⟨N7, k7, M7, e7, F7, d7, b7, c7, f7⟩ := steady_e ct ok hT nd hl M6
  cases F.uniq F7
  have lt6 := (List.getElem?_eq_some_iff.mp d6).1
  have d67 : M7[k6]? = some (.lst (rws R W (seatsL ts (W : Nat) (R.length : Nat)) h (N + 1))) := (f7 _ lt6).trans d6
  have nzl := nz_rws ok (seatsL ts (W : Nat) (R.length : Nat)) (n := N + 1) (by omega)
  have lst : rws R W (seatsL ts (W : Nat) (R.length : Nat)) h (N + 1) = rws R W (seatsL ts (W : Nat) (R.length : Nat)) h N ++ [fldD h (Sn R W (seatsL ts (W : Nat) (R.length : Nat)) h N)] := rws_succ _ _
  have e8 : ff_reached ct [fldD h R, .tup (ts.map cellD)] M6 = some (fldD h (Sn R W (seatsL ts (W : Nat) (R.length : Nat)) h N), M7) := by
    unfold ff_reached
    refine fn_rt ?_
    show gg_reached ct [some (fldD h R), some (.tup (ts.map cellD))] M6 = _
    unfold gg_reached
    rw [lst] at d7
    exact ret_of (op_of (call_of (cons_of (f := eVar 0) rfl (cons_of (f := eVar 1) rfl x_aNil)) e7) (show eUn gNeg (eC (.int 1)) _ _ = some (.int (-1), _) from rfl) (ix_last d7))
  obtain ⟨N9, k9, M9, e9, F9, d9, b9, c9, f9⟩ := steady_e ct ok hT nd hl (M7.set k6 (.lst []))
  cases F.uniq F9
  refine ⟨some (.ref n), some (fldD h R), some (.tup (ts.map cellD)), some (dcfD (Qn R W (seatsL ts (W : Nat) (R.length : Nat)) h (N + 1)) (allC (W : Nat) (R.length : Nat))), some (.ref (M3 ++ [MO.dead]).length), some (.ref k6), some (.lst (rws R W (seatsL ts (W : Nat) (R.length : Nat)) h (N + 1))), x10, M9, ?_⟩
  unfold sCe
  refine seq_as (M1 := M1) (δ' := [s, some (.int k), some (.int cl), some (.ref n), x4, x5, x6, x7, x8, x9, x10]) (call_of (cons_of (f := eVar 2) (M1 := M) rfl (cons_of (f := eVar 1) (M1 := M) rfl x_aNil)) e1) rfl ?_
  refine seq_as (M1 := M3) (d := .tup [fldD h R, .tup (ts.map cellD)]) (δ' := [s, some (.int k), some (.int cl), some (.ref n), some (fldD h R), some (.tup (ts.map cellD)), x6, x7, x8, x9, x10]) (x_eTup (cons_of (call_of (cons_of (f := eVar 3) (M1 := M1) rfl (cons_of x_eC x_aNil)) e2) (cons_of (call_of (cons_of (f := eVar 3) (M1 := M2) rfl (cons_of x_eC x_aNil)) e3) x_aNil)) (show 2 ≤ 1000 by decide)) rfl ?_
  refine seq_nx (M1 := M3 ++ [MO.dead] ++ [.lst []]) (δ' := [s, some (.int k), some (.int cl), some (.ref n), some (fldD h R), some (.tup (ts.map cellD)), some (dcfD (Qn R W (seatsL ts (W : Nat) (R.length : Nat)) h 0) (allC (W : Nat) (R.length : Nat))), some (.ref (M3 ++ [MO.dead]).length), x8, x9, x10]) (par_e (call_of (cons_of (f := eVar 4) (M1 := M3) rfl x_aNil) e4) (new_ x_aNil (by decide))) ?_
  refine seq_nx e5 ?_
  refine seq_nx (M1 := M6) (δ' := [s, some (.int k), some (.int cl), some (.ref n), some (fldD h R), some (.tup (ts.map cellD)), some (dcfD (Qn R W (seatsL ts (W : Nat) (R.length : Nat)) h (N + 1)) (allC (W : Nat) (R.length : Nat))), some (.ref (M3 ++ [MO.dead]).length), some (.ref k6), some (.lst (rws R W (seatsL ts (W : Nat) (R.length : Nat)) h (N + 1))), x10]) (par_e (call_of (cons_of (f := eVar 4) (M1 := M5) rfl (cons_of (f := eVar 5) (M1 := M5) rfl x_aNil)) e6) rows) ?_
  refine seq_nx (M1 := M7) (δ' := [s, some (.int k), some (.int cl), some (.ref n), some (fldD h R), some (.tup (ts.map cellD)), some (dcfD (Qn R W (seatsL ts (W : Nat) (R.length : Nat)) h (N + 1)) (allC (W : Nat) (R.length : Nat))), some (.ref (M3 ++ [MO.dead]).length), some (.ref k6), some (.lst (rws R W (seatsL ts (W : Nat) (R.length : Nat)) h (N + 1))), x10]) ?_ ?_
  · refine if_ff (M1 := M7) (or0 (M1 := M6) (nt_of (b := true) (v_bl (isi_of (d := .ref k6) (t := "list") rfl ?_ (by decide +kernel)))) (or0 (M1 := M6) ?_ ?_)) nil_of
    · unfold tyN
      dsimp only
      rw [d6]
    · exact reprs_ref nzl (by decide) (by decide) (M1 := M6) rfl d6 rfl
    · refine reprs_eq (nz_field (Sn_ok ok (seatsL ts (W : Nat) (R.length : Nat)) N).1) (by decide) (by decide) (M1 := M7) (call_of (cons_of (f := eVar 4) (M1 := M6) rfl (cons_of (f := eVar 5) (M1 := M6) rfl x_aNil)) e8) (op_of (a := .lst (rws R W (seatsL ts (W : Nat) (R.length : Nat)) h (N + 1))) (M1 := M7) rfl (show eUn gNeg (eC (.int 1)) _ _ = some (.int (-1), _) from rfl) ?_)
      rw [lst]
      exact ix_lastL
  refine seq_nx (M1 := M7.set k6 (.lst [])) (δ' := [s, some (.int k), some (.int cl), some (.ref n), some (fldD h R), some (.tup (ts.map cellD)), some (dcfD (Qn R W (seatsL ts (W : Nat) (R.length : Nat)) h (N + 1)) (allC (W : Nat) (R.length : Nat))), some (.ref (M3 ++ [MO.dead]).length), some (.ref k6), some (.lst (rws R W (seatsL ts (W : Nat) (R.length : Nat)) h (N + 1))), x10]) (se_ (d := .non) ?_) ?_
  · unfold eMeth2
    rw [show eVar 8 [s, some (.int k), some (.int cl), some (.ref n), some (fldD h R), some (.tup (ts.map cellD)), some (dcfD (Qn R W (seatsL ts (W : Nat) (R.length : Nat)) h (N + 1)) (allC (W : Nat) (R.length : Nat))), some (.ref (M3 ++ [MO.dead]).length), some (.ref k6), some (.lst (rws R W (seatsL ts (W : Nat) (R.length : Nat)) h (N + 1))), x10] M7 = some (.ref k6, M7) from rfl]
    dsimp only
    rw [if_pos (by unfold lstOf; dsimp only; rw [d67]; rfl), show aNil [s, some (.int k), some (.int cl), some (.ref n), some (fldD h R), some (.tup (ts.map cellD)), some (dcfD (Qn R W (seatsL ts (W : Nat) (R.length : Nat)) h (N + 1)) (allC (W : Nat) (R.length : Nat))), some (.ref (M3 ++ [MO.dead]).length), some (.ref k6), some (.lst (rws R W (seatsL ts (W : Nat) (R.length : Nat)) h (N + 1))), x10] M7 = some ([], M7) from rfl]
    dsimp only
    unfold gClr
    dsimp only
    rw [d67]
  · exact if_ff (M1 := M9) (v_bl (op_of (a := .ref k9) (M1 := M9) (call_of (cons_of (f := eVar 4) (M1 := M7.set k6 (.lst [])) rfl (cons_of (f := eVar 5) (M1 := M7.set k6 (.lst [])) rfl x_aNil)) e9) (b := .lst (rws R W (seatsL ts (W : Nat) (R.length : Nat)) h (N + 1))) (M2 := M9) rfl (ne_ref nzl (by decide) d9))) nil_of
theorem cells_go (ct : CT) (s : Option D) : ∀ (L : List D), (∀ d ∈ L, ∃ k c : Int, d = .tup [.int k, .int c] ∧ 0 ≤ k ∧ k ≤ 1000) → ∀ (M : Mh) (x1 x2 x3 x4 x5 x6 x7 x8 x9 x10 : Option D), ∃ (y1 y2 y3 y4 y5 y6 y7 y8 y9 y10 : Option D) (M' : Mh), forGo (gTp (gsCons (gN 1) (gsCons (gN 2) gsNil))) (sCe ct) L [s, x1, x2, x3, x4, x5, x6, x7, x8, x9, x10] M = some (.nx [s, y1, y2, y3, y4, y5, y6, y7, y8, y9, y10] M')
  | [], _, M, _, _, _, _, _, _, _, _, _, _ => ⟨_, _, _, _, _, _, _, _, _, _, M, forN_⟩
  | d :: L, h, M, x1, x2, x3, x4, x5, x6, x7, x8, x9, x10 => by
    obtain ⟨k, c, rfl, k0, k1⟩ := h d List.mem_cons_self
    obtain ⟨y3, y4, y5, y6, y7, y8, y9, y10, M1, e⟩ := cell_sp ct (M := M) (cl := c) k0 k1 s x3 x4 x5 x6 x7 x8 x9 x10
    obtain ⟨w1, w2, w3, w4, w5, w6, w7, w8, w9, w10, M', e2⟩ := cells_go ct s L (fun q hq => h q (List.mem_cons_of_mem _ hq)) M1 (some (.int k)) (some (.int c)) y3 y4 y5 y6 y7 y8 y9 y10
    exact ⟨w1, w2, w3, w4, w5, w6, w7, w8, w9, w10, M', forC_ (δ1 := [s, some (.int k), some (.int c), x3, x4, x5, x6, x7, x8, x9, x10]) rfl e e2⟩
theorem truth (ct : CT) (hI : Isa ct) (ns : List Int) (hn : ns.length ≤ 63) : ∃ M', ff_law ct [.lsk (ns.map D.int)] [] = some (.bl true, M') := by
  generalize hM : ([] : Mh) = M0
  have cut : ∃ ys : List Int, cutD ((ns ++ [4, 9]).map D.int) none (some 3) = ys.map D.int ∧ ys.length ≤ 3 := by
    refine ⟨(ns ++ [4, 9]).take 3, ?_, by rw [List.length_take]; omega⟩
    unfold cutD HT.sIx
    simp
  obtain ⟨ys, ey, ly⟩ := cut
  let δ0 : Pl.Env := [some (.lsk (ns.map D.int)), none, none, none, none, none, none, none, none, none, none]
  have ga : eOp gAddQ (eVar 0) (eLst (aCons (eC (.int 4)) (aCons (eC (.int 9)) aNil))) δ0 M0 = some (.lst ((ns ++ [4, 9]).map D.int), M0) := by
    refine op_of (a := .lsk (ns.map D.int)) (b := .lst [.int 4, .int 9]) (M1 := M0) (M2 := M0) rfl (x_eLst (cons_of x_eC (cons_of x_eC x_aNil)) (by simp)) ?_
    unfold gAddQ
    rw [show lstOf M0 (.lsk (ns.map D.int)) = some (ns.map D.int) from rfl, show lstOf M0 (.lst [.int 4, .int 9]) = some [.int 4, .int 9] from rfl]
    dsimp only
    rw [if_pos (show (ns.map D.int).length + ([D.int 4, D.int 9] : List D).length ≤ sizeLine from Nat.le_trans (show _ ≤ 65 by rw [List.length_map]; show ns.length + 2 ≤ 65; omega) (by decide)), List.map_append]
    rfl
  have s1 : eSl (eOp gAddQ (eVar 0) (eLst (aCons (eC (.int 4)) (aCons (eC (.int 9)) aNil)))) pNone (pSome (eC (.int 3))) δ0 M0 = some (.lst (ys.map D.int), M0) := by
    have p1 : ∀ δ, pNone δ M0 = some (none, M0) := fun δ => rfl
    have p2 : ∀ δ, pSome (eC (.int 3)) δ M0 = some (some 3, M0) := fun δ => rfl
    unfold eSl
    rw [ga]
    dsimp only
    rw [p1]
    dsimp only
    rw [p2]
    dsimp only [lstOf]
    rw [ey]
  have s2 : ∃ L : List D, aEnum (aCons (eSl (eOp gAddQ (eVar 0) (eLst (aCons (eC (.int 4)) (aCons (eC (.int 9)) aNil)))) pNone (pSome (eC (.int 3)))) aNil) δ0 M0 = some (L, M0) ∧ ∀ d ∈ L, ∃ k c : Int, d = .tup [.int k, .int c] ∧ 0 ≤ k ∧ k ≤ 1000 := by
    unfold aEnum
    rw [cons_of s1 x_aNil]
    refine ⟨_, rfl, fun d hd => ?_⟩
    obtain ⟨⟨p, q⟩, hp, rfl⟩ := List.mem_map.mp hd
    obtain ⟨hp1, hp2⟩ := List.of_mem_zip hp
    obtain ⟨i, hi, rfl⟩ := List.mem_map.mp hp1
    have hi' := List.mem_range.mp hi
    rw [List.length_map] at hi'
    obtain ⟨c, _, rfl⟩ := List.mem_map.mp hp2
    exact ⟨i, c, rfl, by omega, by omega⟩
  obtain ⟨L, e, hL⟩ := s2
  obtain ⟨w1, w2, w3, w4, w5, w6, w7, w8, w9, w10, M', ec⟩ := cells_go ct (some (.lsk (ns.map D.int))) L hL M0 none none none none none none none none none none
  refine ⟨M', fn_rt ?_⟩
  show gg_law ct δ0 M0 = _
  unfold gg_law
  refine seq_nx (δ' := [some (.lsk (ns.map D.int)), w1, w2, w3, w4, w5, w6, w7, w8, w9, w10]) (M1 := M') ?_ (ret_of x_eC)
  unfold sFor
  rw [e]
  exact ec
end Law
namespace Law
open PySem L2 Pl
theorem all_mk {l : PySem.W.OpenLaw} {w : World} {K : PySem.W.Frag} {h : Heap} {mg : Str → Option Value} {fa : Addr} (X : K.In h) (G : h.Ns mainGlobals mg) (hfa : mg "law" = some (.ref fa))
    {tk_MOST_HIGH : Tok}
    {tk_MOST_SIDE : Tok}
    {tk_MOST_TOOL : Tok}
    {tk_MOST_LENGTH : Tok}
    {tk_MOST_TOOLS : Tok}
    {C_Seat : Addr}
    {f_is_whole : Addr} {od_is_whole an_is_whole : Option Addr} {sl_is_whole : Array (Option Value)} {oc_is_whole dc_is_whole pm_is_whole cd_is_whole ct_is_whole : Value}
    {kV_is_whole : Value}
    {f_is_among : Addr} {od_is_among an_is_among : Option Addr} {sl_is_among : Array (Option Value)} {oc_is_among dc_is_among pm_is_among cd_is_among ct_is_among : Value}
    {kV_is_among : Value}
    {f_need_field : Addr} {od_need_field an_need_field : Option Addr} {sl_need_field : Array (Option Value)} {oc_need_field dc_need_field pm_need_field cd_need_field ct_need_field : Value}
    {kV_need_field : Value}
    {f_plain_sides : Addr} {od_plain_sides an_plain_sides : Option Addr} {sl_plain_sides : Array (Option Value)} {oc_plain_sides dc_plain_sides pm_plain_sides cd_plain_sides ct_plain_sides : Value}
    {kV_plain_sides : Value}
    {f_cells_of : Addr} {od_cells_of an_cells_of : Option Addr} {sl_cells_of : Array (Option Value)} {oc_cells_of dc_cells_of pm_cells_of cd_cells_of ct_cells_of : Value}
    {kV_cells_of : Value}
    {f_height_of : Addr} {od_height_of an_height_of : Option Addr} {sl_height_of : Array (Option Value)} {oc_height_of dc_height_of pm_height_of cd_height_of ct_height_of : Value}
    {kV_height_of : Value}
    {f_heights_of : Addr} {od_heights_of an_heights_of : Option Addr} {sl_heights_of : Array (Option Value)} {oc_heights_of dc_heights_of pm_heights_of cd_heights_of ct_heights_of : Value}
    {kV_heights_of : Value}
    {f_field_by : Addr} {od_field_by an_field_by : Option Addr} {sl_field_by : Array (Option Value)} {oc_field_by dc_field_by pm_field_by cd_field_by ct_field_by : Value}
    {kV_field_by : Value}
    {f_is_tool : Addr} {od_is_tool an_is_tool : Option Addr} {sl_is_tool : Array (Option Value)} {oc_is_tool dc_is_tool pm_is_tool cd_is_tool ct_is_tool : Value}
    {kV_is_tool : Value}
    {f_need_tools : Addr} {od_need_tools an_need_tools : Option Addr} {sl_need_tools : Array (Option Value)} {oc_need_tools dc_need_tools pm_need_tools cd_need_tools ct_need_tools : Value}
    {kV_need_tools : Value}
    {f_solid : Addr} {od_solid an_solid : Option Addr} {sl_solid : Array (Option Value)} {oc_solid dc_solid pm_solid cd_solid ct_solid : Value}
    {kV_solid : Value}
    {f_cells_between : Addr} {od_cells_between an_cells_between : Option Addr} {sl_cells_between : Array (Option Value)} {oc_cells_between dc_cells_between pm_cells_between cd_cells_between ct_cells_between : Value}
    {kV_cells_between : Value}
    {f_plain_under : Addr} {od_plain_under an_plain_under : Option Addr} {sl_plain_under : Array (Option Value)} {oc_plain_under dc_plain_under pm_plain_under cd_plain_under ct_plain_under : Value}
    {kV_plain_under : Value}
    {f_plain_ring : Addr} {od_plain_ring an_plain_ring : Option Addr} {sl_plain_ring : Array (Option Value)} {oc_plain_ring dc_plain_ring pm_plain_ring cd_plain_ring ct_plain_ring : Value}
    {kV_plain_ring : Value}
    {f_plain_places : Addr} {od_plain_places an_plain_places : Option Addr} {sl_plain_places : Array (Option Value)} {oc_plain_places dc_plain_places pm_plain_places cd_plain_places ct_plain_places : Value}
    {kV_plain_places : Value}
    {f_Seat_init : Addr} {od_Seat_init an_Seat_init : Option Addr} {sl_Seat_init : Array (Option Value)} {oc_Seat_init dc_Seat_init pm_Seat_init cd_Seat_init ct_Seat_init : Value}
    {kV_Seat_init : Value}
    {f_seats_of : Addr} {od_seats_of an_seats_of : Option Addr} {sl_seats_of : Array (Option Value)} {oc_seats_of dc_seats_of pm_seats_of cd_seats_of ct_seats_of : Value}
    {kV_seats_of : Value}
    {f_Seat_lowest_by : Addr} {od_Seat_lowest_by an_Seat_lowest_by : Option Addr} {sl_Seat_lowest_by : Array (Option Value)} {oc_Seat_lowest_by dc_Seat_lowest_by pm_Seat_lowest_by cd_Seat_lowest_by ct_Seat_lowest_by : Value}
    {kV_Seat_lowest_by : Value}
    {f_after_round : Addr} {od_after_round an_after_round : Option Addr} {sl_after_round : Array (Option Value)} {oc_after_round dc_after_round pm_after_round cd_after_round ct_after_round : Value}
    {kV_after_round : Value}
    {f_steady : Addr} {od_steady an_steady : Option Addr} {sl_steady : Array (Option Value)} {oc_steady dc_steady pm_steady cd_steady ct_steady : Value}
    {kV_steady : Value}
    {f_reached : Addr} {od_reached an_reached : Option Addr} {sl_reached : Array (Option Value)} {oc_reached dc_reached pm_reached cd_reached ct_reached : Value}
    {kV_reached : Value}
    {f_law_mixed : Addr} {od_law_mixed an_law_mixed : Option Addr} {sl_law_mixed : Array (Option Value)} {oc_law_mixed dc_law_mixed pm_law_mixed cd_law_mixed ct_law_mixed : Value}
    {kV_law_mixed : Value}
    {f_law_draw : Addr} {od_law_draw an_law_draw : Option Addr} {sl_law_draw : Array (Option Value)} {oc_law_draw dc_law_draw pm_law_draw cd_law_draw ct_law_draw : Value}
    {kV_law_draw : Value}
    {f_law_digit : Addr} {od_law_digit an_law_digit : Option Addr} {sl_law_digit : Array (Option Value)} {oc_law_digit dc_law_digit pm_law_digit cd_law_digit ct_law_digit : Value}
    {kV_law_digit : Value}
    {f_law_a_field : Addr} {od_law_a_field an_law_a_field : Option Addr} {sl_law_a_field : Array (Option Value)} {oc_law_a_field dc_law_a_field pm_law_a_field cd_law_a_field ct_law_a_field : Value}
    {kV_law_a_field : Value}
    {f_law_some_tools : Addr} {od_law_some_tools an_law_some_tools : Option Addr} {sl_law_some_tools : Array (Option Value)} {oc_law_some_tools dc_law_some_tools pm_law_some_tools cd_law_some_tools ct_law_some_tools : Value}
    {kV_law_some_tools : Value}
    {f_law_cells : Addr} {od_law_cells an_law_cells : Option Addr} {sl_law_cells : Array (Option Value)} {oc_law_cells dc_law_cells pm_law_cells cd_law_cells ct_law_cells : Value}
    {kV_law_cells : Value}
    {f_law_spots : Addr} {od_law_spots an_law_spots : Option Addr} {sl_law_spots : Array (Option Value)} {oc_law_spots dc_law_spots pm_law_spots cd_law_spots ct_law_spots : Value}
    {kV_law_spots : Value}
    {f_law_near : Addr} {od_law_near an_law_near : Option Addr} {sl_law_near : Array (Option Value)} {oc_law_near dc_law_near pm_law_near cd_law_near ct_law_near : Value}
    {kV_law_near : Value}
    {f_law_aim : Addr} {od_law_aim an_law_aim : Option Addr} {sl_law_aim : Array (Option Value)} {oc_law_aim dc_law_aim pm_law_aim cd_law_aim ct_law_aim : Value}
    {kV_law_aim : Value}
    {f_law_low : Addr} {od_law_low an_law_low : Option Addr} {sl_law_low : Array (Option Value)} {oc_law_low dc_law_low pm_law_low cd_law_low ct_law_low : Value}
    {kV_law_low : Value}
    {f_law_full : Addr} {od_law_full an_law_full : Option Addr} {sl_law_full : Array (Option Value)} {oc_law_full dc_law_full pm_law_full cd_law_full ct_law_full : Value}
    {kV_law_full : Value}
    {f_law_cut : Addr} {od_law_cut an_law_cut : Option Addr} {sl_law_cut : Array (Option Value)} {oc_law_cut dc_law_cut pm_law_cut cd_law_cut ct_law_cut : Value}
    {kV_law_cut : Value}
    {f_law_as_field : Addr} {od_law_as_field an_law_as_field : Option Addr} {sl_law_as_field : Array (Option Value)} {oc_law_as_field dc_law_as_field pm_law_as_field cd_law_as_field ct_law_as_field : Value}
    {kV_law_as_field : Value}
    {f_law_all_stands : Addr} {od_law_all_stands an_law_all_stands : Option Addr} {sl_law_all_stands : Array (Option Value)} {oc_law_all_stands dc_law_all_stands pm_law_all_stands cd_law_all_stands ct_law_all_stands : Value}
    {kV_law_all_stands : Value}
    {f_law_round : Addr} {od_law_round an_law_round : Option Addr} {sl_law_round : Array (Option Value)} {oc_law_round dc_law_round pm_law_round cd_law_round ct_law_round : Value}
    {kV_law_round : Value}
    {f_law : Addr} {od_law an_law : Option Addr} {sl_law : Array (Option Value)} {oc_law dc_law pm_law cd_law ct_law : Value}
    {kV_law : Value}
    (z_int : PySem.W.nsIn K mainGlobals "int" = some none)
    (z_isinstance : PySem.W.nsIn K mainGlobals "isinstance" = some none)
    (z_bool : PySem.W.nsIn K mainGlobals "bool" = some none)
    (z_tuple : PySem.W.nsIn K mainGlobals "tuple" = some none)
    (z_len : PySem.W.nsIn K mainGlobals "len" = some none)
    (z_enumerate : PySem.W.nsIn K mainGlobals "enumerate" = some none)
    (z_all : PySem.W.nsIn K mainGlobals "all" = some none)
    (z_range : PySem.W.nsIn K mainGlobals "range" = some none)
    (z_min : PySem.W.nsIn K mainGlobals "min" = some none)
    (z_max : PySem.W.nsIn K mainGlobals "max" = some none)
    (z_dict : PySem.W.nsIn K mainGlobals "dict" = some none)
    (z_list : PySem.W.nsIn K mainGlobals "list" = some none)
    (z_repr : PySem.W.nsIn K mainGlobals "repr" = some none)
    (g_MOST_HIGH : PySem.W.nsIn K mainGlobals "MOST_HIGH" = some (some (.int 6 tk_MOST_HIGH)))
    (g_MOST_SIDE : PySem.W.nsIn K mainGlobals "MOST_SIDE" = some (some (.int 8 tk_MOST_SIDE)))
    (g_MOST_TOOL : PySem.W.nsIn K mainGlobals "MOST_TOOL" = some (some (.int 4 tk_MOST_TOOL)))
    (g_MOST_LENGTH : PySem.W.nsIn K mainGlobals "MOST_LENGTH" = some (some (.int 6 tk_MOST_LENGTH)))
    (g_MOST_TOOLS : PySem.W.nsIn K mainGlobals "MOST_TOOLS" = some (some (.int 4 tk_MOST_TOOLS)))
    (a_Seat : PySem.W.nsIn K mainGlobals "Seat" = some (some (.ref C_Seat)))
    (q5_ : PySem.W.specialIn K (.builtin "object.__class__") "__get__" = some (some (.builtin "getset_descriptor.__get__"))) (q6_ : PySem.W.takesIn K (.builtin "object.__class__") = some true)
    (pg_Seat : PySem.W.plainGet K C_Seat Str.empty = true) (hi_Seat : PySem.W.hasDictIn K C_Seat = true) (po_Seat : PySem.W.plainOver K C_Seat = true) (sa_Seat : PySem.W.findIn K (.ref C_Seat) "__setattr__" = some (some (.builtin "object.__setattr__")))
    (na_tool_Seat : PySem.W.findIn K (.ref C_Seat) "tool" = some none)
    (na_place_Seat : PySem.W.findIn K (.ref C_Seat) "place" = some none)
    (na_under_Seat : PySem.W.findIn K (.ref C_Seat) "under" = some none)
    (na_ring_Seat : PySem.W.findIn K (.ref C_Seat) "ring" = some none)
    (na_floor_Seat : PySem.W.findIn K (.ref C_Seat) "floor" = some none)
    (mk_Seat : PySem.W.makesIn K C_Seat = true) (ii_Seat : PySem.W.findIn K (.ref C_Seat) "__init__" = some (some (.ref f_Seat_init))) (fi_Seat : PySem.W.isFn K (.ref f_Seat_init) = true) (ke_Seat : PySem.W.keepIn K (.ref C_Seat) = true)
    (mm_Seat_lowest_by : PySem.W.findIn K (.ref C_Seat) "lowest_by" = some (some (.ref f_Seat_lowest_by))) (mf_Seat_lowest_by : PySem.W.isFn K (.ref f_Seat_lowest_by) = true)
    (a_is_whole : PySem.W.nsIn K mainGlobals "is_whole" = some (some (.ref f_is_whole)))
    (l_is_whole : K.lookup f_is_whole = some ⟨oc_is_whole, od_is_whole, .func (PySem.W.fnOf "is_whole" "is_whole" (defArgs ss_is_whole) (defBody ss_is_whole) (defScope ss_is_whole) .none kV_is_whole dc_is_whole pm_is_whole an_is_whole cd_is_whole ct_is_whole), sl_is_whole⟩)
    (c_is_whole : PySem.W.codeIn K cd_is_whole "is_whole" = true) (k_is_whole : PySem.W.keepIn K (.ref f_is_whole) = true)
    (a_is_among : PySem.W.nsIn K mainGlobals "is_among" = some (some (.ref f_is_among)))
    (l_is_among : K.lookup f_is_among = some ⟨oc_is_among, od_is_among, .func (PySem.W.fnOf "is_among" "is_among" (defArgs ss_is_among) (defBody ss_is_among) (defScope ss_is_among) .none kV_is_among dc_is_among pm_is_among an_is_among cd_is_among ct_is_among), sl_is_among⟩)
    (c_is_among : PySem.W.codeIn K cd_is_among "is_among" = true) (k_is_among : PySem.W.keepIn K (.ref f_is_among) = true)
    (a_need_field : PySem.W.nsIn K mainGlobals "need_field" = some (some (.ref f_need_field)))
    (l_need_field : K.lookup f_need_field = some ⟨oc_need_field, od_need_field, .func (PySem.W.fnOf "need_field" "need_field" (defArgs ss_need_field) (defBody ss_need_field) (defScope ss_need_field) .none kV_need_field dc_need_field pm_need_field an_need_field cd_need_field ct_need_field), sl_need_field⟩)
    (c_need_field : PySem.W.codeIn K cd_need_field "need_field" = true) (k_need_field : PySem.W.keepIn K (.ref f_need_field) = true)
    (a_plain_sides : PySem.W.nsIn K mainGlobals "plain_sides" = some (some (.ref f_plain_sides)))
    (l_plain_sides : K.lookup f_plain_sides = some ⟨oc_plain_sides, od_plain_sides, .func (PySem.W.fnOf "plain_sides" "plain_sides" (defArgs ss_plain_sides) (defBody ss_plain_sides) (defScope ss_plain_sides) .none kV_plain_sides dc_plain_sides pm_plain_sides an_plain_sides cd_plain_sides ct_plain_sides), sl_plain_sides⟩)
    (c_plain_sides : PySem.W.codeIn K cd_plain_sides "plain_sides" = true) (k_plain_sides : PySem.W.keepIn K (.ref f_plain_sides) = true)
    (a_cells_of : PySem.W.nsIn K mainGlobals "cells_of" = some (some (.ref f_cells_of)))
    (l_cells_of : K.lookup f_cells_of = some ⟨oc_cells_of, od_cells_of, .func (PySem.W.fnOf "cells_of" "cells_of" (defArgs ss_cells_of) (defBody ss_cells_of) (defScope ss_cells_of) .none kV_cells_of dc_cells_of pm_cells_of an_cells_of cd_cells_of ct_cells_of), sl_cells_of⟩)
    (c_cells_of : PySem.W.codeIn K cd_cells_of "cells_of" = true) (k_cells_of : PySem.W.keepIn K (.ref f_cells_of) = true)
    (a_height_of : PySem.W.nsIn K mainGlobals "height_of" = some (some (.ref f_height_of)))
    (l_height_of : K.lookup f_height_of = some ⟨oc_height_of, od_height_of, .func (PySem.W.fnOf "height_of" "height_of" (defArgs ss_height_of) (defBody ss_height_of) (defScope ss_height_of) .none kV_height_of dc_height_of pm_height_of an_height_of cd_height_of ct_height_of), sl_height_of⟩)
    (c_height_of : PySem.W.codeIn K cd_height_of "height_of" = true) (k_height_of : PySem.W.keepIn K (.ref f_height_of) = true)
    (a_heights_of : PySem.W.nsIn K mainGlobals "heights_of" = some (some (.ref f_heights_of)))
    (l_heights_of : K.lookup f_heights_of = some ⟨oc_heights_of, od_heights_of, .func (PySem.W.fnOf "heights_of" "heights_of" (defArgs ss_heights_of) (defBody ss_heights_of) (defScope ss_heights_of) .none kV_heights_of dc_heights_of pm_heights_of an_heights_of cd_heights_of ct_heights_of), sl_heights_of⟩)
    (c_heights_of : PySem.W.codeIn K cd_heights_of "heights_of" = true) (k_heights_of : PySem.W.keepIn K (.ref f_heights_of) = true)
    (a_field_by : PySem.W.nsIn K mainGlobals "field_by" = some (some (.ref f_field_by)))
    (l_field_by : K.lookup f_field_by = some ⟨oc_field_by, od_field_by, .func (PySem.W.fnOf "field_by" "field_by" (defArgs ss_field_by) (defBody ss_field_by) (defScope ss_field_by) .none kV_field_by dc_field_by pm_field_by an_field_by cd_field_by ct_field_by), sl_field_by⟩)
    (c_field_by : PySem.W.codeIn K cd_field_by "field_by" = true) (k_field_by : PySem.W.keepIn K (.ref f_field_by) = true)
    (a_is_tool : PySem.W.nsIn K mainGlobals "is_tool" = some (some (.ref f_is_tool)))
    (l_is_tool : K.lookup f_is_tool = some ⟨oc_is_tool, od_is_tool, .func (PySem.W.fnOf "is_tool" "is_tool" (defArgs ss_is_tool) (defBody ss_is_tool) (defScope ss_is_tool) .none kV_is_tool dc_is_tool pm_is_tool an_is_tool cd_is_tool ct_is_tool), sl_is_tool⟩)
    (c_is_tool : PySem.W.codeIn K cd_is_tool "is_tool" = true) (k_is_tool : PySem.W.keepIn K (.ref f_is_tool) = true)
    (a_need_tools : PySem.W.nsIn K mainGlobals "need_tools" = some (some (.ref f_need_tools)))
    (l_need_tools : K.lookup f_need_tools = some ⟨oc_need_tools, od_need_tools, .func (PySem.W.fnOf "need_tools" "need_tools" (defArgs ss_need_tools) (defBody ss_need_tools) (defScope ss_need_tools) .none kV_need_tools dc_need_tools pm_need_tools an_need_tools cd_need_tools ct_need_tools), sl_need_tools⟩)
    (c_need_tools : PySem.W.codeIn K cd_need_tools "need_tools" = true) (k_need_tools : PySem.W.keepIn K (.ref f_need_tools) = true)
    (a_solid : PySem.W.nsIn K mainGlobals "solid" = some (some (.ref f_solid)))
    (l_solid : K.lookup f_solid = some ⟨oc_solid, od_solid, .func (PySem.W.fnOf "solid" "solid" (defArgs ss_solid) (defBody ss_solid) (defScope ss_solid) .none kV_solid dc_solid pm_solid an_solid cd_solid ct_solid), sl_solid⟩)
    (c_solid : PySem.W.codeIn K cd_solid "solid" = true) (k_solid : PySem.W.keepIn K (.ref f_solid) = true)
    (a_cells_between : PySem.W.nsIn K mainGlobals "_cells_between" = some (some (.ref f_cells_between)))
    (l_cells_between : K.lookup f_cells_between = some ⟨oc_cells_between, od_cells_between, .func (PySem.W.fnOf "_cells_between" "_cells_between" (defArgs ss_cells_between) (defBody ss_cells_between) (defScope ss_cells_between) .none kV_cells_between dc_cells_between pm_cells_between an_cells_between cd_cells_between ct_cells_between), sl_cells_between⟩)
    (c_cells_between : PySem.W.codeIn K cd_cells_between "_cells_between" = true) (k_cells_between : PySem.W.keepIn K (.ref f_cells_between) = true)
    (a_plain_under : PySem.W.nsIn K mainGlobals "plain_under" = some (some (.ref f_plain_under)))
    (l_plain_under : K.lookup f_plain_under = some ⟨oc_plain_under, od_plain_under, .func (PySem.W.fnOf "plain_under" "plain_under" (defArgs ss_plain_under) (defBody ss_plain_under) (defScope ss_plain_under) .none kV_plain_under dc_plain_under pm_plain_under an_plain_under cd_plain_under ct_plain_under), sl_plain_under⟩)
    (c_plain_under : PySem.W.codeIn K cd_plain_under "plain_under" = true) (k_plain_under : PySem.W.keepIn K (.ref f_plain_under) = true)
    (a_plain_ring : PySem.W.nsIn K mainGlobals "plain_ring" = some (some (.ref f_plain_ring)))
    (l_plain_ring : K.lookup f_plain_ring = some ⟨oc_plain_ring, od_plain_ring, .func (PySem.W.fnOf "plain_ring" "plain_ring" (defArgs ss_plain_ring) (defBody ss_plain_ring) (defScope ss_plain_ring) .none kV_plain_ring dc_plain_ring pm_plain_ring an_plain_ring cd_plain_ring ct_plain_ring), sl_plain_ring⟩)
    (c_plain_ring : PySem.W.codeIn K cd_plain_ring "plain_ring" = true) (k_plain_ring : PySem.W.keepIn K (.ref f_plain_ring) = true)
    (a_plain_places : PySem.W.nsIn K mainGlobals "plain_places" = some (some (.ref f_plain_places)))
    (l_plain_places : K.lookup f_plain_places = some ⟨oc_plain_places, od_plain_places, .func (PySem.W.fnOf "plain_places" "plain_places" (defArgs ss_plain_places) (defBody ss_plain_places) (defScope ss_plain_places) .none kV_plain_places dc_plain_places pm_plain_places an_plain_places cd_plain_places ct_plain_places), sl_plain_places⟩)
    (c_plain_places : PySem.W.codeIn K cd_plain_places "plain_places" = true) (k_plain_places : PySem.W.keepIn K (.ref f_plain_places) = true)
    (l_Seat_init : K.lookup f_Seat_init = some ⟨oc_Seat_init, od_Seat_init, .func (PySem.W.fnOf "__init__" "Seat.__init__" (defArgs ss_Seat_init) (defBody ss_Seat_init) (defScope ss_Seat_init) .none kV_Seat_init dc_Seat_init pm_Seat_init an_Seat_init cd_Seat_init ct_Seat_init), sl_Seat_init⟩)
    (c_Seat_init : PySem.W.codeIn K cd_Seat_init "Seat.__init__" = true) (k_Seat_init : PySem.W.keepIn K (.ref f_Seat_init) = true)
    (a_seats_of : PySem.W.nsIn K mainGlobals "seats_of" = some (some (.ref f_seats_of)))
    (l_seats_of : K.lookup f_seats_of = some ⟨oc_seats_of, od_seats_of, .func (PySem.W.fnOf "seats_of" "seats_of" (defArgs ss_seats_of) (defBody ss_seats_of) (defScope ss_seats_of) .none kV_seats_of dc_seats_of pm_seats_of an_seats_of cd_seats_of ct_seats_of), sl_seats_of⟩)
    (c_seats_of : PySem.W.codeIn K cd_seats_of "seats_of" = true) (k_seats_of : PySem.W.keepIn K (.ref f_seats_of) = true)
    (l_Seat_lowest_by : K.lookup f_Seat_lowest_by = some ⟨oc_Seat_lowest_by, od_Seat_lowest_by, .func (PySem.W.fnOf "lowest_by" "Seat.lowest_by" (defArgs ss_Seat_lowest_by) (defBody ss_Seat_lowest_by) (defScope ss_Seat_lowest_by) .none kV_Seat_lowest_by dc_Seat_lowest_by pm_Seat_lowest_by an_Seat_lowest_by cd_Seat_lowest_by ct_Seat_lowest_by), sl_Seat_lowest_by⟩)
    (c_Seat_lowest_by : PySem.W.codeIn K cd_Seat_lowest_by "Seat.lowest_by" = true) (k_Seat_lowest_by : PySem.W.keepIn K (.ref f_Seat_lowest_by) = true)
    (a_after_round : PySem.W.nsIn K mainGlobals "after_round" = some (some (.ref f_after_round)))
    (l_after_round : K.lookup f_after_round = some ⟨oc_after_round, od_after_round, .func (PySem.W.fnOf "after_round" "after_round" (defArgs ss_after_round) (defBody ss_after_round) (defScope ss_after_round) .none kV_after_round dc_after_round pm_after_round an_after_round cd_after_round ct_after_round), sl_after_round⟩)
    (c_after_round : PySem.W.codeIn K cd_after_round "after_round" = true) (k_after_round : PySem.W.keepIn K (.ref f_after_round) = true)
    (a_steady : PySem.W.nsIn K mainGlobals "steady" = some (some (.ref f_steady)))
    (l_steady : K.lookup f_steady = some ⟨oc_steady, od_steady, .func (PySem.W.fnOf "steady" "steady" (defArgs ss_steady) (defBody ss_steady) (defScope ss_steady) .none kV_steady dc_steady pm_steady an_steady cd_steady ct_steady), sl_steady⟩)
    (c_steady : PySem.W.codeIn K cd_steady "steady" = true) (k_steady : PySem.W.keepIn K (.ref f_steady) = true)
    (a_reached : PySem.W.nsIn K mainGlobals "reached" = some (some (.ref f_reached)))
    (l_reached : K.lookup f_reached = some ⟨oc_reached, od_reached, .func (PySem.W.fnOf "reached" "reached" (defArgs ss_reached) (defBody ss_reached) (defScope ss_reached) .none kV_reached dc_reached pm_reached an_reached cd_reached ct_reached), sl_reached⟩)
    (c_reached : PySem.W.codeIn K cd_reached "reached" = true) (k_reached : PySem.W.keepIn K (.ref f_reached) = true)
    (a_law_mixed : PySem.W.nsIn K mainGlobals "_law_mixed" = some (some (.ref f_law_mixed)))
    (l_law_mixed : K.lookup f_law_mixed = some ⟨oc_law_mixed, od_law_mixed, .func (PySem.W.fnOf "_law_mixed" "_law_mixed" (defArgs ss_law_mixed) (defBody ss_law_mixed) (defScope ss_law_mixed) .none kV_law_mixed dc_law_mixed pm_law_mixed an_law_mixed cd_law_mixed ct_law_mixed), sl_law_mixed⟩)
    (c_law_mixed : PySem.W.codeIn K cd_law_mixed "_law_mixed" = true) (k_law_mixed : PySem.W.keepIn K (.ref f_law_mixed) = true)
    (a_law_draw : PySem.W.nsIn K mainGlobals "_law_draw" = some (some (.ref f_law_draw)))
    (l_law_draw : K.lookup f_law_draw = some ⟨oc_law_draw, od_law_draw, .func (PySem.W.fnOf "_law_draw" "_law_draw" (defArgs ss_law_draw) (defBody ss_law_draw) (defScope ss_law_draw) .none kV_law_draw dc_law_draw pm_law_draw an_law_draw cd_law_draw ct_law_draw), sl_law_draw⟩)
    (c_law_draw : PySem.W.codeIn K cd_law_draw "_law_draw" = true) (k_law_draw : PySem.W.keepIn K (.ref f_law_draw) = true)
    (a_law_digit : PySem.W.nsIn K mainGlobals "_law_digit" = some (some (.ref f_law_digit)))
    (l_law_digit : K.lookup f_law_digit = some ⟨oc_law_digit, od_law_digit, .func (PySem.W.fnOf "_law_digit" "_law_digit" (defArgs ss_law_digit) (defBody ss_law_digit) (defScope ss_law_digit) .none kV_law_digit dc_law_digit pm_law_digit an_law_digit cd_law_digit ct_law_digit), sl_law_digit⟩)
    (c_law_digit : PySem.W.codeIn K cd_law_digit "_law_digit" = true) (k_law_digit : PySem.W.keepIn K (.ref f_law_digit) = true)
    (a_law_a_field : PySem.W.nsIn K mainGlobals "_law_a_field" = some (some (.ref f_law_a_field)))
    (l_law_a_field : K.lookup f_law_a_field = some ⟨oc_law_a_field, od_law_a_field, .func (PySem.W.fnOf "_law_a_field" "_law_a_field" (defArgs ss_law_a_field) (defBody ss_law_a_field) (defScope ss_law_a_field) .none kV_law_a_field dc_law_a_field pm_law_a_field an_law_a_field cd_law_a_field ct_law_a_field), sl_law_a_field⟩)
    (c_law_a_field : PySem.W.codeIn K cd_law_a_field "_law_a_field" = true) (k_law_a_field : PySem.W.keepIn K (.ref f_law_a_field) = true)
    (a_law_some_tools : PySem.W.nsIn K mainGlobals "_law_some_tools" = some (some (.ref f_law_some_tools)))
    (l_law_some_tools : K.lookup f_law_some_tools = some ⟨oc_law_some_tools, od_law_some_tools, .func (PySem.W.fnOf "_law_some_tools" "_law_some_tools" (defArgs ss_law_some_tools) (defBody ss_law_some_tools) (defScope ss_law_some_tools) .none kV_law_some_tools dc_law_some_tools pm_law_some_tools an_law_some_tools cd_law_some_tools ct_law_some_tools), sl_law_some_tools⟩)
    (c_law_some_tools : PySem.W.codeIn K cd_law_some_tools "_law_some_tools" = true) (k_law_some_tools : PySem.W.keepIn K (.ref f_law_some_tools) = true)
    (a_law_cells : PySem.W.nsIn K mainGlobals "_law_cells" = some (some (.ref f_law_cells)))
    (l_law_cells : K.lookup f_law_cells = some ⟨oc_law_cells, od_law_cells, .func (PySem.W.fnOf "_law_cells" "_law_cells" (defArgs ss_law_cells) (defBody ss_law_cells) (defScope ss_law_cells) .none kV_law_cells dc_law_cells pm_law_cells an_law_cells cd_law_cells ct_law_cells), sl_law_cells⟩)
    (c_law_cells : PySem.W.codeIn K cd_law_cells "_law_cells" = true) (k_law_cells : PySem.W.keepIn K (.ref f_law_cells) = true)
    (a_law_spots : PySem.W.nsIn K mainGlobals "_law_spots" = some (some (.ref f_law_spots)))
    (l_law_spots : K.lookup f_law_spots = some ⟨oc_law_spots, od_law_spots, .func (PySem.W.fnOf "_law_spots" "_law_spots" (defArgs ss_law_spots) (defBody ss_law_spots) (defScope ss_law_spots) .none kV_law_spots dc_law_spots pm_law_spots an_law_spots cd_law_spots ct_law_spots), sl_law_spots⟩)
    (c_law_spots : PySem.W.codeIn K cd_law_spots "_law_spots" = true) (k_law_spots : PySem.W.keepIn K (.ref f_law_spots) = true)
    (a_law_near : PySem.W.nsIn K mainGlobals "_law_near" = some (some (.ref f_law_near)))
    (l_law_near : K.lookup f_law_near = some ⟨oc_law_near, od_law_near, .func (PySem.W.fnOf "_law_near" "_law_near" (defArgs ss_law_near) (defBody ss_law_near) (defScope ss_law_near) .none kV_law_near dc_law_near pm_law_near an_law_near cd_law_near ct_law_near), sl_law_near⟩)
    (c_law_near : PySem.W.codeIn K cd_law_near "_law_near" = true) (k_law_near : PySem.W.keepIn K (.ref f_law_near) = true)
    (a_law_aim : PySem.W.nsIn K mainGlobals "_law_aim" = some (some (.ref f_law_aim)))
    (l_law_aim : K.lookup f_law_aim = some ⟨oc_law_aim, od_law_aim, .func (PySem.W.fnOf "_law_aim" "_law_aim" (defArgs ss_law_aim) (defBody ss_law_aim) (defScope ss_law_aim) .none kV_law_aim dc_law_aim pm_law_aim an_law_aim cd_law_aim ct_law_aim), sl_law_aim⟩)
    (c_law_aim : PySem.W.codeIn K cd_law_aim "_law_aim" = true) (k_law_aim : PySem.W.keepIn K (.ref f_law_aim) = true)
    (a_law_low : PySem.W.nsIn K mainGlobals "_law_low" = some (some (.ref f_law_low)))
    (l_law_low : K.lookup f_law_low = some ⟨oc_law_low, od_law_low, .func (PySem.W.fnOf "_law_low" "_law_low" (defArgs ss_law_low) (defBody ss_law_low) (defScope ss_law_low) .none kV_law_low dc_law_low pm_law_low an_law_low cd_law_low ct_law_low), sl_law_low⟩)
    (c_law_low : PySem.W.codeIn K cd_law_low "_law_low" = true) (k_law_low : PySem.W.keepIn K (.ref f_law_low) = true)
    (a_law_full : PySem.W.nsIn K mainGlobals "_law_full" = some (some (.ref f_law_full)))
    (l_law_full : K.lookup f_law_full = some ⟨oc_law_full, od_law_full, .func (PySem.W.fnOf "_law_full" "_law_full" (defArgs ss_law_full) (defBody ss_law_full) (defScope ss_law_full) .none kV_law_full dc_law_full pm_law_full an_law_full cd_law_full ct_law_full), sl_law_full⟩)
    (c_law_full : PySem.W.codeIn K cd_law_full "_law_full" = true) (k_law_full : PySem.W.keepIn K (.ref f_law_full) = true)
    (a_law_cut : PySem.W.nsIn K mainGlobals "_law_cut" = some (some (.ref f_law_cut)))
    (l_law_cut : K.lookup f_law_cut = some ⟨oc_law_cut, od_law_cut, .func (PySem.W.fnOf "_law_cut" "_law_cut" (defArgs ss_law_cut) (defBody ss_law_cut) (defScope ss_law_cut) .none kV_law_cut dc_law_cut pm_law_cut an_law_cut cd_law_cut ct_law_cut), sl_law_cut⟩)
    (c_law_cut : PySem.W.codeIn K cd_law_cut "_law_cut" = true) (k_law_cut : PySem.W.keepIn K (.ref f_law_cut) = true)
    (a_law_as_field : PySem.W.nsIn K mainGlobals "_law_as_field" = some (some (.ref f_law_as_field)))
    (l_law_as_field : K.lookup f_law_as_field = some ⟨oc_law_as_field, od_law_as_field, .func (PySem.W.fnOf "_law_as_field" "_law_as_field" (defArgs ss_law_as_field) (defBody ss_law_as_field) (defScope ss_law_as_field) .none kV_law_as_field dc_law_as_field pm_law_as_field an_law_as_field cd_law_as_field ct_law_as_field), sl_law_as_field⟩)
    (c_law_as_field : PySem.W.codeIn K cd_law_as_field "_law_as_field" = true) (k_law_as_field : PySem.W.keepIn K (.ref f_law_as_field) = true)
    (a_law_all_stands : PySem.W.nsIn K mainGlobals "_law_all_stands" = some (some (.ref f_law_all_stands)))
    (l_law_all_stands : K.lookup f_law_all_stands = some ⟨oc_law_all_stands, od_law_all_stands, .func (PySem.W.fnOf "_law_all_stands" "_law_all_stands" (defArgs ss_law_all_stands) (defBody ss_law_all_stands) (defScope ss_law_all_stands) .none kV_law_all_stands dc_law_all_stands pm_law_all_stands an_law_all_stands cd_law_all_stands ct_law_all_stands), sl_law_all_stands⟩)
    (c_law_all_stands : PySem.W.codeIn K cd_law_all_stands "_law_all_stands" = true) (k_law_all_stands : PySem.W.keepIn K (.ref f_law_all_stands) = true)
    (a_law_round : PySem.W.nsIn K mainGlobals "_law_round" = some (some (.ref f_law_round)))
    (l_law_round : K.lookup f_law_round = some ⟨oc_law_round, od_law_round, .func (PySem.W.fnOf "_law_round" "_law_round" (defArgs ss_law_round) (defBody ss_law_round) (defScope ss_law_round) .none kV_law_round dc_law_round pm_law_round an_law_round cd_law_round ct_law_round), sl_law_round⟩)
    (c_law_round : PySem.W.codeIn K cd_law_round "_law_round" = true) (k_law_round : PySem.W.keepIn K (.ref f_law_round) = true)
    (a_law : PySem.W.nsIn K mainGlobals "law" = some (some (.ref f_law)))
    (l_law : K.lookup f_law = some ⟨oc_law, od_law, .func (PySem.W.fnOf "law" "law" (defArgs ss_law) (defBody ss_law) (defScope ss_law) .none kV_law dc_law pm_law an_law cd_law ct_law), sl_law⟩)
    (c_law : PySem.W.codeIn K cd_law "law" = true) (k_law : PySem.W.keepIn K (.ref f_law) = true)
    : ∃ (fd : FuncData) (F : Fn), (∀ (s : Shared) (v : Value), BindsTo s fd ⟨[v], []⟩ [("script", v)]) ∧ (∀ base : Heap, K.In base → base.Ns mainGlobals mg → DFn l.prog w K mg base 9 fa fd ["script"] F) ∧ ∀ ns : List Int, ns.length ≤ 63 → ∃ M', F [.lsk (ns.map D.int)] [] = some (.bl true, M') := by
  have e := hfa.symm.trans (PySem.W.mg_of X G a_law)
  cases e
  have T : Txt (⟨C_Seat, Pl.isaOf K, Pl.okfOf K, Pl.okgOf K⟩ : CT) K mg := ⟨PySem.W.mg_none_of X G z_int, PySem.W.mg_none_of X G z_isinstance, PySem.W.mg_none_of X G z_bool, PySem.W.mg_none_of X G z_tuple, PySem.W.mg_none_of X G z_len, PySem.W.mg_none_of X G z_enumerate, PySem.W.mg_none_of X G z_all, PySem.W.mg_none_of X G z_range, PySem.W.mg_none_of X G z_min, PySem.W.mg_none_of X G z_max, PySem.W.mg_none_of X G z_dict, PySem.W.mg_none_of X G z_list, PySem.W.mg_none_of X G z_repr, ⟨(.int 6), _, PySem.W.mg_of X G g_MOST_HIGH, ⟨_, rfl⟩, fun _ _ => .int _⟩, ⟨(.int 8), _, PySem.W.mg_of X G g_MOST_SIDE, ⟨_, rfl⟩, fun _ _ => .int _⟩, ⟨(.int 4), _, PySem.W.mg_of X G g_MOST_TOOL, ⟨_, rfl⟩, fun _ _ => .int _⟩, ⟨(.int 6), _, PySem.W.mg_of X G g_MOST_LENGTH, ⟨_, rfl⟩, fun _ _ => .int _⟩, ⟨(.int 4), _, PySem.W.mg_of X G g_MOST_TOOLS, ⟨_, rfl⟩, fun _ _ => .int _⟩, PySem.W.mg_of X G a_Seat, Pl.okfOf_ok, Pl.okgOf_ok, Pl.isaOf_ok, fun C hC => by
    simp only [List.mem_cons, List.not_mem_nil, or_false] at hC
    rcases hC with rfl
    · exact ⟨⟨pg_Seat, hi_Seat, po_Seat, sa_Seat⟩, na_tool_Seat⟩, fun C hC => by
    simp only [List.mem_cons, List.not_mem_nil, or_false] at hC
    rcases hC with rfl
    · exact ⟨⟨pg_Seat, hi_Seat, po_Seat, sa_Seat⟩, na_place_Seat⟩, fun C hC => by
    simp only [List.mem_cons, List.not_mem_nil, or_false] at hC
    rcases hC with rfl
    · exact ⟨⟨pg_Seat, hi_Seat, po_Seat, sa_Seat⟩, na_under_Seat⟩, fun C hC => by
    simp only [List.mem_cons, List.not_mem_nil, or_false] at hC
    rcases hC with rfl
    · exact ⟨⟨pg_Seat, hi_Seat, po_Seat, sa_Seat⟩, na_ring_Seat⟩, fun C hC => by
    simp only [List.mem_cons, List.not_mem_nil, or_false] at hC
    rcases hC with rfl
    · exact ⟨⟨pg_Seat, hi_Seat, po_Seat, sa_Seat⟩, na_floor_Seat⟩⟩
  have F_is_whole : FF_is_whole K f_is_whole _ := ⟨⟨_, _, _, _, _, _, _, _, _, _, rfl, l_is_whole, c_is_whole, .inl ⟨rfl, rfl⟩, .inl rfl⟩, k_is_whole⟩
  have b_is_whole := F_is_whole.bindsN (ps := ["thing"]) fun _ _ _ _ _ _ us hl => match us, hl with | [_], _ => rfl
  have F_is_among : FF_is_among K f_is_among _ := ⟨⟨_, _, _, _, _, _, _, _, _, _, rfl, l_is_among, c_is_among, .inl ⟨rfl, rfl⟩, .inl rfl⟩, k_is_among⟩
  have b_is_among := F_is_among.bindsN (ps := ["thing", "least", "most"]) fun _ _ _ _ _ _ us hl => match us, hl with | [_, _, _], _ => rfl
  have F_need_field : FF_need_field K f_need_field _ := ⟨⟨_, _, _, _, _, _, _, _, _, _, rfl, l_need_field, c_need_field, .inl ⟨rfl, rfl⟩, .inl rfl⟩, k_need_field⟩
  have b_need_field := F_need_field.bindsN (ps := ["field"]) fun _ _ _ _ _ _ us hl => match us, hl with | [_], _ => rfl
  have F_plain_sides : FF_plain_sides K f_plain_sides _ := ⟨⟨_, _, _, _, _, _, _, _, _, _, rfl, l_plain_sides, c_plain_sides, .inl ⟨rfl, rfl⟩, .inl rfl⟩, k_plain_sides⟩
  have b_plain_sides := F_plain_sides.bindsN (ps := ["field"]) fun _ _ _ _ _ _ us hl => match us, hl with | [_], _ => rfl
  have F_cells_of : FF_cells_of K f_cells_of _ := ⟨⟨_, _, _, _, _, _, _, _, _, _, rfl, l_cells_of, c_cells_of, .inl ⟨rfl, rfl⟩, .inl rfl⟩, k_cells_of⟩
  have b_cells_of := F_cells_of.bindsN (ps := ["field"]) fun _ _ _ _ _ _ us hl => match us, hl with | [_], _ => rfl
  have F_height_of : FF_height_of K f_height_of _ := ⟨⟨_, _, _, _, _, _, _, _, _, _, rfl, l_height_of, c_height_of, .inl ⟨rfl, rfl⟩, .inl rfl⟩, k_height_of⟩
  have b_height_of := F_height_of.bindsN (ps := ["field", "cell"]) fun _ _ _ _ _ _ us hl => match us, hl with | [_, _], _ => rfl
  have F_heights_of : FF_heights_of K f_heights_of _ := ⟨⟨_, _, _, _, _, _, _, _, _, _, rfl, l_heights_of, c_heights_of, .inl ⟨rfl, rfl⟩, .inl rfl⟩, k_heights_of⟩
  have b_heights_of := F_heights_of.bindsN (ps := ["field"]) fun _ _ _ _ _ _ us hl => match us, hl with | [_], _ => rfl
  have F_field_by : FF_field_by K f_field_by _ := ⟨⟨_, _, _, _, _, _, _, _, _, _, rfl, l_field_by, c_field_by, .inl ⟨rfl, rfl⟩, .inl rfl⟩, k_field_by⟩
  have b_field_by := F_field_by.bindsN (ps := ["field", "heights"]) fun _ _ _ _ _ _ us hl => match us, hl with | [_, _], _ => rfl
  have F_is_tool : FF_is_tool K f_is_tool _ := ⟨⟨_, _, _, _, _, _, _, _, _, _, rfl, l_is_tool, c_is_tool, .inl ⟨rfl, rfl⟩, .inl rfl⟩, k_is_tool⟩
  have b_is_tool := F_is_tool.bindsN (ps := ["thing"]) fun _ _ _ _ _ _ us hl => match us, hl with | [_], _ => rfl
  have F_need_tools : FF_need_tools K f_need_tools _ := ⟨⟨_, _, _, _, _, _, _, _, _, _, rfl, l_need_tools, c_need_tools, .inl ⟨rfl, rfl⟩, .inl rfl⟩, k_need_tools⟩
  have b_need_tools := F_need_tools.bindsN (ps := ["tools"]) fun _ _ _ _ _ _ us hl => match us, hl with | [_], _ => rfl
  have F_solid : FF_solid K f_solid _ := ⟨⟨_, _, _, _, _, _, _, _, _, _, rfl, l_solid, c_solid, .inl ⟨rfl, rfl⟩, .inl rfl⟩, k_solid⟩
  have b_solid := F_solid.bindsN (ps := ["field"]) fun _ _ _ _ _ _ us hl => match us, hl with | [_], _ => rfl
  have F_cells_between : FF_cells_between K f_cells_between _ := ⟨⟨_, _, _, _, _, _, _, _, _, _, rfl, l_cells_between, c_cells_between, .inl ⟨rfl, rfl⟩, .inl rfl⟩, k_cells_between⟩
  have b_cells_between := F_cells_between.bindsN (ps := ["sides", "first", "last"]) fun _ _ _ _ _ _ us hl => match us, hl with | [_, _, _], _ => rfl
  have F_plain_under : FF_plain_under K f_plain_under _ := ⟨⟨_, _, _, _, _, _, _, _, _, _, rfl, l_plain_under, c_plain_under, .inl ⟨rfl, rfl⟩, .inl rfl⟩, k_plain_under⟩
  have b_plain_under := F_plain_under.bindsN (ps := ["sides", "tool", "place"]) fun _ _ _ _ _ _ us hl => match us, hl with | [_, _, _], _ => rfl
  have F_plain_ring : FF_plain_ring K f_plain_ring _ := ⟨⟨_, _, _, _, _, _, _, _, _, _, rfl, l_plain_ring, c_plain_ring, .inl ⟨rfl, rfl⟩, .inl rfl⟩, k_plain_ring⟩
  have b_plain_ring := F_plain_ring.bindsN (ps := ["sides", "tool", "place"]) fun _ _ _ _ _ _ us hl => match us, hl with | [_, _, _], _ => rfl
  have F_plain_places : FF_plain_places K f_plain_places _ := ⟨⟨_, _, _, _, _, _, _, _, _, _, rfl, l_plain_places, c_plain_places, .inl ⟨rfl, rfl⟩, .inl rfl⟩, k_plain_places⟩
  have b_plain_places := F_plain_places.bindsN (ps := ["sides", "tool"]) fun _ _ _ _ _ _ us hl => match us, hl with | [_, _], _ => rfl
  have F_Seat_init : FF_Seat_init K f_Seat_init _ := ⟨⟨_, _, _, _, _, _, _, _, _, _, rfl, l_Seat_init, c_Seat_init, .inl ⟨rfl, rfl⟩, .inl rfl⟩, k_Seat_init⟩
  have F_seats_of : FF_seats_of K f_seats_of _ := ⟨⟨_, _, _, _, _, _, _, _, _, _, rfl, l_seats_of, c_seats_of, .inl ⟨rfl, rfl⟩, .inl rfl⟩, k_seats_of⟩
  have b_seats_of := F_seats_of.bindsN (ps := ["field", "tools"]) fun _ _ _ _ _ _ us hl => match us, hl with | [_, _], _ => rfl
  have F_Seat_lowest_by : FF_Seat_lowest_by K f_Seat_lowest_by _ := ⟨⟨_, _, _, _, _, _, _, _, _, _, rfl, l_Seat_lowest_by, c_Seat_lowest_by, .inl ⟨rfl, rfl⟩, .inl rfl⟩, k_Seat_lowest_by⟩
  have F_after_round : FF_after_round K f_after_round _ := ⟨⟨_, _, _, _, _, _, _, _, _, _, rfl, l_after_round, c_after_round, .inl ⟨rfl, rfl⟩, .inl rfl⟩, k_after_round⟩
  have b_after_round := F_after_round.bindsN (ps := ["field", "seats", "stock"]) fun _ _ _ _ _ _ us hl => match us, hl with | [_, _, _], _ => rfl
  have F_steady : FF_steady K f_steady _ := ⟨⟨_, _, _, _, _, _, _, _, _, _, rfl, l_steady, c_steady, .inl ⟨rfl, rfl⟩, .inl rfl⟩, k_steady⟩
  have b_steady := F_steady.bindsN (ps := ["field", "tools"]) fun _ _ _ _ _ _ us hl => match us, hl with | [_, _], _ => rfl
  have F_reached : FF_reached K f_reached _ := ⟨⟨_, _, _, _, _, _, _, _, _, _, rfl, l_reached, c_reached, .inl ⟨rfl, rfl⟩, .inl rfl⟩, k_reached⟩
  have b_reached := F_reached.bindsN (ps := ["field", "tools"]) fun _ _ _ _ _ _ us hl => match us, hl with | [_, _], _ => rfl
  have F_law_mixed : FF_law_mixed K f_law_mixed _ := ⟨⟨_, _, _, _, _, _, _, _, _, _, rfl, l_law_mixed, c_law_mixed, .inl ⟨rfl, rfl⟩, .inl rfl⟩, k_law_mixed⟩
  have b_law_mixed := F_law_mixed.bindsN (ps := ["cell", "k"]) fun _ _ _ _ _ _ us hl => match us, hl with | [_, _], _ => rfl
  have F_law_draw : FF_law_draw K f_law_draw _ := ⟨⟨_, _, _, _, _, _, _, _, _, _, rfl, l_law_draw, c_law_draw, .inl ⟨rfl, rfl⟩, .inl rfl⟩, k_law_draw⟩
  have b_law_draw := F_law_draw.bindsN (ps := ["cell", "k"]) fun _ _ _ _ _ _ us hl => match us, hl with | [_, _], _ => rfl
  have F_law_digit : FF_law_digit K f_law_digit _ := ⟨⟨_, _, _, _, _, _, _, _, _, _, rfl, l_law_digit, c_law_digit, .inl ⟨rfl, rfl⟩, .inl rfl⟩, k_law_digit⟩
  have b_law_digit := F_law_digit.bindsN (ps := ["state", "many"]) fun _ _ _ _ _ _ us hl => match us, hl with | [_, _], _ => rfl
  have F_law_a_field : FF_law_a_field K f_law_a_field _ := ⟨⟨_, _, _, _, _, _, _, _, _, _, rfl, l_law_a_field, c_law_a_field, .inl ⟨rfl, rfl⟩, .inl rfl⟩, k_law_a_field⟩
  have b_law_a_field := F_law_a_field.bindsN (ps := ["state", "most"]) fun _ _ _ _ _ _ us hl => match us, hl with | [_, _], _ => rfl
  have F_law_some_tools : FF_law_some_tools K f_law_some_tools _ := ⟨⟨_, _, _, _, _, _, _, _, _, _, rfl, l_law_some_tools, c_law_some_tools, .inl ⟨rfl, rfl⟩, .inl rfl⟩, k_law_some_tools⟩
  have b_law_some_tools := F_law_some_tools.bindsN (ps := ["state", "most"]) fun _ _ _ _ _ _ us hl => match us, hl with | [_, _], _ => rfl
  have F_law_cells : FF_law_cells K f_law_cells _ := ⟨⟨_, _, _, _, _, _, _, _, _, _, rfl, l_law_cells, c_law_cells, .inl ⟨rfl, rfl⟩, .inl rfl⟩, k_law_cells⟩
  have b_law_cells := F_law_cells.bindsN (ps := ["field"]) fun _ _ _ _ _ _ us hl => match us, hl with | [_], _ => rfl
  have F_law_spots : FF_law_spots K f_law_spots _ := ⟨⟨_, _, _, _, _, _, _, _, _, _, rfl, l_law_spots, c_law_spots, .inl ⟨rfl, rfl⟩, .inl rfl⟩, k_law_spots⟩
  have b_law_spots := F_law_spots.bindsN (ps := ["field", "side"]) fun _ _ _ _ _ _ us hl => match us, hl with | [_, _], _ => rfl
  have F_law_near : FF_law_near K f_law_near _ := ⟨⟨_, _, _, _, _, _, _, _, _, _, rfl, l_law_near, c_law_near, .inl ⟨rfl, rfl⟩, .inl rfl⟩, k_law_near⟩
  have b_law_near := F_law_near.bindsN (ps := ["field", "spot", "side", "more"]) fun _ _ _ _ _ _ us hl => match us, hl with | [_, _, _, _], _ => rfl
  have F_law_aim : FF_law_aim K f_law_aim _ := ⟨⟨_, _, _, _, _, _, _, _, _, _, rfl, l_law_aim, c_law_aim, .inl ⟨rfl, rfl⟩, .inl rfl⟩, k_law_aim⟩
  have b_law_aim := F_law_aim.bindsN (ps := ["field", "cell"]) fun _ _ _ _ _ _ us hl => match us, hl with | [_, _], _ => rfl
  have F_law_low : FF_law_low K f_law_low _ := ⟨⟨_, _, _, _, _, _, _, _, _, _, rfl, l_law_low, c_law_low, .inl ⟨rfl, rfl⟩, .inl rfl⟩, k_law_low⟩
  have b_law_low := F_law_low.bindsN (ps := ["field", "heights", "one", "spot"]) fun _ _ _ _ _ _ us hl => match us, hl with | [_, _, _, _], _ => rfl
  have F_law_full : FF_law_full K f_law_full _ := ⟨⟨_, _, _, _, _, _, _, _, _, _, rfl, l_law_full, c_law_full, .inl ⟨rfl, rfl⟩, .inl rfl⟩, k_law_full⟩
  have b_law_full := F_law_full.bindsN (ps := ["field"]) fun _ _ _ _ _ _ us hl => match us, hl with | [_], _ => rfl
  have F_law_cut : FF_law_cut K f_law_cut _ := ⟨⟨_, _, _, _, _, _, _, _, _, _, rfl, l_law_cut, c_law_cut, .inl ⟨rfl, rfl⟩, .inl rfl⟩, k_law_cut⟩
  have b_law_cut := F_law_cut.bindsN (ps := ["field", "heights", "stand"]) fun _ _ _ _ _ _ us hl => match us, hl with | [_, _, _], _ => rfl
  have F_law_as_field : FF_law_as_field K f_law_as_field _ := ⟨⟨_, _, _, _, _, _, _, _, _, _, rfl, l_law_as_field, c_law_as_field, .inl ⟨rfl, rfl⟩, .inl rfl⟩, k_law_as_field⟩
  have b_law_as_field := F_law_as_field.bindsN (ps := ["field", "heights"]) fun _ _ _ _ _ _ us hl => match us, hl with | [_, _], _ => rfl
  have F_law_all_stands : FF_law_all_stands K f_law_all_stands _ := ⟨⟨_, _, _, _, _, _, _, _, _, _, rfl, l_law_all_stands, c_law_all_stands, .inl ⟨rfl, rfl⟩, .inl rfl⟩, k_law_all_stands⟩
  have b_law_all_stands := F_law_all_stands.bindsN (ps := ["field", "tools"]) fun _ _ _ _ _ _ us hl => match us, hl with | [_, _], _ => rfl
  have F_law_round : FF_law_round K f_law_round _ := ⟨⟨_, _, _, _, _, _, _, _, _, _, rfl, l_law_round, c_law_round, .inl ⟨rfl, rfl⟩, .inl rfl⟩, k_law_round⟩
  have b_law_round := F_law_round.bindsN (ps := ["field", "heights", "tools"]) fun _ _ _ _ _ _ us hl => match us, hl with | [_, _, _], _ => rfl
  have F_law : FF_law K fa _ := ⟨⟨_, _, _, _, _, _, _, _, _, _, rfl, l_law, c_law, .inl ⟨rfl, rfl⟩, .inl rfl⟩, k_law⟩
  have b_law := F_law.bindsN (ps := ["script"]) fun _ _ _ _ _ _ us hl => match us, hl with | [_], _ => rfl
  refine ⟨_, ff_law (⟨C_Seat, Pl.isaOf K, Pl.okfOf K, Pl.okgOf K⟩ : CT), fun s v => F_law.bindsA (ps := ["script"]) (fun _ _ _ _ _ _ us hl => match us, hl with | [_], _ => rfl) s [v] rfl, fun base _ _ => ?_, Law.truth (⟨C_Seat, Pl.isaOf K, Pl.okfOf K, Pl.okgOf K⟩ : CT) ⟨⟩⟩
  have O_is_whole := ok_is_whole (P := l.prog) (w := w) (base := base) T  F_is_whole
  have L_is_whole : Lk l.prog w K mg base "is_whole" 1 ["thing"] ff_is_whole := ⟨_, _, O_is_whole, PySem.W.mg_of X G a_is_whole, k_is_whole, b_is_whole⟩
  have O_is_among := ok_is_among (P := l.prog) (w := w) (base := base) T L_is_whole F_is_among
  have L_is_among : Lk l.prog w K mg base "is_among" 2 ["thing", "least", "most"] ff_is_among := ⟨_, _, O_is_among, PySem.W.mg_of X G a_is_among, k_is_among, b_is_among⟩
  have O_need_field := ok_need_field (P := l.prog) (w := w) (base := base) T L_is_among F_need_field
  have L_need_field : Lk l.prog w K mg base "need_field" 3 ["field"] ff_need_field := ⟨_, _, O_need_field, PySem.W.mg_of X G a_need_field, k_need_field, b_need_field⟩
  have O_plain_sides := ok_plain_sides (P := l.prog) (w := w) (base := base) T  F_plain_sides
  have L_plain_sides : Lk l.prog w K mg base "plain_sides" 1 ["field"] ff_plain_sides := ⟨_, _, O_plain_sides, PySem.W.mg_of X G a_plain_sides, k_plain_sides, b_plain_sides⟩
  have O_cells_of := ok_cells_of (P := l.prog) (w := w) (base := base) T L_plain_sides F_cells_of
  have L_cells_of : Lk l.prog w K mg base "cells_of" 2 ["field"] ff_cells_of := ⟨_, _, O_cells_of, PySem.W.mg_of X G a_cells_of, k_cells_of, b_cells_of⟩
  have O_height_of := ok_height_of (P := l.prog) (w := w) (base := base) T  F_height_of
  have L_height_of : Lk l.prog w K mg base "height_of" 1 ["field", "cell"] ff_height_of := ⟨_, _, O_height_of, PySem.W.mg_of X G a_height_of, k_height_of, b_height_of⟩
  have O_heights_of := ok_heights_of (P := l.prog) (w := w) (base := base) T L_cells_of L_height_of F_heights_of
  have L_heights_of : Lk l.prog w K mg base "heights_of" 3 ["field"] ff_heights_of := ⟨_, _, O_heights_of, PySem.W.mg_of X G a_heights_of, k_heights_of, b_heights_of⟩
  have O_field_by := ok_field_by (P := l.prog) (w := w) (base := base) T L_plain_sides F_field_by
  have L_field_by : Lk l.prog w K mg base "field_by" 2 ["field", "heights"] ff_field_by := ⟨_, _, O_field_by, PySem.W.mg_of X G a_field_by, k_field_by, b_field_by⟩
  have O_is_tool := ok_is_tool (P := l.prog) (w := w) (base := base) T L_is_among F_is_tool
  have L_is_tool : Lk l.prog w K mg base "is_tool" 3 ["thing"] ff_is_tool := ⟨_, _, O_is_tool, PySem.W.mg_of X G a_is_tool, k_is_tool, b_is_tool⟩
  have O_need_tools := ok_need_tools (P := l.prog) (w := w) (base := base) T L_is_tool F_need_tools
  have L_need_tools : Lk l.prog w K mg base "need_tools" 4 ["tools"] ff_need_tools := ⟨_, _, O_need_tools, PySem.W.mg_of X G a_need_tools, k_need_tools, b_need_tools⟩
  have O_solid := ok_solid (P := l.prog) (w := w) (base := base) T L_need_field F_solid
  have L_solid : Lk l.prog w K mg base "solid" 4 ["field"] ff_solid := ⟨_, _, O_solid, PySem.W.mg_of X G a_solid, k_solid, b_solid⟩
  have O_cells_between := ok_cells_between (P := l.prog) (w := w) (base := base) T  F_cells_between
  have L_cells_between : Lk l.prog w K mg base "_cells_between" 1 ["sides", "first", "last"] ff_cells_between := ⟨_, _, O_cells_between, PySem.W.mg_of X G a_cells_between, k_cells_between, b_cells_between⟩
  have O_plain_under := ok_plain_under (P := l.prog) (w := w) (base := base) T L_cells_between F_plain_under
  have L_plain_under : Lk l.prog w K mg base "plain_under" 2 ["sides", "tool", "place"] ff_plain_under := ⟨_, _, O_plain_under, PySem.W.mg_of X G a_plain_under, k_plain_under, b_plain_under⟩
  have O_plain_ring := ok_plain_ring (P := l.prog) (w := w) (base := base) T L_plain_under L_cells_between F_plain_ring
  have L_plain_ring : Lk l.prog w K mg base "plain_ring" 3 ["sides", "tool", "place"] ff_plain_ring := ⟨_, _, O_plain_ring, PySem.W.mg_of X G a_plain_ring, k_plain_ring, b_plain_ring⟩
  have O_plain_places := ok_plain_places (P := l.prog) (w := w) (base := base) T  F_plain_places
  have L_plain_places : Lk l.prog w K mg base "plain_places" 1 ["sides", "tool"] ff_plain_places := ⟨_, _, O_plain_places, PySem.W.mg_of X G a_plain_places, k_plain_places, b_plain_places⟩
  have O_Seat_init := ok_Seat_init (P := l.prog) (w := w) (base := base) T L_plain_sides L_plain_under L_plain_ring L_height_of F_Seat_init
  have C_Seat_3 : LkC l.prog w K mg base "Seat" C_Seat 4 ["self", "field", "tool", "place"] (ff_Seat_init (⟨C_Seat, Pl.isaOf K, Pl.okfOf K, Pl.okgOf K⟩ : CT)) [] := ⟨⟨_, _, [], [], ⟨mk_Seat, ii_Seat, fi_Seat, ke_Seat⟩, O_Seat_init, PySem.W.mg_of X G a_Seat, .nil, F_Seat_init.bindsN (ps := ["self", "field", "tool", "place"]) (fun _ _ _ _ _ _ us hl => match us, hl with | [_, _, _, _], _ => rfl), fun _ _ => .nil⟩⟩
  have O_seats_of := ok_seats_of (P := l.prog) (w := w) (base := base) T L_plain_sides L_plain_places C_Seat_3 F_seats_of
  have L_seats_of : Lk l.prog w K mg base "seats_of" 6 ["field", "tools"] (ff_seats_of _) := ⟨_, _, O_seats_of, PySem.W.mg_of X G a_seats_of, k_seats_of, b_seats_of⟩
  have O_Seat_lowest_by := ok_Seat_lowest_by (P := l.prog) (w := w) (base := base) T  F_Seat_lowest_by
  have M_Seat_lowest_by_1 : LkM l.prog w K mg base C_Seat "lowest_by" 1 ["self", "heights"] (ff_Seat_lowest_by (⟨C_Seat, Pl.isaOf K, Pl.okfOf K, Pl.okgOf K⟩ : CT)) [] := ⟨⟨_, _, [], [], ⟨pg_Seat, hi_Seat, po_Seat, sa_Seat⟩, ⟨mm_Seat_lowest_by, mf_Seat_lowest_by, k_Seat_lowest_by⟩, O_Seat_lowest_by, .nil, F_Seat_lowest_by.bindsN (ps := ["self", "heights"]) (fun _ _ _ _ _ _ us hl => match us, hl with | [_, _], _ => rfl), fun _ _ => .nil⟩⟩
  have O_after_round := ok_after_round (P := l.prog) (w := w) (base := base) T L_heights_of L_field_by M_Seat_lowest_by_1 F_after_round
  have L_after_round : Lk l.prog w K mg base "after_round" 4 ["field", "seats", "stock"] (ff_after_round _) := ⟨_, _, O_after_round, PySem.W.mg_of X G a_after_round, k_after_round, b_after_round⟩
  have O_steady := ok_steady (P := l.prog) (w := w) (base := base) T L_need_field L_need_tools L_seats_of L_solid L_after_round F_steady
  have L_steady : Lk l.prog w K mg base "steady" 7 ["field", "tools"] (ff_steady _) := ⟨_, _, O_steady, PySem.W.mg_of X G a_steady, k_steady, b_steady⟩
  have O_reached := ok_reached (P := l.prog) (w := w) (base := base) T L_steady F_reached
  have L_reached : Lk l.prog w K mg base "reached" 8 ["field", "tools"] (ff_reached _) := ⟨_, _, O_reached, PySem.W.mg_of X G a_reached, k_reached, b_reached⟩
  have O_law_mixed := ok_law_mixed (P := l.prog) (w := w) (base := base) T  F_law_mixed
  have L_law_mixed : Lk l.prog w K mg base "_law_mixed" 1 ["cell", "k"] ff_law_mixed := ⟨_, _, O_law_mixed, PySem.W.mg_of X G a_law_mixed, k_law_mixed, b_law_mixed⟩
  have O_law_draw := ok_law_draw (P := l.prog) (w := w) (base := base) T  F_law_draw
  have L_law_draw : Lk l.prog w K mg base "_law_draw" 1 ["cell", "k"] ff_law_draw := ⟨_, _, O_law_draw, PySem.W.mg_of X G a_law_draw, k_law_draw, b_law_draw⟩
  have O_law_digit := ok_law_digit (P := l.prog) (w := w) (base := base) T L_law_mixed F_law_digit
  have L_law_digit : Lk l.prog w K mg base "_law_digit" 2 ["state", "many"] ff_law_digit := ⟨_, _, O_law_digit, PySem.W.mg_of X G a_law_digit, k_law_digit, b_law_digit⟩
  have O_law_a_field := ok_law_a_field (P := l.prog) (w := w) (base := base) T L_law_digit F_law_a_field
  have L_law_a_field : Lk l.prog w K mg base "_law_a_field" 3 ["state", "most"] ff_law_a_field := ⟨_, _, O_law_a_field, PySem.W.mg_of X G a_law_a_field, k_law_a_field, b_law_a_field⟩
  have O_law_some_tools := ok_law_some_tools (P := l.prog) (w := w) (base := base) T L_law_digit F_law_some_tools
  have L_law_some_tools : Lk l.prog w K mg base "_law_some_tools" 3 ["state", "most"] ff_law_some_tools := ⟨_, _, O_law_some_tools, PySem.W.mg_of X G a_law_some_tools, k_law_some_tools, b_law_some_tools⟩
  have O_law_cells := ok_law_cells (P := l.prog) (w := w) (base := base) T  F_law_cells
  have L_law_cells : Lk l.prog w K mg base "_law_cells" 1 ["field"] ff_law_cells := ⟨_, _, O_law_cells, PySem.W.mg_of X G a_law_cells, k_law_cells, b_law_cells⟩
  have O_law_spots := ok_law_spots (P := l.prog) (w := w) (base := base) T  F_law_spots
  have L_law_spots : Lk l.prog w K mg base "_law_spots" 1 ["field", "side"] ff_law_spots := ⟨_, _, O_law_spots, PySem.W.mg_of X G a_law_spots, k_law_spots, b_law_spots⟩
  have O_law_near := ok_law_near (P := l.prog) (w := w) (base := base) T L_law_cells F_law_near
  have L_law_near : Lk l.prog w K mg base "_law_near" 2 ["field", "spot", "side", "more"] ff_law_near := ⟨_, _, O_law_near, PySem.W.mg_of X G a_law_near, k_law_near, b_law_near⟩
  have O_law_aim := ok_law_aim (P := l.prog) (w := w) (base := base) T  F_law_aim
  have L_law_aim : Lk l.prog w K mg base "_law_aim" 1 ["field", "cell"] ff_law_aim := ⟨_, _, O_law_aim, PySem.W.mg_of X G a_law_aim, k_law_aim, b_law_aim⟩
  have O_law_low := ok_law_low (P := l.prog) (w := w) (base := base) T L_law_near L_law_aim F_law_low
  have L_law_low : Lk l.prog w K mg base "_law_low" 3 ["field", "heights", "one", "spot"] ff_law_low := ⟨_, _, O_law_low, PySem.W.mg_of X G a_law_low, k_law_low, b_law_low⟩
  have O_law_full := ok_law_full (P := l.prog) (w := w) (base := base) T L_law_cells F_law_full
  have L_law_full : Lk l.prog w K mg base "_law_full" 2 ["field"] ff_law_full := ⟨_, _, O_law_full, PySem.W.mg_of X G a_law_full, k_law_full, b_law_full⟩
  have O_law_cut := ok_law_cut (P := l.prog) (w := w) (base := base) T L_law_near F_law_cut
  have L_law_cut : Lk l.prog w K mg base "_law_cut" 3 ["field", "heights", "stand"] ff_law_cut := ⟨_, _, O_law_cut, PySem.W.mg_of X G a_law_cut, k_law_cut, b_law_cut⟩
  have O_law_as_field := ok_law_as_field (P := l.prog) (w := w) (base := base) T  F_law_as_field
  have L_law_as_field : Lk l.prog w K mg base "_law_as_field" 1 ["field", "heights"] ff_law_as_field := ⟨_, _, O_law_as_field, PySem.W.mg_of X G a_law_as_field, k_law_as_field, b_law_as_field⟩
  have O_law_all_stands := ok_law_all_stands (P := l.prog) (w := w) (base := base) T L_law_spots F_law_all_stands
  have L_law_all_stands : Lk l.prog w K mg base "_law_all_stands" 2 ["field", "tools"] ff_law_all_stands := ⟨_, _, O_law_all_stands, PySem.W.mg_of X G a_law_all_stands, k_law_all_stands, b_law_all_stands⟩
  have O_law_round := ok_law_round (P := l.prog) (w := w) (base := base) T L_law_all_stands L_law_low L_law_cut F_law_round
  have L_law_round : Lk l.prog w K mg base "_law_round" 4 ["field", "heights", "tools"] ff_law_round := ⟨_, _, O_law_round, PySem.W.mg_of X G a_law_round, k_law_round, b_law_round⟩
  have O_law := ok_law (P := l.prog) (w := w) (base := base) T L_law_draw L_law_some_tools L_law_a_field L_law_full L_law_round L_steady L_law_as_field L_reached F_law
  exact O_law
end Law
open PySem PySem.W PyProof.Rows
set_option maxRecDepth 100000 in
set_option maxHeartbeats 0 in
theorem PySem.Challenge.cw_panelworks_k42_reached_round_by_round_holds : PySem.Challenge.rw_panelworks_k42_reached_round_by_round.Holds := by
  w_on; o_law; k_head; (case hw => w_witness2)
  k_fill
  refine Pl.walk_ofX (l := PySem.Challenge.rw_panelworks_k42_reached_round_by_round) (n := 63) (k := 9) (x := "script") rfl (by decide) rfl ⟨rfl, by decide, by decide⟩ (fun w h Y => PySem.W.kIn_of Y) ?F
  case F =>
    intro w mg fa h KX G hmg
    refine' Law.all_mk KX G hmg ?q_z_int ?q_z_isinstance ?q_z_bool ?q_z_tuple ?q_z_len ?q_z_enumerate ?q_z_all ?q_z_range ?q_z_min ?q_z_max ?q_z_dict ?q_z_list ?q_z_repr ?q_g_MOST_HIGH ?q_g_MOST_SIDE ?q_g_MOST_TOOL ?q_g_MOST_LENGTH ?q_g_MOST_TOOLS ?q_a_Seat ?q_q5_ ?q_q6_ ?q_pg_Seat ?q_hi_Seat ?q_po_Seat ?q_sa_Seat ?q_na_tool_Seat ?q_na_place_Seat ?q_na_under_Seat ?q_na_ring_Seat ?q_na_floor_Seat ?q_mk_Seat ?q_ii_Seat ?q_fi_Seat ?q_ke_Seat ?q_mm_Seat_lowest_by ?q_mf_Seat_lowest_by ?q_a_is_whole ?q_l_is_whole ?q_c_is_whole ?q_k_is_whole ?q_a_is_among ?q_l_is_among ?q_c_is_among ?q_k_is_among ?q_a_need_field ?q_l_need_field ?q_c_need_field ?q_k_need_field ?q_a_plain_sides ?q_l_plain_sides ?q_c_plain_sides ?q_k_plain_sides ?q_a_cells_of ?q_l_cells_of ?q_c_cells_of ?q_k_cells_of ?q_a_height_of ?q_l_height_of ?q_c_height_of ?q_k_height_of ?q_a_heights_of ?q_l_heights_of ?q_c_heights_of ?q_k_heights_of ?q_a_field_by ?q_l_field_by ?q_c_field_by ?q_k_field_by ?q_a_is_tool ?q_l_is_tool ?q_c_is_tool ?q_k_is_tool ?q_a_need_tools ?q_l_need_tools ?q_c_need_tools ?q_k_need_tools ?q_a_solid ?q_l_solid ?q_c_solid ?q_k_solid ?q_a_cells_between ?q_l_cells_between ?q_c_cells_between ?q_k_cells_between ?q_a_plain_under ?q_l_plain_under ?q_c_plain_under ?q_k_plain_under ?q_a_plain_ring ?q_l_plain_ring ?q_c_plain_ring ?q_k_plain_ring ?q_a_plain_places ?q_l_plain_places ?q_c_plain_places ?q_k_plain_places ?q_l_Seat_init ?q_c_Seat_init ?q_k_Seat_init ?q_a_seats_of ?q_l_seats_of ?q_c_seats_of ?q_k_seats_of ?q_l_Seat_lowest_by ?q_c_Seat_lowest_by ?q_k_Seat_lowest_by ?q_a_after_round ?q_l_after_round ?q_c_after_round ?q_k_after_round ?q_a_steady ?q_l_steady ?q_c_steady ?q_k_steady ?q_a_reached ?q_l_reached ?q_c_reached ?q_k_reached ?q_a_law_mixed ?q_l_law_mixed ?q_c_law_mixed ?q_k_law_mixed ?q_a_law_draw ?q_l_law_draw ?q_c_law_draw ?q_k_law_draw ?q_a_law_digit ?q_l_law_digit ?q_c_law_digit ?q_k_law_digit ?q_a_law_a_field ?q_l_law_a_field ?q_c_law_a_field ?q_k_law_a_field ?q_a_law_some_tools ?q_l_law_some_tools ?q_c_law_some_tools ?q_k_law_some_tools ?q_a_law_cells ?q_l_law_cells ?q_c_law_cells ?q_k_law_cells ?q_a_law_spots ?q_l_law_spots ?q_c_law_spots ?q_k_law_spots ?q_a_law_near ?q_l_law_near ?q_c_law_near ?q_k_law_near ?q_a_law_aim ?q_l_law_aim ?q_c_law_aim ?q_k_law_aim ?q_a_law_low ?q_l_law_low ?q_c_law_low ?q_k_law_low ?q_a_law_full ?q_l_law_full ?q_c_law_full ?q_k_law_full ?q_a_law_cut ?q_l_law_cut ?q_c_law_cut ?q_k_law_cut ?q_a_law_as_field ?q_l_law_as_field ?q_c_law_as_field ?q_k_law_as_field ?q_a_law_all_stands ?q_l_law_all_stands ?q_c_law_all_stands ?q_k_law_all_stands ?q_a_law_round ?q_l_law_round ?q_c_law_round ?q_k_law_round ?q_a_law ?q_l_law ?q_c_law ?q_k_law
    (case q_z_int => k_is)
    (case q_z_isinstance => k_is)
    (case q_z_bool => k_is)
    (case q_z_tuple => k_is)
    (case q_z_len => k_is)
    (case q_z_enumerate => k_is)
    (case q_z_all => k_is)
    (case q_z_range => k_is)
    (case q_z_min => k_is)
    (case q_z_max => k_is)
    (case q_z_dict => k_is)
    (case q_z_list => k_is)
    (case q_z_repr => k_is)
    (case q_g_MOST_HIGH => k_is)
    (case q_g_MOST_SIDE => k_is)
    (case q_g_MOST_TOOL => k_is)
    (case q_g_MOST_LENGTH => k_is)
    (case q_g_MOST_TOOLS => k_is)
    (case q_a_Seat => k_is)
    (case q_q5_ => k_is)
    (case q_q6_ => k_is)
    (case q_pg_Seat => k_is)
    (case q_hi_Seat => k_is)
    (case q_po_Seat => k_is)
    (case q_sa_Seat => k_is)
    (case q_na_tool_Seat => k_is)
    (case q_na_place_Seat => k_is)
    (case q_na_under_Seat => k_is)
    (case q_na_ring_Seat => k_is)
    (case q_na_floor_Seat => k_is)
    (case q_mk_Seat => k_is)
    (case q_ii_Seat => k_is)
    (case q_fi_Seat => k_is)
    (case q_ke_Seat => k_is)
    (case q_mm_Seat_lowest_by => k_is)
    (case q_mf_Seat_lowest_by => k_is)
    (case q_a_is_whole => k_is)
    (case q_l_is_whole => k_is)
    (case q_c_is_whole => k_is)
    (case q_k_is_whole => k_is)
    (case q_a_is_among => k_is)
    (case q_l_is_among => k_is)
    (case q_c_is_among => k_is)
    (case q_k_is_among => k_is)
    (case q_a_need_field => k_is)
    (case q_l_need_field => k_is)
    (case q_c_need_field => k_is)
    (case q_k_need_field => k_is)
    (case q_a_plain_sides => k_is)
    (case q_l_plain_sides => k_is)
    (case q_c_plain_sides => k_is)
    (case q_k_plain_sides => k_is)
    (case q_a_cells_of => k_is)
    (case q_l_cells_of => k_is)
    (case q_c_cells_of => k_is)
    (case q_k_cells_of => k_is)
    (case q_a_height_of => k_is)
    (case q_l_height_of => k_is)
    (case q_c_height_of => k_is)
    (case q_k_height_of => k_is)
    (case q_a_heights_of => k_is)
    (case q_l_heights_of => k_is)
    (case q_c_heights_of => k_is)
    (case q_k_heights_of => k_is)
    (case q_a_field_by => k_is)
    (case q_l_field_by => k_is)
    (case q_c_field_by => k_is)
    (case q_k_field_by => k_is)
    (case q_a_is_tool => k_is)
    (case q_l_is_tool => k_is)
    (case q_c_is_tool => k_is)
    (case q_k_is_tool => k_is)
    (case q_a_need_tools => k_is)
    (case q_l_need_tools => k_is)
    (case q_c_need_tools => k_is)
    (case q_k_need_tools => k_is)
    (case q_a_solid => k_is)
    (case q_l_solid => k_is)
    (case q_c_solid => k_is)
    (case q_k_solid => k_is)
    (case q_a_cells_between => k_is)
    (case q_l_cells_between => k_is)
    (case q_c_cells_between => k_is)
    (case q_k_cells_between => k_is)
    (case q_a_plain_under => k_is)
    (case q_l_plain_under => k_is)
    (case q_c_plain_under => k_is)
    (case q_k_plain_under => k_is)
    (case q_a_plain_ring => k_is)
    (case q_l_plain_ring => k_is)
    (case q_c_plain_ring => k_is)
    (case q_k_plain_ring => k_is)
    (case q_a_plain_places => k_is)
    (case q_l_plain_places => k_is)
    (case q_c_plain_places => k_is)
    (case q_k_plain_places => k_is)
    (case q_l_Seat_init => k_is)
    (case q_c_Seat_init => k_is)
    (case q_k_Seat_init => k_is)
    (case q_a_seats_of => k_is)
    (case q_l_seats_of => k_is)
    (case q_c_seats_of => k_is)
    (case q_k_seats_of => k_is)
    (case q_l_Seat_lowest_by => k_is)
    (case q_c_Seat_lowest_by => k_is)
    (case q_k_Seat_lowest_by => k_is)
    (case q_a_after_round => k_is)
    (case q_l_after_round => k_is)
    (case q_c_after_round => k_is)
    (case q_k_after_round => k_is)
    (case q_a_steady => k_is)
    (case q_l_steady => k_is)
    (case q_c_steady => k_is)
    (case q_k_steady => k_is)
    (case q_a_reached => k_is)
    (case q_l_reached => k_is)
    (case q_c_reached => k_is)
    (case q_k_reached => k_is)
    (case q_a_law_mixed => k_is)
    (case q_l_law_mixed => k_is)
    (case q_c_law_mixed => k_is)
    (case q_k_law_mixed => k_is)
    (case q_a_law_draw => k_is)
    (case q_l_law_draw => k_is)
    (case q_c_law_draw => k_is)
    (case q_k_law_draw => k_is)
    (case q_a_law_digit => k_is)
    (case q_l_law_digit => k_is)
    (case q_c_law_digit => k_is)
    (case q_k_law_digit => k_is)
    (case q_a_law_a_field => k_is)
    (case q_l_law_a_field => k_is)
    (case q_c_law_a_field => k_is)
    (case q_k_law_a_field => k_is)
    (case q_a_law_some_tools => k_is)
    (case q_l_law_some_tools => k_is)
    (case q_c_law_some_tools => k_is)
    (case q_k_law_some_tools => k_is)
    (case q_a_law_cells => k_is)
    (case q_l_law_cells => k_is)
    (case q_c_law_cells => k_is)
    (case q_k_law_cells => k_is)
    (case q_a_law_spots => k_is)
    (case q_l_law_spots => k_is)
    (case q_c_law_spots => k_is)
    (case q_k_law_spots => k_is)
    (case q_a_law_near => k_is)
    (case q_l_law_near => k_is)
    (case q_c_law_near => k_is)
    (case q_k_law_near => k_is)
    (case q_a_law_aim => k_is)
    (case q_l_law_aim => k_is)
    (case q_c_law_aim => k_is)
    (case q_k_law_aim => k_is)
    (case q_a_law_low => k_is)
    (case q_l_law_low => k_is)
    (case q_c_law_low => k_is)
    (case q_k_law_low => k_is)
    (case q_a_law_full => k_is)
    (case q_l_law_full => k_is)
    (case q_c_law_full => k_is)
    (case q_k_law_full => k_is)
    (case q_a_law_cut => k_is)
    (case q_l_law_cut => k_is)
    (case q_c_law_cut => k_is)
    (case q_k_law_cut => k_is)
    (case q_a_law_as_field => k_is)
    (case q_l_law_as_field => k_is)
    (case q_c_law_as_field => k_is)
    (case q_k_law_as_field => k_is)
    (case q_a_law_all_stands => k_is)
    (case q_l_law_all_stands => k_is)
    (case q_c_law_all_stands => k_is)
    (case q_k_law_all_stands => k_is)
    (case q_a_law_round => k_is)
    (case q_l_law_round => k_is)
    (case q_c_law_round => k_is)
    (case q_k_law_round => k_is)
    (case q_a_law => k_is)
    (case q_l_law => k_is)
    (case q_c_law => k_is)
    (case q_k_law => k_is)
