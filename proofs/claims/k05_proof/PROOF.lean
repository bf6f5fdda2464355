import PyProof.Rows.All
import Wide.All
import OpenK.AllK
import Wide.FinOn
import HandS.ForMost
import HandS.IsInst
import HandS.Replace
import HandS.Flow
import PySem.Challenge.RW_rulescan_k05_words
set_option Elab.async false
set_option linter.all false
set_option maxRecDepth 100000
set_option maxHeartbeats 4000000
/-! A layer without a heap: data, slots, and what a reading does to them. -/
namespace Ab
open PySem PySem.Spec PyProof.Rows L2

/-- a text from its signs -/
abbrev sOf (s : List Nat) : Str := ⟨s.toArray⟩
/-- data -/
inductive D where
  | non | bl (b : Bool) | int (i : Int) | str (s : List Nat) | lst (ds : List D) | tup (ds : List D)

mutual
inductive RD (K : PySem.W.Frag) (G : Hp) : V → D → Prop
  | non : RD K G .non .non
  | bl {b : Bool} : RD K G (.bl b) (.bl b)
  | int {i : Int} : RD K G (.int i) (.int i)
  | str {s : List Nat} : RD K G (.str (sOf s)) (.str s)
  | lst {a : Addr} {xs : List V} {ds : List D} : G a = some (.lst xs) → RDs K G xs ds → RD K G (.ref a) (.lst ds)
  | tup {a : Addr} {xs : List V} {ds : List D} : SqT K G a xs → RDs K G xs ds → RD K G (.ref a) (.tup ds)
inductive RDs (K : PySem.W.Frag) (G : Hp) : List V → List D → Prop
  | nil : RDs K G [] []
  | cons {v : V} {vs : List V} {d : D} {ds : List D} : RD K G v d → RDs K G vs ds → RDs K G (v :: vs) (d :: ds)
end

theorem seqT {K : PySem.W.Frag} {H H' : Hp} {a : Addr} {xs : List V} (e : Same H H') (h : SqT K H a xs) : SqT K H' a xs := by
  rcases h with (h | ⟨o, h⟩) | h
  · exact .inl (.inl (e _ _ h))
  · exact .inl (.inr ⟨o, e _ _ h⟩)
  · exact .inr h
mutual
theorem RD.mono {K : PySem.W.Frag} {G G' : Hp} (e : Same G G') : ∀ {v : V} {d : D}, RD K G v d → RD K G' v d
  | _, _, .non => .non
  | _, _, .bl => .bl
  | _, _, .int => .int
  | _, _, .str => .str
  | _, _, .lst h r => .lst (e _ _ h) (RDs.mono e r)
  | _, _, .tup h r => .tup (seqT e h) (RDs.mono e r)
theorem RDs.mono {K : PySem.W.Frag} {G G' : Hp} (e : Same G G') : ∀ {v : List V} {d : List D}, RDs K G v d → RDs K G' v d
  | _, _, .nil => .nil
  | _, _, .cons h r => .cons (RD.mono e h) (RDs.mono e r)
end
theorem RDs.length {K : PySem.W.Frag} {G : Hp} : ∀ {xs : List V} {ds : List D}, RDs K G xs ds → xs.length = ds.length
  | _, _, .nil => rfl
  | _, _, .cons _ r => by rw [List.length_cons, List.length_cons, RDs.length r]
theorem RDs.get {K : PySem.W.Frag} {G : Hp} : ∀ {xs : List V} {ds : List D} {i : Nat} {d : D}, RDs K G xs ds → ds[i]? = some d → ∃ v, xs[i]? = some v ∧ RD K G v d
  | _, _, _, _, .nil, h => by simp at h
  | _, _, 0, _, .cons a _, h => by
    simp at h
    subst h
    exact ⟨_, rfl, a⟩
  | _, _, i + 1, _, .cons _ r, h => by
    obtain ⟨v, h1, h2⟩ := RDs.get (i := i) r (by simpa using h)
    exact ⟨v, by simpa using h1, h2⟩
theorem RDs.get' {K : PySem.W.Frag} {G : Hp} : ∀ {xs : List V} {ds : List D} {i : Nat} {v : V}, RDs K G xs ds → xs[i]? = some v → ∃ d, ds[i]? = some d ∧ RD K G v d
  | _, _, _, _, .nil, h => by simp at h
  | _, _, 0, _, .cons a _, h => by
    simp at h
    subst h
    exact ⟨_, rfl, a⟩
  | _, _, i + 1, _, .cons _ r, h => by
    obtain ⟨v, h1, h2⟩ := RDs.get' (i := i) r (by simpa using h)
    exact ⟨v, by simpa using h1, h2⟩
theorem RDs.append {K : PySem.W.Frag} {G : Hp} : ∀ {xs ys : List V} {ds es : List D}, RDs K G xs ds → RDs K G ys es → RDs K G (xs ++ ys) (ds ++ es)
  | _, _, _, _, .nil, s => s
  | _, _, _, _, .cons a r, s => .cons a (RDs.append r s)
theorem RDs.take {K : PySem.W.Frag} {G : Hp} : ∀ (n : Nat) {xs : List V} {ds : List D}, RDs K G xs ds → RDs K G (xs.take n) (ds.take n)
  | 0, _, _, _ => .nil
  | _ + 1, _, _, .nil => .nil
  | n + 1, _, _, .cons a r => .cons a (RDs.take n r)
theorem RDs.drop {K : PySem.W.Frag} {G : Hp} : ∀ (n : Nat) {xs : List V} {ds : List D}, RDs K G xs ds → RDs K G (xs.drop n) (ds.drop n)
  | 0, _, _, r => r
  | _ + 1, _, _, .nil => .nil
  | n + 1, _, _, .cons _ r => RDs.drop n r
theorem RDs.set {K : PySem.W.Frag} {G : Hp} {v : V} {d : D} (h : RD K G v d) : ∀ (i : Nat) {xs : List V} {ds : List D}, RDs K G xs ds → RDs K G (xs.set i v) (ds.set i d)
  | _, _, _, .nil => .nil
  | 0, _, _, .cons _ r => .cons h r
  | i + 1, _, _, .cons a r => .cons a (RDs.set h i r)
theorem RDs.dropLast {K : PySem.W.Frag} {G : Hp} {xs : List V} {ds : List D} (h : RDs K G xs ds) : RDs K G xs.dropLast ds.dropLast := by
  rw [List.dropLast_eq_take, List.dropLast_eq_take, h.length]
  exact h.take _

/-! ### slots -/
inductive A where
  | no
  | d (x : D)
  | o (k : Nat)
  | p (φ : V → Hp → Prop)
structure Env where
  s : List A
  m : List (Option (List D))
structure Bs where
  G : Hp
  H : Hp
  ow : List Addr
def RepV (K : PySem.W.Frag) (G : Hp) (ad : List Addr) (v : V) : A → Prop
  | .no => True
  | .d x => RD K G v x
  | .o k => ∃ l, ad[k]? = some l ∧ v = .ref l
  | .p φ => ∀ G', Same G G' → φ v G'
theorem RepV.mono {K : PySem.W.Frag} {G G' : Hp} {ad : List Addr} {v : V} {a : A} (e : Same G G') (h : RepV K G ad v a) : RepV K G' ad v a := by
  cases a with
  | no => trivial
  | d x => exact RD.mono e h
  | o k => exact h
  | p φ => exact fun G2 e2 => h G2 (e.trans e2)
theorem RepV.pre {K : PySem.W.Frag} {G : Hp} {ad ad' : List Addr} {v : V} {a : A} (e : ad <+: ad') (h : RepV K G ad v a) : RepV K G ad' v a := by
  cases a with
  | no => trivial
  | d x => exact h
  | o k =>
    obtain ⟨l, h1, h2⟩ := h
    obtain ⟨t, rfl⟩ := e
    have hk : k < ad.length := (List.getElem?_eq_some_iff.mp h1).1
    exact ⟨l, by rw [List.getElem?_append_left hk]; exact h1, h2⟩
  | p φ => exact h
/-- all given values -/
inductive RepVs (K : PySem.W.Frag) (G : Hp) (ad : List Addr) : List V → List A → Prop
  | nil : RepVs K G ad [] []
  | cons {v : V} {vs : List V} {a : A} {as : List A} : RepV K G ad v a → RepVs K G ad vs as → RepVs K G ad (v :: vs) (a :: as)
theorem RepVs.mono {K : PySem.W.Frag} {G G' : Hp} {ad : List Addr} (e : Same G G') : ∀ {vs : List V} {as : List A}, RepVs K G ad vs as → RepVs K G' ad vs as
  | _, _, .nil => .nil
  | _, _, .cons h r => .cons (h.mono e) (r.mono e)
theorem RepVs.length {K : PySem.W.Frag} {G : Hp} {ad : List Addr} : ∀ {vs : List V} {as : List A}, RepVs K G ad vs as → vs.length = as.length
  | _, _, .nil => rfl
  | _, _, .cons _ r => by rw [List.length_cons, List.length_cons, RepVs.length r]
theorem RepVs.get {K : PySem.W.Frag} {G : Hp} {ad : List Addr} : ∀ {vs : List V} {as : List A} {i : Nat} {a : A}, RepVs K G ad vs as → as[i]? = some a → ∃ v, vs[i]? = some v ∧ RepV K G ad v a
  | _, _, _, _, .nil, h => by simp at h
  | _, _, 0, _, .cons h _, e => by
    simp at e
    subst e
    exact ⟨_, rfl, h⟩
  | _, _, i + 1, _, .cons _ r, e => by
    obtain ⟨v, h1, h2⟩ := RepVs.get (i := i) r (by simpa using e)
    exact ⟨v, by simpa using h1, h2⟩

/-- nothing of the heap is changed; the data grow -/
structure Xt (G H G' H' : Hp) : Prop where
  gg : Same G G'
  gh : Same G' H'
  hh : Same H H'
  fr : ∀ a, G' a ≠ none → G a ≠ none ∨ H a = none
theorem same_new {H : Hp} {p : Addr} {o : HO} (h : H p = none) : Same H (upd H p o) := fun b x e => by
  rw [upd_ne (ne_of_none e h)]
  exact e
theorem Same.none {H H' : Hp} (e : Same H H') {l : Addr} (h : H' l = none) : H l = none := e.free h
theorem Xt.refl {G H : Hp} (e : Same G H) : Xt G H G H := ⟨Same.refl _, e, Same.refl _, fun _ h => .inl h⟩
theorem Xt.trans {G H G1 H1 G2 H2 : Hp} (a : Xt G H G1 H1) (b : Xt G1 H1 G2 H2) : Xt G H G2 H2 :=
  ⟨a.gg.trans b.gg, b.gh, a.hh.trans b.hh, fun l h => by
    rcases b.fr l h with h | h
    · exact a.fr l h
    · exact .inr (Same.none a.hh h)⟩
/-- a new thing that is kept | that is let go -/
theorem Xt.new {G H : Hp} {p : Addr} {o : HO} (e : Same G H) (h : H p = none) : Xt G H (upd G p o) (upd H p o) :=
  ⟨same_new (Same.none e h), fun b x q => by
    by_cases hb : b = p
    · subst hb
      rw [upd_same] at q ⊢
      exact q
    · rw [upd_ne hb] at q ⊢
      exact e _ _ q, same_new h, fun a q => by
    by_cases hb : a = p
    · subst hb
      exact .inr h
    · rw [upd_ne hb] at q
      exact .inl q⟩
theorem Xt.drop {G H : Hp} {p : Addr} {o : HO} (e : Same G H) (h : H p = none) : Xt G H G (upd H p o) :=
  ⟨Same.refl _, e.trans (same_new h), same_new h, fun _ q => .inl q⟩
/-- what is held only by H stays out of the data -/
theorem Xt.out {G H G' H' : Hp} (x : Xt G H G' H') {l : Addr} {o : HO} (h : G l = none) (ho : H l = some o) : G' l = none := by
  cases q : G' l with
  | none => rfl
  | some u =>
    rcases x.fr l (by rw [q]; exact fun z => nomatch z) with h1 | h1
    · exact absurd h h1
    · rw [ho] at h1
      cases h1
/-- the data as they were, too -/
theorem Xt.back {G H G' H' : Hp} (x : Xt G H G' H') (e : Same G H) : Xt G H G H' := ⟨Same.refl _, e.trans x.hh, x.hh, fun _ h => .inl h⟩

structure Rep (K : PySem.W.Frag) (B : Bs) (e : Env) (σ : L2.St) (G H : Hp) (ad : List Addr) : Prop where
  bg : Same B.G G
  gh : Same G H
  fr : ∀ a, G a ≠ none → B.G a ≠ none ∨ B.H a = none
  kp : ∀ a o, B.H a = some o → a ∉ B.ow → H a = some o
  nn : ∀ a, B.H a ≠ none → H a ≠ none
  al : ad.length = e.m.length
  nd : ad.Nodup
  ah : ∀ l, l ∈ ad → H l ≠ none
  ow : B.ow <+: ad
  op : ∀ (k : Nat) (l : Addr) (ds : List D), ad[k]? = some l → e.m[k]? = some (some ds) → G l = none ∧ (l ∈ B.ow ∨ B.H l = none) ∧ ∃ vs, H l = some (.lst vs) ∧ RDs K G vs ds
  sl : σ.length = e.s.length
  st : ∀ (i : Nat) (a : A), e.s[i]? = some a → a = .no ∨ ∃ v, σ[i]? = some (some v) ∧ RepV K G ad v a
section
variable {K : PySem.W.Frag} {B : Bs} {e : Env} {σ : L2.St} {G H G' H' : Hp} {ad : List Addr}
theorem Rep.ext (r : Rep K B e σ G H ad) (x : Xt G H G' H') : Rep K B e σ G' H' ad where
  bg := r.bg.trans x.gg
  gh := x.gh
  fr := fun a h => by
    rcases x.fr a h with q | q
    · exact r.fr a q
    · refine .inr ?_
      cases z : B.H a with
      | none => rfl
      | some o => exact absurd q (r.nn a (by rw [z]; exact fun y => nomatch y))
  kp := fun a o h n => x.hh _ _ (r.kp a o h n)
  nn := fun a h => by
    have q := r.nn a h
    cases z : H a with
    | none => exact absurd z q
    | some o =>
      rw [x.hh _ _ z]
      exact fun y => nomatch y
  al := r.al
  nd := r.nd
  ah := fun l h => by
    have q := r.ah l h
    cases z : H l with
    | none => exact absurd z q
    | some o =>
      rw [x.hh _ _ z]
      exact fun y => nomatch y
  ow := r.ow
  op := fun k l ds h1 h2 => by
    obtain ⟨a, b, vs, c, d⟩ := r.op k l ds h1 h2
    exact ⟨x.out a c, b, vs, x.hh _ _ c, d.mono x.gg⟩
  sl := r.sl
  st := fun i a h => by
    rcases r.st i a h with q | ⟨v, q1, q2⟩
    · exact .inl q
    · exact .inr ⟨v, q1, q2.mono x.gg⟩
end

/-! ### what readings do -/
section
variable (K : PySem.W.Frag)
/-- an expression without effect: its value -/
def AE (te : TE) (e : Env) (a : A) : Prop := ∀ (B : Bs) (σ : L2.St) (G H : Hp) (ad : List Addr), Rep K B e σ G H ad → ∀ C : VK, (∀ v G' H', Xt G H G' H' → RepV K G' ad v a → C v H') → te σ H C
/-- a new list -/
def AN (te : TE) (e : Env) (ds : List D) : Prop := ∀ (B : Bs) (σ : L2.St) (G H : Hp) (ad : List Addr), Rep K B e σ G H ad → ∀ C : VK,
  (∀ p vs G' H', Xt G H G' H' → H p = none → G' p = none → H' p = some (.lst vs) → RDs K G' vs ds → C (.ref p) H') → te σ H C
/-- a test -/
def AT (tt : TT) (e : Env) (b : Bool) : Prop := ∀ (B : Bs) (σ : L2.St) (G H : Hp) (ad : List Addr), Rep K B e σ G H ad → ∀ C : Bool → Hp → Prop, (∀ G' H', Xt G H G' H' → C b H') → tt σ H C
/-- arguments -/
def AL (ta : TA) (e : Env) (as : List A) : Prop := ∀ (B : Bs) (σ : L2.St) (G H : Hp) (ad : List Addr), Rep K B e σ G H ad → ∀ C : List V → Hp → Prop, (∀ vs G' H', Xt G H G' H' → RepVs K G' ad vs as → C vs H') → ta σ H C
/-- by values: two, one, a list, a method -/
def A2 (r : R2) (x y : A) (e : Env) (z : A) : Prop := ∀ (B : Bs) (σ : L2.St) (G H : Hp) (ad : List Addr), Rep K B e σ G H ad → ∀ v w, RepV K G ad v x → RepV K G ad w y → ∀ C : VK, (∀ v G' H', Xt G H G' H' → RepV K G' ad v z → C v H') → r v w H C
def A1 (r : V → Hp → VK → Prop) (x : A) (e : Env) (z : A) : Prop := ∀ (B : Bs) (σ : L2.St) (G H : Hp) (ad : List Addr), Rep K B e σ G H ad → ∀ v, RepV K G ad v x → ∀ C : VK, (∀ v G' H', Xt G H G' H' → RepV K G' ad v z → C v H') → r v H C
def AC (r : List V → Hp → VK → Prop) (xs : List A) (e : Env) (z : A) : Prop := ∀ (B : Bs) (σ : L2.St) (G H : Hp) (ad : List Addr), Rep K B e σ G H ad → ∀ vs, RepVs K G ad vs xs → ∀ C : VK, (∀ v G' H', Xt G H G' H' → RepV K G' ad v z → C v H') → r vs H C
def AM (r : V → List V → Hp → VK → Prop) (x : A) (xs : List A) (e : Env) (z : A) : Prop := ∀ (B : Bs) (σ : L2.St) (G H : Hp) (ad : List Addr), Rep K B e σ G H ad → ∀ v vs, RepV K G ad v x → RepVs K G ad vs xs → ∀ C : VK, (∀ v G' H', Xt G H G' H' → RepV K G' ad v z → C v H') → r v vs H C
/-- the same, the value a new list -/
def N2 (r : R2) (x y : A) (e : Env) (ds : List D) : Prop := ∀ (B : Bs) (σ : L2.St) (G H : Hp) (ad : List Addr), Rep K B e σ G H ad → ∀ v w, RepV K G ad v x → RepV K G ad w y → ∀ C : VK,
  (∀ p vs G' H', Xt G H G' H' → H p = none → G' p = none → H' p = some (.lst vs) → RDs K G' vs ds → C (.ref p) H') → r v w H C
def NC (r : List V → Hp → VK → Prop) (xs : List A) (e : Env) (ds : List D) : Prop := ∀ (B : Bs) (σ : L2.St) (G H : Hp) (ad : List Addr), Rep K B e σ G H ad → ∀ vs, RepVs K G ad vs xs → ∀ C : VK,
  (∀ p vs G' H', Xt G H G' H' → H p = none → G' p = none → H' p = some (.lst vs) → RDs K G' vs ds → C (.ref p) H') → r vs H C
/-- an expression with effect: what holds of its value and the slots behind it -/
def AX (te : TE) (e : Env) (Q : A → Env → Prop) : Prop := ∀ (B : Bs) (σ : L2.St) (G H : Hp) (ad : List Addr), Rep K B e σ G H ad → ∀ C : VK,
  (∀ a e' v G' H' ad', Q a e' → Same G G' → ad <+: ad' → Rep K B e' σ G' H' ad' → RepV K G' ad' v a → C v H') → te σ H C
/-- the same, several -/
def AXL (ta : TA) (e : Env) (Q : List A → Env → Prop) : Prop := ∀ (B : Bs) (σ : L2.St) (G H : Hp) (ad : List Addr), Rep K B e σ G H ad → ∀ C : List V → Hp → Prop,
  (∀ as e' vs G' H' ad', Q as e' → Same G G' → ad <+: ad' → Rep K B e' σ G' H' ad' → RepVs K G' ad' vs as → C vs H') → ta σ H C
/-- a target -/
def AG (g : TG) (a : A) (e : Env) (Q : Env → Prop) : Prop := ∀ (B : Bs) (σ : L2.St) (G H : Hp) (ad : List Addr), Rep K B e σ G H ad → ∀ v, RepV K G ad v a → ∀ C : L2.St → Hp → Prop,
  (∀ e' σ' G' H' ad', Q e' → Rep K B e' σ' G' H' ad' → C σ' H') → g v σ H C
structure AEnds where
  nx : Env → Prop
  rt : A → Env → Prop
  bk : Env → Prop := fun _ => False
  ct : Env → Prop := fun _ => False
structure Co (B : Bs) (D : AEnds) (C : Ends) : Prop where
  nx : ∀ e σ G H ad, D.nx e → Rep K B e σ G H ad → C.nx σ H
  rt : ∀ a e v σ G H ad, D.rt a e → Rep K B e σ G H ad → RepV K G ad v a → C.rt v H
  bk : ∀ e σ G H ad, D.bk e → Rep K B e σ G H ad → C.bk σ H
  ct : ∀ e σ G H ad, D.ct e → Rep K B e σ G H ad → C.ct σ H
/-- a statement; w: how many of the own lists are the caller's -/
def AS (w : Nat) (t : TS) (D : AEnds) (e : Env) : Prop := ∀ (B : Bs), B.ow.length = w → ∀ C : Ends, Co K B D C → ∀ (σ : L2.St) (G H : Hp) (ad : List Addr), Rep K B e σ G H ad → t C σ H
end

section
variable {K : PySem.W.Frag} {e : Env} {ta tb te : TE} {x y z a b : A} {r : R2} {ds : List D}
theorem AE.ax {Q : A → Env → Prop} (h : AE K te e a) (q : Q a e) : AX K te e Q := fun B σ G H ad R C c =>
  h B σ G H ad R C fun v G' H' X rv => c a e v G' H' ad q X.gg (List.prefix_refl _) (R.ext X) rv
theorem AE.eq (h : AE K te e a) (q : a = b) : AE K te e b := q ▸ h
theorem AN.eq {es : List D} (h : AN K te e ds) (q : ds = es) : AN K te e es := q ▸ h
/-- a new list as data -/
theorem AN.ae (h : AN K te e ds) : AE K te e (.d (.lst ds)) := fun B σ G H ad R C c =>
  h B σ G H ad R C fun p vs G' H' X hp gp hq rd => c (.ref p) (upd G' p (.lst vs)) H' ⟨X.gg.trans (same_new gp), fun b o q => by
      by_cases hb : b = p
      · subst hb
        rw [upd_same] at q
        rw [hq]
        exact q
      · rw [upd_ne hb] at q
        exact X.gh _ _ q, X.hh, fun b q => by
      by_cases hb : b = p
      · subst hb
        exact .inr hp
      · rw [upd_ne hb] at q
        exact X.fr b q⟩ (.lst upd_same (rd.mono (same_new gp)))

/-! ### expressions -/
theorem ae_var {i : Nat} (h : e.s[i]? = some a) (hn : (match a with | .no => false | _ => true) = true) : AE K (tVar i) e a := fun B σ G H ad R C c => by
  rcases R.st i a h with rfl | ⟨v, h1, h2⟩
  · cases hn
  · exact ⟨v, h1, c v G H (Xt.refl R.gh) h2⟩
theorem ae_int {i : Int} : AE K (tC (.int i)) e (.d (.int i)) := fun B σ G H ad R C c => c _ G H (Xt.refl R.gh) RD.int
theorem ae_bl {i : Bool} : AE K (tC (.bl i)) e (.d (.bl i)) := fun B σ G H ad R C c => c _ G H (Xt.refl R.gh) RD.bl
theorem ae_non : AE K (tC .non) e (.d .non) := fun B σ G H ad R C c => c _ G H (Xt.refl R.gh) RD.non
theorem ae_str {z : Str} {s : List Nat} (h : z.cps.toList = s := by rfl) : AE K (tC (.str z)) e (.d (.str s)) := fun B σ G H ad R C c => c _ G H (Xt.refl R.gh) (by
  subst h
  exact RD.str (s := z.cps.toList))
theorem ae_op (ha : AE K ta e x) (hb : AE K tb e y) (hr : A2 K r x y e z) : AE K (tOp r ta tb) e z := fun B σ G H ad R C c =>
  ha B σ G H ad R _ fun v G1 H1 X1 r1 => hb B σ G1 H1 ad (R.ext X1) _ fun w G2 H2 X2 r2 =>
    hr B σ G2 H2 ad ((R.ext X1).ext X2) v w (r1.mono X2.gg) r2 C fun u G3 H3 X3 r3 => c u G3 H3 ((X1.trans X2).trans X3) r3
theorem an_op (ha : AE K ta e x) (hb : AE K tb e y) (hr : N2 K r x y e ds) : AN K (tOp r ta tb) e ds := fun B σ G H ad R C c =>
  ha B σ G H ad R _ fun v G1 H1 X1 r1 => hb B σ G1 H1 ad (R.ext X1) _ fun w G2 H2 X2 r2 =>
    hr B σ G2 H2 ad ((R.ext X1).ext X2) v w (r1.mono X2.gg) r2 C fun p vs G3 H3 X3 hp gp hq r3 => c p vs G3 H3 ((X1.trans X2).trans X3) (Same.none (X1.hh.trans X2.hh) hp) gp hq r3
theorem ae_un {q : V → Hp → VK → Prop} (ha : AE K ta e x) (hr : A1 K q x e z) : AE K (tUn q ta) e z := fun B σ G H ad R C c =>
  ha B σ G H ad R _ fun v G1 H1 X1 r1 => hr B σ G1 H1 ad (R.ext X1) v r1 C fun u G3 H3 X3 r3 => c u G3 H3 (X1.trans X3) r3
theorem al_nil : AL K tNil e [] := fun B σ G H ad R C c => c [] G H (Xt.refl R.gh) .nil
theorem al_cons {tr : TA} {as : List A} (h : AE K te e a) (hr : AL K tr e as) : AL K (tCons te tr) e (a :: as) := fun B σ G H ad R C c =>
  h B σ G H ad R _ fun v G1 H1 X1 r1 => hr B σ G1 H1 ad (R.ext X1) _ fun vs G2 H2 X2 r2 => c (v :: vs) G2 H2 (X1.trans X2) (.cons (r1.mono X2.gg) r2)
theorem ae_cb {q : List V → Hp → VK → Prop} {t : TA} {as : List A} (h : AL K t e as) (hr : AC K q as e z) : AE K (tCB q t) e z := fun B σ G H ad R C c =>
  h B σ G H ad R _ fun vs G1 H1 X1 r1 => hr B σ G1 H1 ad (R.ext X1) vs r1 C fun u G3 H3 X3 r3 => c u G3 H3 (X1.trans X3) r3
theorem an_cb {q : List V → Hp → VK → Prop} {t : TA} {as : List A} (h : AL K t e as) (hr : NC K q as e ds) : AN K (tCB q t) e ds := fun B σ G H ad R C c =>
  h B σ G H ad R _ fun vs G1 H1 X1 r1 => hr B σ G1 H1 ad (R.ext X1) vs r1 C fun p vs G3 H3 X3 hp gp hq r3 => c p vs G3 H3 (X1.trans X3) (Same.none X1.hh hp) gp hq r3

/-- all of them data -/
theorem RepVs.toRDs {G : Hp} {ad : List Addr} : ∀ {vs : List V} {ds : List D}, RepVs K G ad vs (ds.map .d) → RDs K G vs ds
  | _, [], .nil => .nil
  | _, _ :: _, .cons h r => .cons h (RepVs.toRDs r)
theorem RepVs.of {G : Hp} {ad : List Addr} : ∀ {vs : List V} {ds : List D}, RDs K G vs ds → RepVs K G ad vs (ds.map .d)
  | _, _, .nil => .nil
  | _, _, .cons h r => .cons h (RepVs.of r)
theorem sz_of {n : Nat} (h : n ≤ 1000000) : n ≤ sizeLine := Nat.le_trans h (by decide)
theorem sz_lt {n : Nat} (h : n < 1000000) : n < sizeLine := Nat.lt_of_lt_of_le h (by decide)
theorem an_lst {t : TA} {as : List A} (h : AL K t e as) (hd : as = ds.map .d := by rfl) (hl : ds.length ≤ 1000000 := by decide) : AN K (tLst t) e ds := fun B σ G H ad R C c => by
  subst hd
  refine h B σ G H ad R _ fun vs G1 H1 X1 r1 => ⟨sz_of ?_, fun p hp => ?_⟩
  · have := r1.length
    rw [List.length_map] at this
    omega
  · exact c p vs G1 (upd H1 p (.lst vs)) (X1.trans (Xt.drop X1.gh hp)) (Same.none X1.hh hp) (Same.none X1.gh hp) upd_same r1.toRDs
theorem ae_tup {t : TA} {as : List A} (h : AL K t e as) (hd : as = ds.map .d := by rfl) (hl : ds.length ≤ 1000000 := by decide) : AE K (tTup t) e (.d (.tup ds)) := fun B σ G H ad R C c => by
  subst hd
  refine h B σ G H ad R _ fun vs G1 H1 X1 r1 => ⟨sz_of ?_, fun p hp => ?_⟩
  · have := r1.length
    rw [List.length_map] at this
    omega
  · have X2 := Xt.new (o := .tup vs) X1.gh hp
    exact c (.ref p) _ _ (X1.trans X2) (RD.tup (.inl (.inl upd_same)) (r1.toRDs.mono X2.gg))

/-! ### tests -/
theorem at_val {i : Bool} (h : AE K te e (.d (.bl i))) : AT K (tTest te) e i := fun B σ G H ad R C c =>
  h B σ G H ad R _ fun v G1 H1 X1 r1 => by
    cases r1
    exact ⟨i, rfl, c G1 H1 X1⟩
theorem at_B {i : Bool} (h : AE K te e (.d (.bl i))) : AT K (tB te) e i := fun B σ G H ad R C c =>
  h B σ G H ad R _ fun v G1 H1 X1 r1 => by
    cases r1
    exact ⟨i, rfl, c G1 H1 X1⟩
theorem at_and {t u : TT} {i j : Bool} (h1 : AT K t e i) (h2 : i = true → AT K u e j) : AT K (tAnd t u) e (i && j) := fun B σ G H ad R C c =>
  h1 B σ G H ad R _ fun G1 H1 X1 => by
    cases i with
    | true => exact h2 rfl B σ G1 H1 ad (R.ext X1) C fun G2 H2 X2 => c G2 H2 (X1.trans X2)
    | false => exact c G1 H1 X1
theorem at_or {t u : TT} {i j : Bool} (h1 : AT K t e i) (h2 : i = false → AT K u e j) : AT K (tOr t u) e (i || j) := fun B σ G H ad R C c =>
  h1 B σ G H ad R _ fun G1 H1 X1 => by
    cases i with
    | true => exact c G1 H1 X1
    | false => exact h2 rfl B σ G1 H1 ad (R.ext X1) C fun G2 H2 X2 => c G2 H2 (X1.trans X2)
theorem at_not {t : TT} {i : Bool} (h1 : AT K t e i) : AT K (tNot t) e (!i) := fun B σ G H ad R C c =>
  h1 B σ G H ad R _ fun G1 H1 X1 => c G1 H1 X1
theorem AT.eq {t : TT} {i j : Bool} (h : AT K t e i) (q : i = j) : AT K t e j := q ▸ h
theorem ae_andV {i : Bool} {z : A} (h1 : AE K ta e (.d (.bl i))) (h2 : i = true → AE K tb e z) (h3 : i = false → z = .d (.bl false)) : AE K (tAndV ta tb) e z := fun B σ G H ad R C c =>
  h1 B σ G H ad R _ fun v G1 H1 X1 r1 => by
    cases r1
    refine ⟨i, rfl, ?_⟩
    cases i with
    | true => exact h2 rfl B σ G1 H1 ad (R.ext X1) C fun v G2 H2 X2 r2 => c v G2 H2 (X1.trans X2) r2
    | false =>
      have q := c (.bl false) G1 H1 X1
      rw [h3 rfl] at q
      exact q RD.bl
theorem ae_orV {i : Bool} {z : A} (h1 : AE K ta e (.d (.bl i))) (h2 : i = false → AE K tb e z) (h3 : i = true → z = .d (.bl true)) : AE K (tOrV ta tb) e z := fun B σ G H ad R C c =>
  h1 B σ G H ad R _ fun v G1 H1 X1 r1 => by
    cases r1
    refine ⟨i, rfl, ?_⟩
    cases i with
    | false => exact h2 rfl B σ G1 H1 ad (R.ext X1) C fun v G2 H2 X2 r2 => c v G2 H2 (X1.trans X2) r2
    | true =>
      have q := c (.bl true) G1 H1 X1
      rw [h3 rfl] at q
      exact q RD.bl
theorem ae_notV {i : Bool} (h1 : AE K ta e (.d (.bl i))) : AE K (tNotV ta) e (.d (.bl (!i))) := fun B σ G H ad R C c =>
  h1 B σ G H ad R _ fun v G1 H1 X1 r1 => by
    cases r1
    exact ⟨i, rfl, c _ G1 H1 X1 RD.bl⟩
theorem ae_and2 {i j : Bool} (h1 : AE K ta e (.d (.bl i))) (h2 : i = true → AE K tb e (.d (.bl j))) : AE K (tAndV ta tb) e (.d (.bl (i && j))) :=
  ae_andV h1 (fun h => by rw [h]; exact h2 h) (fun h => by rw [h]; rfl)
theorem ae_or2 {i j : Bool} (h1 : AE K ta e (.d (.bl i))) (h2 : i = false → AE K tb e (.d (.bl j))) : AE K (tOrV ta tb) e (.d (.bl (i || j))) :=
  ae_orV h1 (fun h => by rw [h]; exact h2 h) (fun h => by rw [h]; rfl)
theorem ae_if {t : TT} {i : Bool} (h : AT K t e i) (h1 : i = true → AE K ta e a) (h2 : i = false → AE K tb e a) : AE K (tIf t ta tb) e a := fun B σ G H ad R C c =>
  h B σ G H ad R _ fun G1 H1 X1 => by
    cases i with
    | true => exact h1 rfl B σ G1 H1 ad (R.ext X1) C fun v G2 H2 X2 r2 => c v G2 H2 (X1.trans X2) r2
    | false => exact h2 rfl B σ G1 H1 ad (R.ext X1) C fun v G2 H2 X2 r2 => c v G2 H2 (X1.trans X2) r2
theorem ae_ifD {t : TT} {i : Bool} {p q : D} (h : AT K t e i) (h1 : i = true → AE K ta e (.d p)) (h2 : i = false → AE K tb e (.d q)) : AE K (tIf t ta tb) e (.d (if i = true then p else q)) :=
  ae_if h (fun z => by rw [if_pos z]; exact h1 z) (fun z => by rw [if_neg (by rw [z]; exact Bool.false_ne_true)]; exact h2 z)
end
end Ab
namespace Ab
open PySem PySem.Spec PyProof.Rows L2

/-! ### slots changed -/
def Env.set (e : Env) (i : Nat) (a : A) : Env := ⟨e.s.set i a, e.m⟩
def Env.put (e : Env) (k : Nat) (ds : List D) : Env := ⟨e.s, e.m.set k (some ds)⟩
def Env.add (e : Env) (ds : List D) : Env := ⟨e.s, e.m ++ [some ds]⟩
def Env.new (e : Env) (i : Nat) (ds : List D) : Env := ⟨e.s.set i (.o e.m.length), e.m ++ [some ds]⟩
def frzA (k : Nat) (ds : List D) : A → A
  | .o j => if j = k then .d (.lst ds) else .o j
  | a => a
def Env.frz (e : Env) (k : Nat) (ds : List D) : Env := ⟨e.s.map (frzA k ds), e.m.set k none⟩
/-- what is known less -/
def Wk : List A → List A → Prop
  | [], [] => True
  | a :: r, b :: s => (b = .no ∨ a = b) ∧ Wk r s
  | _, _ => False
structure Le (e e' : Env) : Prop where
  s : Wk e.s e'.s
  m : e.m = e'.m
theorem Wk.refl : ∀ l : List A, Wk l l
  | [] => trivial
  | _ :: r => ⟨.inr rfl, Wk.refl r⟩
theorem Le.refl (e : Env) : Le e e := ⟨Wk.refl _, rfl⟩
theorem Wk.trans : ∀ {a b c : List A}, Wk a b → Wk b c → Wk a c
  | [], [], [], _, _ => trivial
  | _ :: _, _ :: _, _ :: _, h, g => ⟨by
    rcases g.1 with q | q
    · exact .inl q
    · rcases h.1 with p | p
      · exact .inl (q ▸ p)
      · exact .inr (p.trans q), Wk.trans h.2 g.2⟩
theorem Le.trans {a b c : Env} (h : Le a b) (g : Le b c) : Le a c := ⟨h.s.trans g.s, h.m.trans g.m⟩
theorem Wk.len : ∀ {a b : List A}, Wk a b → a.length = b.length
  | [], [], _ => rfl
  | _ :: _, _ :: _, h => by rw [List.length_cons, List.length_cons, Wk.len h.2]
theorem Wk.get : ∀ {a b : List A} {i : Nat} {y : A}, Wk a b → b[i]? = some y → y = .no ∨ a[i]? = some y
  | [], [], _, _, _, h => by simp at h
  | x :: r, z :: s, 0, y, g, h => by
    simp at h
    subst h
    rcases g.1 with q | q
    · exact .inl q
    · exact .inr (by rw [q]; rfl)
  | x :: r, z :: s, i + 1, y, g, h => by
    have := Wk.get (i := i) (y := y) g.2 (by simpa using h)
    simpa using this
theorem Wk.set {x : A} : ∀ {a b : List A} (i : Nat), Wk a b → Wk (a.set i x) (b.set i x)
  | [], [], _, _ => trivial
  | _ :: _, _ :: _, 0, h => ⟨.inr rfl, h.2⟩
  | _ :: _, _ :: _, i + 1, h => ⟨h.1, Wk.set i h.2⟩
theorem Le.set {e e' : Env} (h : Le e e') (i : Nat) (x : A) : Le (e.set i x) (e'.set i x) := ⟨h.s.set i, h.m⟩
theorem Rep.le {K : PySem.W.Frag} {B : Bs} {e e' : Env} {σ : L2.St} {G H : Hp} {ad : List Addr} (r : Rep K B e σ G H ad) (h : Le e e') : Rep K B e' σ G H ad where
  bg := r.bg
  gh := r.gh
  fr := r.fr
  kp := r.kp
  nn := r.nn
  al := by rw [r.al, h.m]
  nd := r.nd
  ah := r.ah
  ow := r.ow
  op := by rw [← h.m]; exact r.op
  sl := by rw [r.sl, h.s.len]
  st := fun i a q => by
    rcases h.s.get q with z | z
    · exact .inl z
    · exact r.st i a z
theorem Rep.set {K : PySem.W.Frag} {B : Bs} {e : Env} {σ : L2.St} {G H : Hp} {ad : List Addr} (r : Rep K B e σ G H ad) {i : Nat} {a : A} {v : V} (h : RepV K G ad v a) : Rep K B (e.set i a) (σ.set i (some v)) G H ad where
  bg := r.bg
  gh := r.gh
  fr := r.fr
  kp := r.kp
  nn := r.nn
  al := r.al
  nd := r.nd
  ah := r.ah
  ow := r.ow
  op := r.op
  sl := by
    show (σ.set i (some v)).length = (e.s.set i a).length
    rw [List.length_set, List.length_set, r.sl]
  st := fun j b q => by
    have q : (e.s.set i a)[j]? = some b := q
    by_cases hj : i = j
    · subst hj
      have hl : i < e.s.length := by
        have := (List.getElem?_eq_some_iff.mp q).1
        rwa [List.length_set] at this
      rw [List.getElem?_set_self hl] at q
      cases q
      exact .inr ⟨v, by rw [List.getElem?_set_self (by rw [r.sl]; exact hl)], h⟩
    · rw [List.getElem?_set_ne hj] at q
      rcases r.st j b q with z | ⟨w, z1, z2⟩
      · exact .inl z
      · exact .inr ⟨w, by rw [List.getElem?_set_ne hj]; exact z1, z2⟩
/-- another own list -/
theorem Rep.add {K : PySem.W.Frag} {B : Bs} {e : Env} {σ : L2.St} {G H : Hp} {ad : List Addr} (r : Rep K B e σ G H ad) {p : Addr} {vs : List V} {ds : List D} (hp : G p = none) (hb : B.H p = none) (na : p ∉ ad) (hq : H p = some (.lst vs)) (rd : RDs K G vs ds) :
    Rep K B (e.add ds) σ G H (ad ++ [p]) where
  bg := r.bg
  gh := r.gh
  fr := r.fr
  kp := r.kp
  nn := r.nn
  al := by
    show (ad ++ [p]).length = (e.m ++ [some ds]).length
    rw [List.length_append, List.length_append, r.al]
    rfl
  nd := by
    refine List.nodup_append.mpr ⟨r.nd, (by simp), fun a ha b hb' => ?_⟩
    rw [List.mem_singleton.mp hb']
    rintro rfl
    exact na ha
  ah := fun l h => by
    rcases List.mem_append.mp h with q | q
    · exact r.ah l q
    · rw [List.mem_singleton.mp q, hq]
      exact fun y => nomatch y
  ow := r.ow.trans (List.prefix_append _ _)
  op := fun k l es h1 h2 => by
    have h2 : (e.m ++ [some ds])[k]? = some (some es) := h2
    by_cases hk : k < ad.length
    · rw [List.getElem?_append_left hk] at h1
      rw [List.getElem?_append_left (by rw [← r.al]; exact hk)] at h2
      exact r.op k l es h1 h2
    · have e1 : k = ad.length := by
        have := (List.getElem?_eq_some_iff.mp h1).1
        rw [List.length_append, List.length_singleton] at this
        omega
      subst e1
      rw [List.getElem?_append_right (Nat.le_refl _), Nat.sub_self] at h1
      rw [r.al, List.getElem?_append_right (Nat.le_refl _), Nat.sub_self] at h2
      cases h1
      cases h2
      exact ⟨hp, .inr hb, vs, hq, rd⟩
  sl := r.sl
  st := fun i a q => by
    rcases r.st i a q with z | ⟨v, z1, z2⟩
    · exact .inl z
    · exact .inr ⟨v, z1, z2.pre (List.prefix_append _ _)⟩
/-- a new address stands apart from the own lists -/
theorem Rep.apart {K : PySem.W.Frag} {B : Bs} {e : Env} {σ : L2.St} {G H : Hp} {ad : List Addr} (r : Rep K B e σ G H ad) {p : Addr} (hp : H p = none) : G p = none ∧ B.H p = none := by
  refine ⟨Same.none r.gh hp, ?_⟩
  cases z : B.H p with
  | none => rfl
  | some o => exact absurd hp (r.nn p (by rw [z]; exact fun y => nomatch y))
theorem Rep.fresh {K : PySem.W.Frag} {B : Bs} {e : Env} {σ : L2.St} {G H : Hp} {ad : List Addr} (r : Rep K B e σ G H ad) {p : Addr} (hp : H p = none) : p ∉ ad := fun h => r.ah p h hp
/-- an own list changed -/
theorem Rep.put {K : PySem.W.Frag} {B : Bs} {e : Env} {σ : L2.St} {G H : Hp} {ad : List Addr} (r : Rep K B e σ G H ad) {k : Nat} {l : Addr} {ds es : List D} {vs : List V} (hl : ad[k]? = some l) (hk : e.m[k]? = some (some ds)) (rd : RDs K G vs es) :
    Rep K B (e.put k es) σ G (upd H l (.lst vs)) ad := by
  obtain ⟨g0, how, vs0, h0, _⟩ := r.op k l ds hl hk
  have hkl : k < e.m.length := (List.getElem?_eq_some_iff.mp hk).1
  exact {
    bg := r.bg
    gh := fun b o q => by
      have nb : b ≠ l := fun z => by
        subst z
        rw [g0] at q
        cases q
      rw [upd_ne nb]
      exact r.gh _ _ q
    fr := r.fr
    kp := fun a o h n => by
      have nb : a ≠ l := fun z => by
        subst z
        rcases how with q | q
        · exact n q
        · rw [q] at h
          cases h
      rw [upd_ne nb]
      exact r.kp a o h n
    nn := fun a h => by
      by_cases nb : a = l
      · subst nb
        rw [upd_same]
        exact fun y => nomatch y
      · rw [upd_ne nb]
        exact r.nn a h
    al := by
      show ad.length = (e.m.set k (some es)).length
      rw [List.length_set, r.al]
    nd := r.nd
    ah := fun b h => by
      by_cases nb : b = l
      · subst nb
        rw [upd_same]
        exact fun y => nomatch y
      · rw [upd_ne nb]
        exact r.ah b h
    ow := r.ow
    op := fun j b fs h1 h2 => by
      have h2 : (e.m.set k (some es))[j]? = some (some fs) := h2
      by_cases hj : k = j
      · subst hj
        rw [List.getElem?_set_self hkl] at h2
        cases h2
        rw [hl] at h1
        cases h1
        exact ⟨g0, how, vs, upd_same, rd⟩
      · rw [List.getElem?_set_ne hj] at h2
        obtain ⟨x1, x2, ws, x3, x4⟩ := r.op j b fs h1 h2
        have nb : b ≠ l := fun z => by
          subst z
          exact hj (nd_ix r.nd hl h1)
        exact ⟨x1, x2, ws, by rw [upd_ne nb]; exact x3, x4⟩
    sl := r.sl
    st := r.st }
/-- an own list of the def's is data from now on -/
theorem Rep.frz {K : PySem.W.Frag} {B : Bs} {e : Env} {σ : L2.St} {G H : Hp} {ad : List Addr} (r : Rep K B e σ G H ad) {k : Nat} {l : Addr} {ds : List D} {vs : List V} (hl : ad[k]? = some l) (hk : e.m[k]? = some (some ds)) (hq : H l = some (.lst vs)) (rd : RDs K G vs ds) (hf : B.H l = none) :
    Rep K B (e.frz k ds) σ (upd G l (.lst vs)) H ad := by
  obtain ⟨g0, how, vs0, h0, _⟩ := r.op k l ds hl hk
  have sg : Same G (upd G l (.lst vs)) := same_new g0
  exact {
    bg := r.bg.trans sg
    gh := fun b o q => by
      by_cases nb : b = l
      · subst nb
        rw [upd_same] at q
        rw [hq]
        exact q
      · rw [upd_ne nb] at q
        exact r.gh _ _ q
    fr := fun a h => by
      by_cases nb : a = l
      · subst nb
        exact .inr hf
      · rw [upd_ne nb] at h
        exact r.fr a h
    kp := r.kp
    nn := r.nn
    al := by
      show ad.length = (e.m.set k none).length
      rw [List.length_set, r.al]
    nd := r.nd
    ah := r.ah
    ow := r.ow
    op := fun j b fs h1 h2 => by
      have h2 : (e.m.set k none)[j]? = some (some fs) := h2
      have hj : k ≠ j := fun z => by
        subst z
        rw [List.getElem?_set_self (List.getElem?_eq_some_iff.mp hk).1] at h2
        cases h2
      rw [List.getElem?_set_ne hj] at h2
      obtain ⟨x1, x2, ws, x3, x4⟩ := r.op j b fs h1 h2
      have nb : b ≠ l := fun z => by
        subst z
        exact hj (nd_ix r.nd hl h1)
      exact ⟨by rw [upd_ne nb]; exact x1, x2, ws, x3, x4.mono sg⟩
    sl := by
      show σ.length = (e.s.map (frzA k ds)).length
      rw [List.length_map, r.sl]
    st := fun i a q => by
      have q : (e.s.map (frzA k ds))[i]? = some a := q
      rw [List.getElem?_map] at q
      cases z : e.s[i]? with
      | none =>
        rw [z] at q
        cases q
      | some b =>
        rw [z] at q
        have q : frzA k ds b = a := Option.some.inj q
        subst q
        rcases r.st i b z with rfl | ⟨v, z1, z2⟩
        · exact .inl rfl
        · refine .inr ⟨v, z1, ?_⟩
          cases b with
          | no => trivial
          | d x => exact RD.mono sg z2
          | p φ => exact fun G2 e2 => z2 G2 (sg.trans e2)
          | o j =>
            unfold frzA
            by_cases hj : j = k
            · subst hj
              obtain ⟨b, y1, y2⟩ := z2
              rw [hl] at y1
              cases y1
              subst y2
              show RepV K _ ad _ (if j = j then A.d (.lst ds) else A.o j)
              rw [if_pos rfl]
              exact RD.lst upd_same (rd.mono sg)
            · show RepV K _ ad v (if j = k then A.d (.lst ds) else A.o j)
              rw [if_neg hj]
              exact z2 }
end Ab
namespace Ab
open PySem PySem.Spec PyProof.Rows L2
section
variable {K : PySem.W.Frag} {w : Nat} {D : AEnds} {e e' : Env} {te to ti : TE} {g : TG} {t u : TS} {c : TT} {a x : A} {ds : List Ab.D}

/-! ### targets -/
theorem ag_name {Q : Env → Prop} {i : Nat} (h : Q (e.set i a)) : AG K (gName i) a e Q := fun B σ G H ad R v rv C c => c _ _ G H ad h (R.set rv)
/-- targets in a row -/
def AGs (K : PySem.W.Frag) (g : TGs) (ds : List Ab.D) (e : Env) (Q : Env → Prop) : Prop := ∀ (B : Bs) (σ : L2.St) (G H : Hp) (ad : List Addr), Rep K B e σ G H ad → ∀ vs, RDs K G vs ds → ∀ C : L2.St → Hp → Prop,
  (∀ e' σ' G' H' ad', Q e' → Rep K B e' σ' G' H' ad' → C σ' H') → g vs σ H C
theorem ags_nil {Q : Env → Prop} (h : Q e) : AGs K gNil [] e Q := fun B σ G H ad R vs rv C c => by
  cases rv
  exact ⟨rfl, c _ _ G H ad h R⟩
theorem ags_name {Q : Env → Prop} {i : Nat} {d : Ab.D} {ds : List Ab.D} {tr : TGs} (h : AGs K tr ds (e.set i (.d d)) Q) : AGs K (gCons (gName i) tr) (d :: ds) e Q := fun B σ G H ad R vs rv C c => by
  cases rv with
  | cons r1 r2 => exact ⟨_, _, rfl, h B _ G H ad (R.set (a := .d d) r1) _ r2 C c⟩
theorem ag_tup {Q : Env → Prop} {n : Nat} {tr : TGs} {ds : List Ab.D} (h : AGs K tr ds e Q) (hn : ds.length = n := by rfl) : AG K (gTup K n tr) (.d (.tup ds)) e Q := fun B σ G H ad R v rv C c => by
  cases rv with
  | tup h1 r1 => exact ⟨_, _, rfl, seqT R.gh h1, by rw [← hn]; exact r1.length, h B σ G H ad R _ r1 C c⟩
theorem AG.mono {Q Q' : Env → Prop} (h : AG K g a e Q) (m : ∀ e, Q e → Q' e) : AG K g a e Q' := fun B σ G H ad R v rv C c =>
  h B σ G H ad R v rv C fun e' σ' G' H' ad' q => c e' σ' G' H' ad' (m e' q)

/-! ### statements -/
theorem AS.le (h : AS K w t D e') (l : Le e e') : AS K w t D e := fun B hw C co σ G H ad R => h B hw C co σ G H ad (R.le l)
theorem AS.ends {D' : AEnds} (h : AS K w t D e) (h1 : ∀ e, D.nx e → D'.nx e) (h2 : ∀ a e, D.rt a e → D'.rt a e) (h3 : ∀ e, D.bk e → D'.bk e) (h4 : ∀ e, D.ct e → D'.ct e) : AS K w t D' e := fun B hw C co σ G H ad R =>
  h B hw C ⟨fun e σ G H ad q => co.nx e σ G H ad (h1 e q), fun a e v σ G H ad q => co.rt a e v σ G H ad (h2 a e q), fun e σ G H ad q => co.bk e σ G H ad (h3 e q), fun e σ G H ad q => co.ct e σ G H ad (h4 e q)⟩ σ G H ad R
theorem as_seq (h : AS K w t { D with nx := fun e' => AS K w u D e' } e) : AS K w (tSeq t u) D e := fun B hw C co σ G H ad R =>
  h B hw { C with nx := u C } ⟨fun e σ G H ad q R => q B hw C co σ G H ad R, co.rt, co.bk, co.ct⟩ σ G H ad R
theorem as_next (h : D.nx e) : AS K w tNext D e := fun B hw C co σ G H ad R => co.nx e σ G H ad h R
theorem as_break (h : D.bk e) : AS K w tBreak D e := fun B hw C co σ G H ad R => co.bk e σ G H ad h R
theorem as_cont (h : D.ct e) : AS K w tCont D e := fun B hw C co σ G H ad R => co.ct e σ G H ad h R
theorem as_asgG (h : AE K te e a) (hg : AG K g a e D.nx) : AS K w (tAsg te g) D e := fun B hw C co σ G H ad R =>
  h B σ G H ad R _ fun v G1 H1 X1 r1 => hg B σ G1 H1 ad (R.ext X1) v r1 _ fun e' σ' G' H' ad' q R' => co.nx e' σ' G' H' ad' q R'
theorem as_asg {i : Nat} (h : AE K te e a) (k : D.nx (e.set i a)) : AS K w (tAsg te (gName i)) D e := as_asgG h (ag_name k)
theorem as_asgX {i : Nat} (h : AX K te e fun a e' => D.nx (e'.set i a)) : AS K w (tAsg te (gName i)) D e := fun B hw C co σ G H ad R =>
  h B σ G H ad R _ fun a e' v G1 H1 ad' q _ _ R1 r1 => co.nx _ _ G1 H1 ad' q (R1.set r1)
theorem AN.ax {Q : A → Env → Prop} (h : AN K te e ds) (q : Q (.o e.m.length) (e.add ds)) : AX K te e Q := fun B σ G H ad R C c =>
  h B σ G H ad R C fun p vs G1 H1 X1 hp gp hq rd => by
    have R1 := R.ext X1
    have hb : B.H p = none := (R.apart hp).2
    have na : p ∉ ad := R.fresh hp
    refine c _ _ _ G1 H1 (ad ++ [p]) q X1.gg (List.prefix_append _ _) (R1.add gp hb na hq rd) ⟨p, ?_, rfl⟩
    rw [← R.al, List.getElem?_append_right (Nat.le_refl _), Nat.sub_self]
    rfl
/-- x = a new list that will be changed -/
theorem as_asgN {i : Nat} (h : AN K te e ds) (k : D.nx (e.new i ds)) : AS K w (tAsg te (gName i)) D e := as_asgX (h.ax k)
theorem as_ret (h : AE K te e a) (k : D.rt a e) : AS K w (tRet te) D e := fun B hw C co σ G H ad R =>
  h B σ G H ad R _ fun v G1 H1 X1 r1 => co.rt a e v σ G1 H1 ad k (R.ext X1) r1
theorem as_retX (h : AX K te e D.rt) : AS K w (tRet te) D e := fun B hw C co σ G H ad R =>
  h B σ G H ad R _ fun a e' v G1 H1 ad' q _ _ R1 r1 => co.rt a e' v σ G1 H1 ad' q R1 r1
theorem as_retN (k : D.rt (.d .non) e) : AS K w tRetN D e := fun B hw C co σ G H ad R => co.rt _ e .non σ G H ad k R RD.non
theorem as_drop (h : AE K te e a) (k : D.nx e) : AS K w (tDrop te) D e := fun B hw C co σ G H ad R =>
  h B σ G H ad R _ fun v G1 H1 X1 r1 => co.nx e σ G1 H1 ad k (R.ext X1)
theorem as_dropX (h : AX K te e fun _ e' => D.nx e') : AS K w (tDrop te) D e := fun B hw C co σ G H ad R =>
  h B σ G H ad R _ fun a e' v G1 H1 ad' q _ _ R1 r1 => co.nx e' σ G1 H1 ad' q R1
theorem as_if {b : Bool} (h : AT K c e b) (h1 : b = true → AS K w t D e) (h2 : b = false → AS K w u D e) : AS K w (tIfS c t u) D e := fun B hw C co σ G H ad R =>
  h B σ G H ad R _ fun G1 H1 X1 => by
    cases b with
    | true => exact h1 rfl B hw C co σ G1 H1 ad (R.ext X1)
    | false => exact h2 rfl B hw C co σ G1 H1 ad (R.ext X1)
/-- if c: x = e, told by the value that x has behind it -/
theorem as_ifset {b : Bool} {i : Nat} {x y : Ab.D} (h : AT K c e b) (h1 : b = true → AE K te e (.d x)) (hy : e.s[i]? = some (.d y)) (k : D.nx (e.set i (.d (if b = true then x else y)))) : AS K w (tIfS c (tAsg te (gName i)) tNext) D e := by
  refine as_if h (fun hb => as_asg (h1 hb) ?_) (fun hb => as_next ?_)
  · rw [if_pos hb] at k
    exact k
  · rw [if_neg (by rw [hb]; exact Bool.false_ne_true)] at k
    have : e.set i (.d y) = e := by
      show (⟨e.s.set i (.d y), e.m⟩ : Env) = e
      have q : e.s.set i (.d y) = e.s := by
        refine List.ext_getElem? fun j => ?_
        by_cases hj : i = j
        · subst hj
          rw [hy, List.getElem?_set_self (List.getElem?_eq_some_iff.mp hy).1]
        · rw [List.getElem?_set_ne hj]
      rw [q]
    rw [this] at k
    exact k
/-- an own list is data from now on -/
theorem as_frz (k : Nat) (hk : e.m[k]? = some (some ds)) (hw : w ≤ k) (h : AS K w t D (e.frz k ds)) : AS K w t D e := fun B hB C co σ G H ad R => by
  have hkl : k < ad.length := by
    rw [R.al]
    exact (List.getElem?_eq_some_iff.mp hk).1
  obtain ⟨l, hl⟩ : ∃ l, ad[k]? = some l := ⟨_, List.getElem?_eq_getElem hkl⟩
  obtain ⟨g0, how, vs, hq, rd⟩ := R.op k _ ds hl hk
  have hf : B.H l = none := by
    rcases how with q | q
    · exfalso
      obtain ⟨tl, e1⟩ := R.ow
      obtain ⟨j, hj⟩ := List.mem_iff_getElem?.mp q
      have hjl : j < B.ow.length := (List.getElem?_eq_some_iff.mp hj).1
      have hj2 : ad[j]? = some l := by
        rw [← e1, List.getElem?_append_left hjl]
        exact hj
      have := nd_ix R.nd hj2 hl
      omega
    · exact q
  exact h B hB C co σ _ H ad (R.frz hl hk hq rd hf)
/-- append -/
theorem ax_app {k : Nat} {to te : TE} {ds0 : List Ab.D} {Q : A → Env → Prop} (ho : AE K to e (.o k)) (hk : e.m[k]? = some (some ds0))
    (h : AX K te e fun a e' => ∃ x ds, a = .d x ∧ e'.m[k]? = some (some ds) ∧ ds.length < 1000000 ∧ Q (.d .non) (e'.put k (ds ++ [x]))) : AX K (tBM K "list" rAppend to (tCons te tNil)) e Q := fun B σ G H ad R C c =>
  ho B σ G H ad R _ fun v G1 H1 X1 r1 => by
    obtain ⟨l, hl, rfl⟩ := r1
    have R1 := R.ext X1
    obtain ⟨_, _, vs0, h0, _⟩ := R1.op k l ds0 hl hk
    refine ⟨Or.inl ⟨rfl, vs0, Or.inl (Or.inl h0)⟩, ?_⟩
    refine h B σ G1 H1 ad R1 _ fun a e' v' G2 H2 ad' q gg pre R2 r2 => ?_
    obtain ⟨x, ds, rfl, hk2, hz, q⟩ := q
    have hl2 : ad'[k]? = some l := by
      obtain ⟨tl, rfl⟩ := pre
      rw [List.getElem?_append_left (List.getElem?_eq_some_iff.mp hl).1]
      exact hl
    obtain ⟨_, _, vs, h2, rd⟩ := R2.op k l ds hl2 hk2
    refine ⟨l, vs, v', rfl, rfl, h2, sz_lt (by rw [rd.length]; exact hz), ?_⟩
    exact c _ _ _ G2 _ ad' q (X1.gg.trans gg) pre (R2.put hl2 hk2 (rd.append (.cons r2 .nil))) RD.non
theorem as_app {k : Nat} {to te : TE} {ds : List Ab.D} {x : Ab.D} (ho : AE K to e (.o k)) (h : AE K te e (.d x)) (hk : e.m[k]? = some (some ds)) (hz : ds.length < 1000000) (q : D.nx (e.put k (ds ++ [x]))) :
    AS K w (tDrop (tBM K "list" rAppend to (tCons te tNil))) D e := as_dropX (ax_app ho hk (h.ax ⟨x, ds, rfl, hk, hz, q⟩))
theorem as_appX {k : Nat} {to te : TE} {ds0 : List Ab.D} (ho : AE K to e (.o k)) (hk : e.m[k]? = some (some ds0))
    (h : AX K te e fun a e' => ∃ x ds, a = .d x ∧ e'.m[k]? = some (some ds) ∧ ds.length < 1000000 ∧ D.nx (e'.put k (ds ++ [x]))) :
    AS K w (tDrop (tBM K "list" rAppend to (tCons te tNil))) D e := as_dropX (ax_app ho hk h)
/-- pop -/
theorem ax_pop {k : Nat} {to : TE} {ds : List Ab.D} {x : Ab.D} {Q : A → Env → Prop} (ho : AE K to e (.o k)) (hk : e.m[k]? = some (some ds)) (hx : ds[ds.length - 1]? = some x) (q : Q (.d x) (e.put k ds.dropLast)) : AX K (tBM0 K "list" rPop to) e Q := fun B σ G H ad R C c =>
  ho B σ G H ad R _ fun v G1 H1 X1 r1 => by
    obtain ⟨l, hl, rfl⟩ := r1
    have R1 := R.ext X1
    obtain ⟨_, _, vs, h0, rd⟩ := R1.op k l ds hl hk
    obtain ⟨v, hv, rv⟩ := rd.get hx
    refine ⟨Or.inl ⟨rfl, vs, Or.inl (Or.inl h0)⟩, l, vs, v, rfl, rfl, h0, by rw [rd.length]; exact hv, ?_⟩
    exact c _ _ _ G1 _ ad q X1.gg (List.prefix_refl _) (R1.put hl hk rd.dropLast) rv
/-- xs[i] = e -/
theorem as_setI {k j : Nat} {i : Int} {ds : List Ab.D} {x : Ab.D} (h : AE K te e (.d x)) (ho : AE K to e (.o k)) (hi : AE K ti e (.d (.int i))) (hk : e.m[k]? = some (some ds)) (hj : ixN ds.length i = some j) (q : D.nx (e.put k (ds.set j x))) :
    AS K w (tAsg te (gSub to ti rSetL)) D e := fun B hw C co σ G H ad R =>
  h B σ G H ad R _ fun v G1 H1 X1 r1 => ho B σ G1 H1 ad (R.ext X1) _ fun v2 G2 H2 X2 r2 => hi B σ G2 H2 ad ((R.ext X1).ext X2) _ fun v3 G3 H3 X3 r3 => by
    obtain ⟨l, hl, rfl⟩ := r2
    cases r3
    have R3 := ((R.ext X1).ext X2).ext X3
    obtain ⟨_, _, vs, h0, rd⟩ := R3.op k l ds hl hk
    refine ⟨l, vs, i, j, rfl, rfl, h0, by rw [rd.length]; exact hj, ?_⟩
    exact co.nx _ σ G3 _ ad q (R3.put hl hk (rd.set (RD.mono (X2.trans X3).gg r1) j))

/-! ### while -/
theorem as_while (I : Nat → Env → Prop) (h0 : ∃ m, I m e)
    (hs : ∀ m e', I m e' → ∃ b, AT K c e' b ∧ (b = true → AS K w t { D with nx := fun e2 => ∃ m', m' < m ∧ I m' e2, ct := fun e2 => ∃ m', m' < m ∧ I m' e2, bk := D.nx } e') ∧ (b = false → D.nx e')) : AS K w (tWhile c t) D e := fun B hw C co σ G H ad R => by
  refine ⟨fun m σ H => ∃ e' G ad, I m e' ∧ Rep K B e' σ G H ad, ?_, ?_⟩
  · obtain ⟨m, h⟩ := h0
    exact ⟨m, e, G, ad, h, R⟩
  · rintro m σ H ⟨e', G, ad, hi, R⟩
    obtain ⟨b, h1, h2, h3⟩ := hs m e' hi
    refine h1 B σ G H ad R _ fun G1 H1 X1 => ?_
    have R1 := R.ext X1
    cases b with
    | true =>
      refine ⟨fun σ H => ∃ m', m' < m ∧ ∃ e' G ad, I m' e' ∧ Rep K B e' σ G H ad, fun σ' H' h => h, ?_⟩
      refine h2 rfl B hw { C with nx := fun σ H => ∃ m', m' < m ∧ ∃ e' G ad, I m' e' ∧ Rep K B e' σ G H ad, ct := fun σ H => ∃ m', m' < m ∧ ∃ e' G ad, I m' e' ∧ Rep K B e' σ G H ad, bk := C.nx } ⟨?_, co.rt, co.nx, ?_⟩ σ G1 H1 ad R1
      · rintro e2 σ2 G2 H2 ad2 ⟨m', hm, hI⟩ R2
        exact ⟨m', hm, e2, G2, ad2, hI, R2⟩
      · rintro e2 σ2 G2 H2 ad2 ⟨m', hm, hI⟩ R2
        exact ⟨m', hm, e2, G2, ad2, hI, R2⟩
    | false => exact co.nx _ σ G1 H1 ad (h3 rfl) R1
/-- a while by its turns: n of them, E i the slots ahead of turn i -/
theorem as_whileE (n : Nat) (E : Nat → Env) (h0 : Le e (E 0)) (hc : ∀ i, i ≤ n → AT K c (E i) (decide (i < n)))
    (hs : ∀ i, i < n → AS K w t { D with nx := fun e2 => Le e2 (E (i + 1)), ct := fun e2 => Le e2 (E (i + 1)), bk := D.nx } (E i)) (hd : ∀ e', Le e' (E n) → D.nx e') : AS K w (tWhile c t) D e := by
  refine as_while (fun m e' => ∃ i, i + m = n ∧ Le e' (E i)) ⟨n, 0, by omega, h0⟩ ?_
  rintro m e' ⟨i, hi, l⟩
  refine ⟨decide (i < n), fun B σ G H ad R => hc i (by omega) B σ G H ad (R.le l), fun hb => ?_, fun hb => ?_⟩
  · have hlt := of_decide_eq_true hb
    refine AS.le (AS.ends (hs i hlt) (fun e2 q => ⟨m - 1, by omega, i + 1, by omega, q⟩) (fun _ _ q => q) (fun _ q => q) (fun e2 q => ⟨m - 1, by omega, i + 1, by omega, q⟩)) l
  · have hlt : ¬ i < n := of_decide_eq_false hb
    have : i = n := by omega
    subst this
    exact hd e' l

/-! ### what is walked -/
structure Walk (K : PySem.W.Frag) (G0 : Hp) (J : It) (n : Nat) (f : Nat → Ab.D) : Prop where
  stop : ∀ i G H, Same G0 G → Same G H → n ≤ i → J.stop i H
  go : ∀ i G H, Same G0 G → Same G H → i < n → J.go i H
  yld : ∀ i G H v H', Same G0 G → Same G H → i < n → J.yld i H v H' → ∃ G', Xt G H G' H' ∧ RD K G' v (f i)
def AI (K : PySem.W.Frag) (wi : TI) (e : Env) (n : Nat) (f : Nat → Ab.D) : Prop := ∀ (B : Bs) (σ : L2.St) (G H : Hp) (ad : List Addr), Rep K B e σ G H ad → ∀ C : It → Hp → Prop, (∀ J G' H', Xt G H G' H' → Walk K G' J n f → C J H') → wi σ H C
theorem ai_list {tl : TE} {xs : List Ab.D} {n : Nat} {f : Nat → Ab.D} (h : AE K tl e (.d (.lst xs))) (hn : xs.length = n) (hf : ∀ i, i < n → xs[i]? = some (f i)) : AI K (iList K tl) e n f := fun B σ G H ad R C c =>
  h B σ G H ad R _ fun v G1 H1 X1 r1 => by
    cases r1 with
    | lst hq rd =>
      rename_i p vs
      refine ⟨_, rfl, ⟨vs, .inl (.inl (X1.gh _ _ hq))⟩, c _ G1 H1 X1 ⟨?_, ?_, ?_⟩⟩
      · intro i G H s1 s2 hi
        exact ⟨vs, .inl (.inl (s2 _ _ (s1 _ _ hq))), by rw [rd.length, hn]; exact hi⟩
      · intro i G H s1 s2 hi
        obtain ⟨v, hv, _⟩ := rd.get (hf i hi)
        exact ⟨vs, v, .inl (.inl (s2 _ _ (s1 _ _ hq))), hv⟩
      · rintro i G H v H' s1 s2 hi ⟨rfl, y⟩
        obtain ⟨v', hv, rv⟩ := rd.get (hf i hi)
        have := y vs (.inl (.inl (s2 _ _ (s1 _ _ hq))))
        rw [hv] at this
        cases this
        exact ⟨G, Xt.refl s2, rv.mono s1⟩
theorem ai_rng1 {ta : TA} {n : Int} (h : AL K ta e [.d (.int n)]) (hn : n < 2 ^ 62) (h0 : -(2 ^ 62) ≤ n) : AI K (iRng1 ta) e n.toNat (fun i => .int (i : Nat)) := fun B σ G H ad R C c =>
  h B σ G H ad R _ fun vs G1 H1 X1 r1 => by
    obtain ⟨v, rfl, rv⟩ : ∃ v, vs = [v] ∧ RepV K G1 ad v (.d (.int n)) := by
      cases r1 with
      | cons q r => cases r; exact ⟨_, rfl, q⟩
    cases rv
    refine ⟨n, rfl, h0, hn, c _ G1 H1 X1 ⟨fun i G H _ _ hi => hi, fun i G H _ _ hi => hi, ?_⟩⟩
    rintro i G H v H' s1 s2 hi ⟨rfl, rfl⟩
    refine ⟨G, Xt.refl s2, ?_⟩
    rw [Int.zero_add]
    exact RD.int
theorem ai_rng2 {ta : TA} {l n : Int} (h : AL K ta e [.d (.int l), .d (.int n)]) (hl0 : -(2 ^ 62) ≤ l) (hl : l < 2 ^ 62) (h0 : -(2 ^ 62) ≤ n) (hn : n < 2 ^ 62) : AI K (iRng2 ta) e (n - l).toNat (fun i => .int (l + (i : Nat))) := fun B σ G H ad R C c =>
  h B σ G H ad R _ fun vs G1 H1 X1 r1 => by
    obtain ⟨v, u, rfl, rv, ru⟩ : ∃ v u, vs = [v, u] ∧ RepV K G1 ad v (.d (.int l)) ∧ RepV K G1 ad u (.d (.int n)) := by
      cases r1 with
      | cons q r =>
        cases r with
        | cons q2 r => cases r; exact ⟨_, _, rfl, q, q2⟩
    cases rv
    cases ru
    refine ⟨l, n, rfl, ⟨hl0, hl, h0, hn⟩, c _ G1 H1 X1 ⟨fun i G H _ _ hi => hi, fun i G H _ _ hi => hi, ?_⟩⟩
    rintro i G H v H' s1 s2 hi ⟨rfl, rfl⟩
    exact ⟨G, Xt.refl s2, RD.int⟩
theorem ai_str {s : List Nat} {n : Nat} {f : Nat → Nat} (h : AE K te e (.d (.str s))) (hn : s.length = n) (hf : ∀ i, i < n → s[i]? = some (f i)) : AI K (iStr te) e n (fun i => .str [f i]) := fun B σ G H ad R C c =>
  h B σ G H ad R _ fun v G1 H1 X1 r1 => by
    cases r1
    refine ⟨sOf s, rfl, c _ G1 H1 X1 ⟨fun i G H _ _ hi => ?_, fun i G H _ _ hi => ?_, ?_⟩⟩
    · show s.toArray.size ≤ i
      rw [List.size_toArray]
      omega
    · show i < s.toArray.size
      rw [List.size_toArray]
      omega
    · rintro i G H v H' s1 s2 hi ⟨rfl, ch, hc, rfl⟩
      have : s.toArray[i]? = some ch := hc
      rw [List.getElem?_toArray, hf i hi] at this
      cases this
      exact ⟨G, Xt.refl s2, RD.str (s := [f i])⟩
theorem ai_zip {ta : TA} {xs ys : List Ab.D} {n : Nat} {f g : Nat → Ab.D} (h : AL K ta e [.d (.lst xs), .d (.lst ys)]) (hx : xs.length = n) (hy : ys.length = n) (hf : ∀ i, i < n → xs[i]? = some (f i)) (hg : ∀ i, i < n → ys[i]? = some (g i)) :
    AI K (iZip K ta) e n (fun i => .tup [f i, g i]) := fun B σ G H ad R C c =>
  h B σ G H ad R _ fun vs G1 H1 X1 r1 => by
    obtain ⟨v, u, rfl, rv, ru⟩ : ∃ v u, vs = [v, u] ∧ RepV K G1 ad v (.d (.lst xs)) ∧ RepV K G1 ad u (.d (.lst ys)) := by
      cases r1 with
      | cons q r =>
        cases r with
        | cons q2 r => cases r; exact ⟨_, _, rfl, q, q2⟩
    cases rv with
    | lst hq rd =>
      cases ru with
      | lst hq2 rd2 =>
        rename_i p us p2 ws
        refine ⟨_, _, us, ws, rfl, .inl (.inl (X1.gh _ _ hq)), .inl (.inl (X1.gh _ _ hq2)), c _ G1 H1 X1 ⟨?_, ?_, ?_⟩⟩
        · intro i G H s1 s2 hi
          exact ⟨us, ws, .inl (.inl (s2 _ _ (s1 _ _ hq))), .inl (.inl (s2 _ _ (s1 _ _ hq2))), .inl (by rw [rd.length, hx]; exact hi)⟩
        · intro i G H s1 s2 hi
          obtain ⟨v, hv, _⟩ := rd.get (hf i hi)
          obtain ⟨v2, hv2, _⟩ := rd2.get (hg i hi)
          exact ⟨us, ws, v, v2, .inl (.inl (s2 _ _ (s1 _ _ hq))), .inl (.inl (s2 _ _ (s1 _ _ hq2))), hv, hv2⟩
        · rintro i G H v H' s1 s2 hi ⟨T, x, y, rfl, hT, rfl, k1, k2⟩
          obtain ⟨v', hv, rv⟩ := rd.get (hf i hi)
          obtain ⟨v2, hv2, rv2⟩ := rd2.get (hg i hi)
          have e1 := k1 us (.inl (.inl (s2 _ _ (s1 _ _ hq))))
          have e2 := k2 ws (.inl (.inl (s2 _ _ (s1 _ _ hq2))))
          rw [hv] at e1
          rw [hv2] at e2
          obtain rfl : v' = x := Option.some.inj e1
          obtain rfl : v2 = y := Option.some.inj e2
          have X := Xt.new (o := .tup [v', v2]) s2 hT
          exact ⟨_, X, RD.tup (.inl (.inl upd_same)) (.cons (rv.mono (s1.trans X.gg)) (.cons (rv2.mono (s1.trans X.gg)) .nil))⟩
theorem ai_enum {ta : TA} {xs : List Ab.D} {n : Nat} {f : Nat → Ab.D} (h : AL K ta e [.d (.lst xs)]) (hx : xs.length = n) (hf : ∀ i, i < n → xs[i]? = some (f i)) :
    AI K (iEnum K ta) e n (fun i => .tup [.int (i : Nat), f i]) := fun B σ G H ad R C c =>
  h B σ G H ad R _ fun vs G1 H1 X1 r1 => by
    obtain ⟨v, rfl, rv⟩ : ∃ v, vs = [v] ∧ RepV K G1 ad v (.d (.lst xs)) := by
      cases r1 with
      | cons q r => cases r; exact ⟨_, rfl, q⟩
    cases rv with
    | lst hq rd =>
        rename_i p us
        refine ⟨_, us, rfl, .inl (.inl (X1.gh _ _ hq)), c _ G1 H1 X1 ⟨?_, ?_, ?_⟩⟩
        · intro i G H s1 s2 hi
          exact ⟨us, .inl (.inl (s2 _ _ (s1 _ _ hq))), by rw [rd.length, hx]; exact hi⟩
        · intro i G H s1 s2 hi
          obtain ⟨v, hv, _⟩ := rd.get (hf i hi)
          exact ⟨us, v, .inl (.inl (s2 _ _ (s1 _ _ hq))), hv⟩
        · rintro i G H v H' s1 s2 hi ⟨T, x, rfl, hT, rfl, k1⟩
          obtain ⟨v', hv, rv⟩ := rd.get (hf i hi)
          have e1 := k1 us (.inl (.inl (s2 _ _ (s1 _ _ hq))))
          rw [hv] at e1
          obtain rfl : v' = x := Option.some.inj e1
          have X := Xt.new (o := .tup [.int (i : Nat), v']) s2 hT
          exact ⟨_, X, RD.tup (.inl (.inl upd_same)) (.cons RD.int (.cons (rv.mono (s1.trans X.gg)) .nil))⟩

/-! ### for -/
/-- the data so far as the base -/
theorem Rep.rebase {B : Bs} {σ : L2.St} {G H : Hp} {ad : List Addr} (R : Rep K B e σ G H ad) : Rep K { B with G := G } e σ G H ad :=
  { R with bg := Same.refl _, fr := fun a h => .inl h }
theorem Rep.unbase {B : Bs} {e' : Env} {σ σ' : L2.St} {G H G' H' : Hp} {ad ad' : List Addr} (R : Rep K B e σ G H ad) (R' : Rep K { B with G := G } e' σ' G' H' ad') : Rep K B e' σ' G' H' ad' :=
  { R' with bg := R.bg.trans R'.bg, fr := fun a h => by
              rcases R'.fr a h with q | q
              · exact R.fr a q
              · exact .inr q }
theorem as_for {wi : TI} {n : Nat} {f : Nat → Ab.D} (I : Nat → Env → Prop) (h : AI K wi e n f) (h0 : I 0 e)
    (hs : ∀ i e', i < n → I i e' → AG K g (.d (f i)) e' fun e2 => AS K w t { D with nx := I (i + 1), ct := I (i + 1), bk := D.nx } e2) (hd : ∀ e', I n e' → D.nx e') : AS K w (tFor wi g t) D e := fun B hw C co σ G H ad R =>
  h B σ G H ad R _ fun J G1 H1 X1 W => by
    have R1 := R.ext X1
    have lift : ∀ e' σ' G' H' ad', I n e' → Rep K { B with G := G1 } e' σ' G' H' ad' → C.nx σ' H' := fun e' σ' G' H' ad' q R' => co.nx e' σ' G' H' ad' (hd e' q) (R1.unbase R')
    refine ⟨fun i m σ H => i + m = n ∧ ∃ e' G ad, I i e' ∧ Rep K { B with G := G1 } e' σ G H ad, ⟨n, by omega, e, G1, ad, h0, R1.rebase⟩, ?_⟩
    rintro i m σ H ⟨hm, e', G, ad, hi, R2⟩
    by_cases hlt : i < n
    · refine .inr ⟨W.go i G H R2.bg R2.gh hlt, fun σ H => ∃ e' G ad, I (i + 1) e' ∧ Rep K { B with G := G1 } e' σ G H ad, fun σ' H' q => ⟨m - 1, by omega, by omega, q⟩, fun x H' y => ?_⟩
      obtain ⟨G3, X3, rd⟩ := W.yld i G H x H' R2.bg R2.gh hlt y
      refine hs i e' hlt hi { B with G := G1 } σ G3 H' ad (R2.ext X3) x rd _ fun e4 σ4 G4 H4 ad4 q R4 => ?_
      refine q { B with G := G1 } hw { C with nx := fun σ H => ∃ e' G ad, I (i + 1) e' ∧ Rep K { B with G := G1 } e' σ G H ad, ct := fun σ H => ∃ e' G ad, I (i + 1) e' ∧ Rep K { B with G := G1 } e' σ G H ad, bk := C.nx } ⟨fun e5 σ5 G5 H5 ad5 q5 R5 => ⟨e5, G5, ad5, q5, R5⟩, fun a e5 v σ5 G5 H5 ad5 q5 R5 rv => co.rt a e5 v σ5 G5 H5 ad5 q5 (R1.unbase R5) rv, fun e5 σ5 G5 H5 ad5 q5 R5 => co.nx e5 σ5 G5 H5 ad5 q5 (R1.unbase R5), fun e5 σ5 G5 H5 ad5 q5 R5 => ⟨e5, G5, ad5, q5, R5⟩⟩ σ4 G4 H4 ad4 R4
    · have : i = n := by omega
      subst this
      exact .inl ⟨W.stop i G H R2.bg R2.gh (Nat.le_refl _), lift e' σ G H ad hi R2⟩
theorem AG.le (l : Le e e') {Q : Env → Prop} (h : AG K g a e' Q) : AG K g a e Q := fun B σ G H ad R v rv C c => h B σ G H ad (R.le l) v rv C c
/-- by its turns: E i the slots ahead of turn i -/
theorem as_forE {wi : TI} {n : Nat} {f : Nat → Ab.D} (E : Nat → Env) (h : AI K wi e n f) (h0 : Le e (E 0))
    (hs : ∀ i, i < n → AG K g (.d (f i)) (E i) fun e2 => AS K w t { D with nx := fun e' => Le e' (E (i + 1)), ct := fun e' => Le e' (E (i + 1)), bk := D.nx } e2) (hd : ∀ e', Le e' (E n) → D.nx e') : AS K w (tFor wi g t) D e :=
  as_for (fun i e' => Le e' (E i)) h h0 (fun i e' hi l => (hs i hi).le l) hd
/-- the same, what follows being a block -/
theorem as_forE_seq {wi : TI} {n : Nat} {f : Nat → Ab.D} (E : Nat → Env) (h : AI K wi e n f) (h0 : Le e (E 0))
    (hs : ∀ i, i < n → AG K g (.d (f i)) (E i) fun e2 => AS K w t { D with nx := fun e' => Le e' (E (i + 1)), ct := fun e' => Le e' (E (i + 1)), bk := fun e' => AS K w u D e' } e2) (hd : AS K w u D (E n)) : AS K w (tSeq (tFor wi g t) u) D e :=
  as_seq (as_forE E h h0 hs fun e' l => AS.le hd l)
theorem as_whileE_seq (n : Nat) (E : Nat → Env) (h0 : Le e (E 0)) (hc : ∀ i, i ≤ n → AT K c (E i) (decide (i < n)))
    (hs : ∀ i, i < n → AS K w t { D with nx := fun e2 => Le e2 (E (i + 1)), ct := fun e2 => Le e2 (E (i + 1)), bk := fun e' => AS K w u D e' } (E i)) (hd : AS K w u D (E n)) : AS K w (tSeq (tWhile c t) u) D e :=
  as_seq (as_whileE n E h0 hc hs fun e' l => AS.le hd l)
end
end Ab
namespace Ab
open PySem PySem.Spec PyProof.Rows L2
/-! ### texts as lists of signs -/
theorem sOf_len (s : List Nat) : (sOf s).length = s.length := List.size_toArray
theorem sOf_app (s t : List Nat) : sOf s ++ sOf t = sOf (s ++ t) := by
  show (⟨s.toArray ++ t.toArray⟩ : Str) = ⟨(s ++ t).toArray⟩
  rw [List.append_toArray]
theorem sOf_inj {s t : List Nat} (h : sOf s = sOf t) : s = t := by
  have := congrArg (fun z : Str => z.cps.toList) h
  simpa using this
theorem sOf_eq {z : Str} : sOf z.cps.toList = z := rfl
/-- the first place of a sign -/
def pos (c : Nat) : List Nat → Option Nat
  | [] => none
  | a :: r => if a = c then some 0 else (pos c r).map (· + 1)
theorem pos_none {c : Nat} : ∀ {s : List Nat}, pos c s = none → c ∉ s
  | [], _ => by simp
  | a :: r, h => by
    unfold pos at h
    by_cases e : a = c
    · rw [if_pos e] at h
      cases h
    · rw [if_neg e] at h
      cases q : pos c r with
      | some i =>
        rw [q] at h
        cases h
      | none =>
        intro m
        rcases List.mem_cons.mp m with z | z
        · exact e z.symm
        · exact pos_none q z
theorem pos_some {c : Nat} : ∀ {s : List Nat} {i : Nat}, pos c s = some i → s[i]? = some c ∧ ∀ k, k < i → s[k]? ≠ some c
  | [], _, h => by cases h
  | a :: r, i, h => by
    unfold pos at h
    by_cases e : a = c
    · rw [if_pos e] at h
      cases h
      exact ⟨by rw [e]; rfl, fun k hk => absurd hk (Nat.not_lt_zero _)⟩
    · rw [if_neg e] at h
      cases q : pos c r with
      | none =>
        rw [q] at h
        cases h
      | some j =>
        rw [q] at h
        cases h
        obtain ⟨h1, h2⟩ := pos_some q
        refine ⟨by simpa using h1, fun k hk => ?_⟩
        cases k with
        | zero =>
          show some a ≠ some c
          exact fun z => e (Option.some.inj z)
        | succ k =>
          have hk : k + 1 < j + 1 := hk
          have := h2 k (by omega)
          simpa using this
theorem pos_lt {c : Nat} {s : List Nat} {i : Nat} (h : pos c s = some i) : i < s.length := (List.getElem?_eq_some_iff.mp (pos_some h).1).1
theorem pos_uniq {c : Nat} {s : List Nat} {i : Nat} (h1 : s[i]? = some c) (h2 : ∀ k, k < i → s[k]? ≠ some c) : pos c s = some i := by
  cases q : pos c s with
  | none => exact absurd (List.mem_of_getElem? h1) (pos_none q)
  | some j =>
    obtain ⟨g1, g2⟩ := pos_some q
    rcases Nat.lt_trichotomy i j with h | h | h
    · exact absurd h1 (g2 i h)
    · rw [h]
    · exact absurd g1 (h2 j h)
theorem pos_mem {c : Nat} {s : List Nat} (h : c ∈ s) : ∃ i, pos c s = some i := by
  cases q : pos c s with
  | none => exact absurd h (pos_none q)
  | some i => exact ⟨i, rfl⟩
theorem at_sign {s : List Nat} {c i : Nat} : PySem.StrLaws.At (sOf s) (sOf [c]) (sOf s).length i ↔ s[i]? = some c := by
  have e : ((sOf s).cps.toList.drop i).take 1 = [c] ↔ s[i]? = some c := by
    show (s.drop i).take 1 = [c] ↔ s[i]? = some c
    constructor
    · intro h
      have h0 : ((s.drop i).take 1)[0]? = some c := by rw [h]; rfl
      rw [List.getElem?_take_of_lt (by omega), List.getElem?_drop, Nat.add_zero] at h0
      exact h0
    · intro h
      obtain ⟨hl, he⟩ := List.getElem?_eq_some_iff.mp h
      rw [List.drop_eq_getElem_cons hl, he]
      rfl
  constructor
  · intro h
    have h2 := h.2
    rw [PySem.StrLaws.subAt_eq] at h2
    exact e.mp (eq_of_beq h2)
  · intro h
    refine ⟨?_, ?_⟩
    · have := (List.getElem?_eq_some_iff.mp h).1
      rw [sOf_len, sOf_len]
      exact this
    · rw [PySem.StrLaws.subAt_eq]
      exact beq_iff_eq.mpr (e.mpr h)
theorem occ_sign (s : List Nat) (c : Nat) : (pos c s = none ∧ Builtin.Str.occurrences (sOf s) (sOf [c]) 0 (sOf s).length 1 = []) ∨ ∃ i r, pos c s = some i ∧ Builtin.Str.occurrences (sOf s) (sOf [c]) 0 (sOf s).length 1 = i :: r := by
  rcases PySem.StrLaws.occ_head (sOf s) (sOf [c]) 1 (Nat.le_refl _) with ⟨h0, hn⟩ | ⟨i, r, h0, ha, hn⟩
  · refine .inl ⟨?_, h0⟩
    cases q : pos c s with
    | none => rfl
    | some j => exact absurd (at_sign.mpr (pos_some q).1) (hn j)
  · exact .inr ⟨i, r, pos_uniq (at_sign.mp ha) fun k hk z => hn k hk (at_sign.mpr z), h0⟩
theorem find_sign (s : List Nat) (c : Nat) : Txt.find (sOf s) (sOf [c]) = match pos c s with | some i => (i : Int) | none => -1 := by
  unfold Txt.find
  rcases occ_sign s c with ⟨h1, h2⟩ | ⟨i, r, h1, h2⟩
  · rw [h1, h2]
  · rw [h1, h2]
theorem tl_join' (y : List Nat) (xs : List (List Nat)) : Txt.join (sOf y) (xs.map sOf) = sOf (TL.joinL y xs) := by
  have h : ∀ l : List (List Nat), (l.map sOf).map TL.tl = l := fun l => by
    rw [List.map_map]
    have : (TL.tl ∘ sOf) = id := rfl
    rw [this, List.map_id]
  have e := TL.tl_join (sOf y) (xs.map sOf)
  rw [h] at e
  show Builtin.Str.glued (sOf y) (xs.map sOf) = _
  rw [PySem.StrLaws.glued_eq_join]
  exact TL.ext_tl e
theorem joinL_nil : ∀ xs : List (List Nat), TL.joinL [] xs = xs.flatten
  | [] => rfl
  | [x] => by simp [TL.joinL]
  | x :: y :: r => by
    show x ++ ([] ++ TL.joinL [] (y :: r)) = _
    rw [joinL_nil (y :: r), List.nil_append]
    simp only [List.flatten_cons]

/-! ### what reads as a list, a tuple, a text -/
section
variable {K : PySem.W.Frag} {G H : Hp} {v : V}
theorem RD.strs : ∀ {vs : List V} {xs : List (List Nat)}, RDs K G vs (xs.map .str) → vs = xs.map fun x => V.str (sOf x)
  | _, [], .nil => rfl
  | _, x :: r, .cons a b => by
    cases a
    rw [RD.strs b]
    rfl
theorem RD.ints : ∀ {vs : List V} {xs : List Int}, RDs K G vs (xs.map .int) → vs = xs.map V.int
  | _, [], .nil => rfl
  | _, x :: r, .cons a b => by
    cases a
    rw [RD.ints b]
    rfl
theorem RDs.ofInts : ∀ (xs : List Int), RDs K G (xs.map V.int) (xs.map .int)
  | [] => .nil
  | _ :: r => .cons .int (RDs.ofInts r)
theorem RDs.ofStrs : ∀ (xs : List (List Nat)), RDs K G (xs.map fun x => V.str (sOf x)) (xs.map .str)
  | [] => .nil
  | _ :: r => .cons .str (RDs.ofStrs r)
end

section
variable {K : PySem.W.Frag} {e : Env} {ta tb te : TE} {x y z a b : A} {r : R2}
/-! ### numbers -/
theorem a2_I0 {g : Int → Int → V} {i j k : Int} (h : g i j = .int k := by rfl) : A2 K (rI0 g) (.d (.int i)) (.d (.int j)) e (.d (.int k)) := fun B σ G H ad R v w rv rw C c => by
  cases rv
  cases rw
  exact ⟨i, j, rfl, rfl, by rw [h]; exact c _ G H (Xt.refl R.gh) RD.int⟩
theorem a2_I0b {g : Int → Int → V} {i j : Int} {k : Bool} (h : g i j = .bl k := by rfl) : A2 K (rI0 g) (.d (.int i)) (.d (.int j)) e (.d (.bl k)) := fun B σ G H ad R v w rv rw C c => by
  cases rv
  cases rw
  exact ⟨i, j, rfl, rfl, by rw [h]; exact c _ G H (Xt.refl R.gh) RD.bl⟩
theorem a2_I {P : Int → Int → Prop} {g : Int → Int → V} {i j k : Int} (hc : P i j) (h : g i j = .int k := by rfl) : A2 K (rI P g) (.d (.int i)) (.d (.int j)) e (.d (.int k)) := fun B σ G H ad R v w rv rw C c => by
  cases rv
  cases rw
  exact ⟨i, j, rfl, rfl, hc, by rw [h]; exact c _ G H (Xt.refl R.gh) RD.int⟩
theorem a1_neg {i : Int} : A1 K (rU fun i => .int (-i)) (.d (.int i)) e (.d (.int (-i))) := fun B σ G H ad R v rv C c => by
  cases rv
  exact ⟨i, rfl, c _ G H (Xt.refl R.gh) RD.int⟩

/-! ### == of flat things, is None -/
def vOf : D → V
  | .non => .non
  | .bl b => .bl b
  | .int i => .int i
  | .str s => .str (sOf s)
  | _ => .ty ""
theorem RD.vOf {G : Hp} {v : V} {d : D} (h : RD K G v d) (hf : scal (vOf d) (vOf d) = true ∨ d = .non) : v = vOf d := by
  cases h with
  | lst _ _ => rcases hf with h | h <;> cases h
  | tup _ _ => rcases hf with h | h <;> cases h
  | non => rfl
  | bl => rfl
  | int => rfl
  | str => rfl
def flat : D → Bool
  | .lst _ => false
  | .tup _ => false
  | _ => true
theorem RD.flat {G : Hp} {v : V} {d : D} (h : RD K G v d) (hf : flat d = true) : v = Ab.vOf d := by
  cases h with
  | lst _ _ => cases hf
  | tup _ _ => cases hf
  | non => rfl
  | bl => rfl
  | int => rfl
  | str => rfl
theorem a2_eq {p q : D} (hs : scal (vOf p) (vOf q) = true := by rfl) (hp : flat p = true := by rfl) (hq : flat q = true := by rfl) : A2 K rEq (.d p) (.d q) e (.d (.bl (decide (vOf p = vOf q)))) := fun B σ G H ad R v w rv rw C c => by
  rw [RD.flat rv hp, RD.flat rw hq]
  exact ⟨hs, c _ G H (Xt.refl R.gh) RD.bl⟩
theorem a2_ne {p q : D} (hs : scal (vOf p) (vOf q) = true := by rfl) (hp : flat p = true := by rfl) (hq : flat q = true := by rfl) : A2 K rNe (.d p) (.d q) e (.d (.bl (!decide (vOf p = vOf q)))) := fun B σ G H ad R v w rv rw C c => by
  rw [RD.flat rv hp, RD.flat rw hq]
  exact ⟨hs, c _ G H (Xt.refl R.gh) RD.bl⟩
theorem dec_int (i j : Int) : decide (vOf (.int i) = vOf (.int j)) = decide (i = j) := by
  rw [decide_eq_decide]
  exact ⟨fun h => V.int.inj h, fun h => by rw [h]⟩
theorem dec_str (s t : List Nat) : decide (vOf (.str s) = vOf (.str t)) = decide (s = t) := by
  rw [decide_eq_decide]
  exact ⟨fun h => sOf_inj (V.str.inj h), fun h => by rw [h]⟩
theorem dec_bl (s t : Bool) : decide (vOf (.bl s) = vOf (.bl t)) = decide (s = t) := by
  rw [decide_eq_decide]
  exact ⟨fun h => V.bl.inj h, fun h => by rw [h]⟩
theorem a2_eqI {i j : Int} : A2 K rEq (.d (.int i)) (.d (.int j)) e (.d (.bl (decide (i = j)))) := dec_int i j ▸ a2_eq
theorem a2_neI {i j : Int} : A2 K rNe (.d (.int i)) (.d (.int j)) e (.d (.bl (!decide (i = j)))) := dec_int i j ▸ a2_ne
theorem a2_eqS {i j : List Nat} : A2 K rEq (.d (.str i)) (.d (.str j)) e (.d (.bl (decide (i = j)))) := dec_str i j ▸ a2_eq
theorem a2_neS {i j : List Nat} : A2 K rNe (.d (.str i)) (.d (.str j)) e (.d (.bl (!decide (i = j)))) := dec_str i j ▸ a2_ne
theorem a2_eqB {i j : Bool} : A2 K rEq (.d (.bl i)) (.d (.bl j)) e (.d (.bl (decide (i = j)))) := dec_bl i j ▸ a2_eq
theorem a2_neB {i j : Bool} : A2 K rNe (.d (.bl i)) (.d (.bl j)) e (.d (.bl (!decide (i = j)))) := dec_bl i j ▸ a2_ne
def isN : D → Bool
  | .non => true
  | _ => false
theorem RD.isN {G : Hp} {v : V} {d : D} (h : RD K G v d) : decide (v = .non) = isN d := by cases h <;> rfl
theorem a2_isN {d : D} : A2 K (fun x y H Q => y = .non ∧ Q (.bl (decide (x = .non))) H) (.d d) (.d .non) e (.d (.bl (isN d))) := fun B σ G H ad R v w rv rw C c => by
  cases rw
  have q := RD.isN rv
  exact ⟨rfl, by rw [q]; exact c _ G H (Xt.refl R.gh) RD.bl⟩
theorem a2_notN {d : D} : A2 K (fun x y H Q => y = .non ∧ Q (.bl (!decide (x = .non))) H) (.d d) (.d .non) e (.d (.bl (!isN d))) := fun B σ G H ad R v w rv rw C c => by
  cases rw
  have q := RD.isN rv
  exact ⟨rfl, by rw [q]; exact c _ G H (Xt.refl R.gh) RD.bl⟩

/-! ### texts -/
theorem a2_addS {s t : List Nat} (hl : s.length + t.length ≤ 1000000) : A2 K (fun x y H Q => ∃ i j, x = .str i ∧ y = .str j ∧ i.length + j.length ≤ sizeLine ∧ Q (.str (i ++ j)) H) (.d (.str s)) (.d (.str t)) e (.d (.str (s ++ t))) := fun B σ G H ad R v w rv rw C c => by
  cases rv
  cases rw
  refine ⟨sOf s, sOf t, rfl, rfl, sz_of (by rw [sOf_len, sOf_len]; exact hl), ?_⟩
  rw [sOf_app]
  exact c _ G H (Xt.refl R.gh) RD.str
theorem a2_inS {s : List Nat} {ch : Nat} : A2 K (fun x y H Q => ∃ (c : Nat) (z : Str), x = .str ⟨#[c]⟩ ∧ y = .str z ∧ Q (.bl (decide (c ∈ z.cps.toList))) H) (.d (.str [ch])) (.d (.str s)) e (.d (.bl (decide (ch ∈ s)))) := fun B σ G H ad R v w rv rw C c => by
  cases rv
  cases rw
  exact ⟨ch, sOf s, rfl, rfl, c _ G H (Xt.refl R.gh) RD.bl⟩
theorem a2_notInS {s : List Nat} {ch : Nat} : A2 K (fun x y H Q => ∃ (c : Nat) (z : Str), x = .str ⟨#[c]⟩ ∧ y = .str z ∧ Q (.bl (!decide (c ∈ z.cps.toList))) H) (.d (.str [ch])) (.d (.str s)) e (.d (.bl (!decide (ch ∈ s)))) := fun B σ G H ad R v w rv rw C c => by
  cases rv
  cases rw
  exact ⟨ch, sOf s, rfl, rfl, c _ G H (Xt.refl R.gh) RD.bl⟩
theorem ae_m1 {r : V → List V → Hp → VK → Prop} {s : List Nat} (ho : AE K ta e (.d (.str s))) (hb : AE K tb e y) (hr : AM K r (.d (.str s)) [y] e z) : AE K (tM1 r ta tb) e z := fun B σ G H ad R C c =>
  ho B σ G H ad R _ fun v G1 H1 X1 r1 => by
    refine ⟨by cases r1; exact ⟨_, rfl⟩, hb B σ G1 H1 ad (R.ext X1) _ fun w G2 H2 X2 r2 => ?_⟩
    exact hr B σ G2 H2 ad ((R.ext X1).ext X2) v [w] (r1.mono X2.gg) (.cons r2 .nil) C fun u G3 H3 X3 r3 => c u G3 H3 ((X1.trans X2).trans X3) r3
theorem am_find {s : List Nat} {ch : Nat} : AM K (fun x xs H Q => ∃ a b, x = .str a ∧ xs = [.str b] ∧ Q (.int (Txt.find a b)) H) (.d (.str s)) [.d (.str [ch])] e (.d (.int (match pos ch s with | some i => (i : Int) | none => -1))) := fun B σ G H ad R v vs rv rvs C c => by
  cases rv
  cases rvs with
  | cons h1 h2 =>
    cases h2
    cases h1
    refine ⟨sOf s, sOf [ch], rfl, rfl, ?_⟩
    rw [find_sign]
    exact c _ G H (Xt.refl R.gh) RD.int
theorem am_index {s : List Nat} {ch i : Nat} (hi : pos ch s = some i) : AM K (fun x xs H Q => ∃ a b i rest, x = .str a ∧ xs = [.str b] ∧ Builtin.Str.occurrences a b 0 a.length 1 = i :: rest ∧ Q (.int (i : Nat)) H) (.d (.str s)) [.d (.str [ch])] e (.d (.int (i : Nat))) := fun B σ G H ad R v vs rv rvs C c => by
  cases rv
  cases rvs with
  | cons h1 h2 =>
    cases h2
    cases h1
    rcases occ_sign s ch with ⟨k1, k2⟩ | ⟨j, r, k1, k2⟩
    · rw [hi] at k1
      cases k1
    · rw [hi] at k1
      cases k1
      exact ⟨sOf s, sOf [ch], i, r, rfl, rfl, k2, c _ G H (Xt.refl R.gh) RD.int⟩
theorem am_join {s : List Nat} {xs : List (List Nat)} (hz : (xs.map (·.length)).sum + xs.length * s.length ≤ 1000000) :
    AM K (fun x xs H Q => ∃ a p, ∃ ys : List Str, x = .str a ∧ xs = [.ref p] ∧ (SqL K H p (ys.map V.str) ∨ SqT K H p (ys.map V.str)) ∧ (ys.map (·.length)).sum + ys.length * a.length ≤ 16777216 ∧ Q (.str (Txt.join a ys)) H)
      (.d (.str s)) [.d (.lst (xs.map .str))] e (.d (.str (TL.joinL s xs))) := fun B σ G H ad R v vs rv rvs C c => by
  cases rv
  cases rvs with
  | cons h1 h2 =>
    cases h2
    cases h1 with
    | lst hq rd =>
      have e1 := RD.strs rd
      refine ⟨sOf s, _, xs.map sOf, rfl, rfl, .inl (.inl (.inl ?_)), ?_, ?_⟩
      · rw [List.map_map]
        have : (V.str ∘ sOf) = fun x => V.str (sOf x) := rfl
        rw [this, ← e1]
        exact R.gh _ _ hq
      · rw [List.map_map, List.length_map, sOf_len]
        have : (fun x : Str => x.length) ∘ sOf = fun x : List Nat => x.length := by
          funext l
          exact sOf_len l
        rw [this]
        omega
      · rw [tl_join']
        exact c _ G H (Xt.refl R.gh) RD.str
/-- the same of an own list -/
theorem am_joinO {s : List Nat} {xs : List (List Nat)} {k : Nat} (hk : e.m[k]? = some (some (xs.map .str))) (hz : (xs.map (·.length)).sum + xs.length * s.length ≤ 1000000) :
    AM K (fun x xs H Q => ∃ a p, ∃ ys : List Str, x = .str a ∧ xs = [.ref p] ∧ (SqL K H p (ys.map V.str) ∨ SqT K H p (ys.map V.str)) ∧ (ys.map (·.length)).sum + ys.length * a.length ≤ 16777216 ∧ Q (.str (Txt.join a ys)) H)
      (.d (.str s)) [.o k] e (.d (.str (TL.joinL s xs))) := fun B σ G H ad R v vs rv rvs C c => by
  cases rv
  cases rvs with
  | cons h1 h2 =>
    cases h2
    obtain ⟨l, hl, rfl⟩ := h1
    obtain ⟨_, _, vs, hq, rd⟩ := R.op k l _ hl hk
    have e1 := RD.strs rd
    refine ⟨sOf s, _, xs.map sOf, rfl, rfl, .inl (.inl (.inl ?_)), ?_, ?_⟩
    · rw [List.map_map]
      have : (V.str ∘ sOf) = fun x => V.str (sOf x) := rfl
      rw [this, ← e1]
      exact hq
    · rw [List.map_map, List.length_map, sOf_len]
      have : (fun x : Str => x.length) ∘ sOf = fun x : List Nat => x.length := by
        funext l
        exact sOf_len l
      rw [this]
      omega
    · rw [tl_join']
      exact c _ G H (Xt.refl R.gh) RD.str

/-! ### places -/
theorem atI_len {α β : Type} {xs : List α} {ys : List β} (h : xs.length = ys.length) (i : Int) : (atI xs i).isSome = (atI ys i).isSome := by
  unfold atI
  rw [h]
  cases q : ixN ys.length i with
  | none => rfl
  | some j =>
    show (xs[j]?).isSome = (ys[j]?).isSome
    have hj := (ixN_seq q).2.1
    rw [List.getElem?_eq_getElem (by omega), List.getElem?_eq_getElem hj]
    rfl
theorem RDs.atI {G : Hp} {vs : List V} {ds : List D} {i : Int} {d : D} (h : RDs K G vs ds) (q : atI ds i = some d) : ∃ v, L2.atI vs i = some v ∧ RD K G v d := by
  unfold L2.atI at q ⊢
  rw [h.length]
  cases z : ixN ds.length i with
  | none =>
    rw [z] at q
    cases q
  | some j =>
    rw [z] at q
    obtain ⟨v, h1, h2⟩ := h.get (show ds[j]? = some d from q)
    exact ⟨v, h1, h2⟩
theorem a2_ixL {ds : List D} {i : Int} {d : D} (h : atI ds i = some d) : A2 K (rIxL K) (.d (.lst ds)) (.d (.int i)) e (.d d) := fun B σ G H ad R v w rv rw C c => by
  cases rw
  cases rv with
  | lst hq rd =>
    obtain ⟨u, h1, h2⟩ := rd.atI h
    exact ⟨_, _, i, u, rfl, rfl, .inl (.inl (R.gh _ _ hq)), h1, c _ G H (Xt.refl R.gh) h2⟩
theorem a2_ixO {k : Nat} {ds : List D} {i : Int} {d : D} (hk : e.m[k]? = some (some ds)) (h : atI ds i = some d) : A2 K (rIxL K) (.o k) (.d (.int i)) e (.d d) := fun B σ G H ad R v w rv rw C c => by
  cases rw
  obtain ⟨l, hl, rfl⟩ := rv
  obtain ⟨_, _, vs, hq, rd⟩ := R.op k l _ hl hk
  obtain ⟨u, h1, h2⟩ := rd.atI h
  exact ⟨_, _, i, u, rfl, rfl, .inl (.inl hq), h1, c _ G H (Xt.refl R.gh) h2⟩
theorem a2_ixT {ds : List D} {i : Int} {d : D} (h : atI ds i = some d) : A2 K (rIxT K) (.d (.tup ds)) (.d (.int i)) e (.d d) := fun B σ G H ad R v w rv rw C c => by
  cases rw
  cases rv with
  | tup hq rd =>
    obtain ⟨u, h1, h2⟩ := rd.atI h
    exact ⟨_, _, i, u, rfl, rfl, seqT R.gh hq, h1, c _ G H (Xt.refl R.gh) h2⟩
theorem a2_ixS {s : List Nat} {i : Int} {ch : Nat} (hl : s.length ≤ 1000000) (h : atI s i = some ch) : A2 K rIxS (.d (.str s)) (.d (.int i)) e (.d (.str [ch])) := fun B σ G H ad R v w rv rw C c => by
  cases rw
  cases rv
  exact ⟨sOf s, i, ch, rfl, rfl, sz_of (by rw [sOf_len]; exact hl), h, c _ G H (Xt.refl R.gh) (RD.str (s := [ch]))⟩

/-! ### slices -/
def cutG {α : Type} (xs : List α) (lo hi : Option Int) : List α := (xs.drop (HT.sIx xs.length 0 lo)).take (HT.sIx xs.length xs.length hi - HT.sIx xs.length 0 lo)
def AO (K : PySem.W.Frag) (to : TO) (e : Env) (o : Option Int) : Prop := ∀ (B : Bs) (σ : L2.St) (G H : Hp) (ad : List Addr), Rep K B e σ G H ad → ∀ C : Option Int → Hp → Prop, (∀ G' H', Xt G H G' H' → C o H') → to σ H C
theorem ao_none : AO K tNoPart e none := fun B σ G H ad R C c => c G H (Xt.refl R.gh)
theorem ao_some {i : Int} (h : AE K te e (.d (.int i))) : AO K (tPart te) e (some i) := fun B σ G H ad R C c =>
  h B σ G H ad R _ fun v G1 H1 X1 r1 => by
    cases r1
    exact ⟨i, rfl, c G1 H1 X1⟩
theorem RDs.cut {G : Hp} {vs : List V} {ds : List D} (h : RDs K G vs ds) (lo hi : Option Int) : RDs K G (cutV vs lo hi) (cutG ds lo hi) := by
  unfold cutV cutG
  rw [h.length]
  exact (h.drop _).take _
theorem an_slL {tl th : TO} {ds : List D} {lo hi : Option Int} (h : AE K te e (.d (.lst ds))) (h1 : AO K tl e lo) (h2 : AO K th e hi) : AN K (tSl (rSlL K) te tl th) e (cutG ds lo hi) := fun B σ G H ad R C c =>
  h B σ G H ad R _ fun v G1 H1 X1 r1 => h1 B σ G1 H1 ad (R.ext X1) _ fun G2 H2 X2 => h2 B σ G2 H2 ad ((R.ext X1).ext X2) _ fun G3 H3 X3 => by
    cases r1 with
    | lst hq rd =>
      have X := (X1.trans X2).trans X3
      refine ⟨_, _, rfl, .inl (.inl (X3.hh _ _ (X2.hh _ _ (X1.gh _ _ hq)))), fun p hp => ?_⟩
      exact c p _ G3 _ (X.trans (Xt.drop X3.gh hp)) (Same.none X.hh hp) (Same.none X3.gh hp) upd_same ((rd.mono (X2.trans X3).gg).cut lo hi)
theorem an_slO {tl th : TO} {k : Nat} {ds : List D} {lo hi : Option Int} (hk : e.m[k]? = some (some ds)) (h : AE K te e (.o k)) (h1 : AO K tl e lo) (h2 : AO K th e hi) : AN K (tSl (rSlL K) te tl th) e (cutG ds lo hi) := fun B σ G H ad R C c =>
  h B σ G H ad R _ fun v G1 H1 X1 r1 => h1 B σ G1 H1 ad (R.ext X1) _ fun G2 H2 X2 => h2 B σ G2 H2 ad ((R.ext X1).ext X2) _ fun G3 H3 X3 => by
    obtain ⟨l, hl, rfl⟩ := r1
    obtain ⟨_, _, vs, hq, rd⟩ := (((R.ext X1).ext X2).ext X3).op k l _ hl hk
    have X := (X1.trans X2).trans X3
    refine ⟨_, _, rfl, .inl (.inl hq), fun p hp => ?_⟩
    exact c p _ G3 _ (X.trans (Xt.drop X3.gh hp)) (Same.none X.hh hp) (Same.none X3.gh hp) upd_same (rd.cut lo hi)
theorem cutS_sOf (s : List Nat) (lo hi : Option Int) : cutS (sOf s) lo hi = sOf (cutG s lo hi) := by
  unfold cutS cutG
  rw [sOf_len]
theorem ae_slS {tl th : TO} {s : List Nat} {lo hi : Option Int} (h : AE K te e (.d (.str s))) (hz : s.length ≤ 1000000) (h1 : AO K tl e lo) (h2 : AO K th e hi) : AE K (tSl rSlS te tl th) e (.d (.str (cutG s lo hi))) := fun B σ G H ad R C c =>
  h B σ G H ad R _ fun v G1 H1 X1 r1 => h1 B σ G1 H1 ad (R.ext X1) _ fun G2 H2 X2 => h2 B σ G2 H2 ad ((R.ext X1).ext X2) _ fun G3 H3 X3 => by
    cases r1
    refine ⟨sOf s, rfl, sz_of (by rw [sOf_len]; exact hz), ?_⟩
    rw [cutS_sOf]
    exact c _ G3 H3 ((X1.trans X2).trans X3) RD.str

/-! ### calls of built-ins -/
theorem rv1 {G : Hp} {ad : List Addr} {vs : List V} {a : A} (h : RepVs K G ad vs [a]) : ∃ v, vs = [v] ∧ RepV K G ad v a := by
  cases h with
  | cons q r => cases r; exact ⟨_, rfl, q⟩
theorem rv2 {G : Hp} {ad : List Addr} {vs : List V} {a b : A} (h : RepVs K G ad vs [a, b]) : ∃ v w, vs = [v, w] ∧ RepV K G ad v a ∧ RepV K G ad w b := by
  cases h with
  | cons q r =>
    obtain ⟨w, rfl, q2⟩ := rv1 r
    exact ⟨_, _, rfl, q, q2⟩
abbrev rLenG (K : PySem.W.Frag) : List V → Hp → VK → Prop := fun xs H Q => ∃ x n, xs = [x] ∧ LenV K x H n ∧ Q (.int n) H
theorem ac_lenL {ds : List D} : AC K (rLenG K) [.d (.lst ds)] e (.d (.int ds.length)) := fun B σ G H ad R vs rv C c => by
  obtain ⟨v, rfl, rw⟩ := rv1 rv
  cases rw with
  | lst hq rd => exact ⟨_, ds.length, rfl, .inl ⟨_, .inl (.inl (R.gh _ _ hq)), rd.length.symm⟩, c _ G H (Xt.refl R.gh) RD.int⟩
theorem ac_lenT {ds : List D} : AC K (rLenG K) [.d (.tup ds)] e (.d (.int ds.length)) := fun B σ G H ad R vs rv C c => by
  obtain ⟨v, rfl, rw⟩ := rv1 rv
  cases rw with
  | tup hq rd => exact ⟨_, ds.length, rfl, .inr ⟨_, seqT R.gh hq, rd.length.symm⟩, c _ G H (Xt.refl R.gh) RD.int⟩
theorem ac_lenO {k : Nat} {ds : List D} (hk : e.m[k]? = some (some ds)) : AC K (rLenG K) [.o k] e (.d (.int ds.length)) := fun B σ G H ad R vs rv C c => by
  obtain ⟨v, rfl, l, hl, rfl⟩ := rv1 rv
  obtain ⟨_, _, vs, hq, rd⟩ := R.op k l _ hl hk
  exact ⟨_, ds.length, rfl, .inl ⟨_, .inl (.inl hq), rd.length.symm⟩, c _ G H (Xt.refl R.gh) RD.int⟩
theorem ac_lenS {s : List Nat} (hz : s.length ≤ 1000000) : AC K (rLenG K) [.d (.str s)] e (.d (.int s.length)) := fun B σ G H ad R vs rv C c => by
  obtain ⟨v, rfl, rw⟩ := rv1 rv
  cases rw
  exact ⟨_, s.length, rfl, ⟨sz_of (by rw [sOf_len]; exact hz), (sOf_len s).symm⟩, c _ G H (Xt.refl R.gh) RD.int⟩
theorem ac_intB {b : Bool} : AC K (fun xs H Q => (∃ i, xs = [.int i] ∧ Q (.int i) H) ∨ ∃ k, xs = [.bl k] ∧ Q (.int (if k then 1 else 0)) H) [.d (.bl b)] e (.d (.int (if b = true then 1 else 0))) := fun B σ G H ad R vs rv C c => by
  obtain ⟨v, rfl, rw⟩ := rv1 rv
  cases rw
  exact .inr ⟨b, rfl, c _ G H (Xt.refl R.gh) RD.int⟩
theorem ac_intI {b : Int} : AC K (fun xs H Q => (∃ i, xs = [.int i] ∧ Q (.int i) H) ∨ ∃ k, xs = [.bl k] ∧ Q (.int (if k then 1 else 0)) H) [.d (.int b)] e (.d (.int b)) := fun B σ G H ad R vs rv C c => by
  obtain ⟨v, rfl, rw⟩ := rv1 rv
  cases rw
  exact .inl ⟨b, rfl, c _ G H (Xt.refl R.gh) RD.int⟩
theorem ac_min2 {i j : Int} : AC K (fun xs H Q => ∃ i j, xs = [.int i, .int j] ∧ Q (.int (if j < i then j else i)) H) [.d (.int i), .d (.int j)] e (.d (.int (if j < i then j else i))) := fun B σ G H ad R vs rv C c => by
  obtain ⟨v, w, rfl, ru, rw⟩ := rv2 rv
  cases ru
  cases rw
  exact ⟨i, j, rfl, c _ G H (Xt.refl R.gh) RD.int⟩
abbrev rListG (K : PySem.W.Frag) : List V → Hp → VK → Prop := fun xs H Q => ∃ p ys, xs = [.ref p] ∧ (SqL K H p ys ∨ SqT K H p ys) ∧ ∀ l, H l = none → Q (.ref l) (upd H l (.lst ys))
theorem nc_list {ds : List D} : NC K (rListG K) [.d (.lst ds)] e ds := fun B σ G H ad R vs rv C c => by
  obtain ⟨v, rfl, rw⟩ := rv1 rv
  cases rw with
  | lst hq rd => exact ⟨_, _, rfl, .inl (.inl (.inl (R.gh _ _ hq))), fun l hl => c l _ G _ (Xt.drop R.gh hl) hl (Same.none R.gh hl) upd_same rd⟩
theorem nc_listO {k : Nat} {ds : List D} (hk : e.m[k]? = some (some ds)) : NC K (rListG K) [.o k] e ds := fun B σ G H ad R vs rv C c => by
  obtain ⟨v, rfl, l, hl, rfl⟩ := rv1 rv
  obtain ⟨_, _, vs, hq, rd⟩ := R.op k l _ hl hk
  exact ⟨_, _, rfl, .inl (.inl (.inl hq)), fun l hl => c l _ G _ (Xt.drop R.gh hl) hl (Same.none R.gh hl) upd_same rd⟩
/-- list + list, both tracked -/
theorem n2_cat {xs ys : List D} (hz : xs.length + ys.length ≤ 1000000) : N2 K rCat (.d (.lst xs)) (.d (.lst ys)) e (xs ++ ys) := fun B σ G H ad R v w rv rw C c => by
  cases rv with
  | lst hq rd =>
    cases rw with
    | lst hq2 rd2 =>
      refine ⟨_, _, _, _, rfl, rfl, R.gh _ _ hq, R.gh _ _ hq2, sz_of (by rw [rd.length, rd2.length]; exact hz), fun p hp => ?_⟩
      exact c p _ G _ (Xt.drop R.gh hp) hp (Same.none R.gh hp) upd_same (rd.append rd2)
/-- [..] * k -/
theorem n2_rep {xs : List D} {k : Int} (h0 : -(2 ^ 63) ≤ k) (h1 : k < 2 ^ 63) (hz : xs.length * k.toNat ≤ 1000000) : N2 K rRep (.d (.lst xs)) (.d (.int k)) e (List.replicate k.toNat xs).flatten := fun B σ G H ad R v w rv rw C c => by
  cases rw
  cases rv with
  | lst hq rd =>
    refine ⟨_, k, _, rfl, rfl, R.gh _ _ hq, h0, h1, sz_of (by rw [rd.length]; exact hz), fun p hp => ?_⟩
    refine c p _ G _ (Xt.drop R.gh hp) hp (Same.none R.gh hp) upd_same ?_
    generalize k.toNat = n
    induction n with
    | zero => exact .nil
    | succ n ih =>
      rw [List.replicate_succ, List.replicate_succ, List.flatten_cons, List.flatten_cons]
      exact rd.append ih

/-! ### isinstance -/
theorem ae_ty {n : String} : AE K (tC (.ty n)) e (.p fun v _ => v = .ty n) := fun B σ G H ad R C c => c _ G H (Xt.refl R.gh) fun _ _ => rfl
def tyD : D → String
  | .non => "NoneType"
  | .bl _ => "bool"
  | .int _ => "int"
  | .str _ => "str"
  | .lst _ => "list"
  | .tup _ => "tuple"
theorem tyX_of {G H : Hp} {v : V} {d : D} (h : RD K G v d) (s : Same G H) : TyX K H v (.type (tyD d)) := by
  cases h with
  | non => exact .base .non
  | bl => exact .base (.bl _)
  | int => exact .base (.int _)
  | str => exact .base (.str _)
  | lst hq rd => exact .base (.lst (s _ _ hq))
  | tup hq rd =>
    rcases hq with (hq | ⟨o, hq⟩) | ⟨o, its, n, h1, h2, _⟩
    · exact .base (.tup (s _ _ hq))
    · exact .fTuple (s _ _ hq)
    · exact .kTuple h1 h2
theorem ac_isi {d : D} {n : String} {b : Bool} (h : kitB (tyD d) n = some b) : AC K (rIsi K) [.d d, .p fun v _ => v = .ty n] e (.d (.bl b)) := fun B σ G H ad R vs rv C c => by
  obtain ⟨v, w, rfl, ru, rw⟩ := rv2 rv
  have e1 : w = .ty n := rw G (Same.refl _)
  subst e1
  exact ⟨v, .ty n, _, _, b, rfl, .ty n, tyX_of ru R.gh, kit_ty h, c _ G H (Xt.refl R.gh) RD.bl⟩
theorem ac_isiO {k : Nat} {ds : List D} (hk : e.m[k]? = some (some ds)) {n : String} {b : Bool} (h : kitB "list" n = some b) : AC K (rIsi K) [.o k, .p fun v _ => v = .ty n] e (.d (.bl b)) := fun B σ G H ad R vs rv C c => by
  obtain ⟨v, w, rfl, ru, rw⟩ := rv2 rv
  obtain ⟨l, hl, rfl⟩ := ru
  obtain ⟨_, _, vs, hq, rd⟩ := R.op k l _ hl hk
  have e1 : w = .ty n := rw G (Same.refl _)
  subst e1
  exact ⟨_, .ty n, _, _, b, rfl, .ty n, .base (.lst hq), kit_ty h, c _ G H (Xt.refl R.gh) RD.bl⟩

/-! ### truth of a list, a text, a number -/
theorem at_tr {d : D} {b : Bool} (h : AE K te e (.d d)) (hb : ∀ G H v, Same G H → RD K G v d → TruV K v H b) : AT K (fun σ H Q => te σ H fun x H' => ∃ k, TruV K x H' k ∧ Q k H') e b := fun B σ G H ad R C c =>
  h B σ G H ad R _ fun v G1 H1 X1 r1 => ⟨b, hb G1 H1 v X1.gh r1, c G1 H1 X1⟩
theorem at_trL {ds : List D} (h : AE K te e (.d (.lst ds))) : AT K (fun σ H Q => te σ H fun x H' => ∃ k, TruV K x H' k ∧ Q k H') e (!ds.isEmpty) := at_tr h fun G H v s r => by
  cases r with
  | lst hq rd =>
    refine .inl ⟨_, .inl (.inl (s _ _ hq)), ?_⟩
    cases rd <;> rfl
theorem at_trO {k : Nat} {ds : List D} (hk : e.m[k]? = some (some ds)) (h : AE K te e (.o k)) : AT K (fun σ H Q => te σ H fun x H' => ∃ k, TruV K x H' k ∧ Q k H') e (!ds.isEmpty) := fun B σ G H ad R C c =>
  h B σ G H ad R _ fun v G1 H1 X1 r1 => by
    obtain ⟨l, hl, rfl⟩ := r1
    obtain ⟨_, _, vs, hq, rd⟩ := (R.ext X1).op k l _ hl hk
    refine ⟨!ds.isEmpty, .inl ⟨_, .inl (.inl hq), ?_⟩, c G1 H1 X1⟩
    cases rd <;> rfl
theorem at_trI {i : Int} (h : AE K te e (.d (.int i))) : AT K (fun σ H Q => te σ H fun x H' => ∃ k, TruV K x H' k ∧ Q k H') e (i != 0) := at_tr h fun G H v s r => by
  cases r
  rfl
theorem at_trN {d : D} (h : AE K te e (.d d)) (hd : (match d with | .non => false | .tup [] => false | .lst _ => false | .str _ => false | .bl _ => false | .int _ => false | _ => true) = true) : AT K (fun σ H Q => te σ H fun x H' => ∃ k, TruV K x H' k ∧ Q k H') e true := at_tr h fun G H v s r => by
  cases r with
  | tup hq rd =>
    refine .inr (.inl ⟨_, seqT s hq, ?_⟩)
    cases rd with
    | nil => cases hd
    | cons _ _ => rfl
  | _ => cases hd
end

/-! ### == of any data -/
mutual
def D.py : D → PyData
  | .non => .none
  | .bl b => .bool b
  | .int i => .int i
  | .str s => .str (sOf s)
  | .lst ds => .list (D.pys ds)
  | .tup ds => .tuple (D.pys ds)
def D.pys : List D → List PyData
  | [] => []
  | d :: r => D.py d :: D.pys r
end
mutual
theorem RD.dp {K : PySem.W.Frag} {G : Hp} : ∀ {v : V} {d : D}, RD K G v d → Dp K G v d.py
  | _, _, .non => .non
  | _, _, .bl => .bl _
  | _, _, .int => .int _
  | _, _, .str => .str _
  | _, _, .lst h r => .lst (.inl (.inl h)) (RDs.dp r)
  | _, _, .tup h r => .tup h (RDs.dp r)
theorem RDs.dp {K : PySem.W.Frag} {G : Hp} : ∀ {v : List V} {d : List D}, RDs K G v d → DpAll K G v (D.pys d)
  | _, _, .nil => .nil
  | _, _, .cons h r => .cons (RD.dp h) (RDs.dp r)
end
/-- data that == can compare -/
def okD (d : D) : Prop := SeqAt.shaped d.py = true
theorem a2_eqD {K : PySem.W.Frag} {e : Env} {p q : D} (hp : okD p) (hq : okD q) : A2 K (rEqD K) (.d p) (.d q) e (.d (.bl (PyData.eqv p.py q.py))) := fun B σ G H ad R v w rv rw C c =>
  ⟨p.py, q.py, (RD.mono R.gh rv).dp, (RD.mono R.gh rw).dp, hp, hq, c _ G H (Xt.refl R.gh) RD.bl⟩
theorem a2_neD {K : PySem.W.Frag} {e : Env} {p q : D} (hp : okD p) (hq : okD q) : A2 K (rNeD K) (.d p) (.d q) e (.d (.bl (!PyData.eqv p.py q.py))) := fun B σ G H ad R v w rv rw C c =>
  ⟨p.py, q.py, (RD.mono R.gh rv).dp, (RD.mono R.gh rw).dp, hp, hq, c _ G H (Xt.refl R.gh) RD.bl⟩
theorem eqv_same {d : D} (h : okD d) : PyData.eqv d.py d.py = true := SeqAt.eqv_refl _ (SeqAt.canLay_of_shaped h)
theorem a2_eqSame {K : PySem.W.Frag} {e : Env} {p : D} (hp : okD p) : A2 K (rEqD K) (.d p) (.d p) e (.d (.bl true)) := eqv_same hp ▸ a2_eqD hp hp
theorem a2_neSame {K : PySem.W.Frag} {e : Env} {p : D} (hp : okD p) : A2 K (rNeD K) (.d p) (.d p) e (.d (.bl false)) := by
  have h := a2_neD (K := K) (e := e) hp hp
  rw [eqv_same hp] at h
  exact h
end Ab
namespace Ab
open PySem PySem.Spec PyProof.Rows L2

/-! ### promises -/
/-- a value, nothing changed -/
def SpF (K : PySem.W.Frag) (R : List A → A → Prop) : Sp := fun vs H Q _ => ∃ G as r, Same G H ∧ RepVs K G [] vs as ∧ R as r ∧ ∀ v G' H', Xt G H G' H' → RepV K G' [] v r → Q v H'
/-- a new list, nothing changed -/
def SpN (K : PySem.W.Frag) (R : List A → List D → Prop) : Sp := fun vs H Q _ => ∃ G as ds, Same G H ∧ RepVs K G [] vs as ∧ R as ds ∧
  ∀ p ws G' H', Xt G H G' H' → H p = none → G' p = none → H' p = some (.lst ws) → RDs K G' ws ds → Q (.ref p) H'
/-- one own list of the caller's is changed (it is .o 0 among the arguments) -/
def Sp1 (K : PySem.W.Frag) (R : List A → List D → A → List D → Prop) : Sp := fun vs H Q _ => ∃ G l as xs ds r ds', Same G H ∧ RepVs K G [l] vs as ∧ G l = none ∧ H l = some (.lst xs) ∧ RDs K G xs ds ∧ R as ds r ds' ∧
  ∀ v G' H' xs', Same G G' → Same G' H' → (∀ a o, H a = some o → a ≠ l → H' a = some o) → (∀ a, G' a ≠ none → G a ≠ none ∨ H a = none) → H' l = some (.lst xs') → RDs K G' xs' ds' → RepV K G' [] v r → Q v H'

def noO : A → Bool
  | .o _ => false
  | _ => true
theorem RepV.any {K : PySem.W.Frag} {G : Hp} {ad ad' : List Addr} {v : V} {a : A} (h : RepV K G ad v a) (n : noO a = true) : RepV K G ad' v a := by
  cases a with
  | o k => cases n
  | no => trivial
  | d x => exact h
  | p φ => exact h
theorem RepVs.any {K : PySem.W.Frag} {G : Hp} {ad ad' : List Addr} : ∀ {vs : List V} {as : List A}, RepVs K G ad vs as → as.all noO = true → RepVs K G ad' vs as
  | _, _, .nil, _ => .nil
  | _, _, .cons h r, n => by
    rw [List.all_cons, Bool.and_eq_true] at n
    exact .cons (h.any n.1) (RepVs.any r n.2)
section
variable {K : PySem.W.Frag} {e : Env} {ta : TA} {as : List A} {E : XK}
theorem ae_call {R : List A → A → Prop} {r : A} (h : AL K ta e as) (hn : as.all noO = true := by rfl) (hr : R as r) (nr : noO r = true := by rfl) : AE K (tCall (SpF K R) [] E ta) e r := fun B σ G H ad Rp C c =>
  h B σ G H ad Rp _ fun vs G1 H1 X1 rv => ⟨G1, as, r, X1.gh, by rw [List.append_nil]; exact rv.any hn, hr, fun v G2 H2 X2 rv2 => c v G2 H2 (X1.trans X2) (rv2.any nr)⟩
theorem an_call {R : List A → List D → Prop} {ds : List D} (h : AL K ta e as) (hn : as.all noO = true := by rfl) (hr : R as ds) : AN K (tCall (SpN K R) [] E ta) e ds := fun B σ G H ad Rp C c =>
  h B σ G H ad Rp _ fun vs G1 H1 X1 rv => ⟨G1, as, ds, X1.gh, by rw [List.append_nil]; exact rv.any hn, hr, fun p ws G2 H2 X2 hp gp hq rd => c p ws G2 H2 (X1.trans X2) (Same.none X1.hh hp) gp hq rd⟩
/-- one own list handed over -/
def toO (k : Nat) : A → A
  | .o j => if j = k then .o 0 else .no
  | a => a
theorem RepV.one {K : PySem.W.Frag} {G : Hp} {ad : List Addr} {v : V} {a : A} {k : Nat} {l : Addr} (hl : ad[k]? = some l) (h : RepV K G ad v a) : RepV K G [l] v (toO k a) := by
  cases a with
  | no => trivial
  | d x => exact h
  | p φ => exact h
  | o j =>
    show RepV K G [l] v (if j = k then .o 0 else .no)
    by_cases hj : j = k
    · rw [if_pos hj]
      subst hj
      obtain ⟨m, h1, h2⟩ := h
      rw [hl] at h1
      cases h1
      exact ⟨l, rfl, h2⟩
    · rw [if_neg hj]
      trivial
theorem RepVs.one {K : PySem.W.Frag} {G : Hp} {ad : List Addr} {k : Nat} {l : Addr} (hl : ad[k]? = some l) : ∀ {vs : List V} {as : List A}, RepVs K G ad vs as → RepVs K G [l] vs (as.map (toO k))
  | _, _, .nil => .nil
  | _, _, .cons h r => .cons (h.one hl) (RepVs.one hl r)
theorem ax_call1 {R : List A → List D → A → List D → Prop} (k : Nat) {ds ds' : List D} {r : A} {Q : A → Env → Prop} (h : AL K ta e as) (hk : e.m[k]? = some (some ds)) (hr : R (as.map (toO k)) ds r ds') (nr : noO r = true := by rfl) (q : Q r (e.put k ds')) :
    AX K (tCall (Sp1 K R) [] E ta) e Q := fun B σ G H ad Rp C c =>
  h B σ G H ad Rp _ fun vs G1 H1 X1 rv => by
    have R1 := Rp.ext X1
    have hkl : k < ad.length := by
      rw [Rp.al]
      exact (List.getElem?_eq_some_iff.mp hk).1
    obtain ⟨l, hl⟩ : ∃ l, ad[k]? = some l := ⟨_, List.getElem?_eq_getElem hkl⟩
    obtain ⟨g0, how, xs, hq, rd⟩ := R1.op k l ds hl hk
    refine ⟨G1, l, _, xs, ds, r, ds', X1.gh, by rw [List.append_nil]; exact rv.one hl, g0, hq, rd, hr, fun v G2 H2 xs2 s1 s2 s3 s4 hq2 rd2 rv2 => ?_⟩
    -- the state with l left out, then l put back
    have R2 : Rep K B (e.put k ds') σ G2 H2 ad := by
      have hs : Same G2 H2 := s2
      have gl : G2 l = none := by
        cases z : G2 l with
        | none => rfl
        | some o =>
          rcases s4 l (by rw [z]; exact fun y => nomatch y) with q1 | q1
          · exact absurd g0 q1
          · rw [hq] at q1
            cases q1
      exact {
        bg := R1.bg.trans s1
        gh := s2
        fr := fun a h => by
          rcases s4 a h with q1 | q1
          · exact R1.fr a q1
          · refine .inr ?_
            cases z : B.H a with
            | none => rfl
            | some o => exact absurd q1 (R1.nn a (by rw [z]; exact fun y => nomatch y))
        kp := fun a o h n => by
          have hne : a ≠ l := fun z => by
            subst z
            rcases how with q1 | q1
            · exact n q1
            · rw [q1] at h
              cases h
          exact s3 a o (R1.kp a o h n) hne
        nn := fun a h => by
          by_cases hne : a = l
          · subst hne
            rw [hq2]
            exact fun y => nomatch y
          · have q1 := R1.nn a h
            cases z : H1 a with
            | none => exact absurd z q1
            | some o =>
              rw [s3 a o z hne]
              exact fun y => nomatch y
        al := by
          show ad.length = (e.m.set k (some ds')).length
          rw [List.length_set, R1.al]
        nd := R1.nd
        ah := fun a h => by
          by_cases hne : a = l
          · subst hne
            rw [hq2]
            exact fun y => nomatch y
          · have q1 := R1.ah a h
            cases z : H1 a with
            | none => exact absurd z q1
            | some o =>
              rw [s3 a o z hne]
              exact fun y => nomatch y
        ow := R1.ow
        op := fun j b fs h1 h2 => by
          have h2 : (e.m.set k (some ds'))[j]? = some (some fs) := h2
          by_cases hj : k = j
          · subst hj
            rw [List.getElem?_set_self (List.getElem?_eq_some_iff.mp hk).1] at h2
            cases h2
            rw [hl] at h1
            cases h1
            exact ⟨gl, how, xs2, hq2, rd2⟩
          · rw [List.getElem?_set_ne hj] at h2
            obtain ⟨x1, x2, ws, x3, x4⟩ := R1.op j b fs h1 h2
            have nb : b ≠ l := fun z => by
              subst z
              exact hj (nd_ix R1.nd hl h1)
            refine ⟨?_, x2, ws, s3 b _ x3 nb, x4.mono s1⟩
            cases z : G2 b with
            | none => rfl
            | some o =>
              rcases s4 b (by rw [z]; exact fun y => nomatch y) with q1 | q1
              · exact absurd x1 q1
              · rw [x3] at q1
                cases q1
        sl := R1.sl
        st := fun i a h => by
          rcases R1.st i a h with q1 | ⟨u, q1, q2⟩
          · exact .inl q1
          · exact .inr ⟨u, q1, q2.mono s1⟩ }
    exact c r _ v G2 H2 ad q (X1.gg.trans s1) (List.prefix_refl _) R2 (rv2.any nr)
end

/-! ### a def's body -/
section
variable {K : PySem.W.Frag} {N : List Str} {vs : List V} {H : Hp} {Q : VK} {E : XK} {t : TS}
theorem start_get {N : List Str} {vs : List V} {i : Nat} {v : V} (h : vs[i]? = some v) : (L2.start N vs)[i]? = some (some v) := by
  unfold L2.start
  have hl := (List.getElem?_eq_some_iff.mp h).1
  rw [List.getElem?_append_left (by rw [List.length_map]; exact hl), List.getElem?_map, h]
  rfl
theorem start_len {N : List Str} {vs : List V} (h : vs.length ≤ N.length) : (L2.start N vs).length = N.length := by
  unfold L2.start
  rw [List.length_append, List.length_map, List.length_replicate]
  omega
def env0 (N : List Str) (as : List A) : List A := as ++ List.replicate (N.length - as.length) .no
theorem st0 {G : Hp} {ad : List Addr} {as : List A} (rv : RepVs K G ad vs as) (i : Nat) (a : A) (h : (env0 N as)[i]? = some a) : a = .no ∨ ∃ v, (L2.start N vs)[i]? = some (some v) ∧ RepV K G ad v a := by
  unfold env0 at h
  by_cases hi : i < as.length
  · rw [List.getElem?_append_left hi] at h
    obtain ⟨v, h1, h2⟩ := rv.get h
    exact .inr ⟨v, start_get h1, h2⟩
  · rw [List.getElem?_append_right (by omega), List.getElem?_replicate] at h
    split at h
    · exact .inl (Option.some.inj h).symm
    · cases h
theorem rep0 {G : Hp} {as : List A} (s : Same G H) (rv : RepVs K G [] vs as) (hN : as.length ≤ N.length) : Rep K ⟨G, H, []⟩ ⟨env0 N as, []⟩ (L2.start N vs) G H [] where
  bg := Same.refl _
  gh := s
  fr := fun a h => .inl h
  kp := fun a o h _ => h
  nn := fun a h => h
  al := rfl
  nd := List.nodup_nil
  ah := fun l h => absurd h (by simp)
  ow := List.prefix_refl _
  op := fun k l ds h _ => by cases h
  sl := by
    rw [start_len (by rw [rv.length]; exact hN)]
    unfold env0
    rw [List.length_append, List.length_replicate]
    show N.length = as.length + (N.length - as.length)
    omega
  st := st0 rv
/-- from the run's end: what a caller sees -/
theorem Rep.xt {B : Bs} {e : Env} {σ : L2.St} {G : Hp} {ad : List Addr} (R : Rep K B e σ G H ad) (hw : B.ow = []) : Xt B.G B.H G H :=
  ⟨R.bg, R.gh, fun a o h => R.kp a o h (by rw [hw]; simp), R.fr⟩
theorem run_F {R : List A → A → Prop} (h : SpF K R vs H Q E) (hb : ∀ as r, R as r → as.length ≤ N.length ∧ AS K 0 t ⟨fun _ => r = .d .non, fun a _ => a = r ∧ noO r = true, fun _ => False, fun _ => False⟩ ⟨env0 N as, []⟩) :
    t { nx := fun _ H' => Q .non H', rt := Q } (L2.start N vs) H := by
  obtain ⟨G, as, r, s, rv, hR, q⟩ := h
  obtain ⟨hN, hb⟩ := hb as r hR
  refine hb ⟨G, H, []⟩ rfl _ ⟨?_, ?_, fun _ _ _ _ _ z => z.elim, fun _ _ _ _ _ z => z.elim⟩ _ _ _ [] (rep0 s rv hN)
  · intro e σ G' H' ad hr R'
    exact q _ G' H' (R'.xt rfl) (by rw [hr]; exact RD.non)
  · rintro a e v σ G' H' ad ⟨rfl, n⟩ R' rv'
    exact q v G' H' (R'.xt rfl) (rv'.any n)
theorem run_N {R : List A → List D → Prop} (h : SpN K R vs H Q E) (hb : ∀ as ds, R as ds → as.length ≤ N.length ∧ AS K 0 t ⟨fun _ => False, fun a e => ∃ k, a = .o k ∧ e.m[k]? = some (some ds), fun _ => False, fun _ => False⟩ ⟨env0 N as, []⟩) :
    t { nx := fun _ H' => Q .non H', rt := Q } (L2.start N vs) H := by
  obtain ⟨G, as, r, s, rv, hR, q⟩ := h
  obtain ⟨hN, hb⟩ := hb as r hR
  refine hb ⟨G, H, []⟩ rfl _ ⟨fun _ _ _ _ _ z => z.elim, ?_, fun _ _ _ _ _ z => z.elim, fun _ _ _ _ _ z => z.elim⟩ _ _ _ [] (rep0 s rv hN)
  rintro a e v σ G' H' ad ⟨k, rfl, hk⟩ R' ⟨l, hl, rfl⟩
  obtain ⟨g0, how, ws, hq, rd⟩ := R'.op k l _ hl hk
  rcases how with z | z
  · exact absurd z (by simp)
  · exact q l ws G' H' (R'.xt rfl) z g0 hq rd
theorem run_1 {R : List A → List D → A → List D → Prop} (h : Sp1 K R vs H Q E) (hb : ∀ as ds r ds', R as ds r ds' → as.length ≤ N.length ∧ AS K 1 t ⟨fun e => r = .d .non ∧ e.m[0]? = some (some ds'), fun a e => a = r ∧ noO r = true ∧ e.m[0]? = some (some ds'), fun _ => False, fun _ => False⟩ ⟨env0 N as, [some ds]⟩) :
    t { nx := fun _ H' => Q .non H', rt := Q } (L2.start N vs) H := by
  obtain ⟨G, l, as, xs, ds, r, ds', s, rv, g0, hq, rd, hR, q⟩ := h
  obtain ⟨hN, hb⟩ := hb as ds r ds' hR
  have R0 : Rep K ⟨G, H, [l]⟩ ⟨env0 N as, [some ds]⟩ (L2.start N vs) G H [l] := {
    bg := Same.refl _
    gh := s
    fr := fun a h => .inl h
    kp := fun a o h _ => h
    nn := fun a h => h
    al := rfl
    nd := by simp
    ah := fun a h => by
      rw [List.mem_singleton.mp h, hq]
      exact fun y => nomatch y
    ow := List.prefix_refl _
    op := fun k b fs h1 h2 => by
      cases k with
      | zero =>
        cases h1
        cases h2
        exact ⟨g0, .inl (by simp), xs, hq, rd⟩
      | succ k => cases h1
    sl := by
      rw [start_len (by rw [rv.length]; exact hN)]
      unfold env0
      rw [List.length_append, List.length_replicate]
      show N.length = as.length + (N.length - as.length)
      omega
    st := st0 rv }
  have fin : ∀ e σ v G' H' ad, e.m[0]? = some (some ds') → Rep K ⟨G, H, [l]⟩ e σ G' H' ad → RepV K G' [] v r → Q v H' := by
    intro e σ v G' H' ad hm R' rv'
    have h0 : ad[0]? = some l := by
      obtain ⟨tl, e1⟩ := R'.ow
      rw [← e1]
      rfl
    obtain ⟨_, _, ws, hq', rd'⟩ := R'.op 0 l ds' h0 hm
    exact q v G' H' ws R'.bg R'.gh (fun a o h n => R'.kp a o h (by simp [n])) R'.fr hq' rd' rv'
  refine hb ⟨G, H, [l]⟩ rfl _ ⟨?_, ?_, fun _ _ _ _ _ z => z.elim, fun _ _ _ _ _ z => z.elim⟩ _ _ _ [l] R0
  · rintro e σ G' H' ad ⟨hr, hm⟩ R'
    exact fin e σ _ G' H' ad hm R' (by rw [hr]; exact RD.non)
  · rintro a e v σ G' H' ad ⟨rfl, n, hm⟩ R' rv'
    exact fin e σ v G' H' ad hm R' (rv'.any n)
end

/-! ### an own list read as data by an expression whose value is flat -/
theorem RD.flatG {K : PySem.W.Frag} {G G' : Hp} {v : V} {d : D} (h : RD K G v d) (hf : Ab.flat d = true) : RD K G' v d := by
  cases h with
  | lst _ _ => cases hf
  | tup _ _ => cases hf
  | non => exact .non
  | bl => exact .bl
  | int => exact .int
  | str => exact .str
theorem ae_thaw {K : PySem.W.Frag} {e : Env} {te : TE} {d : D} (k : Nat) {ds : List D} (hk : e.m[k]? = some (some ds)) (h : AE K te (e.frz k ds) (.d d)) (hf : flat d = true := by rfl) : AE K te e (.d d) := fun B σ G H ad R C c => by
  have hkl : k < ad.length := by
    rw [R.al]
    exact (List.getElem?_eq_some_iff.mp hk).1
  obtain ⟨l, hl⟩ : ∃ l, ad[k]? = some l := ⟨_, List.getElem?_eq_getElem hkl⟩
  obtain ⟨g0, how, vs, hq, rd⟩ := R.op k l ds hl hk
  have hkm : k < e.m.length := (List.getElem?_eq_some_iff.mp hk).1
  -- a base in which l is new
  have R2 : Rep K ⟨upd G l (.lst vs), H, ad⟩ (e.frz k ds) σ (upd G l (.lst vs)) H ad := by
    have sg : Same G (upd G l (.lst vs)) := same_new g0
    exact {
      bg := Same.refl _
      gh := fun b o q => by
        by_cases nb : b = l
        · subst nb
          rw [upd_same] at q
          rw [hq]
          exact q
        · rw [upd_ne nb] at q
          exact R.gh _ _ q
      fr := fun a h => .inl h
      kp := fun a o h _ => h
      nn := fun a h => h
      al := by
        show ad.length = (e.m.set k none).length
        rw [List.length_set, R.al]
      nd := R.nd
      ah := R.ah
      ow := List.prefix_refl _
      op := fun j b fs h1 h2 => by
        have h2 : (e.m.set k none)[j]? = some (some fs) := h2
        have hj : k ≠ j := fun z => by
          subst z
          rw [List.getElem?_set_self hkm] at h2
          cases h2
        rw [List.getElem?_set_ne hj] at h2
        obtain ⟨x1, x2, ws, x3, x4⟩ := R.op j b fs h1 h2
        have nb : b ≠ l := fun z => by
          subst z
          exact hj (nd_ix R.nd hl h1)
        exact ⟨by rw [upd_ne nb]; exact x1, .inl (List.mem_of_getElem? h1), ws, x3, x4.mono sg⟩
      sl := by
        show σ.length = (e.s.map (frzA k ds)).length
        rw [List.length_map, R.sl]
      st := fun i a q => by
        have q : (e.s.map (frzA k ds))[i]? = some a := q
        rw [List.getElem?_map] at q
        cases z : e.s[i]? with
        | none =>
          rw [z] at q
          cases q
        | some b =>
          rw [z] at q
          have q : frzA k ds b = a := Option.some.inj q
          subst q
          rcases R.st i b z with rfl | ⟨v, z1, z2⟩
          · exact .inl rfl
          · refine .inr ⟨v, z1, ?_⟩
            cases b with
            | no => trivial
            | d x => exact RD.mono sg z2
            | p φ => exact fun G2 e2 => z2 G2 (sg.trans e2)
            | o j =>
              unfold frzA
              by_cases hj : j = k
              · subst hj
                obtain ⟨b, y1, y2⟩ := z2
                rw [hl] at y1
                cases y1
                subst y2
                show RepV K _ ad _ (if j = j then A.d (.lst ds) else A.o j)
                rw [if_pos rfl]
                exact RD.lst upd_same (rd.mono sg)
              · show RepV K _ ad v (if j = k then A.d (.lst ds) else A.o j)
                rw [if_neg hj]
                exact z2 }
  refine h ⟨upd G l (.lst vs), H, ad⟩ σ (upd G l (.lst vs)) H ad R2 C fun v G' H' X rv => ?_
  exact c v G H' ⟨Same.refl _, R.gh.trans X.hh, X.hh, fun _ q => .inl q⟩ (RD.flatG rv hf)

/-! ### comprehensions -/
def Env.wipe (e : Env) : List Nat → Env
  | [] => e
  | v :: vs => (e.wipe vs).set v .no
theorem Rep.wipe {K : PySem.W.Frag} {B : Bs} {e : Env} {σ : L2.St} {G H : Hp} {ad : List Addr} (R : Rep K B e σ G H ad) : ∀ vs : List Nat, Rep K B (e.wipe vs) (L2.wipe σ vs) G H ad
  | [] => R
  | v :: vs => by
    have R1 := Rep.wipe R vs
    exact { R1 with
      sl := by
        show ((L2.wipe σ vs).set v none).length = ((e.wipe vs).s.set v .no).length
        rw [List.length_set, List.length_set]
        exact R1.sl
      st := fun j b q => by
        have q : ((e.wipe vs).s.set v .no)[j]? = some b := q
        by_cases hj : v = j
        · subst hj
          have hl : v < (e.wipe vs).s.length := by
            have := (List.getElem?_eq_some_iff.mp q).1
            rwa [List.length_set] at this
          rw [List.getElem?_set_self hl] at q
          exact .inl (Option.some.inj q).symm
        · rw [List.getElem?_set_ne hj] at q
          rcases R1.st j b q with z | ⟨w, z1, z2⟩
          · exact .inl z
          · refine .inr ⟨w, ?_, z2⟩
            show ((L2.wipe σ vs).set v none)[j]? = _
            rw [List.getElem?_set_ne hj]
            exact z1 }
/-- a comprehension's target: it stores in its own slots alone -/
def AGw (K : PySem.W.Frag) (g : TG) (d : D) (vs : List Nat) (e : Env) (e2 : Env) : Prop := ∀ (B : Bs) (σ : L2.St) (G H : Hp) (ad : List Addr), Rep K B (e.wipe vs) (L2.wipe σ vs) G H ad → ∀ v, RD K G v d → ∀ C : L2.St → Hp → Prop,
  (∀ σ', L2.wipe σ' vs = L2.wipe σ vs → Rep K B e2 σ' G H ad → C σ' H) → g v (L2.wipe σ vs) H C
theorem agw_name {K : PySem.W.Frag} {d : D} {j : Nat} {e : Env} : AGw K (gName j) d [j] e (e.set j (.d d)) := fun B σ G H ad R v rv C c => by
  refine c _ ?_ ?_
  · show (((σ.set j none).set j (some v)).set j none) = σ.set j none
    rw [List.set_set, List.set_set]
  · have R1 := R.set (i := j) (a := .d d) rv
    have : (e.wipe [j]).set j (.d d) = e.set j (.d d) := by
      show (⟨(e.s.set j .no).set j (.d d), e.m⟩ : Env) = ⟨e.s.set j (.d d), e.m⟩
      rw [List.set_set]
    rw [this] at R1
    exact R1
theorem agw_two {K : PySem.W.Frag} {d1 d2 : D} {i j : Nat} {e : Env} (hij : i ≠ j) : AGw K (gTup K 2 (gCons (gName i) (gCons (gName j) gNil))) (.tup [d1, d2]) [i, j] e ((e.set i (.d d1)).set j (.d d2)) := fun B σ G H ad R v rv C c => by
  cases rv with
  | tup hq rd =>
    cases rd with
    | cons r1 rd =>
      cases rd with
      | cons r2 rd =>
        cases rd
        refine ⟨_, _, rfl, seqT R.gh hq, rfl, _, _, rfl, _, _, rfl, rfl, ?_⟩
        refine c _ ?_ ?_
        · show ((((((σ.set j none).set i none).set i (some _)).set j (some _)).set j none).set i none) = (σ.set j none).set i none
          rw [List.set_set, List.set_set, List.set_comm _ _ hij.symm, List.set_set, List.set_comm _ _ hij, List.set_set]
        · have R1 := (R.set (i := i) (a := .d d1) r1).set (i := j) (a := .d d2) r2
          have : ((e.wipe [i, j]).set i (.d d1)).set j (.d d2) = (e.set i (.d d1)).set j (.d d2) := by
            show (⟨(((e.s.set j .no).set i .no).set i (.d d1)).set j (.d d2), e.m⟩ : Env) = ⟨(e.s.set i (.d d1)).set j (.d d2), e.m⟩
            rw [List.set_set, List.set_comm _ _ hij, List.set_set, List.set_comm _ _ hij]
          rw [this] at R1
          exact R1
/-- what is given of turn i: nothing or one thing -/
def givenD (f : Nat → Option D) : Nat → List D
  | 0 => []
  | n + 1 => givenD f n ++ (f n).toList
theorem givenD_len (f : Nat → Option D) : ∀ n, (givenD f n).length ≤ n
  | 0 => Nat.le_refl _
  | n + 1 => by
    have := givenD_len f n
    have h2 : (f n).toList.length ≤ 1 := by cases f n <;> simp
    show (givenD f n ++ (f n).toList).length ≤ n + 1
    rw [List.length_append]
    omega
theorem givenD_some (g : Nat → D) : ∀ n, givenD (fun i => some (g i)) n = (List.range n).map g
  | 0 => rfl
  | n + 1 => by
    show givenD _ n ++ [g n] = _
    rw [givenD_some g n, List.range_succ, List.map_append]
    rfl
theorem an_lc {K : PySem.W.Frag} {wi : TI} {g : TG} {tt : TT} {te : TE} {vs : List Nat} {e : Env} {n : Nat} {f : Nat → D} (r : Nat → Option D) (h : AI K wi e n f) (hn : n ≤ 900000)
    (hs : ∀ i, i < n → ∃ e2, AGw K g (f i) vs e e2 ∧ AT K tt e2 (r i).isSome ∧ ∀ x, r i = some x → AE K te e2 (.d x)) : AN K (tLc wi g tt te vs) e (givenD r n) := fun B σ G H ad R C c =>
  h B σ G H ad R _ fun J G1 H1 X1 W Dl hD => by
    have R1 := R.ext X1
    have R1w := R1.wipe vs
    have gD : G1 Dl = none := Same.none X1.gh hD
    refine ⟨fun i m H => i + m = n ∧ ∃ G' acc, Xt G1 H1 G' H ∧ G' Dl = none ∧ H Dl = some (.lst acc) ∧ RDs K G' acc (givenD r i), ⟨n, by omega, G1, [], Xt.drop X1.gh hD, gD, upd_same, .nil⟩, ?_⟩
    rintro i m H' ⟨hm, G', acc, X, g0, hq, rd⟩
    by_cases hlt : i < n
    · refine .inr ⟨W.go i G' H' X.gg X.gh hlt, fun H => ∃ G' acc, Xt G1 H1 G' H ∧ G' Dl = none ∧ H Dl = some (.lst acc) ∧ RDs K G' acc (givenD r (i + 1)), fun H'' q => ⟨m - 1, by omega, by omega, q⟩, fun x H2 y => ?_⟩
      obtain ⟨G2, X2, rx⟩ := W.yld i G' H' x H2 X.gg X.gh hlt y
      obtain ⟨e2, hg, ht, he⟩ := hs i hlt
      refine hg B σ G2 H2 ad ((R1w.ext X).ext X2) x rx _ fun σ2 hw R2 => ⟨hw, ?_⟩
      refine ht B σ2 G2 H2 ad R2 _ fun G3 H3 X3 => ?_
      have X23 := X2.trans X3
      have g3 : G3 Dl = none := X23.out g0 hq
      have hq3 : H3 Dl = some (.lst acc) := X23.hh _ _ hq
      cases hr : r i with
      | none =>
        show ∃ G' acc, Xt G1 H1 G' H3 ∧ G' Dl = none ∧ H3 Dl = some (.lst acc) ∧ RDs K G' acc (givenD r (i + 1))
        refine ⟨G3, acc, X.trans X23, g3, hq3, ?_⟩
        show RDs K G3 acc (givenD r i ++ (r i).toList)
        rw [hr]
        show RDs K G3 acc (givenD r i ++ [])
        rw [List.append_nil]
        exact rd.mono X23.gg
      | some x2 =>
        show te σ2 H3 _
        refine he x2 hr B σ2 G3 H3 ad (R2.ext X3) _ fun v G4 H4 X4 rv => ?_
        have X24 := X23.trans X4
        have g4 : G4 Dl = none := X4.out g3 hq3
        refine ⟨acc, X4.hh _ _ hq3, sz_lt ?_, G4, acc ++ [v], ?_, g4, upd_same, ?_⟩
        · have := givenD_len r i
          rw [rd.length]
          omega
        · have X5 := X.trans X24
          exact ⟨X5.gg, fun b o q => by
            rw [upd_ne (ne_of_none q g4)]
            exact X4.gh _ _ q, fun b o q => by
            rw [upd_ne (ne_of_none q hD)]
            exact X5.hh _ _ q, X5.fr⟩
        · show RDs K G4 (acc ++ [v]) (givenD r i ++ (r i).toList)
          rw [hr]
          exact (rd.mono X24.gg).append (.cons rv .nil)
    · have e1 : i = n := by omega
      subst e1
      exact .inl ⟨W.stop i G' H' X.gg X.gh (Nat.le_refl _), c Dl acc G' H' (X1.trans X) (Same.none X1.hh hD) g0 hq rd⟩
/-- without a test, the target a name -/
theorem an_lcN {K : PySem.W.Frag} {wi : TI} {te : TE} {j : Nat} {e : Env} {n : Nat} {f : Nat → D} (x : Nat → D) (h : AI K wi e n f) (hn : n ≤ 900000)
    (hs : ∀ i, i < n → AE K te (e.set j (.d (f i))) (.d (x i))) : AN K (tLc wi (gName j) tYes te [j]) e ((List.range n).map x) := by
  rw [← givenD_some]
  refine an_lc _ h hn fun i hi => ⟨_, agw_name, fun B σ G H ad R C c => c G H (Xt.refl R.gh), fun y hy => ?_⟩
  cases hy
  exact hs i hi

/-! ### the script -/
def ScP (K : PySem.W.Frag) (ns : List Int) : V → Hp → Prop := fun v G => ∃ a, v = .ref a ∧ SqL K G a (ns.map V.int)
theorem scP {K : PySem.W.Frag} {G : Hp} {ad : List Addr} {a : Addr} {ns : List Int} (h : SqL K G a (ns.map V.int)) : RepV K G ad (.ref a) (.p (ScP K ns)) := fun G' s => ⟨a, rfl, s.seq h⟩
theorem ac_lenP {K : PySem.W.Frag} {e : Env} {ns : List Int} : AC K (rLenG K) [.p (ScP K ns)] e (.d (.int ns.length)) := fun B σ G H ad R vs rv C c => by
  obtain ⟨v, rfl, rw⟩ := rv1 rv
  obtain ⟨a, rfl, h⟩ := rw H R.gh
  exact ⟨_, ns.length, rfl, .inl ⟨_, h, by rw [List.length_map]⟩, c _ G H (Xt.refl R.gh) RD.int⟩
theorem a2_ixP {K : PySem.W.Frag} {e : Env} {ns : List Int} {i k : Int} (h : atI ns i = some k) : A2 K (rIxL K) (.p (ScP K ns)) (.d (.int i)) e (.d (.int k)) := fun B σ G H ad R v w rv rw C c => by
  cases rw
  obtain ⟨a, rfl, hq⟩ := rv H R.gh
  refine ⟨a, _, i, .int k, rfl, rfl, hq, ?_, c _ G H (Xt.refl R.gh) RD.int⟩
  unfold atI at h ⊢
  rw [List.length_map]
  cases z : ixN ns.length i with
  | none =>
    rw [z] at h
    cases h
  | some j =>
    rw [z] at h
    show (ns.map V.int)[j]? = some (.int k)
    have h : ns[j]? = some k := h
    rw [List.getElem?_map, h]
    rfl
end Ab
namespace Ab
open PySem PySem.Spec PyProof.Rows L2
/-- a def of the text, as the top leaves it -/
def DefAt (K : PySem.W.Frag) (mg : Str → Option Value) (x : Str) (st : Stmt) (ps : List Str) : Prop := ∃ f fd, Fun K x x st f fd ∧ mg x = some (.ref f) ∧ Binds K fd ps []
/-- a def that keeps a promise -/
def Has (P : Program) (w : World) (K : PySem.W.Frag) (mg : Str → Option Value) (base : Heap) (x : Str) (ps : List Str) (k : Nat) (sp : Sp) : Prop :=
  ∃ f fd, FnOk P w K mg base CX0 k f fd ps sp ∧ mg x = some (.ref f) ∧ PySem.W.keepIn K (.ref f) = true ∧ Binds K fd ps []
section
variable {P : Program} {w : World} {K : PySem.W.Frag} {mg : Str → Option Value} {base : Heap} {x : Str} {st : Stmt} {ps : List Str} {k : Nat} {sp : Sp}
theorem DefAt.has (D : DefAt K mg x st ps) (h : ∀ f fd, Fun K x x st f fd → FnOk P w K mg base CX0 k f fd ps sp) : Has P w K mg base x ps k sp := by
  obtain ⟨f, fd, F, g, b⟩ := D
  exact ⟨f, fd, h f fd F, g, F.kp, b⟩
theorem Has.mono (h : Has P w K mg base x ps k sp) {j : Nat} (hj : k ≤ j) : Has P w K mg base x ps j sp := by
  obtain ⟨f, fd, F, g, b⟩ := h
  exact ⟨f, fd, F.mono hj, g, b⟩
end
section
variable {X : Cx} {x : Str} {ps : List Str} {k : Nat} {sp : Sp} {e : Expr} {es : List Expr} {t : TA} {p pos : Pos}
theorem pe_has (h : Has X.prog X.w X.K X.mg X.base x ps k sp) (hr : Room k X.A) (hg : Gl X x) (ha : PA X (e :: es) t) (hdb : (x == ("__debug__" : Str)) = false := by decide) (he : starEach (e :: es) X.env = (false, eval e X.env) :: starEach es X.env := by rfl)
    (hpl : (backTo pos (starEach es X.env)).any (·.1) = false := by rfl) : PE X (.Call (.Name x p) (e :: es) [] pos) (tCall sp [] E0 t) := by
  obtain ⟨f, fd, F, g, kp, b⟩ := h
  exact pe_call F hr hg g kp b .nil pass0 ha hdb he hpl
end
section
variable {P : Program} {w : World} {K : PySem.W.Frag} {mg : Str → Option Value} {base : Heap} {x : Str} {st : Stmt} {N ps : List Str} {k : Nat}
theorem SpF.len {R : List A → A → Prop} (hl : ∀ as r, R as r → as.length = ps.length) : ∀ vs H Q E, SpF K R vs H Q E → vs.length = ps.length := by
  rintro vs H Q E ⟨G, as, r, _, rv, hR, _⟩
  rw [rv.length]
  exact hl as r hR
theorem SpN.len {R : List A → List D → Prop} (hl : ∀ as r, R as r → as.length = ps.length) : ∀ vs H Q E, SpN K R vs H Q E → vs.length = ps.length := by
  rintro vs H Q E ⟨G, as, r, _, rv, hR, _⟩
  rw [rv.length]
  exact hl as r hR
theorem Sp1.len {R : List A → List D → A → List D → Prop} (hl : ∀ as ds r ds', R as ds r ds' → as.length = ps.length) : ∀ vs H Q E, Sp1 K R vs H Q E → vs.length = ps.length := by
  rintro vs H Q E ⟨G, l, as, xs, ds, r, ds', _, rv, _, _, _, hR, _⟩
  rw [rv.length]
  exact hl as ds r ds' hR
theorem FnScope.le (S : FnScope N ps (defScope st)) : ps.length ≤ N.length := by
  have := congrArg List.length S.pre
  rw [List.length_take] at this
  omega
/-- the ends of a def that returns r -/
abbrev endF (r : A) : AEnds := ⟨fun _ => r = .d .non, fun a _ => a = r ∧ noO r = true, fun _ => False, fun _ => False⟩
abbrev endN (ds : List D) : AEnds := ⟨fun _ => False, fun a e => ∃ k, a = .o k ∧ e.m[k]? = some (some ds), fun _ => False, fun _ => False⟩
abbrev end1 (r : A) (ds : List D) : AEnds := ⟨fun e => r = .d .non ∧ e.m[0]? = some (some ds), fun a e => a = r ∧ noO r = true ∧ e.m[0]? = some (some ds), fun _ => False, fun _ => False⟩
/-- a body: its term and what it does -/
def Body (P : Program) (w : World) (K : PySem.W.Frag) (mg : Str → Option Value) (base : Heap) (N : List Str) (x : Str) (st : Stmt) (k : Nat) (go : TS → Prop) : Prop :=
  ∀ (f : Addr) (cdv : Value) (A : Around) (outer : List PySem.Env) (s : Shared) (H : Hp) (E : XK), Room k (A.deeper (envOfC x (defScope st) s.heap.objs.size f cdv)) →
    ∃ t, PSs (cxOf CX0 P w K mg base N x (defScope st) f cdv A outer s H E).nox (defBody st) t ∧ go t
theorem okF {R : List A → A → Prop} (D : DefAt K mg x st ps) (S : FnScope N ps (defScope st)) (hl : ∀ as r, R as r → as.length = ps.length)
    (hb : Body P w K mg base N x st k fun t => ∀ as r, R as r → AS K 0 t (endF r) ⟨env0 N as, []⟩) : Has P w K mg base x ps (k + 1) (SpF K R) :=
  D.has fun f fd F => F.ok S (SpF.len hl) fun cdv A outer s H vs Q E hr h => by
    obtain ⟨t, ht, go⟩ := hb f cdv A outer s H E hr
    exact ⟨t, ht, run_F h fun as r hR => ⟨by rw [hl as r hR]; exact FnScope.le S, go as r hR⟩⟩
theorem okN {R : List A → List D → Prop} (D : DefAt K mg x st ps) (S : FnScope N ps (defScope st)) (hl : ∀ as r, R as r → as.length = ps.length)
    (hb : Body P w K mg base N x st k fun t => ∀ as r, R as r → AS K 0 t (endN r) ⟨env0 N as, []⟩) : Has P w K mg base x ps (k + 1) (SpN K R) :=
  D.has fun f fd F => F.ok S (SpN.len hl) fun cdv A outer s H vs Q E hr h => by
    obtain ⟨t, ht, go⟩ := hb f cdv A outer s H E hr
    exact ⟨t, ht, run_N h fun as r hR => ⟨by rw [hl as r hR]; exact FnScope.le S, go as r hR⟩⟩
theorem ok1 {R : List A → List D → A → List D → Prop} (D : DefAt K mg x st ps) (S : FnScope N ps (defScope st)) (hl : ∀ as ds r ds', R as ds r ds' → as.length = ps.length)
    (hb : Body P w K mg base N x st k fun t => ∀ as ds r ds', R as ds r ds' → AS K 1 t (end1 r ds') ⟨env0 N as, [some ds]⟩) : Has P w K mg base x ps (k + 1) (Sp1 K R) :=
  D.has fun f fd F => F.ok S (Sp1.len hl) fun cdv A outer s H vs Q E hr h => by
    obtain ⟨t, ht, go⟩ := hb f cdv A outer s H E hr
    exact ⟨t, ht, run_1 h fun as ds r ds' hR => ⟨by rw [hl as ds r ds' hR]; exact FnScope.le S, go as ds r ds' hR⟩⟩
/-- a law's promise -/
def spLaw (K : PySem.W.Frag) : Sp := fun vs H Q _ => ∃ (a : Addr) (ns : List Int), vs = [.ref a] ∧ SqL K H a (ns.map V.int) ∧ ns.length ≤ 63 ∧ ∀ H', Q (.bl true) H'
/-- what a law's body is to do -/
def RLaw (K : PySem.W.Frag) (as : List A) (r : A) : Prop := ∃ ns : List Int, as = [.p (ScP K ns)] ∧ ns.length ≤ 63 ∧ r = .d (.bl true)
theorem law_imp : ∀ vs H Q E, spLaw K vs H Q E → SpF K (RLaw K) vs H Q E := by
  rintro vs H Q E ⟨a, ns, rfl, hS, hl, q⟩
  refine ⟨H, [.p (ScP K ns)], .d (.bl true), Same.refl _, .cons (scP hS) .nil, ⟨ns, rfl, hl, rfl⟩, fun v G' H' X rv => ?_⟩
  have : v = .bl true := by cases rv; rfl
  rw [this]
  exact q H'
theorem mk_def {x : Str} {st : Stmt} {f : Addr} {oc : Value} {od an : Option Addr} {osl : Array (Option Value)} {kV doc pm cdv ct : Value} (l : K.lookup f = some ⟨oc, od, .func (PySem.W.fnOf x x (defArgs st) (defBody st) (defScope st) .none kV doc pm an cdv ct), osl⟩)
    (c : PySem.W.codeIn K cdv x = true) (k : PySem.W.keepIn K (.ref f) = true) (g : mg x = some (.ref f))
    (hb : ∀ (kV doc pm : Value) (an : Option Addr) (cdv ct : Value) (us : List Value), us.length = ps.length → bindArgs (PySem.W.fnOf x x (defArgs st) (defBody st) (defScope st) .none kV doc pm an cdv ct) ⟨us, []⟩ = pure (ps.zip us)) : DefAt K mg x st ps :=
  have F := fun_mk (st := st) l c k
  ⟨f, _, F, g, F.binds hb⟩
end
end Ab
namespace Ab
open PySem PySem.Spec PyProof.Rows L2
section
variable {K : PySem.W.Frag} {e : Env} {ta tb tc te : TE} {x y z a b : A} {r r' : R2}
def ALd (K : PySem.W.Frag) (ta : TA) (e : Env) (ds : List D) : Prop := AL K ta e (ds.map .d)
theorem ald_nil : ALd K tNil e [] := al_nil
theorem ald_cons {tr : TA} {d : D} {ds : List D} (h : AE K te e (.d d)) (hr : ALd K tr e ds) : ALd K (tCons te tr) e (d :: ds) := al_cons h hr
theorem an_lst' {t : TA} {ds : List D} (h : ALd K t e ds) (hl : Nat.ble ds.length 1000000 = true := by rfl) : AN K (tLst t) e ds := an_lst h rfl (Nat.le_of_ble_eq_true hl)
theorem ae_tup' {t : TA} {ds : List D} (h : ALd K t e ds) (hl : Nat.ble ds.length 1000000 = true := by rfl) : AE K (tTup t) e (.d (.tup ds)) := ae_tup h rfl (Nat.le_of_ble_eq_true hl)
theorem ae_chain {p q : Bool} (ha : AE K ta e x) (hb : AE K tb e y) (h1 : A2 K r x y e (.d (.bl p))) (hc : p = true → AE K tc e z) (h2 : p = true → A2 K r' y z e (.d (.bl q))) : AE K (tChain r r' ta tb tc) e (.d (.bl (p && q))) := fun B σ G H ad R C c =>
  ha B σ G H ad R _ fun v G1 H1 X1 r1 => hb B σ G1 H1 ad (R.ext X1) _ fun w G2 H2 X2 r2 =>
    h1 B σ G2 H2 ad ((R.ext X1).ext X2) v w (r1.mono X2.gg) r2 _ fun u G3 H3 X3 r3 => by
      cases r3
      refine ⟨p, rfl, ?_⟩
      have X13 := (X1.trans X2).trans X3
      cases p with
      | true =>
        exact hc rfl B σ G3 H3 ad (R.ext X13) _ fun w2 G4 H4 X4 r4 => h2 rfl B σ G4 H4 ad ((R.ext X13).ext X4) w w2 (r2.mono (X3.trans X4).gg) r4 C fun u2 G5 H5 X5 r5 => c u2 G5 H5 ((X13.trans X4).trans X5) r5
      | false => exact c (.bl false) G3 H3 X13 RD.bl
end
end Ab
namespace Ab
open PySem PySem.Spec PyProof.Rows L2
/-- the law's def -/
theorem okLaw {P : Program} {w : World} {K : PySem.W.Frag} {mg : Str → Option Value} {base : Heap} {x : Str} {st : Stmt} {N : List Str} {k : Nat} {y : Str} {f : Addr} {fd : FuncData} (F : Fun K x x st f fd) (S : FnScope N [y] (defScope st))
    (hb : Body P w K mg base N x st k fun t => ∀ as r, RLaw K as r → AS K 0 t (endF r) ⟨env0 N as, []⟩) : FnOk P w K mg base CX0 (k + 1) f fd [y] (spLaw K) :=
  FnOk.imp (F.ok S (SpF.len (R := RLaw K) (by rintro as r ⟨_, rfl, _⟩; rfl)) fun cdv A outer s H vs Q E hr h => by
    obtain ⟨t, ht, go⟩ := hb f cdv A outer s H E hr
    exact ⟨t, ht, run_F h fun as r hR => ⟨by obtain ⟨_, rfl, _⟩ := hR; exact FnScope.le S, go as r hR⟩⟩) law_imp
/-! ### rules that name the written part, for places within a comprehension -/
section
variable {X : Cx} {K : PySem.W.Frag} {o e : Expr} {to te : TE} {apos pos : Pos}
theorem ixlK (hK : X.K = K) : IxR X (rIxL K) := by subst hK; exact ix_list
theorem ixtK (hK : X.K = K) : IxR X (rIxT K) := by subst hK; exact ix_tup
theorem sllK (hK : X.K = K) : SlR X (rSlL K) := by subst hK; exact sl_list
theorem eqDK (hK : X.K = K) (hu : X.A.units + 64 < cLine) : OpR X (compareOp .Eq) (rEqD K) := by subst hK; exact op_eqD hu
theorem neDK (hK : X.K = K) (hu : X.A.units + 64 < cLine) : OpR X (compareOp .NotEq) (rNeD K) := by subst hK; exact op_neD hu
theorem inK (hK : X.K = K) : OpR X (compareOp .In) (rIn K false) := by subst hK; exact op_in_seq
theorem ninK (hK : X.K = K) : OpR X (compareOp .NotIn) (rIn K true) := by subst hK; exact op_notIn_seq
theorem lenK (hK : X.K = K) : CallR X (.builtin "len") (rLenG K) := by subst hK; exact call_len
theorem listK (hK : X.K = K) : CallR X (.type "list") (rListG K) := by subst hK; exact call_list_of
theorem isiK (hK : X.K = K) : CallR X (.builtin "isinstance") (rIsi K) := by subst hK; exact call_isi
abbrev rJoinG (K : PySem.W.Frag) : V → List V → Hp → VK → Prop := fun x xs H Q => ∃ a p, ∃ ys : List Str, x = .str a ∧ xs = [.ref p] ∧ (SqL K H p (ys.map V.str) ∨ SqT K H p (ys.map V.str)) ∧
      (ys.map (·.length)).sum + ys.length * a.length ≤ 16777216 ∧ Q (.str (Txt.join a ys)) H
theorem pe_joinK (hK : X.K = K) (ho : PE X o to) (he : PE X e te) (hs : starEach [e] X.env = [(false, eval e X.env)] := by rfl) (hbase : attributeBase o "join" X.env (eval o X.env) = eval o X.env := by rfl) (hline : (apos.endLine == pos.line) = true := by rfl) :
    PE X (.Call (.Attribute o "join" apos) [e] [] pos) (tM1 (rJoinG K) to te) := by subst hK; exact pe_join ho he hs hbase hline
theorem pi_listK {tg : Expr} (hK : X.K = K) (hl : PE X e te) : PI X tg e (iList K te) := by subst hK; exact pi_list hl
/-- x or y, by the truth of x -/
theorem ae_orT {K : PySem.W.Frag} {e : Env} {ta tb : TE} {d : D} {b : Bool} {z : A} (ha : AE K ta e (.d d)) (ht : ∀ G H v, Same G H → RD K G v d → TruV K v H b) (h1 : b = true → z = .d d) (h2 : b = false → AE K tb e z) : AE K (tOrT K ta tb) e z := fun B σ G H ad R C c =>
  ha B σ G H ad R _ fun v G1 H1 X1 r1 => by
    refine ⟨b, ht G1 H1 v X1.gh r1, ?_⟩
    cases b with
    | true =>
      have := h1 rfl
      subst this
      exact c v G1 H1 X1 r1
    | false => exact h2 rfl B σ G1 H1 ad (R.ext X1) C fun v G2 H2 X2 r2 => c v G2 H2 (X1.trans X2) r2
theorem tr_non {K : PySem.W.Frag} {G H : Hp} {v : V} (s : Same G H) (r : RD K G v .non) : TruV K v H false := by cases r; rfl
theorem tr_tup {K : PySem.W.Frag} {G H : Hp} {v : V} {a : D} {ds : List D} (s : Same G H) (r : RD K G v (.tup (a :: ds))) : TruV K v H true := by
  cases r with
  | tup hq rd =>
    refine .inr (.inl ⟨_, seqT s hq, ?_⟩)
    cases rd
    rfl
theorem AT.le {K : PySem.W.Frag} {tt : TT} {e e' : Env} {b : Bool} (l : Le e e') (h : AT K tt e' b) : AT K tt e b := fun B σ G H ad R => h B σ G H ad (R.le l)
theorem AE.le {K : PySem.W.Frag} {te : TE} {e e' : Env} {a : A} (l : Le e e') (h : AE K te e' a) : AE K te e a := fun B σ G H ad R => h B σ G H ad (R.le l)
theorem AI.n {K : PySem.W.Frag} {wi : TI} {e : Env} {n m : Nat} {f : Nat → D} (h : AI K wi e n f) (hn : n = m) : AI K wi e m f := hn ▸ h
/-- join, the value told -/
theorem am_joinT {K : PySem.W.Frag} {e : Env} {s t : List Nat} {ds : List D} (xs : List (List Nat)) (hd : ds = xs.map .str) (hz : (xs.map (·.length)).sum + xs.length * s.length ≤ 1000000) (ht : TL.joinL s xs = t) :
    AM K (rJoinG K) (.d (.str s)) [.d (.lst ds)] e (.d (.str t)) := by
  subst hd
  subst ht
  exact am_join hz
theorem ones_sum {l : List Nat} : ((l.map fun x => [x]).map (·.length)).sum = l.length := by
  induction l with
  | nil => rfl
  | cons x r ih =>
    rw [List.map_cons, List.map_cons, List.sum_cons, ih, List.length_cons]
    show 1 + r.length = r.length + 1
    omega
theorem ones_join {l : List Nat} : TL.joinL [] (l.map fun x => [x]) = l := by
  rw [joinL_nil]
  induction l with
  | nil => rfl
  | cons x r ih =>
    rw [List.map_cons, List.flatten_cons, ih]
    rfl
end
end Ab
namespace Ab
open PySem PySem.Spec PyProof.Rows L2
theorem atI_of {α : Type} {xs : List α} {z : Int} {j : Nat} {v : α} (e : z = (j : Int)) (h : xs[j]? = some v) : atI xs z = some v := by
  rw [e]
  exact atI_nat h
theorem cutG_map {α β : Type} (f : α → β) (xs : List α) (lo hi : Option Int) : cutG (xs.map f) lo hi = (cutG xs lo hi).map f := by
  unfold cutG
  rw [List.map_take, List.map_drop, List.length_map]
/-! ### what the drawers make -/
def cell (ns : List Int) (k : Int) : Int := ns.getD k.toNat 0
theorem cell_at {ns : List Int} {k : Int} (h0 : 0 ≤ k) (h : k < ns.length) : atI ns k = some (cell ns k) := by
  have e : k = (k.toNat : Int) := by omega
  have hl : k.toNat < ns.length := by omega
  unfold cell
  rw [List.getD_eq_getElem?_getD, List.getElem?_eq_getElem hl]
  have q := atI_of (xs := ns) e (List.getElem?_eq_getElem hl)
  exact q
theorem cell_out {ns : List Int} {k : Int} (h : ¬ k < ns.length) : cell ns k = 0 := by
  unfold cell
  rw [List.getD_eq_getElem?_getD, List.getElem?_eq_none (by omega)]
  rfl
def abc1 : List Nat := [32, 33, 34, 35, 36, 38, 39, 40, 41, 42, 43, 44, 45, 46, 47, 48, 49, 50, 51, 52, 53, 54, 55, 56, 57, 58, 59, 60, 61, 62, 63, 64, 65, 66, 67, 68, 69, 70, 71, 72, 73, 74, 75, 76, 77, 78, 79, 80, 81, 82, 83, 84, 85, 86, 87, 88, 89, 90, 91, 92, 93, 94, 95, 96]
def abc2 : List Nat := [97, 98, 99, 100, 101, 102, 103, 104, 105, 106, 107, 108, 109, 110, 111, 112, 113, 114, 115, 116, 117, 118, 119, 120, 121, 122, 123, 124, 125, 126, 10, 9]
def abc : List Nat := abc1 ++ abc2
theorem abc_len : abc.length = 96 := by decide +kernel
def sgn (c : Int) : Nat := abc.getD (c % 96).toNat 0
theorem sgn_at (c : Int) : atI abc (c % 96) = some (sgn c) := by
  have h0 : 0 ≤ c % 96 := Int.emod_nonneg _ (by decide)
  have h1 : c % 96 < 96 := Int.emod_lt_of_pos _ (by decide)
  have hl : (c % 96).toNat < abc.length := by rw [abc_len]; omega
  have e : c % 96 = ((c % 96).toNat : Int) := by omega
  unfold sgn
  rw [List.getD_eq_getElem?_getD, List.getElem?_eq_getElem hl]
  have q := atI_of (xs := abc) e (List.getElem?_eq_getElem hl)
  exact q
theorem sgn_lt (c : Int) : sgn c < 128 := by
  have h : ∀ x ∈ abc, x < 128 := by decide +kernel
  have h0 : 0 ≤ c % 96 := Int.emod_nonneg _ (by decide)
  have h1 : c % 96 < 96 := Int.emod_lt_of_pos _ (by decide)
  have hl : (c % 96).toNat < abc.length := by rw [abc_len]; omega
  unfold sgn
  rw [List.getD_eq_getElem?_getD, List.getElem?_eq_getElem hl]
  exact h _ (List.getElem_mem hl)
/-- an item of a written list of numbers -/
theorem pick_at {α : Type} {l : List α} {i : Int} (d : α) (h0 : 0 ≤ i) (h : i < l.length) : atI l i = some (l.getD i.toNat d) := by
  have hl : i.toNat < l.length := by omega
  have e : i = (i.toNat : Int) := by omega
  rw [List.getD_eq_getElem?_getD, List.getElem?_eq_getElem hl]
  have q := atI_of (xs := l) e (List.getElem?_eq_getElem hl)
  exact q
theorem atI_map {α β : Type} {l : List α} {g : α → β} {i : Int} {x : α} (h : atI l i = some x) : atI (l.map g) i = some (g x) := by
  unfold atI at h ⊢
  rw [List.length_map]
  cases z : ixN l.length i with
  | none =>
    rw [z] at h
    cases h
  | some j =>
    rw [z] at h
    have h : l[j]? = some x := h
    show (l.map g)[j]? = some (g x)
    rw [List.getElem?_map, h]
    rfl
theorem mod_lo (i : Int) {n : Int} (hn : 0 < n) : 0 ≤ i % n := Int.emod_nonneg _ (by omega)
theorem mod_hi (i : Int) {n : Int} (hn : 0 < n) : i % n < n := Int.emod_lt_of_pos _ hn
def gaps : List Int := [1, 5, 7, 11, 13, 17, 19, 23]
def gap (c : Int) : Int := gaps.getD (c / 96 % 8).toNat 0
theorem gap_at (c : Int) : atI (gaps.map D.int) (c / 96 % 8) = some (.int (gap c)) :=
  atI_map (pick_at 0 (mod_lo _ (by decide)) (mod_hi _ (by decide)))
theorem gap_b (c : Int) : 0 ≤ gap c ∧ gap c ≤ 23 := by
  have h : ∀ x ∈ gaps, 0 ≤ x ∧ x ≤ 23 := by decide
  have h0 := mod_lo (c / 96) (n := 8) (by decide)
  have h1 := mod_hi (c / 96) (n := 8) (by decide)
  have hl : (c / 96 % 8).toNat < gaps.length := by show _ < 8; omega
  unfold gap
  rw [List.getD_eq_getElem?_getD, List.getElem?_eq_getElem hl]
  exact h _ (List.getElem_mem hl)
def gsize (c : Int) : Int := if decide (c / 768 % 4 = 1) = true then 2 + c / 3072 % 8 + 10 * (c / 24576 % 2) else 1
theorem gsize_b (c : Int) : 1 ≤ gsize c ∧ gsize c ≤ 19 := by
  unfold gsize
  have h0 := mod_lo (c / 3072) (n := 8) (by decide)
  have h1 := mod_hi (c / 3072) (n := 8) (by decide)
  have h2 := mod_lo (c / 24576) (n := 2) (by decide)
  have h3 := mod_hi (c / 24576) (n := 2) (by decide)
  split <;> omega
def lsigns (c : Int) : List Nat := (List.range (5 * gsize c).toNat).map fun k => sgn (c + (k : Nat) * gap c)
theorem lsigns_len (c : Int) : (lsigns c).length = (5 * gsize c).toNat := by unfold lsigns; rw [List.length_map, List.length_range]
def letter (c : Int) (k : Nat) : List Nat := ((lsigns c).drop (k * (gsize c).toNat)).take (gsize c).toNat
def letters (c : Int) : List (List Nat) := (List.range 5).map (letter c)
theorem letters_len (c : Int) : (letters c).length = 5 := by unfold letters; rw [List.length_map, List.length_range]
theorem letter_len (c : Int) {k : Nat} (hk : k < 5) : (letter c k).length = (gsize c).toNat := by
  have h := gsize_b c
  unfold letter
  rw [List.length_take, List.length_drop, lsigns_len]
  have : k * (gsize c).toNat ≤ 4 * (gsize c).toNat := Nat.mul_le_mul_right _ (by omega)
  omega
theorem lsigns_lt (c : Int) : ∀ x ∈ lsigns c, x < 128 := by
  intro x hx
  unfold lsigns at hx
  obtain ⟨k, _, rfl⟩ := List.mem_map.mp hx
  exact sgn_lt _
theorem letter_lt (c : Int) (k : Nat) : ∀ x ∈ letter c k, x < 128 := fun x hx => lsigns_lt c x (List.mem_of_mem_drop (List.mem_of_mem_take hx))
/-- what holds of the five groups -/
structure LetOk (ls : List (List Nat)) : Prop where
  len : 1 ≤ ls.length ∧ ls.length ≤ 100
  it : ∀ g ∈ ls, 1 ≤ g.length ∧ g.length ≤ 19
  lt : ∀ g ∈ ls, ∀ x ∈ g, x < 128
theorem letters_ok (c : Int) : LetOk (letters c) where
  len := by rw [letters_len]; exact ⟨by decide, by decide⟩
  it := fun g hg => by
    unfold letters at hg
    obtain ⟨k, hk, rfl⟩ := List.mem_map.mp hg
    rw [letter_len c (List.mem_range.mp hk)]
    have := gsize_b c
    omega
  lt := fun g hg => by
    unfold letters at hg
    obtain ⟨k, hk, rfl⟩ := List.mem_map.mp hg
    exact letter_lt c k
theorem LetOk.take {ls : List (List Nat)} (h : LetOk ls) {n : Nat} (hn : 1 ≤ n) : LetOk (ls.take n) where
  len := by
    rw [List.length_take]
    have := h.len
    omega
  it := fun g hg => h.it g (List.mem_of_mem_take hg)
  lt := fun g hg => h.lt g (List.mem_of_mem_take hg)
/-! the step of the drawn number -/
def nxt (n : Int) : Int := (n * 48271 + 11) % 2147483647
theorem nxt_b (n : Int) : 0 ≤ nxt n ∧ nxt n < 2147483647 := ⟨mod_lo _ (by decide), mod_hi _ (by decide)⟩
/-- a text out of groups, sign by sign -/
def tbState (ls : List (List Nat)) (c : Int) : Nat → List Nat × Int
  | 0 => ([], c % 2147483647)
  | i + 1 =>
    let s := tbState ls c i
    let n := nxt s.2
    let g := ls.getD (n / 7 % ls.length).toNat []
    (s.1 ++ [g.getD (n / 700 % g.length).toNat 0], n)
def textBy (c size : Int) (ls : List (List Nat)) : List Nat := (tbState ls c size.toNat).1
theorem tb_len (ls : List (List Nat)) (c : Int) : ∀ i, (tbState ls c i).1.length = i
  | 0 => rfl
  | i + 1 => by
    show ((tbState ls c i).1 ++ [_]).length = i + 1
    rw [List.length_append, tb_len ls c i]
    rfl
theorem tb_num (ls : List (List Nat)) (c : Int) : ∀ i, 0 ≤ (tbState ls c i).2 ∧ (tbState ls c i).2 < 2147483647
  | 0 => ⟨mod_lo _ (by decide), mod_hi _ (by decide)⟩
  | i + 1 => nxt_b _
/-- the group that is drawn -/
theorem grp_at {ls : List (List Nat)} (h : LetOk ls) (n : Int) : atI ls (n / 7 % ls.length) = some (ls.getD (n / 7 % ls.length).toNat []) ∧ ls.getD (n / 7 % ls.length).toNat [] ∈ ls := by
  have hp : (0 : Int) < ls.length := by have := h.len; omega
  have h0 := mod_lo (n / 7) hp
  have h1 := mod_hi (n / 7) hp
  refine ⟨pick_at [] h0 h1, ?_⟩
  have hl : (n / 7 % ls.length).toNat < ls.length := by omega
  rw [List.getD_eq_getElem?_getD, List.getElem?_eq_getElem hl]
  exact List.getElem_mem hl
theorem sign_at {g : List Nat} (h : 1 ≤ g.length) (n : Int) : atI g (n % g.length) = some (g.getD (n % g.length).toNat 0) ∧ g.getD (n % g.length).toNat 0 ∈ g := by
  have hp : (0 : Int) < g.length := by omega
  have h0 := mod_lo n hp
  have h1 := mod_hi n hp
  refine ⟨pick_at 0 h0 h1, ?_⟩
  have hl : (n % g.length).toNat < g.length := by omega
  rw [List.getD_eq_getElem?_getD, List.getElem?_eq_getElem hl]
  exact List.getElem_mem hl
theorem tb_mem {ls : List (List Nat)} (h : LetOk ls) (c : Int) : ∀ i, ∀ x ∈ (tbState ls c i).1, ∃ g ∈ ls, x ∈ g
  | 0, x, hx => by cases hx
  | i + 1, x, hx => by
    rcases List.mem_append.mp hx with q | q
    · exact tb_mem h c i x q
    · have e := List.mem_singleton.mp q
      have hg := (grp_at h (nxt (tbState ls c i).2)).2
      refine ⟨_, hg, ?_⟩
      rw [e]
      exact (sign_at (h.it _ hg).1 _).2
theorem textBy_len {c size : Int} {ls : List (List Nat)} : (textBy c size ls).length = size.toNat := tb_len ls c _
theorem textBy_mem {c size : Int} {ls : List (List Nat)} (h : LetOk ls) : ∀ x ∈ textBy c size ls, ∃ g ∈ ls, x ∈ g := tb_mem h c _
end Ab
namespace Ab
open PySem PySem.Spec PyProof.Rows L2
/-! ### tables -/
abbrev Row := Option Int × List (Option Nat)
structure Tbl where
  signs : List Nat
  rows : List Row
def optI : Option Int → D
  | none => .non
  | some i => .int i
def optN : Option Nat → D
  | none => .non
  | some n => .int (n : Nat)
theorem optN_I (o : Option Nat) : optN o = optI (o.map Int.ofNat) := by cases o <;> rfl
def rowD (r : Row) : D := .tup [optI r.1, .lst (r.2.map optN)]
def tblD (t : Tbl) : D := .tup [.str t.signs, .lst (t.rows.map rowD)]
structure Tbl.Ok (t : Tbl) : Prop where
  pos : 0 < t.rows.length
  wid : ∀ r ∈ t.rows, r.2.length = t.signs.length
  ins : ∀ r ∈ t.rows, ∀ n, some n ∈ r.2 → n < t.rows.length
  few : t.signs.length ≤ 1000
  many : t.rows.length ≤ 1000
  lt : ∀ x ∈ t.signs, x < 128
/-- where a sign leads from a row -/
def step (t : Tbl) (row : Nat) (c : Nat) : Option Nat := (pos c t.signs).bind fun j => (t.rows[row]?).bind fun r => (r.2[j]?).bind id
/-- where a text leads, from a row or nowhere -/
def runs (t : Tbl) (r : Option Nat) (s : List Nat) : Option Nat := s.foldl (fun r c => r.bind fun n => step t n c) r
theorem runs_snoc (t : Tbl) (r : Option Nat) (s : List Nat) (c : Nat) : runs t r (s ++ [c]) = (runs t r s).bind fun n => step t n c := by
  unfold runs
  rw [List.foldl_append]
  rfl
theorem runs_none (t : Tbl) : ∀ s : List Nat, runs t none s = none
  | [] => rfl
  | _ :: r => runs_none t r
theorem runs_app (t : Tbl) (r : Option Nat) (s s' : List Nat) : runs t r (s ++ s') = runs t (runs t r s) s' := by
  unfold runs
  rw [List.foldl_append]
theorem step_lt {t : Tbl} (h : t.Ok) {row c n : Nat} (e : step t row c = some n) : n < t.rows.length := by
  unfold step at e
  cases h1 : pos c t.signs with
  | none =>
    rw [h1] at e
    cases e
  | some j =>
    rw [h1] at e
    have e : ((t.rows[row]?).bind fun r => (r.2[j]?).bind id) = some n := e
    cases h2 : t.rows[row]? with
    | none =>
      rw [h2] at e
      cases e
    | some r =>
      rw [h2] at e
      have e : (r.2[j]?).bind id = some n := e
      cases h3 : r.2[j]? with
      | none =>
        rw [h3] at e
        cases e
      | some o =>
        rw [h3] at e
        have e : o = some n := e
        subst e
        exact h.ins r (List.mem_of_getElem? h2) n (List.mem_of_getElem? h3)
theorem runs_lt {t : Tbl} (h : t.Ok) : ∀ (s : List Nat) {r : Option Nat} {n : Nat}, (∀ m, r = some m → m < t.rows.length) → runs t r s = some n → n < t.rows.length
  | [], r, n, h0, e => h0 n e
  | c :: s, r, n, h0, e => by
    refine runs_lt h s (r := r.bind fun n => step t n c) (fun m hm => ?_) e
    cases r with
    | none => cases hm
    | some k => exact step_lt h hm
/-- the way of a sign that is there -/
theorem step_at {t : Tbl} (h : t.Ok) {row c j : Nat} (hr : row < t.rows.length) (hj : pos c t.signs = some j) : ∃ r o, t.rows[row]? = some r ∧ r.2[j]? = some o ∧ step t row c = o := by
  have hlt := pos_lt hj
  have h2 : t.rows[row]? = some t.rows[row] := List.getElem?_eq_getElem hr
  have hw := h.wid _ (List.getElem_mem hr)
  have h3 : t.rows[row].2[j]? = some (t.rows[row].2[j]'(by omega)) := List.getElem?_eq_getElem (by omega)
  refine ⟨_, _, h2, h3, ?_⟩
  unfold step
  rw [hj]
  show ((t.rows[row]?).bind fun r => (r.2[j]?).bind id) = _
  rw [h2]
  show (t.rows[row].2[j]?).bind id = _
  rw [h3]
  rfl
theorem step_no {t : Tbl} {row c : Nat} (h : pos c t.signs = none) : step t row c = none := by
  unfold step
  rw [h]
  rfl
/-- sign by sign -/
theorem runs_take (t : Tbl) (r : Option Nat) {s : List Nat} {i c : Nat} (h : s[i]? = some c) : runs t r (s.take (i + 1)) = (runs t r (s.take i)).bind fun n => step t n c := by
  rw [List.take_add_one, h]
  exact runs_snoc t r _ c
theorem runs_dead (t : Tbl) (r : Option Nat) {s : List Nat} {i : Nat} (h : runs t r (s.take i) = none) : runs t r s = none := by
  have e := runs_app t r (s.take i) (s.drop i)
  rw [List.take_append_drop, h, runs_none] at e
  exact e
/-! ### == of tables -/
theorem strOk_small {s : List Nat} (h : ∀ x ∈ s, x < 128) : PyData.canLay0 (.str (sOf s)) = true := by
  show (s.toArray.all (· < 0x110000)) = true
  rw [List.all_toArray, List.all_eq_true]
  intro x hx
  have := h x hx
  exact decide_eq_true (by omega)
/-- data that == can compare, at most n deep -/
structure Good (n : Nat) (d : D) : Prop where
  lay : d.py.canLay0 = true
  dep : d.py.depth ≤ n
theorem pys_lay {n : Nat} : ∀ {ds : List D}, (∀ d ∈ ds, Good n d) → PyData.canLayAll0 (D.pys ds) = true ∧ PyData.depthAll (D.pys ds) ≤ n
  | [], _ => ⟨rfl, Nat.zero_le _⟩
  | d :: r, h => by
    obtain ⟨h1, h2⟩ := h d (by simp)
    obtain ⟨h3, h4⟩ := pys_lay (ds := r) fun x hx => h x (by simp [hx])
    refine ⟨?_, ?_⟩
    · show (d.py.canLay0 && PyData.canLayAll0 (D.pys r)) = true
      rw [h1, h3]
      rfl
    · show max d.py.depth (PyData.depthAll (D.pys r)) ≤ n
      omega
theorem Good.lst {n : Nat} {ds : List D} (h : ∀ d ∈ ds, Good n d) : Good (n + 1) (.lst ds) := by
  obtain ⟨h1, h2⟩ := pys_lay h
  refine ⟨h1, ?_⟩
  show PyData.depthAll (D.pys ds) + 1 ≤ n + 1
  omega
theorem Good.tup {n : Nat} {ds : List D} (h : ∀ d ∈ ds, Good n d) : Good (n + 1) (.tup ds) := by
  obtain ⟨h1, h2⟩ := pys_lay h
  refine ⟨h1, ?_⟩
  show PyData.depthAll (D.pys ds) + 1 ≤ n + 1
  omega
theorem Good.str {n : Nat} {s : List Nat} (h : ∀ x ∈ s, x < 128) : Good n (.str s) := ⟨strOk_small h, Nat.zero_le _⟩
theorem Good.int {n : Nat} {i : Int} : Good n (.int i) := ⟨rfl, Nat.zero_le _⟩
theorem Good.non {n : Nat} : Good n .non := ⟨rfl, Nat.zero_le _⟩
theorem Good.bl {n : Nat} {b : Bool} : Good n (.bl b) := ⟨rfl, Nat.zero_le _⟩
theorem Good.ok {n : Nat} {d : D} (h : Good n d) (hn : n ≤ 64 := by decide) : okD d := by
  show (d.py.canLay0 && decide (d.py.depth ≤ 64)) = true
  rw [h.lay, decide_eq_true (Nat.le_trans h.dep hn)]
  rfl
theorem Good.two {n : Nat} {a b : D} (ha : Good n a) (hb : Good n b) : ∀ d ∈ [a, b], Good n d := fun d hd => by
  rcases List.mem_cons.mp hd with rfl | hd
  · exact ha
  · rw [List.mem_singleton.mp hd]
    exact hb
theorem optI_good {n : Nat} (o : Option Int) : Good n (optI o) := by
  cases o with
  | none => exact .non
  | some i => exact .int
theorem optN_good {n : Nat} (o : Option Nat) : Good n (optN o) := by
  cases o with
  | none => exact .non
  | some i => exact .int
theorem rowD_good (r : Row) : Good 2 (rowD r) := .tup (.two (optI_good _) (.lst fun d hd => by
  obtain ⟨w, _, rfl⟩ := List.mem_map.mp hd
  exact optN_good (n := 0) w))
theorem tblD_good {t : Tbl} (h : t.Ok) : Good 4 (tblD t) := .tup (.two (.str h.lt) (.lst fun d hd => by
  obtain ⟨r, _, rfl⟩ := List.mem_map.mp hd
  exact rowD_good r))
/-! ### the drawn table -/
structure TP where
  many : Int
  signs : List Nat
  style : Int
  mst : Int
  alone : Int
structure TP.Ok (p : TP) : Prop where
  m : 1 ≤ p.many ∧ p.many ≤ 64
  s : p.signs.length ≤ 100
  lt : ∀ x ∈ p.signs, x < 128
  st : 0 ≤ p.style ∧ p.style < 4
  mo : 1 ≤ p.mst ∧ p.mst ≤ 1000
  al : 0 ≤ p.alone ∧ p.alone ≤ 1000000000
def wayV (p : TP) (k n : Int) (i : Nat) : Int := if ((decide (0 < p.style) && decide (p.style < 3)) && decide ((i : Int) = 0)) = true then k + 1 else n / 7 % p.mst
def wayO (p : TP) (k n : Int) (i : Nat) : Option Nat := if decide (p.many ≤ wayV p k n i) = true then none else some (wayV p k n i).toNat
def wState (p : TP) (k n0 : Int) : Nat → List (Option Nat) × Int
  | 0 => ([], n0)
  | i + 1 => ((wState p k n0 i).1 ++ [wayO p k (nxt (wState p k n0 i).2) i], nxt (wState p k n0 i).2)
def thr : List Int := [6, 12, 30, 3]
def toldV (p : TP) (n : Int) : Int := n / 7 % thr.getD p.style.toNat 0
def toldO (p : TP) (n : Int) : Option Int := if decide (2 < toldV p n) = true then none else some (toldV p n * p.alone)
def rState (p : TP) (n0 : Int) : Nat → List Row × Int
  | 0 => ([], n0)
  | k + 1 =>
    ((rState p n0 k).1 ++ [(toldO p (nxt (wState p k (rState p n0 k).2 p.signs.length).2), (wState p k (rState p n0 k).2 p.signs.length).1)],
      nxt (wState p k (rState p n0 k).2 p.signs.length).2)
def tpMany (ns : List Int) : Int := if decide (cell ns 1 / 7 % 6 = 1) = true then 1 + cell ns 1 / 42 % 64 else 1 + cell ns 1 % 7
def tpSigns (ns : List Int) (ls : List (List Nat)) (most : Int) : List Nat := cutG (TL.joinL [] (cutG ls none (some (cell ns 2 % 5)))) none (some (if decide (7 < tpMany ns) = true then most else 40))
def tpOf (ns : List Int) (ls : List (List Nat)) (most : Int) : TP where
  many := tpMany ns
  signs := tpSigns ns ls most
  style := cell ns 2 / 5 % 4
  mst := tpMany ns + [0, 1, 1 + tpMany ns / 3].getD (cell ns 2 / 20 % 3).toNat 0
  alone := [0, 1, 7, 10 ^ 9].getD (cell ns 2 / 60 % 4).toNat 0
def tableBy (ns : List Int) (ls : List (List Nat)) (most : Int) : Tbl := ⟨tpSigns ns ls most, (rState (tpOf ns ls most) (cell ns 3 % 2147483647) (tpMany ns).toNat).1⟩
theorem tpMany_b (ns : List Int) : 1 ≤ tpMany ns ∧ tpMany ns ≤ 64 := by
  unfold tpMany
  have h0 := mod_lo (cell ns 1) (n := 7) (by decide)
  have h1 := mod_hi (cell ns 1) (n := 7) (by decide)
  have h2 := mod_lo (cell ns 1 / 42) (n := 64) (by decide)
  have h3 := mod_hi (cell ns 1 / 42) (n := 64) (by decide)
  split <;> omega
theorem cutG_len {α : Type} (xs : List α) (lo hi : Option Int) : (cutG xs lo hi).length ≤ xs.length := by
  unfold cutG
  rw [List.length_take, List.length_drop]
  omega
theorem cutG_mem {α : Type} {xs : List α} {lo hi : Option Int} {x : α} (h : x ∈ cutG xs lo hi) : x ∈ xs := List.mem_of_mem_drop (List.mem_of_mem_take h)
theorem cutG_map0 {α β : Type} (f : α → β) (xs : List α) (lo hi : Option Int) : cutG (xs.map f) lo hi = (cutG xs lo hi).map f := by
  unfold cutG
  rw [List.map_take, List.map_drop, List.length_map]
theorem cutG_to {α : Type} (xs : List α) {n : Int} (h : 0 ≤ n) : cutG xs none (some n) = xs.take n.toNat := by
  unfold cutG
  have e : n = (n.toNat : Int) := by omega
  rw [HT.sIx_none, e, HT.sIx_nat, Int.toNat_natCast, List.drop_zero, Nat.sub_zero]
  by_cases hl : n.toNat ≤ xs.length
  · rw [Nat.min_eq_left hl]
  · rw [Nat.min_eq_right (by omega), List.take_of_length_le (Nat.le_refl _), List.take_of_length_le (by omega)]
theorem cutG_to_len {α : Type} (xs : List α) {n : Int} (h : 0 ≤ n) : (cutG xs none (some n)).length ≤ n.toNat := by
  rw [cutG_to xs h, List.length_take]
  omega
theorem sum_le {b : Nat} : ∀ {xs : List Nat}, (∀ x ∈ xs, x ≤ b) → xs.sum ≤ xs.length * b
  | [], _ => Nat.zero_le _
  | x :: r, h => by
    have h1 := h x (by simp)
    have h2 := sum_le (xs := r) fun y hy => h y (by simp [hy])
    rw [List.sum_cons, List.length_cons, Nat.succ_mul]
    omega
theorem flat_len (xs : List (List Nat)) : xs.flatten.length = (xs.map (·.length)).sum := List.length_flatten
theorem joined {ls : List (List Nat)} (h : ∀ g ∈ ls, g.length ≤ 19) : (ls.map (·.length)).sum ≤ ls.length * 19 := by
  have := sum_le (b := 19) (xs := ls.map (·.length)) fun x hx => by
    obtain ⟨g, hg, rfl⟩ := List.mem_map.mp hx
    exact h g hg
  rwa [List.length_map] at this
theorem tpOf_ok {ns : List Int} {ls : List (List Nat)} {most : Int} (h : LetOk ls) (hm : 0 ≤ most ∧ most ≤ 40) : (tpOf ns ls most).Ok where
  m := tpMany_b ns
  s := by
    show (tpSigns ns ls most).length ≤ 100
    unfold tpSigns
    refine Nat.le_trans (cutG_to_len _ ?_) ?_
    · split <;> omega
    · split <;> omega
  lt := fun x hx => by
    have hx := cutG_mem hx
    rw [joinL_nil] at hx
    obtain ⟨g, hg, hxg⟩ := List.mem_flatten.mp hx
    exact h.lt g (cutG_mem hg) x hxg
  st := ⟨mod_lo _ (by decide), mod_hi _ (by decide)⟩
  mo := by
    show 1 ≤ tpMany ns + [0, 1, 1 + tpMany ns / 3].getD (cell ns 2 / 20 % 3).toNat 0 ∧ _
    have h0 := tpMany_b ns
    have hx : ∀ x ∈ ([0, 1, 1 + tpMany ns / 3] : List Int), 0 ≤ x ∧ x ≤ 100 := by
      intro x hx
      simp only [List.mem_cons, List.not_mem_nil, or_false] at hx
      rcases hx with rfl | rfl | rfl <;> omega
    have h1 := mod_lo (cell ns 2 / 20) (n := 3) (by decide)
    have h2 := mod_hi (cell ns 2 / 20) (n := 3) (by decide)
    have hl : (cell ns 2 / 20 % 3).toNat < ([0, 1, 1 + tpMany ns / 3] : List Int).length := by show _ < 3; omega
    have q : 0 ≤ ([0, 1, 1 + tpMany ns / 3] : List Int).getD (cell ns 2 / 20 % 3).toNat 0 ∧ ([0, 1, 1 + tpMany ns / 3] : List Int).getD (cell ns 2 / 20 % 3).toNat 0 ≤ 100 := by
      rw [List.getD_eq_getElem?_getD, List.getElem?_eq_getElem hl]
      exact hx _ (List.getElem_mem hl)
    show 1 ≤ tpMany ns + [0, 1, 1 + tpMany ns / 3].getD (cell ns 2 / 20 % 3).toNat 0 ∧ tpMany ns + [0, 1, 1 + tpMany ns / 3].getD (cell ns 2 / 20 % 3).toNat 0 ≤ 1000
    omega
  al := by
    have hx : ∀ x ∈ ([0, 1, 7, 10 ^ 9] : List Int), 0 ≤ x ∧ x ≤ 1000000000 := by decide
    have h1 := mod_lo (cell ns 2 / 60) (n := 4) (by decide)
    have h2 := mod_hi (cell ns 2 / 60) (n := 4) (by decide)
    have hl : (cell ns 2 / 60 % 4).toNat < ([0, 1, 7, 10 ^ 9] : List Int).length := by show _ < 4; omega
    show 0 ≤ ([0, 1, 7, 10 ^ 9] : List Int).getD (cell ns 2 / 60 % 4).toNat 0 ∧ ([0, 1, 7, 10 ^ 9] : List Int).getD (cell ns 2 / 60 % 4).toNat 0 ≤ 1000000000
    rw [List.getD_eq_getElem?_getD, List.getElem?_eq_getElem hl]
    exact hx _ (List.getElem_mem hl)
theorem w_len (p : TP) (k n0 : Int) : ∀ i, (wState p k n0 i).1.length = i
  | 0 => rfl
  | i + 1 => by
    show ((wState p k n0 i).1 ++ [_]).length = i + 1
    rw [List.length_append, w_len p k n0 i]
    rfl
theorem wayV_lo {p : TP} (h : p.Ok) {k n : Int} (hk : 0 ≤ k) (i : Nat) : 0 ≤ wayV p k n i := by
  unfold wayV
  split
  · omega
  · exact mod_lo _ (by have := h.mo; omega)
theorem w_ins {p : TP} (h : p.Ok) {k n0 : Int} (hk : 0 ≤ k) : ∀ i, ∀ n, some n ∈ (wState p k n0 i).1 → (n : Int) < p.many
  | 0, n, hn => by cases hn
  | i + 1, n, hn => by
    rcases List.mem_append.mp hn with q | q
    · exact w_ins h hk i n q
    · have e := List.mem_singleton.mp q
      unfold wayO at e
      have h0 := wayV_lo h (n := nxt (wState p k n0 i).2) hk i
      by_cases hw : p.many ≤ wayV p k (nxt (wState p k n0 i).2) i
      · rw [if_pos (decide_eq_true hw)] at e
        cases e
      · rw [if_neg (by rw [decide_eq_false hw]; exact Bool.false_ne_true)] at e
        have e := Option.some.inj e
        omega
theorem r_len (p : TP) (n0 : Int) : ∀ k, (rState p n0 k).1.length = k
  | 0 => rfl
  | k + 1 => by
    show ((rState p n0 k).1 ++ [_]).length = k + 1
    rw [List.length_append, r_len p n0 k]
    rfl
theorem r_rows {p : TP} (h : p.Ok) (n0 : Int) : ∀ k, ∀ r ∈ (rState p n0 k).1, r.2.length = p.signs.length ∧ ∀ n, some n ∈ r.2 → (n : Int) < p.many
  | 0, r, hr => by cases hr
  | k + 1, r, hr => by
    rcases List.mem_append.mp hr with q | q
    · exact r_rows h n0 k r q
    · rw [List.mem_singleton.mp q]
      exact ⟨w_len _ _ _ _, w_ins h (Int.natCast_nonneg k) _⟩
theorem tableBy_ok {ns : List Int} {ls : List (List Nat)} {most : Int} (h : LetOk ls) (hm : 0 ≤ most ∧ most ≤ 40) : (tableBy ns ls most).Ok := by
  have hp := tpOf_ok (ns := ns) h hm
  have hl : (tableBy ns ls most).rows.length = (tpMany ns).toNat := r_len _ _ _
  have hb := tpMany_b ns
  exact {
    pos := by rw [hl]; omega
    wid := fun r hr => (r_rows hp _ _ r hr).1
    ins := fun r hr n hn => by
      have := (r_rows hp _ _ r hr).2 n hn
      have e : (tpOf ns ls most).many = tpMany ns := rfl
      rw [hl]
      omega
    few := Nat.le_trans hp.s (by decide)
    many := by rw [hl]; omega
    lt := hp.lt }
/-- one of two, by a truth -/
theorem pick2 {x y : D} (b : Bool) : atI [x, y] (if b = true then 1 else 0) = some (if b = true then y else x) := by cases b <;> rfl
end Ab
namespace Ab
open PySem PySem.Spec PyProof.Rows L2
/-! ### words and cuts by a table -/
/-- what is told of a row, or of nowhere -/
def toldOf (t : Tbl) (o : Option Nat) : Option Int := o.bind fun n => (t.rows[n]?).bind fun r => r.1
theorem toldOf_at {t : Tbl} {n : Nat} {r : Row} (h : t.rows[n]? = some r) : toldOf t (some n) = r.1 := by
  show (t.rows[n]?).bind _ = _
  rw [h]
  rfl
/-- the longest stretch from a place on, of those up to i signs -/
def best (t : Tbl) (s : List Nat) (at_ : Nat) : Nat → Option (Int × Nat)
  | 0 => none
  | i + 1 => match toldOf t (runs t (some 0) ((s.drop at_).take (i + 1))) with
    | some v => some (v, at_ + (i + 1))
    | none => best t s at_ i
def wordOf (t : Tbl) (s : List Nat) (at_ : Nat) : Option (Int × Nat) := best t s at_ (s.length - at_)
theorem best_end {t : Tbl} {s : List Nat} {at_ : Nat} : ∀ {i : Nat} {v : Int} {e : Nat}, best t s at_ i = some (v, e) → at_ < e ∧ e ≤ at_ + i
  | 0, _, _, h => by cases h
  | i + 1, v, e, h => by
    unfold best at h
    cases q : toldOf t (runs t (some 0) ((s.drop at_).take (i + 1))) with
    | some w =>
      rw [q] at h
      cases h
      omega
    | none =>
      rw [q] at h
      have := best_end h
      omega
theorem word_end {t : Tbl} {s : List Nat} {at_ : Nat} {v : Int} {e : Nat} (h : wordOf t s at_ = some (v, e)) (hl : at_ ≤ s.length) : at_ < e ∧ e ≤ s.length := by
  have := best_end h
  omega
/-- nowhere: nothing more is told -/
theorem best_dead {t : Tbl} {s : List Nat} {at_ i : Nat} (h : runs t (some 0) ((s.drop at_).take (i + 1)) = none) : ∀ j, i ≤ j → best t s at_ j = best t s at_ i
  | j, hj => by
    induction j with
    | zero =>
      have : i = 0 := by omega
      rw [this]
    | succ j ih =>
      by_cases e : i = j + 1
      · rw [e]
      · have hd : runs t (some 0) ((s.drop at_).take (j + 1)) = none := by
          have h2 := runs_app t (some 0) ((s.drop at_).take (i + 1)) ((((s.drop at_).take (j + 1)).drop (i + 1)))
          have h3 : (s.drop at_).take (i + 1) ++ ((s.drop at_).take (j + 1)).drop (i + 1) = (s.drop at_).take (j + 1) := by
            have : (s.drop at_).take (i + 1) = ((s.drop at_).take (j + 1)).take (i + 1) := by
              rw [List.take_take, Nat.min_eq_left (by omega)]
            rw [this, List.take_append_drop]
          rw [h3, h, runs_none] at h2
          exact h2
        have e2 : best t s at_ (j + 1) = best t s at_ j := by
          show (match toldOf t (runs t (some 0) ((s.drop at_).take (j + 1))) with | some v => some (v, at_ + (j + 1)) | none => best t s at_ j) = _
          rw [hd]
          rfl
        rw [e2]
        exact ih (by omega)
abbrev Piece := Option Int × Nat × Nat
def nextAt (t : Tbl) (s : List Nat) (at_ : Nat) : Option Int × Nat := match wordOf t s at_ with
  | some (v, e) => (some v, e)
  | none => (none, at_ + 1)
theorem nextAt_b {t : Tbl} {s : List Nat} {at_ : Nat} (hl : at_ < s.length) : at_ < (nextAt t s at_).2 ∧ (nextAt t s at_).2 ≤ s.length := by
  unfold nextAt
  cases q : wordOf t s at_ with
  | none =>
    show at_ < at_ + 1 ∧ at_ + 1 ≤ s.length
    omega
  | some w =>
    obtain ⟨v, e⟩ := w
    exact word_end q (by omega)
/-- a cut by what comes next: n pieces at most -/
def cutN (nx : Nat → Option Int × Nat) (len : Nat) : Nat → List Piece × Nat
  | 0 => ([], 0)
  | m + 1 => if (cutN nx len m).2 < len then ((cutN nx len m).1 ++ [((nx (cutN nx len m).2).1, (cutN nx len m).2, (nx (cutN nx len m).2).2)], (nx (cutN nx len m).2).2) else cutN nx len m
def cutA (nx : Nat → Option Int × Nat) (len : Nat) : List Piece := (cutN nx len len).1
theorem cutN_step {nx : Nat → Option Int × Nat} {len m : Nat} (h : (cutN nx len m).2 < len) : cutN nx len (m + 1) = ((cutN nx len m).1 ++ [((nx (cutN nx len m).2).1, (cutN nx len m).2, (nx (cutN nx len m).2).2)], (nx (cutN nx len m).2).2) := by
  show (if _ then _ else _) = _
  rw [if_pos h]
theorem cutN_stop {nx : Nat → Option Int × Nat} {len m : Nat} (h : ¬ (cutN nx len m).2 < len) : ∀ j, m ≤ j → cutN nx len j = cutN nx len m
  | j, hj => by
    induction j with
    | zero =>
      have : m = 0 := by omega
      rw [this]
    | succ j ih =>
      by_cases e : m = j + 1
      · rw [e]
      · have hi := ih (by omega)
        show (if _ then _ else _) = _
        rw [hi, if_neg h]
theorem cutN_at {nx : Nat → Option Int × Nat} {len : Nat} (hn : ∀ a, a < len → a < (nx a).2 ∧ (nx a).2 ≤ len) : ∀ m, (cutN nx len m).2 ≤ len ∧ ((cutN nx len m).2 < len → m ≤ (cutN nx len m).2) ∧ (cutN nx len m).1.length ≤ m
  | 0 => ⟨Nat.zero_le _, fun _ => Nat.le_refl _, Nat.le_refl _⟩
  | m + 1 => by
    obtain ⟨h1, h2, h3⟩ := cutN_at hn m
    by_cases h : (cutN nx len m).2 < len
    · rw [cutN_step h]
      have := hn _ h
      have := h2 h
      refine ⟨by show _ ≤ len; omega, fun _ => by show m + 1 ≤ _; omega, ?_⟩
      show (_ ++ [_]).length ≤ m + 1
      rw [List.length_append, List.length_singleton]
      omega
    · rw [cutN_stop h (m + 1) (by omega)]
      exact ⟨h1, fun z => absurd z h, by omega⟩
def pieceD (p : Piece) : D := .tup [optI p.1, .int (p.2.1 : Nat), .int (p.2.2 : Nat)]
def piecesD (ps : List Piece) : List D := ps.map pieceD
end Ab
namespace Ab
open PySem PySem.Spec PyProof.Rows L2
def topS (i : Nat) : Stmt := PySem.Challenge.pw_rulescan_k05_words.main.body.getD i (.Pass ⟨0, 0, 0, 0⟩)
section
variable {P : Program} {w : World} {K : PySem.W.Frag} {mg : Str → Option Value} {base : Heap}
/-! ### _law_cell_at -/
abbrev s_law_cell_at : Stmt := topS 4
theorem sc_law_cell_at : FnScope ["_law_script", "_law_k"] ["_law_script", "_law_k"] (defScope s_law_cell_at) := ⟨rfl, rfl, rfl, by decide +kernel, rfl, by decide +kernel, by decide +kernel⟩
def R_law_cell_at (K : PySem.W.Frag) (as : List A) (r : A) : Prop := ∃ (ns : List Int) (k : Int), as = [.p (ScP K ns), .d (.int k)] ∧ 0 ≤ k ∧ r = .d (.int (cell ns k))
abbrev Has_law_cell_at (P : Program) (w : World) (K : PySem.W.Frag) (mg : Str → Option Value) (base : Heap) : Prop := Has P w K mg base "_law_cell_at" ["_law_script", "_law_k"] 1 (SpF K (R_law_cell_at K))
theorem ok_law_cell_at (DD : DefAt K mg "_law_cell_at" s_law_cell_at ["_law_script", "_law_k"]) (m_len : mg "len" = none) : Has_law_cell_at P w K mg base := by
  refine okF DD sc_law_cell_at (by rintro as r ⟨_, _, rfl, _⟩; rfl) fun _ _ _ _ _ _ _ hr => ⟨_, (pss_cons (ps_if (pt_cmpR op_lt (pv 1) (pe_callB call_len (by rfl) m_len (by decide +kernel) (pa_cons (pv 0) pa_nil)) (nomark _)) (pss_one (ps_ret (pe_ix ix_list (pv 0) (pv 1) (fun _ _ => rfl)))) pss_nil)
      (pss_one (ps_ret pe_int))), ?_⟩
  rintro as r ⟨ns, k, rfl, h0, rfl⟩
  -- if _law_k < len(_law_script):
  refine as_seq (as_if (at_val (ae_op (ae_var rfl rfl) (ae_cb (al_cons (ae_var rfl rfl) al_nil) ac_lenP) a2_I0b)) (fun h => ?_) (fun h => ?_))
  · exact as_ret (ae_op (ae_var rfl rfl) (ae_var rfl rfl) (a2_ixP (cell_at h0 (of_decide_eq_true h)))) ⟨rfl, rfl⟩
  · refine as_next (as_ret ae_int ⟨?_, rfl⟩)
    rw [cell_out (of_decide_eq_false h)]
/-! ### _law_whole -/
abbrev s_law_whole : Stmt := topS 5
theorem sc_law_whole : FnScope ["_law_found"] ["_law_found"] (defScope s_law_whole) := ⟨rfl, rfl, rfl, by decide +kernel, rfl, by decide +kernel, by decide +kernel⟩
def isInt : D → Bool
  | .int _ => true
  | _ => false
def R_law_whole (as : List A) (r : A) : Prop := ∃ d : D, as = [.d d] ∧ r = .d (.bl (isInt d))
abbrev Has_law_whole (P : Program) (w : World) (K : PySem.W.Frag) (mg : Str → Option Value) (base : Heap) : Prop := Has P w K mg base "_law_whole" ["_law_found"] 1 (SpF K R_law_whole)
theorem kit_int (d : D) : kitB (tyD d) "int" = some (match d with | .int _ => true | .bl _ => true | _ => false) := by
  cases d with
  | non => exact (by decide +kernel : kitB "NoneType" "int" = some false)
  | bl _ => exact (by decide +kernel : kitB "bool" "int" = some true)
  | int _ => exact (by decide +kernel : kitB "int" "int" = some true)
  | str _ => exact (by decide +kernel : kitB "str" "int" = some false)
  | lst _ => exact (by decide +kernel : kitB "list" "int" = some false)
  | tup _ => exact (by decide +kernel : kitB "tuple" "int" = some false)
theorem kit_bool (d : D) : kitB (tyD d) "bool" = some (match d with | .bl _ => true | _ => false) := by
  cases d with
  | non => exact (by decide +kernel : kitB "NoneType" "bool" = some false)
  | bl _ => exact (by decide +kernel : kitB "bool" "bool" = some true)
  | int _ => exact (by decide +kernel : kitB "int" "bool" = some false)
  | str _ => exact (by decide +kernel : kitB "str" "bool" = some false)
  | lst _ => exact (by decide +kernel : kitB "list" "bool" = some false)
  | tup _ => exact (by decide +kernel : kitB "tuple" "bool" = some false)
theorem ok_law_whole (DD : DefAt K mg "_law_whole" s_law_whole ["_law_found"]) (m_isinstance : mg "isinstance" = none) (m_bool : mg "bool" = none) (m_int : mg "int" = none) : Has_law_whole P w K mg base := by
  refine okF DD sc_law_whole (by rintro as r ⟨_, rfl, _⟩; rfl) fun _ _ _ _ _ _ _ hr => ⟨_, (pss_one (ps_ret (pe_and (pe_callB call_isi (by rfl) m_isinstance (by decide +kernel) (pa_cons (pv 0) (pa_cons (pe_bltn (v := .ty "int") (by rfl) m_int (by decide +kernel) rfl) pa_nil))) (pe_one (pe_not (pe_callB call_isi (by rfl) m_isinstance (by decide +kernel) (pa_cons (pv 0) (pa_cons (pe_bltn (v := .ty "bool") (by rfl) m_bool (by decide +kernel) rfl) pa_nil)))))))), ?_⟩
  rintro as r ⟨d, rfl, rfl⟩
  refine as_ret (ae_and2 (ae_cb (al_cons (ae_var rfl rfl) (al_cons ae_ty al_nil)) (ac_isi (kit_int d))) fun h => (ae_notV (ae_cb (al_cons (ae_var rfl rfl) (al_cons ae_ty al_nil)) (ac_isi (kit_bool d))))) ⟨?_, rfl⟩
  cases d <;> rfl
/-! ### _law_sign_by -/
abbrev s_law_sign_by : Stmt := topS 6
theorem sc_law_sign_by : FnScope ["_law_cell", "_law_some"] ["_law_cell"] (defScope s_law_sign_by) := ⟨rfl, rfl, rfl, by decide +kernel, rfl, by decide +kernel, by decide +kernel⟩
def R_law_sign_by (as : List A) (r : A) : Prop := ∃ c : Int, as = [.d (.int c)] ∧ r = .d (.str [sgn c])
abbrev Has_law_sign_by (P : Program) (w : World) (K : PySem.W.Frag) (mg : Str → Option Value) (base : Heap) : Prop := Has P w K mg base "_law_sign_by" ["_law_cell"] 1 (SpF K R_law_sign_by)
theorem ok_law_sign_by (DD : DefAt K mg "_law_sign_by" s_law_sign_by ["_law_cell"]) : Has_law_sign_by P w K mg base := by
  refine okF DD sc_law_sign_by (by rintro as r ⟨_, rfl, _⟩; rfl) fun _ _ _ _ _ _ _ hr => ⟨_, (pss_cons (ps_set (i := 1) sc_law_sign_by.nd rfl (.inl rfl) pe_str)
      (pss_cons (ps_set (i := 1) sc_law_sign_by.nd rfl (.inl rfl) (pe_op op_add_str (pv 1) pe_str))
      (pss_one (ps_ret (pe_ix ix_str (pv 1) (pe_op op_mod (pv 0) pe_int) (fun _ _ => rfl)))))), ?_⟩
  rintro as r ⟨c, rfl, rfl⟩
  refine as_seq (as_asg (ae_str (s := abc1) (by decide +kernel)) ?_)
  refine as_seq (as_asg (ae_op (ae_var rfl rfl) (ae_str (s := abc2) (by decide +kernel)) (a2_addS (by decide +kernel))) ?_)
  exact as_ret (ae_op (ae_var rfl rfl) (ae_op (ae_var rfl rfl) ae_int (a2_I (by decide))) (a2_ixS (s := abc1 ++ abc2) (by decide +kernel) (sgn_at c))) ⟨rfl, rfl⟩
/-! ### _law_letters -/
abbrev s_law_letters : Stmt := topS 7
theorem sc_law_letters : FnScope ["_law_cell", "_law_gap", "_law_size", "_law_signs", "_law_k"] ["_law_cell"] (defScope s_law_letters) := ⟨rfl, rfl, rfl, by decide +kernel, rfl, by decide +kernel, by decide +kernel⟩
abbrev strsD (ls : List (List Nat)) : D := .lst (ls.map .str)
def R_law_letters (as : List A) (r : A) : Prop := ∃ c : Int, as = [.d (.int c)] ∧ r = .d (strsD (letters c))
abbrev Has_law_letters (P : Program) (w : World) (K : PySem.W.Frag) (mg : Str → Option Value) (base : Heap) : Prop := Has P w K mg base "_law_letters" ["_law_cell"] 2 (SpF K R_law_letters)
theorem cut_letter (c : Int) {k : Nat} (hk : k < 5) : cutG (lsigns c) (some ((k : Int) * gsize c)) (some ((k : Int) * gsize c + gsize c)) = letter c k := by
  have h := gsize_b c
  have e : gsize c = ((gsize c).toNat : Int) := by omega
  have h1 : k * (gsize c).toNat ≤ 4 * (gsize c).toNat := Nat.mul_le_mul_right _ (by omega)
  have hl := lsigns_len c
  have e1 : (k : Int) * gsize c = ((k * (gsize c).toNat : Nat) : Int) := by
    rw [Int.natCast_mul, ← e]
  have e2 : (k : Int) * gsize c + gsize c = ((k * (gsize c).toNat + (gsize c).toNat : Nat) : Int) := by
    rw [Int.natCast_add, ← e1, ← e]
  unfold cutG letter
  rw [e2, e1, HT.sIx_nat, HT.sIx_nat, Nat.min_eq_left (by omega), Nat.min_eq_left (by omega), Nat.add_sub_cancel_left]
theorem ok_law_letters (DD : DefAt K mg "_law_letters" s_law_letters ["_law_cell"]) (H_law_sign_by : Has_law_sign_by P w K mg base) (m_range : mg "range" = none) : Has_law_letters P w K mg base := by
  refine okF DD sc_law_letters (by rintro as r ⟨_, rfl, _⟩; rfl) fun _ _ _ _ _ _ _ hr => ⟨_, (pss_cons (ps_set (i := 1) sc_law_letters.nd rfl (.inr rfl) (pe_ix ix_list (pe_lst (pa_cons pe_int (pa_cons pe_int (pa_cons pe_int (pa_cons pe_int (pa_cons pe_int (pa_cons pe_int (pa_cons pe_int (pa_cons pe_int pa_nil))))))))) (pe_op op_mod (pe_op op_fdiv (pv 0) pe_int) pe_int) (fun _ _ => rfl)))
      (pss_cons (ps_set (i := 2) sc_law_letters.nd rfl (.inr rfl) pe_int)
      (pss_cons (ps_if (pt_cmpR op_eq (pe_op op_mod (pe_op op_fdiv (pv 0) pe_int) pe_int) pe_int (nomark _)) (pss_one (ps_set (i := 2) sc_law_letters.nd rfl (.inr rfl) (pe_op op_add (pe_op op_add pe_int (pe_op op_mod (pe_op op_fdiv (pv 0) pe_int) pe_int)) (pe_op op_mul pe_int (pe_op op_mod (pe_op op_fdiv (pv 0) pe_int) pe_int))))) pss_nil)
      (pss_cons (ps_set (i := 3) sc_law_letters.nd rfl (.inr rfl) (pe_lc (own := [("_law_k", 4)]) (g := gName 4) (tt := tYes) (by rfl) sc_law_letters.nd (pi_range1 (by rfl) m_range (pa_cons (pe_op op_mul pe_int (pv 2)) pa_nil)) (blkOk_by (own := [("_law_k", 4)]) (N := ["_law_cell", "_law_gap", "_law_size", "_law_signs", "_law_k"]) (sc := defScope s_law_letters) (by decide +kernel)) (fun _ _ _ _ _ => pg_name (i := 4) sc_law_letters.nd rfl (Or.inl rfl)) (fun _ _ _ _ _ => pts_nil) (fun _ _ _ _ _ => (pe_has H_law_sign_by (hr.mono (by decide)) (by rfl) (pa_cons (pe_op op_add (pv 0) (pe_op op_mul (pv 4) (pv 1))) pa_nil)))))
      (pss_one (ps_ret (pe_lc (own := [("_law_k", 4)]) (g := gName 4) (tt := tYes) (by rfl) sc_law_letters.nd (pi_range1 (by rfl) m_range (pa_cons pe_int pa_nil)) (blkOk_by (own := [("_law_k", 4)]) (N := ["_law_cell", "_law_gap", "_law_size", "_law_signs", "_law_k"]) (sc := defScope s_law_letters) (by decide +kernel)) (fun _ _ _ _ _ => pg_name (i := 4) sc_law_letters.nd rfl (Or.inl rfl)) (fun _ _ _ _ _ => pts_nil) (fun _ _ _ _ _ => (pe_joinK (K := K) rfl pe_str (pe_slice (sllK (K := K) rfl) (pv 3) (po_some (pe_op op_mul (pv 4) (pv 2))) (po_some (pe_op op_add (pe_op op_mul (pv 4) (pv 2)) (pv 2))))))))))))), ?_⟩
  rintro as r ⟨c, rfl, rfl⟩
  have hg := gap_b c
  have hs := gsize_b c
  -- _law_gap = [..][_law_cell // 96 % 8]
  refine as_seq (as_asg (ae_op (an_lst' (ald_cons ae_int (ald_cons ae_int (ald_cons ae_int (ald_cons ae_int (ald_cons ae_int (ald_cons ae_int (ald_cons ae_int (ald_cons ae_int ald_nil))))))))).ae (ae_op (ae_op (ae_var rfl rfl) ae_int (a2_I ⟨by decide, by decide⟩)) ae_int (a2_I (by decide))) (a2_ixL (gap_at c))) ?_)
  -- _law_size
  refine as_seq (as_asg ae_int ?_)
  refine as_seq (as_ifset (at_val (ae_op (ae_op (ae_op (ae_var rfl rfl) ae_int (a2_I ⟨by decide, by decide⟩)) ae_int (a2_I (by decide))) ae_int a2_eqI)) (fun h => (ae_op (ae_op ae_int (ae_op (ae_op (ae_var rfl rfl) ae_int (a2_I ⟨by decide, by decide⟩)) ae_int (a2_I (by decide))) a2_I0) (ae_op ae_int (ae_op (ae_op (ae_var rfl rfl) ae_int (a2_I ⟨by decide, by decide⟩)) ae_int (a2_I (by decide))) (a2_I (.inl ⟨by decide, by decide⟩))) a2_I0)) rfl ?_)
  have e2 : (if decide (c / 768 % 4 = 1) = true then (D.int (2 + c / 3072 % 8 + 10 * (c / 24576 % 2))) else .int 1) = .int (gsize c) := by
    unfold gsize
    split <;> rfl
  rw [e2]
  -- _law_signs
  refine as_seq (as_asg (AN.ae (an_lcN (fun i => .str [sgn (c + (i : Nat) * gap c)]) (ai_rng1 (al_cons (ae_op ae_int (ae_var rfl rfl) (a2_I (.inl ⟨by decide, by decide⟩))) al_nil) (by omega) (by omega)) (by omega) fun i hi => (ae_call (al_cons (ae_op (ae_var rfl rfl) (ae_op (ae_var rfl rfl) (ae_var rfl rfl) (a2_I (.inr ⟨by omega, by omega⟩))) a2_I0) al_nil) rfl ⟨_, rfl, rfl⟩))) ?_)
  have e3 : ((List.range (5 * gsize c).toNat).map fun i => D.str [sgn (c + (i : Nat) * gap c)]) = (((lsigns c).map fun x => [x]).map D.str) := by
    unfold lsigns
    rw [List.map_map, List.map_map]
    rfl
  rw [e3]
  -- the groups
  refine as_ret (AN.ae (an_lcN (fun k => .str (letter c k)) (ai_rng1 (al_cons ae_int al_nil) (by decide) (by decide)) (by decide) fun i hi => ?_)) ⟨?_, rfl⟩
  · have hi : i < 5 := hi
    refine ae_m1 ae_str (AN.ae (an_slL (ae_var rfl rfl) (ao_some (ae_op (ae_var rfl rfl) (ae_var rfl rfl) (a2_I (.inr ⟨by omega, by omega⟩)))) (ao_some (ae_op (ae_op (ae_var rfl rfl) (ae_var rfl rfl) (a2_I (.inr ⟨by omega, by omega⟩))) (ae_var rfl rfl) a2_I0)))) (am_joinT ((letter c i).map fun x => [x]) ?_ ?_ ones_join)
    · rw [cutG_map, cutG_map, cut_letter c hi]
    · rw [ones_sum, letter_len c hi]
      show _ + _ * 0 ≤ _
      omega
  · unfold letters strsD
    rw [List.map_map]
    rfl
/-! ### _law_text_by -/
abbrev s_law_text_by : Stmt := topS 8
theorem sc_law_text_by : FnScope ["_law_cell", "_law_size", "_law_letters_here", "_law_made", "_law_number", "_law_k", "_law_group"] ["_law_cell", "_law_size", "_law_letters_here"] (defScope s_law_text_by) := ⟨rfl, rfl, rfl, by decide +kernel, rfl, by decide +kernel, by decide +kernel⟩
def R_law_text_by (as : List A) (r : A) : Prop := ∃ (c size : Int) (ls : List (List Nat)), as = [.d (.int c), .d (.int size), .d (strsD ls)] ∧ LetOk ls ∧ 0 ≤ size ∧ size ≤ 10000 ∧ r = .d (.str (textBy c size ls))
abbrev Has_law_text_by (P : Program) (w : World) (K : PySem.W.Frag) (mg : Str → Option Value) (base : Heap) : Prop := Has P w K mg base "_law_text_by" ["_law_cell", "_law_size", "_law_letters_here"] 1 (SpF K R_law_text_by)
theorem ok_law_text_by (DD : DefAt K mg "_law_text_by" s_law_text_by ["_law_cell", "_law_size", "_law_letters_here"]) (m_range : mg "range" = none) (m_len : mg "len" = none) : Has_law_text_by P w K mg base := by
  refine okF DD sc_law_text_by (by rintro as r ⟨_, _, _, rfl, _⟩; rfl) fun _ _ _ _ _ _ _ hr => ⟨_, (pss_cons (ps_set (i := 3) sc_law_text_by.nd rfl (.inl rfl) pe_str)
      (pss_cons (ps_set (i := 4) sc_law_text_by.nd rfl (.inl rfl) (pe_op op_mod (pv 0) pe_int))
      (pss_cons (ps_for PassesOwn.never rfl (pi_range1 (by rfl) m_range (pa_cons (pv 1) pa_nil)) (pg_name (i := 5) sc_law_text_by.nd rfl (.inl rfl)) (pss_cons (ps_set (i := 4) sc_law_text_by.nd rfl (.inl rfl) (pe_op op_mod (pe_op op_add (pe_op op_mul (pv 4) pe_int) pe_int) pe_int))
      (pss_cons (ps_set (i := 6) sc_law_text_by.nd rfl (.inl rfl) (pe_ix ix_list (pv 2) (pe_op op_mod (pe_op op_fdiv (pv 4) pe_int) (pe_callB call_len (by rfl) m_len (by decide +kernel) (pa_cons (pv 2) pa_nil))) (fun _ _ => rfl)))
      (pss_one (ps_set (i := 3) sc_law_text_by.nd rfl (.inl rfl) (pe_op op_add_str (pv 3) (pe_ix ix_str (pv 6) (pe_op op_mod (pe_op op_fdiv (pv 4) pe_int) (pe_callB call_len (by rfl) m_len (by decide +kernel) (pa_cons (pv 6) pa_nil))) (fun _ _ => rfl))))))))
      (pss_one (ps_ret (pv 3)))))), ?_⟩
  rintro as r ⟨c, size, ls, rfl, hl, h0, h1, rfl⟩
  refine as_seq (as_asg (ae_str (s := []) (by decide +kernel)) ?_)
  refine as_seq (as_asg (ae_op (ae_var rfl rfl) ae_int (a2_I (by decide))) ?_)
  refine as_forE_seq (fun i => ⟨[.d (.int c), .d (.int size), .d (strsD ls), .d (.str (tbState ls c i).1), .d (.int (tbState ls c i).2), .no, .no], []⟩) (ai_rng1 (al_cons (ae_var rfl rfl) al_nil) (by omega) (by omega)) ?_ (fun i hi => ?_) ?_
  · exact ⟨⟨.inr rfl, .inr rfl, .inr rfl, .inr rfl, .inr rfl, .inl rfl, .inl rfl, trivial⟩, rfl⟩
  · refine ag_name ?_
    have hp : (0 : Int) < ls.length := by have := hl.len; omega
    refine as_seq (as_asg (ae_op (ae_op (ae_op (ae_var rfl rfl) ae_int (a2_I (.inr ⟨by decide, by decide⟩))) ae_int a2_I0) ae_int (a2_I (by decide))) ?_)
    obtain ⟨hg, hm⟩ := grp_at hl (nxt (tbState ls c i).2)
    obtain ⟨g1, g2⟩ := hl.it _ hm
    refine as_seq (as_asg (ae_op (ae_var rfl rfl) (ae_op (ae_op (ae_var rfl rfl) ae_int (a2_I ⟨by decide, by decide⟩)) (ae_cb (al_cons (ae_var rfl rfl) al_nil) ac_lenL) (a2_I (by rw [List.length_map]; exact hp))) (a2_ixL (d := .str (ls.getD (nxt (tbState ls c i).2 / 7 % ls.length).toNat [])) (by rw [List.length_map]; exact atI_map hg))) ?_)
    obtain ⟨sg, _⟩ := sign_at g1 (nxt (tbState ls c i).2 / 700)
    refine as_asg (ae_op (ae_var rfl rfl) (ae_op (ae_var rfl rfl) (ae_op (ae_op (ae_var rfl rfl) ae_int (a2_I ⟨by decide, by decide⟩)) (ae_cb (al_cons (ae_var rfl rfl) al_nil) (ac_lenS (by omega))) (a2_I (by omega))) (a2_ixS (by omega) sg)) (a2_addS ?_)) ?_
    · rw [tb_len]
      show i + 1 ≤ _
      omega
    · exact ⟨⟨.inr rfl, .inr rfl, .inr rfl, .inr rfl, .inr rfl, .inl rfl, .inl rfl, trivial⟩, rfl⟩
  · exact as_ret (ae_var rfl rfl) ⟨rfl, rfl⟩
/-! ### _law_same -/
abbrev s_law_same : Stmt := topS 9
theorem sc_law_same : FnScope ["_law_found", "_law_due"] ["_law_found", "_law_due"] (defScope s_law_same) := ⟨rfl, rfl, rfl, by decide +kernel, rfl, by decide +kernel, by decide +kernel⟩
def R_law_same (as : List A) (r : A) : Prop := ∃ o : Option Int, as = [.d (optI o), .d (optI o)] ∧ r = .d (.bl true)
abbrev Has_law_same (P : Program) (w : World) (K : PySem.W.Frag) (mg : Str → Option Value) (base : Heap) : Prop := Has P w K mg base "_law_same" ["_law_found", "_law_due"] 2 (SpF K R_law_same)
theorem ok_law_same (DD : DefAt K mg "_law_same" s_law_same ["_law_found", "_law_due"]) (H_law_whole : Has_law_whole P w K mg base) : Has_law_same P w K mg base := by
  refine okF DD sc_law_same (by rintro as r ⟨_, rfl, _⟩; rfl) fun _ _ _ _ _ _ _ hr => ⟨_, (pss_cons (ps_if (pt_cmpR op_isN (pv 1) pe_non (nomark _)) (pss_one (ps_ret (pe_cmpR op_isN (pv 0) pe_non (nomark _)))) pss_nil)
      (pss_one (ps_ret (pe_and (pe_has H_law_whole (hr.mono (by decide)) (by rfl) (pa_cons (pv 0) pa_nil)) (pe_one (pe_cmpR op_eq (pv 0) (pv 1) (nomark _))))))), ?_⟩
  rintro as r ⟨o, rfl, rfl⟩
  cases o with
  | none =>
    refine as_seq (as_if (at_val (ae_op (ae_var rfl rfl) ae_non a2_isN)) (fun h => ?_) (fun h => ?_))
    · exact as_ret (ae_op (ae_var rfl rfl) ae_non a2_isN) ⟨rfl, rfl⟩
    · cases h
  | some i =>
    refine as_seq (as_if (at_val (ae_op (ae_var rfl rfl) ae_non a2_isN)) (fun h => ?_) (fun h => ?_))
    · cases h
    · refine as_next ?_
      refine as_ret (ae_and2 (ae_call (al_cons (ae_var rfl rfl) al_nil) rfl ⟨.int i, rfl, rfl⟩) fun h => ae_op (ae_var rfl rfl) (ae_var rfl rfl) a2_eqI) ⟨?_, rfl⟩
      rw [decide_eq_true rfl]
      rfl
/-! ### _led -/
abbrev s_led : Stmt := topS 2
theorem sc_led : FnScope ["made", "row", "sign", "signs", "rows", "place", "_", "ways"] ["made", "row", "sign"] (defScope s_led) := ⟨rfl, rfl, rfl, by decide +kernel, rfl, by decide +kernel, by decide +kernel⟩
def R_led (as : List A) (r : A) : Prop := ∃ (t : Tbl) (n c : Nat), as = [.d (tblD t), .d (.int (n : Nat)), .d (.str [c])] ∧ t.Ok ∧ n < t.rows.length ∧ r = .d (optN (step t n c))
abbrev Has_led (P : Program) (w : World) (K : PySem.W.Frag) (mg : Str → Option Value) (base : Heap) : Prop := Has P w K mg base "_led" ["made", "row", "sign"] 1 (SpF K R_led)
theorem ok_led (DD : DefAt K mg "_led" s_led ["made", "row", "sign"]) : Has_led P w K mg base := by
  refine okF DD sc_led (by rintro as r ⟨_, _, _, rfl, _⟩; rfl) fun _ _ _ _ _ _ _ hr => ⟨_, (pss_cons (ps_asg (pv 0) (pg_tup rfl (pgs_cons (pg_name (i := 3) sc_led.nd rfl (.inl rfl)) (pgs_cons (pg_name (i := 4) sc_led.nd rfl (.inl rfl)) pgs_nil))))
      (pss_cons (ps_set (i := 5) sc_led.nd rfl (.inl rfl) (pe_m1 PySem.F.slot_str_find PySem.F.type_str_find mt_find (pv 3) (pv 2)))
      (pss_cons (ps_if (pt_cmpR op_lt (pv 5) pe_int (nomark _)) (pss_one (ps_ret pe_non)) pss_nil)
      (pss_cons (ps_asg (pe_ix ix_list (pv 4) (pv 1) (fun _ _ => rfl)) (pg_tup rfl (pgs_cons (pg_name (i := 6) sc_led.nd rfl (.inl rfl)) (pgs_cons (pg_name (i := 7) sc_led.nd rfl (.inl rfl)) pgs_nil))))
      (pss_one (ps_ret (pe_ix ix_list (pv 7) (pv 5) (fun _ _ => rfl)))))))), ?_⟩
  rintro as r ⟨t, n, c, rfl, ht, hn, rfl⟩
  refine as_seq (as_asgG (ae_var rfl rfl) (ag_tup (ags_name (ags_name (ags_nil ?_)))))
  refine as_seq (as_asg (ae_m1 (ae_var rfl rfl) (ae_var rfl rfl) am_find) ?_)
  cases hp : pos c t.signs with
  | none =>
    refine as_seq (as_if (at_val (ae_op (ae_var rfl rfl) ae_int a2_I0b)) (fun h => ?_) (fun h => ?_))
    · exact as_ret ae_non ⟨by rw [step_no hp]; rfl, rfl⟩
    · exact absurd h (by decide)
  | some j =>
    obtain ⟨r, o, h1, h2, h3⟩ := step_at ht hn hp
    refine as_seq (as_if (at_val (ae_op (ae_var rfl rfl) ae_int a2_I0b)) (fun h => ?_) (fun h => ?_))
    · have h : ((j : Nat) : Int) < 0 := of_decide_eq_true h
      omega
    · refine as_next ?_
      refine as_seq (as_asgG (ae_op (ae_var rfl rfl) (ae_var rfl rfl) (a2_ixL (d := rowD r) (atI_map (atI_nat h1)))) (ag_tup (ags_name (ags_name (ags_nil ?_)))))
      exact as_ret (ae_op (ae_var rfl rfl) (ae_var rfl rfl) (a2_ixL (atI_map (atI_nat h2)))) ⟨by rw [h3], rfl⟩
/-! ### _law_go -/
abbrev s_law_go : Stmt := topS 10
theorem sc_law_go : FnScope ["_law_made", "_law_row", "_law_signs", "_law_sign"] ["_law_made", "_law_row", "_law_signs"] (defScope s_law_go) := ⟨rfl, rfl, rfl, by decide +kernel, rfl, by decide +kernel, by decide +kernel⟩
def R_law_go (as : List A) (r : A) : Prop := ∃ (t : Tbl) (o : Option Nat) (s : List Nat), as = [.d (tblD t), .d (optN o), .d (.str s)] ∧ t.Ok ∧ (∀ m, o = some m → m < t.rows.length) ∧ r = .d (optN (runs t o s))
abbrev Has_law_go (P : Program) (w : World) (K : PySem.W.Frag) (mg : Str → Option Value) (base : Heap) : Prop := Has P w K mg base "_law_go" ["_law_made", "_law_row", "_law_signs"] 1 (SpF K R_law_go)
theorem ok_law_go (DD : DefAt K mg "_law_go" s_law_go ["_law_made", "_law_row", "_law_signs"]) : Has_law_go P w K mg base := by
  refine okF DD sc_law_go (by rintro as r ⟨_, _, _, rfl, _⟩; rfl) fun _ _ _ _ _ _ _ hr => ⟨_, (pss_cons (ps_for PassesOwn.never rfl (pi_str (pv 2)) (pg_name (i := 3) sc_law_go.nd rfl (.inl rfl)) (pss_cons (ps_if (PW.pt (pw_or (pt_cmpR op_isN (pv 1) pe_non (nomark _)) (pw_or1 (pt_cmpR op_notIn_sign (pv 3) (pe_ix ix_tup (pv 0) pe_int (fun _ _ => rfl)) rfl)))) (pss_one (ps_ret pe_non)) pss_nil)
      (pss_one (ps_set (i := 1) sc_law_go.nd rfl (.inl rfl) (pe_ix ix_list (pe_ix ix_tup (pe_ix ix_list (pe_ix ix_tup (pv 0) pe_int (fun _ _ => rfl)) (pv 1) (fun _ _ => rfl)) pe_int (fun _ _ => rfl)) (pe_m1 PySem.F.slot_str_index PySem.F.type_str_index mt_sindex (pe_ix ix_tup (pv 0) pe_int (fun _ _ => rfl)) (pv 3)) (fun _ _ => rfl))))))
      (pss_one (ps_ret (pv 1)))), ?_⟩
  rintro as r ⟨t, o, s, rfl, ht, ho, rfl⟩
  refine as_seq (as_for (fun i e' => ∃ q : Option Nat, runs t o (s.take i) = q ∧ (∀ m, q = some m → m < t.rows.length) ∧ Le e' ⟨[.d (tblD t), .d (optN q), .d (.str s), .no], []⟩) (ai_str (n := s.length) (f := fun i => s.getD i 0) (ae_var rfl rfl) rfl (fun i hi => by rw [List.getD_eq_getElem?_getD, List.getElem?_eq_getElem hi]; rfl)) ?_ (fun i e' hi I => ?_) (fun e' I => ?_))
  · exact ⟨o, rfl, ho, ⟨⟨.inr rfl, .inr rfl, .inr rfl, .inl rfl, trivial⟩, rfl⟩⟩
  · obtain ⟨q, h1, h2, le⟩ := I
    have hc : s[i]? = some (s.getD i 0) := by rw [List.getD_eq_getElem?_getD, List.getElem?_eq_getElem hi]; rfl
    have hs := runs_take t o hc
    rw [h1] at hs
    refine AG.le le (ag_name ?_)
    cases q with
    | none =>
      refine as_seq (as_if (at_or (at_val (ae_op (ae_var rfl rfl) ae_non a2_isN)) fun h => (at_val (ae_op (ae_var rfl rfl) (ae_op (ae_var rfl rfl) ae_int (a2_ixT rfl)) a2_notInS))) (fun h => ?_) (fun h => ?_))
      · exact as_ret ae_non ⟨by rw [runs_dead t o h1]; rfl, rfl⟩
      · cases h
    | some n =>
      have hs : runs t o (s.take (i + 1)) = step t n (s.getD i 0) := hs
      refine as_seq (as_if (at_or (at_val (ae_op (ae_var rfl rfl) ae_non a2_isN)) fun h => (at_val (ae_op (ae_var rfl rfl) (ae_op (ae_var rfl rfl) ae_int (a2_ixT rfl)) a2_notInS))) (fun h => ?_) (fun h => ?_))
      · have hm : s.getD i 0 ∉ t.signs := by
          have h : (!decide (s.getD i 0 ∈ t.signs)) = true := h
          rw [Bool.not_eq_true'] at h
          exact of_decide_eq_false h
        have hp : pos (s.getD i 0) t.signs = none := by
          cases z : pos (s.getD i 0) t.signs with
          | none => rfl
          | some j => exact absurd (List.mem_of_getElem? (pos_some z).1) hm
        rw [step_no hp] at hs
        exact as_ret ae_non ⟨by rw [runs_dead t o hs]; rfl, rfl⟩
      · have hm : s.getD i 0 ∈ t.signs := by
          have h : (!decide (s.getD i 0 ∈ t.signs)) = false := h
          rw [Bool.not_eq_false'] at h
          exact of_decide_eq_true h
        obtain ⟨j, hj⟩ := pos_mem hm
        obtain ⟨r, w, k1, k2, k3⟩ := step_at ht (h2 n rfl) hj
        refine as_next ?_
        refine as_asg (ae_op (ae_op (ae_op (ae_op (ae_var rfl rfl) ae_int (a2_ixT rfl)) (ae_var rfl rfl) (a2_ixL (d := rowD r) (atI_map (atI_nat k1)))) ae_int (a2_ixT rfl)) (ae_m1 (ae_op (ae_var rfl rfl) ae_int (a2_ixT rfl)) (ae_var rfl rfl) (am_index hj)) (a2_ixL (atI_map (atI_nat k2)))) ?_
        refine ⟨w, hs.trans k3, fun m hm => ?_, ⟨⟨.inr rfl, .inr rfl, .inr rfl, .inl rfl, trivial⟩, rfl⟩⟩
        exact step_lt ht (k3.trans hm)
  · obtain ⟨q, h1, h2, le⟩ := I
    refine AS.le ?_ le
    rw [List.take_of_length_le (Nat.le_refl _)] at h1
    exact as_ret (ae_var rfl rfl) ⟨by rw [h1], rfl⟩
/-! ### _law_table_by -/
abbrev s_law_table_by : Stmt := topS 12
theorem sc_law_table_by : FnScope ["_law_script", "_law_letters_here", "_law_most_signs", "_law_many", "_law_signs", "_law_style", "_law_most", "_law_alone", "_law_number", "_law_rows", "_law_k", "_law_ways", "_law_sign", "_law_way", "_law_told"] ["_law_script", "_law_letters_here", "_law_most_signs"] (defScope s_law_table_by) := ⟨rfl, rfl, rfl, by decide +kernel, rfl, by decide +kernel, by decide +kernel⟩
def R_law_table_by (K : PySem.W.Frag) (as : List A) (r : A) : Prop := ∃ (ns : List Int) (ls : List (List Nat)) (most : Int), as = [.p (ScP K ns), .d (strsD ls), .d (.int most)] ∧ LetOk ls ∧ (0 ≤ most ∧ most ≤ 40) ∧ r = .d (tblD (tableBy ns ls most))
abbrev Has_law_table_by (P : Program) (w : World) (K : PySem.W.Frag) (mg : Str → Option Value) (base : Heap) : Prop := Has P w K mg base "_law_table_by" ["_law_script", "_law_letters_here", "_law_most_signs"] 2 (SpF K (R_law_table_by K))
theorem wayD {p : TP} (h : p.Ok) {k n : Int} (hk : 0 ≤ k) (i : Nat) : (if decide (p.many ≤ wayV p k n i) = true then D.non else .int (wayV p k n i)) = optN (wayO p k n i) := by
  unfold wayO
  have := wayV_lo h (n := n) hk i
  split
  · rfl
  · show D.int _ = D.int (((wayV p k n i).toNat : Nat) : Int)
    rw [Int.toNat_of_nonneg this]
theorem toldD (p : TP) (n : Int) : (if decide (2 < toldV p n) = true then D.non else .int (toldV p n * p.alone)) = optI (toldO p n) := by
  unfold toldO
  split <;> rfl
theorem ok_law_table_by (DD : DefAt K mg "_law_table_by" s_law_table_by ["_law_script", "_law_letters_here", "_law_most_signs"]) (H_law_cell_at : Has_law_cell_at P w K mg base) (m_range : mg "range" = none) (m_len : mg "len" = none) (m_int : mg "int" = none) : Has_law_table_by P w K mg base := by
  refine okF DD sc_law_table_by (by rintro as r ⟨_, _, _, rfl, _⟩; rfl) fun _ _ _ _ _ _ _ hr => ⟨_, (pss_cons (ps_set (i := 3) sc_law_table_by.nd rfl (.inl rfl) (pe_op op_add pe_int (pe_op op_mod (pe_has H_law_cell_at (hr.mono (by decide)) (by rfl) (pa_cons (pv 0) (pa_cons pe_int pa_nil))) pe_int)))
      (pss_cons (ps_if (pt_cmpR op_eq (pe_op op_mod (pe_op op_fdiv (pe_has H_law_cell_at (hr.mono (by decide)) (by rfl) (pa_cons (pv 0) (pa_cons pe_int pa_nil))) pe_int) pe_int) pe_int (nomark _)) (pss_one (ps_set (i := 3) sc_law_table_by.nd rfl (.inl rfl) (pe_op op_add pe_int (pe_op op_mod (pe_op op_fdiv (pe_has H_law_cell_at (hr.mono (by decide)) (by rfl) (pa_cons (pv 0) (pa_cons pe_int pa_nil))) pe_int) pe_int)))) pss_nil)
      (pss_cons (ps_set (i := 4) sc_law_table_by.nd rfl (.inl rfl) (pe_slice sl_str (pe_join pe_str (pe_slice sl_list (pv 1) po_none (po_some (pe_op op_mod (pe_has H_law_cell_at (hr.mono (by decide)) (by rfl) (pa_cons (pv 0) (pa_cons pe_int pa_nil))) pe_int)))) po_none (po_some (pe_ix ix_list (pe_lst (pa_cons pe_int (pa_cons (pv 2) pa_nil))) (pe_callTy call_int1 (by rfl) m_int (by decide +kernel) (pa_cons (pe_cmpR op_gt (pv 3) pe_int (nomark _)) pa_nil)) (fun _ _ => rfl)))))
      (pss_cons (ps_set (i := 5) sc_law_table_by.nd rfl (.inl rfl) (pe_op op_mod (pe_op op_fdiv (pe_has H_law_cell_at (hr.mono (by decide)) (by rfl) (pa_cons (pv 0) (pa_cons pe_int pa_nil))) pe_int) pe_int))
      (pss_cons (ps_set (i := 6) sc_law_table_by.nd rfl (.inl rfl) (pe_op op_add (pv 3) (pe_ix ix_list (pe_lst (pa_cons pe_int (pa_cons pe_int (pa_cons (pe_op op_add pe_int (pe_op op_fdiv (pv 3) pe_int)) pa_nil)))) (pe_op op_mod (pe_op op_fdiv (pe_has H_law_cell_at (hr.mono (by decide)) (by rfl) (pa_cons (pv 0) (pa_cons pe_int pa_nil))) pe_int) pe_int) (fun _ _ => rfl))))
      (pss_cons (ps_set (i := 7) sc_law_table_by.nd rfl (.inl rfl) (pe_ix ix_list (pe_lst (pa_cons pe_int (pa_cons pe_int (pa_cons pe_int (pa_cons (pe_op op_pow pe_int pe_int) pa_nil))))) (pe_op op_mod (pe_op op_fdiv (pe_has H_law_cell_at (hr.mono (by decide)) (by rfl) (pa_cons (pv 0) (pa_cons pe_int pa_nil))) pe_int) pe_int) (fun _ _ => rfl)))
      (pss_cons (ps_set (i := 8) sc_law_table_by.nd rfl (.inl rfl) (pe_op op_mod (pe_has H_law_cell_at (hr.mono (by decide)) (by rfl) (pa_cons (pv 0) (pa_cons pe_int pa_nil))) pe_int))
      (pss_cons (ps_set (i := 9) sc_law_table_by.nd rfl (.inl rfl) (pe_lst pa_nil))
      (pss_cons (ps_for PassesOwn.never rfl (pi_range1 (by rfl) m_range (pa_cons (pv 3) pa_nil)) (pg_name (i := 10) sc_law_table_by.nd rfl (.inl rfl)) (pss_cons (ps_set (i := 11) sc_law_table_by.nd rfl (.inl rfl) (pe_lst pa_nil))
      (pss_cons (ps_for PassesOwn.never rfl (pi_str (pv 4)) (pg_name (i := 12) sc_law_table_by.nd rfl (.inl rfl)) (pss_cons (ps_set (i := 8) sc_law_table_by.nd rfl (.inl rfl) (pe_op op_mod (pe_op op_add (pe_op op_mul (pv 8) pe_int) pe_int) pe_int))
      (pss_cons (ps_set (i := 13) sc_law_table_by.nd rfl (.inl rfl) (pe_op op_mod (pe_op op_fdiv (pv 8) pe_int) (pv 6)))
      (pss_cons (ps_if (PW.pt (pw_and (pt_chain op_lt op_lt pe_int (pv 5) pe_int) (pw_and1 (pt_cmpR op_eq (pe_callB call_len (by rfl) m_len (by decide +kernel) (pa_cons (pv 11) pa_nil)) pe_int (nomark _))))) (pss_one (ps_set (i := 13) sc_law_table_by.nd rfl (.inl rfl) (pe_op op_add (pv 10) pe_int))) pss_nil)
      (pss_one (ps_expr (pe_bm PySem.F.plainAttrs_list PySem.F.slot_list_append PySem.F.type_list_append mt_append (pv 11) (pa_cons (pe_ix ix_list (pe_lst (pa_cons (pv 13) (pa_cons pe_non pa_nil))) (pe_callTy call_int1 (by rfl) m_int (by decide +kernel) (pa_cons (pe_cmpR op_ge (pv 13) (pv 3) (nomark _)) pa_nil)) (fun _ _ => rfl)) pa_nil))))))))
      (pss_cons (ps_set (i := 8) sc_law_table_by.nd rfl (.inl rfl) (pe_op op_mod (pe_op op_add (pe_op op_mul (pv 8) pe_int) pe_int) pe_int))
      (pss_cons (ps_set (i := 14) sc_law_table_by.nd rfl (.inl rfl) (pe_op op_mod (pe_op op_fdiv (pv 8) pe_int) (pe_ix ix_list (pe_lst (pa_cons pe_int (pa_cons pe_int (pa_cons pe_int (pa_cons pe_int pa_nil))))) (pv 5) (fun _ _ => rfl))))
      (pss_one (ps_expr (pe_bm PySem.F.plainAttrs_list PySem.F.slot_list_append PySem.F.type_list_append mt_append (pv 9) (pa_cons (pe_tup (pa_cons (pe_ix ix_list (pe_lst (pa_cons (pe_op op_mul (pv 14) (pv 7)) (pa_cons pe_non pa_nil))) (pe_callTy call_int1 (by rfl) m_int (by decide +kernel) (pa_cons (pe_cmpR op_gt (pv 14) pe_int (nomark _)) pa_nil)) (fun _ _ => rfl)) (pa_cons (pv 11) pa_nil))) pa_nil)))))))))
      (pss_one (ps_ret (pe_tup (pa_cons (pv 4) (pa_cons (pv 9) pa_nil)))))))))))))), ?_⟩
  rintro as r ⟨ns, ls, most, rfl, hl, hm, rfl⟩
  have hp := tpOf_ok (ns := ns) hl hm
  have hb := tpMany_b ns
  -- _law_many
  refine as_seq (as_asg (ae_op ae_int (ae_op (ae_call (al_cons (ae_var rfl rfl) (al_cons ae_int al_nil)) rfl ⟨_, _, rfl, by decide, rfl⟩) ae_int (a2_I (by decide))) a2_I0) ?_)
  refine as_seq (as_ifset (at_val (ae_op (ae_op (ae_op (ae_call (al_cons (ae_var rfl rfl) (al_cons ae_int al_nil)) rfl ⟨_, _, rfl, by decide, rfl⟩) ae_int (a2_I ⟨by decide, by decide⟩)) ae_int (a2_I (by decide))) ae_int a2_eqI)) (fun h => (ae_op ae_int (ae_op (ae_op (ae_call (al_cons (ae_var rfl rfl) (al_cons ae_int al_nil)) rfl ⟨_, _, rfl, by decide, rfl⟩) ae_int (a2_I ⟨by decide, by decide⟩)) ae_int (a2_I (by decide))) a2_I0)) rfl ?_)
  have e1 : (if decide (cell ns 1 / 7 % 6 = 1) = true then (D.int (1 + cell ns 1 / 42 % 64)) else .int (1 + cell ns 1 % 7)) = .int (tpMany ns) := by
    unfold tpMany
    split <;> rfl
  rw [e1]
  -- _law_signs
  have hc2 := mod_lo (cell ns 2) (n := 5) (by decide)
  have hc2' := mod_hi (cell ns 2) (n := 5) (by decide)
  have hj : ((cutG ls none (some (cell ns 2 % 5))).map (·.length)).sum ≤ 100 := by
    have h1 := joined (ls := cutG ls none (some (cell ns 2 % 5))) fun g hg => (hl.it g (cutG_mem hg)).2
    have h2 := cutG_to_len ls hc2
    omega
  refine as_seq (as_asg (ae_slS (ae_m1 (ae_str (s := []) (by decide +kernel)) (an_slL (ae_var rfl rfl) ao_none (ao_some (ae_op (ae_call (al_cons (ae_var rfl rfl) (al_cons ae_int al_nil)) rfl ⟨_, _, rfl, by decide, rfl⟩) ae_int (a2_I (by decide))))).ae (am_joinT (cutG ls none (some (cell ns 2 % 5))) (cutG_map _ _ _ _) ?_ rfl)) ?_ ao_none (ao_some (ae_op (an_lst' (ald_cons ae_int (ald_cons (ae_var rfl rfl) ald_nil))).ae (ae_cb (al_cons (ae_op (ae_var rfl rfl) ae_int a2_I0b) al_nil) ac_intB) (a2_ixL (d := .int (if decide (7 < tpMany ns) = true then most else 40)) ?_)))) ?_)
  · show _ + _ * 0 ≤ _
    omega
  · rw [joinL_nil, flat_len]
    omega
  · rw [pick2]
    split <;> rfl
  -- _law_style
  refine as_seq (as_asg (ae_op (ae_op (ae_call (al_cons (ae_var rfl rfl) (al_cons ae_int al_nil)) rfl ⟨_, _, rfl, by decide, rfl⟩) ae_int (a2_I ⟨by decide, by decide⟩)) ae_int (a2_I (by decide))) ?_)
  -- _law_most
  refine as_seq (as_asg (ae_op (ae_var rfl rfl) (ae_op (an_lst' (ald_cons ae_int (ald_cons ae_int (ald_cons (ae_op ae_int (ae_op (ae_var rfl rfl) ae_int (a2_I ⟨by decide, by decide⟩)) a2_I0) ald_nil)))).ae (ae_op (ae_op (ae_call (al_cons (ae_var rfl rfl) (al_cons ae_int al_nil)) rfl ⟨_, _, rfl, by decide, rfl⟩) ae_int (a2_I ⟨by decide, by decide⟩)) ae_int (a2_I (by decide))) (a2_ixL (atI_map (l := [0, 1, 1 + tpMany ns / 3]) (g := D.int) (pick_at 0 (mod_lo _ (n := 3) (by decide)) (mod_hi _ (n := 3) (by decide)))))) a2_I0) ?_)
  -- _law_alone
  refine as_seq (as_asg (ae_op (an_lst' (ald_cons ae_int (ald_cons ae_int (ald_cons ae_int (ald_cons (ae_op ae_int ae_int (a2_I ⟨by decide, by decide, by decide⟩)) ald_nil))))).ae (ae_op (ae_op (ae_call (al_cons (ae_var rfl rfl) (al_cons ae_int al_nil)) rfl ⟨_, _, rfl, by decide, rfl⟩) ae_int (a2_I ⟨by decide, by decide⟩)) ae_int (a2_I (by decide))) (a2_ixL (atI_map (l := [0, 1, 7, 10 ^ 9]) (g := D.int) (pick_at 0 (mod_lo _ (by decide)) (mod_hi _ (by decide)))))) ?_)
  -- _law_number
  refine as_seq (as_asg (ae_op (ae_call (al_cons (ae_var rfl rfl) (al_cons ae_int al_nil)) rfl ⟨_, _, rfl, by decide, rfl⟩) ae_int (a2_I (by decide))) ?_)
  -- _law_rows = []
  refine as_seq (as_asgN (an_lst' ald_nil) ?_)
  -- the rows
  refine as_forE_seq (fun k => ⟨[.p (ScP K ns), .d (strsD ls), .d (.int most), .d (.int (tpMany ns)), .d (.str (tpSigns ns ls most)), .d (.int (tpOf ns ls most).style), .d (.int (tpOf ns ls most).mst), .d (.int (tpOf ns ls most).alone), .d (.int (rState (tpOf ns ls most) (cell ns 3 % 2147483647) k).2), .o 0, .no, .no, .no, .no, .no], some ((rState (tpOf ns ls most) (cell ns 3 % 2147483647) k).1.map rowD) :: List.replicate k none⟩) (ai_rng1 (al_cons (ae_var rfl rfl) al_nil) (by omega) (by omega)) ?_ (fun k hk => ?_) ?_
  · exact ⟨⟨.inr rfl, .inr rfl, .inr rfl, .inr rfl, .inr rfl, .inr rfl, .inr rfl, .inr rfl, .inr rfl, .inr rfl, .inl rfl, .inl rfl, .inl rfl, .inl rfl, .inl rfl, trivial⟩, rfl⟩
  · refine ag_name ?_
    generalize hN : (rState (tpOf ns ls most) (cell ns 3 % 2147483647) k).2 = n0
    generalize hR : (rState (tpOf ns ls most) (cell ns 3 % 2147483647) k).1 = rs
    -- _law_ways = []
    refine as_seq (as_asgN (an_lst' ald_nil) ?_)
    have hml : ∀ x : Option (List D), (x :: List.replicate k (none : Option (List D))).length = k + 1 := fun x => by rw [List.length_cons, List.length_replicate]
    -- the ways
    refine as_forE_seq (fun i => ⟨[.p (ScP K ns), .d (strsD ls), .d (.int most), .d (.int (tpMany ns)), .d (.str (tpSigns ns ls most)), .d (.int (tpOf ns ls most).style), .d (.int (tpOf ns ls most).mst), .d (.int (tpOf ns ls most).alone), .d (.int (wState (tpOf ns ls most) k n0 i).2), .o 0, .d (.int (k : Nat)), .o (k + 1), .no, .no, .no], some (rs.map rowD) :: List.replicate k none ++ [some ((wState (tpOf ns ls most) k n0 i).1.map optN)]⟩) (ai_str (n := (tpSigns ns ls most).length) (f := fun i => (tpSigns ns ls most).getD i 0) (ae_var rfl rfl) rfl (fun i hi => by rw [List.getD_eq_getElem?_getD, List.getElem?_eq_getElem hi]; rfl)) ?_ (fun i hi => ?_) ?_
    · refine ⟨⟨.inr rfl, .inr rfl, .inr rfl, .inr rfl, .inr rfl, .inr rfl, .inr rfl, .inr rfl, .inr rfl, .inr rfl, .inr rfl, .inr ?_, .inl rfl, .inl rfl, .inl rfl, trivial⟩, rfl⟩
      show A.o (some (rs.map rowD) :: List.replicate k none).length = A.o (k + 1)
      rw [hml]
    · refine ag_name ?_
      have hw : ∀ ds : List D, (some (rs.map rowD) :: List.replicate k none ++ [some ds])[k + 1]? = some (some ds) := fun ds => by
        rw [List.getElem?_append_right (by rw [hml]; exact Nat.le_refl _), hml, Nat.sub_self]
        rfl
      refine as_seq (as_asg (ae_op (ae_op (ae_op (ae_var rfl rfl) ae_int (a2_I (.inr ⟨by decide, by decide⟩))) ae_int a2_I0) ae_int (a2_I (by decide))) ?_)
      refine as_seq (as_asg (ae_op (ae_op (ae_var rfl rfl) ae_int (a2_I ⟨by decide, by decide⟩)) (ae_var rfl rfl) (a2_I (by have := hp.mo; omega))) ?_)
      refine as_seq (as_ifset (at_and (at_val (ae_chain ae_int (ae_var rfl rfl) a2_I0b (fun h => ae_int) (fun h => a2_I0b))) fun h => (at_val (ae_op (ae_cb (al_cons (ae_var rfl rfl) al_nil) (ac_lenO (hw _))) ae_int a2_eqI))) (fun h => (ae_op (ae_var rfl rfl) ae_int a2_I0)) rfl ?_)
      have e2 : (if (decide (0 < (tpOf ns ls most).style) && decide ((tpOf ns ls most).style < 3) && decide ((((wState (tpOf ns ls most) k n0 i).1.map optN).length : Int) = 0)) = true then D.int ((k : Int) + 1) else D.int ((((wState (tpOf ns ls most) k n0 i).2 * 48271 + 11) % 2147483647) / 7 % (tpOf ns ls most).mst)) = .int (wayV (tpOf ns ls most) k (nxt (wState (tpOf ns ls most) k n0 i).2) i) := by
        rw [List.length_map, w_len]
        unfold wayV nxt
        split <;> rfl
      rw [e2]
      refine as_app (ae_var rfl rfl) (ae_op (an_lst' (ald_cons (ae_var rfl rfl) (ald_cons ae_non ald_nil))).ae (ae_cb (al_cons (ae_op (ae_var rfl rfl) (ae_var rfl rfl) a2_I0b) al_nil) ac_intB) (a2_ixL (pick2 _))) (hw _) ?_ ?_
      · rw [List.length_map, w_len]
        have := hp.s
        have e : (tpOf ns ls most).signs = tpSigns ns ls most := rfl
        rw [e] at this
        omega
      · refine ⟨⟨.inr rfl, .inr rfl, .inr rfl, .inr rfl, .inr rfl, .inr rfl, .inr rfl, .inr rfl, .inr rfl, .inr rfl, .inr rfl, .inr rfl, .inl rfl, .inl rfl, .inl rfl, trivial⟩, ?_⟩
        show List.set (some (rs.map rowD) :: List.replicate k none ++ [_]) (k + 1) _ = _
        rw [List.set_append_right _ _ (by rw [hml]; exact Nat.le_refl _), hml, Nat.sub_self]
        show _ ++ [some _] = _ ++ [some _]
        have e3 := wayD hp (k := k) (n := nxt (wState (tpOf ns ls most) k n0 i).2) (Int.natCast_nonneg k) i
        have e4 : (tpOf ns ls most).many = tpMany ns := rfl
        rw [e4] at e3
        rw [e3]
        show _ = _ ++ [some (((wState (tpOf ns ls most) k n0 i).1 ++ [wayO (tpOf ns ls most) k (nxt (wState (tpOf ns ls most) k n0 i).2) i]).map optN)]
        rw [List.map_append]
        rfl
    · -- behind the ways
      have hw : ∀ ds : List D, (some (rs.map rowD) :: List.replicate k none ++ [some ds])[k + 1]? = some (some ds) := fun ds => by
        rw [List.getElem?_append_right (by rw [hml]; exact Nat.le_refl _), hml, Nat.sub_self]
        rfl
      refine as_seq (as_asg (ae_op (ae_op (ae_op (ae_var rfl rfl) ae_int (a2_I (.inr ⟨by decide, by decide⟩))) ae_int a2_I0) ae_int (a2_I (by decide))) ?_)
      have hst := hp.st
      have hth : 0 < thr.getD (tpOf ns ls most).style.toNat 0 := by
        have h : ∀ x ∈ thr, 0 < x := by decide
        have hlt : (tpOf ns ls most).style.toNat < thr.length := by show _ < 4; omega
        rw [List.getD_eq_getElem?_getD, List.getElem?_eq_getElem hlt]
        exact h _ (List.getElem_mem hlt)
      refine as_seq (as_asg (ae_op (ae_op (ae_var rfl rfl) ae_int (a2_I ⟨by decide, by decide⟩)) (ae_op (an_lst' (ald_cons ae_int (ald_cons ae_int (ald_cons ae_int (ald_cons ae_int ald_nil))))).ae (ae_var rfl rfl) (a2_ixL (atI_map (l := thr) (g := D.int) (pick_at 0 hst.1 hst.2)))) (a2_I hth)) ?_)
      have hal : -(2 ^ 64) < (tpOf ns ls most).alone ∧ (tpOf ns ls most).alone < 2 ^ 64 := by
        have := hp.al
        exact ⟨by omega, by omega⟩
      refine as_frz (k + 1) (hw _) (Nat.zero_le _) (AS.le (e' := ⟨[.p (ScP K ns), .d (strsD ls), .d (.int most), .d (.int (tpMany ns)), .d (.str (tpSigns ns ls most)), .d (.int (tpOf ns ls most).style), .d (.int (tpOf ns ls most).mst), .d (.int (tpOf ns ls most).alone), .d (.int (nxt (wState (tpOf ns ls most) k n0 (tpOf ns ls most).signs.length).2)), .o 0, .no, .d (.lst ((wState (tpOf ns ls most) k n0 (tpSigns ns ls most).length).1.map optN)), .no, .no, .d (.int (toldV (tpOf ns ls most) (nxt (wState (tpOf ns ls most) k n0 (tpOf ns ls most).signs.length).2)))], some (rs.map rowD) :: List.replicate (k + 1) none⟩) ?_ ⟨?_, ?_⟩)
      · refine as_app (k := 0) (ae_var rfl rfl) (ae_tup' (ald_cons (ae_op (an_lst' (ald_cons (ae_op (ae_var rfl rfl) (ae_var rfl rfl) (a2_I (.inr hal))) (ald_cons ae_non ald_nil))).ae (ae_cb (al_cons (ae_op (ae_var rfl rfl) ae_int a2_I0b) al_nil) ac_intB) (a2_ixL (pick2 _))) (ald_cons (ae_var rfl rfl) ald_nil))) rfl ?_ ?_
        · rw [List.length_map, ← hR, r_len]
          omega
        · refine ⟨⟨.inr rfl, .inr rfl, .inr rfl, .inr rfl, .inr rfl, .inr rfl, .inr rfl, .inr rfl, .inr ?_, .inr rfl, .inl rfl, .inl rfl, .inl rfl, .inl rfl, .inl rfl, trivial⟩, ?_⟩
          · show A.d _ = A.d (.int (nxt (wState (tpOf ns ls most) k (rState (tpOf ns ls most) (cell ns 3 % 2147483647) k).2 (tpOf ns ls most).signs.length).2))
            rw [hN]
          · rw [toldD]
            show some (rs.map rowD ++ [_]) :: List.replicate (k + 1) none = some (((rState (tpOf ns ls most) (cell ns 3 % 2147483647) k).1 ++ [_]).map rowD) :: List.replicate (k + 1) none
            rw [hR, hN, List.map_append]
            rfl
      · refine ⟨.inr rfl, .inr rfl, .inr rfl, .inr rfl, .inr rfl, .inr rfl, .inr rfl, .inr rfl, .inr rfl, .inr ?_, .inl rfl, .inr ?_, .inl rfl, .inl rfl, .inr rfl, trivial⟩
        · show (if 0 = k + 1 then A.d (.lst ((wState (tpOf ns ls most) k n0 (tpSigns ns ls most).length).1.map optN)) else A.o 0) = A.o 0
          rw [if_neg (by omega)]
        · exact if_pos rfl
      · show List.set (some (rs.map rowD) :: List.replicate k none ++ [_]) (k + 1) none = _
        rw [List.set_append_right _ _ (by rw [hml]; exact Nat.le_refl _), hml, Nat.sub_self, List.replicate_succ']
        rfl
  · refine as_frz 0 rfl (Nat.zero_le _) ?_
    exact as_ret (ae_tup' (ald_cons (ae_var rfl rfl) (ald_cons (ae_var rfl rfl) ald_nil))) ⟨rfl, rfl⟩
/-! ### _law_told_at -/
abbrev s_law_told_at : Stmt := topS 11
theorem sc_law_told_at : FnScope ["_law_made", "_law_row"] ["_law_made", "_law_row"] (defScope s_law_told_at) := ⟨rfl, rfl, rfl, by decide +kernel, rfl, by decide +kernel, by decide +kernel⟩
def R_law_told_at (as : List A) (r : A) : Prop := ∃ (t : Tbl) (o : Option Nat), as = [.d (tblD t), .d (optN o)] ∧ (∀ m, o = some m → m < t.rows.length) ∧ r = .d (optI (toldOf t o))
abbrev Has_law_told_at (P : Program) (w : World) (K : PySem.W.Frag) (mg : Str → Option Value) (base : Heap) : Prop := Has P w K mg base "_law_told_at" ["_law_made", "_law_row"] 1 (SpF K R_law_told_at)
theorem ok_law_told_at (DD : DefAt K mg "_law_told_at" s_law_told_at ["_law_made", "_law_row"]) : Has_law_told_at P w K mg base := by
  refine okF DD sc_law_told_at (by rintro as r ⟨_, _, rfl, _⟩; rfl) fun _ _ _ _ _ _ _ hr => ⟨_, (pss_cons (ps_if (pt_cmpR op_isN (pv 1) pe_non (nomark _)) (pss_one (ps_ret pe_non)) pss_nil)
      (pss_one (ps_ret (pe_ix ix_tup (pe_ix ix_list (pe_ix ix_tup (pv 0) pe_int (fun _ _ => rfl)) (pv 1) (fun _ _ => rfl)) pe_int (fun _ _ => rfl))))), ?_⟩
  rintro as r ⟨t, o, rfl, ho, rfl⟩
  cases o with
  | none =>
    refine as_seq (as_if (at_val (ae_op (ae_var rfl rfl) ae_non a2_isN)) (fun h => ?_) (fun h => ?_))
    · exact as_ret ae_non ⟨rfl, rfl⟩
    · cases h
  | some n =>
    have hn := ho n rfl
    refine as_seq (as_if (at_val (ae_op (ae_var rfl rfl) ae_non a2_isN)) (fun h => ?_) (fun h => ?_))
    · cases h
    · refine as_next ?_
      have hr := List.getElem?_eq_getElem hn
      exact as_ret (ae_op (ae_op (ae_op (ae_var rfl rfl) ae_int (a2_ixT rfl)) (ae_var rfl rfl) (a2_ixL (d := rowD t.rows[n]) (atI_map (atI_nat hr)))) ae_int (a2_ixT rfl)) ⟨by rw [toldOf_at hr], rfl⟩
/-! ### word -/
abbrev s_word : Stmt := topS 1
theorem sc_word : FnScope ["made", "text", "at", "_", "rows", "longest", "row", "end", "told"] ["made", "text", "at"] (defScope s_word) := ⟨rfl, rfl, rfl, by decide +kernel, rfl, by decide +kernel, by decide +kernel⟩
def wordD : Option (Int × Nat) → D
  | none => .non
  | some (v, e) => .tup [.int v, .int (e : Nat)]
def R_word (as : List A) (r : A) : Prop := ∃ (t : Tbl) (s : List Nat) (k : Nat), as = [.d (tblD t), .d (.str s), .d (.int (k : Nat))] ∧ t.Ok ∧ k ≤ s.length ∧ s.length ≤ 100000 ∧ r = .d (wordD (wordOf t s k))
abbrev Has_word (P : Program) (w : World) (K : PySem.W.Frag) (mg : Str → Option Value) (base : Heap) : Prop := Has P w K mg base "word" ["made", "text", "at"] 2 (SpF K R_word)
/-- one more sign of the rest -/
theorem rest_take (t : Tbl) {s : List Nat} {k i c : Nat} (h : s[k + i]? = some c) : runs t (some 0) ((s.drop k).take (i + 1)) = (runs t (some 0) ((s.drop k).take i)).bind fun n => step t n c :=
  runs_take t (some 0) (by rw [List.getElem?_drop]; exact h)
theorem nat_rng {a b : Nat} (h : a ≤ b) : ((b : Int) - (a : Int)).toNat = b - a := by omega
theorem ok_word (DD : DefAt K mg "word" s_word ["made", "text", "at"]) (H_led : Has_led P w K mg base) (m_range : mg "range" = none) (m_len : mg "len" = none) : Has_word P w K mg base := by
  refine okF DD sc_word (by rintro as r ⟨_, _, _, rfl, _⟩; rfl) fun _ _ _ _ _ _ _ hr => ⟨_, (pss_cons (ps_asg (pv 0) (pg_tup rfl (pgs_cons (pg_name (i := 3) sc_word.nd rfl (.inl rfl)) (pgs_cons (pg_name (i := 4) sc_word.nd rfl (.inl rfl)) pgs_nil))))
      (pss_cons (ps_set (i := 5) sc_word.nd rfl (.inl rfl) pe_non)
      (pss_cons (ps_set (i := 6) sc_word.nd rfl (.inl rfl) pe_int)
      (pss_cons (ps_for PassesOwn.never rfl (pi_range2 (by rfl) m_range (pa_cons (pv 2) (pa_cons (pe_callB call_len (by rfl) m_len (by decide +kernel) (pa_cons (pv 1) pa_nil)) pa_nil))) (pg_name (i := 7) sc_word.nd rfl (.inl rfl)) (pss_cons (ps_set (i := 6) sc_word.nd rfl (.inl rfl) (pe_has H_led (hr.mono (by decide)) (by rfl) (pa_cons (pv 0) (pa_cons (pv 6) (pa_cons (pe_ix ix_str (pv 1) (pv 7) (fun _ _ => rfl)) pa_nil)))))
      (pss_cons (ps_if (pt_cmpR op_isN (pv 6) pe_non (nomark _)) (pss_one ps_break) pss_nil)
      (pss_cons (ps_asg (pe_ix ix_list (pv 4) (pv 6) (fun _ _ => rfl)) (pg_tup rfl (pgs_cons (pg_name (i := 8) sc_word.nd rfl (.inl rfl)) (pgs_cons (pg_name (i := 3) sc_word.nd rfl (.inl rfl)) pgs_nil))))
      (pss_one (ps_if (pt_cmpR op_notN (pv 8) pe_non (nomark _)) (pss_one (ps_set (i := 5) sc_word.nd rfl (.inl rfl) (pe_tup (pa_cons (pv 8) (pa_cons (pe_op op_add (pv 7) pe_int) pa_nil))))) pss_nil))))))
      (pss_one (ps_ret (pv 5))))))), ?_⟩
  rintro as r ⟨t, s, k, rfl, ht, hk, hs, rfl⟩
  refine as_seq (as_asgG (ae_var rfl rfl) (ag_tup (ags_name (ags_name (ags_nil ?_)))))
  refine as_seq (as_asg ae_non ?_)
  refine as_seq (as_asg ae_int ?_)
  refine as_seq (as_for (fun i e' => ∃ n : Nat, runs t (some 0) ((s.drop k).take i) = some n ∧ n < t.rows.length ∧ Le e' ⟨[.d (tblD t), .d (.str s), .d (.int (k : Nat)), .no, .d (.lst (t.rows.map rowD)), .d (wordD (best t s k i)), .d (.int (n : Nat)), .no, .no], []⟩) ((ai_rng2 (al_cons (ae_var rfl rfl) (al_cons (ae_cb (al_cons (ae_var rfl rfl) al_nil) (ac_lenS (by omega))) al_nil)) (by omega) (by omega) (by omega) (by omega)).n (nat_rng hk)) ?_ (fun i e' hi I => ?_) (fun e' I => ?_))
  · exact ⟨0, rfl, ht.pos, ⟨⟨.inr rfl, .inr rfl, .inr rfl, .inl rfl, .inr rfl, .inr rfl, .inr rfl, .inl rfl, .inl rfl, trivial⟩, rfl⟩⟩
  · obtain ⟨n, h1, h2, le⟩ := I
    have hlt : k + i < s.length := by omega
    have hc : s[k + i]? = some s[k + i] := List.getElem?_eq_getElem hlt
    have hq := rest_take t hc
    rw [h1] at hq
    have hq : runs t (some 0) ((s.drop k).take (i + 1)) = step t n s[k + i] := hq
    refine AG.le le (ag_name ?_)
    refine as_seq (as_asg (ae_call (al_cons (ae_var rfl rfl) (al_cons (ae_var rfl rfl) (al_cons (ae_op (ae_var rfl rfl) (ae_var rfl rfl) (a2_ixS (ch := s[k + i]) (by omega) (atI_of (j := k + i) (by omega) hc))) al_nil))) rfl ⟨t, n, _, rfl, ht, h2, rfl⟩) ?_)
    cases hz : step t n s[k + i] with
    | none =>
      refine as_seq (as_if (at_val (ae_op (ae_var rfl rfl) ae_non a2_isN)) (fun h => ?_) (fun h => ?_))
      · refine as_break ?_
        have hd := best_dead (hq.trans hz) (s.length - k) (by omega)
        refine as_ret (ae_var rfl rfl) ⟨?_, rfl⟩
        show A.d (wordD (best t s k i)) = A.d (wordD (best t s k (s.length - k)))
        rw [hd]
      · cases h
    | some m =>
      have hm := step_lt ht hz
      have hr := List.getElem?_eq_getElem hm
      refine as_seq (as_if (at_val (ae_op (ae_var rfl rfl) ae_non a2_isN)) (fun h => ?_) (fun h => ?_))
      · cases h
      · refine as_next ?_
        refine as_seq (as_asgG (ae_op (ae_var rfl rfl) (ae_var rfl rfl) (a2_ixL (d := rowD t.rows[m]) (atI_map (atI_nat hr)))) (ag_tup (ags_name (ags_name (ags_nil ?_)))))
        have hb : best t s k (i + 1) = match t.rows[m].1 with | some v => some (v, k + (i + 1)) | none => best t s k i := by
          show (match toldOf t (runs t (some 0) ((s.drop k).take (i + 1))) with | some v => some (v, k + (i + 1)) | none => best t s k i) = _
          rw [hq, hz, toldOf_at hr]
        cases ht2 : t.rows[m].1 with
        | none =>
          rw [ht2] at hb
          refine as_if (at_val (ae_op (ae_var rfl rfl) ae_non a2_notN)) (fun h => ?_) (fun h => ?_)
          · cases h
          · refine as_next ⟨m, hq.trans hz, hm, ⟨⟨.inr rfl, .inr rfl, .inr rfl, .inl rfl, .inr rfl, .inr ?_, .inr rfl, .inl rfl, .inl rfl, trivial⟩, rfl⟩⟩
            show A.d (wordD (best t s k i)) = A.d (wordD (best t s k (i + 1)))
            rw [hb]
        | some v =>
          rw [ht2] at hb
          refine as_if (at_val (ae_op (ae_var rfl rfl) ae_non a2_notN)) (fun h => ?_) (fun h => ?_)
          · refine as_asg (ae_tup' (ald_cons (ae_var rfl rfl) (ald_cons (ae_op (ae_var rfl rfl) ae_int a2_I0) ald_nil))) ?_
            refine ⟨m, hq.trans hz, hm, ⟨⟨.inr rfl, .inr rfl, .inr rfl, .inl rfl, .inr rfl, .inr ?_, .inr rfl, .inl rfl, .inl rfl, trivial⟩, rfl⟩⟩
            show A.d (.tup [.int v, .int ((k : Int) + (i : Nat) + 1)]) = A.d (wordD (best t s k (i + 1)))
            rw [hb]
            rfl
          · cases h
  · obtain ⟨n, h1, h2, le⟩ := I
    exact AS.le (as_ret (ae_var rfl rfl) ⟨rfl, rfl⟩) le
/-! ### law -/
abbrev s_law : Stmt := topS 13
theorem sc_law : FnScope ["_law_script", "_law_letters_here", "_law_made", "_law_size", "_law_text", "_law_at", "_law_due", "_law_row", "_law_end", "_law_told", "_law_found"] ["_law_script"] (defScope s_law) := ⟨rfl, rfl, rfl, by decide +kernel, rfl, by decide +kernel, by decide +kernel⟩
theorem runs_one (t : Tbl) (o : Option Nat) (c : Nat) : runs t o [c] = o.bind fun n => step t n c := rfl
theorem best_lt {t : Tbl} (ht : t.Ok) {s : List Nat} {k i m : Nat} (h : runs t (some 0) ((s.drop k).take i) = some m) : m < t.rows.length := runs_lt ht _ (fun n hn => by cases hn; exact ht.pos) h
theorem kit_tt : kitB "tuple" "tuple" = some true := by decide +kernel
theorem ok_law {f : Addr} {fd : FuncData} (F : Fun K "law" "law" s_law f fd) (H_law_letters : Has_law_letters P w K mg base) (H_law_cell_at : Has_law_cell_at P w K mg base) (H_law_table_by : Has_law_table_by P w K mg base) (H_law_text_by : Has_law_text_by P w K mg base)
    (H_law_go : Has_law_go P w K mg base) (H_law_told_at : Has_law_told_at P w K mg base) (H_word : Has_word P w K mg base) (H_law_same : Has_law_same P w K mg base) (m_len : mg "len" = none) (m_range : mg "range" = none) (m_isinstance : mg "isinstance" = none) (m_tuple : mg "tuple" = none) : FnOk P w K mg base CX0 3 f fd ["_law_script"] (spLaw K) := by
  refine okLaw F sc_law fun _ _ _ _ _ _ _ hr => ⟨_, (pss_cons (ps_set (i := 1) sc_law.nd rfl (.inl rfl) (pe_has H_law_letters (hr.mono (by decide)) (by rfl) (pa_cons (pe_has H_law_cell_at (hr.mono (by decide)) (by rfl) (pa_cons (pv 0) (pa_cons pe_int pa_nil))) pa_nil)))
      (pss_cons (ps_set (i := 2) sc_law.nd rfl (.inl rfl) (pe_has H_law_table_by (hr.mono (by decide)) (by rfl) (pa_cons (pv 0) (pa_cons (pv 1) (pa_cons pe_int pa_nil)))))
      (pss_cons (ps_set (i := 3) sc_law.nd rfl (.inl rfl) (pe_op op_mod (pe_has H_law_cell_at (hr.mono (by decide)) (by rfl) (pa_cons (pv 0) (pa_cons pe_int pa_nil))) pe_int))
      (pss_cons (ps_if (pt_cmpR op_eq (pe_op op_mod (pe_op op_fdiv (pe_has H_law_cell_at (hr.mono (by decide)) (by rfl) (pa_cons (pv 0) (pa_cons pe_int pa_nil))) pe_int) pe_int) pe_int (nomark _)) (pss_one (ps_set (i := 3) sc_law.nd rfl (.inl rfl) (pe_op op_mod (pe_op op_fdiv (pe_has H_law_cell_at (hr.mono (by decide)) (by rfl) (pa_cons (pv 0) (pa_cons pe_int pa_nil))) pe_int) pe_int))) pss_nil)
      (pss_cons (ps_set (i := 4) sc_law.nd rfl (.inl rfl) (pe_has H_law_text_by (hr.mono (by decide)) (by rfl) (pa_cons (pe_has H_law_cell_at (hr.mono (by decide)) (by rfl) (pa_cons (pv 0) (pa_cons pe_int pa_nil))) (pa_cons (pv 3) (pa_cons (pe_slice sl_list (pv 1) po_none (po_some (pe_op op_add pe_int (pe_op op_mod (pe_has H_law_cell_at (hr.mono (by decide)) (by rfl) (pa_cons (pv 0) (pa_cons pe_int pa_nil))) pe_int)))) pa_nil)))))
      (pss_cons (ps_set (i := 5) sc_law.nd rfl (.inl rfl) (pe_op op_mod (pe_has H_law_cell_at (hr.mono (by decide)) (by rfl) (pa_cons (pv 0) (pa_cons pe_int pa_nil))) (pe_op op_add (pe_callB call_len (by rfl) m_len (by decide +kernel) (pa_cons (pv 4) pa_nil)) pe_int)))
      (pss_cons (ps_set (i := 6) sc_law.nd rfl (.inl rfl) pe_non)
      (pss_cons (ps_set (i := 7) sc_law.nd rfl (.inl rfl) pe_int)
      (pss_cons (ps_for PassesOwn.never rfl (pi_range2 (by rfl) m_range (pa_cons (pe_op op_add (pv 5) pe_int) (pa_cons (pe_op op_add (pe_callB call_len (by rfl) m_len (by decide +kernel) (pa_cons (pv 4) pa_nil)) pe_int) pa_nil))) (pg_name (i := 8) sc_law.nd rfl (.inl rfl)) (pss_cons (ps_set (i := 7) sc_law.nd rfl (.inl rfl) (pe_has H_law_go (hr.mono (by decide)) (by rfl) (pa_cons (pv 2) (pa_cons (pv 7) (pa_cons (pe_ix ix_str (pv 4) (pe_op op_sub (pv 8) pe_int) (fun _ _ => rfl)) pa_nil)))))
      (pss_cons (ps_set (i := 9) sc_law.nd rfl (.inl rfl) (pe_has H_law_told_at (hr.mono (by decide)) (by rfl) (pa_cons (pv 2) (pa_cons (pv 7) pa_nil))))
      (pss_one (ps_if (pt_cmpR op_notN (pv 9) pe_non (nomark _)) (pss_one (ps_set (i := 6) sc_law.nd rfl (.inl rfl) (pe_tup (pa_cons (pv 9) (pa_cons (pv 8) pa_nil))))) pss_nil)))))
      (pss_cons (ps_set (i := 10) sc_law.nd rfl (.inl rfl) (pe_has H_word (hr.mono (by decide)) (by rfl) (pa_cons (pv 2) (pa_cons (pv 4) (pa_cons (pv 5) pa_nil)))))
      (pss_cons (ps_if (pt_cmpR (op_neD hr.units) (pv 2) (pe_has H_law_table_by (hr.mono (by decide)) (by rfl) (pa_cons (pv 0) (pa_cons (pv 1) (pa_cons pe_int pa_nil)))) (nomark _)) (pss_one (ps_ret pe_bl)) pss_nil)
      (pss_cons (ps_if (PW.pt (pw_or (pt_cmpR op_isN (pv 6) pe_non (nomark _)) (pw_or1 (pt_cmpR op_isN (pv 10) pe_non (nomark _))))) (pss_one (ps_ret (pe_and (pe_cmpR op_isN (pv 6) pe_non (nomark _)) (pe_one (pe_cmpR op_isN (pv 10) pe_non (nomark _)))))) pss_nil)
      (pss_one (ps_ret (pe_and (pe_callB call_isi (by rfl) m_isinstance (by decide +kernel) (pa_cons (pv 10) (pa_cons (pe_bltn (v := .ty "tuple") (by rfl) m_tuple (by decide +kernel) rfl) pa_nil))) (pe_and (pe_cmpR op_eq (pe_callB call_len (by rfl) m_len (by decide +kernel) (pa_cons (pv 10) pa_nil)) pe_int (nomark _)) (pe_and (pe_has H_law_same (hr.mono (by decide)) (by rfl) (pa_cons (pe_ix ix_tup (pv 10) pe_int (fun _ _ => rfl)) (pa_cons (pe_ix ix_tup (pv 6) pe_int (fun _ _ => rfl)) pa_nil))) (pe_one (pe_has H_law_same (hr.mono (by decide)) (by rfl) (pa_cons (pe_ix ix_tup (pv 10) pe_int (fun _ _ => rfl)) (pa_cons (pe_ix ix_tup (pv 6) pe_int (fun _ _ => rfl)) pa_nil))))))))))))))))))))), ?_⟩
  rintro as r ⟨ns, rfl, _, rfl⟩
  have hlo := letters_ok (cell ns 0)
  have hto := tableBy_ok (ns := ns) (most := 10) hlo ⟨by decide, by decide⟩
  refine as_seq (as_asg (ae_call (al_cons (ae_call (al_cons (ae_var rfl rfl) (al_cons ae_int al_nil)) rfl ⟨_, _, rfl, by decide, rfl⟩) al_nil) rfl ⟨_, rfl, rfl⟩) ?_)
  refine as_seq (as_asg (ae_call (al_cons (ae_var rfl rfl) (al_cons (ae_var rfl rfl) (al_cons ae_int al_nil))) rfl ⟨ns, letters (cell ns 0), 10, rfl, hlo, ⟨by decide, by decide⟩, rfl⟩) ?_)
  refine as_seq (as_asg (ae_op (ae_call (al_cons (ae_var rfl rfl) (al_cons ae_int al_nil)) rfl ⟨_, _, rfl, by decide, rfl⟩) ae_int (a2_I (by decide))) ?_)
  refine as_seq (as_ifset (at_val (ae_op (ae_op (ae_op (ae_call (al_cons (ae_var rfl rfl) (al_cons ae_int al_nil)) rfl ⟨_, _, rfl, by decide, rfl⟩) ae_int (a2_I ⟨by decide, by decide⟩)) ae_int (a2_I (by decide))) ae_int a2_eqI)) (fun h => (ae_op (ae_op (ae_call (al_cons (ae_var rfl rfl) (al_cons ae_int al_nil)) rfl ⟨_, _, rfl, by decide, rfl⟩) ae_int (a2_I ⟨by decide, by decide⟩)) ae_int (a2_I (by decide)))) rfl ?_)
  obtain ⟨size, e1, h0, h1⟩ : ∃ size : Int, (if decide (cell ns 4 / 21 % 8 = 1) = true then D.int (cell ns 4 / 168 % 201) else .int (cell ns 4 % 21)) = .int size ∧ 0 ≤ size ∧ size ≤ 200 := by
    have a1 := mod_lo (cell ns 4) (n := 21) (by decide)
    have a2 := mod_hi (cell ns 4) (n := 21) (by decide)
    have a3 := mod_lo (cell ns 4 / 168) (n := 201) (by decide)
    have a4 := mod_hi (cell ns 4 / 168) (n := 201) (by decide)
    split
    · exact ⟨_, rfl, by omega, by omega⟩
    · exact ⟨_, rfl, by omega, by omega⟩
  rw [e1]
  have b0 := mod_lo (cell ns 6) (n := 5) (by decide)
  have hcut : cutG ((letters (cell ns 0)).map D.str) none (some (1 + cell ns 6 % 5)) = ((letters (cell ns 0)).take (1 + cell ns 6 % 5).toNat).map .str := by
    rw [cutG_map, cutG_to _ (by omega)]
  refine as_seq (as_asg (ae_call (al_cons (ae_call (al_cons (ae_var rfl rfl) (al_cons ae_int al_nil)) rfl ⟨_, _, rfl, by decide, rfl⟩) (al_cons (ae_var rfl rfl) (al_cons ((an_slL (ae_var rfl rfl) ao_none (ao_some (ae_op ae_int (ae_op (ae_call (al_cons (ae_var rfl rfl) (al_cons ae_int al_nil)) rfl ⟨_, _, rfl, by decide, rfl⟩) ae_int (a2_I (by decide))) a2_I0))).eq hcut).ae al_nil))) rfl ⟨_, size, (letters (cell ns 0)).take (1 + cell ns 6 % 5).toNat, rfl, hlo.take (by omega), h0, by omega, rfl⟩) ?_)
  have htl : (textBy (cell ns 5) size ((letters (cell ns 0)).take (1 + cell ns 6 % 5).toNat)).length ≤ 100000 := by
    rw [textBy_len]
    omega
  generalize textBy (cell ns 5) size ((letters (cell ns 0)).take (1 + cell ns 6 % 5).toNat) = s at htl
  generalize hT : tableBy ns (letters (cell ns 0)) 10 = t at hto
  -- _law_at
  have c0 := mod_lo (cell ns 7) (n := (s.length : Int) + 1) (by omega)
  have c1 := mod_hi (cell ns 7) (n := (s.length : Int) + 1) (by omega)
  refine as_seq (as_asg (ae_op (ae_call (al_cons (ae_var rfl rfl) (al_cons ae_int al_nil)) rfl ⟨_, _, rfl, by decide, rfl⟩) (ae_op (ae_cb (al_cons (ae_var rfl rfl) al_nil) (ac_lenS (by omega))) ae_int a2_I0) (a2_I (by omega))) ?_)
  obtain ⟨k, ek⟩ : ∃ k : Nat, cell ns 7 % ((s.length : Int) + 1) = (k : Int) := ⟨(cell ns 7 % ((s.length : Int) + 1)).toNat, by omega⟩
  rw [ek] at c0 c1 ⊢
  have hk : k ≤ s.length := by omega
  refine as_seq (as_asg ae_non ?_)
  refine as_seq (as_asg ae_int ?_)
  -- the longest, gap by gap
  refine as_forE_seq (fun i => ⟨[.p (ScP K ns), .d (strsD (letters (cell ns 0))), .d (tblD t), .d (.int size), .d (.str s), .d (.int (k : Nat)), .d (wordD (best t s k i)), .d (optN (runs t (some 0) ((s.drop k).take i))), .no, .no, .no], []⟩) ((ai_rng2 (al_cons (ae_op (ae_var rfl rfl) ae_int a2_I0) (al_cons (ae_op (ae_cb (al_cons (ae_var rfl rfl) al_nil) (ac_lenS (by omega))) ae_int a2_I0) al_nil)) (by omega) (by omega) (by omega) (by omega)).n (show (((s.length : Int) + 1) - ((k : Int) + 1)).toNat = s.length - k by omega)) ?_ (fun i hi => ?_) ?_
  · exact ⟨⟨.inr rfl, .inr rfl, .inr rfl, .inr rfl, .inr rfl, .inr rfl, .inr rfl, .inr rfl, .inl rfl, .inl rfl, .inl rfl, trivial⟩, rfl⟩
  · have hlt : k + i < s.length := by omega
    have hc : s[k + i]? = some s[k + i] := List.getElem?_eq_getElem hlt
    have hq := rest_take t hc
    refine ag_name ?_
    refine as_seq (as_asg (ae_call (al_cons (ae_var rfl rfl) (al_cons (ae_var rfl rfl) (al_cons (ae_op (ae_var rfl rfl) (ae_op (ae_var rfl rfl) ae_int a2_I0) (a2_ixS (ch := s[k + i]) (by omega) (atI_of (j := k + i) (by omega) hc))) al_nil))) rfl ⟨t, runs t (some 0) ((s.drop k).take i), [s[k + i]], rfl, hto, fun m hm => best_lt hto hm, rfl⟩) ?_)
    rw [runs_one, ← hq]
    refine as_seq (as_asg (ae_call (al_cons (ae_var rfl rfl) (al_cons (ae_var rfl rfl) al_nil)) rfl ⟨t, runs t (some 0) ((s.drop k).take (i + 1)), rfl, fun m hm => best_lt hto hm, rfl⟩) ?_)
    have hb : best t s k (i + 1) = match toldOf t (runs t (some 0) ((s.drop k).take (i + 1))) with | some v => some (v, k + (i + 1)) | none => best t s k i := rfl
    cases ht2 : toldOf t (runs t (some 0) ((s.drop k).take (i + 1))) with
    | none =>
      rw [ht2] at hb
      refine as_if (at_val (ae_op (ae_var rfl rfl) ae_non a2_notN)) (fun h => ?_) (fun h => ?_)
      · cases h
      · refine as_next ⟨⟨.inr rfl, .inr rfl, .inr rfl, .inr rfl, .inr rfl, .inr rfl, .inr ?_, .inr rfl, .inl rfl, .inl rfl, .inl rfl, trivial⟩, rfl⟩
        rw [hb]
    | some v =>
      rw [ht2] at hb
      refine as_if (at_val (ae_op (ae_var rfl rfl) ae_non a2_notN)) (fun h => ?_) (fun h => ?_)
      · refine as_asg (ae_tup' (ald_cons (ae_var rfl rfl) (ald_cons (ae_var rfl rfl) ald_nil))) ?_
        refine ⟨⟨.inr rfl, .inr rfl, .inr rfl, .inr rfl, .inr rfl, .inr rfl, .inr ?_, .inr rfl, .inl rfl, .inl rfl, .inl rfl, trivial⟩, rfl⟩
        rw [hb]
        show A.d (.tup [.int v, .int ((k : Int) + 1 + (i : Nat))]) = A.d (.tup [.int v, .int ((k + (i + 1) : Nat))])
        rw [show ((k : Int) + 1 + (i : Nat)) = ((k + (i + 1) : Nat) : Int) by omega]
      · cases h
  · refine as_seq (as_asg (ae_call (al_cons (ae_var rfl rfl) (al_cons (ae_var rfl rfl) (al_cons (ae_var rfl rfl) al_nil))) rfl ⟨t, s, k, rfl, hto, hk, htl, rfl⟩) ?_)
    refine as_seq (as_if (at_val (ae_op (ae_var rfl rfl) (ae_call (al_cons (ae_var rfl rfl) (al_cons (ae_var rfl rfl) (al_cons ae_int al_nil))) rfl ⟨ns, letters (cell ns 0), 10, rfl, hlo, ⟨by decide, by decide⟩, by rw [hT]⟩) (a2_neSame (tblD_good hto).ok))) (fun h => ?_) (fun h => ?_))
    · cases h
    · refine as_next ?_
      show AS K 0 _ _ (Env.set ⟨[.p (ScP K ns), .d (strsD (letters (cell ns 0))), .d (tblD t), .d (.int size), .d (.str s), .d (.int (k : Nat)), .d (wordD (wordOf t s k)), .d (optN (runs t (some 0) ((s.drop k).take (s.length - k)))), .no, .no, .no], []⟩ 10 (.d (wordD (wordOf t s k))))
      cases wordOf t s k with
      | none =>
        refine as_seq (as_if (at_or (at_val (ae_op (ae_var rfl rfl) ae_non a2_isN)) fun h => (at_val (ae_op (ae_var rfl rfl) ae_non a2_isN))) (fun h => ?_) (fun h => ?_))
        · exact as_ret (ae_and2 (ae_op (ae_var rfl rfl) ae_non a2_isN) fun h => (ae_op (ae_var rfl rfl) ae_non a2_isN)) ⟨rfl, rfl⟩
        · cases h
      | some ve =>
        obtain ⟨v, e⟩ := ve
        refine as_seq (as_if (at_or (at_val (ae_op (ae_var rfl rfl) ae_non a2_isN)) fun h => (at_val (ae_op (ae_var rfl rfl) ae_non a2_isN))) (fun h => ?_) (fun h => ?_))
        · cases h
        · refine as_next ?_
          exact as_ret (ae_and2 (ae_cb (al_cons (ae_var rfl rfl) (al_cons ae_ty al_nil)) (ac_isi (b := true) kit_tt)) fun h => (ae_and2 (ae_op (ae_cb (al_cons (ae_var rfl rfl) al_nil) ac_lenT) ae_int a2_eqI) fun h => (ae_and2 (ae_call (al_cons (ae_op (ae_var rfl rfl) ae_int (a2_ixT rfl)) (al_cons (ae_op (ae_var rfl rfl) ae_int (a2_ixT rfl)) al_nil)) rfl ⟨some v, rfl, rfl⟩) fun h => (ae_call (al_cons (ae_op (ae_var rfl rfl) ae_int (a2_ixT rfl)) (al_cons (ae_op (ae_var rfl rfl) ae_int (a2_ixT rfl)) al_nil)) rfl ⟨some (e : Nat), rfl, rfl⟩)))) ⟨rfl, rfl⟩
end
end Ab
namespace Ab
open PySem PySem.Spec PyProof.Rows L2
theorem all_mk {l : PySem.W.OpenLaw} {w : World} {K : PySem.W.Frag} {h : Heap} {mg : Str → Option Value} {fa : Addr} (X : K.In h) (G : h.Ns mainGlobals mg) (hfa : mg "law" = some (.ref fa))
    {f_law_cell_at : Addr} {od_law_cell_at an_law_cell_at : Option Addr} {sl_law_cell_at : Array (Option Value)} {oc_law_cell_at kV_law_cell_at dc_law_cell_at pm_law_cell_at cd_law_cell_at ct_law_cell_at : Value}
    (a_law_cell_at : PySem.W.nsIn K mainGlobals "_law_cell_at" = some (some (.ref f_law_cell_at))) (l_law_cell_at : K.lookup f_law_cell_at = some ⟨oc_law_cell_at, od_law_cell_at, .func (PySem.W.fnOf "_law_cell_at" "_law_cell_at" (defArgs s_law_cell_at) (defBody s_law_cell_at) (defScope s_law_cell_at) .none kV_law_cell_at dc_law_cell_at pm_law_cell_at an_law_cell_at cd_law_cell_at ct_law_cell_at), sl_law_cell_at⟩) (c_law_cell_at : PySem.W.codeIn K cd_law_cell_at "_law_cell_at" = true) (k_law_cell_at : PySem.W.keepIn K (.ref f_law_cell_at) = true)
    {f_law_whole : Addr} {od_law_whole an_law_whole : Option Addr} {sl_law_whole : Array (Option Value)} {oc_law_whole kV_law_whole dc_law_whole pm_law_whole cd_law_whole ct_law_whole : Value}
    (a_law_whole : PySem.W.nsIn K mainGlobals "_law_whole" = some (some (.ref f_law_whole))) (l_law_whole : K.lookup f_law_whole = some ⟨oc_law_whole, od_law_whole, .func (PySem.W.fnOf "_law_whole" "_law_whole" (defArgs s_law_whole) (defBody s_law_whole) (defScope s_law_whole) .none kV_law_whole dc_law_whole pm_law_whole an_law_whole cd_law_whole ct_law_whole), sl_law_whole⟩) (c_law_whole : PySem.W.codeIn K cd_law_whole "_law_whole" = true) (k_law_whole : PySem.W.keepIn K (.ref f_law_whole) = true)
    {f_law_sign_by : Addr} {od_law_sign_by an_law_sign_by : Option Addr} {sl_law_sign_by : Array (Option Value)} {oc_law_sign_by kV_law_sign_by dc_law_sign_by pm_law_sign_by cd_law_sign_by ct_law_sign_by : Value}
    (a_law_sign_by : PySem.W.nsIn K mainGlobals "_law_sign_by" = some (some (.ref f_law_sign_by))) (l_law_sign_by : K.lookup f_law_sign_by = some ⟨oc_law_sign_by, od_law_sign_by, .func (PySem.W.fnOf "_law_sign_by" "_law_sign_by" (defArgs s_law_sign_by) (defBody s_law_sign_by) (defScope s_law_sign_by) .none kV_law_sign_by dc_law_sign_by pm_law_sign_by an_law_sign_by cd_law_sign_by ct_law_sign_by), sl_law_sign_by⟩) (c_law_sign_by : PySem.W.codeIn K cd_law_sign_by "_law_sign_by" = true) (k_law_sign_by : PySem.W.keepIn K (.ref f_law_sign_by) = true)
    {f_law_letters : Addr} {od_law_letters an_law_letters : Option Addr} {sl_law_letters : Array (Option Value)} {oc_law_letters kV_law_letters dc_law_letters pm_law_letters cd_law_letters ct_law_letters : Value}
    (a_law_letters : PySem.W.nsIn K mainGlobals "_law_letters" = some (some (.ref f_law_letters))) (l_law_letters : K.lookup f_law_letters = some ⟨oc_law_letters, od_law_letters, .func (PySem.W.fnOf "_law_letters" "_law_letters" (defArgs s_law_letters) (defBody s_law_letters) (defScope s_law_letters) .none kV_law_letters dc_law_letters pm_law_letters an_law_letters cd_law_letters ct_law_letters), sl_law_letters⟩) (c_law_letters : PySem.W.codeIn K cd_law_letters "_law_letters" = true) (k_law_letters : PySem.W.keepIn K (.ref f_law_letters) = true)
    {f_law_text_by : Addr} {od_law_text_by an_law_text_by : Option Addr} {sl_law_text_by : Array (Option Value)} {oc_law_text_by kV_law_text_by dc_law_text_by pm_law_text_by cd_law_text_by ct_law_text_by : Value}
    (a_law_text_by : PySem.W.nsIn K mainGlobals "_law_text_by" = some (some (.ref f_law_text_by))) (l_law_text_by : K.lookup f_law_text_by = some ⟨oc_law_text_by, od_law_text_by, .func (PySem.W.fnOf "_law_text_by" "_law_text_by" (defArgs s_law_text_by) (defBody s_law_text_by) (defScope s_law_text_by) .none kV_law_text_by dc_law_text_by pm_law_text_by an_law_text_by cd_law_text_by ct_law_text_by), sl_law_text_by⟩) (c_law_text_by : PySem.W.codeIn K cd_law_text_by "_law_text_by" = true) (k_law_text_by : PySem.W.keepIn K (.ref f_law_text_by) = true)
    {f_law_same : Addr} {od_law_same an_law_same : Option Addr} {sl_law_same : Array (Option Value)} {oc_law_same kV_law_same dc_law_same pm_law_same cd_law_same ct_law_same : Value}
    (a_law_same : PySem.W.nsIn K mainGlobals "_law_same" = some (some (.ref f_law_same))) (l_law_same : K.lookup f_law_same = some ⟨oc_law_same, od_law_same, .func (PySem.W.fnOf "_law_same" "_law_same" (defArgs s_law_same) (defBody s_law_same) (defScope s_law_same) .none kV_law_same dc_law_same pm_law_same an_law_same cd_law_same ct_law_same), sl_law_same⟩) (c_law_same : PySem.W.codeIn K cd_law_same "_law_same" = true) (k_law_same : PySem.W.keepIn K (.ref f_law_same) = true)
    {f_led : Addr} {od_led an_led : Option Addr} {sl_led : Array (Option Value)} {oc_led kV_led dc_led pm_led cd_led ct_led : Value}
    (a_led : PySem.W.nsIn K mainGlobals "_led" = some (some (.ref f_led))) (l_led : K.lookup f_led = some ⟨oc_led, od_led, .func (PySem.W.fnOf "_led" "_led" (defArgs s_led) (defBody s_led) (defScope s_led) .none kV_led dc_led pm_led an_led cd_led ct_led), sl_led⟩) (c_led : PySem.W.codeIn K cd_led "_led" = true) (k_led : PySem.W.keepIn K (.ref f_led) = true)
    {f_law_go : Addr} {od_law_go an_law_go : Option Addr} {sl_law_go : Array (Option Value)} {oc_law_go kV_law_go dc_law_go pm_law_go cd_law_go ct_law_go : Value}
    (a_law_go : PySem.W.nsIn K mainGlobals "_law_go" = some (some (.ref f_law_go))) (l_law_go : K.lookup f_law_go = some ⟨oc_law_go, od_law_go, .func (PySem.W.fnOf "_law_go" "_law_go" (defArgs s_law_go) (defBody s_law_go) (defScope s_law_go) .none kV_law_go dc_law_go pm_law_go an_law_go cd_law_go ct_law_go), sl_law_go⟩) (c_law_go : PySem.W.codeIn K cd_law_go "_law_go" = true) (k_law_go : PySem.W.keepIn K (.ref f_law_go) = true)
    {f_law_table_by : Addr} {od_law_table_by an_law_table_by : Option Addr} {sl_law_table_by : Array (Option Value)} {oc_law_table_by kV_law_table_by dc_law_table_by pm_law_table_by cd_law_table_by ct_law_table_by : Value}
    (a_law_table_by : PySem.W.nsIn K mainGlobals "_law_table_by" = some (some (.ref f_law_table_by))) (l_law_table_by : K.lookup f_law_table_by = some ⟨oc_law_table_by, od_law_table_by, .func (PySem.W.fnOf "_law_table_by" "_law_table_by" (defArgs s_law_table_by) (defBody s_law_table_by) (defScope s_law_table_by) .none kV_law_table_by dc_law_table_by pm_law_table_by an_law_table_by cd_law_table_by ct_law_table_by), sl_law_table_by⟩) (c_law_table_by : PySem.W.codeIn K cd_law_table_by "_law_table_by" = true) (k_law_table_by : PySem.W.keepIn K (.ref f_law_table_by) = true)
    {f_law_told_at : Addr} {od_law_told_at an_law_told_at : Option Addr} {sl_law_told_at : Array (Option Value)} {oc_law_told_at kV_law_told_at dc_law_told_at pm_law_told_at cd_law_told_at ct_law_told_at : Value}
    (a_law_told_at : PySem.W.nsIn K mainGlobals "_law_told_at" = some (some (.ref f_law_told_at))) (l_law_told_at : K.lookup f_law_told_at = some ⟨oc_law_told_at, od_law_told_at, .func (PySem.W.fnOf "_law_told_at" "_law_told_at" (defArgs s_law_told_at) (defBody s_law_told_at) (defScope s_law_told_at) .none kV_law_told_at dc_law_told_at pm_law_told_at an_law_told_at cd_law_told_at ct_law_told_at), sl_law_told_at⟩) (c_law_told_at : PySem.W.codeIn K cd_law_told_at "_law_told_at" = true) (k_law_told_at : PySem.W.keepIn K (.ref f_law_told_at) = true)
    {f_word : Addr} {od_word an_word : Option Addr} {sl_word : Array (Option Value)} {oc_word kV_word dc_word pm_word cd_word ct_word : Value}
    (a_word : PySem.W.nsIn K mainGlobals "word" = some (some (.ref f_word))) (l_word : K.lookup f_word = some ⟨oc_word, od_word, .func (PySem.W.fnOf "word" "word" (defArgs s_word) (defBody s_word) (defScope s_word) .none kV_word dc_word pm_word an_word cd_word ct_word), sl_word⟩) (c_word : PySem.W.codeIn K cd_word "word" = true) (k_word : PySem.W.keepIn K (.ref f_word) = true)
    {f_law : Addr} {od_law an_law : Option Addr} {sl_law : Array (Option Value)} {oc_law kV_law dc_law pm_law cd_law ct_law : Value}
    (a_law : PySem.W.nsIn K mainGlobals "law" = some (some (.ref f_law))) (l_law : K.lookup f_law = some ⟨oc_law, od_law, .func (PySem.W.fnOf "law" "law" (defArgs s_law) (defBody s_law) (defScope s_law) .none kV_law dc_law pm_law an_law cd_law ct_law), sl_law⟩) (c_law : PySem.W.codeIn K cd_law "law" = true) (k_law : PySem.W.keepIn K (.ref f_law) = true)
    (z_len : PySem.W.nsIn K mainGlobals "len" = some none)
    (z_isinstance : PySem.W.nsIn K mainGlobals "isinstance" = some none)
    (z_bool : PySem.W.nsIn K mainGlobals "bool" = some none)
    (z_int : PySem.W.nsIn K mainGlobals "int" = some none)
    (z_range : PySem.W.nsIn K mainGlobals "range" = some none)
    (z_tuple : PySem.W.nsIn K mainGlobals "tuple" = some none)
    : ∃ fd : FuncData, (∀ (s : Shared) (v : Value), BindsTo s fd ⟨[v], []⟩ [("_law_script", v)]) ∧ ∀ base : Heap, K.In base → base.Ns mainGlobals mg → FnOk l.prog w K mg base CX0 3 fa fd ["_law_script"] (spLaw K) := by
  have e := hfa.symm.trans (PySem.W.mg_of X G a_law)
  cases e
  have m_len := PySem.W.mg_none_of X G z_len
  have m_isinstance := PySem.W.mg_none_of X G z_isinstance
  have m_bool := PySem.W.mg_none_of X G z_bool
  have m_int := PySem.W.mg_none_of X G z_int
  have m_range := PySem.W.mg_none_of X G z_range
  have m_tuple := PySem.W.mg_none_of X G z_tuple
  have D_law_cell_at : DefAt K mg "_law_cell_at" s_law_cell_at ["_law_script", "_law_k"] := mk_def l_law_cell_at c_law_cell_at k_law_cell_at (PySem.W.mg_of X G a_law_cell_at) fun _ _ _ _ _ _ us hl => match us, hl with | [_, _], _ => rfl
  have D_law_whole : DefAt K mg "_law_whole" s_law_whole ["_law_found"] := mk_def l_law_whole c_law_whole k_law_whole (PySem.W.mg_of X G a_law_whole) fun _ _ _ _ _ _ us hl => match us, hl with | [_], _ => rfl
  have D_law_sign_by : DefAt K mg "_law_sign_by" s_law_sign_by ["_law_cell"] := mk_def l_law_sign_by c_law_sign_by k_law_sign_by (PySem.W.mg_of X G a_law_sign_by) fun _ _ _ _ _ _ us hl => match us, hl with | [_], _ => rfl
  have D_law_letters : DefAt K mg "_law_letters" s_law_letters ["_law_cell"] := mk_def l_law_letters c_law_letters k_law_letters (PySem.W.mg_of X G a_law_letters) fun _ _ _ _ _ _ us hl => match us, hl with | [_], _ => rfl
  have D_law_text_by : DefAt K mg "_law_text_by" s_law_text_by ["_law_cell", "_law_size", "_law_letters_here"] := mk_def l_law_text_by c_law_text_by k_law_text_by (PySem.W.mg_of X G a_law_text_by) fun _ _ _ _ _ _ us hl => match us, hl with | [_, _, _], _ => rfl
  have D_law_same : DefAt K mg "_law_same" s_law_same ["_law_found", "_law_due"] := mk_def l_law_same c_law_same k_law_same (PySem.W.mg_of X G a_law_same) fun _ _ _ _ _ _ us hl => match us, hl with | [_, _], _ => rfl
  have D_led : DefAt K mg "_led" s_led ["made", "row", "sign"] := mk_def l_led c_led k_led (PySem.W.mg_of X G a_led) fun _ _ _ _ _ _ us hl => match us, hl with | [_, _, _], _ => rfl
  have D_law_go : DefAt K mg "_law_go" s_law_go ["_law_made", "_law_row", "_law_signs"] := mk_def l_law_go c_law_go k_law_go (PySem.W.mg_of X G a_law_go) fun _ _ _ _ _ _ us hl => match us, hl with | [_, _, _], _ => rfl
  have D_law_table_by : DefAt K mg "_law_table_by" s_law_table_by ["_law_script", "_law_letters_here", "_law_most_signs"] := mk_def l_law_table_by c_law_table_by k_law_table_by (PySem.W.mg_of X G a_law_table_by) fun _ _ _ _ _ _ us hl => match us, hl with | [_, _, _], _ => rfl
  have D_law_told_at : DefAt K mg "_law_told_at" s_law_told_at ["_law_made", "_law_row"] := mk_def l_law_told_at c_law_told_at k_law_told_at (PySem.W.mg_of X G a_law_told_at) fun _ _ _ _ _ _ us hl => match us, hl with | [_, _], _ => rfl
  have D_word : DefAt K mg "word" s_word ["made", "text", "at"] := mk_def l_word c_word k_word (PySem.W.mg_of X G a_word) fun _ _ _ _ _ _ us hl => match us, hl with | [_, _, _], _ => rfl
  refine ⟨PySem.W.fnOf "law" "law" (defArgs s_law) (defBody s_law) (defScope s_law) .none kV_law dc_law pm_law an_law cd_law ct_law, fun s v => .of_eq rfl, fun base _ _ => ?_⟩
  have H_law_cell_at := ok_law_cell_at (P := l.prog) (w := w) (base := base) D_law_cell_at m_len
  have H_law_whole := ok_law_whole (P := l.prog) (w := w) (base := base) D_law_whole m_isinstance m_bool m_int
  have H_law_sign_by := ok_law_sign_by (P := l.prog) (w := w) (base := base) D_law_sign_by 
  have H_law_letters := ok_law_letters (P := l.prog) (w := w) (base := base) D_law_letters H_law_sign_by m_range
  have H_law_text_by := ok_law_text_by (P := l.prog) (w := w) (base := base) D_law_text_by m_range m_len
  have H_law_same := ok_law_same (P := l.prog) (w := w) (base := base) D_law_same H_law_whole
  have H_led := ok_led (P := l.prog) (w := w) (base := base) D_led 
  have H_law_go := ok_law_go (P := l.prog) (w := w) (base := base) D_law_go 
  have H_law_table_by := ok_law_table_by (P := l.prog) (w := w) (base := base) D_law_table_by H_law_cell_at m_range m_len m_int
  have H_law_told_at := ok_law_told_at (P := l.prog) (w := w) (base := base) D_law_told_at 
  have H_word := ok_word (P := l.prog) (w := w) (base := base) D_word H_led m_range m_len
  exact ok_law (fun_mk l_law c_law k_law) H_law_letters H_law_cell_at H_law_table_by H_law_text_by H_law_go H_law_told_at H_word H_law_same m_len m_range m_isinstance m_tuple
end Ab
open PySem PySem.W PyProof.Rows
set_option maxHeartbeats 0 in
theorem PySem.Challenge.cw_rulescan_k05_words_holds : PySem.Challenge.rw_rulescan_k05_words.Holds := by
  w_on; o_law; k_head; (case hw => w_witness2)
  k_fill
  refine L2.walk_of (l := PySem.Challenge.rw_rulescan_k05_words) (n := 63) (k := 3) (x := "_law_script") (CX := fun _ => L2.CX0) (sp := fun w => Ab.spLaw _) rfl (by decide) rfl ⟨rfl, by decide, by decide⟩ (fun w h Y => PySem.W.kIn_of Y) ?F (fun _ _ a ns hl _ hS => ⟨a, ns, rfl, hS, hl, fun _ => rfl⟩) (fun _ _ _ _ _ h => h)
  case F =>
    intro w mg fa h KX G hmg
    refine' Ab.all_mk KX G hmg ?a_law_cell_at ?l_law_cell_at ?c_law_cell_at ?k_law_cell_at ?a_law_whole ?l_law_whole ?c_law_whole ?k_law_whole ?a_law_sign_by ?l_law_sign_by ?c_law_sign_by ?k_law_sign_by ?a_law_letters ?l_law_letters ?c_law_letters ?k_law_letters ?a_law_text_by ?l_law_text_by ?c_law_text_by ?k_law_text_by ?a_law_same ?l_law_same ?c_law_same ?k_law_same ?a_led ?l_led ?c_led ?k_led ?a_law_go ?l_law_go ?c_law_go ?k_law_go ?a_law_table_by ?l_law_table_by ?c_law_table_by ?k_law_table_by ?a_law_told_at ?l_law_told_at ?c_law_told_at ?k_law_told_at ?a_word ?l_word ?c_word ?k_word ?a_law ?l_law ?c_law ?k_law ?z_len ?z_isinstance ?z_bool ?z_int ?z_range ?z_tuple
    (case a_law_cell_at => k_is); (case l_law_cell_at => k_is); (case c_law_cell_at => k_is); (case k_law_cell_at => k_is); (case a_law_whole => k_is); (case l_law_whole => k_is); (case c_law_whole => k_is); (case k_law_whole => k_is); (case a_law_sign_by => k_is); (case l_law_sign_by => k_is); (case c_law_sign_by => k_is); (case k_law_sign_by => k_is); (case a_law_letters => k_is); (case l_law_letters => k_is); (case c_law_letters => k_is); (case k_law_letters => k_is); (case a_law_text_by => k_is); (case l_law_text_by => k_is); (case c_law_text_by => k_is); (case k_law_text_by => k_is); (case a_law_same => k_is); (case l_law_same => k_is); (case c_law_same => k_is); (case k_law_same => k_is); (case a_led => k_is); (case l_led => k_is); (case c_led => k_is); (case k_led => k_is); (case a_law_go => k_is); (case l_law_go => k_is); (case c_law_go => k_is); (case k_law_go => k_is); (case a_law_table_by => k_is); (case l_law_table_by => k_is); (case c_law_table_by => k_is); (case k_law_table_by => k_is); (case a_law_told_at => k_is); (case l_law_told_at => k_is); (case c_law_told_at => k_is); (case k_law_told_at => k_is); (case a_word => k_is); (case l_word => k_is); (case c_word => k_is); (case k_word => k_is); (case a_law => k_is); (case l_law => k_is); (case c_law => k_is); (case k_law => k_is); (case z_len => k_is); (case z_isinstance => k_is); (case z_bool => k_is); (case z_int => k_is); (case z_range => k_is); (case z_tuple => k_is)
