import PyProof.Rows.All
import Wide.All
import OpenK.AllK
import Wide.FinOn
import HandS.ForMost
import HandS.IsInst
import HandS.Replace
import HandS.Flow
import HandS.WideBits
import HandS.Strs
import HandS.Deep
import HandS.Style
import PyProof.StrOps2
import HandS.SetTxt0
import PyProof.Rows.SortShellAny
import PySem.Challenge.RW_rulescan_k01_signs
set_option Elab.async false
set_option linter.all false
set_option maxRecDepth 100000
set_option maxHeartbeats 4000000
/-! A layer without a heap: data, slots, and what a reading does to them. -/
namespace Ab
open PySem PySem.Spec PyProof.Rows L2

/-- a text from its signs -/
abbrev sOf (s : List Nat) : Str := ⟨s.toArray⟩
/-- data -/
inductive D where
  | non | bl (b : Bool) | int (i : Int) | str (s : List Nat) | lst (ds : List D) | tup (ds : List D)

mutual
inductive RD (K : PySem.W.Frag) (G : Hp) : V → D → Prop
  | non : RD K G .non .non
  | bl {b : Bool} : RD K G (.bl b) (.bl b)
  | int {i : Int} : RD K G (.int i) (.int i)
  | str {s : List Nat} : RD K G (.str (sOf s)) (.str s)
  | lst {a : Addr} {xs : List V} {ds : List D} : G a = some (.lst xs) → RDs K G xs ds → RD K G (.ref a) (.lst ds)
  | tup {a : Addr} {xs : List V} {ds : List D} : SqT K G a xs → RDs K G xs ds → RD K G (.ref a) (.tup ds)
inductive RDs (K : PySem.W.Frag) (G : Hp) : List V → List D → Prop
  | nil : RDs K G [] []
  | cons {v : V} {vs : List V} {d : D} {ds : List D} : RD K G v d → RDs K G vs ds → RDs K G (v :: vs) (d :: ds)
end

theorem seqT {K : PySem.W.Frag} {H H' : Hp} {a : Addr} {xs : List V} (e : Same H H') (h : SqT K H a xs) : SqT K H' a xs := by
  rcases h with (h | ⟨o, h⟩) | h
  · exact .inl (.inl (e _ _ h))
  · exact .inl (.inr ⟨o, e _ _ h⟩)
  · exact .inr h
mutual
theorem RD.mono {K : PySem.W.Frag} {G G' : Hp} (e : Same G G') : ∀ {v : V} {d : D}, RD K G v d → RD K G' v d
  | _, _, .non => .non
  | _, _, .bl => .bl
  | _, _, .int => .int
  | _, _, .str => .str
  | _, _, .lst h r => .lst (e _ _ h) (RDs.mono e r)
  | _, _, .tup h r => .tup (seqT e h) (RDs.mono e r)
theorem RDs.mono {K : PySem.W.Frag} {G G' : Hp} (e : Same G G') : ∀ {v : List V} {d : List D}, RDs K G v d → RDs K G' v d
  | _, _, .nil => .nil
  | _, _, .cons h r => .cons (RD.mono e h) (RDs.mono e r)
end
theorem RDs.length {K : PySem.W.Frag} {G : Hp} : ∀ {xs : List V} {ds : List D}, RDs K G xs ds → xs.length = ds.length
  | _, _, .nil => rfl
  | _, _, .cons _ r => by rw [List.length_cons, List.length_cons, RDs.length r]
theorem RDs.get {K : PySem.W.Frag} {G : Hp} : ∀ {xs : List V} {ds : List D} {i : Nat} {d : D}, RDs K G xs ds → ds[i]? = some d → ∃ v, xs[i]? = some v ∧ RD K G v d
  | _, _, _, _, .nil, h => by simp at h
  | _, _, 0, _, .cons a _, h => by
    simp at h
    subst h
    exact ⟨_, rfl, a⟩
  | _, _, i + 1, _, .cons _ r, h => by
    obtain ⟨v, h1, h2⟩ := RDs.get (i := i) r (by simpa using h)
    exact ⟨v, by simpa using h1, h2⟩
theorem RDs.get' {K : PySem.W.Frag} {G : Hp} : ∀ {xs : List V} {ds : List D} {i : Nat} {v : V}, RDs K G xs ds → xs[i]? = some v → ∃ d, ds[i]? = some d ∧ RD K G v d
  | _, _, _, _, .nil, h => by simp at h
  | _, _, 0, _, .cons a _, h => by
    simp at h
    subst h
    exact ⟨_, rfl, a⟩
  | _, _, i + 1, _, .cons _ r, h => by
    obtain ⟨v, h1, h2⟩ := RDs.get' (i := i) r (by simpa using h)
    exact ⟨v, by simpa using h1, h2⟩
theorem RDs.append {K : PySem.W.Frag} {G : Hp} : ∀ {xs ys : List V} {ds es : List D}, RDs K G xs ds → RDs K G ys es → RDs K G (xs ++ ys) (ds ++ es)
  | _, _, _, _, .nil, s => s
  | _, _, _, _, .cons a r, s => .cons a (RDs.append r s)
theorem RDs.take {K : PySem.W.Frag} {G : Hp} : ∀ (n : Nat) {xs : List V} {ds : List D}, RDs K G xs ds → RDs K G (xs.take n) (ds.take n)
  | 0, _, _, _ => .nil
  | _ + 1, _, _, .nil => .nil
  | n + 1, _, _, .cons a r => .cons a (RDs.take n r)
theorem RDs.drop {K : PySem.W.Frag} {G : Hp} : ∀ (n : Nat) {xs : List V} {ds : List D}, RDs K G xs ds → RDs K G (xs.drop n) (ds.drop n)
  | 0, _, _, r => r
  | _ + 1, _, _, .nil => .nil
  | n + 1, _, _, .cons _ r => RDs.drop n r
theorem RDs.set {K : PySem.W.Frag} {G : Hp} {v : V} {d : D} (h : RD K G v d) : ∀ (i : Nat) {xs : List V} {ds : List D}, RDs K G xs ds → RDs K G (xs.set i v) (ds.set i d)
  | _, _, _, .nil => .nil
  | 0, _, _, .cons _ r => .cons h r
  | i + 1, _, _, .cons a r => .cons a (RDs.set h i r)
theorem RDs.dropLast {K : PySem.W.Frag} {G : Hp} {xs : List V} {ds : List D} (h : RDs K G xs ds) : RDs K G xs.dropLast ds.dropLast := by
  rw [List.dropLast_eq_take, List.dropLast_eq_take, h.length]
  exact h.take _

/-! ### slots -/
inductive A where
  | no
  | d (x : D)
  | o (k : Nat)
  | p (φ : V → Hp → Prop)
/-- a thing of one's own: a list, a dict with ints and texts as keys, an instance (its class, the place of its own dict, its attributes), such a dict -/
inductive O where
  | lst (ds : List D)
  | dk (kvs : List (Key × D))
  | ins (C : Addr) (j : Nat) (fs : List (Str × A))
  | own (k : Nat)
structure Env where
  s : List A
  m : List (Option O)
structure Bs where
  G : Hp
  H : Hp
  ow : List Addr
def RepV (K : PySem.W.Frag) (G : Hp) (ad : List Addr) (v : V) : A → Prop
  | .no => True
  | .d x => RD K G v x
  | .o k => ∃ l, ad[k]? = some l ∧ v = .ref l
  | .p φ => ∀ G', Same G G' → φ v G'
theorem RepV.mono {K : PySem.W.Frag} {G G' : Hp} {ad : List Addr} {v : V} {a : A} (e : Same G G') (h : RepV K G ad v a) : RepV K G' ad v a := by
  cases a with
  | no => trivial
  | d x => exact RD.mono e h
  | o k => exact h
  | p φ => exact fun G2 e2 => h G2 (e.trans e2)
theorem RepV.pre {K : PySem.W.Frag} {G : Hp} {ad ad' : List Addr} {v : V} {a : A} (e : ad <+: ad') (h : RepV K G ad v a) : RepV K G ad' v a := by
  cases a with
  | no => trivial
  | d x => exact h
  | o k =>
    obtain ⟨l, h1, h2⟩ := h
    obtain ⟨t, rfl⟩ := e
    have hk : k < ad.length := (List.getElem?_eq_some_iff.mp h1).1
    exact ⟨l, by rw [List.getElem?_append_left hk]; exact h1, h2⟩
  | p φ => exact h
/-- all given values -/
inductive RepVs (K : PySem.W.Frag) (G : Hp) (ad : List Addr) : List V → List A → Prop
  | nil : RepVs K G ad [] []
  | cons {v : V} {vs : List V} {a : A} {as : List A} : RepV K G ad v a → RepVs K G ad vs as → RepVs K G ad (v :: vs) (a :: as)
theorem RepVs.mono {K : PySem.W.Frag} {G G' : Hp} {ad : List Addr} (e : Same G G') : ∀ {vs : List V} {as : List A}, RepVs K G ad vs as → RepVs K G' ad vs as
  | _, _, .nil => .nil
  | _, _, .cons h r => .cons (h.mono e) (r.mono e)
theorem RepVs.length {K : PySem.W.Frag} {G : Hp} {ad : List Addr} : ∀ {vs : List V} {as : List A}, RepVs K G ad vs as → vs.length = as.length
  | _, _, .nil => rfl
  | _, _, .cons _ r => by rw [List.length_cons, List.length_cons, RepVs.length r]
theorem RepVs.get {K : PySem.W.Frag} {G : Hp} {ad : List Addr} : ∀ {vs : List V} {as : List A} {i : Nat} {a : A}, RepVs K G ad vs as → as[i]? = some a → ∃ v, vs[i]? = some v ∧ RepV K G ad v a
  | _, _, _, _, .nil, h => by simp at h
  | _, _, 0, _, .cons h _, e => by
    simp at e
    subst e
    exact ⟨_, rfl, h⟩
  | _, _, i + 1, _, .cons _ r, e => by
    obtain ⟨v, h1, h2⟩ := RepVs.get (i := i) r (by simpa using e)
    exact ⟨v, by simpa using h1, h2⟩

/-- pairs by their second parts -/
def RKs (K : PySem.W.Frag) (G : Hp) (kvs : List (Key × V)) (kds : List (Key × D)) : Prop := Paired (fun (p : Key × V) (q : Key × D) => p.1 = q.1 ∧ RD K G p.2 q.2) kvs kds
def RFs (K : PySem.W.Frag) (G : Hp) (ad : List Addr) (vs : List (Str × V)) (fs : List (Str × A)) : Prop := Paired (fun (p : Str × V) (q : Str × A) => p.1 = q.1 ∧ RepV K G ad p.2 q.2) vs fs
/-- what stands at l -/
def ObR (K : PySem.W.Frag) (G H : Hp) (ad : List Addr) (l : Addr) : O → Prop
  | .lst ds => ∃ vs, H l = some (.lst vs) ∧ RDs K G vs ds
  | .dk kds => ∃ kvs, H l = some (.dK kvs) ∧ RKs K G kvs kds
  | .ins C j fs => ∃ dx vs, H l = some (.ins C dx vs) ∧ ad[j]? = some dx ∧ RFs K G ad vs fs
  | .own k => ∃ x, ad[k]? = some x ∧ H l = some (.own x)
theorem pre_get {ad ad' : List Addr} (e : ad <+: ad') {k : Nat} {l : Addr} (h : ad[k]? = some l) : ad'[k]? = some l := by
  obtain ⟨t, rfl⟩ := e
  rw [List.getElem?_append_left (List.getElem?_eq_some_iff.mp h).1]
  exact h
theorem ObR.keep {K : PySem.W.Frag} {G G' H H' : Hp} {ad ad' : List Addr} {l : Addr} {o : O} (h : ObR K G H ad l o) (gg : Same G G') (pr : ad <+: ad') (hh : ∀ u, H l = some u → H' l = some u) : ObR K G' H' ad' l o := by
  cases o with
  | lst ds =>
    obtain ⟨vs, h1, h2⟩ := h
    exact ⟨vs, hh _ h1, h2.mono gg⟩
  | dk kds =>
    obtain ⟨vs, h1, h2⟩ := h
    exact ⟨vs, hh _ h1, Paired.mapP h2 fun _ _ z => ⟨z.1, RD.mono gg z.2⟩⟩
  | ins C j fs =>
    obtain ⟨dx, vs, h1, h2, h3⟩ := h
    exact ⟨dx, vs, hh _ h1, pre_get pr h2, Paired.mapP h3 fun _ _ z => ⟨z.1, (z.2.mono gg).pre pr⟩⟩
  | own k =>
    obtain ⟨x, h1, h2⟩ := h
    exact ⟨x, pre_get pr h1, hh _ h2⟩
theorem ObR.some {K : PySem.W.Frag} {G H : Hp} {ad : List Addr} {l : Addr} {o : O} (h : ObR K G H ad l o) : ∃ u, H l = some u := by
  cases o with
  | lst ds => obtain ⟨vs, h1, _⟩ := h; exact ⟨_, h1⟩
  | dk kds => obtain ⟨vs, h1, _⟩ := h; exact ⟨_, h1⟩
  | ins C j fs => obtain ⟨dx, vs, h1, _⟩ := h; exact ⟨_, h1⟩
  | own k => obtain ⟨x, _, h2⟩ := h; exact ⟨_, h2⟩

/-- nothing of the heap is changed; the data grow -/
structure Xt (G H G' H' : Hp) : Prop where
  gg : Same G G'
  gh : Same G' H'
  hh : Same H H'
  fr : ∀ a, G' a ≠ none → G a ≠ none ∨ H a = none
theorem same_new {H : Hp} {p : Addr} {o : HO} (h : H p = none) : Same H (upd H p o) := fun b x e => by
  rw [upd_ne (ne_of_none e h)]
  exact e
theorem Same.none {H H' : Hp} (e : Same H H') {l : Addr} (h : H' l = none) : H l = none := e.free h
theorem Xt.refl {G H : Hp} (e : Same G H) : Xt G H G H := ⟨Same.refl _, e, Same.refl _, fun _ h => .inl h⟩
theorem Xt.trans {G H G1 H1 G2 H2 : Hp} (a : Xt G H G1 H1) (b : Xt G1 H1 G2 H2) : Xt G H G2 H2 :=
  ⟨a.gg.trans b.gg, b.gh, a.hh.trans b.hh, fun l h => by
    rcases b.fr l h with h | h
    · exact a.fr l h
    · exact .inr (Same.none a.hh h)⟩
/-- a new thing that is kept | that is let go -/
theorem Xt.new {G H : Hp} {p : Addr} {o : HO} (e : Same G H) (h : H p = none) : Xt G H (upd G p o) (upd H p o) :=
  ⟨same_new (Same.none e h), fun b x q => by
    by_cases hb : b = p
    · subst hb
      rw [upd_same] at q ⊢
      exact q
    · rw [upd_ne hb] at q ⊢
      exact e _ _ q, same_new h, fun a q => by
    by_cases hb : a = p
    · subst hb
      exact .inr h
    · rw [upd_ne hb] at q
      exact .inl q⟩
theorem Xt.drop {G H : Hp} {p : Addr} {o : HO} (e : Same G H) (h : H p = none) : Xt G H G (upd H p o) :=
  ⟨Same.refl _, e.trans (same_new h), same_new h, fun _ q => .inl q⟩
/-- what is held only by H stays out of the data -/
theorem Xt.out {G H G' H' : Hp} (x : Xt G H G' H') {l : Addr} {o : HO} (h : G l = none) (ho : H l = some o) : G' l = none := by
  cases q : G' l with
  | none => rfl
  | some u =>
    rcases x.fr l (by rw [q]; exact fun z => nomatch z) with h1 | h1
    · exact absurd h h1
    · rw [ho] at h1
      cases h1
/-- the data as they were, too -/
theorem Xt.back {G H G' H' : Hp} (x : Xt G H G' H') (e : Same G H) : Xt G H G H' := ⟨Same.refl _, e.trans x.hh, x.hh, fun _ h => .inl h⟩

structure Rep (K : PySem.W.Frag) (B : Bs) (e : Env) (σ : L2.St) (G H : Hp) (ad : List Addr) : Prop where
  bg : Same B.G G
  gh : Same G H
  fr : ∀ a, G a ≠ none → B.G a ≠ none ∨ B.H a = none
  kp : ∀ a o, B.H a = some o → a ∉ B.ow → H a = some o
  nn : ∀ a, B.H a ≠ none → H a ≠ none
  al : ad.length = e.m.length
  nd : ad.Nodup
  ah : ∀ l, l ∈ ad → H l ≠ none
  ow : B.ow <+: ad
  op : ∀ (k : Nat) (l : Addr) (o : O), ad[k]? = some l → e.m[k]? = some (some o) → G l = none ∧ (l ∈ B.ow ∨ B.H l = none) ∧ ObR K G H ad l o
  sl : σ.length = e.s.length
  st : ∀ (i : Nat) (a : A), e.s[i]? = some a → a = .no ∨ ∃ v, σ[i]? = some (some v) ∧ RepV K G ad v a
section
variable {K : PySem.W.Frag} {B : Bs} {e : Env} {σ : L2.St} {G H G' H' : Hp} {ad : List Addr}
theorem Rep.ext (r : Rep K B e σ G H ad) (x : Xt G H G' H') : Rep K B e σ G' H' ad where
  bg := r.bg.trans x.gg
  gh := x.gh
  fr := fun a h => by
    rcases x.fr a h with q | q
    · exact r.fr a q
    · refine .inr ?_
      cases z : B.H a with
      | none => rfl
      | some o => exact absurd q (r.nn a (by rw [z]; exact fun y => nomatch y))
  kp := fun a o h n => x.hh _ _ (r.kp a o h n)
  nn := fun a h => by
    have q := r.nn a h
    cases z : H a with
    | none => exact absurd z q
    | some o =>
      rw [x.hh _ _ z]
      exact fun y => nomatch y
  al := r.al
  nd := r.nd
  ah := fun l h => by
    have q := r.ah l h
    cases z : H l with
    | none => exact absurd z q
    | some o =>
      rw [x.hh _ _ z]
      exact fun y => nomatch y
  ow := r.ow
  op := fun k l ds h1 h2 => by
    obtain ⟨a, b, c⟩ := r.op k l ds h1 h2
    obtain ⟨u, hu⟩ := c.some
    exact ⟨x.out a hu, b, c.keep x.gg (List.prefix_refl _) fun u h => x.hh _ _ h⟩
  sl := r.sl
  st := fun i a h => by
    rcases r.st i a h with q | ⟨v, q1, q2⟩
    · exact .inl q
    · exact .inr ⟨v, q1, q2.mono x.gg⟩
end

/-! ### what readings do -/
section
variable (K : PySem.W.Frag)
/-- an expression without effect: its value -/
def AE (te : TE) (e : Env) (a : A) : Prop := ∀ (B : Bs) (σ : L2.St) (G H : Hp) (ad : List Addr), Rep K B e σ G H ad → ∀ C : VK, (∀ v G' H', Xt G H G' H' → RepV K G' ad v a → C v H') → te σ H C
/-- a new list -/
def AN (te : TE) (e : Env) (ds : List D) : Prop := ∀ (B : Bs) (σ : L2.St) (G H : Hp) (ad : List Addr), Rep K B e σ G H ad → ∀ C : VK,
  (∀ p vs G' H', Xt G H G' H' → H p = none → G' p = none → H' p = some (.lst vs) → RDs K G' vs ds → C (.ref p) H') → te σ H C
/-- a test -/
def AT (tt : TT) (e : Env) (b : Bool) : Prop := ∀ (B : Bs) (σ : L2.St) (G H : Hp) (ad : List Addr), Rep K B e σ G H ad → ∀ C : Bool → Hp → Prop, (∀ G' H', Xt G H G' H' → C b H') → tt σ H C
/-- arguments -/
def AL (ta : TA) (e : Env) (as : List A) : Prop := ∀ (B : Bs) (σ : L2.St) (G H : Hp) (ad : List Addr), Rep K B e σ G H ad → ∀ C : List V → Hp → Prop, (∀ vs G' H', Xt G H G' H' → RepVs K G' ad vs as → C vs H') → ta σ H C
/-- by values: two, one, a list, a method -/
def A2 (r : R2) (x y : A) (e : Env) (z : A) : Prop := ∀ (B : Bs) (σ : L2.St) (G H : Hp) (ad : List Addr), Rep K B e σ G H ad → ∀ v w, RepV K G ad v x → RepV K G ad w y → ∀ C : VK, (∀ v G' H', Xt G H G' H' → RepV K G' ad v z → C v H') → r v w H C
def A1 (r : V → Hp → VK → Prop) (x : A) (e : Env) (z : A) : Prop := ∀ (B : Bs) (σ : L2.St) (G H : Hp) (ad : List Addr), Rep K B e σ G H ad → ∀ v, RepV K G ad v x → ∀ C : VK, (∀ v G' H', Xt G H G' H' → RepV K G' ad v z → C v H') → r v H C
def AC (r : List V → Hp → VK → Prop) (xs : List A) (e : Env) (z : A) : Prop := ∀ (B : Bs) (σ : L2.St) (G H : Hp) (ad : List Addr), Rep K B e σ G H ad → ∀ vs, RepVs K G ad vs xs → ∀ C : VK, (∀ v G' H', Xt G H G' H' → RepV K G' ad v z → C v H') → r vs H C
def AM (r : V → List V → Hp → VK → Prop) (x : A) (xs : List A) (e : Env) (z : A) : Prop := ∀ (B : Bs) (σ : L2.St) (G H : Hp) (ad : List Addr), Rep K B e σ G H ad → ∀ v vs, RepV K G ad v x → RepVs K G ad vs xs → ∀ C : VK, (∀ v G' H', Xt G H G' H' → RepV K G' ad v z → C v H') → r v vs H C
/-- the same, the value a new list -/
def N2 (r : R2) (x y : A) (e : Env) (ds : List D) : Prop := ∀ (B : Bs) (σ : L2.St) (G H : Hp) (ad : List Addr), Rep K B e σ G H ad → ∀ v w, RepV K G ad v x → RepV K G ad w y → ∀ C : VK,
  (∀ p vs G' H', Xt G H G' H' → H p = none → G' p = none → H' p = some (.lst vs) → RDs K G' vs ds → C (.ref p) H') → r v w H C
def NC (r : List V → Hp → VK → Prop) (xs : List A) (e : Env) (ds : List D) : Prop := ∀ (B : Bs) (σ : L2.St) (G H : Hp) (ad : List Addr), Rep K B e σ G H ad → ∀ vs, RepVs K G ad vs xs → ∀ C : VK,
  (∀ p vs G' H', Xt G H G' H' → H p = none → G' p = none → H' p = some (.lst vs) → RDs K G' vs ds → C (.ref p) H') → r vs H C
/-- an expression with effect: what holds of its value and the slots behind it -/
def AX (te : TE) (e : Env) (Q : A → Env → Prop) : Prop := ∀ (B : Bs) (σ : L2.St) (G H : Hp) (ad : List Addr), Rep K B e σ G H ad → ∀ C : VK,
  (∀ a e' v G' H' ad', Q a e' → Same G G' → ad <+: ad' → Rep K B e' σ G' H' ad' → RepV K G' ad' v a → C v H') → te σ H C
/-- the same, several -/
def AXL (ta : TA) (e : Env) (Q : List A → Env → Prop) : Prop := ∀ (B : Bs) (σ : L2.St) (G H : Hp) (ad : List Addr), Rep K B e σ G H ad → ∀ C : List V → Hp → Prop,
  (∀ as e' vs G' H' ad', Q as e' → Same G G' → ad <+: ad' → Rep K B e' σ G' H' ad' → RepVs K G' ad' vs as → C vs H') → ta σ H C
/-- a target -/
def AG (g : TG) (a : A) (e : Env) (Q : Env → Prop) : Prop := ∀ (B : Bs) (σ : L2.St) (G H : Hp) (ad : List Addr), Rep K B e σ G H ad → ∀ v, RepV K G ad v a → ∀ C : L2.St → Hp → Prop,
  (∀ e' σ' G' H' ad', Q e' → Rep K B e' σ' G' H' ad' → C σ' H') → g v σ H C
structure AEnds where
  nx : Env → Prop
  rt : A → Env → Prop
  bk : Env → Prop := fun _ => False
  ct : Env → Prop := fun _ => False
structure Co (B : Bs) (D : AEnds) (C : Ends) : Prop where
  nx : ∀ e σ G H ad, D.nx e → Rep K B e σ G H ad → C.nx σ H
  rt : ∀ a e v σ G H ad, D.rt a e → Rep K B e σ G H ad → RepV K G ad v a → C.rt v H
  bk : ∀ e σ G H ad, D.bk e → Rep K B e σ G H ad → C.bk σ H
  ct : ∀ e σ G H ad, D.ct e → Rep K B e σ G H ad → C.ct σ H
/-- a statement; w: how many of the own lists are the caller's -/
def AS (w : Nat) (t : TS) (D : AEnds) (e : Env) : Prop := ∀ (B : Bs), B.ow.length = w → ∀ C : Ends, Co K B D C → ∀ (σ : L2.St) (G H : Hp) (ad : List Addr), Rep K B e σ G H ad → t C σ H
end

section
variable {K : PySem.W.Frag} {e : Env} {ta tb te : TE} {x y z a b : A} {r : R2} {ds : List D}
theorem AE.ax {Q : A → Env → Prop} (h : AE K te e a) (q : Q a e) : AX K te e Q := fun B σ G H ad R C c =>
  h B σ G H ad R C fun v G' H' X rv => c a e v G' H' ad q X.gg (List.prefix_refl _) (R.ext X) rv
theorem AE.eq (h : AE K te e a) (q : a = b) : AE K te e b := q ▸ h
theorem AN.eq {es : List D} (h : AN K te e ds) (q : ds = es) : AN K te e es := q ▸ h
/-- a new list as data -/
theorem AN.ae (h : AN K te e ds) : AE K te e (.d (.lst ds)) := fun B σ G H ad R C c =>
  h B σ G H ad R C fun p vs G' H' X hp gp hq rd => c (.ref p) (upd G' p (.lst vs)) H' ⟨X.gg.trans (same_new gp), fun b o q => by
      by_cases hb : b = p
      · subst hb
        rw [upd_same] at q
        rw [hq]
        exact q
      · rw [upd_ne hb] at q
        exact X.gh _ _ q, X.hh, fun b q => by
      by_cases hb : b = p
      · subst hb
        exact .inr hp
      · rw [upd_ne hb] at q
        exact X.fr b q⟩ (.lst upd_same (rd.mono (same_new gp)))

/-! ### expressions -/
theorem ae_var {i : Nat} (h : e.s[i]? = some a) (hn : (match a with | .no => false | _ => true) = true) : AE K (tVar i) e a := fun B σ G H ad R C c => by
  rcases R.st i a h with rfl | ⟨v, h1, h2⟩
  · cases hn
  · exact ⟨v, h1, c v G H (Xt.refl R.gh) h2⟩
theorem ae_int {i : Int} : AE K (tC (.int i)) e (.d (.int i)) := fun B σ G H ad R C c => c _ G H (Xt.refl R.gh) RD.int
theorem ae_bl {i : Bool} : AE K (tC (.bl i)) e (.d (.bl i)) := fun B σ G H ad R C c => c _ G H (Xt.refl R.gh) RD.bl
theorem ae_non : AE K (tC .non) e (.d .non) := fun B σ G H ad R C c => c _ G H (Xt.refl R.gh) RD.non
theorem ae_str {z : Str} {s : List Nat} (h : z.cps.toList = s := by rfl) : AE K (tC (.str z)) e (.d (.str s)) := fun B σ G H ad R C c => c _ G H (Xt.refl R.gh) (by
  subst h
  exact RD.str (s := z.cps.toList))
theorem ae_op (ha : AE K ta e x) (hb : AE K tb e y) (hr : A2 K r x y e z) : AE K (tOp r ta tb) e z := fun B σ G H ad R C c =>
  ha B σ G H ad R _ fun v G1 H1 X1 r1 => hb B σ G1 H1 ad (R.ext X1) _ fun w G2 H2 X2 r2 =>
    hr B σ G2 H2 ad ((R.ext X1).ext X2) v w (r1.mono X2.gg) r2 C fun u G3 H3 X3 r3 => c u G3 H3 ((X1.trans X2).trans X3) r3
theorem an_op (ha : AE K ta e x) (hb : AE K tb e y) (hr : N2 K r x y e ds) : AN K (tOp r ta tb) e ds := fun B σ G H ad R C c =>
  ha B σ G H ad R _ fun v G1 H1 X1 r1 => hb B σ G1 H1 ad (R.ext X1) _ fun w G2 H2 X2 r2 =>
    hr B σ G2 H2 ad ((R.ext X1).ext X2) v w (r1.mono X2.gg) r2 C fun p vs G3 H3 X3 hp gp hq r3 => c p vs G3 H3 ((X1.trans X2).trans X3) (Same.none (X1.hh.trans X2.hh) hp) gp hq r3
theorem ae_un {q : V → Hp → VK → Prop} (ha : AE K ta e x) (hr : A1 K q x e z) : AE K (tUn q ta) e z := fun B σ G H ad R C c =>
  ha B σ G H ad R _ fun v G1 H1 X1 r1 => hr B σ G1 H1 ad (R.ext X1) v r1 C fun u G3 H3 X3 r3 => c u G3 H3 (X1.trans X3) r3
theorem al_nil : AL K tNil e [] := fun B σ G H ad R C c => c [] G H (Xt.refl R.gh) .nil
theorem al_cons {tr : TA} {as : List A} (h : AE K te e a) (hr : AL K tr e as) : AL K (tCons te tr) e (a :: as) := fun B σ G H ad R C c =>
  h B σ G H ad R _ fun v G1 H1 X1 r1 => hr B σ G1 H1 ad (R.ext X1) _ fun vs G2 H2 X2 r2 => c (v :: vs) G2 H2 (X1.trans X2) (.cons (r1.mono X2.gg) r2)
theorem ae_cb {q : List V → Hp → VK → Prop} {t : TA} {as : List A} (h : AL K t e as) (hr : AC K q as e z) : AE K (tCB q t) e z := fun B σ G H ad R C c =>
  h B σ G H ad R _ fun vs G1 H1 X1 r1 => hr B σ G1 H1 ad (R.ext X1) vs r1 C fun u G3 H3 X3 r3 => c u G3 H3 (X1.trans X3) r3
theorem an_cb {q : List V → Hp → VK → Prop} {t : TA} {as : List A} (h : AL K t e as) (hr : NC K q as e ds) : AN K (tCB q t) e ds := fun B σ G H ad R C c =>
  h B σ G H ad R _ fun vs G1 H1 X1 r1 => hr B σ G1 H1 ad (R.ext X1) vs r1 C fun p vs G3 H3 X3 hp gp hq r3 => c p vs G3 H3 (X1.trans X3) (Same.none X1.hh hp) gp hq r3

/-- all of them data -/
theorem RepVs.toRDs {G : Hp} {ad : List Addr} : ∀ {vs : List V} {ds : List D}, RepVs K G ad vs (ds.map .d) → RDs K G vs ds
  | _, [], .nil => .nil
  | _, _ :: _, .cons h r => .cons h (RepVs.toRDs r)
theorem RepVs.of {G : Hp} {ad : List Addr} : ∀ {vs : List V} {ds : List D}, RDs K G vs ds → RepVs K G ad vs (ds.map .d)
  | _, _, .nil => .nil
  | _, _, .cons h r => .cons h (RepVs.of r)
theorem sz_of {n : Nat} (h : n ≤ 1000000) : n ≤ sizeLine := Nat.le_trans h (by decide)
theorem sz_lt {n : Nat} (h : n < 1000000) : n < sizeLine := Nat.lt_of_lt_of_le h (by decide)
theorem an_lst {t : TA} {as : List A} (h : AL K t e as) (hd : as = ds.map .d := by rfl) (hl : ds.length ≤ 1000000 := by decide) : AN K (tLst t) e ds := fun B σ G H ad R C c => by
  subst hd
  refine h B σ G H ad R _ fun vs G1 H1 X1 r1 => ⟨sz_of ?_, fun p hp => ?_⟩
  · have := r1.length
    rw [List.length_map] at this
    omega
  · exact c p vs G1 (upd H1 p (.lst vs)) (X1.trans (Xt.drop X1.gh hp)) (Same.none X1.hh hp) (Same.none X1.gh hp) upd_same r1.toRDs
theorem ae_tup {t : TA} {as : List A} (h : AL K t e as) (hd : as = ds.map .d := by rfl) (hl : ds.length ≤ 1000000 := by decide) : AE K (tTup t) e (.d (.tup ds)) := fun B σ G H ad R C c => by
  subst hd
  refine h B σ G H ad R _ fun vs G1 H1 X1 r1 => ⟨sz_of ?_, fun p hp => ?_⟩
  · have := r1.length
    rw [List.length_map] at this
    omega
  · have X2 := Xt.new (o := .tup vs) X1.gh hp
    exact c (.ref p) _ _ (X1.trans X2) (RD.tup (.inl (.inl upd_same)) (r1.toRDs.mono X2.gg))

/-! ### tests -/
theorem at_val {i : Bool} (h : AE K te e (.d (.bl i))) : AT K (tTest te) e i := fun B σ G H ad R C c =>
  h B σ G H ad R _ fun v G1 H1 X1 r1 => by
    cases r1
    exact ⟨i, rfl, c G1 H1 X1⟩
theorem at_B {i : Bool} (h : AE K te e (.d (.bl i))) : AT K (tB te) e i := fun B σ G H ad R C c =>
  h B σ G H ad R _ fun v G1 H1 X1 r1 => by
    cases r1
    exact ⟨i, rfl, c G1 H1 X1⟩
theorem at_and {t u : TT} {i j : Bool} (h1 : AT K t e i) (h2 : i = true → AT K u e j) : AT K (tAnd t u) e (i && j) := fun B σ G H ad R C c =>
  h1 B σ G H ad R _ fun G1 H1 X1 => by
    cases i with
    | true => exact h2 rfl B σ G1 H1 ad (R.ext X1) C fun G2 H2 X2 => c G2 H2 (X1.trans X2)
    | false => exact c G1 H1 X1
theorem at_or {t u : TT} {i j : Bool} (h1 : AT K t e i) (h2 : i = false → AT K u e j) : AT K (tOr t u) e (i || j) := fun B σ G H ad R C c =>
  h1 B σ G H ad R _ fun G1 H1 X1 => by
    cases i with
    | true => exact c G1 H1 X1
    | false => exact h2 rfl B σ G1 H1 ad (R.ext X1) C fun G2 H2 X2 => c G2 H2 (X1.trans X2)
theorem at_not {t : TT} {i : Bool} (h1 : AT K t e i) : AT K (tNot t) e (!i) := fun B σ G H ad R C c =>
  h1 B σ G H ad R _ fun G1 H1 X1 => c G1 H1 X1
theorem AT.eq {t : TT} {i j : Bool} (h : AT K t e i) (q : i = j) : AT K t e j := q ▸ h
theorem ae_andV {i : Bool} {z : A} (h1 : AE K ta e (.d (.bl i))) (h2 : i = true → AE K tb e z) (h3 : i = false → z = .d (.bl false)) : AE K (tAndV ta tb) e z := fun B σ G H ad R C c =>
  h1 B σ G H ad R _ fun v G1 H1 X1 r1 => by
    cases r1
    refine ⟨i, rfl, ?_⟩
    cases i with
    | true => exact h2 rfl B σ G1 H1 ad (R.ext X1) C fun v G2 H2 X2 r2 => c v G2 H2 (X1.trans X2) r2
    | false =>
      have q := c (.bl false) G1 H1 X1
      rw [h3 rfl] at q
      exact q RD.bl
theorem ae_orV {i : Bool} {z : A} (h1 : AE K ta e (.d (.bl i))) (h2 : i = false → AE K tb e z) (h3 : i = true → z = .d (.bl true)) : AE K (tOrV ta tb) e z := fun B σ G H ad R C c =>
  h1 B σ G H ad R _ fun v G1 H1 X1 r1 => by
    cases r1
    refine ⟨i, rfl, ?_⟩
    cases i with
    | false => exact h2 rfl B σ G1 H1 ad (R.ext X1) C fun v G2 H2 X2 r2 => c v G2 H2 (X1.trans X2) r2
    | true =>
      have q := c (.bl true) G1 H1 X1
      rw [h3 rfl] at q
      exact q RD.bl
theorem ae_notV {i : Bool} (h1 : AE K ta e (.d (.bl i))) : AE K (tNotV ta) e (.d (.bl (!i))) := fun B σ G H ad R C c =>
  h1 B σ G H ad R _ fun v G1 H1 X1 r1 => by
    cases r1
    exact ⟨i, rfl, c _ G1 H1 X1 RD.bl⟩
theorem ae_and2 {i j : Bool} (h1 : AE K ta e (.d (.bl i))) (h2 : i = true → AE K tb e (.d (.bl j))) : AE K (tAndV ta tb) e (.d (.bl (i && j))) :=
  ae_andV h1 (fun h => by rw [h]; exact h2 h) (fun h => by rw [h]; rfl)
theorem ae_or2 {i j : Bool} (h1 : AE K ta e (.d (.bl i))) (h2 : i = false → AE K tb e (.d (.bl j))) : AE K (tOrV ta tb) e (.d (.bl (i || j))) :=
  ae_orV h1 (fun h => by rw [h]; exact h2 h) (fun h => by rw [h]; rfl)
theorem ae_if {t : TT} {i : Bool} (h : AT K t e i) (h1 : i = true → AE K ta e a) (h2 : i = false → AE K tb e a) : AE K (tIf t ta tb) e a := fun B σ G H ad R C c =>
  h B σ G H ad R _ fun G1 H1 X1 => by
    cases i with
    | true => exact h1 rfl B σ G1 H1 ad (R.ext X1) C fun v G2 H2 X2 r2 => c v G2 H2 (X1.trans X2) r2
    | false => exact h2 rfl B σ G1 H1 ad (R.ext X1) C fun v G2 H2 X2 r2 => c v G2 H2 (X1.trans X2) r2
theorem ae_ifD {t : TT} {i : Bool} {p q : D} (h : AT K t e i) (h1 : i = true → AE K ta e (.d p)) (h2 : i = false → AE K tb e (.d q)) : AE K (tIf t ta tb) e (.d (if i = true then p else q)) :=
  ae_if h (fun z => by rw [if_pos z]; exact h1 z) (fun z => by rw [if_neg (by rw [z]; exact Bool.false_ne_true)]; exact h2 z)
end
end Ab
namespace Ab
open PySem PySem.Spec PyProof.Rows L2

/-! ### slots changed -/
def Env.set (e : Env) (i : Nat) (a : A) : Env := ⟨e.s.set i a, e.m⟩
def Env.put (e : Env) (k : Nat) (ds : List D) : Env := ⟨e.s, e.m.set k (some (.lst ds))⟩
def Env.add (e : Env) (ds : List D) : Env := ⟨e.s, e.m ++ [some (.lst ds)]⟩
def Env.putO (e : Env) (k : Nat) (o : O) : Env := ⟨e.s, e.m.set k (some o)⟩
def Env.addO (e : Env) (o : O) : Env := ⟨e.s, e.m ++ [some o]⟩
def Env.new (e : Env) (i : Nat) (ds : List D) : Env := ⟨e.s.set i (.o e.m.length), e.m ++ [some (.lst ds)]⟩
def frzA (k : Nat) (ds : List D) : A → A
  | .o j => if j = k then .d (.lst ds) else .o j
  | a => a
def Env.frz (e : Env) (k : Nat) (ds : List D) : Env := ⟨e.s.map (frzA k ds), e.m.set k none⟩
/-- what is known less -/
def Wk : List A → List A → Prop
  | [], [] => True
  | a :: r, b :: s => (b = .no ∨ a = b) ∧ Wk r s
  | _, _ => False
structure Le (e e' : Env) : Prop where
  s : Wk e.s e'.s
  m : e.m = e'.m
theorem Wk.refl : ∀ l : List A, Wk l l
  | [] => trivial
  | _ :: r => ⟨.inr rfl, Wk.refl r⟩
theorem Le.refl (e : Env) : Le e e := ⟨Wk.refl _, rfl⟩
theorem Wk.trans : ∀ {a b c : List A}, Wk a b → Wk b c → Wk a c
  | [], [], [], _, _ => trivial
  | _ :: _, _ :: _, _ :: _, h, g => ⟨by
    rcases g.1 with q | q
    · exact .inl q
    · rcases h.1 with p | p
      · exact .inl (q ▸ p)
      · exact .inr (p.trans q), Wk.trans h.2 g.2⟩
theorem Le.trans {a b c : Env} (h : Le a b) (g : Le b c) : Le a c := ⟨h.s.trans g.s, h.m.trans g.m⟩
theorem Wk.len : ∀ {a b : List A}, Wk a b → a.length = b.length
  | [], [], _ => rfl
  | _ :: _, _ :: _, h => by rw [List.length_cons, List.length_cons, Wk.len h.2]
theorem Wk.get : ∀ {a b : List A} {i : Nat} {y : A}, Wk a b → b[i]? = some y → y = .no ∨ a[i]? = some y
  | [], [], _, _, _, h => by simp at h
  | x :: r, z :: s, 0, y, g, h => by
    simp at h
    subst h
    rcases g.1 with q | q
    · exact .inl q
    · exact .inr (by rw [q]; rfl)
  | x :: r, z :: s, i + 1, y, g, h => by
    have := Wk.get (i := i) (y := y) g.2 (by simpa using h)
    simpa using this
theorem Wk.set {x : A} : ∀ {a b : List A} (i : Nat), Wk a b → Wk (a.set i x) (b.set i x)
  | [], [], _, _ => trivial
  | _ :: _, _ :: _, 0, h => ⟨.inr rfl, h.2⟩
  | _ :: _, _ :: _, i + 1, h => ⟨h.1, Wk.set i h.2⟩
theorem Le.set {e e' : Env} (h : Le e e') (i : Nat) (x : A) : Le (e.set i x) (e'.set i x) := ⟨h.s.set i, h.m⟩
theorem Rep.le {K : PySem.W.Frag} {B : Bs} {e e' : Env} {σ : L2.St} {G H : Hp} {ad : List Addr} (r : Rep K B e σ G H ad) (h : Le e e') : Rep K B e' σ G H ad where
  bg := r.bg
  gh := r.gh
  fr := r.fr
  kp := r.kp
  nn := r.nn
  al := by rw [r.al, h.m]
  nd := r.nd
  ah := r.ah
  ow := r.ow
  op := by rw [← h.m]; exact r.op
  sl := by rw [r.sl, h.s.len]
  st := fun i a q => by
    rcases h.s.get q with z | z
    · exact .inl z
    · exact r.st i a z
theorem Rep.set {K : PySem.W.Frag} {B : Bs} {e : Env} {σ : L2.St} {G H : Hp} {ad : List Addr} (r : Rep K B e σ G H ad) {i : Nat} {a : A} {v : V} (h : RepV K G ad v a) : Rep K B (e.set i a) (σ.set i (some v)) G H ad where
  bg := r.bg
  gh := r.gh
  fr := r.fr
  kp := r.kp
  nn := r.nn
  al := r.al
  nd := r.nd
  ah := r.ah
  ow := r.ow
  op := r.op
  sl := by
    show (σ.set i (some v)).length = (e.s.set i a).length
    rw [List.length_set, List.length_set, r.sl]
  st := fun j b q => by
    have q : (e.s.set i a)[j]? = some b := q
    by_cases hj : i = j
    · subst hj
      have hl : i < e.s.length := by
        have := (List.getElem?_eq_some_iff.mp q).1
        rwa [List.length_set] at this
      rw [List.getElem?_set_self hl] at q
      cases q
      exact .inr ⟨v, by rw [List.getElem?_set_self (by rw [r.sl]; exact hl)], h⟩
    · rw [List.getElem?_set_ne hj] at q
      rcases r.st j b q with z | ⟨w, z1, z2⟩
      · exact .inl z
      · exact .inr ⟨w, by rw [List.getElem?_set_ne hj]; exact z1, z2⟩
/-- another own thing -/
theorem Rep.addO {K : PySem.W.Frag} {B : Bs} {e : Env} {σ : L2.St} {G H : Hp} {ad : List Addr} (r : Rep K B e σ G H ad) {p : Addr} {o : O} (hp : G p = none) (hb : B.H p = none) (na : p ∉ ad) (ho : ObR K G H (ad ++ [p]) p o) :
    Rep K B (e.addO o) σ G H (ad ++ [p]) where
  bg := r.bg
  gh := r.gh
  fr := r.fr
  kp := r.kp
  nn := r.nn
  al := by
    show (ad ++ [p]).length = (e.m ++ [some o]).length
    rw [List.length_append, List.length_append, r.al]
    rfl
  nd := by
    refine List.nodup_append.mpr ⟨r.nd, (by simp), fun a ha b hb' => ?_⟩
    rw [List.mem_singleton.mp hb']
    rintro rfl
    exact na ha
  ah := fun l h => by
    rcases List.mem_append.mp h with q | q
    · exact r.ah l q
    · obtain ⟨u, hu⟩ := ho.some
      rw [List.mem_singleton.mp q, hu]
      exact fun y => nomatch y
  ow := r.ow.trans (List.prefix_append _ _)
  op := fun k l es h1 h2 => by
    have h2 : (e.m ++ [some o])[k]? = some (some es) := h2
    by_cases hk : k < ad.length
    · rw [List.getElem?_append_left hk] at h1
      rw [List.getElem?_append_left (by rw [← r.al]; exact hk)] at h2
      obtain ⟨x1, x2, x3⟩ := r.op k l es h1 h2
      exact ⟨x1, x2, x3.keep (Same.refl _) (List.prefix_append _ _) fun u h => h⟩
    · have e1 : k = ad.length := by
        have := (List.getElem?_eq_some_iff.mp h1).1
        rw [List.length_append, List.length_singleton] at this
        omega
      subst e1
      rw [List.getElem?_append_right (Nat.le_refl _), Nat.sub_self] at h1
      rw [r.al, List.getElem?_append_right (Nat.le_refl _), Nat.sub_self] at h2
      cases h1
      cases h2
      exact ⟨hp, .inr hb, ho⟩
  sl := r.sl
  st := fun i a q => by
    rcases r.st i a q with z | ⟨v, z1, z2⟩
    · exact .inl z
    · exact .inr ⟨v, z1, z2.pre (List.prefix_append _ _)⟩
theorem Rep.add {K : PySem.W.Frag} {B : Bs} {e : Env} {σ : L2.St} {G H : Hp} {ad : List Addr} (r : Rep K B e σ G H ad) {p : Addr} {vs : List V} {ds : List D} (hp : G p = none) (hb : B.H p = none) (na : p ∉ ad) (hq : H p = some (.lst vs)) (rd : RDs K G vs ds) :
    Rep K B (e.add ds) σ G H (ad ++ [p]) := r.addO (o := .lst ds) hp hb na ⟨vs, hq, rd⟩
/-- a new address stands apart from the own lists -/
theorem Rep.apart {K : PySem.W.Frag} {B : Bs} {e : Env} {σ : L2.St} {G H : Hp} {ad : List Addr} (r : Rep K B e σ G H ad) {p : Addr} (hp : H p = none) : G p = none ∧ B.H p = none := by
  refine ⟨Same.none r.gh hp, ?_⟩
  cases z : B.H p with
  | none => rfl
  | some o => exact absurd hp (r.nn p (by rw [z]; exact fun y => nomatch y))
theorem Rep.fresh {K : PySem.W.Frag} {B : Bs} {e : Env} {σ : L2.St} {G H : Hp} {ad : List Addr} (r : Rep K B e σ G H ad) {p : Addr} (hp : H p = none) : p ∉ ad := fun h => r.ah p h hp
/-- an own thing changed -/
theorem Rep.putO {K : PySem.W.Frag} {B : Bs} {e : Env} {σ : L2.St} {G H : Hp} {ad : List Addr} (r : Rep K B e σ G H ad) {k : Nat} {l : Addr} {o o' : O} {u : HO} (hl : ad[k]? = some l) (hk : e.m[k]? = some (some o)) (ho : ObR K G (upd H l u) ad l o') :
    Rep K B (e.putO k o') σ G (upd H l u) ad := by
  obtain ⟨g0, how, _⟩ := r.op k l o hl hk
  have hkl : k < e.m.length := (List.getElem?_eq_some_iff.mp hk).1
  exact {
    bg := r.bg
    gh := fun b ob q => by
      have nb : b ≠ l := fun z => by
        subst z
        rw [g0] at q
        cases q
      rw [upd_ne nb]
      exact r.gh _ _ q
    fr := r.fr
    kp := fun a ob h n => by
      have nb : a ≠ l := fun z => by
        subst z
        rcases how with q | q
        · exact n q
        · rw [q] at h
          cases h
      rw [upd_ne nb]
      exact r.kp a ob h n
    nn := fun a h => by
      by_cases nb : a = l
      · subst nb
        rw [upd_same]
        exact fun y => nomatch y
      · rw [upd_ne nb]
        exact r.nn a h
    al := by
      show ad.length = (e.m.set k (some o')).length
      rw [List.length_set, r.al]
    nd := r.nd
    ah := fun b h => by
      by_cases nb : b = l
      · subst nb
        rw [upd_same]
        exact fun y => nomatch y
      · rw [upd_ne nb]
        exact r.ah b h
    ow := r.ow
    op := fun j b fs h1 h2 => by
      have h2 : (e.m.set k (some o'))[j]? = some (some fs) := h2
      by_cases hj : k = j
      · subst hj
        rw [List.getElem?_set_self hkl] at h2
        cases h2
        rw [hl] at h1
        cases h1
        exact ⟨g0, how, ho⟩
      · rw [List.getElem?_set_ne hj] at h2
        obtain ⟨x1, x2, x3⟩ := r.op j b fs h1 h2
        have nb : b ≠ l := fun z => by
          subst z
          exact hj (nd_ix r.nd hl h1)
        exact ⟨x1, x2, x3.keep (Same.refl _) (List.prefix_refl _) fun u h => by rw [upd_ne nb]; exact h⟩
    sl := r.sl
    st := r.st }
theorem Rep.put {K : PySem.W.Frag} {B : Bs} {e : Env} {σ : L2.St} {G H : Hp} {ad : List Addr} (r : Rep K B e σ G H ad) {k : Nat} {l : Addr} {o : O} {es : List D} {vs : List V} (hl : ad[k]? = some l) (hk : e.m[k]? = some (some o)) (rd : RDs K G vs es) :
    Rep K B (e.put k es) σ G (upd H l (.lst vs)) ad := r.putO (o' := .lst es) hl hk ⟨vs, upd_same, rd⟩
/-- an own list of the def's is data from now on -/
theorem Rep.frz {K : PySem.W.Frag} {B : Bs} {e : Env} {σ : L2.St} {G H : Hp} {ad : List Addr} (r : Rep K B e σ G H ad) {k : Nat} {l : Addr} {ds : List D} {vs : List V} (hl : ad[k]? = some l) (hk : e.m[k]? = some (some (.lst ds))) (hq : H l = some (.lst vs)) (rd : RDs K G vs ds) (hf : B.H l = none) :
    Rep K B (e.frz k ds) σ (upd G l (.lst vs)) H ad := by
  obtain ⟨g0, how, _⟩ := r.op k l _ hl hk
  have sg : Same G (upd G l (.lst vs)) := same_new g0
  exact {
    bg := r.bg.trans sg
    gh := fun b o q => by
      by_cases nb : b = l
      · subst nb
        rw [upd_same] at q
        rw [hq]
        exact q
      · rw [upd_ne nb] at q
        exact r.gh _ _ q
    fr := fun a h => by
      by_cases nb : a = l
      · subst nb
        exact .inr hf
      · rw [upd_ne nb] at h
        exact r.fr a h
    kp := r.kp
    nn := r.nn
    al := by
      show ad.length = (e.m.set k none).length
      rw [List.length_set, r.al]
    nd := r.nd
    ah := r.ah
    ow := r.ow
    op := fun j b fs h1 h2 => by
      have h2 : (e.m.set k none)[j]? = some (some fs) := h2
      have hj : k ≠ j := fun z => by
        subst z
        rw [List.getElem?_set_self (List.getElem?_eq_some_iff.mp hk).1] at h2
        cases h2
      rw [List.getElem?_set_ne hj] at h2
      obtain ⟨x1, x2, x3⟩ := r.op j b fs h1 h2
      have nb : b ≠ l := fun z => by
        subst z
        exact hj (nd_ix r.nd hl h1)
      exact ⟨by rw [upd_ne nb]; exact x1, x2, x3.keep sg (List.prefix_refl _) fun u h => h⟩
    sl := by
      show σ.length = (e.s.map (frzA k ds)).length
      rw [List.length_map, r.sl]
    st := fun i a q => by
      have q : (e.s.map (frzA k ds))[i]? = some a := q
      rw [List.getElem?_map] at q
      cases z : e.s[i]? with
      | none =>
        rw [z] at q
        cases q
      | some b =>
        rw [z] at q
        have q : frzA k ds b = a := Option.some.inj q
        subst q
        rcases r.st i b z with rfl | ⟨v, z1, z2⟩
        · exact .inl rfl
        · refine .inr ⟨v, z1, ?_⟩
          cases b with
          | no => trivial
          | d x => exact RD.mono sg z2
          | p φ => exact fun G2 e2 => z2 G2 (sg.trans e2)
          | o j =>
            unfold frzA
            by_cases hj : j = k
            · subst hj
              obtain ⟨b, y1, y2⟩ := z2
              rw [hl] at y1
              cases y1
              subst y2
              show RepV K _ ad _ (if j = j then A.d (.lst ds) else A.o j)
              rw [if_pos rfl]
              exact RD.lst upd_same (rd.mono sg)
            · show RepV K _ ad v (if j = k then A.d (.lst ds) else A.o j)
              rw [if_neg hj]
              exact z2 }
end Ab
namespace Ab
open PySem PySem.Spec PyProof.Rows L2
section
variable {K : PySem.W.Frag} {w : Nat} {D : AEnds} {e e' : Env} {te to ti : TE} {g : TG} {t u : TS} {c : TT} {a x : A} {ds : List Ab.D}

/-! ### targets -/
theorem ag_name {Q : Env → Prop} {i : Nat} (h : Q (e.set i a)) : AG K (gName i) a e Q := fun B σ G H ad R v rv C c => c _ _ G H ad h (R.set rv)
/-- targets in a row -/
def AGs (K : PySem.W.Frag) (g : TGs) (ds : List Ab.D) (e : Env) (Q : Env → Prop) : Prop := ∀ (B : Bs) (σ : L2.St) (G H : Hp) (ad : List Addr), Rep K B e σ G H ad → ∀ vs, RDs K G vs ds → ∀ C : L2.St → Hp → Prop,
  (∀ e' σ' G' H' ad', Q e' → Rep K B e' σ' G' H' ad' → C σ' H') → g vs σ H C
theorem ags_nil {Q : Env → Prop} (h : Q e) : AGs K gNil [] e Q := fun B σ G H ad R vs rv C c => by
  cases rv
  exact ⟨rfl, c _ _ G H ad h R⟩
theorem ags_name {Q : Env → Prop} {i : Nat} {d : Ab.D} {ds : List Ab.D} {tr : TGs} (h : AGs K tr ds (e.set i (.d d)) Q) : AGs K (gCons (gName i) tr) (d :: ds) e Q := fun B σ G H ad R vs rv C c => by
  cases rv with
  | cons r1 r2 => exact ⟨_, _, rfl, h B _ G H ad (R.set (a := .d d) r1) _ r2 C c⟩
theorem ag_tup {Q : Env → Prop} {n : Nat} {tr : TGs} {ds : List Ab.D} (h : AGs K tr ds e Q) (hn : ds.length = n := by rfl) : AG K (gTup K n tr) (.d (.tup ds)) e Q := fun B σ G H ad R v rv C c => by
  cases rv with
  | tup h1 r1 => exact ⟨_, _, rfl, seqT R.gh h1, by rw [← hn]; exact r1.length, h B σ G H ad R _ r1 C c⟩
theorem AG.mono {Q Q' : Env → Prop} (h : AG K g a e Q) (m : ∀ e, Q e → Q' e) : AG K g a e Q' := fun B σ G H ad R v rv C c =>
  h B σ G H ad R v rv C fun e' σ' G' H' ad' q => c e' σ' G' H' ad' (m e' q)

/-! ### statements -/
theorem AS.le (h : AS K w t D e') (l : Le e e') : AS K w t D e := fun B hw C co σ G H ad R => h B hw C co σ G H ad (R.le l)
theorem AS.ends {D' : AEnds} (h : AS K w t D e) (h1 : ∀ e, D.nx e → D'.nx e) (h2 : ∀ a e, D.rt a e → D'.rt a e) (h3 : ∀ e, D.bk e → D'.bk e) (h4 : ∀ e, D.ct e → D'.ct e) : AS K w t D' e := fun B hw C co σ G H ad R =>
  h B hw C ⟨fun e σ G H ad q => co.nx e σ G H ad (h1 e q), fun a e v σ G H ad q => co.rt a e v σ G H ad (h2 a e q), fun e σ G H ad q => co.bk e σ G H ad (h3 e q), fun e σ G H ad q => co.ct e σ G H ad (h4 e q)⟩ σ G H ad R
theorem as_seq (h : AS K w t { D with nx := fun e' => AS K w u D e' } e) : AS K w (tSeq t u) D e := fun B hw C co σ G H ad R =>
  h B hw { C with nx := u C } ⟨fun e σ G H ad q R => q B hw C co σ G H ad R, co.rt, co.bk, co.ct⟩ σ G H ad R
theorem as_next (h : D.nx e) : AS K w tNext D e := fun B hw C co σ G H ad R => co.nx e σ G H ad h R
theorem as_break (h : D.bk e) : AS K w tBreak D e := fun B hw C co σ G H ad R => co.bk e σ G H ad h R
theorem as_cont (h : D.ct e) : AS K w tCont D e := fun B hw C co σ G H ad R => co.ct e σ G H ad h R
theorem as_asgG (h : AE K te e a) (hg : AG K g a e D.nx) : AS K w (tAsg te g) D e := fun B hw C co σ G H ad R =>
  h B σ G H ad R _ fun v G1 H1 X1 r1 => hg B σ G1 H1 ad (R.ext X1) v r1 _ fun e' σ' G' H' ad' q R' => co.nx e' σ' G' H' ad' q R'
theorem as_asg {i : Nat} (h : AE K te e a) (k : D.nx (e.set i a)) : AS K w (tAsg te (gName i)) D e := as_asgG h (ag_name k)
theorem as_asgX {i : Nat} (h : AX K te e fun a e' => D.nx (e'.set i a)) : AS K w (tAsg te (gName i)) D e := fun B hw C co σ G H ad R =>
  h B σ G H ad R _ fun a e' v G1 H1 ad' q _ _ R1 r1 => co.nx _ _ G1 H1 ad' q (R1.set r1)
theorem AN.ax {Q : A → Env → Prop} (h : AN K te e ds) (q : Q (.o e.m.length) (e.add ds)) : AX K te e Q := fun B σ G H ad R C c =>
  h B σ G H ad R C fun p vs G1 H1 X1 hp gp hq rd => by
    have R1 := R.ext X1
    have hb : B.H p = none := (R.apart hp).2
    have na : p ∉ ad := R.fresh hp
    refine c _ _ _ G1 H1 (ad ++ [p]) q X1.gg (List.prefix_append _ _) (R1.add gp hb na hq rd) ⟨p, ?_, rfl⟩
    rw [← R.al, List.getElem?_append_right (Nat.le_refl _), Nat.sub_self]
    rfl
/-- x = a new list that will be changed -/
theorem as_asgN {i : Nat} (h : AN K te e ds) (k : D.nx (e.new i ds)) : AS K w (tAsg te (gName i)) D e := as_asgX (h.ax k)
theorem as_ret (h : AE K te e a) (k : D.rt a e) : AS K w (tRet te) D e := fun B hw C co σ G H ad R =>
  h B σ G H ad R _ fun v G1 H1 X1 r1 => co.rt a e v σ G1 H1 ad k (R.ext X1) r1
theorem as_retX (h : AX K te e D.rt) : AS K w (tRet te) D e := fun B hw C co σ G H ad R =>
  h B σ G H ad R _ fun a e' v G1 H1 ad' q _ _ R1 r1 => co.rt a e' v σ G1 H1 ad' q R1 r1
theorem as_retN (k : D.rt (.d .non) e) : AS K w tRetN D e := fun B hw C co σ G H ad R => co.rt _ e .non σ G H ad k R RD.non
theorem as_drop (h : AE K te e a) (k : D.nx e) : AS K w (tDrop te) D e := fun B hw C co σ G H ad R =>
  h B σ G H ad R _ fun v G1 H1 X1 r1 => co.nx e σ G1 H1 ad k (R.ext X1)
theorem as_dropX (h : AX K te e fun _ e' => D.nx e') : AS K w (tDrop te) D e := fun B hw C co σ G H ad R =>
  h B σ G H ad R _ fun a e' v G1 H1 ad' q _ _ R1 r1 => co.nx e' σ G1 H1 ad' q R1
theorem as_if {b : Bool} (h : AT K c e b) (h1 : b = true → AS K w t D e) (h2 : b = false → AS K w u D e) : AS K w (tIfS c t u) D e := fun B hw C co σ G H ad R =>
  h B σ G H ad R _ fun G1 H1 X1 => by
    cases b with
    | true => exact h1 rfl B hw C co σ G1 H1 ad (R.ext X1)
    | false => exact h2 rfl B hw C co σ G1 H1 ad (R.ext X1)
/-- if c: x = e, told by the value that x has behind it -/
theorem as_ifset {b : Bool} {i : Nat} {x y : Ab.D} (h : AT K c e b) (h1 : b = true → AE K te e (.d x)) (hy : e.s[i]? = some (.d y)) (k : D.nx (e.set i (.d (if b = true then x else y)))) : AS K w (tIfS c (tAsg te (gName i)) tNext) D e := by
  refine as_if h (fun hb => as_asg (h1 hb) ?_) (fun hb => as_next ?_)
  · rw [if_pos hb] at k
    exact k
  · rw [if_neg (by rw [hb]; exact Bool.false_ne_true)] at k
    have : e.set i (.d y) = e := by
      show (⟨e.s.set i (.d y), e.m⟩ : Env) = e
      have q : e.s.set i (.d y) = e.s := by
        refine List.ext_getElem? fun j => ?_
        by_cases hj : i = j
        · subst hj
          rw [hy, List.getElem?_set_self (List.getElem?_eq_some_iff.mp hy).1]
        · rw [List.getElem?_set_ne hj]
      rw [q]
    rw [this] at k
    exact k
/-- an own list is data from now on -/
theorem as_frz (k : Nat) (hk : e.m[k]? = some (some (.lst ds))) (hw : w ≤ k) (h : AS K w t D (e.frz k ds)) : AS K w t D e := fun B hB C co σ G H ad R => by
  have hkl : k < ad.length := by
    rw [R.al]
    exact (List.getElem?_eq_some_iff.mp hk).1
  obtain ⟨l, hl⟩ : ∃ l, ad[k]? = some l := ⟨_, List.getElem?_eq_getElem hkl⟩
  obtain ⟨g0, how, vs, hq, rd⟩ := R.op k _ _ hl hk
  have hf : B.H l = none := by
    rcases how with q | q
    · exfalso
      obtain ⟨tl, e1⟩ := R.ow
      obtain ⟨j, hj⟩ := List.mem_iff_getElem?.mp q
      have hjl : j < B.ow.length := (List.getElem?_eq_some_iff.mp hj).1
      have hj2 : ad[j]? = some l := by
        rw [← e1, List.getElem?_append_left hjl]
        exact hj
      have := nd_ix R.nd hj2 hl
      omega
    · exact q
  exact h B hB C co σ _ H ad (R.frz hl hk hq rd hf)
/-- append -/
theorem ax_app {k : Nat} {to te : TE} {ds0 : List Ab.D} {Q : A → Env → Prop} (ho : AE K to e (.o k)) (hk : e.m[k]? = some (some (.lst ds0)))
    (h : AX K te e fun a e' => ∃ x ds, a = .d x ∧ e'.m[k]? = some (some (.lst ds)) ∧ ds.length < 1000000 ∧ Q (.d .non) (e'.put k (ds ++ [x]))) : AX K (tBM K "list" rAppend to (tCons te tNil)) e Q := fun B σ G H ad R C c =>
  ho B σ G H ad R _ fun v G1 H1 X1 r1 => by
    obtain ⟨l, hl, rfl⟩ := r1
    have R1 := R.ext X1
    obtain ⟨_, _, vs0, h0, _⟩ := R1.op k l _ hl hk
    refine ⟨Or.inl ⟨rfl, vs0, Or.inl (Or.inl h0)⟩, ?_⟩
    refine h B σ G1 H1 ad R1 _ fun a e' v' G2 H2 ad' q gg pre R2 r2 => ?_
    obtain ⟨x, ds, rfl, hk2, hz, q⟩ := q
    have hl2 : ad'[k]? = some l := by
      obtain ⟨tl, rfl⟩ := pre
      rw [List.getElem?_append_left (List.getElem?_eq_some_iff.mp hl).1]
      exact hl
    obtain ⟨_, _, vs, h2, rd⟩ := R2.op k l _ hl2 hk2
    refine ⟨l, vs, v', rfl, rfl, h2, sz_lt (by rw [rd.length]; exact hz), ?_⟩
    exact c _ _ _ G2 _ ad' q (X1.gg.trans gg) pre (R2.put hl2 hk2 (rd.append (.cons r2 .nil))) RD.non
theorem as_app {k : Nat} {to te : TE} {ds : List Ab.D} {x : Ab.D} (ho : AE K to e (.o k)) (h : AE K te e (.d x)) (hk : e.m[k]? = some (some (.lst ds))) (hz : ds.length < 1000000) (q : D.nx (e.put k (ds ++ [x]))) :
    AS K w (tDrop (tBM K "list" rAppend to (tCons te tNil))) D e := as_dropX (ax_app ho hk (h.ax ⟨x, ds, rfl, hk, hz, q⟩))
theorem as_appX {k : Nat} {to te : TE} {ds0 : List Ab.D} (ho : AE K to e (.o k)) (hk : e.m[k]? = some (some (.lst ds0)))
    (h : AX K te e fun a e' => ∃ x ds, a = .d x ∧ e'.m[k]? = some (some (.lst ds)) ∧ ds.length < 1000000 ∧ D.nx (e'.put k (ds ++ [x]))) :
    AS K w (tDrop (tBM K "list" rAppend to (tCons te tNil))) D e := as_dropX (ax_app ho hk h)
/-- pop -/
theorem ax_pop {k : Nat} {to : TE} {ds : List Ab.D} {x : Ab.D} {Q : A → Env → Prop} (ho : AE K to e (.o k)) (hk : e.m[k]? = some (some (.lst ds))) (hx : ds[ds.length - 1]? = some x) (q : Q (.d x) (e.put k ds.dropLast)) : AX K (tBM0 K "list" rPop to) e Q := fun B σ G H ad R C c =>
  ho B σ G H ad R _ fun v G1 H1 X1 r1 => by
    obtain ⟨l, hl, rfl⟩ := r1
    have R1 := R.ext X1
    obtain ⟨_, _, vs, h0, rd⟩ := R1.op k l _ hl hk
    obtain ⟨v, hv, rv⟩ := rd.get hx
    refine ⟨Or.inl ⟨rfl, vs, Or.inl (Or.inl h0)⟩, l, vs, v, rfl, rfl, h0, by rw [rd.length]; exact hv, ?_⟩
    exact c _ _ _ G1 _ ad q X1.gg (List.prefix_refl _) (R1.put hl hk rd.dropLast) rv
/-- xs[i] = e -/
theorem as_setI {k j : Nat} {i : Int} {ds : List Ab.D} {x : Ab.D} (h : AE K te e (.d x)) (ho : AE K to e (.o k)) (hi : AE K ti e (.d (.int i))) (hk : e.m[k]? = some (some (.lst ds))) (hj : ixN ds.length i = some j) (q : D.nx (e.put k (ds.set j x))) :
    AS K w (tAsg te (gSub to ti rSetL)) D e := fun B hw C co σ G H ad R =>
  h B σ G H ad R _ fun v G1 H1 X1 r1 => ho B σ G1 H1 ad (R.ext X1) _ fun v2 G2 H2 X2 r2 => hi B σ G2 H2 ad ((R.ext X1).ext X2) _ fun v3 G3 H3 X3 r3 => by
    obtain ⟨l, hl, rfl⟩ := r2
    cases r3
    have R3 := ((R.ext X1).ext X2).ext X3
    obtain ⟨_, _, vs, h0, rd⟩ := R3.op k l _ hl hk
    refine ⟨l, vs, i, j, rfl, rfl, h0, by rw [rd.length]; exact hj, ?_⟩
    exact co.nx _ σ G3 _ ad q (R3.put hl hk (rd.set (RD.mono (X2.trans X3).gg r1) j))

/-! ### while -/
theorem as_while (I : Nat → Env → Prop) (h0 : ∃ m, I m e)
    (hs : ∀ m e', I m e' → ∃ b, AT K c e' b ∧ (b = true → AS K w t { D with nx := fun e2 => ∃ m', m' < m ∧ I m' e2, ct := fun e2 => ∃ m', m' < m ∧ I m' e2, bk := D.nx } e') ∧ (b = false → D.nx e')) : AS K w (tWhile c t) D e := fun B hw C co σ G H ad R => by
  refine ⟨fun m σ H => ∃ e' G ad, I m e' ∧ Rep K B e' σ G H ad, ?_, ?_⟩
  · obtain ⟨m, h⟩ := h0
    exact ⟨m, e, G, ad, h, R⟩
  · rintro m σ H ⟨e', G, ad, hi, R⟩
    obtain ⟨b, h1, h2, h3⟩ := hs m e' hi
    refine h1 B σ G H ad R _ fun G1 H1 X1 => ?_
    have R1 := R.ext X1
    cases b with
    | true =>
      refine ⟨fun σ H => ∃ m', m' < m ∧ ∃ e' G ad, I m' e' ∧ Rep K B e' σ G H ad, fun σ' H' h => h, ?_⟩
      refine h2 rfl B hw { C with nx := fun σ H => ∃ m', m' < m ∧ ∃ e' G ad, I m' e' ∧ Rep K B e' σ G H ad, ct := fun σ H => ∃ m', m' < m ∧ ∃ e' G ad, I m' e' ∧ Rep K B e' σ G H ad, bk := C.nx } ⟨?_, co.rt, co.nx, ?_⟩ σ G1 H1 ad R1
      · rintro e2 σ2 G2 H2 ad2 ⟨m', hm, hI⟩ R2
        exact ⟨m', hm, e2, G2, ad2, hI, R2⟩
      · rintro e2 σ2 G2 H2 ad2 ⟨m', hm, hI⟩ R2
        exact ⟨m', hm, e2, G2, ad2, hI, R2⟩
    | false => exact co.nx _ σ G1 H1 ad (h3 rfl) R1
/-- a while by its turns: n of them, E i the slots ahead of turn i -/
theorem as_whileE (n : Nat) (E : Nat → Env) (h0 : Le e (E 0)) (hc : ∀ i, i ≤ n → AT K c (E i) (decide (i < n)))
    (hs : ∀ i, i < n → AS K w t { D with nx := fun e2 => Le e2 (E (i + 1)), ct := fun e2 => Le e2 (E (i + 1)), bk := D.nx } (E i)) (hd : ∀ e', Le e' (E n) → D.nx e') : AS K w (tWhile c t) D e := by
  refine as_while (fun m e' => ∃ i, i + m = n ∧ Le e' (E i)) ⟨n, 0, by omega, h0⟩ ?_
  rintro m e' ⟨i, hi, l⟩
  refine ⟨decide (i < n), fun B σ G H ad R => hc i (by omega) B σ G H ad (R.le l), fun hb => ?_, fun hb => ?_⟩
  · have hlt := of_decide_eq_true hb
    refine AS.le (AS.ends (hs i hlt) (fun e2 q => ⟨m - 1, by omega, i + 1, by omega, q⟩) (fun _ _ q => q) (fun _ q => q) (fun e2 q => ⟨m - 1, by omega, i + 1, by omega, q⟩)) l
  · have hlt : ¬ i < n := of_decide_eq_false hb
    have : i = n := by omega
    subst this
    exact hd e' l

/-! ### what is walked -/
structure Walk (K : PySem.W.Frag) (G0 : Hp) (J : It) (n : Nat) (f : Nat → Ab.D) : Prop where
  stop : ∀ i G H, Same G0 G → Same G H → n ≤ i → J.stop i H
  go : ∀ i G H, Same G0 G → Same G H → i < n → J.go i H
  yld : ∀ i G H v H', Same G0 G → Same G H → i < n → J.yld i H v H' → ∃ G', Xt G H G' H' ∧ RD K G' v (f i)
def AI (K : PySem.W.Frag) (wi : TI) (e : Env) (n : Nat) (f : Nat → Ab.D) : Prop := ∀ (B : Bs) (σ : L2.St) (G H : Hp) (ad : List Addr), Rep K B e σ G H ad → ∀ C : It → Hp → Prop, (∀ J G' H', Xt G H G' H' → Walk K G' J n f → C J H') → wi σ H C
theorem ai_list {tl : TE} {xs : List Ab.D} {n : Nat} {f : Nat → Ab.D} (h : AE K tl e (.d (.lst xs))) (hn : xs.length = n) (hf : ∀ i, i < n → xs[i]? = some (f i)) : AI K (iList K tl) e n f := fun B σ G H ad R C c =>
  h B σ G H ad R _ fun v G1 H1 X1 r1 => by
    cases r1 with
    | lst hq rd =>
      rename_i p vs
      refine ⟨_, rfl, ⟨vs, .inl (.inl (X1.gh _ _ hq))⟩, c _ G1 H1 X1 ⟨?_, ?_, ?_⟩⟩
      · intro i G H s1 s2 hi
        exact ⟨vs, .inl (.inl (s2 _ _ (s1 _ _ hq))), by rw [rd.length, hn]; exact hi⟩
      · intro i G H s1 s2 hi
        obtain ⟨v, hv, _⟩ := rd.get (hf i hi)
        exact ⟨vs, v, .inl (.inl (s2 _ _ (s1 _ _ hq))), hv⟩
      · rintro i G H v H' s1 s2 hi ⟨rfl, y⟩
        obtain ⟨v', hv, rv⟩ := rd.get (hf i hi)
        have := y vs (.inl (.inl (s2 _ _ (s1 _ _ hq))))
        rw [hv] at this
        cases this
        exact ⟨G, Xt.refl s2, rv.mono s1⟩
theorem ai_rng1 {ta : TA} {n : Int} (h : AL K ta e [.d (.int n)]) (hn : n < 2 ^ 62) (h0 : -(2 ^ 62) ≤ n) : AI K (iRng1 ta) e n.toNat (fun i => .int (i : Nat)) := fun B σ G H ad R C c =>
  h B σ G H ad R _ fun vs G1 H1 X1 r1 => by
    obtain ⟨v, rfl, rv⟩ : ∃ v, vs = [v] ∧ RepV K G1 ad v (.d (.int n)) := by
      cases r1 with
      | cons q r => cases r; exact ⟨_, rfl, q⟩
    cases rv
    refine ⟨n, rfl, h0, hn, c _ G1 H1 X1 ⟨fun i G H _ _ hi => hi, fun i G H _ _ hi => hi, ?_⟩⟩
    rintro i G H v H' s1 s2 hi ⟨rfl, rfl⟩
    refine ⟨G, Xt.refl s2, ?_⟩
    rw [Int.zero_add]
    exact RD.int
theorem ai_rng2 {ta : TA} {l n : Int} (h : AL K ta e [.d (.int l), .d (.int n)]) (hl0 : -(2 ^ 62) ≤ l) (hl : l < 2 ^ 62) (h0 : -(2 ^ 62) ≤ n) (hn : n < 2 ^ 62) : AI K (iRng2 ta) e (n - l).toNat (fun i => .int (l + (i : Nat))) := fun B σ G H ad R C c =>
  h B σ G H ad R _ fun vs G1 H1 X1 r1 => by
    obtain ⟨v, u, rfl, rv, ru⟩ : ∃ v u, vs = [v, u] ∧ RepV K G1 ad v (.d (.int l)) ∧ RepV K G1 ad u (.d (.int n)) := by
      cases r1 with
      | cons q r =>
        cases r with
        | cons q2 r => cases r; exact ⟨_, _, rfl, q, q2⟩
    cases rv
    cases ru
    refine ⟨l, n, rfl, ⟨hl0, hl, h0, hn⟩, c _ G1 H1 X1 ⟨fun i G H _ _ hi => hi, fun i G H _ _ hi => hi, ?_⟩⟩
    rintro i G H v H' s1 s2 hi ⟨rfl, rfl⟩
    exact ⟨G, Xt.refl s2, RD.int⟩
theorem ai_str {s : List Nat} {n : Nat} {f : Nat → Nat} (h : AE K te e (.d (.str s))) (hn : s.length = n) (hf : ∀ i, i < n → s[i]? = some (f i)) : AI K (iStr te) e n (fun i => .str [f i]) := fun B σ G H ad R C c =>
  h B σ G H ad R _ fun v G1 H1 X1 r1 => by
    cases r1
    refine ⟨sOf s, rfl, c _ G1 H1 X1 ⟨fun i G H _ _ hi => ?_, fun i G H _ _ hi => ?_, ?_⟩⟩
    · show s.toArray.size ≤ i
      rw [List.size_toArray]
      omega
    · show i < s.toArray.size
      rw [List.size_toArray]
      omega
    · rintro i G H v H' s1 s2 hi ⟨rfl, ch, hc, rfl⟩
      have : s.toArray[i]? = some ch := hc
      rw [List.getElem?_toArray, hf i hi] at this
      cases this
      exact ⟨G, Xt.refl s2, RD.str (s := [f i])⟩
theorem ai_zip {ta : TA} {xs ys : List Ab.D} {n : Nat} {f g : Nat → Ab.D} (h : AL K ta e [.d (.lst xs), .d (.lst ys)]) (hx : xs.length = n) (hy : ys.length = n) (hf : ∀ i, i < n → xs[i]? = some (f i)) (hg : ∀ i, i < n → ys[i]? = some (g i)) :
    AI K (iZip K ta) e n (fun i => .tup [f i, g i]) := fun B σ G H ad R C c =>
  h B σ G H ad R _ fun vs G1 H1 X1 r1 => by
    obtain ⟨v, u, rfl, rv, ru⟩ : ∃ v u, vs = [v, u] ∧ RepV K G1 ad v (.d (.lst xs)) ∧ RepV K G1 ad u (.d (.lst ys)) := by
      cases r1 with
      | cons q r =>
        cases r with
        | cons q2 r => cases r; exact ⟨_, _, rfl, q, q2⟩
    cases rv with
    | lst hq rd =>
      cases ru with
      | lst hq2 rd2 =>
        rename_i p us p2 ws
        refine ⟨_, _, us, ws, rfl, .inl (.inl (X1.gh _ _ hq)), .inl (.inl (X1.gh _ _ hq2)), c _ G1 H1 X1 ⟨?_, ?_, ?_⟩⟩
        · intro i G H s1 s2 hi
          exact ⟨us, ws, .inl (.inl (s2 _ _ (s1 _ _ hq))), .inl (.inl (s2 _ _ (s1 _ _ hq2))), .inl (by rw [rd.length, hx]; exact hi)⟩
        · intro i G H s1 s2 hi
          obtain ⟨v, hv, _⟩ := rd.get (hf i hi)
          obtain ⟨v2, hv2, _⟩ := rd2.get (hg i hi)
          exact ⟨us, ws, v, v2, .inl (.inl (s2 _ _ (s1 _ _ hq))), .inl (.inl (s2 _ _ (s1 _ _ hq2))), hv, hv2⟩
        · rintro i G H v H' s1 s2 hi ⟨T, x, y, rfl, hT, rfl, k1, k2⟩
          obtain ⟨v', hv, rv⟩ := rd.get (hf i hi)
          obtain ⟨v2, hv2, rv2⟩ := rd2.get (hg i hi)
          have e1 := k1 us (.inl (.inl (s2 _ _ (s1 _ _ hq))))
          have e2 := k2 ws (.inl (.inl (s2 _ _ (s1 _ _ hq2))))
          rw [hv] at e1
          rw [hv2] at e2
          obtain rfl : v' = x := Option.some.inj e1
          obtain rfl : v2 = y := Option.some.inj e2
          have X := Xt.new (o := .tup [v', v2]) s2 hT
          exact ⟨_, X, RD.tup (.inl (.inl upd_same)) (.cons (rv.mono (s1.trans X.gg)) (.cons (rv2.mono (s1.trans X.gg)) .nil))⟩
theorem ai_enum {ta : TA} {xs : List Ab.D} {n : Nat} {f : Nat → Ab.D} (h : AL K ta e [.d (.lst xs)]) (hx : xs.length = n) (hf : ∀ i, i < n → xs[i]? = some (f i)) :
    AI K (iEnum K ta) e n (fun i => .tup [.int (i : Nat), f i]) := fun B σ G H ad R C c =>
  h B σ G H ad R _ fun vs G1 H1 X1 r1 => by
    obtain ⟨v, rfl, rv⟩ : ∃ v, vs = [v] ∧ RepV K G1 ad v (.d (.lst xs)) := by
      cases r1 with
      | cons q r => cases r; exact ⟨_, rfl, q⟩
    cases rv with
    | lst hq rd =>
        rename_i p us
        refine ⟨_, us, rfl, .inl (.inl (X1.gh _ _ hq)), c _ G1 H1 X1 ⟨?_, ?_, ?_⟩⟩
        · intro i G H s1 s2 hi
          exact ⟨us, .inl (.inl (s2 _ _ (s1 _ _ hq))), by rw [rd.length, hx]; exact hi⟩
        · intro i G H s1 s2 hi
          obtain ⟨v, hv, _⟩ := rd.get (hf i hi)
          exact ⟨us, v, .inl (.inl (s2 _ _ (s1 _ _ hq))), hv⟩
        · rintro i G H v H' s1 s2 hi ⟨T, x, rfl, hT, rfl, k1⟩
          obtain ⟨v', hv, rv⟩ := rd.get (hf i hi)
          have e1 := k1 us (.inl (.inl (s2 _ _ (s1 _ _ hq))))
          rw [hv] at e1
          obtain rfl : v' = x := Option.some.inj e1
          have X := Xt.new (o := .tup [.int (i : Nat), v']) s2 hT
          exact ⟨_, X, RD.tup (.inl (.inl upd_same)) (.cons RD.int (.cons (rv.mono (s1.trans X.gg)) .nil))⟩

/-! ### for -/
/-- the data so far as the base -/
theorem Rep.rebase {B : Bs} {σ : L2.St} {G H : Hp} {ad : List Addr} (R : Rep K B e σ G H ad) : Rep K { B with G := G } e σ G H ad :=
  { R with bg := Same.refl _, fr := fun a h => .inl h }
theorem Rep.unbase {B : Bs} {e' : Env} {σ σ' : L2.St} {G H G' H' : Hp} {ad ad' : List Addr} (R : Rep K B e σ G H ad) (R' : Rep K { B with G := G } e' σ' G' H' ad') : Rep K B e' σ' G' H' ad' :=
  { R' with bg := R.bg.trans R'.bg, fr := fun a h => by
              rcases R'.fr a h with q | q
              · exact R.fr a q
              · exact .inr q }
theorem as_for {wi : TI} {n : Nat} {f : Nat → Ab.D} (I : Nat → Env → Prop) (h : AI K wi e n f) (h0 : I 0 e)
    (hs : ∀ i e', i < n → I i e' → AG K g (.d (f i)) e' fun e2 => AS K w t { D with nx := I (i + 1), ct := I (i + 1), bk := D.nx } e2) (hd : ∀ e', I n e' → D.nx e') : AS K w (tFor wi g t) D e := fun B hw C co σ G H ad R =>
  h B σ G H ad R _ fun J G1 H1 X1 W => by
    have R1 := R.ext X1
    have lift : ∀ e' σ' G' H' ad', I n e' → Rep K { B with G := G1 } e' σ' G' H' ad' → C.nx σ' H' := fun e' σ' G' H' ad' q R' => co.nx e' σ' G' H' ad' (hd e' q) (R1.unbase R')
    refine ⟨fun i m σ H => i + m = n ∧ ∃ e' G ad, I i e' ∧ Rep K { B with G := G1 } e' σ G H ad, ⟨n, by omega, e, G1, ad, h0, R1.rebase⟩, ?_⟩
    rintro i m σ H ⟨hm, e', G, ad, hi, R2⟩
    by_cases hlt : i < n
    · refine .inr ⟨W.go i G H R2.bg R2.gh hlt, fun σ H => ∃ e' G ad, I (i + 1) e' ∧ Rep K { B with G := G1 } e' σ G H ad, fun σ' H' q => ⟨m - 1, by omega, by omega, q⟩, fun x H' y => ?_⟩
      obtain ⟨G3, X3, rd⟩ := W.yld i G H x H' R2.bg R2.gh hlt y
      refine hs i e' hlt hi { B with G := G1 } σ G3 H' ad (R2.ext X3) x rd _ fun e4 σ4 G4 H4 ad4 q R4 => ?_
      refine q { B with G := G1 } hw { C with nx := fun σ H => ∃ e' G ad, I (i + 1) e' ∧ Rep K { B with G := G1 } e' σ G H ad, ct := fun σ H => ∃ e' G ad, I (i + 1) e' ∧ Rep K { B with G := G1 } e' σ G H ad, bk := C.nx } ⟨fun e5 σ5 G5 H5 ad5 q5 R5 => ⟨e5, G5, ad5, q5, R5⟩, fun a e5 v σ5 G5 H5 ad5 q5 R5 rv => co.rt a e5 v σ5 G5 H5 ad5 q5 (R1.unbase R5) rv, fun e5 σ5 G5 H5 ad5 q5 R5 => co.nx e5 σ5 G5 H5 ad5 q5 (R1.unbase R5), fun e5 σ5 G5 H5 ad5 q5 R5 => ⟨e5, G5, ad5, q5, R5⟩⟩ σ4 G4 H4 ad4 R4
    · have : i = n := by omega
      subst this
      exact .inl ⟨W.stop i G H R2.bg R2.gh (Nat.le_refl _), lift e' σ G H ad hi R2⟩
theorem AG.le (l : Le e e') {Q : Env → Prop} (h : AG K g a e' Q) : AG K g a e Q := fun B σ G H ad R v rv C c => h B σ G H ad (R.le l) v rv C c
/-- by its turns: E i the slots ahead of turn i -/
theorem as_forE {wi : TI} {n : Nat} {f : Nat → Ab.D} (E : Nat → Env) (h : AI K wi e n f) (h0 : Le e (E 0))
    (hs : ∀ i, i < n → AG K g (.d (f i)) (E i) fun e2 => AS K w t { D with nx := fun e' => Le e' (E (i + 1)), ct := fun e' => Le e' (E (i + 1)), bk := D.nx } e2) (hd : ∀ e', Le e' (E n) → D.nx e') : AS K w (tFor wi g t) D e :=
  as_for (fun i e' => Le e' (E i)) h h0 (fun i e' hi l => (hs i hi).le l) hd
/-- the same, what follows being a block -/
theorem as_forE_seq {wi : TI} {n : Nat} {f : Nat → Ab.D} (E : Nat → Env) (h : AI K wi e n f) (h0 : Le e (E 0))
    (hs : ∀ i, i < n → AG K g (.d (f i)) (E i) fun e2 => AS K w t { D with nx := fun e' => Le e' (E (i + 1)), ct := fun e' => Le e' (E (i + 1)), bk := fun e' => AS K w u D e' } e2) (hd : AS K w u D (E n)) : AS K w (tSeq (tFor wi g t) u) D e :=
  as_seq (as_forE E h h0 hs fun e' l => AS.le hd l)
theorem as_whileE_seq (n : Nat) (E : Nat → Env) (h0 : Le e (E 0)) (hc : ∀ i, i ≤ n → AT K c (E i) (decide (i < n)))
    (hs : ∀ i, i < n → AS K w t { D with nx := fun e2 => Le e2 (E (i + 1)), ct := fun e2 => Le e2 (E (i + 1)), bk := fun e' => AS K w u D e' } (E i)) (hd : AS K w u D (E n)) : AS K w (tSeq (tWhile c t) u) D e :=
  as_seq (as_whileE n E h0 hc hs fun e' l => AS.le hd l)
end
end Ab
namespace Ab
open PySem PySem.Spec PyProof.Rows L2
/-! ### texts as lists of signs -/
theorem sOf_len (s : List Nat) : (sOf s).length = s.length := List.size_toArray
theorem sOf_app (s t : List Nat) : sOf s ++ sOf t = sOf (s ++ t) := by
  show (⟨s.toArray ++ t.toArray⟩ : Str) = ⟨(s ++ t).toArray⟩
  rw [List.append_toArray]
theorem sOf_inj {s t : List Nat} (h : sOf s = sOf t) : s = t := by
  have := congrArg (fun z : Str => z.cps.toList) h
  simpa using this
theorem sOf_eq {z : Str} : sOf z.cps.toList = z := rfl
/-- the first place of a sign -/
def pos (c : Nat) : List Nat → Option Nat
  | [] => none
  | a :: r => if a = c then some 0 else (pos c r).map (· + 1)
theorem pos_none {c : Nat} : ∀ {s : List Nat}, pos c s = none → c ∉ s
  | [], _ => by simp
  | a :: r, h => by
    unfold pos at h
    by_cases e : a = c
    · rw [if_pos e] at h
      cases h
    · rw [if_neg e] at h
      cases q : pos c r with
      | some i =>
        rw [q] at h
        cases h
      | none =>
        intro m
        rcases List.mem_cons.mp m with z | z
        · exact e z.symm
        · exact pos_none q z
theorem pos_some {c : Nat} : ∀ {s : List Nat} {i : Nat}, pos c s = some i → s[i]? = some c ∧ ∀ k, k < i → s[k]? ≠ some c
  | [], _, h => by cases h
  | a :: r, i, h => by
    unfold pos at h
    by_cases e : a = c
    · rw [if_pos e] at h
      cases h
      exact ⟨by rw [e]; rfl, fun k hk => absurd hk (Nat.not_lt_zero _)⟩
    · rw [if_neg e] at h
      cases q : pos c r with
      | none =>
        rw [q] at h
        cases h
      | some j =>
        rw [q] at h
        cases h
        obtain ⟨h1, h2⟩ := pos_some q
        refine ⟨by simpa using h1, fun k hk => ?_⟩
        cases k with
        | zero =>
          show some a ≠ some c
          exact fun z => e (Option.some.inj z)
        | succ k =>
          have hk : k + 1 < j + 1 := hk
          have := h2 k (by omega)
          simpa using this
theorem pos_lt {c : Nat} {s : List Nat} {i : Nat} (h : pos c s = some i) : i < s.length := (List.getElem?_eq_some_iff.mp (pos_some h).1).1
theorem pos_uniq {c : Nat} {s : List Nat} {i : Nat} (h1 : s[i]? = some c) (h2 : ∀ k, k < i → s[k]? ≠ some c) : pos c s = some i := by
  cases q : pos c s with
  | none => exact absurd (List.mem_of_getElem? h1) (pos_none q)
  | some j =>
    obtain ⟨g1, g2⟩ := pos_some q
    rcases Nat.lt_trichotomy i j with h | h | h
    · exact absurd h1 (g2 i h)
    · rw [h]
    · exact absurd g1 (h2 j h)
theorem pos_mem {c : Nat} {s : List Nat} (h : c ∈ s) : ∃ i, pos c s = some i := by
  cases q : pos c s with
  | none => exact absurd h (pos_none q)
  | some i => exact ⟨i, rfl⟩
theorem at_sign {s : List Nat} {c i : Nat} : PySem.StrLaws.At (sOf s) (sOf [c]) (sOf s).length i ↔ s[i]? = some c := by
  have e : ((sOf s).cps.toList.drop i).take 1 = [c] ↔ s[i]? = some c := by
    show (s.drop i).take 1 = [c] ↔ s[i]? = some c
    constructor
    · intro h
      have h0 : ((s.drop i).take 1)[0]? = some c := by rw [h]; rfl
      rw [List.getElem?_take_of_lt (by omega), List.getElem?_drop, Nat.add_zero] at h0
      exact h0
    · intro h
      obtain ⟨hl, he⟩ := List.getElem?_eq_some_iff.mp h
      rw [List.drop_eq_getElem_cons hl, he]
      rfl
  constructor
  · intro h
    have h2 := h.2
    rw [PySem.StrLaws.subAt_eq] at h2
    exact e.mp (eq_of_beq h2)
  · intro h
    refine ⟨?_, ?_⟩
    · have := (List.getElem?_eq_some_iff.mp h).1
      rw [sOf_len, sOf_len]
      exact this
    · rw [PySem.StrLaws.subAt_eq]
      exact beq_iff_eq.mpr (e.mpr h)
theorem occ_sign (s : List Nat) (c : Nat) : (pos c s = none ∧ Builtin.Str.occurrences (sOf s) (sOf [c]) 0 (sOf s).length 1 = []) ∨ ∃ i r, pos c s = some i ∧ Builtin.Str.occurrences (sOf s) (sOf [c]) 0 (sOf s).length 1 = i :: r := by
  rcases PySem.StrLaws.occ_head (sOf s) (sOf [c]) 1 (Nat.le_refl _) with ⟨h0, hn⟩ | ⟨i, r, h0, ha, hn⟩
  · refine .inl ⟨?_, h0⟩
    cases q : pos c s with
    | none => rfl
    | some j => exact absurd (at_sign.mpr (pos_some q).1) (hn j)
  · exact .inr ⟨i, r, pos_uniq (at_sign.mp ha) fun k hk z => hn k hk (at_sign.mpr z), h0⟩
theorem find_sign (s : List Nat) (c : Nat) : Txt.find (sOf s) (sOf [c]) = match pos c s with | some i => (i : Int) | none => -1 := by
  unfold Txt.find
  rcases occ_sign s c with ⟨h1, h2⟩ | ⟨i, r, h1, h2⟩
  · rw [h1, h2]
  · rw [h1, h2]
theorem tl_join' (y : List Nat) (xs : List (List Nat)) : Txt.join (sOf y) (xs.map sOf) = sOf (TL.joinL y xs) := by
  have h : ∀ l : List (List Nat), (l.map sOf).map TL.tl = l := fun l => by
    rw [List.map_map]
    have : (TL.tl ∘ sOf) = id := rfl
    rw [this, List.map_id]
  have e := TL.tl_join (sOf y) (xs.map sOf)
  rw [h] at e
  show Builtin.Str.glued (sOf y) (xs.map sOf) = _
  rw [PySem.StrLaws.glued_eq_join]
  exact TL.ext_tl e
theorem joinL_nil : ∀ xs : List (List Nat), TL.joinL [] xs = xs.flatten
  | [] => rfl
  | [x] => by simp [TL.joinL]
  | x :: y :: r => by
    show x ++ ([] ++ TL.joinL [] (y :: r)) = _
    rw [joinL_nil (y :: r), List.nil_append]
    simp only [List.flatten_cons]

/-! ### what reads as a list, a tuple, a text -/
section
variable {K : PySem.W.Frag} {G H : Hp} {v : V}
theorem RD.strs : ∀ {vs : List V} {xs : List (List Nat)}, RDs K G vs (xs.map .str) → vs = xs.map fun x => V.str (sOf x)
  | _, [], .nil => rfl
  | _, x :: r, .cons a b => by
    cases a
    rw [RD.strs b]
    rfl
theorem RD.ints : ∀ {vs : List V} {xs : List Int}, RDs K G vs (xs.map .int) → vs = xs.map V.int
  | _, [], .nil => rfl
  | _, x :: r, .cons a b => by
    cases a
    rw [RD.ints b]
    rfl
theorem RDs.ofInts : ∀ (xs : List Int), RDs K G (xs.map V.int) (xs.map .int)
  | [] => .nil
  | _ :: r => .cons .int (RDs.ofInts r)
theorem RDs.ofStrs : ∀ (xs : List (List Nat)), RDs K G (xs.map fun x => V.str (sOf x)) (xs.map .str)
  | [] => .nil
  | _ :: r => .cons .str (RDs.ofStrs r)
end

section
variable {K : PySem.W.Frag} {e : Env} {ta tb te : TE} {x y z a b : A} {r : R2}
/-! ### numbers -/
theorem a2_I0 {g : Int → Int → V} {i j k : Int} (h : g i j = .int k := by rfl) : A2 K (rI0 g) (.d (.int i)) (.d (.int j)) e (.d (.int k)) := fun B σ G H ad R v w rv rw C c => by
  cases rv
  cases rw
  exact ⟨i, j, rfl, rfl, by rw [h]; exact c _ G H (Xt.refl R.gh) RD.int⟩
theorem a2_I0b {g : Int → Int → V} {i j : Int} {k : Bool} (h : g i j = .bl k := by rfl) : A2 K (rI0 g) (.d (.int i)) (.d (.int j)) e (.d (.bl k)) := fun B σ G H ad R v w rv rw C c => by
  cases rv
  cases rw
  exact ⟨i, j, rfl, rfl, by rw [h]; exact c _ G H (Xt.refl R.gh) RD.bl⟩
theorem a2_I {P : Int → Int → Prop} {g : Int → Int → V} {i j k : Int} (hc : P i j) (h : g i j = .int k := by rfl) : A2 K (rI P g) (.d (.int i)) (.d (.int j)) e (.d (.int k)) := fun B σ G H ad R v w rv rw C c => by
  cases rv
  cases rw
  exact ⟨i, j, rfl, rfl, hc, by rw [h]; exact c _ G H (Xt.refl R.gh) RD.int⟩
theorem a1_neg {i : Int} : A1 K (rU fun i => .int (-i)) (.d (.int i)) e (.d (.int (-i))) := fun B σ G H ad R v rv C c => by
  cases rv
  exact ⟨i, rfl, c _ G H (Xt.refl R.gh) RD.int⟩

/-! ### == of flat things, is None -/
def vOf : D → V
  | .non => .non
  | .bl b => .bl b
  | .int i => .int i
  | .str s => .str (sOf s)
  | _ => .ty ""
theorem RD.vOf {G : Hp} {v : V} {d : D} (h : RD K G v d) (hf : scal (vOf d) (vOf d) = true ∨ d = .non) : v = vOf d := by
  cases h with
  | lst _ _ => rcases hf with h | h <;> cases h
  | tup _ _ => rcases hf with h | h <;> cases h
  | non => rfl
  | bl => rfl
  | int => rfl
  | str => rfl
def flat : D → Bool
  | .lst _ => false
  | .tup _ => false
  | _ => true
theorem RD.flat {G : Hp} {v : V} {d : D} (h : RD K G v d) (hf : flat d = true) : v = Ab.vOf d := by
  cases h with
  | lst _ _ => cases hf
  | tup _ _ => cases hf
  | non => rfl
  | bl => rfl
  | int => rfl
  | str => rfl
theorem a2_eq {p q : D} (hs : scal (vOf p) (vOf q) = true := by rfl) (hp : flat p = true := by rfl) (hq : flat q = true := by rfl) : A2 K rEq (.d p) (.d q) e (.d (.bl (decide (vOf p = vOf q)))) := fun B σ G H ad R v w rv rw C c => by
  rw [RD.flat rv hp, RD.flat rw hq]
  exact ⟨hs, c _ G H (Xt.refl R.gh) RD.bl⟩
theorem a2_ne {p q : D} (hs : scal (vOf p) (vOf q) = true := by rfl) (hp : flat p = true := by rfl) (hq : flat q = true := by rfl) : A2 K rNe (.d p) (.d q) e (.d (.bl (!decide (vOf p = vOf q)))) := fun B σ G H ad R v w rv rw C c => by
  rw [RD.flat rv hp, RD.flat rw hq]
  exact ⟨hs, c _ G H (Xt.refl R.gh) RD.bl⟩
theorem dec_int (i j : Int) : decide (vOf (.int i) = vOf (.int j)) = decide (i = j) := by
  rw [decide_eq_decide]
  exact ⟨fun h => V.int.inj h, fun h => by rw [h]⟩
theorem dec_str (s t : List Nat) : decide (vOf (.str s) = vOf (.str t)) = decide (s = t) := by
  rw [decide_eq_decide]
  exact ⟨fun h => sOf_inj (V.str.inj h), fun h => by rw [h]⟩
theorem dec_bl (s t : Bool) : decide (vOf (.bl s) = vOf (.bl t)) = decide (s = t) := by
  rw [decide_eq_decide]
  exact ⟨fun h => V.bl.inj h, fun h => by rw [h]⟩
theorem a2_eqI {i j : Int} : A2 K rEq (.d (.int i)) (.d (.int j)) e (.d (.bl (decide (i = j)))) := dec_int i j ▸ a2_eq
theorem a2_neI {i j : Int} : A2 K rNe (.d (.int i)) (.d (.int j)) e (.d (.bl (!decide (i = j)))) := dec_int i j ▸ a2_ne
theorem a2_eqS {i j : List Nat} : A2 K rEq (.d (.str i)) (.d (.str j)) e (.d (.bl (decide (i = j)))) := dec_str i j ▸ a2_eq
theorem a2_neS {i j : List Nat} : A2 K rNe (.d (.str i)) (.d (.str j)) e (.d (.bl (!decide (i = j)))) := dec_str i j ▸ a2_ne
theorem a2_eqB {i j : Bool} : A2 K rEq (.d (.bl i)) (.d (.bl j)) e (.d (.bl (decide (i = j)))) := dec_bl i j ▸ a2_eq
theorem a2_neB {i j : Bool} : A2 K rNe (.d (.bl i)) (.d (.bl j)) e (.d (.bl (!decide (i = j)))) := dec_bl i j ▸ a2_ne
def isN : D → Bool
  | .non => true
  | _ => false
theorem RD.isN {G : Hp} {v : V} {d : D} (h : RD K G v d) : decide (v = .non) = isN d := by cases h <;> rfl
theorem a2_isN {d : D} : A2 K (fun x y H Q => y = .non ∧ Q (.bl (decide (x = .non))) H) (.d d) (.d .non) e (.d (.bl (isN d))) := fun B σ G H ad R v w rv rw C c => by
  cases rw
  have q := RD.isN rv
  exact ⟨rfl, by rw [q]; exact c _ G H (Xt.refl R.gh) RD.bl⟩
theorem a2_notN {d : D} : A2 K (fun x y H Q => y = .non ∧ Q (.bl (!decide (x = .non))) H) (.d d) (.d .non) e (.d (.bl (!isN d))) := fun B σ G H ad R v w rv rw C c => by
  cases rw
  have q := RD.isN rv
  exact ⟨rfl, by rw [q]; exact c _ G H (Xt.refl R.gh) RD.bl⟩

/-! ### texts -/
theorem a2_addS {s t : List Nat} (hl : s.length + t.length ≤ 1000000) : A2 K (fun x y H Q => ∃ i j, x = .str i ∧ y = .str j ∧ i.length + j.length ≤ sizeLine ∧ Q (.str (i ++ j)) H) (.d (.str s)) (.d (.str t)) e (.d (.str (s ++ t))) := fun B σ G H ad R v w rv rw C c => by
  cases rv
  cases rw
  refine ⟨sOf s, sOf t, rfl, rfl, sz_of (by rw [sOf_len, sOf_len]; exact hl), ?_⟩
  rw [sOf_app]
  exact c _ G H (Xt.refl R.gh) RD.str
theorem a2_inS {s : List Nat} {ch : Nat} : A2 K (fun x y H Q => ∃ (c : Nat) (z : Str), x = .str ⟨#[c]⟩ ∧ y = .str z ∧ Q (.bl (decide (c ∈ z.cps.toList))) H) (.d (.str [ch])) (.d (.str s)) e (.d (.bl (decide (ch ∈ s)))) := fun B σ G H ad R v w rv rw C c => by
  cases rv
  cases rw
  exact ⟨ch, sOf s, rfl, rfl, c _ G H (Xt.refl R.gh) RD.bl⟩
theorem a2_notInS {s : List Nat} {ch : Nat} : A2 K (fun x y H Q => ∃ (c : Nat) (z : Str), x = .str ⟨#[c]⟩ ∧ y = .str z ∧ Q (.bl (!decide (c ∈ z.cps.toList))) H) (.d (.str [ch])) (.d (.str s)) e (.d (.bl (!decide (ch ∈ s)))) := fun B σ G H ad R v w rv rw C c => by
  cases rv
  cases rw
  exact ⟨ch, sOf s, rfl, rfl, c _ G H (Xt.refl R.gh) RD.bl⟩
theorem ae_m1 {r : V → List V → Hp → VK → Prop} {s : List Nat} (ho : AE K ta e (.d (.str s))) (hb : AE K tb e y) (hr : AM K r (.d (.str s)) [y] e z) : AE K (tM1 r ta tb) e z := fun B σ G H ad R C c =>
  ho B σ G H ad R _ fun v G1 H1 X1 r1 => by
    refine ⟨by cases r1; exact ⟨_, rfl⟩, hb B σ G1 H1 ad (R.ext X1) _ fun w G2 H2 X2 r2 => ?_⟩
    exact hr B σ G2 H2 ad ((R.ext X1).ext X2) v [w] (r1.mono X2.gg) (.cons r2 .nil) C fun u G3 H3 X3 r3 => c u G3 H3 ((X1.trans X2).trans X3) r3
theorem am_find {s : List Nat} {ch : Nat} : AM K (fun x xs H Q => ∃ a b, x = .str a ∧ xs = [.str b] ∧ Q (.int (Txt.find a b)) H) (.d (.str s)) [.d (.str [ch])] e (.d (.int (match pos ch s with | some i => (i : Int) | none => -1))) := fun B σ G H ad R v vs rv rvs C c => by
  cases rv
  cases rvs with
  | cons h1 h2 =>
    cases h2
    cases h1
    refine ⟨sOf s, sOf [ch], rfl, rfl, ?_⟩
    rw [find_sign]
    exact c _ G H (Xt.refl R.gh) RD.int
theorem am_index {s : List Nat} {ch i : Nat} (hi : pos ch s = some i) : AM K (fun x xs H Q => ∃ a b i rest, x = .str a ∧ xs = [.str b] ∧ Builtin.Str.occurrences a b 0 a.length 1 = i :: rest ∧ Q (.int (i : Nat)) H) (.d (.str s)) [.d (.str [ch])] e (.d (.int (i : Nat))) := fun B σ G H ad R v vs rv rvs C c => by
  cases rv
  cases rvs with
  | cons h1 h2 =>
    cases h2
    cases h1
    rcases occ_sign s ch with ⟨k1, k2⟩ | ⟨j, r, k1, k2⟩
    · rw [hi] at k1
      cases k1
    · rw [hi] at k1
      cases k1
      exact ⟨sOf s, sOf [ch], i, r, rfl, rfl, k2, c _ G H (Xt.refl R.gh) RD.int⟩
theorem am_join {s : List Nat} {xs : List (List Nat)} (hz : (xs.map (·.length)).sum + xs.length * s.length ≤ 1000000) :
    AM K (fun x xs H Q => ∃ a p, ∃ ys : List Str, x = .str a ∧ xs = [.ref p] ∧ (SqL K H p (ys.map V.str) ∨ SqT K H p (ys.map V.str)) ∧ (ys.map (·.length)).sum + ys.length * a.length ≤ 16777216 ∧ Q (.str (Txt.join a ys)) H)
      (.d (.str s)) [.d (.lst (xs.map .str))] e (.d (.str (TL.joinL s xs))) := fun B σ G H ad R v vs rv rvs C c => by
  cases rv
  cases rvs with
  | cons h1 h2 =>
    cases h2
    cases h1 with
    | lst hq rd =>
      have e1 := RD.strs rd
      refine ⟨sOf s, _, xs.map sOf, rfl, rfl, .inl (.inl (.inl ?_)), ?_, ?_⟩
      · rw [List.map_map]
        have : (V.str ∘ sOf) = fun x => V.str (sOf x) := rfl
        rw [this, ← e1]
        exact R.gh _ _ hq
      · rw [List.map_map, List.length_map, sOf_len]
        have : (fun x : Str => x.length) ∘ sOf = fun x : List Nat => x.length := by
          funext l
          exact sOf_len l
        rw [this]
        omega
      · rw [tl_join']
        exact c _ G H (Xt.refl R.gh) RD.str
/-- the same of an own list -/
theorem am_joinO {s : List Nat} {xs : List (List Nat)} {k : Nat} (hk : e.m[k]? = some (some (.lst (xs.map .str)))) (hz : (xs.map (·.length)).sum + xs.length * s.length ≤ 1000000) :
    AM K (fun x xs H Q => ∃ a p, ∃ ys : List Str, x = .str a ∧ xs = [.ref p] ∧ (SqL K H p (ys.map V.str) ∨ SqT K H p (ys.map V.str)) ∧ (ys.map (·.length)).sum + ys.length * a.length ≤ 16777216 ∧ Q (.str (Txt.join a ys)) H)
      (.d (.str s)) [.o k] e (.d (.str (TL.joinL s xs))) := fun B σ G H ad R v vs rv rvs C c => by
  cases rv
  cases rvs with
  | cons h1 h2 =>
    cases h2
    obtain ⟨l, hl, rfl⟩ := h1
    obtain ⟨_, _, vs, hq, rd⟩ := R.op k l _ hl hk
    have e1 := RD.strs rd
    refine ⟨sOf s, _, xs.map sOf, rfl, rfl, .inl (.inl (.inl ?_)), ?_, ?_⟩
    · rw [List.map_map]
      have : (V.str ∘ sOf) = fun x => V.str (sOf x) := rfl
      rw [this, ← e1]
      exact hq
    · rw [List.map_map, List.length_map, sOf_len]
      have : (fun x : Str => x.length) ∘ sOf = fun x : List Nat => x.length := by
        funext l
        exact sOf_len l
      rw [this]
      omega
    · rw [tl_join']
      exact c _ G H (Xt.refl R.gh) RD.str

/-! ### places -/
theorem atI_len {α β : Type} {xs : List α} {ys : List β} (h : xs.length = ys.length) (i : Int) : (atI xs i).isSome = (atI ys i).isSome := by
  unfold atI
  rw [h]
  cases q : ixN ys.length i with
  | none => rfl
  | some j =>
    show (xs[j]?).isSome = (ys[j]?).isSome
    have hj := (ixN_seq q).2.1
    rw [List.getElem?_eq_getElem (by omega), List.getElem?_eq_getElem hj]
    rfl
theorem RDs.atI {G : Hp} {vs : List V} {ds : List D} {i : Int} {d : D} (h : RDs K G vs ds) (q : atI ds i = some d) : ∃ v, L2.atI vs i = some v ∧ RD K G v d := by
  unfold L2.atI at q ⊢
  rw [h.length]
  cases z : ixN ds.length i with
  | none =>
    rw [z] at q
    cases q
  | some j =>
    rw [z] at q
    obtain ⟨v, h1, h2⟩ := h.get (show ds[j]? = some d from q)
    exact ⟨v, h1, h2⟩
theorem a2_ixL {ds : List D} {i : Int} {d : D} (h : atI ds i = some d) : A2 K (rIxL K) (.d (.lst ds)) (.d (.int i)) e (.d d) := fun B σ G H ad R v w rv rw C c => by
  cases rw
  cases rv with
  | lst hq rd =>
    obtain ⟨u, h1, h2⟩ := rd.atI h
    exact ⟨_, _, i, u, rfl, rfl, .inl (.inl (R.gh _ _ hq)), h1, c _ G H (Xt.refl R.gh) h2⟩
theorem a2_ixO {k : Nat} {ds : List D} {i : Int} {d : D} (hk : e.m[k]? = some (some (.lst ds))) (h : atI ds i = some d) : A2 K (rIxL K) (.o k) (.d (.int i)) e (.d d) := fun B σ G H ad R v w rv rw C c => by
  cases rw
  obtain ⟨l, hl, rfl⟩ := rv
  obtain ⟨_, _, vs, hq, rd⟩ := R.op k l _ hl hk
  obtain ⟨u, h1, h2⟩ := rd.atI h
  exact ⟨_, _, i, u, rfl, rfl, .inl (.inl hq), h1, c _ G H (Xt.refl R.gh) h2⟩
theorem a2_ixT {ds : List D} {i : Int} {d : D} (h : atI ds i = some d) : A2 K (rIxT K) (.d (.tup ds)) (.d (.int i)) e (.d d) := fun B σ G H ad R v w rv rw C c => by
  cases rw
  cases rv with
  | tup hq rd =>
    obtain ⟨u, h1, h2⟩ := rd.atI h
    exact ⟨_, _, i, u, rfl, rfl, seqT R.gh hq, h1, c _ G H (Xt.refl R.gh) h2⟩
theorem a2_ixS {s : List Nat} {i : Int} {ch : Nat} (hl : s.length ≤ 1000000) (h : atI s i = some ch) : A2 K rIxS (.d (.str s)) (.d (.int i)) e (.d (.str [ch])) := fun B σ G H ad R v w rv rw C c => by
  cases rw
  cases rv
  exact ⟨sOf s, i, ch, rfl, rfl, sz_of (by rw [sOf_len]; exact hl), h, c _ G H (Xt.refl R.gh) (RD.str (s := [ch]))⟩

/-! ### slices -/
def cutG {α : Type} (xs : List α) (lo hi : Option Int) : List α := (xs.drop (HT.sIx xs.length 0 lo)).take (HT.sIx xs.length xs.length hi - HT.sIx xs.length 0 lo)
def AO (K : PySem.W.Frag) (to : TO) (e : Env) (o : Option Int) : Prop := ∀ (B : Bs) (σ : L2.St) (G H : Hp) (ad : List Addr), Rep K B e σ G H ad → ∀ C : Option Int → Hp → Prop, (∀ G' H', Xt G H G' H' → C o H') → to σ H C
theorem ao_none : AO K tNoPart e none := fun B σ G H ad R C c => c G H (Xt.refl R.gh)
theorem ao_some {i : Int} (h : AE K te e (.d (.int i))) : AO K (tPart te) e (some i) := fun B σ G H ad R C c =>
  h B σ G H ad R _ fun v G1 H1 X1 r1 => by
    cases r1
    exact ⟨i, rfl, c G1 H1 X1⟩
theorem RDs.cut {G : Hp} {vs : List V} {ds : List D} (h : RDs K G vs ds) (lo hi : Option Int) : RDs K G (cutV vs lo hi) (cutG ds lo hi) := by
  unfold cutV cutG
  rw [h.length]
  exact (h.drop _).take _
theorem an_slL {tl th : TO} {ds : List D} {lo hi : Option Int} (h : AE K te e (.d (.lst ds))) (h1 : AO K tl e lo) (h2 : AO K th e hi) : AN K (tSl (rSlL K) te tl th) e (cutG ds lo hi) := fun B σ G H ad R C c =>
  h B σ G H ad R _ fun v G1 H1 X1 r1 => h1 B σ G1 H1 ad (R.ext X1) _ fun G2 H2 X2 => h2 B σ G2 H2 ad ((R.ext X1).ext X2) _ fun G3 H3 X3 => by
    cases r1 with
    | lst hq rd =>
      have X := (X1.trans X2).trans X3
      refine ⟨_, _, rfl, .inl (.inl (X3.hh _ _ (X2.hh _ _ (X1.gh _ _ hq)))), fun p hp => ?_⟩
      exact c p _ G3 _ (X.trans (Xt.drop X3.gh hp)) (Same.none X.hh hp) (Same.none X3.gh hp) upd_same ((rd.mono (X2.trans X3).gg).cut lo hi)
theorem an_slO {tl th : TO} {k : Nat} {ds : List D} {lo hi : Option Int} (hk : e.m[k]? = some (some (.lst ds))) (h : AE K te e (.o k)) (h1 : AO K tl e lo) (h2 : AO K th e hi) : AN K (tSl (rSlL K) te tl th) e (cutG ds lo hi) := fun B σ G H ad R C c =>
  h B σ G H ad R _ fun v G1 H1 X1 r1 => h1 B σ G1 H1 ad (R.ext X1) _ fun G2 H2 X2 => h2 B σ G2 H2 ad ((R.ext X1).ext X2) _ fun G3 H3 X3 => by
    obtain ⟨l, hl, rfl⟩ := r1
    obtain ⟨_, _, vs, hq, rd⟩ := (((R.ext X1).ext X2).ext X3).op k l _ hl hk
    have X := (X1.trans X2).trans X3
    refine ⟨_, _, rfl, .inl (.inl hq), fun p hp => ?_⟩
    exact c p _ G3 _ (X.trans (Xt.drop X3.gh hp)) (Same.none X.hh hp) (Same.none X3.gh hp) upd_same (rd.cut lo hi)
theorem cutS_sOf (s : List Nat) (lo hi : Option Int) : cutS (sOf s) lo hi = sOf (cutG s lo hi) := by
  unfold cutS cutG
  rw [sOf_len]
theorem ae_slS {tl th : TO} {s : List Nat} {lo hi : Option Int} (h : AE K te e (.d (.str s))) (hz : s.length ≤ 1000000) (h1 : AO K tl e lo) (h2 : AO K th e hi) : AE K (tSl rSlS te tl th) e (.d (.str (cutG s lo hi))) := fun B σ G H ad R C c =>
  h B σ G H ad R _ fun v G1 H1 X1 r1 => h1 B σ G1 H1 ad (R.ext X1) _ fun G2 H2 X2 => h2 B σ G2 H2 ad ((R.ext X1).ext X2) _ fun G3 H3 X3 => by
    cases r1
    refine ⟨sOf s, rfl, sz_of (by rw [sOf_len]; exact hz), ?_⟩
    rw [cutS_sOf]
    exact c _ G3 H3 ((X1.trans X2).trans X3) RD.str

/-! ### calls of built-ins -/
theorem rv1 {G : Hp} {ad : List Addr} {vs : List V} {a : A} (h : RepVs K G ad vs [a]) : ∃ v, vs = [v] ∧ RepV K G ad v a := by
  cases h with
  | cons q r => cases r; exact ⟨_, rfl, q⟩
theorem rv2 {G : Hp} {ad : List Addr} {vs : List V} {a b : A} (h : RepVs K G ad vs [a, b]) : ∃ v w, vs = [v, w] ∧ RepV K G ad v a ∧ RepV K G ad w b := by
  cases h with
  | cons q r =>
    obtain ⟨w, rfl, q2⟩ := rv1 r
    exact ⟨_, _, rfl, q, q2⟩
abbrev rLenG (K : PySem.W.Frag) : List V → Hp → VK → Prop := fun xs H Q => ∃ x n, xs = [x] ∧ LenV K x H n ∧ Q (.int n) H
theorem ac_lenL {ds : List D} : AC K (rLenG K) [.d (.lst ds)] e (.d (.int ds.length)) := fun B σ G H ad R vs rv C c => by
  obtain ⟨v, rfl, rw⟩ := rv1 rv
  cases rw with
  | lst hq rd => exact ⟨_, ds.length, rfl, .inl ⟨_, .inl (.inl (R.gh _ _ hq)), rd.length.symm⟩, c _ G H (Xt.refl R.gh) RD.int⟩
theorem ac_lenT {ds : List D} : AC K (rLenG K) [.d (.tup ds)] e (.d (.int ds.length)) := fun B σ G H ad R vs rv C c => by
  obtain ⟨v, rfl, rw⟩ := rv1 rv
  cases rw with
  | tup hq rd => exact ⟨_, ds.length, rfl, .inr ⟨_, seqT R.gh hq, rd.length.symm⟩, c _ G H (Xt.refl R.gh) RD.int⟩
theorem ac_lenO {k : Nat} {ds : List D} (hk : e.m[k]? = some (some (.lst ds))) : AC K (rLenG K) [.o k] e (.d (.int ds.length)) := fun B σ G H ad R vs rv C c => by
  obtain ⟨v, rfl, l, hl, rfl⟩ := rv1 rv
  obtain ⟨_, _, vs, hq, rd⟩ := R.op k l _ hl hk
  exact ⟨_, ds.length, rfl, .inl ⟨_, .inl (.inl hq), rd.length.symm⟩, c _ G H (Xt.refl R.gh) RD.int⟩
theorem ac_lenS {s : List Nat} (hz : s.length ≤ 1000000) : AC K (rLenG K) [.d (.str s)] e (.d (.int s.length)) := fun B σ G H ad R vs rv C c => by
  obtain ⟨v, rfl, rw⟩ := rv1 rv
  cases rw
  exact ⟨_, s.length, rfl, ⟨sz_of (by rw [sOf_len]; exact hz), (sOf_len s).symm⟩, c _ G H (Xt.refl R.gh) RD.int⟩
theorem ac_intB {b : Bool} : AC K (fun xs H Q => (∃ i, xs = [.int i] ∧ Q (.int i) H) ∨ ∃ k, xs = [.bl k] ∧ Q (.int (if k then 1 else 0)) H) [.d (.bl b)] e (.d (.int (if b = true then 1 else 0))) := fun B σ G H ad R vs rv C c => by
  obtain ⟨v, rfl, rw⟩ := rv1 rv
  cases rw
  exact .inr ⟨b, rfl, c _ G H (Xt.refl R.gh) RD.int⟩
theorem ac_intI {b : Int} : AC K (fun xs H Q => (∃ i, xs = [.int i] ∧ Q (.int i) H) ∨ ∃ k, xs = [.bl k] ∧ Q (.int (if k then 1 else 0)) H) [.d (.int b)] e (.d (.int b)) := fun B σ G H ad R vs rv C c => by
  obtain ⟨v, rfl, rw⟩ := rv1 rv
  cases rw
  exact .inl ⟨b, rfl, c _ G H (Xt.refl R.gh) RD.int⟩
theorem ac_min2 {i j : Int} : AC K (fun xs H Q => ∃ i j, xs = [.int i, .int j] ∧ Q (.int (if j < i then j else i)) H) [.d (.int i), .d (.int j)] e (.d (.int (if j < i then j else i))) := fun B σ G H ad R vs rv C c => by
  obtain ⟨v, w, rfl, ru, rw⟩ := rv2 rv
  cases ru
  cases rw
  exact ⟨i, j, rfl, c _ G H (Xt.refl R.gh) RD.int⟩
abbrev rListG (K : PySem.W.Frag) : List V → Hp → VK → Prop := fun xs H Q => ∃ p ys, xs = [.ref p] ∧ (SqL K H p ys ∨ SqT K H p ys) ∧ ∀ l, H l = none → Q (.ref l) (upd H l (.lst ys))
theorem nc_list {ds : List D} : NC K (rListG K) [.d (.lst ds)] e ds := fun B σ G H ad R vs rv C c => by
  obtain ⟨v, rfl, rw⟩ := rv1 rv
  cases rw with
  | lst hq rd => exact ⟨_, _, rfl, .inl (.inl (.inl (R.gh _ _ hq))), fun l hl => c l _ G _ (Xt.drop R.gh hl) hl (Same.none R.gh hl) upd_same rd⟩
theorem nc_listO {k : Nat} {ds : List D} (hk : e.m[k]? = some (some (.lst ds))) : NC K (rListG K) [.o k] e ds := fun B σ G H ad R vs rv C c => by
  obtain ⟨v, rfl, l, hl, rfl⟩ := rv1 rv
  obtain ⟨_, _, vs, hq, rd⟩ := R.op k l _ hl hk
  exact ⟨_, _, rfl, .inl (.inl (.inl hq)), fun l hl => c l _ G _ (Xt.drop R.gh hl) hl (Same.none R.gh hl) upd_same rd⟩
/-- list + list, both tracked -/
theorem n2_cat {xs ys : List D} (hz : xs.length + ys.length ≤ 1000000) : N2 K rCat (.d (.lst xs)) (.d (.lst ys)) e (xs ++ ys) := fun B σ G H ad R v w rv rw C c => by
  cases rv with
  | lst hq rd =>
    cases rw with
    | lst hq2 rd2 =>
      refine ⟨_, _, _, _, rfl, rfl, R.gh _ _ hq, R.gh _ _ hq2, sz_of (by rw [rd.length, rd2.length]; exact hz), fun p hp => ?_⟩
      exact c p _ G _ (Xt.drop R.gh hp) hp (Same.none R.gh hp) upd_same (rd.append rd2)
/-- [..] * k -/
theorem n2_rep {xs : List D} {k : Int} (h0 : -(2 ^ 63) ≤ k) (h1 : k < 2 ^ 63) (hz : xs.length * k.toNat ≤ 1000000) : N2 K rRep (.d (.lst xs)) (.d (.int k)) e (List.replicate k.toNat xs).flatten := fun B σ G H ad R v w rv rw C c => by
  cases rw
  cases rv with
  | lst hq rd =>
    refine ⟨_, k, _, rfl, rfl, R.gh _ _ hq, h0, h1, sz_of (by rw [rd.length]; exact hz), fun p hp => ?_⟩
    refine c p _ G _ (Xt.drop R.gh hp) hp (Same.none R.gh hp) upd_same ?_
    generalize k.toNat = n
    induction n with
    | zero => exact .nil
    | succ n ih =>
      rw [List.replicate_succ, List.replicate_succ, List.flatten_cons, List.flatten_cons]
      exact rd.append ih

/-! ### isinstance -/
theorem ae_ty {n : String} : AE K (tC (.ty n)) e (.p fun v _ => v = .ty n) := fun B σ G H ad R C c => c _ G H (Xt.refl R.gh) fun _ _ => rfl
def tyD : D → String
  | .non => "NoneType"
  | .bl _ => "bool"
  | .int _ => "int"
  | .str _ => "str"
  | .lst _ => "list"
  | .tup _ => "tuple"
theorem tyX_of {G H : Hp} {v : V} {d : D} (h : RD K G v d) (s : Same G H) : TyX K H v (.type (tyD d)) := by
  cases h with
  | non => exact .base .non
  | bl => exact .base (.bl _)
  | int => exact .base (.int _)
  | str => exact .base (.str _)
  | lst hq rd => exact .base (.lst (s _ _ hq))
  | tup hq rd =>
    rcases hq with (hq | ⟨o, hq⟩) | ⟨o, its, n, h1, h2, _⟩
    · exact .base (.tup (s _ _ hq))
    · exact .fTuple (s _ _ hq)
    · exact .kTuple h1 h2
theorem ac_isi {d : D} {n : String} {b : Bool} (h : kitB (tyD d) n = some b) : AC K (rIsi K) [.d d, .p fun v _ => v = .ty n] e (.d (.bl b)) := fun B σ G H ad R vs rv C c => by
  obtain ⟨v, w, rfl, ru, rw⟩ := rv2 rv
  have e1 : w = .ty n := rw G (Same.refl _)
  subst e1
  exact ⟨v, .ty n, _, _, b, rfl, .ty n, tyX_of ru R.gh, kit_ty h, c _ G H (Xt.refl R.gh) RD.bl⟩
theorem ac_isiO {k : Nat} {ds : List D} (hk : e.m[k]? = some (some (.lst ds))) {n : String} {b : Bool} (h : kitB "list" n = some b) : AC K (rIsi K) [.o k, .p fun v _ => v = .ty n] e (.d (.bl b)) := fun B σ G H ad R vs rv C c => by
  obtain ⟨v, w, rfl, ru, rw⟩ := rv2 rv
  obtain ⟨l, hl, rfl⟩ := ru
  obtain ⟨_, _, vs, hq, rd⟩ := R.op k l _ hl hk
  have e1 : w = .ty n := rw G (Same.refl _)
  subst e1
  exact ⟨_, .ty n, _, _, b, rfl, .ty n, .base (.lst hq), kit_ty h, c _ G H (Xt.refl R.gh) RD.bl⟩

/-! ### truth of a list, a text, a number -/
theorem at_tr {d : D} {b : Bool} (h : AE K te e (.d d)) (hb : ∀ G H v, Same G H → RD K G v d → TruV K v H b) : AT K (fun σ H Q => te σ H fun x H' => ∃ k, TruV K x H' k ∧ Q k H') e b := fun B σ G H ad R C c =>
  h B σ G H ad R _ fun v G1 H1 X1 r1 => ⟨b, hb G1 H1 v X1.gh r1, c G1 H1 X1⟩
theorem at_trL {ds : List D} (h : AE K te e (.d (.lst ds))) : AT K (fun σ H Q => te σ H fun x H' => ∃ k, TruV K x H' k ∧ Q k H') e (!ds.isEmpty) := at_tr h fun G H v s r => by
  cases r with
  | lst hq rd =>
    refine .inl ⟨_, .inl (.inl (s _ _ hq)), ?_⟩
    cases rd <;> rfl
theorem at_trO {k : Nat} {ds : List D} (hk : e.m[k]? = some (some (.lst ds))) (h : AE K te e (.o k)) : AT K (fun σ H Q => te σ H fun x H' => ∃ k, TruV K x H' k ∧ Q k H') e (!ds.isEmpty) := fun B σ G H ad R C c =>
  h B σ G H ad R _ fun v G1 H1 X1 r1 => by
    obtain ⟨l, hl, rfl⟩ := r1
    obtain ⟨_, _, vs, hq, rd⟩ := (R.ext X1).op k l _ hl hk
    refine ⟨!ds.isEmpty, .inl ⟨_, .inl (.inl hq), ?_⟩, c G1 H1 X1⟩
    cases rd <;> rfl
theorem at_trI {i : Int} (h : AE K te e (.d (.int i))) : AT K (fun σ H Q => te σ H fun x H' => ∃ k, TruV K x H' k ∧ Q k H') e (i != 0) := at_tr h fun G H v s r => by
  cases r
  rfl
theorem at_trN {d : D} (h : AE K te e (.d d)) (hd : (match d with | .non => false | .tup [] => false | .lst _ => false | .str _ => false | .bl _ => false | .int _ => false | _ => true) = true) : AT K (fun σ H Q => te σ H fun x H' => ∃ k, TruV K x H' k ∧ Q k H') e true := at_tr h fun G H v s r => by
  cases r with
  | tup hq rd =>
    refine .inr (.inl ⟨_, seqT s hq, ?_⟩)
    cases rd with
    | nil => cases hd
    | cons _ _ => rfl
  | _ => cases hd
end

/-! ### == of any data -/
mutual
def D.py : D → PyData
  | .non => .none
  | .bl b => .bool b
  | .int i => .int i
  | .str s => .str (sOf s)
  | .lst ds => .list (D.pys ds)
  | .tup ds => .tuple (D.pys ds)
def D.pys : List D → List PyData
  | [] => []
  | d :: r => D.py d :: D.pys r
end
mutual
theorem RD.dp {K : PySem.W.Frag} {G : Hp} : ∀ {v : V} {d : D}, RD K G v d → Dp K G v d.py
  | _, _, .non => .non
  | _, _, .bl => .bl _
  | _, _, .int => .int _
  | _, _, .str => .str _
  | _, _, .lst h r => .lst (.inl (.inl h)) (RDs.dp r)
  | _, _, .tup h r => .tup h (RDs.dp r)
theorem RDs.dp {K : PySem.W.Frag} {G : Hp} : ∀ {v : List V} {d : List D}, RDs K G v d → DpAll K G v (D.pys d)
  | _, _, .nil => .nil
  | _, _, .cons h r => .cons (RD.dp h) (RDs.dp r)
end
/-- data that == can compare -/
def okD (d : D) : Prop := SeqAt.shaped d.py = true
theorem a2_eqD {K : PySem.W.Frag} {e : Env} {p q : D} (hp : okD p) (hq : okD q) : A2 K (rEqD K) (.d p) (.d q) e (.d (.bl (PyData.eqv p.py q.py))) := fun B σ G H ad R v w rv rw C c =>
  ⟨p.py, q.py, (RD.mono R.gh rv).dp, (RD.mono R.gh rw).dp, hp, hq, c _ G H (Xt.refl R.gh) RD.bl⟩
theorem a2_neD {K : PySem.W.Frag} {e : Env} {p q : D} (hp : okD p) (hq : okD q) : A2 K (rNeD K) (.d p) (.d q) e (.d (.bl (!PyData.eqv p.py q.py))) := fun B σ G H ad R v w rv rw C c =>
  ⟨p.py, q.py, (RD.mono R.gh rv).dp, (RD.mono R.gh rw).dp, hp, hq, c _ G H (Xt.refl R.gh) RD.bl⟩
theorem eqv_same {d : D} (h : okD d) : PyData.eqv d.py d.py = true := SeqAt.eqv_refl _ (SeqAt.canLay_of_shaped h)
theorem a2_eqSame {K : PySem.W.Frag} {e : Env} {p : D} (hp : okD p) : A2 K (rEqD K) (.d p) (.d p) e (.d (.bl true)) := eqv_same hp ▸ a2_eqD hp hp
theorem a2_neSame {K : PySem.W.Frag} {e : Env} {p : D} (hp : okD p) : A2 K (rNeD K) (.d p) (.d p) e (.d (.bl false)) := by
  have h := a2_neD (K := K) (e := e) hp hp
  rw [eqv_same hp] at h
  exact h
end Ab
namespace Ab
open PySem PySem.Spec PyProof.Rows L2

/-! ### promises -/
/-- a value, nothing changed -/
def SpF (K : PySem.W.Frag) (R : List A → A → Prop) : Sp := fun vs H Q _ => ∃ G as r, Same G H ∧ RepVs K G [] vs as ∧ R as r ∧ ∀ v G' H', Xt G H G' H' → RepV K G' [] v r → Q v H'
/-- a new list, nothing changed -/
def SpN (K : PySem.W.Frag) (R : List A → List D → Prop) : Sp := fun vs H Q _ => ∃ G as ds, Same G H ∧ RepVs K G [] vs as ∧ R as ds ∧
  ∀ p ws G' H', Xt G H G' H' → H p = none → G' p = none → H' p = some (.lst ws) → RDs K G' ws ds → Q (.ref p) H'
/-- one own list of the caller's is changed (it is .o 0 among the arguments) -/
def Sp1 (K : PySem.W.Frag) (R : List A → List D → A → List D → Prop) : Sp := fun vs H Q _ => ∃ G l as xs ds r ds', Same G H ∧ RepVs K G [l] vs as ∧ G l = none ∧ H l = some (.lst xs) ∧ RDs K G xs ds ∧ R as ds r ds' ∧
  ∀ v G' H' xs', Same G G' → Same G' H' → (∀ a o, H a = some o → a ≠ l → H' a = some o) → (∀ a, G' a ≠ none → G a ≠ none ∨ H a = none) → H' l = some (.lst xs') → RDs K G' xs' ds' → RepV K G' [] v r → Q v H'

def noO : A → Bool
  | .o _ => false
  | _ => true
theorem RepV.any {K : PySem.W.Frag} {G : Hp} {ad ad' : List Addr} {v : V} {a : A} (h : RepV K G ad v a) (n : noO a = true) : RepV K G ad' v a := by
  cases a with
  | o k => cases n
  | no => trivial
  | d x => exact h
  | p φ => exact h
theorem RepVs.any {K : PySem.W.Frag} {G : Hp} {ad ad' : List Addr} : ∀ {vs : List V} {as : List A}, RepVs K G ad vs as → as.all noO = true → RepVs K G ad' vs as
  | _, _, .nil, _ => .nil
  | _, _, .cons h r, n => by
    rw [List.all_cons, Bool.and_eq_true] at n
    exact .cons (h.any n.1) (RepVs.any r n.2)
section
variable {K : PySem.W.Frag} {e : Env} {ta : TA} {as : List A} {E : XK}
theorem ae_call {R : List A → A → Prop} {r : A} (h : AL K ta e as) (hn : as.all noO = true := by rfl) (hr : R as r) (nr : noO r = true := by rfl) : AE K (tCall (SpF K R) [] E ta) e r := fun B σ G H ad Rp C c =>
  h B σ G H ad Rp _ fun vs G1 H1 X1 rv => ⟨G1, as, r, X1.gh, by rw [List.append_nil]; exact rv.any hn, hr, fun v G2 H2 X2 rv2 => c v G2 H2 (X1.trans X2) (rv2.any nr)⟩
theorem an_call {R : List A → List D → Prop} {ds : List D} (h : AL K ta e as) (hn : as.all noO = true := by rfl) (hr : R as ds) : AN K (tCall (SpN K R) [] E ta) e ds := fun B σ G H ad Rp C c =>
  h B σ G H ad Rp _ fun vs G1 H1 X1 rv => ⟨G1, as, ds, X1.gh, by rw [List.append_nil]; exact rv.any hn, hr, fun p ws G2 H2 X2 hp gp hq rd => c p ws G2 H2 (X1.trans X2) (Same.none X1.hh hp) gp hq rd⟩
/-- one own list handed over -/
def toO (k : Nat) : A → A
  | .o j => if j = k then .o 0 else .no
  | a => a
theorem RepV.one {K : PySem.W.Frag} {G : Hp} {ad : List Addr} {v : V} {a : A} {k : Nat} {l : Addr} (hl : ad[k]? = some l) (h : RepV K G ad v a) : RepV K G [l] v (toO k a) := by
  cases a with
  | no => trivial
  | d x => exact h
  | p φ => exact h
  | o j =>
    show RepV K G [l] v (if j = k then .o 0 else .no)
    by_cases hj : j = k
    · rw [if_pos hj]
      subst hj
      obtain ⟨m, h1, h2⟩ := h
      rw [hl] at h1
      cases h1
      exact ⟨l, rfl, h2⟩
    · rw [if_neg hj]
      trivial
theorem RepVs.one {K : PySem.W.Frag} {G : Hp} {ad : List Addr} {k : Nat} {l : Addr} (hl : ad[k]? = some l) : ∀ {vs : List V} {as : List A}, RepVs K G ad vs as → RepVs K G [l] vs (as.map (toO k))
  | _, _, .nil => .nil
  | _, _, .cons h r => .cons (h.one hl) (RepVs.one hl r)
theorem ax_call1 {R : List A → List D → A → List D → Prop} (k : Nat) {ds ds' : List D} {r : A} {Q : A → Env → Prop} (h : AL K ta e as) (hk : e.m[k]? = some (some (.lst ds))) (hr : R (as.map (toO k)) ds r ds') (nr : noO r = true := by rfl) (q : Q r (e.put k ds')) :
    AX K (tCall (Sp1 K R) [] E ta) e Q := fun B σ G H ad Rp C c =>
  h B σ G H ad Rp _ fun vs G1 H1 X1 rv => by
    have R1 := Rp.ext X1
    have hkl : k < ad.length := by
      rw [Rp.al]
      exact (List.getElem?_eq_some_iff.mp hk).1
    obtain ⟨l, hl⟩ : ∃ l, ad[k]? = some l := ⟨_, List.getElem?_eq_getElem hkl⟩
    obtain ⟨g0, how, xs, hq, rd⟩ := R1.op k l _ hl hk
    refine ⟨G1, l, _, xs, ds, r, ds', X1.gh, by rw [List.append_nil]; exact rv.one hl, g0, hq, rd, hr, fun v G2 H2 xs2 s1 s2 s3 s4 hq2 rd2 rv2 => ?_⟩
    -- the state with l left out, then l put back
    have R2 : Rep K B (e.put k ds') σ G2 H2 ad := by
      have hs : Same G2 H2 := s2
      have gl : G2 l = none := by
        cases z : G2 l with
        | none => rfl
        | some o =>
          rcases s4 l (by rw [z]; exact fun y => nomatch y) with q1 | q1
          · exact absurd g0 q1
          · rw [hq] at q1
            cases q1
      exact {
        bg := R1.bg.trans s1
        gh := s2
        fr := fun a h => by
          rcases s4 a h with q1 | q1
          · exact R1.fr a q1
          · refine .inr ?_
            cases z : B.H a with
            | none => rfl
            | some o => exact absurd q1 (R1.nn a (by rw [z]; exact fun y => nomatch y))
        kp := fun a o h n => by
          have hne : a ≠ l := fun z => by
            subst z
            rcases how with q1 | q1
            · exact n q1
            · rw [q1] at h
              cases h
          exact s3 a o (R1.kp a o h n) hne
        nn := fun a h => by
          by_cases hne : a = l
          · subst hne
            rw [hq2]
            exact fun y => nomatch y
          · have q1 := R1.nn a h
            cases z : H1 a with
            | none => exact absurd z q1
            | some o =>
              rw [s3 a o z hne]
              exact fun y => nomatch y
        al := by
          show ad.length = (e.m.set k (some (.lst ds'))).length
          rw [List.length_set, R1.al]
        nd := R1.nd
        ah := fun a h => by
          by_cases hne : a = l
          · subst hne
            rw [hq2]
            exact fun y => nomatch y
          · have q1 := R1.ah a h
            cases z : H1 a with
            | none => exact absurd z q1
            | some o =>
              rw [s3 a o z hne]
              exact fun y => nomatch y
        ow := R1.ow
        op := fun j b fs h1 h2 => by
          have h2 : (e.m.set k (some (.lst ds')))[j]? = some (some fs) := h2
          by_cases hj : k = j
          · subst hj
            rw [List.getElem?_set_self (List.getElem?_eq_some_iff.mp hk).1] at h2
            cases h2
            rw [hl] at h1
            cases h1
            exact ⟨gl, how, xs2, hq2, rd2⟩
          · rw [List.getElem?_set_ne hj] at h2
            obtain ⟨x1, x2, x5⟩ := R1.op j b fs h1 h2
            obtain ⟨u5, x3⟩ := x5.some
            have nb : b ≠ l := fun z => by
              subst z
              exact hj (nd_ix R1.nd hl h1)
            refine ⟨?_, x2, x5.keep s1 (List.prefix_refl _) fun u h => s3 b u h nb⟩
            cases z : G2 b with
            | none => rfl
            | some o =>
              rcases s4 b (by rw [z]; exact fun y => nomatch y) with q1 | q1
              · exact absurd x1 q1
              · rw [x3] at q1
                cases q1
        sl := R1.sl
        st := fun i a h => by
          rcases R1.st i a h with q1 | ⟨u, q1, q2⟩
          · exact .inl q1
          · exact .inr ⟨u, q1, q2.mono s1⟩ }
    exact c r _ v G2 H2 ad q (X1.gg.trans s1) (List.prefix_refl _) R2 (rv2.any nr)
end

/-! ### a def's body -/
section
variable {K : PySem.W.Frag} {N : List Str} {vs : List V} {H : Hp} {Q : VK} {E : XK} {t : TS}
theorem start_get {N : List Str} {vs : List V} {i : Nat} {v : V} (h : vs[i]? = some v) : (L2.start N vs)[i]? = some (some v) := by
  unfold L2.start
  have hl := (List.getElem?_eq_some_iff.mp h).1
  rw [List.getElem?_append_left (by rw [List.length_map]; exact hl), List.getElem?_map, h]
  rfl
theorem start_len {N : List Str} {vs : List V} (h : vs.length ≤ N.length) : (L2.start N vs).length = N.length := by
  unfold L2.start
  rw [List.length_append, List.length_map, List.length_replicate]
  omega
def env0 (N : List Str) (as : List A) : List A := as ++ List.replicate (N.length - as.length) .no
theorem st0 {G : Hp} {ad : List Addr} {as : List A} (rv : RepVs K G ad vs as) (i : Nat) (a : A) (h : (env0 N as)[i]? = some a) : a = .no ∨ ∃ v, (L2.start N vs)[i]? = some (some v) ∧ RepV K G ad v a := by
  unfold env0 at h
  by_cases hi : i < as.length
  · rw [List.getElem?_append_left hi] at h
    obtain ⟨v, h1, h2⟩ := rv.get h
    exact .inr ⟨v, start_get h1, h2⟩
  · rw [List.getElem?_append_right (by omega), List.getElem?_replicate] at h
    split at h
    · exact .inl (Option.some.inj h).symm
    · cases h
theorem rep0 {G : Hp} {as : List A} (s : Same G H) (rv : RepVs K G [] vs as) (hN : as.length ≤ N.length) : Rep K ⟨G, H, []⟩ ⟨env0 N as, []⟩ (L2.start N vs) G H [] where
  bg := Same.refl _
  gh := s
  fr := fun a h => .inl h
  kp := fun a o h _ => h
  nn := fun a h => h
  al := rfl
  nd := List.nodup_nil
  ah := fun l h => absurd h (by simp)
  ow := List.prefix_refl _
  op := fun k l ds h _ => by cases h
  sl := by
    rw [start_len (by rw [rv.length]; exact hN)]
    unfold env0
    rw [List.length_append, List.length_replicate]
    show N.length = as.length + (N.length - as.length)
    omega
  st := st0 rv
/-- from the run's end: what a caller sees -/
theorem Rep.xt {B : Bs} {e : Env} {σ : L2.St} {G : Hp} {ad : List Addr} (R : Rep K B e σ G H ad) (hw : B.ow = []) : Xt B.G B.H G H :=
  ⟨R.bg, R.gh, fun a o h => R.kp a o h (by rw [hw]; simp), R.fr⟩
theorem run_F {R : List A → A → Prop} (h : SpF K R vs H Q E) (hb : ∀ as r, R as r → as.length ≤ N.length ∧ AS K 0 t ⟨fun _ => r = .d .non, fun a _ => a = r ∧ noO r = true, fun _ => False, fun _ => False⟩ ⟨env0 N as, []⟩) :
    t { nx := fun _ H' => Q .non H', rt := Q } (L2.start N vs) H := by
  obtain ⟨G, as, r, s, rv, hR, q⟩ := h
  obtain ⟨hN, hb⟩ := hb as r hR
  refine hb ⟨G, H, []⟩ rfl _ ⟨?_, ?_, fun _ _ _ _ _ z => z.elim, fun _ _ _ _ _ z => z.elim⟩ _ _ _ [] (rep0 s rv hN)
  · intro e σ G' H' ad hr R'
    exact q _ G' H' (R'.xt rfl) (by rw [hr]; exact RD.non)
  · rintro a e v σ G' H' ad ⟨rfl, n⟩ R' rv'
    exact q v G' H' (R'.xt rfl) (rv'.any n)
theorem run_N {R : List A → List D → Prop} (h : SpN K R vs H Q E) (hb : ∀ as ds, R as ds → as.length ≤ N.length ∧ AS K 0 t ⟨fun _ => False, fun a e => ∃ k, a = .o k ∧ e.m[k]? = some (some (.lst ds)), fun _ => False, fun _ => False⟩ ⟨env0 N as, []⟩) :
    t { nx := fun _ H' => Q .non H', rt := Q } (L2.start N vs) H := by
  obtain ⟨G, as, r, s, rv, hR, q⟩ := h
  obtain ⟨hN, hb⟩ := hb as r hR
  refine hb ⟨G, H, []⟩ rfl _ ⟨fun _ _ _ _ _ z => z.elim, ?_, fun _ _ _ _ _ z => z.elim, fun _ _ _ _ _ z => z.elim⟩ _ _ _ [] (rep0 s rv hN)
  rintro a e v σ G' H' ad ⟨k, rfl, hk⟩ R' ⟨l, hl, rfl⟩
  obtain ⟨g0, how, ws, hq, rd⟩ := R'.op k l _ hl hk
  rcases how with z | z
  · exact absurd z (by simp)
  · exact q l ws G' H' (R'.xt rfl) z g0 hq rd
theorem run_1 {R : List A → List D → A → List D → Prop} (h : Sp1 K R vs H Q E) (hb : ∀ as ds r ds', R as ds r ds' → as.length ≤ N.length ∧ AS K 1 t ⟨fun e => r = .d .non ∧ e.m[0]? = some (some (.lst ds')), fun a e => a = r ∧ noO r = true ∧ e.m[0]? = some (some (.lst ds')), fun _ => False, fun _ => False⟩ ⟨env0 N as, [some (.lst ds)]⟩) :
    t { nx := fun _ H' => Q .non H', rt := Q } (L2.start N vs) H := by
  obtain ⟨G, l, as, xs, ds, r, ds', s, rv, g0, hq, rd, hR, q⟩ := h
  obtain ⟨hN, hb⟩ := hb as ds r ds' hR
  have R0 : Rep K ⟨G, H, [l]⟩ ⟨env0 N as, [some (.lst ds)]⟩ (L2.start N vs) G H [l] := {
    bg := Same.refl _
    gh := s
    fr := fun a h => .inl h
    kp := fun a o h _ => h
    nn := fun a h => h
    al := rfl
    nd := by simp
    ah := fun a h => by
      rw [List.mem_singleton.mp h, hq]
      exact fun y => nomatch y
    ow := List.prefix_refl _
    op := fun k b fs h1 h2 => by
      cases k with
      | zero =>
        cases h1
        cases h2
        exact ⟨g0, .inl (by simp), xs, hq, rd⟩
      | succ k => cases h1
    sl := by
      rw [start_len (by rw [rv.length]; exact hN)]
      unfold env0
      rw [List.length_append, List.length_replicate]
      show N.length = as.length + (N.length - as.length)
      omega
    st := st0 rv }
  have fin : ∀ e σ v G' H' ad, e.m[0]? = some (some (.lst ds')) → Rep K ⟨G, H, [l]⟩ e σ G' H' ad → RepV K G' [] v r → Q v H' := by
    intro e σ v G' H' ad hm R' rv'
    have h0 : ad[0]? = some l := by
      obtain ⟨tl, e1⟩ := R'.ow
      rw [← e1]
      rfl
    obtain ⟨_, _, ws, hq', rd'⟩ := R'.op 0 l _ h0 hm
    exact q v G' H' ws R'.bg R'.gh (fun a o h n => R'.kp a o h (by simp [n])) R'.fr hq' rd' rv'
  refine hb ⟨G, H, [l]⟩ rfl _ ⟨?_, ?_, fun _ _ _ _ _ z => z.elim, fun _ _ _ _ _ z => z.elim⟩ _ _ _ [l] R0
  · rintro e σ G' H' ad ⟨hr, hm⟩ R'
    exact fin e σ _ G' H' ad hm R' (by rw [hr]; exact RD.non)
  · rintro a e v σ G' H' ad ⟨rfl, n, hm⟩ R' rv'
    exact fin e σ v G' H' ad hm R' (rv'.any n)
end

/-! ### an own list read as data by an expression whose value is flat -/
theorem RD.flatG {K : PySem.W.Frag} {G G' : Hp} {v : V} {d : D} (h : RD K G v d) (hf : Ab.flat d = true) : RD K G' v d := by
  cases h with
  | lst _ _ => cases hf
  | tup _ _ => cases hf
  | non => exact .non
  | bl => exact .bl
  | int => exact .int
  | str => exact .str
theorem ae_thaw {K : PySem.W.Frag} {e : Env} {te : TE} {d : D} (k : Nat) {ds : List D} (hk : e.m[k]? = some (some (.lst ds))) (h : AE K te (e.frz k ds) (.d d)) (hf : flat d = true := by rfl) : AE K te e (.d d) := fun B σ G H ad R C c => by
  have hkl : k < ad.length := by
    rw [R.al]
    exact (List.getElem?_eq_some_iff.mp hk).1
  obtain ⟨l, hl⟩ : ∃ l, ad[k]? = some l := ⟨_, List.getElem?_eq_getElem hkl⟩
  obtain ⟨g0, how, vs, hq, rd⟩ := R.op k l _ hl hk
  have hkm : k < e.m.length := (List.getElem?_eq_some_iff.mp hk).1
  -- a base in which l is new
  have R2 : Rep K ⟨upd G l (.lst vs), H, ad⟩ (e.frz k ds) σ (upd G l (.lst vs)) H ad := by
    have sg : Same G (upd G l (.lst vs)) := same_new g0
    exact {
      bg := Same.refl _
      gh := fun b o q => by
        by_cases nb : b = l
        · subst nb
          rw [upd_same] at q
          rw [hq]
          exact q
        · rw [upd_ne nb] at q
          exact R.gh _ _ q
      fr := fun a h => .inl h
      kp := fun a o h _ => h
      nn := fun a h => h
      al := by
        show ad.length = (e.m.set k none).length
        rw [List.length_set, R.al]
      nd := R.nd
      ah := R.ah
      ow := List.prefix_refl _
      op := fun j b fs h1 h2 => by
        have h2 : (e.m.set k none)[j]? = some (some fs) := h2
        have hj : k ≠ j := fun z => by
          subst z
          rw [List.getElem?_set_self hkm] at h2
          cases h2
        rw [List.getElem?_set_ne hj] at h2
        obtain ⟨x1, x2, x3⟩ := R.op j b fs h1 h2
        have nb : b ≠ l := fun z => by
          subst z
          exact hj (nd_ix R.nd hl h1)
        exact ⟨by rw [upd_ne nb]; exact x1, .inl (List.mem_of_getElem? h1), x3.keep sg (List.prefix_refl _) fun u h => h⟩
      sl := by
        show σ.length = (e.s.map (frzA k ds)).length
        rw [List.length_map, R.sl]
      st := fun i a q => by
        have q : (e.s.map (frzA k ds))[i]? = some a := q
        rw [List.getElem?_map] at q
        cases z : e.s[i]? with
        | none =>
          rw [z] at q
          cases q
        | some b =>
          rw [z] at q
          have q : frzA k ds b = a := Option.some.inj q
          subst q
          rcases R.st i b z with rfl | ⟨v, z1, z2⟩
          · exact .inl rfl
          · refine .inr ⟨v, z1, ?_⟩
            cases b with
            | no => trivial
            | d x => exact RD.mono sg z2
            | p φ => exact fun G2 e2 => z2 G2 (sg.trans e2)
            | o j =>
              unfold frzA
              by_cases hj : j = k
              · subst hj
                obtain ⟨b, y1, y2⟩ := z2
                rw [hl] at y1
                cases y1
                subst y2
                show RepV K _ ad _ (if j = j then A.d (.lst ds) else A.o j)
                rw [if_pos rfl]
                exact RD.lst upd_same (rd.mono sg)
              · show RepV K _ ad v (if j = k then A.d (.lst ds) else A.o j)
                rw [if_neg hj]
                exact z2 }
  refine h ⟨upd G l (.lst vs), H, ad⟩ σ (upd G l (.lst vs)) H ad R2 C fun v G' H' X rv => ?_
  exact c v G H' ⟨Same.refl _, R.gh.trans X.hh, X.hh, fun _ q => .inl q⟩ (RD.flatG rv hf)

/-! ### comprehensions -/
def Env.wipe (e : Env) : List Nat → Env
  | [] => e
  | v :: vs => (e.wipe vs).set v .no
theorem Rep.wipe {K : PySem.W.Frag} {B : Bs} {e : Env} {σ : L2.St} {G H : Hp} {ad : List Addr} (R : Rep K B e σ G H ad) : ∀ vs : List Nat, Rep K B (e.wipe vs) (L2.wipe σ vs) G H ad
  | [] => R
  | v :: vs => by
    have R1 := Rep.wipe R vs
    exact { R1 with
      sl := by
        show ((L2.wipe σ vs).set v none).length = ((e.wipe vs).s.set v .no).length
        rw [List.length_set, List.length_set]
        exact R1.sl
      st := fun j b q => by
        have q : ((e.wipe vs).s.set v .no)[j]? = some b := q
        by_cases hj : v = j
        · subst hj
          have hl : v < (e.wipe vs).s.length := by
            have := (List.getElem?_eq_some_iff.mp q).1
            rwa [List.length_set] at this
          rw [List.getElem?_set_self hl] at q
          exact .inl (Option.some.inj q).symm
        · rw [List.getElem?_set_ne hj] at q
          rcases R1.st j b q with z | ⟨w, z1, z2⟩
          · exact .inl z
          · refine .inr ⟨w, ?_, z2⟩
            show ((L2.wipe σ vs).set v none)[j]? = _
            rw [List.getElem?_set_ne hj]
            exact z1 }
/-- a comprehension's target: it stores in its own slots alone -/
def AGw (K : PySem.W.Frag) (g : TG) (d : D) (vs : List Nat) (e : Env) (e2 : Env) : Prop := ∀ (B : Bs) (σ : L2.St) (G H : Hp) (ad : List Addr), Rep K B (e.wipe vs) (L2.wipe σ vs) G H ad → ∀ v, RD K G v d → ∀ C : L2.St → Hp → Prop,
  (∀ σ', L2.wipe σ' vs = L2.wipe σ vs → Rep K B e2 σ' G H ad → C σ' H) → g v (L2.wipe σ vs) H C
theorem agw_name {K : PySem.W.Frag} {d : D} {j : Nat} {e : Env} : AGw K (gName j) d [j] e (e.set j (.d d)) := fun B σ G H ad R v rv C c => by
  refine c _ ?_ ?_
  · show (((σ.set j none).set j (some v)).set j none) = σ.set j none
    rw [List.set_set, List.set_set]
  · have R1 := R.set (i := j) (a := .d d) rv
    have : (e.wipe [j]).set j (.d d) = e.set j (.d d) := by
      show (⟨(e.s.set j .no).set j (.d d), e.m⟩ : Env) = ⟨e.s.set j (.d d), e.m⟩
      rw [List.set_set]
    rw [this] at R1
    exact R1
theorem agw_two {K : PySem.W.Frag} {d1 d2 : D} {i j : Nat} {e : Env} (hij : i ≠ j) : AGw K (gTup K 2 (gCons (gName i) (gCons (gName j) gNil))) (.tup [d1, d2]) [i, j] e ((e.set i (.d d1)).set j (.d d2)) := fun B σ G H ad R v rv C c => by
  cases rv with
  | tup hq rd =>
    cases rd with
    | cons r1 rd =>
      cases rd with
      | cons r2 rd =>
        cases rd
        refine ⟨_, _, rfl, seqT R.gh hq, rfl, _, _, rfl, _, _, rfl, rfl, ?_⟩
        refine c _ ?_ ?_
        · show ((((((σ.set j none).set i none).set i (some _)).set j (some _)).set j none).set i none) = (σ.set j none).set i none
          rw [List.set_set, List.set_set, List.set_comm _ _ hij.symm, List.set_set, List.set_comm _ _ hij, List.set_set]
        · have R1 := (R.set (i := i) (a := .d d1) r1).set (i := j) (a := .d d2) r2
          have : ((e.wipe [i, j]).set i (.d d1)).set j (.d d2) = (e.set i (.d d1)).set j (.d d2) := by
            show (⟨(((e.s.set j .no).set i .no).set i (.d d1)).set j (.d d2), e.m⟩ : Env) = ⟨(e.s.set i (.d d1)).set j (.d d2), e.m⟩
            rw [List.set_set, List.set_comm _ _ hij, List.set_set, List.set_comm _ _ hij]
          rw [this] at R1
          exact R1
/-- what is given of turn i: nothing or one thing -/
def givenD (f : Nat → Option D) : Nat → List D
  | 0 => []
  | n + 1 => givenD f n ++ (f n).toList
theorem givenD_len (f : Nat → Option D) : ∀ n, (givenD f n).length ≤ n
  | 0 => Nat.le_refl _
  | n + 1 => by
    have := givenD_len f n
    have h2 : (f n).toList.length ≤ 1 := by cases f n <;> simp
    show (givenD f n ++ (f n).toList).length ≤ n + 1
    rw [List.length_append]
    omega
theorem givenD_some (g : Nat → D) : ∀ n, givenD (fun i => some (g i)) n = (List.range n).map g
  | 0 => rfl
  | n + 1 => by
    show givenD _ n ++ [g n] = _
    rw [givenD_some g n, List.range_succ, List.map_append]
    rfl
theorem an_lc {K : PySem.W.Frag} {wi : TI} {g : TG} {tt : TT} {te : TE} {vs : List Nat} {e : Env} {n : Nat} {f : Nat → D} (r : Nat → Option D) (h : AI K wi e n f) (hn : n ≤ 900000)
    (hs : ∀ i, i < n → ∃ e2, AGw K g (f i) vs e e2 ∧ AT K tt e2 (r i).isSome ∧ ∀ x, r i = some x → AE K te e2 (.d x)) : AN K (tLc wi g tt te vs) e (givenD r n) := fun B σ G H ad R C c =>
  h B σ G H ad R _ fun J G1 H1 X1 W Dl hD => by
    have R1 := R.ext X1
    have R1w := R1.wipe vs
    have gD : G1 Dl = none := Same.none X1.gh hD
    refine ⟨fun i m H => i + m = n ∧ ∃ G' acc, Xt G1 H1 G' H ∧ G' Dl = none ∧ H Dl = some (.lst acc) ∧ RDs K G' acc (givenD r i), ⟨n, by omega, G1, [], Xt.drop X1.gh hD, gD, upd_same, .nil⟩, ?_⟩
    rintro i m H' ⟨hm, G', acc, X, g0, hq, rd⟩
    by_cases hlt : i < n
    · refine .inr ⟨W.go i G' H' X.gg X.gh hlt, fun H => ∃ G' acc, Xt G1 H1 G' H ∧ G' Dl = none ∧ H Dl = some (.lst acc) ∧ RDs K G' acc (givenD r (i + 1)), fun H'' q => ⟨m - 1, by omega, by omega, q⟩, fun x H2 y => ?_⟩
      obtain ⟨G2, X2, rx⟩ := W.yld i G' H' x H2 X.gg X.gh hlt y
      obtain ⟨e2, hg, ht, he⟩ := hs i hlt
      refine hg B σ G2 H2 ad ((R1w.ext X).ext X2) x rx _ fun σ2 hw R2 => ⟨hw, ?_⟩
      refine ht B σ2 G2 H2 ad R2 _ fun G3 H3 X3 => ?_
      have X23 := X2.trans X3
      have g3 : G3 Dl = none := X23.out g0 hq
      have hq3 : H3 Dl = some (.lst acc) := X23.hh _ _ hq
      cases hr : r i with
      | none =>
        show ∃ G' acc, Xt G1 H1 G' H3 ∧ G' Dl = none ∧ H3 Dl = some (.lst acc) ∧ RDs K G' acc (givenD r (i + 1))
        refine ⟨G3, acc, X.trans X23, g3, hq3, ?_⟩
        show RDs K G3 acc (givenD r i ++ (r i).toList)
        rw [hr]
        show RDs K G3 acc (givenD r i ++ [])
        rw [List.append_nil]
        exact rd.mono X23.gg
      | some x2 =>
        show te σ2 H3 _
        refine he x2 hr B σ2 G3 H3 ad (R2.ext X3) _ fun v G4 H4 X4 rv => ?_
        have X24 := X23.trans X4
        have g4 : G4 Dl = none := X4.out g3 hq3
        refine ⟨acc, X4.hh _ _ hq3, sz_lt ?_, G4, acc ++ [v], ?_, g4, upd_same, ?_⟩
        · have := givenD_len r i
          rw [rd.length]
          omega
        · have X5 := X.trans X24
          exact ⟨X5.gg, fun b o q => by
            rw [upd_ne (ne_of_none q g4)]
            exact X4.gh _ _ q, fun b o q => by
            rw [upd_ne (ne_of_none q hD)]
            exact X5.hh _ _ q, X5.fr⟩
        · show RDs K G4 (acc ++ [v]) (givenD r i ++ (r i).toList)
          rw [hr]
          exact (rd.mono X24.gg).append (.cons rv .nil)
    · have e1 : i = n := by omega
      subst e1
      exact .inl ⟨W.stop i G' H' X.gg X.gh (Nat.le_refl _), c Dl acc G' H' (X1.trans X) (Same.none X1.hh hD) g0 hq rd⟩
/-- without a test, the target a name -/
theorem an_lcN {K : PySem.W.Frag} {wi : TI} {te : TE} {j : Nat} {e : Env} {n : Nat} {f : Nat → D} (x : Nat → D) (h : AI K wi e n f) (hn : n ≤ 900000)
    (hs : ∀ i, i < n → AE K te (e.set j (.d (f i))) (.d (x i))) : AN K (tLc wi (gName j) tYes te [j]) e ((List.range n).map x) := by
  rw [← givenD_some]
  refine an_lc _ h hn fun i hi => ⟨_, agw_name, fun B σ G H ad R C c => c G H (Xt.refl R.gh), fun y hy => ?_⟩
  cases hy
  exact hs i hi

/-! ### the script -/
def ScP (K : PySem.W.Frag) (ns : List Int) : V → Hp → Prop := fun v G => ∃ a, v = .ref a ∧ SqL K G a (ns.map V.int)
theorem scP {K : PySem.W.Frag} {G : Hp} {ad : List Addr} {a : Addr} {ns : List Int} (h : SqL K G a (ns.map V.int)) : RepV K G ad (.ref a) (.p (ScP K ns)) := fun G' s => ⟨a, rfl, s.seq h⟩
theorem ac_lenP {K : PySem.W.Frag} {e : Env} {ns : List Int} : AC K (rLenG K) [.p (ScP K ns)] e (.d (.int ns.length)) := fun B σ G H ad R vs rv C c => by
  obtain ⟨v, rfl, rw⟩ := rv1 rv
  obtain ⟨a, rfl, h⟩ := rw H R.gh
  exact ⟨_, ns.length, rfl, .inl ⟨_, h, by rw [List.length_map]⟩, c _ G H (Xt.refl R.gh) RD.int⟩
theorem a2_ixP {K : PySem.W.Frag} {e : Env} {ns : List Int} {i k : Int} (h : atI ns i = some k) : A2 K (rIxL K) (.p (ScP K ns)) (.d (.int i)) e (.d (.int k)) := fun B σ G H ad R v w rv rw C c => by
  cases rw
  obtain ⟨a, rfl, hq⟩ := rv H R.gh
  refine ⟨a, _, i, .int k, rfl, rfl, hq, ?_, c _ G H (Xt.refl R.gh) RD.int⟩
  unfold atI at h ⊢
  rw [List.length_map]
  cases z : ixN ns.length i with
  | none =>
    rw [z] at h
    cases h
  | some j =>
    rw [z] at h
    show (ns.map V.int)[j]? = some (.int k)
    have h : ns[j]? = some k := h
    rw [List.getElem?_map, h]
    rfl
end Ab
namespace Ab
open PySem PySem.Spec PyProof.Rows L2
/-- a def of the text, as the top leaves it -/
def DefAt (K : PySem.W.Frag) (mg : Str → Option Value) (x : Str) (st : Stmt) (ps : List Str) : Prop := ∃ f fd, Fun K x x st f fd ∧ mg x = some (.ref f) ∧ Binds K fd ps []
/-- a def that keeps a promise -/
def Has (P : Program) (w : World) (K : PySem.W.Frag) (mg : Str → Option Value) (base : Heap) (x : Str) (ps : List Str) (k : Nat) (sp : Sp) : Prop :=
  ∃ f fd, FnOk P w K mg base CX0 k f fd ps sp ∧ mg x = some (.ref f) ∧ PySem.W.keepIn K (.ref f) = true ∧ Binds K fd ps []
section
variable {P : Program} {w : World} {K : PySem.W.Frag} {mg : Str → Option Value} {base : Heap} {x : Str} {st : Stmt} {ps : List Str} {k : Nat} {sp : Sp}
theorem DefAt.has (D : DefAt K mg x st ps) (h : ∀ f fd, Fun K x x st f fd → FnOk P w K mg base CX0 k f fd ps sp) : Has P w K mg base x ps k sp := by
  obtain ⟨f, fd, F, g, b⟩ := D
  exact ⟨f, fd, h f fd F, g, F.kp, b⟩
theorem Has.mono (h : Has P w K mg base x ps k sp) {j : Nat} (hj : k ≤ j) : Has P w K mg base x ps j sp := by
  obtain ⟨f, fd, F, g, b⟩ := h
  exact ⟨f, fd, F.mono hj, g, b⟩
end
section
variable {X : Cx} {x : Str} {ps : List Str} {k : Nat} {sp : Sp} {e : Expr} {es : List Expr} {t : TA} {p pos : Pos}
theorem pe_has (h : Has X.prog X.w X.K X.mg X.base x ps k sp) (hr : Room k X.A) (hg : Gl X x) (ha : PA X (e :: es) t) (hdb : (x == ("__debug__" : Str)) = false := by decide) (he : starEach (e :: es) X.env = (false, eval e X.env) :: starEach es X.env := by rfl)
    (hpl : (backTo pos (starEach es X.env)).any (·.1) = false := by rfl) : PE X (.Call (.Name x p) (e :: es) [] pos) (tCall sp [] E0 t) := by
  obtain ⟨f, fd, F, g, kp, b⟩ := h
  exact pe_call F hr hg g kp b .nil pass0 ha hdb he hpl
end
section
variable {P : Program} {w : World} {K : PySem.W.Frag} {mg : Str → Option Value} {base : Heap} {x : Str} {st : Stmt} {N ps : List Str} {k : Nat}
theorem SpF.len {R : List A → A → Prop} (hl : ∀ as r, R as r → as.length = ps.length) : ∀ vs H Q E, SpF K R vs H Q E → vs.length = ps.length := by
  rintro vs H Q E ⟨G, as, r, _, rv, hR, _⟩
  rw [rv.length]
  exact hl as r hR
theorem SpN.len {R : List A → List D → Prop} (hl : ∀ as r, R as r → as.length = ps.length) : ∀ vs H Q E, SpN K R vs H Q E → vs.length = ps.length := by
  rintro vs H Q E ⟨G, as, r, _, rv, hR, _⟩
  rw [rv.length]
  exact hl as r hR
theorem Sp1.len {R : List A → List D → A → List D → Prop} (hl : ∀ as ds r ds', R as ds r ds' → as.length = ps.length) : ∀ vs H Q E, Sp1 K R vs H Q E → vs.length = ps.length := by
  rintro vs H Q E ⟨G, l, as, xs, ds, r, ds', _, rv, _, _, _, hR, _⟩
  rw [rv.length]
  exact hl as ds r ds' hR
theorem FnScope.le (S : FnScope N ps (defScope st)) : ps.length ≤ N.length := by
  have := congrArg List.length S.pre
  rw [List.length_take] at this
  omega
/-- the ends of a def that returns r -/
abbrev endF (r : A) : AEnds := ⟨fun _ => r = .d .non, fun a _ => a = r ∧ noO r = true, fun _ => False, fun _ => False⟩
abbrev endN (ds : List D) : AEnds := ⟨fun _ => False, fun a e => ∃ k, a = .o k ∧ e.m[k]? = some (some (.lst ds)), fun _ => False, fun _ => False⟩
abbrev end1 (r : A) (ds : List D) : AEnds := ⟨fun e => r = .d .non ∧ e.m[0]? = some (some (.lst ds)), fun a e => a = r ∧ noO r = true ∧ e.m[0]? = some (some (.lst ds)), fun _ => False, fun _ => False⟩
/-- a body: its term and what it does -/
def Body (P : Program) (w : World) (K : PySem.W.Frag) (mg : Str → Option Value) (base : Heap) (N : List Str) (x : Str) (st : Stmt) (k : Nat) (go : TS → Prop) : Prop :=
  ∀ (f : Addr) (cdv : Value) (A : Around) (outer : List PySem.Env) (s : Shared) (H : Hp) (E : XK), Room k (A.deeper (envOfC x (defScope st) s.heap.objs.size f cdv)) →
    ∃ t, PSs (cxOf CX0 P w K mg base N x (defScope st) f cdv A outer s H E).nox (defBody st) t ∧ go t
theorem okF {R : List A → A → Prop} (D : DefAt K mg x st ps) (S : FnScope N ps (defScope st)) (hl : ∀ as r, R as r → as.length = ps.length)
    (hb : Body P w K mg base N x st k fun t => ∀ as r, R as r → AS K 0 t (endF r) ⟨env0 N as, []⟩) : Has P w K mg base x ps (k + 1) (SpF K R) :=
  D.has fun f fd F => F.ok S (SpF.len hl) fun cdv A outer s H vs Q E hr h => by
    obtain ⟨t, ht, go⟩ := hb f cdv A outer s H E hr
    exact ⟨t, ht, run_F h fun as r hR => ⟨by rw [hl as r hR]; exact FnScope.le S, go as r hR⟩⟩
theorem okN {R : List A → List D → Prop} (D : DefAt K mg x st ps) (S : FnScope N ps (defScope st)) (hl : ∀ as r, R as r → as.length = ps.length)
    (hb : Body P w K mg base N x st k fun t => ∀ as r, R as r → AS K 0 t (endN r) ⟨env0 N as, []⟩) : Has P w K mg base x ps (k + 1) (SpN K R) :=
  D.has fun f fd F => F.ok S (SpN.len hl) fun cdv A outer s H vs Q E hr h => by
    obtain ⟨t, ht, go⟩ := hb f cdv A outer s H E hr
    exact ⟨t, ht, run_N h fun as r hR => ⟨by rw [hl as r hR]; exact FnScope.le S, go as r hR⟩⟩
theorem ok1 {R : List A → List D → A → List D → Prop} (D : DefAt K mg x st ps) (S : FnScope N ps (defScope st)) (hl : ∀ as ds r ds', R as ds r ds' → as.length = ps.length)
    (hb : Body P w K mg base N x st k fun t => ∀ as ds r ds', R as ds r ds' → AS K 1 t (end1 r ds') ⟨env0 N as, [some (.lst ds)]⟩) : Has P w K mg base x ps (k + 1) (Sp1 K R) :=
  D.has fun f fd F => F.ok S (Sp1.len hl) fun cdv A outer s H vs Q E hr h => by
    obtain ⟨t, ht, go⟩ := hb f cdv A outer s H E hr
    exact ⟨t, ht, run_1 h fun as ds r ds' hR => ⟨by rw [hl as ds r ds' hR]; exact FnScope.le S, go as ds r ds' hR⟩⟩
/-- a law's promise -/
def spLaw (K : PySem.W.Frag) : Sp := fun vs H Q _ => ∃ (a : Addr) (ns : List Int), vs = [.ref a] ∧ SqL K H a (ns.map V.int) ∧ ns.length ≤ 63 ∧ ∀ H', Q (.bl true) H'
/-- what a law's body is to do -/
def RLaw (K : PySem.W.Frag) (as : List A) (r : A) : Prop := ∃ ns : List Int, as = [.p (ScP K ns)] ∧ ns.length ≤ 63 ∧ r = .d (.bl true)
theorem law_imp : ∀ vs H Q E, spLaw K vs H Q E → SpF K (RLaw K) vs H Q E := by
  rintro vs H Q E ⟨a, ns, rfl, hS, hl, q⟩
  refine ⟨H, [.p (ScP K ns)], .d (.bl true), Same.refl _, .cons (scP hS) .nil, ⟨ns, rfl, hl, rfl⟩, fun v G' H' X rv => ?_⟩
  have : v = .bl true := by cases rv; rfl
  rw [this]
  exact q H'
theorem mk_def {x : Str} {st : Stmt} {f : Addr} {oc : Value} {od an : Option Addr} {osl : Array (Option Value)} {kV doc pm cdv ct : Value} (l : K.lookup f = some ⟨oc, od, .func (PySem.W.fnOf x x (defArgs st) (defBody st) (defScope st) .none kV doc pm an cdv ct), osl⟩)
    (c : PySem.W.codeIn K cdv x = true) (k : PySem.W.keepIn K (.ref f) = true) (g : mg x = some (.ref f))
    (hb : ∀ (kV doc pm : Value) (an : Option Addr) (cdv ct : Value) (us : List Value), us.length = ps.length → bindArgs (PySem.W.fnOf x x (defArgs st) (defBody st) (defScope st) .none kV doc pm an cdv ct) ⟨us, []⟩ = pure (ps.zip us)) : DefAt K mg x st ps :=
  have F := fun_mk (st := st) l c k
  ⟨f, _, F, g, F.binds hb⟩
end
end Ab
namespace Ab
open PySem PySem.Spec PyProof.Rows L2
section
variable {K : PySem.W.Frag} {e : Env} {ta tb tc te : TE} {x y z a b : A} {r r' : R2}
def ALd (K : PySem.W.Frag) (ta : TA) (e : Env) (ds : List D) : Prop := AL K ta e (ds.map .d)
theorem ald_nil : ALd K tNil e [] := al_nil
theorem ald_cons {tr : TA} {d : D} {ds : List D} (h : AE K te e (.d d)) (hr : ALd K tr e ds) : ALd K (tCons te tr) e (d :: ds) := al_cons h hr
theorem an_lst' {t : TA} {ds : List D} (h : ALd K t e ds) (hl : Nat.ble ds.length 1000000 = true := by rfl) : AN K (tLst t) e ds := an_lst h rfl (Nat.le_of_ble_eq_true hl)
theorem ae_tup' {t : TA} {ds : List D} (h : ALd K t e ds) (hl : Nat.ble ds.length 1000000 = true := by rfl) : AE K (tTup t) e (.d (.tup ds)) := ae_tup h rfl (Nat.le_of_ble_eq_true hl)
theorem ae_chain {p q : Bool} (ha : AE K ta e x) (hb : AE K tb e y) (h1 : A2 K r x y e (.d (.bl p))) (hc : p = true → AE K tc e z) (h2 : p = true → A2 K r' y z e (.d (.bl q))) : AE K (tChain r r' ta tb tc) e (.d (.bl (p && q))) := fun B σ G H ad R C c =>
  ha B σ G H ad R _ fun v G1 H1 X1 r1 => hb B σ G1 H1 ad (R.ext X1) _ fun w G2 H2 X2 r2 =>
    h1 B σ G2 H2 ad ((R.ext X1).ext X2) v w (r1.mono X2.gg) r2 _ fun u G3 H3 X3 r3 => by
      cases r3
      refine ⟨p, rfl, ?_⟩
      have X13 := (X1.trans X2).trans X3
      cases p with
      | true =>
        exact hc rfl B σ G3 H3 ad (R.ext X13) _ fun w2 G4 H4 X4 r4 => h2 rfl B σ G4 H4 ad ((R.ext X13).ext X4) w w2 (r2.mono (X3.trans X4).gg) r4 C fun u2 G5 H5 X5 r5 => c u2 G5 H5 ((X13.trans X4).trans X5) r5
      | false => exact c (.bl false) G3 H3 X13 RD.bl
end
end Ab
namespace Ab
open PySem PySem.Spec PyProof.Rows L2
/-- the law's def -/
theorem okLaw {P : Program} {w : World} {K : PySem.W.Frag} {mg : Str → Option Value} {base : Heap} {x : Str} {st : Stmt} {N : List Str} {k : Nat} {y : Str} {f : Addr} {fd : FuncData} (F : Fun K x x st f fd) (S : FnScope N [y] (defScope st))
    (hb : Body P w K mg base N x st k fun t => ∀ as r, RLaw K as r → AS K 0 t (endF r) ⟨env0 N as, []⟩) : FnOk P w K mg base CX0 (k + 1) f fd [y] (spLaw K) :=
  FnOk.imp (F.ok S (SpF.len (R := RLaw K) (by rintro as r ⟨_, rfl, _⟩; rfl)) fun cdv A outer s H vs Q E hr h => by
    obtain ⟨t, ht, go⟩ := hb f cdv A outer s H E hr
    exact ⟨t, ht, run_F h fun as r hR => ⟨by obtain ⟨_, rfl, _⟩ := hR; exact FnScope.le S, go as r hR⟩⟩) law_imp
/-! ### rules that name the written part, for places within a comprehension -/
section
variable {X : Cx} {K : PySem.W.Frag} {o e : Expr} {to te : TE} {apos pos : Pos}
theorem ixlK (hK : X.K = K) : IxR X (rIxL K) := by subst hK; exact ix_list
theorem ixtK (hK : X.K = K) : IxR X (rIxT K) := by subst hK; exact ix_tup
theorem sllK (hK : X.K = K) : SlR X (rSlL K) := by subst hK; exact sl_list
theorem eqDK (hK : X.K = K) (hu : X.A.units + 64 < cLine) : OpR X (compareOp .Eq) (rEqD K) := by subst hK; exact op_eqD hu
theorem neDK (hK : X.K = K) (hu : X.A.units + 64 < cLine) : OpR X (compareOp .NotEq) (rNeD K) := by subst hK; exact op_neD hu
theorem inK (hK : X.K = K) : OpR X (compareOp .In) (rIn K false) := by subst hK; exact op_in_seq
theorem ninK (hK : X.K = K) : OpR X (compareOp .NotIn) (rIn K true) := by subst hK; exact op_notIn_seq
theorem lenK (hK : X.K = K) : CallR X (.builtin "len") (rLenG K) := by subst hK; exact call_len
theorem listK (hK : X.K = K) : CallR X (.type "list") (rListG K) := by subst hK; exact call_list_of
theorem isiK (hK : X.K = K) : CallR X (.builtin "isinstance") (rIsi K) := by subst hK; exact call_isi
abbrev rJoinG (K : PySem.W.Frag) : V → List V → Hp → VK → Prop := fun x xs H Q => ∃ a p, ∃ ys : List Str, x = .str a ∧ xs = [.ref p] ∧ (SqL K H p (ys.map V.str) ∨ SqT K H p (ys.map V.str)) ∧
      (ys.map (·.length)).sum + ys.length * a.length ≤ 16777216 ∧ Q (.str (Txt.join a ys)) H
theorem pe_joinK (hK : X.K = K) (ho : PE X o to) (he : PE X e te) (hs : starEach [e] X.env = [(false, eval e X.env)] := by rfl) (hbase : attributeBase o "join" X.env (eval o X.env) = eval o X.env := by rfl) (hline : (apos.endLine == pos.line) = true := by rfl) :
    PE X (.Call (.Attribute o "join" apos) [e] [] pos) (tM1 (rJoinG K) to te) := by subst hK; exact pe_join ho he hs hbase hline
theorem pi_listK {tg : Expr} (hK : X.K = K) (hl : PE X e te) : PI X tg e (iList K te) := by subst hK; exact pi_list hl
/-- x or y, by the truth of x -/
theorem ae_orT {K : PySem.W.Frag} {e : Env} {ta tb : TE} {d : D} {b : Bool} {z : A} (ha : AE K ta e (.d d)) (ht : ∀ G H v, Same G H → RD K G v d → TruV K v H b) (h1 : b = true → z = .d d) (h2 : b = false → AE K tb e z) : AE K (tOrT K ta tb) e z := fun B σ G H ad R C c =>
  ha B σ G H ad R _ fun v G1 H1 X1 r1 => by
    refine ⟨b, ht G1 H1 v X1.gh r1, ?_⟩
    cases b with
    | true =>
      have := h1 rfl
      subst this
      exact c v G1 H1 X1 r1
    | false => exact h2 rfl B σ G1 H1 ad (R.ext X1) C fun v G2 H2 X2 r2 => c v G2 H2 (X1.trans X2) r2
theorem tr_non {K : PySem.W.Frag} {G H : Hp} {v : V} (s : Same G H) (r : RD K G v .non) : TruV K v H false := by cases r; rfl
theorem tr_tup {K : PySem.W.Frag} {G H : Hp} {v : V} {a : D} {ds : List D} (s : Same G H) (r : RD K G v (.tup (a :: ds))) : TruV K v H true := by
  cases r with
  | tup hq rd =>
    refine .inr (.inl ⟨_, seqT s hq, ?_⟩)
    cases rd
    rfl
theorem AT.le {K : PySem.W.Frag} {tt : TT} {e e' : Env} {b : Bool} (l : Le e e') (h : AT K tt e' b) : AT K tt e b := fun B σ G H ad R => h B σ G H ad (R.le l)
theorem AE.le {K : PySem.W.Frag} {te : TE} {e e' : Env} {a : A} (l : Le e e') (h : AE K te e' a) : AE K te e a := fun B σ G H ad R => h B σ G H ad (R.le l)
theorem AI.n {K : PySem.W.Frag} {wi : TI} {e : Env} {n m : Nat} {f : Nat → D} (h : AI K wi e n f) (hn : n = m) : AI K wi e m f := hn ▸ h
/-- join, the value told -/
theorem am_joinT {K : PySem.W.Frag} {e : Env} {s t : List Nat} {ds : List D} (xs : List (List Nat)) (hd : ds = xs.map .str) (hz : (xs.map (·.length)).sum + xs.length * s.length ≤ 1000000) (ht : TL.joinL s xs = t) :
    AM K (rJoinG K) (.d (.str s)) [.d (.lst ds)] e (.d (.str t)) := by
  subst hd
  subst ht
  exact am_join hz
theorem ones_sum {l : List Nat} : ((l.map fun x => [x]).map (·.length)).sum = l.length := by
  induction l with
  | nil => rfl
  | cons x r ih =>
    rw [List.map_cons, List.map_cons, List.sum_cons, ih, List.length_cons]
    show 1 + r.length = r.length + 1
    omega
theorem ones_join {l : List Nat} : TL.joinL [] (l.map fun x => [x]) = l := by
  rw [joinL_nil]
  induction l with
  | nil => rfl
  | cons x r ih =>
    rw [List.map_cons, List.flatten_cons, ih]
    rfl
end
end Ab
namespace Ab
open PySem PySem.Spec PyProof.Rows L2
/-! ### own instances and dicts; what of them is frozen -/
theorem Paired.look {α β γ : Type} [BEq α] {F : γ → β → Prop} : ∀ {l : List (α × γ)} {m : List (α × β)} {k : α} {y : β}, Paired (fun (p : α × γ) (q : α × β) => p.1 = q.1 ∧ F p.2 q.2) l m → m.lookup k = some y → ∃ x, l.lookup k = some x ∧ F x y
  | _, _, _, _, .nil, h => by cases h
  | (a, x) :: l, (b, z) :: m, k, y, .cons r t, h => by
    obtain ⟨e, f⟩ := r
    have e : a = b := e
    subst e
    rw [List.lookup_cons] at h ⊢
    cases q : (k == a) with
    | true =>
      rw [q] at h
      cases h
      exact ⟨x, rfl, f⟩
    | false =>
      rw [q] at h
      exact Paired.look t h
theorem Paired.look_none {α β γ : Type} [BEq α] {F : γ → β → Prop} : ∀ {l : List (α × γ)} {m : List (α × β)} {k : α}, Paired (fun (p : α × γ) (q : α × β) => p.1 = q.1 ∧ F p.2 q.2) l m → m.lookup k = none → l.lookup k = none
  | _, _, _, .nil, h => rfl
  | (a, x) :: l, (b, z) :: m, k, .cons r t, h => by
    obtain ⟨e, f⟩ := r
    have e : a = b := e
    subst e
    rw [List.lookup_cons] at h ⊢
    cases q : (k == a) with
    | true =>
      rw [q] at h
      cases h
    | false =>
      rw [q] at h
      exact Paired.look_none t h
/-- a frozen store: v is its k-th thing -/
def Frz (K : PySem.W.Frag) (m : List O) (k : Nat) : V → Hp → Prop := fun v G => ∃ (ad : List Addr) (l : Addr), ad.length = m.length ∧ ad[k]? = some l ∧ v = .ref l ∧ ∀ (i : Nat) (a : Addr) (o : O), ad[i]? = some a → m[i]? = some o → ObR K G G ad a o
theorem Frz.mono {K : PySem.W.Frag} {m : List O} {k : Nat} {v : V} {G G' : Hp} (h : Frz K m k v G) (s : Same G G') : Frz K m k v G' := by
  obtain ⟨ad, l, h0, h1, h2, h3⟩ := h
  exact ⟨ad, l, h0, h1, h2, fun i a o e1 e2 => (h3 i a o e1 e2).keep s (List.prefix_refl _) fun u q => s _ _ q⟩
section
variable {K : PySem.W.Frag} {e : Env} {ta tb te : TE} {x y z a b : A} {f : Str} {C : Addr}
/-- an attribute of an own instance -/
theorem ae_fldO {k j : Nat} {fs : List (Str × A)} (ho : AE K ta e (.o k)) (hk : e.m[k]? = some (some (.ins C j fs))) (c : Cls K C) (n : NoAttr K C f) (hf : fs.lookup f = some a) : AE K (tFld K ta f) e a := fun B σ G H ad R cc q =>
  ho B σ G H ad R _ fun v G1 H1 X1 r1 => by
    obtain ⟨l, hl, rfl⟩ := r1
    have R1 := R.ext X1
    obtain ⟨_, _, dx, vs, h1, h2, h3⟩ := R1.op k l _ hl hk
    obtain ⟨u, hu, ru⟩ := Paired.look h3 hf
    exact ⟨l, C, dx, vs, u, rfl, h1, c, n, hu, q u G1 H1 X1 ru⟩
/-- of a frozen one -/
def frzV (K : PySem.W.Frag) (m : List O) : A → A
  | .o i => match m[i]? with
    | some (.lst ds) => .d (.lst ds)
    | _ => .p (Frz K m i)
  | a => a
theorem ae_fldP {m : List O} {k j : Nat} {fs : List (Str × A)} (ho : AE K ta e (.p (Frz K m k))) (hk : m[k]? = some (.ins C j fs)) (c : Cls K C) (n : NoAttr K C f) (hf : fs.lookup f = some a) : AE K (tFld K ta f) e (frzV K m a) := fun B σ G H ad R cc q =>
  ho B σ G H ad R _ fun v G1 H1 X1 r1 => by
    obtain ⟨ad2, l, h0, hl, rfl, hall⟩ := r1 G1 (Same.refl _)
    obtain ⟨dx, vs, h1, h2, h3⟩ := hall k l _ hl hk
    obtain ⟨u, hu, ru⟩ := Paired.look h3 hf
    refine ⟨l, C, dx, vs, u, rfl, X1.gh _ _ h1, c, n, hu, q u G1 H1 X1 ?_⟩
    cases a with
    | no => trivial
    | d x => exact ru
    | p φ => exact ru
    | o i =>
      obtain ⟨l2, hl2, rfl⟩ := ru
      have hi : i < m.length := by
        rw [← h0]
        exact (List.getElem?_eq_some_iff.mp hl2).1
      have hm : m[i]? = some m[i] := List.getElem?_eq_getElem hi
      show RepV K G1 ad _ (match m[i]? with | some (.lst ds) => .d (.lst ds) | _ => .p (Frz K m i))
      have hob := hall i l2 _ hl2 hm
      rw [hm]
      cases ho2 : m[i] with
      | lst ds =>
        rw [ho2] at hob
        obtain ⟨ws, w1, w2⟩ := hob
        exact RD.lst w1 w2
      | dk kds => exact fun G' s => Frz.mono ⟨ad2, l2, h0, hl2, rfl, hall⟩ s
      | ins C2 j2 fs2 => exact fun G' s => Frz.mono ⟨ad2, l2, h0, hl2, rfl, hall⟩ s
      | own k2 => exact fun G' s => Frz.mono ⟨ad2, l2, h0, hl2, rfl, hall⟩ s

/-! ### dicts -/
def kD : Key → D
  | .inl i => .int i
  | .inr x => .str x.cps.toList
def valD (kds : List (Key × D)) (k : Key) : Option D := (kds.find? fun kv => decide (kv.1 = k)).map (·.2)
def putD (kds : List (Key × D)) (k : Key) (v : D) : List (Key × D) :=
  if (kds.any fun kv => decide (kv.1 = k)) = true then kds.map (fun kv => if kv.1 = k then (kv.1, v) else kv) else kds ++ [(k, v)]
theorem rk_any {G : Hp} {k : Key} : ∀ {kvs : List (Key × V)} {kds : List (Key × D)}, RKs K G kvs kds → (kvs.any fun kv => decide (kv.1 = k)) = (kds.any fun kv => decide (kv.1 = k))
  | _, _, .nil => rfl
  | p :: r, q :: s, .cons h t => by
    rw [List.any_cons, List.any_cons, rk_any t, h.1]
theorem rk_val {G : Hp} {k : Key} : ∀ {kvs : List (Key × V)} {kds : List (Key × D)}, RKs K G kvs kds → (valD kds k = none ∧ valV kvs k = none) ∨ ∃ d v, valD kds k = some d ∧ valV kvs k = some v ∧ RD K G v d
  | _, _, .nil => .inl ⟨rfl, rfl⟩
  | (a, v) :: r, (b, d) :: s, .cons h t => by
    obtain ⟨h1, h2⟩ := h
    have h1 : a = b := h1
    subst h1
    by_cases e : a = k
    · refine .inr ⟨d, v, ?_, ?_, h2⟩
      · unfold valD
        rw [List.find?_cons, decide_eq_true e]
        rfl
      · unfold valV
        rw [List.find?_cons, decide_eq_true e]
        rfl
    · have ih := rk_val (k := k) t
      unfold valD valV at ih ⊢
      rw [List.find?_cons, List.find?_cons]
      rw [decide_eq_false e]
      exact ih
theorem rk_put {G : Hp} {k : Key} {v : V} {d : D} (h : RD K G v d) {kvs : List (Key × V)} {kds : List (Key × D)} (r : RKs K G kvs kds) : RKs K G (putK kvs k v) (putD kds k d) := by
  unfold putK putD
  rw [rk_any r]
  by_cases c : (kds.any fun kv => decide (kv.1 = k)) = true
  · rw [if_pos c, if_pos c]
    clear c
    induction r with
    | nil => exact .nil
    | @cons p q r s h2 t ih =>
      obtain ⟨a, u⟩ := p
      obtain ⟨b, w⟩ := q
      obtain ⟨h3, h4⟩ := h2
      have h3 : a = b := h3
      subst h3
      refine .cons ?_ ih
      show (if a = k then (a, v) else (a, u)).1 = (if a = k then (a, d) else (a, w)).1 ∧ RD K G (if a = k then (a, v) else (a, u)).2 (if a = k then (a, d) else (a, w)).2
      by_cases e : a = k
      · rw [if_pos e, if_pos e]
        exact ⟨rfl, h⟩
      · rw [if_neg e, if_neg e]
        exact ⟨rfl, h4⟩
  · rw [if_neg c, if_neg c]
    clear c
    induction r with
    | nil => exact .cons ⟨rfl, h⟩ .nil
    | cons h2 t ih => exact .cons h2 ih
theorem rk_len {G : Hp} : ∀ {kvs : List (Key × V)} {kds : List (Key × D)}, RKs K G kvs kds → kvs.length = kds.length
  | _, _, .nil => rfl
  | _, _, .cons _ t => by rw [List.length_cons, List.length_cons, rk_len t]
theorem RD.key {G : Hp} {v : V} {k : Key} (h : RD K G v (kD k)) : v = kV k := by
  cases k with
  | inl i => cases h; rfl
  | inr x =>
    cases h
    rfl
/-- d.get(k, x), an own dict -/
theorem ae_get2O {i : Nat} {kds : List (Key × D)} {k : Key} {d : D} (hd : AE K ta e (.o i)) (hi : e.m[i]? = some (some (.dk kds))) (hk : AE K tb e (.d (kD k))) (hx : AE K te e (.d d)) : AE K (tDGet2 ta tb te) e (.d ((valD kds k).getD d)) := fun B σ G H ad R c q =>
  hd B σ G H ad R _ fun v G1 H1 X1 r1 => by
    obtain ⟨l, hl, rfl⟩ := r1
    have R1 := R.ext X1
    obtain ⟨_, _, kvs, h1, _⟩ := R1.op i l _ hl hi
    refine ⟨l, rfl, .inl ⟨kvs, .inl h1⟩, hk B σ G1 H1 ad R1 _ fun w G2 H2 X2 r2 => hx B σ G2 H2 ad (R1.ext X2) _ fun u G3 H3 X3 r3 => ?_⟩
    have R3 := (R1.ext X2).ext X3
    obtain ⟨_, _, kvs3, h3, rk⟩ := R3.op i l _ hl hi
    have ew := RD.key r2
    subst ew
    refine ⟨valV kvs3 k, DGet.k h3, ?_⟩
    have X := (X1.trans X2).trans X3
    rcases rk_val (k := k) rk with ⟨e1, e2⟩ | ⟨d1, v1, e1, e2, e3⟩
    · rw [e1] at q
      rw [e2]
      exact q u G3 H3 X r3
    · rw [e1] at q
      rw [e2]
      exact q v1 G3 H3 X e3
/-- d.get(k, x), a frozen dict -/
theorem ae_get2P {m : List O} {i : Nat} {kds : List (Key × D)} {k : Key} {d : D} (hd : AE K ta e (.p (Frz K m i))) (hi : m[i]? = some (.dk kds)) (hk : AE K tb e (.d (kD k))) (hx : AE K te e (.d d)) : AE K (tDGet2 ta tb te) e (.d ((valD kds k).getD d)) := fun B σ G H ad R c q =>
  hd B σ G H ad R _ fun v G1 H1 X1 r1 => by
    obtain ⟨ad2, l, h0, hl, rfl, hall⟩ := r1 G1 (Same.refl _)
    obtain ⟨kvs, h1, rk⟩ := hall i l _ hl hi
    have R1 := R.ext X1
    refine ⟨l, rfl, .inl ⟨kvs, .inl (X1.gh _ _ h1)⟩, hk B σ G1 H1 ad R1 _ fun w G2 H2 X2 r2 => hx B σ G2 H2 ad (R1.ext X2) _ fun u G3 H3 X3 r3 => ?_⟩
    have ew := RD.key r2
    subst ew
    have hX := (X2.trans X3)
    refine ⟨valV kvs k, DGet.k (hX.hh _ _ (X1.gh _ _ h1)), ?_⟩
    have X := (X1.trans X2).trans X3
    rcases rk_val (k := k) rk with ⟨e1, e2⟩ | ⟨d1, v1, e1, e2, e3⟩
    · rw [e1] at q
      rw [e2]
      exact q u G3 H3 X r3
    · rw [e1] at q
      rw [e2]
      exact q v1 G3 H3 X (e3.mono hX.gg)
end
section
variable {K : PySem.W.Frag} {w : Nat} {D : AEnds} {e : Env} {ta tb te : TE}
/-- d[k] = v, an own dict -/
theorem as_dput {i : Nat} {kds : List (Key × Ab.D)} {k : Key} {d : Ab.D} (hv : AE K te e (.d d)) (hd : AE K ta e (.o i)) (hk : AE K tb e (.d (kD k))) (hi : e.m[i]? = some (some (.dk kds))) (hz : kds.length < 1000000) (q : D.nx (e.putO i (.dk (putD kds k d)))) :
    AS K w (sDPut ta tb te) D e := fun B hw C co σ G H ad R =>
  hv B σ G H ad R _ fun v G1 H1 X1 r1 => hd B σ G1 H1 ad (R.ext X1) _ fun u G2 H2 X2 r2 => hk B σ G2 H2 ad ((R.ext X1).ext X2) _ fun y G3 H3 X3 r3 => by
    obtain ⟨l, hl, rfl⟩ := r2
    have ew := RD.key r3
    subst ew
    have R3 := ((R.ext X1).ext X2).ext X3
    obtain ⟨_, _, kvs, h3, rk⟩ := R3.op i l _ hl hi
    refine ⟨l, _, rfl, DPut.k h3 (sz_lt (by rw [rk_len rk]; exact hz)), ?_⟩
    have rv : RD K G3 v d := RD.mono (X2.trans X3).gg r1
    exact co.nx _ σ G3 _ ad q (R3.putO hl hi ⟨_, upd_same, rk_put rv rk⟩)
end
end Ab
namespace Ab
open PySem PySem.Spec PyProof.Rows L2
/-! ### a promise over a store of own things -/
def clA (n : Nat) : A → Bool
  | .o k => decide (k < n)
  | _ => true
def clO (n : Nat) : O → Bool
  | .ins _ j fs => decide (j < n) && fs.all fun p => clA n p.2
  | .own k => decide (k < n)
  | _ => true
theorem pre_of {α : Type} {l l' : List α} (e : l <+: l') {k : Nat} {x : α} (h : l[k]? = some x) : l'[k]? = some x := by
  obtain ⟨t, rfl⟩ := e
  rw [List.getElem?_append_left (List.getElem?_eq_some_iff.mp h).1]
  exact h
theorem take_get {ad : List Addr} {n k : Nat} (h : k < n) : (ad.take n)[k]? = ad[k]? := List.getElem?_take_of_lt h
theorem RepV.cut {K : PySem.W.Frag} {G : Hp} {ad : List Addr} {v : V} {a : A} {n : Nat} (h : RepV K G ad v a) (c : clA n a = true) : RepV K G (ad.take n) v a := by
  cases a with
  | no => trivial
  | d x => exact h
  | p φ => exact h
  | o k =>
    obtain ⟨l, h1, h2⟩ := h
    exact ⟨l, by rw [take_get (of_decide_eq_true c)]; exact h1, h2⟩
theorem RepVs.cut {K : PySem.W.Frag} {G : Hp} {ad : List Addr} {n : Nat} : ∀ {vs : List V} {as : List A}, RepVs K G ad vs as → as.all (clA n) = true → RepVs K G (ad.take n) vs as
  | _, _, .nil, _ => .nil
  | _, _, .cons h r, c => by
    rw [List.all_cons, Bool.and_eq_true] at c
    exact .cons (h.cut c.1) (RepVs.cut r c.2)
theorem RFs.cut {K : PySem.W.Frag} {G : Hp} {ad : List Addr} {n : Nat} : ∀ {vs : List (Str × V)} {fs : List (Str × A)}, RFs K G ad vs fs → (fs.all fun p => clA n p.2) = true → RFs K G (ad.take n) vs fs
  | _, _, .nil, _ => .nil
  | _, _, .cons h r, c => by
    rw [List.all_cons, Bool.and_eq_true] at c
    exact .cons ⟨h.1, h.2.cut c.1⟩ (RFs.cut r c.2)
theorem ObR.cut {K : PySem.W.Frag} {G H : Hp} {ad : List Addr} {l : Addr} {o : O} {n : Nat} (h : ObR K G H ad l o) (c : clO n o = true) : ObR K G H (ad.take n) l o := by
  cases o with
  | lst ds => exact h
  | dk kds => exact h
  | ins C j fs =>
    obtain ⟨dx, vs, h1, h2, h3⟩ := h
    have c : (decide (j < n) && fs.all fun p => clA n p.2) = true := c
    rw [Bool.and_eq_true] at c
    exact ⟨dx, vs, h1, by rw [take_get (of_decide_eq_true c.1)]; exact h2, RFs.cut h3 c.2⟩
  | own k =>
    obtain ⟨x, h1, h2⟩ := h
    exact ⟨x, by rw [take_get (of_decide_eq_true c)]; exact h1, h2⟩
structure Beh (G H G' H' : Hp) (ad ad' : List Addr) (K : PySem.W.Frag) (M' : List O) : Prop where
  gg : Same G G'
  gh : Same G' H'
  kp : ∀ a o, H a = some o → a ∉ ad → H' a = some o
  fr : ∀ a, G' a ≠ none → G a ≠ none ∨ H a = none
  pr : ad <+: ad'
  nd : ad'.Nodup
  ln : ad'.length = M'.length
  nw : ∀ l, l ∈ ad' → l ∉ ad → H l = none
  ob : ∀ (k : Nat) (l : Addr) (o : O), ad'[k]? = some l → M'[k]? = some o → G' l = none ∧ ObR K G' H' ad' l o
def SpM (K : PySem.W.Frag) (R : List A → List O → A → List O → Prop) : Sp := fun vs H Q _ => ∃ G ad as M r M', Same G H ∧ ad.Nodup ∧ ad.length = M.length ∧ (∀ (k : Nat) (l : Addr) (o : O), ad[k]? = some l → M[k]? = some o → G l = none ∧ ObR K G H ad l o) ∧ RepVs K G ad vs as ∧ R as M r M' ∧
  ∀ v G' H' ad', Beh G H G' H' ad ad' K M' → RepV K G' ad' v r → Q v H'
theorem SpM.len {K : PySem.W.Frag} {ps : List Str} {R : List A → List O → A → List O → Prop} (hl : ∀ as M r M', R as M r M' → as.length = ps.length) : ∀ vs H Q E, SpM K R vs H Q E → vs.length = ps.length := by
  rintro vs H Q E ⟨G, ad, as, M, r, M', _, _, _, _, rv, hR, _⟩
  rw [rv.length]
  exact hl _ _ _ _ hR
/-- the ends of such a def -/
abbrev endM (r : A) (M' : List O) : AEnds := ⟨fun e => r = .d .non ∧ M'.map some <+: e.m, fun a e => a = r ∧ M'.map some <+: e.m, fun _ => False, fun _ => False⟩
section
variable {K : PySem.W.Frag} {N : List Str} {vs : List V} {H : Hp} {Q : VK} {E : XK} {t : TS}
theorem run_M {R : List A → List O → A → List O → Prop} (h : SpM K R vs H Q E)
    (hb : ∀ as M r M', R as M r M' → as.length ≤ N.length ∧ M.length ≤ M'.length ∧ clA M'.length r = true ∧ M'.all (clO M'.length) = true ∧ AS K M.length t (endM r M') ⟨env0 N as, M.map some⟩) :
    t { nx := fun _ H' => Q .non H', rt := Q } (L2.start N vs) H := by
  obtain ⟨G, ad, as, M, r, M', s, nd, ln, ob, rv, hR, q⟩ := h
  obtain ⟨hN, hM, hr, hc, hb⟩ := hb as M r M' hR
  have R0 : Rep K ⟨G, H, ad⟩ ⟨env0 N as, M.map some⟩ (L2.start N vs) G H ad := {
    bg := Same.refl _
    gh := s
    fr := fun a h => .inl h
    kp := fun a o h _ => h
    nn := fun a h => h
    al := by
      show ad.length = (M.map some).length
      rw [List.length_map, ln]
    nd := nd
    ah := fun l hl => by
      obtain ⟨k, hk⟩ := List.mem_iff_getElem?.mp hl
      have hkl : k < M.length := by
        rw [← ln]
        exact (List.getElem?_eq_some_iff.mp hk).1
      obtain ⟨_, o⟩ := ob k l _ hk (List.getElem?_eq_getElem hkl)
      obtain ⟨u, hu⟩ := o.some
      rw [hu]
      exact fun y => nomatch y
    ow := List.prefix_refl _
    op := fun k l o h1 h2 => by
      have h2 : (M.map some)[k]? = some (some o) := h2
      rw [List.getElem?_map] at h2
      cases z : M[k]? with
      | none =>
        rw [z] at h2
        cases h2
      | some o' =>
        rw [z] at h2
        cases h2
        obtain ⟨g, ho⟩ := ob k l _ h1 z
        exact ⟨g, .inl (List.mem_of_getElem? h1), ho⟩
    sl := by
      rw [start_len (by rw [rv.length]; exact hN)]
      unfold env0
      rw [List.length_append, List.length_replicate]
      show N.length = as.length + (N.length - as.length)
      omega
    st := st0 rv }
  have fin : ∀ e σ v G' H' adF, M'.map some <+: e.m → Rep K ⟨G, H, ad⟩ e σ G' H' adF → RepV K G' adF v r → Q v H' := by
    intro e σ v G' H' adF hm R' rv'
    have hlen : M'.length ≤ adF.length := by
      rw [R'.al]
      have := hm.length_le
      rwa [List.length_map] at this
    have hmk : ∀ (k : Nat) (o : O), M'[k]? = some o → e.m[k]? = some (some o) := fun k o hk => pre_of hm (by rw [List.getElem?_map, hk]; rfl)
    have hal : (adF.take M'.length).length = M'.length := by
      rw [List.length_take]
      omega
    have hpr : ad <+: adF.take M'.length := by
      obtain ⟨tl, e1⟩ := R'.ow
      refine List.prefix_of_prefix_length_le ⟨tl, e1⟩ (List.take_prefix _ _) ?_
      rw [hal, ln]
      exact hM
    refine q v G' H' (adF.take M'.length) ⟨R'.bg, R'.gh, R'.kp, R'.fr, hpr, R'.nd.sublist (List.take_sublist _ _), hal, fun l hl hn => ?_, fun k l o h1 h2 => ?_⟩ (rv'.cut hr)
    · obtain ⟨k, hk⟩ := List.mem_iff_getElem?.mp hl
      have hkl : k < M'.length := by
        rw [← hal]
        exact (List.getElem?_eq_some_iff.mp hk).1
      rw [take_get hkl] at hk
      obtain ⟨_, how, _⟩ := R'.op k l _ hk (hmk k _ (List.getElem?_eq_getElem hkl))
      rcases how with z | z
      · exact absurd z hn
      · exact z
    · have hkl : k < M'.length := (List.getElem?_eq_some_iff.mp h2).1
      rw [take_get hkl] at h1
      obtain ⟨g, _, ho⟩ := R'.op k l o h1 (hmk k o h2)
      exact ⟨g, ho.cut (List.all_eq_true.mp hc o (List.mem_of_getElem? h2))⟩
  refine hb ⟨G, H, ad⟩ ln _ ⟨?_, ?_, fun _ _ _ _ _ z => z.elim, fun _ _ _ _ _ z => z.elim⟩ _ _ _ ad R0
  · rintro e σ G' H' adF ⟨hr', hm⟩ R'
    exact fin e σ _ G' H' adF hm R' (by rw [hr']; exact RD.non)
  · rintro a e v σ G' H' adF ⟨rfl, hm⟩ R' rv'
    exact fin e σ v G' H' adF hm R' rv'
end
/-- a call whose callee has the first own things (all of them, where it gives back new ones) -/
theorem beh_rep {K : PySem.W.Frag} {B : Bs} {e : Env} {σ : L2.St} {G H G' H' : Hp} {ad ad' : List Addr} {M M' : List O} {rest : List (Option O)} (R : Rep K B e σ G H ad) (hm : e.m = M.map some ++ rest) (hl : M'.length = M.length ∨ rest = []) (b : Beh G H G' H' (ad.take M.length) ad' K M') :
    ad <+: ad' ++ ad.drop M.length ∧ Rep K B ⟨e.s, M'.map some ++ rest⟩ σ G' H' (ad' ++ ad.drop M.length) := by
  have hal : ad.length = M.length + rest.length := by rw [R.al, hm, List.length_append, List.length_map]
  have htk : (ad.take M.length).length = M.length := by rw [List.length_take]; omega
  have hpre : ad <+: ad' ++ ad.drop M.length := by
    obtain ⟨tl, e1⟩ := b.pr
    rcases hl with h | h
    · have : tl = [] := by
        have e2 := congrArg List.length e1
        rw [List.length_append, htk, b.ln, h] at e2
        exact List.eq_nil_of_length_eq_zero (by omega)
      rw [this, List.append_nil] at e1
      rw [← e1, List.take_append_drop]
      exact List.prefix_refl _
    · have hd : ad.drop M.length = [] := List.drop_eq_nil_of_le (by rw [hal, h]; exact Nat.le_refl _)
      have ht : ad.take M.length = ad := List.take_of_length_le (by rw [hal, h]; exact Nat.le_refl _)
      rw [hd, List.append_nil]
      rw [ht] at e1
      exact ⟨tl, e1⟩
  -- the rest stands apart
  have hapart : ∀ l, l ∈ ad.drop M.length → l ∉ ad.take M.length := fun l h1 h2 => by
    have := R.nd
    rw [← List.take_append_drop M.length ad] at this
    exact (List.nodup_append.mp this).2.2 l h2 l h1 rfl
  have hnew : ∀ l, l ∈ ad.drop M.length → l ∉ ad' := fun l h1 h2 => by
    have h3 := b.nw l h2 (hapart l h1)
    exact R.ah l (List.mem_of_mem_drop h1) h3
  have hkeep : ∀ a o, H a = some o → a ∉ ad.take M.length → H' a = some o := b.kp
  have hmem : ∀ l, l ∈ ad' → ∃ u, H' l = some u := fun l hl2 => by
    obtain ⟨k, hk⟩ := List.mem_iff_getElem?.mp hl2
    have hkl : k < M'.length := by
      rw [← b.ln]
      exact (List.getElem?_eq_some_iff.mp hk).1
    obtain ⟨_, ho⟩ := b.ob k l _ hk (List.getElem?_eq_getElem hkl)
    exact ho.some
  have hpsub : ∀ l, l ∈ ad.take M.length → l ∈ ad' := fun l h => b.pr.subset h
  have hm2 : ∀ (k : Nat) (l : Addr) (o : O), (ad' ++ ad.drop M.length)[k]? = some l → (M'.map some ++ rest)[k]? = some (some o) → (ad'[k]? = some l ∧ M'[k]? = some o) ∨ (l ∈ ad.drop M.length ∧ ad[k]? = some l ∧ e.m[k]? = some (some o)) := by
    intro k l o h1 h2
    by_cases hk : k < M'.length
    · rw [List.getElem?_append_left (by rw [b.ln]; exact hk)] at h1
      rw [List.getElem?_append_left (by rw [List.length_map]; exact hk), List.getElem?_map] at h2
      cases z : M'[k]? with
      | none =>
        rw [z] at h2
        cases h2
      | some o' =>
        rw [z] at h2
        cases h2
        exact .inl ⟨h1, rfl⟩
    · rw [List.getElem?_append_right (by rw [b.ln]; omega), b.ln] at h1
      rw [List.getElem?_append_right (by rw [List.length_map]; omega), List.length_map] at h2
      rcases hl with h | h
      · have e1 : M.length + (k - M'.length) = k := by omega
        refine .inr ⟨List.mem_of_getElem? h1, ?_, ?_⟩
        · rw [List.getElem?_drop, e1] at h1
          exact h1
        · rw [hm, List.getElem?_append_right (by rw [List.length_map]; omega), List.length_map, ← h]
          exact h2
      · rw [h] at h2
        cases h2
  refine ⟨hpre, ?_⟩
  exact {
    bg := R.bg.trans b.gg
    gh := b.gh
    fr := fun a h => by
      rcases b.fr a h with q | q
      · exact R.fr a q
      · refine .inr ?_
        cases z : B.H a with
        | none => rfl
        | some o => exact absurd q (R.nn a (by rw [z]; exact fun y => nomatch y))
    kp := fun a o h n => by
      have h1 := R.kp a o h n
      refine hkeep a o h1 fun hin => ?_
      obtain ⟨k, hk⟩ := List.mem_iff_getElem?.mp hin
      have hkl : k < M.length := by
        have := (List.getElem?_eq_some_iff.mp hk).1
        omega
      rw [take_get hkl] at hk
      have hmk : e.m[k]? = some (some M[k]) := by
        rw [hm, List.getElem?_append_left (by rw [List.length_map]; exact hkl), List.getElem?_map, List.getElem?_eq_getElem hkl]
        rfl
      obtain ⟨_, how, _⟩ := R.op k a _ hk hmk
      rcases how with z | z
      · exact n z
      · rw [z] at h
        cases h
    nn := fun a h => by
      have q := R.nn a h
      by_cases hin : a ∈ ad.take M.length
      · obtain ⟨u, hu⟩ := hmem a (hpsub a hin)
        rw [hu]
        exact fun y => nomatch y
      · cases z : H a with
        | none => exact absurd z q
        | some o =>
          rw [hkeep a o z hin]
          exact fun y => nomatch y
    al := by
      show (ad' ++ ad.drop M.length).length = (M'.map some ++ rest).length
      rw [List.length_append, List.length_append, List.length_map, List.length_drop, b.ln]
      omega
    nd := List.nodup_append.mpr ⟨b.nd, R.nd.sublist (List.drop_sublist _ _), fun x hx y hy e1 => hnew y hy (e1 ▸ hx)⟩
    ah := fun l h => by
      rcases List.mem_append.mp h with q | q
      · obtain ⟨u, hu⟩ := hmem l q
        rw [hu]
        exact fun y => nomatch y
      · have q1 := R.ah l (List.mem_of_mem_drop q)
        cases z : H l with
        | none => exact absurd z q1
        | some o =>
          rw [hkeep l o z (hapart l q)]
          exact fun y => nomatch y
    ow := R.ow.trans hpre
    op := fun k l o h1 h2 => by
      rcases hm2 k l o h1 h2 with ⟨k1, k2⟩ | ⟨k0, k1, k2⟩
      · obtain ⟨g, ho⟩ := b.ob k l o k1 k2
        refine ⟨g, ?_, ho.keep (Same.refl _) (List.prefix_append _ _) fun u h => h⟩
        by_cases hin : l ∈ ad.take M.length
        · obtain ⟨j, hj⟩ := List.mem_iff_getElem?.mp hin
          have hjl : j < M.length := by
            have := (List.getElem?_eq_some_iff.mp hj).1
            omega
          rw [take_get hjl] at hj
          have hmj : e.m[j]? = some (some M[j]) := by
            rw [hm, List.getElem?_append_left (by rw [List.length_map]; exact hjl), List.getElem?_map, List.getElem?_eq_getElem hjl]
            rfl
          exact (R.op j l _ hj hmj).2.1
        · have hz := b.nw l (List.mem_of_getElem? k1) hin
          refine .inr ?_
          cases z : B.H l with
          | none => rfl
          | some o => exact absurd hz (R.nn l (by rw [z]; exact fun y => nomatch y))
      · obtain ⟨g, how, ho⟩ := R.op k l o k1 k2
        obtain ⟨u, hu⟩ := ho.some
        refine ⟨?_, how, ho.keep b.gg hpre fun u h => hkeep l u h (hapart l k0)⟩
        cases z : G' l with
        | none => rfl
        | some o2 =>
          rcases b.fr l (by rw [z]; exact fun y => nomatch y) with q | q
          · exact absurd g q
          · rw [hu] at q
            cases q
    sl := R.sl
    st := fun i a h => by
      rcases R.st i a h with q | ⟨v, q1, q2⟩
      · exact .inl q
      · exact .inr ⟨v, q1, (q2.mono b.gg).pre hpre⟩ }
section
variable {K : PySem.W.Frag} {e : Env} {ta : TE} {tl : TA} {as : List A} {E : XK} {Q : A → Env → Prop} {r : A} {M M' : List O} {rest : List (Option O)} {R : List A → List O → A → List O → Prop}
/-- from the arguments' values -/
theorem spM_use {B : Bs} {σ : L2.St} {G H : Hp} {ad : List Addr} {vs : List V} {C : VK} (Rp : Rep K B e σ G H ad) (rv : RepVs K G ad vs as) (hm : e.m = M.map some ++ rest) (hl : M'.length = M.length ∨ rest = []) (hc : as.all (clA M.length) = true) (hcM : M.all (clO M.length) = true) (hR : R as M r M')
    (c : ∀ v G' H' ad', Same G G' → ad <+: ad' → Rep K B ⟨e.s, M'.map some ++ rest⟩ σ G' H' ad' → RepV K G' ad' v r → C v H') : SpM K R vs H C E := by
  have hal : ad.length = M.length + rest.length := by rw [Rp.al, hm, List.length_append, List.length_map]
  refine ⟨G, ad.take M.length, as, M, r, M', Rp.gh, Rp.nd.sublist (List.take_sublist _ _), by rw [List.length_take]; omega, fun k l o h1 h2 => ?_, rv.cut hc, hR, fun v G' H' ad' b rv' => ?_⟩
  · have hkl : k < M.length := (List.getElem?_eq_some_iff.mp h2).1
    rw [take_get hkl] at h1
    have hmk : e.m[k]? = some (some o) := by
      rw [hm, List.getElem?_append_left (by rw [List.length_map]; exact hkl), List.getElem?_map, h2]
      rfl
    obtain ⟨g, _, ho⟩ := Rp.op k l o h1 hmk
    exact ⟨g, ho.cut (List.all_eq_true.mp hcM o (List.mem_of_getElem? h2))⟩
  · obtain ⟨hp, R2⟩ := beh_rep Rp hm hl b
    exact c v G' H' _ b.gg hp R2 (rv'.pre (List.prefix_append _ _))
theorem ax_callM (M M' : List O) (rest : List (Option O)) (h : AL K tl e as) (hm : e.m = M.map some ++ rest) (hl : M'.length = M.length ∨ rest = []) (hc : as.all (clA M.length) = true) (hcM : M.all (clO M.length) = true) (hR : R as M r M')
    (q : Q r ⟨e.s, M'.map some ++ rest⟩) : AX K (tCall (SpM K R) [] E tl) e Q := fun B σ G H ad Rp C c =>
  h B σ G H ad Rp _ fun vs G1 H1 X1 rv => by
    have h2 := spM_use (E := E) (Rp.ext X1) rv hm hl hc hcM hR fun v G' H' ad' s p R2 rv' => c r _ v G' H' ad' q (X1.gg.trans s) p R2 rv'
    rw [← List.append_nil vs] at h2
    exact h2
/-- a method of an own instance -/
theorem ax_methM {C0 : Addr} {m : Str} {k j : Nat} {fs : List (Str × A)} (M M' : List O) (rest : List (Option O)) (ho : AE K ta e (.o k)) (hk : e.m[k]? = some (some (.ins C0 j fs))) (hf : fs.lookup m = none) (h : AL K tl e as) (hm : e.m = M.map some ++ rest) (hl : M'.length = M.length ∨ rest = [])
    (hc : (A.o k :: as).all (clA M.length) = true) (hcM : M.all (clO M.length) = true) (hR : R (.o k :: as) M r M') (q : Q r ⟨e.s, M'.map some ++ rest⟩) : AX K (tMeth C0 m (SpM K R) [] E ta tl) e Q := fun B σ G H ad Rp C c =>
  ho B σ G H ad Rp _ fun v G1 H1 X1 r1 => by
    have R1 := Rp.ext X1
    obtain ⟨l, hl1, rfl⟩ := r1
    obtain ⟨_, _, dx, vs0, h1, h2, h3⟩ := R1.op k l _ hl1 hk
    refine ⟨l, dx, vs0, rfl, h1, Paired.look_none h3 hf, h B σ G1 H1 ad R1 _ fun vs G2 H2 X2 rv => ?_⟩
    have h4 := spM_use (E := E) (vs := .ref l :: vs) (R1.ext X2) (RepVs.cons (a := .o k) (show RepV K G2 ad (.ref l) (.o k) from ⟨l, hl1, rfl⟩) rv) hm hl hc hcM hR fun v G' H' ad' s p R2 rv' => c r _ v G' H' ad' q ((X1.gg.trans X2.gg).trans s) p R2 rv'
    rw [List.append_nil]
    exact h4
/-- a method of a frozen instance -/
theorem ae_methP {C0 : Addr} {m : Str} {m0 : List O} {k j : Nat} {fs : List (Str × A)} {R : List A → A → Prop} (ho : AE K ta e (.p (Frz K m0 k))) (hk : m0[k]? = some (.ins C0 j fs)) (hf : fs.lookup m = none) (h : AL K tl e as) (hn : as.all noO = true) (hR : R (.p (Frz K m0 k) :: as) r) (nr : noO r = true := by rfl) :
    AE K (tMeth C0 m (SpF K R) [] E ta tl) e r := fun B σ G H ad Rp C c =>
  ho B σ G H ad Rp _ fun v G1 H1 X1 r1 => by
    have R1 := Rp.ext X1
    have r1' := r1
    obtain ⟨ad2, l, h0, hl, rfl, hall⟩ := r1 G1 (Same.refl _)
    obtain ⟨dx, vs0, h1, h2, h3⟩ := hall k l _ hl hk
    refine ⟨l, dx, vs0, rfl, X1.gh _ _ h1, Paired.look_none h3 hf, h B σ G1 H1 ad R1 _ fun vs G2 H2 X2 rv => ?_⟩
    refine ⟨G2, _, r, X2.gh, ?_, hR, fun v G3 H3 X3 rv3 => c v G3 H3 ((X1.trans X2).trans X3) (rv3.any nr)⟩
    rw [List.append_nil]
    exact .cons (fun G' s => r1' G' (X2.gg.trans s)) (rv.any hn)
end
/-! ### all own things frozen -/
def frzS (K : PySem.W.Frag) (m : List O) (a : A) : A := frzV K m a
theorem as_frzAll {K : PySem.W.Frag} {D : AEnds} {t : TS} {sl : List A} {m : List O} (h : AS K 0 t D ⟨sl.map (frzV K m), []⟩) : AS K 0 t D ⟨sl, m.map some⟩ := fun B hB C co σ G H ad R => by
  have how : B.ow = [] := List.eq_nil_of_length_eq_zero hB
  have hln : ad.length = m.length := by
    rw [R.al]
    show (m.map some).length = _
    rw [List.length_map]
  have hop : ∀ (k : Nat) (l : Addr) (o : O), ad[k]? = some l → m[k]? = some o → G l = none ∧ B.H l = none ∧ ObR K G H ad l o := fun k l o h1 h2 => by
    obtain ⟨g, w, ob⟩ := R.op k l o h1 (by show (m.map some)[k]? = _; rw [List.getElem?_map, h2]; rfl)
    rcases w with z | z
    · rw [how] at z
      cases z
    · exact ⟨g, z, ob⟩
  have hin : ∀ l, l ∈ ad → G l = none ∧ B.H l = none := fun l hl => by
    obtain ⟨k, hk⟩ := List.mem_iff_getElem?.mp hl
    have hkl : k < m.length := by
      rw [← hln]
      exact (List.getElem?_eq_some_iff.mp hk).1
    obtain ⟨g, z, _⟩ := hop k l _ hk (List.getElem?_eq_getElem hkl)
    exact ⟨g, z⟩
  -- the data with the own things in it
  let G2 : Hp := fun a => if a ∈ ad then H a else G a
  have e1 : ∀ a, a ∈ ad → G2 a = H a := fun a ha => if_pos ha
  have e2 : ∀ a, a ∉ ad → G2 a = G a := fun a ha => if_neg ha
  have gg : Same G G2 := fun a o ha => by
    have hn : a ∉ ad := fun z => by
      rw [(hin a z).1] at ha
      cases ha
    rw [e2 a hn]
    exact ha
  have gh : Same G2 H := fun a o ha => by
    by_cases hn : a ∈ ad
    · rw [e1 a hn] at ha
      exact ha
    · rw [e2 a hn] at ha
      exact R.gh _ _ ha
  have hall : ∀ (i : Nat) (a : Addr) (o : O), ad[i]? = some a → m[i]? = some o → ObR K G2 G2 ad a o := fun i a o h1 h2 => by
    obtain ⟨_, _, ob⟩ := hop i a o h1 h2
    exact ob.keep gg (List.prefix_refl _) fun u hu => by
      rw [e1 a (List.mem_of_getElem? h1)]
      exact hu
  have R2 : Rep K B ⟨sl.map (frzV K m), []⟩ σ G2 H [] := {
    bg := R.bg.trans gg
    gh := gh
    fr := fun a h => by
      by_cases hn : a ∈ ad
      · exact .inr (hin a hn).2
      · rw [e2 a hn] at h
        exact R.fr a h
    kp := R.kp
    nn := R.nn
    al := rfl
    nd := List.nodup_nil
    ah := fun l h => by cases h
    ow := by
      rw [how]
      exact List.prefix_refl _
    op := fun k l o h1 _ => by cases h1
    sl := by
      show σ.length = (sl.map (frzV K m)).length
      rw [List.length_map]
      exact R.sl
    st := fun i a q => by
      have q : (sl.map (frzV K m))[i]? = some a := q
      rw [List.getElem?_map] at q
      cases z : sl[i]? with
      | none =>
        rw [z] at q
        cases q
      | some b =>
        rw [z] at q
        have q : frzV K m b = a := Option.some.inj q
        subst q
        rcases R.st i b z with rfl | ⟨v, z1, z2⟩
        · exact .inl rfl
        · refine .inr ⟨v, z1, ?_⟩
          cases b with
          | no => trivial
          | d x => exact RD.mono gg z2
          | p φ => exact fun G3 s3 => z2 G3 (gg.trans s3)
          | o k =>
            obtain ⟨l, hl, rfl⟩ := z2
            have hkl : k < m.length := by
              rw [← hln]
              exact (List.getElem?_eq_some_iff.mp hl).1
            have hmk : m[k]? = some m[k] := List.getElem?_eq_getElem hkl
            show RepV K G2 [] _ (match m[k]? with | some (.lst ds) => .d (.lst ds) | _ => .p (Frz K m k))
            have hob := hall k l _ hl hmk
            have hfz : Frz K m k (.ref l) G2 := ⟨ad, l, hln, hl, rfl, hall⟩
            rw [hmk]
            cases ho2 : m[k] with
            | lst ds =>
              rw [ho2] at hob
              obtain ⟨ws, w1, w2⟩ := hob
              exact RD.lst w1 w2
            | dk kds => exact fun G' s => hfz.mono s
            | ins C2 j2 fs2 => exact fun G' s => hfz.mono s
            | own k2 => exact fun G' s => hfz.mono s }
  exact h B hB C co σ G2 H [] R2
end Ab
namespace Ab
open PySem PySem.Spec PyProof.Rows L2
/-! ### methods of the text -/
def MethAt (K : PySem.W.Frag) (C : Addr) (m qual : Str) (st : Stmt) (ps : List Str) : Prop := ∃ f fd, Fun K m qual st f fd ∧ Meth K C m f ∧ Binds K fd ps []
def HasM (P : Program) (w : World) (K : PySem.W.Frag) (mg : Str → Option Value) (base : Heap) (C : Addr) (m : Str) (ps : List Str) (k : Nat) (sp : Sp) : Prop :=
  ∃ f fd, FnOk P w K mg base CX0 k f fd ps sp ∧ Meth K C m f ∧ Binds K fd ps []
section
variable {X : Cx} {C : Addr} {m : Str} {ps : List Str} {k : Nat} {sp : Sp} {o e : Expr} {es : List Expr} {ta : TE} {t : TA} {apos pos : Pos}
theorem pe_hasM {pl : Sem Bool} (c : Cls X.K C) (h : HasM X.prog X.w X.K X.mg X.base C m ps k sp) (hr : Room k X.A) (he : PE X o ta) (ha : PA X (e :: es) t)
    (hst : starEach (e :: es) X.env = (false, eval e X.env) :: starEach es X.env := by rfl) (hpl : (backTo pos (starEach es X.env)).any (·.1) = false := by rfl)
    (ht : eval (.Call (.Attribute o m apos) (e :: es) [] pos) X.env = (do
      let ov ← eval o X.env
      standAt apos.atName
      let (f, first) ← holding [ov] (getMethod ov m pl)
      callWith pos f first (backTo pos (starEach (e :: es) X.env)) (backToKw pos (keywordEach [] X.env))) := by rfl) :
    PE X (.Call (.Attribute o m apos) (e :: es) [] pos) (tMeth C m sp [] E0 ta t) := by
  obtain ⟨f, fd, F, mt, b⟩ := h
  exact pe_meth he c mt F hr b .nil pass0 ha hst hpl ht
theorem pe_hasM0 {pl : Sem Bool} (c : Cls X.K C) (h : HasM X.prog X.w X.K X.mg X.base C m ps k sp) (hr : Room k X.A) (he : PE X o ta)
    (ht : eval (.Call (.Attribute o m apos) [] [] pos) X.env = (do
      let ov ← eval o X.env
      standAt apos.atName
      let (f, first) ← holding [ov] (getMethod ov m pl)
      callWith pos f first (backTo pos (starEach [] X.env)) (backToKw pos (keywordEach [] X.env))) := by rfl) :
    PE X (.Call (.Attribute o m apos) [] [] pos) (tMeth C m sp [] E0 ta tNil) := by
  obtain ⟨f, fd, F, mt, b⟩ := h
  exact pe_meth0 he c mt F hr b .nil pass0 ht
/-- xs[i] for xs[i] op= e -/
theorem get_list : PGet X (rIxL X.K) := by
  intro pins s σ H x y v u Q I rx ry h
  obtain ⟨p, xs, i, z, rfl, rfl, hq, he, q⟩ := h
  cases rx
  obtain ⟨t, rfl⟩ := ry
  obtain ⟨its, r, pl, hz⟩ := I.list hq
  obtain ⟨j, h1, h2, h3, h4, h5⟩ := atI_get he
  obtain ⟨w, ew, rw'⟩ := r.get h2
  have hl := r.length
  have hn := line63
  by_cases h0 : 0 ≤ i
  · have hj : i.toNat = j := by
      rw [seqIndex_of h0 h5] at h1
      exact Option.some.inj h1
    exact wpAny_getItem_list pl.isList h0 (by omega) (by rw [hj]; simpa using ew) ⟨z, H, I, rw', q⟩
  · have hj : (i + (its.toArray.size : Int)).toNat = j := by
      rw [seqIndex_neg (by omega) h4] at h1
      rw [List.size_toArray, ← hl]
      exact Option.some.inj h1
    exact wpAny_getItem_list_neg pl.isList (by omega) (by rw [List.size_toArray] <;> omega) (by omega) (by rw [hj]; simpa using ew) ⟨z, H, I, rw', q⟩
end
section
variable {P : Program} {w : World} {K : PySem.W.Frag} {mg : Str → Option Value} {base : Heap} {x qual : Str} {st : Stmt} {N ps : List Str} {k : Nat} {C : Addr}
/-- as Body, of a method -/
def BodyQ (P : Program) (w : World) (K : PySem.W.Frag) (mg : Str → Option Value) (base : Heap) (N : List Str) (qual : Str) (st : Stmt) (k : Nat) (go : TS → Prop) : Prop :=
  ∀ (f : Addr) (cdv : Value) (A : Around) (outer : List PySem.Env) (s : Shared) (H : Hp) (E : XK), Room k (A.deeper (envOfC qual (defScope st) s.heap.objs.size f cdv)) →
    ∃ t, PSs (cxOf CX0 P w K mg base N qual (defScope st) f cdv A outer s H E).nox (defBody st) t ∧ go t
abbrev GoM (K : PySem.W.Frag) (N : List Str) (R : List A → List O → A → List O → Prop) (t : TS) : Prop :=
  ∀ as M r M', R as M r M' → M.length ≤ M'.length ∧ clA M'.length r = true ∧ M'.all (clO M'.length) = true ∧ AS K M.length t (endM r M') ⟨env0 N as, M.map some⟩
theorem okM {R : List A → List O → A → List O → Prop} (DD : DefAt K mg x st ps) (S : FnScope N ps (defScope st)) (hl : ∀ as M r M', R as M r M' → as.length = ps.length) (hb : Body P w K mg base N x st k (GoM K N R)) : Has P w K mg base x ps (k + 1) (SpM K R) :=
  DD.has fun f fd F => F.ok S (SpM.len hl) fun cdv A outer s H vs Q E hr h => by
    obtain ⟨t, ht, go⟩ := hb f cdv A outer s H E hr
    exact ⟨t, ht, run_M h fun as M r M' hR => ⟨by rw [hl _ _ _ _ hR]; exact FnScope.le S, go as M r M' hR⟩⟩
theorem okMM {R : List A → List O → A → List O → Prop} (DD : MethAt K C x qual st ps) (S : FnScope N ps (defScope st)) (hl : ∀ as M r M', R as M r M' → as.length = ps.length) (hb : BodyQ P w K mg base N qual st k (GoM K N R)) : HasM P w K mg base C x ps (k + 1) (SpM K R) := by
  obtain ⟨f, fd, F, m, b⟩ := DD
  refine ⟨f, fd, F.ok S (SpM.len hl) fun cdv A outer s H vs Q E hr h => ?_, m, b⟩
  obtain ⟨t, ht, go⟩ := hb f cdv A outer s H E hr
  exact ⟨t, ht, run_M h fun as M r M' hR => ⟨by rw [hl _ _ _ _ hR]; exact FnScope.le S, go as M r M' hR⟩⟩
theorem okMF {R : List A → A → Prop} (DD : MethAt K C x qual st ps) (S : FnScope N ps (defScope st)) (hl : ∀ as r, R as r → as.length = ps.length) (hb : BodyQ P w K mg base N qual st k fun t => ∀ as r, R as r → AS K 0 t (endF r) ⟨env0 N as, []⟩) : HasM P w K mg base C x ps (k + 1) (SpF K R) := by
  obtain ⟨f, fd, F, m, b⟩ := DD
  refine ⟨f, fd, F.ok S (SpF.len hl) fun cdv A outer s H vs Q E hr h => ?_, m, b⟩
  obtain ⟨t, ht, go⟩ := hb f cdv A outer s H E hr
  exact ⟨t, ht, run_F h fun as r hR => ⟨by rw [hl _ _ hR]; exact FnScope.le S, go as r hR⟩⟩
theorem mk_meth {f : Addr} {oc : Value} {od an : Option Addr} {osl : Array (Option Value)} {kV doc pm cdv ct : Value} (a : PySem.W.findIn K (.ref C) x = some (some (.ref f))) (i : PySem.W.isFn K (.ref f) = true) (l : K.lookup f = some ⟨oc, od, .func (PySem.W.fnOf x qual (defArgs st) (defBody st) (defScope st) .none kV doc pm an cdv ct), osl⟩)
    (c : PySem.W.codeIn K cdv qual = true) (k : PySem.W.keepIn K (.ref f) = true)
    (hb : ∀ (kV doc pm : Value) (an : Option Addr) (cdv ct : Value) (us : List Value), us.length = ps.length → bindArgs (PySem.W.fnOf x qual (defArgs st) (defBody st) (defScope st) .none kV doc pm an cdv ct) ⟨us, []⟩ = pure (ps.zip us)) : MethAt K C x qual st ps :=
  have F := fun_mk (st := st) l c k
  ⟨f, _, F, ⟨a, i, k⟩, F.binds hb⟩
end
/-! ### attributes stored, own lists changed in place, new instances -/
section
variable {K : PySem.W.Frag} {w : Nat} {D : AEnds} {e : Env} {ta tb te to ti : TE}
def putFA (f : Str) (a : A) : List (Str × A) → List (Str × A)
  | [] => [(f, a)]
  | (g, x) :: r => if g = f then (g, a) :: r else (g, x) :: putFA f a r
theorem rf_put {G : Hp} {ad : List Addr} {f : Str} {v : V} {a : A} (h : RepV K G ad v a) : ∀ {vs : List (Str × V)} {fs : List (Str × A)}, RFs K G ad vs fs → RFs K G ad (putF f v vs) (putFA f a fs)
  | _, _, .nil => .cons ⟨rfl, h⟩ .nil
  | (g, x) :: r, (g', y) :: s, .cons q t => by
    obtain ⟨e1, e2⟩ := q
    have e1 : g = g' := e1
    subst e1
    show RFs K G ad (if g = f then (g, v) :: r else (g, x) :: putF f v r) (if g = f then (g, a) :: s else (g, y) :: putFA f a s)
    by_cases c : g = f
    · rw [if_pos c, if_pos c]
      exact .cons ⟨rfl, h⟩ t
    · rw [if_neg c, if_neg c]
      exact .cons ⟨rfl, e2⟩ (rf_put h t)
theorem rf_len {G : Hp} {ad : List Addr} : ∀ {vs : List (Str × V)} {fs : List (Str × A)}, RFs K G ad vs fs → vs.length = fs.length
  | _, _, .nil => rfl
  | _, _, .cons _ t => by rw [List.length_cons, List.length_cons, rf_len t]
theorem as_fldX {k : Nat} {f : Str} {C : Addr} (hv : AX K te e fun a e' => ∃ j fs, AE K ta e' (.o k) ∧ e'.m[k]? = some (some (.ins C j fs)) ∧ fs.length < 1000 ∧ D.nx (e'.putO k (.ins C j (putFA f a fs)))) (c : Cls K C) (n : NoAttr K C f) : AS K w (sFld K ta te f) D e := fun B hw C0 co σ G H ad R =>
  hv B σ G H ad R _ fun a e' v G1 H1 ad1 q _ _ R1 r1 => by
    obtain ⟨j, fs, ho, hk, hl, q⟩ := q
    refine ho B σ G1 H1 ad1 R1 _ fun u G2 H2 X2 r2 => ?_
    obtain ⟨l, hl2, rfl⟩ := r2
    have R2 := R1.ext X2
    obtain ⟨_, _, dx, vs, h1, h2, h3⟩ := R2.op k l _ hl2 hk
    refine ⟨l, C, dx, vs, rfl, h1, c, n, by rw [rf_len h3]; exact hl, ?_⟩
    exact co.nx _ σ G2 _ ad1 q (R2.putO hl2 hk ⟨dx, _, upd_same, h2, rf_put (r1.mono X2.gg) h3⟩)
/-- xs[i] op= y on an own list of ints -/
theorem as_augI {k j : Nat} {i a b : Int} {g : Int → Int → V} {cc : Int} {ds : List Ab.D} (ho : AE K to e (.o k)) (hi : AE K ti e (.d (.int i))) (he : AE K te e (.d (.int b))) (hk : e.m[k]? = some (some (.lst ds))) (hj : ixN ds.length i = some j) (ha : ds[j]? = some (.int a)) (hg : g a b = .int cc)
    (q : D.nx (e.put k (ds.set j (.int cc)))) : AS K w (tAugS to ti te (rIxL K) (rI0 g) rSetL) D e := fun B hw C co σ G H ad R =>
  ho B σ G H ad R _ fun v G1 H1 X1 r1 => hi B σ G1 H1 ad (R.ext X1) _ fun v2 G2 H2 X2 r2 => by
    obtain ⟨l, hl, rfl⟩ := r1
    cases r2
    have R2 := (R.ext X1).ext X2
    obtain ⟨_, _, vs, h0, rd⟩ := R2.op k l _ hl hk
    obtain ⟨u, hu, ru⟩ := rd.get ha
    cases ru
    refine ⟨l, vs, i, .int a, rfl, rfl, .inl (.inl h0), ?_, he B σ G2 H2 ad R2 _ fun v3 G3 H3 X3 r3 => ?_⟩
    · unfold atI
      rw [rd.length, hj]
      exact hu
    · cases r3
      have R3 := R2.ext X3
      obtain ⟨_, _, vs3, h3, rd3⟩ := R3.op k l _ hl hk
      refine ⟨a, b, rfl, rfl, l, vs3, i, j, rfl, rfl, h3, by rw [rd3.length]; exact hj, ?_⟩
      rw [hg]
      exact co.nx _ σ G3 _ ad q (R3.put hl hk (rd3.set RD.int j))
/-- {} -/
theorem ax_dnew {Q : A → Env → Prop} (q : Q (.o e.m.length) (e.addO (.dk []))) : AX K tDNewK e Q := fun B σ G H ad R C c => by
  intro p hp
  have hb := R.apart hp
  have X := Xt.drop (o := .dK []) R.gh hp
  have R1 := R.ext X
  have na : p ∉ ad := R.fresh hp
  refine c _ _ _ G _ (ad ++ [p]) q (Same.refl _) (List.prefix_append _ _) (R1.addO hb.1 hb.2 na ⟨[], upd_same, .nil⟩) ⟨p, ?_, rfl⟩
  rw [← R.al, List.getElem?_append_right (Nat.le_refl _), Nat.sub_self]
  rfl
/-- C() -/
theorem ax_make0 {C0 : Addr} {E : XK} {R : List A → List O → A → List O → Prop} {Q : A → Env → Prop} {M' : List O} (h0 : e.m = []) (hR : R [.o 0] [.ins C0 1 [], .own 0] (.d .non) M') (q : Q (.o 0) ⟨e.s, M'.map some⟩) : AX K (tMake C0 (SpM K R) [] E tNil) e Q := fun B σ G H ad Rp C c => by
  intro x dx hx hdx hne
  have had : ad = [] := by
    have := Rp.al
    rw [h0] at this
    exact List.eq_nil_of_length_eq_zero this
  subst had
  have b1 := Rp.apart hdx
  have b2 := Rp.apart hx
  -- the dict, then the instance
  have R1 : Rep K B e σ G (upd (upd H dx (.own x)) x (.ins C0 dx [])) [] := by
    have X1 := Xt.drop (o := .own x) Rp.gh hdx
    have hx1 : (upd H dx (.own x)) x = none := by
      rw [upd_ne (Ne.symm hne)]
      exact hx
    exact (Rp.ext X1).ext (Xt.drop (o := .ins C0 dx []) X1.gh hx1)
  have R2 : Rep K B (e.addO (.ins C0 1 [])) σ G (upd (upd H dx (.own x)) x (.ins C0 dx [])) [] → True := fun _ => trivial
  let H2 := upd (upd H dx (.own x)) x (.ins C0 dx [])
  have e1 : H2 x = some (.ins C0 dx []) := upd_same
  have e2 : H2 dx = some (.own x) := by
    show upd (upd H dx (.own x)) x (.ins C0 dx []) dx = _
    rw [upd_ne hne]
    exact upd_same
  have R3 : Rep K B ⟨e.s, [some (.ins C0 1 []), some (.own 0)]⟩ σ G H2 [x, dx] := {
    bg := R1.bg
    gh := R1.gh
    fr := R1.fr
    kp := R1.kp
    nn := R1.nn
    al := rfl
    nd := by simp [Ne.symm hne]
    ah := fun l h => by
      rcases List.mem_cons.mp h with rfl | h
      · rw [e1]
        exact fun y => nomatch y
      · rw [List.mem_singleton.mp h, e2]
        exact fun y => nomatch y
    ow := by
      have := R1.ow
      obtain ⟨tl, e3⟩ := this
      have : B.ow = [] := (List.append_eq_nil_iff.mp e3).1
      rw [this]
      exact List.nil_prefix
    op := fun k l o h1 h2 => by
      match k with
      | 0 =>
        cases h1
        cases h2
        exact ⟨b2.1, .inr b2.2, dx, [], e1, rfl, .nil⟩
      | 1 =>
        cases h1
        cases h2
        exact ⟨b1.1, .inr b1.2, x, rfl, e2⟩
      | k + 2 => cases h1
    sl := R1.sl
    st := fun i a h => by
      rcases R1.st i a h with q1 | ⟨v, q1, q2⟩
      · exact .inl q1
      · exact .inr ⟨v, q1, q2.pre List.nil_prefix⟩ }
  have h4 := spM_use (E := E) (as := [.o 0]) (M := [.ins C0 1 [], .own 0]) (M' := M') (rest := []) (r := .d .non) (R := R) (vs := [.ref x]) (C := fun v H3 => v = .non ∧ C (.ref x) H3) R3 (RepVs.cons (a := .o 0) (show RepV K G [x, dx] (.ref x) (.o 0) from ⟨x, rfl, rfl⟩) .nil) rfl (.inr rfl) rfl rfl hR fun v G' H' ad' s p R' rv' => by
    refine ⟨by cases rv'; rfl, ?_⟩
    refine c (.o 0) _ (.ref x) G' H' ad' q s List.nil_prefix (by rw [List.append_nil] at R'; exact R') ⟨x, pre_get p rfl, rfl⟩
  exact h4
end
end Ab
/-! ### set(a text) -/
namespace SetT
open PySem PySem.Spec PyProof.Rows
section
variable {κ : Type} [DecidableEq κ]
/-- met among the first i -/
def seen (val : Nat → κ) : Nat → κ → Bool
  | 0 => fun _ => false
  | i + 1 => fun x => seen val i x || decide (x = val i)
/-- how many unlike ones -/
def cnt (val : Nat → κ) : Nat → Nat
  | 0 => 0
  | i + 1 => if seen val i (val i) = true then cnt val i else cnt val i + 1
theorem cnt_le (val : Nat → κ) : ∀ i, cnt val i ≤ i
  | 0 => Nat.le_refl _
  | i + 1 => by
    have := cnt_le val i
    unfold cnt
    split <;> omega
theorem seen_iff (val : Nat → κ) (x : κ) : ∀ i, seen val i x = true ↔ ∃ j, j < i ∧ val j = x
  | 0 => by
    show false = true ↔ _
    simp
  | i + 1 => by
    show (seen val i x || decide (x = val i)) = true ↔ _
    rw [Bool.or_eq_true, seen_iff val x i, decide_eq_true_eq]
    constructor
    · rintro (⟨j, h1, h2⟩ | h)
      · exact ⟨j, by omega, h2⟩
      · exact ⟨i, by omega, h.symm⟩
    · rintro ⟨j, h1, h2⟩
      by_cases e : j = i
      · subst e
        exact .inr h2.symm
      · exact .inl ⟨j, by omega, h2⟩
end
section
variable {prog : Program} {w : World} {A : Around} {R : Result → Shared → Prop} {I : Addr} {fp wr : List Addr} {G : Array GenState → Array GenState → Prop} {n : Nat} {Pi : Nat → Value → Prop} {St : Nat → Shared → Prop} {κ : Type} [DecidableEq κ]
theorem fill (kd : PySem.KeyKind prog w κ) (W : WalksS prog w A.in1 I fp wr G n Pi St) (z : Addr) (hz : z ∉ fp) (val : Nat → κ) (hv : ∀ i v, Pi i v → kd.is (val i) v = true ∧ v.scannable = true) (room : n + 1 < scanBound) :
    ∀ (m i : Nat) (s : Shared), i + m = n → St i s → s.heap.SetOf kd z (seen val i) (cnt val i) →
      (∀ t, Moved (z :: wr) G s t → t.heap.SetOf kd z (seen val n) (cnt val n) → R (.ok (.ret .none)) t) →
      codeAny (model prog w) A (.builtin "set.update.loop" ⟨[.ref z, .ref I], []⟩) R s
  | 0, i, s, hm, st, S, k => by
    obtain rfl : i = n := by omega
    have zw : z ∉ wr := fun q => hz (W.sub _ q)
    refine codeAny_builtin PyProof.Rows.F.entry_set_update_loop ?_
    rw [Around.under_plainId PyProof.Rows.F.plain_set_update_loop _]
    show wpAny _ A.in1 (pyNext (.ref I) >>= _) _ _ s
    refine wpAny_bind (W.done s _ _ st fun t mv => ?_)
    obtain ⟨o, es, ep, tb, ho, more⟩ := S
    exact wpAny_pure (k t (mv.mono fun b q => List.mem_cons_of_mem _ q) ⟨o, es, ep, tb, mv.heap z _ zw ho, more⟩)
  | m + 1, i, s, hm, st, S, k => by
    have zw : z ∉ wr := fun q => hz (W.sub _ q)
    refine codeAny_builtin PyProof.Rows.F.entry_set_update_loop ?_
    rw [Around.under_plainId PyProof.Rows.F.plain_set_update_loop _]
    show wpAny _ A.in1 (pyNext (.ref I) >>= _) _ _ s
    refine wpAny_bind (W.item i s _ _ (by omega) st fun v t pv st' mv => ?_)
    obtain ⟨kv, sc⟩ := hv i v pv
    have S' : t.heap.SetOf kd z (seen val i) (cnt val i) := by
      obtain ⟨o, es, ep, tb, ho, more⟩ := S
      exact ⟨o, es, ep, tb, mv.heap z _ zw ho, more⟩
    show wpAny _ A.in1 (holding [v] (setAdd z v) >>= _) _ _ t
    refine wpAny_bind (wpAny_holding ?_)
    unfold setAdd
    refine wpAny_holding (wpAny_bind (kd.pyHash kv ?_))
    refine wpAny_setAddHashed_of (knd := kd) (s := { t with toks := t.toks + 1 }) kv sc S' (by have := cnt_le val i; omega) fun h' sb S2 => ?_
    refine wpAny_pure ⟨plainId_quiet PyProof.Rows.F.plain_set_update_loop _, fill kd W z hz val hv room m (i + 1) _ (by omega) (W.frame _ t _ _ st' (Nat.le_succ _) fun b hb o e => ?_) S2 fun t2 mv2 S3 => ?_⟩
    · have nb : b ≠ z := fun q => hz (q ▸ hb)
      rw [sb.2 b nb]
      exact e
    · refine k t2 (Moved.trans W.gtrans ((mv.mono fun b q => List.mem_cons_of_mem _ q).then_heap (Nat.le_succ _) fun b o hb e => ?_) mv2) S3
      have nb : b ≠ z := fun q => hb (q ▸ List.mem_cons_self)
      rw [sb.2 b nb]
      exact e
end
abbrev bare (led : Bool) : Obj := { cls := .type "set", dict := none, data := .set #[] 0 (.fresh 0 0 led) }
section
variable {prog : Program} {w : World} {A : Around} {E : Value → Shared → Prop} {s : Shared}
/-- the i-th sign as a text -/
def sgnOf (x : Str) (i : Nat) : Str := ⟨#[x.cps.getD i 0]⟩
theorem call_set_text {x : Str} {u : Tok} {Q : Value → Shared → Prop} (calm : A.handled = none) (room : x.cps.size + 1 < scanBound)
    (k : ∀ (h' : Heap) (tk : Nat), h'.SetOf (PySem.strKind prog w) s.heap.objs.size (seen (sgnOf x) x.cps.size) (cnt (sgnOf x) x.cps.size) →
      (∀ b o, b < s.heap.objs.size → s.heap.get? b = some o → h'.get? b = some o) → Q (.ref s.heap.objs.size) { s with heap := h', toks := tk }) :
    wpAny (model prog w) A (call (.type "set") [.str x u]) Q E s := by
  obtain ⟨c0, tl0, hm0⟩ := PySem.F.called_set.mro
  have f1 := PySem.F.called_set.made
  have f2 := PySem.F.called_set.sub
  refine wpAny_call (codeAny_of_tree ?_)
  show wpAny _ _ (callAny (.type "set") _) _ _ _
  refine wpAny_pure ⟨Code.quiet_builtin _ (by decide +kernel), codeAny_builtin PySem.F.entry_type_call ?_⟩
  rw [Around.under_plain (weight_type_call_type "set" [.str x u] []) rfl]
  have f3 := PySem.F.called_set.notType
  have f4 := PySem.F.called_set.canCreate
  have f5 := PySem.F.typeCall_set_1 (.str x u)
  repeat (any_goals (first | assumption | wp_step))
  refine codeAny_mono (code_set_new_1 (.str x u) (E := E) (Q₁ := fun ob t => ∃ led : Bool, ob = .ref s.heap.objs.size ∧ t = { s with heap := s.heap.push (bare led) }) fun led => ⟨led, rfl, rfl⟩) fun r t hr => ?_
  match r, hr with
  | .error e, hr => exact hr
  | .ok (.ret ob), hr =>
    obtain ⟨led, rfl, rfl⟩ := hr
    have g0 : (s.heap.push (bare led)).get? s.heap.objs.size = some (bare led) := Heap.get?_push_size _ rfl
    have ty : Shared.TypeIs { s with heap := s.heap.push (bare led) } (.ref s.heap.objs.size) "set" := ⟨_, g0, rfl⟩
    have f6 := PySem.F.called_set.init.lookup
    have f7 := PySem.F.called_set.init.bind (.ref s.heap.objs.size)
    repeat (any_goals (first | assumption | wp_step))
    refine codeAny_mono (codeAny_call_builtin (R := wants (fun r t2 => r = .none ∧ ∃ h' tk, t2 = { s with heap := h', toks := tk } ∧ h'.SetOf (PySem.strKind prog w) s.heap.objs.size (seen (sgnOf x) x.cps.size) (cnt (sgnOf x) x.cps.size) ∧
        (∀ b o, b < s.heap.objs.size → s.heap.get? b = some o → h'.get? b = some o)) E) PySem.F.called_set.init.plain PySem.F.entry_set_init (check_set_init_1 ty ?_)) fun r2 t2 hr2 => ?_
    · have n1 := PySem.F.sub_str_set
      have n2 := PySem.F.sub_str_frozenset
      have n3 := PySem.F.sub_str_dict
      have n4 : (Value.type "str" == Value.type "dict") = false := by decide
      unfold Builtin.«set.__init__» noKeywords Builtin.Frozenset.updateFrom
      generalize hPI : pyIter = PI
      wp_walk
      subst hPI
      refine wpAny_pyIter_str fun it St hW st0 => ?_
      refine wpAny_bind (wpAny_runValue ?_)
      have cl3 : A.in1.in1.in1.handled = none := by simp [calm]
      have sz : (s.heap.push (bare led)).objs.size = s.heap.objs.size + 1 := by rw [Heap.size_push]
      have zf : s.heap.objs.size ∉ [(s.heap.push (bare led)).objs.size] := by
        rw [sz, List.mem_singleton]
        omega
      refine fill (PySem.strKind prog w) ((hW _ cl3).toS) s.heap.objs.size zf (sgnOf x) (fun i v pv => ?_) room (x.cps.size - 0) 0 _ (by omega) st0 ?_ ?_
      · obtain ⟨ch, t3, e1, rfl⟩ := pv
        refine ⟨?_, rfl⟩
        have e2 : sgnOf x i = ⟨#[ch]⟩ := by
          unfold sgnOf
          rw [Array.getD_eq_getD_getElem?, e1]
          rfl
        rw [e2]
        exact strKind_is _ _ _ _
      · have g1 := Heap.get?_push_of_some it g0
        exact PyProof.Rows.SetOf_congr ((PyProof.Rows.setObjOf_fresh (knd := PySem.strKind prog w) led).setOf g1 (by unfold scanBound; omega)) (fun _ => rfl) rfl
      · intro t3 mv S3
        obtain ⟨hp, gs, dr, tk, os⟩ := t3
        obtain rfl : gs = s.gens := mv.gens
        obtain rfl : dr = s.drawn := mv.drawn
        obtain rfl : os = s.os := mv.os
        show wpAny _ _ _ _ _ _
        refine wpAny_pure ?_
        show wpAny _ _ (ret Value.none) _ _ _
        refine wpAny_pure ⟨rfl, hp, tk, rfl, S3, fun b o hb e => ?_⟩
        refine mv.heap b o ?_ (Heap.get?_push_of_some _ (Heap.get?_push_of_some _ e))
        have q1 : b ≠ s.heap.objs.size := Nat.ne_of_lt hb
        have q2 : b ≠ s.heap.objs.size + 1 := by omega
        rw [sz]
        simp [q1, q2]
    · match r2, hr2 with
      | .error e, hr2 => exact hr2
      | .ok (.ret q), hr2 =>
        obtain ⟨rfl, h', tk, rfl, S', kp⟩ := hr2
        repeat (any_goals (first | assumption | wp_step))
        exact k _ _ S' kp
      | .ok .next, hr2 => exact hr2.elim
      | .ok .brk, hr2 => exact hr2.elim
      | .ok .cont, hr2 => exact hr2.elim
  | .ok .next, hr => exact hr.elim
  | .ok .brk, hr => exact hr.elim
  | .ok .cont, hr => exact hr.elim
end
end SetT
namespace Ab
open PySem PySem.Spec PyProof.Rows L2
/-- how many unlike signs -/
def unlike (s : List Nat) : Nat := SetT.cnt (SetT.sgnOf (sOf s)) s.length
def tLenSetT (ta : TE) : TE := fun σ H Q => ta σ H fun x H1 => ∃ s : List Nat, x = .str (sOf s) ∧ s.length ≤ 4000 ∧ Q (.int (unlike s : Nat)) H1
theorem pe_lenSetT {X : Cx} {a : Expr} {ta : TE} {p p2 q pos : Pos} (hc : X.calm = true) (hg : Gl X "len") (hm : X.mg "len" = none) (hg2 : Gl X "set") (hm2 : X.mg "set" = none) (ha : PE X a ta)
    (one : starEach [a] X.env = (false, eval a X.env) :: starEach [] X.env := by rfl) :
    PE X (.Call (.Name "len" p) [.Call (.Name "set" p2) [a] [] q] [] pos) (tLenSetT ta) := by
  refine ⟨fun pins s σ H Q I h => Call_ (ld_blt I hg hm boot_len (PyProof.Rows.callWith_builtin1 (PyProof.Rows.args_cons ?_ rfl) rfl rfl))⟩
  refine Call_ (ld_blt I hg2 hm2 boot_set (PyProof.Rows.callWith_type1 (PyProof.Rows.args_cons ?_ one) one rfl))
  refine thn (ha.run pins s σ H _ I h) fun v s1 ⟨x, H1, I1, r1, q1⟩ => PyProof.Rows.args_nil ?_
  obtain ⟨z, rfl, hz, q1⟩ := q1
  obtain ⟨t, rfl⟩ := r1
  have hsz : (sOf z).cps.size = z.length := List.size_toArray
  refine SetT.call_set_text (I1.ok.hd hc) (by rw [hsz]; unfold scanBound; omega) fun h' tk S kp => PyProof.Rows.args_nil ?_
  have I2 : Inv X pins σ H1 { s1 with heap := h', toks := tk } := I1.kept fun b o e => kp b o (Heap.lt_size e) e
  rw [hsz] at S
  obtain ⟨o, es, ep, tb, ho, hex, hd, _, _, _, hf, hn⟩ := S
  refine call_len_set ho hex hd hf ?_ ⟨.int (unlike z : Nat), H1, I2.tok _, ⟨_, by rw [hn]; rfl⟩, q1⟩
  have := SetT.cnt_le (SetT.sgnOf (sOf z)) z.length
  rw [hn]
  omega
end Ab
namespace Ab
open PySem PySem.Spec PyProof.Rows L2
section
variable {X : Cx} {C : Addr} {ps : List Str} {k : Nat} {sp : Sp} {x : Str} {p pos : Pos}
/-- what C() asks of the class -/
structure MkC (K : PySem.W.Frag) (C : Addr) : Prop where
  makes : PySem.W.makesIn K C = true
  kp : PySem.W.keepIn K (.ref C) = true
theorem pe_mk0 (c : MkC X.K C) (h : HasM X.prog X.w X.K X.mg X.base C "__init__" ps k sp) (hr : Room (k + 1) X.A) (hg : Gl X x) (hm : X.mg x = some (.ref C)) (hdb : (x == ("__debug__" : Str)) = false := by rfl) :
    PE X (.Call (.Name x p) [] [] pos) (tMake C sp [] E0 tNil) := by
  obtain ⟨f, fd, F, mt, b⟩ := h
  exact pe_make0 ⟨c.makes, mt.at_, mt.fn, c.kp⟩ F hr hg hm b .nil pass0 hdb
end
section
variable {K : PySem.W.Frag} {w : Nat} {D : AEnds} {e : Env} {ta tb te to : TE} {x y z a b : A}
/-- a constant at an address that the text keeps -/
theorem ae_constT {p : Addr} {vs : List V} {ds : List Ab.D} (h : ∀ H, SqT K H p vs) (r : ∀ G, RDs K G vs ds) : AE K (tC (.ref p)) e (.d (.tup ds)) := fun B σ G H ad R C c =>
  c _ G H (Xt.refl R.gh) (.tup (h G) (r G))
theorem ae_bits {n : Nat} (h : AE K to e (.d (.int (n : Nat)))) : AE K (tBits to) e (.d (.int (Builtin.Int.intBits (n : Nat) : Nat))) := fun B σ G H ad R C c =>
  h B σ G H ad R _ fun v G1 H1 X1 r1 => by
    cases r1
    exact ⟨_, rfl, c _ G1 H1 X1 .int⟩
theorem a2_shl {i j : Int} (hc : CPow i j) : A2 K (rI CPow fun i j => .int (i * 2 ^ j.toNat)) (.d (.int i)) (.d (.int j)) e (.d (.int (i * 2 ^ j.toNat))) := a2_I hc
theorem RDs.dpMono {G H : Hp} {vs : List V} {ds : List Ab.D} (s : Same G H) (h : RDs K G vs ds) : DpAll K H vs (Ab.D.pys ds) := (RDs.mono s h).dp
/-- x not in xs, an own list -/
theorem a2_notInDO {k : Nat} {q : Ab.D} {ds : List Ab.D} (hk : e.m[k]? = some (some (.lst ds))) (hq : okD q) (hd : okD (.lst ds)) : A2 K (rNotInD K) (.d q) (.o k) e (.d (.bl (!(Ab.D.pys ds).any fun z => PyData.eqv z q.py))) := fun B σ G H ad R v w rv rw C c => by
  obtain ⟨l, hl, rfl⟩ := rw
  obtain ⟨_, _, vs, h0, rd⟩ := R.op k l _ hl hk
  refine ⟨q.py, Ab.D.pys ds, (RD.mono R.gh rv).dp, ?_, hq, hd, c _ G H (Xt.refl R.gh) .bl⟩
  exact (RD.lst (G := H) h0 (RDs.mono R.gh rd)).dp
theorem as_aug {i : Nat} {r : TIp} (h : e.s[i]? = some a) (hn : (match a with | .no => false | _ => true) = true) (he : AE K te e b) (hr : A2 K r a b e z) (q : D.nx (e.set i z)) : AS K w (tAug i te r) D e := fun B hw C co σ G H ad R => by
  rcases R.st i a h with rfl | ⟨v, hv, rv⟩
  · cases hn
  refine ⟨v, hv, he B σ G H ad R _ fun u G1 H1 X1 ru => ?_⟩
  have R1 := R.ext X1
  refine hr B σ G1 H1 ad R1 v u (rv.mono X1.gg) ru _ fun z' G2 H2 X2 rz => ?_
  exact co.nx _ _ G2 H2 ad q ((R1.ext X2).set rz)
theorem as_augN {i : Nat} {r : TIp} {p : Ab.D} (h : e.s[i]? = some (.d p)) (he : AE K te e b) (hr : A2 K r (.d p) b e z) (q : D.nx (e.set i z)) : AS K w (tAug i te r) D e := as_aug h rfl he hr q
theorem rv3 {G : Hp} {ad : List Addr} {vs : List V} {a b c : A} (h : RepVs K G ad vs [a, b, c]) : ∃ u v w, vs = [u, v, w] ∧ RepV K G ad u a ∧ RepV K G ad v b ∧ RepV K G ad w c := by
  cases h with
  | cons r h =>
    cases h with
    | cons r2 h =>
      cases h with
      | cons r3 h =>
        cases h
        exact ⟨_, _, _, rfl, r, r2, r3⟩
theorem as_par3 {i j l : Nat} {t : TA} {a b c : A} (h : AL K t e [a, b, c]) (q : D.nx (((e.set i a).set j b).set l c)) : AS K w (tPar3 i j l t) D e := fun B hw C co σ G H ad R =>
  h B σ G H ad R _ fun vs G1 H1 X1 r1 => by
    obtain ⟨u, v, w, rfl, r1, r2, r3⟩ := rv3 r1
    exact ⟨u, v, w, rfl, co.nx _ _ G1 H1 ad q ((((R.ext X1).set r1).set r2).set r3)⟩
theorem as_par2 {i j : Nat} {t : TA} {a b : A} (h : AL K t e [a, b]) (q : D.nx ((e.set i a).set j b)) : AS K w (tPar i j t) D e := fun B hw C co σ G H ad R =>
  h B σ G H ad R _ fun vs G1 H1 X1 r1 => by
    obtain ⟨u, v, rfl, r1, r2⟩ := rv2 r1
    exact ⟨u, v, rfl, co.nx _ _ G1 H1 ad q (((R.ext X1).set r1).set r2)⟩
/-- a target takes the value of an expression with effect -/
theorem as_asgGX {g : TG} (h : AX K te e fun a e' => AG K g a e' D.nx) : AS K w (tAsg te g) D e := fun B hw C co σ G H ad R =>
  h B σ G H ad R _ fun a e' v G1 H1 ad' q _ _ R1 r1 => q B σ G1 H1 ad' R1 v r1 _ fun e2 σ2 G2 H2 ad2 q2 R2 => co.nx e2 σ2 G2 H2 ad2 q2 R2
theorem AX.mono {Q Q' : A → Env → Prop} (h : AX K te e Q) (m : ∀ a e', Q a e' → Q' a e') : AX K te e Q' := fun B σ G H ad R C c =>
  h B σ G H ad R _ fun a e' v G1 H1 ad' q => c a e' v G1 H1 ad' (m a e' q)
theorem as_for_at {J : It} {n : Nat} {f : Nat → Ab.D} {g : TG} {t : TS} {B : Bs} {C : Ends} {σ : L2.St} {G1 H1 : Hp} {ad : List Addr} (I : Nat → Env → Prop) (h0 : I 0 e) (R1 : Rep K B e σ G1 H1 ad) (W : Walk K G1 J n f)
    (hs : ∀ i e', i < n → I i e' → AG K g (.d (f i)) e' fun e2 => AS K w t { D with nx := I (i + 1), ct := I (i + 1), bk := D.nx } e2) (hd : ∀ e', I n e' → D.nx e') (hw : B.ow.length = w) (co : Co K B D C) :
    ∃ W : Nat → Nat → L2.St → Hp → Prop, (∃ m, W 0 m σ H1) ∧ ∀ (i m : Nat) (σ : L2.St) (H : Hp), W i m σ H → J.stop i H ∧ C.nx σ H ∨ J.go i H ∧ ∃ N : L2.St → Hp → Prop, (∀ σ' H', N σ' H' → ∃ m', m' < m ∧ W (i + 1) m' σ' H') ∧
      ∀ (x : V) (H' : Hp), J.yld i H x H' → g x σ H' fun σ2 H2 => t { nx := N, rt := C.rt, bk := C.nx, ct := N } σ2 H2 := by
  have lift : ∀ e' σ' G' H' ad', I n e' → Rep K { B with G := G1 } e' σ' G' H' ad' → C.nx σ' H' := fun e' σ' G' H' ad' q R' => co.nx e' σ' G' H' ad' (hd e' q) (R1.unbase R')
  refine ⟨fun i m σ H => i + m = n ∧ ∃ e' G ad, I i e' ∧ Rep K { B with G := G1 } e' σ G H ad, ⟨n, by omega, e, G1, ad, h0, R1.rebase⟩, ?_⟩
  rintro i m σ H ⟨hm, e', G, ad, hi, R2⟩
  by_cases hlt : i < n
  · refine .inr ⟨W.go i G H R2.bg R2.gh hlt, fun σ H => ∃ e' G ad, I (i + 1) e' ∧ Rep K { B with G := G1 } e' σ G H ad, fun σ' H' q => ⟨m - 1, by omega, by omega, q⟩, fun x H' y => ?_⟩
    obtain ⟨G3, X3, rd⟩ := W.yld i G H x H' R2.bg R2.gh hlt y
    refine hs i e' hlt hi { B with G := G1 } σ G3 H' ad (R2.ext X3) x rd _ fun e4 σ4 G4 H4 ad4 q R4 => ?_
    refine q { B with G := G1 } hw { C with nx := fun σ H => ∃ e' G ad, I (i + 1) e' ∧ Rep K { B with G := G1 } e' σ G H ad, ct := fun σ H => ∃ e' G ad, I (i + 1) e' ∧ Rep K { B with G := G1 } e' σ G H ad, bk := C.nx } ⟨fun e5 σ5 G5 H5 ad5 q5 R5 => ⟨e5, G5, ad5, q5, R5⟩, fun a e5 v σ5 G5 H5 ad5 q5 R5 rv => co.rt a e5 v σ5 G5 H5 ad5 q5 (R1.unbase R5) rv, fun e5 σ5 G5 H5 ad5 q5 R5 => co.nx e5 σ5 G5 H5 ad5 q5 (R1.unbase R5), fun e5 σ5 G5 H5 ad5 q5 R5 => ⟨e5, G5, ad5, q5, R5⟩⟩ σ4 G4 H4 ad4 R4
  · have : i = n := by omega
    subst this
    exact .inl ⟨W.stop i G H R2.bg R2.gh (Nat.le_refl _), lift e' σ G H ad hi R2⟩
/-- over the list that an expression with effect gives -/
theorem as_forX {tl : TE} {g : TG} {t : TS} (h : AX K tl e fun a e1 => ∃ (xs : List Ab.D) (I : Nat → Env → Prop), a = .d (.lst xs) ∧ I 0 e1 ∧
      (∀ i e' x, xs[i]? = some x → I i e' → AG K g (.d x) e' fun e2 => AS K w t { D with nx := I (i + 1), ct := I (i + 1), bk := D.nx } e2) ∧ ∀ e', I xs.length e' → D.nx e') : AS K w (tFor (iList K tl) g t) D e := fun B hw C co σ G H ad R =>
  h B σ G H ad R _ fun a e1 v G1 H1 ad1 ⟨xs, I, ha, h0, hs, hd⟩ _ _ R1 r1 => by
    subst ha
    cases r1 with
    | lst hq rd =>
      rename_i p vs
      refine ⟨_, rfl, ⟨vs, .inl (.inl (R1.gh _ _ hq))⟩, ?_⟩
      have W : Walk K G1 (Itl K p) xs.length (fun i => xs.getD i .non) := by
        have hf : ∀ i, i < xs.length → xs[i]? = some (xs.getD i .non) := fun i hi => by
          rw [List.getD_eq_getElem?_getD, List.getElem?_eq_getElem hi]
          rfl
        refine ⟨?_, ?_, ?_⟩
        · intro i G H s1 s2 hi
          exact ⟨vs, .inl (.inl (s2 _ _ (s1 _ _ hq))), by rw [rd.length]; exact hi⟩
        · intro i G H s1 s2 hi
          obtain ⟨v, hv, _⟩ := rd.get (hf i hi)
          exact ⟨vs, v, .inl (.inl (s2 _ _ (s1 _ _ hq))), hv⟩
        · rintro i G H v H' s1 s2 hi ⟨rfl, y⟩
          obtain ⟨v', hv, rv⟩ := rd.get (hf i hi)
          have := y vs (.inl (.inl (s2 _ _ (s1 _ _ hq))))
          rw [hv] at this
          cases this
          exact ⟨G, Xt.refl s2, rv.mono s1⟩
      let wi : TI := fun σ H C => C (Itl K p) H
      have key := as_for_at (K := K) (w := w) (D := D) (t := t) (g := g) I h0 R1 W (fun i e' hi q => hs i e' _ (by rw [List.getD_eq_getElem?_getD, List.getElem?_eq_getElem hi]; rfl) q) hd hw co
      exact key
end
end Ab
namespace Ab
open PySem PySem.Spec PyProof.Rows L2
theorem ae_lenSet {K : PySem.W.Frag} {e : Env} {ta : TE} {s : List Nat} (h : AE K ta e (.d (.str s))) (hs : s.length ≤ 4000) : AE K (tLenSetT ta) e (.d (.int (unlike s : Nat))) := fun B σ G H ad R C c =>
  h B σ G H ad R _ fun v G1 H1 X1 r1 => by
    cases r1
    exact ⟨s, rfl, hs, c _ G1 H1 X1 .int⟩
end Ab
namespace Ab
open PySem PySem.Spec PyProof.Rows L2
theorem Env.set_get {e : Env} {i : Nat} {a : A} (h : e.s[i]? = some a) : e.set i a = e := by
  show (⟨e.s.set i a, e.m⟩ : Env) = e
  have q : e.s.set i a = e.s := by
    refine List.ext_getElem? fun j => ?_
    by_cases hj : i = j
    · subst hj
      rw [h, List.getElem?_set_self (List.getElem?_eq_some_iff.mp h).1]
    · rw [List.getElem?_set_ne hj]
  rw [q]
/-- one slot is changed, or nothing -/
theorem as_ifN {K : PySem.W.Frag} {w : Nat} {D : AEnds} {e : Env} {c : TT} {t : TS} {b : Bool} {i : Nat} {y z : Ab.D} (h : AT K c e b) (h1 : b = true → AS K w t { D with nx := fun e' => e' = e.set i (.d z) } e) (hy : e.s[i]? = some (.d y)) (k : D.nx (e.set i (.d (if b = true then z else y)))) : AS K w (tIfS c t tNext) D e := by
  refine as_if h (fun hb => ?_) (fun hb => as_next ?_)
  · rw [if_pos hb] at k
    exact (h1 hb).ends (fun e' q => by subst q; exact k) (fun a e' q => q) (fun e' q => q) (fun e' q => q)
  · rw [if_neg (by rw [hb]; exact Bool.false_ne_true), Env.set_get hy] at k
    exact k
end Ab
namespace Ab
open PySem PySem.Spec PyProof.Rows L2
theorem room65 {k : Nat} {A : Around} (h : Room k A) : A.units + 65 < cLine := by
  have := h.un
  omega
end Ab
namespace Ab
open PySem PySem.Spec PyProof.Rows L2
/-! ### promises that leave the answer open -/
def SpX (K : PySem.W.Frag) (R : List A → List O → Prop) (T : List A → List O → A → List O → Prop) : Sp := fun vs H Q _ => ∃ G ad as M, Same G H ∧ ad.Nodup ∧ ad.length = M.length ∧ (∀ (k : Nat) (l : Addr) (o : O), ad[k]? = some l → M[k]? = some o → G l = none ∧ ObR K G H ad l o) ∧ RepVs K G ad vs as ∧ R as M ∧
  ∀ r M' v G' H' ad', T as M r M' → Beh G H G' H' ad ad' K M' → RepV K G' ad' v r → Q v H'
theorem SpX.len {K : PySem.W.Frag} {ps : List Str} {R : List A → List O → Prop} {T : List A → List O → A → List O → Prop} (hl : ∀ as M, R as M → as.length = ps.length) : ∀ vs H Q E, SpX K R T vs H Q E → vs.length = ps.length := fun vs H Q E ⟨G, ad, as, M, _, _, _, _, rv, hR, _⟩ => rv.length.trans (hl as M hR)
abbrev endX (T : A → List O → Prop) : AEnds := ⟨fun e => ∃ M', T (.d .non) M' ∧ M'.map some <+: e.m, fun a e => ∃ M', T a M' ∧ M'.map some <+: e.m, fun _ => False, fun _ => False⟩
section
variable {K : PySem.W.Frag} {N : List Str} {vs : List V} {H : Hp} {Q : VK} {E : XK} {t : TS}
theorem run_X {R : List A → List O → Prop} {T : List A → List O → A → List O → Prop} (h : SpX K R T vs H Q E)
    (hb : ∀ as M, R as M → as.length ≤ N.length ∧ (∀ r M', T as M r M' → M.length ≤ M'.length ∧ clA M'.length r = true ∧ M'.all (clO M'.length) = true) ∧ AS K M.length t (endX (T as M)) ⟨env0 N as, M.map some⟩) :
    t { nx := fun _ H' => Q .non H', rt := Q } (L2.start N vs) H := by
  obtain ⟨G, ad, as, M, s, nd, ln, ob, rv, hR, q⟩ := h
  obtain ⟨hN, hT, hb⟩ := hb as M hR
  have R0 : Rep K ⟨G, H, ad⟩ ⟨env0 N as, M.map some⟩ (L2.start N vs) G H ad := {
    bg := Same.refl _
    gh := s
    fr := fun a h => .inl h
    kp := fun a o h _ => h
    nn := fun a h => h
    al := by
      show ad.length = (M.map some).length
      rw [List.length_map, ln]
    nd := nd
    ah := fun l hl => by
      obtain ⟨k, hk⟩ := List.mem_iff_getElem?.mp hl
      have hkl : k < M.length := by
        rw [← ln]
        exact (List.getElem?_eq_some_iff.mp hk).1
      obtain ⟨_, o⟩ := ob k l _ hk (List.getElem?_eq_getElem hkl)
      obtain ⟨u, hu⟩ := o.some
      rw [hu]
      exact fun y => nomatch y
    ow := List.prefix_refl _
    op := fun k l o h1 h2 => by
      have h2 : (M.map some)[k]? = some (some o) := h2
      rw [List.getElem?_map] at h2
      cases z : M[k]? with
      | none =>
        rw [z] at h2
        cases h2
      | some o' =>
        rw [z] at h2
        cases h2
        obtain ⟨g, ho⟩ := ob k l _ h1 z
        exact ⟨g, .inl (List.mem_of_getElem? h1), ho⟩
    sl := by
      rw [start_len (by rw [rv.length]; exact hN)]
      unfold env0
      rw [List.length_append, List.length_replicate]
      show N.length = as.length + (N.length - as.length)
      omega
    st := st0 rv }
  have fin : ∀ r M' e σ v G' H' adF, T as M r M' → M'.map some <+: e.m → Rep K ⟨G, H, ad⟩ e σ G' H' adF → RepV K G' adF v r → Q v H' := by
    intro r M' e σ v G' H' adF hT' hm R' rv'
    obtain ⟨hM, hr, hc⟩ := hT r M' hT'
    have hlen : M'.length ≤ adF.length := by
      rw [R'.al]
      have := hm.length_le
      rwa [List.length_map] at this
    have hmk : ∀ (k : Nat) (o : O), M'[k]? = some o → e.m[k]? = some (some o) := fun k o hk => pre_of hm (by rw [List.getElem?_map, hk]; rfl)
    have hal : (adF.take M'.length).length = M'.length := by
      rw [List.length_take]
      omega
    have hpr : ad <+: adF.take M'.length := by
      obtain ⟨tl, e1⟩ := R'.ow
      refine List.prefix_of_prefix_length_le ⟨tl, e1⟩ (List.take_prefix _ _) ?_
      rw [hal, ln]
      exact hM
    refine q r M' v G' H' (adF.take M'.length) hT' ⟨R'.bg, R'.gh, R'.kp, R'.fr, hpr, R'.nd.sublist (List.take_sublist _ _), hal, fun l hl hn => ?_, fun k l o h1 h2 => ?_⟩ (rv'.cut hr)
    · obtain ⟨k, hk⟩ := List.mem_iff_getElem?.mp hl
      have hkl : k < M'.length := by
        rw [← hal]
        exact (List.getElem?_eq_some_iff.mp hk).1
      rw [take_get hkl] at hk
      obtain ⟨_, how, _⟩ := R'.op k l _ hk (hmk k _ (List.getElem?_eq_getElem hkl))
      rcases how with z | z
      · exact absurd z hn
      · exact z
    · have hkl : k < M'.length := (List.getElem?_eq_some_iff.mp h2).1
      rw [take_get hkl] at h1
      obtain ⟨g, _, ho⟩ := R'.op k l o h1 (hmk k o h2)
      exact ⟨g, ho.cut (List.all_eq_true.mp hc o (List.mem_of_getElem? h2))⟩
  refine hb ⟨G, H, ad⟩ ln _ ⟨?_, ?_, fun _ _ _ _ _ z => z.elim, fun _ _ _ _ _ z => z.elim⟩ _ _ _ ad R0
  · rintro e σ G' H' adF ⟨M', hT', hm⟩ R'
    exact fin _ M' e σ _ G' H' adF hT' hm R' RD.non
  · rintro a e v σ G' H' adF ⟨M', hT', hm⟩ R' rv'
    exact fin a M' e σ v G' H' adF hT' hm R' rv'
end
section
variable {K : PySem.W.Frag} {e : Env} {ta : TE} {tl : TA} {as : List A} {E : XK} {Q : A → Env → Prop} {M : List O} {rest : List (Option O)} {R : List A → List O → Prop} {T : List A → List O → A → List O → Prop}
theorem ax_callX (M : List O) (rest : List (Option O)) (h : AL K tl e as) (hm : e.m = M.map some ++ rest) (hl : ∀ r M', T as M r M' → M'.length = M.length ∨ rest = []) (hc : as.all (clA M.length) = true) (hcM : M.all (clO M.length) = true) (hR : R as M)
    (q : ∀ r M', T as M r M' → Q r ⟨e.s, M'.map some ++ rest⟩) : AX K (tCall (SpX K R T) [] E tl) e Q := fun B σ G H ad Rp C c =>
  h B σ G H ad Rp _ fun vs G1 H1 X1 rv => by
    have R1 := Rp.ext X1
    have hal : ad.length = M.length + rest.length := by rw [R1.al, hm, List.length_append, List.length_map]
    have h2 : SpX K R T vs H1 C E := by
      refine ⟨G1, ad.take M.length, as, M, R1.gh, R1.nd.sublist (List.take_sublist _ _), by rw [List.length_take]; omega, fun k l o h1 h2 => ?_, rv.cut hc, hR, fun r M' v G' H' ad' hT b rv' => ?_⟩
      · have hkl : k < M.length := (List.getElem?_eq_some_iff.mp h2).1
        rw [take_get hkl] at h1
        have hmk : e.m[k]? = some (some o) := by
          rw [hm, List.getElem?_append_left (by rw [List.length_map]; exact hkl), List.getElem?_map, h2]
          rfl
        obtain ⟨g, _, ho⟩ := R1.op k l o h1 hmk
        exact ⟨g, ho.cut (List.all_eq_true.mp hcM o (List.mem_of_getElem? h2))⟩
      · obtain ⟨hp, R2⟩ := beh_rep R1 hm (hl r M' hT) b
        exact c r _ v G' H' _ (q r M' hT) (X1.gg.trans b.gg) hp R2 (rv'.pre (List.prefix_append _ _))
    rw [← List.append_nil vs] at h2
    exact h2
end
section
variable {P : Program} {w : World} {K : PySem.W.Frag} {mg : Str → Option Value} {base : Heap} {x : Str} {st : Stmt} {N ps : List Str} {k : Nat}
abbrev GoX (K : PySem.W.Frag) (N : List Str) (R : List A → List O → Prop) (T : List A → List O → A → List O → Prop) (t : TS) : Prop :=
  ∀ as M, R as M → (∀ r M', T as M r M' → M.length ≤ M'.length ∧ clA M'.length r = true ∧ M'.all (clO M'.length) = true) ∧ AS K M.length t (endX (T as M)) ⟨env0 N as, M.map some⟩
theorem okX {R : List A → List O → Prop} {T : List A → List O → A → List O → Prop} (DD : DefAt K mg x st ps) (S : FnScope N ps (defScope st)) (hl : ∀ as M, R as M → as.length = ps.length) (hb : Body P w K mg base N x st k (GoX K N R T)) : Has P w K mg base x ps (k + 1) (SpX K R T) := by
  refine DD.has fun f fd F => F.ok S (SpX.len hl) fun cdv A outer s H vs Q E hr h => ?_
  obtain ⟨t, ht, hgo⟩ := hb f cdv A outer s H E hr
  exact ⟨t, ht, run_X h fun as M hR => ⟨by rw [hl as M hR]; exact FnScope.le S, hgo as M hR⟩⟩
end
section
variable {K : PySem.W.Frag} {e : Env} {ta tb te : TE} {Q : A → Env → Prop}
theorem ax_m1 {r : V → List V → Hp → VK → Prop} {s : List Nat} (ho : AE K ta e (.d (.str s))) (hb : AX K tb e fun y e' => ∃ z, AM K r (.d (.str s)) [y] e' z ∧ Q z e') : AX K (tM1 r ta tb) e Q := fun B σ G H ad R C c =>
  ho B σ G H ad R _ fun v G1 H1 X1 r1 => by
    refine ⟨by cases r1; exact ⟨_, rfl⟩, hb B σ G1 H1 ad (R.ext X1) _ fun y e' w G2 H2 ad2 q s2 p2 R2 r2 => ?_⟩
    obtain ⟨z, hr, q⟩ := q
    have r1' : RepV K G2 ad2 v (.d (.str s)) := (RepV.mono s2 r1 : RepV K G2 ad v (.d (.str s)))
    exact hr B σ G2 H2 ad2 R2 v [w] r1' (.cons r2 .nil) C fun u G3 H3 X3 r3 => c z e' u G3 H3 ad2 q ((X1.gg.trans s2).trans X3.gg) p2 (R2.ext X3) r3
theorem ax_slS {tl th : TO} (h : AX K te e fun a e' => ∃ s lo hi, a = .d (.str s) ∧ s.length ≤ 1000000 ∧ AO K tl e' lo ∧ AO K th e' hi ∧ Q (.d (.str (cutG s lo hi))) e') : AX K (tSl rSlS te tl th) e Q := fun B σ G H ad R C c =>
  h B σ G H ad R _ fun a e' v G1 H1 ad1 q s1 p1 R1 r1 => by
    obtain ⟨s, lo, hi, rfl, hz, h1, h2, q⟩ := q
    cases r1
    exact ae_slS (te := tC (.str (sOf s))) (ae_str rfl) hz h1 h2 B σ G1 H1 ad1 R1 C fun u G2 H2 X2 r2 => c _ e' u G2 H2 ad1 q (s1.trans X2.gg) p1 (R1.ext X2) r2
/-- a new list whose items are made with effects -/
theorem ax_lcX {wi : TI} {j n : Nat} {f : Nat → D} (J : Nat → List D → List (Option O) → Prop) (h : AI K wi e n f) (hn : n ≤ 900000) (h0 : J 0 [] e.m)
    (hs : ∀ i acc m, i < n → acc.length = i → m.length = e.m.length → J i acc m → AX K te ⟨e.s.set j (.d (f i)), m ++ [some (.lst acc)]⟩ fun a e' => ∃ x m', a = .d x ∧ e'.m = m' ++ [some (.lst acc)] ∧ m'.length = m.length ∧ J (i + 1) (acc ++ [x]) m')
    (hd : ∀ acc m, acc.length = n → m.length = e.m.length → J n acc m → Q (.o e.m.length) ⟨e.s, m ++ [some (.lst acc)]⟩) : AX K (tLc wi (gName j) tYes te [j]) e Q := fun B σ G H ad R C c =>
  h B σ G H ad R _ fun JJ G1 H1 X1 W Dl hD => by
    have R1 := R.ext X1
    have nD := R1.apart hD
    have fD := R1.fresh hD
    have X2 : Xt G1 H1 G1 (upd H1 Dl (.lst [])) := Xt.drop X1.gh hD
    have R2 : Rep K B (e.add []) σ G1 (upd H1 Dl (.lst [])) (ad ++ [Dl]) := (R1.ext X2).add nD.1 nD.2 fD upd_same .nil
    refine ⟨fun i m H => i + m = n ∧ ∃ (G' : Hp) (mm : List (Option O)) (acc : List D), Same G1 G' ∧ Rep K B ⟨e.s, mm ++ [some (O.lst acc)]⟩ σ G' H (ad ++ [Dl]) ∧ acc.length = i ∧ mm.length = e.m.length ∧ J i acc mm, ⟨n, by omega, G1, e.m, [], Same.refl _, R2, rfl, rfl, h0⟩, ?_⟩
    rintro i m H' ⟨hm, G', mm, acc, sg, R3, hacc, hmm, hJ⟩
    have hal : ad.length = mm.length := by
      have := R1.al
      omega
    by_cases hlt : i < n
    · refine .inr ⟨W.go i G' H' sg R3.gh hlt, fun H => ∃ (G' : Hp) (mm : List (Option O)) (acc : List D), Same G1 G' ∧ Rep K B ⟨e.s, mm ++ [some (O.lst acc)]⟩ σ G' H (ad ++ [Dl]) ∧ acc.length = i + 1 ∧ mm.length = e.m.length ∧ J (i + 1) acc mm, fun H'' q => ⟨m - 1, by omega, by omega, q⟩, fun x H2 y => ?_⟩
      obtain ⟨G2, X3, rx⟩ := W.yld i G' H' x H2 sg R3.gh hlt y
      have R4 := R3.ext X3
      refine agw_name B σ G2 H2 (ad ++ [Dl]) (R4.wipe [j]) x rx _ fun σ2 hw R5 => ⟨hw, ?_⟩
      show te σ2 H2 _
      refine hs i acc mm hlt hacc hmm hJ B σ2 G2 H2 (ad ++ [Dl]) R5 _ fun a e' v G4 H4 ad4 q s4 p4 R6 rv => ?_
      obtain ⟨x, m', rfl, hem, hml, hJ'⟩ := q
      have had : ad4 = ad ++ [Dl] := by
        obtain ⟨tl, rfl⟩ := p4
        have := R6.al
        rw [hem, List.length_append, List.length_append, List.length_append, hml] at this
        have e0 : ([some (O.lst acc)] : List (Option O)).length = 1 := rfl
        have e1 : ([Dl] : List Addr).length = 1 := rfl
        have : tl.length = 0 := by omega
        rw [List.eq_nil_of_length_eq_zero this, List.append_nil]
      subst had
      have R7 : Rep K B ⟨e.s, m' ++ [some (.lst acc)]⟩ σ G4 H4 (ad ++ [Dl]) := {
        bg := R6.bg
        gh := R6.gh
        fr := R6.fr
        kp := R6.kp
        nn := R6.nn
        al := by
          have := R6.al
          rw [hem] at this
          exact this
        nd := R6.nd
        ah := R6.ah
        ow := R6.ow
        op := fun k l o h1 h2 => R6.op k l o h1 (by rw [hem]; exact h2)
        sl := R4.sl
        st := fun i a h => by
          rcases R4.st i a h with h | ⟨v, h1, h2⟩
          · exact .inl h
          · exact .inr ⟨v, h1, h2.mono s4⟩ }
      have hk1 : (ad ++ [Dl])[mm.length]? = some Dl := by
        rw [← hal, List.getElem?_append_right (Nat.le_refl _), Nat.sub_self]
        rfl
      have hk2 : (m' ++ [some (O.lst acc)])[mm.length]? = some (some (.lst acc)) := by
        rw [← hml, List.getElem?_append_right (Nat.le_refl _), Nat.sub_self]
        rfl
      obtain ⟨_, _, accv, ha, rd⟩ := R7.op mm.length Dl _ hk1 hk2
      refine ⟨accv, ha, sz_lt (by rw [rd.length]; omega), G4, m', acc ++ [x], sg.trans (X3.gg.trans s4), ?_, by rw [List.length_append, hacc]; rfl, by omega, hJ'⟩
      have R8 := R7.put (k := mm.length) (es := acc ++ [x]) (vs := accv ++ [v]) hk1 hk2 (rd.append (.cons rv .nil))
      have : (Env.put ⟨e.s, m' ++ [some (.lst acc)]⟩ mm.length (acc ++ [x])) = ⟨e.s, m' ++ [some (.lst (acc ++ [x]))]⟩ := by
        show (⟨e.s, (m' ++ [some (O.lst acc)]).set mm.length _⟩ : Env) = _
        rw [← hml, List.set_append_right _ _ (Nat.le_refl _), Nat.sub_self]
        rfl
      rw [this] at R8
      exact R8
    · have e1 : i = n := by omega
      subst e1
      refine .inl ⟨W.stop i G' H' sg R3.gh (Nat.le_refl _), c _ _ (.ref Dl) G' H' (ad ++ [Dl]) (hd acc mm hacc hmm hJ) (X1.gg.trans sg) (List.prefix_append _ _) R3 ⟨Dl, ?_, rfl⟩⟩
      rw [hmm.symm, ← hal, List.getElem?_append_right (Nat.le_refl _), Nat.sub_self]
      rfl
theorem ac_max {e : Env} {ns : List Int} {m : Int} (h0 : 0 < ns.length) (hm : ∀ z : Int, z ∈ ns → (∀ y ∈ ns, y ≤ z) → z = m) : AC K (rMax K) [.d (.lst (ns.map .int))] e (.d (.int m)) := fun B σ G H ad R vs rvs C c => by
  cases rvs with
  | cons r1 r2 =>
    cases r2
    cases r1 with
    | lst hq rd =>
      refine ⟨_, ns, rfl, .inl (.inl (R.gh _ _ ?_)), h0, fun z h1 h2 => ?_⟩
      · rw [← RD.ints rd]
        exact hq
      · rw [hm z h1 h2]
        exact c _ G H (Xt.refl R.gh) .int
end
end Ab
namespace Ab
open PySem PySem.Spec PyProof.Rows L2
/-! ### list of a text -/
abbrev rListT : List V → Hp → VK → Prop := fun xs H Q => ∃ s : List Nat, xs = [.str (sOf s)] ∧ s.length ≤ 1000000 ∧ ∀ l, H l = none → Q (.ref l) (upd H l (.lst (s.map fun c => V.str (sOf [c]))))
theorem items_text {s : List Nat} {acc : Array Value} (h : ItemsOf (SignAt (sOf s)) acc (sOf s).cps.size) : Vals (s.map fun c => V.str (sOf [c])) acc.toList := by
  obtain ⟨h1, h2⟩ := h
  have hs : (sOf s).cps.size = s.length := List.size_toArray
  rw [hs] at h1
  have key : ∀ (l : List Nat) (vs : List Value), vs.length = l.length → (∀ (j : Nat) (v : Value), vs[j]? = some v → ∃ c u, l[j]? = some c ∧ v = Value.str ⟨#[c]⟩ u) → Vals (l.map fun c => V.str (sOf [c])) vs := by
    intro l
    induction l with
    | nil =>
      intro vs hv _
      rw [List.eq_nil_of_length_eq_zero hv]
      exact .nil
    | cons a r ih =>
      intro vs hv hx
      cases vs with
      | nil => cases hv
      | cons v vs =>
        obtain ⟨c, u, e1, e2⟩ := hx 0 v rfl
        have e1 : a = c := Option.some.inj e1
        subst e1
        exact .cons ⟨u, e2⟩ (ih vs (Nat.succ.inj hv) fun j v hj => hx (j + 1) v hj)
  refine key s acc.toList (by rw [Array.length_toList, h1]) fun j v hj => ?_
  obtain ⟨c, u, e1, e2⟩ := h2 j v (by rw [← Array.getElem?_toList]; exact hj)
  refine ⟨c, u, ?_, e2⟩
  have : (sOf s).cps = s.toArray := rfl
  rw [this, List.getElem?_toArray] at e1
  exact e1
theorem call_listT {X : Cx} (hc : X.calm = true) : CallR X (.type "list") rListT := fun pins s σ H xs us Q I rv h => by
  obtain ⟨t, rfl, hz, q⟩ := h
  cases rv with
  | cons r1 r2 =>
    cases r2
    obtain ⟨u, rfl⟩ := r1
    have hs : (sOf t).cps.size = t.length := List.size_toArray
    refine PySem.call_list_str (I.ok.hd hc) (sOf t) u (fun h' tk acc' c' kp ho it => ?_) (by rw [hs]; exact sz_of hz)
    have hv := items_text it
    have I2 : Inv X pins σ (upd H s.heap.objs.size (.lst (t.map fun c => V.str (sOf [c])))) { heap := h', gens := s.gens, drawn := s.drawn, toks := tk, os := s.os } := by
      refine I.turnedNew (ch := []) (fun b o _ e => kp b o e) (fun b hb => nomatch hb) (Nat.le_refl _) ?_
      refine ⟨by rw [List.length_map]; exact sz_of hz, acc'.toList, c', hv, ?_⟩
      first
      | exact ho
      | (rw [Array.toArray_toList]; exact ho)
    exact ⟨.ref s.heap.objs.size, _, I2, rfl, q _ I.fresh⟩
section
variable {K : PySem.W.Frag} {e : Env}
theorem nc_listT {s : List Nat} (hz : s.length ≤ 1000000) : NC K rListT [.d (.str s)] e (s.map fun c => .str [c]) := fun B σ G H ad R vs rv C c => by
  obtain ⟨v, rfl, rw⟩ := rv1 rv
  cases rw
  refine ⟨s, rfl, hz, fun l hl => c l _ G _ (Xt.drop R.gh hl) hl (Same.none R.gh hl) upd_same ?_⟩
  have := RDs.ofStrs (K := K) (G := G) (s.map fun c => [c])
  rw [List.map_map, List.map_map] at this
  exact this
/-! ### in a list of ints, of texts -/
theorem inV_ints (i : Int) : ∀ ns : List Int, inV (.int i) (ns.map V.int) = decide (i ∈ ns)
  | [] => by
    rw [decide_eq_false (by simp)]
    rfl
  | n :: r => by
    show (eqV (.int n) (.int i) || inV (.int i) (r.map V.int)) = _
    rw [inV_ints i r]
    have : eqV (.int n) (.int i) = decide (n = i) := rfl
    rw [this, ← Bool.decide_or, decide_eq_decide, List.mem_cons]
    exact ⟨fun h => h.imp Eq.symm id, fun h => h.imp Eq.symm id⟩
theorem inV_strs (i : List Nat) : ∀ ns : List (List Nat), inV (.str (sOf i)) (ns.map fun x => V.str (sOf x)) = decide (i ∈ ns)
  | [] => by
    rw [decide_eq_false (by simp)]
    rfl
  | n :: r => by
    show (eqV (.str (sOf n)) (.str (sOf i)) || inV (.str (sOf i)) (r.map fun x => V.str (sOf x))) = _
    rw [inV_strs i r]
    have : eqV (.str (sOf n)) (.str (sOf i)) = decide (sOf n = sOf i) := rfl
    rw [this, ← Bool.decide_or, decide_eq_decide, List.mem_cons]
    exact ⟨fun h => h.imp (fun h => (sOf_inj h).symm) id, fun h => h.imp (fun h => by rw [h]) id⟩
theorem flat_ints : ∀ ns : List Int, (ns.map V.int).all flatV = true
  | [] => rfl
  | n :: r => by
    show (true && (r.map V.int).all flatV) = true
    rw [flat_ints r]
    rfl
theorem flat_strs : ∀ ns : List (List Nat), (ns.map fun x => V.str (sOf x)).all flatV = true
  | [] => rfl
  | n :: r => by
    show (true && (r.map fun x => V.str (sOf x)).all flatV) = true
    rw [flat_strs r]
    rfl
theorem a2_inI {neg : Bool} {i : Int} {ns : List Int} : A2 K (rIn K neg) (.d (.int i)) (.d (.lst (ns.map .int))) e (.d (.bl (if neg = true then !decide (i ∈ ns) else decide (i ∈ ns)))) := fun B σ G H ad R v w rv rw C c => by
  cases rv
  cases rw with
  | lst hq rd =>
    have e1 := RD.ints rd
    subst e1
    refine ⟨_, ns.map V.int, rfl, .inl (.inl (.inl (R.gh _ _ hq))), rfl, flat_ints ns, ?_⟩
    rw [inV_ints]
    exact c _ G H (Xt.refl R.gh) .bl
theorem a2_inIO {neg : Bool} {i : Int} {ns : List Int} {k : Nat} (hk : e.m[k]? = some (some (.lst (ns.map .int)))) : A2 K (rIn K neg) (.d (.int i)) (.o k) e (.d (.bl (if neg = true then !decide (i ∈ ns) else decide (i ∈ ns)))) := fun B σ G H ad R v w rv rw C c => by
  cases rv
  obtain ⟨l, hl, rfl⟩ := rw
  obtain ⟨_, _, vs, hq, rd⟩ := R.op k l _ hl hk
  have e1 := RD.ints rd
  subst e1
  refine ⟨_, ns.map V.int, rfl, .inl (.inl (.inl hq)), rfl, flat_ints ns, ?_⟩
  rw [inV_ints]
  exact c _ G H (Xt.refl R.gh) .bl
theorem a2_inT {neg : Bool} {i : List Nat} {ns : List (List Nat)} : A2 K (rIn K neg) (.d (.str i)) (.d (.lst (ns.map .str))) e (.d (.bl (if neg = true then !decide (i ∈ ns) else decide (i ∈ ns)))) := fun B σ G H ad R v w rv rw C c => by
  cases rv
  cases rw with
  | lst hq rd =>
    have e1 := RD.strs rd
    subst e1
    refine ⟨_, ns.map fun x => V.str (sOf x), rfl, .inl (.inl (.inl (R.gh _ _ hq))), rfl, flat_strs ns, ?_⟩
    rw [inV_strs]
    exact c _ G H (Xt.refl R.gh) .bl
end
end Ab
namespace Ab
open PySem PySem.Spec PyProof.Rows L2
section
variable {K : PySem.W.Frag} {w : Nat} {D : AEnds} {e : Env} {ta tb te : TE} {Q : A → Env → Prop}
/-! ### several, with effects -/
theorem axl_nil {R : List A → Env → Prop} (q : R [] e) : AXL K tNil e R := fun B σ G H ad Rp C c => c [] e [] G H ad q (Same.refl _) (List.prefix_refl _) Rp .nil
theorem axl_cons {tr : TA} {R : List A → Env → Prop} (h : AX K te e fun a e1 => AXL K tr e1 fun as e2 => R (a :: as) e2) : AXL K (tCons te tr) e R := fun B σ G H ad Rp C c =>
  h B σ G H ad Rp _ fun a e1 v G1 H1 ad1 q s1 p1 R1 r1 => q B σ G1 H1 ad1 R1 _ fun as e2 vs G2 H2 ad2 q2 s2 p2 R2 r2 =>
    c (a :: as) e2 (v :: vs) G2 H2 ad2 q2 (s1.trans s2) (p1.trans p2) R2 (.cons ((r1.mono s2).pre p2) r2)
theorem axl_al {tr : TA} {as : List A} {R : List A → Env → Prop} (h : AL K tr e as) (q : R as e) : AXL K tr e R := fun B σ G H ad Rp C c =>
  h B σ G H ad Rp _ fun vs G1 H1 X1 r1 => c as e vs G1 H1 ad q X1.gg (List.prefix_refl _) (Rp.ext X1) r1
theorem ax_tup {t : TA} (h : AXL K t e fun as e' => ∃ ds : List Ab.D, as = ds.map .d ∧ ds.length ≤ 1000000 ∧ Q (.d (.tup ds)) e') : AX K (tTup t) e Q := fun B σ G H ad R C c =>
  h B σ G H ad R _ fun as e' vs G1 H1 ad1 ⟨ds, ha, hl, q⟩ s1 p1 R1 r1 => by
    subst ha
    refine ⟨sz_of ?_, fun p hp => ?_⟩
    · have := r1.length
      rw [List.length_map] at this
      omega
    · have X2 := Xt.new (o := .tup vs) R1.gh hp
      exact c _ e' (.ref p) _ _ ad1 q (s1.trans X2.gg) p1 (R1.ext X2) (RD.tup (.inl (.inl upd_same)) (r1.toRDs.mono X2.gg))
theorem ax_lst {t : TA} (h : AXL K t e fun as e' => ∃ ds : List Ab.D, as = ds.map .d ∧ ds.length ≤ 1000000 ∧ Q (.d (.lst ds)) e') : AX K (tLst t) e Q := fun B σ G H ad R C c =>
  h B σ G H ad R _ fun as e' vs G1 H1 ad1 ⟨ds, ha, hl, q⟩ s1 p1 R1 r1 => by
    subst ha
    refine ⟨sz_of ?_, fun p hp => ?_⟩
    · have := r1.length
      rw [List.length_map] at this
      omega
    · have X2 := Xt.new (o := .lst vs) R1.gh hp
      exact c _ e' (.ref p) _ _ ad1 q (s1.trans X2.gg) p1 (R1.ext X2) (RD.lst upd_same (r1.toRDs.mono X2.gg))
theorem N2.a2 {r : R2} {x y : A} {ds : List Ab.D} (h : N2 K r x y e ds) : A2 K r x y e (.d (.lst ds)) := fun B σ G H ad R v w rv rw C c =>
  h B σ G H ad R v w rv rw C fun p vs G' H' X hp gp hq rd => c (.ref p) (upd G' p (.lst vs)) H' ⟨X.gg.trans (same_new gp), fun b o q => by
      by_cases hb : b = p
      · subst hb
        rw [upd_same] at q
        rw [hq]
        exact q
      · rw [upd_ne hb] at q
        exact X.gh _ _ q, X.hh, fun b q => by
      by_cases hb : b = p
      · exact .inr (hb ▸ hp)
      · rw [upd_ne hb] at q
        exact X.fr b q⟩ (RD.lst upd_same (rd.mono (same_new gp)))
theorem ax_op {r : R2} (h : AX K ta e fun a e' => ∃ y z, AE K tb e' y ∧ A2 K r a y e' z ∧ Q z e') : AX K (tOp r ta tb) e Q := fun B σ G H ad R C c =>
  h B σ G H ad R _ fun a e' v G1 H1 ad1 ⟨y, z, hy, hz, q⟩ s1 p1 R1 r1 => hy B σ G1 H1 ad1 R1 _ fun w G2 H2 X2 r2 =>
    hz B σ G2 H2 ad1 (R1.ext X2) v w (r1.mono X2.gg) r2 C fun u G3 H3 X3 r3 => c z e' u G3 H3 ad1 q (s1.trans (X2.gg.trans X3.gg)) p1 ((R1.ext X2).ext X3) r3
/-- what stands behind one form of the slots -/
theorem as_seqLe {t u : TS} (E0 : Env) (h : AS K w t ⟨fun e' => Le e' E0, D.rt, D.bk, D.ct⟩ e) (h2 : AS K w u D E0) : AS K w (tSeq t u) D e :=
  as_seq (h.ends (fun _ le => AS.le h2 le) (fun _ _ q => q) (fun _ q => q) (fun _ q => q))
/-- the same, where one way ends with a list that is still one's own -/
theorem as_seqFrz {t u : TS} (E0 E1 : Env) (k : Nat) {ds : List Ab.D} (hk : E1.m[k]? = some (some (.lst ds))) (hw : w ≤ k) (he : Le (E1.frz k ds) E0) (h : AS K w t ⟨fun e' => Le e' E1 ∨ Le e' E0, D.rt, D.bk, D.ct⟩ e) (h2 : AS K w u D E0) : AS K w (tSeq t u) D e :=
  as_seq (h.ends (fun _ le => le.elim (fun le => AS.le (as_frz k hk hw (AS.le h2 he)) le) fun le => AS.le h2 le) (fun _ _ q => q) (fun _ q => q) (fun _ q => q))
theorem given_filter {α : Type} (xs : List α) (c : α → Bool) (g : α → Ab.D) : ∀ n, n ≤ xs.length → givenD (fun i => (xs[i]?).bind fun x => if c x = true then some (g x) else none) n = ((xs.take n).filter c).map g
  | 0, _ => by
    rw [List.take_zero]
    rfl
  | n + 1, h => by
    have hx : xs[n]? = some xs[n] := List.getElem?_eq_getElem (by omega)
    show givenD _ n ++ ((xs[n]?).bind fun x => if c x = true then some (g x) else none).toList = _
    rw [given_filter xs c g n (by omega), List.take_add_one, hx, List.filter_append, List.map_append]
    congr 1
    show (if c xs[n] = true then some (g xs[n]) else none).toList = ([xs[n]].filter c).map g
    by_cases z : c xs[n] = true
    · rw [if_pos z, List.filter_cons_of_pos z]
      rfl
    · rw [if_neg z, List.filter_cons_of_neg z]
      rfl
end
end Ab
namespace Ab
open PySem PySem.Spec PyProof.Rows L2
theorem atI_of {α : Type} {xs : List α} {z : Int} {j : Nat} {v : α} (e : z = (j : Int)) (h : xs[j]? = some v) : atI xs z = some v := by
  rw [e]
  exact atI_nat h
theorem cutG_map {α β : Type} (f : α → β) (xs : List α) (lo hi : Option Int) : cutG (xs.map f) lo hi = (cutG xs lo hi).map f := by
  unfold cutG
  rw [List.map_take, List.map_drop, List.length_map]
/-! ### what the drawers make -/
def cell (ns : List Int) (k : Int) : Int := ns.getD k.toNat 0
theorem cell_at {ns : List Int} {k : Int} (h0 : 0 ≤ k) (h : k < ns.length) : atI ns k = some (cell ns k) := by
  have e : k = (k.toNat : Int) := by omega
  have hl : k.toNat < ns.length := by omega
  unfold cell
  rw [List.getD_eq_getElem?_getD, List.getElem?_eq_getElem hl]
  have q := atI_of (xs := ns) e (List.getElem?_eq_getElem hl)
  exact q
theorem cell_out {ns : List Int} {k : Int} (h : ¬ k < ns.length) : cell ns k = 0 := by
  unfold cell
  rw [List.getD_eq_getElem?_getD, List.getElem?_eq_none (by omega)]
  rfl
def abc1 : List Nat := [32, 33, 34, 35, 36, 38, 39, 40, 41, 42, 43, 44, 45, 46, 47, 48, 49, 50, 51, 52, 53, 54, 55, 56, 57, 58, 59, 60, 61, 62, 63, 64, 65, 66, 67, 68, 69, 70, 71, 72, 73, 74, 75, 76, 77, 78, 79, 80, 81, 82, 83, 84, 85, 86, 87, 88, 89, 90, 91, 92, 93, 94, 95, 96]
def abc2 : List Nat := [97, 98, 99, 100, 101, 102, 103, 104, 105, 106, 107, 108, 109, 110, 111, 112, 113, 114, 115, 116, 117, 118, 119, 120, 121, 122, 123, 124, 125, 126, 10, 9]
def abc : List Nat := abc1 ++ abc2
theorem abc_len : abc.length = 96 := by decide +kernel
def sgn (c : Int) : Nat := abc.getD (c % 96).toNat 0
theorem sgn_at (c : Int) : atI abc (c % 96) = some (sgn c) := by
  have h0 : 0 ≤ c % 96 := Int.emod_nonneg _ (by decide)
  have h1 : c % 96 < 96 := Int.emod_lt_of_pos _ (by decide)
  have hl : (c % 96).toNat < abc.length := by rw [abc_len]; omega
  have e : c % 96 = ((c % 96).toNat : Int) := by omega
  unfold sgn
  rw [List.getD_eq_getElem?_getD, List.getElem?_eq_getElem hl]
  have q := atI_of (xs := abc) e (List.getElem?_eq_getElem hl)
  exact q
theorem sgn_lt (c : Int) : sgn c < 128 := by
  have h : ∀ x ∈ abc, x < 128 := by decide +kernel
  have h0 : 0 ≤ c % 96 := Int.emod_nonneg _ (by decide)
  have h1 : c % 96 < 96 := Int.emod_lt_of_pos _ (by decide)
  have hl : (c % 96).toNat < abc.length := by rw [abc_len]; omega
  unfold sgn
  rw [List.getD_eq_getElem?_getD, List.getElem?_eq_getElem hl]
  exact h _ (List.getElem_mem hl)
/-- an item of a written list of numbers -/
theorem pick_at {α : Type} {l : List α} {i : Int} (d : α) (h0 : 0 ≤ i) (h : i < l.length) : atI l i = some (l.getD i.toNat d) := by
  have hl : i.toNat < l.length := by omega
  have e : i = (i.toNat : Int) := by omega
  rw [List.getD_eq_getElem?_getD, List.getElem?_eq_getElem hl]
  have q := atI_of (xs := l) e (List.getElem?_eq_getElem hl)
  exact q
theorem atI_map {α β : Type} {l : List α} {g : α → β} {i : Int} {x : α} (h : atI l i = some x) : atI (l.map g) i = some (g x) := by
  unfold atI at h ⊢
  rw [List.length_map]
  cases z : ixN l.length i with
  | none =>
    rw [z] at h
    cases h
  | some j =>
    rw [z] at h
    have h : l[j]? = some x := h
    show (l.map g)[j]? = some (g x)
    rw [List.getElem?_map, h]
    rfl
theorem mod_lo (i : Int) {n : Int} (hn : 0 < n) : 0 ≤ i % n := Int.emod_nonneg _ (by omega)
theorem mod_hi (i : Int) {n : Int} (hn : 0 < n) : i % n < n := Int.emod_lt_of_pos _ hn
def gaps : List Int := [1, 5, 7, 11, 13, 17, 19, 23]
def gap (c : Int) : Int := gaps.getD (c / 96 % 8).toNat 0
theorem gap_at (c : Int) : atI (gaps.map D.int) (c / 96 % 8) = some (.int (gap c)) :=
  atI_map (pick_at 0 (mod_lo _ (by decide)) (mod_hi _ (by decide)))
theorem gap_b (c : Int) : 0 ≤ gap c ∧ gap c ≤ 23 := by
  have h : ∀ x ∈ gaps, 0 ≤ x ∧ x ≤ 23 := by decide
  have h0 := mod_lo (c / 96) (n := 8) (by decide)
  have h1 := mod_hi (c / 96) (n := 8) (by decide)
  have hl : (c / 96 % 8).toNat < gaps.length := by show _ < 8; omega
  unfold gap
  rw [List.getD_eq_getElem?_getD, List.getElem?_eq_getElem hl]
  exact h _ (List.getElem_mem hl)
def gsize (c : Int) : Int := if decide (c / 768 % 4 = 1) = true then 2 + c / 3072 % 8 + 10 * (c / 24576 % 2) else 1
theorem gsize_b (c : Int) : 1 ≤ gsize c ∧ gsize c ≤ 19 := by
  unfold gsize
  have h0 := mod_lo (c / 3072) (n := 8) (by decide)
  have h1 := mod_hi (c / 3072) (n := 8) (by decide)
  have h2 := mod_lo (c / 24576) (n := 2) (by decide)
  have h3 := mod_hi (c / 24576) (n := 2) (by decide)
  split <;> omega
def lsigns (c : Int) : List Nat := (List.range (5 * gsize c).toNat).map fun k => sgn (c + (k : Nat) * gap c)
theorem lsigns_len (c : Int) : (lsigns c).length = (5 * gsize c).toNat := by unfold lsigns; rw [List.length_map, List.length_range]
def letter (c : Int) (k : Nat) : List Nat := ((lsigns c).drop (k * (gsize c).toNat)).take (gsize c).toNat
def letters (c : Int) : List (List Nat) := (List.range 5).map (letter c)
theorem letters_len (c : Int) : (letters c).length = 5 := by unfold letters; rw [List.length_map, List.length_range]
theorem letter_len (c : Int) {k : Nat} (hk : k < 5) : (letter c k).length = (gsize c).toNat := by
  have h := gsize_b c
  unfold letter
  rw [List.length_take, List.length_drop, lsigns_len]
  have : k * (gsize c).toNat ≤ 4 * (gsize c).toNat := Nat.mul_le_mul_right _ (by omega)
  omega
theorem lsigns_lt (c : Int) : ∀ x ∈ lsigns c, x < 128 := by
  intro x hx
  unfold lsigns at hx
  obtain ⟨k, _, rfl⟩ := List.mem_map.mp hx
  exact sgn_lt _
theorem letter_lt (c : Int) (k : Nat) : ∀ x ∈ letter c k, x < 128 := fun x hx => lsigns_lt c x (List.mem_of_mem_drop (List.mem_of_mem_take hx))
/-- what holds of the five groups -/
structure LetOk (ls : List (List Nat)) : Prop where
  len : 1 ≤ ls.length ∧ ls.length ≤ 100
  it : ∀ g ∈ ls, 1 ≤ g.length ∧ g.length ≤ 19
  lt : ∀ g ∈ ls, ∀ x ∈ g, x < 128
theorem letters_ok (c : Int) : LetOk (letters c) where
  len := by rw [letters_len]; exact ⟨by decide, by decide⟩
  it := fun g hg => by
    unfold letters at hg
    obtain ⟨k, hk, rfl⟩ := List.mem_map.mp hg
    rw [letter_len c (List.mem_range.mp hk)]
    have := gsize_b c
    omega
  lt := fun g hg => by
    unfold letters at hg
    obtain ⟨k, hk, rfl⟩ := List.mem_map.mp hg
    exact letter_lt c k
theorem LetOk.take {ls : List (List Nat)} (h : LetOk ls) {n : Nat} (hn : 1 ≤ n) : LetOk (ls.take n) where
  len := by
    rw [List.length_take]
    have := h.len
    omega
  it := fun g hg => h.it g (List.mem_of_mem_take hg)
  lt := fun g hg => h.lt g (List.mem_of_mem_take hg)
/-! the step of the drawn number -/
def nxt (n : Int) : Int := (n * 48271 + 11) % 2147483647
theorem nxt_b (n : Int) : 0 ≤ nxt n ∧ nxt n < 2147483647 := ⟨mod_lo _ (by decide), mod_hi _ (by decide)⟩
/-- a text out of groups, sign by sign -/
def tbState (ls : List (List Nat)) (c : Int) : Nat → List Nat × Int
  | 0 => ([], c % 2147483647)
  | i + 1 =>
    let s := tbState ls c i
    let n := nxt s.2
    let g := ls.getD (n / 7 % ls.length).toNat []
    (s.1 ++ [g.getD (n / 700 % g.length).toNat 0], n)
def textBy (c size : Int) (ls : List (List Nat)) : List Nat := (tbState ls c size.toNat).1
theorem tb_len (ls : List (List Nat)) (c : Int) : ∀ i, (tbState ls c i).1.length = i
  | 0 => rfl
  | i + 1 => by
    show ((tbState ls c i).1 ++ [_]).length = i + 1
    rw [List.length_append, tb_len ls c i]
    rfl
theorem tb_num (ls : List (List Nat)) (c : Int) : ∀ i, 0 ≤ (tbState ls c i).2 ∧ (tbState ls c i).2 < 2147483647
  | 0 => ⟨mod_lo _ (by decide), mod_hi _ (by decide)⟩
  | i + 1 => nxt_b _
/-- the group that is drawn -/
theorem grp_at {ls : List (List Nat)} (h : LetOk ls) (n : Int) : atI ls (n / 7 % ls.length) = some (ls.getD (n / 7 % ls.length).toNat []) ∧ ls.getD (n / 7 % ls.length).toNat [] ∈ ls := by
  have hp : (0 : Int) < ls.length := by have := h.len; omega
  have h0 := mod_lo (n / 7) hp
  have h1 := mod_hi (n / 7) hp
  refine ⟨pick_at [] h0 h1, ?_⟩
  have hl : (n / 7 % ls.length).toNat < ls.length := by omega
  rw [List.getD_eq_getElem?_getD, List.getElem?_eq_getElem hl]
  exact List.getElem_mem hl
theorem sign_at {g : List Nat} (h : 1 ≤ g.length) (n : Int) : atI g (n % g.length) = some (g.getD (n % g.length).toNat 0) ∧ g.getD (n % g.length).toNat 0 ∈ g := by
  have hp : (0 : Int) < g.length := by omega
  have h0 := mod_lo n hp
  have h1 := mod_hi n hp
  refine ⟨pick_at 0 h0 h1, ?_⟩
  have hl : (n % g.length).toNat < g.length := by omega
  rw [List.getD_eq_getElem?_getD, List.getElem?_eq_getElem hl]
  exact List.getElem_mem hl
theorem tb_mem {ls : List (List Nat)} (h : LetOk ls) (c : Int) : ∀ i, ∀ x ∈ (tbState ls c i).1, ∃ g ∈ ls, x ∈ g
  | 0, x, hx => by cases hx
  | i + 1, x, hx => by
    rcases List.mem_append.mp hx with q | q
    · exact tb_mem h c i x q
    · have e := List.mem_singleton.mp q
      have hg := (grp_at h (nxt (tbState ls c i).2)).2
      refine ⟨_, hg, ?_⟩
      rw [e]
      exact (sign_at (h.it _ hg).1 _).2
theorem textBy_len {c size : Int} {ls : List (List Nat)} : (textBy c size ls).length = size.toNat := tb_len ls c _
theorem textBy_mem {c size : Int} {ls : List (List Nat)} (h : LetOk ls) : ∀ x ∈ textBy c size ls, ∃ g ∈ ls, x ∈ g := tb_mem h c _
end Ab
namespace Ab
open PySem PySem.Spec PyProof.Rows L2
/-! ### tables -/
abbrev Row := Option Int × List (Option Nat)
structure Tbl where
  signs : List Nat
  rows : List Row
def optI : Option Int → D
  | none => .non
  | some i => .int i
def optN : Option Nat → D
  | none => .non
  | some n => .int (n : Nat)
theorem optN_I (o : Option Nat) : optN o = optI (o.map Int.ofNat) := by cases o <;> rfl
def rowD (r : Row) : D := .tup [optI r.1, .lst (r.2.map optN)]
def tblD (t : Tbl) : D := .tup [.str t.signs, .lst (t.rows.map rowD)]
structure Tbl.Ok (t : Tbl) : Prop where
  pos : 0 < t.rows.length
  wid : ∀ r ∈ t.rows, r.2.length = t.signs.length
  ins : ∀ r ∈ t.rows, ∀ n, some n ∈ r.2 → n < t.rows.length
  few : t.signs.length ≤ 1000
  many : t.rows.length ≤ 1000
  lt : ∀ x ∈ t.signs, x < 128
/-- where a sign leads from a row -/
def step (t : Tbl) (row : Nat) (c : Nat) : Option Nat := (pos c t.signs).bind fun j => (t.rows[row]?).bind fun r => (r.2[j]?).bind id
/-- where a text leads, from a row or nowhere -/
def runs (t : Tbl) (r : Option Nat) (s : List Nat) : Option Nat := s.foldl (fun r c => r.bind fun n => step t n c) r
theorem runs_snoc (t : Tbl) (r : Option Nat) (s : List Nat) (c : Nat) : runs t r (s ++ [c]) = (runs t r s).bind fun n => step t n c := by
  unfold runs
  rw [List.foldl_append]
  rfl
theorem runs_none (t : Tbl) : ∀ s : List Nat, runs t none s = none
  | [] => rfl
  | _ :: r => runs_none t r
theorem runs_app (t : Tbl) (r : Option Nat) (s s' : List Nat) : runs t r (s ++ s') = runs t (runs t r s) s' := by
  unfold runs
  rw [List.foldl_append]
theorem step_lt {t : Tbl} (h : t.Ok) {row c n : Nat} (e : step t row c = some n) : n < t.rows.length := by
  unfold step at e
  cases h1 : pos c t.signs with
  | none =>
    rw [h1] at e
    cases e
  | some j =>
    rw [h1] at e
    have e : ((t.rows[row]?).bind fun r => (r.2[j]?).bind id) = some n := e
    cases h2 : t.rows[row]? with
    | none =>
      rw [h2] at e
      cases e
    | some r =>
      rw [h2] at e
      have e : (r.2[j]?).bind id = some n := e
      cases h3 : r.2[j]? with
      | none =>
        rw [h3] at e
        cases e
      | some o =>
        rw [h3] at e
        have e : o = some n := e
        subst e
        exact h.ins r (List.mem_of_getElem? h2) n (List.mem_of_getElem? h3)
theorem runs_lt {t : Tbl} (h : t.Ok) : ∀ (s : List Nat) {r : Option Nat} {n : Nat}, (∀ m, r = some m → m < t.rows.length) → runs t r s = some n → n < t.rows.length
  | [], r, n, h0, e => h0 n e
  | c :: s, r, n, h0, e => by
    refine runs_lt h s (r := r.bind fun n => step t n c) (fun m hm => ?_) e
    cases r with
    | none => cases hm
    | some k => exact step_lt h hm
/-- the way of a sign that is there -/
theorem step_at {t : Tbl} (h : t.Ok) {row c j : Nat} (hr : row < t.rows.length) (hj : pos c t.signs = some j) : ∃ r o, t.rows[row]? = some r ∧ r.2[j]? = some o ∧ step t row c = o := by
  have hlt := pos_lt hj
  have h2 : t.rows[row]? = some t.rows[row] := List.getElem?_eq_getElem hr
  have hw := h.wid _ (List.getElem_mem hr)
  have h3 : t.rows[row].2[j]? = some (t.rows[row].2[j]'(by omega)) := List.getElem?_eq_getElem (by omega)
  refine ⟨_, _, h2, h3, ?_⟩
  unfold step
  rw [hj]
  show ((t.rows[row]?).bind fun r => (r.2[j]?).bind id) = _
  rw [h2]
  show (t.rows[row].2[j]?).bind id = _
  rw [h3]
  rfl
theorem step_no {t : Tbl} {row c : Nat} (h : pos c t.signs = none) : step t row c = none := by
  unfold step
  rw [h]
  rfl
/-- sign by sign -/
theorem runs_take (t : Tbl) (r : Option Nat) {s : List Nat} {i c : Nat} (h : s[i]? = some c) : runs t r (s.take (i + 1)) = (runs t r (s.take i)).bind fun n => step t n c := by
  rw [List.take_add_one, h]
  exact runs_snoc t r _ c
theorem runs_dead (t : Tbl) (r : Option Nat) {s : List Nat} {i : Nat} (h : runs t r (s.take i) = none) : runs t r s = none := by
  have e := runs_app t r (s.take i) (s.drop i)
  rw [List.take_append_drop, h, runs_none] at e
  exact e
/-! ### == of tables -/
theorem strOk_small {s : List Nat} (h : ∀ x ∈ s, x < 128) : PyData.canLay0 (.str (sOf s)) = true := by
  show (s.toArray.all (· < 0x110000)) = true
  rw [List.all_toArray, List.all_eq_true]
  intro x hx
  have := h x hx
  exact decide_eq_true (by omega)
/-- data that == can compare, at most n deep -/
structure Good (n : Nat) (d : D) : Prop where
  lay : d.py.canLay0 = true
  dep : d.py.depth ≤ n
theorem pys_lay {n : Nat} : ∀ {ds : List D}, (∀ d ∈ ds, Good n d) → PyData.canLayAll0 (D.pys ds) = true ∧ PyData.depthAll (D.pys ds) ≤ n
  | [], _ => ⟨rfl, Nat.zero_le _⟩
  | d :: r, h => by
    obtain ⟨h1, h2⟩ := h d (by simp)
    obtain ⟨h3, h4⟩ := pys_lay (ds := r) fun x hx => h x (by simp [hx])
    refine ⟨?_, ?_⟩
    · show (d.py.canLay0 && PyData.canLayAll0 (D.pys r)) = true
      rw [h1, h3]
      rfl
    · show max d.py.depth (PyData.depthAll (D.pys r)) ≤ n
      omega
theorem Good.lst {n : Nat} {ds : List D} (h : ∀ d ∈ ds, Good n d) : Good (n + 1) (.lst ds) := by
  obtain ⟨h1, h2⟩ := pys_lay h
  refine ⟨h1, ?_⟩
  show PyData.depthAll (D.pys ds) + 1 ≤ n + 1
  omega
theorem Good.tup {n : Nat} {ds : List D} (h : ∀ d ∈ ds, Good n d) : Good (n + 1) (.tup ds) := by
  obtain ⟨h1, h2⟩ := pys_lay h
  refine ⟨h1, ?_⟩
  show PyData.depthAll (D.pys ds) + 1 ≤ n + 1
  omega
theorem Good.str {n : Nat} {s : List Nat} (h : ∀ x ∈ s, x < 128) : Good n (.str s) := ⟨strOk_small h, Nat.zero_le _⟩
theorem Good.int {n : Nat} {i : Int} : Good n (.int i) := ⟨rfl, Nat.zero_le _⟩
theorem Good.non {n : Nat} : Good n .non := ⟨rfl, Nat.zero_le _⟩
theorem Good.bl {n : Nat} {b : Bool} : Good n (.bl b) := ⟨rfl, Nat.zero_le _⟩
theorem Good.ok {n : Nat} {d : D} (h : Good n d) (hn : n ≤ 64 := by decide) : okD d := by
  show (d.py.canLay0 && decide (d.py.depth ≤ 64)) = true
  rw [h.lay, decide_eq_true (Nat.le_trans h.dep hn)]
  rfl
theorem Good.two {n : Nat} {a b : D} (ha : Good n a) (hb : Good n b) : ∀ d ∈ [a, b], Good n d := fun d hd => by
  rcases List.mem_cons.mp hd with rfl | hd
  · exact ha
  · rw [List.mem_singleton.mp hd]
    exact hb
theorem optI_good {n : Nat} (o : Option Int) : Good n (optI o) := by
  cases o with
  | none => exact .non
  | some i => exact .int
theorem optN_good {n : Nat} (o : Option Nat) : Good n (optN o) := by
  cases o with
  | none => exact .non
  | some i => exact .int
theorem rowD_good (r : Row) : Good 2 (rowD r) := .tup (.two (optI_good _) (.lst fun d hd => by
  obtain ⟨w, _, rfl⟩ := List.mem_map.mp hd
  exact optN_good (n := 0) w))
theorem tblD_good {t : Tbl} (h : t.Ok) : Good 4 (tblD t) := .tup (.two (.str h.lt) (.lst fun d hd => by
  obtain ⟨r, _, rfl⟩ := List.mem_map.mp hd
  exact rowD_good r))
/-! ### the drawn table -/
structure TP where
  many : Int
  signs : List Nat
  style : Int
  mst : Int
  alone : Int
structure TP.Ok (p : TP) : Prop where
  m : 1 ≤ p.many ∧ p.many ≤ 64
  s : p.signs.length ≤ 100
  lt : ∀ x ∈ p.signs, x < 128
  st : 0 ≤ p.style ∧ p.style < 4
  mo : 1 ≤ p.mst ∧ p.mst ≤ 1000
  al : 0 ≤ p.alone ∧ p.alone ≤ 1000000000
def wayV (p : TP) (k n : Int) (i : Nat) : Int := if ((decide (0 < p.style) && decide (p.style < 3)) && decide ((i : Int) = 0)) = true then k + 1 else n / 7 % p.mst
def wayO (p : TP) (k n : Int) (i : Nat) : Option Nat := if decide (p.many ≤ wayV p k n i) = true then none else some (wayV p k n i).toNat
def wState (p : TP) (k n0 : Int) : Nat → List (Option Nat) × Int
  | 0 => ([], n0)
  | i + 1 => ((wState p k n0 i).1 ++ [wayO p k (nxt (wState p k n0 i).2) i], nxt (wState p k n0 i).2)
def thr : List Int := [6, 12, 30, 3]
def toldV (p : TP) (n : Int) : Int := n / 7 % thr.getD p.style.toNat 0
def toldO (p : TP) (n : Int) : Option Int := if decide (2 < toldV p n) = true then none else some (toldV p n * p.alone)
def rState (p : TP) (n0 : Int) : Nat → List Row × Int
  | 0 => ([], n0)
  | k + 1 =>
    ((rState p n0 k).1 ++ [(toldO p (nxt (wState p k (rState p n0 k).2 p.signs.length).2), (wState p k (rState p n0 k).2 p.signs.length).1)],
      nxt (wState p k (rState p n0 k).2 p.signs.length).2)
def tpMany (ns : List Int) : Int := if decide (cell ns 1 / 7 % 6 = 1) = true then 1 + cell ns 1 / 42 % 64 else 1 + cell ns 1 % 7
def tpSigns (ns : List Int) (ls : List (List Nat)) (most : Int) : List Nat := cutG (TL.joinL [] (cutG ls none (some (cell ns 2 % 5)))) none (some (if decide (7 < tpMany ns) = true then most else 40))
def tpOf (ns : List Int) (ls : List (List Nat)) (most : Int) : TP where
  many := tpMany ns
  signs := tpSigns ns ls most
  style := cell ns 2 / 5 % 4
  mst := tpMany ns + [0, 1, 1 + tpMany ns / 3].getD (cell ns 2 / 20 % 3).toNat 0
  alone := [0, 1, 7, 10 ^ 9].getD (cell ns 2 / 60 % 4).toNat 0
def tableBy (ns : List Int) (ls : List (List Nat)) (most : Int) : Tbl := ⟨tpSigns ns ls most, (rState (tpOf ns ls most) (cell ns 3 % 2147483647) (tpMany ns).toNat).1⟩
theorem tpMany_b (ns : List Int) : 1 ≤ tpMany ns ∧ tpMany ns ≤ 64 := by
  unfold tpMany
  have h0 := mod_lo (cell ns 1) (n := 7) (by decide)
  have h1 := mod_hi (cell ns 1) (n := 7) (by decide)
  have h2 := mod_lo (cell ns 1 / 42) (n := 64) (by decide)
  have h3 := mod_hi (cell ns 1 / 42) (n := 64) (by decide)
  split <;> omega
theorem cutG_len {α : Type} (xs : List α) (lo hi : Option Int) : (cutG xs lo hi).length ≤ xs.length := by
  unfold cutG
  rw [List.length_take, List.length_drop]
  omega
theorem cutG_mem {α : Type} {xs : List α} {lo hi : Option Int} {x : α} (h : x ∈ cutG xs lo hi) : x ∈ xs := List.mem_of_mem_drop (List.mem_of_mem_take h)
theorem cutG_map0 {α β : Type} (f : α → β) (xs : List α) (lo hi : Option Int) : cutG (xs.map f) lo hi = (cutG xs lo hi).map f := by
  unfold cutG
  rw [List.map_take, List.map_drop, List.length_map]
theorem cutG_to {α : Type} (xs : List α) {n : Int} (h : 0 ≤ n) : cutG xs none (some n) = xs.take n.toNat := by
  unfold cutG
  have e : n = (n.toNat : Int) := by omega
  rw [HT.sIx_none, e, HT.sIx_nat, Int.toNat_natCast, List.drop_zero, Nat.sub_zero]
  by_cases hl : n.toNat ≤ xs.length
  · rw [Nat.min_eq_left hl]
  · rw [Nat.min_eq_right (by omega), List.take_of_length_le (Nat.le_refl _), List.take_of_length_le (by omega)]
theorem cutG_to_len {α : Type} (xs : List α) {n : Int} (h : 0 ≤ n) : (cutG xs none (some n)).length ≤ n.toNat := by
  rw [cutG_to xs h, List.length_take]
  omega
theorem sum_le {b : Nat} : ∀ {xs : List Nat}, (∀ x ∈ xs, x ≤ b) → xs.sum ≤ xs.length * b
  | [], _ => Nat.zero_le _
  | x :: r, h => by
    have h1 := h x (by simp)
    have h2 := sum_le (xs := r) fun y hy => h y (by simp [hy])
    rw [List.sum_cons, List.length_cons, Nat.succ_mul]
    omega
theorem flat_len (xs : List (List Nat)) : xs.flatten.length = (xs.map (·.length)).sum := List.length_flatten
theorem joined {ls : List (List Nat)} (h : ∀ g ∈ ls, g.length ≤ 19) : (ls.map (·.length)).sum ≤ ls.length * 19 := by
  have := sum_le (b := 19) (xs := ls.map (·.length)) fun x hx => by
    obtain ⟨g, hg, rfl⟩ := List.mem_map.mp hx
    exact h g hg
  rwa [List.length_map] at this
theorem tpOf_ok {ns : List Int} {ls : List (List Nat)} {most : Int} (h : LetOk ls) (hm : 0 ≤ most ∧ most ≤ 40) : (tpOf ns ls most).Ok where
  m := tpMany_b ns
  s := by
    show (tpSigns ns ls most).length ≤ 100
    unfold tpSigns
    refine Nat.le_trans (cutG_to_len _ ?_) ?_
    · split <;> omega
    · split <;> omega
  lt := fun x hx => by
    have hx := cutG_mem hx
    rw [joinL_nil] at hx
    obtain ⟨g, hg, hxg⟩ := List.mem_flatten.mp hx
    exact h.lt g (cutG_mem hg) x hxg
  st := ⟨mod_lo _ (by decide), mod_hi _ (by decide)⟩
  mo := by
    show 1 ≤ tpMany ns + [0, 1, 1 + tpMany ns / 3].getD (cell ns 2 / 20 % 3).toNat 0 ∧ _
    have h0 := tpMany_b ns
    have hx : ∀ x ∈ ([0, 1, 1 + tpMany ns / 3] : List Int), 0 ≤ x ∧ x ≤ 100 := by
      intro x hx
      simp only [List.mem_cons, List.not_mem_nil, or_false] at hx
      rcases hx with rfl | rfl | rfl <;> omega
    have h1 := mod_lo (cell ns 2 / 20) (n := 3) (by decide)
    have h2 := mod_hi (cell ns 2 / 20) (n := 3) (by decide)
    have hl : (cell ns 2 / 20 % 3).toNat < ([0, 1, 1 + tpMany ns / 3] : List Int).length := by show _ < 3; omega
    have q : 0 ≤ ([0, 1, 1 + tpMany ns / 3] : List Int).getD (cell ns 2 / 20 % 3).toNat 0 ∧ ([0, 1, 1 + tpMany ns / 3] : List Int).getD (cell ns 2 / 20 % 3).toNat 0 ≤ 100 := by
      rw [List.getD_eq_getElem?_getD, List.getElem?_eq_getElem hl]
      exact hx _ (List.getElem_mem hl)
    show 1 ≤ tpMany ns + [0, 1, 1 + tpMany ns / 3].getD (cell ns 2 / 20 % 3).toNat 0 ∧ tpMany ns + [0, 1, 1 + tpMany ns / 3].getD (cell ns 2 / 20 % 3).toNat 0 ≤ 1000
    omega
  al := by
    have hx : ∀ x ∈ ([0, 1, 7, 10 ^ 9] : List Int), 0 ≤ x ∧ x ≤ 1000000000 := by decide
    have h1 := mod_lo (cell ns 2 / 60) (n := 4) (by decide)
    have h2 := mod_hi (cell ns 2 / 60) (n := 4) (by decide)
    have hl : (cell ns 2 / 60 % 4).toNat < ([0, 1, 7, 10 ^ 9] : List Int).length := by show _ < 4; omega
    show 0 ≤ ([0, 1, 7, 10 ^ 9] : List Int).getD (cell ns 2 / 60 % 4).toNat 0 ∧ ([0, 1, 7, 10 ^ 9] : List Int).getD (cell ns 2 / 60 % 4).toNat 0 ≤ 1000000000
    rw [List.getD_eq_getElem?_getD, List.getElem?_eq_getElem hl]
    exact hx _ (List.getElem_mem hl)
theorem w_len (p : TP) (k n0 : Int) : ∀ i, (wState p k n0 i).1.length = i
  | 0 => rfl
  | i + 1 => by
    show ((wState p k n0 i).1 ++ [_]).length = i + 1
    rw [List.length_append, w_len p k n0 i]
    rfl
theorem wayV_lo {p : TP} (h : p.Ok) {k n : Int} (hk : 0 ≤ k) (i : Nat) : 0 ≤ wayV p k n i := by
  unfold wayV
  split
  · omega
  · exact mod_lo _ (by have := h.mo; omega)
theorem w_ins {p : TP} (h : p.Ok) {k n0 : Int} (hk : 0 ≤ k) : ∀ i, ∀ n, some n ∈ (wState p k n0 i).1 → (n : Int) < p.many
  | 0, n, hn => by cases hn
  | i + 1, n, hn => by
    rcases List.mem_append.mp hn with q | q
    · exact w_ins h hk i n q
    · have e := List.mem_singleton.mp q
      unfold wayO at e
      have h0 := wayV_lo h (n := nxt (wState p k n0 i).2) hk i
      by_cases hw : p.many ≤ wayV p k (nxt (wState p k n0 i).2) i
      · rw [if_pos (decide_eq_true hw)] at e
        cases e
      · rw [if_neg (by rw [decide_eq_false hw]; exact Bool.false_ne_true)] at e
        have e := Option.some.inj e
        omega
theorem r_len (p : TP) (n0 : Int) : ∀ k, (rState p n0 k).1.length = k
  | 0 => rfl
  | k + 1 => by
    show ((rState p n0 k).1 ++ [_]).length = k + 1
    rw [List.length_append, r_len p n0 k]
    rfl
theorem r_rows {p : TP} (h : p.Ok) (n0 : Int) : ∀ k, ∀ r ∈ (rState p n0 k).1, r.2.length = p.signs.length ∧ ∀ n, some n ∈ r.2 → (n : Int) < p.many
  | 0, r, hr => by cases hr
  | k + 1, r, hr => by
    rcases List.mem_append.mp hr with q | q
    · exact r_rows h n0 k r q
    · rw [List.mem_singleton.mp q]
      exact ⟨w_len _ _ _ _, w_ins h (Int.natCast_nonneg k) _⟩
theorem tableBy_ok {ns : List Int} {ls : List (List Nat)} {most : Int} (h : LetOk ls) (hm : 0 ≤ most ∧ most ≤ 40) : (tableBy ns ls most).Ok := by
  have hp := tpOf_ok (ns := ns) h hm
  have hl : (tableBy ns ls most).rows.length = (tpMany ns).toNat := r_len _ _ _
  have hb := tpMany_b ns
  exact {
    pos := by rw [hl]; omega
    wid := fun r hr => (r_rows hp _ _ r hr).1
    ins := fun r hr n hn => by
      have := (r_rows hp _ _ r hr).2 n hn
      have e : (tpOf ns ls most).many = tpMany ns := rfl
      rw [hl]
      omega
    few := Nat.le_trans hp.s (by decide)
    many := by rw [hl]; omega
    lt := hp.lt }
/-- one of two, by a truth -/
theorem pick2 {x y : D} (b : Bool) : atI [x, y] (if b = true then 1 else 0) = some (if b = true then y else x) := by cases b <;> rfl
end Ab
namespace Ab
open PySem PySem.Spec PyProof.Rows L2
/-! ### the groups have no sign in common -/
theorem chunk_flat {α : Type} (l : List α) (m : Nat) : ∀ n, ((List.range n).map fun k => (l.drop (k * m)).take m).flatten = l.take (n * m)
  | 0 => by
    rw [Nat.zero_mul, List.take_zero]
    rfl
  | n + 1 => by
    rw [List.range_succ, List.map_append, List.flatten_append, chunk_flat l m n, Nat.succ_mul, List.take_add]
    simp
theorem abc_nodup : abc.Nodup := by decide +kernel
theorem abc_inj {i j : Nat} (hi : i < 96) (hj : j < 96) (h : abc.getD i 0 = abc.getD j 0) : i = j := by
  have h1 : i < abc.length := by rw [abc_len]; exact hi
  have h2 : j < abc.length := by rw [abc_len]; exact hj
  rw [List.getD_eq_getElem?_getD, List.getD_eq_getElem?_getD, List.getElem?_eq_getElem h1, List.getElem?_eq_getElem h2] at h
  have h : abc[i] = abc[j] := h
  rcases Nat.lt_trichotomy i j with z | z | z
  · exact absurd h (List.pairwise_iff_getElem.mp abc_nodup i j h1 h2 z)
  · exact z
  · exact absurd h.symm (List.pairwise_iff_getElem.mp abc_nodup j i h2 h1 z)
theorem sgn_inj {a b : Int} (h : sgn a = sgn b) : a % 96 = b % 96 := by
  have h1 := mod_lo a (n := 96) (by decide)
  have h2 := mod_hi a (n := 96) (by decide)
  have h3 := mod_lo b (n := 96) (by decide)
  have h4 := mod_hi b (n := 96) (by decide)
  have := abc_inj (i := (a % 96).toNat) (j := (b % 96).toNat) (by omega) (by omega) h
  omega
theorem gap_cases (c : Int) : gap c = 1 ∨ gap c = 5 ∨ gap c = 7 ∨ gap c = 11 ∨ gap c = 13 ∨ gap c = 17 ∨ gap c = 19 ∨ gap c = 23 := by
  unfold gap
  have h1 := mod_lo (c / 96) (n := 8) (by decide)
  have h2 := mod_hi (c / 96) (n := 8) (by decide)
  have : ∀ i, i < 8 → (gaps.getD i 0 = 1 ∨ gaps.getD i 0 = 5 ∨ gaps.getD i 0 = 7 ∨ gaps.getD i 0 = 11 ∨ gaps.getD i 0 = 13 ∨ gaps.getD i 0 = 17 ∨ gaps.getD i 0 = 19 ∨ gaps.getD i 0 = 23) := by decide
  exact this _ (by omega)
theorem lsigns_nodup (c : Int) : (lsigns c).Nodup := by
  unfold lsigns
  have hs := gsize_b c
  refine List.pairwise_map.mpr (List.Pairwise.imp_of_mem ?_ (List.pairwise_lt_range (n := (5 * gsize c).toNat)))
  intro i j hi hj hij e
  have hi := List.mem_range.mp hi
  have hj := List.mem_range.mp hj
  have := sgn_inj e
  rcases gap_cases c with g | g | g | g | g | g | g | g <;> rw [g] at this <;> omega
/-- the groups, each sign once -/
structure LetU (ls : List (List Nat)) : Prop where
  ok : LetOk ls
  nd : ls.flatten.Nodup
theorem letters_flat (c : Int) : (letters c).flatten = lsigns c := by
  have hs := gsize_b c
  have h := chunk_flat (lsigns c) (gsize c).toNat 5
  have hl := lsigns_len c
  rw [List.take_of_length_le (by rw [hl]; omega)] at h
  exact h
theorem letters_u (c : Int) : LetU (letters c) := ⟨letters_ok c, by rw [letters_flat]; exact lsigns_nodup c⟩
theorem flat_take {α : Type} {l : List (List α)} {i : Nat} {g : List α} (h : l[i]? = some g) : (l.take (i + 1)).flatten = (l.take i).flatten ++ g := by
  rw [List.take_add_one, h, List.flatten_append]
  simp
theorem LetU.tk {ls : List (List Nat)} (h : LetU ls) (i : Nat) : (ls.take i).flatten.Nodup := by
  have e := congrArg List.flatten (List.take_append_drop i ls)
  rw [List.flatten_append] at e
  have := h.nd
  rw [← e] at this
  exact (List.nodup_append.mp this).1
theorem LetU.take {ls : List (List Nat)} (h : LetU ls) {n : Nat} (hn : 1 ≤ n) : LetU (ls.take n) := ⟨h.ok.take hn, h.tk n⟩
/-! ### some of the groups -/
def someSt (ls : List (List Nat)) (m : Int) : Nat → List Nat × Int
  | 0 => ([], m)
  | i + 1 => (if decide ((someSt ls m i).2 % 2 = 1) = true then ls.getD i [] ++ (someSt ls m i).1 else (someSt ls m i).1, (someSt ls m i).2 / 2)
def someOf (ls : List (List Nat)) (m : Int) : List Nat := (someSt ls m 4).1
theorem someSt_sub (ls : List (List Nat)) (m : Int) : ∀ i, i ≤ ls.length → ∀ x ∈ (someSt ls m i).1, x ∈ (ls.take i).flatten
  | 0, _, x, hx => by cases hx
  | i + 1, hi, x, hx => by
    have hg : ls[i]? = some (ls.getD i []) := by rw [List.getD_eq_getElem?_getD, List.getElem?_eq_getElem (by omega)]; rfl
    rw [flat_take hg]
    have hx : x ∈ (if decide ((someSt ls m i).2 % 2 = 1) = true then ls.getD i [] ++ (someSt ls m i).1 else (someSt ls m i).1) := hx
    split at hx
    · rcases List.mem_append.mp hx with q | q
      · exact List.mem_append_right _ q
      · exact List.mem_append_left _ (someSt_sub ls m i (by omega) x q)
    · exact List.mem_append_left _ (someSt_sub ls m i (by omega) x hx)
theorem someSt_nd {ls : List (List Nat)} (h : LetU ls) (m : Int) : ∀ i, i ≤ ls.length → (someSt ls m i).1.Nodup
  | 0, _ => List.nodup_nil
  | i + 1, hi => by
    have hg : ls[i]? = some (ls.getD i []) := by rw [List.getD_eq_getElem?_getD, List.getElem?_eq_getElem (by omega)]; rfl
    have hn := h.tk (i + 1)
    rw [flat_take hg] at hn
    obtain ⟨_, h2, h3⟩ := List.nodup_append.mp hn
    show (if decide ((someSt ls m i).2 % 2 = 1) = true then ls.getD i [] ++ (someSt ls m i).1 else (someSt ls m i).1).Nodup
    split
    · refine List.nodup_append.mpr ⟨h2, someSt_nd h m i (by omega), fun a ha b hb e => ?_⟩
      exact h3 b (someSt_sub ls m i (by omega) b hb) a ha e.symm
    · exact someSt_nd h m i (by omega)
theorem someSt_len {ls : List (List Nat)} (h : LetOk ls) (m : Int) : ∀ i, i ≤ ls.length → (someSt ls m i).1.length ≤ i * 19
  | 0, _ => Nat.zero_le _
  | i + 1, hi => by
    have ih := someSt_len h m i (by omega)
    have hg : ls.getD i [] ∈ ls := by
      rw [List.getD_eq_getElem?_getD, List.getElem?_eq_getElem (by omega)]
      exact List.getElem_mem _
    have h2 := (h.it _ hg).2
    show (if decide ((someSt ls m i).2 % 2 = 1) = true then ls.getD i [] ++ (someSt ls m i).1 else (someSt ls m i).1).length ≤ (i + 1) * 19
    split
    · rw [List.length_append]
      omega
    · omega
theorem someSt_lt {ls : List (List Nat)} (h : LetOk ls) (m : Int) {i : Nat} (hi : i ≤ ls.length) : ∀ x ∈ (someSt ls m i).1, x < 128 := fun x hx => by
  obtain ⟨g, hg, hx⟩ := List.mem_flatten.mp (someSt_sub ls m i hi x hx)
  exact h.lt g (List.mem_of_mem_take hg) x hx
structure SomeOk (s : List Nat) : Prop where
  ne : s ≠ []
  nd : s.Nodup
  len : s.length ≤ 76
  lt : ∀ x ∈ s, x < 128
theorem someOf_ne {ls : List (List Nat)} (h : LetOk ls) (hl : 4 ≤ ls.length) {m : Int} (h1 : 1 ≤ m) (h2 : m ≤ 15) : someOf ls m ≠ [] := by
  have ne : ∀ i, i < 4 → ls.getD i [] ≠ [] := fun i hi e => by
    have hg : ls.getD i [] ∈ ls := by
      rw [List.getD_eq_getElem?_getD, List.getElem?_eq_getElem (by omega)]
      exact List.getElem_mem _
    have := (h.it _ hg).1
    rw [e] at this
    exact absurd this (by decide)
  have st : ∀ i, i < 4 → (someSt ls m (i + 1)).1 = [] → (someSt ls m i).1 = [] ∧ ¬ (someSt ls m i).2 % 2 = 1 := fun i hi e => by
    have e : (if decide ((someSt ls m i).2 % 2 = 1) = true then ls.getD i [] ++ (someSt ls m i).1 else (someSt ls m i).1) = [] := e
    split at e
    · exact absurd (List.append_eq_nil_iff.mp e).1 (ne i hi)
    · rename_i z
      exact ⟨e, fun w => z (decide_eq_true w)⟩
  intro e
  obtain ⟨e3, q3⟩ := st 3 (by decide) e
  obtain ⟨e2, q2⟩ := st 2 (by decide) e3
  obtain ⟨e1, q1⟩ := st 1 (by decide) e2
  obtain ⟨e0, q0⟩ := st 0 (by decide) e1
  have q0 : ¬ m % 2 = 1 := q0
  have q1 : ¬ m / 2 % 2 = 1 := q1
  have q2 : ¬ m / 2 / 2 % 2 = 1 := q2
  have q3 : ¬ m / 2 / 2 / 2 % 2 = 1 := q3
  omega
theorem someOf_ok {ls : List (List Nat)} (h : LetU ls) (hl : 4 ≤ ls.length) {m : Int} (h1 : 1 ≤ m) (h2 : m ≤ 15) : SomeOk (someOf ls m) := ⟨someOf_ne h.ok hl h1 h2, someSt_nd h m 4 hl, someSt_len h.ok m 4 hl, someSt_lt h.ok m hl⟩
end Ab
namespace Ab
open PySem PySem.Spec PyProof.Rows L2
/-! ### sets of leaves as numbers -/
/-- the place of the lowest bit -/
def ctz (n : Nat) : Nat := if h : n = 0 then 0 else if n % 2 = 1 then 0 else ctz (n / 2) + 1
termination_by n
decreasing_by omega
theorem ctz_odd {n : Nat} (h : n % 2 = 1) : ctz n = 0 := by
  rw [ctz]
  split
  · rfl
  · rfl
theorem ctz_even {n : Nat} (h0 : n ≠ 0) (h : n % 2 = 0) : ctz n = ctz (n / 2) + 1 := by
  rw [ctz, dif_neg h0, if_neg (by omega)]
/-- the places of the bits, the lowest first -/
def bitsB (n off : Nat) : List Nat := if h : n = 0 then [] else (if n % 2 = 1 then [off] else []) ++ bitsB (n / 2) (off + 1)
termination_by n
decreasing_by omega
theorem bitsB_zero (off : Nat) : bitsB 0 off = [] := by rw [bitsB, dif_pos rfl]
theorem bitsB_odd {n : Nat} (h : n % 2 = 1) (off : Nat) : bitsB n off = off :: bitsB (n / 2) (off + 1) := by
  rw [bitsB, dif_neg (by omega), if_pos h]
  rfl
theorem bitsB_even {n : Nat} (h : n % 2 = 0) (off : Nat) : bitsB n off = bitsB (n / 2) (off + 1) := by
  by_cases h0 : n = 0
  · subst h0
    rw [bitsB_zero, bitsB_zero]
  · rw [bitsB, dif_neg h0, if_neg (by omega)]
    rfl
theorem low_le : ∀ n : Nat, n ≠ 0 → 2 ^ ctz n ≤ n ∧ 2 ^ ctz n ≠ 0 := fun n => by
  induction n using Nat.strongRecOn with
  | ind n ih =>
    intro h0
    by_cases h : n % 2 = 1
    · rw [ctz_odd h]
      exact ⟨by omega, by decide⟩
    · have h : n % 2 = 0 := by omega
      rw [ctz_even h0 h, Nat.pow_succ]
      have := ih (n / 2) (by omega) (by omega)
      omega
theorem bitsB_low : ∀ (n off : Nat), n ≠ 0 → bitsB n off = (off + ctz n) :: bitsB (n - 2 ^ ctz n) off := fun n => by
  induction n using Nat.strongRecOn with
  | ind n ih =>
    intro off h0
    by_cases h : n % 2 = 1
    · rw [ctz_odd h, bitsB_odd h]
      show off :: _ = (off + 0) :: bitsB (n - 1) off
      rw [bitsB_even (by omega : (n - 1) % 2 = 0), show (n - 1) / 2 = n / 2 by omega]
      rfl
    · have h : n % 2 = 0 := by omega
      have hl := low_le (n / 2) (by omega)
      rw [bitsB_even h, ih (n / 2) (by omega) (off + 1) (by omega), ctz_even h0 h, Nat.pow_succ, bitsB_even (by omega : (n - 2 ^ ctz (n / 2) * 2) % 2 = 0)]
      rw [show (n - 2 ^ ctz (n / 2) * 2) / 2 = n / 2 - 2 ^ ctz (n / 2) by omega, show off + 1 + ctz (n / 2) = off + (ctz (n / 2) + 1) by omega]
theorem bitsB_mem : ∀ (n off i : Nat), i ∈ bitsB n off ↔ off ≤ i ∧ n.testBit (i - off) = true := fun n => by
  induction n using Nat.strongRecOn with
  | ind n ih =>
    intro off i
    by_cases h0 : n = 0
    · subst h0
      rw [bitsB_zero]
      simp
    · have key : i ∈ bitsB (n / 2) (off + 1) ↔ off + 1 ≤ i ∧ n.testBit (i - off) = true := by
        rw [ih (n / 2) (by omega)]
        constructor
        · rintro ⟨h1, h2⟩
          refine ⟨h1, ?_⟩
          rw [show i - off = (i - (off + 1)) + 1 by omega, Nat.testBit_succ]
          exact h2
        · rintro ⟨h1, h2⟩
          refine ⟨h1, ?_⟩
          rw [show i - off = (i - (off + 1)) + 1 by omega, Nat.testBit_succ] at h2
          exact h2
      by_cases h : n % 2 = 1
      · rw [bitsB_odd h, List.mem_cons, key]
        constructor
        · rintro (rfl | ⟨h1, h2⟩)
          · refine ⟨Nat.le_refl _, ?_⟩
            rw [Nat.sub_self, Nat.testBit_zero, decide_eq_true h]
          · exact ⟨by omega, h2⟩
        · rintro ⟨h1, h2⟩
          by_cases e : i = off
          · exact .inl e
          · exact .inr ⟨by omega, h2⟩
      · have h : n % 2 = 0 := by omega
        rw [bitsB_even h, key]
        constructor
        · rintro ⟨h1, h2⟩
          exact ⟨by omega, h2⟩
        · rintro ⟨h1, h2⟩
          by_cases e : i = off
          · subst e
            rw [Nat.sub_self, Nat.testBit_zero] at h2
            have := of_decide_eq_true h2
            omega
          · exact ⟨by omega, h2⟩
def bitsOf (n : Nat) : List Nat := bitsB n 0
theorem bitsOf_mem {n i : Nat} : i ∈ bitsOf n ↔ n.testBit i = true := by
  unfold bitsOf
  rw [bitsB_mem]
  simp
theorem bitsOf_low {n : Nat} (h : n ≠ 0) : bitsOf n = ctz n :: bitsOf (n - 2 ^ ctz n) := by
  unfold bitsOf
  rw [bitsB_low n 0 h, Nat.zero_add]
/-- n & (n - 1) -/
theorem and_pred : ∀ n : Nat, n ≠ 0 → n &&& (n - 1) = n - 2 ^ ctz n := fun n => by
  induction n using Nat.strongRecOn with
  | ind n ih =>
    intro h0
    have e2 := Nat.and_div_two (a := n) (b := n - 1)
    have e1 := Nat.and_mod_two_eq_one (a := n) (b := n - 1)
    by_cases h : n % 2 = 1
    · rw [ctz_odd h]
      have e3 : (n - 1) / 2 = n / 2 := by omega
      rw [e3, Nat.and_self] at e2
      have e4 : ¬ (n &&& (n - 1)) % 2 = 1 := fun z => by
        have := (e1.mp z).2
        omega
      show n &&& (n - 1) = n - 1
      omega
    · have h : n % 2 = 0 := by omega
      have hl := low_le (n / 2) (by omega)
      have e3 : (n - 1) / 2 = n / 2 - 1 := by omega
      rw [e3, ih (n / 2) (by omega) (by omega)] at e2
      have e4 : ¬ (n &&& (n - 1)) % 2 = 1 := fun z => by
        have := (e1.mp z).1
        omega
      rw [ctz_even h0 h, Nat.pow_succ]
      omega
/-- n & -n, as the model says -/
theorem low_bit {n : Nat} (h : n ≠ 0) : Builtin.bitAnd (n : Int) (-(n : Int)) = ((2 ^ ctz n : Nat) : Int) := by
  have h1 : decide ((0 : Int) ≤ (n : Int)) = true := decide_eq_true (by omega)
  have h2 : decide ((0 : Int) ≤ -(n : Int)) = false := decide_eq_false (by omega)
  unfold Builtin.bitAnd
  rw [h1, h2]
  show (n : Int) - (((n : Int).toNat &&& (Builtin.bitNot (-(n : Int))).toNat : Nat) : Int) = _
  have e : (Builtin.bitNot (-(n : Int))).toNat = n - 1 := by
    unfold Builtin.bitNot
    omega
  rw [e, Int.toNat_natCast, and_pred n h]
  have := low_le n h
  omega
theorem and_low {n : Nat} (h : n ≠ 0) : n &&& 2 ^ ctz n = 2 ^ ctz n ∧ n ||| 2 ^ ctz n = n := by
  have hb : n.testBit (ctz n) = true := by
    rw [← bitsOf_mem, bitsOf_low h]
    exact List.mem_cons_self
  refine ⟨Nat.eq_of_testBit_eq fun i => ?_, Nat.eq_of_testBit_eq fun i => ?_⟩
  · rw [Nat.testBit_and, Nat.testBit_two_pow]
    by_cases e : ctz n = i
    · subst e
      rw [hb]
      rfl
    · rw [decide_eq_false e, Bool.and_false]
  · rw [Nat.testBit_or, Nat.testBit_two_pow]
    by_cases e : ctz n = i
    · subst e
      rw [hb]
      rfl
    · rw [decide_eq_false e, Bool.or_false]
theorem bitAnd_nat (a b : Nat) : Builtin.bitAnd (a : Int) (b : Int) = ((a &&& b : Nat) : Int) := by
  unfold Builtin.bitAnd
  rw [decide_eq_true (by omega : (0 : Int) ≤ (a : Int)), decide_eq_true (by omega : (0 : Int) ≤ (b : Int))]
  rfl
theorem bitOr_nat (a b : Nat) : Builtin.bitOr (a : Int) (b : Int) = ((a ||| b : Nat) : Int) := by
  rw [bitOr_nn (Int.natCast_nonneg _) (Int.natCast_nonneg _), Int.toNat_natCast, Int.toNat_natCast]
/-- n ^ its lowest bit -/
theorem xor_low {n : Nat} (h : n ≠ 0) : Builtin.bitXor (n : Int) ((2 ^ ctz n : Nat) : Int) = ((n - 2 ^ ctz n : Nat) : Int) := by
  unfold Builtin.bitXor
  rw [bitOr_nat, bitAnd_nat, (and_low h).1, (and_low h).2]
  have := low_le n h
  omega
theorem log_low (n : Nat) : (Builtin.Int.intBits ((2 ^ ctz n : Nat) : Int) : Nat) = ctz n + 1 := by
  unfold Builtin.Int.intBits
  have hp : 2 ^ ctz n ≠ 0 := by
    have := Nat.two_pow_pos (ctz n)
    omega
  have hq : ¬ ((((2 ^ ctz n : Nat) : Int) == 0) = true) := fun z => hp (by have := of_decide_eq_true z; omega)
  first
  | rw [if_neg hq, Int.natAbs_natCast, Nat.log2_two_pow]
  | rw [if_neg (by simpa using hp), Int.natAbs_natCast, Nat.log2_two_pow]

/-! ### patterns -/
inductive Pat where
  | one (s : List Nat)
  | row (ps : List Pat)
  | or (ps : List Pat)
  | many (p : Pat)
  | maybe (p : Pat)
def kOne : List Nat := [111, 110, 101]
def kRow : List Nat := [114, 111, 119]
def kOr : List Nat := [111, 114]
def kMany : List Nat := [109, 97, 110, 121]
def kMaybe : List Nat := [109, 97, 121, 98, 101]
mutual
def patD : Pat → D
  | .one s => .tup [.str kOne, .str s]
  | .row ps => .tup [.str kRow, .lst (patsD ps)]
  | .or ps => .tup [.str kOr, .lst (patsD ps)]
  | .many p => .tup [.str kMany, patD p]
  | .maybe p => .tup [.str kMaybe, patD p]
def patsD : List Pat → List D
  | [] => []
  | p :: r => patD p :: patsD r
end
theorem patsD_map : ∀ ps : List Pat, patsD ps = ps.map patD
  | [] => rfl
  | p :: r => by
    show patD p :: patsD r = _
    rw [patsD_map r]
    rfl
/-! ### the leaves, as the program numbers and links them -/
structure LV where
  signs : List (List Nat)
  after : List Nat
  having : List (Nat × Nat)
  ends : List Nat
def LV.new : LV := ⟨[[]], [0], [], []⟩
def hfind (h : List (Nat × Nat)) (c : Nat) : Option Nat := (h.find? fun p => decide (p.1 = c)).map (·.2)
def hget (h : List (Nat × Nat)) (c : Nat) : Nat := (hfind h c).getD 0
def hput (h : List (Nat × Nat)) (c m : Nat) : List (Nat × Nat) := if (h.any fun p => decide (p.1 = c)) = true then h.map (fun p => if p.1 = c then (p.1, m) else p) else h ++ [(c, m)]
def natD (n : Nat) : D := .int (n : Nat)
def natsD (ns : List Nat) : D := .lst (ns.map natD)
def hvD (p : Nat × Nat) : Key × D := (.inr (sOf [p.1]), natD p.2)
theorem key_eq (a c : Nat) : decide ((Sum.inr (sOf [a]) : Key) = Sum.inr (sOf [c])) = decide (a = c) := by
  rw [decide_eq_decide]
  constructor
  · intro h
    have := sOf_inj (Sum.inr.inj h)
    exact (List.cons.inj this).1
  · intro h
    rw [h]
theorem val_hv (h : List (Nat × Nat)) (c : Nat) : valD (h.map hvD) (.inr (sOf [c])) = (hfind h c).map natD := by
  unfold valD hfind
  induction h with
  | nil => rfl
  | cons p r ih =>
    rw [List.map_cons, List.find?_cons, List.find?_cons]
    have : decide ((hvD p).1 = (Sum.inr (sOf [c]) : Key)) = decide (p.1 = c) := key_eq _ _
    rw [this]
    cases decide (p.1 = c) with
    | true => rfl
    | false => exact ih
theorem any_hv (h : List (Nat × Nat)) (c : Nat) : ((h.map hvD).any fun kv => decide (kv.1 = (Sum.inr (sOf [c]) : Key))) = h.any fun p => decide (p.1 = c) := by
  induction h with
  | nil => rfl
  | cons p r ih =>
    rw [List.map_cons, List.any_cons, List.any_cons, ih]
    have : decide ((hvD p).1 = (Sum.inr (sOf [c]) : Key)) = decide (p.1 = c) := key_eq _ _
    rw [this]
theorem put_hv (h : List (Nat × Nat)) (c m : Nat) : putD (h.map hvD) (.inr (sOf [c])) (natD m) = (hput h c m).map hvD := by
  unfold putD hput
  rw [any_hv]
  by_cases z : (h.any fun p => decide (p.1 = c)) = true
  · rw [if_pos z, if_pos z, List.map_map, List.map_map]
    refine List.map_congr_left fun p _ => ?_
    show (if (hvD p).1 = (Sum.inr (sOf [c]) : Key) then ((hvD p).1, natD m) else hvD p) = hvD (if p.1 = c then (p.1, m) else p)
    by_cases e : p.1 = c
    · rw [if_pos e, if_pos (by show (Sum.inr (sOf [p.1]) : Key) = _; rw [e])]
      rfl
    · rw [if_neg e, if_neg fun q => e (by have h := key_eq p.1 c; have q' : (Sum.inr (sOf [p.1]) : Key) = Sum.inr (sOf [c]) := q; rw [decide_eq_true q'] at h; exact of_decide_eq_true h.symm)]
  · rw [if_neg z, if_neg z, List.map_append]
    rfl
theorem hget_val (h : List (Nat × Nat)) (c : Nat) : (valD (h.map hvD) (.inr (sOf [c]))).getD (.int 0) = natD (hget h c) := by
  rw [val_hv]
  unfold hget
  cases hfind h c <;> rfl
/-- one more leaf -/
def hadd (m : Nat) (h : List (Nat × Nat)) (s : List Nat) : List (Nat × Nat) := s.foldl (fun h c => hput h c (hget h c ||| m)) h
def newLeaf (L : LV) (s : List Nat) : LV := { L with signs := L.signs ++ [s], after := L.after ++ [0], having := hadd (2 ^ L.signs.length) L.having s }
/-- each leaf of f may follow each of l -/
def linkL (af : List Nat) (bs : List Nat) (f : Nat) : List Nat := bs.foldl (fun a i => a.set i (a.getD i 0 ||| f)) af
def link (L : LV) (l f : Nat) : LV := { L with after := linkL L.after (bitsOf l) f }
structure Sh where
  e : Bool
  f : Nat
  l : Nat
/-- the links of a row -/
def rowGo : LV → Sh → List Sh → LV × Sh
  | L, s, [] => (L, s)
  | L, s, p :: r => rowGo (link L s.l p.f) ⟨s.e && p.e, if s.e = true then s.f ||| p.f else s.f, (if p.e = true then s.l else 0) ||| p.l⟩ r
def orGo : Sh → List Sh → Sh
  | s, [] => s
  | s, p :: r => orGo ⟨s.e || p.e, s.f ||| p.f, s.l ||| p.l⟩ r
mutual
def shape : Pat → LV → LV × Sh
  | .one s, L => (newLeaf L s, ⟨false, 2 ^ L.signs.length, 2 ^ L.signs.length⟩)
  | .row ps, L => rowGo (shapes ps L).1 ⟨true, 0, 0⟩ (shapes ps L).2
  | .or ps, L => ((shapes ps L).1, orGo ⟨false, 0, 0⟩ (shapes ps L).2)
  | .many p, L => (link (shape p L).1 (shape p L).2.l (shape p L).2.f, ⟨true, (shape p L).2.f, (shape p L).2.l⟩)
  | .maybe p, L => ((shape p L).1, ⟨true, (shape p L).2.f, (shape p L).2.l⟩)
def shapes : List Pat → LV → LV × List Sh
  | [], L => (L, [])
  | p :: r, L => ((shapes r (shape p L).1).1, (shape p L).2 :: (shapes r (shape p L).1).2)
end
/-- the leaves of a list of patterns -/
def leavesGo : List Pat → LV → LV
  | [], L => L
  | p :: r, L => leavesGo r { link (shape p L).1 1 (shape p L).2.f with ends := (shape p L).1.ends ++ [if (shape p L).2.e = true then (shape p L).2.l ||| 1 else (shape p L).2.l] }
def leavesOf (ps : List Pat) : LV := leavesGo ps LV.new
/-- one more sign -/
def follow (af : List Nat) (bs : List Nat) : Nat := bs.foldl (fun r i => r ||| af.getD i 0) 0
def stepL (L : LV) (here c : Nat) : Nat := follow L.after (bitsOf here) &&& hget L.having c
def runL (L : LV) (s : List Nat) : Nat := s.foldl (stepL L) 1
def toldL (L : LV) (here : Nat) : Option Nat := L.ends.findIdx? fun m => decide (m &&& here ≠ 0)
end Ab
namespace Ab
open PySem PySem.Spec PyProof.Rows L2
/-! ### lists of bits -/
theorem bitsB_len : ∀ (k n off : Nat), n < 2 ^ k → (bitsB n off).length ≤ k := fun k => by
  induction k with
  | zero =>
    intro n off h
    have : n = 0 := by omega
    subst this
    rw [bitsB_zero]
    exact Nat.le_refl _
  | succ k ih =>
    intro n off h
    have h2 : n / 2 < 2 ^ k := by rw [Nat.pow_succ] at h; omega
    by_cases p : n % 2 = 1
    · rw [bitsB_odd p]
      have := ih (n / 2) (off + 1) h2
      show (bitsB (n / 2) (off + 1)).length + 1 ≤ k + 1
      omega
    · rw [bitsB_even (by omega)]
      have := ih (n / 2) (off + 1) h2
      omega
theorem bitsOf_len {k n : Nat} (h : n < 2 ^ k) : (bitsOf n).length ≤ k := bitsB_len k n 0 h
theorem bitsOf_lt {k n q : Nat} (h : n < 2 ^ k) (hq : q ∈ bitsOf n) : q < k := by
  rcases Nat.lt_or_ge q k with z | z
  · exact z
  · have := Nat.testBit_lt_two_pow (Nat.lt_of_lt_of_le h (Nat.pow_le_pow_right (by decide) z))
    rw [bitsOf_mem.mp hq] at this
    cases this
theorem bitsOf_zero : bitsOf 0 = [] := bitsB_zero 0
/-! ### patterns: how many leaves, how deep, well made -/
mutual
def nl : Pat → Nat
  | .one _ => 1
  | .row ps => nls ps
  | .or ps => nls ps
  | .many p => nl p
  | .maybe p => nl p
def nls : List Pat → Nat
  | [] => 0
  | p :: r => nl p + nls r
end
mutual
def dep : Pat → Nat
  | .one _ => 1
  | .row ps => deps ps + 1
  | .or ps => deps ps + 1
  | .many p => dep p + 1
  | .maybe p => dep p + 1
def deps : List Pat → Nat
  | [] => 0
  | p :: r => max (dep p) (deps r)
end
mutual
def Wf : Pat → Prop
  | .one s => s ≠ [] ∧ s.Nodup ∧ s.length ≤ 1000 ∧ ∀ x ∈ s, x < 128
  | .row ps => Wfs ps ∧ ps.length ≤ 1000
  | .or ps => Wfs ps ∧ ps.length ≤ 1000 ∧ ps ≠ []
  | .many p => Wf p
  | .maybe p => Wf p
def Wfs : List Pat → Prop
  | [] => True
  | p :: r => Wf p ∧ Wfs r
end
theorem wfs_mem : ∀ {ps : List Pat}, Wfs ps ↔ ∀ p ∈ ps, Wf p
  | [] => ⟨fun _ _ h => (by cases h), fun _ => trivial⟩
  | p :: r => by
    constructor
    · rintro ⟨h1, h2⟩ q hq
      rcases List.mem_cons.mp hq with rfl | hq
      · exact h1
      · exact wfs_mem.mp h2 q hq
    · intro h
      exact ⟨h p List.mem_cons_self, wfs_mem.mpr fun q hq => h q (List.mem_cons_of_mem _ hq)⟩
theorem deps_le {d : Nat} : ∀ {ps : List Pat}, deps ps ≤ d ↔ ∀ p ∈ ps, dep p ≤ d
  | [] => ⟨fun _ _ h => (by cases h), fun _ => Nat.zero_le _⟩
  | p :: r => by
    have ih := deps_le (d := d) (ps := r)
    show max (dep p) (deps r) ≤ d ↔ _
    constructor
    · intro h q hq
      rcases List.mem_cons.mp hq with rfl | hq
      · omega
      · exact ih.mp (by omega) q hq
    · intro h
      have h1 := h p List.mem_cons_self
      have h2 := ih.mpr fun q hq => h q (List.mem_cons_of_mem _ hq)
      omega
theorem nls_app : ∀ (a b : List Pat), nls (a ++ b) = nls a + nls b
  | [], b => (Nat.zero_add _).symm
  | p :: r, b => by
    show nl p + nls (r ++ b) = nl p + nls r + nls b
    rw [nls_app r b]
    omega
theorem nls_mem {p : Pat} : ∀ {ps : List Pat}, p ∈ ps → nl p ≤ nls ps
  | q :: r, h => by
    show nl p ≤ nl q + nls r
    rcases List.mem_cons.mp h with rfl | h
    · omega
    · have := nls_mem h
      omega
theorem dep_pos (p : Pat) : 1 ≤ dep p := by
  cases p <;> simp [dep]
theorem Good.mono {n m : Nat} {d : D} (h : Good n d) (l : n ≤ m) : Good m d := ⟨h.lay, Nat.le_trans h.dep l⟩
theorem kind_lt : (∀ x ∈ kOne, x < 128) ∧ (∀ x ∈ kRow, x < 128) ∧ (∀ x ∈ kOr, x < 128) ∧ (∀ x ∈ kMany, x < 128) ∧ ∀ x ∈ kMaybe, x < 128 := by decide +kernel
mutual
theorem patD_good : ∀ {p : Pat}, Wf p → Good (2 * dep p) (patD p)
  | .one s, h => Good.mono (Good.tup (n := 0) (Good.two (Good.str kind_lt.1) (Good.str h.2.2.2))) (by show 1 ≤ 2 * 1; omega)
  | .row ps, h => Good.mono (Good.tup (n := 2 * deps ps + 1) (Good.two (Good.str kind_lt.2.1) (Good.lst (patsD_good h.1)))) (by show _ ≤ 2 * (deps ps + 1); omega)
  | .or ps, h => Good.mono (Good.tup (n := 2 * deps ps + 1) (Good.two (Good.str kind_lt.2.2.1) (Good.lst (patsD_good h.1)))) (by show _ ≤ 2 * (deps ps + 1); omega)
  | .many p, h => Good.mono (Good.tup (n := 2 * dep p) (Good.two (Good.str kind_lt.2.2.2.1) (patD_good (p := p) h))) (by show _ ≤ 2 * (dep p + 1); omega)
  | .maybe p, h => Good.mono (Good.tup (n := 2 * dep p) (Good.two (Good.str kind_lt.2.2.2.2) (patD_good (p := p) h))) (by show _ ≤ 2 * (dep p + 1); omega)
theorem patsD_good : ∀ {ps : List Pat}, Wfs ps → ∀ d ∈ patsD ps, Good (2 * deps ps) d
  | [], _, d, h => by cases h
  | p :: r, h, d, hd => by
    have hm : 2 * deps (p :: r) = 2 * max (dep p) (deps r) := rfl
    rcases List.mem_cons.mp hd with rfl | hd
    · exact (patD_good h.1).mono (by omega)
    · exact (patsD_good h.2 d hd).mono (by omega)
end
theorem patD_ok {p : Pat} (h : Wf p) (hd : dep p ≤ 31) : okD (patD p) := (patD_good h).ok (by omega)
/-! ### a dict of sets by signs -/
theorem hfind_put (h : List (Nat × Nat)) (c m c' : Nat) : hfind (hput h c m) c' = if c' = c then some m else hfind h c' := by
  unfold hput hfind
  by_cases z : (h.any fun p => decide (p.1 = c)) = true
  · rw [if_pos z]
    induction h with
    | nil => cases z
    | cons p r ih =>
      rw [List.map_cons, List.find?_cons, List.find?_cons]
      by_cases e : p.1 = c
      · rw [if_pos e]
        by_cases e2 : c' = c
        · subst e2
          rw [if_pos rfl]
          show (match decide (p.1 = c') with | true => some (p.1, m) | false => _).map _ = some m
          rw [decide_eq_true e]
          rfl
        · rw [if_neg e2]
          have h2 : decide (p.1 = c') = false := decide_eq_false (fun q => e2 (by rw [← q, e]))
          show (match decide (p.1 = c') with | true => some (p.1, m) | false => _).map _ = (match decide (p.1 = c') with | true => some p | false => _).map _
          rw [h2]
          by_cases z2 : (r.any fun p => decide (p.1 = c)) = true
          · have := ih z2
            rw [if_neg e2] at this
            exact this
          · have : (List.map (fun p => if p.1 = c then (p.1, m) else p) r) = r := by
              refine (List.map_congr_left fun q hq => ?_).trans (List.map_id r)
              rw [if_neg fun w => z2 (List.any_eq_true.mpr ⟨q, hq, decide_eq_true w⟩)]
              rfl
            show ((List.map (fun p => if p.1 = c then (p.1, m) else p) r).find? _).map _ = (r.find? _).map _
            rw [this]
      · rw [if_neg e]
        have z2 : (r.any fun p => decide (p.1 = c)) = true := by
          rw [List.any_cons, decide_eq_false e, Bool.false_or] at z
          exact z
        by_cases e3 : p.1 = c'
        · have : ¬ c' = c := fun q => e (e3.trans q)
          rw [if_neg this]
          show (match decide (p.1 = c') with | true => some p | false => _).map _ = (match decide (p.1 = c') with | true => some p | false => _).map _
          rw [decide_eq_true e3]
        · show (match decide (p.1 = c') with | true => some p | false => _).map _ = if c' = c then some m else (match decide (p.1 = c') with | true => some p | false => _).map _
          rw [decide_eq_false e3]
          exact ih z2
  · rw [if_neg z, List.find?_append]
    by_cases e : c' = c
    · subst e
      rw [if_pos rfl]
      have : h.find? (fun p => decide (p.1 = c')) = none := List.find?_eq_none.mpr fun p hp q => z (List.any_eq_true.mpr ⟨p, hp, q⟩)
      rw [this]
      simp
    · rw [if_neg e]
      have : [(c, m)].find? (fun p => decide (p.1 = c')) = none := by
        rw [List.find?_cons]
        rw [decide_eq_false (fun q => e q.symm)]
        rfl
      rw [this, Option.or_none]
theorem hget_put (h : List (Nat × Nat)) (c m c' : Nat) : hget (hput h c m) c' = if c' = c then m else hget h c' := by
  unfold hget
  rw [hfind_put]
  by_cases e : c' = c
  · rw [if_pos e, if_pos e]
    rfl
  · rw [if_neg e, if_neg e]
theorem hput_len (h : List (Nat × Nat)) (c m : Nat) : (hput h c m).length ≤ h.length + 1 := by
  unfold hput
  by_cases z : (h.any fun p => decide (p.1 = c)) = true
  · rw [if_pos z, List.length_map]
    omega
  · rw [if_neg z, List.length_append]
    exact Nat.le_refl _
theorem hadd_snoc (m : Nat) (h : List (Nat × Nat)) (s : List Nat) (c : Nat) : hadd m h (s ++ [c]) = hput (hadd m h s) c (hget (hadd m h s) c ||| m) := by
  unfold hadd
  rw [List.foldl_append]
  rfl
theorem hadd_len (m : Nat) : ∀ (s : List Nat) (h : List (Nat × Nat)), (hadd m h s).length ≤ h.length + s.length
  | [], h => Nat.le_refl _
  | c :: s, h => by
    have h1 := hadd_len m s (hput h c (hget h c ||| m))
    have h2 := hput_len h c (hget h c ||| m)
    show (hadd m (hput h c (hget h c ||| m)) s).length ≤ h.length + (s.length + 1)
    omega
theorem hadd_get (m : Nat) : ∀ (s : List Nat) (h : List (Nat × Nat)) (c : Nat), hget (hadd m h s) c = if c ∈ s then hget h c ||| m else hget h c
  | [], h, c => by
    rw [if_neg (by simp)]
    rfl
  | d :: s, h, c => by
    have h1 := hadd_get m s (hput h d (hget h d ||| m)) c
    rw [hget_put] at h1
    show hget (hadd m (hput h d (hget h d ||| m)) s) c = _
    rw [h1]
    by_cases e : c = d
    · subst e
      rw [if_pos rfl, if_pos List.mem_cons_self]
      by_cases q : c ∈ s
      · rw [if_pos q, Nat.or_assoc, Nat.or_self]
      · rw [if_neg q]
    · rw [if_neg e]
      by_cases q : c ∈ s
      · rw [if_pos q, if_pos (List.mem_cons_of_mem _ q)]
      · rw [if_neg q, if_neg fun z => by
          rcases List.mem_cons.mp z with z | z
          · exact e z
          · exact q z]
/-! ### what stays true of the leaves -/
structure LV.Ok (L : LV) : Prop where
  pos : 1 ≤ L.signs.length
  len : L.after.length = L.signs.length
  few : L.signs.length ≤ 61
  hav : L.having.length ≤ 1000 * L.signs.length
  hv : ∀ c, hget L.having c < 2 ^ L.signs.length
theorem LV.new_ok : LV.new.Ok := ⟨Nat.le_refl _, rfl, by decide, by decide, fun c => by show 0 < 2 ^ 1; decide⟩
theorem linkL_len (f : Nat) : ∀ (bs af : List Nat), (linkL af bs f).length = af.length
  | [], af => rfl
  | b :: bs, af => by
    show (linkL (af.set b (af.getD b 0 ||| f)) bs f).length = _
    rw [linkL_len f bs, List.length_set]
theorem linkL_snoc (af bs : List Nat) (b f : Nat) : linkL af (bs ++ [b]) f = (linkL af bs f).set b ((linkL af bs f).getD b 0 ||| f) := by
  unfold linkL
  rw [List.foldl_append]
  rfl
theorem link_ok {L : LV} (h : L.Ok) (l f : Nat) : (link L l f).Ok := ⟨h.pos, (linkL_len f _ _).trans h.len, h.few, h.hav, h.hv⟩
theorem link_zero (L : LV) (f : Nat) : link L 0 f = L := by
  unfold link
  rw [bitsOf_zero]
  rfl
theorem pow_mono {a m n : Nat} (h : a < 2 ^ m) (l : m ≤ n) : a < 2 ^ n := Nat.lt_of_lt_of_le h (Nat.pow_le_pow_right (by decide) l)
theorem newLeaf_ok {L : LV} (h : L.Ok) {s : List Nat} (hs : s.length ≤ 1000) (hl : L.signs.length + 1 ≤ 61) : (newLeaf L s).Ok where
  pos := by
    show 1 ≤ (L.signs ++ [s]).length
    rw [List.length_append]
    exact Nat.le_add_left _ _
  len := by
    show (L.after ++ [0]).length = (L.signs ++ [s]).length
    rw [List.length_append, List.length_append, h.len]
    rfl
  few := by
    show (L.signs ++ [s]).length ≤ 61
    rw [List.length_append]
    exact hl
  hav := by
    show (hadd _ L.having s).length ≤ 1000 * (L.signs ++ [s]).length
    have h1 := hadd_len (2 ^ L.signs.length) s L.having
    have h2 := h.hav
    rw [List.length_append]
    show _ ≤ 1000 * (L.signs.length + 1)
    omega
  hv := fun c => by
    show hget (hadd _ L.having s) c < 2 ^ (L.signs ++ [s]).length
    rw [hadd_get, List.length_append]
    show _ < 2 ^ (L.signs.length + 1)
    have h1 := pow_mono (h.hv c) (Nat.le_succ L.signs.length)
    split
    · exact Nat.or_lt_two_pow h1 (Nat.pow_lt_pow_right (by decide) (Nat.lt_succ_self _))
    · exact h1
structure Sh.In (s : Sh) (n : Nat) : Prop where
  f : s.f < 2 ^ n
  l : s.l < 2 ^ n
theorem Sh.In.mono {s : Sh} {m n : Nat} (h : s.In m) (l : m ≤ n) : s.In n := ⟨pow_mono h.f l, pow_mono h.l l⟩
theorem row_in {s p : Sh} {n : Nat} (hs : s.In n) (hp : p.In n) : Sh.In ⟨s.e && p.e, if s.e = true then s.f ||| p.f else s.f, (if p.e = true then s.l else 0) ||| p.l⟩ n := by
  constructor
  · show (if s.e = true then s.f ||| p.f else s.f) < _
    split
    · exact Nat.or_lt_two_pow hs.f hp.f
    · exact hs.f
  · show (if p.e = true then s.l else 0) ||| p.l < _
    refine Nat.or_lt_two_pow ?_ hp.l
    split
    · exact hs.l
    · exact Nat.two_pow_pos _
theorem bare_in (n : Nat) (b : Bool) : Sh.In ⟨b, 0, 0⟩ n := ⟨Nat.two_pow_pos _, Nat.two_pow_pos _⟩
theorem rowGo_ok : ∀ (shs : List Sh) (L : LV) (s : Sh), L.Ok → s.In L.signs.length → (∀ p ∈ shs, p.In L.signs.length) →
    (rowGo L s shs).1.Ok ∧ (rowGo L s shs).1.signs = L.signs ∧ (rowGo L s shs).1.having = L.having ∧ (rowGo L s shs).1.ends = L.ends ∧ (rowGo L s shs).2.In L.signs.length
  | [], L, s, h, hs, hp => ⟨h, rfl, rfl, rfl, hs⟩
  | p :: r, L, s, h, hs, hp => rowGo_ok r (link L s.l p.f) _ (link_ok h _ _) (row_in hs (hp p List.mem_cons_self)) fun q hq => hp q (List.mem_cons_of_mem _ hq)
theorem orGo_in {n : Nat} : ∀ (shs : List Sh) (s : Sh), s.In n → (∀ p ∈ shs, p.In n) → (orGo s shs).In n
  | [], s, hs, _ => hs
  | p :: r, s, hs, hp => orGo_in r _ ⟨Nat.or_lt_two_pow hs.f (hp p List.mem_cons_self).f, Nat.or_lt_two_pow hs.l (hp p List.mem_cons_self).l⟩ fun q hq => hp q (List.mem_cons_of_mem _ hq)
structure ShOk (L L' : LV) (n : Nat) : Prop where
  ok : L'.Ok
  len : L'.signs.length = L.signs.length + n
  ends : L'.ends = L.ends
mutual
theorem shape_ok : ∀ (p : Pat) (L : LV), L.Ok → Wf p → L.signs.length + nl p ≤ 61 → ShOk L (shape p L).1 (nl p) ∧ (shape p L).2.In (shape p L).1.signs.length
  | .one s, L, h, hw, hl => by
    refine ⟨⟨newLeaf_ok h hw.2.2.1 hl, ?_, rfl⟩, ?_⟩
    · show (L.signs ++ [s]).length = _
      rw [List.length_append]
      rfl
    · show Sh.In ⟨false, 2 ^ L.signs.length, 2 ^ L.signs.length⟩ (L.signs ++ [s]).length
      rw [List.length_append]
      exact ⟨Nat.pow_lt_pow_right (by decide) (Nat.lt_succ_self _), Nat.pow_lt_pow_right (by decide) (Nat.lt_succ_self _)⟩
  | .row ps, L, h, hw, hl => by
    obtain ⟨h1, h2, _⟩ := shapes_ok ps L h hw.1 hl
    have h3 := rowGo_ok (shapes ps L).2 (shapes ps L).1 ⟨true, 0, 0⟩ h1.ok (bare_in _ _) h2
    refine ⟨⟨h3.1, ?_, ?_⟩, ?_⟩
    · show (rowGo _ _ _).1.signs.length = _
      rw [h3.2.1]
      exact h1.len
    · exact h3.2.2.2.1.trans h1.ends
    · show (rowGo _ _ _).2.In (rowGo _ _ _).1.signs.length
      rw [h3.2.1]
      exact h3.2.2.2.2
  | .or ps, L, h, hw, hl => by
    obtain ⟨h1, h2, _⟩ := shapes_ok ps L h hw.1 hl
    exact ⟨h1, orGo_in _ _ (bare_in _ _) h2⟩
  | .many p, L, h, hw, hl => by
    obtain ⟨h1, h2⟩ := shape_ok p L h hw hl
    exact ⟨⟨link_ok h1.ok _ _, h1.len, h1.ends⟩, ⟨h2.f, h2.l⟩⟩
  | .maybe p, L, h, hw, hl => by
    obtain ⟨h1, h2⟩ := shape_ok p L h hw hl
    exact ⟨h1, ⟨h2.f, h2.l⟩⟩
theorem shapes_ok : ∀ (ps : List Pat) (L : LV), L.Ok → Wfs ps → L.signs.length + nls ps ≤ 61 → ShOk L (shapes ps L).1 (nls ps) ∧ (∀ s ∈ (shapes ps L).2, s.In (shapes ps L).1.signs.length) ∧ (shapes ps L).2.length = ps.length
  | [], L, h, _, _ => ⟨⟨h, rfl, rfl⟩, fun s hs => (by cases hs), rfl⟩
  | p :: r, L, h, hw, hl => by
    have hl2 : L.signs.length + (nl p + nls r) ≤ 61 := hl
    obtain ⟨h1, h2⟩ := shape_ok p L h hw.1 (by omega)
    obtain ⟨h3, h4, h5⟩ := shapes_ok r (shape p L).1 h1.ok hw.2 (by rw [h1.len]; omega)
    refine ⟨⟨h3.ok, ?_, h3.ends.trans h1.ends⟩, ?_, ?_⟩
    · show (shapes r (shape p L).1).1.signs.length = L.signs.length + (nl p + nls r)
      rw [h3.len, h1.len]
      omega
    · intro s hs
      rcases List.mem_cons.mp hs with rfl | hs
      · exact h2.mono (by show _ ≤ (shapes r (shape p L).1).1.signs.length; rw [h3.len]; omega)
      · exact h4 s hs
    · show (shapes r (shape p L).1).2.length + 1 = r.length + 1
      rw [h5]
end
/-! ### patterns without leaves -/
theorem rowGo_bare (L : LV) : ∀ n, rowGo L ⟨true, 0, 0⟩ (List.replicate n ⟨true, 0, 0⟩) = (L, ⟨true, 0, 0⟩)
  | 0 => rfl
  | n + 1 => by
    show rowGo (link L 0 0) ⟨true, 0, 0⟩ (List.replicate n ⟨true, 0, 0⟩) = _
    rw [link_zero]
    exact rowGo_bare L n
theorem orGo_bare : ∀ n, orGo ⟨true, 0, 0⟩ (List.replicate n ⟨true, 0, 0⟩) = ⟨true, 0, 0⟩
  | 0 => rfl
  | n + 1 => orGo_bare n
mutual
theorem shape_bare : ∀ (p : Pat) (L : LV), Wf p → nl p = 0 → shape p L = (L, ⟨true, 0, 0⟩)
  | .one s, L, _, h => by cases h
  | .row ps, L, hw, h => by
    show rowGo (shapes ps L).1 ⟨true, 0, 0⟩ (shapes ps L).2 = _
    rw [shapes_bare ps L hw.1 h]
    exact rowGo_bare L _
  | .or ps, L, hw, h => by
    show ((shapes ps L).1, orGo ⟨false, 0, 0⟩ (shapes ps L).2) = _
    rw [shapes_bare ps L hw.1 h]
    cases hp : ps with
    | nil => exact absurd hp hw.2.2
    | cons p r =>
      show (L, orGo ⟨true, 0, 0⟩ (List.replicate r.length ⟨true, 0, 0⟩)) = _
      rw [orGo_bare]
  | .many p, L, hw, h => by
    show (link (shape p L).1 (shape p L).2.l (shape p L).2.f, Sh.mk true (shape p L).2.f (shape p L).2.l) = _
    rw [shape_bare p L hw h]
    show (link L 0 0, Sh.mk true 0 0) = _
    rw [link_zero]
  | .maybe p, L, hw, h => by
    show ((shape p L).1, Sh.mk true (shape p L).2.f (shape p L).2.l) = _
    rw [shape_bare p L hw h]
theorem shapes_bare : ∀ (ps : List Pat) (L : LV), Wfs ps → nls ps = 0 → shapes ps L = (L, List.replicate ps.length ⟨true, 0, 0⟩)
  | [], L, _, _ => rfl
  | p :: r, L, hw, h => by
    have h : nl p + nls r = 0 := h
    show ((shapes r (shape p L).1).1, (shape p L).2 :: (shapes r (shape p L).1).2) = _
    rw [shape_bare p L hw.1 (by omega)]
    show ((shapes r L).1, Sh.mk true 0 0 :: (shapes r L).2) = _
    rw [shapes_bare r L hw.2 (by omega)]
    rfl
end
/-! ### equal patterns have as many leaves -/
def kind : Pat → List Nat
  | .one _ => kOne
  | .row _ => kRow
  | .or _ => kOr
  | .many _ => kMany
  | .maybe _ => kMaybe
def inner : Pat → D
  | .one s => .str s
  | .row ps => .lst (patsD ps)
  | .or ps => .lst (patsD ps)
  | .many p => patD p
  | .maybe p => patD p
theorem patD_two (p : Pat) : patD p = .tup [.str (kind p), inner p] := by cases p <;> simp [patD, kind, inner]
theorem eqv_kind {p q : Pat} (h : PyData.eqv (patD q).py (patD p).py = true) : kind q = kind p ∧ PyData.eqv (inner q).py (inner p).py = true := by
  rw [patD_two, patD_two] at h
  have h : ((sOf (kind q) == sOf (kind p)) && (PyData.eqv (inner q).py (inner p).py && true)) = true := by
    simpa [D.py, D.pys, PyData.eqv, PyData.eqvAll] using h
  rw [Bool.and_true, Bool.and_eq_true] at h
  exact ⟨sOf_inj (eq_of_beq h.1), h.2⟩
mutual
theorem eqv_nl : ∀ (q p : Pat), PyData.eqv (patD q).py (patD p).py = true → nl q = 0 → nl p = 0
  | .one s, _, _, h => by cases h
  | .row qs, p, e, h => by
    obtain ⟨k, e⟩ := eqv_kind e
    cases p with
    | row ps => exact eqv_nls qs ps (by simpa [inner, D.py, PyData.eqv] using e) h
    | one s => exact absurd k (show ¬ kRow = kOne by decide)
    | or s => exact absurd k (show ¬ kRow = kOr by decide)
    | many s => exact absurd k (show ¬ kRow = kMany by decide)
    | maybe s => exact absurd k (show ¬ kRow = kMaybe by decide)
  | .or qs, p, e, h => by
    obtain ⟨k, e⟩ := eqv_kind e
    cases p with
    | or ps => exact eqv_nls qs ps (by simpa [inner, D.py, PyData.eqv] using e) h
    | one s => exact absurd k (show ¬ kOr = kOne by decide)
    | row s => exact absurd k (show ¬ kOr = kRow by decide)
    | many s => exact absurd k (show ¬ kOr = kMany by decide)
    | maybe s => exact absurd k (show ¬ kOr = kMaybe by decide)
  | .many q, p, e, h => by
    obtain ⟨k, e⟩ := eqv_kind e
    cases p with
    | many p => exact eqv_nl q p e h
    | one s => exact absurd k (show ¬ kMany = kOne by decide)
    | row s => exact absurd k (show ¬ kMany = kRow by decide)
    | or s => exact absurd k (show ¬ kMany = kOr by decide)
    | maybe s => exact absurd k (show ¬ kMany = kMaybe by decide)
  | .maybe q, p, e, h => by
    obtain ⟨k, e⟩ := eqv_kind e
    cases p with
    | maybe p => exact eqv_nl q p e h
    | one s => exact absurd k (show ¬ kMaybe = kOne by decide)
    | row s => exact absurd k (show ¬ kMaybe = kRow by decide)
    | or s => exact absurd k (show ¬ kMaybe = kOr by decide)
    | many s => exact absurd k (show ¬ kMaybe = kMany by decide)
theorem eqv_nls : ∀ (qs ps : List Pat), PyData.eqvAll (D.pys (patsD qs)) (D.pys (patsD ps)) = true → nls qs = 0 → nls ps = 0
  | [], [], _, _ => rfl
  | [], _ :: _, e, _ => by simp [patsD, D.pys, PyData.eqvAll] at e
  | _ :: _, [], _, _ => rfl
  | q :: qs, p :: ps, e, h => by
    have h : nl q + nls qs = 0 := h
    have e : (PyData.eqv (patD q).py (patD p).py && PyData.eqvAll (D.pys (patsD qs)) (D.pys (patsD ps))) = true := by
      simpa [patsD, D.pys, PyData.eqvAll] using e
    rw [Bool.and_eq_true] at e
    have h1 := eqv_nl q p e.1 (by omega)
    have h2 := eqv_nls qs ps e.2 (by omega)
    show nl p + nls ps = 0
    omega
end
/-! ### unlike signs -/
theorem cnt_all {κ : Type} [DecidableEq κ] {val : Nat → κ} : ∀ i, (∀ j k, j < k → k < i → val j ≠ val k) → SetT.cnt val i = i
  | 0, _ => rfl
  | i + 1, h => by
    have ih := cnt_all i fun j k h1 h2 => h j k h1 (by omega)
    have hn : SetT.seen val i (val i) ≠ true := fun z => by
      obtain ⟨j, h1, h2⟩ := (SetT.seen_iff val (val i) i).mp z
      exact h j i h1 (Nat.lt_succ_self _) h2
    show (if SetT.seen val i (val i) = true then SetT.cnt val i else SetT.cnt val i + 1) = i + 1
    rw [if_neg hn, ih]
theorem unlike_nodup {s : List Nat} (h : s.Nodup) : unlike s = s.length := by
  refine cnt_all _ fun j k h1 h2 e => ?_
  have h2' : k < s.length := h2
  have e1 : SetT.sgnOf (sOf s) j = sOf [s[j]'(by omega)] := by
    show (⟨#[s.toArray.getD j 0]⟩ : Str) = ⟨#[_]⟩
    simp [Array.getD, show j < s.length by omega]
  have e2 : SetT.sgnOf (sOf s) k = sOf [s[k]'(by omega)] := by
    show (⟨#[s.toArray.getD k 0]⟩ : Str) = ⟨#[_]⟩
    simp [Array.getD, h2']
  rw [e1, e2] at e
  have := (List.cons.inj (sOf_inj e)).1
  have hp := List.pairwise_iff_getElem.mp h j k (by omega) h2' h1
  exact hp this
end Ab
namespace Ab
open PySem PySem.Spec PyProof.Rows L2
/-! ### what a pattern tells -/
inductive Star (X : List Nat → Prop) : List Nat → Prop
  | nil : Star X []
  | cons {u v : List Nat} : X u → u ≠ [] → Star X v → Star X (u ++ v)
mutual
def Tells : Pat → List Nat → Prop
  | .one s, t => ∃ c, c ∈ s ∧ t = [c]
  | .row ps, t => TellsR ps t
  | .or ps, t => TellsO ps t
  | .many p, t => Star (Tells p) t
  | .maybe p, t => t = [] ∨ Tells p t
def TellsR : List Pat → List Nat → Prop
  | [], t => t = []
  | p :: r, t => ∃ u v, t = u ++ v ∧ Tells p u ∧ TellsR r v
def TellsO : List Pat → List Nat → Prop
  | [], _ => False
  | p :: r, t => Tells p t ∨ TellsO r t
end
mutual
def Emp : Pat → Bool
  | .one _ => false
  | .row ps => EmpR ps
  | .or ps => EmpO ps
  | .many _ => true
  | .maybe _ => true
def EmpR : List Pat → Bool
  | [] => true
  | p :: r => Emp p && EmpR r
def EmpO : List Pat → Bool
  | [] => false
  | p :: r => Emp p || EmpO r
end
mutual
theorem emp_iff : ∀ p : Pat, Emp p = true ↔ Tells p []
  | .one s => ⟨fun h => (by cases h), fun ⟨c, _, h⟩ => (by cases h)⟩
  | .row ps => empR_iff ps
  | .or ps => empO_iff ps
  | .many p => ⟨fun _ => .nil, fun _ => rfl⟩
  | .maybe p => ⟨fun _ => .inl rfl, fun _ => rfl⟩
theorem empR_iff : ∀ ps : List Pat, EmpR ps = true ↔ TellsR ps []
  | [] => ⟨fun _ => rfl, fun _ => rfl⟩
  | p :: r => by
    show (Emp p && EmpR r) = true ↔ ∃ u v, [] = u ++ v ∧ Tells p u ∧ TellsR r v
    rw [Bool.and_eq_true, emp_iff p, empR_iff r]
    constructor
    · rintro ⟨h1, h2⟩
      exact ⟨[], [], rfl, h1, h2⟩
    · rintro ⟨u, v, h, h1, h2⟩
      have := List.append_eq_nil_iff.mp h.symm
      rw [this.1] at h1
      rw [this.2] at h2
      exact ⟨h1, h2⟩
theorem empO_iff : ∀ ps : List Pat, EmpO ps = true ↔ TellsO ps []
  | [] => ⟨fun h => (by cases h), fun h => h.elim⟩
  | p :: r => by
    show (Emp p || EmpO r) = true ↔ Tells p [] ∨ TellsO r []
    rw [Bool.or_eq_true, emp_iff p, empO_iff r]
end
/-! ### firsts, lasts, edges, signs -/
mutual
def Fi : Pat → Nat → Nat → Prop
  | .one _, a, q => q = a
  | .row ps, a, q => FiR ps a true q
  | .or ps, a, q => FiO ps a q
  | .many p, a, q => Fi p a q
  | .maybe p, a, q => Fi p a q
def FiR : List Pat → Nat → Bool → Nat → Prop
  | [], _, _, _ => False
  | p :: r, a, e, q => (e = true ∧ Fi p a q) ∨ FiR r (a + nl p) (e && Emp p) q
def FiO : List Pat → Nat → Nat → Prop
  | [], _, _ => False
  | p :: r, a, q => Fi p a q ∨ FiO r (a + nl p) q
end
mutual
def La : Pat → Nat → Nat → Prop
  | .one _, a, q => q = a
  | .row ps, a, q => LaR ps a (fun _ => False) q
  | .or ps, a, q => LaO ps a q
  | .many p, a, q => La p a q
  | .maybe p, a, q => La p a q
def LaR : List Pat → Nat → (Nat → Prop) → Nat → Prop
  | [], _, acc, q => acc q
  | p :: r, a, acc, q => LaR r (a + nl p) (fun q => (Emp p = true ∧ acc q) ∨ La p a q) q
def LaO : List Pat → Nat → Nat → Prop
  | [], _, _ => False
  | p :: r, a, q => La p a q ∨ LaO r (a + nl p) q
end
def Lk : List Pat → Nat → (Nat → Prop) → Nat → Nat → Prop
  | [], _, _, _, _ => False
  | p :: r, a, acc, i, j => (acc i ∧ Fi p a j) ∨ Lk r (a + nl p) (fun q => (Emp p = true ∧ acc q) ∨ La p a q) i j
mutual
def Ed : Pat → Nat → Nat → Nat → Prop
  | .one _, _, _, _ => False
  | .row ps, a, i, j => EdP ps a i j ∨ Lk ps a (fun _ => False) i j
  | .or ps, a, i, j => EdP ps a i j
  | .many p, a, i, j => Ed p a i j ∨ (La p a i ∧ Fi p a j)
  | .maybe p, a, i, j => Ed p a i j
def EdP : List Pat → Nat → Nat → Nat → Prop
  | [], _, _, _ => False
  | p :: r, a, i, j => Ed p a i j ∨ EdP r (a + nl p) i j
end
mutual
def Sg : Pat → Nat → Nat → Nat → Prop
  | .one s, a, q, c => q = a ∧ c ∈ s
  | .row ps, a, q, c => SgP ps a q c
  | .or ps, a, q, c => SgP ps a q c
  | .many p, a, q, c => Sg p a q c
  | .maybe p, a, q, c => Sg p a q c
def SgP : List Pat → Nat → Nat → Nat → Prop
  | [], _, _, _ => False
  | p :: r, a, q, c => Sg p a q c ∨ SgP r (a + nl p) q c
end
abbrev In (a n q : Nat) : Prop := a ≤ q ∧ q < a + n
theorem nls_cons (p : Pat) (r : List Pat) : nls (p :: r) = nl p + nls r := rfl
mutual
theorem Fi_in : ∀ {p : Pat} {a q : Nat}, Fi p a q → In a (nl p) q
  | .one _, a, q, h => ⟨Nat.le_of_eq (Eq.symm h), by have h : q = a := h; show q < a + 1; omega⟩
  | .row ps, _, _, h => FiR_in (ps := ps) h
  | .or ps, _, _, h => FiO_in (ps := ps) h
  | .many p, _, _, h => Fi_in (p := p) h
  | .maybe p, _, _, h => Fi_in (p := p) h
theorem FiR_in : ∀ {ps : List Pat} {a : Nat} {e : Bool} {q : Nat}, FiR ps a e q → In a (nls ps) q
  | [], _, _, _, h => h.elim
  | p :: r, a, e, q, h => by
    have := nls_cons p r
    rcases h with ⟨_, h⟩ | h
    · have := Fi_in h
      exact ⟨this.1, by omega⟩
    · have := FiR_in h
      exact ⟨by omega, by omega⟩
theorem FiO_in : ∀ {ps : List Pat} {a q : Nat}, FiO ps a q → In a (nls ps) q
  | [], _, _, h => h.elim
  | p :: r, a, q, h => by
    have := nls_cons p r
    rcases h with h | h
    · have := Fi_in h
      exact ⟨this.1, by omega⟩
    · have := FiO_in h
      exact ⟨by omega, by omega⟩
end
mutual
theorem La_in : ∀ {p : Pat} {a q : Nat}, La p a q → In a (nl p) q
  | .one _, a, q, h => ⟨Nat.le_of_eq (Eq.symm h), by have h : q = a := h; show q < a + 1; omega⟩
  | .row ps, a, q, h => by
    rcases LaR_in (ps := ps) h with h | h
    · exact h.elim
    · exact h
  | .or ps, _, _, h => LaO_in (ps := ps) h
  | .many p, _, _, h => La_in (p := p) h
  | .maybe p, _, _, h => La_in (p := p) h
theorem LaR_in : ∀ {ps : List Pat} {a : Nat} {acc : Nat → Prop} {q : Nat}, LaR ps a acc q → acc q ∨ In a (nls ps) q
  | [], _, _, _, h => .inl h
  | p :: r, a, acc, q, h => by
    have := nls_cons p r
    rcases LaR_in (ps := r) h with (⟨_, h⟩ | h) | h
    · exact .inl h
    · have := La_in h
      exact .inr ⟨this.1, by omega⟩
    · exact .inr ⟨by omega, by omega⟩
theorem LaO_in : ∀ {ps : List Pat} {a q : Nat}, LaO ps a q → In a (nls ps) q
  | [], _, _, h => h.elim
  | p :: r, a, q, h => by
    have := nls_cons p r
    rcases h with h | h
    · have := La_in h
      exact ⟨this.1, by omega⟩
    · have := LaO_in h
      exact ⟨by omega, by omega⟩
end
theorem Lk_in : ∀ {ps : List Pat} {a : Nat} {acc : Nat → Prop} {i j : Nat}, Lk ps a acc i j → (acc i ∨ In a (nls ps) i) ∧ In a (nls ps) j
  | [], _, _, _, _, h => h.elim
  | p :: r, a, acc, i, j, h => by
    have := nls_cons p r
    rcases h with ⟨h1, h2⟩ | h
    · have := Fi_in h2
      exact ⟨.inl h1, ⟨this.1, by omega⟩⟩
    · obtain ⟨h1, h2⟩ := Lk_in h
      refine ⟨?_, ⟨by omega, by omega⟩⟩
      rcases h1 with (⟨_, h1⟩ | h1) | h1
      · exact .inl h1
      · have := La_in h1
        exact .inr ⟨this.1, by omega⟩
      · exact .inr ⟨by omega, by omega⟩
mutual
theorem Ed_in : ∀ {p : Pat} {a i j : Nat}, Ed p a i j → In a (nl p) i ∧ In a (nl p) j
  | .one _, _, _, _, h => h.elim
  | .row ps, a, i, j, h => by
    rcases h with h | h
    · exact EdP_in (ps := ps) h
    · obtain ⟨h1, h2⟩ := Lk_in h
      rcases h1 with h1 | h1
      · exact h1.elim
      · exact ⟨h1, h2⟩
  | .or ps, _, _, _, h => EdP_in (ps := ps) h
  | .many p, _, _, _, h => by
    rcases h with h | ⟨h1, h2⟩
    · exact Ed_in (p := p) h
    · exact ⟨La_in h1, Fi_in h2⟩
  | .maybe p, _, _, _, h => Ed_in (p := p) h
theorem EdP_in : ∀ {ps : List Pat} {a i j : Nat}, EdP ps a i j → In a (nls ps) i ∧ In a (nls ps) j
  | [], _, _, _, h => h.elim
  | p :: r, a, i, j, h => by
    have := nls_cons p r
    rcases h with h | h
    · have := Ed_in h
      exact ⟨⟨by omega, by omega⟩, ⟨by omega, by omega⟩⟩
    · have := EdP_in h
      exact ⟨⟨by omega, by omega⟩, ⟨by omega, by omega⟩⟩
end
mutual
theorem Sg_in : ∀ {p : Pat} {a q c : Nat}, Sg p a q c → In a (nl p) q
  | .one _, a, q, _, h => ⟨Nat.le_of_eq h.1.symm, by have h := h.1; show q < a + 1; omega⟩
  | .row ps, _, _, _, h => SgP_in (ps := ps) h
  | .or ps, _, _, _, h => SgP_in (ps := ps) h
  | .many p, _, _, _, h => Sg_in (p := p) h
  | .maybe p, _, _, _, h => Sg_in (p := p) h
theorem SgP_in : ∀ {ps : List Pat} {a q c : Nat}, SgP ps a q c → In a (nls ps) q
  | [], _, _, _, h => h.elim
  | p :: r, a, q, c, h => by
    have := nls_cons p r
    rcases h with h | h
    · have := Sg_in h
      exact ⟨by omega, by omega⟩
    · have := SgP_in h
      exact ⟨by omega, by omega⟩
end
/-! ### stretches of a text -/
def sub (s : List Nat) (i j : Nat) : List Nat := (s.drop i).take (j - i)
theorem sub_self (s : List Nat) (i : Nat) : sub s i i = [] := by
  unfold sub
  rw [Nat.sub_self]
  rfl
theorem sub_len {s : List Nat} {i j : Nat} (h : j ≤ s.length) : (sub s i j).length = j - i := by
  unfold sub
  rw [List.length_take, List.length_drop]
  omega
theorem sub_ne {s : List Nat} {i j : Nat} (h : j ≤ s.length) (l : i < j) : sub s i j ≠ [] := fun e => by
  have := sub_len (i := i) h
  rw [e] at this
  have : 0 = j - i := this
  omega
theorem sub_app {s : List Nat} {i m j : Nat} (h1 : i ≤ m) (h2 : m ≤ j) : sub s i j = sub s i m ++ sub s m j := by
  unfold sub
  rw [show j - i = (m - i) + (j - m) by omega, List.take_add, List.drop_drop, show i + (m - i) = m by omega]
theorem sub_split {s u v : List Nat} {i j : Nat} (hj : j ≤ s.length) (hi : i ≤ j) (h : sub s i j = u ++ v) : ∃ m, i ≤ m ∧ m ≤ j ∧ u = sub s i m ∧ v = sub s m j := by
  have hl := sub_len (i := i) hj
  rw [h, List.length_append] at hl
  have e := sub_app (s := s) (show i ≤ i + u.length by omega) (show i + u.length ≤ j by omega)
  rw [h] at e
  have hu := sub_len (s := s) (i := i) (j := i + u.length) (by omega)
  have := List.append_inj e (by rw [hu]; omega)
  exact ⟨i + u.length, by omega, by omega, this.1, this.2⟩
theorem sub_one {s : List Nat} {j : Nat} {c : Nat} : sub s j (j + 1) = [c] ↔ s[j]? = some c := by
  unfold sub
  rw [show j + 1 - j = 1 by omega]
  by_cases h : j < s.length
  · rw [List.drop_eq_getElem_cons h, List.getElem?_eq_getElem h, List.take_succ_cons, List.take_zero]
    exact ⟨fun e => congrArg some (List.cons.inj e).1, fun e => by rw [Option.some.inj e]⟩
  · rw [List.getElem?_eq_none (by omega), List.drop_eq_nil_of_le (by omega)]
    simp
theorem sub_all (s : List Nat) : sub s 0 s.length = s := by
  unfold sub
  rw [List.drop_zero, Nat.sub_zero, List.take_of_length_le (Nat.le_refl _)]
/-! ### the run of the leaves of a pattern -/
structure Sim (lo n : Nat) (act : Nat → Nat → Prop) (s : List Nat) (sg : Nat → Nat → Prop) (inn : Nat → Nat → Prop) : Prop where
  z : ∀ q, lo ≤ q → q < lo + n → ¬ act 0 q
  st : ∀ j q, lo ≤ q → q < lo + n → (act (j + 1) q ↔ ∃ c, s[j]? = some c ∧ sg q c ∧ inn j q)
theorem star_snoc {X : List Nat → Prop} {u v : List Nat} (h : Star X u) (hv : X v) (ne : v ≠ []) : Star X (u ++ v) := by
  induction h with
  | nil =>
    have := Star.cons hv ne .nil
    rw [List.append_nil] at this
    exact this
  | cons h1 h2 h3 ih =>
    rw [List.append_assoc]
    exact .cons h1 h2 ih
mutual
theorem sim : ∀ (p : Pat) (a : Nat) (act : Nat → Nat → Prop) (s : List Nat) (E : Nat → Prop), Sim a (nl p) act s (Sg p a) (fun j q => (∃ q', act j q' ∧ Ed p a q' q) ∨ (Fi p a q ∧ E j)) →
    ∀ j, j ≤ s.length → ((∃ q, La p a q ∧ act j q) ↔ ∃ i, i < j ∧ E i ∧ Tells p (sub s i j))
  | .one s0, a, act, s, E, S, j, hj => by
    cases j with
    | zero =>
      constructor
      · rintro ⟨q, h1, h2⟩
        have h1 : q = a := h1
        exact absurd h2 (S.z q (by omega) (by show q < a + 1; omega))
      · rintro ⟨i, h, _⟩
        omega
    | succ j =>
      constructor
      · rintro ⟨q, h1, h2⟩
        have h1 : q = a := h1
        obtain ⟨c, hc, ⟨_, hs⟩, h⟩ := (S.st j q (by omega) (by show q < a + 1; omega)).mp h2
        rcases h with ⟨_, _, h⟩ | ⟨_, h⟩
        · exact h.elim
        · exact ⟨j, Nat.lt_succ_self _, h, c, hs, sub_one.mpr hc⟩
      · rintro ⟨i, h1, h2, c, h3, h4⟩
        have hl := sub_len (i := i) hj
        rw [h4] at hl
        have : i = j := by
          have : 1 = j + 1 - i := hl
          omega
        subst this
        exact ⟨a, rfl, (S.st i a (Nat.le_refl _) (by show a < a + 1; omega)).mpr ⟨c, sub_one.mp h4, ⟨rfl, h3⟩, .inr ⟨rfl, h2⟩⟩⟩
  | .row ps, a, act, s, E, S, j, hj => by
    have key := simR ps a act s E (fun _ => False) true (fun t => t = []) ⟨S.z, fun j q h1 h2 => (S.st j q h1 h2).trans (by
      constructor
      · rintro ⟨c, hc, hs, h⟩
        refine ⟨c, hc, hs, ?_⟩
        rcases h with ⟨q', h3, h4⟩ | h
        · exact .inl ⟨q', h3, h4⟩
        · exact .inr h
      · rintro ⟨c, hc, hs, h⟩
        refine ⟨c, hc, hs, ?_⟩
        rcases h with ⟨q', h3, h4⟩ | h
        · exact .inl ⟨q', h3, h4⟩
        · exact .inr h)⟩ (fun q h => h.elim) (fun j hj => ⟨fun ⟨q, h, _⟩ => h.elim, fun ⟨i, h1, _, h2⟩ => absurd h2 (sub_ne hj h1)⟩) ⟨fun _ => rfl, fun _ => rfl⟩ j hj
    refine key.trans ?_
    constructor
    · rintro ⟨i, h1, h2, u, v, h3, rfl, h4⟩
      rw [List.nil_append] at h3
      refine ⟨i, h1, h2, ?_⟩
      show TellsR ps (sub s i j)
      rw [h3]
      exact h4
    · rintro ⟨i, h1, h2, h3⟩
      exact ⟨i, h1, h2, [], sub s i j, rfl, rfl, h3⟩
  | .or ps, a, act, s, E, S, j, hj => simO ps a act s E S j hj
  | .many p, a, act, s, E, S, j, hj => by
    have ih := sim p a act s (fun j => E j ∨ ∃ q', La p a q' ∧ act j q') ⟨S.z, fun j q h1 h2 => (S.st j q h1 h2).trans (by
      constructor
      · rintro ⟨c, hc, hs, h⟩
        refine ⟨c, hc, hs, ?_⟩
        rcases h with ⟨q', h3, h4 | ⟨h4, h5⟩⟩ | ⟨h3, h4⟩
        · exact .inl ⟨q', h3, h4⟩
        · exact .inr ⟨h5, .inr ⟨q', h4, h3⟩⟩
        · exact .inr ⟨h3, .inl h4⟩
      · rintro ⟨c, hc, hs, h⟩
        refine ⟨c, hc, hs, ?_⟩
        rcases h with ⟨q', h3, h4⟩ | ⟨h3, h4 | ⟨q', h4, h5⟩⟩
        · exact .inl ⟨q', h3, .inl h4⟩
        · exact .inr ⟨h3, h4⟩
        · exact .inl ⟨q', h5, .inr ⟨h4, h3⟩⟩)⟩
    constructor
    · intro h
      revert hj h
      induction j using Nat.strongRecOn with
      | ind j ihj =>
        intro hj h
        obtain ⟨i, h1, h2, h3⟩ := (ih j hj).mp h
        rcases h2 with h2 | h2
        · refine ⟨i, h1, h2, ?_⟩
          show Star (Tells p) (sub s i j)
          have := star_snoc .nil h3 (sub_ne hj h1)
          exact this
        · obtain ⟨i', k1, k2, k3⟩ := ihj i h1 (by omega) h2
          refine ⟨i', by omega, k2, ?_⟩
          show Star (Tells p) (sub s i' j)
          rw [sub_app (show i' ≤ i by omega) (show i ≤ j by omega)]
          exact star_snoc k3 h3 (sub_ne hj h1)
    · rintro ⟨i, h1, h2, h3⟩
      have h3 : Star (Tells p) (sub s i j) := h3
      have gen : ∀ t, Star (Tells p) t → ∀ i, i < j → t = sub s i j → (E i ∨ ∃ q', La p a q' ∧ act i q') → ∃ q, La p a q ∧ act j q := by
        intro t ht
        induction ht with
        | nil =>
          intro i hi e
          exact absurd e.symm (sub_ne hj hi)
        | cons h1 h2 h3 ihs =>
          intro i hi e hE
          obtain ⟨m, m1, m2, rfl, rfl⟩ := sub_split hj (by omega) e.symm
          have m3 : i < m := by
            rcases Nat.lt_or_ge i m with z | z
            · exact z
            · have : m = i := by omega
              subst this
              exact absurd (sub_self s m) h2
          have x := (ih m (by omega)).mpr ⟨i, m3, hE, h1⟩
          by_cases hm : m = j
          · subst hm
            exact x
          · exact ihs m (by omega) rfl (.inr x)
      exact gen _ h3 i h1 rfl (.inl h2)
  | .maybe p, a, act, s, E, S, j, hj => by
    refine (sim p a act s E S j hj).trans ⟨?_, ?_⟩
    · rintro ⟨i, h1, h2, h3⟩
      exact ⟨i, h1, h2, .inr h3⟩
    · rintro ⟨i, h1, h2, h3⟩
      rcases h3 with h3 | h3
      · exact absurd h3 (sub_ne hj h1)
      · exact ⟨i, h1, h2, h3⟩
theorem simO : ∀ (ps : List Pat) (a : Nat) (act : Nat → Nat → Prop) (s : List Nat) (E : Nat → Prop), Sim a (nls ps) act s (SgP ps a) (fun j q => (∃ q', act j q' ∧ EdP ps a q' q) ∨ (FiO ps a q ∧ E j)) →
    ∀ j, j ≤ s.length → ((∃ q, LaO ps a q ∧ act j q) ↔ ∃ i, i < j ∧ E i ∧ TellsO ps (sub s i j))
  | [], a, act, s, E, S, j, hj => ⟨fun ⟨q, h, _⟩ => h.elim, fun ⟨i, _, _, h⟩ => h.elim⟩
  | p :: r, a, act, s, E, S, j, hj => by
    have hn := nls_cons p r
    have h1 := sim p a act s E ⟨fun q k1 k2 => S.z q k1 (by omega), fun j q k1 k2 => (S.st j q k1 (by omega)).trans (by
      constructor
      · rintro ⟨c, hc, hs, h⟩
        refine ⟨c, hc, ?_, ?_⟩
        · rcases hs with hs | hs
          · exact hs
          · have := SgP_in hs
            omega
        · rcases h with ⟨q', h3, h4 | h4⟩ | ⟨h3 | h3, h4⟩
          · exact .inl ⟨q', h3, h4⟩
          · have := EdP_in h4
            omega
          · exact .inr ⟨h3, h4⟩
          · have := FiO_in h3
            omega
      · rintro ⟨c, hc, hs, h⟩
        refine ⟨c, hc, .inl hs, ?_⟩
        rcases h with ⟨q', h3, h4⟩ | ⟨h3, h4⟩
        · exact .inl ⟨q', h3, .inl h4⟩
        · exact .inr ⟨.inl h3, h4⟩)⟩ j hj
    have h2 := simO r (a + nl p) act s E ⟨fun q k1 k2 => S.z q (by omega) (by omega), fun j q k1 k2 => (S.st j q (by omega) (by omega)).trans (by
      constructor
      · rintro ⟨c, hc, hs, h⟩
        refine ⟨c, hc, ?_, ?_⟩
        · rcases hs with hs | hs
          · have := Sg_in hs
            omega
          · exact hs
        · rcases h with ⟨q', h3, h4 | h4⟩ | ⟨h3 | h3, h4⟩
          · have := Ed_in h4
            omega
          · exact .inl ⟨q', h3, h4⟩
          · have := Fi_in h3
            omega
          · exact .inr ⟨h3, h4⟩
      · rintro ⟨c, hc, hs, h⟩
        refine ⟨c, hc, .inr hs, ?_⟩
        rcases h with ⟨q', h3, h4⟩ | ⟨h3, h4⟩
        · exact .inl ⟨q', h3, .inr h4⟩
        · exact .inr ⟨.inr h3, h4⟩)⟩ j hj
    constructor
    · rintro ⟨q, h3 | h3, h4⟩
      · obtain ⟨i, k1, k2, k3⟩ := h1.mp ⟨q, h3, h4⟩
        exact ⟨i, k1, k2, .inl k3⟩
      · obtain ⟨i, k1, k2, k3⟩ := h2.mp ⟨q, h3, h4⟩
        exact ⟨i, k1, k2, .inr k3⟩
    · rintro ⟨i, k1, k2, k3 | k3⟩
      · obtain ⟨q, h3, h4⟩ := h1.mpr ⟨i, k1, k2, k3⟩
        exact ⟨q, .inl h3, h4⟩
      · obtain ⟨q, h3, h4⟩ := h2.mpr ⟨i, k1, k2, k3⟩
        exact ⟨q, .inr h3, h4⟩
theorem simR : ∀ (ps : List Pat) (a : Nat) (act : Nat → Nat → Prop) (s : List Nat) (E : Nat → Prop) (acc : Nat → Prop) (e : Bool) (X : List Nat → Prop),
    Sim a (nls ps) act s (SgP ps a) (fun j q => (∃ q', act j q' ∧ (EdP ps a q' q ∨ Lk ps a acc q' q)) ∨ (FiR ps a e q ∧ E j)) → (∀ q, acc q → q < a) →
    (∀ j, j ≤ s.length → ((∃ q, acc q ∧ act j q) ↔ ∃ i, i < j ∧ E i ∧ X (sub s i j))) → (e = true ↔ X []) →
    ∀ j, j ≤ s.length → ((∃ q, LaR ps a acc q ∧ act j q) ↔ ∃ i, i < j ∧ E i ∧ ∃ u v, sub s i j = u ++ v ∧ X u ∧ TellsR ps v)
  | [], a, act, s, E, acc, e, X, S, ha, hx, he, j, hj => by
    refine (hx j hj).trans ⟨?_, ?_⟩
    · rintro ⟨i, h1, h2, h3⟩
      exact ⟨i, h1, h2, _, [], (List.append_nil _).symm, h3, rfl⟩
    · rintro ⟨i, h1, h2, u, v, h3, h4, h5⟩
      have h5 : v = [] := h5
      subst h5
      rw [List.append_nil] at h3
      exact ⟨i, h1, h2, h3 ▸ h4⟩
  | p :: r, a, act, s, E, acc, e, X, S, ha, hx, he, j, hj => by
    have hn := nls_cons p r
    have h1 := sim p a act s (fun j => (∃ q', acc q' ∧ act j q') ∨ (e = true ∧ E j)) ⟨fun q k1 k2 => S.z q k1 (by omega), fun j q k1 k2 => (S.st j q k1 (by omega)).trans (by
      constructor
      · rintro ⟨c, hc, hs, h⟩
        refine ⟨c, hc, ?_, ?_⟩
        · rcases hs with hs | hs
          · exact hs
          · have := SgP_in hs
            omega
        · rcases h with ⟨q', h3, (h4 | h4) | (⟨h4, h5⟩ | h4)⟩ | ⟨⟨h3, h4⟩ | h3, h5⟩
          · exact .inl ⟨q', h3, h4⟩
          · have := EdP_in h4
            omega
          · exact .inr ⟨h5, .inl ⟨q', h4, h3⟩⟩
          · have := (Lk_in h4).2
            omega
          · exact .inr ⟨h4, .inr ⟨h3, h5⟩⟩
          · have := FiR_in h3
            omega
      · rintro ⟨c, hc, hs, h⟩
        refine ⟨c, hc, .inl hs, ?_⟩
        rcases h with ⟨q', h3, h4⟩ | ⟨h3, ⟨q', h4, h5⟩ | ⟨h4, h5⟩⟩
        · exact .inl ⟨q', h3, .inl (.inl h4)⟩
        · exact .inl ⟨q', h5, .inr (.inl ⟨h4, h3⟩)⟩
        · exact .inr ⟨.inl ⟨h4, h3⟩, h5⟩)⟩
    have hE : ∀ m, m ≤ s.length → (((∃ q', acc q' ∧ act m q') ∨ (e = true ∧ E m)) ↔ ∃ i, i ≤ m ∧ E i ∧ X (sub s i m)) := by
      intro m hm
      constructor
      · rintro (h | ⟨h2, h3⟩)
        · obtain ⟨i, k1, k2, k3⟩ := (hx m hm).mp h
          exact ⟨i, by omega, k2, k3⟩
        · refine ⟨m, Nat.le_refl _, h3, ?_⟩
          rw [sub_self]
          exact he.mp h2
      · rintro ⟨i, k1, k2, k3⟩
        by_cases hi : i = m
        · subst hi
          rw [sub_self] at k3
          exact .inr ⟨he.mpr k3, k2⟩
        · exact .inl ((hx m hm).mpr ⟨i, by omega, k2, k3⟩)
    have h2 := simR r (a + nl p) act s E (fun q => (Emp p = true ∧ acc q) ∨ La p a q) (e && Emp p) (fun t => ∃ u v, t = u ++ v ∧ X u ∧ Tells p v)
      ⟨fun q k1 k2 => S.z q (by omega) (by omega), fun j q k1 k2 => (S.st j q (by omega) (by omega)).trans (by
        constructor
        · rintro ⟨c, hc, hs, h⟩
          refine ⟨c, hc, ?_, ?_⟩
          · rcases hs with hs | hs
            · have := Sg_in hs
              omega
            · exact hs
          · rcases h with ⟨q', h3, (h4 | h4) | (⟨h4, h5⟩ | h4)⟩ | ⟨⟨h3, h4⟩ | h3, h5⟩
            · have := Ed_in h4
              omega
            · exact .inl ⟨q', h3, .inl h4⟩
            · have := Fi_in h5
              omega
            · exact .inl ⟨q', h3, .inr h4⟩
            · have := Fi_in h4
              omega
            · exact .inr ⟨h3, h5⟩
        · rintro ⟨c, hc, hs, h⟩
          refine ⟨c, hc, .inr hs, ?_⟩
          rcases h with ⟨q', h3, h4 | h4⟩ | ⟨h3, h4⟩
          · exact .inl ⟨q', h3, .inl (.inr h4)⟩
          · exact .inl ⟨q', h3, .inr (.inr h4)⟩
          · exact .inr ⟨.inr h3, h4⟩)⟩
      (fun q h => by
        rcases h with ⟨_, h⟩ | h
        · have := ha q h
          omega
        · exact (La_in h).2)
      (fun j hj => by
        constructor
        · rintro ⟨q, ⟨h3, h4⟩ | h3, h5⟩
          · obtain ⟨i, k1, k2, k3⟩ := (hx j hj).mp ⟨q, h4, h5⟩
            exact ⟨i, k1, k2, _, [], (List.append_nil _).symm, k3, (emp_iff p).mp h3⟩
          · obtain ⟨m, k1, k2, k3⟩ := (h1 j hj).mp ⟨q, h3, h5⟩
            obtain ⟨i, k4, k5, k6⟩ := (hE m (by omega)).mp k2
            exact ⟨i, by omega, k5, _, _, sub_app k4 (by omega), k6, k3⟩
        · rintro ⟨i, k1, k2, u, v, h3, h4, h5⟩
          obtain ⟨m, m1, m2, rfl, rfl⟩ := sub_split hj (by omega) h3
          by_cases hm : m = j
          · subst hm
            rw [sub_self] at h5
            obtain ⟨q, k3, k4⟩ := (hx m hj).mpr ⟨i, k1, k2, h4⟩
            exact ⟨q, .inl ⟨(emp_iff p).mpr h5, k3⟩, k4⟩
          · obtain ⟨q, k3, k4⟩ := (h1 j hj).mpr ⟨m, by omega, (hE m (by omega)).mpr ⟨i, m1, k2, h4⟩, h5⟩
            exact ⟨q, .inr k3, k4⟩)
      (by
        rw [Bool.and_eq_true, he, emp_iff p]
        constructor
        · rintro ⟨h3, h4⟩
          exact ⟨[], [], rfl, h3, h4⟩
        · rintro ⟨u, v, h3, h4, h5⟩
          have := List.append_eq_nil_iff.mp h3.symm
          rw [this.1] at h4
          rw [this.2] at h5
          exact ⟨h4, h5⟩) j hj
    refine h2.trans ⟨?_, ?_⟩
    · rintro ⟨i, k1, k2, u, v, h3, ⟨u1, u2, rfl, h4, h5⟩, h6⟩
      exact ⟨i, k1, k2, u1, u2 ++ v, by rw [h3, List.append_assoc], h4, u2, v, rfl, h5, h6⟩
    · rintro ⟨i, k1, k2, u, v, h3, h4, v1, v2, rfl, h5, h6⟩
      exact ⟨i, k1, k2, u ++ v1, v2, by rw [h3, List.append_assoc], ⟨u, v1, rfl, h4, h5⟩, h6⟩
end
end Ab
namespace Ab
open PySem PySem.Spec PyProof.Rows L2
/-! ### the leaves as the program keeps them, and the leaves as told in Ml3 -/
theorem linkL_get (f : Nat) : ∀ (bs af : List Nat) (i : Nat), (∀ b ∈ bs, b < af.length) → (linkL af bs f).getD i 0 = if i ∈ bs then af.getD i 0 ||| f else af.getD i 0
  | [], af, i, _ => by
    rw [if_neg (by simp)]
    rfl
  | b :: bs, af, i, h => by
    have hb := h b List.mem_cons_self
    have ih := linkL_get f bs (af.set b (af.getD b 0 ||| f)) i fun x hx => by
      rw [List.length_set]
      exact h x (List.mem_cons_of_mem _ hx)
    have hs : (af.set b (af.getD b 0 ||| f)).getD i 0 = if i = b then af.getD b 0 ||| f else af.getD i 0 := by
      by_cases e : i = b
      · subst e
        rw [if_pos rfl, List.getD_eq_getElem?_getD, List.getElem?_set_self hb]
        rfl
      · rw [if_neg e, List.getD_eq_getElem?_getD, List.getElem?_set_ne (Ne.symm e), ← List.getD_eq_getElem?_getD]
    show (linkL (af.set b (af.getD b 0 ||| f)) bs f).getD i 0 = _
    rw [ih, hs]
    by_cases e : i = b
    · subst e
      rw [if_pos rfl, if_pos List.mem_cons_self]
      split
      · rw [Nat.or_assoc, Nat.or_self]
      · rfl
    · rw [if_neg e]
      by_cases q : i ∈ bs
      · rw [if_pos q, if_pos (List.mem_cons_of_mem _ q)]
      · rw [if_neg q, if_neg fun z => by
          rcases List.mem_cons.mp z with z | z
          · exact e z
          · exact q z]
def edL (L : LV) (i j : Nat) : Prop := (L.after.getD i 0).testBit j = true
def hvL (L : LV) (q c : Nat) : Prop := (hget L.having c).testBit q = true
theorem or_bit {a b q : Nat} : (a ||| b).testBit q = true ↔ a.testBit q = true ∨ b.testBit q = true := by
  rw [Nat.testBit_or, Bool.or_eq_true]
theorem pow_bit {n q : Nat} : (2 ^ n).testBit q = true ↔ q = n := by
  rw [Nat.testBit_two_pow]
  constructor
  · intro h
    exact (of_decide_eq_true h).symm
  · intro h
    exact decide_eq_true h.symm
theorem link_ed {L : LV} (hL : L.Ok) {l f : Nat} (hl : l < 2 ^ L.signs.length) (i j : Nat) : edL (link L l f) i j ↔ edL L i j ∨ (l.testBit i = true ∧ f.testBit j = true) := by
  unfold edL
  show ((linkL L.after (bitsOf l) f).getD i 0).testBit j = true ↔ _
  rw [linkL_get f _ _ _ fun b hb => by rw [hL.len]; exact bitsOf_lt hl hb]
  by_cases h : i ∈ bitsOf l
  · rw [if_pos h, or_bit]
    have := bitsOf_mem.mp h
    exact ⟨fun z => z.imp id fun z => ⟨this, z⟩, fun z => z.imp id fun z => z.2⟩
  · rw [if_neg h]
    exact ⟨.inl, fun z => z.elim id fun z => absurd (bitsOf_mem.mpr z.1) h⟩
structure ShEq (s : Sh) (p : Pat) (a : Nat) : Prop where
  e : s.e = Emp p
  f : ∀ q, s.f.testBit q = true ↔ Fi p a q
  l : ∀ q, s.l.testBit q = true ↔ La p a q
def ShsEq : List Pat → Nat → List Sh → Prop
  | [], _, [] => True
  | p :: r, a, s :: shs => ShEq s p a ∧ ShsEq r (a + nl p) shs
  | _, _, _ => False
theorem rowGo_eq : ∀ (ps : List Pat) (a : Nat) (shs : List Sh) (L : LV) (s : Sh) (acc : Nat → Prop), ShsEq ps a shs → L.Ok → s.In L.signs.length → (∀ p ∈ shs, p.In L.signs.length) → (∀ q, s.l.testBit q = true ↔ acc q) →
    (rowGo L s shs).2.e = (s.e && EmpR ps) ∧ (∀ q, (rowGo L s shs).2.f.testBit q = true ↔ s.f.testBit q = true ∨ FiR ps a s.e q) ∧ (∀ q, (rowGo L s shs).2.l.testBit q = true ↔ LaR ps a acc q) ∧ ∀ i j, edL (rowGo L s shs).1 i j ↔ edL L i j ∨ Lk ps a acc i j
  | [], a, [], L, s, acc, h, hL, hs, hp, hl => by
    refine ⟨?_, fun q => ?_, hl, fun i j => ?_⟩
    · show s.e = (s.e && true)
      rw [Bool.and_true]
    · exact ⟨.inl, fun z => z.elim id fun z => z.elim⟩
    · exact ⟨.inl, fun z => z.elim id fun z => z.elim⟩
  | [], a, _ :: _, L, s, acc, h, hL, hs, hp, hl => h.elim
  | p :: r, a, [], L, s, acc, h, hL, hs, hp, hl => h.elim
  | p :: r, a, x :: shs, L, s, acc, h, hL, hs, hp, hl => by
    obtain ⟨hx, h⟩ := h
    have hxi := hp x List.mem_cons_self
    have acc' : ∀ q, ((if x.e = true then s.l else 0) ||| x.l).testBit q = true ↔ (Emp p = true ∧ acc q) ∨ La p a q := fun q => by
      rw [or_bit, hx.l q, ← hx.e]
      by_cases z : x.e = true
      · rw [if_pos z, hl q]
        exact ⟨fun w => w.imp (fun w => ⟨z, w⟩) id, fun w => w.imp (fun w => w.2) id⟩
      · rw [if_neg z, Nat.zero_testBit]
        exact ⟨fun w => w.elim (fun w => (by cases w)) .inr, fun w => w.elim (fun w => absurd w.1 z) .inr⟩
    obtain ⟨k1, k2, k3, k4⟩ := rowGo_eq r (a + nl p) shs (link L s.l x.f) ⟨s.e && x.e, if s.e = true then s.f ||| x.f else s.f, (if x.e = true then s.l else 0) ||| x.l⟩ _ h (link_ok hL _ _) (row_in hs hxi) (fun q hq => hp q (List.mem_cons_of_mem _ hq)) acc'
    have he : (s.e && x.e) = (s.e && Emp p) := by rw [hx.e]
    refine ⟨?_, fun q => ?_, k3, fun i j => ?_⟩
    · refine k1.trans ?_
      show ((s.e && x.e) && EmpR r) = (s.e && (Emp p && EmpR r))
      rw [he, Bool.and_assoc]
    · refine (k2 q).trans ?_
      show (if s.e = true then s.f ||| x.f else s.f).testBit q = true ∨ FiR r (a + nl p) (s.e && x.e) q ↔ s.f.testBit q = true ∨ ((s.e = true ∧ Fi p a q) ∨ FiR r (a + nl p) (s.e && Emp p) q)
      rw [he]
      by_cases z : s.e = true
      · rw [if_pos z, or_bit, hx.f q]
        constructor
        · rintro ((w | w) | w)
          · exact .inl w
          · exact .inr (.inl ⟨z, w⟩)
          · exact .inr (.inr w)
        · rintro (w | ⟨_, w⟩ | w)
          · exact .inl (.inl w)
          · exact .inl (.inr w)
          · exact .inr w
      · rw [if_neg z]
        constructor
        · rintro (w | w)
          · exact .inl w
          · exact .inr (.inr w)
        · rintro (w | ⟨w, _⟩ | w)
          · exact .inl w
          · exact absurd w z
          · exact .inr w
    · refine (k4 i j).trans ?_
      rw [link_ed hL hs.l, hl i, hx.f j]
      exact or_assoc
theorem orGo_eq : ∀ (ps : List Pat) (a : Nat) (shs : List Sh) (s : Sh), ShsEq ps a shs →
    (orGo s shs).e = (s.e || EmpO ps) ∧ (∀ q, (orGo s shs).f.testBit q = true ↔ s.f.testBit q = true ∨ FiO ps a q) ∧ ∀ q, (orGo s shs).l.testBit q = true ↔ s.l.testBit q = true ∨ LaO ps a q
  | [], a, [], s, h => ⟨by show s.e = (s.e || false); rw [Bool.or_false], fun q => ⟨.inl, fun z => z.elim id fun z => z.elim⟩, fun q => ⟨.inl, fun z => z.elim id fun z => z.elim⟩⟩
  | [], a, _ :: _, s, h => h.elim
  | p :: r, a, [], s, h => h.elim
  | p :: r, a, x :: shs, s, h => by
    obtain ⟨hx, h⟩ := h
    obtain ⟨k1, k2, k3⟩ := orGo_eq r (a + nl p) shs ⟨s.e || x.e, s.f ||| x.f, s.l ||| x.l⟩ h
    refine ⟨?_, fun q => ?_, fun q => ?_⟩
    · refine k1.trans ?_
      show ((s.e || x.e) || EmpO r) = (s.e || (Emp p || EmpO r))
      rw [hx.e, Bool.or_assoc]
    · refine (k2 q).trans ?_
      show (s.f ||| x.f).testBit q = true ∨ _ ↔ _
      rw [or_bit, hx.f q]
      exact or_assoc
    · refine (k3 q).trans ?_
      show (s.l ||| x.l).testBit q = true ∨ _ ↔ _
      rw [or_bit, hx.l q]
      exact or_assoc
mutual
theorem shape_eq : ∀ (p : Pat) (L : LV), L.Ok → Wf p → L.signs.length + nl p ≤ 61 → ShEq (shape p L).2 p L.signs.length ∧ (∀ i j, edL (shape p L).1 i j ↔ edL L i j ∨ Ed p L.signs.length i j) ∧ ∀ q c, hvL (shape p L).1 q c ↔ hvL L q c ∨ Sg p L.signs.length q c
  | .one s, L, h, hw, hl => by
    refine ⟨⟨rfl, fun q => pow_bit, fun q => pow_bit⟩, fun i j => ?_, fun q c => ?_⟩
    · have : (L.after ++ [0]).getD i 0 = L.after.getD i 0 := by
        rw [List.getD_eq_getElem?_getD, List.getD_eq_getElem?_getD]
        rcases Nat.lt_or_ge i L.after.length with z | z
        · rw [List.getElem?_append_left z]
        · rw [List.getElem?_append_right z, List.getElem?_eq_none (l := L.after) z]
          cases i - L.after.length <;> rfl
      show ((L.after ++ [0]).getD i 0).testBit j = true ↔ edL L i j ∨ False
      rw [this, or_false]
      exact Iff.rfl
    · show (hget (hadd (2 ^ L.signs.length) L.having s) c).testBit q = true ↔ hvL L q c ∨ (q = L.signs.length ∧ c ∈ s)
      rw [hadd_get]
      by_cases z : c ∈ s
      · rw [if_pos z, or_bit, pow_bit]
        exact ⟨fun w => w.imp id fun w => ⟨w, z⟩, fun w => w.imp id fun w => w.1⟩
      · rw [if_neg z]
        exact ⟨.inl, fun w => w.elim id fun w => absurd w.2 z⟩
  | .row ps, L, h, hw, hl => by
    obtain ⟨h1, h2, h3⟩ := shapes_eq ps L h hw.1 hl
    obtain ⟨k1, k2, k3⟩ := shapes_ok ps L h hw.1 hl
    obtain ⟨r1, r2, r3, r4⟩ := rowGo_eq ps L.signs.length (shapes ps L).2 (shapes ps L).1 ⟨true, 0, 0⟩ (fun _ => False) h1 k1.ok (bare_in _ _) k2 fun q => by rw [Nat.zero_testBit]; exact ⟨fun z => (by cases z), fun z => z.elim⟩
    have r5 := (rowGo_ok (shapes ps L).2 (shapes ps L).1 ⟨true, 0, 0⟩ k1.ok (bare_in _ _) k2).2.2.1
    refine ⟨⟨r1.trans (Bool.true_and _), fun q => (r2 q).trans ?_, r3⟩, fun i j => (r4 i j).trans ?_, fun q c => ?_⟩
    · show (0 : Nat).testBit q = true ∨ _ ↔ FiR ps L.signs.length true q
      rw [Nat.zero_testBit]
      exact ⟨fun z => z.elim (fun z => (by cases z)) id, .inr⟩
    · rw [h2 i j]
      exact or_assoc
    · show (hget (rowGo (shapes ps L).1 ⟨true, 0, 0⟩ (shapes ps L).2).1.having c).testBit q = true ↔ _
      rw [r5]
      exact h3 q c
  | .or ps, L, h, hw, hl => by
    obtain ⟨h1, h2, h3⟩ := shapes_eq ps L h hw.1 hl
    obtain ⟨r1, r2, r3⟩ := orGo_eq ps L.signs.length (shapes ps L).2 ⟨false, 0, 0⟩ h1
    refine ⟨⟨r1.trans (Bool.false_or _), fun q => (r2 q).trans ?_, fun q => (r3 q).trans ?_⟩, h2, h3⟩
    · show (0 : Nat).testBit q = true ∨ _ ↔ _
      rw [Nat.zero_testBit]
      exact ⟨fun z => z.elim (fun z => (by cases z)) id, .inr⟩
    · show (0 : Nat).testBit q = true ∨ _ ↔ _
      rw [Nat.zero_testBit]
      exact ⟨fun z => z.elim (fun z => (by cases z)) id, .inr⟩
  | .many p, L, h, hw, hl => by
    obtain ⟨h1, h2, h3⟩ := shape_eq p L h hw hl
    obtain ⟨k1, k2⟩ := shape_ok p L h hw hl
    refine ⟨⟨rfl, h1.f, h1.l⟩, fun i j => (link_ed k1.ok k2.l i j).trans ?_, h3⟩
    rw [h2 i j, h1.l i, h1.f j]
    exact or_assoc
  | .maybe p, L, h, hw, hl => by
    obtain ⟨h1, h2, h3⟩ := shape_eq p L h hw hl
    exact ⟨⟨rfl, h1.f, h1.l⟩, h2, h3⟩
theorem shapes_eq : ∀ (ps : List Pat) (L : LV), L.Ok → Wfs ps → L.signs.length + nls ps ≤ 61 → ShsEq ps L.signs.length (shapes ps L).2 ∧ (∀ i j, edL (shapes ps L).1 i j ↔ edL L i j ∨ EdP ps L.signs.length i j) ∧ ∀ q c, hvL (shapes ps L).1 q c ↔ hvL L q c ∨ SgP ps L.signs.length q c
  | [], L, h, hw, hl => ⟨trivial, fun i j => ⟨.inl, fun z => z.elim id fun z => z.elim⟩, fun q c => ⟨.inl, fun z => z.elim id fun z => z.elim⟩⟩
  | p :: r, L, h, hw, hl => by
    have hn := nls_cons p r
    obtain ⟨h1, h2, h3⟩ := shape_eq p L h hw.1 (by omega)
    obtain ⟨k1, k2⟩ := shape_ok p L h hw.1 (by omega)
    obtain ⟨g1, g2, g3⟩ := shapes_eq r (shape p L).1 k1.ok hw.2 (by rw [k1.len]; omega)
    rw [k1.len] at g1 g2 g3
    refine ⟨⟨h1, g1⟩, fun i j => (g2 i j).trans ?_, fun q c => (g3 q c).trans ?_⟩
    · rw [h2 i j]
      exact or_assoc
    · rw [h3 q c]
      exact or_assoc
end
/-! ### all patterns -/
def addPat (L : LV) (p : Pat) : LV := { link (shape p L).1 1 (shape p L).2.f with ends := (shape p L).1.ends ++ [if (shape p L).2.e = true then (shape p L).2.l ||| 1 else (shape p L).2.l] }
theorem leavesGo_cons (p : Pat) (r : List Pat) (L : LV) : leavesGo (p :: r) L = leavesGo r (addPat L p) := rfl
theorem leavesGo_snoc : ∀ (ps : List Pat) (p : Pat) (L : LV), leavesGo (ps ++ [p]) L = addPat (leavesGo ps L) p
  | [], p, L => rfl
  | q :: ps, p, L => leavesGo_snoc ps p (addPat L q)
theorem addPat_ok {L : LV} {p : Pat} (h : L.Ok) (hw : Wf p) (hl : L.signs.length + nl p ≤ 61) : (addPat L p).Ok ∧ (addPat L p).signs.length = L.signs.length + nl p ∧ (addPat L p).ends.length = L.ends.length + 1 := by
  obtain ⟨k1, k2⟩ := shape_ok p L h hw hl
  have k := link_ok k1.ok 1 (shape p L).2.f
  refine ⟨⟨k.pos, k.len, k.few, k.hav, k.hv⟩, k1.len, ?_⟩
  show ((shape p L).1.ends ++ [_]).length = _
  rw [List.length_append, k1.ends]
  rfl
theorem leavesGo_ok : ∀ (ps : List Pat) (L : LV), L.Ok → Wfs ps → L.signs.length + nls ps ≤ 61 → (leavesGo ps L).Ok ∧ (leavesGo ps L).signs.length = L.signs.length + nls ps ∧ (leavesGo ps L).ends.length = L.ends.length + ps.length
  | [], L, h, _, _ => ⟨h, rfl, rfl⟩
  | p :: r, L, h, hw, hl => by
    have hn := nls_cons p r
    obtain ⟨k1, k2, k3⟩ := addPat_ok (p := p) h hw.1 (by omega)
    obtain ⟨g1, g2, g3⟩ := leavesGo_ok r (addPat L p) k1 hw.2 (by omega)
    refine ⟨g1, ?_, ?_⟩
    · show (leavesGo r (addPat L p)).signs.length = _
      omega
    · show (leavesGo r (addPat L p)).ends.length = L.ends.length + (r.length + 1)
      omega
def EndsEq : List Pat → Nat → List Nat → Prop
  | [], _, [] => True
  | p :: r, a, m :: es => (∀ q, m.testBit q = true ↔ La p a q ∨ (q = 0 ∧ Emp p = true)) ∧ EndsEq r (a + nl p) es
  | _, _, _ => False
theorem one_bit {q : Nat} : (1 : Nat).testBit q = true ↔ q = 0 := pow_bit (n := 0)
theorem leavesGo_eq : ∀ (ps : List Pat) (L : LV), L.Ok → Wfs ps → L.signs.length + nls ps ≤ 61 → (∀ i j, edL (leavesGo ps L) i j ↔ edL L i j ∨ (EdP ps L.signs.length i j ∨ (i = 0 ∧ FiO ps L.signs.length j))) ∧ (∀ q c, hvL (leavesGo ps L) q c ↔ hvL L q c ∨ SgP ps L.signs.length q c) ∧
    ∃ es, (leavesGo ps L).ends = L.ends ++ es ∧ EndsEq ps L.signs.length es
  | [], L, h, _, _ => ⟨fun i j => ⟨.inl, fun z => z.elim id fun z => z.elim (fun z => z.elim) fun z => z.2.elim⟩, fun q c => ⟨.inl, fun z => z.elim id fun z => z.elim⟩, [], (List.append_nil _).symm, trivial⟩
  | p :: r, L, h, hw, hl => by
    have hn := nls_cons p r
    obtain ⟨h1, h2, h3⟩ := shape_eq p L h hw.1 (by omega)
    obtain ⟨k1, k2⟩ := shape_ok p L h hw.1 (by omega)
    obtain ⟨a1, a2, a3⟩ := addPat_ok (p := p) h hw.1 (by omega)
    obtain ⟨g1, g2, es, g3, g4⟩ := leavesGo_eq r (addPat L p) a1 hw.2 (by omega)
    rw [a2] at g1 g2 g4
    have hpos := h.pos
    refine ⟨fun i j => (g1 i j).trans ?_, fun q c => (g2 q c).trans ?_, (if (shape p L).2.e = true then (shape p L).2.l ||| 1 else (shape p L).2.l) :: es, ?_, ?_, g4⟩
    · have : edL (addPat L p) i j ↔ edL (link (shape p L).1 1 (shape p L).2.f) i j := Iff.rfl
      rw [this, link_ed k1.ok (Nat.one_lt_two_pow (by have := k1.ok.pos; omega)), h2 i j, one_bit, h1.f j]
      constructor
      · rintro (((w | w) | ⟨w1, w2⟩) | (w | ⟨w1, w2⟩))
        · exact .inl w
        · exact .inr (.inl (.inl w))
        · exact .inr (.inr ⟨w1, .inl w2⟩)
        · exact .inr (.inl (.inr w))
        · exact .inr (.inr ⟨w1, .inr w2⟩)
      · rintro (w | (w | w) | ⟨w1, w2 | w2⟩)
        · exact .inl (.inl (.inl w))
        · exact .inl (.inl (.inr w))
        · exact .inr (.inl w)
        · exact .inl (.inr ⟨w1, w2⟩)
        · exact .inr (.inr ⟨w1, w2⟩)
    · have : hvL (addPat L p) q c ↔ hvL (shape p L).1 q c := Iff.rfl
      rw [this, h3 q c]
      exact or_assoc
    · rw [leavesGo_cons, g3]
      show ((shape p L).1.ends ++ [_]) ++ es = _
      rw [k1.ends, List.append_assoc]
      rfl
    · intro q
      rw [← h1.e]
      by_cases z : (shape p L).2.e = true
      · rw [if_pos z, or_bit, h1.l q, one_bit]
        exact ⟨fun w => w.imp id fun w => ⟨w, z⟩, fun w => w.imp id fun w => w.1⟩
      · rw [if_neg z, h1.l q]
        exact ⟨.inl, fun w => w.elim id fun w => absurd w.2 z⟩
theorem or_split {p : Pat} {r : List Pat} {a : Nat} {act : Nat → Nat → Prop} {s : List Nat} {E : Nat → Prop} (S : Sim a (nls (p :: r)) act s (SgP (p :: r) a) (fun j q => (∃ q', act j q' ∧ EdP (p :: r) a q' q) ∨ (FiO (p :: r) a q ∧ E j))) :
    Sim a (nl p) act s (Sg p a) (fun j q => (∃ q', act j q' ∧ Ed p a q' q) ∨ (Fi p a q ∧ E j)) ∧ Sim (a + nl p) (nls r) act s (SgP r (a + nl p)) (fun j q => (∃ q', act j q' ∧ EdP r (a + nl p) q' q) ∨ (FiO r (a + nl p) q ∧ E j)) := by
  have hn := nls_cons p r
  refine ⟨⟨fun q k1 k2 => S.z q k1 (by omega), fun j q k1 k2 => (S.st j q k1 (by omega)).trans ?_⟩, ⟨fun q k1 k2 => S.z q (by omega) (by omega), fun j q k1 k2 => (S.st j q (by omega) (by omega)).trans ?_⟩⟩
  · constructor
    · rintro ⟨c, hc, hs, h⟩
      refine ⟨c, hc, ?_, ?_⟩
      · rcases hs with hs | hs
        · exact hs
        · have := SgP_in hs
          omega
      · rcases h with ⟨q', h3, h4 | h4⟩ | ⟨h3 | h3, h4⟩
        · exact .inl ⟨q', h3, h4⟩
        · have := EdP_in h4
          omega
        · exact .inr ⟨h3, h4⟩
        · have := FiO_in h3
          omega
    · rintro ⟨c, hc, hs, h⟩
      refine ⟨c, hc, .inl hs, ?_⟩
      rcases h with ⟨q', h3, h4⟩ | ⟨h3, h4⟩
      · exact .inl ⟨q', h3, .inl h4⟩
      · exact .inr ⟨.inl h3, h4⟩
  · constructor
    · rintro ⟨c, hc, hs, h⟩
      refine ⟨c, hc, ?_, ?_⟩
      · rcases hs with hs | hs
        · have := Sg_in hs
          omega
        · exact hs
      · rcases h with ⟨q', h3, h4 | h4⟩ | ⟨h3 | h3, h4⟩
        · have := Ed_in h4
          omega
        · exact .inl ⟨q', h3, h4⟩
        · have := Fi_in h3
          omega
        · exact .inr ⟨h3, h4⟩
    · rintro ⟨c, hc, hs, h⟩
      refine ⟨c, hc, .inr hs, ?_⟩
      rcases h with ⟨q', h3, h4⟩ | ⟨h3, h4⟩
      · exact .inl ⟨q', h3, .inr h4⟩
      · exact .inr ⟨.inr h3, h4⟩
theorem ends_tell {act : Nat → Nat → Prop} {s : List Nat} (h0 : act s.length 0 ↔ s.length = 0) : ∀ (ps : List Pat) (a : Nat) (es : List Nat), Sim a (nls ps) act s (SgP ps a) (fun j q => (∃ q', act j q' ∧ EdP ps a q' q) ∨ (FiO ps a q ∧ j = 0)) → EndsEq ps a es →
    ∀ (k : Nat) (p : Pat) (m : Nat), ps[k]? = some p → es[k]? = some m → ((∃ q, m.testBit q = true ∧ act s.length q) ↔ Tells p s)
  | [], a, es, S, h, k, p, m, hp, hm => by simp at hp
  | x :: r, a, [], S, h, k, p, m, hp, hm => h.elim
  | x :: r, a, y :: es, S, h, 0, p, m, hp, hm => by
    cases hp
    cases hm
    have key := sim x a act s (fun j => j = 0) (or_split S).1 s.length (Nat.le_refl _)
    constructor
    · rintro ⟨q, h1, h2⟩
      rcases (h.1 q).mp h1 with h3 | ⟨rfl, h3⟩
      · obtain ⟨i, _, rfl, h4⟩ := key.mp ⟨q, h3, h2⟩
        rw [sub_all] at h4
        exact h4
      · have := List.eq_nil_of_length_eq_zero (h0.mp h2)
        subst this
        exact (emp_iff x).mp h3
    · intro ht
      by_cases z : s.length = 0
      · have := List.eq_nil_of_length_eq_zero z
        subst this
        exact ⟨0, (h.1 0).mpr (.inr ⟨rfl, (emp_iff x).mpr ht⟩), h0.mpr z⟩
      · obtain ⟨q, h3, h4⟩ := key.mpr ⟨0, by omega, rfl, by rw [sub_all]; exact ht⟩
        exact ⟨q, (h.1 q).mpr (.inl h3), h4⟩
  | x :: r, a, y :: es, S, h, k + 1, p, m, hp, hm => ends_tell h0 r (a + nl x) es (or_split S).2 h.2 k p m (by simpa using hp) (by simpa using hm)
structure PsOk (ps : List Pat) : Prop where
  wf : Wfs ps
  one : 1 ≤ ps.length
  few : ps.length ≤ 8
  lv : nls ps ≤ 60
  dp : deps ps ≤ 30
theorem PsOk.fit {ps : List Pat} (h : PsOk ps) : LV.new.signs.length + nls ps ≤ 61 := by
  have := h.lv
  show 1 + nls ps ≤ 61
  omega
theorem follow_bit (af : List Nat) (q : Nat) : ∀ (bs : List Nat) (r0 : Nat), (bs.foldl (fun r i => r ||| af.getD i 0) r0).testBit q = true ↔ r0.testBit q = true ∨ ∃ i, i ∈ bs ∧ (af.getD i 0).testBit q = true
  | [], r0 => ⟨.inl, fun z => z.elim id fun ⟨i, h, _⟩ => (by cases h)⟩
  | b :: bs, r0 => by
    refine (follow_bit af q bs (r0 ||| af.getD b 0)).trans ?_
    rw [or_bit]
    constructor
    · rintro ((w | w) | ⟨i, h1, h2⟩)
      · exact .inl w
      · exact .inr ⟨b, List.mem_cons_self, w⟩
      · exact .inr ⟨i, List.mem_cons_of_mem _ h1, h2⟩
    · rintro (w | ⟨i, h1, h2⟩)
      · exact .inl (.inl w)
      · rcases List.mem_cons.mp h1 with rfl | h1
        · exact .inl (.inr h2)
        · exact .inr ⟨i, h1, h2⟩
theorem step_bit (L : LV) (h c q : Nat) : (stepL L h c).testBit q = true ↔ hvL L q c ∧ ∃ q', h.testBit q' = true ∧ edL L q' q := by
  show (follow L.after (bitsOf h) &&& hget L.having c).testBit q = true ↔ _
  rw [Nat.testBit_and, Bool.and_eq_true]
  unfold follow
  rw [follow_bit, Nat.zero_testBit]
  constructor
  · rintro ⟨w | ⟨i, h1, h2⟩, h3⟩
    · cases w
    · exact ⟨h3, i, bitsOf_mem.mp h1, h2⟩
  · rintro ⟨h3, i, h1, h2⟩
    exact ⟨.inr ⟨i, bitsOf_mem.mpr h1, h2⟩, h3⟩
theorem stepL_lt {L : LV} (hL : L.Ok) (h c : Nat) : stepL L h c < 2 ^ L.signs.length := Nat.and_lt_two_pow _ (hL.hv c)
theorem runL_snoc (L : LV) (s : List Nat) (c : Nat) : runL L (s ++ [c]) = stepL L (runL L s) c := by
  unfold runL
  rw [List.foldl_append]
  rfl
theorem runL_lt {L : LV} (hL : L.Ok) (s : List Nat) : runL L s < 2 ^ L.signs.length := by
  rcases List.eq_nil_or_concat s with rfl | ⟨t, c, rfl⟩
  · exact Nat.one_lt_two_pow (by have := hL.pos; omega)
  · rw [List.concat_eq_append, runL_snoc]
    exact stepL_lt hL _ _
/-- which leaves are come to -/
def actL (L : LV) (s : List Nat) (j q : Nat) : Prop := j ≤ s.length ∧ (runL L (s.take j)).testBit q = true
theorem act_zero (L : LV) (s : List Nat) (q : Nat) : actL L s 0 q ↔ q = 0 := by
  unfold actL
  show 0 ≤ s.length ∧ (1 : Nat).testBit q = true ↔ _
  rw [one_bit]
  exact ⟨fun h => h.2, fun h => ⟨Nat.zero_le _, h⟩⟩
theorem act_succ (L : LV) (s : List Nat) (j q : Nat) : actL L s (j + 1) q ↔ ∃ c, s[j]? = some c ∧ hvL L q c ∧ ∃ q', actL L s j q' ∧ edL L q' q := by
  unfold actL
  by_cases h : j < s.length
  · have hc := List.getElem?_eq_getElem h
    rw [List.take_add_one, hc]
    show j + 1 ≤ s.length ∧ (runL L (s.take j ++ [s[j]])).testBit q = true ↔ _
    rw [runL_snoc, step_bit]
    constructor
    · rintro ⟨_, h1, q', h2, h3⟩
      exact ⟨_, rfl, h1, q', ⟨by omega, h2⟩, h3⟩
    · rintro ⟨c, hc2, h1, q', ⟨_, h2⟩, h3⟩
      cases hc2
      exact ⟨h, h1, q', h2, h3⟩
  · constructor
    · rintro ⟨h1, _⟩
      omega
    · rintro ⟨c, hc, _⟩
      rw [List.getElem?_eq_none (by omega)] at hc
      cases hc
theorem edL_new (i j : Nat) : ¬ edL LV.new i j := fun h => by
  have h : (([0] : List Nat).getD i 0).testBit j = true := h
  cases i with
  | zero =>
    have h : (0 : Nat).testBit j = true := h
    rw [Nat.zero_testBit] at h
    cases h
  | succ i =>
    have h : (0 : Nat).testBit j = true := h
    rw [Nat.zero_testBit] at h
    cases h
theorem hvL_new (q c : Nat) : ¬ hvL LV.new q c := fun h => by
  have h : (0 : Nat).testBit q = true := h
  rw [Nat.zero_testBit] at h
  cases h
theorem leaves_tell {ps : List Pat} (h : PsOk ps) (s : List Nat) {k : Nat} {p : Pat} {m : Nat} (hp : ps[k]? = some p) (hm : (leavesOf ps).ends[k]? = some m) : m &&& runL (leavesOf ps) s ≠ 0 ↔ Tells p s := by
  obtain ⟨g1, g2, es, g3, g4⟩ := leavesGo_eq ps LV.new LV.new_ok h.wf h.fit
  have g3 : (leavesOf ps).ends = es := g3
  rw [g3] at hm
  have g1 : ∀ i j, edL (leavesOf ps) i j ↔ EdP ps 1 i j ∨ (i = 0 ∧ FiO ps 1 j) := fun i j => (g1 i j).trans ⟨fun w => w.elim (fun w => absurd w (edL_new i j)) id, .inr⟩
  have g2 : ∀ q c, hvL (leavesOf ps) q c ↔ SgP ps 1 q c := fun q c => (g2 q c).trans ⟨fun w => w.elim (fun w => absurd w (hvL_new q c)) id, .inr⟩
  have z0 : ∀ j, actL (leavesOf ps) s j 0 ↔ j = 0 := fun j => by
    cases j with
    | zero => exact act_zero _ _ _
    | succ j =>
      rw [act_succ]
      constructor
      · rintro ⟨c, _, h1, _⟩
        have := SgP_in ((g2 0 c).mp h1)
        omega
      · intro w
        cases w
  have S : Sim 1 (nls ps) (actL (leavesOf ps) s) s (SgP ps 1) (fun j q => (∃ q', actL (leavesOf ps) s j q' ∧ EdP ps 1 q' q) ∨ (FiO ps 1 q ∧ j = 0)) := by
    refine ⟨fun q h1 _ h2 => ?_, fun j q h1 h2 => (act_succ _ _ _ _).trans ?_⟩
    · have := (act_zero _ _ _).mp h2
      omega
    · constructor
      · rintro ⟨c, hc, h3, q', h4, h5⟩
        refine ⟨c, hc, (g2 q c).mp h3, ?_⟩
        rcases (g1 q' q).mp h5 with h6 | ⟨rfl, h6⟩
        · exact .inl ⟨q', h4, h6⟩
        · exact .inr ⟨h6, (z0 j).mp h4⟩
      · rintro ⟨c, hc, h3, h4⟩
        refine ⟨c, hc, (g2 q c).mpr h3, ?_⟩
        rcases h4 with ⟨q', h4, h5⟩ | ⟨h4, h5⟩
        · exact ⟨q', h4, (g1 q' q).mpr (.inl h5)⟩
        · exact ⟨0, (z0 j).mpr h5, (g1 0 q).mpr (.inr ⟨rfl, h4⟩)⟩
  refine Iff.trans ?_ (ends_tell (z0 s.length) ps 1 es S g4 k p m hp hm)
  have hr : ∀ q, actL (leavesOf ps) s s.length q ↔ (runL (leavesOf ps) s).testBit q = true := fun q => by
    unfold actL
    rw [List.take_of_length_le (Nat.le_refl _)]
    exact ⟨fun w => w.2, fun w => ⟨Nat.le_refl _, w⟩⟩
  constructor
  · intro w
    obtain ⟨q, hq⟩ := Nat.exists_testBit_of_ne_zero w
    rw [Nat.testBit_and, Bool.and_eq_true] at hq
    exact ⟨q, hq.1, (hr q).mpr hq.2⟩
  · rintro ⟨q, h1, h2⟩ w
    have : (m &&& runL (leavesOf ps) s).testBit q = true := by
      rw [Nat.testBit_and, h1, (hr q).mp h2]
      rfl
    rw [w, Nat.zero_testBit] at this
    cases this
theorem leaves_ends {ps : List Pat} (h : PsOk ps) : (leavesOf ps).ends.length = ps.length := by
  have := (leavesGo_ok ps LV.new LV.new_ok h.wf h.fit).2.2
  have e : LV.new.ends.length = 0 := rfl
  show (leavesGo ps LV.new).ends.length = _
  omega
theorem leavesOf_ok {ps : List Pat} (h : PsOk ps) : (leavesOf ps).Ok := (leavesGo_ok ps LV.new LV.new_ok h.wf h.fit).1
/-- the number of the first pattern that tells a text -/
theorem told_some {ps : List Pat} (h : PsOk ps) {s : List Nat} {k : Nat} (ht : toldL (leavesOf ps) (runL (leavesOf ps) s) = some k) : ∃ p, ps[k]? = some p ∧ Tells p s ∧ ∀ j q, j < k → ps[j]? = some q → ¬ Tells q s := by
  unfold toldL at ht
  rw [List.findIdx?_eq_some_iff_getElem] at ht
  obtain ⟨hk, h1, h2⟩ := ht
  have hl := leaves_ends h
  have hk' : k < ps.length := by omega
  refine ⟨ps[k], List.getElem?_eq_getElem hk', ?_, fun j q hj hq => ?_⟩
  · exact (leaves_tell h s (List.getElem?_eq_getElem hk') (List.getElem?_eq_getElem hk)).mp (of_decide_eq_true h1)
  · intro w
    have hj' : j < (leavesOf ps).ends.length := by omega
    exact h2 j hj (decide_eq_true ((leaves_tell h s hq (List.getElem?_eq_getElem hj')).mpr w))
theorem told_none {ps : List Pat} (h : PsOk ps) {s : List Nat} (ht : toldL (leavesOf ps) (runL (leavesOf ps) s) = none) : ∀ p ∈ ps, ¬ Tells p s := by
  unfold toldL at ht
  rw [List.findIdx?_eq_none_iff] at ht
  intro p hp w
  obtain ⟨k, hk, rfl⟩ := List.mem_iff_getElem.mp hp
  have hk' : k < (leavesOf ps).ends.length := by rw [leaves_ends h]; exact hk
  have := ht _ (List.getElem_mem hk')
  exact of_decide_eq_false this ((leaves_tell h s (List.getElem?_eq_getElem hk) (List.getElem?_eq_getElem hk')).mpr w)
end Ab
namespace Ab
open PySem PySem.Spec PyProof.Rows L2
section
variable {K : PySem.W.Frag} {e : Env}
/-! ### lists of numbers -/
theorem nats_ints (ns : List Nat) : ns.map natD = (ns.map Int.ofNat).map .int := by
  rw [List.map_map]
  rfl
theorem mem_ints {i : Nat} {ns : List Nat} : ((i : Int) ∈ ns.map Int.ofNat) ↔ i ∈ ns := by
  rw [List.mem_map]
  constructor
  · rintro ⟨a, ha, h⟩
    have : a = i := Int.ofNat.inj h
    exact this ▸ ha
  · intro h
    exact ⟨i, h, rfl⟩
theorem a2_inN {neg : Bool} {i : Nat} {ns : List Nat} : A2 K (rIn K neg) (.d (natD i)) (.d (natsD ns)) e (.d (.bl (if neg = true then !decide (i ∈ ns) else decide (i ∈ ns)))) := by
  have h := a2_inI (K := K) (e := e) (neg := neg) (i := (i : Int)) (ns := ns.map Int.ofNat)
  have e1 : decide ((i : Int) ∈ ns.map Int.ofNat) = decide (i ∈ ns) := by rw [decide_eq_decide]; exact mem_ints
  rw [← nats_ints, e1] at h
  exact h
end
end Ab
namespace Ab
open PySem PySem.Spec PyProof.Rows L2
/-! ### how the law draws patterns -/
mutual
def over : Pat → Nat
  | .one _ => 0
  | .row ps => overs ps
  | .or ps => overs ps
  | .many p => 1 + over p
  | .maybe p => over p
def overs : List Pat → Nat
  | [] => 0
  | p :: r => max (over p) (overs r)
end
theorem overs_le {n : Nat} : ∀ {ps : List Pat}, overs ps ≤ n ↔ ∀ p ∈ ps, over p ≤ n
  | [] => ⟨fun _ _ h => (by cases h), fun _ => Nat.zero_le _⟩
  | p :: r => by
    have ih := overs_le (n := n) (ps := r)
    show max (over p) (overs r) ≤ n ↔ _
    constructor
    · intro h q hq
      rcases List.mem_cons.mp hq with rfl | hq
      · omega
      · exact ih.mp (by omega) q hq
    · intro h
      have h1 := h p List.mem_cons_self
      have h2 := ih.mpr fun q hq => h q (List.mem_cons_of_mem _ hq)
      omega
theorem overs_mem : ∀ {ps : List Pat}, overs ps = 0 ∨ ∃ p ∈ ps, over p = overs ps
  | [] => .inl rfl
  | p :: r => by
    show max (over p) (overs r) = 0 ∨ ∃ q ∈ p :: r, over q = max (over p) (overs r)
    rcases Nat.le_total (over p) (overs r) with h | h
    · rcases overs_mem (ps := r) with z | ⟨q, hq, e⟩
      · exact .inl (by omega)
      · exact .inr ⟨q, List.mem_cons_of_mem _ hq, by omega⟩
    · exact .inr ⟨p, List.mem_cons_self, by omega⟩
/-- the greatest of nought and those -/
theorem overs_max {ps : List Pat} {z : Int} (h1 : z ∈ (0 : Int) :: ps.map fun p => (over p : Int)) (h2 : ∀ y ∈ (0 : Int) :: ps.map fun p => (over p : Int), y ≤ z) : z = (overs ps : Nat) := by
  have a : (overs ps : Int) ≤ z := by
    rcases overs_mem (ps := ps) with e | ⟨q, hq, e⟩
    · rw [e]
      exact h2 0 List.mem_cons_self
    · rw [← e]
      exact h2 _ (List.mem_cons_of_mem _ (List.mem_map.mpr ⟨q, hq, rfl⟩))
  have b : z ≤ (overs ps : Int) := by
    rcases List.mem_cons.mp h1 with e | h
    · omega
    · obtain ⟨q, hq, rfl⟩ := List.mem_map.mp h
      have := overs_le.mp (Nat.le_refl (overs ps)) q hq
      omega
  omega
def mkB (way : Int) (ps : List Pat) : Pat := if way / 2 % 2 = 1 then .or ps else .row ps
def growB (way more : Int) (p q : Pat) : List Pat → List Pat
  | [] => [mkB way [q, p]]
  | x :: r => if more % 3 = 1 then mkB way [x, q, p] :: r else mkB way [q, p] :: x :: r
def growD (way more : Int) (p : Pat) : List Pat → List Pat
  | [] => [p]
  | q :: r2 => growB way more p q r2
def growC (cap : Bool) (way more : Int) : List Pat → List Pat
  | [] => []
  | p :: r => if way = 1 ∧ (cap = true → over p < 2) then .many p :: r else if way = 2 then .maybe p :: r else if 2 < way then growD way more p r else p :: r
/-- a stack of patterns, the last one first -/
def growSt (cap : Bool) (ls : List (List Nat)) (st : List Pat) (cell room : Int) : List Pat × Int :=
  if 5 < cell % 10 ∧ 0 < room ∧ st.length < 8 then (.one (someOf ls (1 + cell / 10 % 15)) :: st, room - 1)
  else if cell % 10 = 0 ∧ st.length < 8 then (.row [] :: st, room)
  else (growC cap (cell % 10) (cell / 10) st, room)
structure GrOk (st : List Pat) (room : Int) (d all : Nat) : Prop where
  wf : Wfs st
  dp : deps st ≤ d
  ln : st.length ≤ 8
  rm : 0 ≤ room
  al : (nls st : Int) + room ≤ all
theorem SomeOk.wf {s : List Nat} (k : SomeOk s) : Wf (.one s) := ⟨k.ne, k.nd, by have := k.len; omega, k.lt⟩
theorem mkB_wf {way : Int} {ps : List Pat} (h : Wfs ps) (hl : ps.length ≤ 1000) (hn : ps ≠ []) : Wf (mkB way ps) := by
  unfold mkB
  split
  · exact ⟨h, hl, hn⟩
  · exact ⟨h, hl⟩
theorem mkB_nl (way : Int) (ps : List Pat) : nl (mkB way ps) = nls ps := by
  unfold mkB
  split <;> rfl
theorem mkB_dep (way : Int) (ps : List Pat) : dep (mkB way ps) = deps ps + 1 := by
  unfold mkB
  split <;> rfl
theorem deps_cons (p : Pat) (r : List Pat) : deps (p :: r) = max (dep p) (deps r) := rfl
theorem growB_ok {way more : Int} {p q : Pat} {r : List Pat} {room : Int} {d all : Nat} (h : GrOk (p :: q :: r) room d all) : GrOk (growB way more p q r) room (d + 1) all := by
  obtain ⟨⟨w1, w2, w3⟩, h2, h3, h4, h5⟩ := h
  rw [deps_cons, deps_cons] at h2
  rw [nls_cons, nls_cons] at h5
  have h3 : r.length + 1 + 1 ≤ 8 := h3
  cases r with
  | nil =>
    refine ⟨⟨mkB_wf ⟨w2, w1, trivial⟩ (by show 2 ≤ 1000; decide) (fun z => nomatch z), trivial⟩, ?_, by show 1 ≤ 8; decide, h4, ?_⟩
    · show max (dep (mkB way [q, p])) 0 ≤ d + 1
      rw [mkB_dep, deps_cons, deps_cons]
      have : deps [] = 0 := rfl
      omega
    · show ((nl (mkB way [q, p]) + 0 : Nat) : Int) + room ≤ all
      rw [mkB_nl, nls_cons, nls_cons]
      have : nls [] = 0 := rfl
      omega
  | cons x r =>
    rw [deps_cons] at h2
    rw [nls_cons] at h5
    have h3 : r.length + 1 + 1 + 1 ≤ 8 := h3
    show GrOk (if more % 3 = 1 then mkB way [x, q, p] :: r else mkB way [q, p] :: x :: r) room (d + 1) all
    split
    · refine ⟨⟨mkB_wf ⟨w3.1, w2, w1, trivial⟩ (by show 3 ≤ 1000; decide) (fun z => nomatch z), w3.2⟩, ?_, by show r.length + 1 ≤ 8; omega, h4, ?_⟩
      · rw [deps_cons, mkB_dep, deps_cons, deps_cons, deps_cons]
        have : deps [] = 0 := rfl
        omega
      · rw [nls_cons, mkB_nl, nls_cons, nls_cons, nls_cons]
        have : nls [] = 0 := rfl
        omega
    · refine ⟨⟨mkB_wf ⟨w2, w1, trivial⟩ (by show 2 ≤ 1000; decide) (fun z => nomatch z), w3⟩, ?_, by show r.length + 1 + 1 ≤ 8; omega, h4, ?_⟩
      · rw [deps_cons, mkB_dep, deps_cons, deps_cons, deps_cons]
        have : deps [] = 0 := rfl
        omega
      · rw [nls_cons, mkB_nl, nls_cons, nls_cons, nls_cons]
        have : nls [] = 0 := rfl
        omega
theorem GrOk.up {st : List Pat} {room : Int} {d all : Nat} (h : GrOk st room d all) : GrOk st room (d + 1) all := ⟨h.wf, Nat.le_succ_of_le h.dp, h.ln, h.rm, h.al⟩
theorem growC_ok {cap : Bool} {way more : Int} {st : List Pat} {room : Int} {d all : Nat} (h : GrOk st room d all) : GrOk (growC cap way more st) room (d + 1) all := by
  cases st with
  | nil => exact h.up
  | cons p r =>
    obtain ⟨⟨w1, w2⟩, h2, h3, h4, h5⟩ := id h
    rw [deps_cons] at h2
    show GrOk (if way = 1 ∧ (cap = true → over p < 2) then .many p :: r else if way = 2 then .maybe p :: r else if 2 < way then growD way more p r else p :: r) room (d + 1) all
    split
    · refine ⟨⟨w1, w2⟩, ?_, h3, h4, h5⟩
      show max (dep p + 1) (deps r) ≤ d + 1
      omega
    · split
      · refine ⟨⟨w1, w2⟩, ?_, h3, h4, h5⟩
        show max (dep p + 1) (deps r) ≤ d + 1
        omega
      · split
        · cases r with
          | nil => exact h.up
          | cons q r2 => exact growB_ok h
        · exact h.up
theorem growSt_ok {cap : Bool} {ls : List (List Nat)} (hu : LetU ls) (hl : 4 ≤ ls.length) {st : List Pat} {cell room : Int} {d all : Nat} (h : GrOk st room d all) : GrOk (growSt cap ls st cell room).1 (growSt cap ls st cell room).2 (d + 1) all := by
  have b1 := mod_lo (cell / 10) (n := 15) (by decide)
  have b2 := mod_hi (cell / 10) (n := 15) (by decide)
  have so := someOf_ok hu hl (m := 1 + cell / 10 % 15) (by omega) (by omega)
  unfold growSt
  split
  · rename_i z
    refine ⟨⟨so.wf, h.wf⟩, ?_, by show st.length + 1 ≤ 8; omega, by show 0 ≤ room - 1; omega, ?_⟩
    · have := h.dp
      show max 1 (deps st) ≤ d + 1
      omega
    · have := h.al
      show ((1 + nls st : Nat) : Int) + (room - 1) ≤ all
      omega
  · split
    · rename_i z
      refine ⟨⟨⟨trivial, by decide⟩, h.wf⟩, ?_, by show st.length + 1 ≤ 8; omega, h.rm, ?_⟩
      · have := h.dp
        show max 1 (deps st) ≤ d + 1
        omega
      · have := h.al
        show ((0 + nls st : Nat) : Int) + room ≤ all
        omega
    · exact growC_ok h
def grow (cap : Bool) (ls : List (List Nat)) (cells : Nat → Int) (room : Int) : Nat → List Pat × Int
  | 0 => ([], room)
  | i + 1 => growSt cap ls (grow cap ls cells room i).1 (cells i) (grow cap ls cells room i).2
theorem grow_ok {cap : Bool} {ls : List (List Nat)} (hu : LetU ls) (hl : 4 ≤ ls.length) {cells : Nat → Int} {room : Nat} : ∀ i, GrOk (grow cap ls cells room i).1 (grow cap ls cells room i).2 i room
  | 0 => ⟨trivial, Nat.le_refl _, Nat.zero_le _, by show (0 : Int) ≤ room; omega, by show ((0 : Nat) : Int) + room ≤ room; omega⟩
  | i + 1 => growSt_ok hu hl (grow_ok hu hl i)
/-- a row of leaves of one sign each -/
def word (t : List Nat) : Pat := .row (t.map fun c => .one [c])
theorem nls_word (t : List Nat) : nls (t.map fun c => Pat.one [c]) = t.length := by
  induction t with
  | nil => rfl
  | cons c r ih =>
    show 1 + nls (r.map _) = r.length + 1
    omega
theorem word_wf {t : List Nat} (h : ∀ c ∈ t, c < 128) (hl : t.length ≤ 1000) : Wf (word t) := by
  refine ⟨wfs_mem.mpr fun p hp => ?_, by rw [List.length_map]; exact hl⟩
  obtain ⟨c, hc, rfl⟩ := List.mem_map.mp hp
  refine ⟨(fun z => nomatch z), List.nodup_cons.mpr ⟨by simp, List.nodup_nil⟩, by show 1 ≤ 1000; decide, fun x hx => ?_⟩
  rw [List.mem_singleton.mp hx]
  exact h c hc
theorem word_nl (t : List Nat) : nl (word t) = t.length := nls_word t
theorem word_dep (t : List Nat) : dep (word t) ≤ 2 := by
  have : deps (t.map fun c => Pat.one [c]) ≤ 1 := deps_le.mpr fun p hp => by
    obtain ⟨c, _, rfl⟩ := List.mem_map.mp hp
    exact Nat.le_refl _
  show deps (t.map fun c => Pat.one [c]) + 1 ≤ 2
  omega
def wide (m c : Int) : List (List Nat) := (List.range (2 + c / 768 % m).toNat).map fun k => [sgn (c + (k : Nat) * gap c)]
theorem wide_ok {m : Int} (h1 : 0 < m) (h2 : m ≤ 60) (c : Int) : LetOk (wide m c) where
  len := by
    have a := mod_lo (c / 768) h1
    have b := mod_hi (c / 768) h1
    unfold wide
    rw [List.length_map, List.length_range]
    omega
  it := fun g hg => by
    obtain ⟨k, _, rfl⟩ := List.mem_map.mp hg
    exact ⟨Nat.le_refl _, by show 1 ≤ 19; decide⟩
  lt := fun g hg x hx => by
    obtain ⟨k, _, rfl⟩ := List.mem_map.mp hg
    rw [List.mem_singleton.mp hx]
    exact sgn_lt _
theorem textBy_lt {c size : Int} {ls : List (List Nat)} (h : LetOk ls) : ∀ x ∈ textBy c size ls, x < 128 := fun x hx => by
  obtain ⟨g, hg, hx⟩ := textBy_mem h x hx
  exact h.lt g hg x hx
/-- rows of leaves, sizes by a function -/
def rowsSt (ls : List (List Nat)) (size : Int → Int) (n0 : Int) : Nat → List Pat × Int
  | 0 => ([], n0)
  | i + 1 => ((rowsSt ls size n0 i).1 ++ [word (textBy (nxt (rowsSt ls size n0 i).2) (size (nxt (rowsSt ls size n0 i).2)) ls)], nxt (rowsSt ls size n0 i).2)
theorem rows_len (ls : List (List Nat)) (size : Int → Int) (n0 : Int) : ∀ i, (rowsSt ls size n0 i).1.length = i
  | 0 => rfl
  | i + 1 => by
    show ((rowsSt ls size n0 i).1 ++ [_]).length = i + 1
    rw [List.length_append, rows_len ls size n0 i]
    rfl
theorem rows_ok {ls : List (List Nat)} (h : LetOk ls) {size : Int → Int} {b : Nat} (hb : b ≤ 1000) (hs : ∀ n, 0 ≤ n → size n ≤ b) (n0 : Int) : ∀ i, Wfs (rowsSt ls size n0 i).1 ∧ deps (rowsSt ls size n0 i).1 ≤ 2 ∧ nls (rowsSt ls size n0 i).1 ≤ i * b
  | 0 => ⟨trivial, Nat.zero_le _, Nat.zero_le _⟩
  | i + 1 => by
    obtain ⟨h1, h2, h3⟩ := rows_ok h hb hs n0 i
    have hn := (nxt_b (rowsSt ls size n0 i).2).1
    have hl : (textBy (nxt (rowsSt ls size n0 i).2) (size (nxt (rowsSt ls size n0 i).2)) ls).length ≤ b := by
      rw [textBy_len]
      have := hs _ hn
      omega
    refine ⟨wfs_mem.mpr fun p hp => ?_, deps_le.mpr fun p hp => ?_, ?_⟩
    · rcases List.mem_append.mp hp with hp | hp
      · exact wfs_mem.mp h1 p hp
      · rw [List.mem_singleton.mp hp]
        exact word_wf (textBy_lt h) (by omega)
    · rcases List.mem_append.mp hp with hp | hp
      · exact deps_le.mp h2 p hp
      · rw [List.mem_singleton.mp hp]
        exact word_dep _
    · show nls ((rowsSt ls size n0 i).1 ++ [_]) ≤ (i + 1) * b
      rw [nls_app, Nat.succ_mul]
      have : nls [word (textBy (nxt (rowsSt ls size n0 i).2) (size (nxt (rowsSt ls size n0 i).2)) ls)] = nl (word _) + 0 := rfl
      rw [this, word_nl]
      omega
/-! words -/
def wShape (ns : List Int) : Int := cell ns 2 % 4
def wCounts : List Int := [8, 8, 3, 58]
def wCount (ns : List Int) : Int := 1 + cell ns 2 / 4 % wCounts.getD (wShape ns).toNat 0
def min2 (i j : Int) : Int := if j < i then j else i
def wMosts (n : Int) : List Int := [6, 6, min2 40 (58 / n), min2 40 (58 / n)]
def wMost (ns : List Int) : Int := (wMosts (wCount ns)).getD (wShape ns).toNat 0
def wSize (ns : List Int) (n : Int) : Int := if decide (cell ns 4 % 3 = 1) = true then wMost ns - n / 7 % (wMost ns + 1) / 3 else n / 7 % (wMost ns + 1)
def wHeld (m : Int) (ns : List Int) : List Pat := (rowsSt (wide m (cell ns 20)) (wSize ns) (cell ns 3 % 2147483647) (wCount ns).toNat).1
def wordsBy (m : Int) (ns : List Int) : List Pat := if decide (wShape ns % 2 = 1) = true then [.or (wHeld m ns)] else wHeld m ns
theorem wShape_b (ns : List Int) : 0 ≤ wShape ns ∧ wShape ns < 4 := ⟨mod_lo _ (by decide), mod_hi _ (by decide)⟩
theorem wCounts_pos (ns : List Int) : 0 < wCounts.getD (wShape ns).toNat 0 := by
  have := wShape_b ns
  have h : ∀ i, i < 4 → 0 < wCounts.getD i 0 := by decide
  exact h _ (by omega)
theorem wCount_b (ns : List Int) : 1 ≤ wCount ns ∧ wCount ns ≤ wCounts.getD (wShape ns).toNat 0 := by
  have h := wCounts_pos ns
  have a := mod_lo (cell ns 2 / 4) h
  have b := mod_hi (cell ns 2 / 4) h
  unfold wCount
  omega
theorem wMost_b (ns : List Int) : 1 ≤ wMost ns ∧ wMost ns ≤ 40 ∧ wCount ns * wMost ns ≤ 58 ∧ wCount ns ≤ 58 ∧ (wShape ns % 2 = 1 ∨ wCount ns ≤ 8) := by
  have h := wShape_b ns
  have c := wCount_b ns
  have hs : wShape ns = 0 ∨ wShape ns = 1 ∨ wShape ns = 2 ∨ wShape ns = 3 := by omega
  have big : ∀ n : Int, 1 ≤ n → n ≤ 58 → 1 ≤ min2 40 (58 / n) ∧ min2 40 (58 / n) ≤ 40 ∧ n * min2 40 (58 / n) ≤ 58 := by
    intro n h1 h2
    have e1 : n * (58 / n) ≤ 58 := Int.mul_ediv_self_le (by omega)
    have e2 : 1 ≤ 58 / n := Int.le_ediv_of_mul_le (by omega) (by omega)
    unfold min2
    split
    · rename_i z
      exact ⟨e2, by omega, e1⟩
    · rename_i z
      refine ⟨by omega, by omega, ?_⟩
      have : n * 40 ≤ n * (58 / n) := Int.mul_le_mul_of_nonneg_left (by omega) (by omega)
      omega
  unfold wMost
  rcases hs with e | e | e | e
  · rw [e] at c ⊢
    have c1 : wCount ns ≤ 8 := c.2
    have k : (wMosts (wCount ns)).getD (0 : Int).toNat 0 = 6 := rfl
    rw [k]
    omega
  · rw [e] at c ⊢
    have c1 : wCount ns ≤ 8 := c.2
    have k : (wMosts (wCount ns)).getD (1 : Int).toNat 0 = 6 := rfl
    rw [k]
    omega
  · rw [e] at c ⊢
    have c1 : wCount ns ≤ 3 := c.2
    have k : (wMosts (wCount ns)).getD (2 : Int).toNat 0 = min2 40 (58 / wCount ns) := rfl
    rw [k]
    obtain ⟨b1, b2, b3⟩ := big (wCount ns) c.1 (by omega)
    exact ⟨b1, b2, b3, by omega, .inr (by omega)⟩
  · rw [e] at c ⊢
    have c1 : wCount ns ≤ 58 := c.2
    have k : (wMosts (wCount ns)).getD (3 : Int).toNat 0 = min2 40 (58 / wCount ns) := rfl
    rw [k]
    obtain ⟨b1, b2, b3⟩ := big (wCount ns) c.1 (by omega)
    exact ⟨b1, b2, b3, by omega, .inl rfl⟩
theorem wSize_b (ns : List Int) {n : Int} (hn : 0 ≤ n) : 0 ≤ wSize ns n ∧ wSize ns n ≤ wMost ns := by
  have h := wMost_b ns
  have a := mod_lo (n / 7) (n := wMost ns + 1) (by omega)
  have b := mod_hi (n / 7) (n := wMost ns + 1) (by omega)
  unfold wSize
  split <;> omega
theorem wordsBy_ok {m : Int} (h1 : 0 < m) (h2 : m ≤ 60) (ns : List Int) : PsOk (wordsBy m ns) := by
  obtain ⟨b1, b2, b3, b4, b5⟩ := wMost_b ns
  have c := wCount_b ns
  have r := rows_ok (wide_ok h1 h2 (cell ns 20)) (size := wSize ns) (b := (wMost ns).toNat) (by omega) (fun n hn => by have := (wSize_b ns hn).2; omega) (cell ns 3 % 2147483647) (wCount ns).toNat
  have hl := rows_len (wide m (cell ns 20)) (wSize ns) (cell ns 3 % 2147483647) (wCount ns).toNat
  have hm : ((wCount ns).toNat * (wMost ns).toNat : Nat) ≤ 58 := by
    have : (((wCount ns).toNat * (wMost ns).toNat : Nat) : Int) ≤ 58 := by
      rw [Int.natCast_mul, Int.toNat_of_nonneg (by omega), Int.toNat_of_nonneg (by omega)]
      exact b3
    omega
  have r1 : Wfs (wHeld m ns) := r.1
  have r2 : deps (wHeld m ns) ≤ 2 := r.2.1
  have r3 : nls (wHeld m ns) ≤ 58 := Nat.le_trans r.2.2 hm
  have hl : (wHeld m ns).length = (wCount ns).toNat := hl
  unfold wordsBy
  split
  · have hne : wHeld m ns ≠ [] := fun z => by
      rw [z] at hl
      have : 0 = (wCount ns).toNat := hl
      omega
    refine ⟨⟨⟨r1, by omega, hne⟩, trivial⟩, Nat.le_refl _, by show 1 ≤ 8; decide, ?_, ?_⟩
    · show nls (wHeld m ns) + 0 ≤ 60
      omega
    · show max (deps (wHeld m ns) + 1) 0 ≤ 30
      omega
  · rename_i z
    have z : ¬ wShape ns % 2 = 1 := fun w => z (decide_eq_true w)
    have b5 : wCount ns ≤ 8 := b5.resolve_left z
    exact ⟨r1, by omega, by omega, by omega, by omega⟩
/-! loops -/
def pool (ls : List (List Nat)) : List (List Nat) := (((ls.take 4).flatten).take 12).map fun c => [c]
theorem pool_ok {ls : List (List Nat)} (h : LetOk ls) : LetOk (pool ls) where
  len := by
    unfold pool
    rw [List.length_map, List.length_take]
    have h0 : 1 ≤ (ls.take 4).flatten.length := by
      cases ls with
      | nil => exact absurd h.len.1 (by decide)
      | cons g r =>
        have := (h.it g List.mem_cons_self).1
        show 1 ≤ (g ++ (r.take 3).flatten).length
        rw [List.length_append]
        omega
    omega
  it := fun g hg => by
    obtain ⟨c, _, rfl⟩ := List.mem_map.mp hg
    exact ⟨Nat.le_refl _, by show 1 ≤ 19; decide⟩
  lt := fun g hg x hx => by
    obtain ⟨c, hc, rfl⟩ := List.mem_map.mp hg
    rw [List.mem_singleton.mp hx]
    obtain ⟨g, hg, hc⟩ := List.mem_flatten.mp (List.mem_of_mem_take hc)
    exact h.lt g (List.mem_of_mem_take hg) c hc
def lSize (n : Int) : Int := 3 + n / 7 % 4
def lHeld (ns : List Int) (ls : List (List Nat)) : List Pat := (rowsSt (pool ls) lSize (cell ns 3 % 2147483647) (1 + cell ns 2 % 6).toNat).1
def lWord (ns : List Int) (ls : List (List Nat)) : Pat := word (textBy (cell ns 21) (1 + cell ns 22 % 12) (pool ls))
def lMore (cap : Bool) (ns : List Int) (ls : List (List Nat)) : List Pat :=
  if decide (cell ns 2 / 6 % 2 = 1) = true then [if decide (cell ns 23 % 3 = 0) = true then .maybe (lWord ns ls) else .many (lWord ns ls)] else ((grow cap ls (fun k => cell ns (21 + (k : Nat))) 4 8).1.reverse).take 2
def loopsBy (cap : Bool) (ns : List Int) (ls : List (List Nat)) : List Pat := if decide (cell ns 2 / 12 % 2 = 1) = true then lMore cap ns ls ++ lHeld ns ls else lHeld ns ls ++ lMore cap ns ls
theorem PsOk.parts {a b : List Pat} (h1 : Wfs a ∧ deps a ≤ 30) (h2 : Wfs b ∧ deps b ≤ 30) (l1 : 1 ≤ a.length + b.length) (l2 : a.length + b.length ≤ 8) (n : nls a + nls b ≤ 60) : PsOk (a ++ b) where
  wf := wfs_mem.mpr fun p hp => by
    rcases List.mem_append.mp hp with hp | hp
    · exact wfs_mem.mp h1.1 p hp
    · exact wfs_mem.mp h2.1 p hp
  one := by rw [List.length_append]; exact l1
  few := by rw [List.length_append]; exact l2
  lv := by rw [nls_app]; exact n
  dp := deps_le.mpr fun p hp => by
    rcases List.mem_append.mp hp with hp | hp
    · exact deps_le.mp h1.2 p hp
    · exact deps_le.mp h2.2 p hp
theorem nls_rev : ∀ ps : List Pat, nls ps.reverse = nls ps
  | [] => rfl
  | p :: r => by
    rw [List.reverse_cons, nls_app, nls_rev r, nls_cons, nls_cons]
    have : nls [] = 0 := rfl
    omega
theorem nls_take (ps : List Pat) (n : Nat) : nls (ps.take n) ≤ nls ps := by
  have h := nls_app (ps.take n) (ps.drop n)
  rw [List.take_append_drop] at h
  omega
theorem loopsBy_ok {cap : Bool} {ls : List (List Nat)} (hu : LetU ls) (hl : 4 ≤ ls.length) (ns : List Int) : PsOk (loopsBy cap ns ls) := by
  have a1 := mod_lo (cell ns 2) (n := 6) (by decide)
  have a2 := mod_hi (cell ns 2) (n := 6) (by decide)
  have r := rows_ok (pool_ok hu.ok) (size := lSize) (b := 6) (by decide) (fun n _ => by unfold lSize; have := mod_hi (n / 7) (n := 4) (by decide); omega) (cell ns 3 % 2147483647) (1 + cell ns 2 % 6).toNat
  have hln := rows_len (pool ls) lSize (cell ns 3 % 2147483647) (1 + cell ns 2 % 6).toNat
  have r1 : Wfs (lHeld ns ls) := r.1
  have r2 : deps (lHeld ns ls) ≤ 2 := r.2.1
  have r3 : nls (lHeld ns ls) ≤ (1 + cell ns 2 % 6).toNat * 6 := r.2.2
  have hln : (lHeld ns ls).length = (1 + cell ns 2 % 6).toNat := hln
  have m : Wfs (lMore cap ns ls) ∧ deps (lMore cap ns ls) ≤ 8 ∧ nls (lMore cap ns ls) ≤ 12 ∧ (lMore cap ns ls).length ≤ 2 := by
    have b1 := mod_lo (cell ns 22) (n := 12) (by decide)
    have b2 := mod_hi (cell ns 22) (n := 12) (by decide)
    have tl : (textBy (cell ns 21) (1 + cell ns 22 % 12) (pool ls)).length ≤ 12 := by
      rw [textBy_len]
      omega
    have w1 : Wf (lWord ns ls) := word_wf (textBy_lt (pool_ok hu.ok)) (by omega)
    have w2 : nl (lWord ns ls) ≤ 12 := by
      have := word_nl (textBy (cell ns 21) (1 + cell ns 22 % 12) (pool ls))
      show nl (word _) ≤ 12
      omega
    have w3 : dep (lWord ns ls) ≤ 2 := word_dep _
    unfold lMore
    split
    · split
      · refine ⟨⟨w1, trivial⟩, ?_, ?_, by show 1 ≤ 2; decide⟩
        · show max (dep (lWord ns ls) + 1) 0 ≤ 8
          omega
        · show nl (lWord ns ls) + 0 ≤ 12
          omega
      · refine ⟨⟨w1, trivial⟩, ?_, ?_, by show 1 ≤ 2; decide⟩
        · show max (dep (lWord ns ls) + 1) 0 ≤ 8
          omega
        · show nl (lWord ns ls) + 0 ≤ 12
          omega
    · have g := grow_ok (cap := cap) hu hl (cells := fun k => cell ns (21 + (k : Nat))) (room := 4) 8
      have g5 := g.al
      have g4 := g.rm
      refine ⟨wfs_mem.mpr fun p hp => wfs_mem.mp g.wf p (List.mem_reverse.mp (List.mem_of_mem_take hp)), deps_le.mpr fun p hp => deps_le.mp g.dp p (List.mem_reverse.mp (List.mem_of_mem_take hp)), ?_, by rw [List.length_take]; omega⟩
      have t1 := nls_take (grow cap ls (fun k => cell ns (21 + (k : Nat))) ((4 : Nat) : Int) 8).1.reverse 2
      rw [nls_rev] at t1
      have t1 : nls (((grow cap ls (fun k => cell ns (21 + (k : Nat))) 4 8).1.reverse).take 2) ≤ nls (grow cap ls (fun k => cell ns (21 + (k : Nat))) ((4 : Nat) : Int) 8).1 := t1
      omega
  obtain ⟨m1, m2, m3, m4⟩ := m
  unfold loopsBy
  split
  · exact PsOk.parts ⟨m1, by omega⟩ ⟨r1, by omega⟩ (by omega) (by omega) (by omega)
  · exact PsOk.parts ⟨r1, by omega⟩ ⟨m1, by omega⟩ (by omega) (by omega) (by omega)
/-! long -/
def gLeaf (ls : List (List Nat)) (x : Int) : Pat := .one (someOf ls (1 + x / 8 % 15))
def gOther (ls : List (List Nat)) (x : Int) : Pat := .one (someOf ls (1 + x / 120 % 15))
def gSome (ls : List (List Nat)) (x : Int) : List Pat :=
  [.row [], gLeaf ls x, .many (gLeaf ls x), .maybe (gLeaf ls x), .row [gLeaf ls x, gOther ls x], .or [gLeaf ls x, gOther ls x], .maybe (.row [gLeaf ls x, .many (gOther ls x)]), .or [.row [gLeaf ls x, gOther ls x], gLeaf ls x]]
def gSizes : List Int := [0, 1, 1, 1, 2, 2, 2, 3]
def gSizeN (x : Int) : Int := gSizes.getD (x % 8).toNat 0
def gPart (ls : List (List Nat)) (x room : Int) : Pat := if decide (gSizeN x ≤ room) = true then (gSome ls x).getD (x % 8).toNat (.row []) else .row []
def gSt (ls : List (List Nat)) (xs : Nat → Int) (room : Int) : Nat → List Pat × Int
  | 0 => ([], room)
  | i + 1 => ((gSt ls xs room i).1 ++ [gPart ls (xs i) (gSt ls xs room i).2], if decide (gSizeN (xs i) ≤ (gSt ls xs room i).2) = true then (gSt ls xs room i).2 - gSizeN (xs i) else (gSt ls xs room i).2)
theorem gSome_ok {ls : List (List Nat)} (hu : LetU ls) (hl : 4 ≤ ls.length) (x : Int) : ∀ k, k < 8 → Wf ((gSome ls x).getD k (.row [])) ∧ dep ((gSome ls x).getD k (.row [])) ≤ 4 ∧ (nl ((gSome ls x).getD k (.row [])) : Int) = gSizes.getD k 0 := by
  have a1 := mod_lo (x / 8) (n := 15) (by decide)
  have a2 := mod_hi (x / 8) (n := 15) (by decide)
  have b1 := mod_lo (x / 120) (n := 15) (by decide)
  have b2 := mod_hi (x / 120) (n := 15) (by decide)
  have w1 : Wf (gLeaf ls x) := (someOf_ok hu hl (by omega) (by omega)).wf
  have w2 : Wf (gOther ls x) := (someOf_ok hu hl (by omega) (by omega)).wf
  have ne : ∀ {p : Pat} {r : List Pat}, p :: r ≠ [] := fun z => nomatch z
  intro k hk
  match k, hk with
  | 0, _ => exact ⟨⟨trivial, by decide⟩, by show 1 ≤ 4; decide, rfl⟩
  | 1, _ => exact ⟨w1, by show 1 ≤ 4; decide, rfl⟩
  | 2, _ => exact ⟨w1, by show 2 ≤ 4; decide, rfl⟩
  | 3, _ => exact ⟨w1, by show 2 ≤ 4; decide, rfl⟩
  | 4, _ => exact ⟨⟨⟨w1, w2, trivial⟩, by show 2 ≤ 1000; decide⟩, by show 2 ≤ 4; decide, rfl⟩
  | 5, _ => exact ⟨⟨⟨w1, w2, trivial⟩, by show 2 ≤ 1000; decide, ne⟩, by show 2 ≤ 4; decide, rfl⟩
  | 6, _ => exact ⟨⟨⟨w1, w2, trivial⟩, by show 2 ≤ 1000; decide⟩, by show 4 ≤ 4; decide, rfl⟩
  | 7, _ => exact ⟨⟨⟨⟨⟨w1, w2, trivial⟩, by show 2 ≤ 1000; decide⟩, w1, trivial⟩, by show 2 ≤ 1000; decide, ne⟩, by show 3 ≤ 4; decide, rfl⟩
theorem gSizes_b : ∀ k, k < 8 → 0 ≤ gSizes.getD k 0 ∧ gSizes.getD k 0 ≤ 3 := by decide
theorem x8_b (x : Int) : (x % 8).toNat < 8 := by
  have := mod_lo x (n := 8) (by decide)
  have := mod_hi x (n := 8) (by decide)
  omega
theorem gSt_len (ls : List (List Nat)) (xs : Nat → Int) (room : Int) : ∀ i, (gSt ls xs room i).1.length = i
  | 0 => rfl
  | i + 1 => by
    show ((gSt ls xs room i).1 ++ [_]).length = i + 1
    rw [List.length_append, gSt_len ls xs room i]
    rfl
theorem gSt_ok {ls : List (List Nat)} (hu : LetU ls) (hl : 4 ≤ ls.length) (xs : Nat → Int) {room : Int} (hr : 0 ≤ room) : ∀ i, Wfs (gSt ls xs room i).1 ∧ deps (gSt ls xs room i).1 ≤ 4 ∧ 0 ≤ (gSt ls xs room i).2 ∧ (nls (gSt ls xs room i).1 : Int) + (gSt ls xs room i).2 ≤ room
  | 0 => ⟨trivial, Nat.zero_le _, hr, by show ((0 : Nat) : Int) + room ≤ room; omega⟩
  | i + 1 => by
    obtain ⟨h1, h2, h3, h4⟩ := gSt_ok hu hl xs hr i
    obtain ⟨k1, k2, k3⟩ := gSome_ok hu hl (xs i) _ (x8_b (xs i))
    have k3 : (nl ((gSome ls (xs i)).getD (xs i % 8).toNat (.row [])) : Int) = gSizeN (xs i) := k3
    have sb := gSizes_b _ (x8_b (xs i))
    have sb : 0 ≤ gSizeN (xs i) ∧ gSizeN (xs i) ≤ 3 := sb
    show Wfs ((gSt ls xs room i).1 ++ [gPart ls (xs i) (gSt ls xs room i).2]) ∧ deps ((gSt ls xs room i).1 ++ [gPart ls (xs i) (gSt ls xs room i).2]) ≤ 4 ∧ 0 ≤ (if decide (gSizeN (xs i) ≤ (gSt ls xs room i).2) = true then (gSt ls xs room i).2 - gSizeN (xs i) else (gSt ls xs room i).2) ∧
      (nls ((gSt ls xs room i).1 ++ [gPart ls (xs i) (gSt ls xs room i).2]) : Int) + (if decide (gSizeN (xs i) ≤ (gSt ls xs room i).2) = true then (gSt ls xs room i).2 - gSizeN (xs i) else (gSt ls xs room i).2) ≤ room
    rw [nls_app, nls_cons]
    have n0 : nls [] = 0 := rfl
    unfold gPart
    by_cases z : gSizeN (xs i) ≤ (gSt ls xs room i).2
    · rw [decide_eq_true z, if_pos rfl, if_pos rfl]
      refine ⟨wfs_mem.mpr fun p hp => ?_, deps_le.mpr fun p hp => ?_, by omega, by omega⟩
      · rcases List.mem_append.mp hp with hp | hp
        · exact wfs_mem.mp h1 p hp
        · rw [List.mem_singleton.mp hp]
          exact k1
      · rcases List.mem_append.mp hp with hp | hp
        · exact deps_le.mp h2 p hp
        · rw [List.mem_singleton.mp hp]
          exact k2
    · rw [decide_eq_false z, if_neg (by decide), if_neg (by decide)]
      have nr : nl (.row []) = 0 := rfl
      refine ⟨wfs_mem.mpr fun p hp => ?_, deps_le.mpr fun p hp => ?_, by omega, by omega⟩
      · rcases List.mem_append.mp hp with hp | hp
        · exact wfs_mem.mp h1 p hp
        · rw [List.mem_singleton.mp hp]
          exact ⟨trivial, by decide⟩
      · rcases List.mem_append.mp hp with hp | hp
        · exact deps_le.mp h2 p hp
        · rw [List.mem_singleton.mp hp]
          show 1 ≤ 4
          decide
def gRoom (ns : List Int) : Int := 6 - 2 * (cell ns 2 / 36 % 2)
def gParts (ns : List Int) (ls : List (List Nat)) : List Pat := (gSt ls (fun k => cell ns (3 + (k : Nat))) (gRoom ns) (3 + cell ns 2 % 6).toNat).1
def gBoth (ns : List Int) (ls : List (List Nat)) : Pat := if decide (cell ns 2 / 6 % 2 = 1) = true then .or (gParts ns ls) else .row (gParts ns ls)
def gWhole (ns : List Int) (ls : List (List Nat)) : Pat := [gBoth ns ls, .many (gBoth ns ls), .maybe (gBoth ns ls)].getD (cell ns 2 / 12 % 3).toNat (.row [])
def gShort (ls : List (List Nat)) : Pat := word [(ls.getD 0 []).getD 0 0, (ls.getD 1 []).getD 0 0]
def longs (w s : Pat) : List (List Pat) := [[w], [w], [s, w], [w, s]]
def longBy (ns : List Int) (ls : List (List Nat)) : List Pat := (longs (gWhole ns ls) (gShort ls)).getD (cell ns 2 / 36 % 2 * 2 + cell ns 2 / 72 % 2).toNat []
theorem gRoom_b (ns : List Int) : 4 ≤ gRoom ns ∧ gRoom ns ≤ 6 := by
  have := mod_lo (cell ns 2 / 36) (n := 2) (by decide)
  have := mod_hi (cell ns 2 / 36) (n := 2) (by decide)
  unfold gRoom
  omega
theorem gWhole_ok {ls : List (List Nat)} (hu : LetU ls) (hl : 4 ≤ ls.length) (ns : List Int) : Wf (gWhole ns ls) ∧ dep (gWhole ns ls) ≤ 6 ∧ nl (gWhole ns ls) ≤ 6 ∧ (gParts ns ls).length = (3 + cell ns 2 % 6).toNat := by
  have hr := gRoom_b ns
  obtain ⟨h1, h2, h3, h4⟩ := gSt_ok hu hl (fun k => cell ns (3 + (k : Nat))) (room := gRoom ns) (by omega) (3 + cell ns 2 % 6).toNat
  have h5 := gSt_len ls (fun k => cell ns (3 + (k : Nat))) (gRoom ns) (3 + cell ns 2 % 6).toNat
  have h1 : Wfs (gParts ns ls) := h1
  have h2 : deps (gParts ns ls) ≤ 4 := h2
  have h4 : (nls (gParts ns ls) : Int) + (gSt ls (fun k => cell ns (3 + (k : Nat))) (gRoom ns) (3 + cell ns 2 % 6).toNat).2 ≤ gRoom ns := h4
  have h5 : (gParts ns ls).length = (3 + cell ns 2 % 6).toNat := h5
  have a1 := mod_lo (cell ns 2) (n := 6) (by decide)
  have a2 := mod_hi (cell ns 2) (n := 6) (by decide)
  have hne : gParts ns ls ≠ [] := fun z => by
    rw [z] at h5
    have : 0 = (3 + cell ns 2 % 6).toNat := h5
    omega
  have b : Wf (gBoth ns ls) ∧ dep (gBoth ns ls) ≤ 5 ∧ nl (gBoth ns ls) ≤ 6 := by
    unfold gBoth
    split
    · exact ⟨⟨h1, by omega, hne⟩, by show deps (gParts ns ls) + 1 ≤ 5; omega, by show nls (gParts ns ls) ≤ 6; omega⟩
    · exact ⟨⟨h1, by omega⟩, by show deps (gParts ns ls) + 1 ≤ 5; omega, by show nls (gParts ns ls) ≤ 6; omega⟩
  have c1 := mod_lo (cell ns 2 / 12) (n := 3) (by decide)
  have c2 := mod_hi (cell ns 2 / 12) (n := 3) (by decide)
  have hc : cell ns 2 / 12 % 3 = 0 ∨ cell ns 2 / 12 % 3 = 1 ∨ cell ns 2 / 12 % 3 = 2 := by omega
  unfold gWhole
  rcases hc with e | e | e
  · rw [e]
    exact ⟨b.1, by show dep (gBoth ns ls) ≤ 6; omega, b.2.2, h5⟩
  · rw [e]
    exact ⟨b.1, by show dep (gBoth ns ls) + 1 ≤ 6; omega, b.2.2, h5⟩
  · rw [e]
    exact ⟨b.1, by show dep (gBoth ns ls) + 1 ≤ 6; omega, b.2.2, h5⟩
theorem first_lt {ls : List (List Nat)} (h : LetOk ls) {i : Nat} (hi : i < ls.length) : (ls.getD i []).getD 0 0 < 128 ∧ (ls.getD i [])[0]? = some ((ls.getD i []).getD 0 0) := by
  have hg : ls.getD i [] ∈ ls := by
    rw [List.getD_eq_getElem?_getD, List.getElem?_eq_getElem hi]
    exact List.getElem_mem _
  have h1 := (h.it _ hg).1
  have h2 : (ls.getD i [])[0]? = some ((ls.getD i []).getD 0 0) := by
    rw [List.getD_eq_getElem?_getD (l := ls.getD i []), List.getElem?_eq_getElem (by omega)]
    rfl
  exact ⟨h.lt _ hg _ (List.mem_of_getElem? h2), h2⟩
theorem longBy_ok {ls : List (List Nat)} (hu : LetU ls) (hl : 4 ≤ ls.length) (ns : List Int) : PsOk (longBy ns ls) := by
  obtain ⟨w1, w2, w3, _⟩ := gWhole_ok hu hl ns
  have s1 : Wf (gShort ls) := word_wf (fun c hc => by
    rcases List.mem_cons.mp hc with rfl | hc
    · exact (first_lt hu.ok (by omega)).1
    · rw [List.mem_singleton.mp hc]
      exact (first_lt hu.ok (by omega)).1) (by show 2 ≤ 1000; decide)
  have s2 : dep (gShort ls) ≤ 2 := word_dep _
  have s3 : nl (gShort ls) = 2 := word_nl _
  have b1 := mod_lo (cell ns 2 / 36) (n := 2) (by decide)
  have b2 := mod_hi (cell ns 2 / 36) (n := 2) (by decide)
  have c1 := mod_lo (cell ns 2 / 72) (n := 2) (by decide)
  have c2 := mod_hi (cell ns 2 / 72) (n := 2) (by decide)
  have one : PsOk [gWhole ns ls] := ⟨⟨w1, trivial⟩, Nat.le_refl _, by show 1 ≤ 8; decide, by show nl (gWhole ns ls) + 0 ≤ 60; omega, by show max (dep (gWhole ns ls)) 0 ≤ 30; omega⟩
  have two : ∀ {p q : Pat}, Wf p → Wf q → nl p + nl q ≤ 60 → dep p ≤ 30 → dep q ≤ 30 → PsOk [p, q] := fun {p q} h1 h2 h3 h4 h5 => ⟨⟨h1, h2, trivial⟩, by show 1 ≤ 2; decide, by show 2 ≤ 8; decide, by show nl p + (nl q + 0) ≤ 60; omega, by show max (dep p) (max (dep q) 0) ≤ 30; omega⟩
  have hc : (cell ns 2 / 36 % 2 * 2 + cell ns 2 / 72 % 2) = 0 ∨ (cell ns 2 / 36 % 2 * 2 + cell ns 2 / 72 % 2) = 1 ∨ (cell ns 2 / 36 % 2 * 2 + cell ns 2 / 72 % 2) = 2 ∨ (cell ns 2 / 36 % 2 * 2 + cell ns 2 / 72 % 2) = 3 := by omega
  unfold longBy
  rcases hc with e | e | e | e
  · rw [e]
    exact one
  · rw [e]
    exact one
  · rw [e]
    exact two s1 w1 (by omega) (by omega) (by omega)
  · rw [e]
    exact two w1 s1 (by omega) (by omega) (by omega)
/-! all ways -/
def drawnBy (cap : Bool) (ns : List Int) (ls : List (List Nat)) : List Pat :=
  match (grow cap ls (fun k => cell ns (2 + (k : Nat))) 6 12).1 with
  | [] => [.one (ls.getD 0 [])]
  | p :: r => (p :: r).reverse
def patternsBy (m : Int) (cap : Bool) (ns : List Int) (ls : List (List Nat)) : List Pat :=
  if decide (cell ns 1 % 4 = 1) = true then wordsBy m ns else if decide (cell ns 1 % 4 = 3) = true then loopsBy cap ns ls else if decide (cell ns 1 % 8 = 4) = true then longBy ns ls else drawnBy cap ns ls
theorem letter_some {ls : List (List Nat)} (hu : LetU ls) {i : Nat} (hi : i < ls.length) : SomeOk (ls.getD i []) := by
  have hg : ls[i]? = some (ls.getD i []) := by rw [List.getD_eq_getElem?_getD, List.getElem?_eq_getElem hi]; rfl
  have hm := List.mem_of_getElem? hg
  have h1 := hu.ok.it _ hm
  have hn := hu.tk (i + 1)
  rw [flat_take hg] at hn
  refine ⟨fun z => ?_, (List.nodup_append.mp hn).2.1, by omega, hu.ok.lt _ hm⟩
  rw [z] at h1
  exact absurd h1.1 (by decide)
theorem drawnBy_ok {cap : Bool} {ls : List (List Nat)} (hu : LetU ls) (hl : 4 ≤ ls.length) (ns : List Int) : PsOk (drawnBy cap ns ls) := by
  have g := grow_ok (cap := cap) hu hl (cells := fun k => cell ns (2 + (k : Nat))) (room := 6) 12
  have g : GrOk (grow cap ls (fun k => cell ns (2 + (k : Nat))) 6 12).1 (grow cap ls (fun k => cell ns (2 + (k : Nat))) 6 12).2 12 6 := g
  unfold drawnBy
  cases e : (grow cap ls (fun k => cell ns (2 + (k : Nat))) 6 12).1 with
  | nil =>
    have s := letter_some hu (i := 0) (by omega)
    exact ⟨⟨s.wf, trivial⟩, Nat.le_refl _, by show 1 ≤ 8; decide, by show 1 + 0 ≤ 60; decide, by show max 1 0 ≤ 30; decide⟩
  | cons p r =>
    rw [e] at g
    have g5 := g.al
    have g4 := g.rm
    refine ⟨wfs_mem.mpr fun q hq => wfs_mem.mp g.wf q (List.mem_reverse.mp hq), by rw [List.length_reverse]; exact Nat.succ_le_succ (Nat.zero_le _), by rw [List.length_reverse]; exact g.ln, ?_, deps_le.mpr fun q hq => ?_⟩
    · show nls (p :: r).reverse ≤ 60
      rw [nls_rev]
      omega
    · have := deps_le.mp g.dp q (List.mem_reverse.mp hq)
      omega
theorem patternsBy_ok {m : Int} {cap : Bool} (h1 : 0 < m) (h2 : m ≤ 60) {ls : List (List Nat)} (hu : LetU ls) (hl : 4 ≤ ls.length) (ns : List Int) : PsOk (patternsBy m cap ns ls) := by
  unfold patternsBy
  split
  · exact wordsBy_ok h1 h2 ns
  · split
    · exact loopsBy_ok hu hl ns
    · split
      · exact longBy_ok hu hl ns
      · exact drawnBy_ok hu hl ns
end Ab
namespace Ab
open PySem PySem.Spec PyProof.Rows L2
/-! ### the ends of a pattern's texts, as the law goes through it -/
def loopE (f : List Nat → List Nat) (once : Bool) : Nat → List Nat → List Nat → List Nat
  | 0, found, _ => found
  | n + 1, found, fresh => if fresh.isEmpty = true then found else if once = true then found ++ (f fresh).filter (fun j => !decide (j ∈ found)) else loopE f once n (found ++ (f fresh).filter (fun j => !decide (j ∈ found))) ((f fresh).filter (fun j => !decide (j ∈ found)))
mutual
def ends (s : List Nat) : Pat → List Nat → List Nat
  | .one cs, bs => (bs.filter fun i => decide (i < s.length) && decide (s.getD i 0 ∈ cs)).map (· + 1)
  | .row ps, bs => endsR s ps bs
  | .or ps, bs => endsO s ps bs []
  | .many p, bs => loopE (ends s p) false (s.length + 2) bs bs
  | .maybe p, bs => loopE (ends s p) true (s.length + 2) bs bs
def endsR (s : List Nat) : List Pat → List Nat → List Nat
  | [], bs => bs
  | p :: r, bs => endsR s r (ends s p bs)
def endsO (s : List Nat) : List Pat → List Nat → List Nat → List Nat
  | [], _, fd => fd
  | p :: r, bs, fd => endsO s r bs (fd ++ (ends s p bs).filter (fun j => !decide (j ∈ fd)))
end
structure EOk (s bs : List Nat) : Prop where
  nd : bs.Nodup
  le : ∀ i ∈ bs, i ≤ s.length
theorem nodup_few : ∀ (n : Nat) (l : List Nat), l.Nodup → (∀ x ∈ l, x < n) → l.length ≤ n
  | 0, l, _, h => by
    cases l with
    | nil => exact Nat.le_refl _
    | cons a r => exact absurd (h a List.mem_cons_self) (Nat.not_lt_zero _)
  | n + 1, l, hn, h => by
    by_cases z : n ∈ l
    · have h1 := nodup_few n (l.erase n) (hn.erase n) fun x hx => by
        have := (List.Nodup.mem_erase_iff hn).mp hx
        have := h x this.2
        omega
      rw [List.length_erase_of_mem z] at h1
      omega
    · have := nodup_few n l hn fun x hx => by
        have h2 := h x hx
        have : x ≠ n := fun e => z (e ▸ hx)
        omega
      omega
theorem EOk.len {s bs : List Nat} (h : EOk s bs) : bs.length ≤ s.length + 1 := nodup_few _ _ h.nd fun x hx => Nat.lt_succ_of_le (h.le x hx)
theorem EOk.add {s fd xs : List Nat} (h : EOk s fd) (g : EOk s xs) : EOk s (fd ++ xs.filter (fun j => !decide (j ∈ fd))) := by
  refine ⟨List.nodup_append.mpr ⟨h.nd, g.nd.sublist List.filter_sublist, fun a ha b hb e => ?_⟩, fun i hi => ?_⟩
  · subst e
    have := (List.mem_filter.mp hb).2
    rw [decide_eq_true ha] at this
    cases this
  · rcases List.mem_append.mp hi with hi | hi
    · exact h.le i hi
    · exact g.le i (List.mem_filter.mp hi).1
theorem mem_add {fd xs : List Nat} {j : Nat} : j ∈ fd ++ xs.filter (fun j => !decide (j ∈ fd)) ↔ j ∈ fd ∨ j ∈ xs := by
  rw [List.mem_append, List.mem_filter]
  constructor
  · rintro (h | ⟨h, _⟩)
    · exact .inl h
    · exact .inr h
  · rintro (h | h)
    · exact .inl h
    · by_cases z : j ∈ fd
      · exact .inl z
      · exact .inr ⟨h, by rw [decide_eq_false z]; rfl⟩
/-- what is asked of a way from begins to ends -/
def Goes (s : List Nat) (f : List Nat → List Nat) (X : List Nat → Prop) : Prop := ∀ bs, EOk s bs → EOk s (f bs) ∧ ∀ j, j ∈ f bs ↔ ∃ i, i ∈ bs ∧ i ≤ j ∧ j ≤ s.length ∧ X (sub s i j)
/-- how many turns are left at most -/
def fuelE (s found fresh : List Nat) : Nat := (s.length + 1 - found.length) + (if fresh.isEmpty = true then 0 else 1)
theorem fuel_next {s found fresh xs : List Nat} (h1 : EOk s found) (h2 : EOk s xs) (hne : ¬ fresh.isEmpty = true) {n : Nat} (hf : fuelE s found fresh ≤ n + 1) : fuelE s (found ++ xs.filter (fun j => !decide (j ∈ found))) (xs.filter (fun j => !decide (j ∈ found))) ≤ n := by
  have hl := (h1.add h2).len
  unfold fuelE at hf ⊢
  rw [if_neg hne] at hf
  rw [List.length_append] at hl ⊢
  cases e : xs.filter (fun j => !decide (j ∈ found)) with
  | nil =>
    show s.length + 1 - (found.length + 0) + 0 ≤ n
    omega
  | cons a r =>
    rw [e] at hl
    have hl : found.length + (r.length + 1) ≤ s.length + 1 := hl
    show s.length + 1 - (found.length + (r.length + 1)) + 1 ≤ n
    omega
theorem loop_ok {s : List Nat} {f : List Nat → List Nat} {X : List Nat → Prop} (hf : Goes s f X) {bs : List Nat} : ∀ (n : Nat) (found fresh : List Nat), EOk s found → EOk s fresh → (∀ i ∈ fresh, i ∈ found) → fuelE s found fresh ≤ n →
    (∀ i ∈ bs, i ∈ found) → (∀ j ∈ found, ∃ i, i ∈ bs ∧ i ≤ j ∧ Star X (sub s i j)) → (∀ i ∈ found, i ∉ fresh → ∀ j, i ≤ j → j ≤ s.length → X (sub s i j) → j ∈ found) →
    EOk s (loopE f false n found fresh) ∧ ∀ j, j ∈ loopE f false n found fresh ↔ ∃ i, i ∈ bs ∧ i ≤ j ∧ j ≤ s.length ∧ Star X (sub s i j) := by
  have stop : ∀ (found : List Nat), EOk s found → (∀ i ∈ bs, i ∈ found) → (∀ j ∈ found, ∃ i, i ∈ bs ∧ i ≤ j ∧ Star X (sub s i j)) → (∀ i ∈ found, ∀ j, i ≤ j → j ≤ s.length → X (sub s i j) → j ∈ found) →
      EOk s found ∧ ∀ j, j ∈ found ↔ ∃ i, i ∈ bs ∧ i ≤ j ∧ j ≤ s.length ∧ Star X (sub s i j) := by
    intro found h1 h4 h5 h6
    refine ⟨h1, fun j => ⟨fun hj => ?_, ?_⟩⟩
    · obtain ⟨i, k1, k2, k3⟩ := h5 j hj
      exact ⟨i, k1, k2, h1.le j hj, k3⟩
    · rintro ⟨i, k1, k2, k3, k4⟩
      have gen : ∀ t, Star X t → ∀ i, i ≤ j → t = sub s i j → i ∈ found → j ∈ found := by
        intro t ht
        induction ht with
        | nil =>
          intro i hi e hm
          rcases Nat.lt_or_ge i j with z | z
          · exact absurd e.symm (sub_ne k3 z)
          · have : i = j := by omega
            exact this ▸ hm
        | cons g1 g2 g3 ih =>
          intro i hi e hm
          obtain ⟨m, m1, m2, rfl, rfl⟩ := sub_split k3 hi e.symm
          exact ih m m2 rfl (h6 i hm m m1 (by omega) g1)
      exact gen _ k4 i k2 rfl (h4 i k1)
  intro n
  induction n with
  | zero =>
    intro found fresh h1 h2 h3 hfu h4 h5 h6
    have he : fresh = [] := by
      unfold fuelE at hfu
      cases fresh with
      | nil => rfl
      | cons a r =>
        have hfu : (s.length + 1 - found.length) + 1 ≤ 0 := hfu
        omega
    subst he
    exact stop found h1 h4 h5 fun i hi => h6 i hi (by simp)
  | succ n ih =>
    intro found fresh h1 h2 h3 hfu h4 h5 h6
    unfold loopE
    by_cases he : fresh.isEmpty = true
    · rw [if_pos he]
      have he : fresh = [] := List.isEmpty_iff.mp he
      subst he
      exact stop found h1 h4 h5 fun i hi => h6 i hi (by simp)
    · rw [if_neg he, if_neg (by decide)]
      obtain ⟨g1, g2⟩ := hf fresh h2
      have h1' := h1.add g1
      refine ih _ _ h1' ⟨g1.nd.sublist List.filter_sublist, fun i hi => g1.le i (List.mem_filter.mp hi).1⟩ (fun i hi => List.mem_append_right _ hi) (fuel_next h1 g1 he hfu) (fun i hi => List.mem_append_left _ (h4 i hi)) (fun j hj => ?_) (fun i hi hn j k1 k2 k3 => ?_)
      · rcases mem_add.mp hj with hj | hj
        · exact h5 j hj
        · obtain ⟨i, k1, k2, k3, k4⟩ := (g2 j).mp hj
          obtain ⟨b, m1, m2, m3⟩ := h5 i (h3 i k1)
          refine ⟨b, m1, by omega, ?_⟩
          rcases Nat.lt_or_ge i j with z | z
          · rw [sub_app m2 k2]
            exact star_snoc m3 k4 (sub_ne k3 z)
          · have : i = j := by omega
            exact this ▸ m3
      · have hif : i ∈ found := by
          rcases List.mem_append.mp hi with hi | hi
          · exact hi
          · exact absurd hi hn
        by_cases hfr : i ∈ fresh
        · exact mem_add.mpr (.inr ((g2 j).mpr ⟨i, hfr, k1, k2, k3⟩))
        · exact mem_add.mpr (.inl (h6 i hif hfr j k1 k2 k3))
theorem once_ok {s : List Nat} {f : List Nat → List Nat} {X : List Nat → Prop} (hf : Goes s f X) {bs : List Nat} (h : EOk s bs) (n : Nat) : EOk s (loopE f true (n + 1) bs bs) ∧ ∀ j, j ∈ loopE f true (n + 1) bs bs ↔ j ∈ bs ∨ j ∈ f bs := by
  obtain ⟨g1, g2⟩ := hf bs h
  unfold loopE
  by_cases he : bs.isEmpty = true
  · rw [if_pos he]
    have he : bs = [] := List.isEmpty_iff.mp he
    subst he
    refine ⟨h, fun j => ⟨.inl, fun z => z.elim id fun z => ?_⟩⟩
    obtain ⟨i, hi, _⟩ := (g2 j).mp z
    exact nomatch hi
  · rw [if_neg he, if_pos rfl]
    exact ⟨h.add g1, fun j => mem_add⟩
mutual
theorem ends_ok (s : List Nat) : ∀ p : Pat, Goes s (ends s p) (Tells p)
  | .one cs => fun bs h => by
    refine ⟨⟨?_, ?_⟩, fun j => ?_⟩
    · show ((bs.filter _).map (· + 1)).Nodup
      exact List.pairwise_map.mpr (List.Pairwise.imp (fun {a b} (hab : a ≠ b) => fun e => hab (Nat.succ.inj e)) (h.nd.sublist List.filter_sublist))
    · intro i hi
      obtain ⟨k, hk, rfl⟩ := List.mem_map.mp hi
      have := (List.mem_filter.mp hk).2
      rw [Bool.and_eq_true] at this
      exact of_decide_eq_true this.1
    · show j ∈ (bs.filter fun i => decide (i < s.length) && decide (s.getD i 0 ∈ cs)).map (· + 1) ↔ _
      constructor
      · intro hj
        obtain ⟨k, hk, rfl⟩ := List.mem_map.mp hj
        obtain ⟨h1, h2⟩ := List.mem_filter.mp hk
        rw [Bool.and_eq_true] at h2
        have h3 : k < s.length := of_decide_eq_true h2.1
        refine ⟨k, h1, Nat.le_succ _, h3, s.getD k 0, of_decide_eq_true h2.2, sub_one.mpr ?_⟩
        rw [List.getD_eq_getElem?_getD, List.getElem?_eq_getElem h3]
        rfl
      · rintro ⟨i, h1, h2, h3, c, h4, h5⟩
        have hl := sub_len (i := i) h3
        rw [h5] at hl
        have hl : 1 = j - i := hl
        have e : j = i + 1 := by omega
        subst e
        have hc := sub_one.mp h5
        refine List.mem_map.mpr ⟨i, List.mem_filter.mpr ⟨h1, ?_⟩, rfl⟩
        rw [List.getD_eq_getElem?_getD, hc, decide_eq_true (show i < s.length from h3)]
        show (true && decide (c ∈ cs)) = true
        rw [decide_eq_true h4]
        rfl
  | .row ps => endsR_ok s ps
  | .or ps => fun bs h => by
    obtain ⟨h1, h2⟩ := endsO_ok s ps bs [] h ⟨List.nodup_nil, fun i hi => nomatch hi⟩
    refine ⟨h1, fun j => (h2 j).trans ⟨fun z => z.elim (fun z => nomatch z) id, .inr⟩⟩
  | .many p => fun bs h => by
    have hp := ends_ok s p
    refine loop_ok hp (s.length + 2) bs bs h h (fun i hi => hi) ?_ (fun i hi => hi) (fun j hj => ⟨j, hj, Nat.le_refl _, by rw [sub_self]; exact .nil⟩) (fun i hi hn => absurd hi hn)
    unfold fuelE
    split <;> omega
  | .maybe p => fun bs h => by
    have hp := ends_ok s p
    obtain ⟨h1, h2⟩ := once_ok hp h (s.length + 1)
    refine ⟨h1, fun j => (h2 j).trans ?_⟩
    constructor
    · rintro (hj | hj)
      · exact ⟨j, hj, Nat.le_refl _, h.le j hj, .inl (sub_self s j)⟩
      · obtain ⟨i, k1, k2, k3, k4⟩ := ((hp bs h).2 j).mp hj
        exact ⟨i, k1, k2, k3, .inr k4⟩
    · rintro ⟨i, k1, k2, k3, k4 | k4⟩
      · rcases Nat.lt_or_ge i j with z | z
        · exact absurd k4 (sub_ne k3 z)
        · have : i = j := by omega
          exact .inl (this ▸ k1)
      · exact .inr (((hp bs h).2 j).mpr ⟨i, k1, k2, k3, k4⟩)
theorem endsR_ok (s : List Nat) : ∀ ps : List Pat, Goes s (endsR s ps) (TellsR ps)
  | [] => fun bs h => by
    refine ⟨h, fun j => ⟨fun hj => ⟨j, hj, Nat.le_refl _, h.le j hj, sub_self s j⟩, ?_⟩⟩
    rintro ⟨i, k1, k2, k3, k4⟩
    have k4 : sub s i j = [] := k4
    rcases Nat.lt_or_ge i j with z | z
    · exact absurd k4 (sub_ne k3 z)
    · have : i = j := by omega
      exact this ▸ k1
  | p :: r => fun bs h => by
    obtain ⟨h1, h2⟩ := ends_ok s p bs h
    obtain ⟨h3, h4⟩ := endsR_ok s r _ h1
    refine ⟨h3, fun j => (h4 j).trans ?_⟩
    constructor
    · rintro ⟨m, k1, k2, k3, k4⟩
      obtain ⟨i, m1, m2, m3, m4⟩ := (h2 m).mp k1
      exact ⟨i, m1, by omega, k3, _, _, sub_app m2 k2, m4, k4⟩
    · rintro ⟨i, k1, k2, k3, u, v, k4, k5, k6⟩
      obtain ⟨m, m1, m2, rfl, rfl⟩ := sub_split k3 k2 k4
      exact ⟨m, (h2 m).mpr ⟨i, k1, m1, by omega, k5⟩, m2, k3, k6⟩
theorem endsO_ok (s : List Nat) : ∀ (ps : List Pat) (bs fd : List Nat), EOk s bs → EOk s fd → EOk s (endsO s ps bs fd) ∧ ∀ j, j ∈ endsO s ps bs fd ↔ j ∈ fd ∨ ∃ i, i ∈ bs ∧ i ≤ j ∧ j ≤ s.length ∧ TellsO ps (sub s i j)
  | [], bs, fd, h, g => ⟨g, fun j => ⟨.inl, fun z => z.elim id fun ⟨_, _, _, _, z⟩ => z.elim⟩⟩
  | p :: r, bs, fd, h, g => by
    obtain ⟨h1, h2⟩ := ends_ok s p bs h
    obtain ⟨h3, h4⟩ := endsO_ok s r bs _ h (g.add h1)
    refine ⟨h3, fun j => (h4 j).trans ?_⟩
    rw [mem_add, h2 j]
    constructor
    · rintro ((z | ⟨i, k1, k2, k3, k4⟩) | ⟨i, k1, k2, k3, k4⟩)
      · exact .inl z
      · exact .inr ⟨i, k1, k2, k3, .inl k4⟩
      · exact .inr ⟨i, k1, k2, k3, .inr k4⟩
    · rintro (z | ⟨i, k1, k2, k3, k4 | k4⟩)
      · exact .inl (.inl z)
      · exact .inl (.inr ⟨i, k1, k2, k3, k4⟩)
      · exact .inr ⟨i, k1, k2, k3, k4⟩
end
theorem EOk.zero (s : List Nat) : EOk s [0] := ⟨List.nodup_cons.mpr ⟨by simp, List.nodup_nil⟩, fun i hi => by rw [List.mem_singleton.mp hi]; exact Nat.zero_le _⟩
theorem ends_tells (s : List Nat) (p : Pat) : s.length ∈ ends s p [0] ↔ Tells p s := by
  rw [(ends_ok s p [0] (EOk.zero s)).2]
  constructor
  · rintro ⟨i, h1, _, _, h2⟩
    rw [List.mem_singleton.mp h1, sub_all] at h2
    exact h2
  · intro h
    exact ⟨0, List.mem_singleton.mpr rfl, Nat.zero_le _, Nat.le_refl _, by rw [sub_all]; exact h⟩
end Ab
namespace Ab
open PySem PySem.Spec PyProof.Rows L2
section
variable {K : PySem.W.Frag} {w : Nat} {D : AEnds} {e : Env}
/-- what stands behind, by what holds there -/
theorem as_seqQ {t u : TS} (Q : Env → Prop) (h : AS K w t ⟨Q, D.rt, D.bk, D.ct⟩ e) (h2 : ∀ e', Q e' → AS K w u D e') : AS K w (tSeq t u) D e :=
  as_seq (AS.ends h h2 (fun _ _ q => q) (fun _ q => q) fun _ q => q)
end
end Ab
namespace Ab
open PySem PySem.Spec PyProof.Rows L2
/-! ### text * number -/
theorem foldl_cps (c : Array Nat) : ∀ (m : Nat) (a : Array Nat), (List.replicate m c).foldl (· ++ ·) a = ⟨a.toList ++ (List.replicate m c.toList).flatten⟩
  | 0, a => by
    show a = _
    rw [List.replicate_zero, List.flatten_nil, List.append_nil]
  | m + 1, a => by
    rw [List.replicate_succ, List.foldl_cons, foldl_cps c m, List.replicate_succ, List.flatten_cons, Array.toList_append, List.append_assoc]
abbrev rMulS : R2 := fun x y H Q => ∃ (s : List Nat) (k : Int), x = .str (sOf s) ∧ y = .int k ∧ 2 ≤ k ∧ k ≤ 1000 ∧ s.length ≤ 1000 ∧ Q (.str (sOf (List.replicate k.toNat s).flatten)) H
theorem op_mulS {X : Cx} : OpR X (binaryOp .Mult) rMulS := by
  intro pins s σ H x y v u Q I rx ry h
  obtain ⟨a, k, rfl, rfl, h1, h2, hz, q⟩ := h
  obtain ⟨t, rfl⟩ := rx
  obtain ⟨t', rfl⟩ := ry
  have hlen : (sOf a).length = a.length := sOf_len a
  refine PySem.P.mul_str (by rw [decide_eq_false (by omega), decide_eq_false (by omega)]; rfl) (fun _ _ => ?_) (fun _ _ => ?_) ?_
  · rw [hlen]
    have h5 : (1000 : Int) ≤ (2 ^ 63 - 1) / k := by
      rw [Int.le_ediv_iff_mul_le (by omega)]
      omega
    omega
  · unfold Builtin.Str.tooLong
    rw [hlen]
    have a1 : a.length * k.toNat ≤ 1000 * 1000 := Nat.mul_le_mul hz (by omega)
    exact decide_eq_false (by rw [PySem.sizeLine_eq]; omega)
  · rw [if_neg (by omega)]
    split
    · rename_i e
      have e : (k == 1 || (sOf a).length == 0) = true := e
      rw [beq_eq_false_iff_ne.mpr (by omega : k ≠ 1), Bool.false_or, hlen] at e
      have e0 : a = [] := List.eq_nil_of_length_eq_zero (eq_of_beq e)
      subst e0
      have : (List.replicate k.toNat ([] : List Nat)).flatten = [] := by
        induction k.toNat with
        | zero => rfl
        | succ n ih => rw [List.replicate_succ, List.flatten_cons, ih]; rfl
      rw [this] at q
      exact ⟨.str (sOf []), H, I, ⟨_, rfl⟩, q⟩
    · have e : (List.replicate k.toNat (sOf a).cps).foldl (· ++ ·) #[] = (⟨(List.replicate k.toNat a).flatten⟩ : Array Nat) := by
        rw [foldl_cps]
        rfl
      rw [e]
      refine ⟨?_, .str (sOf (List.replicate k.toNat a).flatten), H, I.tok _, ⟨_, rfl⟩, q⟩
      show (sOf (List.replicate k.toNat a).flatten).length ≤ sizeLine
      rw [sOf_len, List.length_flatten, List.map_replicate, List.sum_replicate_nat, PySem.sizeLine_eq]
      have a1 : k.toNat * a.length ≤ 1000 * 1000 := Nat.mul_le_mul (by omega) hz
      omega
section
variable {K : PySem.W.Frag} {e : Env} {ta tb te : TE} {a : A} {Q : A → Env → Prop}
/-- an operator whose right side has effects -/
theorem ax_opR {r : R2} (ha : AE K ta e a) (h : AX K tb e fun b e' => ∃ z, A2 K r a b e' z ∧ Q z e') : AX K (tOp r ta tb) e Q := fun B σ G H ad R C c =>
  ha B σ G H ad R _ fun v G1 H1 X1 r1 => h B σ G1 H1 ad (R.ext X1) _ fun b e' w G2 H2 ad2 ⟨z, hz, q⟩ s2 p2 R2 r2 =>
    hz B σ G2 H2 ad2 R2 v w ((r1.mono s2).pre p2) r2 C fun u G3 H3 X3 r3 => c z e' u G3 H3 ad2 q ((X1.gg.trans s2).trans X3.gg) p2 (R2.ext X3) r3
theorem a2_mulS {s : List Nat} {k : Int} (h1 : 2 ≤ k) (h2 : k ≤ 1000) (hz : s.length ≤ 1000) : A2 K rMulS (.d (.str s)) (.d (.int k)) e (.d (.str (List.replicate k.toNat s).flatten)) := fun B σ G H ad R v w rv rw C c => by
  cases rv
  cases rw
  exact ⟨s, k, rfl, rfl, h1, h2, hz, c _ G H (Xt.refl R.gh) RD.str⟩
end
end Ab
/-! ### sorted(set(a text)) -/
namespace SetS
open PySem PySem.Spec PyProof.Rows PySem.Froz L2
/-- the text that a value is -/
def txOf : Value → Str
  | .str x _ => x
  | _ => Str.empty
theorem str_of {k : Str} {v : Value} (h : Value.isStrOf k v = true) : ∃ u, v = .str k u := by
  cases v with
  | str x u =>
    have : x = k := by simpa [Value.isStrOf] using h
    exact ⟨u, by rw [this]⟩
  | _ => simp [Value.isStrOf] at h
/-- the payload holds the texts l, each once, and can be walked -/
structure Good (P : Program) (w : World) (D : SD) (l : List Str) : Prop where
  ok : TxOk P w D l
  nd : l.Nodup
  pm : (D.1.toList.map fun e => txOf e.2).Perm l
  ris : L2.Ris D.2.2.place.toList
  led : w.params.followText "set-order" = true ∨ D.2.2.led = true
section
variable {P : Program} {w : World} {A : Around} {E : Value → Shared → Prop} {s : Shared}
theorem Good.zero : Good P w (#[], 0, .fresh 0 0 (!w.params.followText "set-order")) [] where
  ok := TxOk.nil (by rfl)
  nd := List.nodup_nil
  pm := List.Perm.refl _
  ris := List.Pairwise.nil
  led := by
    show _ ∨ (!w.params.followText "set-order") = true
    cases w.params.followText "set-order" with
    | true => exact .inl rfl
    | false => exact .inr rfl
theorem tail_pm (ep : Nat) (es : Array (Int × Value)) (t : SetTable) (d : Bool) : (tailTx ep es t d).1.toList.Perm es.toList := by
  unfold tailTx
  split
  · exact relayAll_perm t es _
  · exact List.Perm.refl _
theorem tail_ris {ep : Nat} {es : Array (Int × Value)} {t : SetTable} {d : Bool} (h : L2.Ris t.place.toList) : L2.Ris (tailTx ep es t d).2.2.place.toList := by
  unfold tailTx
  split
  · exact relayAll_ris t es _
  · exact h
theorem tail_led (ep : Nat) (es : Array (Int × Value)) (t : SetTable) (d : Bool) : (tailTx ep es t d).2.2.led = t.led := by
  unfold tailTx
  split
  · exact relayAll_led t es _
  · rfl
theorem Good.add {D : SD} {l : List Str} {k : Str} (u : Tok) (g : Good P w D l) (hk : k ∉ l) : Good P w (addTx (hashStr w k) (.str k u) D) (k :: l) where
  ok := add_ok u g.ok
  nd := List.nodup_cons.mpr ⟨hk, g.nd⟩
  pm := by
    have p1 := layNew_perm D.2.2 D.1 (hashStr w k) (.str k u)
    rw [Array.toList_push] at p1
    have p2 := ((tail_pm D.2.1 _ (if (layNew D.2.2 D.1 (hashStr w k) (.str k u)).2.1.plain = true then { (layNew D.2.2 D.1 (hashStr w k) (.str k u)).2.1 with plain := false } else (layNew D.2.2 D.1 (hashStr w k) (.str k u)).2.1) (layNew D.2.2 D.1 (hashStr w k) (.str k u)).2.2.1).trans p1).map fun e => txOf e.2
    rw [List.map_append] at p2
    exact (p2.trans (List.perm_append_comm)).trans (g.pm.cons k)
  ris := tail_ris (by
    have := layNew_ris D.2.2 D.1 (hashStr w k) (.str k u) g.ris
    split <;> exact this)
  led := g.led.imp id fun z => by
    have := layNew_led D.2.2 D.1 (hashStr w k) (.str k u)
    show (tailTx _ _ _ _).2.2.led = true
    rw [tail_led]
    split <;> exact this.trans z
/-- a text that is there -/
theorem old_x {a : Addr} {T : String} {D : SD} {l : List Str} {k : Str} {u : Tok} {Q : Bool → Shared → Prop} (h0 : s.heap.get? a = some (sObj T D)) (F : TxOk P w D l) (hk : k ∈ l) (hb : l.length < scanBound) (q : Q false s) :
    wpAny (model P w) A (setAddHashed a (.str k u) (hashStr w k)) Q E s := by
  obtain ⟨el, ep, t⟩ := D
  obtain ⟨j, hj⟩ : ∃ j, List.findIdx? (fun e => (PySem.strKind P w).is k e.2) el.toList = some j := by
    cases z : List.findIdx? (fun e => (PySem.strKind P w).is k e.2) el.toList with
    | some j => exact ⟨j, rfl⟩
    | none =>
      obtain ⟨e, he, h1⟩ := (F.mem k).mp hk
      have h2 := List.findIdx?_eq_none_iff.mp z e he
      rw [h1] at h2
      cases h2
  have hsz : el.size = l.length := F.sz
  unfold setAddHashed setAddHashedIn
  refine wpAny_holding (wpAny_bind (wpAny_setState_of h0 rfl F.fit ?_)); dsimp only
  rw [byScan_of rfl (by rw [show (el, ep, t).1.size = l.length from F.sz]; exact hb) F.el]; simp only [↓reduceIte]; unfold setAddByScan
  refine wpAny_bind (wpAny_bind (wpAny_rule (wpAny_bind (wpAny_setScan_of (knd := PySem.strKind P w) (k := k) (is_str k u) h0 rfl F.fit F.el ?_))))
  rw [hj]; dsimp only
  exact wpAny_pure (wpAny_pure q)
theorem add_any {a : Addr} {T : String} {D : SD} {l : List Str} {k : Str} {u : Tok} {Q : Bool → Shared → Prop} (h0 : s.heap.get? a = some (sObj T D)) (g : Good P w D l) (hb : l.length + 1 < scanBound)
    (q : ∀ b h' D' l', Heap.SameBut a s.heap h' → h'.get? a = some (sObj T D') → Good P w D' l' → l'.length ≤ l.length + 1 → (∀ x, x ∈ l' ↔ x ∈ l ∨ x = k) → Q b { s with heap := h' }) :
    wpAny (model P w) A (setAddHashed a (.str k u) (hashStr w k)) Q E s := by
  by_cases hk : k ∈ l
  · exact old_x h0 g.ok hk (by omega) (q false s.heap D l (Heap.SameBut.refl a s.heap) h0 g (Nat.le_succ _) fun x => ⟨.inl, fun z => z.elim id fun z => z ▸ hk⟩)
  · refine add_x h0 g.ok hk hb (q true _ _ (k :: l) (Heap.SameBut.update s.heap a _) (get_upd _ h0 rfl) (g.add u hk) (Nat.le_refl _) fun x => ?_)
    rw [List.mem_cons]
    exact Or.comm
end
section
variable {prog : Program} {w : World} {A : Around} {R : Result → Shared → Prop} {I : Addr} {fp wr : List Addr} {G : Array GenState → Array GenState → Prop} {n : Nat} {Pi : Nat → Value → Prop} {St : Nat → Shared → Prop}
/-- the set at z holds the texts among the first i -/
def Has (prog : Program) (w : World) (val : Nat → Str) (z : Addr) (i : Nat) (h : Heap) : Prop := ∃ D l, h.get? z = some (sObj "set" D) ∧ Good prog w D l ∧ l.length ≤ i ∧ ∀ x, x ∈ l ↔ ∃ j, j < i ∧ val j = x
theorem fillS (W : WalksS prog w A.in1 I fp wr G n Pi St) (z : Addr) (hz : z ∉ fp) (val : Nat → Str) (hv : ∀ i v, Pi i v → ∃ u, v = .str (val i) u) (few : ∀ l : List Str, l.Nodup → (∀ x ∈ l, ∃ j, j < n ∧ val j = x) → l.length ≤ 3000) :
    ∀ (m i : Nat) (s : Shared), i + m = n → St i s → Has prog w val z i s.heap →
      (∀ t, Moved (z :: wr) G s t → Has prog w val z n t.heap → R (.ok (.ret .none)) t) →
      codeAny (model prog w) A (.builtin "set.update.loop" ⟨[.ref z, .ref I], []⟩) R s
  | 0, i, s, hm, st, S, k => by
    obtain rfl : i = n := by omega
    have zw : z ∉ wr := fun q => hz (W.sub _ q)
    refine codeAny_builtin PyProof.Rows.F.entry_set_update_loop ?_
    rw [Around.under_plainId PyProof.Rows.F.plain_set_update_loop _]
    show wpAny _ A.in1 (pyNext (.ref I) >>= _) _ _ s
    refine wpAny_bind (W.done s _ _ st fun t mv => ?_)
    obtain ⟨D, l, h0, more⟩ := S
    exact wpAny_pure (k t (mv.mono fun b q => List.mem_cons_of_mem _ q) ⟨D, l, mv.heap z _ zw h0, more⟩)
  | m + 1, i, s, hm, st, S, k => by
    have zw : z ∉ wr := fun q => hz (W.sub _ q)
    refine codeAny_builtin PyProof.Rows.F.entry_set_update_loop ?_
    rw [Around.under_plainId PyProof.Rows.F.plain_set_update_loop _]
    show wpAny _ A.in1 (pyNext (.ref I) >>= _) _ _ s
    refine wpAny_bind (W.item i s _ _ (by omega) st fun v t pv st' mv => ?_)
    obtain ⟨u, rfl⟩ := hv i v pv
    obtain ⟨D, l, h0, g, hl, hmem⟩ := S
    have h1 := mv.heap z _ zw h0
    show wpAny _ A.in1 (holding [Value.str (val i) u] (setAdd z (.str (val i) u)) >>= _) _ _ t
    refine wpAny_bind (wpAny_holding ?_)
    unfold setAdd
    refine wpAny_holding (wpAny_bind ((PySem.strKind prog w).pyHash (k := val i) (is_str _ _) ?_))
    have hfew := few l g.nd fun x hx => (by
      obtain ⟨j, c1, c2⟩ := (hmem x).mp hx
      exact ⟨j, by omega, c2⟩)
    refine add_any (s := { t with toks := t.toks + 1 }) h1 g (by unfold scanBound; omega) fun b h' D' l' sb h2 g2 hl2 hm2 => ?_
    refine wpAny_pure ⟨plainId_quiet PyProof.Rows.F.plain_set_update_loop _, fillS W z hz val hv few m (i + 1) _ (by omega) (W.frame _ t _ _ st' (Nat.le_succ _) fun b hb o e => ?_) ⟨D', l', h2, g2, by omega, fun x => ?_⟩ fun t2 mv2 S3 => ?_⟩
    · have nb : b ≠ z := fun q => hz (q ▸ hb)
      rw [sb.2 b nb]
      exact e
    · rw [hm2, hmem]
      constructor
      · rintro (⟨j, c1, c2⟩ | c)
        · exact ⟨j, by omega, c2⟩
        · exact ⟨i, by omega, c.symm⟩
      · rintro ⟨j, c1, c2⟩
        by_cases e : j = i
        · subst e
          exact .inr c2.symm
        · exact .inl ⟨j, by omega, c2⟩
    · refine k t2 (Moved.trans W.gtrans ((mv.mono fun b q => List.mem_cons_of_mem _ q).then_heap (Nat.le_succ _) fun b o hb e => ?_) mv2) S3
      have nb : b ≠ z := fun q => hb (q ▸ List.mem_cons_self)
      rw [sb.2 b nb]
      exact e
end
section
variable {prog : Program} {w : World} {A : Around} {E : Value → Shared → Prop} {s : Shared}
abbrev bareS (w : World) : Obj := sObj "set" (#[], 0, .fresh 0 0 (!w.params.followText "set-order"))
theorem code_newS (a : Value) {Q : Value → Shared → Prop} (h : Q (.ref s.heap.objs.size) { s with heap := s.heap.push (bareS w) }) :
    codeAny (model prog w) A (.call (.builtin "set.__new__") ⟨[.type "set", a], []⟩) (wants Q E) s := by
  refine codeAny_of_tree ?_; show wpAny _ A.in1 (do checkBuiltinCall "set.__new__" ⟨[.type "set", a], []⟩; again (.builtin "set.__new__" ⟨[.type "set", a], []⟩)) _ _ s
  refine wpAny_bind (wpAny_of_eq (PySem.F.newCall_set_1 a) (wpAny_pure ⟨plainId_quiet PySem.F.plain_set_new _, codeAny_builtin PySem.F.entry_set_new ?_⟩)); rw [Around.under_plainId PySem.F.plain_set_new _]
  unfold Builtin.«set.__new__» Builtin.Frozenset.newClass; have sb := sub_set_self
  obtain ⟨hp, gs, dr, tk, os⟩ := s; dsimp only; wp_walk
  refine wpAny_askSetting (wpAny_pure ?_); dsimp only; simp only [newObj]
  exact wpAny_bind (wpAny_alloc (wpAny_pure (wpAny_pure h)))
theorem call_setS {x : Str} {u : Tok} {Q : Value → Shared → Prop} (calm : A.handled = none) (few : ∀ l : List Str, l.Nodup → (∀ y ∈ l, ∃ j, j < x.cps.size ∧ SetT.sgnOf x j = y) → l.length ≤ 3000)
    (k : ∀ (h' : Heap) (tk : Nat), Has prog w (SetT.sgnOf x) s.heap.objs.size x.cps.size h' →
      (∀ b o, b < s.heap.objs.size → s.heap.get? b = some o → h'.get? b = some o) → Q (.ref s.heap.objs.size) { s with heap := h', toks := tk }) :
    wpAny (model prog w) A (call (.type "set") [.str x u]) Q E s := by
  obtain ⟨c0, tl0, hm0⟩ := PySem.F.called_set.mro
  have f1 := PySem.F.called_set.made
  have f2 := PySem.F.called_set.sub
  refine wpAny_call (codeAny_of_tree ?_)
  show wpAny _ _ (callAny (.type "set") _) _ _ _
  refine wpAny_pure ⟨Code.quiet_builtin _ (by decide +kernel), codeAny_builtin PySem.F.entry_type_call ?_⟩
  rw [Around.under_plain (weight_type_call_type "set" [.str x u] []) rfl]
  have f3 := PySem.F.called_set.notType
  have f4 := PySem.F.called_set.canCreate
  have f5 := PySem.F.typeCall_set_1 (.str x u)
  repeat (any_goals (first | assumption | wp_step))
  refine codeAny_mono (code_newS (.str x u) (E := E) (Q := fun ob t => ob = .ref s.heap.objs.size ∧ t = { s with heap := s.heap.push (bareS w) }) ⟨rfl, rfl⟩) fun r t hr => ?_
  match r, hr with
  | .error e, hr => exact hr
  | .ok (.ret ob), hr =>
    obtain ⟨rfl, rfl⟩ := hr
    have g0 : (s.heap.push (bareS w)).get? s.heap.objs.size = some (bareS w) := Heap.get?_push_size _ rfl
    have ty : Shared.TypeIs { s with heap := s.heap.push (bareS w) } (.ref s.heap.objs.size) "set" := ⟨_, g0, rfl⟩
    have f6 := PySem.F.called_set.init.lookup
    have f7 := PySem.F.called_set.init.bind (.ref s.heap.objs.size)
    repeat (any_goals (first | assumption | wp_step))
    refine codeAny_mono (codeAny_call_builtin (R := wants (fun r t2 => r = .none ∧ ∃ h' tk, t2 = { s with heap := h', toks := tk } ∧ Has prog w (SetT.sgnOf x) s.heap.objs.size x.cps.size h' ∧
        (∀ b o, b < s.heap.objs.size → s.heap.get? b = some o → h'.get? b = some o)) E) PySem.F.called_set.init.plain PySem.F.entry_set_init (check_set_init_1 ty ?_)) fun r2 t2 hr2 => ?_
    · have n1 := PySem.F.sub_str_set
      have n2 := PySem.F.sub_str_frozenset
      have n3 := PySem.F.sub_str_dict
      have n4 : (Value.type "str" == Value.type "dict") = false := by decide
      unfold Builtin.«set.__init__» noKeywords Builtin.Frozenset.updateFrom
      generalize hPI : pyIter = PI
      wp_walk
      subst hPI
      refine wpAny_pyIter_str fun it St hW st0 => ?_
      refine wpAny_bind (wpAny_runValue ?_)
      have cl3 : A.in1.in1.in1.handled = none := by simp [calm]
      have sz : (s.heap.push (bareS w)).objs.size = s.heap.objs.size + 1 := by rw [Heap.size_push]
      have zf : s.heap.objs.size ∉ [(s.heap.push (bareS w)).objs.size] := by
        rw [sz, List.mem_singleton]
        omega
      refine fillS ((hW _ cl3).toS) s.heap.objs.size zf (SetT.sgnOf x) (fun i v pv => ?_) few (x.cps.size - 0) 0 _ (by omega) st0 ?_ ?_
      · obtain ⟨ch, t3, e1, rfl⟩ := pv
        refine ⟨t3, ?_⟩
        have e2 : SetT.sgnOf x i = ⟨#[ch]⟩ := by
          unfold SetT.sgnOf
          rw [Array.getD_eq_getD_getElem?, e1]
          rfl
        rw [e2]
      · exact ⟨_, [], Heap.get?_push_of_some it g0, Good.zero, Nat.le_refl _, fun y => ⟨fun z => (nomatch z), fun ⟨j, z, _⟩ => absurd z (Nat.not_lt_zero _)⟩⟩
      · intro t3 mv S3
        obtain ⟨hp, gs, dr, tk, os⟩ := t3
        obtain rfl : gs = s.gens := mv.gens
        obtain rfl : dr = s.drawn := mv.drawn
        obtain rfl : os = s.os := mv.os
        show wpAny _ _ _ _ _ _
        refine wpAny_pure ?_
        show wpAny _ _ (ret Value.none) _ _ _
        refine wpAny_pure ⟨rfl, hp, tk, rfl, S3, fun b o hb e => ?_⟩
        refine mv.heap b o ?_ (Heap.get?_push_of_some _ (Heap.get?_push_of_some _ e))
        have q1 : b ≠ s.heap.objs.size := Nat.ne_of_lt hb
        have q2 : b ≠ s.heap.objs.size + 1 := by omega
        rw [sz]
        simp [q1, q2]
    · match r2, hr2 with
      | .error e, hr2 => exact hr2
      | .ok (.ret q), hr2 =>
        obtain ⟨rfl, h', tk, rfl, S', kp⟩ := hr2
        repeat (any_goals (first | assumption | wp_step))
        exact k _ _ S' kp
      | .ok .next, hr2 => exact hr2.elim
      | .ok .brk, hr2 => exact hr2.elim
      | .ok .cont, hr2 => exact hr2.elim
  | .ok .next, hr => exact hr.elim
  | .ok .brk, hr => exact hr.elim
  | .ok .cont, hr => exact hr.elim
end
end SetS
namespace SetS
open PySem PySem.Spec PyProof.Rows PySem.Froz L2
section
variable {prog : Program} {w : World} {A : Around} {E : Value → Shared → Prop} {s : Shared}
theorem strs_map : ∀ {vs : List Value}, (∀ v ∈ vs, ∃ k u, v = Value.str k u) → StrsAre vs (vs.map txOf)
  | [], _ => .nil
  | v :: r, h => by
    obtain ⟨k, u, rfl⟩ := h v List.mem_cons_self
    exact .cons k u (strs_map fun x hx => h x (List.mem_cons_of_mem _ hx))
theorem sorted_setS {a : Addr} {D : SD} {l : List Str} {Q : Value → Shared → Prop} (h0 : s.heap.get? a = some (sObj "set" D)) (g : Good prog w D l) (hh : A.handled = none) (hz : l.length ≤ 4000)
    (q : ∀ s' p (out : Array Value) (c : Nat) (ss : List Str), (∀ b o, s.heap.get? b = some o → s'.heap.get? b = some o) → s'.gens = s.gens → s'.os = s.os → s.heap.objs.size ≤ p →
      s'.heap.get? p = some (seqObj "list" out c) → StrsAre out.toList ss → ss.Perm l → sortedS ss = true → Q (.ref p) s') :
    wpAny (model prog w) A (call (.builtin "sorted") [.ref a]) Q E s := by
  have hsz : D.1.size = l.length := g.ok.sz
  refine Calls.call_function_entry kind_sorted plain_sorted entry_sorted (args_sorted1 _) ?_; unfold Builtin.«sorted»
  refine wpAny_bind (m := checkCount "sorted" 1 1 _) (wpAny_pure (wpAny_bind (collect_set (A := A.in1) hh ⟨_, h0, rfl, rfl⟩ g.ok.fit (by rw [hsz]; unfold scanBound; omega) g.ris g.led fun s1 vs k1 hz1 g1 o1 pm => ?_)))
  have hvl : vs.length = l.length := by rw [pm.length_eq, List.length_map, Array.length_toList]; exact hsz
  have hS : StrsAre vs (vs.map txOf) := strs_map fun v hv => by
    obtain ⟨e, he, rfl⟩ := List.mem_map.mp (pm.mem_iff.mp hv)
    obtain ⟨⟨k, hk, _⟩, _⟩ := g.ok.el e he
    obtain ⟨u, hu⟩ := str_of hk
    exact ⟨k, u, hu⟩
  have hp1 : (vs.map txOf).Perm l := by
    have := pm.map txOf
    rw [List.map_map] at this
    exact this.trans g.pm
  have hfit : vs.length ≤ sizeLine := by rw [hvl, PySem.sizeLine_eq]; omega
  refine wpAny_bind (wpAny_newList ?_ hfit)
  have hoL : (s1.heap.push (seqObj "list" vs.toArray 0)).get? s1.heap.objs.size = some (seqObj "list" vs.toArray 0) := Heap.get?_push_size _ rfl
  refine wpAny_bind (wpAny_holding (wpAny_call_entry slot_list_sort ⟨_, hoL, rfl⟩ entry_list_sort (list_sort_treeKAny PyProof.Rows.strKind_oneLt hoL hS.keysOf (fun v1 v2 rest e => keyKind_strs (by rw [← e]; exact hS)) hfit fun st hp hs => ⟨_, rfl, ?_⟩) (args_list_sort _)))
  obtain ⟨ss, a1, a2, a3⟩ := sorted_out_str hS hp hs
  obtain ⟨c, hc⟩ := PyProof.Rows.sortedHeap_at (vs := vs) (out := (arrOf st).map (·.2)) hoL
  refine wpAny_pure ⟨_, rfl, q _ s1.heap.objs.size _ c ss (fun b u e => ?_) g1 o1 hz1 hc a1 (a2.trans hp1) a3⟩
  have e1 := k1 b u e
  have hlt := Heap.lt_size e1
  show (PyProof.Rows.sortedHeap (s1.heap.push (seqObj "list" vs.toArray 0)) s1.heap.objs.size vs _).get? b = some u
  rw [PyProof.Rows.sortedHeap_old (Nat.ne_of_lt hlt) (by rw [size_push']; exact Nat.lt_succ_of_lt hlt)]
  exact Heap.get?_push_of_some _ e1
end
end SetS
namespace Ab
open PySem PySem.Spec PyProof.Rows L2
/-! ### the signs of a text, each once, in order -/
def sgns (s : List Nat) : List Nat := (List.range 128).filter fun c => decide (c ∈ s)
theorem sgns_mem {s : List Nat} (h : ∀ c ∈ s, c < 128) {c : Nat} : c ∈ sgns s ↔ c ∈ s := by
  unfold sgns
  rw [List.mem_filter, List.mem_range, decide_eq_true_eq]
  exact ⟨fun z => z.2, fun z => ⟨h c z, z⟩⟩
theorem sgns_lt {s : List Nat} {c : Nat} (h : c ∈ sgns s) : c < 128 := List.mem_range.mp (List.mem_filter.mp h).1
theorem sgns_sorted (s : List Nat) : (sgns s).Pairwise (· < ·) := List.pairwise_lt_range.filter _
theorem sgns_nodup (s : List Nat) : (sgns s).Nodup := (sgns_sorted s).imp fun h => Nat.ne_of_lt h
theorem sorted_uniq : ∀ {a b : List Nat}, a.Pairwise (· < ·) → b.Pairwise (· < ·) → (∀ x, x ∈ a ↔ x ∈ b) → a = b
  | [], [], _, _, _ => rfl
  | [], y :: b, _, _, h => absurd ((h y).mpr List.mem_cons_self) List.not_mem_nil
  | x :: a, [], _, _, h => absurd ((h x).mp List.mem_cons_self) List.not_mem_nil
  | x :: a, y :: b, ha, hb, h => by
    obtain ⟨a1, a2⟩ := List.pairwise_cons.mp ha
    obtain ⟨b1, b2⟩ := List.pairwise_cons.mp hb
    have e : x = y := by
      rcases List.mem_cons.mp ((h x).mp List.mem_cons_self) with z | z
      · exact z
      · rcases List.mem_cons.mp ((h y).mpr List.mem_cons_self) with z2 | z2
        · exact z2.symm
        · have := b1 x z
          have := a1 y z2
          omega
    subst e
    rw [sorted_uniq a2 b2 fun z => ?_]
    constructor
    · intro hz
      rcases List.mem_cons.mp ((h z).mp (List.mem_cons_of_mem _ hz)) with w | w
      · have := a1 z hz
        omega
      · exact w
    · intro hz
      rcases List.mem_cons.mp ((h z).mpr (List.mem_cons_of_mem _ hz)) with w | w
      · have := b1 z hz
        omega
      · exact w
theorem rising_le : ∀ (cs : List Nat) (p : Nat), risingS (sOf [p]) (cs.map fun c => sOf [c]) = true → (p :: cs).Pairwise (· ≤ ·)
  | [], p, _ => List.pairwise_singleton _ _
  | c :: r, p, h => by
    have h : (!ltCps [c] [p] && risingS (sOf [c]) (r.map fun c => sOf [c])) = true := h
    obtain ⟨h1, h2⟩ := Bool.and_eq_true_iff.mp h
    have ih := rising_le r c h2
    have hpc : p ≤ c := by
      have h1 : (!(decide (c < p) || ((c == p) && false))) = true := h1
      rw [Bool.and_false, Bool.or_false, Bool.not_eq_true', decide_eq_false_iff_not] at h1
      omega
    refine List.pairwise_cons.mpr ⟨fun x hx => ?_, ih⟩
    rcases List.mem_cons.mp hx with z | z
    · rw [z]
      exact hpc
    · exact Nat.le_trans hpc ((List.pairwise_cons.mp ih).1 x z)
theorem sorted_le {cs : List Nat} (h : sortedS (cs.map fun c => sOf [c]) = true) : cs.Pairwise (· ≤ ·) := by
  cases cs with
  | nil => exact List.Pairwise.nil
  | cons c r => exact rising_le r c h
/-- a sorted list of unlike signs is the list of the signs -/
theorem sorted_sgns {cs s : List Nat} (h1 : sortedS (cs.map fun c => sOf [c]) = true) (nd : cs.Nodup) (hs : ∀ c ∈ s, c < 128) (hm : ∀ c, c ∈ cs ↔ c ∈ s) : cs = sgns s := by
  refine sorted_uniq ?_ (sgns_sorted s) fun x => by rw [hm, sgns_mem hs]
  have h2 := sorted_le h1
  exact h2.imp₂ (fun a b hab hne => Nat.lt_of_le_of_ne hab hne) nd
theorem ones_inj : Function.Injective fun c : Nat => sOf [c] := fun a b h => (List.cons.inj (sOf_inj h)).1
/-- texts of one sign each -/
theorem as_ones : ∀ {ss : List Str}, (∀ x ∈ ss, ∃ c : Nat, x = sOf [c]) → ∃ cs : List Nat, ss = cs.map fun c => sOf [c]
  | [], _ => ⟨[], rfl⟩
  | x :: r, h => by
    obtain ⟨c, rfl⟩ := h x List.mem_cons_self
    obtain ⟨cs, rfl⟩ := as_ones (ss := r) fun y hy => h y (List.mem_cons_of_mem _ hy)
    exact ⟨c :: cs, rfl⟩
theorem ones_sorted {ss l : List Str} {s : List Nat} (hp : ss.Perm l) (nd : l.Nodup) (h1 : sortedS ss = true) (hs : ∀ c ∈ s, c < 128) (hm : ∀ x, x ∈ l ↔ ∃ c, c ∈ s ∧ x = sOf [c]) : ss = (sgns s).map fun c => sOf [c] := by
  obtain ⟨cs, rfl⟩ := as_ones (ss := ss) fun x hx => by
    obtain ⟨c, _, h⟩ := (hm x).mp (hp.mem_iff.mp hx)
    exact ⟨c, h⟩
  have nd2 : cs.Nodup := (List.pairwise_map.mp (hp.nodup_iff.mpr nd)).imp fun h e => h (by rw [e])
  rw [sorted_sgns h1 nd2 hs fun c => ?_]
  have : c ∈ cs ↔ sOf [c] ∈ cs.map fun c => sOf [c] := ⟨fun h => List.mem_map_of_mem h, fun h => by
    obtain ⟨d, hd, e⟩ := List.mem_map.mp h
    rw [ones_inj e] at hd
    exact hd⟩
  rw [this, hp.mem_iff, hm]
  exact ⟨fun ⟨d, hd, e⟩ => by rw [ones_inj e]; exact hd, fun h => ⟨c, h, rfl⟩⟩
/-! ### rules -/
def onesV (cs : List Nat) : List V := cs.map fun c => V.str (sOf [c])
def tSortSetT (ta : TE) : TE := fun σ H Q => ta σ H fun x H1 => ∃ s : List Nat, x = .str (sOf s) ∧ (∀ c ∈ s, c < 128) ∧ ∀ p, H1 p = none → Q (.ref p) (upd H1 p (.lst (onesV (sgns s))))
theorem sgn_of {z : List Nat} {i : Nat} (hi : i < z.length) : SetT.sgnOf (sOf z) i = sOf [z.getD i 0] := by
  unfold SetT.sgnOf
  show (⟨#[z.toArray.getD i 0]⟩ : Str) = ⟨#[z.getD i 0]⟩
  rw [Array.getD_eq_getD_getElem?, List.getElem?_toArray, List.getD_eq_getElem?_getD]
theorem pe_sortSetT {X : Cx} {a : Expr} {ta : TE} {p p2 q pos : Pos} (hc : X.calm = true) (hg : Gl X "sorted") (hm : X.mg "sorted" = none) (hg2 : Gl X "set") (hm2 : X.mg "set" = none) (ha : PE X a ta)
    (one : starEach [a] X.env = (false, eval a X.env) :: starEach [] X.env := by rfl) :
    PE X (.Call (.Name "sorted" p) [.Call (.Name "set" p2) [a] [] q] [] pos) (tSortSetT ta) := by
  refine ⟨fun pins s σ H Q I h => Call_ (ld_blt I hg hm (show bootBuiltins "sorted" = some (.builtin "sorted") by decide +kernel) (PyProof.Rows.callWith_builtin1 (PyProof.Rows.args_cons ?_ rfl) rfl rfl))⟩
  refine Call_ (ld_blt I hg2 hm2 boot_set (PyProof.Rows.callWith_type1 (PyProof.Rows.args_cons ?_ one) one rfl))
  refine thn (ha.run pins s σ H _ I h) fun v s1 ⟨x, H1, I1, r1, q1⟩ => PyProof.Rows.args_nil ?_
  obtain ⟨z, rfl, hlt, q1⟩ := q1
  obtain ⟨t, rfl⟩ := r1
  have hsz : (sOf z).cps.size = z.length := List.size_toArray
  have few : ∀ l : List Str, l.Nodup → (∀ y ∈ l, ∃ j, j < (sOf z).cps.size ∧ SetT.sgnOf (sOf z) j = y) → l.length ≤ 3000 := fun l nd hl => by
    rw [hsz] at hl
    obtain ⟨cs, rfl⟩ := as_ones (ss := l) fun x hx => by
      obtain ⟨j, hj, e⟩ := hl x hx
      exact ⟨_, e.symm.trans (sgn_of hj)⟩
    rw [List.length_map]
    refine Nat.le_trans (nodup_few 128 cs ((List.pairwise_map.mp nd).imp fun h e => h (by rw [e])) fun c hc => ?_) (by decide)
    obtain ⟨j, hj, e⟩ := hl _ (List.mem_map_of_mem hc)
    rw [sgn_of hj] at e
    rw [← ones_inj e, List.getD_eq_getElem?_getD, List.getElem?_eq_getElem hj]
    exact hlt _ (List.getElem_mem _)
  refine SetS.call_setS (I1.ok.hd hc) few fun h' tk S kp => PyProof.Rows.args_nil ?_
  have I2 : Inv X pins σ H1 { s1 with heap := h', toks := tk } := I1.kept fun b o e => kp b o (Heap.lt_size e) e
  rw [hsz] at S
  obtain ⟨D, l, h0, g, hl, hmem⟩ := S
  obtain ⟨s2, es2⟩ : ∃ s2 : Shared, s2 = { s1 with heap := h', toks := tk } := ⟨_, rfl⟩
  rw [← es2] at I2 ⊢
  have h0 : s2.heap.get? s1.heap.objs.size = some (PySem.Froz.sObj "set" D) := by rw [es2]; exact h0
  refine SetS.sorted_setS h0 g (I1.ok.hd hc) (Nat.le_trans (few l g.nd fun y hy => by rw [hsz]; exact (hmem y).mp hy) (by decide)) fun s' p out c ss k gg os hp hgt hi hpm hso => ?_
  have hml : ∀ x, x ∈ l ↔ ∃ c, c ∈ z ∧ x = sOf [c] := fun x => by
    rw [hmem]
    constructor
    · rintro ⟨j, hj, rfl⟩
      refine ⟨z.getD j 0, ?_, sgn_of hj⟩
      rw [List.getD_eq_getElem?_getD, List.getElem?_eq_getElem hj]
      exact List.getElem_mem _
    · rintro ⟨c, hcm, rfl⟩
      obtain ⟨j, hj, rfl⟩ := List.mem_iff_getElem.mp hcm
      refine ⟨j, hj, ?_⟩
      rw [sgn_of hj, List.getD_eq_getElem?_getD, List.getElem?_eq_getElem hj]
      rfl
  have e1 := ones_sorted hpm g.nd hso hlt hml
  subst e1
  have hn : H1 p = none := I2.hok.fresh hp
  have hlen : (onesV (sgns z)).length ≤ sizeLine := by
    unfold onesV sgns
    rw [List.length_map, PySem.sizeLine_eq]
    have := List.length_filter_le (fun c => decide (c ∈ z)) (List.range 128)
    rw [List.length_range] at this
    omega
  have hv : Vals (onesV (sgns z)) out.toList := by
    have := vals_of_strs hi
    rw [List.map_map] at this
    exact this
  have J : Inv X pins σ (upd H1 p (.lst (onesV (sgns z)))) { s2 with heap := s'.heap, gens := s'.gens, drawn := s'.drawn, toks := s'.toks } :=
    I2.call (ch := []) (Un.laid k hp hn) (I2.hok.laid k hp ⟨hlen, out.toList, c, hv, hgt⟩) (by rw [gg]; exact I2.bare) (fun _ z => nomatch z)
  have e : s' = { s2 with heap := s'.heap, gens := s'.gens, drawn := s'.drawn, toks := s'.toks } := by
    cases s'
    cases s2
    cases os
    rfl
  rw [e]
  exact ⟨.ref p, _, J, rfl, q1 p hn⟩
/-- sorted of a list of unlike signs -/
abbrev rSort1 (K : PySem.W.Frag) : List V → Hp → VK → Prop := fun vs H Q => ∃ (a : Addr) (cs : List Nat), vs = [V.ref a] ∧ SqL K H a (onesV cs) ∧ cs.Nodup ∧ (∀ c ∈ cs, c < 128) ∧ ∀ p, H p = none → Q (.ref p) (upd H p (.lst (onesV (sgns cs))))
theorem call_sort1 {X : Cx} : CallR X (.builtin "sorted") (rSort1 X.K) := by
  intro pins s σ H vs us Q I r h
  obtain ⟨a, cs, rfl, hs, nd, hlt, q⟩ := h
  obtain ⟨its, rv, hl, hz⟩ := I.list hs
  rw [Vals.ref1 r]
  have hlen0 := rv.length
  have e0 : onesV cs = (cs.map fun c => sOf [c]).map V.str := by unfold onesV; rw [List.map_map]; rfl
  rw [e0] at rv
  refine PyProof.Rows.sorted_strsAny hl.isList rv.strs (by rw [← hlen0]; exact hz) fun out ys h1 h2 h3 => ?_
  obtain ⟨ep, he'⟩ := PyProof.Rows.sortedAll_at s.heap its out
  have e1 := ones_sorted h2 (List.pairwise_map.mpr (nd.imp fun h e => h (ones_inj e))) h3 hlt fun x => by
    rw [List.mem_map]
    exact ⟨fun ⟨c, h, e⟩ => ⟨c, h, e.symm⟩, fun ⟨c, h, e⟩ => ⟨c, h, e.symm⟩⟩
  subst e1
  have hv : Vals (onesV (sgns cs)) out.toList := by
    have := vals_of_strs h1
    rw [List.map_map] at this
    exact this
  have hlen : (onesV (sgns cs)).length ≤ sizeLine := by
    unfold onesV sgns
    rw [List.length_map, PySem.sizeLine_eq]
    have := List.length_filter_le (fun c => decide (c ∈ cs)) (List.range 128)
    rw [List.length_range] at this
    omega
  exact ⟨.ref _, upd H (s.heap.objs.size + 1) (.lst (onesV (sgns cs))), I.laid (t' := s.toks) (fun _ _ => PyProof.Rows.sortedAll_old) (Nat.le_succ _) ⟨hlen, out.toList, ep, hv, he'⟩, rfl, q _ (I.hok.fresh (Nat.le_succ _))⟩
theorem sort1K {X : Cx} {K : PySem.W.Frag} (hK : X.K = K) : CallR X (.builtin "sorted") (rSort1 K) := by subst hK; exact call_sort1
section
variable {K : PySem.W.Frag} {e : Env} {ta : TE}
def onesD (cs : List Nat) : List D := cs.map fun c => .str [c]
theorem rds_ones {G : Hp} : ∀ cs : List Nat, RDs K G (onesV cs) (onesD cs)
  | [] => .nil
  | _ :: r => .cons .str (rds_ones r)
theorem ones_rds {G : Hp} : ∀ {cs : List Nat} {vs : List V}, RDs K G vs (onesD cs) → vs = onesV cs
  | [], _, .nil => rfl
  | c :: r, _, .cons h t => by
    cases h
    rw [ones_rds t]
    rfl
theorem an_sortSet {s : List Nat} (h : AE K ta e (.d (.str s))) (hs : ∀ c ∈ s, c < 128) : AN K (tSortSetT ta) e (onesD (sgns s)) := fun B σ G H ad R C c =>
  h B σ G H ad R _ fun v G1 H1 X1 r1 => by
    cases r1
    exact ⟨s, rfl, hs, fun p hp => c p _ G1 _ (X1.trans (Xt.drop X1.gh hp)) (Same.none X1.hh hp) (Same.none X1.gh hp) upd_same (rds_ones _)⟩
theorem nc_sort1 {cs : List Nat} (nd : cs.Nodup) (hs : ∀ c ∈ cs, c < 128) : NC K (rSort1 K) [.d (.lst (onesD cs))] e (onesD (sgns cs)) := fun B σ G H ad R vs rv C c => by
  obtain ⟨v, rfl, rw⟩ := rv1 rv
  cases rw with
  | lst hq rd =>
    rw [ones_rds rd] at hq
    exact ⟨_, cs, rfl, .inl (.inl (R.gh _ _ hq)), nd, hs, fun p hp => c p _ G _ (Xt.drop R.gh hp) hp (Same.none R.gh hp) upd_same (rds_ones _)⟩
theorem nc_sort1O {k : Nat} {cs : List Nat} (hk : e.m[k]? = some (some (.lst (onesD cs)))) (nd : cs.Nodup) (hs : ∀ c ∈ cs, c < 128) : NC K (rSort1 K) [.o k] e (onesD (sgns cs)) := fun B σ G H ad R vs rv C c => by
  obtain ⟨v, rfl, l, hl, rfl⟩ := rv1 rv
  obtain ⟨_, _, vs, hq, rd⟩ := R.op k l _ hl hk
  rw [ones_rds rd] at hq
  exact ⟨_, cs, rfl, .inl (.inl hq), nd, hs, fun p hp => c p _ G _ (Xt.drop R.gh hp) hp (Same.none R.gh hp) upd_same (rds_ones _)⟩
end
end Ab
namespace Ab
open PySem PySem.Spec PyProof.Rows L2
/-! ### words and cuts by a table -/
/-- what is told of a row, or of nowhere -/
def toldOf (t : Tbl) (o : Option Nat) : Option Int := o.bind fun n => (t.rows[n]?).bind fun r => r.1
theorem toldOf_at {t : Tbl} {n : Nat} {r : Row} (h : t.rows[n]? = some r) : toldOf t (some n) = r.1 := by
  show (t.rows[n]?).bind _ = _
  rw [h]
  rfl
/-- the longest stretch from a place on, of those up to i signs -/
def best (t : Tbl) (s : List Nat) (at_ : Nat) : Nat → Option (Int × Nat)
  | 0 => none
  | i + 1 => match toldOf t (runs t (some 0) ((s.drop at_).take (i + 1))) with
    | some v => some (v, at_ + (i + 1))
    | none => best t s at_ i
def wordOf (t : Tbl) (s : List Nat) (at_ : Nat) : Option (Int × Nat) := best t s at_ (s.length - at_)
theorem best_end {t : Tbl} {s : List Nat} {at_ : Nat} : ∀ {i : Nat} {v : Int} {e : Nat}, best t s at_ i = some (v, e) → at_ < e ∧ e ≤ at_ + i
  | 0, _, _, h => by cases h
  | i + 1, v, e, h => by
    unfold best at h
    cases q : toldOf t (runs t (some 0) ((s.drop at_).take (i + 1))) with
    | some w =>
      rw [q] at h
      cases h
      omega
    | none =>
      rw [q] at h
      have := best_end h
      omega
theorem word_end {t : Tbl} {s : List Nat} {at_ : Nat} {v : Int} {e : Nat} (h : wordOf t s at_ = some (v, e)) (hl : at_ ≤ s.length) : at_ < e ∧ e ≤ s.length := by
  have := best_end h
  omega
/-- nowhere: nothing more is told -/
theorem best_dead {t : Tbl} {s : List Nat} {at_ i : Nat} (h : runs t (some 0) ((s.drop at_).take (i + 1)) = none) : ∀ j, i ≤ j → best t s at_ j = best t s at_ i
  | j, hj => by
    induction j with
    | zero =>
      have : i = 0 := by omega
      rw [this]
    | succ j ih =>
      by_cases e : i = j + 1
      · rw [e]
      · have hd : runs t (some 0) ((s.drop at_).take (j + 1)) = none := by
          have h2 := runs_app t (some 0) ((s.drop at_).take (i + 1)) ((((s.drop at_).take (j + 1)).drop (i + 1)))
          have h3 : (s.drop at_).take (i + 1) ++ ((s.drop at_).take (j + 1)).drop (i + 1) = (s.drop at_).take (j + 1) := by
            have : (s.drop at_).take (i + 1) = ((s.drop at_).take (j + 1)).take (i + 1) := by
              rw [List.take_take, Nat.min_eq_left (by omega)]
            rw [this, List.take_append_drop]
          rw [h3, h, runs_none] at h2
          exact h2
        have e2 : best t s at_ (j + 1) = best t s at_ j := by
          show (match toldOf t (runs t (some 0) ((s.drop at_).take (j + 1))) with | some v => some (v, at_ + (j + 1)) | none => best t s at_ j) = _
          rw [hd]
          rfl
        rw [e2]
        exact ih (by omega)
abbrev Piece := Option Int × Nat × Nat
def nextAt (t : Tbl) (s : List Nat) (at_ : Nat) : Option Int × Nat := match wordOf t s at_ with
  | some (v, e) => (some v, e)
  | none => (none, at_ + 1)
theorem nextAt_b {t : Tbl} {s : List Nat} {at_ : Nat} (hl : at_ < s.length) : at_ < (nextAt t s at_).2 ∧ (nextAt t s at_).2 ≤ s.length := by
  unfold nextAt
  cases q : wordOf t s at_ with
  | none =>
    show at_ < at_ + 1 ∧ at_ + 1 ≤ s.length
    omega
  | some w =>
    obtain ⟨v, e⟩ := w
    exact word_end q (by omega)
/-- a cut by what comes next: n pieces at most -/
def cutN (nx : Nat → Option Int × Nat) (len : Nat) : Nat → List Piece × Nat
  | 0 => ([], 0)
  | m + 1 => if (cutN nx len m).2 < len then ((cutN nx len m).1 ++ [((nx (cutN nx len m).2).1, (cutN nx len m).2, (nx (cutN nx len m).2).2)], (nx (cutN nx len m).2).2) else cutN nx len m
def cutA (nx : Nat → Option Int × Nat) (len : Nat) : List Piece := (cutN nx len len).1
theorem cutN_step {nx : Nat → Option Int × Nat} {len m : Nat} (h : (cutN nx len m).2 < len) : cutN nx len (m + 1) = ((cutN nx len m).1 ++ [((nx (cutN nx len m).2).1, (cutN nx len m).2, (nx (cutN nx len m).2).2)], (nx (cutN nx len m).2).2) := by
  show (if _ then _ else _) = _
  rw [if_pos h]
theorem cutN_stop {nx : Nat → Option Int × Nat} {len m : Nat} (h : ¬ (cutN nx len m).2 < len) : ∀ j, m ≤ j → cutN nx len j = cutN nx len m
  | j, hj => by
    induction j with
    | zero =>
      have : m = 0 := by omega
      rw [this]
    | succ j ih =>
      by_cases e : m = j + 1
      · rw [e]
      · have hi := ih (by omega)
        show (if _ then _ else _) = _
        rw [hi, if_neg h]
theorem cutN_at {nx : Nat → Option Int × Nat} {len : Nat} (hn : ∀ a, a < len → a < (nx a).2 ∧ (nx a).2 ≤ len) : ∀ m, (cutN nx len m).2 ≤ len ∧ ((cutN nx len m).2 < len → m ≤ (cutN nx len m).2) ∧ (cutN nx len m).1.length ≤ m
  | 0 => ⟨Nat.zero_le _, fun _ => Nat.le_refl _, Nat.le_refl _⟩
  | m + 1 => by
    obtain ⟨h1, h2, h3⟩ := cutN_at hn m
    by_cases h : (cutN nx len m).2 < len
    · rw [cutN_step h]
      have := hn _ h
      have := h2 h
      refine ⟨by show _ ≤ len; omega, fun _ => by show m + 1 ≤ _; omega, ?_⟩
      show (_ ++ [_]).length ≤ m + 1
      rw [List.length_append, List.length_singleton]
      omega
    · rw [cutN_stop h (m + 1) (by omega)]
      exact ⟨h1, fun z => absurd z h, by omega⟩
def pieceD (p : Piece) : D := .tup [optI p.1, .int (p.2.1 : Nat), .int (p.2.2 : Nat)]
def piecesD (ps : List Piece) : List D := ps.map pieceD
end Ab
namespace Ab
open PySem PySem.Spec PyProof.Rows L2
/-! ### the longest stretch, by what is told of each -/
def bestG (T : Nat → Option Int) (k : Nat) : Nat → Option (Int × Nat)
  | 0 => none
  | i + 1 => match T (i + 1) with
    | some v => some (v, k + (i + 1))
    | none => bestG T k i
def nextG (T : Nat → Option Int) (k len : Nat) : Option Int × Nat := match bestG T k (len - k) with
  | some (v, e) => (some v, e)
  | none => (none, k + 1)
theorem bestG_end {T : Nat → Option Int} {k : Nat} : ∀ {i : Nat} {v : Int} {e : Nat}, bestG T k i = some (v, e) → k < e ∧ e ≤ k + i
  | 0, _, _, h => by cases h
  | i + 1, v, e, h => by
    unfold bestG at h
    cases q : T (i + 1) with
    | some w =>
      rw [q] at h
      cases h
      omega
    | none =>
      rw [q] at h
      have := bestG_end h
      omega
theorem nextG_b {T : Nat → Option Int} {k len : Nat} (hl : k < len) : k < (nextG T k len).2 ∧ (nextG T k len).2 ≤ len := by
  unfold nextG
  cases q : bestG T k (len - k) with
  | none =>
    show k < k + 1 ∧ k + 1 ≤ len
    omega
  | some w =>
    obtain ⟨v, e⟩ := w
    have := bestG_end q
    show k < e ∧ e ≤ len
    omega
/-- nothing more is told -/
theorem bestG_stop {T : Nat → Option Int} {k i : Nat} : ∀ {n : Nat}, i ≤ n → (∀ j, i < j → j ≤ n → T j = none) → bestG T k n = bestG T k i
  | 0, hi, _ => by
    have : i = 0 := by omega
    rw [this]
  | n + 1, hi, h => by
    by_cases e : i = n + 1
    · rw [e]
    · have : bestG T k (n + 1) = bestG T k n := by
        unfold bestG
        rw [h (n + 1) (by omega) (Nat.le_refl _)]
        cases n <;> rfl
      rw [this]
      exact bestG_stop (by omega) fun j h1 h2 => h j h1 (by omega)
theorem bestG_none {T : Nat → Option Int} {k n : Nat} (h : ∀ j, 0 < j → j ≤ n → T j = none) : bestG T k n = none := bestG_stop (i := 0) (Nat.zero_le _) h
theorem bestG_some {T : Nat → Option Int} {k n i : Nat} {v : Int} (h0 : 0 < i) (hi : i ≤ n) (ht : T i = some v) (h : ∀ j, i < j → j ≤ n → T j = none) : bestG T k n = some (v, k + i) := by
  rw [bestG_stop hi h]
  cases i with
  | zero => omega
  | succ i =>
    unfold bestG
    rw [ht]
theorem bestG_succ {T : Nat → Option Int} {k i : Nat} : bestG T k (i + 1) = match T (i + 1) with | some v => some (v, k + (i + 1)) | none => bestG T k i := rfl
theorem bestG_congr {T U : Nat → Option Int} {k : Nat} : ∀ {n : Nat}, (∀ j, j ≤ n → T j = U j) → bestG T k n = bestG U k n
  | 0, _ => rfl
  | n + 1, h => by
    rw [bestG_succ, bestG_succ, h (n + 1) (Nat.le_refl _), bestG_congr (n := n) fun j hj => h j (by omega)]
theorem best_G (t : Tbl) (s : List Nat) (k : Nat) : ∀ i, best t s k i = bestG (fun i => toldOf t (runs t (some 0) ((s.drop k).take i))) k i
  | 0 => rfl
  | i + 1 => by
    rw [bestG_succ, ← best_G t s k i]
    rfl
theorem nextAt_G (t : Tbl) (s : List Nat) (k : Nat) : nextAt t s k = nextG (fun i => toldOf t (runs t (some 0) ((s.drop k).take i))) k s.length := by
  unfold nextAt nextG wordOf
  rw [best_G]
  all_goals (cases bestG (fun i => toldOf t (runs t (some 0) ((s.drop k).take i))) k (s.length - k) <;> rfl)
/-! ### the number of the first pattern that tells a text -/
def numP (ps : List Pat) (s : List Nat) : Option Int := (toldL (leavesOf ps) (runL (leavesOf ps) s)).map Int.ofNat
theorem numP_some {ps : List Pat} (h : PsOk ps) {s : List Nat} {v : Int} (e : numP ps s = some v) : ∃ (k : Nat) (p : Pat), v = (k : Int) ∧ ps[k]? = some p ∧ Tells p s ∧ ∀ j q, j < k → ps[j]? = some q → ¬ Tells q s := by
  unfold numP at e
  cases q : toldL (leavesOf ps) (runL (leavesOf ps) s) with
  | none =>
    rw [q] at e
    cases e
  | some k =>
    rw [q] at e
    cases e
    obtain ⟨p, h1, h2, h3⟩ := told_some h q
    exact ⟨k, p, rfl, h1, h2, h3⟩
theorem numP_none {ps : List Pat} (h : PsOk ps) {s : List Nat} (e : numP ps s = none) : ∀ p ∈ ps, ¬ Tells p s := by
  unfold numP at e
  cases q : toldL (leavesOf ps) (runL (leavesOf ps) s) with
  | none => exact told_none h q
  | some k =>
    rw [q] at e
    cases e
theorem numP_no {ps : List Pat} (h : PsOk ps) {s : List Nat} (g : ∀ p ∈ ps, ¬ Tells p s) : numP ps s = none := by
  cases e : numP ps s with
  | none => rfl
  | some v =>
    obtain ⟨k, p, _, h1, h2, _⟩ := numP_some h e
    exact absurd h2 (g p (List.mem_of_getElem? h1))
theorem numP_of {ps : List Pat} (h : PsOk ps) {s : List Nat} {m : Nat} {p : Pat} (hp : ps[m]? = some p) (ht : Tells p s) (hf : ∀ j q, j < m → ps[j]? = some q → ¬ Tells q s) : numP ps s = some (m : Int) := by
  cases e : numP ps s with
  | none => exact absurd ht (numP_none h e p (List.mem_of_getElem? hp))
  | some v =>
    obtain ⟨k, q, rfl, h1, h2, h3⟩ := numP_some h e
    rcases Nat.lt_trichotomy k m with c | c | c
    · exact absurd h2 (hf k q c h1)
    · rw [c]
    · exact absurd ht (h3 m p c hp)
def tryT (ps : List Pat) (s : List Nat) (k : Nat) (i : Nat) : Option Int := numP ps ((s.drop k).take i)
def nextT (ps : List Pat) (s : List Nat) (k : Nat) : Option Int × Nat := nextG (tryT ps s k) k s.length
/-- what the trying has found so far -/
structure TrySt (k : Nat) (C : Nat → Nat → Prop) (far : Nat) (fd : Option Int × Nat) : Prop where
  mx : ∀ m j, C m j → j ≤ far
  is : (far = k ∧ fd = (none, k + 1)) ∨ (k < far ∧ ∃ m : Nat, C m far ∧ (∀ m', m' < m → ¬ C m' far) ∧ fd = (some (m : Int), far))
theorem TrySt.iff {k : Nat} {C C' : Nat → Nat → Prop} {far : Nat} {fd : Option Int × Nat} (h : TrySt k C far fd) (e : ∀ m j, C m j ↔ C' m j) : TrySt k C' far fd := by
  have : C = C' := by
    funext m j
    exact propext (e m j)
  rw [← this]
  exact h
theorem TrySt.add {k : Nat} {C : Nat → Nat → Prop} {far : Nat} {fd : Option Int × Nat} (h : TrySt k C far fd) {m j : Nat} (hm : ∀ m' j', C m' j' → m' ≤ m) :
    TrySt k (fun m' j' => C m' j' ∨ (m' = m ∧ j' = j)) (if far < j then j else far) (if far < j then (some (m : Int), j) else fd) := by
  have hk : k ≤ far := by
    rcases h.is with ⟨a, _⟩ | ⟨a, _⟩ <;> omega
  by_cases c : far < j
  · rw [if_pos c, if_pos c]
    refine ⟨fun m' j' g => ?_, .inr ⟨by omega, m, .inr ⟨rfl, rfl⟩, fun m' hm' g => ?_, rfl⟩⟩
    · rcases g with g | ⟨_, g⟩
      · have := h.mx m' j' g
        omega
      · omega
    · rcases g with g | ⟨g, _⟩
      · have := h.mx m' j g
        omega
      · omega
  · rw [if_neg c, if_neg c]
    refine ⟨fun m' j' g => ?_, ?_⟩
    · rcases g with g | ⟨_, g⟩
      · exact h.mx m' j' g
      · omega
    · rcases h.is with ⟨a, b⟩ | ⟨a, m0, b1, b2, b3⟩
      · exact .inl ⟨a, b⟩
      · refine .inr ⟨a, m0, .inl b1, fun m' hm' g => ?_, b3⟩
        rcases g with g | ⟨g, _⟩
        · exact b2 m' hm' g
        · have := hm m0 far b1
          omega
theorem TrySt.zero (k : Nat) : TrySt k (fun _ _ => False) k (none, k + 1) := ⟨fun _ _ h => h.elim, .inl ⟨rfl, rfl⟩⟩
theorem EOk.at {s : List Nat} {k : Nat} (h : k ≤ s.length) : EOk s [k] := ⟨List.nodup_cons.mpr ⟨by simp, List.nodup_nil⟩, fun i hi => by rw [List.mem_singleton.mp hi]; exact h⟩
theorem ends_at {s : List Nat} {k : Nat} (h : k ≤ s.length) (p : Pat) (j : Nat) : j ∈ ends s p [k] ↔ k ≤ j ∧ j ≤ s.length ∧ Tells p ((s.drop k).take (j - k)) := by
  rw [(ends_ok s p [k] (EOk.at h)).2 j]
  constructor
  · rintro ⟨i, hi, h1, h2, h3⟩
    rw [List.mem_singleton.mp hi] at h1 h3
    exact ⟨h1, h2, h3⟩
  · rintro ⟨h1, h2, h3⟩
    exact ⟨k, List.mem_cons_self, h1, h2, h3⟩
theorem TrySt.done {ps : List Pat} (hp : PsOk ps) {s : List Nat} {k : Nat} (hk : k ≤ s.length) {far : Nat} {fd : Option Int × Nat} (h : TrySt k (fun m j => ∃ p, ps[m]? = some p ∧ j ∈ ends s p [k]) far fd) : fd = nextT ps s k := by
  have none_of : ∀ i, far < k + i → k + i ≤ s.length → tryT ps s k i = none := fun i h1 h2 => by
    refine numP_no hp fun p hpm ht => ?_
    obtain ⟨m, hm⟩ := List.mem_iff_getElem?.mp hpm
    have := h.mx m (k + i) ⟨p, hm, (ends_at hk p _).mpr ⟨by omega, h2, by rw [Nat.add_sub_cancel_left]; exact ht⟩⟩
    omega
  unfold nextT nextG
  rcases h.is with ⟨a, b⟩ | ⟨a, m, ⟨p, b1, b2⟩, b3, b4⟩
  · rw [bestG_none fun j h1 h2 => none_of j (by omega) (by omega), b]
  · obtain ⟨c1, c2, c3⟩ := (ends_at hk p far).mp b2
    have ht : tryT ps s k (far - k) = some (m : Int) := by
      refine numP_of hp b1 c3 fun j q hj hq z => b3 j hj ⟨q, hq, (ends_at hk q far).mpr ⟨c1, c2, z⟩⟩
    rw [bestG_some (i := far - k) (by omega) (by omega) ht fun j h1 h2 => none_of j (by omega) (by omega), b4, show k + (far - k) = far by omega]
/-- no leaf any more: nothing is told -/
theorem stepL_zero (L : LV) (c : Nat) : stepL L 0 c = 0 := by
  unfold stepL
  rw [bitsOf_zero]
  exact Nat.zero_and _
theorem toldL_zero (L : LV) : toldL L 0 = none := by
  unfold toldL
  refine List.findIdx?_eq_none_iff.mpr fun m _ => ?_
  rw [Nat.and_zero]
  rfl
theorem runL_app (L : LV) (s t : List Nat) : runL L (s ++ t) = t.foldl (stepL L) (runL L s) := by
  unfold runL
  rw [List.foldl_append]
theorem runL_dead {L : LV} {s : List Nat} (h : runL L s = 0) : ∀ t, runL L (s ++ t) = 0 := fun t => by
  rw [runL_app, h]
  induction t with
  | nil => rfl
  | cons c r ih =>
    show r.foldl (stepL L) (stepL L 0 c) = 0
    rw [stepL_zero]
    exact ih
theorem try_dead {ps : List Pat} {s : List Nat} {k i : Nat} (h : runL (leavesOf ps) ((s.drop k).take i) = 0) {j : Nat} (hj : i ≤ j) : tryT ps s k j = none := by
  unfold tryT numP
  have : (s.drop k).take j = (s.drop k).take i ++ ((s.drop k).take j).drop i := by
    have h2 : (s.drop k).take i = ((s.drop k).take j).take i := by rw [List.take_take, Nat.min_eq_left hj]
    rw [h2, List.take_append_drop]
  rw [this, runL_dead h, toldL_zero]
  rfl
/-- the piece at a place -/
def pieceT (ps : List Pat) (s : List Nat) (k n : Nat) : Piece := match bestG (tryT ps s k) k n with
  | some (v, e) => (some v, k, e)
  | none => (none, k, k + 1)
theorem pieceT_all (ps : List Pat) (s : List Nat) (k : Nat) : pieceT ps s k (s.length - k) = ((nextT ps s k).1, k, (nextT ps s k).2) := by
  unfold pieceT nextT nextG
  cases bestG (tryT ps s k) k (s.length - k) with
  | none => rfl
  | some w => rfl
end Ab
namespace Ab
open PySem PySem.Spec PyProof.Rows L2
section
variable {K : PySem.W.Frag} {e : Env}
theorem a2_inTO {neg : Bool} {i : List Nat} {ns : List (List Nat)} {k : Nat} (hk : e.m[k]? = some (some (.lst (ns.map .str)))) : A2 K (rIn K neg) (.d (.str i)) (.o k) e (.d (.bl (if neg = true then !decide (i ∈ ns) else decide (i ∈ ns)))) := fun B σ G H ad R v w rv rw C c => by
  cases rv
  obtain ⟨l, hl, rfl⟩ := rw
  obtain ⟨_, _, vs, hq, rd⟩ := R.op k l _ hl hk
  have e1 := RD.strs rd
  subst e1
  refine ⟨_, ns.map fun x => V.str (sOf x), rfl, .inl (.inl (.inl hq)), rfl, flat_strs ns, ?_⟩
  rw [inV_strs]
  exact c _ G H (Xt.refl R.gh) .bl
end
/-! ### the leaves of a pattern -/
mutual
def leafs : Pat → List (List Nat)
  | .one s => [s]
  | .row ps => leafss ps
  | .or ps => leafss ps
  | .many p => leafs p
  | .maybe p => leafs p
def leafss : List Pat → List (List Nat)
  | [] => []
  | p :: r => leafs p ++ leafss r
end
theorem leafss_cons (p : Pat) (r : List Pat) : leafss (p :: r) = leafs p ++ leafss r := rfl
theorem leafss_app : ∀ a b : List Pat, leafss (a ++ b) = leafss a ++ leafss b
  | [], _ => rfl
  | p :: a, b => by
    show leafs p ++ leafss (a ++ b) = (leafs p ++ leafss a) ++ leafss b
    rw [leafss_app a b, List.append_assoc]
theorem rowGo_signs : ∀ (shs : List Sh) (L : LV) (s : Sh), (rowGo L s shs).1.signs = L.signs
  | [], _, _ => rfl
  | p :: r, L, s => rowGo_signs r (link L s.l p.f) _
mutual
theorem shape_signs : ∀ (p : Pat) (L : LV), (shape p L).1.signs = L.signs ++ leafs p
  | .one s, L => rfl
  | .row ps, L => by
    show (rowGo (shapes ps L).1 ⟨true, 0, 0⟩ (shapes ps L).2).1.signs = _
    rw [rowGo_signs]
    exact shapes_signs ps L
  | .or ps, L => shapes_signs ps L
  | .many p, L => shape_signs p L
  | .maybe p, L => shape_signs p L
theorem shapes_signs : ∀ (ps : List Pat) (L : LV), (shapes ps L).1.signs = L.signs ++ leafss ps
  | [], L => (List.append_nil _).symm
  | p :: r, L => by
    show (shapes r (shape p L).1).1.signs = L.signs ++ (leafs p ++ leafss r)
    rw [shapes_signs r, shape_signs p, List.append_assoc]
end
theorem leavesGo_signs : ∀ (ps : List Pat) (L : LV), (leavesGo ps L).signs = L.signs ++ leafss ps
  | [], L => (List.append_nil _).symm
  | p :: r, L => by
    show (leavesGo r (addPat L p)).signs = L.signs ++ (leafs p ++ leafss r)
    rw [leavesGo_signs r, show (addPat L p).signs = (shape p L).1.signs from rfl, shape_signs, List.append_assoc]
theorem leavesOf_signs (ps : List Pat) : (leavesOf ps).signs = [] :: leafss ps := leavesGo_signs ps LV.new
mutual
theorem leafs_len : ∀ p : Pat, (leafs p).length = nl p
  | .one s => rfl
  | .row ps => leafss_len ps
  | .or ps => leafss_len ps
  | .many p => leafs_len p
  | .maybe p => leafs_len p
theorem leafss_len : ∀ ps : List Pat, (leafss ps).length = nls ps
  | [] => rfl
  | p :: r => by
    show (leafs p ++ leafss r).length = nl p + nls r
    rw [List.length_append, leafs_len p, leafss_len r]
end
mutual
theorem leafs_wf : ∀ {p : Pat}, Wf p → ∀ s ∈ leafs p, Wf (.one s)
  | .one s, h, t, ht => by
    rw [List.mem_singleton.mp ht]
    exact h
  | .row ps, h, t, ht => leafss_wf h.1 t ht
  | .or ps, h, t, ht => leafss_wf h.1 t ht
  | .many p, h, t, ht => leafs_wf (p := p) h t ht
  | .maybe p, h, t, ht => leafs_wf (p := p) h t ht
theorem leafss_wf : ∀ {ps : List Pat}, Wfs ps → ∀ s ∈ leafss ps, Wf (.one s)
  | [], _, t, ht => (nomatch ht)
  | p :: r, h, t, ht => by
    rcases List.mem_append.mp ht with z | z
    · exact leafs_wf h.1 t z
    · exact leafss_wf h.2 t z
end
/-- all signs of the leaves -/
def allS (ps : List Pat) : List Nat := (leafss ps).flatten
theorem allS_lt {ps : List Pat} (h : Wfs ps) : ∀ c ∈ allS ps, c < 128 := fun c hc => by
  obtain ⟨s, hs, hc⟩ := List.mem_flatten.mp hc
  exact (leafss_wf h s hs).2.2.2 c hc
theorem allS_len {ps : List Pat} (h : PsOk ps) : (allS ps).length ≤ 60000 := by
  unfold allS
  rw [List.length_flatten]
  have h1 := sum_le (xs := (leafss ps).map List.length) (b := 1000) fun x hx => by
    obtain ⟨s, hs, rfl⟩ := List.mem_map.mp hx
    exact (leafss_wf h.wf s hs).2.2.1
  rw [List.length_map, leafss_len] at h1
  have := h.lv
  have : nls ps * 1000 ≤ 60 * 1000 := Nat.mul_le_mul_right _ this
  omega
/-! ### signs collected one by one -/
def dueL (cs : List Nat) : List Nat := cs.foldl (fun d c => if decide (c ∈ d) = true then d else d ++ [c]) []
theorem dueL_snoc (cs : List Nat) (c : Nat) : dueL (cs ++ [c]) = if decide (c ∈ dueL cs) = true then dueL cs else dueL cs ++ [c] := by
  unfold dueL
  rw [List.foldl_append]
  rfl
theorem due_fold : ∀ (cs d : List Nat), d.Nodup → (cs.foldl (fun d c => if decide (c ∈ d) = true then d else d ++ [c]) d).Nodup ∧ ∀ c, c ∈ cs.foldl (fun d c => if decide (c ∈ d) = true then d else d ++ [c]) d ↔ c ∈ d ∨ c ∈ cs
  | [], d, h => ⟨h, fun c => ⟨.inl, fun z => z.elim id fun z => (nomatch z)⟩⟩
  | a :: r, d, h => by
    rw [List.foldl_cons]
    by_cases z : a ∈ d
    · rw [if_pos (decide_eq_true z)]
      refine ⟨(due_fold r d h).1, fun c => ?_⟩
      rw [(due_fold r d h).2, List.mem_cons]
      exact ⟨fun y => y.imp id .inr, fun y => y.elim .inl fun y => y.elim (fun y => .inl (y ▸ z)) .inr⟩
    · rw [if_neg (by rw [decide_eq_false z]; decide)]
      have nd : (d ++ [a]).Nodup := List.nodup_append.mpr ⟨h, List.nodup_cons.mpr ⟨List.not_mem_nil, List.nodup_nil⟩, fun x hx y hy e => by
        rw [List.mem_singleton.mp hy] at e
        exact z (e ▸ hx)⟩
      refine ⟨(due_fold r _ nd).1, fun c => ?_⟩
      rw [(due_fold r _ nd).2, List.mem_append, List.mem_singleton, List.mem_cons, or_assoc]
theorem dueL_ok (cs : List Nat) : (dueL cs).Nodup ∧ ∀ c, c ∈ dueL cs ↔ c ∈ cs := by
  obtain ⟨h1, h2⟩ := due_fold cs [] List.nodup_nil
  refine ⟨h1, fun c => (h2 c).trans ⟨fun z => z.elim (fun z => (nomatch z)) id, .inr⟩⟩
theorem nodup_sub : ∀ {a b : List Nat}, a.Nodup → (∀ x ∈ a, x ∈ b) → a.length ≤ b.length
  | [], _, _, _ => Nat.zero_le _
  | x :: a, b, nd, h => by
    obtain ⟨n1, n2⟩ := List.nodup_cons.mp nd
    have hx := h x List.mem_cons_self
    have := nodup_sub (b := b.erase x) n2 fun y hy => (List.mem_erase_of_ne fun (e : y = x) => n1 (e ▸ hy)).mpr (h y (List.mem_cons_of_mem _ hy))
    rw [List.length_erase_of_mem hx] at this
    have hp : 0 < b.length := List.length_pos_of_mem hx
    show a.length + 1 ≤ _
    omega
theorem sgns_congr {s t : List Nat} (h : ∀ c, c ∈ s ↔ c ∈ t) : sgns s = sgns t := by
  unfold sgns
  refine List.filter_congr fun c _ => ?_
  rw [decide_eq_decide]
  exact h c
theorem sgns_due (cs : List Nat) : sgns (dueL cs) = sgns cs := sgns_congr (dueL_ok cs).2
theorem sgns_len (s : List Nat) : (sgns s).length ≤ 128 := by
  unfold sgns
  have := List.length_filter_le (fun c => decide (c ∈ s)) (List.range 128)
  rwa [List.length_range] at this
theorem onesD_map (cs : List Nat) : onesD cs = (cs.map fun c => [c]).map .str := by
  unfold onesD
  rw [List.map_map]
  rfl
end Ab
namespace Ab
open PySem PySem.Spec PyProof.Rows L2
def topS (i : Nat) : Stmt := PySem.Challenge.pw_rulescan_k01_signs.main.body.getD i (.Pass ⟨0, 0, 0, 0⟩)
section
variable {P : Program} {w : World} {K : PySem.W.Frag} {mg : Str → Option Value} {base : Heap}
/-! ### the class of the leaves -/
theorem lk_put {m f : Str} {a : A} : ∀ l : List (Str × A), (putFA f a l).lookup m = if m = f then some a else l.lookup m
  | [] => by
    show (match m == f with | true => some a | false => none) = _
    by_cases h : m = f
    · rw [if_pos h, beq_iff_eq.mpr h]
    · rw [if_neg h, beq_eq_false_iff_ne.mpr h]
      rfl
  | (g, x) :: r => by
    show (if g = f then (g, a) :: r else (g, x) :: putFA f a r).lookup m = _
    by_cases hg : g = f
    · subst hg
      rw [if_pos rfl]
      show (match m == g with | true => some a | false => r.lookup m) = if m = g then some a else (match m == g with | true => some x | false => r.lookup m)
      by_cases h : m = g
      · rw [if_pos h, beq_iff_eq.mpr h]
      · rw [if_neg h, beq_eq_false_iff_ne.mpr h]
    · rw [if_neg hg]
      show (match m == g with | true => some x | false => (putFA f a r).lookup m) = if m = f then some a else (match m == g with | true => some x | false => r.lookup m)
      rw [lk_put r]
      by_cases h : m = g
      · subst h
        rw [beq_self_eq_true, if_neg hg, if_neg hg]
      · rw [beq_eq_false_iff_ne.mpr h]
structure LvC (K : PySem.W.Frag) (mg : Str → Option Value) (C : Addr) : Prop where
  cl : Cls K C
  mkc : MkC K C
  mgC : mg "Leaves" = some (.ref C)
  nS : NoAttr K C "signs"
  nA : NoAttr K C "after"
  nH : NoAttr K C "having"
  nE : NoAttr K C "ends"
def lvF : List (Str × A) := putFA "ends" (.o 5) (putFA "having" (.o 4) (putFA "after" (.o 3) (putFA "signs" (.o 2) [])))
theorem lv_signs : lvF.lookup ("signs" : Str) = some (.o 2) := by
  unfold lvF
  rw [lk_put, if_neg (by decide +kernel), lk_put, if_neg (by decide +kernel), lk_put, if_neg (by decide +kernel), lk_put, if_pos rfl]
theorem lv_after : lvF.lookup ("after" : Str) = some (.o 3) := by
  unfold lvF
  rw [lk_put, if_neg (by decide +kernel), lk_put, if_neg (by decide +kernel), lk_put, if_pos rfl]
theorem lv_having : lvF.lookup ("having" : Str) = some (.o 4) := by
  unfold lvF
  rw [lk_put, if_neg (by decide +kernel), lk_put, if_pos rfl]
theorem lv_ends : lvF.lookup ("ends" : Str) = some (.o 5) := by
  unfold lvF
  rw [lk_put, if_pos rfl]
theorem lv_no {m : Str} (h1 : m ≠ "signs") (h2 : m ≠ "after") (h3 : m ≠ "having") (h4 : m ≠ "ends") : lvF.lookup m = none := by
  unfold lvF
  rw [lk_put, if_neg h4, lk_put, if_neg h3, lk_put, if_neg h2, lk_put, if_neg h1]
  rfl
theorem lv_few : lvF.length < 1000 := by decide +kernel
def lvO (C : Addr) (L : LV) : List O := [.ins C 1 lvF, .own 0, .lst (L.signs.map .str), .lst (L.after.map natD), .dk (L.having.map hvD), .lst (L.ends.map natD)]
theorem lvO_cl (C : Addr) (L : LV) : (lvO C L).all (clO 6) = true := by
  have : (lvF.all fun p => clA 6 p.2) = true := by decide +kernel
  show (((decide (1 < 6)) && (lvF.all fun p => clA 6 p.2)) && _) = true
  rw [this]
  rfl
/-- the leaves, no longer changed -/
abbrev lvP (K : PySem.W.Frag) (C : Addr) (L : LV) : A := .p (Frz K (lvO C L) 0)
theorem fp_signs {K : PySem.W.Frag} {mg : Str → Option Value} {C : Addr} {L : LV} {te : TE} {e : Env} (c : LvC K mg C) (h : AE K te e (lvP K C L)) : AE K (tFld K te "signs") e (.d (.lst (L.signs.map .str))) := ae_fldP (m := lvO C L) h rfl c.cl c.nS lv_signs
theorem fp_after {K : PySem.W.Frag} {mg : Str → Option Value} {C : Addr} {L : LV} {te : TE} {e : Env} (c : LvC K mg C) (h : AE K te e (lvP K C L)) : AE K (tFld K te "after") e (.d (.lst (L.after.map natD))) := ae_fldP (m := lvO C L) h rfl c.cl c.nA lv_after
theorem fp_having {K : PySem.W.Frag} {mg : Str → Option Value} {C : Addr} {L : LV} {te : TE} {e : Env} (c : LvC K mg C) (h : AE K te e (lvP K C L)) : AE K (tFld K te "having") e (.p (Frz K (lvO C L) 4)) := ae_fldP (m := lvO C L) h rfl c.cl c.nH lv_having
theorem fp_ends {K : PySem.W.Frag} {mg : Str → Option Value} {C : Addr} {L : LV} {te : TE} {e : Env} (c : LvC K mg C) (h : AE K te e (lvP K C L)) : AE K (tFld K te "ends") e (.d (.lst (L.ends.map natD))) := ae_fldP (m := lvO C L) h rfl c.cl c.nE lv_ends
theorem fo_signs {K : PySem.W.Frag} {mg : Str → Option Value} {C : Addr} {te : TE} {e : Env} (c : LvC K mg C) (h : AE K te e (.o 0)) (hk : e.m[0]? = some (some (.ins C 1 lvF))) : AE K (tFld K te "signs") e (.o 2) := ae_fldO h hk c.cl c.nS lv_signs
theorem fo_ends {K : PySem.W.Frag} {mg : Str → Option Value} {C : Addr} {te : TE} {e : Env} (c : LvC K mg C) (h : AE K te e (.o 0)) (hk : e.m[0]? = some (some (.ins C 1 lvF))) : AE K (tFld K te "ends") e (.o 5) := ae_fldO h hk c.cl c.nE lv_ends
/-! ### Leaves() -/
abbrev s_Leaves_init : Stmt := inClass (topS 10) 0
theorem sc_Leaves_init : FnScope ["self"] ["self"] (defScope s_Leaves_init) := ⟨rfl, rfl, rfl, by decide +kernel, rfl, by decide +kernel, by decide +kernel⟩
def R_Leaves_init (C : Addr) (as : List A) (M : List O) (r : A) (M' : List O) : Prop := as = [.o 0] ∧ M = [.ins C 1 [], .own 0] ∧ r = .d .non ∧ M' = lvO C LV.new
abbrev Has_Leaves_init (P : Program) (w : World) (K : PySem.W.Frag) (mg : Str → Option Value) (base : Heap) (C : Addr) : Prop := HasM P w K mg base C "__init__" ["self"] 1 (SpM K (R_Leaves_init C))
theorem ok_Leaves_init {C : Addr} (DD : MethAt K C "__init__" "Leaves.__init__" s_Leaves_init ["self"]) (c_Leaves : LvC K mg C) : Has_Leaves_init P w K mg base C := by
  refine okMM DD sc_Leaves_init (by rintro as M r M' ⟨rfl, _⟩; rfl) fun _ _ _ _ _ _ _ hr => ⟨_, (pss_cons (ps_fld (pv 0) (pe_lst (pa_cons pe_str pa_nil)) rfl)
      (pss_cons (ps_fld (pv 0) (pe_lst (pa_cons pe_int pa_nil)) rfl)
      (pss_cons (ps_fld (pv 0) pe_dnewK rfl)
      (pss_one (ps_fld (pv 0) (pe_lst pa_nil) rfl))))), ?_⟩
  rintro as M r M' ⟨rfl, rfl, rfl, rfl⟩
  refine ⟨by show 2 ≤ 6; decide, rfl, lvO_cl _ _, ?_⟩
  refine as_seq (as_fldX (k := 0) ((an_lst' (ds := [.str []]) (ald_cons (ae_str rfl) ald_nil)).ax ⟨1, [], ae_var rfl rfl, rfl, by decide +kernel, ?_⟩) c_Leaves.cl c_Leaves.nS)
  refine as_seq (as_fldX (k := 0) ((an_lst' (ds := [.int 0]) (ald_cons ae_int ald_nil)).ax ⟨1, putFA "signs" (.o 2) [], ae_var rfl rfl, rfl, by decide +kernel, ?_⟩) c_Leaves.cl c_Leaves.nA)
  refine as_seq (as_fldX (k := 0) (ax_dnew ⟨1, putFA "after" (.o 3) (putFA "signs" (.o 2) []), ae_var rfl rfl, rfl, by decide +kernel, ?_⟩) c_Leaves.cl c_Leaves.nH)
  refine as_fldX (k := 0) ((an_lst' (ds := []) ald_nil).ax ⟨1, putFA "having" (.o 4) (putFA "after" (.o 3) (putFA "signs" (.o 2) [])), ae_var rfl rfl, rfl, by decide +kernel, ?_⟩) c_Leaves.cl c_Leaves.nE
  exact ⟨rfl, List.prefix_refl _⟩
/-! ### one more leaf -/
abbrev s_Leaves_new_leaf : Stmt := inClass (topS 10) 1
theorem sc_Leaves_new_leaf : FnScope ["self", "signs", "leaf", "sign"] ["self", "signs"] (defScope s_Leaves_new_leaf) := ⟨rfl, rfl, rfl, by decide +kernel, rfl, by decide +kernel, by decide +kernel⟩
def R_Leaves_new_leaf (C : Addr) (as : List A) (M : List O) (r : A) (M' : List O) : Prop := ∃ (L : LV) (s : List Nat), as = [.o 0, .d (.str s)] ∧ M = lvO C L ∧ r = .d (natD (2 ^ L.signs.length)) ∧ M' = lvO C (newLeaf L s) ∧ L.Ok ∧ Wf (.one s) ∧ L.signs.length ≤ 60
abbrev Has_Leaves_new_leaf (P : Program) (w : World) (K : PySem.W.Frag) (mg : Str → Option Value) (base : Heap) (C : Addr) : Prop := HasM P w K mg base C "new_leaf" ["self", "signs"] 1 (SpM K (R_Leaves_new_leaf C))
theorem shl_one (n : Nat) : (1 : Int) * 2 ^ ((n : Nat) : Int).toNat = ((2 ^ n : Nat) : Int) := by
  rw [Int.one_mul, Int.toNat_natCast, Int.natCast_pow]
  rfl
theorem ok_Leaves_new_leaf {C : Addr} (DD : MethAt K C "new_leaf" "Leaves.new_leaf" s_Leaves_new_leaf ["self", "signs"]) (c_Leaves : LvC K mg C) {tL : Tok} (g_MOST_LEAVES : mg "MOST_LEAVES" = some (.int 60 tL)) (m_len : mg "len" = none) (m_set : mg "set" = none) : Has_Leaves_new_leaf P w K mg base C := by
  refine okMM DD sc_Leaves_new_leaf (by rintro as M r M' ⟨_, _, rfl, _⟩; rfl) fun _ _ _ _ _ _ _ hr => ⟨_, (pss_cons (ps_if (pt_cmpR op_eq (pv 1) pe_str (nomark _)) (pss_one ps_never) pss_nil)
      (pss_cons (ps_if (pt_cmpR op_lt (pe_lenSetT (by rfl) (by rfl) m_len (by rfl) m_set (pv 1)) (pe_callB call_len (by rfl) m_len (by decide +kernel) (pa_cons (pv 1) pa_nil)) (nomark _)) (pss_one ps_never) pss_nil)
      (pss_cons (ps_if (pt_cmpR op_gt (pe_callB call_len (by rfl) m_len (by decide +kernel) (pa_cons (pe_fld (pv 0) rfl) pa_nil)) (pe_glob (v := .int 60) (by rfl) g_MOST_LEAVES ⟨_, rfl⟩) (nomark _)) (pss_one ps_never) pss_nil)
      (pss_cons (ps_set (i := 2) sc_Leaves_new_leaf.nd rfl (.inl rfl) (pe_op op_shl pe_int (pe_callB call_len (by rfl) m_len (by decide +kernel) (pa_cons (pe_fld (pv 0) rfl) pa_nil))))
      (pss_cons (ps_expr (pe_bm PySem.F.plainAttrs_list PySem.F.slot_list_append PySem.F.type_list_append mt_append (pe_fld (pv 0) rfl) (pa_cons (pv 1) pa_nil)))
      (pss_cons (ps_expr (pe_bm PySem.F.plainAttrs_list PySem.F.slot_list_append PySem.F.type_list_append mt_append (pe_fld (pv 0) rfl) (pa_cons pe_int pa_nil)))
      (pss_cons (ps_for PassesOwn.never rfl (pi_str (pv 1)) (pg_name (i := 3) sc_Leaves_new_leaf.nd rfl (.inl rfl)) (pss_one (ps_dput (hu_of hr) (pe_fld (pv 0) rfl) (pv 3) (pe_op op_or (pe_dget2 (hu_of hr) (pe_fld (pv 0) rfl) (pv 3) pe_int ⟨rfl, rfl, rfl, rfl⟩) (pv 2)) rfl)))
      (pss_one (ps_ret (pv 2)))))))))), ?_⟩
  rintro as M r M' ⟨L, s, rfl, rfl, rfl, rfl, hL, hw, hl⟩
  obtain ⟨w0, w1, w2, w3⟩ := hw
  refine ⟨Nat.le_refl _, rfl, lvO_cl _ _, ?_⟩
  -- no sign, a sign twice, too many
  refine as_seq (as_if (at_val (ae_op (ae_var rfl rfl) (ae_str (s := []) rfl) a2_eqS)) (fun h => ?_) (fun h => as_next ?_))
  · exact absurd (of_decide_eq_true h) w0
  refine as_seq (as_if (b := false) ((at_val (ae_op (z := .d (.bl (decide ((unlike s : Int) < (s.length : Int))))) (ae_lenSet (ae_var rfl rfl) (by omega)) (ae_cb (al_cons (ae_var rfl rfl) al_nil) (ac_lenS (by omega))) a2_I0b)).eq (by rw [unlike_nodup w1]; exact decide_eq_false (by omega))) (fun h => ?_) (fun h => as_next ?_))
  · cases h
  have fS : ∀ e : Env, e.s[0]? = some (.o 0) → e.m[0]? = some (some (.ins C 1 lvF)) → AE K (tFld K (tVar 0) "signs") e (.o 2) := fun e h1 h2 => ae_fldO (ae_var h1 rfl) h2 c_Leaves.cl c_Leaves.nS lv_signs
  have fA : ∀ e : Env, e.s[0]? = some (.o 0) → e.m[0]? = some (some (.ins C 1 lvF)) → AE K (tFld K (tVar 0) "after") e (.o 3) := fun e h1 h2 => ae_fldO (ae_var h1 rfl) h2 c_Leaves.cl c_Leaves.nA lv_after
  have fH : ∀ e : Env, e.s[0]? = some (.o 0) → e.m[0]? = some (some (.ins C 1 lvF)) → AE K (tFld K (tVar 0) "having") e (.o 4) := fun e h1 h2 => ae_fldO (ae_var h1 rfl) h2 c_Leaves.cl c_Leaves.nH lv_having
  refine as_seq (as_if (b := false) ((at_val (ae_op (ae_cb (al_cons (fS _ rfl rfl) al_nil) (ac_lenO rfl)) ae_int a2_I0b)).eq (by rw [List.length_map]; exact decide_eq_false (by omega))) (fun h => ?_) (fun h => as_next ?_))
  · cases h
  -- leaf = 1 << len(self.signs)
  refine as_seq (as_asg ((ae_op ae_int (ae_cb (al_cons (fS _ rfl rfl) al_nil) (ac_lenO rfl)) (a2_shl ⟨by omega, by rw [List.length_map]; omega, by decide⟩)).eq (b := .d (natD (2 ^ L.signs.length))) (by rw [List.length_map, shl_one]; rfl)) ?_)
  refine as_seq (as_app (fS _ rfl rfl) (ae_var rfl rfl) rfl (by rw [List.length_map]; omega) ?_)
  refine as_seq (as_app (fA _ rfl rfl) ae_int rfl (by rw [List.length_map, hL.len]; omega) ?_)
  have hm := hL.hav
  refine as_seq (as_forE (fun i => ⟨[.o 0, .d (.str s), .d (natD (2 ^ L.signs.length)), .no], (lvO C ⟨L.signs ++ [s], L.after ++ [0], hadd (2 ^ L.signs.length) L.having (s.take i), L.ends⟩).map some⟩) (ai_str (n := s.length) (f := fun i => s.getD i 0) (ae_var rfl rfl) rfl (fun i hi => by rw [List.getD_eq_getElem?_getD, List.getElem?_eq_getElem hi]; rfl)) ⟨⟨.inr rfl, .inr rfl, .inr rfl, .inl rfl, trivial⟩, ?_⟩ (fun i hi => ?_) fun e' le => ?_)
  · show ([some (O.ins C 1 lvF), some (O.own 0), some (O.lst (L.signs.map D.str ++ [D.str s])), some (O.lst (L.after.map natD ++ [D.int 0])), some (O.dk (L.having.map hvD)), some (O.lst (L.ends.map natD))] : List (Option O)) = [_, _, some (O.lst ((L.signs ++ [s]).map D.str)), some (O.lst ((L.after ++ [0]).map natD)), _, _]
    rw [List.map_append, List.map_append]
    rfl
  · refine ag_name ?_
    have hc : s[i]? = some (s.getD i 0) := by rw [List.getD_eq_getElem?_getD, List.getElem?_eq_getElem hi]; rfl
    have hln := hadd_len (2 ^ L.signs.length) (s.take i) L.having
    have htk : (s.take i).length ≤ s.length := by rw [List.length_take]; omega
    have gt : AE K (tDGet2 (tFld K (tVar 0) "having") (tVar 3) (tC (.int 0))) ⟨[.o 0, .d (.str s), .d (natD (2 ^ L.signs.length)), .d (.str [s.getD i 0])], (lvO C ⟨L.signs ++ [s], L.after ++ [0], hadd (2 ^ L.signs.length) L.having (s.take i), L.ends⟩).map some⟩ (.d (natD (hget (hadd (2 ^ L.signs.length) L.having (s.take i)) (s.getD i 0)))) :=
      (ae_get2O (k := .inr (sOf [s.getD i 0])) (fH _ rfl rfl) rfl (ae_var rfl rfl) ae_int).eq (by rw [hget_val])
    refine as_dput (k := .inr (sOf [s.getD i 0])) (d := natD (hget (hadd (2 ^ L.signs.length) L.having (s.take i)) (s.getD i 0) ||| 2 ^ L.signs.length)) ((ae_op gt (ae_var rfl rfl) a2_I0).eq (by rw [bitOr_nat]; rfl)) (fH _ rfl rfl) (ae_var rfl rfl) rfl (by rw [List.length_map]; show (hadd (2 ^ L.signs.length) L.having (s.take i)).length < 1000000; omega) ?_
    refine ⟨⟨.inr rfl, .inr rfl, .inr rfl, .inl rfl, trivial⟩, ?_⟩
    show ([some (O.ins C 1 lvF), some (O.own 0), some (O.lst ((L.signs ++ [s]).map D.str)), some (O.lst ((L.after ++ [0]).map natD)), some (O.dk (putD ((hadd (2 ^ L.signs.length) L.having (s.take i)).map hvD) (.inr (sOf [s.getD i 0])) (natD (hget (hadd (2 ^ L.signs.length) L.having (s.take i)) (s.getD i 0) ||| 2 ^ L.signs.length)))), some (O.lst (L.ends.map natD))] : List (Option O)) = [_, _, _, _, some (O.dk ((hadd (2 ^ L.signs.length) L.having (s.take (i + 1))).map hvD)), _]
    rw [put_hv, List.take_add_one, hc]
    show _ = [_, _, _, _, some (O.dk ((hadd (2 ^ L.signs.length) L.having (s.take i ++ [s.getD i 0])).map hvD)), _]
    rw [hadd_snoc]
  · refine AS.le (as_ret (ae_var rfl rfl) ⟨rfl, ?_⟩) le
    rw [List.take_of_length_le (Nat.le_refl _)]
    exact List.prefix_refl _
/-! ### members -/
abbrev s_members : Stmt := topS 12
theorem sc_members : FnScope ["some", "found", "lowest"] ["some"] (defScope s_members) := ⟨rfl, rfl, rfl, by decide +kernel, rfl, by decide +kernel, by decide +kernel⟩
def R_members (as : List A) (r : A) : Prop := ∃ n : Nat, as = [.d (natD n)] ∧ n < 2 ^ 100 ∧ r = .d (natsD (bitsOf n))
abbrev Has_members (P : Program) (w : World) (K : PySem.W.Frag) (mg : Str → Option Value) (base : Heap) : Prop := Has P w K mg base "members" ["some"] 1 (SpF K R_members)
theorem ok_members (DD : DefAt K mg "members" s_members ["some"]) : Has_members P w K mg base := by
  refine okF DD sc_members (by rintro as r ⟨_, rfl, _⟩; rfl) fun _ _ _ _ _ _ _ hr => ⟨_, (pss_cons (ps_set (i := 1) sc_members.nd rfl (.inl rfl) (pe_lst pa_nil))
      (pss_cons (ps_while PassesOwn.never (pt_truth (pv 0) (by intro _; rfl)) (pss_cons (ps_set (i := 2) sc_members.nd rfl (.inl rfl) (pe_op op_and (pv 0) (pe_un un_neg (pv 0))))
      (pss_cons (ps_expr (pe_bm PySem.F.plainAttrs_list PySem.F.slot_list_append PySem.F.type_list_append mt_append (pv 1) (pa_cons (pe_op op_sub (pe_bits (pv 2)) pe_int) pa_nil)))
      (pss_one (ps_aug (i := 0) sc_members.nd rfl (.inl rfl) (pv 2) iop_xor)))))
      (pss_one (ps_ret (pv 1))))), ?_⟩
  rintro as r ⟨n, rfl, hn, rfl⟩
  refine as_seq (as_asgN (an_lst' (ds := []) ald_nil) ?_)
  refine as_seq (as_while (fun m e' => ∃ acc : List Nat, acc ++ bitsOf m = bitsOf n ∧ Le e' ⟨[.d (natD m), .o 0, .no], [some (.lst (acc.map natD))]⟩) ⟨n, [], rfl, ⟨⟨.inr rfl, .inr rfl, .inl rfl, trivial⟩, rfl⟩⟩ fun m e' I => ?_)
  obtain ⟨acc, h1, le⟩ := I
  refine ⟨_, AT.le le (at_trI (i := (m : Int)) (ae_var rfl rfl)), fun h => AS.le ?_ le, fun h => AS.le ?_ le⟩
  · have h0 : m ≠ 0 := fun q => by
      subst q
      cases h
    have hb := bitsOf_low h0
    have hl := bitsOf_len hn
    have hlo := low_le m h0
    rw [hb] at h1
    have hlen : acc.length < 1000000 := by
      rw [← h1, List.length_append] at hl
      omega
    refine as_seq (as_asg ((ae_op (ae_var rfl rfl) (ae_un (ae_var rfl rfl) a1_neg) a2_I0).eq (b := .d (natD (2 ^ ctz m))) (by rw [low_bit h0]; rfl)) ?_)
    refine as_seq (as_app (x := natD (ctz m)) (ae_var rfl rfl) ((ae_op (ae_bits (ae_var rfl rfl)) ae_int a2_I0).eq (by rw [log_low]; show A.d (.int ((ctz m + 1 : Nat) - 1)) = _; congr 2; omega)) rfl (by rw [List.length_map]; exact hlen) ?_)
    refine as_augN (p := natD m) (z := .d (natD (m - 2 ^ ctz m))) rfl (ae_var rfl rfl) ?_ ⟨m - 2 ^ ctz m, Nat.sub_lt (Nat.pos_of_ne_zero h0) (Nat.pos_of_ne_zero hlo.2), acc ++ [ctz m], ?_, ⟨⟨.inr rfl, .inr rfl, .inl rfl, trivial⟩, ?_⟩⟩
    · have := a2_I0 (K := K) (e := ⟨[.d (natD m), .o 0, .d (natD (2 ^ ctz m))], [some (.lst (acc.map natD ++ [natD (ctz m)]))]⟩) (g := fun i j => V.int (Builtin.bitXor i j)) (i := (m : Int)) (j := ((2 ^ ctz m : Nat) : Int)) (k := ((m - 2 ^ ctz m : Nat) : Int)) (by rw [xor_low h0])
      exact this
    · rw [← h1, List.append_assoc]
      rfl
    · show ([some (O.lst (acc.map natD ++ [natD (ctz m)]))] : List (Option O)) = [some (O.lst ((acc ++ [ctz m]).map natD))]
      rw [List.map_append]
      rfl
  · have h0 : m = 0 := by
      have h : ((m : Int) != 0) = false := h
      have := bne_eq_false_iff_eq.mp h
      omega
    subst h0
    rw [bitsOf_zero, List.append_nil] at h1
    subst h1
    exact as_frz 0 rfl (Nat.zero_le _) (as_ret (ae_var rfl rfl) ⟨rfl, rfl⟩)
/-! ### link -/
abbrev s_Leaves_link : Stmt := inClass (topS 10) 2
theorem sc_Leaves_link : FnScope ["self", "lasts", "firsts", "leaf"] ["self", "lasts", "firsts"] (defScope s_Leaves_link) := ⟨rfl, rfl, rfl, by decide +kernel, rfl, by decide +kernel, by decide +kernel⟩
def R_Leaves_link (C : Addr) (as : List A) (M : List O) (r : A) (M' : List O) : Prop := ∃ (L : LV) (l f : Nat), as = [.o 0, .d (natD l), .d (natD f)] ∧ M = lvO C L ∧ r = .d .non ∧ M' = lvO C (link L l f) ∧ L.Ok ∧ l < 2 ^ L.signs.length
abbrev Has_Leaves_link (P : Program) (w : World) (K : PySem.W.Frag) (mg : Str → Option Value) (base : Heap) (C : Addr) : Prop := HasM P w K mg base C "link" ["self", "lasts", "firsts"] 2 (SpM K (R_Leaves_link C))
theorem ixN_nat {n i : Nat} (h : i < n) : ixN n ((i : Nat) : Int) = some i := by
  unfold ixN
  rw [if_pos (by omega), if_pos (by omega), Int.toNat_natCast]
theorem nat_at {l : List Nat} {i : Nat} (h : i < l.length) : (l.map natD)[i]? = some (.int (l.getD i 0 : Nat)) := by
  rw [List.getElem?_map, List.getElem?_eq_getElem h, List.getD_eq_getElem?_getD, List.getElem?_eq_getElem h]
  rfl
theorem ok_Leaves_link {C : Addr} (DD : MethAt K C "link" "Leaves.link" s_Leaves_link ["self", "lasts", "firsts"]) (c_Leaves : LvC K mg C) (H_members : Has_members P w K mg base) : Has_Leaves_link P w K mg base C := by
  refine okMM DD sc_Leaves_link (by rintro as M r M' ⟨_, _, _, rfl, _⟩; rfl) fun _ _ _ _ _ _ _ hr => ⟨_, (pss_one (ps_for PassesOwn.never rfl (pi_list (pe_has H_members (hr.mono (by decide)) (by rfl) (pa_cons (pv 1) pa_nil))) (pg_name (i := 3) sc_Leaves_link.nd rfl (.inl rfl)) (pss_one (ps_augS (pe_fld (pv 0) rfl) (pv 3) get_list (pv 2) iop_or set_list)))), ?_⟩
  rintro as M r M' ⟨L, l, f, rfl, rfl, rfl, rfl, hL, hl⟩
  refine ⟨Nat.le_refl _, rfl, lvO_cl _ _, ?_⟩
  have h6 := hL.few
  refine as_forE (fun i => ⟨[.o 0, .d (natD l), .d (natD f), .no], (lvO C { L with after := linkL L.after ((bitsOf l).take i) f }).map some⟩) (ai_list (xs := (bitsOf l).map natD) (n := (bitsOf l).length) (f := fun i => natD ((bitsOf l).getD i 0)) (ae_call (al_cons (ae_var rfl rfl) al_nil) rfl ⟨l, rfl, pow_mono hl (by omega), rfl⟩) (List.length_map ..) (fun i hi => nat_at hi)) ⟨⟨.inr rfl, .inr rfl, .inr rfl, .inl rfl, trivial⟩, rfl⟩ (fun i hi => ?_) fun e' le => ?_
  · refine ag_name ?_
    have hq : (bitsOf l)[i]? = some ((bitsOf l).getD i 0) := by rw [List.getD_eq_getElem?_getD, List.getElem?_eq_getElem hi]; rfl
    have hlt : (bitsOf l).getD i 0 < (linkL L.after ((bitsOf l).take i) f).length := by
      rw [linkL_len, hL.len]
      exact bitsOf_lt hl (List.mem_of_getElem? hq)
    refine as_augI (j := (bitsOf l).getD i 0) (ds := (linkL L.after ((bitsOf l).take i) f).map natD) (a := ((linkL L.after ((bitsOf l).take i) f).getD ((bitsOf l).getD i 0) 0 : Nat)) (b := (f : Nat)) (cc := ((linkL L.after ((bitsOf l).take i) f).getD ((bitsOf l).getD i 0) 0 ||| f : Nat))
      (ae_fldO (ae_var rfl rfl) rfl c_Leaves.cl c_Leaves.nA lv_after) (ae_var rfl rfl) (ae_var rfl rfl) rfl (by rw [List.length_map]; exact ixN_nat hlt) (nat_at hlt) (by rw [bitOr_nat]) ⟨⟨.inr rfl, .inr rfl, .inr rfl, .inl rfl, trivial⟩, ?_⟩
    show ([some (O.ins C 1 lvF), some (O.own 0), _, some (O.lst (((linkL L.after ((bitsOf l).take i) f).map natD).set ((bitsOf l).getD i 0) (natD ((linkL L.after ((bitsOf l).take i) f).getD ((bitsOf l).getD i 0) 0 ||| f)))), _, _] : List (Option O)) = [_, _, _, some (O.lst ((linkL L.after ((bitsOf l).take (i + 1)) f).map natD)), _, _]
    rw [List.take_add_one, hq]
    show _ = [_, _, _, some (O.lst ((linkL L.after ((bitsOf l).take i ++ [(bitsOf l).getD i 0]) f).map natD)), _, _]
    rw [linkL_snoc, List.map_set]
  · refine ⟨rfl, ?_⟩
    rw [le.m, List.take_of_length_le (Nat.le_refl _)]
    exact List.prefix_refl _
/-! ### all_signs -/
abbrev s_Leaves_all_signs : Stmt := inClass (topS 10) 4
theorem sc_Leaves_all_signs : FnScope ["self"] ["self"] (defScope s_Leaves_all_signs) := ⟨rfl, rfl, rfl, by decide +kernel, rfl, by decide +kernel, by decide +kernel⟩
def R_Leaves_all_signs (K : PySem.W.Frag) (C : Addr) (as : List A) (r : A) : Prop := ∃ L : LV, as = [lvP K C L] ∧ r = .d (.str (sgns L.signs.flatten)) ∧ (∀ c ∈ L.signs.flatten, c < 128) ∧ L.signs.flatten.length ≤ 1000000
abbrev Has_Leaves_all_signs (P : Program) (w : World) (K : PySem.W.Frag) (mg : Str → Option Value) (base : Heap) (C : Addr) : Prop := HasM P w K mg base C "all_signs" ["self"] 1 (SpF K (R_Leaves_all_signs K C))
theorem ok_Leaves_all_signs {C : Addr} (DD : MethAt K C "all_signs" "Leaves.all_signs" s_Leaves_all_signs ["self"]) (c_Leaves : LvC K mg C) (m_sorted : mg "sorted" = none) (m_set : mg "set" = none) : Has_Leaves_all_signs P w K mg base C := by
  refine okMF DD sc_Leaves_all_signs (by rintro as r ⟨_, rfl, _⟩; rfl) fun _ _ _ _ _ _ _ hr => ⟨_, (pss_one (ps_ret (pe_join pe_str (pe_sortSetT (by rfl) (by rfl) m_sorted (by rfl) m_set (pe_join pe_str (pe_fld (pv 0) rfl)))))), ?_⟩
  rintro as r ⟨L, rfl, rfl, hs, hz⟩
  have h1 := flat_len L.signs
  have h2 := sgns_len L.signs.flatten
  refine as_ret (ae_m1 (ae_str (s := []) (by decide +kernel)) (an_sortSet (s := L.signs.flatten) (ae_m1 (ae_str (s := []) (by decide +kernel)) (fp_signs c_Leaves (ae_var rfl rfl)) (am_joinT L.signs rfl (by show _ + _ * 0 ≤ _; omega) (joinL_nil _))) hs).ae (am_joinT ((sgns L.signs.flatten).map fun c => [c]) (onesD_map _) (by rw [ones_sum]; show _ + _ * 0 ≤ _; omega) ones_join)) ⟨rfl, rfl⟩
/-! ### shapes -/
abbrev s_shape : Stmt := topS 13
abbrev s_row_shape : Stmt := topS 14
abbrev s_or_shape : Stmt := topS 15
abbrev s_shapes : Stmt := topS 16
theorem sc_shape : FnScope ["leaves", "pattern", "kind", "inner", "leaf", "_", "firsts", "lasts"] ["leaves", "pattern"] (defScope s_shape) := ⟨rfl, rfl, rfl, by decide +kernel, rfl, by decide +kernel, by decide +kernel⟩
theorem sc_row_shape : FnScope ["leaves", "parts", "empty", "firsts", "lasts", "part_empty", "part_firsts", "part_lasts"] ["leaves", "parts"] (defScope s_row_shape) := ⟨rfl, rfl, rfl, by decide +kernel, rfl, by decide +kernel, by decide +kernel⟩
theorem sc_or_shape : FnScope ["leaves", "parts", "empty", "firsts", "lasts", "part_empty", "part_firsts", "part_lasts"] ["leaves", "parts"] (defScope s_or_shape) := ⟨rfl, rfl, rfl, by decide +kernel, rfl, by decide +kernel, by decide +kernel⟩
theorem sc_shapes : FnScope ["leaves", "parts", "shapes", "bare", "part", "shape", "before"] ["leaves", "parts"] (defScope s_shapes) := ⟨rfl, rfl, rfl, by decide +kernel, rfl, by decide +kernel, by decide +kernel⟩
def shD (s : Sh) : D := .tup [.bl s.e, natD s.f, natD s.l]
def R_shape (C : Addr) (d : Nat) (as : List A) (M : List O) (r : A) (M' : List O) : Prop := ∃ (L : LV) (p : Pat), as = [.o 0, .d (patD p)] ∧ M = lvO C L ∧ r = .d (shD (shape p L).2) ∧ M' = lvO C (shape p L).1 ∧ L.Ok ∧ Wf p ∧ L.signs.length + nl p ≤ 61 ∧ dep p ≤ d
def R_row_shape (C : Addr) (d : Nat) (as : List A) (M : List O) (r : A) (M' : List O) : Prop := ∃ (L : LV) (ps : List Pat), as = [.o 0, .d (.lst (patsD ps))] ∧ M = lvO C L ∧ r = .d (shD (shape (.row ps) L).2) ∧ M' = lvO C (shape (.row ps) L).1 ∧ L.Ok ∧ Wfs ps ∧ ps.length ≤ 1000 ∧ L.signs.length + nls ps ≤ 61 ∧ deps ps ≤ d
def R_or_shape (C : Addr) (d : Nat) (as : List A) (M : List O) (r : A) (M' : List O) : Prop := ∃ (L : LV) (ps : List Pat), as = [.o 0, .d (.lst (patsD ps))] ∧ M = lvO C L ∧ r = .d (shD (shape (.or ps) L).2) ∧ M' = lvO C (shape (.or ps) L).1 ∧ L.Ok ∧ Wfs ps ∧ ps.length ≤ 1000 ∧ ps ≠ [] ∧ L.signs.length + nls ps ≤ 61 ∧ deps ps ≤ d
def R_shapes (C : Addr) (d : Nat) (as : List A) (M : List O) (r : A) (M' : List O) : Prop := ∃ (L : LV) (ps : List Pat), as = [.o 0, .d (.lst (patsD ps))] ∧ M = lvO C L ∧ r = .d (.lst ((shapes ps L).2.map shD)) ∧ M' = lvO C (shapes ps L).1 ∧ L.Ok ∧ Wfs ps ∧ ps.length ≤ 1000 ∧ L.signs.length + nls ps ≤ 61 ∧ deps ps ≤ d
abbrev Has_shape (P : Program) (w : World) (K : PySem.W.Frag) (mg : Str → Option Value) (base : Heap) (C : Addr) (d : Nat) : Prop := Has P w K mg base "_shape" ["leaves", "pattern"] (3 * d + 3) (SpM K (R_shape C d))
abbrev Has_shapes (P : Program) (w : World) (K : PySem.W.Frag) (mg : Str → Option Value) (base : Heap) (C : Addr) (d : Nat) : Prop := Has P w K mg base "_shapes" ["leaves", "parts"] (3 * d + 4) (SpM K (R_shapes C d))
abbrev Has_row_shape (P : Program) (w : World) (K : PySem.W.Frag) (mg : Str → Option Value) (base : Heap) (C : Addr) (d : Nat) : Prop := Has P w K mg base "_row_shape" ["leaves", "parts"] (3 * d + 5) (SpM K (R_row_shape C d))
abbrev Has_or_shape (P : Program) (w : World) (K : PySem.W.Frag) (mg : Str → Option Value) (base : Heap) (C : Addr) (d : Nat) : Prop := Has P w K mg base "_or_shape" ["leaves", "parts"] (3 * d + 5) (SpM K (R_or_shape C d))
theorem rowGo_snoc : ∀ (xs : List Sh) (L : LV) (s p : Sh), rowGo L s (xs ++ [p]) = (link (rowGo L s xs).1 (rowGo L s xs).2.l p.f, ⟨(rowGo L s xs).2.e && p.e, if (rowGo L s xs).2.e = true then (rowGo L s xs).2.f ||| p.f else (rowGo L s xs).2.f, (if p.e = true then (rowGo L s xs).2.l else 0) ||| p.l⟩)
  | [], L, s, p => rfl
  | x :: xs, L, s, p => rowGo_snoc xs _ _ p
theorem orGo_snoc : ∀ (xs : List Sh) (s p : Sh), orGo s (xs ++ [p]) = ⟨(orGo s xs).e || p.e, (orGo s xs).f ||| p.f, (orGo s xs).l ||| p.l⟩
  | [], s, p => rfl
  | x :: xs, s, p => orGo_snoc xs _ p
theorem shapes_snoc : ∀ (ps : List Pat) (L : LV) (p : Pat), shapes (ps ++ [p]) L = ((shape p (shapes ps L).1).1, (shapes ps L).2 ++ [(shape p (shapes ps L).1).2])
  | [], L, p => rfl
  | q :: ps, L, p => by
    show ((shapes (ps ++ [p]) (shape q L).1).1, (shape q L).2 :: (shapes (ps ++ [p]) (shape q L).1).2) = _
    rw [shapes_snoc ps]
    rfl
theorem or_D {a b : Nat} {e : Env} : A2 K (rI0 fun i j => .int (Builtin.bitOr i j)) (.d (natD a)) (.d (natD b)) e (.d (natD (a ||| b))) := a2_I0 (by rw [bitOr_nat])
theorem lt_no {m : Str} (h : m = "link" ∨ m = "new_leaf" ∨ m = "step" ∨ m = "told") : lvF.lookup m = none := by
  rcases h with rfl | rfl | rfl | rfl <;> exact lv_no (by decide +kernel) (by decide +kernel) (by decide +kernel) (by decide +kernel)
theorem take_sn {α : Type} {l : List α} {i : Nat} {x : α} (h : l[i]? = some x) : l.take (i + 1) = l.take i ++ [x] := by
  rw [List.take_add_one, h]
  rfl
theorem mk_row_shape {C : Addr} {d : Nat} (DD : DefAt K mg "_row_shape" s_row_shape ["leaves", "parts"]) (c_Leaves : LvC K mg C) (H_shapes : Has_shapes P w K mg base C d) (H_Leaves_link : Has_Leaves_link P w K mg base C) {a_BARE : Addr} (g_BARE : mg "BARE" = some (.ref a_BARE)) (q_BARE : ∀ H, SqT K H a_BARE [.bl true, .int 0, .int 0]) : Has_row_shape P w K mg base C d := by
  refine okM DD sc_row_shape (by rintro as M r M' ⟨_, _, rfl, _⟩; rfl) fun _ _ _ _ _ _ _ hr => ⟨_, (pss_cons (ps_asg (pe_glob (v := .ref a_BARE) (by rfl) g_BARE rfl) (pg_tup rfl (pgs_cons (pg_name (i := 2) sc_row_shape.nd rfl (.inl rfl)) (pgs_cons (pg_name (i := 3) sc_row_shape.nd rfl (.inl rfl)) (pgs_cons (pg_name (i := 4) sc_row_shape.nd rfl (.inl rfl)) pgs_nil)))))
      (pss_cons (ps_for PassesOwn.never rfl (pi_list (pe_has H_shapes (hr.mono (by omega)) (by rfl) (pa_cons (pv 0) (pa_cons (pv 1) pa_nil)))) (pg_tup rfl (pgs_cons (pg_name (i := 5) sc_row_shape.nd rfl (.inl rfl)) (pgs_cons (pg_name (i := 6) sc_row_shape.nd rfl (.inl rfl)) (pgs_cons (pg_name (i := 7) sc_row_shape.nd rfl (.inl rfl)) pgs_nil)))) (pss_cons (ps_expr (pe_hasM c_Leaves.cl H_Leaves_link (hr.mono (by omega)) (pv 0) (pa_cons (pv 4) (pa_cons (pv 6) pa_nil))))
      (pss_cons (ps_if (pt_val (pv 2)) (pss_one (ps_aug (i := 3) sc_row_shape.nd rfl (.inl rfl) (pv 6) iop_or)) pss_nil)
      (pss_cons (ps_if (pt_not (pt_val (pv 5))) (pss_one (ps_set (i := 4) sc_row_shape.nd rfl (.inl rfl) pe_int)) pss_nil)
      (pss_cons (ps_aug (i := 4) sc_row_shape.nd rfl (.inl rfl) (pv 7) iop_or)
      (pss_one (ps_set (i := 2) sc_row_shape.nd rfl (.inl rfl) (pe_and (pv 2) (pe_one (pv 5))))))))))
      (pss_one (ps_ret (pe_tup (pa_cons (pv 2) (pa_cons (pv 3) (pa_cons (pv 4) pa_nil)))))))), ?_⟩
  rintro as M r M' ⟨L, ps, rfl, rfl, rfl, rfl, hL, hw, hz, hl, hd⟩
  refine ⟨Nat.le_refl _, rfl, lvO_cl _ _, ?_⟩
  obtain ⟨k1, k2, k3⟩ := shapes_ok ps L hL hw hl
  refine as_seq (as_asgG (ae_constT (ds := [.bl true, .int 0, .int 0]) q_BARE (fun G => .cons .bl (.cons .int (.cons .int .nil)))) (ag_tup (ags_name (ags_name (ags_name (ags_nil ?_))))))
  have hin : ∀ i, ∀ p ∈ (shapes ps L).2.take i, p.In (shapes ps L).1.signs.length := fun i p hp => k2 p (List.mem_of_mem_take hp)
  refine as_seq (as_forX (ax_callM (lvO C L) (lvO C (shapes ps L).1) [] (al_cons (ae_var rfl rfl) (al_cons (ae_var rfl rfl) al_nil)) (by rw [List.append_nil]; rfl) (.inl rfl) rfl (lvO_cl _ _) ⟨L, ps, rfl, rfl, rfl, rfl, hL, hw, hz, hl, hd⟩
    ⟨_, fun i e' => Le e' ⟨[.o 0, .d (.lst (patsD ps)), .d (.bl (rowGo (shapes ps L).1 ⟨true, 0, 0⟩ ((shapes ps L).2.take i)).2.e), .d (natD (rowGo (shapes ps L).1 ⟨true, 0, 0⟩ ((shapes ps L).2.take i)).2.f), .d (natD (rowGo (shapes ps L).1 ⟨true, 0, 0⟩ ((shapes ps L).2.take i)).2.l), .no, .no, .no], (lvO C (rowGo (shapes ps L).1 ⟨true, 0, 0⟩ ((shapes ps L).2.take i)).1).map some⟩, rfl,
      ⟨⟨.inr rfl, .inr rfl, .inr rfl, .inr rfl, .inr rfl, .inl rfl, .inl rfl, .inl rfl, trivial⟩, rfl⟩, fun i e' x hx le => ?_, fun e' le => ?_⟩))
  · rw [List.getElem?_map] at hx
    obtain ⟨p, hp, rfl⟩ := Option.map_eq_some_iff.mp hx
    have st := rowGo_snoc ((shapes ps L).2.take i) (shapes ps L).1 ⟨true, 0, 0⟩ p
    have ok := rowGo_ok ((shapes ps L).2.take i) (shapes ps L).1 ⟨true, 0, 0⟩ k1.ok (bare_in _ _) (hin i)
    rw [← take_sn hp] at st
    refine AG.le le (ag_tup (ags_name (ags_name (ags_name (ags_nil ?_)))))
    generalize rowGo (shapes ps L).1 ⟨true, 0, 0⟩ ((shapes ps L).2.take i) = q at *
    obtain ⟨L1, s1⟩ := q
    dsimp only
    rw [st]
    refine as_seq (as_dropX (ax_methM (k := 0) (lvO C L1) (lvO C (link L1 s1.l p.f)) [] (ae_var rfl rfl) rfl (lt_no (.inl rfl)) (al_cons (ae_var rfl rfl) (al_cons (ae_var rfl rfl) al_nil)) (by rw [List.append_nil]; rfl) (.inl rfl) rfl (lvO_cl _ _) ⟨L1, s1.l, p.f, rfl, rfl, rfl, rfl, ok.1, ?_⟩ ?_))
    · have h1 : L1.signs = (shapes ps L).1.signs := ok.2.1
      rw [h1]
      exact ok.2.2.2.2.l
    refine as_seq (as_ifN (i := 3) (z := natD (s1.f ||| p.f)) (at_B (ae_var rfl rfl)) (fun _ => as_augN (p := natD s1.f) rfl (ae_var rfl rfl) or_D rfl) rfl ?_)
    refine as_seq (as_ifset (i := 4) (at_not (at_B (ae_var rfl rfl))) (fun _ => ae_int) rfl ?_)
    refine as_seq (as_augN (p := natD (if p.e = true then s1.l else 0)) (z := .d (natD ((if p.e = true then s1.l else 0) ||| p.l))) ?_ (ae_var rfl rfl) or_D ?_)
    · show some (A.d (if (!p.e) = true then D.int 0 else natD s1.l)) = some (A.d (natD (if p.e = true then s1.l else 0)))
      cases p.e <;> rfl
    refine as_asg (ae_and2 (ae_var rfl rfl) (fun _ => ae_var rfl rfl)) ⟨⟨.inr rfl, .inr rfl, .inr rfl, .inr ?_, .inr rfl, .inl rfl, .inl rfl, .inl rfl, trivial⟩, List.append_nil _⟩
    show A.d (if s1.e = true then natD (s1.f ||| p.f) else natD s1.f) = A.d (natD (if s1.e = true then s1.f ||| p.f else s1.f))
    cases s1.e <;> rfl
  · rw [List.length_map, List.take_of_length_le (Nat.le_refl _)] at le
    exact AS.le (as_ret (ae_tup' (ald_cons (ae_var rfl rfl) (ald_cons (ae_var rfl rfl) (ald_cons (ae_var rfl rfl) ald_nil)))) ⟨rfl, List.prefix_refl _⟩) le
theorem mk_or_shape {C : Addr} {d : Nat} (DD : DefAt K mg "_or_shape" s_or_shape ["leaves", "parts"]) (c_Leaves : LvC K mg C) (H_shapes : Has_shapes P w K mg base C d) : Has_or_shape P w K mg base C d := by
  refine okM DD sc_or_shape (by rintro as M r M' ⟨_, _, rfl, _⟩; rfl) fun _ _ _ _ _ _ _ hr => ⟨_, (pss_cons (ps_if (pt_not (pt_truth (pv 1) (by intro _; rfl))) (pss_one ps_never) pss_nil)
      (pss_cons (ps_asg (pe_tup (pa_cons pe_bl (pa_cons pe_int (pa_cons pe_int pa_nil)))) (pg_tup rfl (pgs_cons (pg_name (i := 2) sc_or_shape.nd rfl (.inl rfl)) (pgs_cons (pg_name (i := 3) sc_or_shape.nd rfl (.inl rfl)) (pgs_cons (pg_name (i := 4) sc_or_shape.nd rfl (.inl rfl)) pgs_nil)))))
      (pss_cons (ps_for PassesOwn.never rfl (pi_list (pe_has H_shapes (hr.mono (by omega)) (by rfl) (pa_cons (pv 0) (pa_cons (pv 1) pa_nil)))) (pg_tup rfl (pgs_cons (pg_name (i := 5) sc_or_shape.nd rfl (.inl rfl)) (pgs_cons (pg_name (i := 6) sc_or_shape.nd rfl (.inl rfl)) (pgs_cons (pg_name (i := 7) sc_or_shape.nd rfl (.inl rfl)) pgs_nil)))) (pss_cons (ps_set (i := 2) sc_or_shape.nd rfl (.inl rfl) (pe_or (pv 2) (pe_one (pv 5))))
      (pss_cons (ps_aug (i := 3) sc_or_shape.nd rfl (.inl rfl) (pv 6) iop_or)
      (pss_one (ps_aug (i := 4) sc_or_shape.nd rfl (.inl rfl) (pv 7) iop_or)))))
      (pss_one (ps_ret (pe_tup (pa_cons (pv 2) (pa_cons (pv 3) (pa_cons (pv 4) pa_nil))))))))), ?_⟩
  rintro as M r M' ⟨L, ps, rfl, rfl, rfl, rfl, hL, hw, hz, hne, hl, hd⟩
  refine ⟨Nat.le_refl _, rfl, lvO_cl _ _, ?_⟩
  refine as_seq (as_if (b := false) ((at_not (at_trL (ae_var rfl rfl))).eq ?_) (fun h => ?_) (fun h => as_next ?_))
  · cases ps with
    | nil => exact absurd rfl hne
    | cons p r => rfl
  · cases h
  refine as_seq (as_asgG (ae_tup' (ds := [.bl false, .int 0, .int 0]) (ald_cons ae_bl (ald_cons ae_int (ald_cons ae_int ald_nil)))) (ag_tup (ags_name (ags_name (ags_name (ags_nil ?_))))))
  refine as_seq (as_forX (ax_callM (lvO C L) (lvO C (shapes ps L).1) [] (al_cons (ae_var rfl rfl) (al_cons (ae_var rfl rfl) al_nil)) (by rw [List.append_nil]; rfl) (.inl rfl) rfl (lvO_cl _ _) ⟨L, ps, rfl, rfl, rfl, rfl, hL, hw, hz, hl, hd⟩
    ⟨_, fun i e' => Le e' ⟨[.o 0, .d (.lst (patsD ps)), .d (.bl (orGo ⟨false, 0, 0⟩ ((shapes ps L).2.take i)).e), .d (natD (orGo ⟨false, 0, 0⟩ ((shapes ps L).2.take i)).f), .d (natD (orGo ⟨false, 0, 0⟩ ((shapes ps L).2.take i)).l), .no, .no, .no], (lvO C (shapes ps L).1).map some⟩, rfl,
      ⟨⟨.inr rfl, .inr rfl, .inr rfl, .inr rfl, .inr rfl, .inl rfl, .inl rfl, .inl rfl, trivial⟩, rfl⟩, fun i e' x hx le => ?_, fun e' le => ?_⟩))
  · rw [List.getElem?_map] at hx
    obtain ⟨p, hp, rfl⟩ := Option.map_eq_some_iff.mp hx
    have st := orGo_snoc ((shapes ps L).2.take i) ⟨false, 0, 0⟩ p
    rw [← take_sn hp] at st
    refine AG.le le (ag_tup (ags_name (ags_name (ags_name (ags_nil ?_)))))
    generalize orGo ⟨false, 0, 0⟩ ((shapes ps L).2.take i) = s1 at *
    dsimp only
    rw [st]
    refine as_seq (as_asg (ae_or2 (ae_var rfl rfl) (fun _ => ae_var rfl rfl)) ?_)
    refine as_seq (as_augN (p := natD s1.f) rfl (ae_var rfl rfl) or_D ?_)
    exact as_augN (p := natD s1.l) rfl (ae_var rfl rfl) or_D ⟨⟨.inr rfl, .inr rfl, .inr rfl, .inr rfl, .inr rfl, .inl rfl, .inl rfl, .inl rfl, trivial⟩, rfl⟩
  · rw [List.length_map, List.take_of_length_le (Nat.le_refl _)] at le
    exact AS.le (as_ret (ae_tup' (ald_cons (ae_var rfl rfl) (ald_cons (ae_var rfl rfl) (ald_cons (ae_var rfl rfl) ald_nil)))) ⟨rfl, List.prefix_refl _⟩) le
theorem mk_shapes {C : Addr} {d : Nat} (hd31 : d ≤ 30) (DD : DefAt K mg "_shapes" s_shapes ["leaves", "parts"]) (c_Leaves : LvC K mg C) (H_shape : Has_shape P w K mg base C d) {a_BARE : Addr} (g_BARE : mg "BARE" = some (.ref a_BARE)) (q_BARE : ∀ H, SqT K H a_BARE [.bl true, .int 0, .int 0]) (m_len : mg "len" = none) : Has_shapes P w K mg base C d := by
  refine okM DD sc_shapes (by rintro as M r M' ⟨_, _, rfl, _⟩; rfl) fun _ _ _ _ _ _ _ hr => ⟨_, (pss_cons (ps_set (i := 2) sc_shapes.nd rfl (.inl rfl) (pe_lst pa_nil))
      (pss_cons (ps_set (i := 3) sc_shapes.nd rfl (.inl rfl) (pe_lst pa_nil))
      (pss_cons (ps_for PassesOwn.never rfl (pi_list (pv 1)) (pg_name (i := 4) sc_shapes.nd rfl (.inl rfl)) (pss_cons (ps_set (i := 5) sc_shapes.nd rfl (.inl rfl) (pe_glob (v := .ref a_BARE) (by rfl) g_BARE rfl))
      (pss_cons (ps_if (pt_cmpR (op_notInD (room65 hr)) (pv 4) (pv 3) rfl) (pss_cons (ps_set (i := 6) sc_shapes.nd rfl (.inl rfl) (pe_callB call_len (by rfl) m_len (by decide +kernel) (pa_cons (pe_fld (pv 0) rfl) pa_nil)))
      (pss_cons (ps_set (i := 5) sc_shapes.nd rfl (.inl rfl) (pe_has H_shape (hr.mono (by omega)) (by rfl) (pa_cons (pv 0) (pa_cons (pv 4) pa_nil))))
      (pss_one (ps_if (pt_cmpR op_eq (pe_callB call_len (by rfl) m_len (by decide +kernel) (pa_cons (pe_fld (pv 0) rfl) pa_nil)) (pv 6) (nomark _)) (pss_one (ps_expr (pe_bm PySem.F.plainAttrs_list PySem.F.slot_list_append PySem.F.type_list_append mt_append (pv 3) (pa_cons (pv 4) pa_nil)))) pss_nil)))) pss_nil)
      (pss_one (ps_expr (pe_bm PySem.F.plainAttrs_list PySem.F.slot_list_append PySem.F.type_list_append mt_append (pv 2) (pa_cons (pv 5) pa_nil)))))))
      (pss_one (ps_ret (pv 2)))))), ?_⟩
  rintro as M r M' ⟨L, ps, rfl, rfl, rfl, rfl, hL, hw, hz, hl, hd⟩
  refine ⟨Nat.le_refl _, rfl, lvO_cl _ _, ?_⟩
  refine as_seq (as_asgN (an_lst' (ds := []) ald_nil) ?_)
  refine as_seq (as_asgN (an_lst' (ds := []) ald_nil) ?_)
  refine as_seq (as_for (fun i e' => ∃ bs : List Pat, (∀ b ∈ bs, Wf b ∧ nl b = 0 ∧ dep b ≤ 30) ∧ bs.length ≤ i ∧ Le e' ⟨[.o 0, .d (.lst (patsD ps)), .o 6, .o 7, .no, .no, .no], (lvO C (shapes (ps.take i) L).1).map some ++ [some (.lst ((shapes (ps.take i) L).2.map shD)), some (.lst (patsD bs))]⟩)
    (ai_list (n := ps.length) (f := fun i => patD (ps.getD i (.row []))) (ae_var rfl rfl) (by rw [patsD_map, List.length_map]) (fun i hi => by rw [patsD_map, List.getElem?_map, List.getElem?_eq_getElem hi, List.getD_eq_getElem?_getD, List.getElem?_eq_getElem hi]; rfl)) ⟨[], (fun b hb => nomatch hb), Nat.le_refl _, ⟨⟨.inr rfl, .inr rfl, .inr rfl, .inr rfl, .inl rfl, .inl rfl, .inl rfl, trivial⟩, rfl⟩⟩ (fun i e' hi I => ?_) fun e' I => ?_)
  · obtain ⟨bs, hb, hbl, le⟩ := I
    have hp : ps[i]? = some (ps.getD i (.row [])) := by rw [List.getD_eq_getElem?_getD, List.getElem?_eq_getElem hi]; rfl
    refine AG.le le (ag_name ?_)
    generalize ps.getD i (.row []) = p at *
    have hpm := List.mem_of_getElem? hp
    have hwp : Wf p := wfs_mem.mp hw p hpm
    have hdp : dep p ≤ d := deps_le.mp hd p hpm
    have st := shapes_snoc (ps.take i) L p
    rw [← take_sn hp] at st
    have hn : nls (ps.take (i + 1)) = nls (ps.take i) + nl p := by
      rw [take_sn hp, nls_app]
      rfl
    have hn2 : nls (ps.take (i + 1)) ≤ nls ps := by
      have h := nls_app (ps.take (i + 1)) (ps.drop (i + 1))
      rw [List.take_append_drop] at h
      omega
    obtain ⟨k1, k2, k3⟩ := shapes_ok (ps.take i) L hL (wfs_mem.mpr fun q hq => wfs_mem.mp hw q (List.mem_of_mem_take hq)) (by omega)
    have hti : (ps.take i).length = i := by rw [List.length_take]; omega
    generalize shapes (ps.take i) L = q at *
    obtain ⟨L1, shs⟩ := q
    have k1 : ShOk L L1 (nls (ps.take i)) := k1
    have hf : L1.signs.length + nl p ≤ 61 := by rw [k1.len]; omega
    have hsl : shs.length = i := k3.trans hti
    -- the rest of the turn
    have fin : ∀ (bs' : List Pat), (∀ b ∈ bs', Wf b ∧ nl b = 0 ∧ dep b ≤ 30) → bs'.length ≤ i + 1 → ∀ e', Le e' ⟨[.o 0, .d (.lst (patsD ps)), .o 6, .o 7, .d (patD p), .d (shD (shape p L1).2), .no], (lvO C (shape p L1).1).map some ++ [some (.lst (shs.map shD)), some (.lst (patsD bs'))]⟩ →
        ∀ Z : AEnds, (∀ e' : Env, (∃ bs : List Pat, (∀ b ∈ bs, Wf b ∧ nl b = 0 ∧ dep b ≤ 30) ∧ bs.length ≤ i + 1 ∧ Le e' ⟨[.o 0, .d (.lst (patsD ps)), .o 6, .o 7, .no, .no, .no], (lvO C (shapes (ps.take (i + 1)) L).1).map some ++ [some (.lst ((shapes (ps.take (i + 1)) L).2.map shD)), some (.lst (patsD bs))]⟩) → Z.nx e') →
        AS K 6 (tDrop (tBM K "list" rAppend (tVar 2) (tCons (tVar 5) tNil))) Z e' := by
      intro bs' h1 h2 e' le' Z hZ
      refine AS.le (as_app (ae_var rfl rfl) (ae_var rfl rfl) rfl (by rw [List.length_map]; omega) ?_) le'
      refine hZ _ ⟨bs', h1, h2, ⟨⟨.inr rfl, .inr rfl, .inr rfl, .inr rfl, .inl rfl, .inl rfl, .inl rfl, trivial⟩, ?_⟩⟩
      rw [st]
      show ((lvO C (shape p L1).1).map some ++ [some (O.lst (shs.map shD ++ [shD (shape p L1).2])), some (O.lst (patsD bs'))]) = ((lvO C (shape p L1).1).map some ++ [some (O.lst ((shs ++ [(shape p L1).2]).map shD)), some (O.lst (patsD bs'))])
      rw [List.map_append]
      rfl
    have okb : okD (.lst (patsD bs)) := (Good.lst (n := 60) fun x hx => by
      rw [patsD_map] at hx
      obtain ⟨b, hb1, rfl⟩ := List.mem_map.mp hx
      have := hb b hb1
      exact (patD_good this.1).mono (by omega)).ok (by decide)
    refine as_seq (as_asg (ae_constT (ds := [.bl true, .int 0, .int 0]) q_BARE (fun G => .cons .bl (.cons .int (.cons .int .nil)))) ?_)
    refine as_seq (as_if (at_val (ae_op (ae_var rfl rfl) (ae_var rfl rfl) (a2_notInDO (ds := patsD bs) rfl (patD_ok hwp (by omega)) okb))) (fun h => ?_) (fun h => as_next ?_))
    · refine as_seq (as_asg (ae_cb (al_cons (fo_signs c_Leaves (ae_var rfl rfl) rfl) al_nil) (ac_lenO rfl)) ?_)
      refine as_seq (as_asgX (ax_callM (lvO C L1) (lvO C (shape p L1).1) [some (.lst (shs.map shD)), some (.lst (patsD bs))] (al_cons (ae_var rfl rfl) (al_cons (ae_var rfl rfl) al_nil)) rfl (.inl rfl) rfl (lvO_cl _ _) ⟨L1, p, rfl, rfl, rfl, rfl, k1.ok, hwp, hf, hdp⟩ ?_))
      have sk := (shape_ok p L1 k1.ok hwp hf).1.len
      refine as_if (b := decide (nl p = 0)) ((at_val (ae_op (ae_cb (al_cons (fo_signs c_Leaves (ae_var rfl rfl) rfl) al_nil) (ac_lenO rfl)) (ae_var rfl rfl) a2_eqI)).eq ?_) (fun z => ?_) (fun z => as_next ?_)
      · rw [List.length_map, List.length_map, sk, decide_eq_decide]
        dsimp only
        omega
      · have z := of_decide_eq_true z
        refine as_app (ae_var rfl rfl) (ae_var rfl rfl) rfl (by rw [patsD_map, List.length_map]; omega) ?_
        refine fin (bs ++ [p]) (fun b hb2 => ?_) (by rw [List.length_append]; exact Nat.succ_le_succ hbl) _ ?_ _ fun _ h => h
        · rcases List.mem_append.mp hb2 with hb2 | hb2
          · exact hb b hb2
          · rw [List.mem_singleton.mp hb2]
            exact ⟨hwp, z, by omega⟩
        · refine ⟨⟨.inr rfl, .inr rfl, .inr rfl, .inr rfl, .inr rfl, .inr rfl, .inl rfl, trivial⟩, ?_⟩
          show ((lvO C (shape p L1).1).map some ++ [some (O.lst (shs.map shD)), some (O.lst (patsD bs ++ [patD p]))]) = ((lvO C (shape p L1).1).map some ++ [some (O.lst (shs.map shD)), some (O.lst (patsD (bs ++ [p])))])
          rw [patsD_map, patsD_map, List.map_append]
          rfl
      · refine fin bs hb (by omega) _ ?_ _ fun _ h => h
        exact ⟨⟨.inr rfl, .inr rfl, .inr rfl, .inr rfl, .inr rfl, .inr rfl, .inl rfl, trivial⟩, rfl⟩
    · -- it came before
      have h : (!(D.pys (patsD bs)).any fun z => PyData.eqv z (patD p).py) = false := h
      rw [Bool.not_eq_false'] at h
      obtain ⟨z, hz1, hz2⟩ := List.any_eq_true.mp h
      have hmap : ∀ l : List Pat, D.pys (patsD l) = l.map fun b => (patD b).py := fun l => by
        induction l with
        | nil => rfl
        | cons a r ih =>
          show (patD a).py :: D.pys (patsD r) = _
          rw [ih]
          rfl
      rw [hmap] at hz1
      obtain ⟨b, hb1, rfl⟩ := List.mem_map.mp hz1
      have e0 := eqv_nl b p hz2 (hb b hb1).2.1
      have sb := shape_bare p L1 hwp e0
      refine fin bs hb (by omega) _ ?_ _ fun _ h => h
      rw [sb]
      exact ⟨⟨.inr rfl, .inr rfl, .inr rfl, .inr rfl, .inr rfl, .inr rfl, .inl rfl, trivial⟩, rfl⟩
  · obtain ⟨bs, hb, hbl, le⟩ := I
    rw [List.take_of_length_le (Nat.le_refl _)] at le
    refine AS.le (as_frz 6 rfl (Nat.le_refl _) (as_ret (ae_var rfl rfl) ⟨rfl, ?_⟩)) le
    exact ⟨[none, some (.lst (patsD bs))], rfl⟩
theorem mk_shape_step {C : Addr} {d : Nat} (DD : DefAt K mg "_shape" s_shape ["leaves", "pattern"]) (c_Leaves : LvC K mg C) (H_Leaves_new_leaf : Has_Leaves_new_leaf P w K mg base C) (H_Leaves_link : Has_Leaves_link P w K mg base C) (H_row_shape : Has_row_shape P w K mg base C d) (H_or_shape : Has_or_shape P w K mg base C d) (H_shape : Has_shape P w K mg base C d) : Has_shape P w K mg base C (d + 1) := by
  refine okM (k := 3 * d + 5) DD sc_shape (by rintro as M r M' ⟨_, _, rfl, _⟩; rfl) fun _ _ _ _ _ _ _ hr => ⟨_, (pss_cons (ps_asg (pv 1) (pg_tup rfl (pgs_cons (pg_name (i := 2) sc_shape.nd rfl (.inl rfl)) (pgs_cons (pg_name (i := 3) sc_shape.nd rfl (.inl rfl)) pgs_nil))))
      (pss_cons (ps_if (pt_cmpR op_eq (pv 2) pe_str (nomark _)) (pss_cons (ps_set (i := 4) sc_shape.nd rfl (.inl rfl) (pe_hasM c_Leaves.cl H_Leaves_new_leaf (hr.mono (by omega)) (pv 0) (pa_cons (pv 3) pa_nil)))
      (pss_one (ps_ret (pe_tup (pa_cons pe_bl (pa_cons (pv 4) (pa_cons (pv 4) pa_nil))))))) pss_nil)
      (pss_cons (ps_if (pt_cmpR op_eq (pv 2) pe_str (nomark _)) (pss_one (ps_ret (pe_has H_row_shape (hr.mono (by omega)) (by rfl) (pa_cons (pv 0) (pa_cons (pv 3) pa_nil))))) pss_nil)
      (pss_cons (ps_if (pt_cmpR op_eq (pv 2) pe_str (nomark _)) (pss_one (ps_ret (pe_has H_or_shape (hr.mono (by omega)) (by rfl) (pa_cons (pv 0) (pa_cons (pv 3) pa_nil))))) pss_nil)
      (pss_cons (ps_asg (pe_has H_shape (hr.mono (by omega)) (by rfl) (pa_cons (pv 0) (pa_cons (pv 3) pa_nil))) (pg_tup rfl (pgs_cons (pg_name (i := 5) sc_shape.nd rfl (.inl rfl)) (pgs_cons (pg_name (i := 6) sc_shape.nd rfl (.inl rfl)) (pgs_cons (pg_name (i := 7) sc_shape.nd rfl (.inl rfl)) pgs_nil)))))
      (pss_cons (ps_if (pt_cmpR op_eq (pv 2) pe_str (nomark _)) (pss_one (ps_expr (pe_hasM c_Leaves.cl H_Leaves_link (hr.mono (by omega)) (pv 0) (pa_cons (pv 7) (pa_cons (pv 6) pa_nil))))) pss_nil)
      (pss_one (ps_ret (pe_tup (pa_cons pe_bl (pa_cons (pv 6) (pa_cons (pv 7) pa_nil)))))))))))), ?_⟩
  rintro as M r M' ⟨L, p, rfl, rfl, rfl, rfl, hL, hw, hl, hd⟩
  refine ⟨Nat.le_refl _, rfl, lvO_cl _ _, ?_⟩
  cases p with
  | one s =>
    refine as_seq (as_asgG (ae_var rfl rfl) (ag_tup (ags_name (ags_name (ags_nil ?_)))))
    refine as_seq (as_if (b := true) ((at_val (ae_op (ae_var rfl rfl) (ae_str (s := kOne) (by decide +kernel)) a2_eqS)).eq (by decide)) (fun _ => ?_) (fun h => ?_))
    · refine as_seq (as_asgX (ax_methM (k := 0) (lvO C L) (lvO C (newLeaf L s)) [] (ae_var rfl rfl) rfl (lt_no (.inr (.inl rfl))) (al_cons (ae_var rfl rfl) al_nil) (by rw [List.append_nil]; rfl) (.inl rfl) rfl (lvO_cl _ _) ⟨L, s, rfl, rfl, rfl, rfl, hL, hw, by have : L.signs.length + 1 ≤ 61 := hl; omega⟩ ?_))
      exact as_ret (ae_tup' (ald_cons ae_bl (ald_cons (ae_var rfl rfl) (ald_cons (ae_var rfl rfl) ald_nil)))) ⟨rfl, List.prefix_append _ _⟩
    · cases h
  | row ps =>
    refine as_seq (as_asgG (ae_var rfl rfl) (ag_tup (ags_name (ags_name (ags_nil ?_)))))
    refine as_seq (as_if (b := false) ((at_val (ae_op (ae_var rfl rfl) (ae_str (s := kOne) (by decide +kernel)) a2_eqS)).eq (by decide)) (fun h => (by cases h)) (fun h => as_next ?_))
    refine as_seq (as_if (b := true) ((at_val (ae_op (ae_var rfl rfl) (ae_str (s := kRow) (by decide +kernel)) a2_eqS)).eq (by decide)) (fun _ => ?_) (fun h => (by cases h)))
    have hd : deps ps + 1 ≤ d + 1 := hd
    exact as_retX (ax_callM (lvO C L) (lvO C (shape (.row ps) L).1) [] (al_cons (ae_var rfl rfl) (al_cons (ae_var rfl rfl) al_nil)) (by rw [List.append_nil]; rfl) (.inl rfl) rfl (lvO_cl _ _) ⟨L, ps, rfl, rfl, rfl, rfl, hL, hw.1, hw.2, hl, by omega⟩ ⟨rfl, List.prefix_append _ _⟩)
  | or ps =>
    refine as_seq (as_asgG (ae_var rfl rfl) (ag_tup (ags_name (ags_name (ags_nil ?_)))))
    refine as_seq (as_if (b := false) ((at_val (ae_op (ae_var rfl rfl) (ae_str (s := kOne) (by decide +kernel)) a2_eqS)).eq (by decide)) (fun h => (by cases h)) (fun h => as_next ?_))
    refine as_seq (as_if (b := false) ((at_val (ae_op (ae_var rfl rfl) (ae_str (s := kRow) (by decide +kernel)) a2_eqS)).eq (by decide)) (fun h => (by cases h)) (fun h => as_next ?_))
    refine as_seq (as_if (b := true) ((at_val (ae_op (ae_var rfl rfl) (ae_str (s := kOr) (by decide +kernel)) a2_eqS)).eq (by decide)) (fun _ => ?_) (fun h => (by cases h)))
    have hd : deps ps + 1 ≤ d + 1 := hd
    exact as_retX (ax_callM (lvO C L) (lvO C (shape (.or ps) L).1) [] (al_cons (ae_var rfl rfl) (al_cons (ae_var rfl rfl) al_nil)) (by rw [List.append_nil]; rfl) (.inl rfl) rfl (lvO_cl _ _) ⟨L, ps, rfl, rfl, rfl, rfl, hL, hw.1, hw.2.1, hw.2.2, hl, by omega⟩ ⟨rfl, List.prefix_append _ _⟩)
  | many p =>
    have hd : dep p + 1 ≤ d + 1 := hd
    have sk := shape_ok p L hL hw hl
    refine as_seq (as_asgG (ae_var rfl rfl) (ag_tup (ags_name (ags_name (ags_nil ?_)))))
    refine as_seq (as_if (b := false) ((at_val (ae_op (ae_var rfl rfl) (ae_str (s := kOne) (by decide +kernel)) a2_eqS)).eq (by decide)) (fun h => (by cases h)) (fun h => as_next ?_))
    refine as_seq (as_if (b := false) ((at_val (ae_op (ae_var rfl rfl) (ae_str (s := kRow) (by decide +kernel)) a2_eqS)).eq (by decide)) (fun h => (by cases h)) (fun h => as_next ?_))
    refine as_seq (as_if (b := false) ((at_val (ae_op (ae_var rfl rfl) (ae_str (s := kOr) (by decide +kernel)) a2_eqS)).eq (by decide)) (fun h => (by cases h)) (fun h => as_next ?_))
    refine as_seq (as_asgGX (ax_callM (lvO C L) (lvO C (shape p L).1) [] (al_cons (ae_var rfl rfl) (al_cons (ae_var rfl rfl) al_nil)) (by rw [List.append_nil]; rfl) (.inl rfl) rfl (lvO_cl _ _) ⟨L, p, rfl, rfl, rfl, rfl, hL, hw, hl, by omega⟩ (ag_tup (ags_name (ags_name (ags_name (ags_nil ?_)))))))
    refine as_seq (as_if (b := true) ((at_val (ae_op (ae_var rfl rfl) (ae_str (s := kMany) (by decide +kernel)) a2_eqS)).eq (by decide)) (fun _ => ?_) (fun h => (by cases h)))
    refine as_dropX (ax_methM (k := 0) (lvO C (shape p L).1) (lvO C (link (shape p L).1 (shape p L).2.l (shape p L).2.f)) [] (ae_var rfl rfl) rfl (lt_no (.inl rfl)) (al_cons (ae_var rfl rfl) (al_cons (ae_var rfl rfl) al_nil)) rfl (.inl rfl) rfl (lvO_cl _ _) ⟨_, _, _, rfl, rfl, rfl, rfl, sk.1.ok, sk.2.l⟩ ?_)
    exact as_ret (ae_tup' (ald_cons ae_bl (ald_cons (ae_var rfl rfl) (ald_cons (ae_var rfl rfl) ald_nil)))) ⟨rfl, List.prefix_append _ _⟩
  | maybe p =>
    have hd : dep p + 1 ≤ d + 1 := hd
    refine as_seq (as_asgG (ae_var rfl rfl) (ag_tup (ags_name (ags_name (ags_nil ?_)))))
    refine as_seq (as_if (b := false) ((at_val (ae_op (ae_var rfl rfl) (ae_str (s := kOne) (by decide +kernel)) a2_eqS)).eq (by decide)) (fun h => (by cases h)) (fun h => as_next ?_))
    refine as_seq (as_if (b := false) ((at_val (ae_op (ae_var rfl rfl) (ae_str (s := kRow) (by decide +kernel)) a2_eqS)).eq (by decide)) (fun h => (by cases h)) (fun h => as_next ?_))
    refine as_seq (as_if (b := false) ((at_val (ae_op (ae_var rfl rfl) (ae_str (s := kOr) (by decide +kernel)) a2_eqS)).eq (by decide)) (fun h => (by cases h)) (fun h => as_next ?_))
    refine as_seq (as_asgGX (ax_callM (lvO C L) (lvO C (shape p L).1) [] (al_cons (ae_var rfl rfl) (al_cons (ae_var rfl rfl) al_nil)) (by rw [List.append_nil]; rfl) (.inl rfl) rfl (lvO_cl _ _) ⟨L, p, rfl, rfl, rfl, rfl, hL, hw, hl, by omega⟩ (ag_tup (ags_name (ags_name (ags_name (ags_nil ?_)))))))
    refine as_seq (as_if (b := false) ((at_val (ae_op (ae_var rfl rfl) (ae_str (s := kMany) (by decide +kernel)) a2_eqS)).eq (by decide)) (fun h => (by cases h)) (fun h => as_next ?_))
    exact as_ret (ae_tup' (ald_cons ae_bl (ald_cons (ae_var rfl rfl) (ald_cons (ae_var rfl rfl) ald_nil)))) ⟨rfl, List.prefix_append _ _⟩
theorem mk_shape_zero {C : Addr} (DD : DefAt K mg "_shape" s_shape ["leaves", "pattern"]) : Has_shape P w K mg base C 0 := by
  refine okM (k := 2) DD sc_shape (by rintro as M r M' ⟨_, _, rfl, _⟩; rfl) fun _ _ _ _ _ _ _ hr => ⟨_, pss_cons ps_never (pss_cons ps_never (pss_cons ps_never (pss_cons ps_never (pss_cons ps_never (pss_cons ps_never (pss_one ps_never)))))), ?_⟩
  rintro as M r M' ⟨L, p, rfl, rfl, rfl, rfl, hL, hw, hl, hd⟩
  have := dep_pos p
  omega
theorem all_shape {C : Addr} (DD : DefAt K mg "_shape" s_shape ["leaves", "pattern"]) (D_row_shape : DefAt K mg "_row_shape" s_row_shape ["leaves", "parts"]) (D_or_shape : DefAt K mg "_or_shape" s_or_shape ["leaves", "parts"]) (D_shapes : DefAt K mg "_shapes" s_shapes ["leaves", "parts"]) (c_Leaves : LvC K mg C) (H_Leaves_new_leaf : Has_Leaves_new_leaf P w K mg base C) (H_Leaves_link : Has_Leaves_link P w K mg base C)
    {a_BARE : Addr} (g_BARE : mg "BARE" = some (.ref a_BARE)) (q_BARE : ∀ H, SqT K H a_BARE [.bl true, .int 0, .int 0]) (m_len : mg "len" = none) : ∀ d, d ≤ 30 → Has_shape P w K mg base C d
  | 0, _ => mk_shape_zero DD
  | d + 1, h => by
    have H_shape := all_shape DD D_row_shape D_or_shape D_shapes c_Leaves H_Leaves_new_leaf H_Leaves_link g_BARE q_BARE m_len d (by omega)
    have H_shapes := mk_shapes (by omega) D_shapes c_Leaves H_shape g_BARE q_BARE m_len
    exact mk_shape_step DD c_Leaves H_Leaves_new_leaf H_Leaves_link (mk_row_shape D_row_shape c_Leaves H_shapes H_Leaves_link g_BARE q_BARE) (mk_or_shape D_or_shape c_Leaves H_shapes) H_shape
theorem ok_shape {C : Addr} (DD : DefAt K mg "_shape" s_shape ["leaves", "pattern"]) (D_row_shape : DefAt K mg "_row_shape" s_row_shape ["leaves", "parts"]) (D_or_shape : DefAt K mg "_or_shape" s_or_shape ["leaves", "parts"]) (D_shapes : DefAt K mg "_shapes" s_shapes ["leaves", "parts"]) (c_Leaves : LvC K mg C) (H_Leaves_new_leaf : Has_Leaves_new_leaf P w K mg base C) (H_Leaves_link : Has_Leaves_link P w K mg base C)
    {a_BARE : Addr} (g_BARE : mg "BARE" = some (.ref a_BARE)) (q_BARE : ∀ H, SqT K H a_BARE [.bl true, .int 0, .int 0]) (m_len : mg "len" = none) : Has_shape P w K mg base C 30 := by
  exact all_shape DD D_row_shape D_or_shape D_shapes c_Leaves H_Leaves_new_leaf H_Leaves_link g_BARE q_BARE m_len 30 (Nat.le_refl _)
/-! ### leaves_of -/
abbrev s_leaves_of : Stmt := topS 11
theorem sc_leaves_of : FnScope ["patterns", "leaves", "pattern", "empty", "firsts", "lasts"] ["patterns"] (defScope s_leaves_of) := ⟨rfl, rfl, rfl, by decide +kernel, rfl, by decide +kernel, by decide +kernel⟩
def R_leaves_of (C : Addr) (as : List A) (M : List O) (r : A) (M' : List O) : Prop := ∃ ps : List Pat, as = [.d (.lst (patsD ps))] ∧ M = [] ∧ r = .o 0 ∧ M' = lvO C (leavesOf ps) ∧ PsOk ps
abbrev Has_leaves_of (P : Program) (w : World) (K : PySem.W.Frag) (mg : Str → Option Value) (base : Heap) (C : Addr) : Prop := Has P w K mg base "leaves_of" ["patterns"] 94 (SpM K (R_leaves_of C))
theorem ok_leaves_of {C : Addr} (DD : DefAt K mg "leaves_of" s_leaves_of ["patterns"]) (c_Leaves : LvC K mg C) (H_shape : Has_shape P w K mg base C 30) (H_Leaves_init : Has_Leaves_init P w K mg base C) (H_Leaves_link : Has_Leaves_link P w K mg base C)
    {tB tM : Tok} (g_BEGINNING : mg "BEGINNING" = some (.int 1 tB)) (g_MOST_PATTERNS : mg "MOST_PATTERNS" = some (.int 8 tM)) (m_len : mg "len" = none) : Has_leaves_of P w K mg base C := by
  refine okM DD sc_leaves_of (by rintro as M r M' ⟨_, rfl, _⟩; rfl) fun _ _ _ _ _ _ _ hr => ⟨_, (pss_cons (ps_if (pt_not (pt_truth (pv 0) (by intro _; rfl))) (pss_one ps_never) pss_nil)
      (pss_cons (ps_if (pt_cmpR op_gt (pe_callB call_len (by rfl) m_len (by decide +kernel) (pa_cons (pv 0) pa_nil)) (pe_glob (v := .int 8) (by rfl) g_MOST_PATTERNS ⟨_, rfl⟩) (nomark _)) (pss_one ps_never) pss_nil)
      (pss_cons (ps_set (i := 1) sc_leaves_of.nd rfl (.inl rfl) (pe_mk0 c_Leaves.mkc H_Leaves_init (hr.mono (by decide)) (by rfl) c_Leaves.mgC))
      (pss_cons (ps_for PassesOwn.never rfl (pi_list (pv 0)) (pg_name (i := 2) sc_leaves_of.nd rfl (.inl rfl)) (pss_cons (ps_asg (pe_has H_shape (hr.mono (by decide)) (by rfl) (pa_cons (pv 1) (pa_cons (pv 2) pa_nil))) (pg_tup rfl (pgs_cons (pg_name (i := 3) sc_leaves_of.nd rfl (.inl rfl)) (pgs_cons (pg_name (i := 4) sc_leaves_of.nd rfl (.inl rfl)) (pgs_cons (pg_name (i := 5) sc_leaves_of.nd rfl (.inl rfl)) pgs_nil)))))
      (pss_cons (ps_expr (pe_hasM c_Leaves.cl H_Leaves_link (hr.mono (by decide)) (pv 1) (pa_cons (pe_glob (v := .int 1) (by rfl) g_BEGINNING ⟨_, rfl⟩) (pa_cons (pv 4) pa_nil))))
      (pss_one (ps_expr (pe_bm PySem.F.plainAttrs_list PySem.F.slot_list_append PySem.F.type_list_append mt_append (pe_fld (pv 1) rfl) (pa_cons (pe_ifExp (pt_val (pv 3)) (pe_op op_or (pv 5) (pe_glob (v := .int 1) (by rfl) g_BEGINNING ⟨_, rfl⟩)) (pv 5)) pa_nil)))))))
      (pss_one (ps_ret (pv 1))))))), ?_⟩
  rintro as M r M' ⟨ps, rfl, rfl, rfl, rfl, hp⟩
  refine ⟨Nat.zero_le _, rfl, lvO_cl _ _, ?_⟩
  have h8 := hp.few
  have h1 := hp.one
  have hpl : (patsD ps).length = ps.length := by rw [patsD_map, List.length_map]
  refine as_seq (as_if (b := false) ((at_not (at_trL (ae_var rfl rfl))).eq ?_) (fun h => ?_) (fun h => as_next ?_))
  · cases ps with
    | nil => exact absurd h1 (by decide)
    | cons p r => rfl
  · cases h
  refine as_seq (as_if (b := false) ((at_val (ae_op (ae_cb (al_cons (ae_var rfl rfl) al_nil) ac_lenL) ae_int a2_I0b)).eq (by rw [hpl]; exact decide_eq_false (by omega))) (fun h => (by cases h)) (fun h => as_next ?_))
  refine as_seq (as_asgX (ax_make0 rfl ⟨rfl, rfl, rfl, rfl⟩ ?_))
  refine as_seq (as_forE (fun i => ⟨[.d (.lst (patsD ps)), .o 0, .no, .no, .no, .no], (lvO C (leavesGo (ps.take i) LV.new)).map some⟩) (ai_list (n := ps.length) (f := fun i => patD (ps.getD i (.row []))) (ae_var rfl rfl) hpl (fun i hi => by rw [patsD_map, List.getElem?_map, List.getElem?_eq_getElem hi, List.getD_eq_getElem?_getD, List.getElem?_eq_getElem hi]; rfl)) ⟨⟨.inr rfl, .inr rfl, .inl rfl, .inl rfl, .inl rfl, .inl rfl, trivial⟩, rfl⟩ (fun i hi => ?_) fun e' le => ?_)
  · have hq : ps[i]? = some (ps.getD i (.row [])) := by rw [List.getD_eq_getElem?_getD, List.getElem?_eq_getElem hi]; rfl
    refine ag_name ?_
    generalize ps.getD i (.row []) = p at *
    have hpm := List.mem_of_getElem? hq
    have hw : Wf p := wfs_mem.mp hp.wf p hpm
    have hn : nls (ps.take (i + 1)) = nls (ps.take i) + nl p := by
      rw [take_sn hq, nls_app]
      rfl
    have hn2 : nls (ps.take (i + 1)) ≤ nls ps := by
      have h := nls_app (ps.take (i + 1)) (ps.drop (i + 1))
      rw [List.take_append_drop] at h
      omega
    have hfit := hp.fit
    have hn1 : LV.new.signs.length = 1 := rfl
    obtain ⟨k1, k2, k3⟩ := leavesGo_ok (ps.take i) LV.new LV.new_ok (wfs_mem.mpr fun q hq => wfs_mem.mp hp.wf q (List.mem_of_mem_take hq)) (by omega)
    have st := leavesGo_snoc (ps.take i) p LV.new
    rw [← take_sn hq] at st
    have hdp : dep p ≤ 30 := deps_le.mp hp.dp p hpm
    have hel : (leavesGo (ps.take i) LV.new).ends.length ≤ 8 := by
      rw [k3, List.length_take]
      show 0 + _ ≤ 8
      omega
    dsimp only
    rw [st]
    generalize leavesGo (ps.take i) LV.new = L at *
    obtain ⟨s1, s2⟩ := shape_ok p L k1 hw (by omega)
    refine as_seq (as_asgGX (ax_callM (lvO C L) (lvO C (shape p L).1) [] (al_cons (ae_var rfl rfl) (al_cons (ae_var rfl rfl) al_nil)) (by rw [List.append_nil]; rfl) (.inl rfl) rfl (lvO_cl _ _) ⟨L, p, rfl, rfl, rfl, rfl, k1, hw, by omega, hdp⟩ (ag_tup (ags_name (ags_name (ags_name (ags_nil ?_)))))))
    refine as_seq (as_dropX (ax_methM (k := 0) (lvO C (shape p L).1) (lvO C (link (shape p L).1 1 (shape p L).2.f)) [] (ae_var rfl rfl) rfl (lt_no (.inl rfl)) (al_cons ae_int (al_cons (ae_var rfl rfl) al_nil)) rfl (.inl rfl) rfl (lvO_cl _ _) ⟨_, 1, _, rfl, rfl, rfl, rfl, s1.ok, Nat.one_lt_two_pow (by have := s1.ok.pos; omega)⟩ ?_))
    refine as_app (x := natD (if (shape p L).2.e = true then (shape p L).2.l ||| 1 else (shape p L).2.l)) (fo_ends c_Leaves (ae_var rfl rfl) rfl) ((ae_ifD (p := natD ((shape p L).2.l ||| 1)) (at_B (ae_var rfl rfl)) (fun _ => ae_op (ae_var rfl rfl) (ae_int (i := ((1 : Nat) : Int))) or_D) (fun _ => ae_var rfl rfl)).eq ?_) rfl ?_ ⟨⟨.inr rfl, .inr rfl, .inl rfl, .inl rfl, .inl rfl, .inl rfl, trivial⟩, ?_⟩
    · cases (shape p L).2.e <;> rfl
    · rw [List.length_map]
      show (shape p L).1.ends.length < _
      rw [s1.ends]
      omega
    · show ([some (O.ins C 1 lvF), some (O.own 0), _, _, _, some (O.lst ((shape p L).1.ends.map natD ++ [natD (if (shape p L).2.e = true then (shape p L).2.l ||| 1 else (shape p L).2.l)]))] : List (Option O)) = [_, _, _, _, _, some (O.lst (((shape p L).1.ends ++ [if (shape p L).2.e = true then (shape p L).2.l ||| 1 else (shape p L).2.l]).map natD))]
      rw [List.map_append]
      rfl
  · rw [List.take_of_length_le (Nat.le_refl _)] at le
    exact AS.le (as_ret (ae_var rfl rfl) ⟨rfl, List.prefix_refl _⟩) le
/-! ### signs_of -/
abbrev s_signs_of : Stmt := topS 18
theorem sc_signs_of : FnScope ["patterns", "leaves"] ["patterns"] (defScope s_signs_of) := ⟨rfl, rfl, rfl, by decide +kernel, rfl, by decide +kernel, by decide +kernel⟩
def R_signs_of (as : List A) (r : A) : Prop := ∃ ps : List Pat, as = [.d (.lst (patsD ps))] ∧ PsOk ps ∧ r = .d (.str (sgns (allS ps)))
abbrev Has_signs_of (P : Program) (w : World) (K : PySem.W.Frag) (mg : Str → Option Value) (base : Heap) : Prop := Has P w K mg base "signs_of" ["patterns"] 95 (SpF K R_signs_of)
theorem all_of {ps : List Pat} (h : PsOk ps) : (leavesOf ps).signs.flatten = allS ps ∧ (∀ c ∈ (leavesOf ps).signs.flatten, c < 128) ∧ (leavesOf ps).signs.flatten.length ≤ 1000000 := by
  have e : (leavesOf ps).signs.flatten = allS ps := by rw [leavesOf_signs]; rfl
  rw [e]
  have := allS_len h
  exact ⟨rfl, allS_lt h.wf, by omega⟩
theorem ok_signs_of {C : Addr} (DD : DefAt K mg "signs_of" s_signs_of ["patterns"]) (c_Leaves : LvC K mg C) (H_leaves_of : Has_leaves_of P w K mg base C) (H_Leaves_all_signs : Has_Leaves_all_signs P w K mg base C) : Has_signs_of P w K mg base := by
  refine okF DD sc_signs_of (by rintro as r ⟨_, rfl, _⟩; rfl) fun _ _ _ _ _ _ _ hr => ⟨_, (pss_cons (ps_set (i := 1) sc_signs_of.nd rfl (.inl rfl) (pe_has H_leaves_of (hr.mono (by decide)) (by rfl) (pa_cons (pv 0) pa_nil)))
      (pss_one (ps_ret (pe_hasM0 c_Leaves.cl H_Leaves_all_signs (hr.mono (by decide)) (pv 1))))), ?_⟩
  rintro as r ⟨ps, rfl, hp, rfl⟩
  obtain ⟨e1, e2, e3⟩ := all_of hp
  refine as_seq (as_asgX (ax_callM [] (lvO C (leavesOf ps)) [] (al_cons (ae_var rfl rfl) al_nil) rfl (.inr rfl) rfl rfl ⟨ps, rfl, rfl, rfl, rfl, hp⟩ ?_))
  refine AS.le (as_frzAll (m := lvO C (leavesOf ps)) (sl := [.d (.lst (patsD ps)), .o 0]) ?_) ⟨⟨.inr rfl, .inr rfl, trivial⟩, List.append_nil _⟩
  exact as_ret (ae_methP (m0 := lvO C (leavesOf ps)) (ae_var rfl rfl) rfl (lv_no (by decide) (by decide) (by decide) (by decide)) al_nil rfl ⟨leavesOf ps, rfl, rfl, e2, e3⟩) ⟨by rw [e1], rfl⟩
/-! ### _law_cell_at -/
abbrev s_law_cell_at : Stmt := topS 20
theorem sc_law_cell_at : FnScope ["_law_script", "_law_k"] ["_law_script", "_law_k"] (defScope s_law_cell_at) := ⟨rfl, rfl, rfl, by decide +kernel, rfl, by decide +kernel, by decide +kernel⟩
def R_law_cell_at (K : PySem.W.Frag) (as : List A) (r : A) : Prop := ∃ (ns : List Int) (k : Int), as = [.p (ScP K ns), .d (.int k)] ∧ 0 ≤ k ∧ r = .d (.int (cell ns k))
abbrev Has_law_cell_at (P : Program) (w : World) (K : PySem.W.Frag) (mg : Str → Option Value) (base : Heap) : Prop := Has P w K mg base "_law_cell_at" ["_law_script", "_law_k"] 1 (SpF K (R_law_cell_at K))
theorem ok_law_cell_at (DD : DefAt K mg "_law_cell_at" s_law_cell_at ["_law_script", "_law_k"]) (m_len : mg "len" = none) : Has_law_cell_at P w K mg base := by
  refine okF DD sc_law_cell_at (by rintro as r ⟨_, _, rfl, _⟩; rfl) fun _ _ _ _ _ _ _ hr => ⟨_, (pss_cons (ps_if (pt_cmpR op_lt (pv 1) (pe_callB call_len (by rfl) m_len (by decide +kernel) (pa_cons (pv 0) pa_nil)) (nomark _)) (pss_one (ps_ret (pe_ix ix_list (pv 0) (pv 1) (fun _ _ => rfl)))) pss_nil)
      (pss_one (ps_ret pe_int))), ?_⟩
  rintro as r ⟨ns, k, rfl, h0, rfl⟩
  -- if _law_k < len(_law_script):
  refine as_seq (as_if (at_val (ae_op (ae_var rfl rfl) (ae_cb (al_cons (ae_var rfl rfl) al_nil) ac_lenP) a2_I0b)) (fun h => ?_) (fun h => ?_))
  · exact as_ret (ae_op (ae_var rfl rfl) (ae_var rfl rfl) (a2_ixP (cell_at h0 (of_decide_eq_true h)))) ⟨rfl, rfl⟩
  · refine as_next (as_ret ae_int ⟨?_, rfl⟩)
    rw [cell_out (of_decide_eq_false h)]
/-! ### _law_sign_by -/
abbrev s_law_sign_by : Stmt := topS 21
theorem sc_law_sign_by : FnScope ["_law_cell", "_law_some"] ["_law_cell"] (defScope s_law_sign_by) := ⟨rfl, rfl, rfl, by decide +kernel, rfl, by decide +kernel, by decide +kernel⟩
def R_law_sign_by (as : List A) (r : A) : Prop := ∃ c : Int, as = [.d (.int c)] ∧ r = .d (.str [sgn c])
abbrev Has_law_sign_by (P : Program) (w : World) (K : PySem.W.Frag) (mg : Str → Option Value) (base : Heap) : Prop := Has P w K mg base "_law_sign_by" ["_law_cell"] 1 (SpF K R_law_sign_by)
theorem ok_law_sign_by (DD : DefAt K mg "_law_sign_by" s_law_sign_by ["_law_cell"]) : Has_law_sign_by P w K mg base := by
  refine okF DD sc_law_sign_by (by rintro as r ⟨_, rfl, _⟩; rfl) fun _ _ _ _ _ _ _ hr => ⟨_, (pss_cons (ps_set (i := 1) sc_law_sign_by.nd rfl (.inl rfl) pe_str)
      (pss_cons (ps_set (i := 1) sc_law_sign_by.nd rfl (.inl rfl) (pe_op op_add_str (pv 1) pe_str))
      (pss_one (ps_ret (pe_ix ix_str (pv 1) (pe_op op_mod (pv 0) pe_int) (fun _ _ => rfl)))))), ?_⟩
  rintro as r ⟨c, rfl, rfl⟩
  refine as_seq (as_asg (ae_str (s := abc1) (by decide +kernel)) ?_)
  refine as_seq (as_asg (ae_op (ae_var rfl rfl) (ae_str (s := abc2) (by decide +kernel)) (a2_addS (by decide +kernel))) ?_)
  exact as_ret (ae_op (ae_var rfl rfl) (ae_op (ae_var rfl rfl) ae_int (a2_I (by decide))) (a2_ixS (s := abc1 ++ abc2) (by decide +kernel) (sgn_at c))) ⟨rfl, rfl⟩
/-! ### _law_letters -/
abbrev s_law_letters : Stmt := topS 22
theorem sc_law_letters : FnScope ["_law_cell", "_law_gap", "_law_size", "_law_signs", "_law_k"] ["_law_cell"] (defScope s_law_letters) := ⟨rfl, rfl, rfl, by decide +kernel, rfl, by decide +kernel, by decide +kernel⟩
abbrev strsD (ls : List (List Nat)) : D := .lst (ls.map .str)
def R_law_letters (as : List A) (r : A) : Prop := ∃ c : Int, as = [.d (.int c)] ∧ r = .d (strsD (letters c))
abbrev Has_law_letters (P : Program) (w : World) (K : PySem.W.Frag) (mg : Str → Option Value) (base : Heap) : Prop := Has P w K mg base "_law_letters" ["_law_cell"] 2 (SpF K R_law_letters)
theorem cut_letter (c : Int) {k : Nat} (hk : k < 5) : cutG (lsigns c) (some ((k : Int) * gsize c)) (some ((k : Int) * gsize c + gsize c)) = letter c k := by
  have h := gsize_b c
  have e : gsize c = ((gsize c).toNat : Int) := by omega
  have h1 : k * (gsize c).toNat ≤ 4 * (gsize c).toNat := Nat.mul_le_mul_right _ (by omega)
  have hl := lsigns_len c
  have e1 : (k : Int) * gsize c = ((k * (gsize c).toNat : Nat) : Int) := by
    rw [Int.natCast_mul, ← e]
  have e2 : (k : Int) * gsize c + gsize c = ((k * (gsize c).toNat + (gsize c).toNat : Nat) : Int) := by
    rw [Int.natCast_add, ← e1, ← e]
  unfold cutG letter
  rw [e2, e1, HT.sIx_nat, HT.sIx_nat, Nat.min_eq_left (by omega), Nat.min_eq_left (by omega), Nat.add_sub_cancel_left]
theorem ok_law_letters (DD : DefAt K mg "_law_letters" s_law_letters ["_law_cell"]) (H_law_sign_by : Has_law_sign_by P w K mg base) (m_range : mg "range" = none) : Has_law_letters P w K mg base := by
  refine okF DD sc_law_letters (by rintro as r ⟨_, rfl, _⟩; rfl) fun _ _ _ _ _ _ _ hr => ⟨_, (pss_cons (ps_set (i := 1) sc_law_letters.nd rfl (.inr rfl) (pe_ix ix_list (pe_lst (pa_cons pe_int (pa_cons pe_int (pa_cons pe_int (pa_cons pe_int (pa_cons pe_int (pa_cons pe_int (pa_cons pe_int (pa_cons pe_int pa_nil))))))))) (pe_op op_mod (pe_op op_fdiv (pv 0) pe_int) pe_int) (fun _ _ => rfl)))
      (pss_cons (ps_set (i := 2) sc_law_letters.nd rfl (.inr rfl) pe_int)
      (pss_cons (ps_if (pt_cmpR op_eq (pe_op op_mod (pe_op op_fdiv (pv 0) pe_int) pe_int) pe_int (nomark _)) (pss_one (ps_set (i := 2) sc_law_letters.nd rfl (.inr rfl) (pe_op op_add (pe_op op_add pe_int (pe_op op_mod (pe_op op_fdiv (pv 0) pe_int) pe_int)) (pe_op op_mul pe_int (pe_op op_mod (pe_op op_fdiv (pv 0) pe_int) pe_int))))) pss_nil)
      (pss_cons (ps_set (i := 3) sc_law_letters.nd rfl (.inr rfl) (pe_lc (own := [("_law_k", 4)]) (g := gName 4) (tt := tYes) (by rfl) sc_law_letters.nd (pi_range1 (by rfl) m_range (pa_cons (pe_op op_mul pe_int (pv 2)) pa_nil)) (blkOk_by (own := [("_law_k", 4)]) (N := ["_law_cell", "_law_gap", "_law_size", "_law_signs", "_law_k"]) (sc := defScope s_law_letters) (by decide +kernel)) (fun _ _ _ _ _ => pg_name (i := 4) sc_law_letters.nd rfl (Or.inl rfl)) (fun _ _ _ _ _ => pts_nil) (fun _ _ _ _ _ => (pe_has H_law_sign_by (hr.mono (by decide)) (by rfl) (pa_cons (pe_op op_add (pv 0) (pe_op op_mul (pv 4) (pv 1))) pa_nil)))))
      (pss_one (ps_ret (pe_lc (own := [("_law_k", 4)]) (g := gName 4) (tt := tYes) (by rfl) sc_law_letters.nd (pi_range1 (by rfl) m_range (pa_cons pe_int pa_nil)) (blkOk_by (own := [("_law_k", 4)]) (N := ["_law_cell", "_law_gap", "_law_size", "_law_signs", "_law_k"]) (sc := defScope s_law_letters) (by decide +kernel)) (fun _ _ _ _ _ => pg_name (i := 4) sc_law_letters.nd rfl (Or.inl rfl)) (fun _ _ _ _ _ => pts_nil) (fun _ _ _ _ _ => (pe_joinK (K := K) rfl pe_str (pe_slice (sllK (K := K) rfl) (pv 3) (po_some (pe_op op_mul (pv 4) (pv 2))) (po_some (pe_op op_add (pe_op op_mul (pv 4) (pv 2)) (pv 2))))))))))))), ?_⟩
  rintro as r ⟨c, rfl, rfl⟩
  have hg := gap_b c
  have hs := gsize_b c
  -- _law_gap = [..][_law_cell // 96 % 8]
  refine as_seq (as_asg (ae_op (an_lst' (ald_cons ae_int (ald_cons ae_int (ald_cons ae_int (ald_cons ae_int (ald_cons ae_int (ald_cons ae_int (ald_cons ae_int (ald_cons ae_int ald_nil))))))))).ae (ae_op (ae_op (ae_var rfl rfl) ae_int (a2_I ⟨by decide, by decide⟩)) ae_int (a2_I (by decide))) (a2_ixL (gap_at c))) ?_)
  -- _law_size
  refine as_seq (as_asg ae_int ?_)
  refine as_seq (as_ifset (at_val (ae_op (ae_op (ae_op (ae_var rfl rfl) ae_int (a2_I ⟨by decide, by decide⟩)) ae_int (a2_I (by decide))) ae_int a2_eqI)) (fun h => (ae_op (ae_op ae_int (ae_op (ae_op (ae_var rfl rfl) ae_int (a2_I ⟨by decide, by decide⟩)) ae_int (a2_I (by decide))) a2_I0) (ae_op ae_int (ae_op (ae_op (ae_var rfl rfl) ae_int (a2_I ⟨by decide, by decide⟩)) ae_int (a2_I (by decide))) (a2_I (.inl ⟨by decide, by decide⟩))) a2_I0)) rfl ?_)
  have e2 : (if decide (c / 768 % 4 = 1) = true then (D.int (2 + c / 3072 % 8 + 10 * (c / 24576 % 2))) else .int 1) = .int (gsize c) := by
    unfold gsize
    split <;> rfl
  rw [e2]
  -- _law_signs
  refine as_seq (as_asg (AN.ae (an_lcN (fun i => .str [sgn (c + (i : Nat) * gap c)]) (ai_rng1 (al_cons (ae_op ae_int (ae_var rfl rfl) (a2_I (.inl ⟨by decide, by decide⟩))) al_nil) (by omega) (by omega)) (by omega) fun i hi => (ae_call (al_cons (ae_op (ae_var rfl rfl) (ae_op (ae_var rfl rfl) (ae_var rfl rfl) (a2_I (.inr ⟨by omega, by omega⟩))) a2_I0) al_nil) rfl ⟨_, rfl, rfl⟩))) ?_)
  have e3 : ((List.range (5 * gsize c).toNat).map fun i => D.str [sgn (c + (i : Nat) * gap c)]) = (((lsigns c).map fun x => [x]).map D.str) := by
    unfold lsigns
    rw [List.map_map, List.map_map]
    rfl
  rw [e3]
  -- the groups
  refine as_ret (AN.ae (an_lcN (fun k => .str (letter c k)) (ai_rng1 (al_cons ae_int al_nil) (by decide) (by decide)) (by decide) fun i hi => ?_)) ⟨?_, rfl⟩
  · have hi : i < 5 := hi
    refine ae_m1 ae_str (AN.ae (an_slL (ae_var rfl rfl) (ao_some (ae_op (ae_var rfl rfl) (ae_var rfl rfl) (a2_I (.inr ⟨by omega, by omega⟩)))) (ao_some (ae_op (ae_op (ae_var rfl rfl) (ae_var rfl rfl) (a2_I (.inr ⟨by omega, by omega⟩))) (ae_var rfl rfl) a2_I0)))) (am_joinT ((letter c i).map fun x => [x]) ?_ ?_ ones_join)
    · rw [cutG_map, cutG_map, cut_letter c hi]
    · rw [ones_sum, letter_len c hi]
      show _ + _ * 0 ≤ _
      omega
  · unfold letters strsD
    rw [List.map_map]
    rfl
/-! ### _law_some_of -/
abbrev s_law_some_of : Stmt := topS 23
theorem sc_law_some_of : FnScope ["_law_letters_here", "_law_mask", "_law_signs", "_law_k"] ["_law_letters_here", "_law_mask"] (defScope s_law_some_of) := ⟨rfl, rfl, rfl, by decide +kernel, rfl, by decide +kernel, by decide +kernel⟩
def R_law_some_of (as : List A) (r : A) : Prop := ∃ (ls : List (List Nat)) (m : Int), as = [.d (strsD ls), .d (.int m)] ∧ LetOk ls ∧ 4 ≤ ls.length ∧ r = .d (.str (someOf ls m))
abbrev Has_law_some_of (P : Program) (w : World) (K : PySem.W.Frag) (mg : Str → Option Value) (base : Heap) : Prop := Has P w K mg base "_law_some_of" ["_law_letters_here", "_law_mask"] 1 (SpF K R_law_some_of)
theorem ok_law_some_of (DD : DefAt K mg "_law_some_of" s_law_some_of ["_law_letters_here", "_law_mask"]) (m_range : mg "range" = none) : Has_law_some_of P w K mg base := by
  refine okF DD sc_law_some_of (by rintro as r ⟨_, _, rfl, _⟩; rfl) fun _ _ _ _ _ _ _ hr => ⟨_, (pss_cons (ps_set (i := 2) sc_law_some_of.nd rfl (.inl rfl) pe_str)
      (pss_cons (ps_for PassesOwn.never rfl (pi_range1 (by rfl) m_range (pa_cons pe_int pa_nil)) (pg_name (i := 3) sc_law_some_of.nd rfl (.inl rfl)) (pss_cons (ps_if (pt_cmpR op_eq (pe_op op_mod (pv 1) pe_int) pe_int (nomark _)) (pss_one (ps_set (i := 2) sc_law_some_of.nd rfl (.inl rfl) (pe_op op_add_str (pe_ix ix_list (pv 0) (pv 3) (fun _ _ => rfl)) (pv 2)))) pss_nil)
      (pss_one (ps_set (i := 1) sc_law_some_of.nd rfl (.inl rfl) (pe_op op_fdiv (pv 1) pe_int)))))
      (pss_one (ps_ret (pv 2))))), ?_⟩
  rintro as r ⟨ls, m, rfl, hl, h4, rfl⟩
  refine as_seq (as_asg (ae_str (s := []) (by decide +kernel)) ?_)
  refine as_seq (as_forE (fun i => ⟨[.d (strsD ls), .d (.int (someSt ls m i).2), .d (.str (someSt ls m i).1), .no], []⟩) (ai_rng1 (al_cons ae_int al_nil) (by decide) (by decide)) ⟨⟨.inr rfl, .inr rfl, .inr rfl, .inl rfl, trivial⟩, rfl⟩ (fun i hi => ?_) fun e' le => ?_)
  · have hi : i < 4 := hi
    refine ag_name ?_
    have hlen := someSt_len hl m i (by omega)
    have hg : ls[i]? = some (ls.getD i []) := by rw [List.getD_eq_getElem?_getD, List.getElem?_eq_getElem (by omega)]; rfl
    have hg2 := (hl.it _ (List.mem_of_getElem? hg)).2
    refine as_seq (as_ifset (x := .str (ls.getD i [] ++ (someSt ls m i).1)) (at_val (ae_op (ae_op (ae_var rfl rfl) ae_int (a2_I (by decide))) ae_int a2_eqI)) (fun _ => ae_op (ae_op (ae_var rfl rfl) (ae_var rfl rfl) (a2_ixL (d := .str (ls.getD i [])) (atI_map (atI_nat hg)))) (ae_var rfl rfl) (a2_addS (by omega))) rfl ?_)
    refine as_asg (ae_op (ae_var rfl rfl) ae_int (a2_I ⟨by decide, by decide⟩)) ⟨⟨.inr rfl, .inr rfl, .inr ?_, .inl rfl, trivial⟩, rfl⟩
    show A.d (if decide ((someSt ls m i).2 % 2 = 1) = true then _ else _) = A.d (.str (if decide ((someSt ls m i).2 % 2 = 1) = true then _ else _))
    split <;> rfl
  · exact AS.le (as_ret (ae_var rfl rfl) ⟨rfl, rfl⟩) le
/-! ### _law_text_by -/
abbrev s_law_text_by : Stmt := topS 24
theorem sc_law_text_by : FnScope ["_law_cell", "_law_size", "_law_letters_here", "_law_made", "_law_number", "_law_k", "_law_group"] ["_law_cell", "_law_size", "_law_letters_here"] (defScope s_law_text_by) := ⟨rfl, rfl, rfl, by decide +kernel, rfl, by decide +kernel, by decide +kernel⟩
def R_law_text_by (as : List A) (r : A) : Prop := ∃ (c size : Int) (ls : List (List Nat)), as = [.d (.int c), .d (.int size), .d (strsD ls)] ∧ LetOk ls ∧ 0 ≤ size ∧ size ≤ 10000 ∧ r = .d (.str (textBy c size ls))
abbrev Has_law_text_by (P : Program) (w : World) (K : PySem.W.Frag) (mg : Str → Option Value) (base : Heap) : Prop := Has P w K mg base "_law_text_by" ["_law_cell", "_law_size", "_law_letters_here"] 1 (SpF K R_law_text_by)
theorem ok_law_text_by (DD : DefAt K mg "_law_text_by" s_law_text_by ["_law_cell", "_law_size", "_law_letters_here"]) (m_range : mg "range" = none) (m_len : mg "len" = none) : Has_law_text_by P w K mg base := by
  refine okF DD sc_law_text_by (by rintro as r ⟨_, _, _, rfl, _⟩; rfl) fun _ _ _ _ _ _ _ hr => ⟨_, (pss_cons (ps_set (i := 3) sc_law_text_by.nd rfl (.inl rfl) pe_str)
      (pss_cons (ps_set (i := 4) sc_law_text_by.nd rfl (.inl rfl) (pe_op op_mod (pv 0) pe_int))
      (pss_cons (ps_for PassesOwn.never rfl (pi_range1 (by rfl) m_range (pa_cons (pv 1) pa_nil)) (pg_name (i := 5) sc_law_text_by.nd rfl (.inl rfl)) (pss_cons (ps_set (i := 4) sc_law_text_by.nd rfl (.inl rfl) (pe_op op_mod (pe_op op_add (pe_op op_mul (pv 4) pe_int) pe_int) pe_int))
      (pss_cons (ps_set (i := 6) sc_law_text_by.nd rfl (.inl rfl) (pe_ix ix_list (pv 2) (pe_op op_mod (pe_op op_fdiv (pv 4) pe_int) (pe_callB call_len (by rfl) m_len (by decide +kernel) (pa_cons (pv 2) pa_nil))) (fun _ _ => rfl)))
      (pss_one (ps_set (i := 3) sc_law_text_by.nd rfl (.inl rfl) (pe_op op_add_str (pv 3) (pe_ix ix_str (pv 6) (pe_op op_mod (pe_op op_fdiv (pv 4) pe_int) (pe_callB call_len (by rfl) m_len (by decide +kernel) (pa_cons (pv 6) pa_nil))) (fun _ _ => rfl))))))))
      (pss_one (ps_ret (pv 3)))))), ?_⟩
  rintro as r ⟨c, size, ls, rfl, hl, h0, h1, rfl⟩
  refine as_seq (as_asg (ae_str (s := []) (by decide +kernel)) ?_)
  refine as_seq (as_asg (ae_op (ae_var rfl rfl) ae_int (a2_I (by decide))) ?_)
  refine as_forE_seq (fun i => ⟨[.d (.int c), .d (.int size), .d (strsD ls), .d (.str (tbState ls c i).1), .d (.int (tbState ls c i).2), .no, .no], []⟩) (ai_rng1 (al_cons (ae_var rfl rfl) al_nil) (by omega) (by omega)) ?_ (fun i hi => ?_) ?_
  · exact ⟨⟨.inr rfl, .inr rfl, .inr rfl, .inr rfl, .inr rfl, .inl rfl, .inl rfl, trivial⟩, rfl⟩
  · refine ag_name ?_
    have hp : (0 : Int) < ls.length := by have := hl.len; omega
    refine as_seq (as_asg (ae_op (ae_op (ae_op (ae_var rfl rfl) ae_int (a2_I (.inr ⟨by decide, by decide⟩))) ae_int a2_I0) ae_int (a2_I (by decide))) ?_)
    obtain ⟨hg, hm⟩ := grp_at hl (nxt (tbState ls c i).2)
    obtain ⟨g1, g2⟩ := hl.it _ hm
    refine as_seq (as_asg (ae_op (ae_var rfl rfl) (ae_op (ae_op (ae_var rfl rfl) ae_int (a2_I ⟨by decide, by decide⟩)) (ae_cb (al_cons (ae_var rfl rfl) al_nil) ac_lenL) (a2_I (by rw [List.length_map]; exact hp))) (a2_ixL (d := .str (ls.getD (nxt (tbState ls c i).2 / 7 % ls.length).toNat [])) (by rw [List.length_map]; exact atI_map hg))) ?_)
    obtain ⟨sg, _⟩ := sign_at g1 (nxt (tbState ls c i).2 / 700)
    refine as_asg (ae_op (ae_var rfl rfl) (ae_op (ae_var rfl rfl) (ae_op (ae_op (ae_var rfl rfl) ae_int (a2_I ⟨by decide, by decide⟩)) (ae_cb (al_cons (ae_var rfl rfl) al_nil) (ac_lenS (by omega))) (a2_I (by omega))) (a2_ixS (by omega) sg)) (a2_addS ?_)) ?_
    · rw [tb_len]
      show i + 1 ≤ _
      omega
    · exact ⟨⟨.inr rfl, .inr rfl, .inr rfl, .inr rfl, .inr rfl, .inl rfl, .inl rfl, trivial⟩, rfl⟩
  · exact as_ret (ae_var rfl rfl) ⟨rfl, rfl⟩
def subs : Pat → List Pat
  | .one _ => []
  | .row ps => ps
  | .or ps => ps
  | .many p => [p]
  | .maybe p => [p]
theorem subs_ok {p : Pat} {d : Nat} (h : Wf p) (hd : dep p ≤ d + 1) : (∀ q ∈ subs p, Wf q ∧ dep q ≤ d) ∧ (subs p).length ≤ 1000 := by
  cases p with
  | one s => exact ⟨fun q hq => (by cases hq), Nat.zero_le _⟩
  | row ps =>
    have hd : deps ps + 1 ≤ d + 1 := hd
    exact ⟨fun q hq => ⟨wfs_mem.mp h.1 q hq, deps_le.mp (Nat.le_of_succ_le_succ hd) q hq⟩, h.2⟩
  | or ps =>
    have hd : deps ps + 1 ≤ d + 1 := hd
    exact ⟨fun q hq => ⟨wfs_mem.mp h.1 q hq, deps_le.mp (Nat.le_of_succ_le_succ hd) q hq⟩, h.2.1⟩
  | many p =>
    have hd : dep p + 1 ≤ d + 1 := hd
    exact ⟨fun q hq => by rw [List.mem_singleton.mp hq]; exact ⟨h, by omega⟩, by show 1 ≤ 1000; decide⟩
  | maybe p =>
    have hd : dep p + 1 ≤ d + 1 := hd
    exact ⟨fun q hq => by rw [List.mem_singleton.mp hq]; exact ⟨h, by omega⟩, by show 1 ≤ 1000; decide⟩
/-! ### _law_grown -/
abbrev s_law_grown : Stmt := topS 25
theorem sc_law_grown : FnScope ["_law_held", "_law_cell", "_law_letters_here", "_law_room", "_law_way", "_law_more", "_law_last", "_law_parts"] ["_law_held", "_law_cell", "_law_letters_here", "_law_room"] (defScope s_law_grown) := ⟨rfl, rfl, rfl, by decide +kernel, rfl, by decide +kernel, by decide +kernel⟩
def R_law_grown (cap : Bool) (as : List A) (ds : List D) (r : A) (ds' : List D) : Prop := ∃ (ls : List (List Nat)) (st : List Pat) (cell room : Int) (d all : Nat), as = [.o 0, .d (.int cell), .d (strsD ls), .d (.int room)] ∧ ds = patsD st.reverse ∧ r = .d (.int (growSt cap ls st cell room).2) ∧ ds' = patsD (growSt cap ls st cell room).1.reverse ∧
  LetU ls ∧ 4 ≤ ls.length ∧ GrOk st room d all ∧ d ≤ 30
abbrev Has_law_grown (P : Program) (w : World) (K : PySem.W.Frag) (mg : Str → Option Value) (base : Heap) (cap : Bool) : Prop := Has P w K mg base "_law_grown" ["_law_held", "_law_cell", "_law_letters_here", "_law_room"] 32 (Sp1 K (R_law_grown cap))
theorem pats_push (st : List Pat) (p : Pat) : patsD (p :: st).reverse = patsD st.reverse ++ [patD p] := by
  rw [patsD_map, patsD_map, List.reverse_cons, List.map_append]
  rfl
theorem pats_pop (st : List Pat) (p : Pat) : (patsD (p :: st).reverse).dropLast = patsD st.reverse := by
  rw [pats_push, List.dropLast_concat]
theorem pats_top (st : List Pat) (p : Pat) : (patsD (p :: st).reverse)[(patsD (p :: st).reverse).length - 1]? = some (patD p) := by
  rw [pats_push, List.length_append]
  show (patsD st.reverse ++ [patD p])[(patsD st.reverse).length]? = _
  rw [List.getElem?_append_right (Nat.le_refl _), Nat.sub_self]
  rfl
theorem pats_len (st : List Pat) : (patsD st.reverse).length = st.length := by
  rw [patsD_map, List.length_map, List.length_reverse]
theorem pats_last (st : List Pat) (p : Pat) : atI (patsD (p :: st).reverse) (-1) = some (patD p) := by
  unfold atI
  have hl := pats_len (p :: st)
  have : ixN (patsD (p :: st).reverse).length (-1) = some ((patsD (p :: st).reverse).length - 1) := by
    unfold ixN
    rw [if_neg (by omega), if_pos (by rw [hl]; show -((st.length + 1 : Nat) : Int) ≤ -1; omega)]
    congr 1
    omega
  rw [this]
  exact pats_top st p
theorem pats_ne (st : List Pat) (p : Pat) : (!(patsD (p :: st).reverse).isEmpty) = true := by
  rw [pats_push]
  cases patsD st.reverse <;> rfl
theorem ok_law_grown (DD : DefAt K mg "_law_grown" s_law_grown ["_law_held", "_law_cell", "_law_letters_here", "_law_room"]) (H_law_some_of : Has_law_some_of P w K mg base) (m_len : mg "len" = none) : Has_law_grown P w K mg base false := by
  refine ok1 DD sc_law_grown (by rintro as ds r ds' ⟨_, _, _, _, _, _, rfl, _⟩; rfl) fun _ _ _ _ _ _ _ hr => ⟨_, (pss_cons (ps_set (i := 4) sc_law_grown.nd rfl (.inl rfl) (pe_op op_mod (pv 1) pe_int))
      (pss_cons (ps_set (i := 5) sc_law_grown.nd rfl (.inl rfl) (pe_op op_fdiv (pv 1) pe_int))
      (pss_cons (ps_if (PW.pt (pw_and (pt_cmpR op_gt (pv 4) pe_int (nomark _)) (pw_and (pt_cmpR op_gt (pv 3) pe_int (nomark _)) (pw_and1 (pt_cmpR op_lt (pe_callB call_len (by rfl) m_len (by decide +kernel) (pa_cons (pv 0) pa_nil)) pe_int (nomark _)))))) (pss_cons (ps_expr (pe_bm PySem.F.plainAttrs_list PySem.F.slot_list_append PySem.F.type_list_append mt_append (pv 0) (pa_cons (pe_tup (pa_cons pe_str (pa_cons (pe_has H_law_some_of (hr.mono (by decide)) (by rfl) (pa_cons (pv 2) (pa_cons (pe_op op_add pe_int (pe_op op_mod (pv 5) pe_int)) pa_nil))) pa_nil))) pa_nil)))
      (pss_one (ps_ret (pe_op op_sub (pv 3) pe_int)))) pss_nil)
      (pss_cons (ps_if (PW.pt (pw_and (pt_cmpR op_eq (pv 4) pe_int (nomark _)) (pw_and1 (pt_cmpR op_lt (pe_callB call_len (by rfl) m_len (by decide +kernel) (pa_cons (pv 0) pa_nil)) pe_int (nomark _))))) (pss_one (ps_expr (pe_bm PySem.F.plainAttrs_list PySem.F.slot_list_append PySem.F.type_list_append mt_append (pv 0) (pa_cons (pe_tup (pa_cons pe_str (pa_cons (pe_lst pa_nil) pa_nil))) pa_nil)))) (pss_one (ps_if (PW.pt (pw_and (pt_cmpR op_eq (pv 4) pe_int (nomark _)) (pw_and1 (pt_truth (pv 0) (by intro _; rfl))))) (pss_one (ps_expr (pe_bm PySem.F.plainAttrs_list PySem.F.slot_list_append PySem.F.type_list_append mt_append (pv 0) (pa_cons (pe_tup (pa_cons pe_str (pa_cons (pe_bm0 PySem.F.plainAttrs_list PySem.F.slot_list_pop PySem.F.type_list_pop mt_pop (pv 0)) pa_nil))) pa_nil)))) (pss_one (ps_if (PW.pt (pw_and (pt_cmpR op_eq (pv 4) pe_int (nomark _)) (pw_and1 (pt_truth (pv 0) (by intro _; rfl))))) (pss_one (ps_expr (pe_bm PySem.F.plainAttrs_list PySem.F.slot_list_append PySem.F.type_list_append mt_append (pv 0) (pa_cons (pe_tup (pa_cons pe_str (pa_cons (pe_bm0 PySem.F.plainAttrs_list PySem.F.slot_list_pop PySem.F.type_list_pop mt_pop (pv 0)) pa_nil))) pa_nil)))) (pss_one (ps_if (PW.pt (pw_and (pt_cmpR op_gt (pv 4) pe_int (nomark _)) (pw_and1 (pt_cmpR op_gt (pe_callB call_len (by rfl) m_len (by decide +kernel) (pa_cons (pv 0) pa_nil)) pe_int (nomark _))))) (pss_cons (ps_set (i := 6) sc_law_grown.nd rfl (.inl rfl) (pe_bm0 PySem.F.plainAttrs_list PySem.F.slot_list_pop PySem.F.type_list_pop mt_pop (pv 0)))
      (pss_cons (ps_set (i := 7) sc_law_grown.nd rfl (.inl rfl) (pe_lst (pa_cons (pe_bm0 PySem.F.plainAttrs_list PySem.F.slot_list_pop PySem.F.type_list_pop mt_pop (pv 0)) (pa_cons (pv 6) pa_nil))))
      (pss_cons (ps_if (PW.pt (pw_and (pt_cmpR op_eq (pe_op op_mod (pv 5) pe_int) pe_int (nomark _)) (pw_and1 (pt_truth (pv 0) (by intro _; rfl))))) (pss_one (ps_set (i := 7) sc_law_grown.nd rfl (.inl rfl) (pe_op op_cat (pe_lst (pa_cons (pe_bm0 PySem.F.plainAttrs_list PySem.F.slot_list_pop PySem.F.type_list_pop mt_pop (pv 0)) pa_nil)) (pv 7)))) pss_nil)
      (pss_one (ps_expr (pe_bm PySem.F.plainAttrs_list PySem.F.slot_list_append PySem.F.type_list_append mt_append (pv 0) (pa_cons (pe_tup (pa_cons (pe_ix ix_list (pe_lst (pa_cons pe_str (pa_cons pe_str pa_nil))) (pe_op op_mod (pe_op op_fdiv (pv 4) pe_int) pe_int) (fun _ _ => rfl)) (pa_cons (pv 7) pa_nil))) pa_nil))))))) pss_nil)))))))
      (pss_one (ps_ret (pv 3))))))), ?_⟩
  rintro as ds r ds' ⟨ls, st, cell, room, d, all, rfl, rfl, rfl, rfl, hu, hl, hg, hd⟩
  have h8 := hg.ln
  refine as_seq (as_asg (ae_op (ae_var rfl rfl) ae_int (a2_I (by decide))) ?_)
  refine as_seq (as_asg (ae_op (ae_var rfl rfl) ae_int (a2_I ⟨by decide, by decide⟩)) ?_)
  refine as_seq (as_if (b := decide (5 < cell % 10 ∧ 0 < room ∧ st.length < 8)) ((at_and (at_val (ae_op (ae_var rfl rfl) ae_int a2_I0b)) fun _ => at_and (at_val (ae_op (ae_var rfl rfl) ae_int a2_I0b)) fun _ => at_val (ae_op (ae_cb (al_cons (ae_var rfl rfl) al_nil) (ac_lenO rfl)) ae_int a2_I0b)).eq ?_) (fun h => ?_) (fun h => as_next ?_))
  · rw [pats_len, ← Bool.decide_and, ← Bool.decide_and, decide_eq_decide]
    constructor
    · rintro ⟨h1, h2, h3⟩
      exact ⟨h1, h2, by omega⟩
    · rintro ⟨h1, h2, h3⟩
      exact ⟨h1, h2, by omega⟩
  · have h := of_decide_eq_true h
    have e : growSt false ls st cell room = (.one (someOf ls (1 + cell / 10 % 15)) :: st, room - 1) := if_pos h
    rw [e, pats_push]
    refine as_seq (as_app (ae_var rfl rfl) (ae_tup' (ald_cons (ae_str (s := kOne) (by decide +kernel)) (ald_cons (ae_call (al_cons (ae_var rfl rfl) (al_cons (ae_op ae_int (ae_op (ae_var rfl rfl) ae_int (a2_I (by decide))) a2_I0) al_nil)) rfl ⟨_, _, rfl, hu.ok, hl, rfl⟩) ald_nil))) rfl (by rw [pats_len]; omega) ?_)
    exact as_ret (ae_op (ae_var rfl rfl) ae_int a2_I0) ⟨rfl, rfl, rfl⟩
  · have h := of_decide_eq_false h
    have e : growSt false ls st cell room = if cell % 10 = 0 ∧ st.length < 8 then (.row [] :: st, room) else (growC false (cell % 10) (cell / 10) st, room) := if_neg h
    rw [e]
    have e2 : (if cell % 10 = 0 ∧ st.length < 8 then (Pat.row [] :: st, room) else (growC false (cell % 10) (cell / 10) st, room)).2 = room := by split <;> rfl
    rw [e2]
    refine as_seqLe ⟨[.o 0, .d (.int cell), .d (strsD ls), .d (.int room), .no, .no, .no, .no], [some (.lst (patsD (if cell % 10 = 0 ∧ st.length < 8 then (Pat.row [] :: st, room) else (growC false (cell % 10) (cell / 10) st, room)).1.reverse))]⟩ ?_ (as_ret (ae_var rfl rfl) ⟨rfl, rfl, rfl⟩)
    refine as_if (b := decide (cell % 10 = 0 ∧ st.length < 8)) ((at_and (at_val (ae_op (ae_var rfl rfl) ae_int a2_eqI)) fun _ => at_val (ae_op (ae_cb (al_cons (ae_var rfl rfl) al_nil) (ac_lenO rfl)) ae_int a2_I0b)).eq ?_) (fun h => ?_) (fun h => ?_)
    · rw [pats_len, ← Bool.decide_and, decide_eq_decide]
      exact ⟨fun h => ⟨h.1, by omega⟩, fun h => ⟨h.1, by omega⟩⟩
    · rw [if_pos (of_decide_eq_true h), pats_push]
      exact as_app (ae_var rfl rfl) (ae_tup' (ald_cons (ae_str (s := kRow) (by decide +kernel)) (ald_cons (an_lst' (ds := []) ald_nil).ae ald_nil))) rfl (by rw [pats_len]; omega) ⟨⟨.inr rfl, .inr rfl, .inr rfl, .inr rfl, .inl rfl, .inl rfl, .inl rfl, .inl rfl, trivial⟩, rfl⟩
    · rw [if_neg (of_decide_eq_false h)]
      cases st with
      | nil =>
        refine as_if (b := false) ((at_and (at_val (ae_op (ae_var rfl rfl) ae_int a2_eqI)) fun _ => at_trO (ds := []) rfl (ae_var rfl rfl)).eq (Bool.and_false _)) (fun h => (by cases h)) (fun _ => ?_)
        refine as_if (b := false) ((at_and (at_val (ae_op (ae_var rfl rfl) ae_int a2_eqI)) fun _ => at_trO (ds := []) rfl (ae_var rfl rfl)).eq (Bool.and_false _)) (fun h => (by cases h)) (fun _ => ?_)
        refine as_if (b := false) ((at_and (at_val (ae_op (ae_var rfl rfl) ae_int a2_I0b)) fun _ => at_val (ae_op (ae_cb (al_cons (ae_var rfl rfl) al_nil) (ac_lenO (ds := []) rfl)) ae_int a2_I0b)).eq (Bool.and_false _)) (fun h => (by cases h)) (fun _ => as_next ?_)
        exact ⟨⟨.inr rfl, .inr rfl, .inr rfl, .inr rfl, .inl rfl, .inl rfl, .inl rfl, .inl rfl, trivial⟩, rfl⟩
      | cons p rs =>
        have hwp := hg.wf.1
        have hdp : dep p ≤ 30 := Nat.le_trans (deps_le.mp hg.dp p List.mem_cons_self) hd
        show AS K 1 _ ⟨fun e' => Le e' ⟨_, [some (.lst (patsD (if cell % 10 = 1 ∧ (false = true → over p < 2) then Pat.many p :: rs else if cell % 10 = 2 then .maybe p :: rs else if 2 < cell % 10 then growD (cell % 10) (cell / 10) p rs else p :: rs).reverse))]⟩, _, _, _⟩ _
        refine as_if (b := decide (cell % 10 = 1 ∧ (false = true → over p < 2))) ((at_and (at_val (ae_op (ae_var rfl rfl) ae_int a2_eqI)) fun _ => at_trO rfl (ae_var rfl rfl)).eq ?_) (fun h => ?_) (fun h => ?_)
        · rw [pats_ne, Bool.and_true, decide_eq_decide]
          exact ⟨fun h => ⟨h, fun z => (nomatch z)⟩, fun h => h.1⟩
        · rw [if_pos (of_decide_eq_true h), pats_push]
          refine as_appX (k := 0) (ae_var rfl rfl) rfl (ax_tup (axl_cons ((ae_str (s := kMany) (by decide +kernel)).ax (axl_cons (ax_pop (ae_var rfl rfl) rfl (pats_top rs p) (axl_nil ⟨[.str kMany, patD p], rfl, (by show 2 ≤ 1000000; decide), _, patsD rs.reverse, rfl, ?_, by rw [pats_len]; exact Nat.lt_of_lt_of_le (Nat.lt_of_succ_le h8) (by decide), ?_⟩))))))
          · rw [pats_pop]
            rfl
          · exact ⟨⟨.inr rfl, .inr rfl, .inr rfl, .inr rfl, .inl rfl, .inl rfl, .inl rfl, .inl rfl, trivial⟩, rfl⟩
        rw [if_neg (of_decide_eq_false h)]
        refine as_if (b := decide (cell % 10 = 2)) ((at_and (at_val (ae_op (ae_var rfl rfl) ae_int a2_eqI)) fun _ => at_trO rfl (ae_var rfl rfl)).eq ?_) (fun h => ?_) (fun h => ?_)
        · rw [pats_ne, Bool.and_true]
        · rw [if_pos (of_decide_eq_true h), pats_push]
          refine as_appX (k := 0) (ae_var rfl rfl) rfl (ax_tup (axl_cons ((ae_str (s := kMaybe) (by decide +kernel)).ax (axl_cons (ax_pop (ae_var rfl rfl) rfl (pats_top rs p) (axl_nil ⟨[.str kMaybe, patD p], rfl, (by show 2 ≤ 1000000; decide), _, patsD rs.reverse, rfl, ?_, by rw [pats_len]; exact Nat.lt_of_lt_of_le (Nat.lt_of_succ_le h8) (by decide), ?_⟩))))))
          · rw [pats_pop]
            rfl
          · exact ⟨⟨.inr rfl, .inr rfl, .inr rfl, .inr rfl, .inl rfl, .inl rfl, .inl rfl, .inl rfl, trivial⟩, rfl⟩
        rw [if_neg (of_decide_eq_false h)]
        cases rs with
        | nil =>
          refine as_if (b := false) ((at_and (at_val (ae_op (ae_var rfl rfl) ae_int a2_I0b)) fun _ => at_val (ae_op (ae_cb (al_cons (ae_var rfl rfl) al_nil) (ac_lenO (ds := [patD p]) rfl)) ae_int a2_I0b)).eq (Bool.and_false _)) (fun h => (by cases h)) (fun _ => as_next ?_)
          refine ⟨⟨.inr rfl, .inr rfl, .inr rfl, .inr rfl, .inl rfl, .inl rfl, .inl rfl, .inl rfl, trivial⟩, ?_⟩
          have : (if 2 < cell % 10 then growD (cell % 10) (cell / 10) p [] else [p]) = [p] := by split <;> rfl
          rw [this]
          rfl
        | cons q r2 =>
          refine as_if (b := decide (2 < cell % 10)) ((at_and (at_val (ae_op (ae_var rfl rfl) ae_int a2_I0b)) fun _ => at_val (ae_op (ae_cb (al_cons (ae_var rfl rfl) al_nil) (ac_lenO rfl)) ae_int a2_I0b)).eq ?_) (fun h => ?_) (fun h => as_next ?_)
          · rw [pats_len]
            have : decide (((p :: q :: r2).length : Int) > 1) = true := decide_eq_true (by show ((r2.length + 1 + 1 : Nat) : Int) > 1; omega)
            rw [this, Bool.and_true]
          · rw [if_pos (of_decide_eq_true h)]
            show AS K 1 _ ⟨fun e' => Le e' ⟨_, [some (.lst (patsD (growB (cell % 10) (cell / 10) p q r2).reverse))]⟩, _, _, _⟩ _
            refine as_seq (as_asgX (ax_pop (ae_var rfl rfl) rfl (pats_top (q :: r2) p) ?_))
            rw [pats_pop]
            refine as_seq (as_asgX (ax_lst (axl_cons (ax_pop (ae_var rfl rfl) rfl (pats_top r2 q) (axl_al (al_cons (ae_var rfl rfl) al_nil) ⟨[patD q, patD p], rfl, (by show 2 ≤ 1000000; decide), ?_⟩)))))
            rw [pats_pop]
            have b1 := mod_lo (cell % 10 / 2) (n := 2) (by decide)
            have b2 := mod_hi (cell % 10 / 2) (n := 2) (by decide)
            have pk : ∀ ps : List Pat, atI [D.str kRow, D.str kOr] (cell % 10 / 2 % 2) = some (.str (kind (mkB (cell % 10) ps))) ∧ patD (mkB (cell % 10) ps) = .tup [.str (kind (mkB (cell % 10) ps)), .lst (patsD ps)] := fun ps => by
              have : cell % 10 / 2 % 2 = 0 ∨ cell % 10 / 2 % 2 = 1 := by omega
              rcases this with z | z
              · rw [z]
                have : mkB (cell % 10) ps = .row ps := if_neg (by rw [z]; decide)
                rw [this]
                exact ⟨rfl, rfl⟩
              · rw [z]
                have : mkB (cell % 10) ps = .or ps := if_pos z
                rw [this]
                exact ⟨rfl, rfl⟩
            cases r2 with
            | nil =>
              refine as_seq (as_if (b := false) ((at_and (at_val (ae_op (ae_op (ae_var rfl rfl) ae_int (a2_I (by decide))) ae_int a2_eqI)) fun _ => at_trO (ds := []) rfl (ae_var rfl rfl)).eq (Bool.and_false _)) (fun h => (by cases h)) (fun _ => as_next ?_))
              refine as_app (x := patD (mkB (cell % 10) [q, p])) (ae_var rfl rfl) ((ae_tup' (ald_cons (ae_op (an_lst' (ds := [.str kRow, .str kOr]) (ald_cons (ae_str (by decide +kernel)) (ald_cons (ae_str (by decide +kernel)) ald_nil))).ae (ae_op (ae_op (ae_var rfl rfl) ae_int (a2_I ⟨by decide, by decide⟩)) ae_int (a2_I (by decide))) (a2_ixL (pk [q, p]).1)) (ald_cons (ae_var rfl rfl) ald_nil))).eq (by rw [(pk [q, p]).2]; rfl)) rfl (by show 0 < 1000000; decide) ?_
              exact ⟨⟨.inr rfl, .inr rfl, .inr rfl, .inr rfl, .inl rfl, .inl rfl, .inl rfl, .inl rfl, trivial⟩, rfl⟩
            | cons x r3 =>
              have h8 : r3.length + 1 + 1 + 1 ≤ 8 := h8
              have hxl : (patsD (x :: r3).reverse).length < 1000000 := by
                rw [pats_len]
                show r3.length + 1 < 1000000
                omega
              have hrl : (patsD r3.reverse).length < 1000000 := by
                rw [pats_len]
                omega
              show AS K 1 _ ⟨fun e' => Le e' ⟨_, [some (.lst (patsD (if cell / 10 % 3 = 1 then mkB (cell % 10) [x, q, p] :: r3 else mkB (cell % 10) [q, p] :: x :: r3).reverse))]⟩, _, _, _⟩ _
              refine as_seq (as_if (b := decide (cell / 10 % 3 = 1)) ((at_and (at_val (ae_op (ae_op (ae_var rfl rfl) ae_int (a2_I (by decide))) ae_int a2_eqI)) fun _ => at_trO rfl (ae_var rfl rfl)).eq (by rw [pats_ne, Bool.and_true])) (fun h => ?_) (fun h => as_next ?_))
              · rw [if_pos (of_decide_eq_true h), pats_push]
                refine as_asgX (ax_op (ax_lst (axl_cons (ax_pop (ae_var rfl rfl) rfl (pats_top r3 x) (axl_nil ⟨[patD x], rfl, (by show 1 ≤ 1000000; decide), _, _, ae_var rfl rfl, N2.a2 (n2_cat (by show 1 + 2 ≤ 1000000; decide)), ?_⟩)))))
                rw [pats_pop]
                refine as_app (x := patD (mkB (cell % 10) [x, q, p])) (ae_var rfl rfl) ((ae_tup' (ald_cons (ae_op (an_lst' (ds := [.str kRow, .str kOr]) (ald_cons (ae_str (by decide +kernel)) (ald_cons (ae_str (by decide +kernel)) ald_nil))).ae (ae_op (ae_op (ae_var rfl rfl) ae_int (a2_I ⟨by decide, by decide⟩)) ae_int (a2_I (by decide))) (a2_ixL (pk [x, q, p]).1)) (ald_cons (ae_var rfl rfl) ald_nil))).eq (by rw [(pk [x, q, p]).2]; rfl)) rfl hrl ?_
                exact ⟨⟨.inr rfl, .inr rfl, .inr rfl, .inr rfl, .inl rfl, .inl rfl, .inl rfl, .inl rfl, trivial⟩, rfl⟩
              · rw [if_neg (of_decide_eq_false h), pats_push]
                refine as_app (x := patD (mkB (cell % 10) [q, p])) (ae_var rfl rfl) ((ae_tup' (ald_cons (ae_op (an_lst' (ds := [.str kRow, .str kOr]) (ald_cons (ae_str (by decide +kernel)) (ald_cons (ae_str (by decide +kernel)) ald_nil))).ae (ae_op (ae_op (ae_var rfl rfl) ae_int (a2_I ⟨by decide, by decide⟩)) ae_int (a2_I (by decide))) (a2_ixL (pk [q, p]).1)) (ald_cons (ae_var rfl rfl) ald_nil))).eq (by rw [(pk [q, p]).2]; rfl)) rfl hxl ?_
                exact ⟨⟨.inr rfl, .inr rfl, .inr rfl, .inr rfl, .inl rfl, .inl rfl, .inl rfl, .inl rfl, trivial⟩, rfl⟩
          · rw [if_neg (of_decide_eq_false h)]
            exact ⟨⟨.inr rfl, .inr rfl, .inr rfl, .inr rfl, .inl rfl, .inl rfl, .inl rfl, .inl rfl, trivial⟩, rfl⟩
/-! ### _law_wide -/
abbrev s_law_wide : Stmt := topS 26
theorem sc_law_wide : FnScope ["_law_cell", "_law_gap", "_law_k"] ["_law_cell"] (defScope s_law_wide) := ⟨rfl, rfl, rfl, by decide +kernel, rfl, by decide +kernel, by decide +kernel⟩
def R_law_wide (as : List A) (r : A) : Prop := ∃ c : Int, as = [.d (.int c)] ∧ r = .d (strsD (wide 60 c))
abbrev Has_law_wide (P : Program) (w : World) (K : PySem.W.Frag) (mg : Str → Option Value) (base : Heap) : Prop := Has P w K mg base "_law_wide" ["_law_cell"] 2 (SpF K R_law_wide)
theorem ok_law_wide (DD : DefAt K mg "_law_wide" s_law_wide ["_law_cell"]) (H_law_sign_by : Has_law_sign_by P w K mg base) (m_range : mg "range" = none) : Has_law_wide P w K mg base := by
  refine okF DD sc_law_wide (by rintro as r ⟨_, rfl, _⟩; rfl) fun _ _ _ _ _ _ _ hr => ⟨_, (pss_cons (ps_set (i := 1) sc_law_wide.nd rfl (.inr rfl) (pe_ix ix_list (pe_lst (pa_cons pe_int (pa_cons pe_int (pa_cons pe_int (pa_cons pe_int (pa_cons pe_int (pa_cons pe_int (pa_cons pe_int (pa_cons pe_int pa_nil))))))))) (pe_op op_mod (pe_op op_fdiv (pv 0) pe_int) pe_int) (fun _ _ => rfl)))
      (pss_one (ps_ret (pe_lc (own := [("_law_k", 2)]) (g := gName 2) (tt := tYes) (by rfl) sc_law_wide.nd (pi_range1 (by rfl) m_range (pa_cons (pe_op op_add pe_int (pe_op op_mod (pe_op op_fdiv (pv 0) pe_int) pe_int)) pa_nil)) (blkOk_by (own := [("_law_k", 2)]) (N := ["_law_cell", "_law_gap", "_law_k"]) (sc := defScope s_law_wide) (by decide +kernel)) (fun _ _ _ _ _ => pg_name (i := 2) sc_law_wide.nd rfl (Or.inl rfl)) (fun _ _ _ _ _ => pts_nil) (fun _ _ _ _ _ => (pe_has H_law_sign_by (hr.mono (by decide)) (by rfl) (pa_cons (pe_op op_add (pv 0) (pe_op op_mul (pv 2) (pv 1))) pa_nil))))))), ?_⟩
  rintro as r ⟨c, rfl, rfl⟩
  have hg := gap_b c
  have a := mod_lo (c / 768) (n := 60) (by decide)
  have b := mod_hi (c / 768) (n := 60) (by decide)
  refine as_seq (as_asg (ae_op (an_lst' (ald_cons ae_int (ald_cons ae_int (ald_cons ae_int (ald_cons ae_int (ald_cons ae_int (ald_cons ae_int (ald_cons ae_int (ald_cons ae_int ald_nil))))))))).ae (ae_op (ae_op (ae_var rfl rfl) ae_int (a2_I ⟨by decide, by decide⟩)) ae_int (a2_I (by decide))) (a2_ixL (gap_at c))) ?_)
  refine as_ret (AN.ae ((an_lcN (fun k => .str [sgn (c + (k : Nat) * gap c)]) (ai_rng1 (al_cons (ae_op ae_int (ae_op (ae_op (ae_var rfl rfl) ae_int (a2_I ⟨by decide, by decide⟩)) ae_int (a2_I (by decide))) a2_I0) al_nil) (by omega) (by omega)) (by omega) fun i hi => (ae_call (al_cons (ae_op (ae_var rfl rfl) (ae_op (ae_var rfl rfl) (ae_var rfl rfl) (a2_I (.inr ⟨by omega, by omega⟩))) a2_I0) al_nil) rfl ⟨_, rfl, rfl⟩)).eq (es := (wide 60 c).map .str) ?_)) ⟨rfl, rfl⟩
  unfold wide
  rw [List.map_map]
  rfl
/-! ### a row of leaves of one sign each -/
theorem an_word {e : Env} {te : TE} {j : Nat} {t : List Nat} {z : Str} (hz : z.cps.toList = kOne) (h : AE K te e (.d (.str t))) (hl : t.length ≤ 900000) (hj : j < e.s.length) : AN K (tLc (iStr te) (gName j) tYes (tTup (tCons (tC (.str z)) (tCons (tVar j) tNil))) [j]) e (patsD (t.map fun c => .one [c])) := by
  refine (an_lcN (n := t.length) (f := fun i => .str [t.getD i 0]) (fun i => patD (.one [t.getD i 0])) (ai_str (n := t.length) (f := fun i => t.getD i 0) h rfl (fun i hi => by rw [List.getD_eq_getElem?_getD, List.getElem?_eq_getElem hi]; rfl)) hl fun i hi => ae_tup' (ds := [.str kOne, .str [t.getD i 0]]) (ald_cons (ae_str hz) (ald_cons (ae_var (by show (e.s.set j _)[j]? = _; rw [List.getElem?_set_self hj]) rfl) ald_nil))).eq ?_
  rw [patsD_map, List.map_map]
  refine List.ext_getElem? fun i => ?_
  rw [List.getElem?_map, List.getElem?_map]
  by_cases hi : i < t.length
  · rw [List.getElem?_range hi, List.getElem?_eq_getElem hi]
    show some (patD (.one [t.getD i 0])) = some (patD (.one [t[i]]))
    rw [List.getD_eq_getElem?_getD, List.getElem?_eq_getElem hi]
    rfl
  · rw [List.getElem?_eq_none (by rw [List.length_range]; omega), List.getElem?_eq_none (by omega)]
    rfl
theorem pats_app (xs : List Pat) (p : Pat) : patsD (xs ++ [p]) = patsD xs ++ [patD p] := by
  rw [patsD_map, patsD_map, List.map_append]
  rfl
theorem patsD_len (xs : List Pat) : (patsD xs).length = xs.length := by rw [patsD_map, List.length_map]
/-! ### _law_words -/
abbrev s_law_words : Stmt := topS 27
theorem sc_law_words : FnScope ["_law_script", "_law_letters_here", "_law_shape", "_law_count", "_law_most", "_law_number", "_law_held", "_law_k", "_law_size", "_law_signs", "_law_sign"] ["_law_script"] (defScope s_law_words) := ⟨rfl, rfl, rfl, by decide +kernel, rfl, by decide +kernel, by decide +kernel⟩
def R_law_words (K : PySem.W.Frag) (as : List A) (r : A) : Prop := ∃ ns : List Int, as = [.p (ScP K ns)] ∧ r = .d (.lst (patsD (wordsBy 60 ns)))
abbrev Has_law_words (P : Program) (w : World) (K : PySem.W.Frag) (mg : Str → Option Value) (base : Heap) : Prop := Has P w K mg base "_law_words" ["_law_script"] 3 (SpF K (R_law_words K))
theorem ok_law_words (DD : DefAt K mg "_law_words" s_law_words ["_law_script"]) (H_law_wide : Has_law_wide P w K mg base) (H_law_cell_at : Has_law_cell_at P w K mg base) (H_law_text_by : Has_law_text_by P w K mg base) (m_min : mg "min" = none) (m_range : mg "range" = none) : Has_law_words P w K mg base := by
  refine okF DD sc_law_words (by rintro as r ⟨_, rfl, _⟩; rfl) fun _ _ _ _ _ _ _ hr => ⟨_, (pss_cons (ps_set (i := 1) sc_law_words.nd rfl (.inl rfl) (pe_has H_law_wide (hr.mono (by decide)) (by rfl) (pa_cons (pe_has H_law_cell_at (hr.mono (by decide)) (by rfl) (pa_cons (pv 0) (pa_cons pe_int pa_nil))) pa_nil)))
      (pss_cons (ps_set (i := 2) sc_law_words.nd rfl (.inl rfl) (pe_op op_mod (pe_has H_law_cell_at (hr.mono (by decide)) (by rfl) (pa_cons (pv 0) (pa_cons pe_int pa_nil))) pe_int))
      (pss_cons (ps_set (i := 3) sc_law_words.nd rfl (.inl rfl) (pe_op op_add pe_int (pe_op op_mod (pe_op op_fdiv (pe_has H_law_cell_at (hr.mono (by decide)) (by rfl) (pa_cons (pv 0) (pa_cons pe_int pa_nil))) pe_int) (pe_ix ix_list (pe_lst (pa_cons pe_int (pa_cons pe_int (pa_cons pe_int (pa_cons pe_int pa_nil))))) (pv 2) (fun _ _ => rfl)))))
      (pss_cons (ps_set (i := 4) sc_law_words.nd rfl (.inl rfl) (pe_ix ix_list (pe_lst (pa_cons pe_int (pa_cons pe_int (pa_cons (pe_callB (call_min2 rfl) (by rfl) m_min (by decide +kernel) (pa_cons pe_int (pa_cons (pe_op op_fdiv pe_int (pv 3)) pa_nil))) (pa_cons (pe_callB (call_min2 rfl) (by rfl) m_min (by decide +kernel) (pa_cons pe_int (pa_cons (pe_op op_fdiv pe_int (pv 3)) pa_nil))) pa_nil))))) (pv 2) (fun _ _ => rfl)))
      (pss_cons (ps_set (i := 5) sc_law_words.nd rfl (.inl rfl) (pe_op op_mod (pe_has H_law_cell_at (hr.mono (by decide)) (by rfl) (pa_cons (pv 0) (pa_cons pe_int pa_nil))) pe_int))
      (pss_cons (ps_set (i := 6) sc_law_words.nd rfl (.inl rfl) (pe_lst pa_nil))
      (pss_cons (ps_for PassesOwn.never rfl (pi_range1 (by rfl) m_range (pa_cons (pv 3) pa_nil)) (pg_name (i := 7) sc_law_words.nd rfl (.inl rfl)) (pss_cons (ps_set (i := 5) sc_law_words.nd rfl (.inl rfl) (pe_op op_mod (pe_op op_add (pe_op op_mul (pv 5) pe_int) pe_int) pe_int))
      (pss_cons (ps_set (i := 8) sc_law_words.nd rfl (.inl rfl) (pe_op op_mod (pe_op op_fdiv (pv 5) pe_int) (pe_op op_add (pv 4) pe_int)))
      (pss_cons (ps_if (pt_cmpR op_eq (pe_op op_mod (pe_has H_law_cell_at (hr.mono (by decide)) (by rfl) (pa_cons (pv 0) (pa_cons pe_int pa_nil))) pe_int) pe_int (nomark _)) (pss_one (ps_set (i := 8) sc_law_words.nd rfl (.inl rfl) (pe_op op_sub (pv 4) (pe_op op_fdiv (pv 8) pe_int)))) pss_nil)
      (pss_cons (ps_set (i := 9) sc_law_words.nd rfl (.inl rfl) (pe_has H_law_text_by (hr.mono (by decide)) (by rfl) (pa_cons (pv 5) (pa_cons (pv 8) (pa_cons (pv 1) pa_nil)))))
      (pss_one (ps_expr (pe_bm PySem.F.plainAttrs_list PySem.F.slot_list_append PySem.F.type_list_append mt_append (pv 6) (pa_cons (pe_tup (pa_cons pe_str (pa_cons (pe_lc (own := [("_law_sign", 10)]) (g := gName 10) (tt := tYes) (by rfl) sc_law_words.nd (pi_str (pv 9)) (blkOk_by (own := [("_law_sign", 10)]) (N := ["_law_script", "_law_letters_here", "_law_shape", "_law_count", "_law_most", "_law_number", "_law_held", "_law_k", "_law_size", "_law_signs", "_law_sign"]) (sc := defScope s_law_words) (by decide +kernel)) (fun _ _ _ _ _ => pg_name (i := 10) sc_law_words.nd rfl (Or.inl rfl)) (fun _ _ _ _ _ => pts_nil) (fun _ _ _ _ _ => (pe_tup (pa_cons pe_str (pa_cons (pv 10) pa_nil))))) pa_nil))) pa_nil)))))))))
      (pss_cons (ps_if (pt_cmpR op_eq (pe_op op_mod (pv 2) pe_int) pe_int (nomark _)) (pss_one (ps_ret (pe_lst (pa_cons (pe_tup (pa_cons pe_str (pa_cons (pv 6) pa_nil))) pa_nil)))) pss_nil)
      (pss_one (ps_ret (pv 6))))))))))), ?_⟩
  rintro as r ⟨ns, rfl, rfl⟩
  have hs := wShape_b ns
  have hc := wCount_b ns
  obtain ⟨b1, b2, b3, b4, b5⟩ := wMost_b ns
  have hw := wide_ok (m := 60) (by decide) (by decide) (cell ns 20)
  refine as_seq (as_asg (ae_call (al_cons (ae_call (al_cons (ae_var rfl rfl) (al_cons ae_int al_nil)) rfl ⟨_, _, rfl, by decide, rfl⟩) al_nil) rfl ⟨_, rfl, rfl⟩) ?_)
  refine as_seq (as_asg (ae_op (ae_call (al_cons (ae_var rfl rfl) (al_cons ae_int al_nil)) rfl ⟨_, _, rfl, by decide, rfl⟩) ae_int (a2_I (by decide))) ?_)
  refine as_seq (as_asg (ae_op ae_int (ae_op (ae_op (ae_call (al_cons (ae_var rfl rfl) (al_cons ae_int al_nil)) rfl ⟨_, _, rfl, by decide, rfl⟩) ae_int (a2_I ⟨by decide, by decide⟩)) (ae_op (an_lst' (ds := wCounts.map .int) (ald_cons ae_int (ald_cons ae_int (ald_cons ae_int (ald_cons ae_int ald_nil))))).ae (ae_var rfl rfl) (a2_ixL (d := .int (wCounts.getD (wShape ns).toNat 0)) (atI_map (pick_at 0 hs.1 hs.2)))) (a2_I (wCounts_pos ns))) a2_I0) ?_)
  refine as_seq (as_asg (ae_op (an_lst' (ds := (wMosts (wCount ns)).map .int) (ald_cons ae_int (ald_cons ae_int (ald_cons (ae_cb (al_cons ae_int (al_cons (ae_op ae_int (ae_var rfl rfl) (a2_I ⟨show 0 < wCount ns by omega, show wCount ns < _ by omega⟩)) al_nil)) ac_min2) (ald_cons (ae_cb (al_cons ae_int (al_cons (ae_op ae_int (ae_var rfl rfl) (a2_I ⟨show 0 < wCount ns by omega, show wCount ns < _ by omega⟩)) al_nil)) ac_min2) ald_nil))))).ae (ae_var rfl rfl) (a2_ixL (d := .int (wMost ns)) (atI_map (pick_at 0 hs.1 hs.2)))) ?_)
  refine as_seq (as_asg (ae_op (ae_call (al_cons (ae_var rfl rfl) (al_cons ae_int al_nil)) rfl ⟨_, _, rfl, by decide, rfl⟩) ae_int (a2_I (by decide))) ?_)
  refine as_seq (as_asgN (an_lst' (ds := []) ald_nil) ?_)
  refine as_forE_seq (fun i => ⟨[.p (ScP K ns), .d (strsD (wide 60 (cell ns 20))), .d (.int (wShape ns)), .d (.int (wCount ns)), .d (.int (wMost ns)), .d (.int (rowsSt (wide 60 (cell ns 20)) (wSize ns) (cell ns 3 % 2147483647) i).2), .o 0, .no, .no, .no, .no], [some (.lst (patsD (rowsSt (wide 60 (cell ns 20)) (wSize ns) (cell ns 3 % 2147483647) i).1))]⟩) (ai_rng1 (n := wCount ns) (al_cons (ae_var rfl rfl) al_nil) (by omega) (by omega)) ?_ (fun i hi => ?_) ?_
  · exact ⟨⟨.inr rfl, .inr rfl, .inr rfl, .inr rfl, .inr rfl, .inr rfl, .inr rfl, .inl rfl, .inl rfl, .inl rfl, .inl rfl, trivial⟩, rfl⟩
  · refine ag_name ?_
    have hl := rows_len (wide 60 (cell ns 20)) (wSize ns) (cell ns 3 % 2147483647) i
    have hst : (rowsSt (wide 60 (cell ns 20)) (wSize ns) (cell ns 3 % 2147483647) (i + 1)) = ((rowsSt (wide 60 (cell ns 20)) (wSize ns) (cell ns 3 % 2147483647) i).1 ++ [word (textBy (nxt (rowsSt (wide 60 (cell ns 20)) (wSize ns) (cell ns 3 % 2147483647) i).2) (wSize ns (nxt (rowsSt (wide 60 (cell ns 20)) (wSize ns) (cell ns 3 % 2147483647) i).2)) (wide 60 (cell ns 20)))], nxt (rowsSt (wide 60 (cell ns 20)) (wSize ns) (cell ns 3 % 2147483647) i).2) := rfl
    dsimp only
    rw [hst]
    generalize rowsSt (wide 60 (cell ns 20)) (wSize ns) (cell ns 3 % 2147483647) i = q at *
    obtain ⟨hs0, n0⟩ := q
    have hn := (nxt_b n0).1
    have hz := wSize_b ns hn
    have hl : hs0.length = i := hl
    refine as_seq (as_asg (ae_op (ae_op (ae_op (ae_var rfl rfl) ae_int (a2_I (.inr ⟨by decide, by decide⟩))) ae_int a2_I0) ae_int (a2_I (by decide))) ?_)
    refine as_seq (as_asg (ae_op (ae_op (ae_var rfl rfl) ae_int (a2_I ⟨by decide, by decide⟩)) (ae_op (ae_var rfl rfl) ae_int a2_I0) (a2_I (by omega))) ?_)
    refine as_seq (as_ifset (at_val (ae_op (ae_op (ae_call (al_cons (ae_var rfl rfl) (al_cons ae_int al_nil)) rfl ⟨_, _, rfl, by decide, rfl⟩) ae_int (a2_I (by decide))) ae_int a2_eqI)) (fun h => (ae_op (ae_var rfl rfl) (ae_op (ae_var rfl rfl) ae_int (a2_I ⟨by decide, by decide⟩)) a2_I0)) rfl ?_)
    have e2 : (if decide (cell ns 4 % 3 = 1) = true then D.int (wMost ns - nxt n0 / 7 % (wMost ns + 1) / 3) else .int (nxt n0 / 7 % (wMost ns + 1))) = .int (wSize ns (nxt n0)) := by
      unfold wSize
      split <;> rfl
    have e2' : (if decide (cell ns 4 % 3 = 1) = true then D.int (wMost ns - (n0 * 48271 + 11) % 2147483647 / 7 % (wMost ns + 1) / 3) else .int ((n0 * 48271 + 11) % 2147483647 / 7 % (wMost ns + 1))) = .int (wSize ns (nxt n0)) := e2
    rw [e2']
    refine as_seq (as_asg (ae_call (al_cons (ae_var rfl rfl) (al_cons (ae_var rfl rfl) (al_cons (ae_var rfl rfl) al_nil))) rfl ⟨nxt n0, wSize ns (nxt n0), wide 60 (cell ns 20), rfl, hw, hz.1, by omega, rfl⟩) ?_)
    refine as_app (ae_var rfl rfl) (ae_tup' (ald_cons (ae_str (s := kRow) (by decide +kernel)) (ald_cons (an_word (by decide +kernel) (ae_var rfl rfl) (by rw [textBy_len]; omega) (by show 10 < 11; decide)).ae ald_nil))) rfl (by rw [patsD_len]; omega) ⟨⟨.inr rfl, .inr rfl, .inr rfl, .inr rfl, .inr rfl, .inr rfl, .inr rfl, .inl rfl, .inl rfl, .inl rfl, .inl rfl, trivial⟩, ?_⟩
    rw [pats_app]
    rfl
  · refine as_frz 0 rfl (Nat.zero_le _) ?_
    have hr : ∀ b : Bool, decide (wShape ns % 2 = 1) = b → wordsBy 60 ns = if b = true then [.or (wHeld 60 ns)] else wHeld 60 ns := fun b h => by
      unfold wordsBy
      rw [h]
    refine as_seq (as_if (at_val (ae_op (ae_op (ae_var rfl rfl) ae_int (a2_I (by decide))) ae_int a2_eqI)) (fun h => ?_) (fun h => as_next ?_))
    · rw [hr _ h]
      exact as_ret (an_lst' (ald_cons (ae_tup' (ald_cons (ae_str (s := kOr) (by decide +kernel)) (ald_cons (ae_var rfl rfl) ald_nil))) ald_nil)).ae ⟨rfl, rfl⟩
    · rw [hr _ h]
      exact as_ret (ae_var rfl rfl) ⟨rfl, rfl⟩
/-! ### _law_loops -/
abbrev s_law_loops : Stmt := topS 28
theorem sc_law_loops : FnScope ["_law_script", "_law_letters_here", "_law_pool", "_law_number", "_law_held", "_law_k", "_law_signs", "_law_sign", "_law_loops_here", "_law_loop", "_law_room"] ["_law_script", "_law_letters_here"] (defScope s_law_loops) := ⟨rfl, rfl, rfl, by decide +kernel, rfl, by decide +kernel, by decide +kernel⟩
def R_law_loops (K : PySem.W.Frag) (as : List A) (r : A) : Prop := ∃ (ns : List Int) (ls : List (List Nat)), as = [.p (ScP K ns), .d (strsD ls)] ∧ LetU ls ∧ 4 ≤ ls.length ∧ r = .d (.lst (patsD (loopsBy false ns ls)))
abbrev Has_law_loops (P : Program) (w : World) (K : PySem.W.Frag) (mg : Str → Option Value) (base : Heap) : Prop := Has P w K mg base "_law_loops" ["_law_script", "_law_letters_here"] 33 (SpF K (R_law_loops K))
theorem pool_cut (ls : List (List Nat)) : cutG (((ls.take 4).flatten).map fun c => D.str [c]) none (some 12) = (pool ls).map .str := by
  rw [cutG_to _ (by decide)]
  unfold pool
  rw [List.map_map, ← List.map_take]
  rfl
theorem letters_cut (ls : List (List Nat)) : cutG (ls.map D.str) none (some 4) = (ls.take 4).map .str := by
  rw [cutG_map, cutG_to _ (by decide)]
  rfl
theorem four_sum {ls : List (List Nat)} (h : LetOk ls) : ((ls.take 4).map (·.length)).sum ≤ 76 := by
  have := joined (ls := ls.take 4) fun g hg => (h.it g (List.mem_of_mem_take hg)).2
  have h4 : (ls.take 4).length ≤ 4 := by rw [List.length_take]; omega
  omega
theorem ok_law_loops (DD : DefAt K mg "_law_loops" s_law_loops ["_law_script", "_law_letters_here"]) (H_law_cell_at : Has_law_cell_at P w K mg base) (H_law_text_by : Has_law_text_by P w K mg base) (H_law_grown : Has_law_grown P w K mg base false) (m_list : mg "list" = none) (m_range : mg "range" = none) (m_int : mg "int" = none) : Has_law_loops P w K mg base := by
  refine okF DD sc_law_loops (by rintro as r ⟨_, _, rfl, _⟩; rfl) fun _ _ _ _ _ _ _ hr => ⟨_, (pss_cons (ps_set (i := 2) sc_law_loops.nd rfl (.inl rfl) (pe_slice sl_list (pe_callTy (call_listT rfl) (by rfl) m_list (by decide +kernel) (pa_cons (pe_join pe_str (pe_slice sl_list (pv 1) po_none (po_some pe_int))) pa_nil)) po_none (po_some pe_int)))
      (pss_cons (ps_set (i := 3) sc_law_loops.nd rfl (.inl rfl) (pe_op op_mod (pe_has H_law_cell_at (hr.mono (by decide)) (by rfl) (pa_cons (pv 0) (pa_cons pe_int pa_nil))) pe_int))
      (pss_cons (ps_set (i := 4) sc_law_loops.nd rfl (.inl rfl) (pe_lst pa_nil))
      (pss_cons (ps_for PassesOwn.never rfl (pi_range1 (by rfl) m_range (pa_cons (pe_op op_add pe_int (pe_op op_mod (pe_has H_law_cell_at (hr.mono (by decide)) (by rfl) (pa_cons (pv 0) (pa_cons pe_int pa_nil))) pe_int)) pa_nil)) (pg_name (i := 5) sc_law_loops.nd rfl (.inl rfl)) (pss_cons (ps_set (i := 3) sc_law_loops.nd rfl (.inl rfl) (pe_op op_mod (pe_op op_add (pe_op op_mul (pv 3) pe_int) pe_int) pe_int))
      (pss_cons (ps_set (i := 6) sc_law_loops.nd rfl (.inl rfl) (pe_has H_law_text_by (hr.mono (by decide)) (by rfl) (pa_cons (pv 3) (pa_cons (pe_op op_add pe_int (pe_op op_mod (pe_op op_fdiv (pv 3) pe_int) pe_int)) (pa_cons (pv 2) pa_nil)))))
      (pss_one (ps_expr (pe_bm PySem.F.plainAttrs_list PySem.F.slot_list_append PySem.F.type_list_append mt_append (pv 4) (pa_cons (pe_tup (pa_cons pe_str (pa_cons (pe_lc (own := [("_law_sign", 7)]) (g := gName 7) (tt := tYes) (by rfl) sc_law_loops.nd (pi_str (pv 6)) (blkOk_by (own := [("_law_sign", 7)]) (N := ["_law_script", "_law_letters_here", "_law_pool", "_law_number", "_law_held", "_law_k", "_law_signs", "_law_sign", "_law_loops_here", "_law_loop", "_law_room"]) (sc := defScope s_law_loops) (by decide +kernel)) (fun _ _ _ _ _ => pg_name (i := 7) sc_law_loops.nd rfl (Or.inl rfl)) (fun _ _ _ _ _ => pts_nil) (fun _ _ _ _ _ => (pe_tup (pa_cons pe_str (pa_cons (pv 7) pa_nil))))) pa_nil))) pa_nil)))))))
      (pss_cons (ps_set (i := 8) sc_law_loops.nd rfl (.inl rfl) (pe_lst pa_nil))
      (pss_cons (ps_if (pt_cmpR op_eq (pe_op op_mod (pe_op op_fdiv (pe_has H_law_cell_at (hr.mono (by decide)) (by rfl) (pa_cons (pv 0) (pa_cons pe_int pa_nil))) pe_int) pe_int) pe_int (nomark _)) (pss_cons (ps_set (i := 6) sc_law_loops.nd rfl (.inl rfl) (pe_has H_law_text_by (hr.mono (by decide)) (by rfl) (pa_cons (pe_has H_law_cell_at (hr.mono (by decide)) (by rfl) (pa_cons (pv 0) (pa_cons pe_int pa_nil))) (pa_cons (pe_op op_add pe_int (pe_op op_mod (pe_has H_law_cell_at (hr.mono (by decide)) (by rfl) (pa_cons (pv 0) (pa_cons pe_int pa_nil))) pe_int)) (pa_cons (pv 2) pa_nil)))))
      (pss_cons (ps_set (i := 9) sc_law_loops.nd rfl (.inl rfl) (pe_tup (pa_cons pe_str (pa_cons (pe_lc (own := [("_law_sign", 7)]) (g := gName 7) (tt := tYes) (by rfl) sc_law_loops.nd (pi_str (pv 6)) (blkOk_by (own := [("_law_sign", 7)]) (N := ["_law_script", "_law_letters_here", "_law_pool", "_law_number", "_law_held", "_law_k", "_law_signs", "_law_sign", "_law_loops_here", "_law_loop", "_law_room"]) (sc := defScope s_law_loops) (by decide +kernel)) (fun _ _ _ _ _ => pg_name (i := 7) sc_law_loops.nd rfl (Or.inl rfl)) (fun _ _ _ _ _ => pts_nil) (fun _ _ _ _ _ => (pe_tup (pa_cons pe_str (pa_cons (pv 7) pa_nil))))) pa_nil))))
      (pss_one (ps_expr (pe_bm PySem.F.plainAttrs_list PySem.F.slot_list_append PySem.F.type_list_append mt_append (pv 8) (pa_cons (pe_ix ix_list (pe_lst (pa_cons (pe_tup (pa_cons pe_str (pa_cons (pv 9) pa_nil))) (pa_cons (pe_tup (pa_cons pe_str (pa_cons (pv 9) pa_nil))) pa_nil))) (pe_callTy call_int1 (by rfl) m_int (by decide +kernel) (pa_cons (pe_cmpR op_eq (pe_op op_mod (pe_has H_law_cell_at (hr.mono (by decide)) (by rfl) (pa_cons (pv 0) (pa_cons pe_int pa_nil))) pe_int) pe_int (nomark _)) pa_nil)) (fun _ _ => rfl)) pa_nil)))))) (pss_cons (ps_set (i := 10) sc_law_loops.nd rfl (.inl rfl) pe_int)
      (pss_cons (ps_for PassesOwn.never rfl (pi_range1 (by rfl) m_range (pa_cons pe_int pa_nil)) (pg_name (i := 5) sc_law_loops.nd rfl (.inl rfl)) (pss_one (ps_set (i := 10) sc_law_loops.nd rfl (.inl rfl) (pe_has H_law_grown (hr.mono (by decide)) (by rfl) (pa_cons (pv 8) (pa_cons (pe_has H_law_cell_at (hr.mono (by decide)) (by rfl) (pa_cons (pv 0) (pa_cons (pe_op op_add pe_int (pv 5)) pa_nil))) (pa_cons (pv 1) (pa_cons (pv 10) pa_nil))))))))
      (pss_one (ps_set (i := 8) sc_law_loops.nd rfl (.inl rfl) (pe_slice sl_list (pv 8) po_none (po_some pe_int)))))))
      (pss_cons (ps_if (pt_cmpR op_eq (pe_op op_mod (pe_op op_fdiv (pe_has H_law_cell_at (hr.mono (by decide)) (by rfl) (pa_cons (pv 0) (pa_cons pe_int pa_nil))) pe_int) pe_int) pe_int (nomark _)) (pss_one (ps_ret (pe_op op_cat (pv 8) (pv 4)))) pss_nil)
      (pss_one (ps_ret (pe_op op_cat (pv 4) (pv 8))))))))))), ?_⟩
  rintro as r ⟨ns, ls, rfl, hu, hl, rfl⟩
  have hpo := pool_ok hu.ok
  have h76 := four_sum hu.ok
  have a1 := mod_lo (cell ns 2) (n := 6) (by decide)
  have a2 := mod_hi (cell ns 2) (n := 6) (by decide)
  have b1 := mod_lo (cell ns 22) (n := 12) (by decide)
  have b2 := mod_hi (cell ns 22) (n := 12) (by decide)
  have hfl : ((ls.take 4).flatten).length ≤ 76 := by
    rw [flat_len]
    exact h76
  -- the pool
  refine as_seq (as_asg ((an_slL ((an_cb (al_cons (ae_m1 (ae_str (s := []) (by decide +kernel)) (((an_slL (ae_var rfl rfl) ao_none (ao_some ae_int)).eq (letters_cut ls)).ae) (am_join (by show _ + _ * 0 ≤ _; omega))) al_nil) (nc_listT (by rw [joinL_nil]; omega))).eq (es := ((ls.take 4).flatten).map fun c => .str [c]) (by rw [joinL_nil])).ae ao_none (ao_some ae_int)).eq (pool_cut ls)).ae ?_)
  refine as_seq (as_asg (ae_op (ae_call (al_cons (ae_var rfl rfl) (al_cons ae_int al_nil)) rfl ⟨_, _, rfl, by decide, rfl⟩) ae_int (a2_I (by decide))) ?_)
  refine as_seq (as_asgN (an_lst' (ds := []) ald_nil) ?_)
  refine as_forE_seq (fun i => ⟨[.p (ScP K ns), .d (strsD ls), .d (strsD (pool ls)), .d (.int (rowsSt (pool ls) lSize (cell ns 3 % 2147483647) i).2), .o 0, .no, .no, .no, .no, .no, .no], [some (.lst (patsD (rowsSt (pool ls) lSize (cell ns 3 % 2147483647) i).1))]⟩) (ai_rng1 (n := 1 + cell ns 2 % 6) (al_cons (ae_op ae_int (ae_op (ae_call (al_cons (ae_var rfl rfl) (al_cons ae_int al_nil)) rfl ⟨_, _, rfl, by decide, rfl⟩) ae_int (a2_I (by decide))) a2_I0) al_nil) (by omega) (by omega)) ?_ (fun i hi => ?_) ?_
  · exact ⟨⟨.inr rfl, .inr rfl, .inr rfl, .inr rfl, .inr rfl, .inl rfl, .inl rfl, .inl rfl, .inl rfl, .inl rfl, .inl rfl, trivial⟩, rfl⟩
  · refine ag_name ?_
    have hln := rows_len (pool ls) lSize (cell ns 3 % 2147483647) i
    have hst : (rowsSt (pool ls) lSize (cell ns 3 % 2147483647) (i + 1)) = ((rowsSt (pool ls) lSize (cell ns 3 % 2147483647) i).1 ++ [word (textBy (nxt (rowsSt (pool ls) lSize (cell ns 3 % 2147483647) i).2) (lSize (nxt (rowsSt (pool ls) lSize (cell ns 3 % 2147483647) i).2)) (pool ls))], nxt (rowsSt (pool ls) lSize (cell ns 3 % 2147483647) i).2) := rfl
    dsimp only
    rw [hst]
    generalize rowsSt (pool ls) lSize (cell ns 3 % 2147483647) i = q at *
    obtain ⟨hs0, n0⟩ := q
    have c1 := mod_lo (nxt n0 / 7) (n := 4) (by decide)
    have c2 := mod_hi (nxt n0 / 7) (n := 4) (by decide)
    have hz : 0 ≤ lSize (nxt n0) ∧ lSize (nxt n0) ≤ 6 := by unfold lSize; omega
    have hln : hs0.length = i := hln
    refine as_seq (as_asg (ae_op (ae_op (ae_op (ae_var rfl rfl) ae_int (a2_I (.inr ⟨by decide, by decide⟩))) ae_int a2_I0) ae_int (a2_I (by decide))) ?_)
    refine as_seq (as_asg (ae_call (al_cons (ae_var rfl rfl) (al_cons (ae_op ae_int (ae_op (ae_op (ae_var rfl rfl) ae_int (a2_I ⟨by decide, by decide⟩)) ae_int (a2_I (by decide))) a2_I0) (al_cons (ae_var rfl rfl) al_nil))) rfl ⟨nxt n0, lSize (nxt n0), pool ls, rfl, hpo, hz.1, by omega, rfl⟩) ?_)
    refine as_app (ae_var rfl rfl) (ae_tup' (ald_cons (ae_str (s := kRow) (by decide +kernel)) (ald_cons (an_word (by decide +kernel) (ae_var rfl rfl) (by rw [textBy_len]; omega) (by show 7 < 11; decide)).ae ald_nil))) rfl (by rw [patsD_len]; omega) ⟨⟨.inr rfl, .inr rfl, .inr rfl, .inr rfl, .inr rfl, .inl rfl, .inl rfl, .inl rfl, .inl rfl, .inl rfl, .inl rfl, trivial⟩, ?_⟩
    rw [pats_app]
    rfl
  have hL : (patsD (lHeld ns ls)).length ≤ 6 := by
    rw [patsD_len]
    have := rows_len (pool ls) lSize (cell ns 3 % 2147483647) (1 + cell ns 2 % 6).toNat
    show (rowsSt (pool ls) lSize (cell ns 3 % 2147483647) (1 + cell ns 2 % 6).toNat).1.length ≤ 6
    omega
  refine as_frz 0 rfl (Nat.zero_le _) ?_
  refine as_seq (as_asgN (an_lst' (ds := []) ald_nil) ?_)
  have hM := (loopsBy_ok (cap := false) hu hl ns)
  have hLM : (patsD (lMore false ns ls)).length ≤ 8 := by
    rw [patsD_len]
    have h8 := hM.few
    unfold loopsBy at h8
    split at h8
    · rw [List.length_append] at h8
      omega
    · rw [List.length_append] at h8
      omega
  refine as_seqFrz ⟨[.p (ScP K ns), .d (strsD ls), .no, .no, .d (.lst (patsD (lHeld ns ls))), .no, .no, .no, .d (.lst (patsD (lMore false ns ls))), .no, .no], [none, none]⟩ ⟨[.p (ScP K ns), .d (strsD ls), .no, .no, .d (.lst (patsD (lHeld ns ls))), .no, .no, .no, .o 1, .no, .no], [none, some (.lst (patsD (lMore false ns ls)))]⟩ 1 rfl (Nat.zero_le _) ⟨⟨.inr rfl, .inr rfl, .inl rfl, .inl rfl, .inr rfl, .inl rfl, .inl rfl, .inl rfl, .inr rfl, .inl rfl, .inl rfl, trivial⟩, rfl⟩ ?_ ?_
  · refine as_if (at_val (ae_op (ae_op (ae_op (ae_call (al_cons (ae_var rfl rfl) (al_cons ae_int al_nil)) rfl ⟨_, _, rfl, by decide, rfl⟩) ae_int (a2_I ⟨by decide, by decide⟩)) ae_int (a2_I (by decide))) ae_int a2_eqI)) (fun h => ?_) (fun h => ?_)
    · have hm : lMore false ns ls = [if decide (cell ns 23 % 3 = 0) = true then .maybe (lWord ns ls) else .many (lWord ns ls)] := by
        unfold lMore
        rw [h]
        rfl
      rw [hm]
      refine as_seq (as_asg (ae_call (al_cons (ae_call (al_cons (ae_var rfl rfl) (al_cons ae_int al_nil)) rfl ⟨_, _, rfl, by decide, rfl⟩) (al_cons (ae_op ae_int (ae_op (ae_call (al_cons (ae_var rfl rfl) (al_cons ae_int al_nil)) rfl ⟨_, _, rfl, by decide, rfl⟩) ae_int (a2_I (by decide))) a2_I0) (al_cons (ae_var rfl rfl) al_nil))) rfl ⟨cell ns 21, 1 + cell ns 22 % 12, pool ls, rfl, hpo, by omega, by omega, rfl⟩) ?_)
      refine as_seq (as_asg ((ae_tup' (ald_cons (ae_str (s := kRow) (by decide +kernel)) (ald_cons (an_word (by decide +kernel) (ae_var rfl rfl) (by rw [textBy_len]; omega) (by show 7 < 11; decide)).ae ald_nil))).eq (b := .d (patD (lWord ns ls))) rfl) ?_)
      refine as_app (x := patD (if decide (cell ns 23 % 3 = 0) = true then .maybe (lWord ns ls) else .many (lWord ns ls))) (ae_var rfl rfl) (ae_op (an_lst' (ds := [patD (.many (lWord ns ls)), patD (.maybe (lWord ns ls))]) (ald_cons (ae_tup' (ald_cons (ae_str (s := kMany) (by decide +kernel)) (ald_cons (ae_var rfl rfl) ald_nil))) (ald_cons (ae_tup' (ald_cons (ae_str (s := kMaybe) (by decide +kernel)) (ald_cons (ae_var rfl rfl) ald_nil))) ald_nil))).ae (ae_cb (al_cons (ae_op (ae_op (ae_call (al_cons (ae_var rfl rfl) (al_cons ae_int al_nil)) rfl ⟨_, _, rfl, by decide, rfl⟩) ae_int (a2_I (by decide))) ae_int a2_eqI) al_nil) ac_intB) (a2_ixL ?_)) rfl (by show 0 < 1000000; decide) (.inl ?_)
      · by_cases z : cell ns 23 % 3 = 0
        · rw [decide_eq_true z]
          rfl
        · rw [decide_eq_false z]
          rfl
      · exact ⟨⟨.inr rfl, .inr rfl, .inl rfl, .inl rfl, .inr rfl, .inl rfl, .inl rfl, .inl rfl, .inr rfl, .inl rfl, .inl rfl, trivial⟩, rfl⟩
    · have hm : lMore false ns ls = ((grow false ls (fun k => cell ns (21 + (k : Nat))) 4 8).1.reverse).take 2 := by
        unfold lMore
        rw [h]
        rfl
      refine as_seq (as_asg ae_int ?_)
      refine as_seq (as_forE (fun i => ⟨[.p (ScP K ns), .d (strsD ls), .no, .no, .d (.lst (patsD (lHeld ns ls))), .no, .no, .no, .o 1, .no, .d (.int (grow false ls (fun k => cell ns (21 + (k : Nat))) 4 i).2)], [none, some (.lst (patsD (grow false ls (fun k => cell ns (21 + (k : Nat))) 4 i).1.reverse))]⟩) (ai_rng1 (n := 8) (al_cons ae_int al_nil) (by decide) (by decide)) ⟨⟨.inr rfl, .inr rfl, .inl rfl, .inl rfl, .inr rfl, .inl rfl, .inl rfl, .inl rfl, .inr rfl, .inl rfl, .inr rfl, trivial⟩, rfl⟩ (fun i hi => ?_) fun e' le => AS.le ?_ le)
      · have hi : i < 8 := hi
        refine ag_name ?_
        have g := grow_ok (cap := false) hu hl (cells := fun k => cell ns (21 + (k : Nat))) (room := 4) i
        refine as_asgX (ax_call1 1 (al_cons (ae_var rfl rfl) (al_cons (ae_call (al_cons (ae_var rfl rfl) (al_cons (ae_op ae_int (ae_var rfl rfl) a2_I0) al_nil)) rfl ⟨ns, 21 + (i : Nat), rfl, by omega, rfl⟩) (al_cons (ae_var rfl rfl) (al_cons (ae_var rfl rfl) al_nil)))) rfl ⟨ls, _, cell ns (21 + (i : Nat)), _, i, 4, rfl, rfl, rfl, rfl, hu, hl, g, by omega⟩ rfl ?_)
        exact ⟨⟨.inr rfl, .inr rfl, .inl rfl, .inl rfl, .inr rfl, .inl rfl, .inl rfl, .inl rfl, .inr rfl, .inl rfl, .inr rfl, trivial⟩, rfl⟩
      · refine as_frz 1 rfl (Nat.zero_le _) ?_
        refine as_asg ((an_slL (ae_var rfl rfl) ao_none (ao_some ae_int)).eq (es := patsD (lMore false ns ls)) ?_).ae (.inr ⟨⟨.inr rfl, .inr rfl, .inl rfl, .inl rfl, .inr rfl, .inl rfl, .inl rfl, .inl rfl, .inr rfl, .inl rfl, .inl rfl, trivial⟩, rfl⟩)
        rw [cutG_to _ (by decide), hm, patsD_map, patsD_map, ← List.map_take]
        rfl
  · have hr : ∀ b : Bool, decide (cell ns 2 / 12 % 2 = 1) = b → loopsBy false ns ls = if b = true then lMore false ns ls ++ lHeld ns ls else lHeld ns ls ++ lMore false ns ls := fun b h => by
      unfold loopsBy
      rw [h]
    have ap : ∀ a b : List Pat, patsD a ++ patsD b = patsD (a ++ b) := fun a b => by
      rw [patsD_map, patsD_map, patsD_map, List.map_append]
    refine as_seq (as_if (at_val (ae_op (ae_op (ae_op (ae_call (al_cons (ae_var rfl rfl) (al_cons ae_int al_nil)) rfl ⟨_, _, rfl, by decide, rfl⟩) ae_int (a2_I ⟨by decide, by decide⟩)) ae_int (a2_I (by decide))) ae_int a2_eqI)) (fun h => ?_) (fun h => as_next ?_))
    · rw [hr _ h]
      exact as_ret ((an_op (ae_var rfl rfl) (ae_var rfl rfl) (n2_cat (by omega))).eq (ap _ _)).ae ⟨rfl, rfl⟩
    · rw [hr _ h]
      exact as_ret ((an_op (ae_var rfl rfl) (ae_var rfl rfl) (n2_cat (by omega))).eq (ap _ _)).ae ⟨rfl, rfl⟩
/-! ### _law_long -/
abbrev s_law_long : Stmt := topS 29
theorem sc_law_long : FnScope ["_law_script", "_law_letters_here", "_law_cell", "_law_room", "_law_parts", "_law_k", "_law_drawn", "_law_leaf", "_law_other", "_law_both", "_law_some", "_law_size", "_law_whole", "_law_short"] ["_law_script", "_law_letters_here"] (defScope s_law_long) := ⟨rfl, rfl, rfl, by decide +kernel, rfl, by decide +kernel, by decide +kernel⟩
def R_law_long (K : PySem.W.Frag) (as : List A) (r : A) : Prop := ∃ (ns : List Int) (ls : List (List Nat)), as = [.p (ScP K ns), .d (strsD ls)] ∧ LetU ls ∧ 4 ≤ ls.length ∧ r = .d (.lst (patsD (longBy ns ls)))
abbrev Has_law_long (P : Program) (w : World) (K : PySem.W.Frag) (mg : Str → Option Value) (base : Heap) : Prop := Has P w K mg base "_law_long" ["_law_script", "_law_letters_here"] 2 (SpF K (R_law_long K))
theorem two_pick {α : Type} {x y : α} {i : Int} (h : i % 2 = i % 2) : atI [x, y] (i % 2) = some (if decide (i % 2 = 1) = true then y else x) := by
  have a := mod_lo i (n := 2) (by decide)
  have b := mod_hi i (n := 2) (by decide)
  have : i % 2 = 0 ∨ i % 2 = 1 := by omega
  rcases this with z | z
  · rw [z]
    rfl
  · rw [z]
    rfl
theorem ok_law_long (DD : DefAt K mg "_law_long" s_law_long ["_law_script", "_law_letters_here"]) (H_law_cell_at : Has_law_cell_at P w K mg base) (H_law_some_of : Has_law_some_of P w K mg base) (m_range : mg "range" = none) (m_int : mg "int" = none) : Has_law_long P w K mg base := by
  refine okF DD sc_law_long (by rintro as r ⟨_, _, rfl, _⟩; rfl) fun _ _ _ _ _ _ _ hr => ⟨_, (pss_cons (ps_set (i := 2) sc_law_long.nd rfl (.inl rfl) (pe_has H_law_cell_at (hr.mono (by decide)) (by rfl) (pa_cons (pv 0) (pa_cons pe_int pa_nil))))
      (pss_cons (ps_set (i := 3) sc_law_long.nd rfl (.inl rfl) (pe_op op_sub pe_int (pe_op op_mul pe_int (pe_op op_mod (pe_op op_fdiv (pv 2) pe_int) pe_int))))
      (pss_cons (ps_set (i := 4) sc_law_long.nd rfl (.inl rfl) (pe_lst pa_nil))
      (pss_cons (ps_for PassesOwn.never rfl (pi_range1 (by rfl) m_range (pa_cons (pe_op op_add pe_int (pe_op op_mod (pv 2) pe_int)) pa_nil)) (pg_name (i := 5) sc_law_long.nd rfl (.inl rfl)) (pss_cons (ps_set (i := 6) sc_law_long.nd rfl (.inl rfl) (pe_has H_law_cell_at (hr.mono (by decide)) (by rfl) (pa_cons (pv 0) (pa_cons (pe_op op_add pe_int (pv 5)) pa_nil))))
      (pss_cons (ps_set (i := 7) sc_law_long.nd rfl (.inl rfl) (pe_tup (pa_cons pe_str (pa_cons (pe_has H_law_some_of (hr.mono (by decide)) (by rfl) (pa_cons (pv 1) (pa_cons (pe_op op_add pe_int (pe_op op_mod (pe_op op_fdiv (pv 6) pe_int) pe_int)) pa_nil))) pa_nil))))
      (pss_cons (ps_set (i := 8) sc_law_long.nd rfl (.inl rfl) (pe_tup (pa_cons pe_str (pa_cons (pe_has H_law_some_of (hr.mono (by decide)) (by rfl) (pa_cons (pv 1) (pa_cons (pe_op op_add pe_int (pe_op op_mod (pe_op op_fdiv (pv 6) pe_int) pe_int)) pa_nil))) pa_nil))))
      (pss_cons (ps_set (i := 9) sc_law_long.nd rfl (.inl rfl) (pe_tup (pa_cons pe_str (pa_cons (pe_lst (pa_cons (pv 7) (pa_cons (pv 8) pa_nil))) pa_nil))))
      (pss_cons (ps_set (i := 10) sc_law_long.nd rfl (.inl rfl) (pe_lst (pa_cons (pe_tup (pa_cons pe_str (pa_cons (pe_lst pa_nil) pa_nil))) (pa_cons (pv 7) (pa_cons (pe_tup (pa_cons pe_str (pa_cons (pv 7) pa_nil))) (pa_cons (pe_tup (pa_cons pe_str (pa_cons (pv 7) pa_nil))) (pa_cons (pv 9) (pa_cons (pe_tup (pa_cons pe_str (pa_cons (pe_lst (pa_cons (pv 7) (pa_cons (pv 8) pa_nil))) pa_nil))) pa_nil))))))))
      (pss_cons (ps_set (i := 10) sc_law_long.nd rfl (.inl rfl) (pe_op op_cat (pv 10) (pe_lst (pa_cons (pe_tup (pa_cons pe_str (pa_cons (pe_tup (pa_cons pe_str (pa_cons (pe_lst (pa_cons (pv 7) (pa_cons (pe_tup (pa_cons pe_str (pa_cons (pv 8) pa_nil))) pa_nil))) pa_nil))) pa_nil))) (pa_cons (pe_tup (pa_cons pe_str (pa_cons (pe_lst (pa_cons (pv 9) (pa_cons (pv 7) pa_nil))) pa_nil))) pa_nil)))))
      (pss_cons (ps_set (i := 11) sc_law_long.nd rfl (.inl rfl) (pe_ix ix_list (pe_lst (pa_cons pe_int (pa_cons pe_int (pa_cons pe_int (pa_cons pe_int (pa_cons pe_int (pa_cons pe_int (pa_cons pe_int (pa_cons pe_int pa_nil))))))))) (pe_op op_mod (pv 6) pe_int) (fun _ _ => rfl)))
      (pss_cons (ps_expr (pe_bm PySem.F.plainAttrs_list PySem.F.slot_list_append PySem.F.type_list_append mt_append (pv 4) (pa_cons (pe_ix ix_list (pv 10) (pe_ix ix_list (pe_lst (pa_cons pe_int (pa_cons (pe_op op_mod (pv 6) pe_int) pa_nil))) (pe_callTy call_int1 (by rfl) m_int (by decide +kernel) (pa_cons (pe_cmpR op_le (pv 11) (pv 3) (nomark _)) pa_nil)) (fun _ _ => rfl)) (fun _ _ => rfl)) pa_nil)))
      (pss_one (ps_set (i := 3) sc_law_long.nd rfl (.inl rfl) (pe_op op_sub (pv 3) (pe_ix ix_list (pe_lst (pa_cons pe_int (pa_cons (pv 11) pa_nil))) (pe_callTy call_int1 (by rfl) m_int (by decide +kernel) (pa_cons (pe_cmpR op_le (pv 11) (pv 3) (nomark _)) pa_nil)) (fun _ _ => rfl))))))))))))))
      (pss_cons (ps_set (i := 12) sc_law_long.nd rfl (.inl rfl) (pe_tup (pa_cons (pe_ix ix_list (pe_lst (pa_cons pe_str (pa_cons pe_str pa_nil))) (pe_op op_mod (pe_op op_fdiv (pv 2) pe_int) pe_int) (fun _ _ => rfl)) (pa_cons (pv 4) pa_nil))))
      (pss_cons (ps_set (i := 12) sc_law_long.nd rfl (.inl rfl) (pe_ix ix_list (pe_lst (pa_cons (pv 12) (pa_cons (pe_tup (pa_cons pe_str (pa_cons (pv 12) pa_nil))) (pa_cons (pe_tup (pa_cons pe_str (pa_cons (pv 12) pa_nil))) pa_nil)))) (pe_op op_mod (pe_op op_fdiv (pv 2) pe_int) pe_int) (fun _ _ => rfl)))
      (pss_cons (ps_set (i := 13) sc_law_long.nd rfl (.inl rfl) (pe_tup (pa_cons pe_str (pa_cons (pe_lst (pa_cons (pe_tup (pa_cons pe_str (pa_cons (pe_ix ix_str (pe_ix ix_list (pv 1) pe_int (fun _ _ => rfl)) pe_int (fun _ _ => rfl)) pa_nil))) (pa_cons (pe_tup (pa_cons pe_str (pa_cons (pe_ix ix_str (pe_ix ix_list (pv 1) pe_int (fun _ _ => rfl)) pe_int (fun _ _ => rfl)) pa_nil))) pa_nil))) pa_nil))))
      (pss_one (ps_ret (pe_ix ix_list (pe_lst (pa_cons (pe_lst (pa_cons (pv 12) pa_nil)) (pa_cons (pe_lst (pa_cons (pv 12) pa_nil)) (pa_cons (pe_lst (pa_cons (pv 13) (pa_cons (pv 12) pa_nil))) (pa_cons (pe_lst (pa_cons (pv 12) (pa_cons (pv 13) pa_nil))) pa_nil))))) (pe_op op_add (pe_op op_mul (pe_op op_mod (pe_op op_fdiv (pv 2) pe_int) pe_int) pe_int) (pe_op op_mod (pe_op op_fdiv (pv 2) pe_int) pe_int)) (fun _ _ => rfl))))))))))), ?_⟩
  rintro as r ⟨ns, ls, rfl, hu, hl, rfl⟩
  have a1 := mod_lo (cell ns 2) (n := 6) (by decide)
  have a2 := mod_hi (cell ns 2) (n := 6) (by decide)
  refine as_seq (as_asg (ae_call (al_cons (ae_var rfl rfl) (al_cons ae_int al_nil)) rfl ⟨_, _, rfl, by decide, rfl⟩) ?_)
  refine as_seq (as_asg (ae_op ae_int (ae_op ae_int (ae_op (ae_op (ae_var rfl rfl) ae_int (a2_I ⟨by decide, by decide⟩)) ae_int (a2_I (by decide))) (a2_I (.inl ⟨by decide, by decide⟩))) a2_I0) ?_)
  refine as_seq (as_asgN (an_lst' (ds := []) ald_nil) ?_)
  refine as_forE_seq (fun i => ⟨[.p (ScP K ns), .d (strsD ls), .d (.int (cell ns 2)), .d (.int (gSt ls (fun k => cell ns (3 + (k : Nat))) (gRoom ns) i).2), .o 0, .no, .no, .no, .no, .no, .no, .no, .no, .no], [some (.lst (patsD (gSt ls (fun k => cell ns (3 + (k : Nat))) (gRoom ns) i).1))]⟩) (ai_rng1 (n := 3 + cell ns 2 % 6) (al_cons (ae_op ae_int (ae_op (ae_var rfl rfl) ae_int (a2_I (by decide))) a2_I0) al_nil) (by omega) (by omega)) ?_ (fun i hi => ?_) ?_
  · exact ⟨⟨.inr rfl, .inr rfl, .inr rfl, .inr rfl, .inr rfl, .inl rfl, .inl rfl, .inl rfl, .inl rfl, .inl rfl, .inl rfl, .inl rfl, .inl rfl, .inl rfl, trivial⟩, rfl⟩
  · refine ag_name ?_
    have hln := gSt_len ls (fun k => cell ns (3 + (k : Nat))) (gRoom ns) i
    have hst : gSt ls (fun k => cell ns (3 + (k : Nat))) (gRoom ns) (i + 1) = ((gSt ls (fun k => cell ns (3 + (k : Nat))) (gRoom ns) i).1 ++ [gPart ls (cell ns (3 + (i : Nat))) (gSt ls (fun k => cell ns (3 + (k : Nat))) (gRoom ns) i).2], if decide (gSizeN (cell ns (3 + (i : Nat))) ≤ (gSt ls (fun k => cell ns (3 + (k : Nat))) (gRoom ns) i).2) = true then (gSt ls (fun k => cell ns (3 + (k : Nat))) (gRoom ns) i).2 - gSizeN (cell ns (3 + (i : Nat))) else (gSt ls (fun k => cell ns (3 + (k : Nat))) (gRoom ns) i).2) := rfl
    dsimp only
    rw [hst]
    generalize gSt ls (fun k => cell ns (3 + (k : Nat))) (gRoom ns) i = q at *
    obtain ⟨ps, room⟩ := q
    have hln : ps.length = i := hln
    refine as_seq (as_asg (ae_call (al_cons (ae_var rfl rfl) (al_cons (ae_op ae_int (ae_var rfl rfl) a2_I0) al_nil)) rfl ⟨ns, 3 + (i : Nat), rfl, by omega, rfl⟩) ?_)
    generalize cell ns (3 + (i : Nat)) = x
    have x1 := mod_lo x (n := 8) (by decide)
    have x2 := mod_hi x (n := 8) (by decide)
    refine as_seq (as_asg ((ae_tup' (ald_cons (ae_str (s := kOne) (by decide +kernel)) (ald_cons (ae_call (al_cons (ae_var rfl rfl) (al_cons (ae_op ae_int (ae_op (ae_op (ae_var rfl rfl) ae_int (a2_I ⟨by decide, by decide⟩)) ae_int (a2_I (by decide))) a2_I0) al_nil)) rfl ⟨_, _, rfl, hu.ok, hl, rfl⟩) ald_nil))).eq (b := .d (patD (gLeaf ls x))) rfl) ?_)
    refine as_seq (as_asg ((ae_tup' (ald_cons (ae_str (s := kOne) (by decide +kernel)) (ald_cons (ae_call (al_cons (ae_var rfl rfl) (al_cons (ae_op ae_int (ae_op (ae_op (ae_var rfl rfl) ae_int (a2_I ⟨by decide, by decide⟩)) ae_int (a2_I (by decide))) a2_I0) al_nil)) rfl ⟨_, _, rfl, hu.ok, hl, rfl⟩) ald_nil))).eq (b := .d (patD (gOther ls x))) rfl) ?_)
    refine as_seq (as_asg ((ae_tup' (ald_cons (ae_str (s := kRow) (by decide +kernel)) (ald_cons (an_lst' (ald_cons (ae_var rfl rfl) (ald_cons (ae_var rfl rfl) ald_nil))).ae ald_nil))).eq (b := .d (patD (.row [gLeaf ls x, gOther ls x]))) rfl) ?_)
    refine as_seq (as_asg (an_lst' (ald_cons (ae_tup' (ald_cons (ae_str (s := kRow) (by decide +kernel)) (ald_cons (an_lst' (ds := []) ald_nil).ae ald_nil))) (ald_cons (ae_var rfl rfl) (ald_cons (ae_tup' (ald_cons (ae_str (s := kMany) (by decide +kernel)) (ald_cons (ae_var rfl rfl) ald_nil))) (ald_cons (ae_tup' (ald_cons (ae_str (s := kMaybe) (by decide +kernel)) (ald_cons (ae_var rfl rfl) ald_nil))) (ald_cons (ae_var rfl rfl) (ald_cons (ae_tup' (ald_cons (ae_str (s := kOr) (by decide +kernel)) (ald_cons (an_lst' (ald_cons (ae_var rfl rfl) (ald_cons (ae_var rfl rfl) ald_nil))).ae ald_nil))) ald_nil))))))).ae ?_)
    refine as_seq (as_asg ((an_op (ae_var rfl rfl) (an_lst' (ald_cons (ae_tup' (ald_cons (ae_str (s := kMaybe) (by decide +kernel)) (ald_cons (ae_tup' (ald_cons (ae_str (s := kRow) (by decide +kernel)) (ald_cons (an_lst' (ald_cons (ae_var rfl rfl) (ald_cons (ae_tup' (ald_cons (ae_str (s := kMany) (by decide +kernel)) (ald_cons (ae_var rfl rfl) ald_nil))) ald_nil))).ae ald_nil))) ald_nil))) (ald_cons (ae_tup' (ald_cons (ae_str (s := kOr) (by decide +kernel)) (ald_cons (an_lst' (ald_cons (ae_var rfl rfl) (ald_cons (ae_var rfl rfl) ald_nil))).ae ald_nil))) ald_nil))).ae (n2_cat (by show 6 + 2 ≤ 1000000; decide))).eq (es := (gSome ls x).map patD) rfl).ae ?_)
    refine as_seq (as_asg (ae_op (an_lst' (ds := gSizes.map .int) (ald_cons ae_int (ald_cons ae_int (ald_cons ae_int (ald_cons ae_int (ald_cons ae_int (ald_cons ae_int (ald_cons ae_int (ald_cons ae_int ald_nil))))))))).ae (ae_op (ae_var rfl rfl) ae_int (a2_I (by decide))) (a2_ixL (d := .int (gSizeN x)) (atI_map (pick_at 0 x1 x2)))) ?_)
    refine as_seq (as_app (x := patD (gPart ls x room)) (ae_var rfl rfl) (ae_op (ae_var rfl rfl) (ae_op (an_lst' (ds := [.int 0, .int (x % 8)]) (ald_cons ae_int (ald_cons (ae_op (ae_var rfl rfl) ae_int (a2_I (by decide))) ald_nil))).ae (ae_cb (al_cons (ae_op (ae_var rfl rfl) (ae_var rfl rfl) a2_I0b) al_nil) ac_intB) (a2_ixL (d := .int (if decide (gSizeN x ≤ room) = true then x % 8 else 0)) ?_)) (a2_ixL ?_)) rfl (by rw [patsD_len]; omega) ?_)
    · by_cases z : gSizeN x ≤ room
      · rw [decide_eq_true z]
        rfl
      · rw [decide_eq_false z]
        rfl
    · have hlen : (gSome ls x).length = 8 := rfl
      unfold gPart
      by_cases z : gSizeN x ≤ room
      · rw [decide_eq_true z, if_pos rfl, if_pos rfl]
        exact atI_map (pick_at (l := gSome ls x) (Pat.row []) x1 (by rw [hlen]; exact x2))
      · rw [decide_eq_false z, if_neg (by decide), if_neg (by decide)]
        rfl
    refine as_asg (ae_op (ae_var rfl rfl) (ae_op (an_lst' (ds := [.int 0, .int (gSizeN x)]) (ald_cons ae_int (ald_cons (ae_var rfl rfl) ald_nil))).ae (ae_cb (al_cons (ae_op (ae_var rfl rfl) (ae_var rfl rfl) a2_I0b) al_nil) ac_intB) (a2_ixL (d := .int (if decide (gSizeN x ≤ room) = true then gSizeN x else 0)) ?_)) a2_I0) ⟨⟨.inr rfl, .inr rfl, .inr rfl, .inr ?_, .inr rfl, .inl rfl, .inl rfl, .inl rfl, .inl rfl, .inl rfl, .inl rfl, .inl rfl, .inl rfl, .inl rfl, trivial⟩, ?_⟩
    · by_cases z : gSizeN x ≤ room
      · rw [decide_eq_true z]
        rfl
      · rw [decide_eq_false z]
        rfl
    · show A.d (.int (room - if decide (gSizeN x ≤ room) = true then gSizeN x else 0)) = A.d (.int (if decide (gSizeN x ≤ room) = true then room - gSizeN x else room))
      split
      · rfl
      · rw [Int.sub_zero]
    · rw [pats_app]
      rfl
  · refine as_frz 0 rfl (Nat.zero_le _) ?_
    have c1 := mod_lo (cell ns 2 / 12) (n := 3) (by decide)
    have c2 := mod_hi (cell ns 2 / 12) (n := 3) (by decide)
    have d1 := mod_lo (cell ns 2 / 36) (n := 2) (by decide)
    have d2 := mod_hi (cell ns 2 / 36) (n := 2) (by decide)
    have e1 := mod_lo (cell ns 2 / 72) (n := 2) (by decide)
    have e2 := mod_hi (cell ns 2 / 72) (n := 2) (by decide)
    have g0 := first_lt hu.ok (i := 0) (by omega)
    have g1 := first_lt hu.ok (i := 1) (by omega)
    have hg0 : ls[0]? = some (ls.getD 0 []) := by rw [List.getD_eq_getElem?_getD, List.getElem?_eq_getElem (show 0 < ls.length by omega)]; rfl
    have hg1 : ls[1]? = some (ls.getD 1 []) := by rw [List.getD_eq_getElem?_getD, List.getElem?_eq_getElem (show 1 < ls.length by omega)]; rfl
    have z0 := (hu.ok.it _ (List.mem_of_getElem? hg0)).2
    have z1 := (hu.ok.it _ (List.mem_of_getElem? hg1)).2
    refine as_seq (as_asg ((ae_tup' (ald_cons (ae_op (an_lst' (ds := [.str kRow, .str kOr]) (ald_cons (ae_str (by decide +kernel)) (ald_cons (ae_str (by decide +kernel)) ald_nil))).ae (ae_op (ae_op (ae_var rfl rfl) ae_int (a2_I ⟨by decide, by decide⟩)) ae_int (a2_I (by decide))) (a2_ixL (two_pick rfl))) (ald_cons (ae_var rfl rfl) ald_nil))).eq (b := .d (patD (gBoth ns ls))) ?_) ?_)
    · unfold gBoth
      split <;> rfl
    refine as_seq (as_asg (ae_op (an_lst' (ds := [gBoth ns ls, .many (gBoth ns ls), .maybe (gBoth ns ls)].map patD) (ald_cons (ae_var rfl rfl) (ald_cons (ae_tup' (ald_cons (ae_str (s := kMany) (by decide +kernel)) (ald_cons (ae_var rfl rfl) ald_nil))) (ald_cons (ae_tup' (ald_cons (ae_str (s := kMaybe) (by decide +kernel)) (ald_cons (ae_var rfl rfl) ald_nil))) ald_nil)))).ae (ae_op (ae_op (ae_var rfl rfl) ae_int (a2_I ⟨by decide, by decide⟩)) ae_int (a2_I (by decide))) (a2_ixL (d := patD (gWhole ns ls)) (atI_map (pick_at (l := [gBoth ns ls, .many (gBoth ns ls), .maybe (gBoth ns ls)]) (Pat.row []) c1 c2)))) ?_)
    refine as_seq (as_asg ((ae_tup' (ald_cons (ae_str (s := kRow) (by decide +kernel)) (ald_cons (an_lst' (ald_cons (ae_tup' (ald_cons (ae_str (s := kOne) (by decide +kernel)) (ald_cons (ae_op (ae_op (ae_var rfl rfl) ae_int (a2_ixL (d := .str (ls.getD 0 [])) (atI_map (atI_of (j := 0) rfl hg0)))) ae_int (a2_ixS (by omega) (atI_of (j := 0) rfl g0.2))) ald_nil))) (ald_cons (ae_tup' (ald_cons (ae_str (s := kOne) (by decide +kernel)) (ald_cons (ae_op (ae_op (ae_var rfl rfl) ae_int (a2_ixL (d := .str (ls.getD 1 [])) (atI_map (atI_of (j := 1) rfl hg1)))) ae_int (a2_ixS (by omega) (atI_of (j := 0) rfl g1.2))) ald_nil))) ald_nil))).ae ald_nil))).eq (b := .d (patD (gShort ls))) rfl) ?_)
    refine as_ret (ae_op (an_lst' (ds := (longs (gWhole ns ls) (gShort ls)).map fun l => .lst (patsD l)) (ald_cons (an_lst' (ald_cons (ae_var rfl rfl) ald_nil)).ae (ald_cons (an_lst' (ald_cons (ae_var rfl rfl) ald_nil)).ae (ald_cons (an_lst' (ald_cons (ae_var rfl rfl) (ald_cons (ae_var rfl rfl) ald_nil))).ae (ald_cons (an_lst' (ald_cons (ae_var rfl rfl) (ald_cons (ae_var rfl rfl) ald_nil))).ae ald_nil))))).ae (ae_op (ae_op (ae_op (ae_op (ae_var rfl rfl) ae_int (a2_I ⟨by decide, by decide⟩)) ae_int (a2_I (by decide))) ae_int (a2_I (.inr ⟨by decide, by decide⟩))) (ae_op (ae_op (ae_var rfl rfl) ae_int (a2_I ⟨by decide, by decide⟩)) ae_int (a2_I (by decide))) a2_I0) (a2_ixL (d := .lst (patsD (longBy ns ls))) (atI_map (g := fun l => D.lst (patsD l)) (pick_at (l := longs (gWhole ns ls) (gShort ls)) [] (by omega) (show _ < (4 : Int) by omega))))) ⟨rfl, rfl⟩
/-! ### _law_patterns -/
abbrev s_law_patterns : Stmt := topS 30
theorem sc_law_patterns : FnScope ["_law_script", "_law_letters_here", "_law_held", "_law_room", "_law_k"] ["_law_script", "_law_letters_here"] (defScope s_law_patterns) := ⟨rfl, rfl, rfl, by decide +kernel, rfl, by decide +kernel, by decide +kernel⟩
def R_law_patterns (K : PySem.W.Frag) (as : List A) (r : A) : Prop := ∃ (ns : List Int) (ls : List (List Nat)), as = [.p (ScP K ns), .d (strsD ls)] ∧ LetU ls ∧ 4 ≤ ls.length ∧ r = .d (.lst (patsD (patternsBy 60 false ns ls)))
abbrev Has_law_patterns (P : Program) (w : World) (K : PySem.W.Frag) (mg : Str → Option Value) (base : Heap) : Prop := Has P w K mg base "_law_patterns" ["_law_script", "_law_letters_here"] 34 (SpF K (R_law_patterns K))
theorem ok_law_patterns (DD : DefAt K mg "_law_patterns" s_law_patterns ["_law_script", "_law_letters_here"]) (H_law_cell_at : Has_law_cell_at P w K mg base) (H_law_words : Has_law_words P w K mg base) (H_law_loops : Has_law_loops P w K mg base) (H_law_long : Has_law_long P w K mg base) (H_law_grown : Has_law_grown P w K mg base false) (m_range : mg "range" = none) : Has_law_patterns P w K mg base := by
  refine okF DD sc_law_patterns (by rintro as r ⟨_, _, rfl, _⟩; rfl) fun _ _ _ _ _ _ _ hr => ⟨_, (pss_cons (ps_if (pt_cmpR op_eq (pe_op op_mod (pe_has H_law_cell_at (hr.mono (by decide)) (by rfl) (pa_cons (pv 0) (pa_cons pe_int pa_nil))) pe_int) pe_int (nomark _)) (pss_one (ps_ret (pe_has H_law_words (hr.mono (by decide)) (by rfl) (pa_cons (pv 0) pa_nil)))) pss_nil)
      (pss_cons (ps_if (pt_cmpR op_eq (pe_op op_mod (pe_has H_law_cell_at (hr.mono (by decide)) (by rfl) (pa_cons (pv 0) (pa_cons pe_int pa_nil))) pe_int) pe_int (nomark _)) (pss_one (ps_ret (pe_has H_law_loops (hr.mono (by decide)) (by rfl) (pa_cons (pv 0) (pa_cons (pv 1) pa_nil))))) pss_nil)
      (pss_cons (ps_if (pt_cmpR op_eq (pe_op op_mod (pe_has H_law_cell_at (hr.mono (by decide)) (by rfl) (pa_cons (pv 0) (pa_cons pe_int pa_nil))) pe_int) pe_int (nomark _)) (pss_one (ps_ret (pe_has H_law_long (hr.mono (by decide)) (by rfl) (pa_cons (pv 0) (pa_cons (pv 1) pa_nil))))) pss_nil)
      (pss_cons (ps_set (i := 2) sc_law_patterns.nd rfl (.inl rfl) (pe_lst pa_nil))
      (pss_cons (ps_set (i := 3) sc_law_patterns.nd rfl (.inl rfl) pe_int)
      (pss_cons (ps_for PassesOwn.never rfl (pi_range1 (by rfl) m_range (pa_cons pe_int pa_nil)) (pg_name (i := 4) sc_law_patterns.nd rfl (.inl rfl)) (pss_one (ps_set (i := 3) sc_law_patterns.nd rfl (.inl rfl) (pe_has H_law_grown (hr.mono (by decide)) (by rfl) (pa_cons (pv 2) (pa_cons (pe_has H_law_cell_at (hr.mono (by decide)) (by rfl) (pa_cons (pv 0) (pa_cons (pe_op op_add pe_int (pv 4)) pa_nil))) (pa_cons (pv 1) (pa_cons (pv 3) pa_nil))))))))
      (pss_cons (ps_if (pt_not (pt_truth (pv 2) (by intro _; rfl))) (pss_one (ps_expr (pe_bm PySem.F.plainAttrs_list PySem.F.slot_list_append PySem.F.type_list_append mt_append (pv 2) (pa_cons (pe_tup (pa_cons pe_str (pa_cons (pe_ix ix_list (pv 1) pe_int (fun _ _ => rfl)) pa_nil))) pa_nil)))) pss_nil)
      (pss_one (ps_ret (pv 2)))))))))), ?_⟩
  rintro as r ⟨ns, ls, rfl, hu, hl, rfl⟩
  unfold patternsBy
  refine as_seq (as_if (at_val (ae_op (ae_op (ae_call (al_cons (ae_var rfl rfl) (al_cons ae_int al_nil)) rfl ⟨_, _, rfl, by decide, rfl⟩) ae_int (a2_I (by decide))) ae_int a2_eqI)) (fun h => ?_) (fun h => as_next ?_))
  · rw [if_pos h]
    exact as_ret (ae_call (al_cons (ae_var rfl rfl) al_nil) rfl ⟨ns, rfl, rfl⟩) ⟨rfl, rfl⟩
  rw [if_neg (by rw [h]; decide)]
  refine as_seq (as_if (at_val (ae_op (ae_op (ae_call (al_cons (ae_var rfl rfl) (al_cons ae_int al_nil)) rfl ⟨_, _, rfl, by decide, rfl⟩) ae_int (a2_I (by decide))) ae_int a2_eqI)) (fun h => ?_) (fun h => as_next ?_))
  · rw [if_pos h]
    exact as_ret (ae_call (al_cons (ae_var rfl rfl) (al_cons (ae_var rfl rfl) al_nil)) rfl ⟨ns, ls, rfl, hu, hl, rfl⟩) ⟨rfl, rfl⟩
  rw [if_neg (by rw [h]; decide)]
  refine as_seq (as_if (at_val (ae_op (ae_op (ae_call (al_cons (ae_var rfl rfl) (al_cons ae_int al_nil)) rfl ⟨_, _, rfl, by decide, rfl⟩) ae_int (a2_I (by decide))) ae_int a2_eqI)) (fun h => ?_) (fun h => as_next ?_))
  · rw [if_pos h]
    exact as_ret (ae_call (al_cons (ae_var rfl rfl) (al_cons (ae_var rfl rfl) al_nil)) rfl ⟨ns, ls, rfl, hu, hl, rfl⟩) ⟨rfl, rfl⟩
  rw [if_neg (by rw [h]; decide)]
  refine as_seq (as_asgN (an_lst' (ds := []) ald_nil) ?_)
  refine as_seq (as_asg ae_int ?_)
  refine as_forE_seq (fun i => ⟨[.p (ScP K ns), .d (strsD ls), .o 0, .d (.int (grow false ls (fun k => cell ns (2 + (k : Nat))) 6 i).2), .no], [some (.lst (patsD (grow false ls (fun k => cell ns (2 + (k : Nat))) 6 i).1.reverse))]⟩) (ai_rng1 (n := 12) (al_cons ae_int al_nil) (by decide) (by decide)) ⟨⟨.inr rfl, .inr rfl, .inr rfl, .inr rfl, .inl rfl, trivial⟩, rfl⟩ (fun i hi => ?_) ?_
  · have hi : i < 12 := hi
    refine ag_name ?_
    have g := grow_ok (cap := false) hu hl (cells := fun k => cell ns (2 + (k : Nat))) (room := 6) i
    refine as_asgX (ax_call1 0 (al_cons (ae_var rfl rfl) (al_cons (ae_call (al_cons (ae_var rfl rfl) (al_cons (ae_op ae_int (ae_var rfl rfl) a2_I0) al_nil)) rfl ⟨ns, 2 + (i : Nat), rfl, by omega, rfl⟩) (al_cons (ae_var rfl rfl) (al_cons (ae_var rfl rfl) al_nil)))) rfl ⟨ls, _, cell ns (2 + (i : Nat)), _, i, 6, rfl, rfl, rfl, rfl, hu, hl, g, by omega⟩ rfl ?_)
    exact ⟨⟨.inr rfl, .inr rfl, .inr rfl, .inr rfl, .inl rfl, trivial⟩, rfl⟩
  · have hd : drawnBy false ns ls = match (grow false ls (fun k => cell ns (2 + (k : Nat))) 6 12).1 with | [] => [.one (ls.getD 0 [])] | p :: r => (p :: r).reverse := rfl
    rw [hd]
    show AS K 0 _ _ ⟨[_, _, _, _, _], [some (.lst (patsD (grow false ls (fun k => cell ns (2 + (k : Nat))) 6 12).1.reverse))]⟩
    generalize (grow false ls (fun k => cell ns (2 + (k : Nat))) 6 12).2 = room
    have hg0 : ls[0]? = some (ls.getD 0 []) := by rw [List.getD_eq_getElem?_getD, List.getElem?_eq_getElem (show 0 < ls.length by omega)]; rfl
    cases (grow false ls (fun k => cell ns (2 + (k : Nat))) 6 12).1 with
    | nil =>
      refine as_seq (as_if (b := true) ((at_not (at_trO (ds := []) rfl (ae_var rfl rfl))).eq rfl) (fun _ => ?_) (fun h => (by cases h)))
      refine as_app (x := patD (.one (ls.getD 0 []))) (ae_var rfl rfl) (ae_tup' (ald_cons (ae_str (s := kOne) (by decide +kernel)) (ald_cons (ae_op (ae_var rfl rfl) ae_int (a2_ixL (d := .str (ls.getD 0 [])) (atI_map (atI_of (j := 0) rfl hg0)))) ald_nil))) rfl (by show 0 < 1000000; decide) ?_
      exact as_frz 0 rfl (Nat.zero_le _) (as_ret (ae_var rfl rfl) ⟨rfl, rfl⟩)
    | cons p rs =>
      refine as_seq (as_if (b := false) ((at_not (at_trO rfl (ae_var rfl rfl))).eq (by rw [pats_ne]; rfl)) (fun h => (by cases h)) (fun _ => as_next ?_))
      exact as_frz 0 rfl (Nat.zero_le _) (as_ret (ae_var rfl rfl) ⟨rfl, rfl⟩)
/-! ### _law_leaves -/
abbrev s_law_leaves : Stmt := topS 31
theorem sc_law_leaves : FnScope ["_law_pattern", "_law_parts", "_law_found", "_law_part"] ["_law_pattern"] (defScope s_law_leaves) := ⟨rfl, rfl, rfl, by decide +kernel, rfl, by decide +kernel, by decide +kernel⟩
def R_law_leaves (d : Nat) (as : List A) (r : A) : Prop := ∃ p : Pat, as = [.d (patD p)] ∧ Wf p ∧ dep p ≤ d ∧ nl p ≤ 100000 ∧ r = .d (strsD (leafs p))
abbrev Has_law_leaves (P : Program) (w : World) (K : PySem.W.Frag) (mg : Str → Option Value) (base : Heap) (d : Nat) : Prop := Has P w K mg base "_law_leaves" ["_law_pattern"] (d + 1) (SpF K (R_law_leaves d))
theorem leaf_pick {p : Pat} (h : kind p ≠ kOne) : (if (decide (kind p = kMany) || decide (kind p = kMaybe)) = true then D.lst [inner p] else inner p) = .lst (patsD (subs p)) ∧ leafs p = leafss (subs p) ∧ nl p = nls (subs p) := by
  cases p with
  | one s => exact absurd rfl h
  | row ps => exact ⟨rfl, rfl, rfl⟩
  | or ps => exact ⟨rfl, rfl, rfl⟩
  | many p => exact ⟨rfl, (List.append_nil _).symm, rfl⟩
  | maybe p => exact ⟨rfl, (List.append_nil _).symm, rfl⟩
theorem take_sn2 {ps : List Pat} {i : Nat} (hi : i < ps.length) : ps.take (i + 1) = ps.take i ++ [ps.getD i (.row [])] := by
  rw [List.take_add_one, List.getElem?_eq_getElem hi, List.getD_eq_getElem?_getD, List.getElem?_eq_getElem hi]
  rfl
theorem nls_part {ps : List Pat} {i : Nat} (hi : i < ps.length) : nls (ps.take i) + nl (ps.getD i (.row [])) ≤ nls ps := by
  have h1 := nls_take ps (i + 1)
  rw [take_sn2 hi, nls_app] at h1
  have : nls [ps.getD i (.row [])] = nl (ps.getD i (.row [])) + 0 := rfl
  omega
theorem mk_law_leaves {d : Nat} (DD : DefAt K mg "_law_leaves" s_law_leaves ["_law_pattern"]) (H_law_leaves : Has_law_leaves P w K mg base d) : Has_law_leaves P w K mg base (d + 1) := by
  refine okF (k := d + 1) DD sc_law_leaves (by rintro as r ⟨_, rfl, _⟩; rfl) fun _ _ _ _ _ _ _ hr => ⟨_, (pss_cons (ps_if (pt_cmpR op_eq (pe_ix ix_tup (pv 0) pe_int (fun _ _ => rfl)) pe_str (nomark _)) (pss_one (ps_ret (pe_lst (pa_cons (pe_ix ix_tup (pv 0) pe_int (fun _ _ => rfl)) pa_nil)))) pss_nil)
      (pss_cons (ps_set (i := 1) sc_law_leaves.nd rfl (.inl rfl) (pe_ix ix_tup (pv 0) pe_int (fun _ _ => rfl)))
      (pss_cons (ps_if (PW.pt (pw_or (pt_cmpR op_eq (pe_ix ix_tup (pv 0) pe_int (fun _ _ => rfl)) pe_str (nomark _)) (pw_or1 (pt_cmpR op_eq (pe_ix ix_tup (pv 0) pe_int (fun _ _ => rfl)) pe_str (nomark _))))) (pss_one (ps_set (i := 1) sc_law_leaves.nd rfl (.inl rfl) (pe_lst (pa_cons (pe_ix ix_tup (pv 0) pe_int (fun _ _ => rfl)) pa_nil)))) pss_nil)
      (pss_cons (ps_set (i := 2) sc_law_leaves.nd rfl (.inl rfl) (pe_lst pa_nil))
      (pss_cons (ps_for PassesOwn.never rfl (pi_list (pv 1)) (pg_name (i := 3) sc_law_leaves.nd rfl (.inl rfl)) (pss_one (ps_set (i := 2) sc_law_leaves.nd rfl (.inl rfl) (pe_op op_cat (pv 2) (pe_has H_law_leaves (hr.mono (by omega)) (by rfl) (pa_cons (pv 3) pa_nil))))))
      (pss_one (ps_ret (pv 2)))))))), ?_⟩
  rintro as r ⟨p, rfl, hw, hd, hn, rfl⟩
  obtain ⟨k1, k2⟩ := subs_ok hw hd
  rw [patD_two]
  refine as_seq (as_if (at_val (ae_op (ae_op (ae_var rfl rfl) ae_int (a2_ixT rfl)) (ae_str (s := kOne) (by decide +kernel)) a2_eqS)) (fun h => ?_) (fun h => as_next ?_))
  · have h := of_decide_eq_true h
    refine as_ret (an_lst' (ald_cons (ae_op (ae_var rfl rfl) ae_int (a2_ixT rfl)) ald_nil)).ae ⟨?_, rfl⟩
    cases p with
    | one s => rfl
    | row ps => exact absurd h (show ¬ kRow = kOne by decide)
    | or ps => exact absurd h (show ¬ kOr = kOne by decide)
    | many p => exact absurd h (show ¬ kMany = kOne by decide)
    | maybe p => exact absurd h (show ¬ kMaybe = kOne by decide)
  · have h := of_decide_eq_false h
    obtain ⟨e1, e2, e3⟩ := leaf_pick h
    refine as_seq (as_asg (ae_op (ae_var rfl rfl) ae_int (a2_ixT (d := inner p) rfl)) ?_)
    refine as_seq (as_ifset (at_or (at_val (ae_op (ae_op (ae_var rfl rfl) ae_int (a2_ixT (d := .str (kind p)) rfl)) (ae_str (s := kMany) (by decide +kernel)) a2_eqS)) fun h => (at_val (ae_op (ae_op (ae_var rfl rfl) ae_int (a2_ixT (d := .str (kind p)) rfl)) (ae_str (s := kMaybe) (by decide +kernel)) a2_eqS))) (fun h => (an_lst' (ald_cons (ae_op (ae_var rfl rfl) ae_int (a2_ixT (d := inner p) rfl)) ald_nil)).ae) rfl ?_)
    rw [e1, e2]
    rw [e3] at hn
    generalize subs p = ps at *
    refine as_seq (as_asg (an_lst' (ds := []) ald_nil).ae ?_)
    refine as_forE_seq (fun i => ⟨[.d (.tup [.str (kind p), inner p]), .d (.lst (patsD ps)), .d (strsD (leafss (ps.take i))), .no], []⟩) (ai_list (n := ps.length) (f := fun i => patD (ps.getD i (.row []))) (ae_var rfl rfl) (by rw [patsD_map, List.length_map]) (fun i hi => by rw [patsD_map, List.getElem?_map, List.getElem?_eq_getElem hi, List.getD_eq_getElem?_getD, List.getElem?_eq_getElem hi]; rfl)) ⟨⟨.inr rfl, .inr rfl, .inr rfl, .inl rfl, trivial⟩, rfl⟩ (fun i hi => ?_) ?_
    · have hm : ps.getD i (.row []) ∈ ps := by
        rw [List.getD_eq_getElem?_getD, List.getElem?_eq_getElem hi]
        exact List.getElem_mem _
      have hp := nls_part hi
      have hl1 := leafss_len (ps.take i)
      have hl2 := leafs_len (ps.getD i (.row []))
      refine ag_name ?_
      refine as_asg (an_op (ae_var rfl rfl) (ae_call (al_cons (ae_var rfl rfl) al_nil) rfl ⟨_, rfl, (k1 _ hm).1, (k1 _ hm).2, by omega, rfl⟩) (n2_cat (by rw [List.length_map, List.length_map]; omega))).ae ⟨⟨.inr rfl, .inr rfl, .inr ?_, .inl rfl, trivial⟩, rfl⟩
      rw [take_sn2 hi, leafss_app, ← List.map_append]
      show A.d (.lst _) = A.d (.lst ((leafss (ps.take i) ++ (leafs (ps.getD i (.row [])) ++ [])).map D.str))
      rw [List.append_nil]
    · rw [List.take_of_length_le (Nat.le_refl _)]
      exact as_ret (ae_var rfl rfl) ⟨rfl, rfl⟩
theorem no_law_leaves (DD : DefAt K mg "_law_leaves" s_law_leaves ["_law_pattern"]) : Has_law_leaves P w K mg base 0 := by
  refine okF (k := 0) DD sc_law_leaves (by rintro as r ⟨_, rfl, _⟩; rfl) fun _ _ _ _ _ _ _ hr => ⟨_, pss_cons ps_never (pss_cons ps_never (pss_cons ps_never (pss_cons ps_never (pss_cons ps_never (pss_one ps_never))))), ?_⟩
  rintro as r ⟨p, rfl, hw, hd, _⟩
  have := dep_pos p
  omega
theorem all_law_leaves (DD : DefAt K mg "_law_leaves" s_law_leaves ["_law_pattern"]) : ∀ d, Has_law_leaves P w K mg base d
  | 0 => no_law_leaves DD
  | d + 1 => mk_law_leaves DD (all_law_leaves DD d)
theorem ok_law_leaves (DD : DefAt K mg "_law_leaves" s_law_leaves ["_law_pattern"]) : Has_law_leaves P w K mg base 31 := by
  exact all_law_leaves DD 31
theorem PsOk.item {ps : List Pat} (h : PsOk ps) {p : Pat} (hp : p ∈ ps) : PsOk [p] :=
  ⟨⟨wfs_mem.mp h.wf p hp, trivial⟩, Nat.le_refl _, by show 1 ≤ 8; decide, by have := nls_mem hp; have := h.lv; show nl p + 0 ≤ 60; omega, by have := deps_le.mp h.dp p hp; show max (dep p) 0 ≤ 30; omega⟩
theorem PsOk.okD {ps : List Pat} (h : PsOk ps) : okD (.lst (patsD ps)) := (Good.lst (patsD_good h.wf)).ok (by have := h.dp; omega)
/-! ### law -/
abbrev s_law : Stmt := topS 32
theorem sc_law : FnScope ["_law_script", "_law_letters_here", "_law_patterns_here", "_law_due", "_law_pattern", "_law_signs", "_law_sign", "_law_found"] ["_law_script"] (defScope s_law) := ⟨rfl, rfl, rfl, by decide +kernel, rfl, by decide +kernel, by decide +kernel⟩
theorem ok_law {f : Addr} {fd : FuncData} (F : Fun K "law" "law" s_law f fd) (H_law_letters : Has_law_letters P w K mg base) (H_law_cell_at : Has_law_cell_at P w K mg base) (H_law_patterns : Has_law_patterns P w K mg base) (H_law_leaves : Has_law_leaves P w K mg base 31) (H_signs_of : Has_signs_of P w K mg base)
    (m_isinstance : mg "isinstance" = none) (m_str : mg "str" = none) (m_sorted : mg "sorted" = none) : FnOk P w K mg base CX0 98 f fd ["_law_script"] (spLaw K) := by
  refine okLaw F sc_law fun _ _ _ _ _ _ _ hr => ⟨_, (pss_cons (ps_set (i := 1) sc_law.nd rfl (.inl rfl) (pe_has H_law_letters (hr.mono (by decide)) (by rfl) (pa_cons (pe_has H_law_cell_at (hr.mono (by decide)) (by rfl) (pa_cons (pv 0) (pa_cons pe_int pa_nil))) pa_nil)))
      (pss_cons (ps_set (i := 2) sc_law.nd rfl (.inl rfl) (pe_has H_law_patterns (hr.mono (by decide)) (by rfl) (pa_cons (pv 0) (pa_cons (pv 1) pa_nil))))
      (pss_cons (ps_set (i := 3) sc_law.nd rfl (.inl rfl) (pe_lst pa_nil))
      (pss_cons (ps_for PassesOwn.never rfl (pi_list (pv 2)) (pg_name (i := 4) sc_law.nd rfl (.inl rfl)) (pss_one (ps_for PassesOwn.never rfl (pi_list (pe_has H_law_leaves (hr.mono (by decide)) (by rfl) (pa_cons (pv 4) pa_nil))) (pg_name (i := 5) sc_law.nd rfl (.inl rfl)) (pss_one (ps_for PassesOwn.never rfl (pi_str (pv 5)) (pg_name (i := 6) sc_law.nd rfl (.inl rfl)) (pss_one (ps_if (pt_cmpR op_notIn_seq (pv 6) (pv 3) rfl) (pss_one (ps_expr (pe_bm PySem.F.plainAttrs_list PySem.F.slot_list_append PySem.F.type_list_append mt_append (pv 3) (pa_cons (pv 6) pa_nil)))) pss_nil)))))))
      (pss_cons (ps_set (i := 7) sc_law.nd rfl (.inl rfl) (pe_has H_signs_of (hr.mono (by decide)) (by rfl) (pa_cons (pv 2) pa_nil)))
      (pss_cons (ps_if (pt_cmpR (op_neD hr.units) (pv 2) (pe_has H_law_patterns (hr.mono (by decide)) (by rfl) (pa_cons (pv 0) (pa_cons (pv 1) pa_nil))) (nomark _)) (pss_one (ps_ret pe_bl)) pss_nil)
      (pss_one (ps_ret (pe_and (pe_callB call_isi (by rfl) m_isinstance (by decide +kernel) (pa_cons (pv 7) (pa_cons (pe_bltn (v := .ty "str") (by rfl) m_str (by decide +kernel) rfl) pa_nil))) (pe_one (pe_cmpR op_eq (pv 7) (pe_join pe_str (pe_callB call_sort1 (by rfl) m_sorted (by decide +kernel) (pa_cons (pv 3) pa_nil))) (nomark _)))))))))))), ?_⟩
  rintro as r ⟨ns, rfl, _, rfl⟩
  have hu := letters_u (cell ns 0)
  have hl5 := letters_len (cell ns 0)
  have hp := patternsBy_ok (m := 60) (cap := false) (by decide) (by decide) hu (by omega) ns
  refine as_seq (as_asg (ae_call (al_cons (ae_call (al_cons (ae_var rfl rfl) (al_cons ae_int al_nil)) rfl ⟨_, _, rfl, by decide, rfl⟩) al_nil) rfl ⟨_, rfl, rfl⟩) ?_)
  refine as_seq (as_asg (ae_call (al_cons (ae_var rfl rfl) (al_cons (ae_var rfl rfl) al_nil)) rfl ⟨ns, letters (cell ns 0), rfl, hu, by omega, rfl⟩) ?_)
  generalize letters (cell ns 0) = ls at *
  generalize hps : patternsBy 60 false ns ls = ps at *
  have hpl := patsD_len ps
  have hall := allS_len hp
  have hbig : ∀ cs : List Nat, (dueL cs).length ≤ cs.length := fun cs => by
    obtain ⟨h1, h2⟩ := dueL_ok cs
    exact nodup_sub h1 fun c hc => (h2 c).mp hc
  refine as_seq (as_asgN (an_lst' (ds := []) ald_nil) ?_)
  refine as_seq (as_forE (fun i => ⟨[.p (ScP K ns), .d (strsD ls), .d (.lst (patsD ps)), .o 0, .no, .no, .no, .no], [some (.lst (onesD (dueL (allS (ps.take i)))))]⟩) (ai_list (n := ps.length) (f := fun i => patD (ps.getD i (.row []))) (ae_var rfl rfl) hpl (fun i hi => by rw [patsD_map, List.getElem?_map, List.getElem?_eq_getElem hi, List.getD_eq_getElem?_getD, List.getElem?_eq_getElem hi]; rfl)) ⟨⟨.inr rfl, .inr rfl, .inr rfl, .inr rfl, .inl rfl, .inl rfl, .inl rfl, .inl rfl, trivial⟩, rfl⟩ (fun i hi => ?_) fun e' le => ?_)
  · have hm : ps.getD i (.row []) ∈ ps := by
      rw [List.getD_eq_getElem?_getD, List.getElem?_eq_getElem hi]
      exact List.getElem_mem _
    have hnl := nls_mem hm
    have hlv := hp.lv
    have hnext : allS (ps.take (i + 1)) = allS (ps.take i) ++ (leafs (ps.getD i (.row []))).flatten := by
      unfold allS
      rw [take_sn2 hi, leafss_app, List.flatten_append]
      show _ ++ (leafs (ps.getD i (.row [])) ++ []).flatten = _
      rw [List.append_nil]
    have hle : (allS (ps.take (i + 1))).length ≤ (allS ps).length := by
      have : allS ps = allS (ps.take (i + 1)) ++ allS (ps.drop (i + 1)) := by
        unfold allS
        rw [← List.flatten_append, ← leafss_app, List.take_append_drop]
      rw [this, List.length_append]
      omega
    have hdp : dep (ps.getD i (.row [])) ≤ 30 := deps_le.mp hp.dp _ hm
    have hwf := wfs_mem.mp hp.wf _ hm
    have hlw := leafs_wf hwf
    rw [hnext] at hle ⊢
    generalize allS (ps.take i) = c0 at *
    generalize ps.getD i (.row []) = p at *
    refine ag_name ?_
    refine as_forE (fun j => ⟨[.p (ScP K ns), .d (strsD ls), .d (.lst (patsD ps)), .o 0, .d (patD p), .no, .no, .no], [some (.lst (onesD (dueL (c0 ++ ((leafs p).take j).flatten))))]⟩) (ai_list (xs := (leafs p).map .str) (n := (leafs p).length) (f := fun j => .str ((leafs p).getD j [])) (ae_call (al_cons (ae_var rfl rfl) al_nil) rfl ⟨p, rfl, hwf, by omega, by omega, rfl⟩) (List.length_map ..) (fun j hj => by rw [List.getElem?_map, List.getElem?_eq_getElem hj, List.getD_eq_getElem?_getD, List.getElem?_eq_getElem hj]; rfl)) ⟨⟨.inr rfl, .inr rfl, .inr rfl, .inr rfl, .inr rfl, .inl rfl, .inl rfl, .inl rfl, trivial⟩, by show _ = [some (O.lst (onesD (dueL (c0 ++ []))))]; rw [List.append_nil]; rfl⟩ (fun j hj => ?_) fun e' le => ?_
    · have hq : (leafs p)[j]? = some ((leafs p).getD j []) := by rw [List.getD_eq_getElem?_getD, List.getElem?_eq_getElem hj]; rfl
      have hnx : ((leafs p).take (j + 1)).flatten = ((leafs p).take j).flatten ++ (leafs p).getD j [] := flat_take hq
      have hle2 : (((leafs p).take (j + 1)).flatten).length ≤ ((leafs p).flatten).length := by
        have : (leafs p).flatten = ((leafs p).take (j + 1)).flatten ++ ((leafs p).drop (j + 1)).flatten := by
          rw [← List.flatten_append, List.take_append_drop]
        rw [this, List.length_append]
        omega
      rw [List.length_append] at hle
      rw [hnx] at hle2 ⊢
      rw [List.length_append] at hle2
      generalize ((leafs p).take j).flatten = c1 at *
      generalize (leafs p).getD j [] = s at *
      refine ag_name ?_
      refine as_forE (fun k => ⟨[.p (ScP K ns), .d (strsD ls), .d (.lst (patsD ps)), .o 0, .d (patD p), .d (.str s), .no, .no], [some (.lst (onesD (dueL (c0 ++ (c1 ++ s.take k)))))]⟩) (ai_str (n := s.length) (f := fun k => s.getD k 0) (ae_var rfl rfl) rfl (fun k hk => by rw [List.getD_eq_getElem?_getD, List.getElem?_eq_getElem hk]; rfl)) ⟨⟨.inr rfl, .inr rfl, .inr rfl, .inr rfl, .inr rfl, .inr rfl, .inl rfl, .inl rfl, trivial⟩, by show _ = [some (O.lst (onesD (dueL (c0 ++ (c1 ++ [])))))]; rw [List.append_nil]; rfl⟩ (fun k hk => ?_) fun e' le => ?_
      · have hq2 : s[k]? = some (s.getD k 0) := by rw [List.getD_eq_getElem?_getD, List.getElem?_eq_getElem hk]; rfl
        have hsn : c0 ++ (c1 ++ s.take (k + 1)) = (c0 ++ (c1 ++ s.take k)) ++ [s.getD k 0] := by
          rw [List.take_add_one, hq2, List.append_assoc, List.append_assoc]
          rfl
        have hln : (c0 ++ (c1 ++ s.take k)).length ≤ 60000 := by
          rw [List.length_append, List.length_append, List.length_take]
          omega
        rw [hsn, dueL_snoc]
        generalize c0 ++ (c1 ++ s.take k) = c2 at *
        generalize s.getD k 0 = c at *
        have hb := hbig c2
        refine ag_name ?_
        have hin : decide ([c] ∈ (dueL c2).map fun c => [c]) = decide (c ∈ dueL c2) := by
          rw [decide_eq_decide, List.mem_map]
          exact ⟨fun ⟨x, h1, h2⟩ => by rw [← (List.cons.inj h2).1]; exact h1, fun h => ⟨c, h, rfl⟩⟩
        refine as_if (b := !decide (c ∈ dueL c2)) ((at_val (ae_op (ae_var rfl rfl) (ae_var rfl rfl) (a2_inTO (neg := true) (ns := (dueL c2).map fun c => [c]) (k := 0) (by rw [← onesD_map]; rfl)))).eq (by rw [hin]; rfl)) (fun h => ?_) (fun h => ?_)
        · have h : decide (c ∈ dueL c2) = false := by simpa using h
          rw [h]
          refine as_app (k := 0) (x := .str [c]) (ae_var rfl rfl) (ae_var rfl rfl) rfl (by unfold onesD; rw [List.length_map]; omega) ⟨⟨.inr rfl, .inr rfl, .inr rfl, .inr rfl, .inr rfl, .inr rfl, .inl rfl, .inl rfl, trivial⟩, ?_⟩
          show [some (O.lst (onesD (dueL c2) ++ [D.str [c]]))] = [some (O.lst (onesD (dueL c2 ++ [c])))]
          unfold onesD
          rw [List.map_append]
          rfl
        · have h : decide (c ∈ dueL c2) = true := by simpa using h
          rw [h]
          exact as_next ⟨⟨.inr rfl, .inr rfl, .inr rfl, .inr rfl, .inr rfl, .inr rfl, .inl rfl, .inl rfl, trivial⟩, rfl⟩
      · rw [List.take_of_length_le (Nat.le_refl _)] at le
        exact le.trans ⟨⟨.inr rfl, .inr rfl, .inr rfl, .inr rfl, .inr rfl, .inl rfl, .inl rfl, .inl rfl, trivial⟩, rfl⟩
    · rw [List.take_of_length_le (Nat.le_refl _)] at le
      exact le.trans ⟨⟨.inr rfl, .inr rfl, .inr rfl, .inr rfl, .inl rfl, .inl rfl, .inl rfl, .inl rfl, trivial⟩, rfl⟩
  · rw [List.take_of_length_le (Nat.le_refl _)] at le
    refine AS.le ?_ le
    obtain ⟨nd, hmem⟩ := dueL_ok (allS ps)
    have hlt := allS_lt hp.wf
    have hsl := sgns_len (dueL (allS ps))
    refine as_seq (as_asg (ae_call (al_cons (ae_var rfl rfl) al_nil) rfl ⟨ps, rfl, hp, rfl⟩) ?_)
    refine as_seq (as_if (b := false) (at_val (ae_op (ae_var rfl rfl) (ae_call (al_cons (ae_var rfl rfl) (al_cons (ae_var rfl rfl) al_nil)) rfl ⟨ns, ls, rfl, hu, by omega, by rw [hps]⟩) (a2_neSame hp.okD))) (fun h => (by cases h)) (fun h => as_next ?_))
    refine as_ret ((ae_and2 (ae_cb (al_cons (ae_var rfl rfl) (al_cons ae_ty al_nil)) (ac_isi (d := .str (sgns (allS ps))) (n := "str") (b := true) (show kitB "str" "str" = some true by decide +kernel))) fun h => (ae_op (ae_var rfl rfl) (ae_m1 (ae_str (s := []) (by decide +kernel)) (an_cb (al_cons (ae_var rfl rfl) al_nil) (nc_sort1O rfl nd fun c hc => hlt c ((hmem c).mp hc))).ae (am_joinT ((sgns (dueL (allS ps))).map fun c => [c]) (onesD_map _) (by rw [ones_sum]; show _ + _ * 0 ≤ _; omega) ones_join)) a2_eqS)).eq ?_) ⟨rfl, rfl⟩
    rw [sgns_due, decide_eq_true rfl]
    rfl
end
end Ab
namespace Ab
open PySem PySem.Spec PyProof.Rows L2
theorem all_mk {l : PySem.W.OpenLaw} {w : World} {K : PySem.W.Frag} {h : Heap} {mg : Str → Option Value} {fa : Addr} (X : K.In h) (G : h.Ns mainGlobals mg) (hfa : mg "law" = some (.ref fa))
    {C : Addr} (a_cls : PySem.W.nsIn K mainGlobals "Leaves" = some (some (.ref C))) (x_pg : PySem.W.plainGet K C Str.empty = true) (x_hd : PySem.W.hasDictIn K C = true) (x_po : PySem.W.plainOver K C = true) (x_sa : PySem.W.findIn K (.ref C) "__setattr__" = some (some (.builtin "object.__setattr__"))) (x_mk : PySem.W.makesIn K C = true) (x_kc : PySem.W.keepIn K (.ref C) = true) (n_signs : PySem.W.findIn K (.ref C) "signs" = some none) (n_after : PySem.W.findIn K (.ref C) "after" = some none) (n_having : PySem.W.findIn K (.ref C) "having" = some none) (n_ends : PySem.W.findIn K (.ref C) "ends" = some none)
    {f_members : Addr} {od_members an_members : Option Addr} {sl_members : Array (Option Value)} {oc_members kV_members dc_members pm_members cd_members ct_members : Value}
    (a_members : PySem.W.nsIn K mainGlobals "members" = some (some (.ref f_members))) (l_members : K.lookup f_members = some ⟨oc_members, od_members, .func (PySem.W.fnOf "members" "members" (defArgs s_members) (defBody s_members) (defScope s_members) .none kV_members dc_members pm_members an_members cd_members ct_members), sl_members⟩) (c_members : PySem.W.codeIn K cd_members "members" = true) (k_members : PySem.W.keepIn K (.ref f_members) = true)
    {f_shape : Addr} {od_shape an_shape : Option Addr} {sl_shape : Array (Option Value)} {oc_shape kV_shape dc_shape pm_shape cd_shape ct_shape : Value}
    (a_shape : PySem.W.nsIn K mainGlobals "_shape" = some (some (.ref f_shape))) (l_shape : K.lookup f_shape = some ⟨oc_shape, od_shape, .func (PySem.W.fnOf "_shape" "_shape" (defArgs s_shape) (defBody s_shape) (defScope s_shape) .none kV_shape dc_shape pm_shape an_shape cd_shape ct_shape), sl_shape⟩) (c_shape : PySem.W.codeIn K cd_shape "_shape" = true) (k_shape : PySem.W.keepIn K (.ref f_shape) = true)
    {f_row_shape : Addr} {od_row_shape an_row_shape : Option Addr} {sl_row_shape : Array (Option Value)} {oc_row_shape kV_row_shape dc_row_shape pm_row_shape cd_row_shape ct_row_shape : Value}
    (a_row_shape : PySem.W.nsIn K mainGlobals "_row_shape" = some (some (.ref f_row_shape))) (l_row_shape : K.lookup f_row_shape = some ⟨oc_row_shape, od_row_shape, .func (PySem.W.fnOf "_row_shape" "_row_shape" (defArgs s_row_shape) (defBody s_row_shape) (defScope s_row_shape) .none kV_row_shape dc_row_shape pm_row_shape an_row_shape cd_row_shape ct_row_shape), sl_row_shape⟩) (c_row_shape : PySem.W.codeIn K cd_row_shape "_row_shape" = true) (k_row_shape : PySem.W.keepIn K (.ref f_row_shape) = true)
    {f_or_shape : Addr} {od_or_shape an_or_shape : Option Addr} {sl_or_shape : Array (Option Value)} {oc_or_shape kV_or_shape dc_or_shape pm_or_shape cd_or_shape ct_or_shape : Value}
    (a_or_shape : PySem.W.nsIn K mainGlobals "_or_shape" = some (some (.ref f_or_shape))) (l_or_shape : K.lookup f_or_shape = some ⟨oc_or_shape, od_or_shape, .func (PySem.W.fnOf "_or_shape" "_or_shape" (defArgs s_or_shape) (defBody s_or_shape) (defScope s_or_shape) .none kV_or_shape dc_or_shape pm_or_shape an_or_shape cd_or_shape ct_or_shape), sl_or_shape⟩) (c_or_shape : PySem.W.codeIn K cd_or_shape "_or_shape" = true) (k_or_shape : PySem.W.keepIn K (.ref f_or_shape) = true)
    {f_shapes : Addr} {od_shapes an_shapes : Option Addr} {sl_shapes : Array (Option Value)} {oc_shapes kV_shapes dc_shapes pm_shapes cd_shapes ct_shapes : Value}
    (a_shapes : PySem.W.nsIn K mainGlobals "_shapes" = some (some (.ref f_shapes))) (l_shapes : K.lookup f_shapes = some ⟨oc_shapes, od_shapes, .func (PySem.W.fnOf "_shapes" "_shapes" (defArgs s_shapes) (defBody s_shapes) (defScope s_shapes) .none kV_shapes dc_shapes pm_shapes an_shapes cd_shapes ct_shapes), sl_shapes⟩) (c_shapes : PySem.W.codeIn K cd_shapes "_shapes" = true) (k_shapes : PySem.W.keepIn K (.ref f_shapes) = true)
    {f_leaves_of : Addr} {od_leaves_of an_leaves_of : Option Addr} {sl_leaves_of : Array (Option Value)} {oc_leaves_of kV_leaves_of dc_leaves_of pm_leaves_of cd_leaves_of ct_leaves_of : Value}
    (a_leaves_of : PySem.W.nsIn K mainGlobals "leaves_of" = some (some (.ref f_leaves_of))) (l_leaves_of : K.lookup f_leaves_of = some ⟨oc_leaves_of, od_leaves_of, .func (PySem.W.fnOf "leaves_of" "leaves_of" (defArgs s_leaves_of) (defBody s_leaves_of) (defScope s_leaves_of) .none kV_leaves_of dc_leaves_of pm_leaves_of an_leaves_of cd_leaves_of ct_leaves_of), sl_leaves_of⟩) (c_leaves_of : PySem.W.codeIn K cd_leaves_of "leaves_of" = true) (k_leaves_of : PySem.W.keepIn K (.ref f_leaves_of) = true)
    {f_signs_of : Addr} {od_signs_of an_signs_of : Option Addr} {sl_signs_of : Array (Option Value)} {oc_signs_of kV_signs_of dc_signs_of pm_signs_of cd_signs_of ct_signs_of : Value}
    (a_signs_of : PySem.W.nsIn K mainGlobals "signs_of" = some (some (.ref f_signs_of))) (l_signs_of : K.lookup f_signs_of = some ⟨oc_signs_of, od_signs_of, .func (PySem.W.fnOf "signs_of" "signs_of" (defArgs s_signs_of) (defBody s_signs_of) (defScope s_signs_of) .none kV_signs_of dc_signs_of pm_signs_of an_signs_of cd_signs_of ct_signs_of), sl_signs_of⟩) (c_signs_of : PySem.W.codeIn K cd_signs_of "signs_of" = true) (k_signs_of : PySem.W.keepIn K (.ref f_signs_of) = true)
    {f_law_cell_at : Addr} {od_law_cell_at an_law_cell_at : Option Addr} {sl_law_cell_at : Array (Option Value)} {oc_law_cell_at kV_law_cell_at dc_law_cell_at pm_law_cell_at cd_law_cell_at ct_law_cell_at : Value}
    (a_law_cell_at : PySem.W.nsIn K mainGlobals "_law_cell_at" = some (some (.ref f_law_cell_at))) (l_law_cell_at : K.lookup f_law_cell_at = some ⟨oc_law_cell_at, od_law_cell_at, .func (PySem.W.fnOf "_law_cell_at" "_law_cell_at" (defArgs s_law_cell_at) (defBody s_law_cell_at) (defScope s_law_cell_at) .none kV_law_cell_at dc_law_cell_at pm_law_cell_at an_law_cell_at cd_law_cell_at ct_law_cell_at), sl_law_cell_at⟩) (c_law_cell_at : PySem.W.codeIn K cd_law_cell_at "_law_cell_at" = true) (k_law_cell_at : PySem.W.keepIn K (.ref f_law_cell_at) = true)
    {f_law_sign_by : Addr} {od_law_sign_by an_law_sign_by : Option Addr} {sl_law_sign_by : Array (Option Value)} {oc_law_sign_by kV_law_sign_by dc_law_sign_by pm_law_sign_by cd_law_sign_by ct_law_sign_by : Value}
    (a_law_sign_by : PySem.W.nsIn K mainGlobals "_law_sign_by" = some (some (.ref f_law_sign_by))) (l_law_sign_by : K.lookup f_law_sign_by = some ⟨oc_law_sign_by, od_law_sign_by, .func (PySem.W.fnOf "_law_sign_by" "_law_sign_by" (defArgs s_law_sign_by) (defBody s_law_sign_by) (defScope s_law_sign_by) .none kV_law_sign_by dc_law_sign_by pm_law_sign_by an_law_sign_by cd_law_sign_by ct_law_sign_by), sl_law_sign_by⟩) (c_law_sign_by : PySem.W.codeIn K cd_law_sign_by "_law_sign_by" = true) (k_law_sign_by : PySem.W.keepIn K (.ref f_law_sign_by) = true)
    {f_law_letters : Addr} {od_law_letters an_law_letters : Option Addr} {sl_law_letters : Array (Option Value)} {oc_law_letters kV_law_letters dc_law_letters pm_law_letters cd_law_letters ct_law_letters : Value}
    (a_law_letters : PySem.W.nsIn K mainGlobals "_law_letters" = some (some (.ref f_law_letters))) (l_law_letters : K.lookup f_law_letters = some ⟨oc_law_letters, od_law_letters, .func (PySem.W.fnOf "_law_letters" "_law_letters" (defArgs s_law_letters) (defBody s_law_letters) (defScope s_law_letters) .none kV_law_letters dc_law_letters pm_law_letters an_law_letters cd_law_letters ct_law_letters), sl_law_letters⟩) (c_law_letters : PySem.W.codeIn K cd_law_letters "_law_letters" = true) (k_law_letters : PySem.W.keepIn K (.ref f_law_letters) = true)
    {f_law_some_of : Addr} {od_law_some_of an_law_some_of : Option Addr} {sl_law_some_of : Array (Option Value)} {oc_law_some_of kV_law_some_of dc_law_some_of pm_law_some_of cd_law_some_of ct_law_some_of : Value}
    (a_law_some_of : PySem.W.nsIn K mainGlobals "_law_some_of" = some (some (.ref f_law_some_of))) (l_law_some_of : K.lookup f_law_some_of = some ⟨oc_law_some_of, od_law_some_of, .func (PySem.W.fnOf "_law_some_of" "_law_some_of" (defArgs s_law_some_of) (defBody s_law_some_of) (defScope s_law_some_of) .none kV_law_some_of dc_law_some_of pm_law_some_of an_law_some_of cd_law_some_of ct_law_some_of), sl_law_some_of⟩) (c_law_some_of : PySem.W.codeIn K cd_law_some_of "_law_some_of" = true) (k_law_some_of : PySem.W.keepIn K (.ref f_law_some_of) = true)
    {f_law_text_by : Addr} {od_law_text_by an_law_text_by : Option Addr} {sl_law_text_by : Array (Option Value)} {oc_law_text_by kV_law_text_by dc_law_text_by pm_law_text_by cd_law_text_by ct_law_text_by : Value}
    (a_law_text_by : PySem.W.nsIn K mainGlobals "_law_text_by" = some (some (.ref f_law_text_by))) (l_law_text_by : K.lookup f_law_text_by = some ⟨oc_law_text_by, od_law_text_by, .func (PySem.W.fnOf "_law_text_by" "_law_text_by" (defArgs s_law_text_by) (defBody s_law_text_by) (defScope s_law_text_by) .none kV_law_text_by dc_law_text_by pm_law_text_by an_law_text_by cd_law_text_by ct_law_text_by), sl_law_text_by⟩) (c_law_text_by : PySem.W.codeIn K cd_law_text_by "_law_text_by" = true) (k_law_text_by : PySem.W.keepIn K (.ref f_law_text_by) = true)
    {f_law_grown : Addr} {od_law_grown an_law_grown : Option Addr} {sl_law_grown : Array (Option Value)} {oc_law_grown kV_law_grown dc_law_grown pm_law_grown cd_law_grown ct_law_grown : Value}
    (a_law_grown : PySem.W.nsIn K mainGlobals "_law_grown" = some (some (.ref f_law_grown))) (l_law_grown : K.lookup f_law_grown = some ⟨oc_law_grown, od_law_grown, .func (PySem.W.fnOf "_law_grown" "_law_grown" (defArgs s_law_grown) (defBody s_law_grown) (defScope s_law_grown) .none kV_law_grown dc_law_grown pm_law_grown an_law_grown cd_law_grown ct_law_grown), sl_law_grown⟩) (c_law_grown : PySem.W.codeIn K cd_law_grown "_law_grown" = true) (k_law_grown : PySem.W.keepIn K (.ref f_law_grown) = true)
    {f_law_wide : Addr} {od_law_wide an_law_wide : Option Addr} {sl_law_wide : Array (Option Value)} {oc_law_wide kV_law_wide dc_law_wide pm_law_wide cd_law_wide ct_law_wide : Value}
    (a_law_wide : PySem.W.nsIn K mainGlobals "_law_wide" = some (some (.ref f_law_wide))) (l_law_wide : K.lookup f_law_wide = some ⟨oc_law_wide, od_law_wide, .func (PySem.W.fnOf "_law_wide" "_law_wide" (defArgs s_law_wide) (defBody s_law_wide) (defScope s_law_wide) .none kV_law_wide dc_law_wide pm_law_wide an_law_wide cd_law_wide ct_law_wide), sl_law_wide⟩) (c_law_wide : PySem.W.codeIn K cd_law_wide "_law_wide" = true) (k_law_wide : PySem.W.keepIn K (.ref f_law_wide) = true)
    {f_law_words : Addr} {od_law_words an_law_words : Option Addr} {sl_law_words : Array (Option Value)} {oc_law_words kV_law_words dc_law_words pm_law_words cd_law_words ct_law_words : Value}
    (a_law_words : PySem.W.nsIn K mainGlobals "_law_words" = some (some (.ref f_law_words))) (l_law_words : K.lookup f_law_words = some ⟨oc_law_words, od_law_words, .func (PySem.W.fnOf "_law_words" "_law_words" (defArgs s_law_words) (defBody s_law_words) (defScope s_law_words) .none kV_law_words dc_law_words pm_law_words an_law_words cd_law_words ct_law_words), sl_law_words⟩) (c_law_words : PySem.W.codeIn K cd_law_words "_law_words" = true) (k_law_words : PySem.W.keepIn K (.ref f_law_words) = true)
    {f_law_loops : Addr} {od_law_loops an_law_loops : Option Addr} {sl_law_loops : Array (Option Value)} {oc_law_loops kV_law_loops dc_law_loops pm_law_loops cd_law_loops ct_law_loops : Value}
    (a_law_loops : PySem.W.nsIn K mainGlobals "_law_loops" = some (some (.ref f_law_loops))) (l_law_loops : K.lookup f_law_loops = some ⟨oc_law_loops, od_law_loops, .func (PySem.W.fnOf "_law_loops" "_law_loops" (defArgs s_law_loops) (defBody s_law_loops) (defScope s_law_loops) .none kV_law_loops dc_law_loops pm_law_loops an_law_loops cd_law_loops ct_law_loops), sl_law_loops⟩) (c_law_loops : PySem.W.codeIn K cd_law_loops "_law_loops" = true) (k_law_loops : PySem.W.keepIn K (.ref f_law_loops) = true)
    {f_law_long : Addr} {od_law_long an_law_long : Option Addr} {sl_law_long : Array (Option Value)} {oc_law_long kV_law_long dc_law_long pm_law_long cd_law_long ct_law_long : Value}
    (a_law_long : PySem.W.nsIn K mainGlobals "_law_long" = some (some (.ref f_law_long))) (l_law_long : K.lookup f_law_long = some ⟨oc_law_long, od_law_long, .func (PySem.W.fnOf "_law_long" "_law_long" (defArgs s_law_long) (defBody s_law_long) (defScope s_law_long) .none kV_law_long dc_law_long pm_law_long an_law_long cd_law_long ct_law_long), sl_law_long⟩) (c_law_long : PySem.W.codeIn K cd_law_long "_law_long" = true) (k_law_long : PySem.W.keepIn K (.ref f_law_long) = true)
    {f_law_patterns : Addr} {od_law_patterns an_law_patterns : Option Addr} {sl_law_patterns : Array (Option Value)} {oc_law_patterns kV_law_patterns dc_law_patterns pm_law_patterns cd_law_patterns ct_law_patterns : Value}
    (a_law_patterns : PySem.W.nsIn K mainGlobals "_law_patterns" = some (some (.ref f_law_patterns))) (l_law_patterns : K.lookup f_law_patterns = some ⟨oc_law_patterns, od_law_patterns, .func (PySem.W.fnOf "_law_patterns" "_law_patterns" (defArgs s_law_patterns) (defBody s_law_patterns) (defScope s_law_patterns) .none kV_law_patterns dc_law_patterns pm_law_patterns an_law_patterns cd_law_patterns ct_law_patterns), sl_law_patterns⟩) (c_law_patterns : PySem.W.codeIn K cd_law_patterns "_law_patterns" = true) (k_law_patterns : PySem.W.keepIn K (.ref f_law_patterns) = true)
    {f_law_leaves : Addr} {od_law_leaves an_law_leaves : Option Addr} {sl_law_leaves : Array (Option Value)} {oc_law_leaves kV_law_leaves dc_law_leaves pm_law_leaves cd_law_leaves ct_law_leaves : Value}
    (a_law_leaves : PySem.W.nsIn K mainGlobals "_law_leaves" = some (some (.ref f_law_leaves))) (l_law_leaves : K.lookup f_law_leaves = some ⟨oc_law_leaves, od_law_leaves, .func (PySem.W.fnOf "_law_leaves" "_law_leaves" (defArgs s_law_leaves) (defBody s_law_leaves) (defScope s_law_leaves) .none kV_law_leaves dc_law_leaves pm_law_leaves an_law_leaves cd_law_leaves ct_law_leaves), sl_law_leaves⟩) (c_law_leaves : PySem.W.codeIn K cd_law_leaves "_law_leaves" = true) (k_law_leaves : PySem.W.keepIn K (.ref f_law_leaves) = true)
    {f_law : Addr} {od_law an_law : Option Addr} {sl_law : Array (Option Value)} {oc_law kV_law dc_law pm_law cd_law ct_law : Value}
    (a_law : PySem.W.nsIn K mainGlobals "law" = some (some (.ref f_law))) (l_law : K.lookup f_law = some ⟨oc_law, od_law, .func (PySem.W.fnOf "law" "law" (defArgs s_law) (defBody s_law) (defScope s_law) .none kV_law dc_law pm_law an_law cd_law ct_law), sl_law⟩) (c_law : PySem.W.codeIn K cd_law "law" = true) (k_law : PySem.W.keepIn K (.ref f_law) = true)
    {f_Leaves_init : Addr} {od_Leaves_init an_Leaves_init : Option Addr} {sl_Leaves_init : Array (Option Value)} {oc_Leaves_init kV_Leaves_init dc_Leaves_init pm_Leaves_init cd_Leaves_init ct_Leaves_init : Value}
    (a_Leaves_init : PySem.W.findIn K (.ref C) "__init__" = some (some (.ref f_Leaves_init))) (i_Leaves_init : PySem.W.isFn K (.ref f_Leaves_init) = true) (l_Leaves_init : K.lookup f_Leaves_init = some ⟨oc_Leaves_init, od_Leaves_init, .func (PySem.W.fnOf "__init__" "Leaves.__init__" (defArgs s_Leaves_init) (defBody s_Leaves_init) (defScope s_Leaves_init) .none kV_Leaves_init dc_Leaves_init pm_Leaves_init an_Leaves_init cd_Leaves_init ct_Leaves_init), sl_Leaves_init⟩) (c_Leaves_init : PySem.W.codeIn K cd_Leaves_init "Leaves.__init__" = true) (k_Leaves_init : PySem.W.keepIn K (.ref f_Leaves_init) = true)
    {f_Leaves_new_leaf : Addr} {od_Leaves_new_leaf an_Leaves_new_leaf : Option Addr} {sl_Leaves_new_leaf : Array (Option Value)} {oc_Leaves_new_leaf kV_Leaves_new_leaf dc_Leaves_new_leaf pm_Leaves_new_leaf cd_Leaves_new_leaf ct_Leaves_new_leaf : Value}
    (a_Leaves_new_leaf : PySem.W.findIn K (.ref C) "new_leaf" = some (some (.ref f_Leaves_new_leaf))) (i_Leaves_new_leaf : PySem.W.isFn K (.ref f_Leaves_new_leaf) = true) (l_Leaves_new_leaf : K.lookup f_Leaves_new_leaf = some ⟨oc_Leaves_new_leaf, od_Leaves_new_leaf, .func (PySem.W.fnOf "new_leaf" "Leaves.new_leaf" (defArgs s_Leaves_new_leaf) (defBody s_Leaves_new_leaf) (defScope s_Leaves_new_leaf) .none kV_Leaves_new_leaf dc_Leaves_new_leaf pm_Leaves_new_leaf an_Leaves_new_leaf cd_Leaves_new_leaf ct_Leaves_new_leaf), sl_Leaves_new_leaf⟩) (c_Leaves_new_leaf : PySem.W.codeIn K cd_Leaves_new_leaf "Leaves.new_leaf" = true) (k_Leaves_new_leaf : PySem.W.keepIn K (.ref f_Leaves_new_leaf) = true)
    {f_Leaves_link : Addr} {od_Leaves_link an_Leaves_link : Option Addr} {sl_Leaves_link : Array (Option Value)} {oc_Leaves_link kV_Leaves_link dc_Leaves_link pm_Leaves_link cd_Leaves_link ct_Leaves_link : Value}
    (a_Leaves_link : PySem.W.findIn K (.ref C) "link" = some (some (.ref f_Leaves_link))) (i_Leaves_link : PySem.W.isFn K (.ref f_Leaves_link) = true) (l_Leaves_link : K.lookup f_Leaves_link = some ⟨oc_Leaves_link, od_Leaves_link, .func (PySem.W.fnOf "link" "Leaves.link" (defArgs s_Leaves_link) (defBody s_Leaves_link) (defScope s_Leaves_link) .none kV_Leaves_link dc_Leaves_link pm_Leaves_link an_Leaves_link cd_Leaves_link ct_Leaves_link), sl_Leaves_link⟩) (c_Leaves_link : PySem.W.codeIn K cd_Leaves_link "Leaves.link" = true) (k_Leaves_link : PySem.W.keepIn K (.ref f_Leaves_link) = true)
    {f_Leaves_all_signs : Addr} {od_Leaves_all_signs an_Leaves_all_signs : Option Addr} {sl_Leaves_all_signs : Array (Option Value)} {oc_Leaves_all_signs kV_Leaves_all_signs dc_Leaves_all_signs pm_Leaves_all_signs cd_Leaves_all_signs ct_Leaves_all_signs : Value}
    (a_Leaves_all_signs : PySem.W.findIn K (.ref C) "all_signs" = some (some (.ref f_Leaves_all_signs))) (i_Leaves_all_signs : PySem.W.isFn K (.ref f_Leaves_all_signs) = true) (l_Leaves_all_signs : K.lookup f_Leaves_all_signs = some ⟨oc_Leaves_all_signs, od_Leaves_all_signs, .func (PySem.W.fnOf "all_signs" "Leaves.all_signs" (defArgs s_Leaves_all_signs) (defBody s_Leaves_all_signs) (defScope s_Leaves_all_signs) .none kV_Leaves_all_signs dc_Leaves_all_signs pm_Leaves_all_signs an_Leaves_all_signs cd_Leaves_all_signs ct_Leaves_all_signs), sl_Leaves_all_signs⟩) (c_Leaves_all_signs : PySem.W.codeIn K cd_Leaves_all_signs "Leaves.all_signs" = true) (k_Leaves_all_signs : PySem.W.keepIn K (.ref f_Leaves_all_signs) = true)
    {t_MOST_LEAVES : Tok} (b_MOST_LEAVES : PySem.W.nsIn K mainGlobals "MOST_LEAVES" = some (some (.int 60 t_MOST_LEAVES)))    {t_BEGINNING : Tok} (b_BEGINNING : PySem.W.nsIn K mainGlobals "BEGINNING" = some (some (.int 1 t_BEGINNING)))    {t_MOST_PATTERNS : Tok} (b_MOST_PATTERNS : PySem.W.nsIn K mainGlobals "MOST_PATTERNS" = some (some (.int 8 t_MOST_PATTERNS)))    {a_BARE : Addr} {u_BARE v_BARE : Tok} {od_BARE : Option Addr} {nn_BARE : _} {sl_BARE : Array (Option Value)} (b_BARE : PySem.W.nsIn K mainGlobals "BARE" = some (some (.ref a_BARE))) (l_BARE : K.lookup a_BARE = some ⟨.type "tuple", od_BARE, .seq #[.bool true, .int 0 u_BARE, .int 0 v_BARE] nn_BARE, sl_BARE⟩)
    (z_len : PySem.W.nsIn K mainGlobals "len" = some none) (z_set : PySem.W.nsIn K mainGlobals "set" = some none) (z_sorted : PySem.W.nsIn K mainGlobals "sorted" = some none) (z_range : PySem.W.nsIn K mainGlobals "range" = some none) (z_min : PySem.W.nsIn K mainGlobals "min" = some none) (z_list : PySem.W.nsIn K mainGlobals "list" = some none) (z_int : PySem.W.nsIn K mainGlobals "int" = some none) (z_isinstance : PySem.W.nsIn K mainGlobals "isinstance" = some none) (z_str : PySem.W.nsIn K mainGlobals "str" = some none)
    : ∃ fd : FuncData, (∀ (s : Shared) (v : Value), BindsTo s fd ⟨[v], []⟩ [("_law_script", v)]) ∧ ∀ base : Heap, K.In base → base.Ns mainGlobals mg → FnOk l.prog w K mg base CX0 98 fa fd ["_law_script"] (spLaw K) := by
  have e := hfa.symm.trans (PySem.W.mg_of X G a_law)
  cases e
  have m_len := PySem.W.mg_none_of X G z_len
  have m_set := PySem.W.mg_none_of X G z_set
  have m_sorted := PySem.W.mg_none_of X G z_sorted
  have m_range := PySem.W.mg_none_of X G z_range
  have m_min := PySem.W.mg_none_of X G z_min
  have m_list := PySem.W.mg_none_of X G z_list
  have m_int := PySem.W.mg_none_of X G z_int
  have m_isinstance := PySem.W.mg_none_of X G z_isinstance
  have m_str := PySem.W.mg_none_of X G z_str
  have g_MOST_LEAVES := PySem.W.mg_of X G b_MOST_LEAVES
  have g_BEGINNING := PySem.W.mg_of X G b_BEGINNING
  have g_MOST_PATTERNS := PySem.W.mg_of X G b_MOST_PATTERNS
  have g_BARE := PySem.W.mg_of X G b_BARE
  have q_BARE : ∀ H, SqT K H a_BARE [.bl true, .int 0, .int 0] := fun H => .inr ⟨_, _, _, l_BARE, rfl, rfl, by show 3 ≤ sizeLine; decide, .cons rfl (.cons ⟨_, rfl⟩ (.cons ⟨_, rfl⟩ .nil))⟩
  have c_Leaves : LvC K mg C := ⟨⟨x_pg, x_hd, x_po, x_sa⟩, ⟨x_mk, x_kc⟩, PySem.W.mg_of X G a_cls, n_signs, n_after, n_having, n_ends⟩
  have D_members : DefAt K mg "members" s_members ["some"] := mk_def l_members c_members k_members (PySem.W.mg_of X G a_members) fun _ _ _ _ _ _ us hl => match us, hl with | [_], _ => rfl
  have D_shape : DefAt K mg "_shape" s_shape ["leaves", "pattern"] := mk_def l_shape c_shape k_shape (PySem.W.mg_of X G a_shape) fun _ _ _ _ _ _ us hl => match us, hl with | [_, _], _ => rfl
  have D_row_shape : DefAt K mg "_row_shape" s_row_shape ["leaves", "parts"] := mk_def l_row_shape c_row_shape k_row_shape (PySem.W.mg_of X G a_row_shape) fun _ _ _ _ _ _ us hl => match us, hl with | [_, _], _ => rfl
  have D_or_shape : DefAt K mg "_or_shape" s_or_shape ["leaves", "parts"] := mk_def l_or_shape c_or_shape k_or_shape (PySem.W.mg_of X G a_or_shape) fun _ _ _ _ _ _ us hl => match us, hl with | [_, _], _ => rfl
  have D_shapes : DefAt K mg "_shapes" s_shapes ["leaves", "parts"] := mk_def l_shapes c_shapes k_shapes (PySem.W.mg_of X G a_shapes) fun _ _ _ _ _ _ us hl => match us, hl with | [_, _], _ => rfl
  have D_leaves_of : DefAt K mg "leaves_of" s_leaves_of ["patterns"] := mk_def l_leaves_of c_leaves_of k_leaves_of (PySem.W.mg_of X G a_leaves_of) fun _ _ _ _ _ _ us hl => match us, hl with | [_], _ => rfl
  have D_signs_of : DefAt K mg "signs_of" s_signs_of ["patterns"] := mk_def l_signs_of c_signs_of k_signs_of (PySem.W.mg_of X G a_signs_of) fun _ _ _ _ _ _ us hl => match us, hl with | [_], _ => rfl
  have D_law_cell_at : DefAt K mg "_law_cell_at" s_law_cell_at ["_law_script", "_law_k"] := mk_def l_law_cell_at c_law_cell_at k_law_cell_at (PySem.W.mg_of X G a_law_cell_at) fun _ _ _ _ _ _ us hl => match us, hl with | [_, _], _ => rfl
  have D_law_sign_by : DefAt K mg "_law_sign_by" s_law_sign_by ["_law_cell"] := mk_def l_law_sign_by c_law_sign_by k_law_sign_by (PySem.W.mg_of X G a_law_sign_by) fun _ _ _ _ _ _ us hl => match us, hl with | [_], _ => rfl
  have D_law_letters : DefAt K mg "_law_letters" s_law_letters ["_law_cell"] := mk_def l_law_letters c_law_letters k_law_letters (PySem.W.mg_of X G a_law_letters) fun _ _ _ _ _ _ us hl => match us, hl with | [_], _ => rfl
  have D_law_some_of : DefAt K mg "_law_some_of" s_law_some_of ["_law_letters_here", "_law_mask"] := mk_def l_law_some_of c_law_some_of k_law_some_of (PySem.W.mg_of X G a_law_some_of) fun _ _ _ _ _ _ us hl => match us, hl with | [_, _], _ => rfl
  have D_law_text_by : DefAt K mg "_law_text_by" s_law_text_by ["_law_cell", "_law_size", "_law_letters_here"] := mk_def l_law_text_by c_law_text_by k_law_text_by (PySem.W.mg_of X G a_law_text_by) fun _ _ _ _ _ _ us hl => match us, hl with | [_, _, _], _ => rfl
  have D_law_grown : DefAt K mg "_law_grown" s_law_grown ["_law_held", "_law_cell", "_law_letters_here", "_law_room"] := mk_def l_law_grown c_law_grown k_law_grown (PySem.W.mg_of X G a_law_grown) fun _ _ _ _ _ _ us hl => match us, hl with | [_, _, _, _], _ => rfl
  have D_law_wide : DefAt K mg "_law_wide" s_law_wide ["_law_cell"] := mk_def l_law_wide c_law_wide k_law_wide (PySem.W.mg_of X G a_law_wide) fun _ _ _ _ _ _ us hl => match us, hl with | [_], _ => rfl
  have D_law_words : DefAt K mg "_law_words" s_law_words ["_law_script"] := mk_def l_law_words c_law_words k_law_words (PySem.W.mg_of X G a_law_words) fun _ _ _ _ _ _ us hl => match us, hl with | [_], _ => rfl
  have D_law_loops : DefAt K mg "_law_loops" s_law_loops ["_law_script", "_law_letters_here"] := mk_def l_law_loops c_law_loops k_law_loops (PySem.W.mg_of X G a_law_loops) fun _ _ _ _ _ _ us hl => match us, hl with | [_, _], _ => rfl
  have D_law_long : DefAt K mg "_law_long" s_law_long ["_law_script", "_law_letters_here"] := mk_def l_law_long c_law_long k_law_long (PySem.W.mg_of X G a_law_long) fun _ _ _ _ _ _ us hl => match us, hl with | [_, _], _ => rfl
  have D_law_patterns : DefAt K mg "_law_patterns" s_law_patterns ["_law_script", "_law_letters_here"] := mk_def l_law_patterns c_law_patterns k_law_patterns (PySem.W.mg_of X G a_law_patterns) fun _ _ _ _ _ _ us hl => match us, hl with | [_, _], _ => rfl
  have D_law_leaves : DefAt K mg "_law_leaves" s_law_leaves ["_law_pattern"] := mk_def l_law_leaves c_law_leaves k_law_leaves (PySem.W.mg_of X G a_law_leaves) fun _ _ _ _ _ _ us hl => match us, hl with | [_], _ => rfl
  have D_Leaves_init : MethAt K C "__init__" "Leaves.__init__" s_Leaves_init ["self"] := mk_meth a_Leaves_init i_Leaves_init l_Leaves_init c_Leaves_init k_Leaves_init fun _ _ _ _ _ _ us hl => match us, hl with | [_], _ => rfl
  have D_Leaves_new_leaf : MethAt K C "new_leaf" "Leaves.new_leaf" s_Leaves_new_leaf ["self", "signs"] := mk_meth a_Leaves_new_leaf i_Leaves_new_leaf l_Leaves_new_leaf c_Leaves_new_leaf k_Leaves_new_leaf fun _ _ _ _ _ _ us hl => match us, hl with | [_, _], _ => rfl
  have D_Leaves_link : MethAt K C "link" "Leaves.link" s_Leaves_link ["self", "lasts", "firsts"] := mk_meth a_Leaves_link i_Leaves_link l_Leaves_link c_Leaves_link k_Leaves_link fun _ _ _ _ _ _ us hl => match us, hl with | [_, _, _], _ => rfl
  have D_Leaves_all_signs : MethAt K C "all_signs" "Leaves.all_signs" s_Leaves_all_signs ["self"] := mk_meth a_Leaves_all_signs i_Leaves_all_signs l_Leaves_all_signs c_Leaves_all_signs k_Leaves_all_signs fun _ _ _ _ _ _ us hl => match us, hl with | [_], _ => rfl
  refine ⟨PySem.W.fnOf "law" "law" (defArgs s_law) (defBody s_law) (defScope s_law) .none kV_law dc_law pm_law an_law cd_law ct_law, fun s v => .of_eq rfl, fun base _ _ => ?_⟩
  have H_Leaves_init := ok_Leaves_init (P := l.prog) (w := w) (base := base) D_Leaves_init c_Leaves
  have H_Leaves_new_leaf := ok_Leaves_new_leaf (P := l.prog) (w := w) (base := base) D_Leaves_new_leaf c_Leaves g_MOST_LEAVES m_len m_set
  have H_members := ok_members (P := l.prog) (w := w) (base := base) D_members
  have H_Leaves_link := ok_Leaves_link (P := l.prog) (w := w) (base := base) D_Leaves_link c_Leaves H_members
  have H_Leaves_all_signs := ok_Leaves_all_signs (P := l.prog) (w := w) (base := base) D_Leaves_all_signs c_Leaves m_sorted m_set
  have H_shape := ok_shape (P := l.prog) (w := w) (base := base) D_shape D_row_shape D_or_shape D_shapes c_Leaves H_Leaves_new_leaf H_Leaves_link g_BARE q_BARE m_len
  have H_leaves_of := ok_leaves_of (P := l.prog) (w := w) (base := base) D_leaves_of c_Leaves H_shape H_Leaves_init H_Leaves_link g_BEGINNING g_MOST_PATTERNS m_len
  have H_signs_of := ok_signs_of (P := l.prog) (w := w) (base := base) D_signs_of c_Leaves H_leaves_of H_Leaves_all_signs
  have H_law_cell_at := ok_law_cell_at (P := l.prog) (w := w) (base := base) D_law_cell_at m_len
  have H_law_sign_by := ok_law_sign_by (P := l.prog) (w := w) (base := base) D_law_sign_by
  have H_law_letters := ok_law_letters (P := l.prog) (w := w) (base := base) D_law_letters H_law_sign_by m_range
  have H_law_some_of := ok_law_some_of (P := l.prog) (w := w) (base := base) D_law_some_of m_range
  have H_law_text_by := ok_law_text_by (P := l.prog) (w := w) (base := base) D_law_text_by m_range m_len
  have H_law_grown := ok_law_grown (P := l.prog) (w := w) (base := base) D_law_grown H_law_some_of m_len
  have H_law_wide := ok_law_wide (P := l.prog) (w := w) (base := base) D_law_wide H_law_sign_by m_range
  have H_law_words := ok_law_words (P := l.prog) (w := w) (base := base) D_law_words H_law_wide H_law_cell_at H_law_text_by m_min m_range
  have H_law_loops := ok_law_loops (P := l.prog) (w := w) (base := base) D_law_loops H_law_cell_at H_law_text_by H_law_grown m_list m_range m_int
  have H_law_long := ok_law_long (P := l.prog) (w := w) (base := base) D_law_long H_law_cell_at H_law_some_of m_range m_int
  have H_law_patterns := ok_law_patterns (P := l.prog) (w := w) (base := base) D_law_patterns H_law_cell_at H_law_words H_law_loops H_law_long H_law_grown m_range
  have H_law_leaves := ok_law_leaves (P := l.prog) (w := w) (base := base) D_law_leaves
  exact ok_law (fun_mk l_law c_law k_law) H_law_letters H_law_cell_at H_law_patterns H_law_leaves H_signs_of m_isinstance m_str m_sorted
end Ab
open PySem PySem.W PyProof.Rows
set_option maxHeartbeats 0 in
theorem PySem.Challenge.cw_rulescan_k01_signs_holds : PySem.Challenge.rw_rulescan_k01_signs.Holds := by
  w_on; o_law; k_head; (case hw => w_witness2)
  k_fill
  refine L2.walk_of (l := PySem.Challenge.rw_rulescan_k01_signs) (n := 63) (k := 98) (x := "_law_script") (CX := fun _ => L2.CX0) (sp := fun w => Ab.spLaw _) rfl (by decide) rfl ⟨rfl, by decide, by decide⟩ (fun w h Y => PySem.W.kIn_of Y) ?F (fun _ _ a ns hl _ hS => ⟨a, ns, rfl, hS, hl, fun _ => rfl⟩) (fun _ _ _ _ _ h => h)
  case F =>
    intro w mg fa h KX G hmg
    refine' Ab.all_mk KX G hmg ?a_cls ?x_pg ?x_hd ?x_po ?x_sa ?x_mk ?x_kc ?n_signs ?n_after ?n_having ?n_ends ?a_members ?l_members ?c_members ?k_members ?a_shape ?l_shape ?c_shape ?k_shape ?a_row_shape ?l_row_shape ?c_row_shape ?k_row_shape ?a_or_shape ?l_or_shape ?c_or_shape ?k_or_shape ?a_shapes ?l_shapes ?c_shapes ?k_shapes ?a_leaves_of ?l_leaves_of ?c_leaves_of ?k_leaves_of ?a_signs_of ?l_signs_of ?c_signs_of ?k_signs_of ?a_law_cell_at ?l_law_cell_at ?c_law_cell_at ?k_law_cell_at ?a_law_sign_by ?l_law_sign_by ?c_law_sign_by ?k_law_sign_by ?a_law_letters ?l_law_letters ?c_law_letters ?k_law_letters ?a_law_some_of ?l_law_some_of ?c_law_some_of ?k_law_some_of ?a_law_text_by ?l_law_text_by ?c_law_text_by ?k_law_text_by ?a_law_grown ?l_law_grown ?c_law_grown ?k_law_grown ?a_law_wide ?l_law_wide ?c_law_wide ?k_law_wide ?a_law_words ?l_law_words ?c_law_words ?k_law_words ?a_law_loops ?l_law_loops ?c_law_loops ?k_law_loops ?a_law_long ?l_law_long ?c_law_long ?k_law_long ?a_law_patterns ?l_law_patterns ?c_law_patterns ?k_law_patterns ?a_law_leaves ?l_law_leaves ?c_law_leaves ?k_law_leaves ?a_law ?l_law ?c_law ?k_law ?a_Leaves_init ?i_Leaves_init ?l_Leaves_init ?c_Leaves_init ?k_Leaves_init ?a_Leaves_new_leaf ?i_Leaves_new_leaf ?l_Leaves_new_leaf ?c_Leaves_new_leaf ?k_Leaves_new_leaf ?a_Leaves_link ?i_Leaves_link ?l_Leaves_link ?c_Leaves_link ?k_Leaves_link ?a_Leaves_all_signs ?i_Leaves_all_signs ?l_Leaves_all_signs ?c_Leaves_all_signs ?k_Leaves_all_signs ?b_MOST_LEAVES ?b_BEGINNING ?b_MOST_PATTERNS ?b_BARE ?l_BARE ?z_len ?z_set ?z_sorted ?z_range ?z_min ?z_list ?z_int ?z_isinstance ?z_str
    (case a_cls => k_is); (case x_pg => k_is); (case x_hd => k_is); (case x_po => k_is); (case x_sa => k_is); (case x_mk => k_is); (case x_kc => k_is); (case n_signs => k_is); (case n_after => k_is); (case n_having => k_is); (case n_ends => k_is); (case a_members => k_is); (case l_members => k_is); (case c_members => k_is); (case k_members => k_is); (case a_shape => k_is); (case l_shape => k_is); (case c_shape => k_is); (case k_shape => k_is); (case a_row_shape => k_is); (case l_row_shape => k_is); (case c_row_shape => k_is); (case k_row_shape => k_is); (case a_or_shape => k_is); (case l_or_shape => k_is); (case c_or_shape => k_is); (case k_or_shape => k_is); (case a_shapes => k_is); (case l_shapes => k_is); (case c_shapes => k_is); (case k_shapes => k_is); (case a_leaves_of => k_is); (case l_leaves_of => k_is); (case c_leaves_of => k_is); (case k_leaves_of => k_is); (case a_signs_of => k_is); (case l_signs_of => k_is); (case c_signs_of => k_is); (case k_signs_of => k_is); (case a_law_cell_at => k_is); (case l_law_cell_at => k_is); (case c_law_cell_at => k_is); (case k_law_cell_at => k_is); (case a_law_sign_by => k_is); (case l_law_sign_by => k_is); (case c_law_sign_by => k_is); (case k_law_sign_by => k_is); (case a_law_letters => k_is); (case l_law_letters => k_is); (case c_law_letters => k_is); (case k_law_letters => k_is); (case a_law_some_of => k_is); (case l_law_some_of => k_is); (case c_law_some_of => k_is); (case k_law_some_of => k_is); (case a_law_text_by => k_is); (case l_law_text_by => k_is); (case c_law_text_by => k_is); (case k_law_text_by => k_is); (case a_law_grown => k_is); (case l_law_grown => k_is); (case c_law_grown => k_is); (case k_law_grown => k_is); (case a_law_wide => k_is); (case l_law_wide => k_is); (case c_law_wide => k_is); (case k_law_wide => k_is); (case a_law_words => k_is); (case l_law_words => k_is); (case c_law_words => k_is); (case k_law_words => k_is); (case a_law_loops => k_is); (case l_law_loops => k_is); (case c_law_loops => k_is); (case k_law_loops => k_is); (case a_law_long => k_is); (case l_law_long => k_is); (case c_law_long => k_is); (case k_law_long => k_is); (case a_law_patterns => k_is); (case l_law_patterns => k_is); (case c_law_patterns => k_is); (case k_law_patterns => k_is); (case a_law_leaves => k_is); (case l_law_leaves => k_is); (case c_law_leaves => k_is); (case k_law_leaves => k_is); (case a_law => k_is); (case l_law => k_is); (case c_law => k_is); (case k_law => k_is); (case a_Leaves_init => k_is); (case i_Leaves_init => k_is); (case l_Leaves_init => k_is); (case c_Leaves_init => k_is); (case k_Leaves_init => k_is); (case a_Leaves_new_leaf => k_is); (case i_Leaves_new_leaf => k_is); (case l_Leaves_new_leaf => k_is); (case c_Leaves_new_leaf => k_is); (case k_Leaves_new_leaf => k_is); (case a_Leaves_link => k_is); (case i_Leaves_link => k_is); (case l_Leaves_link => k_is); (case c_Leaves_link => k_is); (case k_Leaves_link => k_is); (case a_Leaves_all_signs => k_is); (case i_Leaves_all_signs => k_is); (case l_Leaves_all_signs => k_is); (case c_Leaves_all_signs => k_is); (case k_Leaves_all_signs => k_is); (case b_MOST_LEAVES => k_is); (case b_BEGINNING => k_is); (case b_MOST_PATTERNS => k_is); (case b_BARE => k_is); (case l_BARE => k_is); (case z_len => k_is); (case z_set => k_is); (case z_sorted => k_is); (case z_range => k_is); (case z_min => k_is); (case z_list => k_is); (case z_int => k_is); (case z_isinstance => k_is); (case z_str => k_is)
