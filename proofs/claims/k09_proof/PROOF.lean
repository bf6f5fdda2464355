import PyProof.Rows.All
import Wide.All
import OpenK.AllK
import Wide.FinOn
import HandS.ForMost
import HandS.IsInst
import HandS.Replace
import HandS.Flow
import HandS.WideBits
import HandS.Strs
import HandS.Deep
import HandS.Style
import PyProof.StrOps2
import HandS.SetTxt0
import PyProof.Rows.SortShellAny
import HandS.NoneIn
import HandS.TupLen
import PyProof.DictMoreH
import KE.KDictLaws
import HandS.Star
import HandS.SetKeys
import HandS.DictComp
import KE.KSetDisp
import HandS.Conv
import PySem.Challenge.RW_rulescan_k09_whole_least
set_option Elab.async false
set_option linter.all false
set_option maxRecDepth 100000
set_option maxHeartbeats 4000000
/-! A layer without a heap: data, slots, and what a reading does to them. -/
namespace Ab
open PySem PySem.Spec PyProof.Rows L2

/-- a text from its signs -/
abbrev sOf (s : List Nat) : Str := ⟨s.toArray⟩
/-- data -/
inductive D where
  | non | bl (b : Bool) | int (i : Int) | str (s : List Nat) | lst (ds : List D) | tup (ds : List D) | kt (ns : List Int)

mutual
inductive RD (K : PySem.W.Frag) (G : Hp) : V → D → Prop
  | non : RD K G .non .non
  | bl {b : Bool} : RD K G (.bl b) (.bl b)
  | int {i : Int} : RD K G (.int i) (.int i)
  | str {s : List Nat} : RD K G (.str (sOf s)) (.str s)
  | lst {a : Addr} {xs : List V} {ds : List D} : G a = some (.lst xs) → RDs K G xs ds → RD K G (.ref a) (.lst ds)
  | tup {a : Addr} {xs : List V} {ds : List D} : SqT K G a xs → RDs K G xs ds → RD K G (.ref a) (.tup ds)
  | kt {a : Addr} {ns : List Int} : G a = some (.tup (ns.map V.int)) → RD K G (.ref a) (.kt ns)
inductive RDs (K : PySem.W.Frag) (G : Hp) : List V → List D → Prop
  | nil : RDs K G [] []
  | cons {v : V} {vs : List V} {d : D} {ds : List D} : RD K G v d → RDs K G vs ds → RDs K G (v :: vs) (d :: ds)
end

theorem seqT {K : PySem.W.Frag} {H H' : Hp} {a : Addr} {xs : List V} (e : Same H H') (h : SqT K H a xs) : SqT K H' a xs := by
  rcases h with (h | ⟨o, h⟩) | h
  · exact .inl (.inl (e _ _ h))
  · exact .inl (.inr ⟨o, e _ _ h⟩)
  · exact .inr h
mutual
theorem RD.mono {K : PySem.W.Frag} {G G' : Hp} (e : Same G G') : ∀ {v : V} {d : D}, RD K G v d → RD K G' v d
  | _, _, .non => .non
  | _, _, .bl => .bl
  | _, _, .int => .int
  | _, _, .str => .str
  | _, _, .lst h r => .lst (e _ _ h) (RDs.mono e r)
  | _, _, .tup h r => .tup (seqT e h) (RDs.mono e r)
  | _, _, .kt h => .kt (e _ _ h)
theorem RDs.mono {K : PySem.W.Frag} {G G' : Hp} (e : Same G G') : ∀ {v : List V} {d : List D}, RDs K G v d → RDs K G' v d
  | _, _, .nil => .nil
  | _, _, .cons h r => .cons (RD.mono e h) (RDs.mono e r)
end
theorem RDs.length {K : PySem.W.Frag} {G : Hp} : ∀ {xs : List V} {ds : List D}, RDs K G xs ds → xs.length = ds.length
  | _, _, .nil => rfl
  | _, _, .cons _ r => by rw [List.length_cons, List.length_cons, RDs.length r]
theorem RDs.get {K : PySem.W.Frag} {G : Hp} : ∀ {xs : List V} {ds : List D} {i : Nat} {d : D}, RDs K G xs ds → ds[i]? = some d → ∃ v, xs[i]? = some v ∧ RD K G v d
  | _, _, _, _, .nil, h => by simp at h
  | _, _, 0, _, .cons a _, h => by
    simp at h
    subst h
    exact ⟨_, rfl, a⟩
  | _, _, i + 1, _, .cons _ r, h => by
    obtain ⟨v, h1, h2⟩ := RDs.get (i := i) r (by simpa using h)
    exact ⟨v, by simpa using h1, h2⟩
theorem RDs.get' {K : PySem.W.Frag} {G : Hp} : ∀ {xs : List V} {ds : List D} {i : Nat} {v : V}, RDs K G xs ds → xs[i]? = some v → ∃ d, ds[i]? = some d ∧ RD K G v d
  | _, _, _, _, .nil, h => by simp at h
  | _, _, 0, _, .cons a _, h => by
    simp at h
    subst h
    exact ⟨_, rfl, a⟩
  | _, _, i + 1, _, .cons _ r, h => by
    obtain ⟨v, h1, h2⟩ := RDs.get' (i := i) r (by simpa using h)
    exact ⟨v, by simpa using h1, h2⟩
theorem RDs.append {K : PySem.W.Frag} {G : Hp} : ∀ {xs ys : List V} {ds es : List D}, RDs K G xs ds → RDs K G ys es → RDs K G (xs ++ ys) (ds ++ es)
  | _, _, _, _, .nil, s => s
  | _, _, _, _, .cons a r, s => .cons a (RDs.append r s)
theorem RDs.take {K : PySem.W.Frag} {G : Hp} : ∀ (n : Nat) {xs : List V} {ds : List D}, RDs K G xs ds → RDs K G (xs.take n) (ds.take n)
  | 0, _, _, _ => .nil
  | _ + 1, _, _, .nil => .nil
  | n + 1, _, _, .cons a r => .cons a (RDs.take n r)
theorem RDs.drop {K : PySem.W.Frag} {G : Hp} : ∀ (n : Nat) {xs : List V} {ds : List D}, RDs K G xs ds → RDs K G (xs.drop n) (ds.drop n)
  | 0, _, _, r => r
  | _ + 1, _, _, .nil => .nil
  | n + 1, _, _, .cons _ r => RDs.drop n r
theorem RDs.set {K : PySem.W.Frag} {G : Hp} {v : V} {d : D} (h : RD K G v d) : ∀ (i : Nat) {xs : List V} {ds : List D}, RDs K G xs ds → RDs K G (xs.set i v) (ds.set i d)
  | _, _, _, .nil => .nil
  | 0, _, _, .cons _ r => .cons h r
  | i + 1, _, _, .cons a r => .cons a (RDs.set h i r)
theorem RDs.dropLast {K : PySem.W.Frag} {G : Hp} {xs : List V} {ds : List D} (h : RDs K G xs ds) : RDs K G xs.dropLast ds.dropLast := by
  rw [List.dropLast_eq_take, List.dropLast_eq_take, h.length]
  exact h.take _

/-! ### slots -/
inductive A where
  | no
  | d (x : D)
  | o (k : Nat)
  | p (φ : V → Hp → Prop)
/-- a thing of one's own: a list, a dict with ints and texts as keys, an instance (its class, the place of its own dict, its attributes), such a dict -/
inductive O where
  | lst (ds : List D)
  | dk (kvs : List (Key × D))
  | ins (C : Addr) (j : Nat) (fs : List (Str × A))
  | own (k : Nat)
  | hf (φ : Addr → HO)
  | tp (as : List A)
  | ls (as : List A)
structure Env where
  s : List A
  m : List (Option O)
structure Bs where
  G : Hp
  H : Hp
  ow : List Addr
def RepV (K : PySem.W.Frag) (G : Hp) (ad : List Addr) (v : V) : A → Prop
  | .no => True
  | .d x => RD K G v x
  | .o k => ∃ l, ad[k]? = some l ∧ v = .ref l
  | .p φ => ∀ G', Same G G' → φ v G'
theorem RepV.mono {K : PySem.W.Frag} {G G' : Hp} {ad : List Addr} {v : V} {a : A} (e : Same G G') (h : RepV K G ad v a) : RepV K G' ad v a := by
  cases a with
  | no => trivial
  | d x => exact RD.mono e h
  | o k => exact h
  | p φ => exact fun G2 e2 => h G2 (e.trans e2)
theorem RepV.pre {K : PySem.W.Frag} {G : Hp} {ad ad' : List Addr} {v : V} {a : A} (e : ad <+: ad') (h : RepV K G ad v a) : RepV K G ad' v a := by
  cases a with
  | no => trivial
  | d x => exact h
  | o k =>
    obtain ⟨l, h1, h2⟩ := h
    obtain ⟨t, rfl⟩ := e
    have hk : k < ad.length := (List.getElem?_eq_some_iff.mp h1).1
    exact ⟨l, by rw [List.getElem?_append_left hk]; exact h1, h2⟩
  | p φ => exact h
/-- all given values -/
inductive RepVs (K : PySem.W.Frag) (G : Hp) (ad : List Addr) : List V → List A → Prop
  | nil : RepVs K G ad [] []
  | cons {v : V} {vs : List V} {a : A} {as : List A} : RepV K G ad v a → RepVs K G ad vs as → RepVs K G ad (v :: vs) (a :: as)
theorem RepVs.mono {K : PySem.W.Frag} {G G' : Hp} {ad : List Addr} (e : Same G G') : ∀ {vs : List V} {as : List A}, RepVs K G ad vs as → RepVs K G' ad vs as
  | _, _, .nil => .nil
  | _, _, .cons h r => .cons (h.mono e) (r.mono e)
theorem RepVs.length {K : PySem.W.Frag} {G : Hp} {ad : List Addr} : ∀ {vs : List V} {as : List A}, RepVs K G ad vs as → vs.length = as.length
  | _, _, .nil => rfl
  | _, _, .cons _ r => by rw [List.length_cons, List.length_cons, RepVs.length r]
theorem RepVs.get {K : PySem.W.Frag} {G : Hp} {ad : List Addr} : ∀ {vs : List V} {as : List A} {i : Nat} {a : A}, RepVs K G ad vs as → as[i]? = some a → ∃ v, vs[i]? = some v ∧ RepV K G ad v a
  | _, _, _, _, .nil, h => by simp at h
  | _, _, 0, _, .cons h _, e => by
    simp at e
    subst e
    exact ⟨_, rfl, h⟩
  | _, _, i + 1, _, .cons _ r, e => by
    obtain ⟨v, h1, h2⟩ := RepVs.get (i := i) r (by simpa using e)
    exact ⟨v, by simpa using h1, h2⟩

/-- pairs by their second parts -/
def RKs (K : PySem.W.Frag) (G : Hp) (kvs : List (Key × V)) (kds : List (Key × D)) : Prop := Paired (fun (p : Key × V) (q : Key × D) => p.1 = q.1 ∧ RD K G p.2 q.2) kvs kds
def RFs (K : PySem.W.Frag) (G : Hp) (ad : List Addr) (vs : List (Str × V)) (fs : List (Str × A)) : Prop := Paired (fun (p : Str × V) (q : Str × A) => p.1 = q.1 ∧ RepV K G ad p.2 q.2) vs fs
/-- what stands at l -/
def ObR (K : PySem.W.Frag) (G H : Hp) (ad : List Addr) (l : Addr) : O → Prop
  | .lst ds => ∃ vs, H l = some (.lst vs) ∧ RDs K G vs ds
  | .dk kds => ∃ kvs, H l = some (.dK kvs) ∧ RKs K G kvs kds
  | .ins C j fs => ∃ dx vs, H l = some (.ins C dx vs) ∧ ad[j]? = some dx ∧ RFs K G ad vs fs
  | .own k => ∃ x, ad[k]? = some x ∧ H l = some (.own x)
  | .hf φ => H l = some (φ l)
  | .tp as => ∃ vs, H l = some (.tup vs) ∧ RepVs K G ad vs as
  | .ls as => ∃ vs, H l = some (.lst vs) ∧ RepVs K G ad vs as
theorem RepVs.pre {K : PySem.W.Frag} {G : Hp} {ad ad' : List Addr} (e : ad <+: ad') : ∀ {vs : List V} {as : List A}, RepVs K G ad vs as → RepVs K G ad' vs as
  | _, _, .nil => .nil
  | _, _, .cons h r => .cons (h.pre e) (RepVs.pre e r)
theorem pre_get {ad ad' : List Addr} (e : ad <+: ad') {k : Nat} {l : Addr} (h : ad[k]? = some l) : ad'[k]? = some l := by
  obtain ⟨t, rfl⟩ := e
  rw [List.getElem?_append_left (List.getElem?_eq_some_iff.mp h).1]
  exact h
theorem ObR.keep {K : PySem.W.Frag} {G G' H H' : Hp} {ad ad' : List Addr} {l : Addr} {o : O} (h : ObR K G H ad l o) (gg : Same G G') (pr : ad <+: ad') (hh : ∀ u, H l = some u → H' l = some u) : ObR K G' H' ad' l o := by
  cases o with
  | lst ds =>
    obtain ⟨vs, h1, h2⟩ := h
    exact ⟨vs, hh _ h1, h2.mono gg⟩
  | dk kds =>
    obtain ⟨vs, h1, h2⟩ := h
    exact ⟨vs, hh _ h1, Paired.mapP h2 fun _ _ z => ⟨z.1, RD.mono gg z.2⟩⟩
  | ins C j fs =>
    obtain ⟨dx, vs, h1, h2, h3⟩ := h
    exact ⟨dx, vs, hh _ h1, pre_get pr h2, Paired.mapP h3 fun _ _ z => ⟨z.1, (z.2.mono gg).pre pr⟩⟩
  | own k =>
    obtain ⟨x, h1, h2⟩ := h
    exact ⟨x, pre_get pr h1, hh _ h2⟩
  | hf φ => exact hh _ h
  | tp as =>
    obtain ⟨vs, h1, h2⟩ := h
    exact ⟨vs, hh _ h1, (h2.mono gg).pre pr⟩
  | ls as =>
    obtain ⟨vs, h1, h2⟩ := h
    exact ⟨vs, hh _ h1, (h2.mono gg).pre pr⟩
theorem ObR.some {K : PySem.W.Frag} {G H : Hp} {ad : List Addr} {l : Addr} {o : O} (h : ObR K G H ad l o) : ∃ u, H l = some u := by
  cases o with
  | lst ds => obtain ⟨vs, h1, _⟩ := h; exact ⟨_, h1⟩
  | dk kds => obtain ⟨vs, h1, _⟩ := h; exact ⟨_, h1⟩
  | ins C j fs => obtain ⟨dx, vs, h1, _⟩ := h; exact ⟨_, h1⟩
  | own k => obtain ⟨x, _, h2⟩ := h; exact ⟨_, h2⟩
  | hf φ => exact ⟨_, h⟩
  | tp as => obtain ⟨vs, h1, _⟩ := h; exact ⟨_, h1⟩
  | ls as => obtain ⟨vs, h1, _⟩ := h; exact ⟨_, h1⟩

/-- nothing of the heap is changed; the data grow -/
structure Xt (G H G' H' : Hp) : Prop where
  gg : Same G G'
  gh : Same G' H'
  hh : Same H H'
  fr : ∀ a, G' a ≠ none → G a ≠ none ∨ H a = none
theorem same_new {H : Hp} {p : Addr} {o : HO} (h : H p = none) : Same H (upd H p o) := fun b x e => by
  rw [upd_ne (ne_of_none e h)]
  exact e
theorem Same.none {H H' : Hp} (e : Same H H') {l : Addr} (h : H' l = none) : H l = none := e.free h
theorem Xt.refl {G H : Hp} (e : Same G H) : Xt G H G H := ⟨Same.refl _, e, Same.refl _, fun _ h => .inl h⟩
theorem Xt.trans {G H G1 H1 G2 H2 : Hp} (a : Xt G H G1 H1) (b : Xt G1 H1 G2 H2) : Xt G H G2 H2 :=
  ⟨a.gg.trans b.gg, b.gh, a.hh.trans b.hh, fun l h => by
    rcases b.fr l h with h | h
    · exact a.fr l h
    · exact .inr (Same.none a.hh h)⟩
/-- a new thing that is kept | that is let go -/
theorem Xt.new {G H : Hp} {p : Addr} {o : HO} (e : Same G H) (h : H p = none) : Xt G H (upd G p o) (upd H p o) :=
  ⟨same_new (Same.none e h), fun b x q => by
    by_cases hb : b = p
    · subst hb
      rw [upd_same] at q ⊢
      exact q
    · rw [upd_ne hb] at q ⊢
      exact e _ _ q, same_new h, fun a q => by
    by_cases hb : a = p
    · subst hb
      exact .inr h
    · rw [upd_ne hb] at q
      exact .inl q⟩
theorem Xt.drop {G H : Hp} {p : Addr} {o : HO} (e : Same G H) (h : H p = none) : Xt G H G (upd H p o) :=
  ⟨Same.refl _, e.trans (same_new h), same_new h, fun _ q => .inl q⟩
/-- what is held only by H stays out of the data -/
theorem Xt.out {G H G' H' : Hp} (x : Xt G H G' H') {l : Addr} {o : HO} (h : G l = none) (ho : H l = some o) : G' l = none := by
  cases q : G' l with
  | none => rfl
  | some u =>
    rcases x.fr l (by rw [q]; exact fun z => nomatch z) with h1 | h1
    · exact absurd h h1
    · rw [ho] at h1
      cases h1
/-- the data as they were, too -/
theorem Xt.back {G H G' H' : Hp} (x : Xt G H G' H') (e : Same G H) : Xt G H G H' := ⟨Same.refl _, e.trans x.hh, x.hh, fun _ h => .inl h⟩

structure Rep (K : PySem.W.Frag) (B : Bs) (e : Env) (σ : L2.St) (G H : Hp) (ad : List Addr) : Prop where
  bg : Same B.G G
  gh : Same G H
  fr : ∀ a, G a ≠ none → B.G a ≠ none ∨ B.H a = none
  kp : ∀ a o, B.H a = some o → a ∉ B.ow → H a = some o
  nn : ∀ a, B.H a ≠ none → H a ≠ none
  al : ad.length = e.m.length
  nd : ad.Nodup
  ah : ∀ l, l ∈ ad → H l ≠ none
  ow : B.ow <+: ad
  op : ∀ (k : Nat) (l : Addr) (o : O), ad[k]? = some l → e.m[k]? = some (some o) → G l = none ∧ (l ∈ B.ow ∨ B.H l = none) ∧ ObR K G H ad l o
  sl : σ.length = e.s.length
  st : ∀ (i : Nat) (a : A), e.s[i]? = some a → a = .no ∨ ∃ v, σ[i]? = some (some v) ∧ RepV K G ad v a
section
variable {K : PySem.W.Frag} {B : Bs} {e : Env} {σ : L2.St} {G H G' H' : Hp} {ad : List Addr}
theorem Rep.ext (r : Rep K B e σ G H ad) (x : Xt G H G' H') : Rep K B e σ G' H' ad where
  bg := r.bg.trans x.gg
  gh := x.gh
  fr := fun a h => by
    rcases x.fr a h with q | q
    · exact r.fr a q
    · refine .inr ?_
      cases z : B.H a with
      | none => rfl
      | some o => exact absurd q (r.nn a (by rw [z]; exact fun y => nomatch y))
  kp := fun a o h n => x.hh _ _ (r.kp a o h n)
  nn := fun a h => by
    have q := r.nn a h
    cases z : H a with
    | none => exact absurd z q
    | some o =>
      rw [x.hh _ _ z]
      exact fun y => nomatch y
  al := r.al
  nd := r.nd
  ah := fun l h => by
    have q := r.ah l h
    cases z : H l with
    | none => exact absurd z q
    | some o =>
      rw [x.hh _ _ z]
      exact fun y => nomatch y
  ow := r.ow
  op := fun k l ds h1 h2 => by
    obtain ⟨a, b, c⟩ := r.op k l ds h1 h2
    obtain ⟨u, hu⟩ := c.some
    exact ⟨x.out a hu, b, c.keep x.gg (List.prefix_refl _) fun u h => x.hh _ _ h⟩
  sl := r.sl
  st := fun i a h => by
    rcases r.st i a h with q | ⟨v, q1, q2⟩
    · exact .inl q
    · exact .inr ⟨v, q1, q2.mono x.gg⟩
end

/-! ### what readings do -/
section
variable (K : PySem.W.Frag)
/-- an expression without effect: its value -/
def AE (te : TE) (e : Env) (a : A) : Prop := ∀ (B : Bs) (σ : L2.St) (G H : Hp) (ad : List Addr), Rep K B e σ G H ad → ∀ C : VK, (∀ v G' H', Xt G H G' H' → RepV K G' ad v a → C v H') → te σ H C
/-- a new list -/
def AN (te : TE) (e : Env) (ds : List D) : Prop := ∀ (B : Bs) (σ : L2.St) (G H : Hp) (ad : List Addr), Rep K B e σ G H ad → ∀ C : VK,
  (∀ p vs G' H', Xt G H G' H' → H p = none → G' p = none → H' p = some (.lst vs) → RDs K G' vs ds → C (.ref p) H') → te σ H C
/-- a test -/
def AT (tt : TT) (e : Env) (b : Bool) : Prop := ∀ (B : Bs) (σ : L2.St) (G H : Hp) (ad : List Addr), Rep K B e σ G H ad → ∀ C : Bool → Hp → Prop, (∀ G' H', Xt G H G' H' → C b H') → tt σ H C
/-- arguments -/
def AL (ta : TA) (e : Env) (as : List A) : Prop := ∀ (B : Bs) (σ : L2.St) (G H : Hp) (ad : List Addr), Rep K B e σ G H ad → ∀ C : List V → Hp → Prop, (∀ vs G' H', Xt G H G' H' → RepVs K G' ad vs as → C vs H') → ta σ H C
/-- by values: two, one, a list, a method -/
def A2 (r : R2) (x y : A) (e : Env) (z : A) : Prop := ∀ (B : Bs) (σ : L2.St) (G H : Hp) (ad : List Addr), Rep K B e σ G H ad → ∀ v w, RepV K G ad v x → RepV K G ad w y → ∀ C : VK, (∀ v G' H', Xt G H G' H' → RepV K G' ad v z → C v H') → r v w H C
def A1 (r : V → Hp → VK → Prop) (x : A) (e : Env) (z : A) : Prop := ∀ (B : Bs) (σ : L2.St) (G H : Hp) (ad : List Addr), Rep K B e σ G H ad → ∀ v, RepV K G ad v x → ∀ C : VK, (∀ v G' H', Xt G H G' H' → RepV K G' ad v z → C v H') → r v H C
def AC (r : List V → Hp → VK → Prop) (xs : List A) (e : Env) (z : A) : Prop := ∀ (B : Bs) (σ : L2.St) (G H : Hp) (ad : List Addr), Rep K B e σ G H ad → ∀ vs, RepVs K G ad vs xs → ∀ C : VK, (∀ v G' H', Xt G H G' H' → RepV K G' ad v z → C v H') → r vs H C
def AM (r : V → List V → Hp → VK → Prop) (x : A) (xs : List A) (e : Env) (z : A) : Prop := ∀ (B : Bs) (σ : L2.St) (G H : Hp) (ad : List Addr), Rep K B e σ G H ad → ∀ v vs, RepV K G ad v x → RepVs K G ad vs xs → ∀ C : VK, (∀ v G' H', Xt G H G' H' → RepV K G' ad v z → C v H') → r v vs H C
/-- the same, the value a new list -/
def N2 (r : R2) (x y : A) (e : Env) (ds : List D) : Prop := ∀ (B : Bs) (σ : L2.St) (G H : Hp) (ad : List Addr), Rep K B e σ G H ad → ∀ v w, RepV K G ad v x → RepV K G ad w y → ∀ C : VK,
  (∀ p vs G' H', Xt G H G' H' → H p = none → G' p = none → H' p = some (.lst vs) → RDs K G' vs ds → C (.ref p) H') → r v w H C
def NC (r : List V → Hp → VK → Prop) (xs : List A) (e : Env) (ds : List D) : Prop := ∀ (B : Bs) (σ : L2.St) (G H : Hp) (ad : List Addr), Rep K B e σ G H ad → ∀ vs, RepVs K G ad vs xs → ∀ C : VK,
  (∀ p vs G' H', Xt G H G' H' → H p = none → G' p = none → H' p = some (.lst vs) → RDs K G' vs ds → C (.ref p) H') → r vs H C
/-- an expression with effect: what holds of its value and the slots behind it -/
def AX (te : TE) (e : Env) (Q : A → Env → Prop) : Prop := ∀ (B : Bs) (σ : L2.St) (G H : Hp) (ad : List Addr), Rep K B e σ G H ad → ∀ C : VK,
  (∀ a e' v G' H' ad', Q a e' → Same G G' → ad <+: ad' → Rep K B e' σ G' H' ad' → RepV K G' ad' v a → C v H') → te σ H C
/-- the same, several -/
def AXL (ta : TA) (e : Env) (Q : List A → Env → Prop) : Prop := ∀ (B : Bs) (σ : L2.St) (G H : Hp) (ad : List Addr), Rep K B e σ G H ad → ∀ C : List V → Hp → Prop,
  (∀ as e' vs G' H' ad', Q as e' → Same G G' → ad <+: ad' → Rep K B e' σ G' H' ad' → RepVs K G' ad' vs as → C vs H') → ta σ H C
/-- a target -/
def AG (g : TG) (a : A) (e : Env) (Q : Env → Prop) : Prop := ∀ (B : Bs) (σ : L2.St) (G H : Hp) (ad : List Addr), Rep K B e σ G H ad → ∀ v, RepV K G ad v a → ∀ C : L2.St → Hp → Prop,
  (∀ e' σ' G' H' ad', Q e' → Rep K B e' σ' G' H' ad' → C σ' H') → g v σ H C
structure AEnds where
  nx : Env → Prop
  rt : A → Env → Prop
  bk : Env → Prop := fun _ => False
  ct : Env → Prop := fun _ => False
structure Co (B : Bs) (D : AEnds) (C : Ends) : Prop where
  nx : ∀ e σ G H ad, D.nx e → Rep K B e σ G H ad → C.nx σ H
  rt : ∀ a e v σ G H ad, D.rt a e → Rep K B e σ G H ad → RepV K G ad v a → C.rt v H
  bk : ∀ e σ G H ad, D.bk e → Rep K B e σ G H ad → C.bk σ H
  ct : ∀ e σ G H ad, D.ct e → Rep K B e σ G H ad → C.ct σ H
/-- a statement; w: how many of the own lists are the caller's -/
def AS (w : Nat) (t : TS) (D : AEnds) (e : Env) : Prop := ∀ (B : Bs), B.ow.length = w → ∀ C : Ends, Co K B D C → ∀ (σ : L2.St) (G H : Hp) (ad : List Addr), Rep K B e σ G H ad → t C σ H
end

section
variable {K : PySem.W.Frag} {e : Env} {ta tb te : TE} {x y z a b : A} {r : R2} {ds : List D}
theorem AE.ax {Q : A → Env → Prop} (h : AE K te e a) (q : Q a e) : AX K te e Q := fun B σ G H ad R C c =>
  h B σ G H ad R C fun v G' H' X rv => c a e v G' H' ad q X.gg (List.prefix_refl _) (R.ext X) rv
theorem AE.eq (h : AE K te e a) (q : a = b) : AE K te e b := q ▸ h
theorem AN.eq {es : List D} (h : AN K te e ds) (q : ds = es) : AN K te e es := q ▸ h
/-- a new list as data -/
theorem AN.ae (h : AN K te e ds) : AE K te e (.d (.lst ds)) := fun B σ G H ad R C c =>
  h B σ G H ad R C fun p vs G' H' X hp gp hq rd => c (.ref p) (upd G' p (.lst vs)) H' ⟨X.gg.trans (same_new gp), fun b o q => by
      by_cases hb : b = p
      · subst hb
        rw [upd_same] at q
        rw [hq]
        exact q
      · rw [upd_ne hb] at q
        exact X.gh _ _ q, X.hh, fun b q => by
      by_cases hb : b = p
      · subst hb
        exact .inr hp
      · rw [upd_ne hb] at q
        exact X.fr b q⟩ (.lst upd_same (rd.mono (same_new gp)))

/-! ### expressions -/
theorem ae_var {i : Nat} (h : e.s[i]? = some a) (hn : (match a with | .no => false | _ => true) = true) : AE K (tVar i) e a := fun B σ G H ad R C c => by
  rcases R.st i a h with rfl | ⟨v, h1, h2⟩
  · cases hn
  · exact ⟨v, h1, c v G H (Xt.refl R.gh) h2⟩
theorem ae_int {i : Int} : AE K (tC (.int i)) e (.d (.int i)) := fun B σ G H ad R C c => c _ G H (Xt.refl R.gh) RD.int
theorem ae_bl {i : Bool} : AE K (tC (.bl i)) e (.d (.bl i)) := fun B σ G H ad R C c => c _ G H (Xt.refl R.gh) RD.bl
theorem ae_non : AE K (tC .non) e (.d .non) := fun B σ G H ad R C c => c _ G H (Xt.refl R.gh) RD.non
theorem ae_str {z : Str} {s : List Nat} (h : z.cps.toList = s := by rfl) : AE K (tC (.str z)) e (.d (.str s)) := fun B σ G H ad R C c => c _ G H (Xt.refl R.gh) (by
  subst h
  exact RD.str (s := z.cps.toList))
theorem ae_op (ha : AE K ta e x) (hb : AE K tb e y) (hr : A2 K r x y e z) : AE K (tOp r ta tb) e z := fun B σ G H ad R C c =>
  ha B σ G H ad R _ fun v G1 H1 X1 r1 => hb B σ G1 H1 ad (R.ext X1) _ fun w G2 H2 X2 r2 =>
    hr B σ G2 H2 ad ((R.ext X1).ext X2) v w (r1.mono X2.gg) r2 C fun u G3 H3 X3 r3 => c u G3 H3 ((X1.trans X2).trans X3) r3
theorem an_op (ha : AE K ta e x) (hb : AE K tb e y) (hr : N2 K r x y e ds) : AN K (tOp r ta tb) e ds := fun B σ G H ad R C c =>
  ha B σ G H ad R _ fun v G1 H1 X1 r1 => hb B σ G1 H1 ad (R.ext X1) _ fun w G2 H2 X2 r2 =>
    hr B σ G2 H2 ad ((R.ext X1).ext X2) v w (r1.mono X2.gg) r2 C fun p vs G3 H3 X3 hp gp hq r3 => c p vs G3 H3 ((X1.trans X2).trans X3) (Same.none (X1.hh.trans X2.hh) hp) gp hq r3
theorem ae_un {q : V → Hp → VK → Prop} (ha : AE K ta e x) (hr : A1 K q x e z) : AE K (tUn q ta) e z := fun B σ G H ad R C c =>
  ha B σ G H ad R _ fun v G1 H1 X1 r1 => hr B σ G1 H1 ad (R.ext X1) v r1 C fun u G3 H3 X3 r3 => c u G3 H3 (X1.trans X3) r3
theorem al_nil : AL K tNil e [] := fun B σ G H ad R C c => c [] G H (Xt.refl R.gh) .nil
theorem al_cons {tr : TA} {as : List A} (h : AE K te e a) (hr : AL K tr e as) : AL K (tCons te tr) e (a :: as) := fun B σ G H ad R C c =>
  h B σ G H ad R _ fun v G1 H1 X1 r1 => hr B σ G1 H1 ad (R.ext X1) _ fun vs G2 H2 X2 r2 => c (v :: vs) G2 H2 (X1.trans X2) (.cons (r1.mono X2.gg) r2)
theorem ae_cb {q : List V → Hp → VK → Prop} {t : TA} {as : List A} (h : AL K t e as) (hr : AC K q as e z) : AE K (tCB q t) e z := fun B σ G H ad R C c =>
  h B σ G H ad R _ fun vs G1 H1 X1 r1 => hr B σ G1 H1 ad (R.ext X1) vs r1 C fun u G3 H3 X3 r3 => c u G3 H3 (X1.trans X3) r3
theorem an_cb {q : List V → Hp → VK → Prop} {t : TA} {as : List A} (h : AL K t e as) (hr : NC K q as e ds) : AN K (tCB q t) e ds := fun B σ G H ad R C c =>
  h B σ G H ad R _ fun vs G1 H1 X1 r1 => hr B σ G1 H1 ad (R.ext X1) vs r1 C fun p vs G3 H3 X3 hp gp hq r3 => c p vs G3 H3 (X1.trans X3) (Same.none X1.hh hp) gp hq r3

/-- all of them data -/
theorem RepVs.toRDs {G : Hp} {ad : List Addr} : ∀ {vs : List V} {ds : List D}, RepVs K G ad vs (ds.map .d) → RDs K G vs ds
  | _, [], .nil => .nil
  | _, _ :: _, .cons h r => .cons h (RepVs.toRDs r)
theorem RepVs.of {G : Hp} {ad : List Addr} : ∀ {vs : List V} {ds : List D}, RDs K G vs ds → RepVs K G ad vs (ds.map .d)
  | _, _, .nil => .nil
  | _, _, .cons h r => .cons h (RepVs.of r)
theorem sz_of {n : Nat} (h : n ≤ 1000000) : n ≤ sizeLine := Nat.le_trans h (by decide)
theorem sz_lt {n : Nat} (h : n < 1000000) : n < sizeLine := Nat.lt_of_lt_of_le h (by decide)
theorem an_lst {t : TA} {as : List A} (h : AL K t e as) (hd : as = ds.map .d := by rfl) (hl : ds.length ≤ 1000000 := by decide) : AN K (tLst t) e ds := fun B σ G H ad R C c => by
  subst hd
  refine h B σ G H ad R _ fun vs G1 H1 X1 r1 => ⟨sz_of ?_, fun p hp => ?_⟩
  · have := r1.length
    rw [List.length_map] at this
    omega
  · exact c p vs G1 (upd H1 p (.lst vs)) (X1.trans (Xt.drop X1.gh hp)) (Same.none X1.hh hp) (Same.none X1.gh hp) upd_same r1.toRDs
theorem ae_tup {t : TA} {as : List A} (h : AL K t e as) (hd : as = ds.map .d := by rfl) (hl : ds.length ≤ 1000000 := by decide) : AE K (tTup t) e (.d (.tup ds)) := fun B σ G H ad R C c => by
  subst hd
  refine h B σ G H ad R _ fun vs G1 H1 X1 r1 => ⟨sz_of ?_, fun p hp => ?_⟩
  · have := r1.length
    rw [List.length_map] at this
    omega
  · have X2 := Xt.new (o := .tup vs) X1.gh hp
    exact c (.ref p) _ _ (X1.trans X2) (RD.tup (.inl (.inl upd_same)) (r1.toRDs.mono X2.gg))

/-! ### tests -/
theorem at_val {i : Bool} (h : AE K te e (.d (.bl i))) : AT K (tTest te) e i := fun B σ G H ad R C c =>
  h B σ G H ad R _ fun v G1 H1 X1 r1 => by
    cases r1
    exact ⟨i, rfl, c G1 H1 X1⟩
theorem at_B {i : Bool} (h : AE K te e (.d (.bl i))) : AT K (tB te) e i := fun B σ G H ad R C c =>
  h B σ G H ad R _ fun v G1 H1 X1 r1 => by
    cases r1
    exact ⟨i, rfl, c G1 H1 X1⟩
theorem at_and {t u : TT} {i j : Bool} (h1 : AT K t e i) (h2 : i = true → AT K u e j) : AT K (tAnd t u) e (i && j) := fun B σ G H ad R C c =>
  h1 B σ G H ad R _ fun G1 H1 X1 => by
    cases i with
    | true => exact h2 rfl B σ G1 H1 ad (R.ext X1) C fun G2 H2 X2 => c G2 H2 (X1.trans X2)
    | false => exact c G1 H1 X1
theorem at_or {t u : TT} {i j : Bool} (h1 : AT K t e i) (h2 : i = false → AT K u e j) : AT K (tOr t u) e (i || j) := fun B σ G H ad R C c =>
  h1 B σ G H ad R _ fun G1 H1 X1 => by
    cases i with
    | true => exact c G1 H1 X1
    | false => exact h2 rfl B σ G1 H1 ad (R.ext X1) C fun G2 H2 X2 => c G2 H2 (X1.trans X2)
theorem at_not {t : TT} {i : Bool} (h1 : AT K t e i) : AT K (tNot t) e (!i) := fun B σ G H ad R C c =>
  h1 B σ G H ad R _ fun G1 H1 X1 => c G1 H1 X1
theorem AT.eq {t : TT} {i j : Bool} (h : AT K t e i) (q : i = j) : AT K t e j := q ▸ h
theorem ae_andV {i : Bool} {z : A} (h1 : AE K ta e (.d (.bl i))) (h2 : i = true → AE K tb e z) (h3 : i = false → z = .d (.bl false)) : AE K (tAndV ta tb) e z := fun B σ G H ad R C c =>
  h1 B σ G H ad R _ fun v G1 H1 X1 r1 => by
    cases r1
    refine ⟨i, rfl, ?_⟩
    cases i with
    | true => exact h2 rfl B σ G1 H1 ad (R.ext X1) C fun v G2 H2 X2 r2 => c v G2 H2 (X1.trans X2) r2
    | false =>
      have q := c (.bl false) G1 H1 X1
      rw [h3 rfl] at q
      exact q RD.bl
theorem ae_orV {i : Bool} {z : A} (h1 : AE K ta e (.d (.bl i))) (h2 : i = false → AE K tb e z) (h3 : i = true → z = .d (.bl true)) : AE K (tOrV ta tb) e z := fun B σ G H ad R C c =>
  h1 B σ G H ad R _ fun v G1 H1 X1 r1 => by
    cases r1
    refine ⟨i, rfl, ?_⟩
    cases i with
    | false => exact h2 rfl B σ G1 H1 ad (R.ext X1) C fun v G2 H2 X2 r2 => c v G2 H2 (X1.trans X2) r2
    | true =>
      have q := c (.bl true) G1 H1 X1
      rw [h3 rfl] at q
      exact q RD.bl
theorem ae_notV {i : Bool} (h1 : AE K ta e (.d (.bl i))) : AE K (tNotV ta) e (.d (.bl (!i))) := fun B σ G H ad R C c =>
  h1 B σ G H ad R _ fun v G1 H1 X1 r1 => by
    cases r1
    exact ⟨i, rfl, c _ G1 H1 X1 RD.bl⟩
theorem ae_and2 {i j : Bool} (h1 : AE K ta e (.d (.bl i))) (h2 : i = true → AE K tb e (.d (.bl j))) : AE K (tAndV ta tb) e (.d (.bl (i && j))) :=
  ae_andV h1 (fun h => by rw [h]; exact h2 h) (fun h => by rw [h]; rfl)
theorem ae_or2 {i j : Bool} (h1 : AE K ta e (.d (.bl i))) (h2 : i = false → AE K tb e (.d (.bl j))) : AE K (tOrV ta tb) e (.d (.bl (i || j))) :=
  ae_orV h1 (fun h => by rw [h]; exact h2 h) (fun h => by rw [h]; rfl)
theorem ae_if {t : TT} {i : Bool} (h : AT K t e i) (h1 : i = true → AE K ta e a) (h2 : i = false → AE K tb e a) : AE K (tIf t ta tb) e a := fun B σ G H ad R C c =>
  h B σ G H ad R _ fun G1 H1 X1 => by
    cases i with
    | true => exact h1 rfl B σ G1 H1 ad (R.ext X1) C fun v G2 H2 X2 r2 => c v G2 H2 (X1.trans X2) r2
    | false => exact h2 rfl B σ G1 H1 ad (R.ext X1) C fun v G2 H2 X2 r2 => c v G2 H2 (X1.trans X2) r2
theorem ae_ifD {t : TT} {i : Bool} {p q : D} (h : AT K t e i) (h1 : i = true → AE K ta e (.d p)) (h2 : i = false → AE K tb e (.d q)) : AE K (tIf t ta tb) e (.d (if i = true then p else q)) :=
  ae_if h (fun z => by rw [if_pos z]; exact h1 z) (fun z => by rw [if_neg (by rw [z]; exact Bool.false_ne_true)]; exact h2 z)
end
end Ab
namespace Ab
open PySem PySem.Spec PyProof.Rows L2

/-! ### slots changed -/
def Env.set (e : Env) (i : Nat) (a : A) : Env := ⟨e.s.set i a, e.m⟩
def Env.put (e : Env) (k : Nat) (ds : List D) : Env := ⟨e.s, e.m.set k (some (.lst ds))⟩
def Env.add (e : Env) (ds : List D) : Env := ⟨e.s, e.m ++ [some (.lst ds)]⟩
def Env.putO (e : Env) (k : Nat) (o : O) : Env := ⟨e.s, e.m.set k (some o)⟩
def Env.addO (e : Env) (o : O) : Env := ⟨e.s, e.m ++ [some o]⟩
def Env.new (e : Env) (i : Nat) (ds : List D) : Env := ⟨e.s.set i (.o e.m.length), e.m ++ [some (.lst ds)]⟩
def frzA (k : Nat) (ds : List D) : A → A
  | .o j => if j = k then .d (.lst ds) else .o j
  | a => a
def Env.frz (e : Env) (k : Nat) (ds : List D) : Env := ⟨e.s.map (frzA k ds), e.m.set k none⟩
/-- what is known less -/
def Wk : List A → List A → Prop
  | [], [] => True
  | a :: r, b :: s => (b = .no ∨ a = b) ∧ Wk r s
  | _, _ => False
structure Le (e e' : Env) : Prop where
  s : Wk e.s e'.s
  m : e.m = e'.m
theorem Wk.refl : ∀ l : List A, Wk l l
  | [] => trivial
  | _ :: r => ⟨.inr rfl, Wk.refl r⟩
theorem Le.refl (e : Env) : Le e e := ⟨Wk.refl _, rfl⟩
theorem Wk.trans : ∀ {a b c : List A}, Wk a b → Wk b c → Wk a c
  | [], [], [], _, _ => trivial
  | _ :: _, _ :: _, _ :: _, h, g => ⟨by
    rcases g.1 with q | q
    · exact .inl q
    · rcases h.1 with p | p
      · exact .inl (q ▸ p)
      · exact .inr (p.trans q), Wk.trans h.2 g.2⟩
theorem Le.trans {a b c : Env} (h : Le a b) (g : Le b c) : Le a c := ⟨h.s.trans g.s, h.m.trans g.m⟩
theorem Wk.len : ∀ {a b : List A}, Wk a b → a.length = b.length
  | [], [], _ => rfl
  | _ :: _, _ :: _, h => by rw [List.length_cons, List.length_cons, Wk.len h.2]
theorem Wk.get : ∀ {a b : List A} {i : Nat} {y : A}, Wk a b → b[i]? = some y → y = .no ∨ a[i]? = some y
  | [], [], _, _, _, h => by simp at h
  | x :: r, z :: s, 0, y, g, h => by
    simp at h
    subst h
    rcases g.1 with q | q
    · exact .inl q
    · exact .inr (by rw [q]; rfl)
  | x :: r, z :: s, i + 1, y, g, h => by
    have := Wk.get (i := i) (y := y) g.2 (by simpa using h)
    simpa using this
theorem Wk.set {x : A} : ∀ {a b : List A} (i : Nat), Wk a b → Wk (a.set i x) (b.set i x)
  | [], [], _, _ => trivial
  | _ :: _, _ :: _, 0, h => ⟨.inr rfl, h.2⟩
  | _ :: _, _ :: _, i + 1, h => ⟨h.1, Wk.set i h.2⟩
theorem Le.set {e e' : Env} (h : Le e e') (i : Nat) (x : A) : Le (e.set i x) (e'.set i x) := ⟨h.s.set i, h.m⟩
theorem Rep.le {K : PySem.W.Frag} {B : Bs} {e e' : Env} {σ : L2.St} {G H : Hp} {ad : List Addr} (r : Rep K B e σ G H ad) (h : Le e e') : Rep K B e' σ G H ad where
  bg := r.bg
  gh := r.gh
  fr := r.fr
  kp := r.kp
  nn := r.nn
  al := by rw [r.al, h.m]
  nd := r.nd
  ah := r.ah
  ow := r.ow
  op := by rw [← h.m]; exact r.op
  sl := by rw [r.sl, h.s.len]
  st := fun i a q => by
    rcases h.s.get q with z | z
    · exact .inl z
    · exact r.st i a z
theorem Rep.set {K : PySem.W.Frag} {B : Bs} {e : Env} {σ : L2.St} {G H : Hp} {ad : List Addr} (r : Rep K B e σ G H ad) {i : Nat} {a : A} {v : V} (h : RepV K G ad v a) : Rep K B (e.set i a) (σ.set i (some v)) G H ad where
  bg := r.bg
  gh := r.gh
  fr := r.fr
  kp := r.kp
  nn := r.nn
  al := r.al
  nd := r.nd
  ah := r.ah
  ow := r.ow
  op := r.op
  sl := by
    show (σ.set i (some v)).length = (e.s.set i a).length
    rw [List.length_set, List.length_set, r.sl]
  st := fun j b q => by
    have q : (e.s.set i a)[j]? = some b := q
    by_cases hj : i = j
    · subst hj
      have hl : i < e.s.length := by
        have := (List.getElem?_eq_some_iff.mp q).1
        rwa [List.length_set] at this
      rw [List.getElem?_set_self hl] at q
      cases q
      exact .inr ⟨v, by rw [List.getElem?_set_self (by rw [r.sl]; exact hl)], h⟩
    · rw [List.getElem?_set_ne hj] at q
      rcases r.st j b q with z | ⟨w, z1, z2⟩
      · exact .inl z
      · exact .inr ⟨w, by rw [List.getElem?_set_ne hj]; exact z1, z2⟩
/-- another own thing -/
theorem Rep.addO {K : PySem.W.Frag} {B : Bs} {e : Env} {σ : L2.St} {G H : Hp} {ad : List Addr} (r : Rep K B e σ G H ad) {p : Addr} {o : O} (hp : G p = none) (hb : B.H p = none) (na : p ∉ ad) (ho : ObR K G H (ad ++ [p]) p o) :
    Rep K B (e.addO o) σ G H (ad ++ [p]) where
  bg := r.bg
  gh := r.gh
  fr := r.fr
  kp := r.kp
  nn := r.nn
  al := by
    show (ad ++ [p]).length = (e.m ++ [some o]).length
    rw [List.length_append, List.length_append, r.al]
    rfl
  nd := by
    refine List.nodup_append.mpr ⟨r.nd, (by simp), fun a ha b hb' => ?_⟩
    rw [List.mem_singleton.mp hb']
    rintro rfl
    exact na ha
  ah := fun l h => by
    rcases List.mem_append.mp h with q | q
    · exact r.ah l q
    · obtain ⟨u, hu⟩ := ho.some
      rw [List.mem_singleton.mp q, hu]
      exact fun y => nomatch y
  ow := r.ow.trans (List.prefix_append _ _)
  op := fun k l es h1 h2 => by
    have h2 : (e.m ++ [some o])[k]? = some (some es) := h2
    by_cases hk : k < ad.length
    · rw [List.getElem?_append_left hk] at h1
      rw [List.getElem?_append_left (by rw [← r.al]; exact hk)] at h2
      obtain ⟨x1, x2, x3⟩ := r.op k l es h1 h2
      exact ⟨x1, x2, x3.keep (Same.refl _) (List.prefix_append _ _) fun u h => h⟩
    · have e1 : k = ad.length := by
        have := (List.getElem?_eq_some_iff.mp h1).1
        rw [List.length_append, List.length_singleton] at this
        omega
      subst e1
      rw [List.getElem?_append_right (Nat.le_refl _), Nat.sub_self] at h1
      rw [r.al, List.getElem?_append_right (Nat.le_refl _), Nat.sub_self] at h2
      cases h1
      cases h2
      exact ⟨hp, .inr hb, ho⟩
  sl := r.sl
  st := fun i a q => by
    rcases r.st i a q with z | ⟨v, z1, z2⟩
    · exact .inl z
    · exact .inr ⟨v, z1, z2.pre (List.prefix_append _ _)⟩
theorem Rep.add {K : PySem.W.Frag} {B : Bs} {e : Env} {σ : L2.St} {G H : Hp} {ad : List Addr} (r : Rep K B e σ G H ad) {p : Addr} {vs : List V} {ds : List D} (hp : G p = none) (hb : B.H p = none) (na : p ∉ ad) (hq : H p = some (.lst vs)) (rd : RDs K G vs ds) :
    Rep K B (e.add ds) σ G H (ad ++ [p]) := r.addO (o := .lst ds) hp hb na ⟨vs, hq, rd⟩
/-- a new address stands apart from the own lists -/
theorem Rep.apart {K : PySem.W.Frag} {B : Bs} {e : Env} {σ : L2.St} {G H : Hp} {ad : List Addr} (r : Rep K B e σ G H ad) {p : Addr} (hp : H p = none) : G p = none ∧ B.H p = none := by
  refine ⟨Same.none r.gh hp, ?_⟩
  cases z : B.H p with
  | none => rfl
  | some o => exact absurd hp (r.nn p (by rw [z]; exact fun y => nomatch y))
theorem Rep.fresh {K : PySem.W.Frag} {B : Bs} {e : Env} {σ : L2.St} {G H : Hp} {ad : List Addr} (r : Rep K B e σ G H ad) {p : Addr} (hp : H p = none) : p ∉ ad := fun h => r.ah p h hp
/-- an own thing changed -/
theorem Rep.putO {K : PySem.W.Frag} {B : Bs} {e : Env} {σ : L2.St} {G H : Hp} {ad : List Addr} (r : Rep K B e σ G H ad) {k : Nat} {l : Addr} {o o' : O} {u : HO} (hl : ad[k]? = some l) (hk : e.m[k]? = some (some o)) (ho : ObR K G (upd H l u) ad l o') :
    Rep K B (e.putO k o') σ G (upd H l u) ad := by
  obtain ⟨g0, how, _⟩ := r.op k l o hl hk
  have hkl : k < e.m.length := (List.getElem?_eq_some_iff.mp hk).1
  exact {
    bg := r.bg
    gh := fun b ob q => by
      have nb : b ≠ l := fun z => by
        subst z
        rw [g0] at q
        cases q
      rw [upd_ne nb]
      exact r.gh _ _ q
    fr := r.fr
    kp := fun a ob h n => by
      have nb : a ≠ l := fun z => by
        subst z
        rcases how with q | q
        · exact n q
        · rw [q] at h
          cases h
      rw [upd_ne nb]
      exact r.kp a ob h n
    nn := fun a h => by
      by_cases nb : a = l
      · subst nb
        rw [upd_same]
        exact fun y => nomatch y
      · rw [upd_ne nb]
        exact r.nn a h
    al := by
      show ad.length = (e.m.set k (some o')).length
      rw [List.length_set, r.al]
    nd := r.nd
    ah := fun b h => by
      by_cases nb : b = l
      · subst nb
        rw [upd_same]
        exact fun y => nomatch y
      · rw [upd_ne nb]
        exact r.ah b h
    ow := r.ow
    op := fun j b fs h1 h2 => by
      have h2 : (e.m.set k (some o'))[j]? = some (some fs) := h2
      by_cases hj : k = j
      · subst hj
        rw [List.getElem?_set_self hkl] at h2
        cases h2
        rw [hl] at h1
        cases h1
        exact ⟨g0, how, ho⟩
      · rw [List.getElem?_set_ne hj] at h2
        obtain ⟨x1, x2, x3⟩ := r.op j b fs h1 h2
        have nb : b ≠ l := fun z => by
          subst z
          exact hj (nd_ix r.nd hl h1)
        exact ⟨x1, x2, x3.keep (Same.refl _) (List.prefix_refl _) fun u h => by rw [upd_ne nb]; exact h⟩
    sl := r.sl
    st := r.st }
theorem Rep.put {K : PySem.W.Frag} {B : Bs} {e : Env} {σ : L2.St} {G H : Hp} {ad : List Addr} (r : Rep K B e σ G H ad) {k : Nat} {l : Addr} {o : O} {es : List D} {vs : List V} (hl : ad[k]? = some l) (hk : e.m[k]? = some (some o)) (rd : RDs K G vs es) :
    Rep K B (e.put k es) σ G (upd H l (.lst vs)) ad := r.putO (o' := .lst es) hl hk ⟨vs, upd_same, rd⟩
/-- an own list of the def's is data from now on -/
theorem Rep.frz {K : PySem.W.Frag} {B : Bs} {e : Env} {σ : L2.St} {G H : Hp} {ad : List Addr} (r : Rep K B e σ G H ad) {k : Nat} {l : Addr} {ds : List D} {vs : List V} (hl : ad[k]? = some l) (hk : e.m[k]? = some (some (.lst ds))) (hq : H l = some (.lst vs)) (rd : RDs K G vs ds) (hf : B.H l = none) :
    Rep K B (e.frz k ds) σ (upd G l (.lst vs)) H ad := by
  obtain ⟨g0, how, _⟩ := r.op k l _ hl hk
  have sg : Same G (upd G l (.lst vs)) := same_new g0
  exact {
    bg := r.bg.trans sg
    gh := fun b o q => by
      by_cases nb : b = l
      · subst nb
        rw [upd_same] at q
        rw [hq]
        exact q
      · rw [upd_ne nb] at q
        exact r.gh _ _ q
    fr := fun a h => by
      by_cases nb : a = l
      · subst nb
        exact .inr hf
      · rw [upd_ne nb] at h
        exact r.fr a h
    kp := r.kp
    nn := r.nn
    al := by
      show ad.length = (e.m.set k none).length
      rw [List.length_set, r.al]
    nd := r.nd
    ah := r.ah
    ow := r.ow
    op := fun j b fs h1 h2 => by
      have h2 : (e.m.set k none)[j]? = some (some fs) := h2
      have hj : k ≠ j := fun z => by
        subst z
        rw [List.getElem?_set_self (List.getElem?_eq_some_iff.mp hk).1] at h2
        cases h2
      rw [List.getElem?_set_ne hj] at h2
      obtain ⟨x1, x2, x3⟩ := r.op j b fs h1 h2
      have nb : b ≠ l := fun z => by
        subst z
        exact hj (nd_ix r.nd hl h1)
      exact ⟨by rw [upd_ne nb]; exact x1, x2, x3.keep sg (List.prefix_refl _) fun u h => h⟩
    sl := by
      show σ.length = (e.s.map (frzA k ds)).length
      rw [List.length_map, r.sl]
    st := fun i a q => by
      have q : (e.s.map (frzA k ds))[i]? = some a := q
      rw [List.getElem?_map] at q
      cases z : e.s[i]? with
      | none =>
        rw [z] at q
        cases q
      | some b =>
        rw [z] at q
        have q : frzA k ds b = a := Option.some.inj q
        subst q
        rcases r.st i b z with rfl | ⟨v, z1, z2⟩
        · exact .inl rfl
        · refine .inr ⟨v, z1, ?_⟩
          cases b with
          | no => trivial
          | d x => exact RD.mono sg z2
          | p φ => exact fun G2 e2 => z2 G2 (sg.trans e2)
          | o j =>
            unfold frzA
            by_cases hj : j = k
            · subst hj
              obtain ⟨b, y1, y2⟩ := z2
              rw [hl] at y1
              cases y1
              subst y2
              show RepV K _ ad _ (if j = j then A.d (.lst ds) else A.o j)
              rw [if_pos rfl]
              exact RD.lst upd_same (rd.mono sg)
            · show RepV K _ ad v (if j = k then A.d (.lst ds) else A.o j)
              rw [if_neg hj]
              exact z2 }
end Ab
namespace Ab
open PySem PySem.Spec PyProof.Rows L2
section
variable {K : PySem.W.Frag} {w : Nat} {D : AEnds} {e e' : Env} {te to ti : TE} {g : TG} {t u : TS} {c : TT} {a x : A} {ds : List Ab.D}

/-! ### targets -/
theorem ag_name {Q : Env → Prop} {i : Nat} (h : Q (e.set i a)) : AG K (gName i) a e Q := fun B σ G H ad R v rv C c => c _ _ G H ad h (R.set rv)
/-- targets in a row -/
def AGs (K : PySem.W.Frag) (g : TGs) (ds : List Ab.D) (e : Env) (Q : Env → Prop) : Prop := ∀ (B : Bs) (σ : L2.St) (G H : Hp) (ad : List Addr), Rep K B e σ G H ad → ∀ vs, RDs K G vs ds → ∀ C : L2.St → Hp → Prop,
  (∀ e' σ' G' H' ad', Q e' → Rep K B e' σ' G' H' ad' → C σ' H') → g vs σ H C
theorem ags_nil {Q : Env → Prop} (h : Q e) : AGs K gNil [] e Q := fun B σ G H ad R vs rv C c => by
  cases rv
  exact ⟨rfl, c _ _ G H ad h R⟩
theorem ags_name {Q : Env → Prop} {i : Nat} {d : Ab.D} {ds : List Ab.D} {tr : TGs} (h : AGs K tr ds (e.set i (.d d)) Q) : AGs K (gCons (gName i) tr) (d :: ds) e Q := fun B σ G H ad R vs rv C c => by
  cases rv with
  | cons r1 r2 => exact ⟨_, _, rfl, h B _ G H ad (R.set (a := .d d) r1) _ r2 C c⟩
theorem ag_tup {Q : Env → Prop} {n : Nat} {tr : TGs} {ds : List Ab.D} (h : AGs K tr ds e Q) (hn : ds.length = n := by rfl) : AG K (gTup K n tr) (.d (.tup ds)) e Q := fun B σ G H ad R v rv C c => by
  cases rv with
  | tup h1 r1 => exact ⟨_, _, rfl, seqT R.gh h1, by rw [← hn]; exact r1.length, h B σ G H ad R _ r1 C c⟩
theorem AG.mono {Q Q' : Env → Prop} (h : AG K g a e Q) (m : ∀ e, Q e → Q' e) : AG K g a e Q' := fun B σ G H ad R v rv C c =>
  h B σ G H ad R v rv C fun e' σ' G' H' ad' q => c e' σ' G' H' ad' (m e' q)

/-! ### statements -/
theorem AS.le (h : AS K w t D e') (l : Le e e') : AS K w t D e := fun B hw C co σ G H ad R => h B hw C co σ G H ad (R.le l)
theorem AS.ends {D' : AEnds} (h : AS K w t D e) (h1 : ∀ e, D.nx e → D'.nx e) (h2 : ∀ a e, D.rt a e → D'.rt a e) (h3 : ∀ e, D.bk e → D'.bk e) (h4 : ∀ e, D.ct e → D'.ct e) : AS K w t D' e := fun B hw C co σ G H ad R =>
  h B hw C ⟨fun e σ G H ad q => co.nx e σ G H ad (h1 e q), fun a e v σ G H ad q => co.rt a e v σ G H ad (h2 a e q), fun e σ G H ad q => co.bk e σ G H ad (h3 e q), fun e σ G H ad q => co.ct e σ G H ad (h4 e q)⟩ σ G H ad R
theorem as_seq (h : AS K w t { D with nx := fun e' => AS K w u D e' } e) : AS K w (tSeq t u) D e := fun B hw C co σ G H ad R =>
  h B hw { C with nx := u C } ⟨fun e σ G H ad q R => q B hw C co σ G H ad R, co.rt, co.bk, co.ct⟩ σ G H ad R
theorem as_next (h : D.nx e) : AS K w tNext D e := fun B hw C co σ G H ad R => co.nx e σ G H ad h R
theorem as_break (h : D.bk e) : AS K w tBreak D e := fun B hw C co σ G H ad R => co.bk e σ G H ad h R
theorem as_cont (h : D.ct e) : AS K w tCont D e := fun B hw C co σ G H ad R => co.ct e σ G H ad h R
theorem as_asgG (h : AE K te e a) (hg : AG K g a e D.nx) : AS K w (tAsg te g) D e := fun B hw C co σ G H ad R =>
  h B σ G H ad R _ fun v G1 H1 X1 r1 => hg B σ G1 H1 ad (R.ext X1) v r1 _ fun e' σ' G' H' ad' q R' => co.nx e' σ' G' H' ad' q R'
theorem as_asg {i : Nat} (h : AE K te e a) (k : D.nx (e.set i a)) : AS K w (tAsg te (gName i)) D e := as_asgG h (ag_name k)
theorem as_asgX {i : Nat} (h : AX K te e fun a e' => D.nx (e'.set i a)) : AS K w (tAsg te (gName i)) D e := fun B hw C co σ G H ad R =>
  h B σ G H ad R _ fun a e' v G1 H1 ad' q _ _ R1 r1 => co.nx _ _ G1 H1 ad' q (R1.set r1)
theorem AN.ax {Q : A → Env → Prop} (h : AN K te e ds) (q : Q (.o e.m.length) (e.add ds)) : AX K te e Q := fun B σ G H ad R C c =>
  h B σ G H ad R C fun p vs G1 H1 X1 hp gp hq rd => by
    have R1 := R.ext X1
    have hb : B.H p = none := (R.apart hp).2
    have na : p ∉ ad := R.fresh hp
    refine c _ _ _ G1 H1 (ad ++ [p]) q X1.gg (List.prefix_append _ _) (R1.add gp hb na hq rd) ⟨p, ?_, rfl⟩
    rw [← R.al, List.getElem?_append_right (Nat.le_refl _), Nat.sub_self]
    rfl
/-- x = a new list that will be changed -/
theorem as_asgN {i : Nat} (h : AN K te e ds) (k : D.nx (e.new i ds)) : AS K w (tAsg te (gName i)) D e := as_asgX (h.ax k)
theorem as_ret (h : AE K te e a) (k : D.rt a e) : AS K w (tRet te) D e := fun B hw C co σ G H ad R =>
  h B σ G H ad R _ fun v G1 H1 X1 r1 => co.rt a e v σ G1 H1 ad k (R.ext X1) r1
theorem as_retX (h : AX K te e D.rt) : AS K w (tRet te) D e := fun B hw C co σ G H ad R =>
  h B σ G H ad R _ fun a e' v G1 H1 ad' q _ _ R1 r1 => co.rt a e' v σ G1 H1 ad' q R1 r1
theorem as_retN (k : D.rt (.d .non) e) : AS K w tRetN D e := fun B hw C co σ G H ad R => co.rt _ e .non σ G H ad k R RD.non
theorem as_drop (h : AE K te e a) (k : D.nx e) : AS K w (tDrop te) D e := fun B hw C co σ G H ad R =>
  h B σ G H ad R _ fun v G1 H1 X1 r1 => co.nx e σ G1 H1 ad k (R.ext X1)
theorem as_dropX (h : AX K te e fun _ e' => D.nx e') : AS K w (tDrop te) D e := fun B hw C co σ G H ad R =>
  h B σ G H ad R _ fun a e' v G1 H1 ad' q _ _ R1 r1 => co.nx e' σ G1 H1 ad' q R1
theorem as_if {b : Bool} (h : AT K c e b) (h1 : b = true → AS K w t D e) (h2 : b = false → AS K w u D e) : AS K w (tIfS c t u) D e := fun B hw C co σ G H ad R =>
  h B σ G H ad R _ fun G1 H1 X1 => by
    cases b with
    | true => exact h1 rfl B hw C co σ G1 H1 ad (R.ext X1)
    | false => exact h2 rfl B hw C co σ G1 H1 ad (R.ext X1)
/-- if c: x = e, told by the value that x has behind it -/
theorem as_ifset {b : Bool} {i : Nat} {x y : Ab.D} (h : AT K c e b) (h1 : b = true → AE K te e (.d x)) (hy : e.s[i]? = some (.d y)) (k : D.nx (e.set i (.d (if b = true then x else y)))) : AS K w (tIfS c (tAsg te (gName i)) tNext) D e := by
  refine as_if h (fun hb => as_asg (h1 hb) ?_) (fun hb => as_next ?_)
  · rw [if_pos hb] at k
    exact k
  · rw [if_neg (by rw [hb]; exact Bool.false_ne_true)] at k
    have : e.set i (.d y) = e := by
      show (⟨e.s.set i (.d y), e.m⟩ : Env) = e
      have q : e.s.set i (.d y) = e.s := by
        refine List.ext_getElem? fun j => ?_
        by_cases hj : i = j
        · subst hj
          rw [hy, List.getElem?_set_self (List.getElem?_eq_some_iff.mp hy).1]
        · rw [List.getElem?_set_ne hj]
      rw [q]
    rw [this] at k
    exact k
/-- an own list is data from now on -/
theorem as_frz (k : Nat) (hk : e.m[k]? = some (some (.lst ds))) (hw : w ≤ k) (h : AS K w t D (e.frz k ds)) : AS K w t D e := fun B hB C co σ G H ad R => by
  have hkl : k < ad.length := by
    rw [R.al]
    exact (List.getElem?_eq_some_iff.mp hk).1
  obtain ⟨l, hl⟩ : ∃ l, ad[k]? = some l := ⟨_, List.getElem?_eq_getElem hkl⟩
  obtain ⟨g0, how, vs, hq, rd⟩ := R.op k _ _ hl hk
  have hf : B.H l = none := by
    rcases how with q | q
    · exfalso
      obtain ⟨tl, e1⟩ := R.ow
      obtain ⟨j, hj⟩ := List.mem_iff_getElem?.mp q
      have hjl : j < B.ow.length := (List.getElem?_eq_some_iff.mp hj).1
      have hj2 : ad[j]? = some l := by
        rw [← e1, List.getElem?_append_left hjl]
        exact hj
      have := nd_ix R.nd hj2 hl
      omega
    · exact q
  exact h B hB C co σ _ H ad (R.frz hl hk hq rd hf)
/-- append -/
theorem ax_app {k : Nat} {to te : TE} {ds0 : List Ab.D} {Q : A → Env → Prop} (ho : AE K to e (.o k)) (hk : e.m[k]? = some (some (.lst ds0)))
    (h : AX K te e fun a e' => ∃ x ds, a = .d x ∧ e'.m[k]? = some (some (.lst ds)) ∧ ds.length < 1000000 ∧ Q (.d .non) (e'.put k (ds ++ [x]))) : AX K (tBM K "list" rAppend to (tCons te tNil)) e Q := fun B σ G H ad R C c =>
  ho B σ G H ad R _ fun v G1 H1 X1 r1 => by
    obtain ⟨l, hl, rfl⟩ := r1
    have R1 := R.ext X1
    obtain ⟨_, _, vs0, h0, _⟩ := R1.op k l _ hl hk
    refine ⟨Or.inl ⟨rfl, vs0, Or.inl (Or.inl h0)⟩, ?_⟩
    refine h B σ G1 H1 ad R1 _ fun a e' v' G2 H2 ad' q gg pre R2 r2 => ?_
    obtain ⟨x, ds, rfl, hk2, hz, q⟩ := q
    have hl2 : ad'[k]? = some l := by
      obtain ⟨tl, rfl⟩ := pre
      rw [List.getElem?_append_left (List.getElem?_eq_some_iff.mp hl).1]
      exact hl
    obtain ⟨_, _, vs, h2, rd⟩ := R2.op k l _ hl2 hk2
    refine ⟨l, vs, v', rfl, rfl, h2, sz_lt (by rw [rd.length]; exact hz), ?_⟩
    exact c _ _ _ G2 _ ad' q (X1.gg.trans gg) pre (R2.put hl2 hk2 (rd.append (.cons r2 .nil))) RD.non
theorem as_app {k : Nat} {to te : TE} {ds : List Ab.D} {x : Ab.D} (ho : AE K to e (.o k)) (h : AE K te e (.d x)) (hk : e.m[k]? = some (some (.lst ds))) (hz : ds.length < 1000000) (q : D.nx (e.put k (ds ++ [x]))) :
    AS K w (tDrop (tBM K "list" rAppend to (tCons te tNil))) D e := as_dropX (ax_app ho hk (h.ax ⟨x, ds, rfl, hk, hz, q⟩))
theorem as_appX {k : Nat} {to te : TE} {ds0 : List Ab.D} (ho : AE K to e (.o k)) (hk : e.m[k]? = some (some (.lst ds0)))
    (h : AX K te e fun a e' => ∃ x ds, a = .d x ∧ e'.m[k]? = some (some (.lst ds)) ∧ ds.length < 1000000 ∧ D.nx (e'.put k (ds ++ [x]))) :
    AS K w (tDrop (tBM K "list" rAppend to (tCons te tNil))) D e := as_dropX (ax_app ho hk h)
/-- pop -/
theorem ax_pop {k : Nat} {to : TE} {ds : List Ab.D} {x : Ab.D} {Q : A → Env → Prop} (ho : AE K to e (.o k)) (hk : e.m[k]? = some (some (.lst ds))) (hx : ds[ds.length - 1]? = some x) (q : Q (.d x) (e.put k ds.dropLast)) : AX K (tBM0 K "list" rPop to) e Q := fun B σ G H ad R C c =>
  ho B σ G H ad R _ fun v G1 H1 X1 r1 => by
    obtain ⟨l, hl, rfl⟩ := r1
    have R1 := R.ext X1
    obtain ⟨_, _, vs, h0, rd⟩ := R1.op k l _ hl hk
    obtain ⟨v, hv, rv⟩ := rd.get hx
    refine ⟨Or.inl ⟨rfl, vs, Or.inl (Or.inl h0)⟩, l, vs, v, rfl, rfl, h0, by rw [rd.length]; exact hv, ?_⟩
    exact c _ _ _ G1 _ ad q X1.gg (List.prefix_refl _) (R1.put hl hk rd.dropLast) rv
/-- xs[i] = e -/
theorem as_setI {k j : Nat} {i : Int} {ds : List Ab.D} {x : Ab.D} (h : AE K te e (.d x)) (ho : AE K to e (.o k)) (hi : AE K ti e (.d (.int i))) (hk : e.m[k]? = some (some (.lst ds))) (hj : ixN ds.length i = some j) (q : D.nx (e.put k (ds.set j x))) :
    AS K w (tAsg te (gSub to ti rSetL)) D e := fun B hw C co σ G H ad R =>
  h B σ G H ad R _ fun v G1 H1 X1 r1 => ho B σ G1 H1 ad (R.ext X1) _ fun v2 G2 H2 X2 r2 => hi B σ G2 H2 ad ((R.ext X1).ext X2) _ fun v3 G3 H3 X3 r3 => by
    obtain ⟨l, hl, rfl⟩ := r2
    cases r3
    have R3 := ((R.ext X1).ext X2).ext X3
    obtain ⟨_, _, vs, h0, rd⟩ := R3.op k l _ hl hk
    refine ⟨l, vs, i, j, rfl, rfl, h0, by rw [rd.length]; exact hj, ?_⟩
    exact co.nx _ σ G3 _ ad q (R3.put hl hk (rd.set (RD.mono (X2.trans X3).gg r1) j))

/-! ### while -/
theorem as_while (I : Nat → Env → Prop) (h0 : ∃ m, I m e)
    (hs : ∀ m e', I m e' → ∃ b, AT K c e' b ∧ (b = true → AS K w t { D with nx := fun e2 => ∃ m', m' < m ∧ I m' e2, ct := fun e2 => ∃ m', m' < m ∧ I m' e2, bk := D.nx } e') ∧ (b = false → D.nx e')) : AS K w (tWhile c t) D e := fun B hw C co σ G H ad R => by
  refine ⟨fun m σ H => ∃ e' G ad, I m e' ∧ Rep K B e' σ G H ad, ?_, ?_⟩
  · obtain ⟨m, h⟩ := h0
    exact ⟨m, e, G, ad, h, R⟩
  · rintro m σ H ⟨e', G, ad, hi, R⟩
    obtain ⟨b, h1, h2, h3⟩ := hs m e' hi
    refine h1 B σ G H ad R _ fun G1 H1 X1 => ?_
    have R1 := R.ext X1
    cases b with
    | true =>
      refine ⟨fun σ H => ∃ m', m' < m ∧ ∃ e' G ad, I m' e' ∧ Rep K B e' σ G H ad, fun σ' H' h => h, ?_⟩
      refine h2 rfl B hw { C with nx := fun σ H => ∃ m', m' < m ∧ ∃ e' G ad, I m' e' ∧ Rep K B e' σ G H ad, ct := fun σ H => ∃ m', m' < m ∧ ∃ e' G ad, I m' e' ∧ Rep K B e' σ G H ad, bk := C.nx } ⟨?_, co.rt, co.nx, ?_⟩ σ G1 H1 ad R1
      · rintro e2 σ2 G2 H2 ad2 ⟨m', hm, hI⟩ R2
        exact ⟨m', hm, e2, G2, ad2, hI, R2⟩
      · rintro e2 σ2 G2 H2 ad2 ⟨m', hm, hI⟩ R2
        exact ⟨m', hm, e2, G2, ad2, hI, R2⟩
    | false => exact co.nx _ σ G1 H1 ad (h3 rfl) R1
/-- a while by its turns: n of them, E i the slots ahead of turn i -/
theorem as_whileE (n : Nat) (E : Nat → Env) (h0 : Le e (E 0)) (hc : ∀ i, i ≤ n → AT K c (E i) (decide (i < n)))
    (hs : ∀ i, i < n → AS K w t { D with nx := fun e2 => Le e2 (E (i + 1)), ct := fun e2 => Le e2 (E (i + 1)), bk := D.nx } (E i)) (hd : ∀ e', Le e' (E n) → D.nx e') : AS K w (tWhile c t) D e := by
  refine as_while (fun m e' => ∃ i, i + m = n ∧ Le e' (E i)) ⟨n, 0, by omega, h0⟩ ?_
  rintro m e' ⟨i, hi, l⟩
  refine ⟨decide (i < n), fun B σ G H ad R => hc i (by omega) B σ G H ad (R.le l), fun hb => ?_, fun hb => ?_⟩
  · have hlt := of_decide_eq_true hb
    refine AS.le (AS.ends (hs i hlt) (fun e2 q => ⟨m - 1, by omega, i + 1, by omega, q⟩) (fun _ _ q => q) (fun _ q => q) (fun e2 q => ⟨m - 1, by omega, i + 1, by omega, q⟩)) l
  · have hlt : ¬ i < n := of_decide_eq_false hb
    have : i = n := by omega
    subst this
    exact hd e' l

/-! ### what is walked -/
structure Walk (K : PySem.W.Frag) (G0 : Hp) (J : It) (n : Nat) (f : Nat → Ab.D) : Prop where
  stop : ∀ i G H, Same G0 G → Same G H → n ≤ i → J.stop i H
  go : ∀ i G H, Same G0 G → Same G H → i < n → J.go i H
  yld : ∀ i G H v H', Same G0 G → Same G H → i < n → J.yld i H v H' → ∃ G', Xt G H G' H' ∧ RD K G' v (f i)
def AI (K : PySem.W.Frag) (wi : TI) (e : Env) (n : Nat) (f : Nat → Ab.D) : Prop := ∀ (B : Bs) (σ : L2.St) (G H : Hp) (ad : List Addr), Rep K B e σ G H ad → ∀ C : It → Hp → Prop, (∀ J G' H', Xt G H G' H' → Walk K G' J n f → C J H') → wi σ H C
theorem ai_list {tl : TE} {xs : List Ab.D} {n : Nat} {f : Nat → Ab.D} (h : AE K tl e (.d (.lst xs))) (hn : xs.length = n) (hf : ∀ i, i < n → xs[i]? = some (f i)) : AI K (iList K tl) e n f := fun B σ G H ad R C c =>
  h B σ G H ad R _ fun v G1 H1 X1 r1 => by
    cases r1 with
    | lst hq rd =>
      rename_i p vs
      refine ⟨_, rfl, ⟨vs, .inl (.inl (X1.gh _ _ hq))⟩, c _ G1 H1 X1 ⟨?_, ?_, ?_⟩⟩
      · intro i G H s1 s2 hi
        exact ⟨vs, .inl (.inl (s2 _ _ (s1 _ _ hq))), by rw [rd.length, hn]; exact hi⟩
      · intro i G H s1 s2 hi
        obtain ⟨v, hv, _⟩ := rd.get (hf i hi)
        exact ⟨vs, v, .inl (.inl (s2 _ _ (s1 _ _ hq))), hv⟩
      · rintro i G H v H' s1 s2 hi ⟨rfl, y⟩
        obtain ⟨v', hv, rv⟩ := rd.get (hf i hi)
        have := y vs (.inl (.inl (s2 _ _ (s1 _ _ hq))))
        rw [hv] at this
        cases this
        exact ⟨G, Xt.refl s2, rv.mono s1⟩
theorem ai_rng1 {ta : TA} {n : Int} (h : AL K ta e [.d (.int n)]) (hn : n < 2 ^ 62) (h0 : -(2 ^ 62) ≤ n) : AI K (iRng1 ta) e n.toNat (fun i => .int (i : Nat)) := fun B σ G H ad R C c =>
  h B σ G H ad R _ fun vs G1 H1 X1 r1 => by
    obtain ⟨v, rfl, rv⟩ : ∃ v, vs = [v] ∧ RepV K G1 ad v (.d (.int n)) := by
      cases r1 with
      | cons q r => cases r; exact ⟨_, rfl, q⟩
    cases rv
    refine ⟨n, rfl, h0, hn, c _ G1 H1 X1 ⟨fun i G H _ _ hi => hi, fun i G H _ _ hi => hi, ?_⟩⟩
    rintro i G H v H' s1 s2 hi ⟨rfl, rfl⟩
    refine ⟨G, Xt.refl s2, ?_⟩
    rw [Int.zero_add]
    exact RD.int
theorem ai_rng2 {ta : TA} {l n : Int} (h : AL K ta e [.d (.int l), .d (.int n)]) (hl0 : -(2 ^ 62) ≤ l) (hl : l < 2 ^ 62) (h0 : -(2 ^ 62) ≤ n) (hn : n < 2 ^ 62) : AI K (iRng2 ta) e (n - l).toNat (fun i => .int (l + (i : Nat))) := fun B σ G H ad R C c =>
  h B σ G H ad R _ fun vs G1 H1 X1 r1 => by
    obtain ⟨v, u, rfl, rv, ru⟩ : ∃ v u, vs = [v, u] ∧ RepV K G1 ad v (.d (.int l)) ∧ RepV K G1 ad u (.d (.int n)) := by
      cases r1 with
      | cons q r =>
        cases r with
        | cons q2 r => cases r; exact ⟨_, _, rfl, q, q2⟩
    cases rv
    cases ru
    refine ⟨l, n, rfl, ⟨hl0, hl, h0, hn⟩, c _ G1 H1 X1 ⟨fun i G H _ _ hi => hi, fun i G H _ _ hi => hi, ?_⟩⟩
    rintro i G H v H' s1 s2 hi ⟨rfl, rfl⟩
    exact ⟨G, Xt.refl s2, RD.int⟩
theorem ai_str {s : List Nat} {n : Nat} {f : Nat → Nat} (h : AE K te e (.d (.str s))) (hn : s.length = n) (hf : ∀ i, i < n → s[i]? = some (f i)) : AI K (iStr te) e n (fun i => .str [f i]) := fun B σ G H ad R C c =>
  h B σ G H ad R _ fun v G1 H1 X1 r1 => by
    cases r1
    refine ⟨sOf s, rfl, c _ G1 H1 X1 ⟨fun i G H _ _ hi => ?_, fun i G H _ _ hi => ?_, ?_⟩⟩
    · show s.toArray.size ≤ i
      rw [List.size_toArray]
      omega
    · show i < s.toArray.size
      rw [List.size_toArray]
      omega
    · rintro i G H v H' s1 s2 hi ⟨rfl, ch, hc, rfl⟩
      have : s.toArray[i]? = some ch := hc
      rw [List.getElem?_toArray, hf i hi] at this
      cases this
      exact ⟨G, Xt.refl s2, RD.str (s := [f i])⟩
theorem ai_zip {ta : TA} {xs ys : List Ab.D} {n : Nat} {f g : Nat → Ab.D} (h : AL K ta e [.d (.lst xs), .d (.lst ys)]) (hx : xs.length = n) (hy : ys.length = n) (hf : ∀ i, i < n → xs[i]? = some (f i)) (hg : ∀ i, i < n → ys[i]? = some (g i)) :
    AI K (iZip K ta) e n (fun i => .tup [f i, g i]) := fun B σ G H ad R C c =>
  h B σ G H ad R _ fun vs G1 H1 X1 r1 => by
    obtain ⟨v, u, rfl, rv, ru⟩ : ∃ v u, vs = [v, u] ∧ RepV K G1 ad v (.d (.lst xs)) ∧ RepV K G1 ad u (.d (.lst ys)) := by
      cases r1 with
      | cons q r =>
        cases r with
        | cons q2 r => cases r; exact ⟨_, _, rfl, q, q2⟩
    cases rv with
    | lst hq rd =>
      cases ru with
      | lst hq2 rd2 =>
        rename_i p us p2 ws
        refine ⟨_, _, us, ws, rfl, .inl (.inl (X1.gh _ _ hq)), .inl (.inl (X1.gh _ _ hq2)), c _ G1 H1 X1 ⟨?_, ?_, ?_⟩⟩
        · intro i G H s1 s2 hi
          exact ⟨us, ws, .inl (.inl (s2 _ _ (s1 _ _ hq))), .inl (.inl (s2 _ _ (s1 _ _ hq2))), .inl (by rw [rd.length, hx]; exact hi)⟩
        · intro i G H s1 s2 hi
          obtain ⟨v, hv, _⟩ := rd.get (hf i hi)
          obtain ⟨v2, hv2, _⟩ := rd2.get (hg i hi)
          exact ⟨us, ws, v, v2, .inl (.inl (s2 _ _ (s1 _ _ hq))), .inl (.inl (s2 _ _ (s1 _ _ hq2))), hv, hv2⟩
        · rintro i G H v H' s1 s2 hi ⟨T, x, y, rfl, hT, rfl, k1, k2⟩
          obtain ⟨v', hv, rv⟩ := rd.get (hf i hi)
          obtain ⟨v2, hv2, rv2⟩ := rd2.get (hg i hi)
          have e1 := k1 us (.inl (.inl (s2 _ _ (s1 _ _ hq))))
          have e2 := k2 ws (.inl (.inl (s2 _ _ (s1 _ _ hq2))))
          rw [hv] at e1
          rw [hv2] at e2
          obtain rfl : v' = x := Option.some.inj e1
          obtain rfl : v2 = y := Option.some.inj e2
          have X := Xt.new (o := .tup [v', v2]) s2 hT
          exact ⟨_, X, RD.tup (.inl (.inl upd_same)) (.cons (rv.mono (s1.trans X.gg)) (.cons (rv2.mono (s1.trans X.gg)) .nil))⟩
theorem ai_enum {ta : TA} {xs : List Ab.D} {n : Nat} {f : Nat → Ab.D} (h : AL K ta e [.d (.lst xs)]) (hx : xs.length = n) (hf : ∀ i, i < n → xs[i]? = some (f i)) :
    AI K (iEnum K ta) e n (fun i => .tup [.int (i : Nat), f i]) := fun B σ G H ad R C c =>
  h B σ G H ad R _ fun vs G1 H1 X1 r1 => by
    obtain ⟨v, rfl, rv⟩ : ∃ v, vs = [v] ∧ RepV K G1 ad v (.d (.lst xs)) := by
      cases r1 with
      | cons q r => cases r; exact ⟨_, rfl, q⟩
    cases rv with
    | lst hq rd =>
        rename_i p us
        refine ⟨_, us, rfl, .inl (.inl (X1.gh _ _ hq)), c _ G1 H1 X1 ⟨?_, ?_, ?_⟩⟩
        · intro i G H s1 s2 hi
          exact ⟨us, .inl (.inl (s2 _ _ (s1 _ _ hq))), by rw [rd.length, hx]; exact hi⟩
        · intro i G H s1 s2 hi
          obtain ⟨v, hv, _⟩ := rd.get (hf i hi)
          exact ⟨us, v, .inl (.inl (s2 _ _ (s1 _ _ hq))), hv⟩
        · rintro i G H v H' s1 s2 hi ⟨T, x, rfl, hT, rfl, k1⟩
          obtain ⟨v', hv, rv⟩ := rd.get (hf i hi)
          have e1 := k1 us (.inl (.inl (s2 _ _ (s1 _ _ hq))))
          rw [hv] at e1
          obtain rfl : v' = x := Option.some.inj e1
          have X := Xt.new (o := .tup [.int (i : Nat), v']) s2 hT
          exact ⟨_, X, RD.tup (.inl (.inl upd_same)) (.cons RD.int (.cons (rv.mono (s1.trans X.gg)) .nil))⟩

/-! ### for -/
/-- the data so far as the base -/
theorem Rep.rebase {B : Bs} {σ : L2.St} {G H : Hp} {ad : List Addr} (R : Rep K B e σ G H ad) : Rep K { B with G := G } e σ G H ad :=
  { R with bg := Same.refl _, fr := fun a h => .inl h }
theorem Rep.unbase {B : Bs} {e' : Env} {σ σ' : L2.St} {G H G' H' : Hp} {ad ad' : List Addr} (R : Rep K B e σ G H ad) (R' : Rep K { B with G := G } e' σ' G' H' ad') : Rep K B e' σ' G' H' ad' :=
  { R' with bg := R.bg.trans R'.bg, fr := fun a h => by
              rcases R'.fr a h with q | q
              · exact R.fr a q
              · exact .inr q }
theorem as_for {wi : TI} {n : Nat} {f : Nat → Ab.D} (I : Nat → Env → Prop) (h : AI K wi e n f) (h0 : I 0 e)
    (hs : ∀ i e', i < n → I i e' → AG K g (.d (f i)) e' fun e2 => AS K w t { D with nx := I (i + 1), ct := I (i + 1), bk := D.nx } e2) (hd : ∀ e', I n e' → D.nx e') : AS K w (tFor wi g t) D e := fun B hw C co σ G H ad R =>
  h B σ G H ad R _ fun J G1 H1 X1 W => by
    have R1 := R.ext X1
    have lift : ∀ e' σ' G' H' ad', I n e' → Rep K { B with G := G1 } e' σ' G' H' ad' → C.nx σ' H' := fun e' σ' G' H' ad' q R' => co.nx e' σ' G' H' ad' (hd e' q) (R1.unbase R')
    refine ⟨fun i m σ H => i + m = n ∧ ∃ e' G ad, I i e' ∧ Rep K { B with G := G1 } e' σ G H ad, ⟨n, by omega, e, G1, ad, h0, R1.rebase⟩, ?_⟩
    rintro i m σ H ⟨hm, e', G, ad, hi, R2⟩
    by_cases hlt : i < n
    · refine .inr ⟨W.go i G H R2.bg R2.gh hlt, fun σ H => ∃ e' G ad, I (i + 1) e' ∧ Rep K { B with G := G1 } e' σ G H ad, fun σ' H' q => ⟨m - 1, by omega, by omega, q⟩, fun x H' y => ?_⟩
      obtain ⟨G3, X3, rd⟩ := W.yld i G H x H' R2.bg R2.gh hlt y
      refine hs i e' hlt hi { B with G := G1 } σ G3 H' ad (R2.ext X3) x rd _ fun e4 σ4 G4 H4 ad4 q R4 => ?_
      refine q { B with G := G1 } hw { C with nx := fun σ H => ∃ e' G ad, I (i + 1) e' ∧ Rep K { B with G := G1 } e' σ G H ad, ct := fun σ H => ∃ e' G ad, I (i + 1) e' ∧ Rep K { B with G := G1 } e' σ G H ad, bk := C.nx } ⟨fun e5 σ5 G5 H5 ad5 q5 R5 => ⟨e5, G5, ad5, q5, R5⟩, fun a e5 v σ5 G5 H5 ad5 q5 R5 rv => co.rt a e5 v σ5 G5 H5 ad5 q5 (R1.unbase R5) rv, fun e5 σ5 G5 H5 ad5 q5 R5 => co.nx e5 σ5 G5 H5 ad5 q5 (R1.unbase R5), fun e5 σ5 G5 H5 ad5 q5 R5 => ⟨e5, G5, ad5, q5, R5⟩⟩ σ4 G4 H4 ad4 R4
    · have : i = n := by omega
      subst this
      exact .inl ⟨W.stop i G H R2.bg R2.gh (Nat.le_refl _), lift e' σ G H ad hi R2⟩
theorem AG.le (l : Le e e') {Q : Env → Prop} (h : AG K g a e' Q) : AG K g a e Q := fun B σ G H ad R v rv C c => h B σ G H ad (R.le l) v rv C c
/-- by its turns: E i the slots ahead of turn i -/
theorem as_forE {wi : TI} {n : Nat} {f : Nat → Ab.D} (E : Nat → Env) (h : AI K wi e n f) (h0 : Le e (E 0))
    (hs : ∀ i, i < n → AG K g (.d (f i)) (E i) fun e2 => AS K w t { D with nx := fun e' => Le e' (E (i + 1)), ct := fun e' => Le e' (E (i + 1)), bk := D.nx } e2) (hd : ∀ e', Le e' (E n) → D.nx e') : AS K w (tFor wi g t) D e :=
  as_for (fun i e' => Le e' (E i)) h h0 (fun i e' hi l => (hs i hi).le l) hd
/-- the same, what follows being a block -/
theorem as_forE_seq {wi : TI} {n : Nat} {f : Nat → Ab.D} (E : Nat → Env) (h : AI K wi e n f) (h0 : Le e (E 0))
    (hs : ∀ i, i < n → AG K g (.d (f i)) (E i) fun e2 => AS K w t { D with nx := fun e' => Le e' (E (i + 1)), ct := fun e' => Le e' (E (i + 1)), bk := fun e' => AS K w u D e' } e2) (hd : AS K w u D (E n)) : AS K w (tSeq (tFor wi g t) u) D e :=
  as_seq (as_forE E h h0 hs fun e' l => AS.le hd l)
theorem as_whileE_seq (n : Nat) (E : Nat → Env) (h0 : Le e (E 0)) (hc : ∀ i, i ≤ n → AT K c (E i) (decide (i < n)))
    (hs : ∀ i, i < n → AS K w t { D with nx := fun e2 => Le e2 (E (i + 1)), ct := fun e2 => Le e2 (E (i + 1)), bk := fun e' => AS K w u D e' } (E i)) (hd : AS K w u D (E n)) : AS K w (tSeq (tWhile c t) u) D e :=
  as_seq (as_whileE n E h0 hc hs fun e' l => AS.le hd l)
end
end Ab
namespace Ab
open PySem PySem.Spec PyProof.Rows L2
/-! ### texts as lists of signs -/
theorem sOf_len (s : List Nat) : (sOf s).length = s.length := List.size_toArray
theorem sOf_app (s t : List Nat) : sOf s ++ sOf t = sOf (s ++ t) := by
  show (⟨s.toArray ++ t.toArray⟩ : Str) = ⟨(s ++ t).toArray⟩
  rw [List.append_toArray]
theorem sOf_inj {s t : List Nat} (h : sOf s = sOf t) : s = t := by
  have := congrArg (fun z : Str => z.cps.toList) h
  simpa using this
theorem sOf_eq {z : Str} : sOf z.cps.toList = z := rfl
/-- the first place of a sign -/
def pos (c : Nat) : List Nat → Option Nat
  | [] => none
  | a :: r => if a = c then some 0 else (pos c r).map (· + 1)
theorem pos_none {c : Nat} : ∀ {s : List Nat}, pos c s = none → c ∉ s
  | [], _ => by simp
  | a :: r, h => by
    unfold pos at h
    by_cases e : a = c
    · rw [if_pos e] at h
      cases h
    · rw [if_neg e] at h
      cases q : pos c r with
      | some i =>
        rw [q] at h
        cases h
      | none =>
        intro m
        rcases List.mem_cons.mp m with z | z
        · exact e z.symm
        · exact pos_none q z
theorem pos_some {c : Nat} : ∀ {s : List Nat} {i : Nat}, pos c s = some i → s[i]? = some c ∧ ∀ k, k < i → s[k]? ≠ some c
  | [], _, h => by cases h
  | a :: r, i, h => by
    unfold pos at h
    by_cases e : a = c
    · rw [if_pos e] at h
      cases h
      exact ⟨by rw [e]; rfl, fun k hk => absurd hk (Nat.not_lt_zero _)⟩
    · rw [if_neg e] at h
      cases q : pos c r with
      | none =>
        rw [q] at h
        cases h
      | some j =>
        rw [q] at h
        cases h
        obtain ⟨h1, h2⟩ := pos_some q
        refine ⟨by simpa using h1, fun k hk => ?_⟩
        cases k with
        | zero =>
          show some a ≠ some c
          exact fun z => e (Option.some.inj z)
        | succ k =>
          have hk : k + 1 < j + 1 := hk
          have := h2 k (by omega)
          simpa using this
theorem pos_lt {c : Nat} {s : List Nat} {i : Nat} (h : pos c s = some i) : i < s.length := (List.getElem?_eq_some_iff.mp (pos_some h).1).1
theorem pos_uniq {c : Nat} {s : List Nat} {i : Nat} (h1 : s[i]? = some c) (h2 : ∀ k, k < i → s[k]? ≠ some c) : pos c s = some i := by
  cases q : pos c s with
  | none => exact absurd (List.mem_of_getElem? h1) (pos_none q)
  | some j =>
    obtain ⟨g1, g2⟩ := pos_some q
    rcases Nat.lt_trichotomy i j with h | h | h
    · exact absurd h1 (g2 i h)
    · rw [h]
    · exact absurd g1 (h2 j h)
theorem pos_mem {c : Nat} {s : List Nat} (h : c ∈ s) : ∃ i, pos c s = some i := by
  cases q : pos c s with
  | none => exact absurd h (pos_none q)
  | some i => exact ⟨i, rfl⟩
theorem at_sign {s : List Nat} {c i : Nat} : PySem.StrLaws.At (sOf s) (sOf [c]) (sOf s).length i ↔ s[i]? = some c := by
  have e : ((sOf s).cps.toList.drop i).take 1 = [c] ↔ s[i]? = some c := by
    show (s.drop i).take 1 = [c] ↔ s[i]? = some c
    constructor
    · intro h
      have h0 : ((s.drop i).take 1)[0]? = some c := by rw [h]; rfl
      rw [List.getElem?_take_of_lt (by omega), List.getElem?_drop, Nat.add_zero] at h0
      exact h0
    · intro h
      obtain ⟨hl, he⟩ := List.getElem?_eq_some_iff.mp h
      rw [List.drop_eq_getElem_cons hl, he]
      rfl
  constructor
  · intro h
    have h2 := h.2
    rw [PySem.StrLaws.subAt_eq] at h2
    exact e.mp (eq_of_beq h2)
  · intro h
    refine ⟨?_, ?_⟩
    · have := (List.getElem?_eq_some_iff.mp h).1
      rw [sOf_len, sOf_len]
      exact this
    · rw [PySem.StrLaws.subAt_eq]
      exact beq_iff_eq.mpr (e.mpr h)
theorem occ_sign (s : List Nat) (c : Nat) : (pos c s = none ∧ Builtin.Str.occurrences (sOf s) (sOf [c]) 0 (sOf s).length 1 = []) ∨ ∃ i r, pos c s = some i ∧ Builtin.Str.occurrences (sOf s) (sOf [c]) 0 (sOf s).length 1 = i :: r := by
  rcases PySem.StrLaws.occ_head (sOf s) (sOf [c]) 1 (Nat.le_refl _) with ⟨h0, hn⟩ | ⟨i, r, h0, ha, hn⟩
  · refine .inl ⟨?_, h0⟩
    cases q : pos c s with
    | none => rfl
    | some j => exact absurd (at_sign.mpr (pos_some q).1) (hn j)
  · exact .inr ⟨i, r, pos_uniq (at_sign.mp ha) fun k hk z => hn k hk (at_sign.mpr z), h0⟩
theorem find_sign (s : List Nat) (c : Nat) : Txt.find (sOf s) (sOf [c]) = match pos c s with | some i => (i : Int) | none => -1 := by
  unfold Txt.find
  rcases occ_sign s c with ⟨h1, h2⟩ | ⟨i, r, h1, h2⟩
  · rw [h1, h2]
  · rw [h1, h2]
theorem tl_join' (y : List Nat) (xs : List (List Nat)) : Txt.join (sOf y) (xs.map sOf) = sOf (TL.joinL y xs) := by
  have h : ∀ l : List (List Nat), (l.map sOf).map TL.tl = l := fun l => by
    rw [List.map_map]
    have : (TL.tl ∘ sOf) = id := rfl
    rw [this, List.map_id]
  have e := TL.tl_join (sOf y) (xs.map sOf)
  rw [h] at e
  show Builtin.Str.glued (sOf y) (xs.map sOf) = _
  rw [PySem.StrLaws.glued_eq_join]
  exact TL.ext_tl e
theorem joinL_nil : ∀ xs : List (List Nat), TL.joinL [] xs = xs.flatten
  | [] => rfl
  | [x] => by simp [TL.joinL]
  | x :: y :: r => by
    show x ++ ([] ++ TL.joinL [] (y :: r)) = _
    rw [joinL_nil (y :: r), List.nil_append]
    simp only [List.flatten_cons]

/-! ### what reads as a list, a tuple, a text -/
section
variable {K : PySem.W.Frag} {G H : Hp} {v : V}
theorem RD.strs : ∀ {vs : List V} {xs : List (List Nat)}, RDs K G vs (xs.map .str) → vs = xs.map fun x => V.str (sOf x)
  | _, [], .nil => rfl
  | _, x :: r, .cons a b => by
    cases a
    rw [RD.strs b]
    rfl
theorem RD.ints : ∀ {vs : List V} {xs : List Int}, RDs K G vs (xs.map .int) → vs = xs.map V.int
  | _, [], .nil => rfl
  | _, x :: r, .cons a b => by
    cases a
    rw [RD.ints b]
    rfl
theorem RDs.ofInts : ∀ (xs : List Int), RDs K G (xs.map V.int) (xs.map .int)
  | [] => .nil
  | _ :: r => .cons .int (RDs.ofInts r)
theorem RDs.ofStrs : ∀ (xs : List (List Nat)), RDs K G (xs.map fun x => V.str (sOf x)) (xs.map .str)
  | [] => .nil
  | _ :: r => .cons .str (RDs.ofStrs r)
end

section
variable {K : PySem.W.Frag} {e : Env} {ta tb te : TE} {x y z a b : A} {r : R2}
/-! ### numbers -/
theorem a2_I0 {g : Int → Int → V} {i j k : Int} (h : g i j = .int k := by rfl) : A2 K (rI0 g) (.d (.int i)) (.d (.int j)) e (.d (.int k)) := fun B σ G H ad R v w rv rw C c => by
  cases rv
  cases rw
  exact ⟨i, j, rfl, rfl, by rw [h]; exact c _ G H (Xt.refl R.gh) RD.int⟩
theorem a2_I0b {g : Int → Int → V} {i j : Int} {k : Bool} (h : g i j = .bl k := by rfl) : A2 K (rI0 g) (.d (.int i)) (.d (.int j)) e (.d (.bl k)) := fun B σ G H ad R v w rv rw C c => by
  cases rv
  cases rw
  exact ⟨i, j, rfl, rfl, by rw [h]; exact c _ G H (Xt.refl R.gh) RD.bl⟩
theorem a2_I {P : Int → Int → Prop} {g : Int → Int → V} {i j k : Int} (hc : P i j) (h : g i j = .int k := by rfl) : A2 K (rI P g) (.d (.int i)) (.d (.int j)) e (.d (.int k)) := fun B σ G H ad R v w rv rw C c => by
  cases rv
  cases rw
  exact ⟨i, j, rfl, rfl, hc, by rw [h]; exact c _ G H (Xt.refl R.gh) RD.int⟩
theorem a1_neg {i : Int} : A1 K (rU fun i => .int (-i)) (.d (.int i)) e (.d (.int (-i))) := fun B σ G H ad R v rv C c => by
  cases rv
  exact ⟨i, rfl, c _ G H (Xt.refl R.gh) RD.int⟩

/-! ### == of flat things, is None -/
def vOf : D → V
  | .non => .non
  | .bl b => .bl b
  | .int i => .int i
  | .str s => .str (sOf s)
  | _ => .ty ""
theorem RD.vOf {G : Hp} {v : V} {d : D} (h : RD K G v d) (hf : scal (vOf d) (vOf d) = true ∨ d = .non) : v = vOf d := by
  cases h with
  | lst _ _ => rcases hf with h | h <;> cases h
  | tup _ _ => rcases hf with h | h <;> cases h
  | kt _ => rcases hf with h | h <;> cases h
  | non => rfl
  | bl => rfl
  | int => rfl
  | str => rfl
def flat : D → Bool
  | .lst _ => false
  | .tup _ => false
  | .kt _ => false
  | _ => true
theorem RD.flat {G : Hp} {v : V} {d : D} (h : RD K G v d) (hf : flat d = true) : v = Ab.vOf d := by
  cases h with
  | lst _ _ => cases hf
  | tup _ _ => cases hf
  | kt _ => cases hf
  | non => rfl
  | bl => rfl
  | int => rfl
  | str => rfl
theorem a2_eq {p q : D} (hs : scal (vOf p) (vOf q) = true := by rfl) (hp : flat p = true := by rfl) (hq : flat q = true := by rfl) : A2 K rEq (.d p) (.d q) e (.d (.bl (decide (vOf p = vOf q)))) := fun B σ G H ad R v w rv rw C c => by
  rw [RD.flat rv hp, RD.flat rw hq]
  exact ⟨hs, c _ G H (Xt.refl R.gh) RD.bl⟩
theorem a2_ne {p q : D} (hs : scal (vOf p) (vOf q) = true := by rfl) (hp : flat p = true := by rfl) (hq : flat q = true := by rfl) : A2 K rNe (.d p) (.d q) e (.d (.bl (!decide (vOf p = vOf q)))) := fun B σ G H ad R v w rv rw C c => by
  rw [RD.flat rv hp, RD.flat rw hq]
  exact ⟨hs, c _ G H (Xt.refl R.gh) RD.bl⟩
theorem dec_int (i j : Int) : decide (vOf (.int i) = vOf (.int j)) = decide (i = j) := by
  rw [decide_eq_decide]
  exact ⟨fun h => V.int.inj h, fun h => by rw [h]⟩
theorem dec_str (s t : List Nat) : decide (vOf (.str s) = vOf (.str t)) = decide (s = t) := by
  rw [decide_eq_decide]
  exact ⟨fun h => sOf_inj (V.str.inj h), fun h => by rw [h]⟩
theorem dec_bl (s t : Bool) : decide (vOf (.bl s) = vOf (.bl t)) = decide (s = t) := by
  rw [decide_eq_decide]
  exact ⟨fun h => V.bl.inj h, fun h => by rw [h]⟩
theorem a2_eqI {i j : Int} : A2 K rEq (.d (.int i)) (.d (.int j)) e (.d (.bl (decide (i = j)))) := dec_int i j ▸ a2_eq
theorem a2_neI {i j : Int} : A2 K rNe (.d (.int i)) (.d (.int j)) e (.d (.bl (!decide (i = j)))) := dec_int i j ▸ a2_ne
theorem a2_eqS {i j : List Nat} : A2 K rEq (.d (.str i)) (.d (.str j)) e (.d (.bl (decide (i = j)))) := dec_str i j ▸ a2_eq
theorem a2_neS {i j : List Nat} : A2 K rNe (.d (.str i)) (.d (.str j)) e (.d (.bl (!decide (i = j)))) := dec_str i j ▸ a2_ne
theorem a2_eqB {i j : Bool} : A2 K rEq (.d (.bl i)) (.d (.bl j)) e (.d (.bl (decide (i = j)))) := dec_bl i j ▸ a2_eq
theorem a2_neB {i j : Bool} : A2 K rNe (.d (.bl i)) (.d (.bl j)) e (.d (.bl (!decide (i = j)))) := dec_bl i j ▸ a2_ne
def isN : D → Bool
  | .non => true
  | _ => false
theorem RD.isN {G : Hp} {v : V} {d : D} (h : RD K G v d) : decide (v = .non) = isN d := by cases h <;> rfl
theorem a2_isN {d : D} : A2 K (fun x y H Q => y = .non ∧ Q (.bl (decide (x = .non))) H) (.d d) (.d .non) e (.d (.bl (isN d))) := fun B σ G H ad R v w rv rw C c => by
  cases rw
  have q := RD.isN rv
  exact ⟨rfl, by rw [q]; exact c _ G H (Xt.refl R.gh) RD.bl⟩
theorem a2_notN {d : D} : A2 K (fun x y H Q => y = .non ∧ Q (.bl (!decide (x = .non))) H) (.d d) (.d .non) e (.d (.bl (!isN d))) := fun B σ G H ad R v w rv rw C c => by
  cases rw
  have q := RD.isN rv
  exact ⟨rfl, by rw [q]; exact c _ G H (Xt.refl R.gh) RD.bl⟩

/-! ### texts -/
theorem a2_addS {s t : List Nat} (hl : s.length + t.length ≤ 1000000) : A2 K (fun x y H Q => ∃ i j, x = .str i ∧ y = .str j ∧ i.length + j.length ≤ sizeLine ∧ Q (.str (i ++ j)) H) (.d (.str s)) (.d (.str t)) e (.d (.str (s ++ t))) := fun B σ G H ad R v w rv rw C c => by
  cases rv
  cases rw
  refine ⟨sOf s, sOf t, rfl, rfl, sz_of (by rw [sOf_len, sOf_len]; exact hl), ?_⟩
  rw [sOf_app]
  exact c _ G H (Xt.refl R.gh) RD.str
theorem a2_inS {s : List Nat} {ch : Nat} : A2 K (fun x y H Q => ∃ (c : Nat) (z : Str), x = .str ⟨#[c]⟩ ∧ y = .str z ∧ Q (.bl (decide (c ∈ z.cps.toList))) H) (.d (.str [ch])) (.d (.str s)) e (.d (.bl (decide (ch ∈ s)))) := fun B σ G H ad R v w rv rw C c => by
  cases rv
  cases rw
  exact ⟨ch, sOf s, rfl, rfl, c _ G H (Xt.refl R.gh) RD.bl⟩
theorem a2_notInS {s : List Nat} {ch : Nat} : A2 K (fun x y H Q => ∃ (c : Nat) (z : Str), x = .str ⟨#[c]⟩ ∧ y = .str z ∧ Q (.bl (!decide (c ∈ z.cps.toList))) H) (.d (.str [ch])) (.d (.str s)) e (.d (.bl (!decide (ch ∈ s)))) := fun B σ G H ad R v w rv rw C c => by
  cases rv
  cases rw
  exact ⟨ch, sOf s, rfl, rfl, c _ G H (Xt.refl R.gh) RD.bl⟩
theorem ae_m1 {r : V → List V → Hp → VK → Prop} {s : List Nat} (ho : AE K ta e (.d (.str s))) (hb : AE K tb e y) (hr : AM K r (.d (.str s)) [y] e z) : AE K (tM1 r ta tb) e z := fun B σ G H ad R C c =>
  ho B σ G H ad R _ fun v G1 H1 X1 r1 => by
    refine ⟨by cases r1; exact ⟨_, rfl⟩, hb B σ G1 H1 ad (R.ext X1) _ fun w G2 H2 X2 r2 => ?_⟩
    exact hr B σ G2 H2 ad ((R.ext X1).ext X2) v [w] (r1.mono X2.gg) (.cons r2 .nil) C fun u G3 H3 X3 r3 => c u G3 H3 ((X1.trans X2).trans X3) r3
theorem am_find {s : List Nat} {ch : Nat} : AM K (fun x xs H Q => ∃ a b, x = .str a ∧ xs = [.str b] ∧ Q (.int (Txt.find a b)) H) (.d (.str s)) [.d (.str [ch])] e (.d (.int (match pos ch s with | some i => (i : Int) | none => -1))) := fun B σ G H ad R v vs rv rvs C c => by
  cases rv
  cases rvs with
  | cons h1 h2 =>
    cases h2
    cases h1
    refine ⟨sOf s, sOf [ch], rfl, rfl, ?_⟩
    rw [find_sign]
    exact c _ G H (Xt.refl R.gh) RD.int
theorem am_index {s : List Nat} {ch i : Nat} (hi : pos ch s = some i) : AM K (fun x xs H Q => ∃ a b i rest, x = .str a ∧ xs = [.str b] ∧ Builtin.Str.occurrences a b 0 a.length 1 = i :: rest ∧ Q (.int (i : Nat)) H) (.d (.str s)) [.d (.str [ch])] e (.d (.int (i : Nat))) := fun B σ G H ad R v vs rv rvs C c => by
  cases rv
  cases rvs with
  | cons h1 h2 =>
    cases h2
    cases h1
    rcases occ_sign s ch with ⟨k1, k2⟩ | ⟨j, r, k1, k2⟩
    · rw [hi] at k1
      cases k1
    · rw [hi] at k1
      cases k1
      exact ⟨sOf s, sOf [ch], i, r, rfl, rfl, k2, c _ G H (Xt.refl R.gh) RD.int⟩
theorem am_join {s : List Nat} {xs : List (List Nat)} (hz : (xs.map (·.length)).sum + xs.length * s.length ≤ 1000000) :
    AM K (fun x xs H Q => ∃ a p, ∃ ys : List Str, x = .str a ∧ xs = [.ref p] ∧ (SqL K H p (ys.map V.str) ∨ SqT K H p (ys.map V.str)) ∧ (ys.map (·.length)).sum + ys.length * a.length ≤ 16777216 ∧ Q (.str (Txt.join a ys)) H)
      (.d (.str s)) [.d (.lst (xs.map .str))] e (.d (.str (TL.joinL s xs))) := fun B σ G H ad R v vs rv rvs C c => by
  cases rv
  cases rvs with
  | cons h1 h2 =>
    cases h2
    cases h1 with
    | lst hq rd =>
      have e1 := RD.strs rd
      refine ⟨sOf s, _, xs.map sOf, rfl, rfl, .inl (.inl (.inl ?_)), ?_, ?_⟩
      · rw [List.map_map]
        have : (V.str ∘ sOf) = fun x => V.str (sOf x) := rfl
        rw [this, ← e1]
        exact R.gh _ _ hq
      · rw [List.map_map, List.length_map, sOf_len]
        have : (fun x : Str => x.length) ∘ sOf = fun x : List Nat => x.length := by
          funext l
          exact sOf_len l
        rw [this]
        omega
      · rw [tl_join']
        exact c _ G H (Xt.refl R.gh) RD.str
/-- the same of an own list -/
theorem am_joinO {s : List Nat} {xs : List (List Nat)} {k : Nat} (hk : e.m[k]? = some (some (.lst (xs.map .str)))) (hz : (xs.map (·.length)).sum + xs.length * s.length ≤ 1000000) :
    AM K (fun x xs H Q => ∃ a p, ∃ ys : List Str, x = .str a ∧ xs = [.ref p] ∧ (SqL K H p (ys.map V.str) ∨ SqT K H p (ys.map V.str)) ∧ (ys.map (·.length)).sum + ys.length * a.length ≤ 16777216 ∧ Q (.str (Txt.join a ys)) H)
      (.d (.str s)) [.o k] e (.d (.str (TL.joinL s xs))) := fun B σ G H ad R v vs rv rvs C c => by
  cases rv
  cases rvs with
  | cons h1 h2 =>
    cases h2
    obtain ⟨l, hl, rfl⟩ := h1
    obtain ⟨_, _, vs, hq, rd⟩ := R.op k l _ hl hk
    have e1 := RD.strs rd
    refine ⟨sOf s, _, xs.map sOf, rfl, rfl, .inl (.inl (.inl ?_)), ?_, ?_⟩
    · rw [List.map_map]
      have : (V.str ∘ sOf) = fun x => V.str (sOf x) := rfl
      rw [this, ← e1]
      exact hq
    · rw [List.map_map, List.length_map, sOf_len]
      have : (fun x : Str => x.length) ∘ sOf = fun x : List Nat => x.length := by
        funext l
        exact sOf_len l
      rw [this]
      omega
    · rw [tl_join']
      exact c _ G H (Xt.refl R.gh) RD.str

/-! ### places -/
theorem atI_len {α β : Type} {xs : List α} {ys : List β} (h : xs.length = ys.length) (i : Int) : (atI xs i).isSome = (atI ys i).isSome := by
  unfold atI
  rw [h]
  cases q : ixN ys.length i with
  | none => rfl
  | some j =>
    show (xs[j]?).isSome = (ys[j]?).isSome
    have hj := (ixN_seq q).2.1
    rw [List.getElem?_eq_getElem (by omega), List.getElem?_eq_getElem hj]
    rfl
theorem RDs.atI {G : Hp} {vs : List V} {ds : List D} {i : Int} {d : D} (h : RDs K G vs ds) (q : atI ds i = some d) : ∃ v, L2.atI vs i = some v ∧ RD K G v d := by
  unfold L2.atI at q ⊢
  rw [h.length]
  cases z : ixN ds.length i with
  | none =>
    rw [z] at q
    cases q
  | some j =>
    rw [z] at q
    obtain ⟨v, h1, h2⟩ := h.get (show ds[j]? = some d from q)
    exact ⟨v, h1, h2⟩
theorem a2_ixL {ds : List D} {i : Int} {d : D} (h : atI ds i = some d) : A2 K (rIxL K) (.d (.lst ds)) (.d (.int i)) e (.d d) := fun B σ G H ad R v w rv rw C c => by
  cases rw
  cases rv with
  | lst hq rd =>
    obtain ⟨u, h1, h2⟩ := rd.atI h
    exact ⟨_, _, i, u, rfl, rfl, .inl (.inl (R.gh _ _ hq)), h1, c _ G H (Xt.refl R.gh) h2⟩
theorem a2_ixO {k : Nat} {ds : List D} {i : Int} {d : D} (hk : e.m[k]? = some (some (.lst ds))) (h : atI ds i = some d) : A2 K (rIxL K) (.o k) (.d (.int i)) e (.d d) := fun B σ G H ad R v w rv rw C c => by
  cases rw
  obtain ⟨l, hl, rfl⟩ := rv
  obtain ⟨_, _, vs, hq, rd⟩ := R.op k l _ hl hk
  obtain ⟨u, h1, h2⟩ := rd.atI h
  exact ⟨_, _, i, u, rfl, rfl, .inl (.inl hq), h1, c _ G H (Xt.refl R.gh) h2⟩
theorem a2_ixT {ds : List D} {i : Int} {d : D} (h : atI ds i = some d) : A2 K (rIxT K) (.d (.tup ds)) (.d (.int i)) e (.d d) := fun B σ G H ad R v w rv rw C c => by
  cases rw
  cases rv with
  | tup hq rd =>
    obtain ⟨u, h1, h2⟩ := rd.atI h
    exact ⟨_, _, i, u, rfl, rfl, seqT R.gh hq, h1, c _ G H (Xt.refl R.gh) h2⟩
theorem a2_ixS {s : List Nat} {i : Int} {ch : Nat} (hl : s.length ≤ 1000000) (h : atI s i = some ch) : A2 K rIxS (.d (.str s)) (.d (.int i)) e (.d (.str [ch])) := fun B σ G H ad R v w rv rw C c => by
  cases rw
  cases rv
  exact ⟨sOf s, i, ch, rfl, rfl, sz_of (by rw [sOf_len]; exact hl), h, c _ G H (Xt.refl R.gh) (RD.str (s := [ch]))⟩

/-! ### slices -/
def cutG {α : Type} (xs : List α) (lo hi : Option Int) : List α := (xs.drop (HT.sIx xs.length 0 lo)).take (HT.sIx xs.length xs.length hi - HT.sIx xs.length 0 lo)
def AO (K : PySem.W.Frag) (to : TO) (e : Env) (o : Option Int) : Prop := ∀ (B : Bs) (σ : L2.St) (G H : Hp) (ad : List Addr), Rep K B e σ G H ad → ∀ C : Option Int → Hp → Prop, (∀ G' H', Xt G H G' H' → C o H') → to σ H C
theorem ao_none : AO K tNoPart e none := fun B σ G H ad R C c => c G H (Xt.refl R.gh)
theorem ao_some {i : Int} (h : AE K te e (.d (.int i))) : AO K (tPart te) e (some i) := fun B σ G H ad R C c =>
  h B σ G H ad R _ fun v G1 H1 X1 r1 => by
    cases r1
    exact ⟨i, rfl, c G1 H1 X1⟩
theorem RDs.cut {G : Hp} {vs : List V} {ds : List D} (h : RDs K G vs ds) (lo hi : Option Int) : RDs K G (cutV vs lo hi) (cutG ds lo hi) := by
  unfold cutV cutG
  rw [h.length]
  exact (h.drop _).take _
theorem an_slL {tl th : TO} {ds : List D} {lo hi : Option Int} (h : AE K te e (.d (.lst ds))) (h1 : AO K tl e lo) (h2 : AO K th e hi) : AN K (tSl (rSlL K) te tl th) e (cutG ds lo hi) := fun B σ G H ad R C c =>
  h B σ G H ad R _ fun v G1 H1 X1 r1 => h1 B σ G1 H1 ad (R.ext X1) _ fun G2 H2 X2 => h2 B σ G2 H2 ad ((R.ext X1).ext X2) _ fun G3 H3 X3 => by
    cases r1 with
    | lst hq rd =>
      have X := (X1.trans X2).trans X3
      refine ⟨_, _, rfl, .inl (.inl (X3.hh _ _ (X2.hh _ _ (X1.gh _ _ hq)))), fun p hp => ?_⟩
      exact c p _ G3 _ (X.trans (Xt.drop X3.gh hp)) (Same.none X.hh hp) (Same.none X3.gh hp) upd_same ((rd.mono (X2.trans X3).gg).cut lo hi)
theorem an_slO {tl th : TO} {k : Nat} {ds : List D} {lo hi : Option Int} (hk : e.m[k]? = some (some (.lst ds))) (h : AE K te e (.o k)) (h1 : AO K tl e lo) (h2 : AO K th e hi) : AN K (tSl (rSlL K) te tl th) e (cutG ds lo hi) := fun B σ G H ad R C c =>
  h B σ G H ad R _ fun v G1 H1 X1 r1 => h1 B σ G1 H1 ad (R.ext X1) _ fun G2 H2 X2 => h2 B σ G2 H2 ad ((R.ext X1).ext X2) _ fun G3 H3 X3 => by
    obtain ⟨l, hl, rfl⟩ := r1
    obtain ⟨_, _, vs, hq, rd⟩ := (((R.ext X1).ext X2).ext X3).op k l _ hl hk
    have X := (X1.trans X2).trans X3
    refine ⟨_, _, rfl, .inl (.inl hq), fun p hp => ?_⟩
    exact c p _ G3 _ (X.trans (Xt.drop X3.gh hp)) (Same.none X.hh hp) (Same.none X3.gh hp) upd_same (rd.cut lo hi)
theorem cutS_sOf (s : List Nat) (lo hi : Option Int) : cutS (sOf s) lo hi = sOf (cutG s lo hi) := by
  unfold cutS cutG
  rw [sOf_len]
theorem ae_slS {tl th : TO} {s : List Nat} {lo hi : Option Int} (h : AE K te e (.d (.str s))) (hz : s.length ≤ 1000000) (h1 : AO K tl e lo) (h2 : AO K th e hi) : AE K (tSl rSlS te tl th) e (.d (.str (cutG s lo hi))) := fun B σ G H ad R C c =>
  h B σ G H ad R _ fun v G1 H1 X1 r1 => h1 B σ G1 H1 ad (R.ext X1) _ fun G2 H2 X2 => h2 B σ G2 H2 ad ((R.ext X1).ext X2) _ fun G3 H3 X3 => by
    cases r1
    refine ⟨sOf s, rfl, sz_of (by rw [sOf_len]; exact hz), ?_⟩
    rw [cutS_sOf]
    exact c _ G3 H3 ((X1.trans X2).trans X3) RD.str

/-! ### calls of built-ins -/
theorem rv1 {G : Hp} {ad : List Addr} {vs : List V} {a : A} (h : RepVs K G ad vs [a]) : ∃ v, vs = [v] ∧ RepV K G ad v a := by
  cases h with
  | cons q r => cases r; exact ⟨_, rfl, q⟩
theorem rv2 {G : Hp} {ad : List Addr} {vs : List V} {a b : A} (h : RepVs K G ad vs [a, b]) : ∃ v w, vs = [v, w] ∧ RepV K G ad v a ∧ RepV K G ad w b := by
  cases h with
  | cons q r =>
    obtain ⟨w, rfl, q2⟩ := rv1 r
    exact ⟨_, _, rfl, q, q2⟩
abbrev rLenG (K : PySem.W.Frag) : List V → Hp → VK → Prop := fun xs H Q => ∃ x n, xs = [x] ∧ LenV K x H n ∧ Q (.int n) H
theorem ac_lenL {ds : List D} : AC K (rLenG K) [.d (.lst ds)] e (.d (.int ds.length)) := fun B σ G H ad R vs rv C c => by
  obtain ⟨v, rfl, rw⟩ := rv1 rv
  cases rw with
  | lst hq rd => exact ⟨_, ds.length, rfl, .inl ⟨_, .inl (.inl (R.gh _ _ hq)), rd.length.symm⟩, c _ G H (Xt.refl R.gh) RD.int⟩
theorem ac_lenT {ds : List D} : AC K (rLenG K) [.d (.tup ds)] e (.d (.int ds.length)) := fun B σ G H ad R vs rv C c => by
  obtain ⟨v, rfl, rw⟩ := rv1 rv
  cases rw with
  | tup hq rd => exact ⟨_, ds.length, rfl, .inr ⟨_, seqT R.gh hq, rd.length.symm⟩, c _ G H (Xt.refl R.gh) RD.int⟩
theorem ac_lenO {k : Nat} {ds : List D} (hk : e.m[k]? = some (some (.lst ds))) : AC K (rLenG K) [.o k] e (.d (.int ds.length)) := fun B σ G H ad R vs rv C c => by
  obtain ⟨v, rfl, l, hl, rfl⟩ := rv1 rv
  obtain ⟨_, _, vs, hq, rd⟩ := R.op k l _ hl hk
  exact ⟨_, ds.length, rfl, .inl ⟨_, .inl (.inl hq), rd.length.symm⟩, c _ G H (Xt.refl R.gh) RD.int⟩
theorem ac_lenS {s : List Nat} (hz : s.length ≤ 1000000) : AC K (rLenG K) [.d (.str s)] e (.d (.int s.length)) := fun B σ G H ad R vs rv C c => by
  obtain ⟨v, rfl, rw⟩ := rv1 rv
  cases rw
  exact ⟨_, s.length, rfl, ⟨sz_of (by rw [sOf_len]; exact hz), (sOf_len s).symm⟩, c _ G H (Xt.refl R.gh) RD.int⟩
theorem ac_intB {b : Bool} : AC K (fun xs H Q => (∃ i, xs = [.int i] ∧ Q (.int i) H) ∨ ∃ k, xs = [.bl k] ∧ Q (.int (if k then 1 else 0)) H) [.d (.bl b)] e (.d (.int (if b = true then 1 else 0))) := fun B σ G H ad R vs rv C c => by
  obtain ⟨v, rfl, rw⟩ := rv1 rv
  cases rw
  exact .inr ⟨b, rfl, c _ G H (Xt.refl R.gh) RD.int⟩
theorem ac_intI {b : Int} : AC K (fun xs H Q => (∃ i, xs = [.int i] ∧ Q (.int i) H) ∨ ∃ k, xs = [.bl k] ∧ Q (.int (if k then 1 else 0)) H) [.d (.int b)] e (.d (.int b)) := fun B σ G H ad R vs rv C c => by
  obtain ⟨v, rfl, rw⟩ := rv1 rv
  cases rw
  exact .inl ⟨b, rfl, c _ G H (Xt.refl R.gh) RD.int⟩
theorem ac_min2 {i j : Int} : AC K (fun xs H Q => ∃ i j, xs = [.int i, .int j] ∧ Q (.int (if j < i then j else i)) H) [.d (.int i), .d (.int j)] e (.d (.int (if j < i then j else i))) := fun B σ G H ad R vs rv C c => by
  obtain ⟨v, w, rfl, ru, rw⟩ := rv2 rv
  cases ru
  cases rw
  exact ⟨i, j, rfl, c _ G H (Xt.refl R.gh) RD.int⟩
abbrev rListG (K : PySem.W.Frag) : List V → Hp → VK → Prop := fun xs H Q => ∃ p ys, xs = [.ref p] ∧ (SqL K H p ys ∨ SqT K H p ys) ∧ ∀ l, H l = none → Q (.ref l) (upd H l (.lst ys))
theorem nc_list {ds : List D} : NC K (rListG K) [.d (.lst ds)] e ds := fun B σ G H ad R vs rv C c => by
  obtain ⟨v, rfl, rw⟩ := rv1 rv
  cases rw with
  | lst hq rd => exact ⟨_, _, rfl, .inl (.inl (.inl (R.gh _ _ hq))), fun l hl => c l _ G _ (Xt.drop R.gh hl) hl (Same.none R.gh hl) upd_same rd⟩
theorem nc_listO {k : Nat} {ds : List D} (hk : e.m[k]? = some (some (.lst ds))) : NC K (rListG K) [.o k] e ds := fun B σ G H ad R vs rv C c => by
  obtain ⟨v, rfl, l, hl, rfl⟩ := rv1 rv
  obtain ⟨_, _, vs, hq, rd⟩ := R.op k l _ hl hk
  exact ⟨_, _, rfl, .inl (.inl (.inl hq)), fun l hl => c l _ G _ (Xt.drop R.gh hl) hl (Same.none R.gh hl) upd_same rd⟩
/-- list + list, both tracked -/
theorem n2_cat {xs ys : List D} (hz : xs.length + ys.length ≤ 1000000) : N2 K rCat (.d (.lst xs)) (.d (.lst ys)) e (xs ++ ys) := fun B σ G H ad R v w rv rw C c => by
  cases rv with
  | lst hq rd =>
    cases rw with
    | lst hq2 rd2 =>
      refine ⟨_, _, _, _, rfl, rfl, R.gh _ _ hq, R.gh _ _ hq2, sz_of (by rw [rd.length, rd2.length]; exact hz), fun p hp => ?_⟩
      exact c p _ G _ (Xt.drop R.gh hp) hp (Same.none R.gh hp) upd_same (rd.append rd2)
/-- [..] * k -/
theorem n2_rep {xs : List D} {k : Int} (h0 : -(2 ^ 63) ≤ k) (h1 : k < 2 ^ 63) (hz : xs.length * k.toNat ≤ 1000000) : N2 K rRep (.d (.lst xs)) (.d (.int k)) e (List.replicate k.toNat xs).flatten := fun B σ G H ad R v w rv rw C c => by
  cases rw
  cases rv with
  | lst hq rd =>
    refine ⟨_, k, _, rfl, rfl, R.gh _ _ hq, h0, h1, sz_of (by rw [rd.length]; exact hz), fun p hp => ?_⟩
    refine c p _ G _ (Xt.drop R.gh hp) hp (Same.none R.gh hp) upd_same ?_
    generalize k.toNat = n
    induction n with
    | zero => exact .nil
    | succ n ih =>
      rw [List.replicate_succ, List.replicate_succ, List.flatten_cons, List.flatten_cons]
      exact rd.append ih

/-! ### isinstance -/
theorem ae_ty {n : String} : AE K (tC (.ty n)) e (.p fun v _ => v = .ty n) := fun B σ G H ad R C c => c _ G H (Xt.refl R.gh) fun _ _ => rfl
def tyD : D → String
  | .non => "NoneType"
  | .bl _ => "bool"
  | .int _ => "int"
  | .str _ => "str"
  | .lst _ => "list"
  | .tup _ => "tuple"
  | .kt _ => "tuple"
theorem tyX_of {G H : Hp} {v : V} {d : D} (h : RD K G v d) (s : Same G H) : TyX K H v (.type (tyD d)) := by
  cases h with
  | non => exact .base .non
  | bl => exact .base (.bl _)
  | int => exact .base (.int _)
  | str => exact .base (.str _)
  | lst hq rd => exact .base (.lst (s _ _ hq))
  | tup hq rd =>
    rcases hq with (hq | ⟨o, hq⟩) | ⟨o, its, n, h1, h2, _⟩
    · exact .base (.tup (s _ _ hq))
    · exact .fTuple (s _ _ hq)
    · exact .kTuple h1 h2
  | kt hq => exact .base (.tup (s _ _ hq))
theorem ac_isi {d : D} {n : String} {b : Bool} (h : kitB (tyD d) n = some b) : AC K (rIsi K) [.d d, .p fun v _ => v = .ty n] e (.d (.bl b)) := fun B σ G H ad R vs rv C c => by
  obtain ⟨v, w, rfl, ru, rw⟩ := rv2 rv
  have e1 : w = .ty n := rw G (Same.refl _)
  subst e1
  exact ⟨v, .ty n, _, _, b, rfl, .ty n, tyX_of ru R.gh, kit_ty h, c _ G H (Xt.refl R.gh) RD.bl⟩
theorem ac_isiO {k : Nat} {ds : List D} (hk : e.m[k]? = some (some (.lst ds))) {n : String} {b : Bool} (h : kitB "list" n = some b) : AC K (rIsi K) [.o k, .p fun v _ => v = .ty n] e (.d (.bl b)) := fun B σ G H ad R vs rv C c => by
  obtain ⟨v, w, rfl, ru, rw⟩ := rv2 rv
  obtain ⟨l, hl, rfl⟩ := ru
  obtain ⟨_, _, vs, hq, rd⟩ := R.op k l _ hl hk
  have e1 : w = .ty n := rw G (Same.refl _)
  subst e1
  exact ⟨_, .ty n, _, _, b, rfl, .ty n, .base (.lst hq), kit_ty h, c _ G H (Xt.refl R.gh) RD.bl⟩

/-! ### truth of a list, a text, a number -/
theorem at_tr {d : D} {b : Bool} (h : AE K te e (.d d)) (hb : ∀ G H v, Same G H → RD K G v d → TruV K v H b) : AT K (fun σ H Q => te σ H fun x H' => ∃ k, TruV K x H' k ∧ Q k H') e b := fun B σ G H ad R C c =>
  h B σ G H ad R _ fun v G1 H1 X1 r1 => ⟨b, hb G1 H1 v X1.gh r1, c G1 H1 X1⟩
theorem at_trL {ds : List D} (h : AE K te e (.d (.lst ds))) : AT K (fun σ H Q => te σ H fun x H' => ∃ k, TruV K x H' k ∧ Q k H') e (!ds.isEmpty) := at_tr h fun G H v s r => by
  cases r with
  | lst hq rd =>
    refine .inl ⟨_, .inl (.inl (s _ _ hq)), ?_⟩
    cases rd <;> rfl
theorem at_trO {k : Nat} {ds : List D} (hk : e.m[k]? = some (some (.lst ds))) (h : AE K te e (.o k)) : AT K (fun σ H Q => te σ H fun x H' => ∃ k, TruV K x H' k ∧ Q k H') e (!ds.isEmpty) := fun B σ G H ad R C c =>
  h B σ G H ad R _ fun v G1 H1 X1 r1 => by
    obtain ⟨l, hl, rfl⟩ := r1
    obtain ⟨_, _, vs, hq, rd⟩ := (R.ext X1).op k l _ hl hk
    refine ⟨!ds.isEmpty, .inl ⟨_, .inl (.inl hq), ?_⟩, c G1 H1 X1⟩
    cases rd <;> rfl
theorem at_trI {i : Int} (h : AE K te e (.d (.int i))) : AT K (fun σ H Q => te σ H fun x H' => ∃ k, TruV K x H' k ∧ Q k H') e (i != 0) := at_tr h fun G H v s r => by
  cases r
  rfl
theorem at_trN {d : D} (h : AE K te e (.d d)) (hd : (match d with | .non => false | .tup [] => false | .lst _ => false | .str _ => false | .bl _ => false | .int _ => false | .kt _ => false | _ => true) = true) : AT K (fun σ H Q => te σ H fun x H' => ∃ k, TruV K x H' k ∧ Q k H') e true := at_tr h fun G H v s r => by
  cases r with
  | tup hq rd =>
    refine .inr (.inl ⟨_, seqT s hq, ?_⟩)
    cases rd with
    | nil => cases hd
    | cons _ _ => rfl
  | _ => cases hd
end

/-! ### == of any data -/
mutual
def D.py : D → PyData
  | .non => .none
  | .bl b => .bool b
  | .int i => .int i
  | .str s => .str (sOf s)
  | .lst ds => .list (D.pys ds)
  | .tup ds => .tuple (D.pys ds)
  | .kt ns => .tuple (ns.map PyData.int)
def D.pys : List D → List PyData
  | [] => []
  | d :: r => D.py d :: D.pys r
end
theorem dpAll_ints {K : PySem.W.Frag} {G : Hp} : ∀ ns : List Int, DpAll K G (ns.map V.int) (ns.map PyData.int)
  | [] => .nil
  | _ :: r => .cons (.int _) (dpAll_ints r)
mutual
theorem RD.dp {K : PySem.W.Frag} {G : Hp} : ∀ {v : V} {d : D}, RD K G v d → Dp K G v d.py
  | _, _, .non => .non
  | _, _, .bl => .bl _
  | _, _, .int => .int _
  | _, _, .str => .str _
  | _, _, .lst h r => .lst (.inl (.inl h)) (RDs.dp r)
  | _, _, .tup h r => .tup h (RDs.dp r)
  | _, _, .kt h => .tup (.inl (.inl h)) (dpAll_ints _)
theorem RDs.dp {K : PySem.W.Frag} {G : Hp} : ∀ {v : List V} {d : List D}, RDs K G v d → DpAll K G v (D.pys d)
  | _, _, .nil => .nil
  | _, _, .cons h r => .cons (RD.dp h) (RDs.dp r)
end
/-- data that == can compare -/
def okD (d : D) : Prop := SeqAt.shaped d.py = true
theorem a2_eqD {K : PySem.W.Frag} {e : Env} {p q : D} (hp : okD p) (hq : okD q) : A2 K (rEqD K) (.d p) (.d q) e (.d (.bl (PyData.eqv p.py q.py))) := fun B σ G H ad R v w rv rw C c =>
  ⟨p.py, q.py, (RD.mono R.gh rv).dp, (RD.mono R.gh rw).dp, hp, hq, c _ G H (Xt.refl R.gh) RD.bl⟩
theorem a2_neD {K : PySem.W.Frag} {e : Env} {p q : D} (hp : okD p) (hq : okD q) : A2 K (rNeD K) (.d p) (.d q) e (.d (.bl (!PyData.eqv p.py q.py))) := fun B σ G H ad R v w rv rw C c =>
  ⟨p.py, q.py, (RD.mono R.gh rv).dp, (RD.mono R.gh rw).dp, hp, hq, c _ G H (Xt.refl R.gh) RD.bl⟩
theorem eqv_same {d : D} (h : okD d) : PyData.eqv d.py d.py = true := SeqAt.eqv_refl _ (SeqAt.canLay_of_shaped h)
theorem a2_eqSame {K : PySem.W.Frag} {e : Env} {p : D} (hp : okD p) : A2 K (rEqD K) (.d p) (.d p) e (.d (.bl true)) := eqv_same hp ▸ a2_eqD hp hp
theorem a2_neSame {K : PySem.W.Frag} {e : Env} {p : D} (hp : okD p) : A2 K (rNeD K) (.d p) (.d p) e (.d (.bl false)) := by
  have h := a2_neD (K := K) (e := e) hp hp
  rw [eqv_same hp] at h
  exact h
end Ab
namespace Ab
open PySem PySem.Spec PyProof.Rows L2

/-! ### promises -/
/-- a value, nothing changed -/
def SpF (K : PySem.W.Frag) (R : List A → A → Prop) : Sp := fun vs H Q _ => ∃ G as r, Same G H ∧ RepVs K G [] vs as ∧ R as r ∧ ∀ v G' H', Xt G H G' H' → RepV K G' [] v r → Q v H'
/-- a new list, nothing changed -/
def SpN (K : PySem.W.Frag) (R : List A → List D → Prop) : Sp := fun vs H Q _ => ∃ G as ds, Same G H ∧ RepVs K G [] vs as ∧ R as ds ∧
  ∀ p ws G' H', Xt G H G' H' → H p = none → G' p = none → H' p = some (.lst ws) → RDs K G' ws ds → Q (.ref p) H'
/-- one own list of the caller's is changed (it is .o 0 among the arguments) -/
def Sp1 (K : PySem.W.Frag) (R : List A → List D → A → List D → Prop) : Sp := fun vs H Q _ => ∃ G l as xs ds r ds', Same G H ∧ RepVs K G [l] vs as ∧ G l = none ∧ H l = some (.lst xs) ∧ RDs K G xs ds ∧ R as ds r ds' ∧
  ∀ v G' H' xs', Same G G' → Same G' H' → (∀ a o, H a = some o → a ≠ l → H' a = some o) → (∀ a, G' a ≠ none → G a ≠ none ∨ H a = none) → H' l = some (.lst xs') → RDs K G' xs' ds' → RepV K G' [] v r → Q v H'

def noO : A → Bool
  | .o _ => false
  | _ => true
theorem RepV.any {K : PySem.W.Frag} {G : Hp} {ad ad' : List Addr} {v : V} {a : A} (h : RepV K G ad v a) (n : noO a = true) : RepV K G ad' v a := by
  cases a with
  | o k => cases n
  | no => trivial
  | d x => exact h
  | p φ => exact h
theorem RepVs.any {K : PySem.W.Frag} {G : Hp} {ad ad' : List Addr} : ∀ {vs : List V} {as : List A}, RepVs K G ad vs as → as.all noO = true → RepVs K G ad' vs as
  | _, _, .nil, _ => .nil
  | _, _, .cons h r, n => by
    rw [List.all_cons, Bool.and_eq_true] at n
    exact .cons (h.any n.1) (RepVs.any r n.2)
section
variable {K : PySem.W.Frag} {e : Env} {ta : TA} {as : List A} {E : XK}
theorem ae_call {R : List A → A → Prop} {r : A} (h : AL K ta e as) (hn : as.all noO = true := by rfl) (hr : R as r) (nr : noO r = true := by rfl) : AE K (tCall (SpF K R) [] E ta) e r := fun B σ G H ad Rp C c =>
  h B σ G H ad Rp _ fun vs G1 H1 X1 rv => ⟨G1, as, r, X1.gh, by rw [List.append_nil]; exact rv.any hn, hr, fun v G2 H2 X2 rv2 => c v G2 H2 (X1.trans X2) (rv2.any nr)⟩
theorem an_call {R : List A → List D → Prop} {ds : List D} (h : AL K ta e as) (hn : as.all noO = true := by rfl) (hr : R as ds) : AN K (tCall (SpN K R) [] E ta) e ds := fun B σ G H ad Rp C c =>
  h B σ G H ad Rp _ fun vs G1 H1 X1 rv => ⟨G1, as, ds, X1.gh, by rw [List.append_nil]; exact rv.any hn, hr, fun p ws G2 H2 X2 hp gp hq rd => c p ws G2 H2 (X1.trans X2) (Same.none X1.hh hp) gp hq rd⟩
/-- one own list handed over -/
def toO (k : Nat) : A → A
  | .o j => if j = k then .o 0 else .no
  | a => a
theorem RepV.one {K : PySem.W.Frag} {G : Hp} {ad : List Addr} {v : V} {a : A} {k : Nat} {l : Addr} (hl : ad[k]? = some l) (h : RepV K G ad v a) : RepV K G [l] v (toO k a) := by
  cases a with
  | no => trivial
  | d x => exact h
  | p φ => exact h
  | o j =>
    show RepV K G [l] v (if j = k then .o 0 else .no)
    by_cases hj : j = k
    · rw [if_pos hj]
      subst hj
      obtain ⟨m, h1, h2⟩ := h
      rw [hl] at h1
      cases h1
      exact ⟨l, rfl, h2⟩
    · rw [if_neg hj]
      trivial
theorem RepVs.one {K : PySem.W.Frag} {G : Hp} {ad : List Addr} {k : Nat} {l : Addr} (hl : ad[k]? = some l) : ∀ {vs : List V} {as : List A}, RepVs K G ad vs as → RepVs K G [l] vs (as.map (toO k))
  | _, _, .nil => .nil
  | _, _, .cons h r => .cons (h.one hl) (RepVs.one hl r)
theorem ax_call1 {R : List A → List D → A → List D → Prop} (k : Nat) {ds ds' : List D} {r : A} {Q : A → Env → Prop} (h : AL K ta e as) (hk : e.m[k]? = some (some (.lst ds))) (hr : R (as.map (toO k)) ds r ds') (nr : noO r = true := by rfl) (q : Q r (e.put k ds')) :
    AX K (tCall (Sp1 K R) [] E ta) e Q := fun B σ G H ad Rp C c =>
  h B σ G H ad Rp _ fun vs G1 H1 X1 rv => by
    have R1 := Rp.ext X1
    have hkl : k < ad.length := by
      rw [Rp.al]
      exact (List.getElem?_eq_some_iff.mp hk).1
    obtain ⟨l, hl⟩ : ∃ l, ad[k]? = some l := ⟨_, List.getElem?_eq_getElem hkl⟩
    obtain ⟨g0, how, xs, hq, rd⟩ := R1.op k l _ hl hk
    refine ⟨G1, l, _, xs, ds, r, ds', X1.gh, by rw [List.append_nil]; exact rv.one hl, g0, hq, rd, hr, fun v G2 H2 xs2 s1 s2 s3 s4 hq2 rd2 rv2 => ?_⟩
    -- the state with l left out, then l put back
    have R2 : Rep K B (e.put k ds') σ G2 H2 ad := by
      have hs : Same G2 H2 := s2
      have gl : G2 l = none := by
        cases z : G2 l with
        | none => rfl
        | some o =>
          rcases s4 l (by rw [z]; exact fun y => nomatch y) with q1 | q1
          · exact absurd g0 q1
          · rw [hq] at q1
            cases q1
      exact {
        bg := R1.bg.trans s1
        gh := s2
        fr := fun a h => by
          rcases s4 a h with q1 | q1
          · exact R1.fr a q1
          · refine .inr ?_
            cases z : B.H a with
            | none => rfl
            | some o => exact absurd q1 (R1.nn a (by rw [z]; exact fun y => nomatch y))
        kp := fun a o h n => by
          have hne : a ≠ l := fun z => by
            subst z
            rcases how with q1 | q1
            · exact n q1
            · rw [q1] at h
              cases h
          exact s3 a o (R1.kp a o h n) hne
        nn := fun a h => by
          by_cases hne : a = l
          · subst hne
            rw [hq2]
            exact fun y => nomatch y
          · have q1 := R1.nn a h
            cases z : H1 a with
            | none => exact absurd z q1
            | some o =>
              rw [s3 a o z hne]
              exact fun y => nomatch y
        al := by
          show ad.length = (e.m.set k (some (.lst ds'))).length
          rw [List.length_set, R1.al]
        nd := R1.nd
        ah := fun a h => by
          by_cases hne : a = l
          · subst hne
            rw [hq2]
            exact fun y => nomatch y
          · have q1 := R1.ah a h
            cases z : H1 a with
            | none => exact absurd z q1
            | some o =>
              rw [s3 a o z hne]
              exact fun y => nomatch y
        ow := R1.ow
        op := fun j b fs h1 h2 => by
          have h2 : (e.m.set k (some (.lst ds')))[j]? = some (some fs) := h2
          by_cases hj : k = j
          · subst hj
            rw [List.getElem?_set_self (List.getElem?_eq_some_iff.mp hk).1] at h2
            cases h2
            rw [hl] at h1
            cases h1
            exact ⟨gl, how, xs2, hq2, rd2⟩
          · rw [List.getElem?_set_ne hj] at h2
            obtain ⟨x1, x2, x5⟩ := R1.op j b fs h1 h2
            obtain ⟨u5, x3⟩ := x5.some
            have nb : b ≠ l := fun z => by
              subst z
              exact hj (nd_ix R1.nd hl h1)
            refine ⟨?_, x2, x5.keep s1 (List.prefix_refl _) fun u h => s3 b u h nb⟩
            cases z : G2 b with
            | none => rfl
            | some o =>
              rcases s4 b (by rw [z]; exact fun y => nomatch y) with q1 | q1
              · exact absurd x1 q1
              · rw [x3] at q1
                cases q1
        sl := R1.sl
        st := fun i a h => by
          rcases R1.st i a h with q1 | ⟨u, q1, q2⟩
          · exact .inl q1
          · exact .inr ⟨u, q1, q2.mono s1⟩ }
    exact c r _ v G2 H2 ad q (X1.gg.trans s1) (List.prefix_refl _) R2 (rv2.any nr)
end

/-! ### a def's body -/
section
variable {K : PySem.W.Frag} {N : List Str} {vs : List V} {H : Hp} {Q : VK} {E : XK} {t : TS}
theorem start_get {N : List Str} {vs : List V} {i : Nat} {v : V} (h : vs[i]? = some v) : (L2.start N vs)[i]? = some (some v) := by
  unfold L2.start
  have hl := (List.getElem?_eq_some_iff.mp h).1
  rw [List.getElem?_append_left (by rw [List.length_map]; exact hl), List.getElem?_map, h]
  rfl
theorem start_len {N : List Str} {vs : List V} (h : vs.length ≤ N.length) : (L2.start N vs).length = N.length := by
  unfold L2.start
  rw [List.length_append, List.length_map, List.length_replicate]
  omega
def env0 (N : List Str) (as : List A) : List A := as ++ List.replicate (N.length - as.length) .no
theorem st0 {G : Hp} {ad : List Addr} {as : List A} (rv : RepVs K G ad vs as) (i : Nat) (a : A) (h : (env0 N as)[i]? = some a) : a = .no ∨ ∃ v, (L2.start N vs)[i]? = some (some v) ∧ RepV K G ad v a := by
  unfold env0 at h
  by_cases hi : i < as.length
  · rw [List.getElem?_append_left hi] at h
    obtain ⟨v, h1, h2⟩ := rv.get h
    exact .inr ⟨v, start_get h1, h2⟩
  · rw [List.getElem?_append_right (by omega), List.getElem?_replicate] at h
    split at h
    · exact .inl (Option.some.inj h).symm
    · cases h
theorem rep0 {G : Hp} {as : List A} (s : Same G H) (rv : RepVs K G [] vs as) (hN : as.length ≤ N.length) : Rep K ⟨G, H, []⟩ ⟨env0 N as, []⟩ (L2.start N vs) G H [] where
  bg := Same.refl _
  gh := s
  fr := fun a h => .inl h
  kp := fun a o h _ => h
  nn := fun a h => h
  al := rfl
  nd := List.nodup_nil
  ah := fun l h => absurd h (by simp)
  ow := List.prefix_refl _
  op := fun k l ds h _ => by cases h
  sl := by
    rw [start_len (by rw [rv.length]; exact hN)]
    unfold env0
    rw [List.length_append, List.length_replicate]
    show N.length = as.length + (N.length - as.length)
    omega
  st := st0 rv
/-- from the run's end: what a caller sees -/
theorem Rep.xt {B : Bs} {e : Env} {σ : L2.St} {G : Hp} {ad : List Addr} (R : Rep K B e σ G H ad) (hw : B.ow = []) : Xt B.G B.H G H :=
  ⟨R.bg, R.gh, fun a o h => R.kp a o h (by rw [hw]; simp), R.fr⟩
theorem run_F {R : List A → A → Prop} (h : SpF K R vs H Q E) (hb : ∀ as r, R as r → as.length ≤ N.length ∧ AS K 0 t ⟨fun _ => r = .d .non, fun a _ => a = r ∧ noO r = true, fun _ => False, fun _ => False⟩ ⟨env0 N as, []⟩) :
    t { nx := fun _ H' => Q .non H', rt := Q } (L2.start N vs) H := by
  obtain ⟨G, as, r, s, rv, hR, q⟩ := h
  obtain ⟨hN, hb⟩ := hb as r hR
  refine hb ⟨G, H, []⟩ rfl _ ⟨?_, ?_, fun _ _ _ _ _ z => z.elim, fun _ _ _ _ _ z => z.elim⟩ _ _ _ [] (rep0 s rv hN)
  · intro e σ G' H' ad hr R'
    exact q _ G' H' (R'.xt rfl) (by rw [hr]; exact RD.non)
  · rintro a e v σ G' H' ad ⟨rfl, n⟩ R' rv'
    exact q v G' H' (R'.xt rfl) (rv'.any n)
theorem run_N {R : List A → List D → Prop} (h : SpN K R vs H Q E) (hb : ∀ as ds, R as ds → as.length ≤ N.length ∧ AS K 0 t ⟨fun _ => False, fun a e => ∃ k, a = .o k ∧ e.m[k]? = some (some (.lst ds)), fun _ => False, fun _ => False⟩ ⟨env0 N as, []⟩) :
    t { nx := fun _ H' => Q .non H', rt := Q } (L2.start N vs) H := by
  obtain ⟨G, as, r, s, rv, hR, q⟩ := h
  obtain ⟨hN, hb⟩ := hb as r hR
  refine hb ⟨G, H, []⟩ rfl _ ⟨fun _ _ _ _ _ z => z.elim, ?_, fun _ _ _ _ _ z => z.elim, fun _ _ _ _ _ z => z.elim⟩ _ _ _ [] (rep0 s rv hN)
  rintro a e v σ G' H' ad ⟨k, rfl, hk⟩ R' ⟨l, hl, rfl⟩
  obtain ⟨g0, how, ws, hq, rd⟩ := R'.op k l _ hl hk
  rcases how with z | z
  · exact absurd z (by simp)
  · exact q l ws G' H' (R'.xt rfl) z g0 hq rd
theorem run_1 {R : List A → List D → A → List D → Prop} (h : Sp1 K R vs H Q E) (hb : ∀ as ds r ds', R as ds r ds' → as.length ≤ N.length ∧ AS K 1 t ⟨fun e => r = .d .non ∧ e.m[0]? = some (some (.lst ds')), fun a e => a = r ∧ noO r = true ∧ e.m[0]? = some (some (.lst ds')), fun _ => False, fun _ => False⟩ ⟨env0 N as, [some (.lst ds)]⟩) :
    t { nx := fun _ H' => Q .non H', rt := Q } (L2.start N vs) H := by
  obtain ⟨G, l, as, xs, ds, r, ds', s, rv, g0, hq, rd, hR, q⟩ := h
  obtain ⟨hN, hb⟩ := hb as ds r ds' hR
  have R0 : Rep K ⟨G, H, [l]⟩ ⟨env0 N as, [some (.lst ds)]⟩ (L2.start N vs) G H [l] := {
    bg := Same.refl _
    gh := s
    fr := fun a h => .inl h
    kp := fun a o h _ => h
    nn := fun a h => h
    al := rfl
    nd := by simp
    ah := fun a h => by
      rw [List.mem_singleton.mp h, hq]
      exact fun y => nomatch y
    ow := List.prefix_refl _
    op := fun k b fs h1 h2 => by
      cases k with
      | zero =>
        cases h1
        cases h2
        exact ⟨g0, .inl (by simp), xs, hq, rd⟩
      | succ k => cases h1
    sl := by
      rw [start_len (by rw [rv.length]; exact hN)]
      unfold env0
      rw [List.length_append, List.length_replicate]
      show N.length = as.length + (N.length - as.length)
      omega
    st := st0 rv }
  have fin : ∀ e σ v G' H' ad, e.m[0]? = some (some (.lst ds')) → Rep K ⟨G, H, [l]⟩ e σ G' H' ad → RepV K G' [] v r → Q v H' := by
    intro e σ v G' H' ad hm R' rv'
    have h0 : ad[0]? = some l := by
      obtain ⟨tl, e1⟩ := R'.ow
      rw [← e1]
      rfl
    obtain ⟨_, _, ws, hq', rd'⟩ := R'.op 0 l _ h0 hm
    exact q v G' H' ws R'.bg R'.gh (fun a o h n => R'.kp a o h (by simp [n])) R'.fr hq' rd' rv'
  refine hb ⟨G, H, [l]⟩ rfl _ ⟨?_, ?_, fun _ _ _ _ _ z => z.elim, fun _ _ _ _ _ z => z.elim⟩ _ _ _ [l] R0
  · rintro e σ G' H' ad ⟨hr, hm⟩ R'
    exact fin e σ _ G' H' ad hm R' (by rw [hr]; exact RD.non)
  · rintro a e v σ G' H' ad ⟨rfl, n, hm⟩ R' rv'
    exact fin e σ v G' H' ad hm R' (rv'.any n)
end

/-! ### an own list read as data by an expression whose value is flat -/
theorem RD.flatG {K : PySem.W.Frag} {G G' : Hp} {v : V} {d : D} (h : RD K G v d) (hf : Ab.flat d = true) : RD K G' v d := by
  cases h with
  | lst _ _ => cases hf
  | tup _ _ => cases hf
  | kt _ => cases hf
  | non => exact .non
  | bl => exact .bl
  | int => exact .int
  | str => exact .str
theorem ae_thaw {K : PySem.W.Frag} {e : Env} {te : TE} {d : D} (k : Nat) {ds : List D} (hk : e.m[k]? = some (some (.lst ds))) (h : AE K te (e.frz k ds) (.d d)) (hf : flat d = true := by rfl) : AE K te e (.d d) := fun B σ G H ad R C c => by
  have hkl : k < ad.length := by
    rw [R.al]
    exact (List.getElem?_eq_some_iff.mp hk).1
  obtain ⟨l, hl⟩ : ∃ l, ad[k]? = some l := ⟨_, List.getElem?_eq_getElem hkl⟩
  obtain ⟨g0, how, vs, hq, rd⟩ := R.op k l _ hl hk
  have hkm : k < e.m.length := (List.getElem?_eq_some_iff.mp hk).1
  -- a base in which l is new
  have R2 : Rep K ⟨upd G l (.lst vs), H, ad⟩ (e.frz k ds) σ (upd G l (.lst vs)) H ad := by
    have sg : Same G (upd G l (.lst vs)) := same_new g0
    exact {
      bg := Same.refl _
      gh := fun b o q => by
        by_cases nb : b = l
        · subst nb
          rw [upd_same] at q
          rw [hq]
          exact q
        · rw [upd_ne nb] at q
          exact R.gh _ _ q
      fr := fun a h => .inl h
      kp := fun a o h _ => h
      nn := fun a h => h
      al := by
        show ad.length = (e.m.set k none).length
        rw [List.length_set, R.al]
      nd := R.nd
      ah := R.ah
      ow := List.prefix_refl _
      op := fun j b fs h1 h2 => by
        have h2 : (e.m.set k none)[j]? = some (some fs) := h2
        have hj : k ≠ j := fun z => by
          subst z
          rw [List.getElem?_set_self hkm] at h2
          cases h2
        rw [List.getElem?_set_ne hj] at h2
        obtain ⟨x1, x2, x3⟩ := R.op j b fs h1 h2
        have nb : b ≠ l := fun z => by
          subst z
          exact hj (nd_ix R.nd hl h1)
        exact ⟨by rw [upd_ne nb]; exact x1, .inl (List.mem_of_getElem? h1), x3.keep sg (List.prefix_refl _) fun u h => h⟩
      sl := by
        show σ.length = (e.s.map (frzA k ds)).length
        rw [List.length_map, R.sl]
      st := fun i a q => by
        have q : (e.s.map (frzA k ds))[i]? = some a := q
        rw [List.getElem?_map] at q
        cases z : e.s[i]? with
        | none =>
          rw [z] at q
          cases q
        | some b =>
          rw [z] at q
          have q : frzA k ds b = a := Option.some.inj q
          subst q
          rcases R.st i b z with rfl | ⟨v, z1, z2⟩
          · exact .inl rfl
          · refine .inr ⟨v, z1, ?_⟩
            cases b with
            | no => trivial
            | d x => exact RD.mono sg z2
            | p φ => exact fun G2 e2 => z2 G2 (sg.trans e2)
            | o j =>
              unfold frzA
              by_cases hj : j = k
              · subst hj
                obtain ⟨b, y1, y2⟩ := z2
                rw [hl] at y1
                cases y1
                subst y2
                show RepV K _ ad _ (if j = j then A.d (.lst ds) else A.o j)
                rw [if_pos rfl]
                exact RD.lst upd_same (rd.mono sg)
              · show RepV K _ ad v (if j = k then A.d (.lst ds) else A.o j)
                rw [if_neg hj]
                exact z2 }
  refine h ⟨upd G l (.lst vs), H, ad⟩ σ (upd G l (.lst vs)) H ad R2 C fun v G' H' X rv => ?_
  exact c v G H' ⟨Same.refl _, R.gh.trans X.hh, X.hh, fun _ q => .inl q⟩ (RD.flatG rv hf)

/-! ### comprehensions -/
def Env.wipe (e : Env) : List Nat → Env
  | [] => e
  | v :: vs => (e.wipe vs).set v .no
theorem Rep.wipe {K : PySem.W.Frag} {B : Bs} {e : Env} {σ : L2.St} {G H : Hp} {ad : List Addr} (R : Rep K B e σ G H ad) : ∀ vs : List Nat, Rep K B (e.wipe vs) (L2.wipe σ vs) G H ad
  | [] => R
  | v :: vs => by
    have R1 := Rep.wipe R vs
    exact { R1 with
      sl := by
        show ((L2.wipe σ vs).set v none).length = ((e.wipe vs).s.set v .no).length
        rw [List.length_set, List.length_set]
        exact R1.sl
      st := fun j b q => by
        have q : ((e.wipe vs).s.set v .no)[j]? = some b := q
        by_cases hj : v = j
        · subst hj
          have hl : v < (e.wipe vs).s.length := by
            have := (List.getElem?_eq_some_iff.mp q).1
            rwa [List.length_set] at this
          rw [List.getElem?_set_self hl] at q
          exact .inl (Option.some.inj q).symm
        · rw [List.getElem?_set_ne hj] at q
          rcases R1.st j b q with z | ⟨w, z1, z2⟩
          · exact .inl z
          · refine .inr ⟨w, ?_, z2⟩
            show ((L2.wipe σ vs).set v none)[j]? = _
            rw [List.getElem?_set_ne hj]
            exact z1 }
/-- a comprehension's target: it stores in its own slots alone -/
def AGw (K : PySem.W.Frag) (g : TG) (d : D) (vs : List Nat) (e : Env) (e2 : Env) : Prop := ∀ (B : Bs) (σ : L2.St) (G H : Hp) (ad : List Addr), Rep K B (e.wipe vs) (L2.wipe σ vs) G H ad → ∀ v, RD K G v d → ∀ C : L2.St → Hp → Prop,
  (∀ σ', L2.wipe σ' vs = L2.wipe σ vs → Rep K B e2 σ' G H ad → C σ' H) → g v (L2.wipe σ vs) H C
theorem agw_name {K : PySem.W.Frag} {d : D} {j : Nat} {e : Env} : AGw K (gName j) d [j] e (e.set j (.d d)) := fun B σ G H ad R v rv C c => by
  refine c _ ?_ ?_
  · show (((σ.set j none).set j (some v)).set j none) = σ.set j none
    rw [List.set_set, List.set_set]
  · have R1 := R.set (i := j) (a := .d d) rv
    have : (e.wipe [j]).set j (.d d) = e.set j (.d d) := by
      show (⟨(e.s.set j .no).set j (.d d), e.m⟩ : Env) = ⟨e.s.set j (.d d), e.m⟩
      rw [List.set_set]
    rw [this] at R1
    exact R1
theorem agw_two {K : PySem.W.Frag} {d1 d2 : D} {i j : Nat} {e : Env} (hij : i ≠ j) : AGw K (gTup K 2 (gCons (gName i) (gCons (gName j) gNil))) (.tup [d1, d2]) [i, j] e ((e.set i (.d d1)).set j (.d d2)) := fun B σ G H ad R v rv C c => by
  cases rv with
  | tup hq rd =>
    cases rd with
    | cons r1 rd =>
      cases rd with
      | cons r2 rd =>
        cases rd
        refine ⟨_, _, rfl, seqT R.gh hq, rfl, _, _, rfl, _, _, rfl, rfl, ?_⟩
        refine c _ ?_ ?_
        · show ((((((σ.set j none).set i none).set i (some _)).set j (some _)).set j none).set i none) = (σ.set j none).set i none
          rw [List.set_set, List.set_set, List.set_comm _ _ hij.symm, List.set_set, List.set_comm _ _ hij, List.set_set]
        · have R1 := (R.set (i := i) (a := .d d1) r1).set (i := j) (a := .d d2) r2
          have : ((e.wipe [i, j]).set i (.d d1)).set j (.d d2) = (e.set i (.d d1)).set j (.d d2) := by
            show (⟨(((e.s.set j .no).set i .no).set i (.d d1)).set j (.d d2), e.m⟩ : Env) = ⟨(e.s.set i (.d d1)).set j (.d d2), e.m⟩
            rw [List.set_set, List.set_comm _ _ hij, List.set_set, List.set_comm _ _ hij]
          rw [this] at R1
          exact R1
/-- what is given of turn i: nothing or one thing -/
def givenD (f : Nat → Option D) : Nat → List D
  | 0 => []
  | n + 1 => givenD f n ++ (f n).toList
theorem givenD_len (f : Nat → Option D) : ∀ n, (givenD f n).length ≤ n
  | 0 => Nat.le_refl _
  | n + 1 => by
    have := givenD_len f n
    have h2 : (f n).toList.length ≤ 1 := by cases f n <;> simp
    show (givenD f n ++ (f n).toList).length ≤ n + 1
    rw [List.length_append]
    omega
theorem givenD_some (g : Nat → D) : ∀ n, givenD (fun i => some (g i)) n = (List.range n).map g
  | 0 => rfl
  | n + 1 => by
    show givenD _ n ++ [g n] = _
    rw [givenD_some g n, List.range_succ, List.map_append]
    rfl
theorem an_lc {K : PySem.W.Frag} {wi : TI} {g : TG} {tt : TT} {te : TE} {vs : List Nat} {e : Env} {n : Nat} {f : Nat → D} (r : Nat → Option D) (h : AI K wi e n f) (hn : n ≤ 900000)
    (hs : ∀ i, i < n → ∃ e2, AGw K g (f i) vs e e2 ∧ AT K tt e2 (r i).isSome ∧ ∀ x, r i = some x → AE K te e2 (.d x)) : AN K (tLc wi g tt te vs) e (givenD r n) := fun B σ G H ad R C c =>
  h B σ G H ad R _ fun J G1 H1 X1 W Dl hD => by
    have R1 := R.ext X1
    have R1w := R1.wipe vs
    have gD : G1 Dl = none := Same.none X1.gh hD
    refine ⟨fun i m H => i + m = n ∧ ∃ G' acc, Xt G1 H1 G' H ∧ G' Dl = none ∧ H Dl = some (.lst acc) ∧ RDs K G' acc (givenD r i), ⟨n, by omega, G1, [], Xt.drop X1.gh hD, gD, upd_same, .nil⟩, ?_⟩
    rintro i m H' ⟨hm, G', acc, X, g0, hq, rd⟩
    by_cases hlt : i < n
    · refine .inr ⟨W.go i G' H' X.gg X.gh hlt, fun H => ∃ G' acc, Xt G1 H1 G' H ∧ G' Dl = none ∧ H Dl = some (.lst acc) ∧ RDs K G' acc (givenD r (i + 1)), fun H'' q => ⟨m - 1, by omega, by omega, q⟩, fun x H2 y => ?_⟩
      obtain ⟨G2, X2, rx⟩ := W.yld i G' H' x H2 X.gg X.gh hlt y
      obtain ⟨e2, hg, ht, he⟩ := hs i hlt
      refine hg B σ G2 H2 ad ((R1w.ext X).ext X2) x rx _ fun σ2 hw R2 => ⟨hw, ?_⟩
      refine ht B σ2 G2 H2 ad R2 _ fun G3 H3 X3 => ?_
      have X23 := X2.trans X3
      have g3 : G3 Dl = none := X23.out g0 hq
      have hq3 : H3 Dl = some (.lst acc) := X23.hh _ _ hq
      cases hr : r i with
      | none =>
        show ∃ G' acc, Xt G1 H1 G' H3 ∧ G' Dl = none ∧ H3 Dl = some (.lst acc) ∧ RDs K G' acc (givenD r (i + 1))
        refine ⟨G3, acc, X.trans X23, g3, hq3, ?_⟩
        show RDs K G3 acc (givenD r i ++ (r i).toList)
        rw [hr]
        show RDs K G3 acc (givenD r i ++ [])
        rw [List.append_nil]
        exact rd.mono X23.gg
      | some x2 =>
        show te σ2 H3 _
        refine he x2 hr B σ2 G3 H3 ad (R2.ext X3) _ fun v G4 H4 X4 rv => ?_
        have X24 := X23.trans X4
        have g4 : G4 Dl = none := X4.out g3 hq3
        refine ⟨acc, X4.hh _ _ hq3, sz_lt ?_, G4, acc ++ [v], ?_, g4, upd_same, ?_⟩
        · have := givenD_len r i
          rw [rd.length]
          omega
        · have X5 := X.trans X24
          exact ⟨X5.gg, fun b o q => by
            rw [upd_ne (ne_of_none q g4)]
            exact X4.gh _ _ q, fun b o q => by
            rw [upd_ne (ne_of_none q hD)]
            exact X5.hh _ _ q, X5.fr⟩
        · show RDs K G4 (acc ++ [v]) (givenD r i ++ (r i).toList)
          rw [hr]
          exact (rd.mono X24.gg).append (.cons rv .nil)
    · have e1 : i = n := by omega
      subst e1
      exact .inl ⟨W.stop i G' H' X.gg X.gh (Nat.le_refl _), c Dl acc G' H' (X1.trans X) (Same.none X1.hh hD) g0 hq rd⟩
/-- without a test, the target a name -/
theorem an_lcN {K : PySem.W.Frag} {wi : TI} {te : TE} {j : Nat} {e : Env} {n : Nat} {f : Nat → D} (x : Nat → D) (h : AI K wi e n f) (hn : n ≤ 900000)
    (hs : ∀ i, i < n → AE K te (e.set j (.d (f i))) (.d (x i))) : AN K (tLc wi (gName j) tYes te [j]) e ((List.range n).map x) := by
  rw [← givenD_some]
  refine an_lc _ h hn fun i hi => ⟨_, agw_name, fun B σ G H ad R C c => c G H (Xt.refl R.gh), fun y hy => ?_⟩
  cases hy
  exact hs i hi

/-! ### the script -/
def ScP (K : PySem.W.Frag) (ns : List Int) : V → Hp → Prop := fun v G => ∃ a, v = .ref a ∧ SqL K G a (ns.map V.int)
theorem scP {K : PySem.W.Frag} {G : Hp} {ad : List Addr} {a : Addr} {ns : List Int} (h : SqL K G a (ns.map V.int)) : RepV K G ad (.ref a) (.p (ScP K ns)) := fun G' s => ⟨a, rfl, s.seq h⟩
theorem ac_lenP {K : PySem.W.Frag} {e : Env} {ns : List Int} : AC K (rLenG K) [.p (ScP K ns)] e (.d (.int ns.length)) := fun B σ G H ad R vs rv C c => by
  obtain ⟨v, rfl, rw⟩ := rv1 rv
  obtain ⟨a, rfl, h⟩ := rw H R.gh
  exact ⟨_, ns.length, rfl, .inl ⟨_, h, by rw [List.length_map]⟩, c _ G H (Xt.refl R.gh) RD.int⟩
theorem a2_ixP {K : PySem.W.Frag} {e : Env} {ns : List Int} {i k : Int} (h : atI ns i = some k) : A2 K (rIxL K) (.p (ScP K ns)) (.d (.int i)) e (.d (.int k)) := fun B σ G H ad R v w rv rw C c => by
  cases rw
  obtain ⟨a, rfl, hq⟩ := rv H R.gh
  refine ⟨a, _, i, .int k, rfl, rfl, hq, ?_, c _ G H (Xt.refl R.gh) RD.int⟩
  unfold atI at h ⊢
  rw [List.length_map]
  cases z : ixN ns.length i with
  | none =>
    rw [z] at h
    cases h
  | some j =>
    rw [z] at h
    show (ns.map V.int)[j]? = some (.int k)
    have h : ns[j]? = some k := h
    rw [List.getElem?_map, h]
    rfl
end Ab
namespace Ab
open PySem PySem.Spec PyProof.Rows L2
/-- a def of the text, as the top leaves it -/
def DefAt (K : PySem.W.Frag) (mg : Str → Option Value) (x : Str) (st : Stmt) (ps : List Str) : Prop := ∃ f fd, Fun K x x st f fd ∧ mg x = some (.ref f) ∧ Binds K fd ps []
/-- a def that keeps a promise -/
def Has (P : Program) (w : World) (K : PySem.W.Frag) (mg : Str → Option Value) (base : Heap) (x : Str) (ps : List Str) (k : Nat) (sp : Sp) : Prop :=
  ∃ f fd, FnOk P w K mg base CX0 k f fd ps sp ∧ mg x = some (.ref f) ∧ PySem.W.keepIn K (.ref f) = true ∧ Binds K fd ps []
section
variable {P : Program} {w : World} {K : PySem.W.Frag} {mg : Str → Option Value} {base : Heap} {x : Str} {st : Stmt} {ps : List Str} {k : Nat} {sp : Sp}
theorem DefAt.has (D : DefAt K mg x st ps) (h : ∀ f fd, Fun K x x st f fd → FnOk P w K mg base CX0 k f fd ps sp) : Has P w K mg base x ps k sp := by
  obtain ⟨f, fd, F, g, b⟩ := D
  exact ⟨f, fd, h f fd F, g, F.kp, b⟩
theorem Has.mono (h : Has P w K mg base x ps k sp) {j : Nat} (hj : k ≤ j) : Has P w K mg base x ps j sp := by
  obtain ⟨f, fd, F, g, b⟩ := h
  exact ⟨f, fd, F.mono hj, g, b⟩
end
section
variable {X : Cx} {x : Str} {ps : List Str} {k : Nat} {sp : Sp} {e : Expr} {es : List Expr} {t : TA} {p pos : Pos}
theorem pe_has (h : Has X.prog X.w X.K X.mg X.base x ps k sp) (hr : Room k X.A) (hg : Gl X x) (ha : PA X (e :: es) t) (hdb : (x == ("__debug__" : Str)) = false := by decide) (he : starEach (e :: es) X.env = (false, eval e X.env) :: starEach es X.env := by rfl)
    (hpl : (backTo pos (starEach es X.env)).any (·.1) = false := by rfl) : PE X (.Call (.Name x p) (e :: es) [] pos) (tCall sp [] E0 t) := by
  obtain ⟨f, fd, F, g, kp, b⟩ := h
  exact pe_call F hr hg g kp b .nil pass0 ha hdb he hpl
end
section
variable {P : Program} {w : World} {K : PySem.W.Frag} {mg : Str → Option Value} {base : Heap} {x : Str} {st : Stmt} {N ps : List Str} {k : Nat}
theorem SpF.len {R : List A → A → Prop} (hl : ∀ as r, R as r → as.length = ps.length) : ∀ vs H Q E, SpF K R vs H Q E → vs.length = ps.length := by
  rintro vs H Q E ⟨G, as, r, _, rv, hR, _⟩
  rw [rv.length]
  exact hl as r hR
theorem SpN.len {R : List A → List D → Prop} (hl : ∀ as r, R as r → as.length = ps.length) : ∀ vs H Q E, SpN K R vs H Q E → vs.length = ps.length := by
  rintro vs H Q E ⟨G, as, r, _, rv, hR, _⟩
  rw [rv.length]
  exact hl as r hR
theorem Sp1.len {R : List A → List D → A → List D → Prop} (hl : ∀ as ds r ds', R as ds r ds' → as.length = ps.length) : ∀ vs H Q E, Sp1 K R vs H Q E → vs.length = ps.length := by
  rintro vs H Q E ⟨G, l, as, xs, ds, r, ds', _, rv, _, _, _, hR, _⟩
  rw [rv.length]
  exact hl as ds r ds' hR
theorem FnScope.le (S : FnScope N ps (defScope st)) : ps.length ≤ N.length := by
  have := congrArg List.length S.pre
  rw [List.length_take] at this
  omega
/-- the ends of a def that returns r -/
abbrev endF (r : A) : AEnds := ⟨fun _ => r = .d .non, fun a _ => a = r ∧ noO r = true, fun _ => False, fun _ => False⟩
abbrev endN (ds : List D) : AEnds := ⟨fun _ => False, fun a e => ∃ k, a = .o k ∧ e.m[k]? = some (some (.lst ds)), fun _ => False, fun _ => False⟩
abbrev end1 (r : A) (ds : List D) : AEnds := ⟨fun e => r = .d .non ∧ e.m[0]? = some (some (.lst ds)), fun a e => a = r ∧ noO r = true ∧ e.m[0]? = some (some (.lst ds)), fun _ => False, fun _ => False⟩
/-- a body: its term and what it does -/
def Body (P : Program) (w : World) (K : PySem.W.Frag) (mg : Str → Option Value) (base : Heap) (N : List Str) (x : Str) (st : Stmt) (k : Nat) (go : TS → Prop) : Prop :=
  ∀ (f : Addr) (cdv : Value) (A : Around) (outer : List PySem.Env) (s : Shared) (H : Hp) (E : XK), Room k (A.deeper (envOfC x (defScope st) s.heap.objs.size f cdv)) →
    ∃ t, PSs (cxOf CX0 P w K mg base N x (defScope st) f cdv A outer s H E).nox (defBody st) t ∧ go t
theorem okF {R : List A → A → Prop} (D : DefAt K mg x st ps) (S : FnScope N ps (defScope st)) (hl : ∀ as r, R as r → as.length = ps.length)
    (hb : Body P w K mg base N x st k fun t => ∀ as r, R as r → AS K 0 t (endF r) ⟨env0 N as, []⟩) : Has P w K mg base x ps (k + 1) (SpF K R) :=
  D.has fun f fd F => F.ok S (SpF.len hl) fun cdv A outer s H vs Q E hr h => by
    obtain ⟨t, ht, go⟩ := hb f cdv A outer s H E hr
    exact ⟨t, ht, run_F h fun as r hR => ⟨by rw [hl as r hR]; exact FnScope.le S, go as r hR⟩⟩
theorem okN {R : List A → List D → Prop} (D : DefAt K mg x st ps) (S : FnScope N ps (defScope st)) (hl : ∀ as r, R as r → as.length = ps.length)
    (hb : Body P w K mg base N x st k fun t => ∀ as r, R as r → AS K 0 t (endN r) ⟨env0 N as, []⟩) : Has P w K mg base x ps (k + 1) (SpN K R) :=
  D.has fun f fd F => F.ok S (SpN.len hl) fun cdv A outer s H vs Q E hr h => by
    obtain ⟨t, ht, go⟩ := hb f cdv A outer s H E hr
    exact ⟨t, ht, run_N h fun as r hR => ⟨by rw [hl as r hR]; exact FnScope.le S, go as r hR⟩⟩
theorem ok1 {R : List A → List D → A → List D → Prop} (D : DefAt K mg x st ps) (S : FnScope N ps (defScope st)) (hl : ∀ as ds r ds', R as ds r ds' → as.length = ps.length)
    (hb : Body P w K mg base N x st k fun t => ∀ as ds r ds', R as ds r ds' → AS K 1 t (end1 r ds') ⟨env0 N as, [some (.lst ds)]⟩) : Has P w K mg base x ps (k + 1) (Sp1 K R) :=
  D.has fun f fd F => F.ok S (Sp1.len hl) fun cdv A outer s H vs Q E hr h => by
    obtain ⟨t, ht, go⟩ := hb f cdv A outer s H E hr
    exact ⟨t, ht, run_1 h fun as ds r ds' hR => ⟨by rw [hl as ds r ds' hR]; exact FnScope.le S, go as ds r ds' hR⟩⟩
/-- a law's promise -/
def spLaw (K : PySem.W.Frag) : Sp := fun vs H Q _ => ∃ (a : Addr) (ns : List Int), vs = [.ref a] ∧ SqL K H a (ns.map V.int) ∧ ns.length ≤ 63 ∧ ∀ H', Q (.bl true) H'
/-- what a law's body is to do -/
def RLaw (K : PySem.W.Frag) (as : List A) (r : A) : Prop := ∃ ns : List Int, as = [.p (ScP K ns)] ∧ ns.length ≤ 63 ∧ r = .d (.bl true)
theorem law_imp : ∀ vs H Q E, spLaw K vs H Q E → SpF K (RLaw K) vs H Q E := by
  rintro vs H Q E ⟨a, ns, rfl, hS, hl, q⟩
  refine ⟨H, [.p (ScP K ns)], .d (.bl true), Same.refl _, .cons (scP hS) .nil, ⟨ns, rfl, hl, rfl⟩, fun v G' H' X rv => ?_⟩
  have : v = .bl true := by cases rv; rfl
  rw [this]
  exact q H'
theorem mk_def {x : Str} {st : Stmt} {f : Addr} {oc : Value} {od an : Option Addr} {osl : Array (Option Value)} {kV doc pm cdv ct : Value} (l : K.lookup f = some ⟨oc, od, .func (PySem.W.fnOf x x (defArgs st) (defBody st) (defScope st) .none kV doc pm an cdv ct), osl⟩)
    (c : PySem.W.codeIn K cdv x = true) (k : PySem.W.keepIn K (.ref f) = true) (g : mg x = some (.ref f))
    (hb : ∀ (kV doc pm : Value) (an : Option Addr) (cdv ct : Value) (us : List Value), us.length = ps.length → bindArgs (PySem.W.fnOf x x (defArgs st) (defBody st) (defScope st) .none kV doc pm an cdv ct) ⟨us, []⟩ = pure (ps.zip us)) : DefAt K mg x st ps :=
  have F := fun_mk (st := st) l c k
  ⟨f, _, F, g, F.binds hb⟩
end
end Ab
namespace Ab
open PySem PySem.Spec PyProof.Rows L2
section
variable {K : PySem.W.Frag} {e : Env} {ta tb tc te : TE} {x y z a b : A} {r r' : R2}
def ALd (K : PySem.W.Frag) (ta : TA) (e : Env) (ds : List D) : Prop := AL K ta e (ds.map .d)
theorem ald_nil : ALd K tNil e [] := al_nil
theorem ald_cons {tr : TA} {d : D} {ds : List D} (h : AE K te e (.d d)) (hr : ALd K tr e ds) : ALd K (tCons te tr) e (d :: ds) := al_cons h hr
theorem an_lst' {t : TA} {ds : List D} (h : ALd K t e ds) (hl : Nat.ble ds.length 1000000 = true := by rfl) : AN K (tLst t) e ds := an_lst h rfl (Nat.le_of_ble_eq_true hl)
theorem ae_tup' {t : TA} {ds : List D} (h : ALd K t e ds) (hl : Nat.ble ds.length 1000000 = true := by rfl) : AE K (tTup t) e (.d (.tup ds)) := ae_tup h rfl (Nat.le_of_ble_eq_true hl)
theorem ae_chain {p q : Bool} (ha : AE K ta e x) (hb : AE K tb e y) (h1 : A2 K r x y e (.d (.bl p))) (hc : p = true → AE K tc e z) (h2 : p = true → A2 K r' y z e (.d (.bl q))) : AE K (tChain r r' ta tb tc) e (.d (.bl (p && q))) := fun B σ G H ad R C c =>
  ha B σ G H ad R _ fun v G1 H1 X1 r1 => hb B σ G1 H1 ad (R.ext X1) _ fun w G2 H2 X2 r2 =>
    h1 B σ G2 H2 ad ((R.ext X1).ext X2) v w (r1.mono X2.gg) r2 _ fun u G3 H3 X3 r3 => by
      cases r3
      refine ⟨p, rfl, ?_⟩
      have X13 := (X1.trans X2).trans X3
      cases p with
      | true =>
        exact hc rfl B σ G3 H3 ad (R.ext X13) _ fun w2 G4 H4 X4 r4 => h2 rfl B σ G4 H4 ad ((R.ext X13).ext X4) w w2 (r2.mono (X3.trans X4).gg) r4 C fun u2 G5 H5 X5 r5 => c u2 G5 H5 ((X13.trans X4).trans X5) r5
      | false => exact c (.bl false) G3 H3 X13 RD.bl
end
end Ab
namespace Ab
open PySem PySem.Spec PyProof.Rows L2
/-- the law's def -/
theorem okLaw {P : Program} {w : World} {K : PySem.W.Frag} {mg : Str → Option Value} {base : Heap} {x : Str} {st : Stmt} {N : List Str} {k : Nat} {y : Str} {f : Addr} {fd : FuncData} (F : Fun K x x st f fd) (S : FnScope N [y] (defScope st))
    (hb : Body P w K mg base N x st k fun t => ∀ as r, RLaw K as r → AS K 0 t (endF r) ⟨env0 N as, []⟩) : FnOk P w K mg base CX0 (k + 1) f fd [y] (spLaw K) :=
  FnOk.imp (F.ok S (SpF.len (R := RLaw K) (by rintro as r ⟨_, rfl, _⟩; rfl)) fun cdv A outer s H vs Q E hr h => by
    obtain ⟨t, ht, go⟩ := hb f cdv A outer s H E hr
    exact ⟨t, ht, run_F h fun as r hR => ⟨by obtain ⟨_, rfl, _⟩ := hR; exact FnScope.le S, go as r hR⟩⟩) law_imp
/-! ### rules that name the written part, for places within a comprehension -/
section
variable {X : Cx} {K : PySem.W.Frag} {o e : Expr} {to te : TE} {apos pos : Pos}
theorem ixlK (hK : X.K = K) : IxR X (rIxL K) := by subst hK; exact ix_list
theorem ixtK (hK : X.K = K) : IxR X (rIxT K) := by subst hK; exact ix_tup
theorem sllK (hK : X.K = K) : SlR X (rSlL K) := by subst hK; exact sl_list
theorem eqDK (hK : X.K = K) (hu : X.A.units + 64 < cLine) : OpR X (compareOp .Eq) (rEqD K) := by subst hK; exact op_eqD hu
theorem neDK (hK : X.K = K) (hu : X.A.units + 64 < cLine) : OpR X (compareOp .NotEq) (rNeD K) := by subst hK; exact op_neD hu
theorem inK (hK : X.K = K) : OpR X (compareOp .In) (rIn K false) := by subst hK; exact op_in_seq
theorem ninK (hK : X.K = K) : OpR X (compareOp .NotIn) (rIn K true) := by subst hK; exact op_notIn_seq
theorem lenK (hK : X.K = K) : CallR X (.builtin "len") (rLenG K) := by subst hK; exact call_len
theorem listK (hK : X.K = K) : CallR X (.type "list") (rListG K) := by subst hK; exact call_list_of
theorem isiK (hK : X.K = K) : CallR X (.builtin "isinstance") (rIsi K) := by subst hK; exact call_isi
abbrev rJoinG (K : PySem.W.Frag) : V → List V → Hp → VK → Prop := fun x xs H Q => ∃ a p, ∃ ys : List Str, x = .str a ∧ xs = [.ref p] ∧ (SqL K H p (ys.map V.str) ∨ SqT K H p (ys.map V.str)) ∧
      (ys.map (·.length)).sum + ys.length * a.length ≤ 16777216 ∧ Q (.str (Txt.join a ys)) H
theorem pe_joinK (hK : X.K = K) (ho : PE X o to) (he : PE X e te) (hs : starEach [e] X.env = [(false, eval e X.env)] := by rfl) (hbase : attributeBase o "join" X.env (eval o X.env) = eval o X.env := by rfl) (hline : (apos.endLine == pos.line) = true := by rfl) :
    PE X (.Call (.Attribute o "join" apos) [e] [] pos) (tM1 (rJoinG K) to te) := by subst hK; exact pe_join ho he hs hbase hline
theorem pi_listK {tg : Expr} (hK : X.K = K) (hl : PE X e te) : PI X tg e (iList K te) := by subst hK; exact pi_list hl
/-- x or y, by the truth of x -/
theorem ae_orT {K : PySem.W.Frag} {e : Env} {ta tb : TE} {d : D} {b : Bool} {z : A} (ha : AE K ta e (.d d)) (ht : ∀ G H v, Same G H → RD K G v d → TruV K v H b) (h1 : b = true → z = .d d) (h2 : b = false → AE K tb e z) : AE K (tOrT K ta tb) e z := fun B σ G H ad R C c =>
  ha B σ G H ad R _ fun v G1 H1 X1 r1 => by
    refine ⟨b, ht G1 H1 v X1.gh r1, ?_⟩
    cases b with
    | true =>
      have := h1 rfl
      subst this
      exact c v G1 H1 X1 r1
    | false => exact h2 rfl B σ G1 H1 ad (R.ext X1) C fun v G2 H2 X2 r2 => c v G2 H2 (X1.trans X2) r2
theorem tr_non {K : PySem.W.Frag} {G H : Hp} {v : V} (s : Same G H) (r : RD K G v .non) : TruV K v H false := by cases r; rfl
theorem tr_tup {K : PySem.W.Frag} {G H : Hp} {v : V} {a : D} {ds : List D} (s : Same G H) (r : RD K G v (.tup (a :: ds))) : TruV K v H true := by
  cases r with
  | tup hq rd =>
    refine .inr (.inl ⟨_, seqT s hq, ?_⟩)
    cases rd
    rfl
theorem AT.le {K : PySem.W.Frag} {tt : TT} {e e' : Env} {b : Bool} (l : Le e e') (h : AT K tt e' b) : AT K tt e b := fun B σ G H ad R => h B σ G H ad (R.le l)
theorem AE.le {K : PySem.W.Frag} {te : TE} {e e' : Env} {a : A} (l : Le e e') (h : AE K te e' a) : AE K te e a := fun B σ G H ad R => h B σ G H ad (R.le l)
theorem AI.n {K : PySem.W.Frag} {wi : TI} {e : Env} {n m : Nat} {f : Nat → D} (h : AI K wi e n f) (hn : n = m) : AI K wi e m f := hn ▸ h
/-- join, the value told -/
theorem am_joinT {K : PySem.W.Frag} {e : Env} {s t : List Nat} {ds : List D} (xs : List (List Nat)) (hd : ds = xs.map .str) (hz : (xs.map (·.length)).sum + xs.length * s.length ≤ 1000000) (ht : TL.joinL s xs = t) :
    AM K (rJoinG K) (.d (.str s)) [.d (.lst ds)] e (.d (.str t)) := by
  subst hd
  subst ht
  exact am_join hz
theorem ones_sum {l : List Nat} : ((l.map fun x => [x]).map (·.length)).sum = l.length := by
  induction l with
  | nil => rfl
  | cons x r ih =>
    rw [List.map_cons, List.map_cons, List.sum_cons, ih, List.length_cons]
    show 1 + r.length = r.length + 1
    omega
theorem ones_join {l : List Nat} : TL.joinL [] (l.map fun x => [x]) = l := by
  rw [joinL_nil]
  induction l with
  | nil => rfl
  | cons x r ih =>
    rw [List.map_cons, List.flatten_cons, ih]
    rfl
end
end Ab
namespace Ab
open PySem PySem.Spec PyProof.Rows L2
/-! ### own instances and dicts; what of them is frozen -/
theorem Paired.look {α β γ : Type} [BEq α] {F : γ → β → Prop} : ∀ {l : List (α × γ)} {m : List (α × β)} {k : α} {y : β}, Paired (fun (p : α × γ) (q : α × β) => p.1 = q.1 ∧ F p.2 q.2) l m → m.lookup k = some y → ∃ x, l.lookup k = some x ∧ F x y
  | _, _, _, _, .nil, h => by cases h
  | (a, x) :: l, (b, z) :: m, k, y, .cons r t, h => by
    obtain ⟨e, f⟩ := r
    have e : a = b := e
    subst e
    rw [List.lookup_cons] at h ⊢
    cases q : (k == a) with
    | true =>
      rw [q] at h
      cases h
      exact ⟨x, rfl, f⟩
    | false =>
      rw [q] at h
      exact Paired.look t h
theorem Paired.look_none {α β γ : Type} [BEq α] {F : γ → β → Prop} : ∀ {l : List (α × γ)} {m : List (α × β)} {k : α}, Paired (fun (p : α × γ) (q : α × β) => p.1 = q.1 ∧ F p.2 q.2) l m → m.lookup k = none → l.lookup k = none
  | _, _, _, .nil, h => rfl
  | (a, x) :: l, (b, z) :: m, k, .cons r t, h => by
    obtain ⟨e, f⟩ := r
    have e : a = b := e
    subst e
    rw [List.lookup_cons] at h ⊢
    cases q : (k == a) with
    | true =>
      rw [q] at h
      cases h
    | false =>
      rw [q] at h
      exact Paired.look_none t h
/-- a frozen store: v is its k-th thing -/
def Frz (K : PySem.W.Frag) (m : List O) (k : Nat) : V → Hp → Prop := fun v G => ∃ (ad : List Addr) (l : Addr), ad.length = m.length ∧ ad[k]? = some l ∧ v = .ref l ∧ ∀ (i : Nat) (a : Addr) (o : O), ad[i]? = some a → m[i]? = some o → ObR K G G ad a o
theorem Frz.mono {K : PySem.W.Frag} {m : List O} {k : Nat} {v : V} {G G' : Hp} (h : Frz K m k v G) (s : Same G G') : Frz K m k v G' := by
  obtain ⟨ad, l, h0, h1, h2, h3⟩ := h
  exact ⟨ad, l, h0, h1, h2, fun i a o e1 e2 => (h3 i a o e1 e2).keep s (List.prefix_refl _) fun u q => s _ _ q⟩
section
variable {K : PySem.W.Frag} {e : Env} {ta tb te : TE} {x y z a b : A} {f : Str} {C : Addr}
/-- an attribute of an own instance -/
theorem ae_fldO {k j : Nat} {fs : List (Str × A)} (ho : AE K ta e (.o k)) (hk : e.m[k]? = some (some (.ins C j fs))) (c : Cls K C) (n : NoAttr K C f) (hf : fs.lookup f = some a) : AE K (tFld K ta f) e a := fun B σ G H ad R cc q =>
  ho B σ G H ad R _ fun v G1 H1 X1 r1 => by
    obtain ⟨l, hl, rfl⟩ := r1
    have R1 := R.ext X1
    obtain ⟨_, _, dx, vs, h1, h2, h3⟩ := R1.op k l _ hl hk
    obtain ⟨u, hu, ru⟩ := Paired.look h3 hf
    exact ⟨l, C, dx, vs, u, rfl, h1, c, n, hu, q u G1 H1 X1 ru⟩
/-- of a frozen one -/
def frzV (K : PySem.W.Frag) (m : List O) : A → A
  | .o i => match m[i]? with
    | some (.lst ds) => .d (.lst ds)
    | _ => .p (Frz K m i)
  | a => a
theorem ae_fldP {m : List O} {k j : Nat} {fs : List (Str × A)} (ho : AE K ta e (.p (Frz K m k))) (hk : m[k]? = some (.ins C j fs)) (c : Cls K C) (n : NoAttr K C f) (hf : fs.lookup f = some a) : AE K (tFld K ta f) e (frzV K m a) := fun B σ G H ad R cc q =>
  ho B σ G H ad R _ fun v G1 H1 X1 r1 => by
    obtain ⟨ad2, l, h0, hl, rfl, hall⟩ := r1 G1 (Same.refl _)
    obtain ⟨dx, vs, h1, h2, h3⟩ := hall k l _ hl hk
    obtain ⟨u, hu, ru⟩ := Paired.look h3 hf
    refine ⟨l, C, dx, vs, u, rfl, X1.gh _ _ h1, c, n, hu, q u G1 H1 X1 ?_⟩
    cases a with
    | no => trivial
    | d x => exact ru
    | p φ => exact ru
    | o i =>
      obtain ⟨l2, hl2, rfl⟩ := ru
      have hi : i < m.length := by
        rw [← h0]
        exact (List.getElem?_eq_some_iff.mp hl2).1
      have hm : m[i]? = some m[i] := List.getElem?_eq_getElem hi
      show RepV K G1 ad _ (match m[i]? with | some (.lst ds) => .d (.lst ds) | _ => .p (Frz K m i))
      have hob := hall i l2 _ hl2 hm
      rw [hm]
      cases ho2 : m[i] with
      | lst ds =>
        rw [ho2] at hob
        obtain ⟨ws, w1, w2⟩ := hob
        exact RD.lst w1 w2
      | dk kds => exact fun G' s => Frz.mono ⟨ad2, l2, h0, hl2, rfl, hall⟩ s
      | ins C2 j2 fs2 => exact fun G' s => Frz.mono ⟨ad2, l2, h0, hl2, rfl, hall⟩ s
      | own k2 => exact fun G' s => Frz.mono ⟨ad2, l2, h0, hl2, rfl, hall⟩ s
      | hf φ => exact fun G' s => Frz.mono ⟨ad2, l2, h0, hl2, rfl, hall⟩ s
      | tp as => exact fun G' s => Frz.mono ⟨ad2, l2, h0, hl2, rfl, hall⟩ s
      | ls as => exact fun G' s => Frz.mono ⟨ad2, l2, h0, hl2, rfl, hall⟩ s

/-! ### dicts -/
def kD : Key → D
  | .inl i => .int i
  | .inr x => .str x.cps.toList
def valD (kds : List (Key × D)) (k : Key) : Option D := (kds.find? fun kv => decide (kv.1 = k)).map (·.2)
def putD (kds : List (Key × D)) (k : Key) (v : D) : List (Key × D) :=
  if (kds.any fun kv => decide (kv.1 = k)) = true then kds.map (fun kv => if kv.1 = k then (kv.1, v) else kv) else kds ++ [(k, v)]
theorem rk_any {G : Hp} {k : Key} : ∀ {kvs : List (Key × V)} {kds : List (Key × D)}, RKs K G kvs kds → (kvs.any fun kv => decide (kv.1 = k)) = (kds.any fun kv => decide (kv.1 = k))
  | _, _, .nil => rfl
  | p :: r, q :: s, .cons h t => by
    rw [List.any_cons, List.any_cons, rk_any t, h.1]
theorem rk_val {G : Hp} {k : Key} : ∀ {kvs : List (Key × V)} {kds : List (Key × D)}, RKs K G kvs kds → (valD kds k = none ∧ valV kvs k = none) ∨ ∃ d v, valD kds k = some d ∧ valV kvs k = some v ∧ RD K G v d
  | _, _, .nil => .inl ⟨rfl, rfl⟩
  | (a, v) :: r, (b, d) :: s, .cons h t => by
    obtain ⟨h1, h2⟩ := h
    have h1 : a = b := h1
    subst h1
    by_cases e : a = k
    · refine .inr ⟨d, v, ?_, ?_, h2⟩
      · unfold valD
        rw [List.find?_cons, decide_eq_true e]
        rfl
      · unfold valV
        rw [List.find?_cons, decide_eq_true e]
        rfl
    · have ih := rk_val (k := k) t
      unfold valD valV at ih ⊢
      rw [List.find?_cons, List.find?_cons]
      rw [decide_eq_false e]
      exact ih
theorem rk_put {G : Hp} {k : Key} {v : V} {d : D} (h : RD K G v d) {kvs : List (Key × V)} {kds : List (Key × D)} (r : RKs K G kvs kds) : RKs K G (putK kvs k v) (putD kds k d) := by
  unfold putK putD
  rw [rk_any r]
  by_cases c : (kds.any fun kv => decide (kv.1 = k)) = true
  · rw [if_pos c, if_pos c]
    clear c
    induction r with
    | nil => exact .nil
    | @cons p q r s h2 t ih =>
      obtain ⟨a, u⟩ := p
      obtain ⟨b, w⟩ := q
      obtain ⟨h3, h4⟩ := h2
      have h3 : a = b := h3
      subst h3
      refine .cons ?_ ih
      show (if a = k then (a, v) else (a, u)).1 = (if a = k then (a, d) else (a, w)).1 ∧ RD K G (if a = k then (a, v) else (a, u)).2 (if a = k then (a, d) else (a, w)).2
      by_cases e : a = k
      · rw [if_pos e, if_pos e]
        exact ⟨rfl, h⟩
      · rw [if_neg e, if_neg e]
        exact ⟨rfl, h4⟩
  · rw [if_neg c, if_neg c]
    clear c
    induction r with
    | nil => exact .cons ⟨rfl, h⟩ .nil
    | cons h2 t ih => exact .cons h2 ih
theorem rk_len {G : Hp} : ∀ {kvs : List (Key × V)} {kds : List (Key × D)}, RKs K G kvs kds → kvs.length = kds.length
  | _, _, .nil => rfl
  | _, _, .cons _ t => by rw [List.length_cons, List.length_cons, rk_len t]
theorem RD.key {G : Hp} {v : V} {k : Key} (h : RD K G v (kD k)) : v = kV k := by
  cases k with
  | inl i => cases h; rfl
  | inr x =>
    cases h
    rfl
/-- d.get(k, x), an own dict -/
theorem ae_get2O {i : Nat} {kds : List (Key × D)} {k : Key} {d : D} (hd : AE K ta e (.o i)) (hi : e.m[i]? = some (some (.dk kds))) (hk : AE K tb e (.d (kD k))) (hx : AE K te e (.d d)) : AE K (tDGet2 ta tb te) e (.d ((valD kds k).getD d)) := fun B σ G H ad R c q =>
  hd B σ G H ad R _ fun v G1 H1 X1 r1 => by
    obtain ⟨l, hl, rfl⟩ := r1
    have R1 := R.ext X1
    obtain ⟨_, _, kvs, h1, _⟩ := R1.op i l _ hl hi
    refine ⟨l, rfl, .inl ⟨kvs, .inl h1⟩, hk B σ G1 H1 ad R1 _ fun w G2 H2 X2 r2 => hx B σ G2 H2 ad (R1.ext X2) _ fun u G3 H3 X3 r3 => ?_⟩
    have R3 := (R1.ext X2).ext X3
    obtain ⟨_, _, kvs3, h3, rk⟩ := R3.op i l _ hl hi
    have ew := RD.key r2
    subst ew
    refine ⟨valV kvs3 k, DGet.k h3, ?_⟩
    have X := (X1.trans X2).trans X3
    rcases rk_val (k := k) rk with ⟨e1, e2⟩ | ⟨d1, v1, e1, e2, e3⟩
    · rw [e1] at q
      rw [e2]
      exact q u G3 H3 X r3
    · rw [e1] at q
      rw [e2]
      exact q v1 G3 H3 X e3
/-- d.get(k, x), a frozen dict -/
theorem ae_get2P {m : List O} {i : Nat} {kds : List (Key × D)} {k : Key} {d : D} (hd : AE K ta e (.p (Frz K m i))) (hi : m[i]? = some (.dk kds)) (hk : AE K tb e (.d (kD k))) (hx : AE K te e (.d d)) : AE K (tDGet2 ta tb te) e (.d ((valD kds k).getD d)) := fun B σ G H ad R c q =>
  hd B σ G H ad R _ fun v G1 H1 X1 r1 => by
    obtain ⟨ad2, l, h0, hl, rfl, hall⟩ := r1 G1 (Same.refl _)
    obtain ⟨kvs, h1, rk⟩ := hall i l _ hl hi
    have R1 := R.ext X1
    refine ⟨l, rfl, .inl ⟨kvs, .inl (X1.gh _ _ h1)⟩, hk B σ G1 H1 ad R1 _ fun w G2 H2 X2 r2 => hx B σ G2 H2 ad (R1.ext X2) _ fun u G3 H3 X3 r3 => ?_⟩
    have ew := RD.key r2
    subst ew
    have hX := (X2.trans X3)
    refine ⟨valV kvs k, DGet.k (hX.hh _ _ (X1.gh _ _ h1)), ?_⟩
    have X := (X1.trans X2).trans X3
    rcases rk_val (k := k) rk with ⟨e1, e2⟩ | ⟨d1, v1, e1, e2, e3⟩
    · rw [e1] at q
      rw [e2]
      exact q u G3 H3 X r3
    · rw [e1] at q
      rw [e2]
      exact q v1 G3 H3 X (e3.mono hX.gg)
end
section
variable {K : PySem.W.Frag} {w : Nat} {D : AEnds} {e : Env} {ta tb te : TE}
/-- d[k] = v, an own dict -/
theorem as_dput {i : Nat} {kds : List (Key × Ab.D)} {k : Key} {d : Ab.D} (hv : AE K te e (.d d)) (hd : AE K ta e (.o i)) (hk : AE K tb e (.d (kD k))) (hi : e.m[i]? = some (some (.dk kds))) (hz : kds.length < 1000000) (q : D.nx (e.putO i (.dk (putD kds k d)))) :
    AS K w (sDPut ta tb te) D e := fun B hw C co σ G H ad R =>
  hv B σ G H ad R _ fun v G1 H1 X1 r1 => hd B σ G1 H1 ad (R.ext X1) _ fun u G2 H2 X2 r2 => hk B σ G2 H2 ad ((R.ext X1).ext X2) _ fun y G3 H3 X3 r3 => by
    obtain ⟨l, hl, rfl⟩ := r2
    have ew := RD.key r3
    subst ew
    have R3 := ((R.ext X1).ext X2).ext X3
    obtain ⟨_, _, kvs, h3, rk⟩ := R3.op i l _ hl hi
    refine ⟨l, _, rfl, DPut.k h3 (sz_lt (by rw [rk_len rk]; exact hz)), ?_⟩
    have rv : RD K G3 v d := RD.mono (X2.trans X3).gg r1
    exact co.nx _ σ G3 _ ad q (R3.putO hl hi ⟨_, upd_same, rk_put rv rk⟩)
end
end Ab
namespace Ab
open PySem PySem.Spec PyProof.Rows L2
/-! ### a promise over a store of own things -/
def clA (n : Nat) : A → Bool
  | .o k => decide (k < n)
  | _ => true
def clO (n : Nat) : O → Bool
  | .ins _ j fs => decide (j < n) && fs.all fun p => clA n p.2
  | .own k => decide (k < n)
  | .tp as => as.all (clA n)
  | .ls as => as.all (clA n)
  | _ => true
theorem pre_of {α : Type} {l l' : List α} (e : l <+: l') {k : Nat} {x : α} (h : l[k]? = some x) : l'[k]? = some x := by
  obtain ⟨t, rfl⟩ := e
  rw [List.getElem?_append_left (List.getElem?_eq_some_iff.mp h).1]
  exact h
theorem take_get {ad : List Addr} {n k : Nat} (h : k < n) : (ad.take n)[k]? = ad[k]? := List.getElem?_take_of_lt h
theorem RepV.cut {K : PySem.W.Frag} {G : Hp} {ad : List Addr} {v : V} {a : A} {n : Nat} (h : RepV K G ad v a) (c : clA n a = true) : RepV K G (ad.take n) v a := by
  cases a with
  | no => trivial
  | d x => exact h
  | p φ => exact h
  | o k =>
    obtain ⟨l, h1, h2⟩ := h
    exact ⟨l, by rw [take_get (of_decide_eq_true c)]; exact h1, h2⟩
theorem RepVs.cut {K : PySem.W.Frag} {G : Hp} {ad : List Addr} {n : Nat} : ∀ {vs : List V} {as : List A}, RepVs K G ad vs as → as.all (clA n) = true → RepVs K G (ad.take n) vs as
  | _, _, .nil, _ => .nil
  | _, _, .cons h r, c => by
    rw [List.all_cons, Bool.and_eq_true] at c
    exact .cons (h.cut c.1) (RepVs.cut r c.2)
theorem RFs.cut {K : PySem.W.Frag} {G : Hp} {ad : List Addr} {n : Nat} : ∀ {vs : List (Str × V)} {fs : List (Str × A)}, RFs K G ad vs fs → (fs.all fun p => clA n p.2) = true → RFs K G (ad.take n) vs fs
  | _, _, .nil, _ => .nil
  | _, _, .cons h r, c => by
    rw [List.all_cons, Bool.and_eq_true] at c
    exact .cons ⟨h.1, h.2.cut c.1⟩ (RFs.cut r c.2)
theorem ObR.cut {K : PySem.W.Frag} {G H : Hp} {ad : List Addr} {l : Addr} {o : O} {n : Nat} (h : ObR K G H ad l o) (c : clO n o = true) : ObR K G H (ad.take n) l o := by
  cases o with
  | lst ds => exact h
  | dk kds => exact h
  | ins C j fs =>
    obtain ⟨dx, vs, h1, h2, h3⟩ := h
    have c : (decide (j < n) && fs.all fun p => clA n p.2) = true := c
    rw [Bool.and_eq_true] at c
    exact ⟨dx, vs, h1, by rw [take_get (of_decide_eq_true c.1)]; exact h2, RFs.cut h3 c.2⟩
  | own k =>
    obtain ⟨x, h1, h2⟩ := h
    exact ⟨x, by rw [take_get (of_decide_eq_true c)]; exact h1, h2⟩
  | hf φ => exact h
  | tp as =>
    obtain ⟨vs, h1, h2⟩ := h
    exact ⟨vs, h1, h2.cut c⟩
  | ls as =>
    obtain ⟨vs, h1, h2⟩ := h
    exact ⟨vs, h1, h2.cut c⟩
structure Beh (G H G' H' : Hp) (ad ad' : List Addr) (K : PySem.W.Frag) (M' : List O) : Prop where
  gg : Same G G'
  gh : Same G' H'
  kp : ∀ a o, H a = some o → a ∉ ad → H' a = some o
  fr : ∀ a, G' a ≠ none → G a ≠ none ∨ H a = none
  pr : ad <+: ad'
  nd : ad'.Nodup
  ln : ad'.length = M'.length
  nw : ∀ l, l ∈ ad' → l ∉ ad → H l = none
  ob : ∀ (k : Nat) (l : Addr) (o : O), ad'[k]? = some l → M'[k]? = some o → G' l = none ∧ ObR K G' H' ad' l o
def SpM (K : PySem.W.Frag) (R : List A → List O → A → List O → Prop) : Sp := fun vs H Q _ => ∃ G ad as M r M', Same G H ∧ ad.Nodup ∧ ad.length = M.length ∧ (∀ (k : Nat) (l : Addr) (o : O), ad[k]? = some l → M[k]? = some o → G l = none ∧ ObR K G H ad l o) ∧ RepVs K G ad vs as ∧ R as M r M' ∧
  ∀ v G' H' ad', Beh G H G' H' ad ad' K M' → RepV K G' ad' v r → Q v H'
theorem SpM.len {K : PySem.W.Frag} {ps : List Str} {R : List A → List O → A → List O → Prop} (hl : ∀ as M r M', R as M r M' → as.length = ps.length) : ∀ vs H Q E, SpM K R vs H Q E → vs.length = ps.length := by
  rintro vs H Q E ⟨G, ad, as, M, r, M', _, _, _, _, rv, hR, _⟩
  rw [rv.length]
  exact hl _ _ _ _ hR
/-- the ends of such a def -/
abbrev endM (r : A) (M' : List O) : AEnds := ⟨fun e => r = .d .non ∧ M'.map some <+: e.m, fun a e => a = r ∧ M'.map some <+: e.m, fun _ => False, fun _ => False⟩
section
variable {K : PySem.W.Frag} {N : List Str} {vs : List V} {H : Hp} {Q : VK} {E : XK} {t : TS}
theorem run_M {R : List A → List O → A → List O → Prop} (h : SpM K R vs H Q E)
    (hb : ∀ as M r M', R as M r M' → as.length ≤ N.length ∧ M.length ≤ M'.length ∧ clA M'.length r = true ∧ M'.all (clO M'.length) = true ∧ AS K M.length t (endM r M') ⟨env0 N as, M.map some⟩) :
    t { nx := fun _ H' => Q .non H', rt := Q } (L2.start N vs) H := by
  obtain ⟨G, ad, as, M, r, M', s, nd, ln, ob, rv, hR, q⟩ := h
  obtain ⟨hN, hM, hr, hc, hb⟩ := hb as M r M' hR
  have R0 : Rep K ⟨G, H, ad⟩ ⟨env0 N as, M.map some⟩ (L2.start N vs) G H ad := {
    bg := Same.refl _
    gh := s
    fr := fun a h => .inl h
    kp := fun a o h _ => h
    nn := fun a h => h
    al := by
      show ad.length = (M.map some).length
      rw [List.length_map, ln]
    nd := nd
    ah := fun l hl => by
      obtain ⟨k, hk⟩ := List.mem_iff_getElem?.mp hl
      have hkl : k < M.length := by
        rw [← ln]
        exact (List.getElem?_eq_some_iff.mp hk).1
      obtain ⟨_, o⟩ := ob k l _ hk (List.getElem?_eq_getElem hkl)
      obtain ⟨u, hu⟩ := o.some
      rw [hu]
      exact fun y => nomatch y
    ow := List.prefix_refl _
    op := fun k l o h1 h2 => by
      have h2 : (M.map some)[k]? = some (some o) := h2
      rw [List.getElem?_map] at h2
      cases z : M[k]? with
      | none =>
        rw [z] at h2
        cases h2
      | some o' =>
        rw [z] at h2
        cases h2
        obtain ⟨g, ho⟩ := ob k l _ h1 z
        exact ⟨g, .inl (List.mem_of_getElem? h1), ho⟩
    sl := by
      rw [start_len (by rw [rv.length]; exact hN)]
      unfold env0
      rw [List.length_append, List.length_replicate]
      show N.length = as.length + (N.length - as.length)
      omega
    st := st0 rv }
  have fin : ∀ e σ v G' H' adF, M'.map some <+: e.m → Rep K ⟨G, H, ad⟩ e σ G' H' adF → RepV K G' adF v r → Q v H' := by
    intro e σ v G' H' adF hm R' rv'
    have hlen : M'.length ≤ adF.length := by
      rw [R'.al]
      have := hm.length_le
      rwa [List.length_map] at this
    have hmk : ∀ (k : Nat) (o : O), M'[k]? = some o → e.m[k]? = some (some o) := fun k o hk => pre_of hm (by rw [List.getElem?_map, hk]; rfl)
    have hal : (adF.take M'.length).length = M'.length := by
      rw [List.length_take]
      omega
    have hpr : ad <+: adF.take M'.length := by
      obtain ⟨tl, e1⟩ := R'.ow
      refine List.prefix_of_prefix_length_le ⟨tl, e1⟩ (List.take_prefix _ _) ?_
      rw [hal, ln]
      exact hM
    refine q v G' H' (adF.take M'.length) ⟨R'.bg, R'.gh, R'.kp, R'.fr, hpr, R'.nd.sublist (List.take_sublist _ _), hal, fun l hl hn => ?_, fun k l o h1 h2 => ?_⟩ (rv'.cut hr)
    · obtain ⟨k, hk⟩ := List.mem_iff_getElem?.mp hl
      have hkl : k < M'.length := by
        rw [← hal]
        exact (List.getElem?_eq_some_iff.mp hk).1
      rw [take_get hkl] at hk
      obtain ⟨_, how, _⟩ := R'.op k l _ hk (hmk k _ (List.getElem?_eq_getElem hkl))
      rcases how with z | z
      · exact absurd z hn
      · exact z
    · have hkl : k < M'.length := (List.getElem?_eq_some_iff.mp h2).1
      rw [take_get hkl] at h1
      obtain ⟨g, _, ho⟩ := R'.op k l o h1 (hmk k o h2)
      exact ⟨g, ho.cut (List.all_eq_true.mp hc o (List.mem_of_getElem? h2))⟩
  refine hb ⟨G, H, ad⟩ ln _ ⟨?_, ?_, fun _ _ _ _ _ z => z.elim, fun _ _ _ _ _ z => z.elim⟩ _ _ _ ad R0
  · rintro e σ G' H' adF ⟨hr', hm⟩ R'
    exact fin e σ _ G' H' adF hm R' (by rw [hr']; exact RD.non)
  · rintro a e v σ G' H' adF ⟨rfl, hm⟩ R' rv'
    exact fin e σ v G' H' adF hm R' rv'
end
/-- a call whose callee has the first own things (all of them, where it gives back new ones) -/
theorem beh_rep {K : PySem.W.Frag} {B : Bs} {e : Env} {σ : L2.St} {G H G' H' : Hp} {ad ad' : List Addr} {M M' : List O} {rest : List (Option O)} (R : Rep K B e σ G H ad) (hm : e.m = M.map some ++ rest) (hl : M'.length = M.length ∨ rest = []) (b : Beh G H G' H' (ad.take M.length) ad' K M') :
    ad <+: ad' ++ ad.drop M.length ∧ Rep K B ⟨e.s, M'.map some ++ rest⟩ σ G' H' (ad' ++ ad.drop M.length) := by
  have hal : ad.length = M.length + rest.length := by rw [R.al, hm, List.length_append, List.length_map]
  have htk : (ad.take M.length).length = M.length := by rw [List.length_take]; omega
  have hpre : ad <+: ad' ++ ad.drop M.length := by
    obtain ⟨tl, e1⟩ := b.pr
    rcases hl with h | h
    · have : tl = [] := by
        have e2 := congrArg List.length e1
        rw [List.length_append, htk, b.ln, h] at e2
        exact List.eq_nil_of_length_eq_zero (by omega)
      rw [this, List.append_nil] at e1
      rw [← e1, List.take_append_drop]
      exact List.prefix_refl _
    · have hd : ad.drop M.length = [] := List.drop_eq_nil_of_le (by rw [hal, h]; exact Nat.le_refl _)
      have ht : ad.take M.length = ad := List.take_of_length_le (by rw [hal, h]; exact Nat.le_refl _)
      rw [hd, List.append_nil]
      rw [ht] at e1
      exact ⟨tl, e1⟩
  -- the rest stands apart
  have hapart : ∀ l, l ∈ ad.drop M.length → l ∉ ad.take M.length := fun l h1 h2 => by
    have := R.nd
    rw [← List.take_append_drop M.length ad] at this
    exact (List.nodup_append.mp this).2.2 l h2 l h1 rfl
  have hnew : ∀ l, l ∈ ad.drop M.length → l ∉ ad' := fun l h1 h2 => by
    have h3 := b.nw l h2 (hapart l h1)
    exact R.ah l (List.mem_of_mem_drop h1) h3
  have hkeep : ∀ a o, H a = some o → a ∉ ad.take M.length → H' a = some o := b.kp
  have hmem : ∀ l, l ∈ ad' → ∃ u, H' l = some u := fun l hl2 => by
    obtain ⟨k, hk⟩ := List.mem_iff_getElem?.mp hl2
    have hkl : k < M'.length := by
      rw [← b.ln]
      exact (List.getElem?_eq_some_iff.mp hk).1
    obtain ⟨_, ho⟩ := b.ob k l _ hk (List.getElem?_eq_getElem hkl)
    exact ho.some
  have hpsub : ∀ l, l ∈ ad.take M.length → l ∈ ad' := fun l h => b.pr.subset h
  have hm2 : ∀ (k : Nat) (l : Addr) (o : O), (ad' ++ ad.drop M.length)[k]? = some l → (M'.map some ++ rest)[k]? = some (some o) → (ad'[k]? = some l ∧ M'[k]? = some o) ∨ (l ∈ ad.drop M.length ∧ ad[k]? = some l ∧ e.m[k]? = some (some o)) := by
    intro k l o h1 h2
    by_cases hk : k < M'.length
    · rw [List.getElem?_append_left (by rw [b.ln]; exact hk)] at h1
      rw [List.getElem?_append_left (by rw [List.length_map]; exact hk), List.getElem?_map] at h2
      cases z : M'[k]? with
      | none =>
        rw [z] at h2
        cases h2
      | some o' =>
        rw [z] at h2
        cases h2
        exact .inl ⟨h1, rfl⟩
    · rw [List.getElem?_append_right (by rw [b.ln]; omega), b.ln] at h1
      rw [List.getElem?_append_right (by rw [List.length_map]; omega), List.length_map] at h2
      rcases hl with h | h
      · have e1 : M.length + (k - M'.length) = k := by omega
        refine .inr ⟨List.mem_of_getElem? h1, ?_, ?_⟩
        · rw [List.getElem?_drop, e1] at h1
          exact h1
        · rw [hm, List.getElem?_append_right (by rw [List.length_map]; omega), List.length_map, ← h]
          exact h2
      · rw [h] at h2
        cases h2
  refine ⟨hpre, ?_⟩
  exact {
    bg := R.bg.trans b.gg
    gh := b.gh
    fr := fun a h => by
      rcases b.fr a h with q | q
      · exact R.fr a q
      · refine .inr ?_
        cases z : B.H a with
        | none => rfl
        | some o => exact absurd q (R.nn a (by rw [z]; exact fun y => nomatch y))
    kp := fun a o h n => by
      have h1 := R.kp a o h n
      refine hkeep a o h1 fun hin => ?_
      obtain ⟨k, hk⟩ := List.mem_iff_getElem?.mp hin
      have hkl : k < M.length := by
        have := (List.getElem?_eq_some_iff.mp hk).1
        omega
      rw [take_get hkl] at hk
      have hmk : e.m[k]? = some (some M[k]) := by
        rw [hm, List.getElem?_append_left (by rw [List.length_map]; exact hkl), List.getElem?_map, List.getElem?_eq_getElem hkl]
        rfl
      obtain ⟨_, how, _⟩ := R.op k a _ hk hmk
      rcases how with z | z
      · exact n z
      · rw [z] at h
        cases h
    nn := fun a h => by
      have q := R.nn a h
      by_cases hin : a ∈ ad.take M.length
      · obtain ⟨u, hu⟩ := hmem a (hpsub a hin)
        rw [hu]
        exact fun y => nomatch y
      · cases z : H a with
        | none => exact absurd z q
        | some o =>
          rw [hkeep a o z hin]
          exact fun y => nomatch y
    al := by
      show (ad' ++ ad.drop M.length).length = (M'.map some ++ rest).length
      rw [List.length_append, List.length_append, List.length_map, List.length_drop, b.ln]
      omega
    nd := List.nodup_append.mpr ⟨b.nd, R.nd.sublist (List.drop_sublist _ _), fun x hx y hy e1 => hnew y hy (e1 ▸ hx)⟩
    ah := fun l h => by
      rcases List.mem_append.mp h with q | q
      · obtain ⟨u, hu⟩ := hmem l q
        rw [hu]
        exact fun y => nomatch y
      · have q1 := R.ah l (List.mem_of_mem_drop q)
        cases z : H l with
        | none => exact absurd z q1
        | some o =>
          rw [hkeep l o z (hapart l q)]
          exact fun y => nomatch y
    ow := R.ow.trans hpre
    op := fun k l o h1 h2 => by
      rcases hm2 k l o h1 h2 with ⟨k1, k2⟩ | ⟨k0, k1, k2⟩
      · obtain ⟨g, ho⟩ := b.ob k l o k1 k2
        refine ⟨g, ?_, ho.keep (Same.refl _) (List.prefix_append _ _) fun u h => h⟩
        by_cases hin : l ∈ ad.take M.length
        · obtain ⟨j, hj⟩ := List.mem_iff_getElem?.mp hin
          have hjl : j < M.length := by
            have := (List.getElem?_eq_some_iff.mp hj).1
            omega
          rw [take_get hjl] at hj
          have hmj : e.m[j]? = some (some M[j]) := by
            rw [hm, List.getElem?_append_left (by rw [List.length_map]; exact hjl), List.getElem?_map, List.getElem?_eq_getElem hjl]
            rfl
          exact (R.op j l _ hj hmj).2.1
        · have hz := b.nw l (List.mem_of_getElem? k1) hin
          refine .inr ?_
          cases z : B.H l with
          | none => rfl
          | some o => exact absurd hz (R.nn l (by rw [z]; exact fun y => nomatch y))
      · obtain ⟨g, how, ho⟩ := R.op k l o k1 k2
        obtain ⟨u, hu⟩ := ho.some
        refine ⟨?_, how, ho.keep b.gg hpre fun u h => hkeep l u h (hapart l k0)⟩
        cases z : G' l with
        | none => rfl
        | some o2 =>
          rcases b.fr l (by rw [z]; exact fun y => nomatch y) with q | q
          · exact absurd g q
          · rw [hu] at q
            cases q
    sl := R.sl
    st := fun i a h => by
      rcases R.st i a h with q | ⟨v, q1, q2⟩
      · exact .inl q
      · exact .inr ⟨v, q1, (q2.mono b.gg).pre hpre⟩ }
section
variable {K : PySem.W.Frag} {e : Env} {ta : TE} {tl : TA} {as : List A} {E : XK} {Q : A → Env → Prop} {r : A} {M M' : List O} {rest : List (Option O)} {R : List A → List O → A → List O → Prop}
/-- from the arguments' values -/
theorem spM_use {B : Bs} {σ : L2.St} {G H : Hp} {ad : List Addr} {vs : List V} {C : VK} (Rp : Rep K B e σ G H ad) (rv : RepVs K G ad vs as) (hm : e.m = M.map some ++ rest) (hl : M'.length = M.length ∨ rest = []) (hc : as.all (clA M.length) = true) (hcM : M.all (clO M.length) = true) (hR : R as M r M')
    (c : ∀ v G' H' ad', Same G G' → ad <+: ad' → Rep K B ⟨e.s, M'.map some ++ rest⟩ σ G' H' ad' → RepV K G' ad' v r → C v H') : SpM K R vs H C E := by
  have hal : ad.length = M.length + rest.length := by rw [Rp.al, hm, List.length_append, List.length_map]
  refine ⟨G, ad.take M.length, as, M, r, M', Rp.gh, Rp.nd.sublist (List.take_sublist _ _), by rw [List.length_take]; omega, fun k l o h1 h2 => ?_, rv.cut hc, hR, fun v G' H' ad' b rv' => ?_⟩
  · have hkl : k < M.length := (List.getElem?_eq_some_iff.mp h2).1
    rw [take_get hkl] at h1
    have hmk : e.m[k]? = some (some o) := by
      rw [hm, List.getElem?_append_left (by rw [List.length_map]; exact hkl), List.getElem?_map, h2]
      rfl
    obtain ⟨g, _, ho⟩ := Rp.op k l o h1 hmk
    exact ⟨g, ho.cut (List.all_eq_true.mp hcM o (List.mem_of_getElem? h2))⟩
  · obtain ⟨hp, R2⟩ := beh_rep Rp hm hl b
    exact c v G' H' _ b.gg hp R2 (rv'.pre (List.prefix_append _ _))
theorem ax_callM (M M' : List O) (rest : List (Option O)) (h : AL K tl e as) (hm : e.m = M.map some ++ rest) (hl : M'.length = M.length ∨ rest = []) (hc : as.all (clA M.length) = true) (hcM : M.all (clO M.length) = true) (hR : R as M r M')
    (q : Q r ⟨e.s, M'.map some ++ rest⟩) : AX K (tCall (SpM K R) [] E tl) e Q := fun B σ G H ad Rp C c =>
  h B σ G H ad Rp _ fun vs G1 H1 X1 rv => by
    have h2 := spM_use (E := E) (Rp.ext X1) rv hm hl hc hcM hR fun v G' H' ad' s p R2 rv' => c r _ v G' H' ad' q (X1.gg.trans s) p R2 rv'
    rw [← List.append_nil vs] at h2
    exact h2
/-- a method of an own instance -/
theorem ax_methM {C0 : Addr} {m : Str} {k j : Nat} {fs : List (Str × A)} (M M' : List O) (rest : List (Option O)) (ho : AE K ta e (.o k)) (hk : e.m[k]? = some (some (.ins C0 j fs))) (hf : fs.lookup m = none) (h : AL K tl e as) (hm : e.m = M.map some ++ rest) (hl : M'.length = M.length ∨ rest = [])
    (hc : (A.o k :: as).all (clA M.length) = true) (hcM : M.all (clO M.length) = true) (hR : R (.o k :: as) M r M') (q : Q r ⟨e.s, M'.map some ++ rest⟩) : AX K (tMeth C0 m (SpM K R) [] E ta tl) e Q := fun B σ G H ad Rp C c =>
  ho B σ G H ad Rp _ fun v G1 H1 X1 r1 => by
    have R1 := Rp.ext X1
    obtain ⟨l, hl1, rfl⟩ := r1
    obtain ⟨_, _, dx, vs0, h1, h2, h3⟩ := R1.op k l _ hl1 hk
    refine ⟨l, dx, vs0, rfl, h1, Paired.look_none h3 hf, h B σ G1 H1 ad R1 _ fun vs G2 H2 X2 rv => ?_⟩
    have h4 := spM_use (E := E) (vs := .ref l :: vs) (R1.ext X2) (RepVs.cons (a := .o k) (show RepV K G2 ad (.ref l) (.o k) from ⟨l, hl1, rfl⟩) rv) hm hl hc hcM hR fun v G' H' ad' s p R2 rv' => c r _ v G' H' ad' q ((X1.gg.trans X2.gg).trans s) p R2 rv'
    rw [List.append_nil]
    exact h4
/-- a method of a frozen instance -/
theorem ae_methP {C0 : Addr} {m : Str} {m0 : List O} {k j : Nat} {fs : List (Str × A)} {R : List A → A → Prop} (ho : AE K ta e (.p (Frz K m0 k))) (hk : m0[k]? = some (.ins C0 j fs)) (hf : fs.lookup m = none) (h : AL K tl e as) (hn : as.all noO = true) (hR : R (.p (Frz K m0 k) :: as) r) (nr : noO r = true := by rfl) :
    AE K (tMeth C0 m (SpF K R) [] E ta tl) e r := fun B σ G H ad Rp C c =>
  ho B σ G H ad Rp _ fun v G1 H1 X1 r1 => by
    have R1 := Rp.ext X1
    have r1' := r1
    obtain ⟨ad2, l, h0, hl, rfl, hall⟩ := r1 G1 (Same.refl _)
    obtain ⟨dx, vs0, h1, h2, h3⟩ := hall k l _ hl hk
    refine ⟨l, dx, vs0, rfl, X1.gh _ _ h1, Paired.look_none h3 hf, h B σ G1 H1 ad R1 _ fun vs G2 H2 X2 rv => ?_⟩
    refine ⟨G2, _, r, X2.gh, ?_, hR, fun v G3 H3 X3 rv3 => c v G3 H3 ((X1.trans X2).trans X3) (rv3.any nr)⟩
    rw [List.append_nil]
    exact .cons (fun G' s => r1' G' (X2.gg.trans s)) (rv.any hn)
end
/-! ### all own things frozen -/
def frzS (K : PySem.W.Frag) (m : List O) (a : A) : A := frzV K m a
theorem as_frzAll {K : PySem.W.Frag} {D : AEnds} {t : TS} {sl : List A} {m : List O} (h : AS K 0 t D ⟨sl.map (frzV K m), []⟩) : AS K 0 t D ⟨sl, m.map some⟩ := fun B hB C co σ G H ad R => by
  have how : B.ow = [] := List.eq_nil_of_length_eq_zero hB
  have hln : ad.length = m.length := by
    rw [R.al]
    show (m.map some).length = _
    rw [List.length_map]
  have hop : ∀ (k : Nat) (l : Addr) (o : O), ad[k]? = some l → m[k]? = some o → G l = none ∧ B.H l = none ∧ ObR K G H ad l o := fun k l o h1 h2 => by
    obtain ⟨g, w, ob⟩ := R.op k l o h1 (by show (m.map some)[k]? = _; rw [List.getElem?_map, h2]; rfl)
    rcases w with z | z
    · rw [how] at z
      cases z
    · exact ⟨g, z, ob⟩
  have hin : ∀ l, l ∈ ad → G l = none ∧ B.H l = none := fun l hl => by
    obtain ⟨k, hk⟩ := List.mem_iff_getElem?.mp hl
    have hkl : k < m.length := by
      rw [← hln]
      exact (List.getElem?_eq_some_iff.mp hk).1
    obtain ⟨g, z, _⟩ := hop k l _ hk (List.getElem?_eq_getElem hkl)
    exact ⟨g, z⟩
  -- the data with the own things in it
  let G2 : Hp := fun a => if a ∈ ad then H a else G a
  have e1 : ∀ a, a ∈ ad → G2 a = H a := fun a ha => if_pos ha
  have e2 : ∀ a, a ∉ ad → G2 a = G a := fun a ha => if_neg ha
  have gg : Same G G2 := fun a o ha => by
    have hn : a ∉ ad := fun z => by
      rw [(hin a z).1] at ha
      cases ha
    rw [e2 a hn]
    exact ha
  have gh : Same G2 H := fun a o ha => by
    by_cases hn : a ∈ ad
    · rw [e1 a hn] at ha
      exact ha
    · rw [e2 a hn] at ha
      exact R.gh _ _ ha
  have hall : ∀ (i : Nat) (a : Addr) (o : O), ad[i]? = some a → m[i]? = some o → ObR K G2 G2 ad a o := fun i a o h1 h2 => by
    obtain ⟨_, _, ob⟩ := hop i a o h1 h2
    exact ob.keep gg (List.prefix_refl _) fun u hu => by
      rw [e1 a (List.mem_of_getElem? h1)]
      exact hu
  have R2 : Rep K B ⟨sl.map (frzV K m), []⟩ σ G2 H [] := {
    bg := R.bg.trans gg
    gh := gh
    fr := fun a h => by
      by_cases hn : a ∈ ad
      · exact .inr (hin a hn).2
      · rw [e2 a hn] at h
        exact R.fr a h
    kp := R.kp
    nn := R.nn
    al := rfl
    nd := List.nodup_nil
    ah := fun l h => by cases h
    ow := by
      rw [how]
      exact List.prefix_refl _
    op := fun k l o h1 _ => by cases h1
    sl := by
      show σ.length = (sl.map (frzV K m)).length
      rw [List.length_map]
      exact R.sl
    st := fun i a q => by
      have q : (sl.map (frzV K m))[i]? = some a := q
      rw [List.getElem?_map] at q
      cases z : sl[i]? with
      | none =>
        rw [z] at q
        cases q
      | some b =>
        rw [z] at q
        have q : frzV K m b = a := Option.some.inj q
        subst q
        rcases R.st i b z with rfl | ⟨v, z1, z2⟩
        · exact .inl rfl
        · refine .inr ⟨v, z1, ?_⟩
          cases b with
          | no => trivial
          | d x => exact RD.mono gg z2
          | p φ => exact fun G3 s3 => z2 G3 (gg.trans s3)
          | o k =>
            obtain ⟨l, hl, rfl⟩ := z2
            have hkl : k < m.length := by
              rw [← hln]
              exact (List.getElem?_eq_some_iff.mp hl).1
            have hmk : m[k]? = some m[k] := List.getElem?_eq_getElem hkl
            show RepV K G2 [] _ (match m[k]? with | some (.lst ds) => .d (.lst ds) | _ => .p (Frz K m k))
            have hob := hall k l _ hl hmk
            have hfz : Frz K m k (.ref l) G2 := ⟨ad, l, hln, hl, rfl, hall⟩
            rw [hmk]
            cases ho2 : m[k] with
            | lst ds =>
              rw [ho2] at hob
              obtain ⟨ws, w1, w2⟩ := hob
              exact RD.lst w1 w2
            | dk kds => exact fun G' s => hfz.mono s
            | ins C2 j2 fs2 => exact fun G' s => hfz.mono s
            | own k2 => exact fun G' s => hfz.mono s
            | hf φ => exact fun G' s => hfz.mono s
            | tp as => exact fun G' s => hfz.mono s
            | ls as => exact fun G' s => hfz.mono s }
  exact h B hB C co σ G2 H [] R2
end Ab
namespace Ab
open PySem PySem.Spec PyProof.Rows L2
/-! ### methods of the text -/
def MethAt (K : PySem.W.Frag) (C : Addr) (m qual : Str) (st : Stmt) (ps : List Str) : Prop := ∃ f fd, Fun K m qual st f fd ∧ Meth K C m f ∧ Binds K fd ps []
def HasM (P : Program) (w : World) (K : PySem.W.Frag) (mg : Str → Option Value) (base : Heap) (C : Addr) (m : Str) (ps : List Str) (k : Nat) (sp : Sp) : Prop :=
  ∃ f fd, FnOk P w K mg base CX0 k f fd ps sp ∧ Meth K C m f ∧ Binds K fd ps []
section
variable {X : Cx} {C : Addr} {m : Str} {ps : List Str} {k : Nat} {sp : Sp} {o e : Expr} {es : List Expr} {ta : TE} {t : TA} {apos pos : Pos}
theorem pe_hasM {pl : Sem Bool} (c : Cls X.K C) (h : HasM X.prog X.w X.K X.mg X.base C m ps k sp) (hr : Room k X.A) (he : PE X o ta) (ha : PA X (e :: es) t)
    (hst : starEach (e :: es) X.env = (false, eval e X.env) :: starEach es X.env := by rfl) (hpl : (backTo pos (starEach es X.env)).any (·.1) = false := by rfl)
    (ht : eval (.Call (.Attribute o m apos) (e :: es) [] pos) X.env = (do
      let ov ← eval o X.env
      standAt apos.atName
      let (f, first) ← holding [ov] (getMethod ov m pl)
      callWith pos f first (backTo pos (starEach (e :: es) X.env)) (backToKw pos (keywordEach [] X.env))) := by rfl) :
    PE X (.Call (.Attribute o m apos) (e :: es) [] pos) (tMeth C m sp [] E0 ta t) := by
  obtain ⟨f, fd, F, mt, b⟩ := h
  exact pe_meth he c mt F hr b .nil pass0 ha hst hpl ht
theorem pe_hasM0 {pl : Sem Bool} (c : Cls X.K C) (h : HasM X.prog X.w X.K X.mg X.base C m ps k sp) (hr : Room k X.A) (he : PE X o ta)
    (ht : eval (.Call (.Attribute o m apos) [] [] pos) X.env = (do
      let ov ← eval o X.env
      standAt apos.atName
      let (f, first) ← holding [ov] (getMethod ov m pl)
      callWith pos f first (backTo pos (starEach [] X.env)) (backToKw pos (keywordEach [] X.env))) := by rfl) :
    PE X (.Call (.Attribute o m apos) [] [] pos) (tMeth C m sp [] E0 ta tNil) := by
  obtain ⟨f, fd, F, mt, b⟩ := h
  exact pe_meth0 he c mt F hr b .nil pass0 ht
/-- xs[i] for xs[i] op= e -/
theorem get_list : PGet X (rIxL X.K) := by
  intro pins s σ H x y v u Q I rx ry h
  obtain ⟨p, xs, i, z, rfl, rfl, hq, he, q⟩ := h
  cases rx
  obtain ⟨t, rfl⟩ := ry
  obtain ⟨its, r, pl, hz⟩ := I.list hq
  obtain ⟨j, h1, h2, h3, h4, h5⟩ := atI_get he
  obtain ⟨w, ew, rw'⟩ := r.get h2
  have hl := r.length
  have hn := line63
  by_cases h0 : 0 ≤ i
  · have hj : i.toNat = j := by
      rw [seqIndex_of h0 h5] at h1
      exact Option.some.inj h1
    exact wpAny_getItem_list pl.isList h0 (by omega) (by rw [hj]; simpa using ew) ⟨z, H, I, rw', q⟩
  · have hj : (i + (its.toArray.size : Int)).toNat = j := by
      rw [seqIndex_neg (by omega) h4] at h1
      rw [List.size_toArray, ← hl]
      exact Option.some.inj h1
    exact wpAny_getItem_list_neg pl.isList (by omega) (by rw [List.size_toArray] <;> omega) (by omega) (by rw [hj]; simpa using ew) ⟨z, H, I, rw', q⟩
end
section
variable {P : Program} {w : World} {K : PySem.W.Frag} {mg : Str → Option Value} {base : Heap} {x qual : Str} {st : Stmt} {N ps : List Str} {k : Nat} {C : Addr}
/-- as Body, of a method -/
def BodyQ (P : Program) (w : World) (K : PySem.W.Frag) (mg : Str → Option Value) (base : Heap) (N : List Str) (qual : Str) (st : Stmt) (k : Nat) (go : TS → Prop) : Prop :=
  ∀ (f : Addr) (cdv : Value) (A : Around) (outer : List PySem.Env) (s : Shared) (H : Hp) (E : XK), Room k (A.deeper (envOfC qual (defScope st) s.heap.objs.size f cdv)) →
    ∃ t, PSs (cxOf CX0 P w K mg base N qual (defScope st) f cdv A outer s H E).nox (defBody st) t ∧ go t
abbrev GoM (K : PySem.W.Frag) (N : List Str) (R : List A → List O → A → List O → Prop) (t : TS) : Prop :=
  ∀ as M r M', R as M r M' → M.length ≤ M'.length ∧ clA M'.length r = true ∧ M'.all (clO M'.length) = true ∧ AS K M.length t (endM r M') ⟨env0 N as, M.map some⟩
theorem okM {R : List A → List O → A → List O → Prop} (DD : DefAt K mg x st ps) (S : FnScope N ps (defScope st)) (hl : ∀ as M r M', R as M r M' → as.length = ps.length) (hb : Body P w K mg base N x st k (GoM K N R)) : Has P w K mg base x ps (k + 1) (SpM K R) :=
  DD.has fun f fd F => F.ok S (SpM.len hl) fun cdv A outer s H vs Q E hr h => by
    obtain ⟨t, ht, go⟩ := hb f cdv A outer s H E hr
    exact ⟨t, ht, run_M h fun as M r M' hR => ⟨by rw [hl _ _ _ _ hR]; exact FnScope.le S, go as M r M' hR⟩⟩
theorem okMM {R : List A → List O → A → List O → Prop} (DD : MethAt K C x qual st ps) (S : FnScope N ps (defScope st)) (hl : ∀ as M r M', R as M r M' → as.length = ps.length) (hb : BodyQ P w K mg base N qual st k (GoM K N R)) : HasM P w K mg base C x ps (k + 1) (SpM K R) := by
  obtain ⟨f, fd, F, m, b⟩ := DD
  refine ⟨f, fd, F.ok S (SpM.len hl) fun cdv A outer s H vs Q E hr h => ?_, m, b⟩
  obtain ⟨t, ht, go⟩ := hb f cdv A outer s H E hr
  exact ⟨t, ht, run_M h fun as M r M' hR => ⟨by rw [hl _ _ _ _ hR]; exact FnScope.le S, go as M r M' hR⟩⟩
theorem okMF {R : List A → A → Prop} (DD : MethAt K C x qual st ps) (S : FnScope N ps (defScope st)) (hl : ∀ as r, R as r → as.length = ps.length) (hb : BodyQ P w K mg base N qual st k fun t => ∀ as r, R as r → AS K 0 t (endF r) ⟨env0 N as, []⟩) : HasM P w K mg base C x ps (k + 1) (SpF K R) := by
  obtain ⟨f, fd, F, m, b⟩ := DD
  refine ⟨f, fd, F.ok S (SpF.len hl) fun cdv A outer s H vs Q E hr h => ?_, m, b⟩
  obtain ⟨t, ht, go⟩ := hb f cdv A outer s H E hr
  exact ⟨t, ht, run_F h fun as r hR => ⟨by rw [hl _ _ hR]; exact FnScope.le S, go as r hR⟩⟩
theorem mk_meth {f : Addr} {oc : Value} {od an : Option Addr} {osl : Array (Option Value)} {kV doc pm cdv ct : Value} (a : PySem.W.findIn K (.ref C) x = some (some (.ref f))) (i : PySem.W.isFn K (.ref f) = true) (l : K.lookup f = some ⟨oc, od, .func (PySem.W.fnOf x qual (defArgs st) (defBody st) (defScope st) .none kV doc pm an cdv ct), osl⟩)
    (c : PySem.W.codeIn K cdv qual = true) (k : PySem.W.keepIn K (.ref f) = true)
    (hb : ∀ (kV doc pm : Value) (an : Option Addr) (cdv ct : Value) (us : List Value), us.length = ps.length → bindArgs (PySem.W.fnOf x qual (defArgs st) (defBody st) (defScope st) .none kV doc pm an cdv ct) ⟨us, []⟩ = pure (ps.zip us)) : MethAt K C x qual st ps :=
  have F := fun_mk (st := st) l c k
  ⟨f, _, F, ⟨a, i, k⟩, F.binds hb⟩
end
/-! ### attributes stored, own lists changed in place, new instances -/
section
variable {K : PySem.W.Frag} {w : Nat} {D : AEnds} {e : Env} {ta tb te to ti : TE}
def putFA (f : Str) (a : A) : List (Str × A) → List (Str × A)
  | [] => [(f, a)]
  | (g, x) :: r => if g = f then (g, a) :: r else (g, x) :: putFA f a r
theorem rf_put {G : Hp} {ad : List Addr} {f : Str} {v : V} {a : A} (h : RepV K G ad v a) : ∀ {vs : List (Str × V)} {fs : List (Str × A)}, RFs K G ad vs fs → RFs K G ad (putF f v vs) (putFA f a fs)
  | _, _, .nil => .cons ⟨rfl, h⟩ .nil
  | (g, x) :: r, (g', y) :: s, .cons q t => by
    obtain ⟨e1, e2⟩ := q
    have e1 : g = g' := e1
    subst e1
    show RFs K G ad (if g = f then (g, v) :: r else (g, x) :: putF f v r) (if g = f then (g, a) :: s else (g, y) :: putFA f a s)
    by_cases c : g = f
    · rw [if_pos c, if_pos c]
      exact .cons ⟨rfl, h⟩ t
    · rw [if_neg c, if_neg c]
      exact .cons ⟨rfl, e2⟩ (rf_put h t)
theorem rf_len {G : Hp} {ad : List Addr} : ∀ {vs : List (Str × V)} {fs : List (Str × A)}, RFs K G ad vs fs → vs.length = fs.length
  | _, _, .nil => rfl
  | _, _, .cons _ t => by rw [List.length_cons, List.length_cons, rf_len t]
theorem as_fldX {k : Nat} {f : Str} {C : Addr} (hv : AX K te e fun a e' => ∃ j fs, AE K ta e' (.o k) ∧ e'.m[k]? = some (some (.ins C j fs)) ∧ fs.length < 1000 ∧ D.nx (e'.putO k (.ins C j (putFA f a fs)))) (c : Cls K C) (n : NoAttr K C f) : AS K w (sFld K ta te f) D e := fun B hw C0 co σ G H ad R =>
  hv B σ G H ad R _ fun a e' v G1 H1 ad1 q _ _ R1 r1 => by
    obtain ⟨j, fs, ho, hk, hl, q⟩ := q
    refine ho B σ G1 H1 ad1 R1 _ fun u G2 H2 X2 r2 => ?_
    obtain ⟨l, hl2, rfl⟩ := r2
    have R2 := R1.ext X2
    obtain ⟨_, _, dx, vs, h1, h2, h3⟩ := R2.op k l _ hl2 hk
    refine ⟨l, C, dx, vs, rfl, h1, c, n, by rw [rf_len h3]; exact hl, ?_⟩
    exact co.nx _ σ G2 _ ad1 q (R2.putO hl2 hk ⟨dx, _, upd_same, h2, rf_put (r1.mono X2.gg) h3⟩)
/-- xs[i] op= y on an own list of ints -/
theorem as_augI {k j : Nat} {i a b : Int} {g : Int → Int → V} {cc : Int} {ds : List Ab.D} (ho : AE K to e (.o k)) (hi : AE K ti e (.d (.int i))) (he : AE K te e (.d (.int b))) (hk : e.m[k]? = some (some (.lst ds))) (hj : ixN ds.length i = some j) (ha : ds[j]? = some (.int a)) (hg : g a b = .int cc)
    (q : D.nx (e.put k (ds.set j (.int cc)))) : AS K w (tAugS to ti te (rIxL K) (rI0 g) rSetL) D e := fun B hw C co σ G H ad R =>
  ho B σ G H ad R _ fun v G1 H1 X1 r1 => hi B σ G1 H1 ad (R.ext X1) _ fun v2 G2 H2 X2 r2 => by
    obtain ⟨l, hl, rfl⟩ := r1
    cases r2
    have R2 := (R.ext X1).ext X2
    obtain ⟨_, _, vs, h0, rd⟩ := R2.op k l _ hl hk
    obtain ⟨u, hu, ru⟩ := rd.get ha
    cases ru
    refine ⟨l, vs, i, .int a, rfl, rfl, .inl (.inl h0), ?_, he B σ G2 H2 ad R2 _ fun v3 G3 H3 X3 r3 => ?_⟩
    · unfold atI
      rw [rd.length, hj]
      exact hu
    · cases r3
      have R3 := R2.ext X3
      obtain ⟨_, _, vs3, h3, rd3⟩ := R3.op k l _ hl hk
      refine ⟨a, b, rfl, rfl, l, vs3, i, j, rfl, rfl, h3, by rw [rd3.length]; exact hj, ?_⟩
      rw [hg]
      exact co.nx _ σ G3 _ ad q (R3.put hl hk (rd3.set RD.int j))
/-- {} -/
theorem ax_dnew {Q : A → Env → Prop} (q : Q (.o e.m.length) (e.addO (.dk []))) : AX K tDNewK e Q := fun B σ G H ad R C c => by
  intro p hp
  have hb := R.apart hp
  have X := Xt.drop (o := .dK []) R.gh hp
  have R1 := R.ext X
  have na : p ∉ ad := R.fresh hp
  refine c _ _ _ G _ (ad ++ [p]) q (Same.refl _) (List.prefix_append _ _) (R1.addO hb.1 hb.2 na ⟨[], upd_same, .nil⟩) ⟨p, ?_, rfl⟩
  rw [← R.al, List.getElem?_append_right (Nat.le_refl _), Nat.sub_self]
  rfl
/-- C() -/
theorem ax_make0 {C0 : Addr} {E : XK} {R : List A → List O → A → List O → Prop} {Q : A → Env → Prop} {M' : List O} (h0 : e.m = []) (hR : R [.o 0] [.ins C0 1 [], .own 0] (.d .non) M') (q : Q (.o 0) ⟨e.s, M'.map some⟩) : AX K (tMake C0 (SpM K R) [] E tNil) e Q := fun B σ G H ad Rp C c => by
  intro x dx hx hdx hne
  have had : ad = [] := by
    have := Rp.al
    rw [h0] at this
    exact List.eq_nil_of_length_eq_zero this
  subst had
  have b1 := Rp.apart hdx
  have b2 := Rp.apart hx
  -- the dict, then the instance
  have R1 : Rep K B e σ G (upd (upd H dx (.own x)) x (.ins C0 dx [])) [] := by
    have X1 := Xt.drop (o := .own x) Rp.gh hdx
    have hx1 : (upd H dx (.own x)) x = none := by
      rw [upd_ne (Ne.symm hne)]
      exact hx
    exact (Rp.ext X1).ext (Xt.drop (o := .ins C0 dx []) X1.gh hx1)
  have R2 : Rep K B (e.addO (.ins C0 1 [])) σ G (upd (upd H dx (.own x)) x (.ins C0 dx [])) [] → True := fun _ => trivial
  let H2 := upd (upd H dx (.own x)) x (.ins C0 dx [])
  have e1 : H2 x = some (.ins C0 dx []) := upd_same
  have e2 : H2 dx = some (.own x) := by
    show upd (upd H dx (.own x)) x (.ins C0 dx []) dx = _
    rw [upd_ne hne]
    exact upd_same
  have R3 : Rep K B ⟨e.s, [some (.ins C0 1 []), some (.own 0)]⟩ σ G H2 [x, dx] := {
    bg := R1.bg
    gh := R1.gh
    fr := R1.fr
    kp := R1.kp
    nn := R1.nn
    al := rfl
    nd := by simp [Ne.symm hne]
    ah := fun l h => by
      rcases List.mem_cons.mp h with rfl | h
      · rw [e1]
        exact fun y => nomatch y
      · rw [List.mem_singleton.mp h, e2]
        exact fun y => nomatch y
    ow := by
      have := R1.ow
      obtain ⟨tl, e3⟩ := this
      have : B.ow = [] := (List.append_eq_nil_iff.mp e3).1
      rw [this]
      exact List.nil_prefix
    op := fun k l o h1 h2 => by
      match k with
      | 0 =>
        cases h1
        cases h2
        exact ⟨b2.1, .inr b2.2, dx, [], e1, rfl, .nil⟩
      | 1 =>
        cases h1
        cases h2
        exact ⟨b1.1, .inr b1.2, x, rfl, e2⟩
      | k + 2 => cases h1
    sl := R1.sl
    st := fun i a h => by
      rcases R1.st i a h with q1 | ⟨v, q1, q2⟩
      · exact .inl q1
      · exact .inr ⟨v, q1, q2.pre List.nil_prefix⟩ }
  have h4 := spM_use (E := E) (as := [.o 0]) (M := [.ins C0 1 [], .own 0]) (M' := M') (rest := []) (r := .d .non) (R := R) (vs := [.ref x]) (C := fun v H3 => v = .non ∧ C (.ref x) H3) R3 (RepVs.cons (a := .o 0) (show RepV K G [x, dx] (.ref x) (.o 0) from ⟨x, rfl, rfl⟩) .nil) rfl (.inr rfl) rfl rfl hR fun v G' H' ad' s p R' rv' => by
    refine ⟨by cases rv'; rfl, ?_⟩
    refine c (.o 0) _ (.ref x) G' H' ad' q s List.nil_prefix (by rw [List.append_nil] at R'; exact R') ⟨x, pre_get p rfl, rfl⟩
  exact h4
end
end Ab
/-! ### set(a text) -/
namespace SetT
open PySem PySem.Spec PyProof.Rows
section
variable {κ : Type} [DecidableEq κ]
/-- met among the first i -/
def seen (val : Nat → κ) : Nat → κ → Bool
  | 0 => fun _ => false
  | i + 1 => fun x => seen val i x || decide (x = val i)
/-- how many unlike ones -/
def cnt (val : Nat → κ) : Nat → Nat
  | 0 => 0
  | i + 1 => if seen val i (val i) = true then cnt val i else cnt val i + 1
theorem cnt_le (val : Nat → κ) : ∀ i, cnt val i ≤ i
  | 0 => Nat.le_refl _
  | i + 1 => by
    have := cnt_le val i
    unfold cnt
    split <;> omega
theorem seen_iff (val : Nat → κ) (x : κ) : ∀ i, seen val i x = true ↔ ∃ j, j < i ∧ val j = x
  | 0 => by
    show false = true ↔ _
    simp
  | i + 1 => by
    show (seen val i x || decide (x = val i)) = true ↔ _
    rw [Bool.or_eq_true, seen_iff val x i, decide_eq_true_eq]
    constructor
    · rintro (⟨j, h1, h2⟩ | h)
      · exact ⟨j, by omega, h2⟩
      · exact ⟨i, by omega, h.symm⟩
    · rintro ⟨j, h1, h2⟩
      by_cases e : j = i
      · subst e
        exact .inr h2.symm
      · exact .inl ⟨j, by omega, h2⟩
end
section
variable {prog : Program} {w : World} {A : Around} {R : Result → Shared → Prop} {I : Addr} {fp wr : List Addr} {G : Array GenState → Array GenState → Prop} {n : Nat} {Pi : Nat → Value → Prop} {St : Nat → Shared → Prop} {κ : Type} [DecidableEq κ]
theorem fill (kd : PySem.KeyKind prog w κ) (W : WalksS prog w A.in1 I fp wr G n Pi St) (z : Addr) (hz : z ∉ fp) (val : Nat → κ) (hv : ∀ i v, Pi i v → kd.is (val i) v = true ∧ v.scannable = true) (room : n + 1 < scanBound) :
    ∀ (m i : Nat) (s : Shared), i + m = n → St i s → s.heap.SetOf kd z (seen val i) (cnt val i) →
      (∀ t, Moved (z :: wr) G s t → t.heap.SetOf kd z (seen val n) (cnt val n) → R (.ok (.ret .none)) t) →
      codeAny (model prog w) A (.builtin "set.update.loop" ⟨[.ref z, .ref I], []⟩) R s
  | 0, i, s, hm, st, S, k => by
    obtain rfl : i = n := by omega
    have zw : z ∉ wr := fun q => hz (W.sub _ q)
    refine codeAny_builtin PyProof.Rows.F.entry_set_update_loop ?_
    rw [Around.under_plainId PyProof.Rows.F.plain_set_update_loop _]
    show wpAny _ A.in1 (pyNext (.ref I) >>= _) _ _ s
    refine wpAny_bind (W.done s _ _ st fun t mv => ?_)
    obtain ⟨o, es, ep, tb, ho, more⟩ := S
    exact wpAny_pure (k t (mv.mono fun b q => List.mem_cons_of_mem _ q) ⟨o, es, ep, tb, mv.heap z _ zw ho, more⟩)
  | m + 1, i, s, hm, st, S, k => by
    have zw : z ∉ wr := fun q => hz (W.sub _ q)
    refine codeAny_builtin PyProof.Rows.F.entry_set_update_loop ?_
    rw [Around.under_plainId PyProof.Rows.F.plain_set_update_loop _]
    show wpAny _ A.in1 (pyNext (.ref I) >>= _) _ _ s
    refine wpAny_bind (W.item i s _ _ (by omega) st fun v t pv st' mv => ?_)
    obtain ⟨kv, sc⟩ := hv i v pv
    have S' : t.heap.SetOf kd z (seen val i) (cnt val i) := by
      obtain ⟨o, es, ep, tb, ho, more⟩ := S
      exact ⟨o, es, ep, tb, mv.heap z _ zw ho, more⟩
    show wpAny _ A.in1 (holding [v] (setAdd z v) >>= _) _ _ t
    refine wpAny_bind (wpAny_holding ?_)
    unfold setAdd
    refine wpAny_holding (wpAny_bind (kd.pyHash kv ?_))
    refine wpAny_setAddHashed_of (knd := kd) (s := { t with toks := t.toks + 1 }) kv sc S' (by have := cnt_le val i; omega) fun h' sb S2 => ?_
    refine wpAny_pure ⟨plainId_quiet PyProof.Rows.F.plain_set_update_loop _, fill kd W z hz val hv room m (i + 1) _ (by omega) (W.frame _ t _ _ st' (Nat.le_succ _) fun b hb o e => ?_) S2 fun t2 mv2 S3 => ?_⟩
    · have nb : b ≠ z := fun q => hz (q ▸ hb)
      rw [sb.2 b nb]
      exact e
    · refine k t2 (Moved.trans W.gtrans ((mv.mono fun b q => List.mem_cons_of_mem _ q).then_heap (Nat.le_succ _) fun b o hb e => ?_) mv2) S3
      have nb : b ≠ z := fun q => hb (q ▸ List.mem_cons_self)
      rw [sb.2 b nb]
      exact e
end
abbrev bare (led : Bool) : Obj := { cls := .type "set", dict := none, data := .set #[] 0 (.fresh 0 0 led) }
section
variable {prog : Program} {w : World} {A : Around} {E : Value → Shared → Prop} {s : Shared}
/-- the i-th sign as a text -/
def sgnOf (x : Str) (i : Nat) : Str := ⟨#[x.cps.getD i 0]⟩
theorem call_set_text {x : Str} {u : Tok} {Q : Value → Shared → Prop} (calm : A.handled = none) (room : x.cps.size + 1 < scanBound)
    (k : ∀ (h' : Heap) (tk : Nat), h'.SetOf (PySem.strKind prog w) s.heap.objs.size (seen (sgnOf x) x.cps.size) (cnt (sgnOf x) x.cps.size) →
      (∀ b o, b < s.heap.objs.size → s.heap.get? b = some o → h'.get? b = some o) → Q (.ref s.heap.objs.size) { s with heap := h', toks := tk }) :
    wpAny (model prog w) A (call (.type "set") [.str x u]) Q E s := by
  obtain ⟨c0, tl0, hm0⟩ := PySem.F.called_set.mro
  have f1 := PySem.F.called_set.made
  have f2 := PySem.F.called_set.sub
  refine wpAny_call (codeAny_of_tree ?_)
  show wpAny _ _ (callAny (.type "set") _) _ _ _
  refine wpAny_pure ⟨Code.quiet_builtin _ (by decide +kernel), codeAny_builtin PySem.F.entry_type_call ?_⟩
  rw [Around.under_plain (weight_type_call_type "set" [.str x u] []) rfl]
  have f3 := PySem.F.called_set.notType
  have f4 := PySem.F.called_set.canCreate
  have f5 := PySem.F.typeCall_set_1 (.str x u)
  repeat (any_goals (first | assumption | wp_step))
  refine codeAny_mono (code_set_new_1 (.str x u) (E := E) (Q₁ := fun ob t => ∃ led : Bool, ob = .ref s.heap.objs.size ∧ t = { s with heap := s.heap.push (bare led) }) fun led => ⟨led, rfl, rfl⟩) fun r t hr => ?_
  match r, hr with
  | .error e, hr => exact hr
  | .ok (.ret ob), hr =>
    obtain ⟨led, rfl, rfl⟩ := hr
    have g0 : (s.heap.push (bare led)).get? s.heap.objs.size = some (bare led) := Heap.get?_push_size _ rfl
    have ty : Shared.TypeIs { s with heap := s.heap.push (bare led) } (.ref s.heap.objs.size) "set" := ⟨_, g0, rfl⟩
    have f6 := PySem.F.called_set.init.lookup
    have f7 := PySem.F.called_set.init.bind (.ref s.heap.objs.size)
    repeat (any_goals (first | assumption | wp_step))
    refine codeAny_mono (codeAny_call_builtin (R := wants (fun r t2 => r = .none ∧ ∃ h' tk, t2 = { s with heap := h', toks := tk } ∧ h'.SetOf (PySem.strKind prog w) s.heap.objs.size (seen (sgnOf x) x.cps.size) (cnt (sgnOf x) x.cps.size) ∧
        (∀ b o, b < s.heap.objs.size → s.heap.get? b = some o → h'.get? b = some o)) E) PySem.F.called_set.init.plain PySem.F.entry_set_init (check_set_init_1 ty ?_)) fun r2 t2 hr2 => ?_
    · have n1 := PySem.F.sub_str_set
      have n2 := PySem.F.sub_str_frozenset
      have n3 := PySem.F.sub_str_dict
      have n4 : (Value.type "str" == Value.type "dict") = false := by decide
      unfold Builtin.«set.__init__» noKeywords Builtin.Frozenset.updateFrom
      generalize hPI : pyIter = PI
      wp_walk
      subst hPI
      refine wpAny_pyIter_str fun it St hW st0 => ?_
      refine wpAny_bind (wpAny_runValue ?_)
      have cl3 : A.in1.in1.in1.handled = none := by simp [calm]
      have sz : (s.heap.push (bare led)).objs.size = s.heap.objs.size + 1 := by rw [Heap.size_push]
      have zf : s.heap.objs.size ∉ [(s.heap.push (bare led)).objs.size] := by
        rw [sz, List.mem_singleton]
        omega
      refine fill (PySem.strKind prog w) ((hW _ cl3).toS) s.heap.objs.size zf (sgnOf x) (fun i v pv => ?_) room (x.cps.size - 0) 0 _ (by omega) st0 ?_ ?_
      · obtain ⟨ch, t3, e1, rfl⟩ := pv
        refine ⟨?_, rfl⟩
        have e2 : sgnOf x i = ⟨#[ch]⟩ := by
          unfold sgnOf
          rw [Array.getD_eq_getD_getElem?, e1]
          rfl
        rw [e2]
        exact strKind_is _ _ _ _
      · have g1 := Heap.get?_push_of_some it g0
        exact PyProof.Rows.SetOf_congr ((PyProof.Rows.setObjOf_fresh (knd := PySem.strKind prog w) led).setOf g1 (by unfold scanBound; omega)) (fun _ => rfl) rfl
      · intro t3 mv S3
        obtain ⟨hp, gs, dr, tk, os⟩ := t3
        obtain rfl : gs = s.gens := mv.gens
        obtain rfl : dr = s.drawn := mv.drawn
        obtain rfl : os = s.os := mv.os
        show wpAny _ _ _ _ _ _
        refine wpAny_pure ?_
        show wpAny _ _ (ret Value.none) _ _ _
        refine wpAny_pure ⟨rfl, hp, tk, rfl, S3, fun b o hb e => ?_⟩
        refine mv.heap b o ?_ (Heap.get?_push_of_some _ (Heap.get?_push_of_some _ e))
        have q1 : b ≠ s.heap.objs.size := Nat.ne_of_lt hb
        have q2 : b ≠ s.heap.objs.size + 1 := by omega
        rw [sz]
        simp [q1, q2]
    · match r2, hr2 with
      | .error e, hr2 => exact hr2
      | .ok (.ret q), hr2 =>
        obtain ⟨rfl, h', tk, rfl, S', kp⟩ := hr2
        repeat (any_goals (first | assumption | wp_step))
        exact k _ _ S' kp
      | .ok .next, hr2 => exact hr2.elim
      | .ok .brk, hr2 => exact hr2.elim
      | .ok .cont, hr2 => exact hr2.elim
  | .ok .next, hr => exact hr.elim
  | .ok .brk, hr => exact hr.elim
  | .ok .cont, hr => exact hr.elim
end
end SetT
namespace Ab
open PySem PySem.Spec PyProof.Rows L2
/-- how many unlike signs -/
def unlike (s : List Nat) : Nat := SetT.cnt (SetT.sgnOf (sOf s)) s.length
def tLenSetT (ta : TE) : TE := fun σ H Q => ta σ H fun x H1 => ∃ s : List Nat, x = .str (sOf s) ∧ s.length ≤ 4000 ∧ Q (.int (unlike s : Nat)) H1
theorem pe_lenSetT {X : Cx} {a : Expr} {ta : TE} {p p2 q pos : Pos} (hc : X.calm = true) (hg : Gl X "len") (hm : X.mg "len" = none) (hg2 : Gl X "set") (hm2 : X.mg "set" = none) (ha : PE X a ta)
    (one : starEach [a] X.env = (false, eval a X.env) :: starEach [] X.env := by rfl) :
    PE X (.Call (.Name "len" p) [.Call (.Name "set" p2) [a] [] q] [] pos) (tLenSetT ta) := by
  refine ⟨fun pins s σ H Q I h => Call_ (ld_blt I hg hm boot_len (PyProof.Rows.callWith_builtin1 (PyProof.Rows.args_cons ?_ rfl) rfl rfl))⟩
  refine Call_ (ld_blt I hg2 hm2 boot_set (PyProof.Rows.callWith_type1 (PyProof.Rows.args_cons ?_ one) one rfl))
  refine thn (ha.run pins s σ H _ I h) fun v s1 ⟨x, H1, I1, r1, q1⟩ => PyProof.Rows.args_nil ?_
  obtain ⟨z, rfl, hz, q1⟩ := q1
  obtain ⟨t, rfl⟩ := r1
  have hsz : (sOf z).cps.size = z.length := List.size_toArray
  refine SetT.call_set_text (I1.ok.hd hc) (by rw [hsz]; unfold scanBound; omega) fun h' tk S kp => PyProof.Rows.args_nil ?_
  have I2 : Inv X pins σ H1 { s1 with heap := h', toks := tk } := I1.kept fun b o e => kp b o (Heap.lt_size e) e
  rw [hsz] at S
  obtain ⟨o, es, ep, tb, ho, hex, hd, _, _, _, hf, hn⟩ := S
  refine call_len_set ho hex hd hf ?_ ⟨.int (unlike z : Nat), H1, I2.tok _, ⟨_, by rw [hn]; rfl⟩, q1⟩
  have := SetT.cnt_le (SetT.sgnOf (sOf z)) z.length
  rw [hn]
  omega
end Ab
namespace Ab
open PySem PySem.Spec PyProof.Rows L2
section
variable {X : Cx} {C : Addr} {ps : List Str} {k : Nat} {sp : Sp} {x : Str} {p pos : Pos}
/-- what C() asks of the class -/
structure MkC (K : PySem.W.Frag) (C : Addr) : Prop where
  makes : PySem.W.makesIn K C = true
  kp : PySem.W.keepIn K (.ref C) = true
theorem pe_mk0 (c : MkC X.K C) (h : HasM X.prog X.w X.K X.mg X.base C "__init__" ps k sp) (hr : Room (k + 1) X.A) (hg : Gl X x) (hm : X.mg x = some (.ref C)) (hdb : (x == ("__debug__" : Str)) = false := by rfl) :
    PE X (.Call (.Name x p) [] [] pos) (tMake C sp [] E0 tNil) := by
  obtain ⟨f, fd, F, mt, b⟩ := h
  exact pe_make0 ⟨c.makes, mt.at_, mt.fn, c.kp⟩ F hr hg hm b .nil pass0 hdb
end
section
variable {K : PySem.W.Frag} {w : Nat} {D : AEnds} {e : Env} {ta tb te to : TE} {x y z a b : A}
/-- a constant at an address that the text keeps -/
theorem ae_constT {p : Addr} {vs : List V} {ds : List Ab.D} (h : ∀ H, SqT K H p vs) (r : ∀ G, RDs K G vs ds) : AE K (tC (.ref p)) e (.d (.tup ds)) := fun B σ G H ad R C c =>
  c _ G H (Xt.refl R.gh) (.tup (h G) (r G))
theorem ae_bits {n : Nat} (h : AE K to e (.d (.int (n : Nat)))) : AE K (tBits to) e (.d (.int (Builtin.Int.intBits (n : Nat) : Nat))) := fun B σ G H ad R C c =>
  h B σ G H ad R _ fun v G1 H1 X1 r1 => by
    cases r1
    exact ⟨_, rfl, c _ G1 H1 X1 .int⟩
theorem a2_shl {i j : Int} (hc : CPow i j) : A2 K (rI CPow fun i j => .int (i * 2 ^ j.toNat)) (.d (.int i)) (.d (.int j)) e (.d (.int (i * 2 ^ j.toNat))) := a2_I hc
theorem RDs.dpMono {G H : Hp} {vs : List V} {ds : List Ab.D} (s : Same G H) (h : RDs K G vs ds) : DpAll K H vs (Ab.D.pys ds) := (RDs.mono s h).dp
/-- x not in xs, an own list -/
theorem a2_notInDO {k : Nat} {q : Ab.D} {ds : List Ab.D} (hk : e.m[k]? = some (some (.lst ds))) (hq : okD q) (hd : okD (.lst ds)) : A2 K (rNotInD K) (.d q) (.o k) e (.d (.bl (!(Ab.D.pys ds).any fun z => PyData.eqv z q.py))) := fun B σ G H ad R v w rv rw C c => by
  obtain ⟨l, hl, rfl⟩ := rw
  obtain ⟨_, _, vs, h0, rd⟩ := R.op k l _ hl hk
  refine ⟨q.py, Ab.D.pys ds, (RD.mono R.gh rv).dp, ?_, hq, hd, c _ G H (Xt.refl R.gh) .bl⟩
  exact (RD.lst (G := H) h0 (RDs.mono R.gh rd)).dp
theorem as_aug {i : Nat} {r : TIp} (h : e.s[i]? = some a) (hn : (match a with | .no => false | _ => true) = true) (he : AE K te e b) (hr : A2 K r a b e z) (q : D.nx (e.set i z)) : AS K w (tAug i te r) D e := fun B hw C co σ G H ad R => by
  rcases R.st i a h with rfl | ⟨v, hv, rv⟩
  · cases hn
  refine ⟨v, hv, he B σ G H ad R _ fun u G1 H1 X1 ru => ?_⟩
  have R1 := R.ext X1
  refine hr B σ G1 H1 ad R1 v u (rv.mono X1.gg) ru _ fun z' G2 H2 X2 rz => ?_
  exact co.nx _ _ G2 H2 ad q ((R1.ext X2).set rz)
theorem as_augN {i : Nat} {r : TIp} {p : Ab.D} (h : e.s[i]? = some (.d p)) (he : AE K te e b) (hr : A2 K r (.d p) b e z) (q : D.nx (e.set i z)) : AS K w (tAug i te r) D e := as_aug h rfl he hr q
theorem rv3 {G : Hp} {ad : List Addr} {vs : List V} {a b c : A} (h : RepVs K G ad vs [a, b, c]) : ∃ u v w, vs = [u, v, w] ∧ RepV K G ad u a ∧ RepV K G ad v b ∧ RepV K G ad w c := by
  cases h with
  | cons r h =>
    cases h with
    | cons r2 h =>
      cases h with
      | cons r3 h =>
        cases h
        exact ⟨_, _, _, rfl, r, r2, r3⟩
theorem as_par3 {i j l : Nat} {t : TA} {a b c : A} (h : AL K t e [a, b, c]) (q : D.nx (((e.set i a).set j b).set l c)) : AS K w (tPar3 i j l t) D e := fun B hw C co σ G H ad R =>
  h B σ G H ad R _ fun vs G1 H1 X1 r1 => by
    obtain ⟨u, v, w, rfl, r1, r2, r3⟩ := rv3 r1
    exact ⟨u, v, w, rfl, co.nx _ _ G1 H1 ad q ((((R.ext X1).set r1).set r2).set r3)⟩
theorem as_par2 {i j : Nat} {t : TA} {a b : A} (h : AL K t e [a, b]) (q : D.nx ((e.set i a).set j b)) : AS K w (tPar i j t) D e := fun B hw C co σ G H ad R =>
  h B σ G H ad R _ fun vs G1 H1 X1 r1 => by
    obtain ⟨u, v, rfl, r1, r2⟩ := rv2 r1
    exact ⟨u, v, rfl, co.nx _ _ G1 H1 ad q (((R.ext X1).set r1).set r2)⟩
/-- a target takes the value of an expression with effect -/
theorem as_asgGX {g : TG} (h : AX K te e fun a e' => AG K g a e' D.nx) : AS K w (tAsg te g) D e := fun B hw C co σ G H ad R =>
  h B σ G H ad R _ fun a e' v G1 H1 ad' q _ _ R1 r1 => q B σ G1 H1 ad' R1 v r1 _ fun e2 σ2 G2 H2 ad2 q2 R2 => co.nx e2 σ2 G2 H2 ad2 q2 R2
theorem AX.mono {Q Q' : A → Env → Prop} (h : AX K te e Q) (m : ∀ a e', Q a e' → Q' a e') : AX K te e Q' := fun B σ G H ad R C c =>
  h B σ G H ad R _ fun a e' v G1 H1 ad' q => c a e' v G1 H1 ad' (m a e' q)
theorem as_for_at {J : It} {n : Nat} {f : Nat → Ab.D} {g : TG} {t : TS} {B : Bs} {C : Ends} {σ : L2.St} {G1 H1 : Hp} {ad : List Addr} (I : Nat → Env → Prop) (h0 : I 0 e) (R1 : Rep K B e σ G1 H1 ad) (W : Walk K G1 J n f)
    (hs : ∀ i e', i < n → I i e' → AG K g (.d (f i)) e' fun e2 => AS K w t { D with nx := I (i + 1), ct := I (i + 1), bk := D.nx } e2) (hd : ∀ e', I n e' → D.nx e') (hw : B.ow.length = w) (co : Co K B D C) :
    ∃ W : Nat → Nat → L2.St → Hp → Prop, (∃ m, W 0 m σ H1) ∧ ∀ (i m : Nat) (σ : L2.St) (H : Hp), W i m σ H → J.stop i H ∧ C.nx σ H ∨ J.go i H ∧ ∃ N : L2.St → Hp → Prop, (∀ σ' H', N σ' H' → ∃ m', m' < m ∧ W (i + 1) m' σ' H') ∧
      ∀ (x : V) (H' : Hp), J.yld i H x H' → g x σ H' fun σ2 H2 => t { nx := N, rt := C.rt, bk := C.nx, ct := N } σ2 H2 := by
  have lift : ∀ e' σ' G' H' ad', I n e' → Rep K { B with G := G1 } e' σ' G' H' ad' → C.nx σ' H' := fun e' σ' G' H' ad' q R' => co.nx e' σ' G' H' ad' (hd e' q) (R1.unbase R')
  refine ⟨fun i m σ H => i + m = n ∧ ∃ e' G ad, I i e' ∧ Rep K { B with G := G1 } e' σ G H ad, ⟨n, by omega, e, G1, ad, h0, R1.rebase⟩, ?_⟩
  rintro i m σ H ⟨hm, e', G, ad, hi, R2⟩
  by_cases hlt : i < n
  · refine .inr ⟨W.go i G H R2.bg R2.gh hlt, fun σ H => ∃ e' G ad, I (i + 1) e' ∧ Rep K { B with G := G1 } e' σ G H ad, fun σ' H' q => ⟨m - 1, by omega, by omega, q⟩, fun x H' y => ?_⟩
    obtain ⟨G3, X3, rd⟩ := W.yld i G H x H' R2.bg R2.gh hlt y
    refine hs i e' hlt hi { B with G := G1 } σ G3 H' ad (R2.ext X3) x rd _ fun e4 σ4 G4 H4 ad4 q R4 => ?_
    refine q { B with G := G1 } hw { C with nx := fun σ H => ∃ e' G ad, I (i + 1) e' ∧ Rep K { B with G := G1 } e' σ G H ad, ct := fun σ H => ∃ e' G ad, I (i + 1) e' ∧ Rep K { B with G := G1 } e' σ G H ad, bk := C.nx } ⟨fun e5 σ5 G5 H5 ad5 q5 R5 => ⟨e5, G5, ad5, q5, R5⟩, fun a e5 v σ5 G5 H5 ad5 q5 R5 rv => co.rt a e5 v σ5 G5 H5 ad5 q5 (R1.unbase R5) rv, fun e5 σ5 G5 H5 ad5 q5 R5 => co.nx e5 σ5 G5 H5 ad5 q5 (R1.unbase R5), fun e5 σ5 G5 H5 ad5 q5 R5 => ⟨e5, G5, ad5, q5, R5⟩⟩ σ4 G4 H4 ad4 R4
  · have : i = n := by omega
    subst this
    exact .inl ⟨W.stop i G H R2.bg R2.gh (Nat.le_refl _), lift e' σ G H ad hi R2⟩
/-- over the list that an expression with effect gives -/
theorem as_forX {tl : TE} {g : TG} {t : TS} (h : AX K tl e fun a e1 => ∃ (xs : List Ab.D) (I : Nat → Env → Prop), a = .d (.lst xs) ∧ I 0 e1 ∧
      (∀ i e' x, xs[i]? = some x → I i e' → AG K g (.d x) e' fun e2 => AS K w t { D with nx := I (i + 1), ct := I (i + 1), bk := D.nx } e2) ∧ ∀ e', I xs.length e' → D.nx e') : AS K w (tFor (iList K tl) g t) D e := fun B hw C co σ G H ad R =>
  h B σ G H ad R _ fun a e1 v G1 H1 ad1 ⟨xs, I, ha, h0, hs, hd⟩ _ _ R1 r1 => by
    subst ha
    cases r1 with
    | lst hq rd =>
      rename_i p vs
      refine ⟨_, rfl, ⟨vs, .inl (.inl (R1.gh _ _ hq))⟩, ?_⟩
      have W : Walk K G1 (Itl K p) xs.length (fun i => xs.getD i .non) := by
        have hf : ∀ i, i < xs.length → xs[i]? = some (xs.getD i .non) := fun i hi => by
          rw [List.getD_eq_getElem?_getD, List.getElem?_eq_getElem hi]
          rfl
        refine ⟨?_, ?_, ?_⟩
        · intro i G H s1 s2 hi
          exact ⟨vs, .inl (.inl (s2 _ _ (s1 _ _ hq))), by rw [rd.length]; exact hi⟩
        · intro i G H s1 s2 hi
          obtain ⟨v, hv, _⟩ := rd.get (hf i hi)
          exact ⟨vs, v, .inl (.inl (s2 _ _ (s1 _ _ hq))), hv⟩
        · rintro i G H v H' s1 s2 hi ⟨rfl, y⟩
          obtain ⟨v', hv, rv⟩ := rd.get (hf i hi)
          have := y vs (.inl (.inl (s2 _ _ (s1 _ _ hq))))
          rw [hv] at this
          cases this
          exact ⟨G, Xt.refl s2, rv.mono s1⟩
      let wi : TI := fun σ H C => C (Itl K p) H
      have key := as_for_at (K := K) (w := w) (D := D) (t := t) (g := g) I h0 R1 W (fun i e' hi q => hs i e' _ (by rw [List.getD_eq_getElem?_getD, List.getElem?_eq_getElem hi]; rfl) q) hd hw co
      exact key
end
end Ab
namespace Ab
open PySem PySem.Spec PyProof.Rows L2
theorem ae_lenSet {K : PySem.W.Frag} {e : Env} {ta : TE} {s : List Nat} (h : AE K ta e (.d (.str s))) (hs : s.length ≤ 4000) : AE K (tLenSetT ta) e (.d (.int (unlike s : Nat))) := fun B σ G H ad R C c =>
  h B σ G H ad R _ fun v G1 H1 X1 r1 => by
    cases r1
    exact ⟨s, rfl, hs, c _ G1 H1 X1 .int⟩
end Ab
namespace Ab
open PySem PySem.Spec PyProof.Rows L2
theorem Env.set_get {e : Env} {i : Nat} {a : A} (h : e.s[i]? = some a) : e.set i a = e := by
  show (⟨e.s.set i a, e.m⟩ : Env) = e
  have q : e.s.set i a = e.s := by
    refine List.ext_getElem? fun j => ?_
    by_cases hj : i = j
    · subst hj
      rw [h, List.getElem?_set_self (List.getElem?_eq_some_iff.mp h).1]
    · rw [List.getElem?_set_ne hj]
  rw [q]
/-- one slot is changed, or nothing -/
theorem as_ifN {K : PySem.W.Frag} {w : Nat} {D : AEnds} {e : Env} {c : TT} {t : TS} {b : Bool} {i : Nat} {y z : Ab.D} (h : AT K c e b) (h1 : b = true → AS K w t { D with nx := fun e' => e' = e.set i (.d z) } e) (hy : e.s[i]? = some (.d y)) (k : D.nx (e.set i (.d (if b = true then z else y)))) : AS K w (tIfS c t tNext) D e := by
  refine as_if h (fun hb => ?_) (fun hb => as_next ?_)
  · rw [if_pos hb] at k
    exact (h1 hb).ends (fun e' q => by subst q; exact k) (fun a e' q => q) (fun e' q => q) (fun e' q => q)
  · rw [if_neg (by rw [hb]; exact Bool.false_ne_true), Env.set_get hy] at k
    exact k
end Ab
namespace Ab
open PySem PySem.Spec PyProof.Rows L2
theorem room65 {k : Nat} {A : Around} (h : Room k A) : A.units + 65 < cLine := by
  have := h.un
  omega
end Ab
namespace Ab
open PySem PySem.Spec PyProof.Rows L2
/-! ### promises that leave the answer open -/
def SpX (K : PySem.W.Frag) (R : List A → List O → Prop) (T : List A → List O → A → List O → Prop) : Sp := fun vs H Q _ => ∃ G ad as M, Same G H ∧ ad.Nodup ∧ ad.length = M.length ∧ (∀ (k : Nat) (l : Addr) (o : O), ad[k]? = some l → M[k]? = some o → G l = none ∧ ObR K G H ad l o) ∧ RepVs K G ad vs as ∧ R as M ∧
  ∀ r M' v G' H' ad', T as M r M' → Beh G H G' H' ad ad' K M' → RepV K G' ad' v r → Q v H'
theorem SpX.len {K : PySem.W.Frag} {ps : List Str} {R : List A → List O → Prop} {T : List A → List O → A → List O → Prop} (hl : ∀ as M, R as M → as.length = ps.length) : ∀ vs H Q E, SpX K R T vs H Q E → vs.length = ps.length := fun vs H Q E ⟨G, ad, as, M, _, _, _, _, rv, hR, _⟩ => rv.length.trans (hl as M hR)
abbrev endX (T : A → List O → Prop) : AEnds := ⟨fun e => ∃ M', T (.d .non) M' ∧ M'.map some <+: e.m, fun a e => ∃ M', T a M' ∧ M'.map some <+: e.m, fun _ => False, fun _ => False⟩
section
variable {K : PySem.W.Frag} {N : List Str} {vs : List V} {H : Hp} {Q : VK} {E : XK} {t : TS}
theorem run_X {R : List A → List O → Prop} {T : List A → List O → A → List O → Prop} (h : SpX K R T vs H Q E)
    (hb : ∀ as M, R as M → as.length ≤ N.length ∧ (∀ r M', T as M r M' → M.length ≤ M'.length ∧ clA M'.length r = true ∧ M'.all (clO M'.length) = true) ∧ AS K M.length t (endX (T as M)) ⟨env0 N as, M.map some⟩) :
    t { nx := fun _ H' => Q .non H', rt := Q } (L2.start N vs) H := by
  obtain ⟨G, ad, as, M, s, nd, ln, ob, rv, hR, q⟩ := h
  obtain ⟨hN, hT, hb⟩ := hb as M hR
  have R0 : Rep K ⟨G, H, ad⟩ ⟨env0 N as, M.map some⟩ (L2.start N vs) G H ad := {
    bg := Same.refl _
    gh := s
    fr := fun a h => .inl h
    kp := fun a o h _ => h
    nn := fun a h => h
    al := by
      show ad.length = (M.map some).length
      rw [List.length_map, ln]
    nd := nd
    ah := fun l hl => by
      obtain ⟨k, hk⟩ := List.mem_iff_getElem?.mp hl
      have hkl : k < M.length := by
        rw [← ln]
        exact (List.getElem?_eq_some_iff.mp hk).1
      obtain ⟨_, o⟩ := ob k l _ hk (List.getElem?_eq_getElem hkl)
      obtain ⟨u, hu⟩ := o.some
      rw [hu]
      exact fun y => nomatch y
    ow := List.prefix_refl _
    op := fun k l o h1 h2 => by
      have h2 : (M.map some)[k]? = some (some o) := h2
      rw [List.getElem?_map] at h2
      cases z : M[k]? with
      | none =>
        rw [z] at h2
        cases h2
      | some o' =>
        rw [z] at h2
        cases h2
        obtain ⟨g, ho⟩ := ob k l _ h1 z
        exact ⟨g, .inl (List.mem_of_getElem? h1), ho⟩
    sl := by
      rw [start_len (by rw [rv.length]; exact hN)]
      unfold env0
      rw [List.length_append, List.length_replicate]
      show N.length = as.length + (N.length - as.length)
      omega
    st := st0 rv }
  have fin : ∀ r M' e σ v G' H' adF, T as M r M' → M'.map some <+: e.m → Rep K ⟨G, H, ad⟩ e σ G' H' adF → RepV K G' adF v r → Q v H' := by
    intro r M' e σ v G' H' adF hT' hm R' rv'
    obtain ⟨hM, hr, hc⟩ := hT r M' hT'
    have hlen : M'.length ≤ adF.length := by
      rw [R'.al]
      have := hm.length_le
      rwa [List.length_map] at this
    have hmk : ∀ (k : Nat) (o : O), M'[k]? = some o → e.m[k]? = some (some o) := fun k o hk => pre_of hm (by rw [List.getElem?_map, hk]; rfl)
    have hal : (adF.take M'.length).length = M'.length := by
      rw [List.length_take]
      omega
    have hpr : ad <+: adF.take M'.length := by
      obtain ⟨tl, e1⟩ := R'.ow
      refine List.prefix_of_prefix_length_le ⟨tl, e1⟩ (List.take_prefix _ _) ?_
      rw [hal, ln]
      exact hM
    refine q r M' v G' H' (adF.take M'.length) hT' ⟨R'.bg, R'.gh, R'.kp, R'.fr, hpr, R'.nd.sublist (List.take_sublist _ _), hal, fun l hl hn => ?_, fun k l o h1 h2 => ?_⟩ (rv'.cut hr)
    · obtain ⟨k, hk⟩ := List.mem_iff_getElem?.mp hl
      have hkl : k < M'.length := by
        rw [← hal]
        exact (List.getElem?_eq_some_iff.mp hk).1
      rw [take_get hkl] at hk
      obtain ⟨_, how, _⟩ := R'.op k l _ hk (hmk k _ (List.getElem?_eq_getElem hkl))
      rcases how with z | z
      · exact absurd z hn
      · exact z
    · have hkl : k < M'.length := (List.getElem?_eq_some_iff.mp h2).1
      rw [take_get hkl] at h1
      obtain ⟨g, _, ho⟩ := R'.op k l o h1 (hmk k o h2)
      exact ⟨g, ho.cut (List.all_eq_true.mp hc o (List.mem_of_getElem? h2))⟩
  refine hb ⟨G, H, ad⟩ ln _ ⟨?_, ?_, fun _ _ _ _ _ z => z.elim, fun _ _ _ _ _ z => z.elim⟩ _ _ _ ad R0
  · rintro e σ G' H' adF ⟨M', hT', hm⟩ R'
    exact fin _ M' e σ _ G' H' adF hT' hm R' RD.non
  · rintro a e v σ G' H' adF ⟨M', hT', hm⟩ R' rv'
    exact fin a M' e σ v G' H' adF hT' hm R' rv'
end
section
variable {K : PySem.W.Frag} {e : Env} {ta : TE} {tl : TA} {as : List A} {E : XK} {Q : A → Env → Prop} {M : List O} {rest : List (Option O)} {R : List A → List O → Prop} {T : List A → List O → A → List O → Prop}
theorem ax_callX (M : List O) (rest : List (Option O)) (h : AL K tl e as) (hm : e.m = M.map some ++ rest) (hl : ∀ r M', T as M r M' → M'.length = M.length ∨ rest = []) (hc : as.all (clA M.length) = true) (hcM : M.all (clO M.length) = true) (hR : R as M)
    (q : ∀ r M', T as M r M' → Q r ⟨e.s, M'.map some ++ rest⟩) : AX K (tCall (SpX K R T) [] E tl) e Q := fun B σ G H ad Rp C c =>
  h B σ G H ad Rp _ fun vs G1 H1 X1 rv => by
    have R1 := Rp.ext X1
    have hal : ad.length = M.length + rest.length := by rw [R1.al, hm, List.length_append, List.length_map]
    have h2 : SpX K R T vs H1 C E := by
      refine ⟨G1, ad.take M.length, as, M, R1.gh, R1.nd.sublist (List.take_sublist _ _), by rw [List.length_take]; omega, fun k l o h1 h2 => ?_, rv.cut hc, hR, fun r M' v G' H' ad' hT b rv' => ?_⟩
      · have hkl : k < M.length := (List.getElem?_eq_some_iff.mp h2).1
        rw [take_get hkl] at h1
        have hmk : e.m[k]? = some (some o) := by
          rw [hm, List.getElem?_append_left (by rw [List.length_map]; exact hkl), List.getElem?_map, h2]
          rfl
        obtain ⟨g, _, ho⟩ := R1.op k l o h1 hmk
        exact ⟨g, ho.cut (List.all_eq_true.mp hcM o (List.mem_of_getElem? h2))⟩
      · obtain ⟨hp, R2⟩ := beh_rep R1 hm (hl r M' hT) b
        exact c r _ v G' H' _ (q r M' hT) (X1.gg.trans b.gg) hp R2 (rv'.pre (List.prefix_append _ _))
    rw [← List.append_nil vs] at h2
    exact h2
end
section
variable {P : Program} {w : World} {K : PySem.W.Frag} {mg : Str → Option Value} {base : Heap} {x : Str} {st : Stmt} {N ps : List Str} {k : Nat}
abbrev GoX (K : PySem.W.Frag) (N : List Str) (R : List A → List O → Prop) (T : List A → List O → A → List O → Prop) (t : TS) : Prop :=
  ∀ as M, R as M → (∀ r M', T as M r M' → M.length ≤ M'.length ∧ clA M'.length r = true ∧ M'.all (clO M'.length) = true) ∧ AS K M.length t (endX (T as M)) ⟨env0 N as, M.map some⟩
theorem okX {R : List A → List O → Prop} {T : List A → List O → A → List O → Prop} (DD : DefAt K mg x st ps) (S : FnScope N ps (defScope st)) (hl : ∀ as M, R as M → as.length = ps.length) (hb : Body P w K mg base N x st k (GoX K N R T)) : Has P w K mg base x ps (k + 1) (SpX K R T) := by
  refine DD.has fun f fd F => F.ok S (SpX.len hl) fun cdv A outer s H vs Q E hr h => ?_
  obtain ⟨t, ht, hgo⟩ := hb f cdv A outer s H E hr
  exact ⟨t, ht, run_X h fun as M hR => ⟨by rw [hl as M hR]; exact FnScope.le S, hgo as M hR⟩⟩
end
section
variable {K : PySem.W.Frag} {e : Env} {ta tb te : TE} {Q : A → Env → Prop}
theorem ax_m1 {r : V → List V → Hp → VK → Prop} {s : List Nat} (ho : AE K ta e (.d (.str s))) (hb : AX K tb e fun y e' => ∃ z, AM K r (.d (.str s)) [y] e' z ∧ Q z e') : AX K (tM1 r ta tb) e Q := fun B σ G H ad R C c =>
  ho B σ G H ad R _ fun v G1 H1 X1 r1 => by
    refine ⟨by cases r1; exact ⟨_, rfl⟩, hb B σ G1 H1 ad (R.ext X1) _ fun y e' w G2 H2 ad2 q s2 p2 R2 r2 => ?_⟩
    obtain ⟨z, hr, q⟩ := q
    have r1' : RepV K G2 ad2 v (.d (.str s)) := (RepV.mono s2 r1 : RepV K G2 ad v (.d (.str s)))
    exact hr B σ G2 H2 ad2 R2 v [w] r1' (.cons r2 .nil) C fun u G3 H3 X3 r3 => c z e' u G3 H3 ad2 q ((X1.gg.trans s2).trans X3.gg) p2 (R2.ext X3) r3
theorem ax_slS {tl th : TO} (h : AX K te e fun a e' => ∃ s lo hi, a = .d (.str s) ∧ s.length ≤ 1000000 ∧ AO K tl e' lo ∧ AO K th e' hi ∧ Q (.d (.str (cutG s lo hi))) e') : AX K (tSl rSlS te tl th) e Q := fun B σ G H ad R C c =>
  h B σ G H ad R _ fun a e' v G1 H1 ad1 q s1 p1 R1 r1 => by
    obtain ⟨s, lo, hi, rfl, hz, h1, h2, q⟩ := q
    cases r1
    exact ae_slS (te := tC (.str (sOf s))) (ae_str rfl) hz h1 h2 B σ G1 H1 ad1 R1 C fun u G2 H2 X2 r2 => c _ e' u G2 H2 ad1 q (s1.trans X2.gg) p1 (R1.ext X2) r2
/-- a new list whose items are made with effects -/
theorem ax_lcX {wi : TI} {j n : Nat} {f : Nat → D} (J : Nat → List D → List (Option O) → Prop) (h : AI K wi e n f) (hn : n ≤ 900000) (h0 : J 0 [] e.m)
    (hs : ∀ i acc m, i < n → acc.length = i → m.length = e.m.length → J i acc m → AX K te ⟨e.s.set j (.d (f i)), m ++ [some (.lst acc)]⟩ fun a e' => ∃ x m', a = .d x ∧ e'.m = m' ++ [some (.lst acc)] ∧ m'.length = m.length ∧ J (i + 1) (acc ++ [x]) m')
    (hd : ∀ acc m, acc.length = n → m.length = e.m.length → J n acc m → Q (.o e.m.length) ⟨e.s, m ++ [some (.lst acc)]⟩) : AX K (tLc wi (gName j) tYes te [j]) e Q := fun B σ G H ad R C c =>
  h B σ G H ad R _ fun JJ G1 H1 X1 W Dl hD => by
    have R1 := R.ext X1
    have nD := R1.apart hD
    have fD := R1.fresh hD
    have X2 : Xt G1 H1 G1 (upd H1 Dl (.lst [])) := Xt.drop X1.gh hD
    have R2 : Rep K B (e.add []) σ G1 (upd H1 Dl (.lst [])) (ad ++ [Dl]) := (R1.ext X2).add nD.1 nD.2 fD upd_same .nil
    refine ⟨fun i m H => i + m = n ∧ ∃ (G' : Hp) (mm : List (Option O)) (acc : List D), Same G1 G' ∧ Rep K B ⟨e.s, mm ++ [some (O.lst acc)]⟩ σ G' H (ad ++ [Dl]) ∧ acc.length = i ∧ mm.length = e.m.length ∧ J i acc mm, ⟨n, by omega, G1, e.m, [], Same.refl _, R2, rfl, rfl, h0⟩, ?_⟩
    rintro i m H' ⟨hm, G', mm, acc, sg, R3, hacc, hmm, hJ⟩
    have hal : ad.length = mm.length := by
      have := R1.al
      omega
    by_cases hlt : i < n
    · refine .inr ⟨W.go i G' H' sg R3.gh hlt, fun H => ∃ (G' : Hp) (mm : List (Option O)) (acc : List D), Same G1 G' ∧ Rep K B ⟨e.s, mm ++ [some (O.lst acc)]⟩ σ G' H (ad ++ [Dl]) ∧ acc.length = i + 1 ∧ mm.length = e.m.length ∧ J (i + 1) acc mm, fun H'' q => ⟨m - 1, by omega, by omega, q⟩, fun x H2 y => ?_⟩
      obtain ⟨G2, X3, rx⟩ := W.yld i G' H' x H2 sg R3.gh hlt y
      have R4 := R3.ext X3
      refine agw_name B σ G2 H2 (ad ++ [Dl]) (R4.wipe [j]) x rx _ fun σ2 hw R5 => ⟨hw, ?_⟩
      show te σ2 H2 _
      refine hs i acc mm hlt hacc hmm hJ B σ2 G2 H2 (ad ++ [Dl]) R5 _ fun a e' v G4 H4 ad4 q s4 p4 R6 rv => ?_
      obtain ⟨x, m', rfl, hem, hml, hJ'⟩ := q
      have had : ad4 = ad ++ [Dl] := by
        obtain ⟨tl, rfl⟩ := p4
        have := R6.al
        rw [hem, List.length_append, List.length_append, List.length_append, hml] at this
        have e0 : ([some (O.lst acc)] : List (Option O)).length = 1 := rfl
        have e1 : ([Dl] : List Addr).length = 1 := rfl
        have : tl.length = 0 := by omega
        rw [List.eq_nil_of_length_eq_zero this, List.append_nil]
      subst had
      have R7 : Rep K B ⟨e.s, m' ++ [some (.lst acc)]⟩ σ G4 H4 (ad ++ [Dl]) := {
        bg := R6.bg
        gh := R6.gh
        fr := R6.fr
        kp := R6.kp
        nn := R6.nn
        al := by
          have := R6.al
          rw [hem] at this
          exact this
        nd := R6.nd
        ah := R6.ah
        ow := R6.ow
        op := fun k l o h1 h2 => R6.op k l o h1 (by rw [hem]; exact h2)
        sl := R4.sl
        st := fun i a h => by
          rcases R4.st i a h with h | ⟨v, h1, h2⟩
          · exact .inl h
          · exact .inr ⟨v, h1, h2.mono s4⟩ }
      have hk1 : (ad ++ [Dl])[mm.length]? = some Dl := by
        rw [← hal, List.getElem?_append_right (Nat.le_refl _), Nat.sub_self]
        rfl
      have hk2 : (m' ++ [some (O.lst acc)])[mm.length]? = some (some (.lst acc)) := by
        rw [← hml, List.getElem?_append_right (Nat.le_refl _), Nat.sub_self]
        rfl
      obtain ⟨_, _, accv, ha, rd⟩ := R7.op mm.length Dl _ hk1 hk2
      refine ⟨accv, ha, sz_lt (by rw [rd.length]; omega), G4, m', acc ++ [x], sg.trans (X3.gg.trans s4), ?_, by rw [List.length_append, hacc]; rfl, by omega, hJ'⟩
      have R8 := R7.put (k := mm.length) (es := acc ++ [x]) (vs := accv ++ [v]) hk1 hk2 (rd.append (.cons rv .nil))
      have : (Env.put ⟨e.s, m' ++ [some (.lst acc)]⟩ mm.length (acc ++ [x])) = ⟨e.s, m' ++ [some (.lst (acc ++ [x]))]⟩ := by
        show (⟨e.s, (m' ++ [some (O.lst acc)]).set mm.length _⟩ : Env) = _
        rw [← hml, List.set_append_right _ _ (Nat.le_refl _), Nat.sub_self]
        rfl
      rw [this] at R8
      exact R8
    · have e1 : i = n := by omega
      subst e1
      refine .inl ⟨W.stop i G' H' sg R3.gh (Nat.le_refl _), c _ _ (.ref Dl) G' H' (ad ++ [Dl]) (hd acc mm hacc hmm hJ) (X1.gg.trans sg) (List.prefix_append _ _) R3 ⟨Dl, ?_, rfl⟩⟩
      rw [hmm.symm, ← hal, List.getElem?_append_right (Nat.le_refl _), Nat.sub_self]
      rfl
theorem ac_max {e : Env} {ns : List Int} {m : Int} (h0 : 0 < ns.length) (hm : ∀ z : Int, z ∈ ns → (∀ y ∈ ns, y ≤ z) → z = m) : AC K (rMax K) [.d (.lst (ns.map .int))] e (.d (.int m)) := fun B σ G H ad R vs rvs C c => by
  cases rvs with
  | cons r1 r2 =>
    cases r2
    cases r1 with
    | lst hq rd =>
      refine ⟨_, ns, rfl, .inl (.inl (R.gh _ _ ?_)), h0, fun z h1 h2 => ?_⟩
      · rw [← RD.ints rd]
        exact hq
      · rw [hm z h1 h2]
        exact c _ G H (Xt.refl R.gh) .int
end
end Ab
namespace Ab
open PySem PySem.Spec PyProof.Rows L2
/-! ### list of a text -/
abbrev rListT : List V → Hp → VK → Prop := fun xs H Q => ∃ s : List Nat, xs = [.str (sOf s)] ∧ s.length ≤ 1000000 ∧ ∀ l, H l = none → Q (.ref l) (upd H l (.lst (s.map fun c => V.str (sOf [c]))))
theorem items_text {s : List Nat} {acc : Array Value} (h : ItemsOf (SignAt (sOf s)) acc (sOf s).cps.size) : Vals (s.map fun c => V.str (sOf [c])) acc.toList := by
  obtain ⟨h1, h2⟩ := h
  have hs : (sOf s).cps.size = s.length := List.size_toArray
  rw [hs] at h1
  have key : ∀ (l : List Nat) (vs : List Value), vs.length = l.length → (∀ (j : Nat) (v : Value), vs[j]? = some v → ∃ c u, l[j]? = some c ∧ v = Value.str ⟨#[c]⟩ u) → Vals (l.map fun c => V.str (sOf [c])) vs := by
    intro l
    induction l with
    | nil =>
      intro vs hv _
      rw [List.eq_nil_of_length_eq_zero hv]
      exact .nil
    | cons a r ih =>
      intro vs hv hx
      cases vs with
      | nil => cases hv
      | cons v vs =>
        obtain ⟨c, u, e1, e2⟩ := hx 0 v rfl
        have e1 : a = c := Option.some.inj e1
        subst e1
        exact .cons ⟨u, e2⟩ (ih vs (Nat.succ.inj hv) fun j v hj => hx (j + 1) v hj)
  refine key s acc.toList (by rw [Array.length_toList, h1]) fun j v hj => ?_
  obtain ⟨c, u, e1, e2⟩ := h2 j v (by rw [← Array.getElem?_toList]; exact hj)
  refine ⟨c, u, ?_, e2⟩
  have : (sOf s).cps = s.toArray := rfl
  rw [this, List.getElem?_toArray] at e1
  exact e1
theorem call_listT {X : Cx} (hc : X.calm = true) : CallR X (.type "list") rListT := fun pins s σ H xs us Q I rv h => by
  obtain ⟨t, rfl, hz, q⟩ := h
  cases rv with
  | cons r1 r2 =>
    cases r2
    obtain ⟨u, rfl⟩ := r1
    have hs : (sOf t).cps.size = t.length := List.size_toArray
    refine PySem.call_list_str (I.ok.hd hc) (sOf t) u (fun h' tk acc' c' kp ho it => ?_) (by rw [hs]; exact sz_of hz)
    have hv := items_text it
    have I2 : Inv X pins σ (upd H s.heap.objs.size (.lst (t.map fun c => V.str (sOf [c])))) { heap := h', gens := s.gens, drawn := s.drawn, toks := tk, os := s.os } := by
      refine I.turnedNew (ch := []) (fun b o _ e => kp b o e) (fun b hb => nomatch hb) (Nat.le_refl _) ?_
      refine ⟨by rw [List.length_map]; exact sz_of hz, acc'.toList, c', hv, ?_⟩
      first
      | exact ho
      | (rw [Array.toArray_toList]; exact ho)
    exact ⟨.ref s.heap.objs.size, _, I2, rfl, q _ I.fresh⟩
section
variable {K : PySem.W.Frag} {e : Env}
theorem nc_listT {s : List Nat} (hz : s.length ≤ 1000000) : NC K rListT [.d (.str s)] e (s.map fun c => .str [c]) := fun B σ G H ad R vs rv C c => by
  obtain ⟨v, rfl, rw⟩ := rv1 rv
  cases rw
  refine ⟨s, rfl, hz, fun l hl => c l _ G _ (Xt.drop R.gh hl) hl (Same.none R.gh hl) upd_same ?_⟩
  have := RDs.ofStrs (K := K) (G := G) (s.map fun c => [c])
  rw [List.map_map, List.map_map] at this
  exact this
/-! ### in a list of ints, of texts -/
theorem inV_ints (i : Int) : ∀ ns : List Int, inV (.int i) (ns.map V.int) = decide (i ∈ ns)
  | [] => by
    rw [decide_eq_false (by simp)]
    rfl
  | n :: r => by
    show (eqV (.int n) (.int i) || inV (.int i) (r.map V.int)) = _
    rw [inV_ints i r]
    have : eqV (.int n) (.int i) = decide (n = i) := rfl
    rw [this, ← Bool.decide_or, decide_eq_decide, List.mem_cons]
    exact ⟨fun h => h.imp Eq.symm id, fun h => h.imp Eq.symm id⟩
theorem inV_strs (i : List Nat) : ∀ ns : List (List Nat), inV (.str (sOf i)) (ns.map fun x => V.str (sOf x)) = decide (i ∈ ns)
  | [] => by
    rw [decide_eq_false (by simp)]
    rfl
  | n :: r => by
    show (eqV (.str (sOf n)) (.str (sOf i)) || inV (.str (sOf i)) (r.map fun x => V.str (sOf x))) = _
    rw [inV_strs i r]
    have : eqV (.str (sOf n)) (.str (sOf i)) = decide (sOf n = sOf i) := rfl
    rw [this, ← Bool.decide_or, decide_eq_decide, List.mem_cons]
    exact ⟨fun h => h.imp (fun h => (sOf_inj h).symm) id, fun h => h.imp (fun h => by rw [h]) id⟩
theorem flat_ints : ∀ ns : List Int, (ns.map V.int).all flatV = true
  | [] => rfl
  | n :: r => by
    show (true && (r.map V.int).all flatV) = true
    rw [flat_ints r]
    rfl
theorem flat_strs : ∀ ns : List (List Nat), (ns.map fun x => V.str (sOf x)).all flatV = true
  | [] => rfl
  | n :: r => by
    show (true && (r.map fun x => V.str (sOf x)).all flatV) = true
    rw [flat_strs r]
    rfl
theorem a2_inI {neg : Bool} {i : Int} {ns : List Int} : A2 K (rIn K neg) (.d (.int i)) (.d (.lst (ns.map .int))) e (.d (.bl (if neg = true then !decide (i ∈ ns) else decide (i ∈ ns)))) := fun B σ G H ad R v w rv rw C c => by
  cases rv
  cases rw with
  | lst hq rd =>
    have e1 := RD.ints rd
    subst e1
    refine ⟨_, ns.map V.int, rfl, .inl (.inl (.inl (R.gh _ _ hq))), rfl, flat_ints ns, ?_⟩
    rw [inV_ints]
    exact c _ G H (Xt.refl R.gh) .bl
theorem a2_inIO {neg : Bool} {i : Int} {ns : List Int} {k : Nat} (hk : e.m[k]? = some (some (.lst (ns.map .int)))) : A2 K (rIn K neg) (.d (.int i)) (.o k) e (.d (.bl (if neg = true then !decide (i ∈ ns) else decide (i ∈ ns)))) := fun B σ G H ad R v w rv rw C c => by
  cases rv
  obtain ⟨l, hl, rfl⟩ := rw
  obtain ⟨_, _, vs, hq, rd⟩ := R.op k l _ hl hk
  have e1 := RD.ints rd
  subst e1
  refine ⟨_, ns.map V.int, rfl, .inl (.inl (.inl hq)), rfl, flat_ints ns, ?_⟩
  rw [inV_ints]
  exact c _ G H (Xt.refl R.gh) .bl
theorem a2_inT {neg : Bool} {i : List Nat} {ns : List (List Nat)} : A2 K (rIn K neg) (.d (.str i)) (.d (.lst (ns.map .str))) e (.d (.bl (if neg = true then !decide (i ∈ ns) else decide (i ∈ ns)))) := fun B σ G H ad R v w rv rw C c => by
  cases rv
  cases rw with
  | lst hq rd =>
    have e1 := RD.strs rd
    subst e1
    refine ⟨_, ns.map fun x => V.str (sOf x), rfl, .inl (.inl (.inl (R.gh _ _ hq))), rfl, flat_strs ns, ?_⟩
    rw [inV_strs]
    exact c _ G H (Xt.refl R.gh) .bl
end
end Ab
namespace Ab
open PySem PySem.Spec PyProof.Rows L2
section
variable {K : PySem.W.Frag} {w : Nat} {D : AEnds} {e : Env} {ta tb te : TE} {Q : A → Env → Prop}
/-! ### several, with effects -/
theorem axl_nil {R : List A → Env → Prop} (q : R [] e) : AXL K tNil e R := fun B σ G H ad Rp C c => c [] e [] G H ad q (Same.refl _) (List.prefix_refl _) Rp .nil
theorem axl_cons {tr : TA} {R : List A → Env → Prop} (h : AX K te e fun a e1 => AXL K tr e1 fun as e2 => R (a :: as) e2) : AXL K (tCons te tr) e R := fun B σ G H ad Rp C c =>
  h B σ G H ad Rp _ fun a e1 v G1 H1 ad1 q s1 p1 R1 r1 => q B σ G1 H1 ad1 R1 _ fun as e2 vs G2 H2 ad2 q2 s2 p2 R2 r2 =>
    c (a :: as) e2 (v :: vs) G2 H2 ad2 q2 (s1.trans s2) (p1.trans p2) R2 (.cons ((r1.mono s2).pre p2) r2)
theorem axl_al {tr : TA} {as : List A} {R : List A → Env → Prop} (h : AL K tr e as) (q : R as e) : AXL K tr e R := fun B σ G H ad Rp C c =>
  h B σ G H ad Rp _ fun vs G1 H1 X1 r1 => c as e vs G1 H1 ad q X1.gg (List.prefix_refl _) (Rp.ext X1) r1
theorem ax_tup {t : TA} (h : AXL K t e fun as e' => ∃ ds : List Ab.D, as = ds.map .d ∧ ds.length ≤ 1000000 ∧ Q (.d (.tup ds)) e') : AX K (tTup t) e Q := fun B σ G H ad R C c =>
  h B σ G H ad R _ fun as e' vs G1 H1 ad1 ⟨ds, ha, hl, q⟩ s1 p1 R1 r1 => by
    subst ha
    refine ⟨sz_of ?_, fun p hp => ?_⟩
    · have := r1.length
      rw [List.length_map] at this
      omega
    · have X2 := Xt.new (o := .tup vs) R1.gh hp
      exact c _ e' (.ref p) _ _ ad1 q (s1.trans X2.gg) p1 (R1.ext X2) (RD.tup (.inl (.inl upd_same)) (r1.toRDs.mono X2.gg))
theorem ax_lst {t : TA} (h : AXL K t e fun as e' => ∃ ds : List Ab.D, as = ds.map .d ∧ ds.length ≤ 1000000 ∧ Q (.d (.lst ds)) e') : AX K (tLst t) e Q := fun B σ G H ad R C c =>
  h B σ G H ad R _ fun as e' vs G1 H1 ad1 ⟨ds, ha, hl, q⟩ s1 p1 R1 r1 => by
    subst ha
    refine ⟨sz_of ?_, fun p hp => ?_⟩
    · have := r1.length
      rw [List.length_map] at this
      omega
    · have X2 := Xt.new (o := .lst vs) R1.gh hp
      exact c _ e' (.ref p) _ _ ad1 q (s1.trans X2.gg) p1 (R1.ext X2) (RD.lst upd_same (r1.toRDs.mono X2.gg))
theorem N2.a2 {r : R2} {x y : A} {ds : List Ab.D} (h : N2 K r x y e ds) : A2 K r x y e (.d (.lst ds)) := fun B σ G H ad R v w rv rw C c =>
  h B σ G H ad R v w rv rw C fun p vs G' H' X hp gp hq rd => c (.ref p) (upd G' p (.lst vs)) H' ⟨X.gg.trans (same_new gp), fun b o q => by
      by_cases hb : b = p
      · subst hb
        rw [upd_same] at q
        rw [hq]
        exact q
      · rw [upd_ne hb] at q
        exact X.gh _ _ q, X.hh, fun b q => by
      by_cases hb : b = p
      · exact .inr (hb ▸ hp)
      · rw [upd_ne hb] at q
        exact X.fr b q⟩ (RD.lst upd_same (rd.mono (same_new gp)))
theorem ax_op {r : R2} (h : AX K ta e fun a e' => ∃ y z, AE K tb e' y ∧ A2 K r a y e' z ∧ Q z e') : AX K (tOp r ta tb) e Q := fun B σ G H ad R C c =>
  h B σ G H ad R _ fun a e' v G1 H1 ad1 ⟨y, z, hy, hz, q⟩ s1 p1 R1 r1 => hy B σ G1 H1 ad1 R1 _ fun w G2 H2 X2 r2 =>
    hz B σ G2 H2 ad1 (R1.ext X2) v w (r1.mono X2.gg) r2 C fun u G3 H3 X3 r3 => c z e' u G3 H3 ad1 q (s1.trans (X2.gg.trans X3.gg)) p1 ((R1.ext X2).ext X3) r3
/-- what stands behind one form of the slots -/
theorem as_seqLe {t u : TS} (E0 : Env) (h : AS K w t ⟨fun e' => Le e' E0, D.rt, D.bk, D.ct⟩ e) (h2 : AS K w u D E0) : AS K w (tSeq t u) D e :=
  as_seq (h.ends (fun _ le => AS.le h2 le) (fun _ _ q => q) (fun _ q => q) (fun _ q => q))
/-- the same, where one way ends with a list that is still one's own -/
theorem as_seqFrz {t u : TS} (E0 E1 : Env) (k : Nat) {ds : List Ab.D} (hk : E1.m[k]? = some (some (.lst ds))) (hw : w ≤ k) (he : Le (E1.frz k ds) E0) (h : AS K w t ⟨fun e' => Le e' E1 ∨ Le e' E0, D.rt, D.bk, D.ct⟩ e) (h2 : AS K w u D E0) : AS K w (tSeq t u) D e :=
  as_seq (h.ends (fun _ le => le.elim (fun le => AS.le (as_frz k hk hw (AS.le h2 he)) le) fun le => AS.le h2 le) (fun _ _ q => q) (fun _ q => q) (fun _ q => q))
theorem given_filter {α : Type} (xs : List α) (c : α → Bool) (g : α → Ab.D) : ∀ n, n ≤ xs.length → givenD (fun i => (xs[i]?).bind fun x => if c x = true then some (g x) else none) n = ((xs.take n).filter c).map g
  | 0, _ => by
    rw [List.take_zero]
    rfl
  | n + 1, h => by
    have hx : xs[n]? = some xs[n] := List.getElem?_eq_getElem (by omega)
    show givenD _ n ++ ((xs[n]?).bind fun x => if c x = true then some (g x) else none).toList = _
    rw [given_filter xs c g n (by omega), List.take_add_one, hx, List.filter_append, List.map_append]
    congr 1
    show (if c xs[n] = true then some (g xs[n]) else none).toList = ([xs[n]].filter c).map g
    by_cases z : c xs[n] = true
    · rw [if_pos z, List.filter_cons_of_pos z]
      rfl
    · rw [if_neg z, List.filter_cons_of_neg z]
      rfl
end
end Ab
namespace Ab
open PySem PySem.Spec PyProof.Rows L2
theorem atI_of {α : Type} {xs : List α} {z : Int} {j : Nat} {v : α} (e : z = (j : Int)) (h : xs[j]? = some v) : atI xs z = some v := by
  rw [e]
  exact atI_nat h
theorem cutG_map {α β : Type} (f : α → β) (xs : List α) (lo hi : Option Int) : cutG (xs.map f) lo hi = (cutG xs lo hi).map f := by
  unfold cutG
  rw [List.map_take, List.map_drop, List.length_map]
/-! ### what the drawers make -/
def cell (ns : List Int) (k : Int) : Int := ns.getD k.toNat 0
theorem cell_at {ns : List Int} {k : Int} (h0 : 0 ≤ k) (h : k < ns.length) : atI ns k = some (cell ns k) := by
  have e : k = (k.toNat : Int) := by omega
  have hl : k.toNat < ns.length := by omega
  unfold cell
  rw [List.getD_eq_getElem?_getD, List.getElem?_eq_getElem hl]
  have q := atI_of (xs := ns) e (List.getElem?_eq_getElem hl)
  exact q
theorem cell_out {ns : List Int} {k : Int} (h : ¬ k < ns.length) : cell ns k = 0 := by
  unfold cell
  rw [List.getD_eq_getElem?_getD, List.getElem?_eq_none (by omega)]
  rfl
def abc1 : List Nat := [32, 33, 34, 35, 36, 38, 39, 40, 41, 42, 43, 44, 45, 46, 47, 48, 49, 50, 51, 52, 53, 54, 55, 56, 57, 58, 59, 60, 61, 62, 63, 64, 65, 66, 67, 68, 69, 70, 71, 72, 73, 74, 75, 76, 77, 78, 79, 80, 81, 82, 83, 84, 85, 86, 87, 88, 89, 90, 91, 92, 93, 94, 95, 96]
def abc2 : List Nat := [97, 98, 99, 100, 101, 102, 103, 104, 105, 106, 107, 108, 109, 110, 111, 112, 113, 114, 115, 116, 117, 118, 119, 120, 121, 122, 123, 124, 125, 126, 10, 9]
def abc : List Nat := abc1 ++ abc2
theorem abc_len : abc.length = 96 := by decide +kernel
def sgn (c : Int) : Nat := abc.getD (c % 96).toNat 0
theorem sgn_at (c : Int) : atI abc (c % 96) = some (sgn c) := by
  have h0 : 0 ≤ c % 96 := Int.emod_nonneg _ (by decide)
  have h1 : c % 96 < 96 := Int.emod_lt_of_pos _ (by decide)
  have hl : (c % 96).toNat < abc.length := by rw [abc_len]; omega
  have e : c % 96 = ((c % 96).toNat : Int) := by omega
  unfold sgn
  rw [List.getD_eq_getElem?_getD, List.getElem?_eq_getElem hl]
  have q := atI_of (xs := abc) e (List.getElem?_eq_getElem hl)
  exact q
theorem sgn_lt (c : Int) : sgn c < 128 := by
  have h : ∀ x ∈ abc, x < 128 := by decide +kernel
  have h0 : 0 ≤ c % 96 := Int.emod_nonneg _ (by decide)
  have h1 : c % 96 < 96 := Int.emod_lt_of_pos _ (by decide)
  have hl : (c % 96).toNat < abc.length := by rw [abc_len]; omega
  unfold sgn
  rw [List.getD_eq_getElem?_getD, List.getElem?_eq_getElem hl]
  exact h _ (List.getElem_mem hl)
/-- an item of a written list of numbers -/
theorem pick_at {α : Type} {l : List α} {i : Int} (d : α) (h0 : 0 ≤ i) (h : i < l.length) : atI l i = some (l.getD i.toNat d) := by
  have hl : i.toNat < l.length := by omega
  have e : i = (i.toNat : Int) := by omega
  rw [List.getD_eq_getElem?_getD, List.getElem?_eq_getElem hl]
  have q := atI_of (xs := l) e (List.getElem?_eq_getElem hl)
  exact q
theorem atI_map {α β : Type} {l : List α} {g : α → β} {i : Int} {x : α} (h : atI l i = some x) : atI (l.map g) i = some (g x) := by
  unfold atI at h ⊢
  rw [List.length_map]
  cases z : ixN l.length i with
  | none =>
    rw [z] at h
    cases h
  | some j =>
    rw [z] at h
    have h : l[j]? = some x := h
    show (l.map g)[j]? = some (g x)
    rw [List.getElem?_map, h]
    rfl
theorem mod_lo (i : Int) {n : Int} (hn : 0 < n) : 0 ≤ i % n := Int.emod_nonneg _ (by omega)
theorem mod_hi (i : Int) {n : Int} (hn : 0 < n) : i % n < n := Int.emod_lt_of_pos _ hn
def gaps : List Int := [1, 5, 7, 11, 13, 17, 19, 23]
def gap (c : Int) : Int := gaps.getD (c / 96 % 8).toNat 0
theorem gap_at (c : Int) : atI (gaps.map D.int) (c / 96 % 8) = some (.int (gap c)) :=
  atI_map (pick_at 0 (mod_lo _ (by decide)) (mod_hi _ (by decide)))
theorem gap_b (c : Int) : 0 ≤ gap c ∧ gap c ≤ 23 := by
  have h : ∀ x ∈ gaps, 0 ≤ x ∧ x ≤ 23 := by decide
  have h0 := mod_lo (c / 96) (n := 8) (by decide)
  have h1 := mod_hi (c / 96) (n := 8) (by decide)
  have hl : (c / 96 % 8).toNat < gaps.length := by show _ < 8; omega
  unfold gap
  rw [List.getD_eq_getElem?_getD, List.getElem?_eq_getElem hl]
  exact h _ (List.getElem_mem hl)
def gsize (c : Int) : Int := if decide (c / 768 % 4 = 1) = true then 2 + c / 3072 % 8 + 10 * (c / 24576 % 2) else 1
theorem gsize_b (c : Int) : 1 ≤ gsize c ∧ gsize c ≤ 19 := by
  unfold gsize
  have h0 := mod_lo (c / 3072) (n := 8) (by decide)
  have h1 := mod_hi (c / 3072) (n := 8) (by decide)
  have h2 := mod_lo (c / 24576) (n := 2) (by decide)
  have h3 := mod_hi (c / 24576) (n := 2) (by decide)
  split <;> omega
def lsigns (c : Int) : List Nat := (List.range (5 * gsize c).toNat).map fun k => sgn (c + (k : Nat) * gap c)
theorem lsigns_len (c : Int) : (lsigns c).length = (5 * gsize c).toNat := by unfold lsigns; rw [List.length_map, List.length_range]
def letter (c : Int) (k : Nat) : List Nat := ((lsigns c).drop (k * (gsize c).toNat)).take (gsize c).toNat
def letters (c : Int) : List (List Nat) := (List.range 5).map (letter c)
theorem letters_len (c : Int) : (letters c).length = 5 := by unfold letters; rw [List.length_map, List.length_range]
theorem letter_len (c : Int) {k : Nat} (hk : k < 5) : (letter c k).length = (gsize c).toNat := by
  have h := gsize_b c
  unfold letter
  rw [List.length_take, List.length_drop, lsigns_len]
  have : k * (gsize c).toNat ≤ 4 * (gsize c).toNat := Nat.mul_le_mul_right _ (by omega)
  omega
theorem lsigns_lt (c : Int) : ∀ x ∈ lsigns c, x < 128 := by
  intro x hx
  unfold lsigns at hx
  obtain ⟨k, _, rfl⟩ := List.mem_map.mp hx
  exact sgn_lt _
theorem letter_lt (c : Int) (k : Nat) : ∀ x ∈ letter c k, x < 128 := fun x hx => lsigns_lt c x (List.mem_of_mem_drop (List.mem_of_mem_take hx))
/-- what holds of the five groups -/
structure LetOk (ls : List (List Nat)) : Prop where
  len : 1 ≤ ls.length ∧ ls.length ≤ 100
  it : ∀ g ∈ ls, 1 ≤ g.length ∧ g.length ≤ 19
  lt : ∀ g ∈ ls, ∀ x ∈ g, x < 128
theorem letters_ok (c : Int) : LetOk (letters c) where
  len := by rw [letters_len]; exact ⟨by decide, by decide⟩
  it := fun g hg => by
    unfold letters at hg
    obtain ⟨k, hk, rfl⟩ := List.mem_map.mp hg
    rw [letter_len c (List.mem_range.mp hk)]
    have := gsize_b c
    omega
  lt := fun g hg => by
    unfold letters at hg
    obtain ⟨k, hk, rfl⟩ := List.mem_map.mp hg
    exact letter_lt c k
theorem LetOk.take {ls : List (List Nat)} (h : LetOk ls) {n : Nat} (hn : 1 ≤ n) : LetOk (ls.take n) where
  len := by
    rw [List.length_take]
    have := h.len
    omega
  it := fun g hg => h.it g (List.mem_of_mem_take hg)
  lt := fun g hg => h.lt g (List.mem_of_mem_take hg)
/-! the step of the drawn number -/
def nxt (n : Int) : Int := (n * 48271 + 11) % 2147483647
theorem nxt_b (n : Int) : 0 ≤ nxt n ∧ nxt n < 2147483647 := ⟨mod_lo _ (by decide), mod_hi _ (by decide)⟩
/-- a text out of groups, sign by sign -/
def tbState (ls : List (List Nat)) (c : Int) : Nat → List Nat × Int
  | 0 => ([], c % 2147483647)
  | i + 1 =>
    let s := tbState ls c i
    let n := nxt s.2
    let g := ls.getD (n / 7 % ls.length).toNat []
    (s.1 ++ [g.getD (n / 700 % g.length).toNat 0], n)
def textBy (c size : Int) (ls : List (List Nat)) : List Nat := (tbState ls c size.toNat).1
theorem tb_len (ls : List (List Nat)) (c : Int) : ∀ i, (tbState ls c i).1.length = i
  | 0 => rfl
  | i + 1 => by
    show ((tbState ls c i).1 ++ [_]).length = i + 1
    rw [List.length_append, tb_len ls c i]
    rfl
theorem tb_num (ls : List (List Nat)) (c : Int) : ∀ i, 0 ≤ (tbState ls c i).2 ∧ (tbState ls c i).2 < 2147483647
  | 0 => ⟨mod_lo _ (by decide), mod_hi _ (by decide)⟩
  | i + 1 => nxt_b _
/-- the group that is drawn -/
theorem grp_at {ls : List (List Nat)} (h : LetOk ls) (n : Int) : atI ls (n / 7 % ls.length) = some (ls.getD (n / 7 % ls.length).toNat []) ∧ ls.getD (n / 7 % ls.length).toNat [] ∈ ls := by
  have hp : (0 : Int) < ls.length := by have := h.len; omega
  have h0 := mod_lo (n / 7) hp
  have h1 := mod_hi (n / 7) hp
  refine ⟨pick_at [] h0 h1, ?_⟩
  have hl : (n / 7 % ls.length).toNat < ls.length := by omega
  rw [List.getD_eq_getElem?_getD, List.getElem?_eq_getElem hl]
  exact List.getElem_mem hl
theorem sign_at {g : List Nat} (h : 1 ≤ g.length) (n : Int) : atI g (n % g.length) = some (g.getD (n % g.length).toNat 0) ∧ g.getD (n % g.length).toNat 0 ∈ g := by
  have hp : (0 : Int) < g.length := by omega
  have h0 := mod_lo n hp
  have h1 := mod_hi n hp
  refine ⟨pick_at 0 h0 h1, ?_⟩
  have hl : (n % g.length).toNat < g.length := by omega
  rw [List.getD_eq_getElem?_getD, List.getElem?_eq_getElem hl]
  exact List.getElem_mem hl
theorem tb_mem {ls : List (List Nat)} (h : LetOk ls) (c : Int) : ∀ i, ∀ x ∈ (tbState ls c i).1, ∃ g ∈ ls, x ∈ g
  | 0, x, hx => by cases hx
  | i + 1, x, hx => by
    rcases List.mem_append.mp hx with q | q
    · exact tb_mem h c i x q
    · have e := List.mem_singleton.mp q
      have hg := (grp_at h (nxt (tbState ls c i).2)).2
      refine ⟨_, hg, ?_⟩
      rw [e]
      exact (sign_at (h.it _ hg).1 _).2
theorem textBy_len {c size : Int} {ls : List (List Nat)} : (textBy c size ls).length = size.toNat := tb_len ls c _
theorem textBy_mem {c size : Int} {ls : List (List Nat)} (h : LetOk ls) : ∀ x ∈ textBy c size ls, ∃ g ∈ ls, x ∈ g := tb_mem h c _
end Ab
namespace Ab
open PySem PySem.Spec PyProof.Rows L2
/-! ### tables -/
abbrev Row := Option Int × List (Option Nat)
structure Tbl where
  signs : List Nat
  rows : List Row
def optI : Option Int → D
  | none => .non
  | some i => .int i
def optN : Option Nat → D
  | none => .non
  | some n => .int (n : Nat)
theorem optN_I (o : Option Nat) : optN o = optI (o.map Int.ofNat) := by cases o <;> rfl
def rowD (r : Row) : D := .tup [optI r.1, .lst (r.2.map optN)]
def tblD (t : Tbl) : D := .tup [.str t.signs, .lst (t.rows.map rowD)]
structure Tbl.Ok (t : Tbl) : Prop where
  pos : 0 < t.rows.length
  wid : ∀ r ∈ t.rows, r.2.length = t.signs.length
  ins : ∀ r ∈ t.rows, ∀ n, some n ∈ r.2 → n < t.rows.length
  few : t.signs.length ≤ 1000
  many : t.rows.length ≤ 1000
  lt : ∀ x ∈ t.signs, x < 128
/-- where a sign leads from a row -/
def step (t : Tbl) (row : Nat) (c : Nat) : Option Nat := (pos c t.signs).bind fun j => (t.rows[row]?).bind fun r => (r.2[j]?).bind id
/-- where a text leads, from a row or nowhere -/
def runs (t : Tbl) (r : Option Nat) (s : List Nat) : Option Nat := s.foldl (fun r c => r.bind fun n => step t n c) r
theorem runs_snoc (t : Tbl) (r : Option Nat) (s : List Nat) (c : Nat) : runs t r (s ++ [c]) = (runs t r s).bind fun n => step t n c := by
  unfold runs
  rw [List.foldl_append]
  rfl
theorem runs_none (t : Tbl) : ∀ s : List Nat, runs t none s = none
  | [] => rfl
  | _ :: r => runs_none t r
theorem runs_app (t : Tbl) (r : Option Nat) (s s' : List Nat) : runs t r (s ++ s') = runs t (runs t r s) s' := by
  unfold runs
  rw [List.foldl_append]
theorem step_lt {t : Tbl} (h : t.Ok) {row c n : Nat} (e : step t row c = some n) : n < t.rows.length := by
  unfold step at e
  cases h1 : pos c t.signs with
  | none =>
    rw [h1] at e
    cases e
  | some j =>
    rw [h1] at e
    have e : ((t.rows[row]?).bind fun r => (r.2[j]?).bind id) = some n := e
    cases h2 : t.rows[row]? with
    | none =>
      rw [h2] at e
      cases e
    | some r =>
      rw [h2] at e
      have e : (r.2[j]?).bind id = some n := e
      cases h3 : r.2[j]? with
      | none =>
        rw [h3] at e
        cases e
      | some o =>
        rw [h3] at e
        have e : o = some n := e
        subst e
        exact h.ins r (List.mem_of_getElem? h2) n (List.mem_of_getElem? h3)
theorem runs_lt {t : Tbl} (h : t.Ok) : ∀ (s : List Nat) {r : Option Nat} {n : Nat}, (∀ m, r = some m → m < t.rows.length) → runs t r s = some n → n < t.rows.length
  | [], r, n, h0, e => h0 n e
  | c :: s, r, n, h0, e => by
    refine runs_lt h s (r := r.bind fun n => step t n c) (fun m hm => ?_) e
    cases r with
    | none => cases hm
    | some k => exact step_lt h hm
/-- the way of a sign that is there -/
theorem step_at {t : Tbl} (h : t.Ok) {row c j : Nat} (hr : row < t.rows.length) (hj : pos c t.signs = some j) : ∃ r o, t.rows[row]? = some r ∧ r.2[j]? = some o ∧ step t row c = o := by
  have hlt := pos_lt hj
  have h2 : t.rows[row]? = some t.rows[row] := List.getElem?_eq_getElem hr
  have hw := h.wid _ (List.getElem_mem hr)
  have h3 : t.rows[row].2[j]? = some (t.rows[row].2[j]'(by omega)) := List.getElem?_eq_getElem (by omega)
  refine ⟨_, _, h2, h3, ?_⟩
  unfold step
  rw [hj]
  show ((t.rows[row]?).bind fun r => (r.2[j]?).bind id) = _
  rw [h2]
  show (t.rows[row].2[j]?).bind id = _
  rw [h3]
  rfl
theorem step_no {t : Tbl} {row c : Nat} (h : pos c t.signs = none) : step t row c = none := by
  unfold step
  rw [h]
  rfl
/-- sign by sign -/
theorem runs_take (t : Tbl) (r : Option Nat) {s : List Nat} {i c : Nat} (h : s[i]? = some c) : runs t r (s.take (i + 1)) = (runs t r (s.take i)).bind fun n => step t n c := by
  rw [List.take_add_one, h]
  exact runs_snoc t r _ c
theorem runs_dead (t : Tbl) (r : Option Nat) {s : List Nat} {i : Nat} (h : runs t r (s.take i) = none) : runs t r s = none := by
  have e := runs_app t r (s.take i) (s.drop i)
  rw [List.take_append_drop, h, runs_none] at e
  exact e
/-! ### == of tables -/
theorem strOk_small {s : List Nat} (h : ∀ x ∈ s, x < 128) : PyData.canLay0 (.str (sOf s)) = true := by
  show (s.toArray.all (· < 0x110000)) = true
  rw [List.all_toArray, List.all_eq_true]
  intro x hx
  have := h x hx
  exact decide_eq_true (by omega)
/-- data that == can compare, at most n deep -/
structure Good (n : Nat) (d : D) : Prop where
  lay : d.py.canLay0 = true
  dep : d.py.depth ≤ n
theorem pys_lay {n : Nat} : ∀ {ds : List D}, (∀ d ∈ ds, Good n d) → PyData.canLayAll0 (D.pys ds) = true ∧ PyData.depthAll (D.pys ds) ≤ n
  | [], _ => ⟨rfl, Nat.zero_le _⟩
  | d :: r, h => by
    obtain ⟨h1, h2⟩ := h d (by simp)
    obtain ⟨h3, h4⟩ := pys_lay (ds := r) fun x hx => h x (by simp [hx])
    refine ⟨?_, ?_⟩
    · show (d.py.canLay0 && PyData.canLayAll0 (D.pys r)) = true
      rw [h1, h3]
      rfl
    · show max d.py.depth (PyData.depthAll (D.pys r)) ≤ n
      omega
theorem Good.lst {n : Nat} {ds : List D} (h : ∀ d ∈ ds, Good n d) : Good (n + 1) (.lst ds) := by
  obtain ⟨h1, h2⟩ := pys_lay h
  refine ⟨h1, ?_⟩
  show PyData.depthAll (D.pys ds) + 1 ≤ n + 1
  omega
theorem Good.tup {n : Nat} {ds : List D} (h : ∀ d ∈ ds, Good n d) : Good (n + 1) (.tup ds) := by
  obtain ⟨h1, h2⟩ := pys_lay h
  refine ⟨h1, ?_⟩
  show PyData.depthAll (D.pys ds) + 1 ≤ n + 1
  omega
theorem Good.str {n : Nat} {s : List Nat} (h : ∀ x ∈ s, x < 128) : Good n (.str s) := ⟨strOk_small h, Nat.zero_le _⟩
theorem Good.int {n : Nat} {i : Int} : Good n (.int i) := ⟨rfl, Nat.zero_le _⟩
theorem Good.non {n : Nat} : Good n .non := ⟨rfl, Nat.zero_le _⟩
theorem Good.bl {n : Nat} {b : Bool} : Good n (.bl b) := ⟨rfl, Nat.zero_le _⟩
theorem Good.ok {n : Nat} {d : D} (h : Good n d) (hn : n ≤ 64 := by decide) : okD d := by
  show (d.py.canLay0 && decide (d.py.depth ≤ 64)) = true
  rw [h.lay, decide_eq_true (Nat.le_trans h.dep hn)]
  rfl
theorem Good.two {n : Nat} {a b : D} (ha : Good n a) (hb : Good n b) : ∀ d ∈ [a, b], Good n d := fun d hd => by
  rcases List.mem_cons.mp hd with rfl | hd
  · exact ha
  · rw [List.mem_singleton.mp hd]
    exact hb
theorem optI_good {n : Nat} (o : Option Int) : Good n (optI o) := by
  cases o with
  | none => exact .non
  | some i => exact .int
theorem optN_good {n : Nat} (o : Option Nat) : Good n (optN o) := by
  cases o with
  | none => exact .non
  | some i => exact .int
theorem rowD_good (r : Row) : Good 2 (rowD r) := .tup (.two (optI_good _) (.lst fun d hd => by
  obtain ⟨w, _, rfl⟩ := List.mem_map.mp hd
  exact optN_good (n := 0) w))
theorem tblD_good {t : Tbl} (h : t.Ok) : Good 4 (tblD t) := .tup (.two (.str h.lt) (.lst fun d hd => by
  obtain ⟨r, _, rfl⟩ := List.mem_map.mp hd
  exact rowD_good r))
/-! ### the drawn table -/
structure TP where
  many : Int
  signs : List Nat
  style : Int
  mst : Int
  alone : Int
structure TP.Ok (p : TP) : Prop where
  m : 1 ≤ p.many ∧ p.many ≤ 64
  s : p.signs.length ≤ 100
  lt : ∀ x ∈ p.signs, x < 128
  st : 0 ≤ p.style ∧ p.style < 4
  mo : 1 ≤ p.mst ∧ p.mst ≤ 1000
  al : 0 ≤ p.alone ∧ p.alone ≤ 1000000000
def wayV (p : TP) (k n : Int) (i : Nat) : Int := if ((decide (0 < p.style) && decide (p.style < 3)) && decide ((i : Int) = 0)) = true then k + 1 else n / 7 % p.mst
def wayO (p : TP) (k n : Int) (i : Nat) : Option Nat := if decide (p.many ≤ wayV p k n i) = true then none else some (wayV p k n i).toNat
def wState (p : TP) (k n0 : Int) : Nat → List (Option Nat) × Int
  | 0 => ([], n0)
  | i + 1 => ((wState p k n0 i).1 ++ [wayO p k (nxt (wState p k n0 i).2) i], nxt (wState p k n0 i).2)
def thr : List Int := [6, 12, 30, 3]
def toldV (p : TP) (n : Int) : Int := n / 7 % thr.getD p.style.toNat 0
def toldO (p : TP) (n : Int) : Option Int := if decide (2 < toldV p n) = true then none else some (toldV p n * p.alone)
def rState (p : TP) (n0 : Int) : Nat → List Row × Int
  | 0 => ([], n0)
  | k + 1 =>
    ((rState p n0 k).1 ++ [(toldO p (nxt (wState p k (rState p n0 k).2 p.signs.length).2), (wState p k (rState p n0 k).2 p.signs.length).1)],
      nxt (wState p k (rState p n0 k).2 p.signs.length).2)
def tpMany (ns : List Int) : Int := if decide (cell ns 1 / 7 % 6 = 1) = true then 1 + cell ns 1 / 42 % 64 else 1 + cell ns 1 % 7
def tpSigns (ns : List Int) (ls : List (List Nat)) (most : Int) : List Nat := cutG (TL.joinL [] (cutG ls none (some (cell ns 2 % 5)))) none (some (if decide (7 < tpMany ns) = true then most else 40))
def tpOf (ns : List Int) (ls : List (List Nat)) (most : Int) : TP where
  many := tpMany ns
  signs := tpSigns ns ls most
  style := cell ns 2 / 5 % 4
  mst := tpMany ns + [0, 1, 1 + tpMany ns / 3].getD (cell ns 2 / 20 % 3).toNat 0
  alone := [0, 1, 7, 10 ^ 9].getD (cell ns 2 / 60 % 4).toNat 0
def tableBy (ns : List Int) (ls : List (List Nat)) (most : Int) : Tbl := ⟨tpSigns ns ls most, (rState (tpOf ns ls most) (cell ns 3 % 2147483647) (tpMany ns).toNat).1⟩
theorem tpMany_b (ns : List Int) : 1 ≤ tpMany ns ∧ tpMany ns ≤ 64 := by
  unfold tpMany
  have h0 := mod_lo (cell ns 1) (n := 7) (by decide)
  have h1 := mod_hi (cell ns 1) (n := 7) (by decide)
  have h2 := mod_lo (cell ns 1 / 42) (n := 64) (by decide)
  have h3 := mod_hi (cell ns 1 / 42) (n := 64) (by decide)
  split <;> omega
theorem cutG_len {α : Type} (xs : List α) (lo hi : Option Int) : (cutG xs lo hi).length ≤ xs.length := by
  unfold cutG
  rw [List.length_take, List.length_drop]
  omega
theorem cutG_mem {α : Type} {xs : List α} {lo hi : Option Int} {x : α} (h : x ∈ cutG xs lo hi) : x ∈ xs := List.mem_of_mem_drop (List.mem_of_mem_take h)
theorem cutG_map0 {α β : Type} (f : α → β) (xs : List α) (lo hi : Option Int) : cutG (xs.map f) lo hi = (cutG xs lo hi).map f := by
  unfold cutG
  rw [List.map_take, List.map_drop, List.length_map]
theorem cutG_to {α : Type} (xs : List α) {n : Int} (h : 0 ≤ n) : cutG xs none (some n) = xs.take n.toNat := by
  unfold cutG
  have e : n = (n.toNat : Int) := by omega
  rw [HT.sIx_none, e, HT.sIx_nat, Int.toNat_natCast, List.drop_zero, Nat.sub_zero]
  by_cases hl : n.toNat ≤ xs.length
  · rw [Nat.min_eq_left hl]
  · rw [Nat.min_eq_right (by omega), List.take_of_length_le (Nat.le_refl _), List.take_of_length_le (by omega)]
theorem cutG_to_len {α : Type} (xs : List α) {n : Int} (h : 0 ≤ n) : (cutG xs none (some n)).length ≤ n.toNat := by
  rw [cutG_to xs h, List.length_take]
  omega
theorem sum_le {b : Nat} : ∀ {xs : List Nat}, (∀ x ∈ xs, x ≤ b) → xs.sum ≤ xs.length * b
  | [], _ => Nat.zero_le _
  | x :: r, h => by
    have h1 := h x (by simp)
    have h2 := sum_le (xs := r) fun y hy => h y (by simp [hy])
    rw [List.sum_cons, List.length_cons, Nat.succ_mul]
    omega
theorem flat_len (xs : List (List Nat)) : xs.flatten.length = (xs.map (·.length)).sum := List.length_flatten
theorem joined {ls : List (List Nat)} (h : ∀ g ∈ ls, g.length ≤ 19) : (ls.map (·.length)).sum ≤ ls.length * 19 := by
  have := sum_le (b := 19) (xs := ls.map (·.length)) fun x hx => by
    obtain ⟨g, hg, rfl⟩ := List.mem_map.mp hx
    exact h g hg
  rwa [List.length_map] at this
theorem tpOf_ok {ns : List Int} {ls : List (List Nat)} {most : Int} (h : LetOk ls) (hm : 0 ≤ most ∧ most ≤ 40) : (tpOf ns ls most).Ok where
  m := tpMany_b ns
  s := by
    show (tpSigns ns ls most).length ≤ 100
    unfold tpSigns
    refine Nat.le_trans (cutG_to_len _ ?_) ?_
    · split <;> omega
    · split <;> omega
  lt := fun x hx => by
    have hx := cutG_mem hx
    rw [joinL_nil] at hx
    obtain ⟨g, hg, hxg⟩ := List.mem_flatten.mp hx
    exact h.lt g (cutG_mem hg) x hxg
  st := ⟨mod_lo _ (by decide), mod_hi _ (by decide)⟩
  mo := by
    show 1 ≤ tpMany ns + [0, 1, 1 + tpMany ns / 3].getD (cell ns 2 / 20 % 3).toNat 0 ∧ _
    have h0 := tpMany_b ns
    have hx : ∀ x ∈ ([0, 1, 1 + tpMany ns / 3] : List Int), 0 ≤ x ∧ x ≤ 100 := by
      intro x hx
      simp only [List.mem_cons, List.not_mem_nil, or_false] at hx
      rcases hx with rfl | rfl | rfl <;> omega
    have h1 := mod_lo (cell ns 2 / 20) (n := 3) (by decide)
    have h2 := mod_hi (cell ns 2 / 20) (n := 3) (by decide)
    have hl : (cell ns 2 / 20 % 3).toNat < ([0, 1, 1 + tpMany ns / 3] : List Int).length := by show _ < 3; omega
    have q : 0 ≤ ([0, 1, 1 + tpMany ns / 3] : List Int).getD (cell ns 2 / 20 % 3).toNat 0 ∧ ([0, 1, 1 + tpMany ns / 3] : List Int).getD (cell ns 2 / 20 % 3).toNat 0 ≤ 100 := by
      rw [List.getD_eq_getElem?_getD, List.getElem?_eq_getElem hl]
      exact hx _ (List.getElem_mem hl)
    show 1 ≤ tpMany ns + [0, 1, 1 + tpMany ns / 3].getD (cell ns 2 / 20 % 3).toNat 0 ∧ tpMany ns + [0, 1, 1 + tpMany ns / 3].getD (cell ns 2 / 20 % 3).toNat 0 ≤ 1000
    omega
  al := by
    have hx : ∀ x ∈ ([0, 1, 7, 10 ^ 9] : List Int), 0 ≤ x ∧ x ≤ 1000000000 := by decide
    have h1 := mod_lo (cell ns 2 / 60) (n := 4) (by decide)
    have h2 := mod_hi (cell ns 2 / 60) (n := 4) (by decide)
    have hl : (cell ns 2 / 60 % 4).toNat < ([0, 1, 7, 10 ^ 9] : List Int).length := by show _ < 4; omega
    show 0 ≤ ([0, 1, 7, 10 ^ 9] : List Int).getD (cell ns 2 / 60 % 4).toNat 0 ∧ ([0, 1, 7, 10 ^ 9] : List Int).getD (cell ns 2 / 60 % 4).toNat 0 ≤ 1000000000
    rw [List.getD_eq_getElem?_getD, List.getElem?_eq_getElem hl]
    exact hx _ (List.getElem_mem hl)
theorem w_len (p : TP) (k n0 : Int) : ∀ i, (wState p k n0 i).1.length = i
  | 0 => rfl
  | i + 1 => by
    show ((wState p k n0 i).1 ++ [_]).length = i + 1
    rw [List.length_append, w_len p k n0 i]
    rfl
theorem wayV_lo {p : TP} (h : p.Ok) {k n : Int} (hk : 0 ≤ k) (i : Nat) : 0 ≤ wayV p k n i := by
  unfold wayV
  split
  · omega
  · exact mod_lo _ (by have := h.mo; omega)
theorem w_ins {p : TP} (h : p.Ok) {k n0 : Int} (hk : 0 ≤ k) : ∀ i, ∀ n, some n ∈ (wState p k n0 i).1 → (n : Int) < p.many
  | 0, n, hn => by cases hn
  | i + 1, n, hn => by
    rcases List.mem_append.mp hn with q | q
    · exact w_ins h hk i n q
    · have e := List.mem_singleton.mp q
      unfold wayO at e
      have h0 := wayV_lo h (n := nxt (wState p k n0 i).2) hk i
      by_cases hw : p.many ≤ wayV p k (nxt (wState p k n0 i).2) i
      · rw [if_pos (decide_eq_true hw)] at e
        cases e
      · rw [if_neg (by rw [decide_eq_false hw]; exact Bool.false_ne_true)] at e
        have e := Option.some.inj e
        omega
theorem r_len (p : TP) (n0 : Int) : ∀ k, (rState p n0 k).1.length = k
  | 0 => rfl
  | k + 1 => by
    show ((rState p n0 k).1 ++ [_]).length = k + 1
    rw [List.length_append, r_len p n0 k]
    rfl
theorem r_rows {p : TP} (h : p.Ok) (n0 : Int) : ∀ k, ∀ r ∈ (rState p n0 k).1, r.2.length = p.signs.length ∧ ∀ n, some n ∈ r.2 → (n : Int) < p.many
  | 0, r, hr => by cases hr
  | k + 1, r, hr => by
    rcases List.mem_append.mp hr with q | q
    · exact r_rows h n0 k r q
    · rw [List.mem_singleton.mp q]
      exact ⟨w_len _ _ _ _, w_ins h (Int.natCast_nonneg k) _⟩
theorem tableBy_ok {ns : List Int} {ls : List (List Nat)} {most : Int} (h : LetOk ls) (hm : 0 ≤ most ∧ most ≤ 40) : (tableBy ns ls most).Ok := by
  have hp := tpOf_ok (ns := ns) h hm
  have hl : (tableBy ns ls most).rows.length = (tpMany ns).toNat := r_len _ _ _
  have hb := tpMany_b ns
  exact {
    pos := by rw [hl]; omega
    wid := fun r hr => (r_rows hp _ _ r hr).1
    ins := fun r hr n hn => by
      have := (r_rows hp _ _ r hr).2 n hn
      have e : (tpOf ns ls most).many = tpMany ns := rfl
      rw [hl]
      omega
    few := Nat.le_trans hp.s (by decide)
    many := by rw [hl]; omega
    lt := hp.lt }
/-- one of two, by a truth -/
theorem pick2 {x y : D} (b : Bool) : atI [x, y] (if b = true then 1 else 0) = some (if b = true then y else x) := by cases b <;> rfl
end Ab
namespace Ab
open PySem PySem.Spec PyProof.Rows L2
/-! ### the groups have no sign in common -/
theorem chunk_flat {α : Type} (l : List α) (m : Nat) : ∀ n, ((List.range n).map fun k => (l.drop (k * m)).take m).flatten = l.take (n * m)
  | 0 => by
    rw [Nat.zero_mul, List.take_zero]
    rfl
  | n + 1 => by
    rw [List.range_succ, List.map_append, List.flatten_append, chunk_flat l m n, Nat.succ_mul, List.take_add]
    simp
theorem abc_nodup : abc.Nodup := by decide +kernel
theorem abc_inj {i j : Nat} (hi : i < 96) (hj : j < 96) (h : abc.getD i 0 = abc.getD j 0) : i = j := by
  have h1 : i < abc.length := by rw [abc_len]; exact hi
  have h2 : j < abc.length := by rw [abc_len]; exact hj
  rw [List.getD_eq_getElem?_getD, List.getD_eq_getElem?_getD, List.getElem?_eq_getElem h1, List.getElem?_eq_getElem h2] at h
  have h : abc[i] = abc[j] := h
  rcases Nat.lt_trichotomy i j with z | z | z
  · exact absurd h (List.pairwise_iff_getElem.mp abc_nodup i j h1 h2 z)
  · exact z
  · exact absurd h.symm (List.pairwise_iff_getElem.mp abc_nodup j i h2 h1 z)
theorem sgn_inj {a b : Int} (h : sgn a = sgn b) : a % 96 = b % 96 := by
  have h1 := mod_lo a (n := 96) (by decide)
  have h2 := mod_hi a (n := 96) (by decide)
  have h3 := mod_lo b (n := 96) (by decide)
  have h4 := mod_hi b (n := 96) (by decide)
  have := abc_inj (i := (a % 96).toNat) (j := (b % 96).toNat) (by omega) (by omega) h
  omega
theorem gap_cases (c : Int) : gap c = 1 ∨ gap c = 5 ∨ gap c = 7 ∨ gap c = 11 ∨ gap c = 13 ∨ gap c = 17 ∨ gap c = 19 ∨ gap c = 23 := by
  unfold gap
  have h1 := mod_lo (c / 96) (n := 8) (by decide)
  have h2 := mod_hi (c / 96) (n := 8) (by decide)
  have : ∀ i, i < 8 → (gaps.getD i 0 = 1 ∨ gaps.getD i 0 = 5 ∨ gaps.getD i 0 = 7 ∨ gaps.getD i 0 = 11 ∨ gaps.getD i 0 = 13 ∨ gaps.getD i 0 = 17 ∨ gaps.getD i 0 = 19 ∨ gaps.getD i 0 = 23) := by decide
  exact this _ (by omega)
theorem lsigns_nodup (c : Int) : (lsigns c).Nodup := by
  unfold lsigns
  have hs := gsize_b c
  refine List.pairwise_map.mpr (List.Pairwise.imp_of_mem ?_ (List.pairwise_lt_range (n := (5 * gsize c).toNat)))
  intro i j hi hj hij e
  have hi := List.mem_range.mp hi
  have hj := List.mem_range.mp hj
  have := sgn_inj e
  rcases gap_cases c with g | g | g | g | g | g | g | g <;> rw [g] at this <;> omega
/-- the groups, each sign once -/
structure LetU (ls : List (List Nat)) : Prop where
  ok : LetOk ls
  nd : ls.flatten.Nodup
theorem letters_flat (c : Int) : (letters c).flatten = lsigns c := by
  have hs := gsize_b c
  have h := chunk_flat (lsigns c) (gsize c).toNat 5
  have hl := lsigns_len c
  rw [List.take_of_length_le (by rw [hl]; omega)] at h
  exact h
theorem letters_u (c : Int) : LetU (letters c) := ⟨letters_ok c, by rw [letters_flat]; exact lsigns_nodup c⟩
theorem flat_take {α : Type} {l : List (List α)} {i : Nat} {g : List α} (h : l[i]? = some g) : (l.take (i + 1)).flatten = (l.take i).flatten ++ g := by
  rw [List.take_add_one, h, List.flatten_append]
  simp
theorem LetU.tk {ls : List (List Nat)} (h : LetU ls) (i : Nat) : (ls.take i).flatten.Nodup := by
  have e := congrArg List.flatten (List.take_append_drop i ls)
  rw [List.flatten_append] at e
  have := h.nd
  rw [← e] at this
  exact (List.nodup_append.mp this).1
theorem LetU.take {ls : List (List Nat)} (h : LetU ls) {n : Nat} (hn : 1 ≤ n) : LetU (ls.take n) := ⟨h.ok.take hn, h.tk n⟩
/-! ### some of the groups -/
def someSt (ls : List (List Nat)) (m : Int) : Nat → List Nat × Int
  | 0 => ([], m)
  | i + 1 => (if decide ((someSt ls m i).2 % 2 = 1) = true then ls.getD i [] ++ (someSt ls m i).1 else (someSt ls m i).1, (someSt ls m i).2 / 2)
def someOf (ls : List (List Nat)) (m : Int) : List Nat := (someSt ls m 4).1
theorem someSt_sub (ls : List (List Nat)) (m : Int) : ∀ i, i ≤ ls.length → ∀ x ∈ (someSt ls m i).1, x ∈ (ls.take i).flatten
  | 0, _, x, hx => by cases hx
  | i + 1, hi, x, hx => by
    have hg : ls[i]? = some (ls.getD i []) := by rw [List.getD_eq_getElem?_getD, List.getElem?_eq_getElem (by omega)]; rfl
    rw [flat_take hg]
    have hx : x ∈ (if decide ((someSt ls m i).2 % 2 = 1) = true then ls.getD i [] ++ (someSt ls m i).1 else (someSt ls m i).1) := hx
    split at hx
    · rcases List.mem_append.mp hx with q | q
      · exact List.mem_append_right _ q
      · exact List.mem_append_left _ (someSt_sub ls m i (by omega) x q)
    · exact List.mem_append_left _ (someSt_sub ls m i (by omega) x hx)
theorem someSt_nd {ls : List (List Nat)} (h : LetU ls) (m : Int) : ∀ i, i ≤ ls.length → (someSt ls m i).1.Nodup
  | 0, _ => List.nodup_nil
  | i + 1, hi => by
    have hg : ls[i]? = some (ls.getD i []) := by rw [List.getD_eq_getElem?_getD, List.getElem?_eq_getElem (by omega)]; rfl
    have hn := h.tk (i + 1)
    rw [flat_take hg] at hn
    obtain ⟨_, h2, h3⟩ := List.nodup_append.mp hn
    show (if decide ((someSt ls m i).2 % 2 = 1) = true then ls.getD i [] ++ (someSt ls m i).1 else (someSt ls m i).1).Nodup
    split
    · refine List.nodup_append.mpr ⟨h2, someSt_nd h m i (by omega), fun a ha b hb e => ?_⟩
      exact h3 b (someSt_sub ls m i (by omega) b hb) a ha e.symm
    · exact someSt_nd h m i (by omega)
theorem someSt_len {ls : List (List Nat)} (h : LetOk ls) (m : Int) : ∀ i, i ≤ ls.length → (someSt ls m i).1.length ≤ i * 19
  | 0, _ => Nat.zero_le _
  | i + 1, hi => by
    have ih := someSt_len h m i (by omega)
    have hg : ls.getD i [] ∈ ls := by
      rw [List.getD_eq_getElem?_getD, List.getElem?_eq_getElem (by omega)]
      exact List.getElem_mem _
    have h2 := (h.it _ hg).2
    show (if decide ((someSt ls m i).2 % 2 = 1) = true then ls.getD i [] ++ (someSt ls m i).1 else (someSt ls m i).1).length ≤ (i + 1) * 19
    split
    · rw [List.length_append]
      omega
    · omega
theorem someSt_lt {ls : List (List Nat)} (h : LetOk ls) (m : Int) {i : Nat} (hi : i ≤ ls.length) : ∀ x ∈ (someSt ls m i).1, x < 128 := fun x hx => by
  obtain ⟨g, hg, hx⟩ := List.mem_flatten.mp (someSt_sub ls m i hi x hx)
  exact h.lt g (List.mem_of_mem_take hg) x hx
structure SomeOk (s : List Nat) : Prop where
  ne : s ≠ []
  nd : s.Nodup
  len : s.length ≤ 76
  lt : ∀ x ∈ s, x < 128
theorem someOf_ne {ls : List (List Nat)} (h : LetOk ls) (hl : 4 ≤ ls.length) {m : Int} (h1 : 1 ≤ m) (h2 : m ≤ 15) : someOf ls m ≠ [] := by
  have ne : ∀ i, i < 4 → ls.getD i [] ≠ [] := fun i hi e => by
    have hg : ls.getD i [] ∈ ls := by
      rw [List.getD_eq_getElem?_getD, List.getElem?_eq_getElem (by omega)]
      exact List.getElem_mem _
    have := (h.it _ hg).1
    rw [e] at this
    exact absurd this (by decide)
  have st : ∀ i, i < 4 → (someSt ls m (i + 1)).1 = [] → (someSt ls m i).1 = [] ∧ ¬ (someSt ls m i).2 % 2 = 1 := fun i hi e => by
    have e : (if decide ((someSt ls m i).2 % 2 = 1) = true then ls.getD i [] ++ (someSt ls m i).1 else (someSt ls m i).1) = [] := e
    split at e
    · exact absurd (List.append_eq_nil_iff.mp e).1 (ne i hi)
    · rename_i z
      exact ⟨e, fun w => z (decide_eq_true w)⟩
  intro e
  obtain ⟨e3, q3⟩ := st 3 (by decide) e
  obtain ⟨e2, q2⟩ := st 2 (by decide) e3
  obtain ⟨e1, q1⟩ := st 1 (by decide) e2
  obtain ⟨e0, q0⟩ := st 0 (by decide) e1
  have q0 : ¬ m % 2 = 1 := q0
  have q1 : ¬ m / 2 % 2 = 1 := q1
  have q2 : ¬ m / 2 / 2 % 2 = 1 := q2
  have q3 : ¬ m / 2 / 2 / 2 % 2 = 1 := q3
  omega
theorem someOf_ok {ls : List (List Nat)} (h : LetU ls) (hl : 4 ≤ ls.length) {m : Int} (h1 : 1 ≤ m) (h2 : m ≤ 15) : SomeOk (someOf ls m) := ⟨someOf_ne h.ok hl h1 h2, someSt_nd h m 4 hl, someSt_len h.ok m 4 hl, someSt_lt h.ok m hl⟩
end Ab
namespace Ab
open PySem PySem.Spec PyProof.Rows L2
/-! ### sets of leaves as numbers -/
/-- the place of the lowest bit -/
def ctz (n : Nat) : Nat := if h : n = 0 then 0 else if n % 2 = 1 then 0 else ctz (n / 2) + 1
termination_by n
decreasing_by omega
theorem ctz_odd {n : Nat} (h : n % 2 = 1) : ctz n = 0 := by
  rw [ctz]
  split
  · rfl
  · rfl
theorem ctz_even {n : Nat} (h0 : n ≠ 0) (h : n % 2 = 0) : ctz n = ctz (n / 2) + 1 := by
  rw [ctz, dif_neg h0, if_neg (by omega)]
/-- the places of the bits, the lowest first -/
def bitsB (n off : Nat) : List Nat := if h : n = 0 then [] else (if n % 2 = 1 then [off] else []) ++ bitsB (n / 2) (off + 1)
termination_by n
decreasing_by omega
theorem bitsB_zero (off : Nat) : bitsB 0 off = [] := by rw [bitsB, dif_pos rfl]
theorem bitsB_odd {n : Nat} (h : n % 2 = 1) (off : Nat) : bitsB n off = off :: bitsB (n / 2) (off + 1) := by
  rw [bitsB, dif_neg (by omega), if_pos h]
  rfl
theorem bitsB_even {n : Nat} (h : n % 2 = 0) (off : Nat) : bitsB n off = bitsB (n / 2) (off + 1) := by
  by_cases h0 : n = 0
  · subst h0
    rw [bitsB_zero, bitsB_zero]
  · rw [bitsB, dif_neg h0, if_neg (by omega)]
    rfl
theorem low_le : ∀ n : Nat, n ≠ 0 → 2 ^ ctz n ≤ n ∧ 2 ^ ctz n ≠ 0 := fun n => by
  induction n using Nat.strongRecOn with
  | ind n ih =>
    intro h0
    by_cases h : n % 2 = 1
    · rw [ctz_odd h]
      exact ⟨by omega, by decide⟩
    · have h : n % 2 = 0 := by omega
      rw [ctz_even h0 h, Nat.pow_succ]
      have := ih (n / 2) (by omega) (by omega)
      omega
theorem bitsB_low : ∀ (n off : Nat), n ≠ 0 → bitsB n off = (off + ctz n) :: bitsB (n - 2 ^ ctz n) off := fun n => by
  induction n using Nat.strongRecOn with
  | ind n ih =>
    intro off h0
    by_cases h : n % 2 = 1
    · rw [ctz_odd h, bitsB_odd h]
      show off :: _ = (off + 0) :: bitsB (n - 1) off
      rw [bitsB_even (by omega : (n - 1) % 2 = 0), show (n - 1) / 2 = n / 2 by omega]
      rfl
    · have h : n % 2 = 0 := by omega
      have hl := low_le (n / 2) (by omega)
      rw [bitsB_even h, ih (n / 2) (by omega) (off + 1) (by omega), ctz_even h0 h, Nat.pow_succ, bitsB_even (by omega : (n - 2 ^ ctz (n / 2) * 2) % 2 = 0)]
      rw [show (n - 2 ^ ctz (n / 2) * 2) / 2 = n / 2 - 2 ^ ctz (n / 2) by omega, show off + 1 + ctz (n / 2) = off + (ctz (n / 2) + 1) by omega]
theorem bitsB_mem : ∀ (n off i : Nat), i ∈ bitsB n off ↔ off ≤ i ∧ n.testBit (i - off) = true := fun n => by
  induction n using Nat.strongRecOn with
  | ind n ih =>
    intro off i
    by_cases h0 : n = 0
    · subst h0
      rw [bitsB_zero]
      simp
    · have key : i ∈ bitsB (n / 2) (off + 1) ↔ off + 1 ≤ i ∧ n.testBit (i - off) = true := by
        rw [ih (n / 2) (by omega)]
        constructor
        · rintro ⟨h1, h2⟩
          refine ⟨h1, ?_⟩
          rw [show i - off = (i - (off + 1)) + 1 by omega, Nat.testBit_succ]
          exact h2
        · rintro ⟨h1, h2⟩
          refine ⟨h1, ?_⟩
          rw [show i - off = (i - (off + 1)) + 1 by omega, Nat.testBit_succ] at h2
          exact h2
      by_cases h : n % 2 = 1
      · rw [bitsB_odd h, List.mem_cons, key]
        constructor
        · rintro (rfl | ⟨h1, h2⟩)
          · refine ⟨Nat.le_refl _, ?_⟩
            rw [Nat.sub_self, Nat.testBit_zero, decide_eq_true h]
          · exact ⟨by omega, h2⟩
        · rintro ⟨h1, h2⟩
          by_cases e : i = off
          · exact .inl e
          · exact .inr ⟨by omega, h2⟩
      · have h : n % 2 = 0 := by omega
        rw [bitsB_even h, key]
        constructor
        · rintro ⟨h1, h2⟩
          exact ⟨by omega, h2⟩
        · rintro ⟨h1, h2⟩
          by_cases e : i = off
          · subst e
            rw [Nat.sub_self, Nat.testBit_zero] at h2
            have := of_decide_eq_true h2
            omega
          · exact ⟨by omega, h2⟩
def bitsOf (n : Nat) : List Nat := bitsB n 0
theorem bitsOf_mem {n i : Nat} : i ∈ bitsOf n ↔ n.testBit i = true := by
  unfold bitsOf
  rw [bitsB_mem]
  simp
theorem bitsOf_low {n : Nat} (h : n ≠ 0) : bitsOf n = ctz n :: bitsOf (n - 2 ^ ctz n) := by
  unfold bitsOf
  rw [bitsB_low n 0 h, Nat.zero_add]
/-- n & (n - 1) -/
theorem and_pred : ∀ n : Nat, n ≠ 0 → n &&& (n - 1) = n - 2 ^ ctz n := fun n => by
  induction n using Nat.strongRecOn with
  | ind n ih =>
    intro h0
    have e2 := Nat.and_div_two (a := n) (b := n - 1)
    have e1 := Nat.and_mod_two_eq_one (a := n) (b := n - 1)
    by_cases h : n % 2 = 1
    · rw [ctz_odd h]
      have e3 : (n - 1) / 2 = n / 2 := by omega
      rw [e3, Nat.and_self] at e2
      have e4 : ¬ (n &&& (n - 1)) % 2 = 1 := fun z => by
        have := (e1.mp z).2
        omega
      show n &&& (n - 1) = n - 1
      omega
    · have h : n % 2 = 0 := by omega
      have hl := low_le (n / 2) (by omega)
      have e3 : (n - 1) / 2 = n / 2 - 1 := by omega
      rw [e3, ih (n / 2) (by omega) (by omega)] at e2
      have e4 : ¬ (n &&& (n - 1)) % 2 = 1 := fun z => by
        have := (e1.mp z).1
        omega
      rw [ctz_even h0 h, Nat.pow_succ]
      omega
/-- n & -n, as the model says -/
theorem low_bit {n : Nat} (h : n ≠ 0) : Builtin.bitAnd (n : Int) (-(n : Int)) = ((2 ^ ctz n : Nat) : Int) := by
  have h1 : decide ((0 : Int) ≤ (n : Int)) = true := decide_eq_true (by omega)
  have h2 : decide ((0 : Int) ≤ -(n : Int)) = false := decide_eq_false (by omega)
  unfold Builtin.bitAnd
  rw [h1, h2]
  show (n : Int) - (((n : Int).toNat &&& (Builtin.bitNot (-(n : Int))).toNat : Nat) : Int) = _
  have e : (Builtin.bitNot (-(n : Int))).toNat = n - 1 := by
    unfold Builtin.bitNot
    omega
  rw [e, Int.toNat_natCast, and_pred n h]
  have := low_le n h
  omega
theorem and_low {n : Nat} (h : n ≠ 0) : n &&& 2 ^ ctz n = 2 ^ ctz n ∧ n ||| 2 ^ ctz n = n := by
  have hb : n.testBit (ctz n) = true := by
    rw [← bitsOf_mem, bitsOf_low h]
    exact List.mem_cons_self
  refine ⟨Nat.eq_of_testBit_eq fun i => ?_, Nat.eq_of_testBit_eq fun i => ?_⟩
  · rw [Nat.testBit_and, Nat.testBit_two_pow]
    by_cases e : ctz n = i
    · subst e
      rw [hb]
      rfl
    · rw [decide_eq_false e, Bool.and_false]
  · rw [Nat.testBit_or, Nat.testBit_two_pow]
    by_cases e : ctz n = i
    · subst e
      rw [hb]
      rfl
    · rw [decide_eq_false e, Bool.or_false]
theorem bitAnd_nat (a b : Nat) : Builtin.bitAnd (a : Int) (b : Int) = ((a &&& b : Nat) : Int) := by
  unfold Builtin.bitAnd
  rw [decide_eq_true (by omega : (0 : Int) ≤ (a : Int)), decide_eq_true (by omega : (0 : Int) ≤ (b : Int))]
  rfl
theorem bitOr_nat (a b : Nat) : Builtin.bitOr (a : Int) (b : Int) = ((a ||| b : Nat) : Int) := by
  rw [bitOr_nn (Int.natCast_nonneg _) (Int.natCast_nonneg _), Int.toNat_natCast, Int.toNat_natCast]
/-- n ^ its lowest bit -/
theorem xor_low {n : Nat} (h : n ≠ 0) : Builtin.bitXor (n : Int) ((2 ^ ctz n : Nat) : Int) = ((n - 2 ^ ctz n : Nat) : Int) := by
  unfold Builtin.bitXor
  rw [bitOr_nat, bitAnd_nat, (and_low h).1, (and_low h).2]
  have := low_le n h
  omega
theorem log_low (n : Nat) : (Builtin.Int.intBits ((2 ^ ctz n : Nat) : Int) : Nat) = ctz n + 1 := by
  unfold Builtin.Int.intBits
  have hp : 2 ^ ctz n ≠ 0 := by
    have := Nat.two_pow_pos (ctz n)
    omega
  have hq : ¬ ((((2 ^ ctz n : Nat) : Int) == 0) = true) := fun z => hp (by have := of_decide_eq_true z; omega)
  first
  | rw [if_neg hq, Int.natAbs_natCast, Nat.log2_two_pow]
  | rw [if_neg (by simpa using hp), Int.natAbs_natCast, Nat.log2_two_pow]

/-! ### patterns -/
inductive Pat where
  | one (s : List Nat)
  | row (ps : List Pat)
  | or (ps : List Pat)
  | many (p : Pat)
  | maybe (p : Pat)
def kOne : List Nat := [111, 110, 101]
def kRow : List Nat := [114, 111, 119]
def kOr : List Nat := [111, 114]
def kMany : List Nat := [109, 97, 110, 121]
def kMaybe : List Nat := [109, 97, 121, 98, 101]
mutual
def patD : Pat → D
  | .one s => .tup [.str kOne, .str s]
  | .row ps => .tup [.str kRow, .lst (patsD ps)]
  | .or ps => .tup [.str kOr, .lst (patsD ps)]
  | .many p => .tup [.str kMany, patD p]
  | .maybe p => .tup [.str kMaybe, patD p]
def patsD : List Pat → List D
  | [] => []
  | p :: r => patD p :: patsD r
end
theorem patsD_map : ∀ ps : List Pat, patsD ps = ps.map patD
  | [] => rfl
  | p :: r => by
    show patD p :: patsD r = _
    rw [patsD_map r]
    rfl
/-! ### the leaves, as the program numbers and links them -/
structure LV where
  signs : List (List Nat)
  after : List Nat
  having : List (Nat × Nat)
  ends : List Nat
def LV.new : LV := ⟨[[]], [0], [], []⟩
def hfind (h : List (Nat × Nat)) (c : Nat) : Option Nat := (h.find? fun p => decide (p.1 = c)).map (·.2)
def hget (h : List (Nat × Nat)) (c : Nat) : Nat := (hfind h c).getD 0
def hput (h : List (Nat × Nat)) (c m : Nat) : List (Nat × Nat) := if (h.any fun p => decide (p.1 = c)) = true then h.map (fun p => if p.1 = c then (p.1, m) else p) else h ++ [(c, m)]
def natD (n : Nat) : D := .int (n : Nat)
def natsD (ns : List Nat) : D := .lst (ns.map natD)
def hvD (p : Nat × Nat) : Key × D := (.inr (sOf [p.1]), natD p.2)
theorem key_eq (a c : Nat) : decide ((Sum.inr (sOf [a]) : Key) = Sum.inr (sOf [c])) = decide (a = c) := by
  rw [decide_eq_decide]
  constructor
  · intro h
    have := sOf_inj (Sum.inr.inj h)
    exact (List.cons.inj this).1
  · intro h
    rw [h]
theorem val_hv (h : List (Nat × Nat)) (c : Nat) : valD (h.map hvD) (.inr (sOf [c])) = (hfind h c).map natD := by
  unfold valD hfind
  induction h with
  | nil => rfl
  | cons p r ih =>
    rw [List.map_cons, List.find?_cons, List.find?_cons]
    have : decide ((hvD p).1 = (Sum.inr (sOf [c]) : Key)) = decide (p.1 = c) := key_eq _ _
    rw [this]
    cases decide (p.1 = c) with
    | true => rfl
    | false => exact ih
theorem any_hv (h : List (Nat × Nat)) (c : Nat) : ((h.map hvD).any fun kv => decide (kv.1 = (Sum.inr (sOf [c]) : Key))) = h.any fun p => decide (p.1 = c) := by
  induction h with
  | nil => rfl
  | cons p r ih =>
    rw [List.map_cons, List.any_cons, List.any_cons, ih]
    have : decide ((hvD p).1 = (Sum.inr (sOf [c]) : Key)) = decide (p.1 = c) := key_eq _ _
    rw [this]
theorem put_hv (h : List (Nat × Nat)) (c m : Nat) : putD (h.map hvD) (.inr (sOf [c])) (natD m) = (hput h c m).map hvD := by
  unfold putD hput
  rw [any_hv]
  by_cases z : (h.any fun p => decide (p.1 = c)) = true
  · rw [if_pos z, if_pos z, List.map_map, List.map_map]
    refine List.map_congr_left fun p _ => ?_
    show (if (hvD p).1 = (Sum.inr (sOf [c]) : Key) then ((hvD p).1, natD m) else hvD p) = hvD (if p.1 = c then (p.1, m) else p)
    by_cases e : p.1 = c
    · rw [if_pos e, if_pos (by show (Sum.inr (sOf [p.1]) : Key) = _; rw [e])]
      rfl
    · rw [if_neg e, if_neg fun q => e (by have h := key_eq p.1 c; have q' : (Sum.inr (sOf [p.1]) : Key) = Sum.inr (sOf [c]) := q; rw [decide_eq_true q'] at h; exact of_decide_eq_true h.symm)]
  · rw [if_neg z, if_neg z, List.map_append]
    rfl
theorem hget_val (h : List (Nat × Nat)) (c : Nat) : (valD (h.map hvD) (.inr (sOf [c]))).getD (.int 0) = natD (hget h c) := by
  rw [val_hv]
  unfold hget
  cases hfind h c <;> rfl
/-- one more leaf -/
def hadd (m : Nat) (h : List (Nat × Nat)) (s : List Nat) : List (Nat × Nat) := s.foldl (fun h c => hput h c (hget h c ||| m)) h
def newLeaf (L : LV) (s : List Nat) : LV := { L with signs := L.signs ++ [s], after := L.after ++ [0], having := hadd (2 ^ L.signs.length) L.having s }
/-- each leaf of f may follow each of l -/
def linkL (af : List Nat) (bs : List Nat) (f : Nat) : List Nat := bs.foldl (fun a i => a.set i (a.getD i 0 ||| f)) af
def link (L : LV) (l f : Nat) : LV := { L with after := linkL L.after (bitsOf l) f }
structure Sh where
  e : Bool
  f : Nat
  l : Nat
/-- the links of a row -/
def rowGo : LV → Sh → List Sh → LV × Sh
  | L, s, [] => (L, s)
  | L, s, p :: r => rowGo (link L s.l p.f) ⟨s.e && p.e, if s.e = true then s.f ||| p.f else s.f, (if p.e = true then s.l else 0) ||| p.l⟩ r
def orGo : Sh → List Sh → Sh
  | s, [] => s
  | s, p :: r => orGo ⟨s.e || p.e, s.f ||| p.f, s.l ||| p.l⟩ r
mutual
def shape : Pat → LV → LV × Sh
  | .one s, L => (newLeaf L s, ⟨false, 2 ^ L.signs.length, 2 ^ L.signs.length⟩)
  | .row ps, L => rowGo (shapes ps L).1 ⟨true, 0, 0⟩ (shapes ps L).2
  | .or ps, L => ((shapes ps L).1, orGo ⟨false, 0, 0⟩ (shapes ps L).2)
  | .many p, L => (link (shape p L).1 (shape p L).2.l (shape p L).2.f, ⟨true, (shape p L).2.f, (shape p L).2.l⟩)
  | .maybe p, L => ((shape p L).1, ⟨true, (shape p L).2.f, (shape p L).2.l⟩)
def shapes : List Pat → LV → LV × List Sh
  | [], L => (L, [])
  | p :: r, L => ((shapes r (shape p L).1).1, (shape p L).2 :: (shapes r (shape p L).1).2)
end
/-- the leaves of a list of patterns -/
def leavesGo : List Pat → LV → LV
  | [], L => L
  | p :: r, L => leavesGo r { link (shape p L).1 1 (shape p L).2.f with ends := (shape p L).1.ends ++ [if (shape p L).2.e = true then (shape p L).2.l ||| 1 else (shape p L).2.l] }
def leavesOf (ps : List Pat) : LV := leavesGo ps LV.new
/-- one more sign -/
def follow (af : List Nat) (bs : List Nat) : Nat := bs.foldl (fun r i => r ||| af.getD i 0) 0
def stepL (L : LV) (here c : Nat) : Nat := follow L.after (bitsOf here) &&& hget L.having c
def runL (L : LV) (s : List Nat) : Nat := s.foldl (stepL L) 1
def toldL (L : LV) (here : Nat) : Option Nat := L.ends.findIdx? fun m => decide (m &&& here ≠ 0)
end Ab
namespace Ab
open PySem PySem.Spec PyProof.Rows L2
/-! ### lists of bits -/
theorem bitsB_len : ∀ (k n off : Nat), n < 2 ^ k → (bitsB n off).length ≤ k := fun k => by
  induction k with
  | zero =>
    intro n off h
    have : n = 0 := by omega
    subst this
    rw [bitsB_zero]
    exact Nat.le_refl _
  | succ k ih =>
    intro n off h
    have h2 : n / 2 < 2 ^ k := by rw [Nat.pow_succ] at h; omega
    by_cases p : n % 2 = 1
    · rw [bitsB_odd p]
      have := ih (n / 2) (off + 1) h2
      show (bitsB (n / 2) (off + 1)).length + 1 ≤ k + 1
      omega
    · rw [bitsB_even (by omega)]
      have := ih (n / 2) (off + 1) h2
      omega
theorem bitsOf_len {k n : Nat} (h : n < 2 ^ k) : (bitsOf n).length ≤ k := bitsB_len k n 0 h
theorem bitsOf_lt {k n q : Nat} (h : n < 2 ^ k) (hq : q ∈ bitsOf n) : q < k := by
  rcases Nat.lt_or_ge q k with z | z
  · exact z
  · have := Nat.testBit_lt_two_pow (Nat.lt_of_lt_of_le h (Nat.pow_le_pow_right (by decide) z))
    rw [bitsOf_mem.mp hq] at this
    cases this
theorem bitsOf_zero : bitsOf 0 = [] := bitsB_zero 0
/-! ### patterns: how many leaves, how deep, well made -/
mutual
def nl : Pat → Nat
  | .one _ => 1
  | .row ps => nls ps
  | .or ps => nls ps
  | .many p => nl p
  | .maybe p => nl p
def nls : List Pat → Nat
  | [] => 0
  | p :: r => nl p + nls r
end
mutual
def dep : Pat → Nat
  | .one _ => 1
  | .row ps => deps ps + 1
  | .or ps => deps ps + 1
  | .many p => dep p + 1
  | .maybe p => dep p + 1
def deps : List Pat → Nat
  | [] => 0
  | p :: r => max (dep p) (deps r)
end
mutual
def Wf : Pat → Prop
  | .one s => s ≠ [] ∧ s.Nodup ∧ s.length ≤ 1000 ∧ ∀ x ∈ s, x < 128
  | .row ps => Wfs ps ∧ ps.length ≤ 1000
  | .or ps => Wfs ps ∧ ps.length ≤ 1000 ∧ ps ≠ []
  | .many p => Wf p
  | .maybe p => Wf p
def Wfs : List Pat → Prop
  | [] => True
  | p :: r => Wf p ∧ Wfs r
end
theorem wfs_mem : ∀ {ps : List Pat}, Wfs ps ↔ ∀ p ∈ ps, Wf p
  | [] => ⟨fun _ _ h => (by cases h), fun _ => trivial⟩
  | p :: r => by
    constructor
    · rintro ⟨h1, h2⟩ q hq
      rcases List.mem_cons.mp hq with rfl | hq
      · exact h1
      · exact wfs_mem.mp h2 q hq
    · intro h
      exact ⟨h p List.mem_cons_self, wfs_mem.mpr fun q hq => h q (List.mem_cons_of_mem _ hq)⟩
theorem deps_le {d : Nat} : ∀ {ps : List Pat}, deps ps ≤ d ↔ ∀ p ∈ ps, dep p ≤ d
  | [] => ⟨fun _ _ h => (by cases h), fun _ => Nat.zero_le _⟩
  | p :: r => by
    have ih := deps_le (d := d) (ps := r)
    show max (dep p) (deps r) ≤ d ↔ _
    constructor
    · intro h q hq
      rcases List.mem_cons.mp hq with rfl | hq
      · omega
      · exact ih.mp (by omega) q hq
    · intro h
      have h1 := h p List.mem_cons_self
      have h2 := ih.mpr fun q hq => h q (List.mem_cons_of_mem _ hq)
      omega
theorem nls_app : ∀ (a b : List Pat), nls (a ++ b) = nls a + nls b
  | [], b => (Nat.zero_add _).symm
  | p :: r, b => by
    show nl p + nls (r ++ b) = nl p + nls r + nls b
    rw [nls_app r b]
    omega
theorem nls_mem {p : Pat} : ∀ {ps : List Pat}, p ∈ ps → nl p ≤ nls ps
  | q :: r, h => by
    show nl p ≤ nl q + nls r
    rcases List.mem_cons.mp h with rfl | h
    · omega
    · have := nls_mem h
      omega
theorem dep_pos (p : Pat) : 1 ≤ dep p := by
  cases p <;> simp [dep]
theorem Good.mono {n m : Nat} {d : D} (h : Good n d) (l : n ≤ m) : Good m d := ⟨h.lay, Nat.le_trans h.dep l⟩
theorem kind_lt : (∀ x ∈ kOne, x < 128) ∧ (∀ x ∈ kRow, x < 128) ∧ (∀ x ∈ kOr, x < 128) ∧ (∀ x ∈ kMany, x < 128) ∧ ∀ x ∈ kMaybe, x < 128 := by decide +kernel
mutual
theorem patD_good : ∀ {p : Pat}, Wf p → Good (2 * dep p) (patD p)
  | .one s, h => Good.mono (Good.tup (n := 0) (Good.two (Good.str kind_lt.1) (Good.str h.2.2.2))) (by show 1 ≤ 2 * 1; omega)
  | .row ps, h => Good.mono (Good.tup (n := 2 * deps ps + 1) (Good.two (Good.str kind_lt.2.1) (Good.lst (patsD_good h.1)))) (by show _ ≤ 2 * (deps ps + 1); omega)
  | .or ps, h => Good.mono (Good.tup (n := 2 * deps ps + 1) (Good.two (Good.str kind_lt.2.2.1) (Good.lst (patsD_good h.1)))) (by show _ ≤ 2 * (deps ps + 1); omega)
  | .many p, h => Good.mono (Good.tup (n := 2 * dep p) (Good.two (Good.str kind_lt.2.2.2.1) (patD_good (p := p) h))) (by show _ ≤ 2 * (dep p + 1); omega)
  | .maybe p, h => Good.mono (Good.tup (n := 2 * dep p) (Good.two (Good.str kind_lt.2.2.2.2) (patD_good (p := p) h))) (by show _ ≤ 2 * (dep p + 1); omega)
theorem patsD_good : ∀ {ps : List Pat}, Wfs ps → ∀ d ∈ patsD ps, Good (2 * deps ps) d
  | [], _, d, h => by cases h
  | p :: r, h, d, hd => by
    have hm : 2 * deps (p :: r) = 2 * max (dep p) (deps r) := rfl
    rcases List.mem_cons.mp hd with rfl | hd
    · exact (patD_good h.1).mono (by omega)
    · exact (patsD_good h.2 d hd).mono (by omega)
end
theorem patD_ok {p : Pat} (h : Wf p) (hd : dep p ≤ 31) : okD (patD p) := (patD_good h).ok (by omega)
/-! ### a dict of sets by signs -/
theorem hfind_put (h : List (Nat × Nat)) (c m c' : Nat) : hfind (hput h c m) c' = if c' = c then some m else hfind h c' := by
  unfold hput hfind
  by_cases z : (h.any fun p => decide (p.1 = c)) = true
  · rw [if_pos z]
    induction h with
    | nil => cases z
    | cons p r ih =>
      rw [List.map_cons, List.find?_cons, List.find?_cons]
      by_cases e : p.1 = c
      · rw [if_pos e]
        by_cases e2 : c' = c
        · subst e2
          rw [if_pos rfl]
          show (match decide (p.1 = c') with | true => some (p.1, m) | false => _).map _ = some m
          rw [decide_eq_true e]
          rfl
        · rw [if_neg e2]
          have h2 : decide (p.1 = c') = false := decide_eq_false (fun q => e2 (by rw [← q, e]))
          show (match decide (p.1 = c') with | true => some (p.1, m) | false => _).map _ = (match decide (p.1 = c') with | true => some p | false => _).map _
          rw [h2]
          by_cases z2 : (r.any fun p => decide (p.1 = c)) = true
          · have := ih z2
            rw [if_neg e2] at this
            exact this
          · have : (List.map (fun p => if p.1 = c then (p.1, m) else p) r) = r := by
              refine (List.map_congr_left fun q hq => ?_).trans (List.map_id r)
              rw [if_neg fun w => z2 (List.any_eq_true.mpr ⟨q, hq, decide_eq_true w⟩)]
              rfl
            show ((List.map (fun p => if p.1 = c then (p.1, m) else p) r).find? _).map _ = (r.find? _).map _
            rw [this]
      · rw [if_neg e]
        have z2 : (r.any fun p => decide (p.1 = c)) = true := by
          rw [List.any_cons, decide_eq_false e, Bool.false_or] at z
          exact z
        by_cases e3 : p.1 = c'
        · have : ¬ c' = c := fun q => e (e3.trans q)
          rw [if_neg this]
          show (match decide (p.1 = c') with | true => some p | false => _).map _ = (match decide (p.1 = c') with | true => some p | false => _).map _
          rw [decide_eq_true e3]
        · show (match decide (p.1 = c') with | true => some p | false => _).map _ = if c' = c then some m else (match decide (p.1 = c') with | true => some p | false => _).map _
          rw [decide_eq_false e3]
          exact ih z2
  · rw [if_neg z, List.find?_append]
    by_cases e : c' = c
    · subst e
      rw [if_pos rfl]
      have : h.find? (fun p => decide (p.1 = c')) = none := List.find?_eq_none.mpr fun p hp q => z (List.any_eq_true.mpr ⟨p, hp, q⟩)
      rw [this]
      simp
    · rw [if_neg e]
      have : [(c, m)].find? (fun p => decide (p.1 = c')) = none := by
        rw [List.find?_cons]
        rw [decide_eq_false (fun q => e q.symm)]
        rfl
      rw [this, Option.or_none]
theorem hget_put (h : List (Nat × Nat)) (c m c' : Nat) : hget (hput h c m) c' = if c' = c then m else hget h c' := by
  unfold hget
  rw [hfind_put]
  by_cases e : c' = c
  · rw [if_pos e, if_pos e]
    rfl
  · rw [if_neg e, if_neg e]
theorem hput_len (h : List (Nat × Nat)) (c m : Nat) : (hput h c m).length ≤ h.length + 1 := by
  unfold hput
  by_cases z : (h.any fun p => decide (p.1 = c)) = true
  · rw [if_pos z, List.length_map]
    omega
  · rw [if_neg z, List.length_append]
    exact Nat.le_refl _
theorem hadd_snoc (m : Nat) (h : List (Nat × Nat)) (s : List Nat) (c : Nat) : hadd m h (s ++ [c]) = hput (hadd m h s) c (hget (hadd m h s) c ||| m) := by
  unfold hadd
  rw [List.foldl_append]
  rfl
theorem hadd_len (m : Nat) : ∀ (s : List Nat) (h : List (Nat × Nat)), (hadd m h s).length ≤ h.length + s.length
  | [], h => Nat.le_refl _
  | c :: s, h => by
    have h1 := hadd_len m s (hput h c (hget h c ||| m))
    have h2 := hput_len h c (hget h c ||| m)
    show (hadd m (hput h c (hget h c ||| m)) s).length ≤ h.length + (s.length + 1)
    omega
theorem hadd_get (m : Nat) : ∀ (s : List Nat) (h : List (Nat × Nat)) (c : Nat), hget (hadd m h s) c = if c ∈ s then hget h c ||| m else hget h c
  | [], h, c => by
    rw [if_neg (by simp)]
    rfl
  | d :: s, h, c => by
    have h1 := hadd_get m s (hput h d (hget h d ||| m)) c
    rw [hget_put] at h1
    show hget (hadd m (hput h d (hget h d ||| m)) s) c = _
    rw [h1]
    by_cases e : c = d
    · subst e
      rw [if_pos rfl, if_pos List.mem_cons_self]
      by_cases q : c ∈ s
      · rw [if_pos q, Nat.or_assoc, Nat.or_self]
      · rw [if_neg q]
    · rw [if_neg e]
      by_cases q : c ∈ s
      · rw [if_pos q, if_pos (List.mem_cons_of_mem _ q)]
      · rw [if_neg q, if_neg fun z => by
          rcases List.mem_cons.mp z with z | z
          · exact e z
          · exact q z]
/-! ### what stays true of the leaves -/
structure LV.Ok (L : LV) : Prop where
  pos : 1 ≤ L.signs.length
  len : L.after.length = L.signs.length
  few : L.signs.length ≤ 61
  hav : L.having.length ≤ 1000 * L.signs.length
  hv : ∀ c, hget L.having c < 2 ^ L.signs.length
theorem LV.new_ok : LV.new.Ok := ⟨Nat.le_refl _, rfl, by decide, by decide, fun c => by show 0 < 2 ^ 1; decide⟩
theorem linkL_len (f : Nat) : ∀ (bs af : List Nat), (linkL af bs f).length = af.length
  | [], af => rfl
  | b :: bs, af => by
    show (linkL (af.set b (af.getD b 0 ||| f)) bs f).length = _
    rw [linkL_len f bs, List.length_set]
theorem linkL_snoc (af bs : List Nat) (b f : Nat) : linkL af (bs ++ [b]) f = (linkL af bs f).set b ((linkL af bs f).getD b 0 ||| f) := by
  unfold linkL
  rw [List.foldl_append]
  rfl
theorem link_ok {L : LV} (h : L.Ok) (l f : Nat) : (link L l f).Ok := ⟨h.pos, (linkL_len f _ _).trans h.len, h.few, h.hav, h.hv⟩
theorem link_zero (L : LV) (f : Nat) : link L 0 f = L := by
  unfold link
  rw [bitsOf_zero]
  rfl
theorem pow_mono {a m n : Nat} (h : a < 2 ^ m) (l : m ≤ n) : a < 2 ^ n := Nat.lt_of_lt_of_le h (Nat.pow_le_pow_right (by decide) l)
theorem newLeaf_ok {L : LV} (h : L.Ok) {s : List Nat} (hs : s.length ≤ 1000) (hl : L.signs.length + 1 ≤ 61) : (newLeaf L s).Ok where
  pos := by
    show 1 ≤ (L.signs ++ [s]).length
    rw [List.length_append]
    exact Nat.le_add_left _ _
  len := by
    show (L.after ++ [0]).length = (L.signs ++ [s]).length
    rw [List.length_append, List.length_append, h.len]
    rfl
  few := by
    show (L.signs ++ [s]).length ≤ 61
    rw [List.length_append]
    exact hl
  hav := by
    show (hadd _ L.having s).length ≤ 1000 * (L.signs ++ [s]).length
    have h1 := hadd_len (2 ^ L.signs.length) s L.having
    have h2 := h.hav
    rw [List.length_append]
    show _ ≤ 1000 * (L.signs.length + 1)
    omega
  hv := fun c => by
    show hget (hadd _ L.having s) c < 2 ^ (L.signs ++ [s]).length
    rw [hadd_get, List.length_append]
    show _ < 2 ^ (L.signs.length + 1)
    have h1 := pow_mono (h.hv c) (Nat.le_succ L.signs.length)
    split
    · exact Nat.or_lt_two_pow h1 (Nat.pow_lt_pow_right (by decide) (Nat.lt_succ_self _))
    · exact h1
structure Sh.In (s : Sh) (n : Nat) : Prop where
  f : s.f < 2 ^ n
  l : s.l < 2 ^ n
theorem Sh.In.mono {s : Sh} {m n : Nat} (h : s.In m) (l : m ≤ n) : s.In n := ⟨pow_mono h.f l, pow_mono h.l l⟩
theorem row_in {s p : Sh} {n : Nat} (hs : s.In n) (hp : p.In n) : Sh.In ⟨s.e && p.e, if s.e = true then s.f ||| p.f else s.f, (if p.e = true then s.l else 0) ||| p.l⟩ n := by
  constructor
  · show (if s.e = true then s.f ||| p.f else s.f) < _
    split
    · exact Nat.or_lt_two_pow hs.f hp.f
    · exact hs.f
  · show (if p.e = true then s.l else 0) ||| p.l < _
    refine Nat.or_lt_two_pow ?_ hp.l
    split
    · exact hs.l
    · exact Nat.two_pow_pos _
theorem bare_in (n : Nat) (b : Bool) : Sh.In ⟨b, 0, 0⟩ n := ⟨Nat.two_pow_pos _, Nat.two_pow_pos _⟩
theorem rowGo_ok : ∀ (shs : List Sh) (L : LV) (s : Sh), L.Ok → s.In L.signs.length → (∀ p ∈ shs, p.In L.signs.length) →
    (rowGo L s shs).1.Ok ∧ (rowGo L s shs).1.signs = L.signs ∧ (rowGo L s shs).1.having = L.having ∧ (rowGo L s shs).1.ends = L.ends ∧ (rowGo L s shs).2.In L.signs.length
  | [], L, s, h, hs, hp => ⟨h, rfl, rfl, rfl, hs⟩
  | p :: r, L, s, h, hs, hp => rowGo_ok r (link L s.l p.f) _ (link_ok h _ _) (row_in hs (hp p List.mem_cons_self)) fun q hq => hp q (List.mem_cons_of_mem _ hq)
theorem orGo_in {n : Nat} : ∀ (shs : List Sh) (s : Sh), s.In n → (∀ p ∈ shs, p.In n) → (orGo s shs).In n
  | [], s, hs, _ => hs
  | p :: r, s, hs, hp => orGo_in r _ ⟨Nat.or_lt_two_pow hs.f (hp p List.mem_cons_self).f, Nat.or_lt_two_pow hs.l (hp p List.mem_cons_self).l⟩ fun q hq => hp q (List.mem_cons_of_mem _ hq)
structure ShOk (L L' : LV) (n : Nat) : Prop where
  ok : L'.Ok
  len : L'.signs.length = L.signs.length + n
  ends : L'.ends = L.ends
mutual
theorem shape_ok : ∀ (p : Pat) (L : LV), L.Ok → Wf p → L.signs.length + nl p ≤ 61 → ShOk L (shape p L).1 (nl p) ∧ (shape p L).2.In (shape p L).1.signs.length
  | .one s, L, h, hw, hl => by
    refine ⟨⟨newLeaf_ok h hw.2.2.1 hl, ?_, rfl⟩, ?_⟩
    · show (L.signs ++ [s]).length = _
      rw [List.length_append]
      rfl
    · show Sh.In ⟨false, 2 ^ L.signs.length, 2 ^ L.signs.length⟩ (L.signs ++ [s]).length
      rw [List.length_append]
      exact ⟨Nat.pow_lt_pow_right (by decide) (Nat.lt_succ_self _), Nat.pow_lt_pow_right (by decide) (Nat.lt_succ_self _)⟩
  | .row ps, L, h, hw, hl => by
    obtain ⟨h1, h2, _⟩ := shapes_ok ps L h hw.1 hl
    have h3 := rowGo_ok (shapes ps L).2 (shapes ps L).1 ⟨true, 0, 0⟩ h1.ok (bare_in _ _) h2
    refine ⟨⟨h3.1, ?_, ?_⟩, ?_⟩
    · show (rowGo _ _ _).1.signs.length = _
      rw [h3.2.1]
      exact h1.len
    · exact h3.2.2.2.1.trans h1.ends
    · show (rowGo _ _ _).2.In (rowGo _ _ _).1.signs.length
      rw [h3.2.1]
      exact h3.2.2.2.2
  | .or ps, L, h, hw, hl => by
    obtain ⟨h1, h2, _⟩ := shapes_ok ps L h hw.1 hl
    exact ⟨h1, orGo_in _ _ (bare_in _ _) h2⟩
  | .many p, L, h, hw, hl => by
    obtain ⟨h1, h2⟩ := shape_ok p L h hw hl
    exact ⟨⟨link_ok h1.ok _ _, h1.len, h1.ends⟩, ⟨h2.f, h2.l⟩⟩
  | .maybe p, L, h, hw, hl => by
    obtain ⟨h1, h2⟩ := shape_ok p L h hw hl
    exact ⟨h1, ⟨h2.f, h2.l⟩⟩
theorem shapes_ok : ∀ (ps : List Pat) (L : LV), L.Ok → Wfs ps → L.signs.length + nls ps ≤ 61 → ShOk L (shapes ps L).1 (nls ps) ∧ (∀ s ∈ (shapes ps L).2, s.In (shapes ps L).1.signs.length) ∧ (shapes ps L).2.length = ps.length
  | [], L, h, _, _ => ⟨⟨h, rfl, rfl⟩, fun s hs => (by cases hs), rfl⟩
  | p :: r, L, h, hw, hl => by
    have hl2 : L.signs.length + (nl p + nls r) ≤ 61 := hl
    obtain ⟨h1, h2⟩ := shape_ok p L h hw.1 (by omega)
    obtain ⟨h3, h4, h5⟩ := shapes_ok r (shape p L).1 h1.ok hw.2 (by rw [h1.len]; omega)
    refine ⟨⟨h3.ok, ?_, h3.ends.trans h1.ends⟩, ?_, ?_⟩
    · show (shapes r (shape p L).1).1.signs.length = L.signs.length + (nl p + nls r)
      rw [h3.len, h1.len]
      omega
    · intro s hs
      rcases List.mem_cons.mp hs with rfl | hs
      · exact h2.mono (by show _ ≤ (shapes r (shape p L).1).1.signs.length; rw [h3.len]; omega)
      · exact h4 s hs
    · show (shapes r (shape p L).1).2.length + 1 = r.length + 1
      rw [h5]
end
/-! ### patterns without leaves -/
theorem rowGo_bare (L : LV) : ∀ n, rowGo L ⟨true, 0, 0⟩ (List.replicate n ⟨true, 0, 0⟩) = (L, ⟨true, 0, 0⟩)
  | 0 => rfl
  | n + 1 => by
    show rowGo (link L 0 0) ⟨true, 0, 0⟩ (List.replicate n ⟨true, 0, 0⟩) = _
    rw [link_zero]
    exact rowGo_bare L n
theorem orGo_bare : ∀ n, orGo ⟨true, 0, 0⟩ (List.replicate n ⟨true, 0, 0⟩) = ⟨true, 0, 0⟩
  | 0 => rfl
  | n + 1 => orGo_bare n
mutual
theorem shape_bare : ∀ (p : Pat) (L : LV), Wf p → nl p = 0 → shape p L = (L, ⟨true, 0, 0⟩)
  | .one s, L, _, h => by cases h
  | .row ps, L, hw, h => by
    show rowGo (shapes ps L).1 ⟨true, 0, 0⟩ (shapes ps L).2 = _
    rw [shapes_bare ps L hw.1 h]
    exact rowGo_bare L _
  | .or ps, L, hw, h => by
    show ((shapes ps L).1, orGo ⟨false, 0, 0⟩ (shapes ps L).2) = _
    rw [shapes_bare ps L hw.1 h]
    cases hp : ps with
    | nil => exact absurd hp hw.2.2
    | cons p r =>
      show (L, orGo ⟨true, 0, 0⟩ (List.replicate r.length ⟨true, 0, 0⟩)) = _
      rw [orGo_bare]
  | .many p, L, hw, h => by
    show (link (shape p L).1 (shape p L).2.l (shape p L).2.f, Sh.mk true (shape p L).2.f (shape p L).2.l) = _
    rw [shape_bare p L hw h]
    show (link L 0 0, Sh.mk true 0 0) = _
    rw [link_zero]
  | .maybe p, L, hw, h => by
    show ((shape p L).1, Sh.mk true (shape p L).2.f (shape p L).2.l) = _
    rw [shape_bare p L hw h]
theorem shapes_bare : ∀ (ps : List Pat) (L : LV), Wfs ps → nls ps = 0 → shapes ps L = (L, List.replicate ps.length ⟨true, 0, 0⟩)
  | [], L, _, _ => rfl
  | p :: r, L, hw, h => by
    have h : nl p + nls r = 0 := h
    show ((shapes r (shape p L).1).1, (shape p L).2 :: (shapes r (shape p L).1).2) = _
    rw [shape_bare p L hw.1 (by omega)]
    show ((shapes r L).1, Sh.mk true 0 0 :: (shapes r L).2) = _
    rw [shapes_bare r L hw.2 (by omega)]
    rfl
end
/-! ### equal patterns have as many leaves -/
def kind : Pat → List Nat
  | .one _ => kOne
  | .row _ => kRow
  | .or _ => kOr
  | .many _ => kMany
  | .maybe _ => kMaybe
def inner : Pat → D
  | .one s => .str s
  | .row ps => .lst (patsD ps)
  | .or ps => .lst (patsD ps)
  | .many p => patD p
  | .maybe p => patD p
theorem patD_two (p : Pat) : patD p = .tup [.str (kind p), inner p] := by cases p <;> simp [patD, kind, inner]
theorem eqv_kind {p q : Pat} (h : PyData.eqv (patD q).py (patD p).py = true) : kind q = kind p ∧ PyData.eqv (inner q).py (inner p).py = true := by
  rw [patD_two, patD_two] at h
  have h : ((sOf (kind q) == sOf (kind p)) && (PyData.eqv (inner q).py (inner p).py && true)) = true := by
    simpa [D.py, D.pys, PyData.eqv, PyData.eqvAll] using h
  rw [Bool.and_true, Bool.and_eq_true] at h
  exact ⟨sOf_inj (eq_of_beq h.1), h.2⟩
mutual
theorem eqv_nl : ∀ (q p : Pat), PyData.eqv (patD q).py (patD p).py = true → nl q = 0 → nl p = 0
  | .one s, _, _, h => by cases h
  | .row qs, p, e, h => by
    obtain ⟨k, e⟩ := eqv_kind e
    cases p with
    | row ps => exact eqv_nls qs ps (by simpa [inner, D.py, PyData.eqv] using e) h
    | one s => exact absurd k (show ¬ kRow = kOne by decide)
    | or s => exact absurd k (show ¬ kRow = kOr by decide)
    | many s => exact absurd k (show ¬ kRow = kMany by decide)
    | maybe s => exact absurd k (show ¬ kRow = kMaybe by decide)
  | .or qs, p, e, h => by
    obtain ⟨k, e⟩ := eqv_kind e
    cases p with
    | or ps => exact eqv_nls qs ps (by simpa [inner, D.py, PyData.eqv] using e) h
    | one s => exact absurd k (show ¬ kOr = kOne by decide)
    | row s => exact absurd k (show ¬ kOr = kRow by decide)
    | many s => exact absurd k (show ¬ kOr = kMany by decide)
    | maybe s => exact absurd k (show ¬ kOr = kMaybe by decide)
  | .many q, p, e, h => by
    obtain ⟨k, e⟩ := eqv_kind e
    cases p with
    | many p => exact eqv_nl q p e h
    | one s => exact absurd k (show ¬ kMany = kOne by decide)
    | row s => exact absurd k (show ¬ kMany = kRow by decide)
    | or s => exact absurd k (show ¬ kMany = kOr by decide)
    | maybe s => exact absurd k (show ¬ kMany = kMaybe by decide)
  | .maybe q, p, e, h => by
    obtain ⟨k, e⟩ := eqv_kind e
    cases p with
    | maybe p => exact eqv_nl q p e h
    | one s => exact absurd k (show ¬ kMaybe = kOne by decide)
    | row s => exact absurd k (show ¬ kMaybe = kRow by decide)
    | or s => exact absurd k (show ¬ kMaybe = kOr by decide)
    | many s => exact absurd k (show ¬ kMaybe = kMany by decide)
theorem eqv_nls : ∀ (qs ps : List Pat), PyData.eqvAll (D.pys (patsD qs)) (D.pys (patsD ps)) = true → nls qs = 0 → nls ps = 0
  | [], [], _, _ => rfl
  | [], _ :: _, e, _ => by simp [patsD, D.pys, PyData.eqvAll] at e
  | _ :: _, [], _, _ => rfl
  | q :: qs, p :: ps, e, h => by
    have h : nl q + nls qs = 0 := h
    have e : (PyData.eqv (patD q).py (patD p).py && PyData.eqvAll (D.pys (patsD qs)) (D.pys (patsD ps))) = true := by
      simpa [patsD, D.pys, PyData.eqvAll] using e
    rw [Bool.and_eq_true] at e
    have h1 := eqv_nl q p e.1 (by omega)
    have h2 := eqv_nls qs ps e.2 (by omega)
    show nl p + nls ps = 0
    omega
end
/-! ### unlike signs -/
theorem cnt_all {κ : Type} [DecidableEq κ] {val : Nat → κ} : ∀ i, (∀ j k, j < k → k < i → val j ≠ val k) → SetT.cnt val i = i
  | 0, _ => rfl
  | i + 1, h => by
    have ih := cnt_all i fun j k h1 h2 => h j k h1 (by omega)
    have hn : SetT.seen val i (val i) ≠ true := fun z => by
      obtain ⟨j, h1, h2⟩ := (SetT.seen_iff val (val i) i).mp z
      exact h j i h1 (Nat.lt_succ_self _) h2
    show (if SetT.seen val i (val i) = true then SetT.cnt val i else SetT.cnt val i + 1) = i + 1
    rw [if_neg hn, ih]
theorem unlike_nodup {s : List Nat} (h : s.Nodup) : unlike s = s.length := by
  refine cnt_all _ fun j k h1 h2 e => ?_
  have h2' : k < s.length := h2
  have e1 : SetT.sgnOf (sOf s) j = sOf [s[j]'(by omega)] := by
    show (⟨#[s.toArray.getD j 0]⟩ : Str) = ⟨#[_]⟩
    simp [Array.getD, show j < s.length by omega]
  have e2 : SetT.sgnOf (sOf s) k = sOf [s[k]'(by omega)] := by
    show (⟨#[s.toArray.getD k 0]⟩ : Str) = ⟨#[_]⟩
    simp [Array.getD, h2']
  rw [e1, e2] at e
  have := (List.cons.inj (sOf_inj e)).1
  have hp := List.pairwise_iff_getElem.mp h j k (by omega) h2' h1
  exact hp this
end Ab
namespace Ab
open PySem PySem.Spec PyProof.Rows L2
/-! ### what a pattern tells -/
inductive Star (X : List Nat → Prop) : List Nat → Prop
  | nil : Star X []
  | cons {u v : List Nat} : X u → u ≠ [] → Star X v → Star X (u ++ v)
mutual
def Tells : Pat → List Nat → Prop
  | .one s, t => ∃ c, c ∈ s ∧ t = [c]
  | .row ps, t => TellsR ps t
  | .or ps, t => TellsO ps t
  | .many p, t => Star (Tells p) t
  | .maybe p, t => t = [] ∨ Tells p t
def TellsR : List Pat → List Nat → Prop
  | [], t => t = []
  | p :: r, t => ∃ u v, t = u ++ v ∧ Tells p u ∧ TellsR r v
def TellsO : List Pat → List Nat → Prop
  | [], _ => False
  | p :: r, t => Tells p t ∨ TellsO r t
end
mutual
def Emp : Pat → Bool
  | .one _ => false
  | .row ps => EmpR ps
  | .or ps => EmpO ps
  | .many _ => true
  | .maybe _ => true
def EmpR : List Pat → Bool
  | [] => true
  | p :: r => Emp p && EmpR r
def EmpO : List Pat → Bool
  | [] => false
  | p :: r => Emp p || EmpO r
end
mutual
theorem emp_iff : ∀ p : Pat, Emp p = true ↔ Tells p []
  | .one s => ⟨fun h => (by cases h), fun ⟨c, _, h⟩ => (by cases h)⟩
  | .row ps => empR_iff ps
  | .or ps => empO_iff ps
  | .many p => ⟨fun _ => .nil, fun _ => rfl⟩
  | .maybe p => ⟨fun _ => .inl rfl, fun _ => rfl⟩
theorem empR_iff : ∀ ps : List Pat, EmpR ps = true ↔ TellsR ps []
  | [] => ⟨fun _ => rfl, fun _ => rfl⟩
  | p :: r => by
    show (Emp p && EmpR r) = true ↔ ∃ u v, [] = u ++ v ∧ Tells p u ∧ TellsR r v
    rw [Bool.and_eq_true, emp_iff p, empR_iff r]
    constructor
    · rintro ⟨h1, h2⟩
      exact ⟨[], [], rfl, h1, h2⟩
    · rintro ⟨u, v, h, h1, h2⟩
      have := List.append_eq_nil_iff.mp h.symm
      rw [this.1] at h1
      rw [this.2] at h2
      exact ⟨h1, h2⟩
theorem empO_iff : ∀ ps : List Pat, EmpO ps = true ↔ TellsO ps []
  | [] => ⟨fun h => (by cases h), fun h => h.elim⟩
  | p :: r => by
    show (Emp p || EmpO r) = true ↔ Tells p [] ∨ TellsO r []
    rw [Bool.or_eq_true, emp_iff p, empO_iff r]
end
/-! ### firsts, lasts, edges, signs -/
mutual
def Fi : Pat → Nat → Nat → Prop
  | .one _, a, q => q = a
  | .row ps, a, q => FiR ps a true q
  | .or ps, a, q => FiO ps a q
  | .many p, a, q => Fi p a q
  | .maybe p, a, q => Fi p a q
def FiR : List Pat → Nat → Bool → Nat → Prop
  | [], _, _, _ => False
  | p :: r, a, e, q => (e = true ∧ Fi p a q) ∨ FiR r (a + nl p) (e && Emp p) q
def FiO : List Pat → Nat → Nat → Prop
  | [], _, _ => False
  | p :: r, a, q => Fi p a q ∨ FiO r (a + nl p) q
end
mutual
def La : Pat → Nat → Nat → Prop
  | .one _, a, q => q = a
  | .row ps, a, q => LaR ps a (fun _ => False) q
  | .or ps, a, q => LaO ps a q
  | .many p, a, q => La p a q
  | .maybe p, a, q => La p a q
def LaR : List Pat → Nat → (Nat → Prop) → Nat → Prop
  | [], _, acc, q => acc q
  | p :: r, a, acc, q => LaR r (a + nl p) (fun q => (Emp p = true ∧ acc q) ∨ La p a q) q
def LaO : List Pat → Nat → Nat → Prop
  | [], _, _ => False
  | p :: r, a, q => La p a q ∨ LaO r (a + nl p) q
end
def Lk : List Pat → Nat → (Nat → Prop) → Nat → Nat → Prop
  | [], _, _, _, _ => False
  | p :: r, a, acc, i, j => (acc i ∧ Fi p a j) ∨ Lk r (a + nl p) (fun q => (Emp p = true ∧ acc q) ∨ La p a q) i j
mutual
def Ed : Pat → Nat → Nat → Nat → Prop
  | .one _, _, _, _ => False
  | .row ps, a, i, j => EdP ps a i j ∨ Lk ps a (fun _ => False) i j
  | .or ps, a, i, j => EdP ps a i j
  | .many p, a, i, j => Ed p a i j ∨ (La p a i ∧ Fi p a j)
  | .maybe p, a, i, j => Ed p a i j
def EdP : List Pat → Nat → Nat → Nat → Prop
  | [], _, _, _ => False
  | p :: r, a, i, j => Ed p a i j ∨ EdP r (a + nl p) i j
end
mutual
def Sg : Pat → Nat → Nat → Nat → Prop
  | .one s, a, q, c => q = a ∧ c ∈ s
  | .row ps, a, q, c => SgP ps a q c
  | .or ps, a, q, c => SgP ps a q c
  | .many p, a, q, c => Sg p a q c
  | .maybe p, a, q, c => Sg p a q c
def SgP : List Pat → Nat → Nat → Nat → Prop
  | [], _, _, _ => False
  | p :: r, a, q, c => Sg p a q c ∨ SgP r (a + nl p) q c
end
abbrev In (a n q : Nat) : Prop := a ≤ q ∧ q < a + n
theorem nls_cons (p : Pat) (r : List Pat) : nls (p :: r) = nl p + nls r := rfl
mutual
theorem Fi_in : ∀ {p : Pat} {a q : Nat}, Fi p a q → In a (nl p) q
  | .one _, a, q, h => ⟨Nat.le_of_eq (Eq.symm h), by have h : q = a := h; show q < a + 1; omega⟩
  | .row ps, _, _, h => FiR_in (ps := ps) h
  | .or ps, _, _, h => FiO_in (ps := ps) h
  | .many p, _, _, h => Fi_in (p := p) h
  | .maybe p, _, _, h => Fi_in (p := p) h
theorem FiR_in : ∀ {ps : List Pat} {a : Nat} {e : Bool} {q : Nat}, FiR ps a e q → In a (nls ps) q
  | [], _, _, _, h => h.elim
  | p :: r, a, e, q, h => by
    have := nls_cons p r
    rcases h with ⟨_, h⟩ | h
    · have := Fi_in h
      exact ⟨this.1, by omega⟩
    · have := FiR_in h
      exact ⟨by omega, by omega⟩
theorem FiO_in : ∀ {ps : List Pat} {a q : Nat}, FiO ps a q → In a (nls ps) q
  | [], _, _, h => h.elim
  | p :: r, a, q, h => by
    have := nls_cons p r
    rcases h with h | h
    · have := Fi_in h
      exact ⟨this.1, by omega⟩
    · have := FiO_in h
      exact ⟨by omega, by omega⟩
end
mutual
theorem La_in : ∀ {p : Pat} {a q : Nat}, La p a q → In a (nl p) q
  | .one _, a, q, h => ⟨Nat.le_of_eq (Eq.symm h), by have h : q = a := h; show q < a + 1; omega⟩
  | .row ps, a, q, h => by
    rcases LaR_in (ps := ps) h with h | h
    · exact h.elim
    · exact h
  | .or ps, _, _, h => LaO_in (ps := ps) h
  | .many p, _, _, h => La_in (p := p) h
  | .maybe p, _, _, h => La_in (p := p) h
theorem LaR_in : ∀ {ps : List Pat} {a : Nat} {acc : Nat → Prop} {q : Nat}, LaR ps a acc q → acc q ∨ In a (nls ps) q
  | [], _, _, _, h => .inl h
  | p :: r, a, acc, q, h => by
    have := nls_cons p r
    rcases LaR_in (ps := r) h with (⟨_, h⟩ | h) | h
    · exact .inl h
    · have := La_in h
      exact .inr ⟨this.1, by omega⟩
    · exact .inr ⟨by omega, by omega⟩
theorem LaO_in : ∀ {ps : List Pat} {a q : Nat}, LaO ps a q → In a (nls ps) q
  | [], _, _, h => h.elim
  | p :: r, a, q, h => by
    have := nls_cons p r
    rcases h with h | h
    · have := La_in h
      exact ⟨this.1, by omega⟩
    · have := LaO_in h
      exact ⟨by omega, by omega⟩
end
theorem Lk_in : ∀ {ps : List Pat} {a : Nat} {acc : Nat → Prop} {i j : Nat}, Lk ps a acc i j → (acc i ∨ In a (nls ps) i) ∧ In a (nls ps) j
  | [], _, _, _, _, h => h.elim
  | p :: r, a, acc, i, j, h => by
    have := nls_cons p r
    rcases h with ⟨h1, h2⟩ | h
    · have := Fi_in h2
      exact ⟨.inl h1, ⟨this.1, by omega⟩⟩
    · obtain ⟨h1, h2⟩ := Lk_in h
      refine ⟨?_, ⟨by omega, by omega⟩⟩
      rcases h1 with (⟨_, h1⟩ | h1) | h1
      · exact .inl h1
      · have := La_in h1
        exact .inr ⟨this.1, by omega⟩
      · exact .inr ⟨by omega, by omega⟩
mutual
theorem Ed_in : ∀ {p : Pat} {a i j : Nat}, Ed p a i j → In a (nl p) i ∧ In a (nl p) j
  | .one _, _, _, _, h => h.elim
  | .row ps, a, i, j, h => by
    rcases h with h | h
    · exact EdP_in (ps := ps) h
    · obtain ⟨h1, h2⟩ := Lk_in h
      rcases h1 with h1 | h1
      · exact h1.elim
      · exact ⟨h1, h2⟩
  | .or ps, _, _, _, h => EdP_in (ps := ps) h
  | .many p, _, _, _, h => by
    rcases h with h | ⟨h1, h2⟩
    · exact Ed_in (p := p) h
    · exact ⟨La_in h1, Fi_in h2⟩
  | .maybe p, _, _, _, h => Ed_in (p := p) h
theorem EdP_in : ∀ {ps : List Pat} {a i j : Nat}, EdP ps a i j → In a (nls ps) i ∧ In a (nls ps) j
  | [], _, _, _, h => h.elim
  | p :: r, a, i, j, h => by
    have := nls_cons p r
    rcases h with h | h
    · have := Ed_in h
      exact ⟨⟨by omega, by omega⟩, ⟨by omega, by omega⟩⟩
    · have := EdP_in h
      exact ⟨⟨by omega, by omega⟩, ⟨by omega, by omega⟩⟩
end
mutual
theorem Sg_in : ∀ {p : Pat} {a q c : Nat}, Sg p a q c → In a (nl p) q
  | .one _, a, q, _, h => ⟨Nat.le_of_eq h.1.symm, by have h := h.1; show q < a + 1; omega⟩
  | .row ps, _, _, _, h => SgP_in (ps := ps) h
  | .or ps, _, _, _, h => SgP_in (ps := ps) h
  | .many p, _, _, _, h => Sg_in (p := p) h
  | .maybe p, _, _, _, h => Sg_in (p := p) h
theorem SgP_in : ∀ {ps : List Pat} {a q c : Nat}, SgP ps a q c → In a (nls ps) q
  | [], _, _, _, h => h.elim
  | p :: r, a, q, c, h => by
    have := nls_cons p r
    rcases h with h | h
    · have := Sg_in h
      exact ⟨by omega, by omega⟩
    · have := SgP_in h
      exact ⟨by omega, by omega⟩
end
/-! ### stretches of a text -/
def sub (s : List Nat) (i j : Nat) : List Nat := (s.drop i).take (j - i)
theorem sub_self (s : List Nat) (i : Nat) : sub s i i = [] := by
  unfold sub
  rw [Nat.sub_self]
  rfl
theorem sub_len {s : List Nat} {i j : Nat} (h : j ≤ s.length) : (sub s i j).length = j - i := by
  unfold sub
  rw [List.length_take, List.length_drop]
  omega
theorem sub_ne {s : List Nat} {i j : Nat} (h : j ≤ s.length) (l : i < j) : sub s i j ≠ [] := fun e => by
  have := sub_len (i := i) h
  rw [e] at this
  have : 0 = j - i := this
  omega
theorem sub_app {s : List Nat} {i m j : Nat} (h1 : i ≤ m) (h2 : m ≤ j) : sub s i j = sub s i m ++ sub s m j := by
  unfold sub
  rw [show j - i = (m - i) + (j - m) by omega, List.take_add, List.drop_drop, show i + (m - i) = m by omega]
theorem sub_split {s u v : List Nat} {i j : Nat} (hj : j ≤ s.length) (hi : i ≤ j) (h : sub s i j = u ++ v) : ∃ m, i ≤ m ∧ m ≤ j ∧ u = sub s i m ∧ v = sub s m j := by
  have hl := sub_len (i := i) hj
  rw [h, List.length_append] at hl
  have e := sub_app (s := s) (show i ≤ i + u.length by omega) (show i + u.length ≤ j by omega)
  rw [h] at e
  have hu := sub_len (s := s) (i := i) (j := i + u.length) (by omega)
  have := List.append_inj e (by rw [hu]; omega)
  exact ⟨i + u.length, by omega, by omega, this.1, this.2⟩
theorem sub_one {s : List Nat} {j : Nat} {c : Nat} : sub s j (j + 1) = [c] ↔ s[j]? = some c := by
  unfold sub
  rw [show j + 1 - j = 1 by omega]
  by_cases h : j < s.length
  · rw [List.drop_eq_getElem_cons h, List.getElem?_eq_getElem h, List.take_succ_cons, List.take_zero]
    exact ⟨fun e => congrArg some (List.cons.inj e).1, fun e => by rw [Option.some.inj e]⟩
  · rw [List.getElem?_eq_none (by omega), List.drop_eq_nil_of_le (by omega)]
    simp
theorem sub_all (s : List Nat) : sub s 0 s.length = s := by
  unfold sub
  rw [List.drop_zero, Nat.sub_zero, List.take_of_length_le (Nat.le_refl _)]
/-! ### the run of the leaves of a pattern -/
structure Sim (lo n : Nat) (act : Nat → Nat → Prop) (s : List Nat) (sg : Nat → Nat → Prop) (inn : Nat → Nat → Prop) : Prop where
  z : ∀ q, lo ≤ q → q < lo + n → ¬ act 0 q
  st : ∀ j q, lo ≤ q → q < lo + n → (act (j + 1) q ↔ ∃ c, s[j]? = some c ∧ sg q c ∧ inn j q)
theorem star_snoc {X : List Nat → Prop} {u v : List Nat} (h : Star X u) (hv : X v) (ne : v ≠ []) : Star X (u ++ v) := by
  induction h with
  | nil =>
    have := Star.cons hv ne .nil
    rw [List.append_nil] at this
    exact this
  | cons h1 h2 h3 ih =>
    rw [List.append_assoc]
    exact .cons h1 h2 ih
mutual
theorem sim : ∀ (p : Pat) (a : Nat) (act : Nat → Nat → Prop) (s : List Nat) (E : Nat → Prop), Sim a (nl p) act s (Sg p a) (fun j q => (∃ q', act j q' ∧ Ed p a q' q) ∨ (Fi p a q ∧ E j)) →
    ∀ j, j ≤ s.length → ((∃ q, La p a q ∧ act j q) ↔ ∃ i, i < j ∧ E i ∧ Tells p (sub s i j))
  | .one s0, a, act, s, E, S, j, hj => by
    cases j with
    | zero =>
      constructor
      · rintro ⟨q, h1, h2⟩
        have h1 : q = a := h1
        exact absurd h2 (S.z q (by omega) (by show q < a + 1; omega))
      · rintro ⟨i, h, _⟩
        omega
    | succ j =>
      constructor
      · rintro ⟨q, h1, h2⟩
        have h1 : q = a := h1
        obtain ⟨c, hc, ⟨_, hs⟩, h⟩ := (S.st j q (by omega) (by show q < a + 1; omega)).mp h2
        rcases h with ⟨_, _, h⟩ | ⟨_, h⟩
        · exact h.elim
        · exact ⟨j, Nat.lt_succ_self _, h, c, hs, sub_one.mpr hc⟩
      · rintro ⟨i, h1, h2, c, h3, h4⟩
        have hl := sub_len (i := i) hj
        rw [h4] at hl
        have : i = j := by
          have : 1 = j + 1 - i := hl
          omega
        subst this
        exact ⟨a, rfl, (S.st i a (Nat.le_refl _) (by show a < a + 1; omega)).mpr ⟨c, sub_one.mp h4, ⟨rfl, h3⟩, .inr ⟨rfl, h2⟩⟩⟩
  | .row ps, a, act, s, E, S, j, hj => by
    have key := simR ps a act s E (fun _ => False) true (fun t => t = []) ⟨S.z, fun j q h1 h2 => (S.st j q h1 h2).trans (by
      constructor
      · rintro ⟨c, hc, hs, h⟩
        refine ⟨c, hc, hs, ?_⟩
        rcases h with ⟨q', h3, h4⟩ | h
        · exact .inl ⟨q', h3, h4⟩
        · exact .inr h
      · rintro ⟨c, hc, hs, h⟩
        refine ⟨c, hc, hs, ?_⟩
        rcases h with ⟨q', h3, h4⟩ | h
        · exact .inl ⟨q', h3, h4⟩
        · exact .inr h)⟩ (fun q h => h.elim) (fun j hj => ⟨fun ⟨q, h, _⟩ => h.elim, fun ⟨i, h1, _, h2⟩ => absurd h2 (sub_ne hj h1)⟩) ⟨fun _ => rfl, fun _ => rfl⟩ j hj
    refine key.trans ?_
    constructor
    · rintro ⟨i, h1, h2, u, v, h3, rfl, h4⟩
      rw [List.nil_append] at h3
      refine ⟨i, h1, h2, ?_⟩
      show TellsR ps (sub s i j)
      rw [h3]
      exact h4
    · rintro ⟨i, h1, h2, h3⟩
      exact ⟨i, h1, h2, [], sub s i j, rfl, rfl, h3⟩
  | .or ps, a, act, s, E, S, j, hj => simO ps a act s E S j hj
  | .many p, a, act, s, E, S, j, hj => by
    have ih := sim p a act s (fun j => E j ∨ ∃ q', La p a q' ∧ act j q') ⟨S.z, fun j q h1 h2 => (S.st j q h1 h2).trans (by
      constructor
      · rintro ⟨c, hc, hs, h⟩
        refine ⟨c, hc, hs, ?_⟩
        rcases h with ⟨q', h3, h4 | ⟨h4, h5⟩⟩ | ⟨h3, h4⟩
        · exact .inl ⟨q', h3, h4⟩
        · exact .inr ⟨h5, .inr ⟨q', h4, h3⟩⟩
        · exact .inr ⟨h3, .inl h4⟩
      · rintro ⟨c, hc, hs, h⟩
        refine ⟨c, hc, hs, ?_⟩
        rcases h with ⟨q', h3, h4⟩ | ⟨h3, h4 | ⟨q', h4, h5⟩⟩
        · exact .inl ⟨q', h3, .inl h4⟩
        · exact .inr ⟨h3, h4⟩
        · exact .inl ⟨q', h5, .inr ⟨h4, h3⟩⟩)⟩
    constructor
    · intro h
      revert hj h
      induction j using Nat.strongRecOn with
      | ind j ihj =>
        intro hj h
        obtain ⟨i, h1, h2, h3⟩ := (ih j hj).mp h
        rcases h2 with h2 | h2
        · refine ⟨i, h1, h2, ?_⟩
          show Star (Tells p) (sub s i j)
          have := star_snoc .nil h3 (sub_ne hj h1)
          exact this
        · obtain ⟨i', k1, k2, k3⟩ := ihj i h1 (by omega) h2
          refine ⟨i', by omega, k2, ?_⟩
          show Star (Tells p) (sub s i' j)
          rw [sub_app (show i' ≤ i by omega) (show i ≤ j by omega)]
          exact star_snoc k3 h3 (sub_ne hj h1)
    · rintro ⟨i, h1, h2, h3⟩
      have h3 : Star (Tells p) (sub s i j) := h3
      have gen : ∀ t, Star (Tells p) t → ∀ i, i < j → t = sub s i j → (E i ∨ ∃ q', La p a q' ∧ act i q') → ∃ q, La p a q ∧ act j q := by
        intro t ht
        induction ht with
        | nil =>
          intro i hi e
          exact absurd e.symm (sub_ne hj hi)
        | cons h1 h2 h3 ihs =>
          intro i hi e hE
          obtain ⟨m, m1, m2, rfl, rfl⟩ := sub_split hj (by omega) e.symm
          have m3 : i < m := by
            rcases Nat.lt_or_ge i m with z | z
            · exact z
            · have : m = i := by omega
              subst this
              exact absurd (sub_self s m) h2
          have x := (ih m (by omega)).mpr ⟨i, m3, hE, h1⟩
          by_cases hm : m = j
          · subst hm
            exact x
          · exact ihs m (by omega) rfl (.inr x)
      exact gen _ h3 i h1 rfl (.inl h2)
  | .maybe p, a, act, s, E, S, j, hj => by
    refine (sim p a act s E S j hj).trans ⟨?_, ?_⟩
    · rintro ⟨i, h1, h2, h3⟩
      exact ⟨i, h1, h2, .inr h3⟩
    · rintro ⟨i, h1, h2, h3⟩
      rcases h3 with h3 | h3
      · exact absurd h3 (sub_ne hj h1)
      · exact ⟨i, h1, h2, h3⟩
theorem simO : ∀ (ps : List Pat) (a : Nat) (act : Nat → Nat → Prop) (s : List Nat) (E : Nat → Prop), Sim a (nls ps) act s (SgP ps a) (fun j q => (∃ q', act j q' ∧ EdP ps a q' q) ∨ (FiO ps a q ∧ E j)) →
    ∀ j, j ≤ s.length → ((∃ q, LaO ps a q ∧ act j q) ↔ ∃ i, i < j ∧ E i ∧ TellsO ps (sub s i j))
  | [], a, act, s, E, S, j, hj => ⟨fun ⟨q, h, _⟩ => h.elim, fun ⟨i, _, _, h⟩ => h.elim⟩
  | p :: r, a, act, s, E, S, j, hj => by
    have hn := nls_cons p r
    have h1 := sim p a act s E ⟨fun q k1 k2 => S.z q k1 (by omega), fun j q k1 k2 => (S.st j q k1 (by omega)).trans (by
      constructor
      · rintro ⟨c, hc, hs, h⟩
        refine ⟨c, hc, ?_, ?_⟩
        · rcases hs with hs | hs
          · exact hs
          · have := SgP_in hs
            omega
        · rcases h with ⟨q', h3, h4 | h4⟩ | ⟨h3 | h3, h4⟩
          · exact .inl ⟨q', h3, h4⟩
          · have := EdP_in h4
            omega
          · exact .inr ⟨h3, h4⟩
          · have := FiO_in h3
            omega
      · rintro ⟨c, hc, hs, h⟩
        refine ⟨c, hc, .inl hs, ?_⟩
        rcases h with ⟨q', h3, h4⟩ | ⟨h3, h4⟩
        · exact .inl ⟨q', h3, .inl h4⟩
        · exact .inr ⟨.inl h3, h4⟩)⟩ j hj
    have h2 := simO r (a + nl p) act s E ⟨fun q k1 k2 => S.z q (by omega) (by omega), fun j q k1 k2 => (S.st j q (by omega) (by omega)).trans (by
      constructor
      · rintro ⟨c, hc, hs, h⟩
        refine ⟨c, hc, ?_, ?_⟩
        · rcases hs with hs | hs
          · have := Sg_in hs
            omega
          · exact hs
        · rcases h with ⟨q', h3, h4 | h4⟩ | ⟨h3 | h3, h4⟩
          · have := Ed_in h4
            omega
          · exact .inl ⟨q', h3, h4⟩
          · have := Fi_in h3
            omega
          · exact .inr ⟨h3, h4⟩
      · rintro ⟨c, hc, hs, h⟩
        refine ⟨c, hc, .inr hs, ?_⟩
        rcases h with ⟨q', h3, h4⟩ | ⟨h3, h4⟩
        · exact .inl ⟨q', h3, .inr h4⟩
        · exact .inr ⟨.inr h3, h4⟩)⟩ j hj
    constructor
    · rintro ⟨q, h3 | h3, h4⟩
      · obtain ⟨i, k1, k2, k3⟩ := h1.mp ⟨q, h3, h4⟩
        exact ⟨i, k1, k2, .inl k3⟩
      · obtain ⟨i, k1, k2, k3⟩ := h2.mp ⟨q, h3, h4⟩
        exact ⟨i, k1, k2, .inr k3⟩
    · rintro ⟨i, k1, k2, k3 | k3⟩
      · obtain ⟨q, h3, h4⟩ := h1.mpr ⟨i, k1, k2, k3⟩
        exact ⟨q, .inl h3, h4⟩
      · obtain ⟨q, h3, h4⟩ := h2.mpr ⟨i, k1, k2, k3⟩
        exact ⟨q, .inr h3, h4⟩
theorem simR : ∀ (ps : List Pat) (a : Nat) (act : Nat → Nat → Prop) (s : List Nat) (E : Nat → Prop) (acc : Nat → Prop) (e : Bool) (X : List Nat → Prop),
    Sim a (nls ps) act s (SgP ps a) (fun j q => (∃ q', act j q' ∧ (EdP ps a q' q ∨ Lk ps a acc q' q)) ∨ (FiR ps a e q ∧ E j)) → (∀ q, acc q → q < a) →
    (∀ j, j ≤ s.length → ((∃ q, acc q ∧ act j q) ↔ ∃ i, i < j ∧ E i ∧ X (sub s i j))) → (e = true ↔ X []) →
    ∀ j, j ≤ s.length → ((∃ q, LaR ps a acc q ∧ act j q) ↔ ∃ i, i < j ∧ E i ∧ ∃ u v, sub s i j = u ++ v ∧ X u ∧ TellsR ps v)
  | [], a, act, s, E, acc, e, X, S, ha, hx, he, j, hj => by
    refine (hx j hj).trans ⟨?_, ?_⟩
    · rintro ⟨i, h1, h2, h3⟩
      exact ⟨i, h1, h2, _, [], (List.append_nil _).symm, h3, rfl⟩
    · rintro ⟨i, h1, h2, u, v, h3, h4, h5⟩
      have h5 : v = [] := h5
      subst h5
      rw [List.append_nil] at h3
      exact ⟨i, h1, h2, h3 ▸ h4⟩
  | p :: r, a, act, s, E, acc, e, X, S, ha, hx, he, j, hj => by
    have hn := nls_cons p r
    have h1 := sim p a act s (fun j => (∃ q', acc q' ∧ act j q') ∨ (e = true ∧ E j)) ⟨fun q k1 k2 => S.z q k1 (by omega), fun j q k1 k2 => (S.st j q k1 (by omega)).trans (by
      constructor
      · rintro ⟨c, hc, hs, h⟩
        refine ⟨c, hc, ?_, ?_⟩
        · rcases hs with hs | hs
          · exact hs
          · have := SgP_in hs
            omega
        · rcases h with ⟨q', h3, (h4 | h4) | (⟨h4, h5⟩ | h4)⟩ | ⟨⟨h3, h4⟩ | h3, h5⟩
          · exact .inl ⟨q', h3, h4⟩
          · have := EdP_in h4
            omega
          · exact .inr ⟨h5, .inl ⟨q', h4, h3⟩⟩
          · have := (Lk_in h4).2
            omega
          · exact .inr ⟨h4, .inr ⟨h3, h5⟩⟩
          · have := FiR_in h3
            omega
      · rintro ⟨c, hc, hs, h⟩
        refine ⟨c, hc, .inl hs, ?_⟩
        rcases h with ⟨q', h3, h4⟩ | ⟨h3, ⟨q', h4, h5⟩ | ⟨h4, h5⟩⟩
        · exact .inl ⟨q', h3, .inl (.inl h4)⟩
        · exact .inl ⟨q', h5, .inr (.inl ⟨h4, h3⟩)⟩
        · exact .inr ⟨.inl ⟨h4, h3⟩, h5⟩)⟩
    have hE : ∀ m, m ≤ s.length → (((∃ q', acc q' ∧ act m q') ∨ (e = true ∧ E m)) ↔ ∃ i, i ≤ m ∧ E i ∧ X (sub s i m)) := by
      intro m hm
      constructor
      · rintro (h | ⟨h2, h3⟩)
        · obtain ⟨i, k1, k2, k3⟩ := (hx m hm).mp h
          exact ⟨i, by omega, k2, k3⟩
        · refine ⟨m, Nat.le_refl _, h3, ?_⟩
          rw [sub_self]
          exact he.mp h2
      · rintro ⟨i, k1, k2, k3⟩
        by_cases hi : i = m
        · subst hi
          rw [sub_self] at k3
          exact .inr ⟨he.mpr k3, k2⟩
        · exact .inl ((hx m hm).mpr ⟨i, by omega, k2, k3⟩)
    have h2 := simR r (a + nl p) act s E (fun q => (Emp p = true ∧ acc q) ∨ La p a q) (e && Emp p) (fun t => ∃ u v, t = u ++ v ∧ X u ∧ Tells p v)
      ⟨fun q k1 k2 => S.z q (by omega) (by omega), fun j q k1 k2 => (S.st j q (by omega) (by omega)).trans (by
        constructor
        · rintro ⟨c, hc, hs, h⟩
          refine ⟨c, hc, ?_, ?_⟩
          · rcases hs with hs | hs
            · have := Sg_in hs
              omega
            · exact hs
          · rcases h with ⟨q', h3, (h4 | h4) | (⟨h4, h5⟩ | h4)⟩ | ⟨⟨h3, h4⟩ | h3, h5⟩
            · have := Ed_in h4
              omega
            · exact .inl ⟨q', h3, .inl h4⟩
            · have := Fi_in h5
              omega
            · exact .inl ⟨q', h3, .inr h4⟩
            · have := Fi_in h4
              omega
            · exact .inr ⟨h3, h5⟩
        · rintro ⟨c, hc, hs, h⟩
          refine ⟨c, hc, .inr hs, ?_⟩
          rcases h with ⟨q', h3, h4 | h4⟩ | ⟨h3, h4⟩
          · exact .inl ⟨q', h3, .inl (.inr h4)⟩
          · exact .inl ⟨q', h3, .inr (.inr h4)⟩
          · exact .inr ⟨.inr h3, h4⟩)⟩
      (fun q h => by
        rcases h with ⟨_, h⟩ | h
        · have := ha q h
          omega
        · exact (La_in h).2)
      (fun j hj => by
        constructor
        · rintro ⟨q, ⟨h3, h4⟩ | h3, h5⟩
          · obtain ⟨i, k1, k2, k3⟩ := (hx j hj).mp ⟨q, h4, h5⟩
            exact ⟨i, k1, k2, _, [], (List.append_nil _).symm, k3, (emp_iff p).mp h3⟩
          · obtain ⟨m, k1, k2, k3⟩ := (h1 j hj).mp ⟨q, h3, h5⟩
            obtain ⟨i, k4, k5, k6⟩ := (hE m (by omega)).mp k2
            exact ⟨i, by omega, k5, _, _, sub_app k4 (by omega), k6, k3⟩
        · rintro ⟨i, k1, k2, u, v, h3, h4, h5⟩
          obtain ⟨m, m1, m2, rfl, rfl⟩ := sub_split hj (by omega) h3
          by_cases hm : m = j
          · subst hm
            rw [sub_self] at h5
            obtain ⟨q, k3, k4⟩ := (hx m hj).mpr ⟨i, k1, k2, h4⟩
            exact ⟨q, .inl ⟨(emp_iff p).mpr h5, k3⟩, k4⟩
          · obtain ⟨q, k3, k4⟩ := (h1 j hj).mpr ⟨m, by omega, (hE m (by omega)).mpr ⟨i, m1, k2, h4⟩, h5⟩
            exact ⟨q, .inr k3, k4⟩)
      (by
        rw [Bool.and_eq_true, he, emp_iff p]
        constructor
        · rintro ⟨h3, h4⟩
          exact ⟨[], [], rfl, h3, h4⟩
        · rintro ⟨u, v, h3, h4, h5⟩
          have := List.append_eq_nil_iff.mp h3.symm
          rw [this.1] at h4
          rw [this.2] at h5
          exact ⟨h4, h5⟩) j hj
    refine h2.trans ⟨?_, ?_⟩
    · rintro ⟨i, k1, k2, u, v, h3, ⟨u1, u2, rfl, h4, h5⟩, h6⟩
      exact ⟨i, k1, k2, u1, u2 ++ v, by rw [h3, List.append_assoc], h4, u2, v, rfl, h5, h6⟩
    · rintro ⟨i, k1, k2, u, v, h3, h4, v1, v2, rfl, h5, h6⟩
      exact ⟨i, k1, k2, u ++ v1, v2, by rw [h3, List.append_assoc], ⟨u, v1, rfl, h4, h5⟩, h6⟩
end
end Ab
namespace Ab
open PySem PySem.Spec PyProof.Rows L2
/-! ### the leaves as the program keeps them, and the leaves as told in Ml3 -/
theorem linkL_get (f : Nat) : ∀ (bs af : List Nat) (i : Nat), (∀ b ∈ bs, b < af.length) → (linkL af bs f).getD i 0 = if i ∈ bs then af.getD i 0 ||| f else af.getD i 0
  | [], af, i, _ => by
    rw [if_neg (by simp)]
    rfl
  | b :: bs, af, i, h => by
    have hb := h b List.mem_cons_self
    have ih := linkL_get f bs (af.set b (af.getD b 0 ||| f)) i fun x hx => by
      rw [List.length_set]
      exact h x (List.mem_cons_of_mem _ hx)
    have hs : (af.set b (af.getD b 0 ||| f)).getD i 0 = if i = b then af.getD b 0 ||| f else af.getD i 0 := by
      by_cases e : i = b
      · subst e
        rw [if_pos rfl, List.getD_eq_getElem?_getD, List.getElem?_set_self hb]
        rfl
      · rw [if_neg e, List.getD_eq_getElem?_getD, List.getElem?_set_ne (Ne.symm e), ← List.getD_eq_getElem?_getD]
    show (linkL (af.set b (af.getD b 0 ||| f)) bs f).getD i 0 = _
    rw [ih, hs]
    by_cases e : i = b
    · subst e
      rw [if_pos rfl, if_pos List.mem_cons_self]
      split
      · rw [Nat.or_assoc, Nat.or_self]
      · rfl
    · rw [if_neg e]
      by_cases q : i ∈ bs
      · rw [if_pos q, if_pos (List.mem_cons_of_mem _ q)]
      · rw [if_neg q, if_neg fun z => by
          rcases List.mem_cons.mp z with z | z
          · exact e z
          · exact q z]
def edL (L : LV) (i j : Nat) : Prop := (L.after.getD i 0).testBit j = true
def hvL (L : LV) (q c : Nat) : Prop := (hget L.having c).testBit q = true
theorem or_bit {a b q : Nat} : (a ||| b).testBit q = true ↔ a.testBit q = true ∨ b.testBit q = true := by
  rw [Nat.testBit_or, Bool.or_eq_true]
theorem pow_bit {n q : Nat} : (2 ^ n).testBit q = true ↔ q = n := by
  rw [Nat.testBit_two_pow]
  constructor
  · intro h
    exact (of_decide_eq_true h).symm
  · intro h
    exact decide_eq_true h.symm
theorem link_ed {L : LV} (hL : L.Ok) {l f : Nat} (hl : l < 2 ^ L.signs.length) (i j : Nat) : edL (link L l f) i j ↔ edL L i j ∨ (l.testBit i = true ∧ f.testBit j = true) := by
  unfold edL
  show ((linkL L.after (bitsOf l) f).getD i 0).testBit j = true ↔ _
  rw [linkL_get f _ _ _ fun b hb => by rw [hL.len]; exact bitsOf_lt hl hb]
  by_cases h : i ∈ bitsOf l
  · rw [if_pos h, or_bit]
    have := bitsOf_mem.mp h
    exact ⟨fun z => z.imp id fun z => ⟨this, z⟩, fun z => z.imp id fun z => z.2⟩
  · rw [if_neg h]
    exact ⟨.inl, fun z => z.elim id fun z => absurd (bitsOf_mem.mpr z.1) h⟩
structure ShEq (s : Sh) (p : Pat) (a : Nat) : Prop where
  e : s.e = Emp p
  f : ∀ q, s.f.testBit q = true ↔ Fi p a q
  l : ∀ q, s.l.testBit q = true ↔ La p a q
def ShsEq : List Pat → Nat → List Sh → Prop
  | [], _, [] => True
  | p :: r, a, s :: shs => ShEq s p a ∧ ShsEq r (a + nl p) shs
  | _, _, _ => False
theorem rowGo_eq : ∀ (ps : List Pat) (a : Nat) (shs : List Sh) (L : LV) (s : Sh) (acc : Nat → Prop), ShsEq ps a shs → L.Ok → s.In L.signs.length → (∀ p ∈ shs, p.In L.signs.length) → (∀ q, s.l.testBit q = true ↔ acc q) →
    (rowGo L s shs).2.e = (s.e && EmpR ps) ∧ (∀ q, (rowGo L s shs).2.f.testBit q = true ↔ s.f.testBit q = true ∨ FiR ps a s.e q) ∧ (∀ q, (rowGo L s shs).2.l.testBit q = true ↔ LaR ps a acc q) ∧ ∀ i j, edL (rowGo L s shs).1 i j ↔ edL L i j ∨ Lk ps a acc i j
  | [], a, [], L, s, acc, h, hL, hs, hp, hl => by
    refine ⟨?_, fun q => ?_, hl, fun i j => ?_⟩
    · show s.e = (s.e && true)
      rw [Bool.and_true]
    · exact ⟨.inl, fun z => z.elim id fun z => z.elim⟩
    · exact ⟨.inl, fun z => z.elim id fun z => z.elim⟩
  | [], a, _ :: _, L, s, acc, h, hL, hs, hp, hl => h.elim
  | p :: r, a, [], L, s, acc, h, hL, hs, hp, hl => h.elim
  | p :: r, a, x :: shs, L, s, acc, h, hL, hs, hp, hl => by
    obtain ⟨hx, h⟩ := h
    have hxi := hp x List.mem_cons_self
    have acc' : ∀ q, ((if x.e = true then s.l else 0) ||| x.l).testBit q = true ↔ (Emp p = true ∧ acc q) ∨ La p a q := fun q => by
      rw [or_bit, hx.l q, ← hx.e]
      by_cases z : x.e = true
      · rw [if_pos z, hl q]
        exact ⟨fun w => w.imp (fun w => ⟨z, w⟩) id, fun w => w.imp (fun w => w.2) id⟩
      · rw [if_neg z, Nat.zero_testBit]
        exact ⟨fun w => w.elim (fun w => (by cases w)) .inr, fun w => w.elim (fun w => absurd w.1 z) .inr⟩
    obtain ⟨k1, k2, k3, k4⟩ := rowGo_eq r (a + nl p) shs (link L s.l x.f) ⟨s.e && x.e, if s.e = true then s.f ||| x.f else s.f, (if x.e = true then s.l else 0) ||| x.l⟩ _ h (link_ok hL _ _) (row_in hs hxi) (fun q hq => hp q (List.mem_cons_of_mem _ hq)) acc'
    have he : (s.e && x.e) = (s.e && Emp p) := by rw [hx.e]
    refine ⟨?_, fun q => ?_, k3, fun i j => ?_⟩
    · refine k1.trans ?_
      show ((s.e && x.e) && EmpR r) = (s.e && (Emp p && EmpR r))
      rw [he, Bool.and_assoc]
    · refine (k2 q).trans ?_
      show (if s.e = true then s.f ||| x.f else s.f).testBit q = true ∨ FiR r (a + nl p) (s.e && x.e) q ↔ s.f.testBit q = true ∨ ((s.e = true ∧ Fi p a q) ∨ FiR r (a + nl p) (s.e && Emp p) q)
      rw [he]
      by_cases z : s.e = true
      · rw [if_pos z, or_bit, hx.f q]
        constructor
        · rintro ((w | w) | w)
          · exact .inl w
          · exact .inr (.inl ⟨z, w⟩)
          · exact .inr (.inr w)
        · rintro (w | ⟨_, w⟩ | w)
          · exact .inl (.inl w)
          · exact .inl (.inr w)
          · exact .inr w
      · rw [if_neg z]
        constructor
        · rintro (w | w)
          · exact .inl w
          · exact .inr (.inr w)
        · rintro (w | ⟨w, _⟩ | w)
          · exact .inl w
          · exact absurd w z
          · exact .inr w
    · refine (k4 i j).trans ?_
      rw [link_ed hL hs.l, hl i, hx.f j]
      exact or_assoc
theorem orGo_eq : ∀ (ps : List Pat) (a : Nat) (shs : List Sh) (s : Sh), ShsEq ps a shs →
    (orGo s shs).e = (s.e || EmpO ps) ∧ (∀ q, (orGo s shs).f.testBit q = true ↔ s.f.testBit q = true ∨ FiO ps a q) ∧ ∀ q, (orGo s shs).l.testBit q = true ↔ s.l.testBit q = true ∨ LaO ps a q
  | [], a, [], s, h => ⟨by show s.e = (s.e || false); rw [Bool.or_false], fun q => ⟨.inl, fun z => z.elim id fun z => z.elim⟩, fun q => ⟨.inl, fun z => z.elim id fun z => z.elim⟩⟩
  | [], a, _ :: _, s, h => h.elim
  | p :: r, a, [], s, h => h.elim
  | p :: r, a, x :: shs, s, h => by
    obtain ⟨hx, h⟩ := h
    obtain ⟨k1, k2, k3⟩ := orGo_eq r (a + nl p) shs ⟨s.e || x.e, s.f ||| x.f, s.l ||| x.l⟩ h
    refine ⟨?_, fun q => ?_, fun q => ?_⟩
    · refine k1.trans ?_
      show ((s.e || x.e) || EmpO r) = (s.e || (Emp p || EmpO r))
      rw [hx.e, Bool.or_assoc]
    · refine (k2 q).trans ?_
      show (s.f ||| x.f).testBit q = true ∨ _ ↔ _
      rw [or_bit, hx.f q]
      exact or_assoc
    · refine (k3 q).trans ?_
      show (s.l ||| x.l).testBit q = true ∨ _ ↔ _
      rw [or_bit, hx.l q]
      exact or_assoc
mutual
theorem shape_eq : ∀ (p : Pat) (L : LV), L.Ok → Wf p → L.signs.length + nl p ≤ 61 → ShEq (shape p L).2 p L.signs.length ∧ (∀ i j, edL (shape p L).1 i j ↔ edL L i j ∨ Ed p L.signs.length i j) ∧ ∀ q c, hvL (shape p L).1 q c ↔ hvL L q c ∨ Sg p L.signs.length q c
  | .one s, L, h, hw, hl => by
    refine ⟨⟨rfl, fun q => pow_bit, fun q => pow_bit⟩, fun i j => ?_, fun q c => ?_⟩
    · have : (L.after ++ [0]).getD i 0 = L.after.getD i 0 := by
        rw [List.getD_eq_getElem?_getD, List.getD_eq_getElem?_getD]
        rcases Nat.lt_or_ge i L.after.length with z | z
        · rw [List.getElem?_append_left z]
        · rw [List.getElem?_append_right z, List.getElem?_eq_none (l := L.after) z]
          cases i - L.after.length <;> rfl
      show ((L.after ++ [0]).getD i 0).testBit j = true ↔ edL L i j ∨ False
      rw [this, or_false]
      exact Iff.rfl
    · show (hget (hadd (2 ^ L.signs.length) L.having s) c).testBit q = true ↔ hvL L q c ∨ (q = L.signs.length ∧ c ∈ s)
      rw [hadd_get]
      by_cases z : c ∈ s
      · rw [if_pos z, or_bit, pow_bit]
        exact ⟨fun w => w.imp id fun w => ⟨w, z⟩, fun w => w.imp id fun w => w.1⟩
      · rw [if_neg z]
        exact ⟨.inl, fun w => w.elim id fun w => absurd w.2 z⟩
  | .row ps, L, h, hw, hl => by
    obtain ⟨h1, h2, h3⟩ := shapes_eq ps L h hw.1 hl
    obtain ⟨k1, k2, k3⟩ := shapes_ok ps L h hw.1 hl
    obtain ⟨r1, r2, r3, r4⟩ := rowGo_eq ps L.signs.length (shapes ps L).2 (shapes ps L).1 ⟨true, 0, 0⟩ (fun _ => False) h1 k1.ok (bare_in _ _) k2 fun q => by rw [Nat.zero_testBit]; exact ⟨fun z => (by cases z), fun z => z.elim⟩
    have r5 := (rowGo_ok (shapes ps L).2 (shapes ps L).1 ⟨true, 0, 0⟩ k1.ok (bare_in _ _) k2).2.2.1
    refine ⟨⟨r1.trans (Bool.true_and _), fun q => (r2 q).trans ?_, r3⟩, fun i j => (r4 i j).trans ?_, fun q c => ?_⟩
    · show (0 : Nat).testBit q = true ∨ _ ↔ FiR ps L.signs.length true q
      rw [Nat.zero_testBit]
      exact ⟨fun z => z.elim (fun z => (by cases z)) id, .inr⟩
    · rw [h2 i j]
      exact or_assoc
    · show (hget (rowGo (shapes ps L).1 ⟨true, 0, 0⟩ (shapes ps L).2).1.having c).testBit q = true ↔ _
      rw [r5]
      exact h3 q c
  | .or ps, L, h, hw, hl => by
    obtain ⟨h1, h2, h3⟩ := shapes_eq ps L h hw.1 hl
    obtain ⟨r1, r2, r3⟩ := orGo_eq ps L.signs.length (shapes ps L).2 ⟨false, 0, 0⟩ h1
    refine ⟨⟨r1.trans (Bool.false_or _), fun q => (r2 q).trans ?_, fun q => (r3 q).trans ?_⟩, h2, h3⟩
    · show (0 : Nat).testBit q = true ∨ _ ↔ _
      rw [Nat.zero_testBit]
      exact ⟨fun z => z.elim (fun z => (by cases z)) id, .inr⟩
    · show (0 : Nat).testBit q = true ∨ _ ↔ _
      rw [Nat.zero_testBit]
      exact ⟨fun z => z.elim (fun z => (by cases z)) id, .inr⟩
  | .many p, L, h, hw, hl => by
    obtain ⟨h1, h2, h3⟩ := shape_eq p L h hw hl
    obtain ⟨k1, k2⟩ := shape_ok p L h hw hl
    refine ⟨⟨rfl, h1.f, h1.l⟩, fun i j => (link_ed k1.ok k2.l i j).trans ?_, h3⟩
    rw [h2 i j, h1.l i, h1.f j]
    exact or_assoc
  | .maybe p, L, h, hw, hl => by
    obtain ⟨h1, h2, h3⟩ := shape_eq p L h hw hl
    exact ⟨⟨rfl, h1.f, h1.l⟩, h2, h3⟩
theorem shapes_eq : ∀ (ps : List Pat) (L : LV), L.Ok → Wfs ps → L.signs.length + nls ps ≤ 61 → ShsEq ps L.signs.length (shapes ps L).2 ∧ (∀ i j, edL (shapes ps L).1 i j ↔ edL L i j ∨ EdP ps L.signs.length i j) ∧ ∀ q c, hvL (shapes ps L).1 q c ↔ hvL L q c ∨ SgP ps L.signs.length q c
  | [], L, h, hw, hl => ⟨trivial, fun i j => ⟨.inl, fun z => z.elim id fun z => z.elim⟩, fun q c => ⟨.inl, fun z => z.elim id fun z => z.elim⟩⟩
  | p :: r, L, h, hw, hl => by
    have hn := nls_cons p r
    obtain ⟨h1, h2, h3⟩ := shape_eq p L h hw.1 (by omega)
    obtain ⟨k1, k2⟩ := shape_ok p L h hw.1 (by omega)
    obtain ⟨g1, g2, g3⟩ := shapes_eq r (shape p L).1 k1.ok hw.2 (by rw [k1.len]; omega)
    rw [k1.len] at g1 g2 g3
    refine ⟨⟨h1, g1⟩, fun i j => (g2 i j).trans ?_, fun q c => (g3 q c).trans ?_⟩
    · rw [h2 i j]
      exact or_assoc
    · rw [h3 q c]
      exact or_assoc
end
/-! ### all patterns -/
def addPat (L : LV) (p : Pat) : LV := { link (shape p L).1 1 (shape p L).2.f with ends := (shape p L).1.ends ++ [if (shape p L).2.e = true then (shape p L).2.l ||| 1 else (shape p L).2.l] }
theorem leavesGo_cons (p : Pat) (r : List Pat) (L : LV) : leavesGo (p :: r) L = leavesGo r (addPat L p) := rfl
theorem leavesGo_snoc : ∀ (ps : List Pat) (p : Pat) (L : LV), leavesGo (ps ++ [p]) L = addPat (leavesGo ps L) p
  | [], p, L => rfl
  | q :: ps, p, L => leavesGo_snoc ps p (addPat L q)
theorem addPat_ok {L : LV} {p : Pat} (h : L.Ok) (hw : Wf p) (hl : L.signs.length + nl p ≤ 61) : (addPat L p).Ok ∧ (addPat L p).signs.length = L.signs.length + nl p ∧ (addPat L p).ends.length = L.ends.length + 1 := by
  obtain ⟨k1, k2⟩ := shape_ok p L h hw hl
  have k := link_ok k1.ok 1 (shape p L).2.f
  refine ⟨⟨k.pos, k.len, k.few, k.hav, k.hv⟩, k1.len, ?_⟩
  show ((shape p L).1.ends ++ [_]).length = _
  rw [List.length_append, k1.ends]
  rfl
theorem leavesGo_ok : ∀ (ps : List Pat) (L : LV), L.Ok → Wfs ps → L.signs.length + nls ps ≤ 61 → (leavesGo ps L).Ok ∧ (leavesGo ps L).signs.length = L.signs.length + nls ps ∧ (leavesGo ps L).ends.length = L.ends.length + ps.length
  | [], L, h, _, _ => ⟨h, rfl, rfl⟩
  | p :: r, L, h, hw, hl => by
    have hn := nls_cons p r
    obtain ⟨k1, k2, k3⟩ := addPat_ok (p := p) h hw.1 (by omega)
    obtain ⟨g1, g2, g3⟩ := leavesGo_ok r (addPat L p) k1 hw.2 (by omega)
    refine ⟨g1, ?_, ?_⟩
    · show (leavesGo r (addPat L p)).signs.length = _
      omega
    · show (leavesGo r (addPat L p)).ends.length = L.ends.length + (r.length + 1)
      omega
def EndsEq : List Pat → Nat → List Nat → Prop
  | [], _, [] => True
  | p :: r, a, m :: es => (∀ q, m.testBit q = true ↔ La p a q ∨ (q = 0 ∧ Emp p = true)) ∧ EndsEq r (a + nl p) es
  | _, _, _ => False
theorem one_bit {q : Nat} : (1 : Nat).testBit q = true ↔ q = 0 := pow_bit (n := 0)
theorem leavesGo_eq : ∀ (ps : List Pat) (L : LV), L.Ok → Wfs ps → L.signs.length + nls ps ≤ 61 → (∀ i j, edL (leavesGo ps L) i j ↔ edL L i j ∨ (EdP ps L.signs.length i j ∨ (i = 0 ∧ FiO ps L.signs.length j))) ∧ (∀ q c, hvL (leavesGo ps L) q c ↔ hvL L q c ∨ SgP ps L.signs.length q c) ∧
    ∃ es, (leavesGo ps L).ends = L.ends ++ es ∧ EndsEq ps L.signs.length es
  | [], L, h, _, _ => ⟨fun i j => ⟨.inl, fun z => z.elim id fun z => z.elim (fun z => z.elim) fun z => z.2.elim⟩, fun q c => ⟨.inl, fun z => z.elim id fun z => z.elim⟩, [], (List.append_nil _).symm, trivial⟩
  | p :: r, L, h, hw, hl => by
    have hn := nls_cons p r
    obtain ⟨h1, h2, h3⟩ := shape_eq p L h hw.1 (by omega)
    obtain ⟨k1, k2⟩ := shape_ok p L h hw.1 (by omega)
    obtain ⟨a1, a2, a3⟩ := addPat_ok (p := p) h hw.1 (by omega)
    obtain ⟨g1, g2, es, g3, g4⟩ := leavesGo_eq r (addPat L p) a1 hw.2 (by omega)
    rw [a2] at g1 g2 g4
    have hpos := h.pos
    refine ⟨fun i j => (g1 i j).trans ?_, fun q c => (g2 q c).trans ?_, (if (shape p L).2.e = true then (shape p L).2.l ||| 1 else (shape p L).2.l) :: es, ?_, ?_, g4⟩
    · have : edL (addPat L p) i j ↔ edL (link (shape p L).1 1 (shape p L).2.f) i j := Iff.rfl
      rw [this, link_ed k1.ok (Nat.one_lt_two_pow (by have := k1.ok.pos; omega)), h2 i j, one_bit, h1.f j]
      constructor
      · rintro (((w | w) | ⟨w1, w2⟩) | (w | ⟨w1, w2⟩))
        · exact .inl w
        · exact .inr (.inl (.inl w))
        · exact .inr (.inr ⟨w1, .inl w2⟩)
        · exact .inr (.inl (.inr w))
        · exact .inr (.inr ⟨w1, .inr w2⟩)
      · rintro (w | (w | w) | ⟨w1, w2 | w2⟩)
        · exact .inl (.inl (.inl w))
        · exact .inl (.inl (.inr w))
        · exact .inr (.inl w)
        · exact .inl (.inr ⟨w1, w2⟩)
        · exact .inr (.inr ⟨w1, w2⟩)
    · have : hvL (addPat L p) q c ↔ hvL (shape p L).1 q c := Iff.rfl
      rw [this, h3 q c]
      exact or_assoc
    · rw [leavesGo_cons, g3]
      show ((shape p L).1.ends ++ [_]) ++ es = _
      rw [k1.ends, List.append_assoc]
      rfl
    · intro q
      rw [← h1.e]
      by_cases z : (shape p L).2.e = true
      · rw [if_pos z, or_bit, h1.l q, one_bit]
        exact ⟨fun w => w.imp id fun w => ⟨w, z⟩, fun w => w.imp id fun w => w.1⟩
      · rw [if_neg z, h1.l q]
        exact ⟨.inl, fun w => w.elim id fun w => absurd w.2 z⟩
theorem or_split {p : Pat} {r : List Pat} {a : Nat} {act : Nat → Nat → Prop} {s : List Nat} {E : Nat → Prop} (S : Sim a (nls (p :: r)) act s (SgP (p :: r) a) (fun j q => (∃ q', act j q' ∧ EdP (p :: r) a q' q) ∨ (FiO (p :: r) a q ∧ E j))) :
    Sim a (nl p) act s (Sg p a) (fun j q => (∃ q', act j q' ∧ Ed p a q' q) ∨ (Fi p a q ∧ E j)) ∧ Sim (a + nl p) (nls r) act s (SgP r (a + nl p)) (fun j q => (∃ q', act j q' ∧ EdP r (a + nl p) q' q) ∨ (FiO r (a + nl p) q ∧ E j)) := by
  have hn := nls_cons p r
  refine ⟨⟨fun q k1 k2 => S.z q k1 (by omega), fun j q k1 k2 => (S.st j q k1 (by omega)).trans ?_⟩, ⟨fun q k1 k2 => S.z q (by omega) (by omega), fun j q k1 k2 => (S.st j q (by omega) (by omega)).trans ?_⟩⟩
  · constructor
    · rintro ⟨c, hc, hs, h⟩
      refine ⟨c, hc, ?_, ?_⟩
      · rcases hs with hs | hs
        · exact hs
        · have := SgP_in hs
          omega
      · rcases h with ⟨q', h3, h4 | h4⟩ | ⟨h3 | h3, h4⟩
        · exact .inl ⟨q', h3, h4⟩
        · have := EdP_in h4
          omega
        · exact .inr ⟨h3, h4⟩
        · have := FiO_in h3
          omega
    · rintro ⟨c, hc, hs, h⟩
      refine ⟨c, hc, .inl hs, ?_⟩
      rcases h with ⟨q', h3, h4⟩ | ⟨h3, h4⟩
      · exact .inl ⟨q', h3, .inl h4⟩
      · exact .inr ⟨.inl h3, h4⟩
  · constructor
    · rintro ⟨c, hc, hs, h⟩
      refine ⟨c, hc, ?_, ?_⟩
      · rcases hs with hs | hs
        · have := Sg_in hs
          omega
        · exact hs
      · rcases h with ⟨q', h3, h4 | h4⟩ | ⟨h3 | h3, h4⟩
        · have := Ed_in h4
          omega
        · exact .inl ⟨q', h3, h4⟩
        · have := Fi_in h3
          omega
        · exact .inr ⟨h3, h4⟩
    · rintro ⟨c, hc, hs, h⟩
      refine ⟨c, hc, .inr hs, ?_⟩
      rcases h with ⟨q', h3, h4⟩ | ⟨h3, h4⟩
      · exact .inl ⟨q', h3, .inr h4⟩
      · exact .inr ⟨.inr h3, h4⟩
theorem ends_tell {act : Nat → Nat → Prop} {s : List Nat} (h0 : act s.length 0 ↔ s.length = 0) : ∀ (ps : List Pat) (a : Nat) (es : List Nat), Sim a (nls ps) act s (SgP ps a) (fun j q => (∃ q', act j q' ∧ EdP ps a q' q) ∨ (FiO ps a q ∧ j = 0)) → EndsEq ps a es →
    ∀ (k : Nat) (p : Pat) (m : Nat), ps[k]? = some p → es[k]? = some m → ((∃ q, m.testBit q = true ∧ act s.length q) ↔ Tells p s)
  | [], a, es, S, h, k, p, m, hp, hm => by simp at hp
  | x :: r, a, [], S, h, k, p, m, hp, hm => h.elim
  | x :: r, a, y :: es, S, h, 0, p, m, hp, hm => by
    cases hp
    cases hm
    have key := sim x a act s (fun j => j = 0) (or_split S).1 s.length (Nat.le_refl _)
    constructor
    · rintro ⟨q, h1, h2⟩
      rcases (h.1 q).mp h1 with h3 | ⟨rfl, h3⟩
      · obtain ⟨i, _, rfl, h4⟩ := key.mp ⟨q, h3, h2⟩
        rw [sub_all] at h4
        exact h4
      · have := List.eq_nil_of_length_eq_zero (h0.mp h2)
        subst this
        exact (emp_iff x).mp h3
    · intro ht
      by_cases z : s.length = 0
      · have := List.eq_nil_of_length_eq_zero z
        subst this
        exact ⟨0, (h.1 0).mpr (.inr ⟨rfl, (emp_iff x).mpr ht⟩), h0.mpr z⟩
      · obtain ⟨q, h3, h4⟩ := key.mpr ⟨0, by omega, rfl, by rw [sub_all]; exact ht⟩
        exact ⟨q, (h.1 q).mpr (.inl h3), h4⟩
  | x :: r, a, y :: es, S, h, k + 1, p, m, hp, hm => ends_tell h0 r (a + nl x) es (or_split S).2 h.2 k p m (by simpa using hp) (by simpa using hm)
structure PsOk (ps : List Pat) : Prop where
  wf : Wfs ps
  one : 1 ≤ ps.length
  few : ps.length ≤ 8
  lv : nls ps ≤ 60
  dp : deps ps ≤ 30
theorem PsOk.fit {ps : List Pat} (h : PsOk ps) : LV.new.signs.length + nls ps ≤ 61 := by
  have := h.lv
  show 1 + nls ps ≤ 61
  omega
theorem follow_bit (af : List Nat) (q : Nat) : ∀ (bs : List Nat) (r0 : Nat), (bs.foldl (fun r i => r ||| af.getD i 0) r0).testBit q = true ↔ r0.testBit q = true ∨ ∃ i, i ∈ bs ∧ (af.getD i 0).testBit q = true
  | [], r0 => ⟨.inl, fun z => z.elim id fun ⟨i, h, _⟩ => (by cases h)⟩
  | b :: bs, r0 => by
    refine (follow_bit af q bs (r0 ||| af.getD b 0)).trans ?_
    rw [or_bit]
    constructor
    · rintro ((w | w) | ⟨i, h1, h2⟩)
      · exact .inl w
      · exact .inr ⟨b, List.mem_cons_self, w⟩
      · exact .inr ⟨i, List.mem_cons_of_mem _ h1, h2⟩
    · rintro (w | ⟨i, h1, h2⟩)
      · exact .inl (.inl w)
      · rcases List.mem_cons.mp h1 with rfl | h1
        · exact .inl (.inr h2)
        · exact .inr ⟨i, h1, h2⟩
theorem step_bit (L : LV) (h c q : Nat) : (stepL L h c).testBit q = true ↔ hvL L q c ∧ ∃ q', h.testBit q' = true ∧ edL L q' q := by
  show (follow L.after (bitsOf h) &&& hget L.having c).testBit q = true ↔ _
  rw [Nat.testBit_and, Bool.and_eq_true]
  unfold follow
  rw [follow_bit, Nat.zero_testBit]
  constructor
  · rintro ⟨w | ⟨i, h1, h2⟩, h3⟩
    · cases w
    · exact ⟨h3, i, bitsOf_mem.mp h1, h2⟩
  · rintro ⟨h3, i, h1, h2⟩
    exact ⟨.inr ⟨i, bitsOf_mem.mpr h1, h2⟩, h3⟩
theorem stepL_lt {L : LV} (hL : L.Ok) (h c : Nat) : stepL L h c < 2 ^ L.signs.length := Nat.and_lt_two_pow _ (hL.hv c)
theorem runL_snoc (L : LV) (s : List Nat) (c : Nat) : runL L (s ++ [c]) = stepL L (runL L s) c := by
  unfold runL
  rw [List.foldl_append]
  rfl
theorem runL_lt {L : LV} (hL : L.Ok) (s : List Nat) : runL L s < 2 ^ L.signs.length := by
  rcases List.eq_nil_or_concat s with rfl | ⟨t, c, rfl⟩
  · exact Nat.one_lt_two_pow (by have := hL.pos; omega)
  · rw [List.concat_eq_append, runL_snoc]
    exact stepL_lt hL _ _
/-- which leaves are come to -/
def actL (L : LV) (s : List Nat) (j q : Nat) : Prop := j ≤ s.length ∧ (runL L (s.take j)).testBit q = true
theorem act_zero (L : LV) (s : List Nat) (q : Nat) : actL L s 0 q ↔ q = 0 := by
  unfold actL
  show 0 ≤ s.length ∧ (1 : Nat).testBit q = true ↔ _
  rw [one_bit]
  exact ⟨fun h => h.2, fun h => ⟨Nat.zero_le _, h⟩⟩
theorem act_succ (L : LV) (s : List Nat) (j q : Nat) : actL L s (j + 1) q ↔ ∃ c, s[j]? = some c ∧ hvL L q c ∧ ∃ q', actL L s j q' ∧ edL L q' q := by
  unfold actL
  by_cases h : j < s.length
  · have hc := List.getElem?_eq_getElem h
    rw [List.take_add_one, hc]
    show j + 1 ≤ s.length ∧ (runL L (s.take j ++ [s[j]])).testBit q = true ↔ _
    rw [runL_snoc, step_bit]
    constructor
    · rintro ⟨_, h1, q', h2, h3⟩
      exact ⟨_, rfl, h1, q', ⟨by omega, h2⟩, h3⟩
    · rintro ⟨c, hc2, h1, q', ⟨_, h2⟩, h3⟩
      cases hc2
      exact ⟨h, h1, q', h2, h3⟩
  · constructor
    · rintro ⟨h1, _⟩
      omega
    · rintro ⟨c, hc, _⟩
      rw [List.getElem?_eq_none (by omega)] at hc
      cases hc
theorem edL_new (i j : Nat) : ¬ edL LV.new i j := fun h => by
  have h : (([0] : List Nat).getD i 0).testBit j = true := h
  cases i with
  | zero =>
    have h : (0 : Nat).testBit j = true := h
    rw [Nat.zero_testBit] at h
    cases h
  | succ i =>
    have h : (0 : Nat).testBit j = true := h
    rw [Nat.zero_testBit] at h
    cases h
theorem hvL_new (q c : Nat) : ¬ hvL LV.new q c := fun h => by
  have h : (0 : Nat).testBit q = true := h
  rw [Nat.zero_testBit] at h
  cases h
theorem leaves_tell {ps : List Pat} (h : PsOk ps) (s : List Nat) {k : Nat} {p : Pat} {m : Nat} (hp : ps[k]? = some p) (hm : (leavesOf ps).ends[k]? = some m) : m &&& runL (leavesOf ps) s ≠ 0 ↔ Tells p s := by
  obtain ⟨g1, g2, es, g3, g4⟩ := leavesGo_eq ps LV.new LV.new_ok h.wf h.fit
  have g3 : (leavesOf ps).ends = es := g3
  rw [g3] at hm
  have g1 : ∀ i j, edL (leavesOf ps) i j ↔ EdP ps 1 i j ∨ (i = 0 ∧ FiO ps 1 j) := fun i j => (g1 i j).trans ⟨fun w => w.elim (fun w => absurd w (edL_new i j)) id, .inr⟩
  have g2 : ∀ q c, hvL (leavesOf ps) q c ↔ SgP ps 1 q c := fun q c => (g2 q c).trans ⟨fun w => w.elim (fun w => absurd w (hvL_new q c)) id, .inr⟩
  have z0 : ∀ j, actL (leavesOf ps) s j 0 ↔ j = 0 := fun j => by
    cases j with
    | zero => exact act_zero _ _ _
    | succ j =>
      rw [act_succ]
      constructor
      · rintro ⟨c, _, h1, _⟩
        have := SgP_in ((g2 0 c).mp h1)
        omega
      · intro w
        cases w
  have S : Sim 1 (nls ps) (actL (leavesOf ps) s) s (SgP ps 1) (fun j q => (∃ q', actL (leavesOf ps) s j q' ∧ EdP ps 1 q' q) ∨ (FiO ps 1 q ∧ j = 0)) := by
    refine ⟨fun q h1 _ h2 => ?_, fun j q h1 h2 => (act_succ _ _ _ _).trans ?_⟩
    · have := (act_zero _ _ _).mp h2
      omega
    · constructor
      · rintro ⟨c, hc, h3, q', h4, h5⟩
        refine ⟨c, hc, (g2 q c).mp h3, ?_⟩
        rcases (g1 q' q).mp h5 with h6 | ⟨rfl, h6⟩
        · exact .inl ⟨q', h4, h6⟩
        · exact .inr ⟨h6, (z0 j).mp h4⟩
      · rintro ⟨c, hc, h3, h4⟩
        refine ⟨c, hc, (g2 q c).mpr h3, ?_⟩
        rcases h4 with ⟨q', h4, h5⟩ | ⟨h4, h5⟩
        · exact ⟨q', h4, (g1 q' q).mpr (.inl h5)⟩
        · exact ⟨0, (z0 j).mpr h5, (g1 0 q).mpr (.inr ⟨rfl, h4⟩)⟩
  refine Iff.trans ?_ (ends_tell (z0 s.length) ps 1 es S g4 k p m hp hm)
  have hr : ∀ q, actL (leavesOf ps) s s.length q ↔ (runL (leavesOf ps) s).testBit q = true := fun q => by
    unfold actL
    rw [List.take_of_length_le (Nat.le_refl _)]
    exact ⟨fun w => w.2, fun w => ⟨Nat.le_refl _, w⟩⟩
  constructor
  · intro w
    obtain ⟨q, hq⟩ := Nat.exists_testBit_of_ne_zero w
    rw [Nat.testBit_and, Bool.and_eq_true] at hq
    exact ⟨q, hq.1, (hr q).mpr hq.2⟩
  · rintro ⟨q, h1, h2⟩ w
    have : (m &&& runL (leavesOf ps) s).testBit q = true := by
      rw [Nat.testBit_and, h1, (hr q).mp h2]
      rfl
    rw [w, Nat.zero_testBit] at this
    cases this
theorem leaves_ends {ps : List Pat} (h : PsOk ps) : (leavesOf ps).ends.length = ps.length := by
  have := (leavesGo_ok ps LV.new LV.new_ok h.wf h.fit).2.2
  have e : LV.new.ends.length = 0 := rfl
  show (leavesGo ps LV.new).ends.length = _
  omega
theorem leavesOf_ok {ps : List Pat} (h : PsOk ps) : (leavesOf ps).Ok := (leavesGo_ok ps LV.new LV.new_ok h.wf h.fit).1
/-- the number of the first pattern that tells a text -/
theorem told_some {ps : List Pat} (h : PsOk ps) {s : List Nat} {k : Nat} (ht : toldL (leavesOf ps) (runL (leavesOf ps) s) = some k) : ∃ p, ps[k]? = some p ∧ Tells p s ∧ ∀ j q, j < k → ps[j]? = some q → ¬ Tells q s := by
  unfold toldL at ht
  rw [List.findIdx?_eq_some_iff_getElem] at ht
  obtain ⟨hk, h1, h2⟩ := ht
  have hl := leaves_ends h
  have hk' : k < ps.length := by omega
  refine ⟨ps[k], List.getElem?_eq_getElem hk', ?_, fun j q hj hq => ?_⟩
  · exact (leaves_tell h s (List.getElem?_eq_getElem hk') (List.getElem?_eq_getElem hk)).mp (of_decide_eq_true h1)
  · intro w
    have hj' : j < (leavesOf ps).ends.length := by omega
    exact h2 j hj (decide_eq_true ((leaves_tell h s hq (List.getElem?_eq_getElem hj')).mpr w))
theorem told_none {ps : List Pat} (h : PsOk ps) {s : List Nat} (ht : toldL (leavesOf ps) (runL (leavesOf ps) s) = none) : ∀ p ∈ ps, ¬ Tells p s := by
  unfold toldL at ht
  rw [List.findIdx?_eq_none_iff] at ht
  intro p hp w
  obtain ⟨k, hk, rfl⟩ := List.mem_iff_getElem.mp hp
  have hk' : k < (leavesOf ps).ends.length := by rw [leaves_ends h]; exact hk
  have := ht _ (List.getElem_mem hk')
  exact of_decide_eq_false this ((leaves_tell h s (List.getElem?_eq_getElem hk) (List.getElem?_eq_getElem hk')).mpr w)
end Ab
namespace Ab
open PySem PySem.Spec PyProof.Rows L2
section
variable {K : PySem.W.Frag} {e : Env}
/-! ### lists of numbers -/
theorem nats_ints (ns : List Nat) : ns.map natD = (ns.map Int.ofNat).map .int := by
  rw [List.map_map]
  rfl
theorem mem_ints {i : Nat} {ns : List Nat} : ((i : Int) ∈ ns.map Int.ofNat) ↔ i ∈ ns := by
  rw [List.mem_map]
  constructor
  · rintro ⟨a, ha, h⟩
    have : a = i := Int.ofNat.inj h
    exact this ▸ ha
  · intro h
    exact ⟨i, h, rfl⟩
theorem a2_inN {neg : Bool} {i : Nat} {ns : List Nat} : A2 K (rIn K neg) (.d (natD i)) (.d (natsD ns)) e (.d (.bl (if neg = true then !decide (i ∈ ns) else decide (i ∈ ns)))) := by
  have h := a2_inI (K := K) (e := e) (neg := neg) (i := (i : Int)) (ns := ns.map Int.ofNat)
  have e1 : decide ((i : Int) ∈ ns.map Int.ofNat) = decide (i ∈ ns) := by rw [decide_eq_decide]; exact mem_ints
  rw [← nats_ints, e1] at h
  exact h
end
end Ab
namespace Ab
open PySem PySem.Spec PyProof.Rows L2
/-! ### how the law draws patterns -/
mutual
def over : Pat → Nat
  | .one _ => 0
  | .row ps => overs ps
  | .or ps => overs ps
  | .many p => 1 + over p
  | .maybe p => over p
def overs : List Pat → Nat
  | [] => 0
  | p :: r => max (over p) (overs r)
end
theorem overs_le {n : Nat} : ∀ {ps : List Pat}, overs ps ≤ n ↔ ∀ p ∈ ps, over p ≤ n
  | [] => ⟨fun _ _ h => (by cases h), fun _ => Nat.zero_le _⟩
  | p :: r => by
    have ih := overs_le (n := n) (ps := r)
    show max (over p) (overs r) ≤ n ↔ _
    constructor
    · intro h q hq
      rcases List.mem_cons.mp hq with rfl | hq
      · omega
      · exact ih.mp (by omega) q hq
    · intro h
      have h1 := h p List.mem_cons_self
      have h2 := ih.mpr fun q hq => h q (List.mem_cons_of_mem _ hq)
      omega
theorem overs_mem : ∀ {ps : List Pat}, overs ps = 0 ∨ ∃ p ∈ ps, over p = overs ps
  | [] => .inl rfl
  | p :: r => by
    show max (over p) (overs r) = 0 ∨ ∃ q ∈ p :: r, over q = max (over p) (overs r)
    rcases Nat.le_total (over p) (overs r) with h | h
    · rcases overs_mem (ps := r) with z | ⟨q, hq, e⟩
      · exact .inl (by omega)
      · exact .inr ⟨q, List.mem_cons_of_mem _ hq, by omega⟩
    · exact .inr ⟨p, List.mem_cons_self, by omega⟩
/-- the greatest of nought and those -/
theorem overs_max {ps : List Pat} {z : Int} (h1 : z ∈ (0 : Int) :: ps.map fun p => (over p : Int)) (h2 : ∀ y ∈ (0 : Int) :: ps.map fun p => (over p : Int), y ≤ z) : z = (overs ps : Nat) := by
  have a : (overs ps : Int) ≤ z := by
    rcases overs_mem (ps := ps) with e | ⟨q, hq, e⟩
    · rw [e]
      exact h2 0 List.mem_cons_self
    · rw [← e]
      exact h2 _ (List.mem_cons_of_mem _ (List.mem_map.mpr ⟨q, hq, rfl⟩))
  have b : z ≤ (overs ps : Int) := by
    rcases List.mem_cons.mp h1 with e | h
    · omega
    · obtain ⟨q, hq, rfl⟩ := List.mem_map.mp h
      have := overs_le.mp (Nat.le_refl (overs ps)) q hq
      omega
  omega
def mkB (way : Int) (ps : List Pat) : Pat := if way / 2 % 2 = 1 then .or ps else .row ps
def growB (way more : Int) (p q : Pat) : List Pat → List Pat
  | [] => [mkB way [q, p]]
  | x :: r => if more % 3 = 1 then mkB way [x, q, p] :: r else mkB way [q, p] :: x :: r
def growD (way more : Int) (p : Pat) : List Pat → List Pat
  | [] => [p]
  | q :: r2 => growB way more p q r2
def growC (cap : Bool) (way more : Int) : List Pat → List Pat
  | [] => []
  | p :: r => if way = 1 ∧ (cap = true → over p < 2) then .many p :: r else if way = 2 then .maybe p :: r else if 2 < way then growD way more p r else p :: r
/-- a stack of patterns, the last one first -/
def growSt (cap : Bool) (ls : List (List Nat)) (st : List Pat) (cell room : Int) : List Pat × Int :=
  if 5 < cell % 10 ∧ 0 < room ∧ st.length < 8 then (.one (someOf ls (1 + cell / 10 % 15)) :: st, room - 1)
  else if cell % 10 = 0 ∧ st.length < 8 then (.row [] :: st, room)
  else (growC cap (cell % 10) (cell / 10) st, room)
structure GrOk (st : List Pat) (room : Int) (d all : Nat) : Prop where
  wf : Wfs st
  dp : deps st ≤ d
  ln : st.length ≤ 8
  rm : 0 ≤ room
  al : (nls st : Int) + room ≤ all
theorem SomeOk.wf {s : List Nat} (k : SomeOk s) : Wf (.one s) := ⟨k.ne, k.nd, by have := k.len; omega, k.lt⟩
theorem mkB_wf {way : Int} {ps : List Pat} (h : Wfs ps) (hl : ps.length ≤ 1000) (hn : ps ≠ []) : Wf (mkB way ps) := by
  unfold mkB
  split
  · exact ⟨h, hl, hn⟩
  · exact ⟨h, hl⟩
theorem mkB_nl (way : Int) (ps : List Pat) : nl (mkB way ps) = nls ps := by
  unfold mkB
  split <;> rfl
theorem mkB_dep (way : Int) (ps : List Pat) : dep (mkB way ps) = deps ps + 1 := by
  unfold mkB
  split <;> rfl
theorem deps_cons (p : Pat) (r : List Pat) : deps (p :: r) = max (dep p) (deps r) := rfl
theorem growB_ok {way more : Int} {p q : Pat} {r : List Pat} {room : Int} {d all : Nat} (h : GrOk (p :: q :: r) room d all) : GrOk (growB way more p q r) room (d + 1) all := by
  obtain ⟨⟨w1, w2, w3⟩, h2, h3, h4, h5⟩ := h
  rw [deps_cons, deps_cons] at h2
  rw [nls_cons, nls_cons] at h5
  have h3 : r.length + 1 + 1 ≤ 8 := h3
  cases r with
  | nil =>
    refine ⟨⟨mkB_wf ⟨w2, w1, trivial⟩ (by show 2 ≤ 1000; decide) (fun z => nomatch z), trivial⟩, ?_, by show 1 ≤ 8; decide, h4, ?_⟩
    · show max (dep (mkB way [q, p])) 0 ≤ d + 1
      rw [mkB_dep, deps_cons, deps_cons]
      have : deps [] = 0 := rfl
      omega
    · show ((nl (mkB way [q, p]) + 0 : Nat) : Int) + room ≤ all
      rw [mkB_nl, nls_cons, nls_cons]
      have : nls [] = 0 := rfl
      omega
  | cons x r =>
    rw [deps_cons] at h2
    rw [nls_cons] at h5
    have h3 : r.length + 1 + 1 + 1 ≤ 8 := h3
    show GrOk (if more % 3 = 1 then mkB way [x, q, p] :: r else mkB way [q, p] :: x :: r) room (d + 1) all
    split
    · refine ⟨⟨mkB_wf ⟨w3.1, w2, w1, trivial⟩ (by show 3 ≤ 1000; decide) (fun z => nomatch z), w3.2⟩, ?_, by show r.length + 1 ≤ 8; omega, h4, ?_⟩
      · rw [deps_cons, mkB_dep, deps_cons, deps_cons, deps_cons]
        have : deps [] = 0 := rfl
        omega
      · rw [nls_cons, mkB_nl, nls_cons, nls_cons, nls_cons]
        have : nls [] = 0 := rfl
        omega
    · refine ⟨⟨mkB_wf ⟨w2, w1, trivial⟩ (by show 2 ≤ 1000; decide) (fun z => nomatch z), w3⟩, ?_, by show r.length + 1 + 1 ≤ 8; omega, h4, ?_⟩
      · rw [deps_cons, mkB_dep, deps_cons, deps_cons, deps_cons]
        have : deps [] = 0 := rfl
        omega
      · rw [nls_cons, mkB_nl, nls_cons, nls_cons, nls_cons]
        have : nls [] = 0 := rfl
        omega
theorem GrOk.up {st : List Pat} {room : Int} {d all : Nat} (h : GrOk st room d all) : GrOk st room (d + 1) all := ⟨h.wf, Nat.le_succ_of_le h.dp, h.ln, h.rm, h.al⟩
theorem growC_ok {cap : Bool} {way more : Int} {st : List Pat} {room : Int} {d all : Nat} (h : GrOk st room d all) : GrOk (growC cap way more st) room (d + 1) all := by
  cases st with
  | nil => exact h.up
  | cons p r =>
    obtain ⟨⟨w1, w2⟩, h2, h3, h4, h5⟩ := id h
    rw [deps_cons] at h2
    show GrOk (if way = 1 ∧ (cap = true → over p < 2) then .many p :: r else if way = 2 then .maybe p :: r else if 2 < way then growD way more p r else p :: r) room (d + 1) all
    split
    · refine ⟨⟨w1, w2⟩, ?_, h3, h4, h5⟩
      show max (dep p + 1) (deps r) ≤ d + 1
      omega
    · split
      · refine ⟨⟨w1, w2⟩, ?_, h3, h4, h5⟩
        show max (dep p + 1) (deps r) ≤ d + 1
        omega
      · split
        · cases r with
          | nil => exact h.up
          | cons q r2 => exact growB_ok h
        · exact h.up
theorem growSt_ok {cap : Bool} {ls : List (List Nat)} (hu : LetU ls) (hl : 4 ≤ ls.length) {st : List Pat} {cell room : Int} {d all : Nat} (h : GrOk st room d all) : GrOk (growSt cap ls st cell room).1 (growSt cap ls st cell room).2 (d + 1) all := by
  have b1 := mod_lo (cell / 10) (n := 15) (by decide)
  have b2 := mod_hi (cell / 10) (n := 15) (by decide)
  have so := someOf_ok hu hl (m := 1 + cell / 10 % 15) (by omega) (by omega)
  unfold growSt
  split
  · rename_i z
    refine ⟨⟨so.wf, h.wf⟩, ?_, by show st.length + 1 ≤ 8; omega, by show 0 ≤ room - 1; omega, ?_⟩
    · have := h.dp
      show max 1 (deps st) ≤ d + 1
      omega
    · have := h.al
      show ((1 + nls st : Nat) : Int) + (room - 1) ≤ all
      omega
  · split
    · rename_i z
      refine ⟨⟨⟨trivial, by decide⟩, h.wf⟩, ?_, by show st.length + 1 ≤ 8; omega, h.rm, ?_⟩
      · have := h.dp
        show max 1 (deps st) ≤ d + 1
        omega
      · have := h.al
        show ((0 + nls st : Nat) : Int) + room ≤ all
        omega
    · exact growC_ok h
def grow (cap : Bool) (ls : List (List Nat)) (cells : Nat → Int) (room : Int) : Nat → List Pat × Int
  | 0 => ([], room)
  | i + 1 => growSt cap ls (grow cap ls cells room i).1 (cells i) (grow cap ls cells room i).2
theorem grow_ok {cap : Bool} {ls : List (List Nat)} (hu : LetU ls) (hl : 4 ≤ ls.length) {cells : Nat → Int} {room : Nat} : ∀ i, GrOk (grow cap ls cells room i).1 (grow cap ls cells room i).2 i room
  | 0 => ⟨trivial, Nat.le_refl _, Nat.zero_le _, by show (0 : Int) ≤ room; omega, by show ((0 : Nat) : Int) + room ≤ room; omega⟩
  | i + 1 => growSt_ok hu hl (grow_ok hu hl i)
/-- a row of leaves of one sign each -/
def word (t : List Nat) : Pat := .row (t.map fun c => .one [c])
theorem nls_word (t : List Nat) : nls (t.map fun c => Pat.one [c]) = t.length := by
  induction t with
  | nil => rfl
  | cons c r ih =>
    show 1 + nls (r.map _) = r.length + 1
    omega
theorem word_wf {t : List Nat} (h : ∀ c ∈ t, c < 128) (hl : t.length ≤ 1000) : Wf (word t) := by
  refine ⟨wfs_mem.mpr fun p hp => ?_, by rw [List.length_map]; exact hl⟩
  obtain ⟨c, hc, rfl⟩ := List.mem_map.mp hp
  refine ⟨(fun z => nomatch z), List.nodup_cons.mpr ⟨by simp, List.nodup_nil⟩, by show 1 ≤ 1000; decide, fun x hx => ?_⟩
  rw [List.mem_singleton.mp hx]
  exact h c hc
theorem word_nl (t : List Nat) : nl (word t) = t.length := nls_word t
theorem word_dep (t : List Nat) : dep (word t) ≤ 2 := by
  have : deps (t.map fun c => Pat.one [c]) ≤ 1 := deps_le.mpr fun p hp => by
    obtain ⟨c, _, rfl⟩ := List.mem_map.mp hp
    exact Nat.le_refl _
  show deps (t.map fun c => Pat.one [c]) + 1 ≤ 2
  omega
def wide (m c : Int) : List (List Nat) := (List.range (2 + c / 768 % m).toNat).map fun k => [sgn (c + (k : Nat) * gap c)]
theorem wide_ok {m : Int} (h1 : 0 < m) (h2 : m ≤ 60) (c : Int) : LetOk (wide m c) where
  len := by
    have a := mod_lo (c / 768) h1
    have b := mod_hi (c / 768) h1
    unfold wide
    rw [List.length_map, List.length_range]
    omega
  it := fun g hg => by
    obtain ⟨k, _, rfl⟩ := List.mem_map.mp hg
    exact ⟨Nat.le_refl _, by show 1 ≤ 19; decide⟩
  lt := fun g hg x hx => by
    obtain ⟨k, _, rfl⟩ := List.mem_map.mp hg
    rw [List.mem_singleton.mp hx]
    exact sgn_lt _
theorem textBy_lt {c size : Int} {ls : List (List Nat)} (h : LetOk ls) : ∀ x ∈ textBy c size ls, x < 128 := fun x hx => by
  obtain ⟨g, hg, hx⟩ := textBy_mem h x hx
  exact h.lt g hg x hx
/-- rows of leaves, sizes by a function -/
def rowsSt (ls : List (List Nat)) (size : Int → Int) (n0 : Int) : Nat → List Pat × Int
  | 0 => ([], n0)
  | i + 1 => ((rowsSt ls size n0 i).1 ++ [word (textBy (nxt (rowsSt ls size n0 i).2) (size (nxt (rowsSt ls size n0 i).2)) ls)], nxt (rowsSt ls size n0 i).2)
theorem rows_len (ls : List (List Nat)) (size : Int → Int) (n0 : Int) : ∀ i, (rowsSt ls size n0 i).1.length = i
  | 0 => rfl
  | i + 1 => by
    show ((rowsSt ls size n0 i).1 ++ [_]).length = i + 1
    rw [List.length_append, rows_len ls size n0 i]
    rfl
theorem rows_ok {ls : List (List Nat)} (h : LetOk ls) {size : Int → Int} {b : Nat} (hb : b ≤ 1000) (hs : ∀ n, 0 ≤ n → size n ≤ b) (n0 : Int) : ∀ i, Wfs (rowsSt ls size n0 i).1 ∧ deps (rowsSt ls size n0 i).1 ≤ 2 ∧ nls (rowsSt ls size n0 i).1 ≤ i * b
  | 0 => ⟨trivial, Nat.zero_le _, Nat.zero_le _⟩
  | i + 1 => by
    obtain ⟨h1, h2, h3⟩ := rows_ok h hb hs n0 i
    have hn := (nxt_b (rowsSt ls size n0 i).2).1
    have hl : (textBy (nxt (rowsSt ls size n0 i).2) (size (nxt (rowsSt ls size n0 i).2)) ls).length ≤ b := by
      rw [textBy_len]
      have := hs _ hn
      omega
    refine ⟨wfs_mem.mpr fun p hp => ?_, deps_le.mpr fun p hp => ?_, ?_⟩
    · rcases List.mem_append.mp hp with hp | hp
      · exact wfs_mem.mp h1 p hp
      · rw [List.mem_singleton.mp hp]
        exact word_wf (textBy_lt h) (by omega)
    · rcases List.mem_append.mp hp with hp | hp
      · exact deps_le.mp h2 p hp
      · rw [List.mem_singleton.mp hp]
        exact word_dep _
    · show nls ((rowsSt ls size n0 i).1 ++ [_]) ≤ (i + 1) * b
      rw [nls_app, Nat.succ_mul]
      have : nls [word (textBy (nxt (rowsSt ls size n0 i).2) (size (nxt (rowsSt ls size n0 i).2)) ls)] = nl (word _) + 0 := rfl
      rw [this, word_nl]
      omega
/-! words -/
def wShape (ns : List Int) : Int := cell ns 2 % 4
def wCounts : List Int := [8, 8, 3, 58]
def wCount (ns : List Int) : Int := 1 + cell ns 2 / 4 % wCounts.getD (wShape ns).toNat 0
def min2 (i j : Int) : Int := if j < i then j else i
def wMosts (n : Int) : List Int := [6, 6, min2 40 (58 / n), min2 40 (58 / n)]
def wMost (ns : List Int) : Int := (wMosts (wCount ns)).getD (wShape ns).toNat 0
def wSize (ns : List Int) (n : Int) : Int := if decide (cell ns 4 % 3 = 1) = true then wMost ns - n / 7 % (wMost ns + 1) / 3 else n / 7 % (wMost ns + 1)
def wHeld (m : Int) (ns : List Int) : List Pat := (rowsSt (wide m (cell ns 20)) (wSize ns) (cell ns 3 % 2147483647) (wCount ns).toNat).1
def wordsBy (m : Int) (ns : List Int) : List Pat := if decide (wShape ns % 2 = 1) = true then [.or (wHeld m ns)] else wHeld m ns
theorem wShape_b (ns : List Int) : 0 ≤ wShape ns ∧ wShape ns < 4 := ⟨mod_lo _ (by decide), mod_hi _ (by decide)⟩
theorem wCounts_pos (ns : List Int) : 0 < wCounts.getD (wShape ns).toNat 0 := by
  have := wShape_b ns
  have h : ∀ i, i < 4 → 0 < wCounts.getD i 0 := by decide
  exact h _ (by omega)
theorem wCount_b (ns : List Int) : 1 ≤ wCount ns ∧ wCount ns ≤ wCounts.getD (wShape ns).toNat 0 := by
  have h := wCounts_pos ns
  have a := mod_lo (cell ns 2 / 4) h
  have b := mod_hi (cell ns 2 / 4) h
  unfold wCount
  omega
theorem wMost_b (ns : List Int) : 1 ≤ wMost ns ∧ wMost ns ≤ 40 ∧ wCount ns * wMost ns ≤ 58 ∧ wCount ns ≤ 58 ∧ (wShape ns % 2 = 1 ∨ wCount ns ≤ 8) := by
  have h := wShape_b ns
  have c := wCount_b ns
  have hs : wShape ns = 0 ∨ wShape ns = 1 ∨ wShape ns = 2 ∨ wShape ns = 3 := by omega
  have big : ∀ n : Int, 1 ≤ n → n ≤ 58 → 1 ≤ min2 40 (58 / n) ∧ min2 40 (58 / n) ≤ 40 ∧ n * min2 40 (58 / n) ≤ 58 := by
    intro n h1 h2
    have e1 : n * (58 / n) ≤ 58 := Int.mul_ediv_self_le (by omega)
    have e2 : 1 ≤ 58 / n := Int.le_ediv_of_mul_le (by omega) (by omega)
    unfold min2
    split
    · rename_i z
      exact ⟨e2, by omega, e1⟩
    · rename_i z
      refine ⟨by omega, by omega, ?_⟩
      have : n * 40 ≤ n * (58 / n) := Int.mul_le_mul_of_nonneg_left (by omega) (by omega)
      omega
  unfold wMost
  rcases hs with e | e | e | e
  · rw [e] at c ⊢
    have c1 : wCount ns ≤ 8 := c.2
    have k : (wMosts (wCount ns)).getD (0 : Int).toNat 0 = 6 := rfl
    rw [k]
    omega
  · rw [e] at c ⊢
    have c1 : wCount ns ≤ 8 := c.2
    have k : (wMosts (wCount ns)).getD (1 : Int).toNat 0 = 6 := rfl
    rw [k]
    omega
  · rw [e] at c ⊢
    have c1 : wCount ns ≤ 3 := c.2
    have k : (wMosts (wCount ns)).getD (2 : Int).toNat 0 = min2 40 (58 / wCount ns) := rfl
    rw [k]
    obtain ⟨b1, b2, b3⟩ := big (wCount ns) c.1 (by omega)
    exact ⟨b1, b2, b3, by omega, .inr (by omega)⟩
  · rw [e] at c ⊢
    have c1 : wCount ns ≤ 58 := c.2
    have k : (wMosts (wCount ns)).getD (3 : Int).toNat 0 = min2 40 (58 / wCount ns) := rfl
    rw [k]
    obtain ⟨b1, b2, b3⟩ := big (wCount ns) c.1 (by omega)
    exact ⟨b1, b2, b3, by omega, .inl rfl⟩
theorem wSize_b (ns : List Int) {n : Int} (hn : 0 ≤ n) : 0 ≤ wSize ns n ∧ wSize ns n ≤ wMost ns := by
  have h := wMost_b ns
  have a := mod_lo (n / 7) (n := wMost ns + 1) (by omega)
  have b := mod_hi (n / 7) (n := wMost ns + 1) (by omega)
  unfold wSize
  split <;> omega
theorem wordsBy_ok {m : Int} (h1 : 0 < m) (h2 : m ≤ 60) (ns : List Int) : PsOk (wordsBy m ns) := by
  obtain ⟨b1, b2, b3, b4, b5⟩ := wMost_b ns
  have c := wCount_b ns
  have r := rows_ok (wide_ok h1 h2 (cell ns 20)) (size := wSize ns) (b := (wMost ns).toNat) (by omega) (fun n hn => by have := (wSize_b ns hn).2; omega) (cell ns 3 % 2147483647) (wCount ns).toNat
  have hl := rows_len (wide m (cell ns 20)) (wSize ns) (cell ns 3 % 2147483647) (wCount ns).toNat
  have hm : ((wCount ns).toNat * (wMost ns).toNat : Nat) ≤ 58 := by
    have : (((wCount ns).toNat * (wMost ns).toNat : Nat) : Int) ≤ 58 := by
      rw [Int.natCast_mul, Int.toNat_of_nonneg (by omega), Int.toNat_of_nonneg (by omega)]
      exact b3
    omega
  have r1 : Wfs (wHeld m ns) := r.1
  have r2 : deps (wHeld m ns) ≤ 2 := r.2.1
  have r3 : nls (wHeld m ns) ≤ 58 := Nat.le_trans r.2.2 hm
  have hl : (wHeld m ns).length = (wCount ns).toNat := hl
  unfold wordsBy
  split
  · have hne : wHeld m ns ≠ [] := fun z => by
      rw [z] at hl
      have : 0 = (wCount ns).toNat := hl
      omega
    refine ⟨⟨⟨r1, by omega, hne⟩, trivial⟩, Nat.le_refl _, by show 1 ≤ 8; decide, ?_, ?_⟩
    · show nls (wHeld m ns) + 0 ≤ 60
      omega
    · show max (deps (wHeld m ns) + 1) 0 ≤ 30
      omega
  · rename_i z
    have z : ¬ wShape ns % 2 = 1 := fun w => z (decide_eq_true w)
    have b5 : wCount ns ≤ 8 := b5.resolve_left z
    exact ⟨r1, by omega, by omega, by omega, by omega⟩
/-! loops -/
def pool (ls : List (List Nat)) : List (List Nat) := (((ls.take 4).flatten).take 12).map fun c => [c]
theorem pool_ok {ls : List (List Nat)} (h : LetOk ls) : LetOk (pool ls) where
  len := by
    unfold pool
    rw [List.length_map, List.length_take]
    have h0 : 1 ≤ (ls.take 4).flatten.length := by
      cases ls with
      | nil => exact absurd h.len.1 (by decide)
      | cons g r =>
        have := (h.it g List.mem_cons_self).1
        show 1 ≤ (g ++ (r.take 3).flatten).length
        rw [List.length_append]
        omega
    omega
  it := fun g hg => by
    obtain ⟨c, _, rfl⟩ := List.mem_map.mp hg
    exact ⟨Nat.le_refl _, by show 1 ≤ 19; decide⟩
  lt := fun g hg x hx => by
    obtain ⟨c, hc, rfl⟩ := List.mem_map.mp hg
    rw [List.mem_singleton.mp hx]
    obtain ⟨g, hg, hc⟩ := List.mem_flatten.mp (List.mem_of_mem_take hc)
    exact h.lt g (List.mem_of_mem_take hg) c hc
def lSize (n : Int) : Int := 3 + n / 7 % 4
def lHeld (ns : List Int) (ls : List (List Nat)) : List Pat := (rowsSt (pool ls) lSize (cell ns 3 % 2147483647) (1 + cell ns 2 % 6).toNat).1
def lWord (ns : List Int) (ls : List (List Nat)) : Pat := word (textBy (cell ns 21) (1 + cell ns 22 % 12) (pool ls))
def lMore (cap : Bool) (ns : List Int) (ls : List (List Nat)) : List Pat :=
  if decide (cell ns 2 / 6 % 2 = 1) = true then [if decide (cell ns 23 % 3 = 0) = true then .maybe (lWord ns ls) else .many (lWord ns ls)] else ((grow cap ls (fun k => cell ns (21 + (k : Nat))) 4 8).1.reverse).take 2
def loopsBy (cap : Bool) (ns : List Int) (ls : List (List Nat)) : List Pat := if decide (cell ns 2 / 12 % 2 = 1) = true then lMore cap ns ls ++ lHeld ns ls else lHeld ns ls ++ lMore cap ns ls
theorem PsOk.parts {a b : List Pat} (h1 : Wfs a ∧ deps a ≤ 30) (h2 : Wfs b ∧ deps b ≤ 30) (l1 : 1 ≤ a.length + b.length) (l2 : a.length + b.length ≤ 8) (n : nls a + nls b ≤ 60) : PsOk (a ++ b) where
  wf := wfs_mem.mpr fun p hp => by
    rcases List.mem_append.mp hp with hp | hp
    · exact wfs_mem.mp h1.1 p hp
    · exact wfs_mem.mp h2.1 p hp
  one := by rw [List.length_append]; exact l1
  few := by rw [List.length_append]; exact l2
  lv := by rw [nls_app]; exact n
  dp := deps_le.mpr fun p hp => by
    rcases List.mem_append.mp hp with hp | hp
    · exact deps_le.mp h1.2 p hp
    · exact deps_le.mp h2.2 p hp
theorem nls_rev : ∀ ps : List Pat, nls ps.reverse = nls ps
  | [] => rfl
  | p :: r => by
    rw [List.reverse_cons, nls_app, nls_rev r, nls_cons, nls_cons]
    have : nls [] = 0 := rfl
    omega
theorem nls_take (ps : List Pat) (n : Nat) : nls (ps.take n) ≤ nls ps := by
  have h := nls_app (ps.take n) (ps.drop n)
  rw [List.take_append_drop] at h
  omega
theorem loopsBy_ok {cap : Bool} {ls : List (List Nat)} (hu : LetU ls) (hl : 4 ≤ ls.length) (ns : List Int) : PsOk (loopsBy cap ns ls) := by
  have a1 := mod_lo (cell ns 2) (n := 6) (by decide)
  have a2 := mod_hi (cell ns 2) (n := 6) (by decide)
  have r := rows_ok (pool_ok hu.ok) (size := lSize) (b := 6) (by decide) (fun n _ => by unfold lSize; have := mod_hi (n / 7) (n := 4) (by decide); omega) (cell ns 3 % 2147483647) (1 + cell ns 2 % 6).toNat
  have hln := rows_len (pool ls) lSize (cell ns 3 % 2147483647) (1 + cell ns 2 % 6).toNat
  have r1 : Wfs (lHeld ns ls) := r.1
  have r2 : deps (lHeld ns ls) ≤ 2 := r.2.1
  have r3 : nls (lHeld ns ls) ≤ (1 + cell ns 2 % 6).toNat * 6 := r.2.2
  have hln : (lHeld ns ls).length = (1 + cell ns 2 % 6).toNat := hln
  have m : Wfs (lMore cap ns ls) ∧ deps (lMore cap ns ls) ≤ 8 ∧ nls (lMore cap ns ls) ≤ 12 ∧ (lMore cap ns ls).length ≤ 2 := by
    have b1 := mod_lo (cell ns 22) (n := 12) (by decide)
    have b2 := mod_hi (cell ns 22) (n := 12) (by decide)
    have tl : (textBy (cell ns 21) (1 + cell ns 22 % 12) (pool ls)).length ≤ 12 := by
      rw [textBy_len]
      omega
    have w1 : Wf (lWord ns ls) := word_wf (textBy_lt (pool_ok hu.ok)) (by omega)
    have w2 : nl (lWord ns ls) ≤ 12 := by
      have := word_nl (textBy (cell ns 21) (1 + cell ns 22 % 12) (pool ls))
      show nl (word _) ≤ 12
      omega
    have w3 : dep (lWord ns ls) ≤ 2 := word_dep _
    unfold lMore
    split
    · split
      · refine ⟨⟨w1, trivial⟩, ?_, ?_, by show 1 ≤ 2; decide⟩
        · show max (dep (lWord ns ls) + 1) 0 ≤ 8
          omega
        · show nl (lWord ns ls) + 0 ≤ 12
          omega
      · refine ⟨⟨w1, trivial⟩, ?_, ?_, by show 1 ≤ 2; decide⟩
        · show max (dep (lWord ns ls) + 1) 0 ≤ 8
          omega
        · show nl (lWord ns ls) + 0 ≤ 12
          omega
    · have g := grow_ok (cap := cap) hu hl (cells := fun k => cell ns (21 + (k : Nat))) (room := 4) 8
      have g5 := g.al
      have g4 := g.rm
      refine ⟨wfs_mem.mpr fun p hp => wfs_mem.mp g.wf p (List.mem_reverse.mp (List.mem_of_mem_take hp)), deps_le.mpr fun p hp => deps_le.mp g.dp p (List.mem_reverse.mp (List.mem_of_mem_take hp)), ?_, by rw [List.length_take]; omega⟩
      have t1 := nls_take (grow cap ls (fun k => cell ns (21 + (k : Nat))) ((4 : Nat) : Int) 8).1.reverse 2
      rw [nls_rev] at t1
      have t1 : nls (((grow cap ls (fun k => cell ns (21 + (k : Nat))) 4 8).1.reverse).take 2) ≤ nls (grow cap ls (fun k => cell ns (21 + (k : Nat))) ((4 : Nat) : Int) 8).1 := t1
      omega
  obtain ⟨m1, m2, m3, m4⟩ := m
  unfold loopsBy
  split
  · exact PsOk.parts ⟨m1, by omega⟩ ⟨r1, by omega⟩ (by omega) (by omega) (by omega)
  · exact PsOk.parts ⟨r1, by omega⟩ ⟨m1, by omega⟩ (by omega) (by omega) (by omega)
/-! long -/
def gLeaf (ls : List (List Nat)) (x : Int) : Pat := .one (someOf ls (1 + x / 8 % 15))
def gOther (ls : List (List Nat)) (x : Int) : Pat := .one (someOf ls (1 + x / 120 % 15))
def gSome (ls : List (List Nat)) (x : Int) : List Pat :=
  [.row [], gLeaf ls x, .many (gLeaf ls x), .maybe (gLeaf ls x), .row [gLeaf ls x, gOther ls x], .or [gLeaf ls x, gOther ls x], .maybe (.row [gLeaf ls x, .many (gOther ls x)]), .or [.row [gLeaf ls x, gOther ls x], gLeaf ls x]]
def gSizes : List Int := [0, 1, 1, 1, 2, 2, 2, 3]
def gSizeN (x : Int) : Int := gSizes.getD (x % 8).toNat 0
def gPart (ls : List (List Nat)) (x room : Int) : Pat := if decide (gSizeN x ≤ room) = true then (gSome ls x).getD (x % 8).toNat (.row []) else .row []
def gSt (ls : List (List Nat)) (xs : Nat → Int) (room : Int) : Nat → List Pat × Int
  | 0 => ([], room)
  | i + 1 => ((gSt ls xs room i).1 ++ [gPart ls (xs i) (gSt ls xs room i).2], if decide (gSizeN (xs i) ≤ (gSt ls xs room i).2) = true then (gSt ls xs room i).2 - gSizeN (xs i) else (gSt ls xs room i).2)
theorem gSome_ok {ls : List (List Nat)} (hu : LetU ls) (hl : 4 ≤ ls.length) (x : Int) : ∀ k, k < 8 → Wf ((gSome ls x).getD k (.row [])) ∧ dep ((gSome ls x).getD k (.row [])) ≤ 4 ∧ (nl ((gSome ls x).getD k (.row [])) : Int) = gSizes.getD k 0 := by
  have a1 := mod_lo (x / 8) (n := 15) (by decide)
  have a2 := mod_hi (x / 8) (n := 15) (by decide)
  have b1 := mod_lo (x / 120) (n := 15) (by decide)
  have b2 := mod_hi (x / 120) (n := 15) (by decide)
  have w1 : Wf (gLeaf ls x) := (someOf_ok hu hl (by omega) (by omega)).wf
  have w2 : Wf (gOther ls x) := (someOf_ok hu hl (by omega) (by omega)).wf
  have ne : ∀ {p : Pat} {r : List Pat}, p :: r ≠ [] := fun z => nomatch z
  intro k hk
  match k, hk with
  | 0, _ => exact ⟨⟨trivial, by decide⟩, by show 1 ≤ 4; decide, rfl⟩
  | 1, _ => exact ⟨w1, by show 1 ≤ 4; decide, rfl⟩
  | 2, _ => exact ⟨w1, by show 2 ≤ 4; decide, rfl⟩
  | 3, _ => exact ⟨w1, by show 2 ≤ 4; decide, rfl⟩
  | 4, _ => exact ⟨⟨⟨w1, w2, trivial⟩, by show 2 ≤ 1000; decide⟩, by show 2 ≤ 4; decide, rfl⟩
  | 5, _ => exact ⟨⟨⟨w1, w2, trivial⟩, by show 2 ≤ 1000; decide, ne⟩, by show 2 ≤ 4; decide, rfl⟩
  | 6, _ => exact ⟨⟨⟨w1, w2, trivial⟩, by show 2 ≤ 1000; decide⟩, by show 4 ≤ 4; decide, rfl⟩
  | 7, _ => exact ⟨⟨⟨⟨⟨w1, w2, trivial⟩, by show 2 ≤ 1000; decide⟩, w1, trivial⟩, by show 2 ≤ 1000; decide, ne⟩, by show 3 ≤ 4; decide, rfl⟩
theorem gSizes_b : ∀ k, k < 8 → 0 ≤ gSizes.getD k 0 ∧ gSizes.getD k 0 ≤ 3 := by decide
theorem x8_b (x : Int) : (x % 8).toNat < 8 := by
  have := mod_lo x (n := 8) (by decide)
  have := mod_hi x (n := 8) (by decide)
  omega
theorem gSt_len (ls : List (List Nat)) (xs : Nat → Int) (room : Int) : ∀ i, (gSt ls xs room i).1.length = i
  | 0 => rfl
  | i + 1 => by
    show ((gSt ls xs room i).1 ++ [_]).length = i + 1
    rw [List.length_append, gSt_len ls xs room i]
    rfl
theorem gSt_ok {ls : List (List Nat)} (hu : LetU ls) (hl : 4 ≤ ls.length) (xs : Nat → Int) {room : Int} (hr : 0 ≤ room) : ∀ i, Wfs (gSt ls xs room i).1 ∧ deps (gSt ls xs room i).1 ≤ 4 ∧ 0 ≤ (gSt ls xs room i).2 ∧ (nls (gSt ls xs room i).1 : Int) + (gSt ls xs room i).2 ≤ room
  | 0 => ⟨trivial, Nat.zero_le _, hr, by show ((0 : Nat) : Int) + room ≤ room; omega⟩
  | i + 1 => by
    obtain ⟨h1, h2, h3, h4⟩ := gSt_ok hu hl xs hr i
    obtain ⟨k1, k2, k3⟩ := gSome_ok hu hl (xs i) _ (x8_b (xs i))
    have k3 : (nl ((gSome ls (xs i)).getD (xs i % 8).toNat (.row [])) : Int) = gSizeN (xs i) := k3
    have sb := gSizes_b _ (x8_b (xs i))
    have sb : 0 ≤ gSizeN (xs i) ∧ gSizeN (xs i) ≤ 3 := sb
    show Wfs ((gSt ls xs room i).1 ++ [gPart ls (xs i) (gSt ls xs room i).2]) ∧ deps ((gSt ls xs room i).1 ++ [gPart ls (xs i) (gSt ls xs room i).2]) ≤ 4 ∧ 0 ≤ (if decide (gSizeN (xs i) ≤ (gSt ls xs room i).2) = true then (gSt ls xs room i).2 - gSizeN (xs i) else (gSt ls xs room i).2) ∧
      (nls ((gSt ls xs room i).1 ++ [gPart ls (xs i) (gSt ls xs room i).2]) : Int) + (if decide (gSizeN (xs i) ≤ (gSt ls xs room i).2) = true then (gSt ls xs room i).2 - gSizeN (xs i) else (gSt ls xs room i).2) ≤ room
    rw [nls_app, nls_cons]
    have n0 : nls [] = 0 := rfl
    unfold gPart
    by_cases z : gSizeN (xs i) ≤ (gSt ls xs room i).2
    · rw [decide_eq_true z, if_pos rfl, if_pos rfl]
      refine ⟨wfs_mem.mpr fun p hp => ?_, deps_le.mpr fun p hp => ?_, by omega, by omega⟩
      · rcases List.mem_append.mp hp with hp | hp
        · exact wfs_mem.mp h1 p hp
        · rw [List.mem_singleton.mp hp]
          exact k1
      · rcases List.mem_append.mp hp with hp | hp
        · exact deps_le.mp h2 p hp
        · rw [List.mem_singleton.mp hp]
          exact k2
    · rw [decide_eq_false z, if_neg (by decide), if_neg (by decide)]
      have nr : nl (.row []) = 0 := rfl
      refine ⟨wfs_mem.mpr fun p hp => ?_, deps_le.mpr fun p hp => ?_, by omega, by omega⟩
      · rcases List.mem_append.mp hp with hp | hp
        · exact wfs_mem.mp h1 p hp
        · rw [List.mem_singleton.mp hp]
          exact ⟨trivial, by decide⟩
      · rcases List.mem_append.mp hp with hp | hp
        · exact deps_le.mp h2 p hp
        · rw [List.mem_singleton.mp hp]
          show 1 ≤ 4
          decide
def gRoom (ns : List Int) : Int := 6 - 2 * (cell ns 2 / 36 % 2)
def gParts (ns : List Int) (ls : List (List Nat)) : List Pat := (gSt ls (fun k => cell ns (3 + (k : Nat))) (gRoom ns) (3 + cell ns 2 % 6).toNat).1
def gBoth (ns : List Int) (ls : List (List Nat)) : Pat := if decide (cell ns 2 / 6 % 2 = 1) = true then .or (gParts ns ls) else .row (gParts ns ls)
def gWhole (ns : List Int) (ls : List (List Nat)) : Pat := [gBoth ns ls, .many (gBoth ns ls), .maybe (gBoth ns ls)].getD (cell ns 2 / 12 % 3).toNat (.row [])
def gShort (ls : List (List Nat)) : Pat := word [(ls.getD 0 []).getD 0 0, (ls.getD 1 []).getD 0 0]
def longs (w s : Pat) : List (List Pat) := [[w], [w], [s, w], [w, s]]
def longBy (ns : List Int) (ls : List (List Nat)) : List Pat := (longs (gWhole ns ls) (gShort ls)).getD (cell ns 2 / 36 % 2 * 2 + cell ns 2 / 72 % 2).toNat []
theorem gRoom_b (ns : List Int) : 4 ≤ gRoom ns ∧ gRoom ns ≤ 6 := by
  have := mod_lo (cell ns 2 / 36) (n := 2) (by decide)
  have := mod_hi (cell ns 2 / 36) (n := 2) (by decide)
  unfold gRoom
  omega
theorem gWhole_ok {ls : List (List Nat)} (hu : LetU ls) (hl : 4 ≤ ls.length) (ns : List Int) : Wf (gWhole ns ls) ∧ dep (gWhole ns ls) ≤ 6 ∧ nl (gWhole ns ls) ≤ 6 ∧ (gParts ns ls).length = (3 + cell ns 2 % 6).toNat := by
  have hr := gRoom_b ns
  obtain ⟨h1, h2, h3, h4⟩ := gSt_ok hu hl (fun k => cell ns (3 + (k : Nat))) (room := gRoom ns) (by omega) (3 + cell ns 2 % 6).toNat
  have h5 := gSt_len ls (fun k => cell ns (3 + (k : Nat))) (gRoom ns) (3 + cell ns 2 % 6).toNat
  have h1 : Wfs (gParts ns ls) := h1
  have h2 : deps (gParts ns ls) ≤ 4 := h2
  have h4 : (nls (gParts ns ls) : Int) + (gSt ls (fun k => cell ns (3 + (k : Nat))) (gRoom ns) (3 + cell ns 2 % 6).toNat).2 ≤ gRoom ns := h4
  have h5 : (gParts ns ls).length = (3 + cell ns 2 % 6).toNat := h5
  have a1 := mod_lo (cell ns 2) (n := 6) (by decide)
  have a2 := mod_hi (cell ns 2) (n := 6) (by decide)
  have hne : gParts ns ls ≠ [] := fun z => by
    rw [z] at h5
    have : 0 = (3 + cell ns 2 % 6).toNat := h5
    omega
  have b : Wf (gBoth ns ls) ∧ dep (gBoth ns ls) ≤ 5 ∧ nl (gBoth ns ls) ≤ 6 := by
    unfold gBoth
    split
    · exact ⟨⟨h1, by omega, hne⟩, by show deps (gParts ns ls) + 1 ≤ 5; omega, by show nls (gParts ns ls) ≤ 6; omega⟩
    · exact ⟨⟨h1, by omega⟩, by show deps (gParts ns ls) + 1 ≤ 5; omega, by show nls (gParts ns ls) ≤ 6; omega⟩
  have c1 := mod_lo (cell ns 2 / 12) (n := 3) (by decide)
  have c2 := mod_hi (cell ns 2 / 12) (n := 3) (by decide)
  have hc : cell ns 2 / 12 % 3 = 0 ∨ cell ns 2 / 12 % 3 = 1 ∨ cell ns 2 / 12 % 3 = 2 := by omega
  unfold gWhole
  rcases hc with e | e | e
  · rw [e]
    exact ⟨b.1, by show dep (gBoth ns ls) ≤ 6; omega, b.2.2, h5⟩
  · rw [e]
    exact ⟨b.1, by show dep (gBoth ns ls) + 1 ≤ 6; omega, b.2.2, h5⟩
  · rw [e]
    exact ⟨b.1, by show dep (gBoth ns ls) + 1 ≤ 6; omega, b.2.2, h5⟩
theorem first_lt {ls : List (List Nat)} (h : LetOk ls) {i : Nat} (hi : i < ls.length) : (ls.getD i []).getD 0 0 < 128 ∧ (ls.getD i [])[0]? = some ((ls.getD i []).getD 0 0) := by
  have hg : ls.getD i [] ∈ ls := by
    rw [List.getD_eq_getElem?_getD, List.getElem?_eq_getElem hi]
    exact List.getElem_mem _
  have h1 := (h.it _ hg).1
  have h2 : (ls.getD i [])[0]? = some ((ls.getD i []).getD 0 0) := by
    rw [List.getD_eq_getElem?_getD (l := ls.getD i []), List.getElem?_eq_getElem (by omega)]
    rfl
  exact ⟨h.lt _ hg _ (List.mem_of_getElem? h2), h2⟩
theorem longBy_ok {ls : List (List Nat)} (hu : LetU ls) (hl : 4 ≤ ls.length) (ns : List Int) : PsOk (longBy ns ls) := by
  obtain ⟨w1, w2, w3, _⟩ := gWhole_ok hu hl ns
  have s1 : Wf (gShort ls) := word_wf (fun c hc => by
    rcases List.mem_cons.mp hc with rfl | hc
    · exact (first_lt hu.ok (by omega)).1
    · rw [List.mem_singleton.mp hc]
      exact (first_lt hu.ok (by omega)).1) (by show 2 ≤ 1000; decide)
  have s2 : dep (gShort ls) ≤ 2 := word_dep _
  have s3 : nl (gShort ls) = 2 := word_nl _
  have b1 := mod_lo (cell ns 2 / 36) (n := 2) (by decide)
  have b2 := mod_hi (cell ns 2 / 36) (n := 2) (by decide)
  have c1 := mod_lo (cell ns 2 / 72) (n := 2) (by decide)
  have c2 := mod_hi (cell ns 2 / 72) (n := 2) (by decide)
  have one : PsOk [gWhole ns ls] := ⟨⟨w1, trivial⟩, Nat.le_refl _, by show 1 ≤ 8; decide, by show nl (gWhole ns ls) + 0 ≤ 60; omega, by show max (dep (gWhole ns ls)) 0 ≤ 30; omega⟩
  have two : ∀ {p q : Pat}, Wf p → Wf q → nl p + nl q ≤ 60 → dep p ≤ 30 → dep q ≤ 30 → PsOk [p, q] := fun {p q} h1 h2 h3 h4 h5 => ⟨⟨h1, h2, trivial⟩, by show 1 ≤ 2; decide, by show 2 ≤ 8; decide, by show nl p + (nl q + 0) ≤ 60; omega, by show max (dep p) (max (dep q) 0) ≤ 30; omega⟩
  have hc : (cell ns 2 / 36 % 2 * 2 + cell ns 2 / 72 % 2) = 0 ∨ (cell ns 2 / 36 % 2 * 2 + cell ns 2 / 72 % 2) = 1 ∨ (cell ns 2 / 36 % 2 * 2 + cell ns 2 / 72 % 2) = 2 ∨ (cell ns 2 / 36 % 2 * 2 + cell ns 2 / 72 % 2) = 3 := by omega
  unfold longBy
  rcases hc with e | e | e | e
  · rw [e]
    exact one
  · rw [e]
    exact one
  · rw [e]
    exact two s1 w1 (by omega) (by omega) (by omega)
  · rw [e]
    exact two w1 s1 (by omega) (by omega) (by omega)
/-! all ways -/
def drawnBy (cap : Bool) (ns : List Int) (ls : List (List Nat)) : List Pat :=
  match (grow cap ls (fun k => cell ns (2 + (k : Nat))) 6 12).1 with
  | [] => [.one (ls.getD 0 [])]
  | p :: r => (p :: r).reverse
def patternsBy (m : Int) (cap : Bool) (ns : List Int) (ls : List (List Nat)) : List Pat :=
  if decide (cell ns 1 % 4 = 1) = true then wordsBy m ns else if decide (cell ns 1 % 4 = 3) = true then loopsBy cap ns ls else if decide (cell ns 1 % 8 = 4) = true then longBy ns ls else drawnBy cap ns ls
theorem letter_some {ls : List (List Nat)} (hu : LetU ls) {i : Nat} (hi : i < ls.length) : SomeOk (ls.getD i []) := by
  have hg : ls[i]? = some (ls.getD i []) := by rw [List.getD_eq_getElem?_getD, List.getElem?_eq_getElem hi]; rfl
  have hm := List.mem_of_getElem? hg
  have h1 := hu.ok.it _ hm
  have hn := hu.tk (i + 1)
  rw [flat_take hg] at hn
  refine ⟨fun z => ?_, (List.nodup_append.mp hn).2.1, by omega, hu.ok.lt _ hm⟩
  rw [z] at h1
  exact absurd h1.1 (by decide)
theorem drawnBy_ok {cap : Bool} {ls : List (List Nat)} (hu : LetU ls) (hl : 4 ≤ ls.length) (ns : List Int) : PsOk (drawnBy cap ns ls) := by
  have g := grow_ok (cap := cap) hu hl (cells := fun k => cell ns (2 + (k : Nat))) (room := 6) 12
  have g : GrOk (grow cap ls (fun k => cell ns (2 + (k : Nat))) 6 12).1 (grow cap ls (fun k => cell ns (2 + (k : Nat))) 6 12).2 12 6 := g
  unfold drawnBy
  cases e : (grow cap ls (fun k => cell ns (2 + (k : Nat))) 6 12).1 with
  | nil =>
    have s := letter_some hu (i := 0) (by omega)
    exact ⟨⟨s.wf, trivial⟩, Nat.le_refl _, by show 1 ≤ 8; decide, by show 1 + 0 ≤ 60; decide, by show max 1 0 ≤ 30; decide⟩
  | cons p r =>
    rw [e] at g
    have g5 := g.al
    have g4 := g.rm
    refine ⟨wfs_mem.mpr fun q hq => wfs_mem.mp g.wf q (List.mem_reverse.mp hq), by rw [List.length_reverse]; exact Nat.succ_le_succ (Nat.zero_le _), by rw [List.length_reverse]; exact g.ln, ?_, deps_le.mpr fun q hq => ?_⟩
    · show nls (p :: r).reverse ≤ 60
      rw [nls_rev]
      omega
    · have := deps_le.mp g.dp q (List.mem_reverse.mp hq)
      omega
theorem patternsBy_ok {m : Int} {cap : Bool} (h1 : 0 < m) (h2 : m ≤ 60) {ls : List (List Nat)} (hu : LetU ls) (hl : 4 ≤ ls.length) (ns : List Int) : PsOk (patternsBy m cap ns ls) := by
  unfold patternsBy
  split
  · exact wordsBy_ok h1 h2 ns
  · split
    · exact loopsBy_ok hu hl ns
    · split
      · exact longBy_ok hu hl ns
      · exact drawnBy_ok hu hl ns
end Ab
namespace Ab
open PySem PySem.Spec PyProof.Rows L2
/-! ### the ends of a pattern's texts, as the law goes through it -/
def loopE (f : List Nat → List Nat) (once : Bool) : Nat → List Nat → List Nat → List Nat
  | 0, found, _ => found
  | n + 1, found, fresh => if fresh.isEmpty = true then found else if once = true then found ++ (f fresh).filter (fun j => !decide (j ∈ found)) else loopE f once n (found ++ (f fresh).filter (fun j => !decide (j ∈ found))) ((f fresh).filter (fun j => !decide (j ∈ found)))
mutual
def ends (s : List Nat) : Pat → List Nat → List Nat
  | .one cs, bs => (bs.filter fun i => decide (i < s.length) && decide (s.getD i 0 ∈ cs)).map (· + 1)
  | .row ps, bs => endsR s ps bs
  | .or ps, bs => endsO s ps bs []
  | .many p, bs => loopE (ends s p) false (s.length + 2) bs bs
  | .maybe p, bs => loopE (ends s p) true (s.length + 2) bs bs
def endsR (s : List Nat) : List Pat → List Nat → List Nat
  | [], bs => bs
  | p :: r, bs => endsR s r (ends s p bs)
def endsO (s : List Nat) : List Pat → List Nat → List Nat → List Nat
  | [], _, fd => fd
  | p :: r, bs, fd => endsO s r bs (fd ++ (ends s p bs).filter (fun j => !decide (j ∈ fd)))
end
structure EOk (s bs : List Nat) : Prop where
  nd : bs.Nodup
  le : ∀ i ∈ bs, i ≤ s.length
theorem nodup_few : ∀ (n : Nat) (l : List Nat), l.Nodup → (∀ x ∈ l, x < n) → l.length ≤ n
  | 0, l, _, h => by
    cases l with
    | nil => exact Nat.le_refl _
    | cons a r => exact absurd (h a List.mem_cons_self) (Nat.not_lt_zero _)
  | n + 1, l, hn, h => by
    by_cases z : n ∈ l
    · have h1 := nodup_few n (l.erase n) (hn.erase n) fun x hx => by
        have := (List.Nodup.mem_erase_iff hn).mp hx
        have := h x this.2
        omega
      rw [List.length_erase_of_mem z] at h1
      omega
    · have := nodup_few n l hn fun x hx => by
        have h2 := h x hx
        have : x ≠ n := fun e => z (e ▸ hx)
        omega
      omega
theorem EOk.len {s bs : List Nat} (h : EOk s bs) : bs.length ≤ s.length + 1 := nodup_few _ _ h.nd fun x hx => Nat.lt_succ_of_le (h.le x hx)
theorem EOk.add {s fd xs : List Nat} (h : EOk s fd) (g : EOk s xs) : EOk s (fd ++ xs.filter (fun j => !decide (j ∈ fd))) := by
  refine ⟨List.nodup_append.mpr ⟨h.nd, g.nd.sublist List.filter_sublist, fun a ha b hb e => ?_⟩, fun i hi => ?_⟩
  · subst e
    have := (List.mem_filter.mp hb).2
    rw [decide_eq_true ha] at this
    cases this
  · rcases List.mem_append.mp hi with hi | hi
    · exact h.le i hi
    · exact g.le i (List.mem_filter.mp hi).1
theorem mem_add {fd xs : List Nat} {j : Nat} : j ∈ fd ++ xs.filter (fun j => !decide (j ∈ fd)) ↔ j ∈ fd ∨ j ∈ xs := by
  rw [List.mem_append, List.mem_filter]
  constructor
  · rintro (h | ⟨h, _⟩)
    · exact .inl h
    · exact .inr h
  · rintro (h | h)
    · exact .inl h
    · by_cases z : j ∈ fd
      · exact .inl z
      · exact .inr ⟨h, by rw [decide_eq_false z]; rfl⟩
/-- what is asked of a way from begins to ends -/
def Goes (s : List Nat) (f : List Nat → List Nat) (X : List Nat → Prop) : Prop := ∀ bs, EOk s bs → EOk s (f bs) ∧ ∀ j, j ∈ f bs ↔ ∃ i, i ∈ bs ∧ i ≤ j ∧ j ≤ s.length ∧ X (sub s i j)
/-- how many turns are left at most -/
def fuelE (s found fresh : List Nat) : Nat := (s.length + 1 - found.length) + (if fresh.isEmpty = true then 0 else 1)
theorem fuel_next {s found fresh xs : List Nat} (h1 : EOk s found) (h2 : EOk s xs) (hne : ¬ fresh.isEmpty = true) {n : Nat} (hf : fuelE s found fresh ≤ n + 1) : fuelE s (found ++ xs.filter (fun j => !decide (j ∈ found))) (xs.filter (fun j => !decide (j ∈ found))) ≤ n := by
  have hl := (h1.add h2).len
  unfold fuelE at hf ⊢
  rw [if_neg hne] at hf
  rw [List.length_append] at hl ⊢
  cases e : xs.filter (fun j => !decide (j ∈ found)) with
  | nil =>
    show s.length + 1 - (found.length + 0) + 0 ≤ n
    omega
  | cons a r =>
    rw [e] at hl
    have hl : found.length + (r.length + 1) ≤ s.length + 1 := hl
    show s.length + 1 - (found.length + (r.length + 1)) + 1 ≤ n
    omega
theorem loop_ok {s : List Nat} {f : List Nat → List Nat} {X : List Nat → Prop} (hf : Goes s f X) {bs : List Nat} : ∀ (n : Nat) (found fresh : List Nat), EOk s found → EOk s fresh → (∀ i ∈ fresh, i ∈ found) → fuelE s found fresh ≤ n →
    (∀ i ∈ bs, i ∈ found) → (∀ j ∈ found, ∃ i, i ∈ bs ∧ i ≤ j ∧ Star X (sub s i j)) → (∀ i ∈ found, i ∉ fresh → ∀ j, i ≤ j → j ≤ s.length → X (sub s i j) → j ∈ found) →
    EOk s (loopE f false n found fresh) ∧ ∀ j, j ∈ loopE f false n found fresh ↔ ∃ i, i ∈ bs ∧ i ≤ j ∧ j ≤ s.length ∧ Star X (sub s i j) := by
  have stop : ∀ (found : List Nat), EOk s found → (∀ i ∈ bs, i ∈ found) → (∀ j ∈ found, ∃ i, i ∈ bs ∧ i ≤ j ∧ Star X (sub s i j)) → (∀ i ∈ found, ∀ j, i ≤ j → j ≤ s.length → X (sub s i j) → j ∈ found) →
      EOk s found ∧ ∀ j, j ∈ found ↔ ∃ i, i ∈ bs ∧ i ≤ j ∧ j ≤ s.length ∧ Star X (sub s i j) := by
    intro found h1 h4 h5 h6
    refine ⟨h1, fun j => ⟨fun hj => ?_, ?_⟩⟩
    · obtain ⟨i, k1, k2, k3⟩ := h5 j hj
      exact ⟨i, k1, k2, h1.le j hj, k3⟩
    · rintro ⟨i, k1, k2, k3, k4⟩
      have gen : ∀ t, Star X t → ∀ i, i ≤ j → t = sub s i j → i ∈ found → j ∈ found := by
        intro t ht
        induction ht with
        | nil =>
          intro i hi e hm
          rcases Nat.lt_or_ge i j with z | z
          · exact absurd e.symm (sub_ne k3 z)
          · have : i = j := by omega
            exact this ▸ hm
        | cons g1 g2 g3 ih =>
          intro i hi e hm
          obtain ⟨m, m1, m2, rfl, rfl⟩ := sub_split k3 hi e.symm
          exact ih m m2 rfl (h6 i hm m m1 (by omega) g1)
      exact gen _ k4 i k2 rfl (h4 i k1)
  intro n
  induction n with
  | zero =>
    intro found fresh h1 h2 h3 hfu h4 h5 h6
    have he : fresh = [] := by
      unfold fuelE at hfu
      cases fresh with
      | nil => rfl
      | cons a r =>
        have hfu : (s.length + 1 - found.length) + 1 ≤ 0 := hfu
        omega
    subst he
    exact stop found h1 h4 h5 fun i hi => h6 i hi (by simp)
  | succ n ih =>
    intro found fresh h1 h2 h3 hfu h4 h5 h6
    unfold loopE
    by_cases he : fresh.isEmpty = true
    · rw [if_pos he]
      have he : fresh = [] := List.isEmpty_iff.mp he
      subst he
      exact stop found h1 h4 h5 fun i hi => h6 i hi (by simp)
    · rw [if_neg he, if_neg (by decide)]
      obtain ⟨g1, g2⟩ := hf fresh h2
      have h1' := h1.add g1
      refine ih _ _ h1' ⟨g1.nd.sublist List.filter_sublist, fun i hi => g1.le i (List.mem_filter.mp hi).1⟩ (fun i hi => List.mem_append_right _ hi) (fuel_next h1 g1 he hfu) (fun i hi => List.mem_append_left _ (h4 i hi)) (fun j hj => ?_) (fun i hi hn j k1 k2 k3 => ?_)
      · rcases mem_add.mp hj with hj | hj
        · exact h5 j hj
        · obtain ⟨i, k1, k2, k3, k4⟩ := (g2 j).mp hj
          obtain ⟨b, m1, m2, m3⟩ := h5 i (h3 i k1)
          refine ⟨b, m1, by omega, ?_⟩
          rcases Nat.lt_or_ge i j with z | z
          · rw [sub_app m2 k2]
            exact star_snoc m3 k4 (sub_ne k3 z)
          · have : i = j := by omega
            exact this ▸ m3
      · have hif : i ∈ found := by
          rcases List.mem_append.mp hi with hi | hi
          · exact hi
          · exact absurd hi hn
        by_cases hfr : i ∈ fresh
        · exact mem_add.mpr (.inr ((g2 j).mpr ⟨i, hfr, k1, k2, k3⟩))
        · exact mem_add.mpr (.inl (h6 i hif hfr j k1 k2 k3))
theorem once_ok {s : List Nat} {f : List Nat → List Nat} {X : List Nat → Prop} (hf : Goes s f X) {bs : List Nat} (h : EOk s bs) (n : Nat) : EOk s (loopE f true (n + 1) bs bs) ∧ ∀ j, j ∈ loopE f true (n + 1) bs bs ↔ j ∈ bs ∨ j ∈ f bs := by
  obtain ⟨g1, g2⟩ := hf bs h
  unfold loopE
  by_cases he : bs.isEmpty = true
  · rw [if_pos he]
    have he : bs = [] := List.isEmpty_iff.mp he
    subst he
    refine ⟨h, fun j => ⟨.inl, fun z => z.elim id fun z => ?_⟩⟩
    obtain ⟨i, hi, _⟩ := (g2 j).mp z
    exact nomatch hi
  · rw [if_neg he, if_pos rfl]
    exact ⟨h.add g1, fun j => mem_add⟩
mutual
theorem ends_ok (s : List Nat) : ∀ p : Pat, Goes s (ends s p) (Tells p)
  | .one cs => fun bs h => by
    refine ⟨⟨?_, ?_⟩, fun j => ?_⟩
    · show ((bs.filter _).map (· + 1)).Nodup
      exact List.pairwise_map.mpr (List.Pairwise.imp (fun {a b} (hab : a ≠ b) => fun e => hab (Nat.succ.inj e)) (h.nd.sublist List.filter_sublist))
    · intro i hi
      obtain ⟨k, hk, rfl⟩ := List.mem_map.mp hi
      have := (List.mem_filter.mp hk).2
      rw [Bool.and_eq_true] at this
      exact of_decide_eq_true this.1
    · show j ∈ (bs.filter fun i => decide (i < s.length) && decide (s.getD i 0 ∈ cs)).map (· + 1) ↔ _
      constructor
      · intro hj
        obtain ⟨k, hk, rfl⟩ := List.mem_map.mp hj
        obtain ⟨h1, h2⟩ := List.mem_filter.mp hk
        rw [Bool.and_eq_true] at h2
        have h3 : k < s.length := of_decide_eq_true h2.1
        refine ⟨k, h1, Nat.le_succ _, h3, s.getD k 0, of_decide_eq_true h2.2, sub_one.mpr ?_⟩
        rw [List.getD_eq_getElem?_getD, List.getElem?_eq_getElem h3]
        rfl
      · rintro ⟨i, h1, h2, h3, c, h4, h5⟩
        have hl := sub_len (i := i) h3
        rw [h5] at hl
        have hl : 1 = j - i := hl
        have e : j = i + 1 := by omega
        subst e
        have hc := sub_one.mp h5
        refine List.mem_map.mpr ⟨i, List.mem_filter.mpr ⟨h1, ?_⟩, rfl⟩
        rw [List.getD_eq_getElem?_getD, hc, decide_eq_true (show i < s.length from h3)]
        show (true && decide (c ∈ cs)) = true
        rw [decide_eq_true h4]
        rfl
  | .row ps => endsR_ok s ps
  | .or ps => fun bs h => by
    obtain ⟨h1, h2⟩ := endsO_ok s ps bs [] h ⟨List.nodup_nil, fun i hi => nomatch hi⟩
    refine ⟨h1, fun j => (h2 j).trans ⟨fun z => z.elim (fun z => nomatch z) id, .inr⟩⟩
  | .many p => fun bs h => by
    have hp := ends_ok s p
    refine loop_ok hp (s.length + 2) bs bs h h (fun i hi => hi) ?_ (fun i hi => hi) (fun j hj => ⟨j, hj, Nat.le_refl _, by rw [sub_self]; exact .nil⟩) (fun i hi hn => absurd hi hn)
    unfold fuelE
    split <;> omega
  | .maybe p => fun bs h => by
    have hp := ends_ok s p
    obtain ⟨h1, h2⟩ := once_ok hp h (s.length + 1)
    refine ⟨h1, fun j => (h2 j).trans ?_⟩
    constructor
    · rintro (hj | hj)
      · exact ⟨j, hj, Nat.le_refl _, h.le j hj, .inl (sub_self s j)⟩
      · obtain ⟨i, k1, k2, k3, k4⟩ := ((hp bs h).2 j).mp hj
        exact ⟨i, k1, k2, k3, .inr k4⟩
    · rintro ⟨i, k1, k2, k3, k4 | k4⟩
      · rcases Nat.lt_or_ge i j with z | z
        · exact absurd k4 (sub_ne k3 z)
        · have : i = j := by omega
          exact .inl (this ▸ k1)
      · exact .inr (((hp bs h).2 j).mpr ⟨i, k1, k2, k3, k4⟩)
theorem endsR_ok (s : List Nat) : ∀ ps : List Pat, Goes s (endsR s ps) (TellsR ps)
  | [] => fun bs h => by
    refine ⟨h, fun j => ⟨fun hj => ⟨j, hj, Nat.le_refl _, h.le j hj, sub_self s j⟩, ?_⟩⟩
    rintro ⟨i, k1, k2, k3, k4⟩
    have k4 : sub s i j = [] := k4
    rcases Nat.lt_or_ge i j with z | z
    · exact absurd k4 (sub_ne k3 z)
    · have : i = j := by omega
      exact this ▸ k1
  | p :: r => fun bs h => by
    obtain ⟨h1, h2⟩ := ends_ok s p bs h
    obtain ⟨h3, h4⟩ := endsR_ok s r _ h1
    refine ⟨h3, fun j => (h4 j).trans ?_⟩
    constructor
    · rintro ⟨m, k1, k2, k3, k4⟩
      obtain ⟨i, m1, m2, m3, m4⟩ := (h2 m).mp k1
      exact ⟨i, m1, by omega, k3, _, _, sub_app m2 k2, m4, k4⟩
    · rintro ⟨i, k1, k2, k3, u, v, k4, k5, k6⟩
      obtain ⟨m, m1, m2, rfl, rfl⟩ := sub_split k3 k2 k4
      exact ⟨m, (h2 m).mpr ⟨i, k1, m1, by omega, k5⟩, m2, k3, k6⟩
theorem endsO_ok (s : List Nat) : ∀ (ps : List Pat) (bs fd : List Nat), EOk s bs → EOk s fd → EOk s (endsO s ps bs fd) ∧ ∀ j, j ∈ endsO s ps bs fd ↔ j ∈ fd ∨ ∃ i, i ∈ bs ∧ i ≤ j ∧ j ≤ s.length ∧ TellsO ps (sub s i j)
  | [], bs, fd, h, g => ⟨g, fun j => ⟨.inl, fun z => z.elim id fun ⟨_, _, _, _, z⟩ => z.elim⟩⟩
  | p :: r, bs, fd, h, g => by
    obtain ⟨h1, h2⟩ := ends_ok s p bs h
    obtain ⟨h3, h4⟩ := endsO_ok s r bs _ h (g.add h1)
    refine ⟨h3, fun j => (h4 j).trans ?_⟩
    rw [mem_add, h2 j]
    constructor
    · rintro ((z | ⟨i, k1, k2, k3, k4⟩) | ⟨i, k1, k2, k3, k4⟩)
      · exact .inl z
      · exact .inr ⟨i, k1, k2, k3, .inl k4⟩
      · exact .inr ⟨i, k1, k2, k3, .inr k4⟩
    · rintro (z | ⟨i, k1, k2, k3, k4 | k4⟩)
      · exact .inl (.inl z)
      · exact .inl (.inr ⟨i, k1, k2, k3, k4⟩)
      · exact .inr ⟨i, k1, k2, k3, k4⟩
end
theorem EOk.zero (s : List Nat) : EOk s [0] := ⟨List.nodup_cons.mpr ⟨by simp, List.nodup_nil⟩, fun i hi => by rw [List.mem_singleton.mp hi]; exact Nat.zero_le _⟩
theorem ends_tells (s : List Nat) (p : Pat) : s.length ∈ ends s p [0] ↔ Tells p s := by
  rw [(ends_ok s p [0] (EOk.zero s)).2]
  constructor
  · rintro ⟨i, h1, _, _, h2⟩
    rw [List.mem_singleton.mp h1, sub_all] at h2
    exact h2
  · intro h
    exact ⟨0, List.mem_singleton.mpr rfl, Nat.zero_le _, Nat.le_refl _, by rw [sub_all]; exact h⟩
end Ab
namespace Ab
open PySem PySem.Spec PyProof.Rows L2
section
variable {K : PySem.W.Frag} {w : Nat} {D : AEnds} {e : Env}
/-- what stands behind, by what holds there -/
theorem as_seqQ {t u : TS} (Q : Env → Prop) (h : AS K w t ⟨Q, D.rt, D.bk, D.ct⟩ e) (h2 : ∀ e', Q e' → AS K w u D e') : AS K w (tSeq t u) D e :=
  as_seq (AS.ends h h2 (fun _ _ q => q) (fun _ q => q) fun _ q => q)
end
end Ab
namespace Ab
open PySem PySem.Spec PyProof.Rows L2
/-! ### text * number -/
theorem foldl_cps (c : Array Nat) : ∀ (m : Nat) (a : Array Nat), (List.replicate m c).foldl (· ++ ·) a = ⟨a.toList ++ (List.replicate m c.toList).flatten⟩
  | 0, a => by
    show a = _
    rw [List.replicate_zero, List.flatten_nil, List.append_nil]
  | m + 1, a => by
    rw [List.replicate_succ, List.foldl_cons, foldl_cps c m, List.replicate_succ, List.flatten_cons, Array.toList_append, List.append_assoc]
abbrev rMulS : R2 := fun x y H Q => ∃ (s : List Nat) (k : Int), x = .str (sOf s) ∧ y = .int k ∧ 2 ≤ k ∧ k ≤ 1000 ∧ s.length ≤ 1000 ∧ Q (.str (sOf (List.replicate k.toNat s).flatten)) H
theorem op_mulS {X : Cx} : OpR X (binaryOp .Mult) rMulS := by
  intro pins s σ H x y v u Q I rx ry h
  obtain ⟨a, k, rfl, rfl, h1, h2, hz, q⟩ := h
  obtain ⟨t, rfl⟩ := rx
  obtain ⟨t', rfl⟩ := ry
  have hlen : (sOf a).length = a.length := sOf_len a
  refine PySem.P.mul_str (by rw [decide_eq_false (by omega), decide_eq_false (by omega)]; rfl) (fun _ _ => ?_) (fun _ _ => ?_) ?_
  · rw [hlen]
    have h5 : (1000 : Int) ≤ (2 ^ 63 - 1) / k := by
      rw [Int.le_ediv_iff_mul_le (by omega)]
      omega
    omega
  · unfold Builtin.Str.tooLong
    rw [hlen]
    have a1 : a.length * k.toNat ≤ 1000 * 1000 := Nat.mul_le_mul hz (by omega)
    exact decide_eq_false (by rw [PySem.sizeLine_eq]; omega)
  · rw [if_neg (by omega)]
    split
    · rename_i e
      have e : (k == 1 || (sOf a).length == 0) = true := e
      rw [beq_eq_false_iff_ne.mpr (by omega : k ≠ 1), Bool.false_or, hlen] at e
      have e0 : a = [] := List.eq_nil_of_length_eq_zero (eq_of_beq e)
      subst e0
      have : (List.replicate k.toNat ([] : List Nat)).flatten = [] := by
        induction k.toNat with
        | zero => rfl
        | succ n ih => rw [List.replicate_succ, List.flatten_cons, ih]; rfl
      rw [this] at q
      exact ⟨.str (sOf []), H, I, ⟨_, rfl⟩, q⟩
    · have e : (List.replicate k.toNat (sOf a).cps).foldl (· ++ ·) #[] = (⟨(List.replicate k.toNat a).flatten⟩ : Array Nat) := by
        rw [foldl_cps]
        rfl
      rw [e]
      refine ⟨?_, .str (sOf (List.replicate k.toNat a).flatten), H, I.tok _, ⟨_, rfl⟩, q⟩
      show (sOf (List.replicate k.toNat a).flatten).length ≤ sizeLine
      rw [sOf_len, List.length_flatten, List.map_replicate, List.sum_replicate_nat, PySem.sizeLine_eq]
      have a1 : k.toNat * a.length ≤ 1000 * 1000 := Nat.mul_le_mul (by omega) hz
      omega
section
variable {K : PySem.W.Frag} {e : Env} {ta tb te : TE} {a : A} {Q : A → Env → Prop}
/-- an operator whose right side has effects -/
theorem ax_opR {r : R2} (ha : AE K ta e a) (h : AX K tb e fun b e' => ∃ z, A2 K r a b e' z ∧ Q z e') : AX K (tOp r ta tb) e Q := fun B σ G H ad R C c =>
  ha B σ G H ad R _ fun v G1 H1 X1 r1 => h B σ G1 H1 ad (R.ext X1) _ fun b e' w G2 H2 ad2 ⟨z, hz, q⟩ s2 p2 R2 r2 =>
    hz B σ G2 H2 ad2 R2 v w ((r1.mono s2).pre p2) r2 C fun u G3 H3 X3 r3 => c z e' u G3 H3 ad2 q ((X1.gg.trans s2).trans X3.gg) p2 (R2.ext X3) r3
theorem a2_mulS {s : List Nat} {k : Int} (h1 : 2 ≤ k) (h2 : k ≤ 1000) (hz : s.length ≤ 1000) : A2 K rMulS (.d (.str s)) (.d (.int k)) e (.d (.str (List.replicate k.toNat s).flatten)) := fun B σ G H ad R v w rv rw C c => by
  cases rv
  cases rw
  exact ⟨s, k, rfl, rfl, h1, h2, hz, c _ G H (Xt.refl R.gh) RD.str⟩
end
end Ab
/-! ### sorted(set(a text)) -/
namespace SetS
open PySem PySem.Spec PyProof.Rows PySem.Froz L2
/-- the text that a value is -/
def txOf : Value → Str
  | .str x _ => x
  | _ => Str.empty
theorem str_of {k : Str} {v : Value} (h : Value.isStrOf k v = true) : ∃ u, v = .str k u := by
  cases v with
  | str x u =>
    have : x = k := by simpa [Value.isStrOf] using h
    exact ⟨u, by rw [this]⟩
  | _ => simp [Value.isStrOf] at h
/-- the payload holds the texts l, each once, and can be walked -/
structure Good (P : Program) (w : World) (D : SD) (l : List Str) : Prop where
  ok : TxOk P w D l
  nd : l.Nodup
  pm : (D.1.toList.map fun e => txOf e.2).Perm l
  ris : L2.Ris D.2.2.place.toList
  led : w.params.followText "set-order" = true ∨ D.2.2.led = true
section
variable {P : Program} {w : World} {A : Around} {E : Value → Shared → Prop} {s : Shared}
theorem Good.zero : Good P w (#[], 0, .fresh 0 0 (!w.params.followText "set-order")) [] where
  ok := TxOk.nil (by rfl)
  nd := List.nodup_nil
  pm := List.Perm.refl _
  ris := List.Pairwise.nil
  led := by
    show _ ∨ (!w.params.followText "set-order") = true
    cases w.params.followText "set-order" with
    | true => exact .inl rfl
    | false => exact .inr rfl
theorem tail_pm (ep : Nat) (es : Array (Int × Value)) (t : SetTable) (d : Bool) : (tailTx ep es t d).1.toList.Perm es.toList := by
  unfold tailTx
  split
  · exact relayAll_perm t es _
  · exact List.Perm.refl _
theorem tail_ris {ep : Nat} {es : Array (Int × Value)} {t : SetTable} {d : Bool} (h : L2.Ris t.place.toList) : L2.Ris (tailTx ep es t d).2.2.place.toList := by
  unfold tailTx
  split
  · exact relayAll_ris t es _
  · exact h
theorem tail_led (ep : Nat) (es : Array (Int × Value)) (t : SetTable) (d : Bool) : (tailTx ep es t d).2.2.led = t.led := by
  unfold tailTx
  split
  · exact relayAll_led t es _
  · rfl
theorem Good.add {D : SD} {l : List Str} {k : Str} (u : Tok) (g : Good P w D l) (hk : k ∉ l) : Good P w (addTx (hashStr w k) (.str k u) D) (k :: l) where
  ok := add_ok u g.ok
  nd := List.nodup_cons.mpr ⟨hk, g.nd⟩
  pm := by
    have p1 := layNew_perm D.2.2 D.1 (hashStr w k) (.str k u)
    rw [Array.toList_push] at p1
    have p2 := ((tail_pm D.2.1 _ (if (layNew D.2.2 D.1 (hashStr w k) (.str k u)).2.1.plain = true then { (layNew D.2.2 D.1 (hashStr w k) (.str k u)).2.1 with plain := false } else (layNew D.2.2 D.1 (hashStr w k) (.str k u)).2.1) (layNew D.2.2 D.1 (hashStr w k) (.str k u)).2.2.1).trans p1).map fun e => txOf e.2
    rw [List.map_append] at p2
    exact (p2.trans (List.perm_append_comm)).trans (g.pm.cons k)
  ris := tail_ris (by
    have := layNew_ris D.2.2 D.1 (hashStr w k) (.str k u) g.ris
    split <;> exact this)
  led := g.led.imp id fun z => by
    have := layNew_led D.2.2 D.1 (hashStr w k) (.str k u)
    show (tailTx _ _ _ _).2.2.led = true
    rw [tail_led]
    split <;> exact this.trans z
/-- a text that is there -/
theorem old_x {a : Addr} {T : String} {D : SD} {l : List Str} {k : Str} {u : Tok} {Q : Bool → Shared → Prop} (h0 : s.heap.get? a = some (sObj T D)) (F : TxOk P w D l) (hk : k ∈ l) (hb : l.length < scanBound) (q : Q false s) :
    wpAny (model P w) A (setAddHashed a (.str k u) (hashStr w k)) Q E s := by
  obtain ⟨el, ep, t⟩ := D
  obtain ⟨j, hj⟩ : ∃ j, List.findIdx? (fun e => (PySem.strKind P w).is k e.2) el.toList = some j := by
    cases z : List.findIdx? (fun e => (PySem.strKind P w).is k e.2) el.toList with
    | some j => exact ⟨j, rfl⟩
    | none =>
      obtain ⟨e, he, h1⟩ := (F.mem k).mp hk
      have h2 := List.findIdx?_eq_none_iff.mp z e he
      rw [h1] at h2
      cases h2
  have hsz : el.size = l.length := F.sz
  unfold setAddHashed setAddHashedIn
  refine wpAny_holding (wpAny_bind (wpAny_setState_of h0 rfl F.fit ?_)); dsimp only
  rw [byScan_of rfl (by rw [show (el, ep, t).1.size = l.length from F.sz]; exact hb) F.el]; simp only [↓reduceIte]; unfold setAddByScan
  refine wpAny_bind (wpAny_bind (wpAny_rule (wpAny_bind (wpAny_setScan_of (knd := PySem.strKind P w) (k := k) (is_str k u) h0 rfl F.fit F.el ?_))))
  rw [hj]; dsimp only
  exact wpAny_pure (wpAny_pure q)
theorem add_any {a : Addr} {T : String} {D : SD} {l : List Str} {k : Str} {u : Tok} {Q : Bool → Shared → Prop} (h0 : s.heap.get? a = some (sObj T D)) (g : Good P w D l) (hb : l.length + 1 < scanBound)
    (q : ∀ b h' D' l', Heap.SameBut a s.heap h' → h'.get? a = some (sObj T D') → Good P w D' l' → l'.length ≤ l.length + 1 → (∀ x, x ∈ l' ↔ x ∈ l ∨ x = k) → Q b { s with heap := h' }) :
    wpAny (model P w) A (setAddHashed a (.str k u) (hashStr w k)) Q E s := by
  by_cases hk : k ∈ l
  · exact old_x h0 g.ok hk (by omega) (q false s.heap D l (Heap.SameBut.refl a s.heap) h0 g (Nat.le_succ _) fun x => ⟨.inl, fun z => z.elim id fun z => z ▸ hk⟩)
  · refine add_x h0 g.ok hk hb (q true _ _ (k :: l) (Heap.SameBut.update s.heap a _) (get_upd _ h0 rfl) (g.add u hk) (Nat.le_refl _) fun x => ?_)
    rw [List.mem_cons]
    exact Or.comm
end
section
variable {prog : Program} {w : World} {A : Around} {R : Result → Shared → Prop} {I : Addr} {fp wr : List Addr} {G : Array GenState → Array GenState → Prop} {n : Nat} {Pi : Nat → Value → Prop} {St : Nat → Shared → Prop}
/-- the set at z holds the texts among the first i -/
def Has (prog : Program) (w : World) (val : Nat → Str) (z : Addr) (i : Nat) (h : Heap) : Prop := ∃ D l, h.get? z = some (sObj "set" D) ∧ Good prog w D l ∧ l.length ≤ i ∧ ∀ x, x ∈ l ↔ ∃ j, j < i ∧ val j = x
theorem fillS (W : WalksS prog w A.in1 I fp wr G n Pi St) (z : Addr) (hz : z ∉ fp) (val : Nat → Str) (hv : ∀ i v, Pi i v → ∃ u, v = .str (val i) u) (few : ∀ l : List Str, l.Nodup → (∀ x ∈ l, ∃ j, j < n ∧ val j = x) → l.length ≤ 3000) :
    ∀ (m i : Nat) (s : Shared), i + m = n → St i s → Has prog w val z i s.heap →
      (∀ t, Moved (z :: wr) G s t → Has prog w val z n t.heap → R (.ok (.ret .none)) t) →
      codeAny (model prog w) A (.builtin "set.update.loop" ⟨[.ref z, .ref I], []⟩) R s
  | 0, i, s, hm, st, S, k => by
    obtain rfl : i = n := by omega
    have zw : z ∉ wr := fun q => hz (W.sub _ q)
    refine codeAny_builtin PyProof.Rows.F.entry_set_update_loop ?_
    rw [Around.under_plainId PyProof.Rows.F.plain_set_update_loop _]
    show wpAny _ A.in1 (pyNext (.ref I) >>= _) _ _ s
    refine wpAny_bind (W.done s _ _ st fun t mv => ?_)
    obtain ⟨D, l, h0, more⟩ := S
    exact wpAny_pure (k t (mv.mono fun b q => List.mem_cons_of_mem _ q) ⟨D, l, mv.heap z _ zw h0, more⟩)
  | m + 1, i, s, hm, st, S, k => by
    have zw : z ∉ wr := fun q => hz (W.sub _ q)
    refine codeAny_builtin PyProof.Rows.F.entry_set_update_loop ?_
    rw [Around.under_plainId PyProof.Rows.F.plain_set_update_loop _]
    show wpAny _ A.in1 (pyNext (.ref I) >>= _) _ _ s
    refine wpAny_bind (W.item i s _ _ (by omega) st fun v t pv st' mv => ?_)
    obtain ⟨u, rfl⟩ := hv i v pv
    obtain ⟨D, l, h0, g, hl, hmem⟩ := S
    have h1 := mv.heap z _ zw h0
    show wpAny _ A.in1 (holding [Value.str (val i) u] (setAdd z (.str (val i) u)) >>= _) _ _ t
    refine wpAny_bind (wpAny_holding ?_)
    unfold setAdd
    refine wpAny_holding (wpAny_bind ((PySem.strKind prog w).pyHash (k := val i) (is_str _ _) ?_))
    have hfew := few l g.nd fun x hx => (by
      obtain ⟨j, c1, c2⟩ := (hmem x).mp hx
      exact ⟨j, by omega, c2⟩)
    refine add_any (s := { t with toks := t.toks + 1 }) h1 g (by unfold scanBound; omega) fun b h' D' l' sb h2 g2 hl2 hm2 => ?_
    refine wpAny_pure ⟨plainId_quiet PyProof.Rows.F.plain_set_update_loop _, fillS W z hz val hv few m (i + 1) _ (by omega) (W.frame _ t _ _ st' (Nat.le_succ _) fun b hb o e => ?_) ⟨D', l', h2, g2, by omega, fun x => ?_⟩ fun t2 mv2 S3 => ?_⟩
    · have nb : b ≠ z := fun q => hz (q ▸ hb)
      rw [sb.2 b nb]
      exact e
    · rw [hm2, hmem]
      constructor
      · rintro (⟨j, c1, c2⟩ | c)
        · exact ⟨j, by omega, c2⟩
        · exact ⟨i, by omega, c.symm⟩
      · rintro ⟨j, c1, c2⟩
        by_cases e : j = i
        · subst e
          exact .inr c2.symm
        · exact .inl ⟨j, by omega, c2⟩
    · refine k t2 (Moved.trans W.gtrans ((mv.mono fun b q => List.mem_cons_of_mem _ q).then_heap (Nat.le_succ _) fun b o hb e => ?_) mv2) S3
      have nb : b ≠ z := fun q => hb (q ▸ List.mem_cons_self)
      rw [sb.2 b nb]
      exact e
end
section
variable {prog : Program} {w : World} {A : Around} {E : Value → Shared → Prop} {s : Shared}
abbrev bareS (w : World) : Obj := sObj "set" (#[], 0, .fresh 0 0 (!w.params.followText "set-order"))
theorem code_newS (a : Value) {Q : Value → Shared → Prop} (h : Q (.ref s.heap.objs.size) { s with heap := s.heap.push (bareS w) }) :
    codeAny (model prog w) A (.call (.builtin "set.__new__") ⟨[.type "set", a], []⟩) (wants Q E) s := by
  refine codeAny_of_tree ?_; show wpAny _ A.in1 (do checkBuiltinCall "set.__new__" ⟨[.type "set", a], []⟩; again (.builtin "set.__new__" ⟨[.type "set", a], []⟩)) _ _ s
  refine wpAny_bind (wpAny_of_eq (PySem.F.newCall_set_1 a) (wpAny_pure ⟨plainId_quiet PySem.F.plain_set_new _, codeAny_builtin PySem.F.entry_set_new ?_⟩)); rw [Around.under_plainId PySem.F.plain_set_new _]
  unfold Builtin.«set.__new__» Builtin.Frozenset.newClass; have sb := sub_set_self
  obtain ⟨hp, gs, dr, tk, os⟩ := s; dsimp only; wp_walk
  refine wpAny_askSetting (wpAny_pure ?_); dsimp only; simp only [newObj]
  exact wpAny_bind (wpAny_alloc (wpAny_pure (wpAny_pure h)))
theorem call_setS {x : Str} {u : Tok} {Q : Value → Shared → Prop} (calm : A.handled = none) (few : ∀ l : List Str, l.Nodup → (∀ y ∈ l, ∃ j, j < x.cps.size ∧ SetT.sgnOf x j = y) → l.length ≤ 3000)
    (k : ∀ (h' : Heap) (tk : Nat), Has prog w (SetT.sgnOf x) s.heap.objs.size x.cps.size h' →
      (∀ b o, b < s.heap.objs.size → s.heap.get? b = some o → h'.get? b = some o) → Q (.ref s.heap.objs.size) { s with heap := h', toks := tk }) :
    wpAny (model prog w) A (call (.type "set") [.str x u]) Q E s := by
  obtain ⟨c0, tl0, hm0⟩ := PySem.F.called_set.mro
  have f1 := PySem.F.called_set.made
  have f2 := PySem.F.called_set.sub
  refine wpAny_call (codeAny_of_tree ?_)
  show wpAny _ _ (callAny (.type "set") _) _ _ _
  refine wpAny_pure ⟨Code.quiet_builtin _ (by decide +kernel), codeAny_builtin PySem.F.entry_type_call ?_⟩
  rw [Around.under_plain (weight_type_call_type "set" [.str x u] []) rfl]
  have f3 := PySem.F.called_set.notType
  have f4 := PySem.F.called_set.canCreate
  have f5 := PySem.F.typeCall_set_1 (.str x u)
  repeat (any_goals (first | assumption | wp_step))
  refine codeAny_mono (code_newS (.str x u) (E := E) (Q := fun ob t => ob = .ref s.heap.objs.size ∧ t = { s with heap := s.heap.push (bareS w) }) ⟨rfl, rfl⟩) fun r t hr => ?_
  match r, hr with
  | .error e, hr => exact hr
  | .ok (.ret ob), hr =>
    obtain ⟨rfl, rfl⟩ := hr
    have g0 : (s.heap.push (bareS w)).get? s.heap.objs.size = some (bareS w) := Heap.get?_push_size _ rfl
    have ty : Shared.TypeIs { s with heap := s.heap.push (bareS w) } (.ref s.heap.objs.size) "set" := ⟨_, g0, rfl⟩
    have f6 := PySem.F.called_set.init.lookup
    have f7 := PySem.F.called_set.init.bind (.ref s.heap.objs.size)
    repeat (any_goals (first | assumption | wp_step))
    refine codeAny_mono (codeAny_call_builtin (R := wants (fun r t2 => r = .none ∧ ∃ h' tk, t2 = { s with heap := h', toks := tk } ∧ Has prog w (SetT.sgnOf x) s.heap.objs.size x.cps.size h' ∧
        (∀ b o, b < s.heap.objs.size → s.heap.get? b = some o → h'.get? b = some o)) E) PySem.F.called_set.init.plain PySem.F.entry_set_init (check_set_init_1 ty ?_)) fun r2 t2 hr2 => ?_
    · have n1 := PySem.F.sub_str_set
      have n2 := PySem.F.sub_str_frozenset
      have n3 := PySem.F.sub_str_dict
      have n4 : (Value.type "str" == Value.type "dict") = false := by decide
      unfold Builtin.«set.__init__» noKeywords Builtin.Frozenset.updateFrom
      generalize hPI : pyIter = PI
      wp_walk
      subst hPI
      refine wpAny_pyIter_str fun it St hW st0 => ?_
      refine wpAny_bind (wpAny_runValue ?_)
      have cl3 : A.in1.in1.in1.handled = none := by simp [calm]
      have sz : (s.heap.push (bareS w)).objs.size = s.heap.objs.size + 1 := by rw [Heap.size_push]
      have zf : s.heap.objs.size ∉ [(s.heap.push (bareS w)).objs.size] := by
        rw [sz, List.mem_singleton]
        omega
      refine fillS ((hW _ cl3).toS) s.heap.objs.size zf (SetT.sgnOf x) (fun i v pv => ?_) few (x.cps.size - 0) 0 _ (by omega) st0 ?_ ?_
      · obtain ⟨ch, t3, e1, rfl⟩ := pv
        refine ⟨t3, ?_⟩
        have e2 : SetT.sgnOf x i = ⟨#[ch]⟩ := by
          unfold SetT.sgnOf
          rw [Array.getD_eq_getD_getElem?, e1]
          rfl
        rw [e2]
      · exact ⟨_, [], Heap.get?_push_of_some it g0, Good.zero, Nat.le_refl _, fun y => ⟨fun z => (nomatch z), fun ⟨j, z, _⟩ => absurd z (Nat.not_lt_zero _)⟩⟩
      · intro t3 mv S3
        obtain ⟨hp, gs, dr, tk, os⟩ := t3
        obtain rfl : gs = s.gens := mv.gens
        obtain rfl : dr = s.drawn := mv.drawn
        obtain rfl : os = s.os := mv.os
        show wpAny _ _ _ _ _ _
        refine wpAny_pure ?_
        show wpAny _ _ (ret Value.none) _ _ _
        refine wpAny_pure ⟨rfl, hp, tk, rfl, S3, fun b o hb e => ?_⟩
        refine mv.heap b o ?_ (Heap.get?_push_of_some _ (Heap.get?_push_of_some _ e))
        have q1 : b ≠ s.heap.objs.size := Nat.ne_of_lt hb
        have q2 : b ≠ s.heap.objs.size + 1 := by omega
        rw [sz]
        simp [q1, q2]
    · match r2, hr2 with
      | .error e, hr2 => exact hr2
      | .ok (.ret q), hr2 =>
        obtain ⟨rfl, h', tk, rfl, S', kp⟩ := hr2
        repeat (any_goals (first | assumption | wp_step))
        exact k _ _ S' kp
      | .ok .next, hr2 => exact hr2.elim
      | .ok .brk, hr2 => exact hr2.elim
      | .ok .cont, hr2 => exact hr2.elim
  | .ok .next, hr => exact hr.elim
  | .ok .brk, hr => exact hr.elim
  | .ok .cont, hr => exact hr.elim
end
end SetS
namespace SetS
open PySem PySem.Spec PyProof.Rows PySem.Froz L2
section
variable {prog : Program} {w : World} {A : Around} {E : Value → Shared → Prop} {s : Shared}
theorem strs_map : ∀ {vs : List Value}, (∀ v ∈ vs, ∃ k u, v = Value.str k u) → StrsAre vs (vs.map txOf)
  | [], _ => .nil
  | v :: r, h => by
    obtain ⟨k, u, rfl⟩ := h v List.mem_cons_self
    exact .cons k u (strs_map fun x hx => h x (List.mem_cons_of_mem _ hx))
theorem sorted_setS {a : Addr} {D : SD} {l : List Str} {Q : Value → Shared → Prop} (h0 : s.heap.get? a = some (sObj "set" D)) (g : Good prog w D l) (hh : A.handled = none) (hz : l.length ≤ 4000)
    (q : ∀ s' p (out : Array Value) (c : Nat) (ss : List Str), (∀ b o, s.heap.get? b = some o → s'.heap.get? b = some o) → s'.gens = s.gens → s'.os = s.os → s.heap.objs.size ≤ p →
      s'.heap.get? p = some (seqObj "list" out c) → StrsAre out.toList ss → ss.Perm l → sortedS ss = true → Q (.ref p) s') :
    wpAny (model prog w) A (call (.builtin "sorted") [.ref a]) Q E s := by
  have hsz : D.1.size = l.length := g.ok.sz
  refine Calls.call_function_entry kind_sorted plain_sorted entry_sorted (args_sorted1 _) ?_; unfold Builtin.«sorted»
  refine wpAny_bind (m := checkCount "sorted" 1 1 _) (wpAny_pure (wpAny_bind (collect_set (A := A.in1) hh ⟨_, h0, rfl, rfl⟩ g.ok.fit (by rw [hsz]; unfold scanBound; omega) g.ris g.led fun s1 vs k1 hz1 g1 o1 pm => ?_)))
  have hvl : vs.length = l.length := by rw [pm.length_eq, List.length_map, Array.length_toList]; exact hsz
  have hS : StrsAre vs (vs.map txOf) := strs_map fun v hv => by
    obtain ⟨e, he, rfl⟩ := List.mem_map.mp (pm.mem_iff.mp hv)
    obtain ⟨⟨k, hk, _⟩, _⟩ := g.ok.el e he
    obtain ⟨u, hu⟩ := str_of hk
    exact ⟨k, u, hu⟩
  have hp1 : (vs.map txOf).Perm l := by
    have := pm.map txOf
    rw [List.map_map] at this
    exact this.trans g.pm
  have hfit : vs.length ≤ sizeLine := by rw [hvl, PySem.sizeLine_eq]; omega
  refine wpAny_bind (wpAny_newList ?_ hfit)
  have hoL : (s1.heap.push (seqObj "list" vs.toArray 0)).get? s1.heap.objs.size = some (seqObj "list" vs.toArray 0) := Heap.get?_push_size _ rfl
  refine wpAny_bind (wpAny_holding (wpAny_call_entry slot_list_sort ⟨_, hoL, rfl⟩ entry_list_sort (list_sort_treeKAny PyProof.Rows.strKind_oneLt hoL hS.keysOf (fun v1 v2 rest e => keyKind_strs (by rw [← e]; exact hS)) hfit fun st hp hs => ⟨_, rfl, ?_⟩) (args_list_sort _)))
  obtain ⟨ss, a1, a2, a3⟩ := sorted_out_str hS hp hs
  obtain ⟨c, hc⟩ := PyProof.Rows.sortedHeap_at (vs := vs) (out := (arrOf st).map (·.2)) hoL
  refine wpAny_pure ⟨_, rfl, q _ s1.heap.objs.size _ c ss (fun b u e => ?_) g1 o1 hz1 hc a1 (a2.trans hp1) a3⟩
  have e1 := k1 b u e
  have hlt := Heap.lt_size e1
  show (PyProof.Rows.sortedHeap (s1.heap.push (seqObj "list" vs.toArray 0)) s1.heap.objs.size vs _).get? b = some u
  rw [PyProof.Rows.sortedHeap_old (Nat.ne_of_lt hlt) (by rw [size_push']; exact Nat.lt_succ_of_lt hlt)]
  exact Heap.get?_push_of_some _ e1
end
end SetS
namespace Ab
open PySem PySem.Spec PyProof.Rows L2
/-! ### the signs of a text, each once, in order -/
def sgns (s : List Nat) : List Nat := (List.range 128).filter fun c => decide (c ∈ s)
theorem sgns_mem {s : List Nat} (h : ∀ c ∈ s, c < 128) {c : Nat} : c ∈ sgns s ↔ c ∈ s := by
  unfold sgns
  rw [List.mem_filter, List.mem_range, decide_eq_true_eq]
  exact ⟨fun z => z.2, fun z => ⟨h c z, z⟩⟩
theorem sgns_lt {s : List Nat} {c : Nat} (h : c ∈ sgns s) : c < 128 := List.mem_range.mp (List.mem_filter.mp h).1
theorem sgns_sorted (s : List Nat) : (sgns s).Pairwise (· < ·) := List.pairwise_lt_range.filter _
theorem sgns_nodup (s : List Nat) : (sgns s).Nodup := (sgns_sorted s).imp fun h => Nat.ne_of_lt h
theorem sorted_uniq : ∀ {a b : List Nat}, a.Pairwise (· < ·) → b.Pairwise (· < ·) → (∀ x, x ∈ a ↔ x ∈ b) → a = b
  | [], [], _, _, _ => rfl
  | [], y :: b, _, _, h => absurd ((h y).mpr List.mem_cons_self) List.not_mem_nil
  | x :: a, [], _, _, h => absurd ((h x).mp List.mem_cons_self) List.not_mem_nil
  | x :: a, y :: b, ha, hb, h => by
    obtain ⟨a1, a2⟩ := List.pairwise_cons.mp ha
    obtain ⟨b1, b2⟩ := List.pairwise_cons.mp hb
    have e : x = y := by
      rcases List.mem_cons.mp ((h x).mp List.mem_cons_self) with z | z
      · exact z
      · rcases List.mem_cons.mp ((h y).mpr List.mem_cons_self) with z2 | z2
        · exact z2.symm
        · have := b1 x z
          have := a1 y z2
          omega
    subst e
    rw [sorted_uniq a2 b2 fun z => ?_]
    constructor
    · intro hz
      rcases List.mem_cons.mp ((h z).mp (List.mem_cons_of_mem _ hz)) with w | w
      · have := a1 z hz
        omega
      · exact w
    · intro hz
      rcases List.mem_cons.mp ((h z).mpr (List.mem_cons_of_mem _ hz)) with w | w
      · have := b1 z hz
        omega
      · exact w
theorem rising_le : ∀ (cs : List Nat) (p : Nat), risingS (sOf [p]) (cs.map fun c => sOf [c]) = true → (p :: cs).Pairwise (· ≤ ·)
  | [], p, _ => List.pairwise_singleton _ _
  | c :: r, p, h => by
    have h : (!ltCps [c] [p] && risingS (sOf [c]) (r.map fun c => sOf [c])) = true := h
    obtain ⟨h1, h2⟩ := Bool.and_eq_true_iff.mp h
    have ih := rising_le r c h2
    have hpc : p ≤ c := by
      have h1 : (!(decide (c < p) || ((c == p) && false))) = true := h1
      rw [Bool.and_false, Bool.or_false, Bool.not_eq_true', decide_eq_false_iff_not] at h1
      omega
    refine List.pairwise_cons.mpr ⟨fun x hx => ?_, ih⟩
    rcases List.mem_cons.mp hx with z | z
    · rw [z]
      exact hpc
    · exact Nat.le_trans hpc ((List.pairwise_cons.mp ih).1 x z)
theorem sorted_le {cs : List Nat} (h : sortedS (cs.map fun c => sOf [c]) = true) : cs.Pairwise (· ≤ ·) := by
  cases cs with
  | nil => exact List.Pairwise.nil
  | cons c r => exact rising_le r c h
/-- a sorted list of unlike signs is the list of the signs -/
theorem sorted_sgns {cs s : List Nat} (h1 : sortedS (cs.map fun c => sOf [c]) = true) (nd : cs.Nodup) (hs : ∀ c ∈ s, c < 128) (hm : ∀ c, c ∈ cs ↔ c ∈ s) : cs = sgns s := by
  refine sorted_uniq ?_ (sgns_sorted s) fun x => by rw [hm, sgns_mem hs]
  have h2 := sorted_le h1
  exact h2.imp₂ (fun a b hab hne => Nat.lt_of_le_of_ne hab hne) nd
theorem ones_inj : Function.Injective fun c : Nat => sOf [c] := fun a b h => (List.cons.inj (sOf_inj h)).1
/-- texts of one sign each -/
theorem as_ones : ∀ {ss : List Str}, (∀ x ∈ ss, ∃ c : Nat, x = sOf [c]) → ∃ cs : List Nat, ss = cs.map fun c => sOf [c]
  | [], _ => ⟨[], rfl⟩
  | x :: r, h => by
    obtain ⟨c, rfl⟩ := h x List.mem_cons_self
    obtain ⟨cs, rfl⟩ := as_ones (ss := r) fun y hy => h y (List.mem_cons_of_mem _ hy)
    exact ⟨c :: cs, rfl⟩
theorem ones_sorted {ss l : List Str} {s : List Nat} (hp : ss.Perm l) (nd : l.Nodup) (h1 : sortedS ss = true) (hs : ∀ c ∈ s, c < 128) (hm : ∀ x, x ∈ l ↔ ∃ c, c ∈ s ∧ x = sOf [c]) : ss = (sgns s).map fun c => sOf [c] := by
  obtain ⟨cs, rfl⟩ := as_ones (ss := ss) fun x hx => by
    obtain ⟨c, _, h⟩ := (hm x).mp (hp.mem_iff.mp hx)
    exact ⟨c, h⟩
  have nd2 : cs.Nodup := (List.pairwise_map.mp (hp.nodup_iff.mpr nd)).imp fun h e => h (by rw [e])
  rw [sorted_sgns h1 nd2 hs fun c => ?_]
  have : c ∈ cs ↔ sOf [c] ∈ cs.map fun c => sOf [c] := ⟨fun h => List.mem_map_of_mem h, fun h => by
    obtain ⟨d, hd, e⟩ := List.mem_map.mp h
    rw [ones_inj e] at hd
    exact hd⟩
  rw [this, hp.mem_iff, hm]
  exact ⟨fun ⟨d, hd, e⟩ => by rw [ones_inj e]; exact hd, fun h => ⟨c, h, rfl⟩⟩
/-! ### rules -/
def onesV (cs : List Nat) : List V := cs.map fun c => V.str (sOf [c])
def tSortSetT (ta : TE) : TE := fun σ H Q => ta σ H fun x H1 => ∃ s : List Nat, x = .str (sOf s) ∧ (∀ c ∈ s, c < 128) ∧ ∀ p, H1 p = none → Q (.ref p) (upd H1 p (.lst (onesV (sgns s))))
theorem sgn_of {z : List Nat} {i : Nat} (hi : i < z.length) : SetT.sgnOf (sOf z) i = sOf [z.getD i 0] := by
  unfold SetT.sgnOf
  show (⟨#[z.toArray.getD i 0]⟩ : Str) = ⟨#[z.getD i 0]⟩
  rw [Array.getD_eq_getD_getElem?, List.getElem?_toArray, List.getD_eq_getElem?_getD]
theorem pe_sortSetT {X : Cx} {a : Expr} {ta : TE} {p p2 q pos : Pos} (hc : X.calm = true) (hg : Gl X "sorted") (hm : X.mg "sorted" = none) (hg2 : Gl X "set") (hm2 : X.mg "set" = none) (ha : PE X a ta)
    (one : starEach [a] X.env = (false, eval a X.env) :: starEach [] X.env := by rfl) :
    PE X (.Call (.Name "sorted" p) [.Call (.Name "set" p2) [a] [] q] [] pos) (tSortSetT ta) := by
  refine ⟨fun pins s σ H Q I h => Call_ (ld_blt I hg hm (show bootBuiltins "sorted" = some (.builtin "sorted") by decide +kernel) (PyProof.Rows.callWith_builtin1 (PyProof.Rows.args_cons ?_ rfl) rfl rfl))⟩
  refine Call_ (ld_blt I hg2 hm2 boot_set (PyProof.Rows.callWith_type1 (PyProof.Rows.args_cons ?_ one) one rfl))
  refine thn (ha.run pins s σ H _ I h) fun v s1 ⟨x, H1, I1, r1, q1⟩ => PyProof.Rows.args_nil ?_
  obtain ⟨z, rfl, hlt, q1⟩ := q1
  obtain ⟨t, rfl⟩ := r1
  have hsz : (sOf z).cps.size = z.length := List.size_toArray
  have few : ∀ l : List Str, l.Nodup → (∀ y ∈ l, ∃ j, j < (sOf z).cps.size ∧ SetT.sgnOf (sOf z) j = y) → l.length ≤ 3000 := fun l nd hl => by
    rw [hsz] at hl
    obtain ⟨cs, rfl⟩ := as_ones (ss := l) fun x hx => by
      obtain ⟨j, hj, e⟩ := hl x hx
      exact ⟨_, e.symm.trans (sgn_of hj)⟩
    rw [List.length_map]
    refine Nat.le_trans (nodup_few 128 cs ((List.pairwise_map.mp nd).imp fun h e => h (by rw [e])) fun c hc => ?_) (by decide)
    obtain ⟨j, hj, e⟩ := hl _ (List.mem_map_of_mem hc)
    rw [sgn_of hj] at e
    rw [← ones_inj e, List.getD_eq_getElem?_getD, List.getElem?_eq_getElem hj]
    exact hlt _ (List.getElem_mem _)
  refine SetS.call_setS (I1.ok.hd hc) few fun h' tk S kp => PyProof.Rows.args_nil ?_
  have I2 : Inv X pins σ H1 { s1 with heap := h', toks := tk } := I1.kept fun b o e => kp b o (Heap.lt_size e) e
  rw [hsz] at S
  obtain ⟨D, l, h0, g, hl, hmem⟩ := S
  obtain ⟨s2, es2⟩ : ∃ s2 : Shared, s2 = { s1 with heap := h', toks := tk } := ⟨_, rfl⟩
  rw [← es2] at I2 ⊢
  have h0 : s2.heap.get? s1.heap.objs.size = some (PySem.Froz.sObj "set" D) := by rw [es2]; exact h0
  refine SetS.sorted_setS h0 g (I1.ok.hd hc) (Nat.le_trans (few l g.nd fun y hy => by rw [hsz]; exact (hmem y).mp hy) (by decide)) fun s' p out c ss k gg os hp hgt hi hpm hso => ?_
  have hml : ∀ x, x ∈ l ↔ ∃ c, c ∈ z ∧ x = sOf [c] := fun x => by
    rw [hmem]
    constructor
    · rintro ⟨j, hj, rfl⟩
      refine ⟨z.getD j 0, ?_, sgn_of hj⟩
      rw [List.getD_eq_getElem?_getD, List.getElem?_eq_getElem hj]
      exact List.getElem_mem _
    · rintro ⟨c, hcm, rfl⟩
      obtain ⟨j, hj, rfl⟩ := List.mem_iff_getElem.mp hcm
      refine ⟨j, hj, ?_⟩
      rw [sgn_of hj, List.getD_eq_getElem?_getD, List.getElem?_eq_getElem hj]
      rfl
  have e1 := ones_sorted hpm g.nd hso hlt hml
  subst e1
  have hn : H1 p = none := I2.hok.fresh hp
  have hlen : (onesV (sgns z)).length ≤ sizeLine := by
    unfold onesV sgns
    rw [List.length_map, PySem.sizeLine_eq]
    have := List.length_filter_le (fun c => decide (c ∈ z)) (List.range 128)
    rw [List.length_range] at this
    omega
  have hv : Vals (onesV (sgns z)) out.toList := by
    have := vals_of_strs hi
    rw [List.map_map] at this
    exact this
  have J : Inv X pins σ (upd H1 p (.lst (onesV (sgns z)))) { s2 with heap := s'.heap, gens := s'.gens, drawn := s'.drawn, toks := s'.toks } :=
    I2.call (ch := []) (Un.laid k hp hn) (I2.hok.laid k hp ⟨hlen, out.toList, c, hv, hgt⟩) (by rw [gg]; exact I2.bare) (fun _ z => nomatch z)
  have e : s' = { s2 with heap := s'.heap, gens := s'.gens, drawn := s'.drawn, toks := s'.toks } := by
    cases s'
    cases s2
    cases os
    rfl
  rw [e]
  exact ⟨.ref p, _, J, rfl, q1 p hn⟩
/-- sorted of a list of unlike signs -/
abbrev rSort1 (K : PySem.W.Frag) : List V → Hp → VK → Prop := fun vs H Q => ∃ (a : Addr) (cs : List Nat), vs = [V.ref a] ∧ SqL K H a (onesV cs) ∧ cs.Nodup ∧ (∀ c ∈ cs, c < 128) ∧ ∀ p, H p = none → Q (.ref p) (upd H p (.lst (onesV (sgns cs))))
theorem call_sort1 {X : Cx} : CallR X (.builtin "sorted") (rSort1 X.K) := by
  intro pins s σ H vs us Q I r h
  obtain ⟨a, cs, rfl, hs, nd, hlt, q⟩ := h
  obtain ⟨its, rv, hl, hz⟩ := I.list hs
  rw [Vals.ref1 r]
  have hlen0 := rv.length
  have e0 : onesV cs = (cs.map fun c => sOf [c]).map V.str := by unfold onesV; rw [List.map_map]; rfl
  rw [e0] at rv
  refine PyProof.Rows.sorted_strsAny hl.isList rv.strs (by rw [← hlen0]; exact hz) fun out ys h1 h2 h3 => ?_
  obtain ⟨ep, he'⟩ := PyProof.Rows.sortedAll_at s.heap its out
  have e1 := ones_sorted h2 (List.pairwise_map.mpr (nd.imp fun h e => h (ones_inj e))) h3 hlt fun x => by
    rw [List.mem_map]
    exact ⟨fun ⟨c, h, e⟩ => ⟨c, h, e.symm⟩, fun ⟨c, h, e⟩ => ⟨c, h, e.symm⟩⟩
  subst e1
  have hv : Vals (onesV (sgns cs)) out.toList := by
    have := vals_of_strs h1
    rw [List.map_map] at this
    exact this
  have hlen : (onesV (sgns cs)).length ≤ sizeLine := by
    unfold onesV sgns
    rw [List.length_map, PySem.sizeLine_eq]
    have := List.length_filter_le (fun c => decide (c ∈ cs)) (List.range 128)
    rw [List.length_range] at this
    omega
  exact ⟨.ref _, upd H (s.heap.objs.size + 1) (.lst (onesV (sgns cs))), I.laid (t' := s.toks) (fun _ _ => PyProof.Rows.sortedAll_old) (Nat.le_succ _) ⟨hlen, out.toList, ep, hv, he'⟩, rfl, q _ (I.hok.fresh (Nat.le_succ _))⟩
theorem sort1K {X : Cx} {K : PySem.W.Frag} (hK : X.K = K) : CallR X (.builtin "sorted") (rSort1 K) := by subst hK; exact call_sort1
section
variable {K : PySem.W.Frag} {e : Env} {ta : TE}
def onesD (cs : List Nat) : List D := cs.map fun c => .str [c]
theorem rds_ones {G : Hp} : ∀ cs : List Nat, RDs K G (onesV cs) (onesD cs)
  | [] => .nil
  | _ :: r => .cons .str (rds_ones r)
theorem ones_rds {G : Hp} : ∀ {cs : List Nat} {vs : List V}, RDs K G vs (onesD cs) → vs = onesV cs
  | [], _, .nil => rfl
  | c :: r, _, .cons h t => by
    cases h
    rw [ones_rds t]
    rfl
theorem an_sortSet {s : List Nat} (h : AE K ta e (.d (.str s))) (hs : ∀ c ∈ s, c < 128) : AN K (tSortSetT ta) e (onesD (sgns s)) := fun B σ G H ad R C c =>
  h B σ G H ad R _ fun v G1 H1 X1 r1 => by
    cases r1
    exact ⟨s, rfl, hs, fun p hp => c p _ G1 _ (X1.trans (Xt.drop X1.gh hp)) (Same.none X1.hh hp) (Same.none X1.gh hp) upd_same (rds_ones _)⟩
theorem nc_sort1 {cs : List Nat} (nd : cs.Nodup) (hs : ∀ c ∈ cs, c < 128) : NC K (rSort1 K) [.d (.lst (onesD cs))] e (onesD (sgns cs)) := fun B σ G H ad R vs rv C c => by
  obtain ⟨v, rfl, rw⟩ := rv1 rv
  cases rw with
  | lst hq rd =>
    rw [ones_rds rd] at hq
    exact ⟨_, cs, rfl, .inl (.inl (R.gh _ _ hq)), nd, hs, fun p hp => c p _ G _ (Xt.drop R.gh hp) hp (Same.none R.gh hp) upd_same (rds_ones _)⟩
theorem nc_sort1O {k : Nat} {cs : List Nat} (hk : e.m[k]? = some (some (.lst (onesD cs)))) (nd : cs.Nodup) (hs : ∀ c ∈ cs, c < 128) : NC K (rSort1 K) [.o k] e (onesD (sgns cs)) := fun B σ G H ad R vs rv C c => by
  obtain ⟨v, rfl, l, hl, rfl⟩ := rv1 rv
  obtain ⟨_, _, vs, hq, rd⟩ := R.op k l _ hl hk
  rw [ones_rds rd] at hq
  exact ⟨_, cs, rfl, .inl (.inl hq), nd, hs, fun p hp => c p _ G _ (Xt.drop R.gh hp) hp (Same.none R.gh hp) upd_same (rds_ones _)⟩
end
end Ab
namespace Ab
open PySem PySem.Spec PyProof.Rows L2
/-! ### words and cuts by a table -/
/-- what is told of a row, or of nowhere -/
def toldOf (t : Tbl) (o : Option Nat) : Option Int := o.bind fun n => (t.rows[n]?).bind fun r => r.1
theorem toldOf_at {t : Tbl} {n : Nat} {r : Row} (h : t.rows[n]? = some r) : toldOf t (some n) = r.1 := by
  show (t.rows[n]?).bind _ = _
  rw [h]
  rfl
/-- the longest stretch from a place on, of those up to i signs -/
def best (t : Tbl) (s : List Nat) (at_ : Nat) : Nat → Option (Int × Nat)
  | 0 => none
  | i + 1 => match toldOf t (runs t (some 0) ((s.drop at_).take (i + 1))) with
    | some v => some (v, at_ + (i + 1))
    | none => best t s at_ i
def wordOf (t : Tbl) (s : List Nat) (at_ : Nat) : Option (Int × Nat) := best t s at_ (s.length - at_)
theorem best_end {t : Tbl} {s : List Nat} {at_ : Nat} : ∀ {i : Nat} {v : Int} {e : Nat}, best t s at_ i = some (v, e) → at_ < e ∧ e ≤ at_ + i
  | 0, _, _, h => by cases h
  | i + 1, v, e, h => by
    unfold best at h
    cases q : toldOf t (runs t (some 0) ((s.drop at_).take (i + 1))) with
    | some w =>
      rw [q] at h
      cases h
      omega
    | none =>
      rw [q] at h
      have := best_end h
      omega
theorem word_end {t : Tbl} {s : List Nat} {at_ : Nat} {v : Int} {e : Nat} (h : wordOf t s at_ = some (v, e)) (hl : at_ ≤ s.length) : at_ < e ∧ e ≤ s.length := by
  have := best_end h
  omega
/-- nowhere: nothing more is told -/
theorem best_dead {t : Tbl} {s : List Nat} {at_ i : Nat} (h : runs t (some 0) ((s.drop at_).take (i + 1)) = none) : ∀ j, i ≤ j → best t s at_ j = best t s at_ i
  | j, hj => by
    induction j with
    | zero =>
      have : i = 0 := by omega
      rw [this]
    | succ j ih =>
      by_cases e : i = j + 1
      · rw [e]
      · have hd : runs t (some 0) ((s.drop at_).take (j + 1)) = none := by
          have h2 := runs_app t (some 0) ((s.drop at_).take (i + 1)) ((((s.drop at_).take (j + 1)).drop (i + 1)))
          have h3 : (s.drop at_).take (i + 1) ++ ((s.drop at_).take (j + 1)).drop (i + 1) = (s.drop at_).take (j + 1) := by
            have : (s.drop at_).take (i + 1) = ((s.drop at_).take (j + 1)).take (i + 1) := by
              rw [List.take_take, Nat.min_eq_left (by omega)]
            rw [this, List.take_append_drop]
          rw [h3, h, runs_none] at h2
          exact h2
        have e2 : best t s at_ (j + 1) = best t s at_ j := by
          show (match toldOf t (runs t (some 0) ((s.drop at_).take (j + 1))) with | some v => some (v, at_ + (j + 1)) | none => best t s at_ j) = _
          rw [hd]
          rfl
        rw [e2]
        exact ih (by omega)
abbrev Piece := Option Int × Nat × Nat
def nextAt (t : Tbl) (s : List Nat) (at_ : Nat) : Option Int × Nat := match wordOf t s at_ with
  | some (v, e) => (some v, e)
  | none => (none, at_ + 1)
theorem nextAt_b {t : Tbl} {s : List Nat} {at_ : Nat} (hl : at_ < s.length) : at_ < (nextAt t s at_).2 ∧ (nextAt t s at_).2 ≤ s.length := by
  unfold nextAt
  cases q : wordOf t s at_ with
  | none =>
    show at_ < at_ + 1 ∧ at_ + 1 ≤ s.length
    omega
  | some w =>
    obtain ⟨v, e⟩ := w
    exact word_end q (by omega)
/-- a cut by what comes next: n pieces at most -/
def cutN (nx : Nat → Option Int × Nat) (len : Nat) : Nat → List Piece × Nat
  | 0 => ([], 0)
  | m + 1 => if (cutN nx len m).2 < len then ((cutN nx len m).1 ++ [((nx (cutN nx len m).2).1, (cutN nx len m).2, (nx (cutN nx len m).2).2)], (nx (cutN nx len m).2).2) else cutN nx len m
def cutA (nx : Nat → Option Int × Nat) (len : Nat) : List Piece := (cutN nx len len).1
theorem cutN_step {nx : Nat → Option Int × Nat} {len m : Nat} (h : (cutN nx len m).2 < len) : cutN nx len (m + 1) = ((cutN nx len m).1 ++ [((nx (cutN nx len m).2).1, (cutN nx len m).2, (nx (cutN nx len m).2).2)], (nx (cutN nx len m).2).2) := by
  show (if _ then _ else _) = _
  rw [if_pos h]
theorem cutN_stop {nx : Nat → Option Int × Nat} {len m : Nat} (h : ¬ (cutN nx len m).2 < len) : ∀ j, m ≤ j → cutN nx len j = cutN nx len m
  | j, hj => by
    induction j with
    | zero =>
      have : m = 0 := by omega
      rw [this]
    | succ j ih =>
      by_cases e : m = j + 1
      · rw [e]
      · have hi := ih (by omega)
        show (if _ then _ else _) = _
        rw [hi, if_neg h]
theorem cutN_at {nx : Nat → Option Int × Nat} {len : Nat} (hn : ∀ a, a < len → a < (nx a).2 ∧ (nx a).2 ≤ len) : ∀ m, (cutN nx len m).2 ≤ len ∧ ((cutN nx len m).2 < len → m ≤ (cutN nx len m).2) ∧ (cutN nx len m).1.length ≤ m
  | 0 => ⟨Nat.zero_le _, fun _ => Nat.le_refl _, Nat.le_refl _⟩
  | m + 1 => by
    obtain ⟨h1, h2, h3⟩ := cutN_at hn m
    by_cases h : (cutN nx len m).2 < len
    · rw [cutN_step h]
      have := hn _ h
      have := h2 h
      refine ⟨by show _ ≤ len; omega, fun _ => by show m + 1 ≤ _; omega, ?_⟩
      show (_ ++ [_]).length ≤ m + 1
      rw [List.length_append, List.length_singleton]
      omega
    · rw [cutN_stop h (m + 1) (by omega)]
      exact ⟨h1, fun z => absurd z h, by omega⟩
def pieceD (p : Piece) : D := .tup [optI p.1, .int (p.2.1 : Nat), .int (p.2.2 : Nat)]
def piecesD (ps : List Piece) : List D := ps.map pieceD
end Ab
namespace Ab
open PySem PySem.Spec PyProof.Rows L2
/-! ### the longest stretch, by what is told of each -/
def bestG (T : Nat → Option Int) (k : Nat) : Nat → Option (Int × Nat)
  | 0 => none
  | i + 1 => match T (i + 1) with
    | some v => some (v, k + (i + 1))
    | none => bestG T k i
def nextG (T : Nat → Option Int) (k len : Nat) : Option Int × Nat := match bestG T k (len - k) with
  | some (v, e) => (some v, e)
  | none => (none, k + 1)
theorem bestG_end {T : Nat → Option Int} {k : Nat} : ∀ {i : Nat} {v : Int} {e : Nat}, bestG T k i = some (v, e) → k < e ∧ e ≤ k + i
  | 0, _, _, h => by cases h
  | i + 1, v, e, h => by
    unfold bestG at h
    cases q : T (i + 1) with
    | some w =>
      rw [q] at h
      cases h
      omega
    | none =>
      rw [q] at h
      have := bestG_end h
      omega
theorem nextG_b {T : Nat → Option Int} {k len : Nat} (hl : k < len) : k < (nextG T k len).2 ∧ (nextG T k len).2 ≤ len := by
  unfold nextG
  cases q : bestG T k (len - k) with
  | none =>
    show k < k + 1 ∧ k + 1 ≤ len
    omega
  | some w =>
    obtain ⟨v, e⟩ := w
    have := bestG_end q
    show k < e ∧ e ≤ len
    omega
/-- nothing more is told -/
theorem bestG_stop {T : Nat → Option Int} {k i : Nat} : ∀ {n : Nat}, i ≤ n → (∀ j, i < j → j ≤ n → T j = none) → bestG T k n = bestG T k i
  | 0, hi, _ => by
    have : i = 0 := by omega
    rw [this]
  | n + 1, hi, h => by
    by_cases e : i = n + 1
    · rw [e]
    · have : bestG T k (n + 1) = bestG T k n := by
        unfold bestG
        rw [h (n + 1) (by omega) (Nat.le_refl _)]
        cases n <;> rfl
      rw [this]
      exact bestG_stop (by omega) fun j h1 h2 => h j h1 (by omega)
theorem bestG_none {T : Nat → Option Int} {k n : Nat} (h : ∀ j, 0 < j → j ≤ n → T j = none) : bestG T k n = none := bestG_stop (i := 0) (Nat.zero_le _) h
theorem bestG_some {T : Nat → Option Int} {k n i : Nat} {v : Int} (h0 : 0 < i) (hi : i ≤ n) (ht : T i = some v) (h : ∀ j, i < j → j ≤ n → T j = none) : bestG T k n = some (v, k + i) := by
  rw [bestG_stop hi h]
  cases i with
  | zero => omega
  | succ i =>
    unfold bestG
    rw [ht]
theorem bestG_succ {T : Nat → Option Int} {k i : Nat} : bestG T k (i + 1) = match T (i + 1) with | some v => some (v, k + (i + 1)) | none => bestG T k i := rfl
theorem bestG_congr {T U : Nat → Option Int} {k : Nat} : ∀ {n : Nat}, (∀ j, j ≤ n → T j = U j) → bestG T k n = bestG U k n
  | 0, _ => rfl
  | n + 1, h => by
    rw [bestG_succ, bestG_succ, h (n + 1) (Nat.le_refl _), bestG_congr (n := n) fun j hj => h j (by omega)]
theorem best_G (t : Tbl) (s : List Nat) (k : Nat) : ∀ i, best t s k i = bestG (fun i => toldOf t (runs t (some 0) ((s.drop k).take i))) k i
  | 0 => rfl
  | i + 1 => by
    rw [bestG_succ, ← best_G t s k i]
    rfl
theorem nextAt_G (t : Tbl) (s : List Nat) (k : Nat) : nextAt t s k = nextG (fun i => toldOf t (runs t (some 0) ((s.drop k).take i))) k s.length := by
  unfold nextAt nextG wordOf
  rw [best_G]
  all_goals (cases bestG (fun i => toldOf t (runs t (some 0) ((s.drop k).take i))) k (s.length - k) <;> rfl)
/-! ### the number of the first pattern that tells a text -/
def numP (ps : List Pat) (s : List Nat) : Option Int := (toldL (leavesOf ps) (runL (leavesOf ps) s)).map Int.ofNat
theorem numP_some {ps : List Pat} (h : PsOk ps) {s : List Nat} {v : Int} (e : numP ps s = some v) : ∃ (k : Nat) (p : Pat), v = (k : Int) ∧ ps[k]? = some p ∧ Tells p s ∧ ∀ j q, j < k → ps[j]? = some q → ¬ Tells q s := by
  unfold numP at e
  cases q : toldL (leavesOf ps) (runL (leavesOf ps) s) with
  | none =>
    rw [q] at e
    cases e
  | some k =>
    rw [q] at e
    cases e
    obtain ⟨p, h1, h2, h3⟩ := told_some h q
    exact ⟨k, p, rfl, h1, h2, h3⟩
theorem numP_none {ps : List Pat} (h : PsOk ps) {s : List Nat} (e : numP ps s = none) : ∀ p ∈ ps, ¬ Tells p s := by
  unfold numP at e
  cases q : toldL (leavesOf ps) (runL (leavesOf ps) s) with
  | none => exact told_none h q
  | some k =>
    rw [q] at e
    cases e
theorem numP_no {ps : List Pat} (h : PsOk ps) {s : List Nat} (g : ∀ p ∈ ps, ¬ Tells p s) : numP ps s = none := by
  cases e : numP ps s with
  | none => rfl
  | some v =>
    obtain ⟨k, p, _, h1, h2, _⟩ := numP_some h e
    exact absurd h2 (g p (List.mem_of_getElem? h1))
theorem numP_of {ps : List Pat} (h : PsOk ps) {s : List Nat} {m : Nat} {p : Pat} (hp : ps[m]? = some p) (ht : Tells p s) (hf : ∀ j q, j < m → ps[j]? = some q → ¬ Tells q s) : numP ps s = some (m : Int) := by
  cases e : numP ps s with
  | none => exact absurd ht (numP_none h e p (List.mem_of_getElem? hp))
  | some v =>
    obtain ⟨k, q, rfl, h1, h2, h3⟩ := numP_some h e
    rcases Nat.lt_trichotomy k m with c | c | c
    · exact absurd h2 (hf k q c h1)
    · rw [c]
    · exact absurd ht (h3 m p c hp)
def tryT (ps : List Pat) (s : List Nat) (k : Nat) (i : Nat) : Option Int := numP ps ((s.drop k).take i)
def nextT (ps : List Pat) (s : List Nat) (k : Nat) : Option Int × Nat := nextG (tryT ps s k) k s.length
/-- what the trying has found so far -/
structure TrySt (k : Nat) (C : Nat → Nat → Prop) (far : Nat) (fd : Option Int × Nat) : Prop where
  mx : ∀ m j, C m j → j ≤ far
  is : (far = k ∧ fd = (none, k + 1)) ∨ (k < far ∧ ∃ m : Nat, C m far ∧ (∀ m', m' < m → ¬ C m' far) ∧ fd = (some (m : Int), far))
theorem TrySt.iff {k : Nat} {C C' : Nat → Nat → Prop} {far : Nat} {fd : Option Int × Nat} (h : TrySt k C far fd) (e : ∀ m j, C m j ↔ C' m j) : TrySt k C' far fd := by
  have : C = C' := by
    funext m j
    exact propext (e m j)
  rw [← this]
  exact h
theorem TrySt.add {k : Nat} {C : Nat → Nat → Prop} {far : Nat} {fd : Option Int × Nat} (h : TrySt k C far fd) {m j : Nat} (hm : ∀ m' j', C m' j' → m' ≤ m) :
    TrySt k (fun m' j' => C m' j' ∨ (m' = m ∧ j' = j)) (if far < j then j else far) (if far < j then (some (m : Int), j) else fd) := by
  have hk : k ≤ far := by
    rcases h.is with ⟨a, _⟩ | ⟨a, _⟩ <;> omega
  by_cases c : far < j
  · rw [if_pos c, if_pos c]
    refine ⟨fun m' j' g => ?_, .inr ⟨by omega, m, .inr ⟨rfl, rfl⟩, fun m' hm' g => ?_, rfl⟩⟩
    · rcases g with g | ⟨_, g⟩
      · have := h.mx m' j' g
        omega
      · omega
    · rcases g with g | ⟨g, _⟩
      · have := h.mx m' j g
        omega
      · omega
  · rw [if_neg c, if_neg c]
    refine ⟨fun m' j' g => ?_, ?_⟩
    · rcases g with g | ⟨_, g⟩
      · exact h.mx m' j' g
      · omega
    · rcases h.is with ⟨a, b⟩ | ⟨a, m0, b1, b2, b3⟩
      · exact .inl ⟨a, b⟩
      · refine .inr ⟨a, m0, .inl b1, fun m' hm' g => ?_, b3⟩
        rcases g with g | ⟨g, _⟩
        · exact b2 m' hm' g
        · have := hm m0 far b1
          omega
theorem TrySt.zero (k : Nat) : TrySt k (fun _ _ => False) k (none, k + 1) := ⟨fun _ _ h => h.elim, .inl ⟨rfl, rfl⟩⟩
theorem EOk.at {s : List Nat} {k : Nat} (h : k ≤ s.length) : EOk s [k] := ⟨List.nodup_cons.mpr ⟨by simp, List.nodup_nil⟩, fun i hi => by rw [List.mem_singleton.mp hi]; exact h⟩
theorem ends_at {s : List Nat} {k : Nat} (h : k ≤ s.length) (p : Pat) (j : Nat) : j ∈ ends s p [k] ↔ k ≤ j ∧ j ≤ s.length ∧ Tells p ((s.drop k).take (j - k)) := by
  rw [(ends_ok s p [k] (EOk.at h)).2 j]
  constructor
  · rintro ⟨i, hi, h1, h2, h3⟩
    rw [List.mem_singleton.mp hi] at h1 h3
    exact ⟨h1, h2, h3⟩
  · rintro ⟨h1, h2, h3⟩
    exact ⟨k, List.mem_cons_self, h1, h2, h3⟩
theorem TrySt.done {ps : List Pat} (hp : PsOk ps) {s : List Nat} {k : Nat} (hk : k ≤ s.length) {far : Nat} {fd : Option Int × Nat} (h : TrySt k (fun m j => ∃ p, ps[m]? = some p ∧ j ∈ ends s p [k]) far fd) : fd = nextT ps s k := by
  have none_of : ∀ i, far < k + i → k + i ≤ s.length → tryT ps s k i = none := fun i h1 h2 => by
    refine numP_no hp fun p hpm ht => ?_
    obtain ⟨m, hm⟩ := List.mem_iff_getElem?.mp hpm
    have := h.mx m (k + i) ⟨p, hm, (ends_at hk p _).mpr ⟨by omega, h2, by rw [Nat.add_sub_cancel_left]; exact ht⟩⟩
    omega
  unfold nextT nextG
  rcases h.is with ⟨a, b⟩ | ⟨a, m, ⟨p, b1, b2⟩, b3, b4⟩
  · rw [bestG_none fun j h1 h2 => none_of j (by omega) (by omega), b]
  · obtain ⟨c1, c2, c3⟩ := (ends_at hk p far).mp b2
    have ht : tryT ps s k (far - k) = some (m : Int) := by
      refine numP_of hp b1 c3 fun j q hj hq z => b3 j hj ⟨q, hq, (ends_at hk q far).mpr ⟨c1, c2, z⟩⟩
    rw [bestG_some (i := far - k) (by omega) (by omega) ht fun j h1 h2 => none_of j (by omega) (by omega), b4, show k + (far - k) = far by omega]
/-- no leaf any more: nothing is told -/
theorem stepL_zero (L : LV) (c : Nat) : stepL L 0 c = 0 := by
  unfold stepL
  rw [bitsOf_zero]
  exact Nat.zero_and _
theorem toldL_zero (L : LV) : toldL L 0 = none := by
  unfold toldL
  refine List.findIdx?_eq_none_iff.mpr fun m _ => ?_
  rw [Nat.and_zero]
  rfl
theorem runL_app (L : LV) (s t : List Nat) : runL L (s ++ t) = t.foldl (stepL L) (runL L s) := by
  unfold runL
  rw [List.foldl_append]
theorem runL_dead {L : LV} {s : List Nat} (h : runL L s = 0) : ∀ t, runL L (s ++ t) = 0 := fun t => by
  rw [runL_app, h]
  induction t with
  | nil => rfl
  | cons c r ih =>
    show r.foldl (stepL L) (stepL L 0 c) = 0
    rw [stepL_zero]
    exact ih
theorem try_dead {ps : List Pat} {s : List Nat} {k i : Nat} (h : runL (leavesOf ps) ((s.drop k).take i) = 0) {j : Nat} (hj : i ≤ j) : tryT ps s k j = none := by
  unfold tryT numP
  have : (s.drop k).take j = (s.drop k).take i ++ ((s.drop k).take j).drop i := by
    have h2 : (s.drop k).take i = ((s.drop k).take j).take i := by rw [List.take_take, Nat.min_eq_left hj]
    rw [h2, List.take_append_drop]
  rw [this, runL_dead h, toldL_zero]
  rfl
/-- the piece at a place -/
def pieceT (ps : List Pat) (s : List Nat) (k n : Nat) : Piece := match bestG (tryT ps s k) k n with
  | some (v, e) => (some v, k, e)
  | none => (none, k, k + 1)
theorem pieceT_all (ps : List Pat) (s : List Nat) (k : Nat) : pieceT ps s k (s.length - k) = ((nextT ps s k).1, k, (nextT ps s k).2) := by
  unfold pieceT nextT nextG
  cases bestG (tryT ps s k) k (s.length - k) with
  | none => rfl
  | some w => rfl
end Ab
namespace Ab
open PySem PySem.Spec PyProof.Rows L2
section
variable {K : PySem.W.Frag} {e : Env}
theorem a2_inTO {neg : Bool} {i : List Nat} {ns : List (List Nat)} {k : Nat} (hk : e.m[k]? = some (some (.lst (ns.map .str)))) : A2 K (rIn K neg) (.d (.str i)) (.o k) e (.d (.bl (if neg = true then !decide (i ∈ ns) else decide (i ∈ ns)))) := fun B σ G H ad R v w rv rw C c => by
  cases rv
  obtain ⟨l, hl, rfl⟩ := rw
  obtain ⟨_, _, vs, hq, rd⟩ := R.op k l _ hl hk
  have e1 := RD.strs rd
  subst e1
  refine ⟨_, ns.map fun x => V.str (sOf x), rfl, .inl (.inl (.inl hq)), rfl, flat_strs ns, ?_⟩
  rw [inV_strs]
  exact c _ G H (Xt.refl R.gh) .bl
end
/-! ### the leaves of a pattern -/
mutual
def leafs : Pat → List (List Nat)
  | .one s => [s]
  | .row ps => leafss ps
  | .or ps => leafss ps
  | .many p => leafs p
  | .maybe p => leafs p
def leafss : List Pat → List (List Nat)
  | [] => []
  | p :: r => leafs p ++ leafss r
end
theorem leafss_cons (p : Pat) (r : List Pat) : leafss (p :: r) = leafs p ++ leafss r := rfl
theorem leafss_app : ∀ a b : List Pat, leafss (a ++ b) = leafss a ++ leafss b
  | [], _ => rfl
  | p :: a, b => by
    show leafs p ++ leafss (a ++ b) = (leafs p ++ leafss a) ++ leafss b
    rw [leafss_app a b, List.append_assoc]
theorem rowGo_signs : ∀ (shs : List Sh) (L : LV) (s : Sh), (rowGo L s shs).1.signs = L.signs
  | [], _, _ => rfl
  | p :: r, L, s => rowGo_signs r (link L s.l p.f) _
mutual
theorem shape_signs : ∀ (p : Pat) (L : LV), (shape p L).1.signs = L.signs ++ leafs p
  | .one s, L => rfl
  | .row ps, L => by
    show (rowGo (shapes ps L).1 ⟨true, 0, 0⟩ (shapes ps L).2).1.signs = _
    rw [rowGo_signs]
    exact shapes_signs ps L
  | .or ps, L => shapes_signs ps L
  | .many p, L => shape_signs p L
  | .maybe p, L => shape_signs p L
theorem shapes_signs : ∀ (ps : List Pat) (L : LV), (shapes ps L).1.signs = L.signs ++ leafss ps
  | [], L => (List.append_nil _).symm
  | p :: r, L => by
    show (shapes r (shape p L).1).1.signs = L.signs ++ (leafs p ++ leafss r)
    rw [shapes_signs r, shape_signs p, List.append_assoc]
end
theorem leavesGo_signs : ∀ (ps : List Pat) (L : LV), (leavesGo ps L).signs = L.signs ++ leafss ps
  | [], L => (List.append_nil _).symm
  | p :: r, L => by
    show (leavesGo r (addPat L p)).signs = L.signs ++ (leafs p ++ leafss r)
    rw [leavesGo_signs r, show (addPat L p).signs = (shape p L).1.signs from rfl, shape_signs, List.append_assoc]
theorem leavesOf_signs (ps : List Pat) : (leavesOf ps).signs = [] :: leafss ps := leavesGo_signs ps LV.new
mutual
theorem leafs_len : ∀ p : Pat, (leafs p).length = nl p
  | .one s => rfl
  | .row ps => leafss_len ps
  | .or ps => leafss_len ps
  | .many p => leafs_len p
  | .maybe p => leafs_len p
theorem leafss_len : ∀ ps : List Pat, (leafss ps).length = nls ps
  | [] => rfl
  | p :: r => by
    show (leafs p ++ leafss r).length = nl p + nls r
    rw [List.length_append, leafs_len p, leafss_len r]
end
mutual
theorem leafs_wf : ∀ {p : Pat}, Wf p → ∀ s ∈ leafs p, Wf (.one s)
  | .one s, h, t, ht => by
    rw [List.mem_singleton.mp ht]
    exact h
  | .row ps, h, t, ht => leafss_wf h.1 t ht
  | .or ps, h, t, ht => leafss_wf h.1 t ht
  | .many p, h, t, ht => leafs_wf (p := p) h t ht
  | .maybe p, h, t, ht => leafs_wf (p := p) h t ht
theorem leafss_wf : ∀ {ps : List Pat}, Wfs ps → ∀ s ∈ leafss ps, Wf (.one s)
  | [], _, t, ht => (nomatch ht)
  | p :: r, h, t, ht => by
    rcases List.mem_append.mp ht with z | z
    · exact leafs_wf h.1 t z
    · exact leafss_wf h.2 t z
end
/-- all signs of the leaves -/
def allS (ps : List Pat) : List Nat := (leafss ps).flatten
theorem allS_lt {ps : List Pat} (h : Wfs ps) : ∀ c ∈ allS ps, c < 128 := fun c hc => by
  obtain ⟨s, hs, hc⟩ := List.mem_flatten.mp hc
  exact (leafss_wf h s hs).2.2.2 c hc
theorem allS_len {ps : List Pat} (h : PsOk ps) : (allS ps).length ≤ 60000 := by
  unfold allS
  rw [List.length_flatten]
  have h1 := sum_le (xs := (leafss ps).map List.length) (b := 1000) fun x hx => by
    obtain ⟨s, hs, rfl⟩ := List.mem_map.mp hx
    exact (leafss_wf h.wf s hs).2.2.1
  rw [List.length_map, leafss_len] at h1
  have := h.lv
  have : nls ps * 1000 ≤ 60 * 1000 := Nat.mul_le_mul_right _ this
  omega
/-! ### signs collected one by one -/
def dueL (cs : List Nat) : List Nat := cs.foldl (fun d c => if decide (c ∈ d) = true then d else d ++ [c]) []
theorem dueL_snoc (cs : List Nat) (c : Nat) : dueL (cs ++ [c]) = if decide (c ∈ dueL cs) = true then dueL cs else dueL cs ++ [c] := by
  unfold dueL
  rw [List.foldl_append]
  rfl
theorem due_fold : ∀ (cs d : List Nat), d.Nodup → (cs.foldl (fun d c => if decide (c ∈ d) = true then d else d ++ [c]) d).Nodup ∧ ∀ c, c ∈ cs.foldl (fun d c => if decide (c ∈ d) = true then d else d ++ [c]) d ↔ c ∈ d ∨ c ∈ cs
  | [], d, h => ⟨h, fun c => ⟨.inl, fun z => z.elim id fun z => (nomatch z)⟩⟩
  | a :: r, d, h => by
    rw [List.foldl_cons]
    by_cases z : a ∈ d
    · rw [if_pos (decide_eq_true z)]
      refine ⟨(due_fold r d h).1, fun c => ?_⟩
      rw [(due_fold r d h).2, List.mem_cons]
      exact ⟨fun y => y.imp id .inr, fun y => y.elim .inl fun y => y.elim (fun y => .inl (y ▸ z)) .inr⟩
    · rw [if_neg (by rw [decide_eq_false z]; decide)]
      have nd : (d ++ [a]).Nodup := List.nodup_append.mpr ⟨h, List.nodup_cons.mpr ⟨List.not_mem_nil, List.nodup_nil⟩, fun x hx y hy e => by
        rw [List.mem_singleton.mp hy] at e
        exact z (e ▸ hx)⟩
      refine ⟨(due_fold r _ nd).1, fun c => ?_⟩
      rw [(due_fold r _ nd).2, List.mem_append, List.mem_singleton, List.mem_cons, or_assoc]
theorem dueL_ok (cs : List Nat) : (dueL cs).Nodup ∧ ∀ c, c ∈ dueL cs ↔ c ∈ cs := by
  obtain ⟨h1, h2⟩ := due_fold cs [] List.nodup_nil
  refine ⟨h1, fun c => (h2 c).trans ⟨fun z => z.elim (fun z => (nomatch z)) id, .inr⟩⟩
theorem nodup_sub : ∀ {a b : List Nat}, a.Nodup → (∀ x ∈ a, x ∈ b) → a.length ≤ b.length
  | [], _, _, _ => Nat.zero_le _
  | x :: a, b, nd, h => by
    obtain ⟨n1, n2⟩ := List.nodup_cons.mp nd
    have hx := h x List.mem_cons_self
    have := nodup_sub (b := b.erase x) n2 fun y hy => (List.mem_erase_of_ne fun (e : y = x) => n1 (e ▸ hy)).mpr (h y (List.mem_cons_of_mem _ hy))
    rw [List.length_erase_of_mem hx] at this
    have hp : 0 < b.length := List.length_pos_of_mem hx
    show a.length + 1 ≤ _
    omega
theorem sgns_congr {s t : List Nat} (h : ∀ c, c ∈ s ↔ c ∈ t) : sgns s = sgns t := by
  unfold sgns
  refine List.filter_congr fun c _ => ?_
  rw [decide_eq_decide]
  exact h c
theorem sgns_due (cs : List Nat) : sgns (dueL cs) = sgns cs := sgns_congr (dueL_ok cs).2
theorem sgns_len (s : List Nat) : (sgns s).length ≤ 128 := by
  unfold sgns
  have := List.length_filter_le (fun c => decide (c ∈ s)) (List.range 128)
  rwa [List.length_range] at this
theorem onesD_map (cs : List Nat) : onesD cs = (cs.map fun c => [c]).map .str := by
  unfold onesD
  rw [List.map_map]
  rfl
end Ab
namespace Ab
open PySem PySem.Spec PyProof.Rows L2
/-! ### things numbered as they are met -/
section
variable {κ : Type} [DecidableEq κ]
def ixk (k : κ) : List κ → Nat
  | [] => 0
  | a :: r => if a = k then 0 else ixk k r + 1
theorem ixk_lt {k : κ} : ∀ {ks : List κ}, k ∈ ks → ixk k ks < ks.length
  | a :: r, h => by
    unfold ixk
    by_cases e : a = k
    · rw [if_pos e]
      exact Nat.succ_pos _
    · rw [if_neg e]
      exact Nat.succ_lt_succ (ixk_lt ((List.mem_cons.mp h).resolve_left fun z => e z.symm))
theorem ixk_get {k : κ} : ∀ {ks : List κ}, k ∈ ks → ks[ixk k ks]? = some k
  | a :: r, h => by
    unfold ixk
    by_cases e : a = k
    · rw [if_pos e, e]
      rfl
    · rw [if_neg e]
      exact ixk_get ((List.mem_cons.mp h).resolve_left fun z => e z.symm)
theorem ixk_inj {j k : κ} {ks : List κ} (hj : j ∈ ks) (hk : k ∈ ks) (e : ixk j ks = ixk k ks) : j = k := by
  have h1 := ixk_get hj
  rw [e, ixk_get hk] at h1
  exact (Option.some.inj h1).symm
theorem ixk_app {k : κ} : ∀ {ks : List κ} (r : List κ), k ∈ ks → ixk k (ks ++ r) = ixk k ks
  | a :: s, r, h => by
    show (if a = k then 0 else ixk k (s ++ r) + 1) = if a = k then 0 else ixk k s + 1
    by_cases e : a = k
    · rw [if_pos e, if_pos e]
    · rw [if_neg e, if_neg e, ixk_app r ((List.mem_cons.mp h).resolve_left fun z => e z.symm)]
theorem ixk_new {k : κ} : ∀ {ks : List κ}, k ∉ ks → ixk k (ks ++ [k]) = ks.length
  | [], _ => if_pos rfl
  | a :: s, h => by
    show (if a = k then 0 else ixk k (s ++ [k]) + 1) = s.length + 1
    rw [if_neg (fun e : a = k => h (by rw [e]; exact List.mem_cons_self)), ixk_new fun z => h (List.mem_cons_of_mem _ z)]
def addK (ks : List κ) (k : κ) : List κ := if k ∈ ks then ks else ks ++ [k]
def uniqK (ms : List κ) : List κ := ms.foldl addK []
theorem uniqK_snoc (ms : List κ) (m : κ) : uniqK (ms ++ [m]) = addK (uniqK ms) m := by
  unfold uniqK
  rw [List.foldl_append]
  rfl
def numK (ms : List κ) : List Nat := ms.map fun m => ixk m (uniqK ms)
def numG : List κ → Nat → List (κ × Nat)
  | [], _ => []
  | k :: r, n => (k, n) :: numG r (n + 1)
theorem numG_len : ∀ (ks : List κ) (n : Nat), (numG ks n).length = ks.length
  | [], _ => rfl
  | _ :: r, n => by
    show (numG r (n + 1)).length + 1 = r.length + 1
    rw [numG_len r]
theorem numG_snoc (k : κ) : ∀ (ks : List κ) (n : Nat), numG (ks ++ [k]) n = numG ks n ++ [(k, n + ks.length)]
  | [], n => rfl
  | a :: r, n => by
    show (a, n) :: numG (r ++ [k]) (n + 1) = (a, n) :: (numG r (n + 1) ++ [(k, n + (r.length + 1))])
    rw [numG_snoc k r, show n + 1 + r.length = n + (r.length + 1) by omega]
variable {κ' : Type} [DecidableEq κ']
def numV (f : κ → κ') (ks : List κ) : List (κ' × V) := (numG ks 0).map fun p => (f p.1, V.int (p.2 : Nat))
theorem numV_len (f : κ → κ') (ks : List κ) : (numV f ks).length = ks.length := by
  unfold numV
  rw [List.length_map, numG_len]
theorem num_valG {f : κ → κ'} (hf : ∀ a b, f a = f b → a = b) (k : κ) : ∀ (ks : List κ) (n : Nat), valV ((numG ks n).map fun p => (f p.1, V.int (p.2 : Nat))) (f k) = if k ∈ ks then some (.int ((n + ixk k ks : Nat) : Int)) else none
  | [], n => rfl
  | a :: r, n => by
    show ((((f a, V.int (n : Nat)) :: (numG r (n + 1)).map fun p => (f p.1, V.int (p.2 : Nat))).find? fun kv => decide (kv.1 = f k)).map (·.2)) = _
    by_cases e : a = k
    · rw [List.find?_cons_of_pos (by rw [e]; exact decide_eq_true rfl), if_pos (by rw [e]; exact List.mem_cons_self)]
      unfold ixk
      rw [if_pos e]
      rfl
    · rw [List.find?_cons_of_neg (by rw [decide_eq_false fun z => e (hf _ _ z)]; decide)]
      have ih := num_valG hf k r (n + 1)
      unfold valV at ih
      have hx : ixk k (a :: r) = ixk k r + 1 := if_neg e
      rw [ih, hx]
      by_cases m : k ∈ r
      · rw [if_pos m, if_pos (List.mem_cons_of_mem _ m), show n + 1 + ixk k r = n + (ixk k r + 1) by omega]
      · rw [if_neg m, if_neg fun z => m ((List.mem_cons.mp z).resolve_left fun z => e z.symm)]
theorem num_val {f : κ → κ'} (hf : ∀ a b, f a = f b → a = b) (k : κ) (ks : List κ) : valV (numV f ks) (f k) = if k ∈ ks then some (.int (ixk k ks : Nat)) else none := by
  have := num_valG hf k ks 0
  rw [Nat.zero_add] at this
  exact this
theorem num_put {f : κ → κ'} (hf : ∀ a b, f a = f b → a = b) {k : κ} {ks : List κ} (h : k ∉ ks) : putK (numV f ks) (f k) (.int (ks.length : Nat)) = numV f (ks ++ [k]) := by
  unfold putK
  have e : ((numV f ks).any fun kv => decide (kv.1 = f k)) = false := by
    rw [List.any_eq_false]
    rintro ⟨x, y⟩ hx hd
    have hd := of_decide_eq_true hd
    unfold numV at hx
    obtain ⟨⟨a, n⟩, hm, e⟩ := List.mem_map.mp hx
    cases e
    have : ∀ (ks : List κ) (n : Nat) (p : κ × Nat), p ∈ numG ks n → p.1 ∈ ks := by
      intro ks
      induction ks with
      | nil => intro n p hp; cases hp
      | cons b r ih =>
        intro n p hp
        rcases List.mem_cons.mp hp with z | z
        · rw [z]; exact List.mem_cons_self
        · exact List.mem_cons_of_mem _ (ih _ _ z)
    have := this ks 0 (a, n) hm
    rw [hf _ _ hd] at this
    exact h this
  rw [e]
  show numV f ks ++ [(f k, .int (ks.length : Nat))] = numV f (ks ++ [k])
  unfold numV
  rw [numG_snoc, List.map_append, Nat.zero_add]
  rfl
end
/-! ### the dicts: by tuples of numbers, by None and numbers -/
abbrev keyT (ns : List Int) : List Key := ns.map Sum.inl
abbrev keyN (o : Option Int) : Option Key := o.map Sum.inl
theorem keyT_inj : ∀ a b : List Int, keyT a = keyT b → a = b
  | [], [], _ => rfl
  | [], _ :: _, h => by cases h
  | _ :: _, [], h => by cases h
  | x :: a, y :: b, h => by
    obtain ⟨h1, h2⟩ := List.cons.inj h
    cases h1
    rw [keyT_inj a b h2]
theorem keyN_inj : ∀ a b : Option Int, keyN a = keyN b → a = b
  | none, none, _ => rfl
  | none, some _, h => by cases h
  | some _, none, h => by cases h
  | some x, some y, h => by
    cases h
    rfl
theorem keyT_V (ns : List Int) : (keyT ns).map kV = ns.map V.int := by
  unfold keyT
  rw [List.map_map]
  rfl
def optV : Option Int → V
  | none => .non
  | some i => .int i
/-- a way to number things: how the dict stands, what the keys are -/
structure NK (κ : Type) [DecidableEq κ] where
  HN : Addr → List κ → HO
  Is : κ → V → Hp → Prop
def nkT : NK (List Int) := ⟨fun _ ks => .dT (numV keyT ks), fun ns v H => ∃ b, v = .ref b ∧ H b = some (.tup (ns.map V.int))⟩
def NDO (P : Program) (w : World) (a : Addr) (ks : List (Option Int)) : HO := .ext fun h => (a == sysModules) = false ∧ ∃ vs : List (Option Key × Value), KV (numV keyN ks) vs ∧ h.DictOf (noneKind P w) a vs
def nkN (P : Program) (w : World) : NK (Option Int) := ⟨NDO P w, fun o v _ => v = optV o⟩
section
variable {κ : Type} [DecidableEq κ] (N : NK κ)
def tNumNew : TE := fun _ H Q => ∀ p, H p = none → Q (.ref p) (upd H p (N.HN p []))
def tNumSet (td ty tx : TE) : TE := fun σ H Q => td σ H fun x H1 => (∃ a ks, x = .ref a ∧ H1 a = some (N.HN a ks)) ∧ ty σ H1 fun y H2 => tx σ H2 fun z H3 => ∃ a ks k, x = .ref a ∧ H3 a = some (N.HN a ks) ∧ N.Is k y H3 ∧ ks.length < 900000 ∧
  (k ∈ ks → Q (.int (ixk k ks : Nat)) H3) ∧ (k ∉ ks → z = .int (ks.length : Nat) ∧ Q z (upd H3 a (N.HN a (ks ++ [k]))))
def rNumLen : List V → Hp → VK → Prop := fun xs H Q => ∃ a ks, xs = [.ref a] ∧ H a = some (N.HN a ks) ∧ ks.length < 900000 ∧ Q (.int (ks.length : Nat)) H
def tNumGet (td ty : TE) : TE := fun σ H Q => td σ H fun x H1 => ty σ H1 fun y H2 => ∃ a ks k, x = .ref a ∧ H2 a = some (N.HN a ks) ∧ N.Is k y H2 ∧ k ∈ ks ∧ Q (.int (ixk k ks : Nat)) H2
end
theorem kV_ok {ns : List Int} {H : Hp} {b : Addr} (h : H b = some (.tup (ns.map V.int))) : H b = some (.tup ((keyT ns).map kV)) := by rw [keyT_V]; exact h
section
variable {X : Cx} {o e f : Expr} {td ty tx : TE} {apos cpos pos : Pos}
theorem pe_numNewT : PE X (.Dict [] [] pos) (tNumNew nkT) := pe_dnewT
theorem call_numLenT : CallR X (.builtin "len") (rNumLen nkT) := fun pins s σ H xs us Q I r ⟨a, ks, e, h, hz, q⟩ =>
  call_len_dT pins s σ H xs us Q I r ⟨a, numV keyT ks, e, h, by rw [numV_len]; exact q⟩
theorem pe_numGetT (hu : X.A.units + 1 < cLine) (ho : PE X o td) (hi : PE X e ty) (hs : NoSl e) : PE X (.Subscript o e pos) (tNumGet nkT td ty) := by
  refine ⟨fun pins s σ H Q I h => subD_of PySem.F.slot_dict_getitem.lookup hs (thn (ho.run pins s σ H _ I h) fun u s1 ⟨x, H1, I1, rx, q1⟩ => thn (hi.run pins s1 σ H1 _ I1 q1) fun iv s2 ⟨y, H2, I2, ry, a, ks, k, ex, h2, ⟨b, ey, hb⟩, hm, q2⟩ => ?_)⟩
  subst ex
  subst ey
  obtain rfl : u = Value.ref a := rx
  have g : DGet H2 a (.ref b) (some (.int (ixk k ks : Nat))) := by
    have := DGet.t h2 (kV_ok hb)
    rw [num_val keyT_inj, if_pos hm] at this
    exact this
  exact ⟨dict_typeIs I2 g, d_getItem hu I2 g ry fun w' s3 I3 rw' => ⟨_, H2, I3, rw', q2⟩⟩
theorem pe_numSetT (hu : X.A.units + 1 < cLine) (ho : PE X o td) (he : PE X e ty) (hf : PE X f tx) (m : M2 X o "setdefault" apos e f cpos) : PE X (.Call (.Attribute o "setdefault" apos) [e, f] [] cpos) (tNumSet nkT td ty tx) := by
  refine ⟨fun pins s σ H Q I h => ?_⟩
  refine wpAny_Call_method m.base m.few m.line PySem.F.plainAttrs_dict PySem.F.slot_dict_setdefault PySem.F.type_dict_setdefault (thn (ho.run pins s σ H _ I h) fun u s1 ⟨x, H1, I1, rx, ⟨a, ks0, ex, h1⟩, q1⟩ => ?_)
  subst ex
  obtain rfl : u = Value.ref a := rx
  obtain ⟨t1, t2, hd⟩ := isD_at I1 (.inr ⟨_, .inl h1⟩)
  refine ⟨t1, t2, ?_⟩
  rw [m.trees]
  refine Calls.callWith_builtin rfl (Calls.evalArgs_plain (Calls.spliced_cons (thn (he.run pins s1 σ H1 _ I1 q1) fun iv s2 ⟨y, H2, I2, ry, q2⟩ =>
    Calls.spliced_cons (thn (hf.run pins s2 σ H2 _ I2 q2) fun fv s3 ⟨z, H3, I3, rz, a2, ks, k, ea, h3, ⟨b, ey, hb⟩, hz, q3, q4⟩ => Calls.spliced_nil ?_))))
  cases ea
  subst ey
  obtain rfl : iv = Value.ref b := ry
  obtain ⟨zz, hd2, xs, rel, dd⟩ := dt_of I3.hok h3
  have hlen : xs.length = ks.length := by rw [← Paired.length rel, numV_len]
  have hval := num_val keyT_inj k ks
  have rv := rel.val (keyT k)
  rw [hval] at rv
  refine call_setdefault_heap (tupleKind_room_in1 hu) (key_of I3.hok (kV_ok hb)) hd2 dd (fun p hp => ?_) (fun hn h' dd' hs => ?_) (by rw [hlen, PySem.sizeLine_eq]; omega)
  · rw [hp] at rv
    by_cases c : k ∈ ks
    · rw [if_pos c] at rv
      exact ⟨.int (ixk k ks : Nat), H3, I3.tok _, (show RelV (.int (ixk k ks : Nat)) p.2 from rv), q3 c⟩
    · rw [if_neg c] at rv
      exact (show False from rv).elim
  · have c : k ∉ ks := fun c => by
      rw [if_pos c, hn] at rv
      exact (show False from rv).elim
    obtain ⟨ez, q5⟩ := q4 c
    subst ez
    have hp := num_put keyT_inj c
    obtain ⟨ob, es, ep, g1, g2, g3, g4, _, g5⟩ := dd'
    refine ⟨_, _, d_write (t' := s3.toks + _) (ob := .dT (putK (numV keyT ks) (keyT k) (.int (ks.length : Nat)))) I3 (by rw [h3]; exact True.intro) hs ⟨ob, g1⟩ ⟨?_, hd2, _, (rel.put (keyT k) (kV_ok hb) rz).keeps fun c ys ec => ?_, ob, es, ep, g1, g2, g3, g4, g5⟩, rz, ?_⟩
    · rw [hp, numV_len, List.length_append, PySem.sizeLine_eq]
      show ks.length + 1 ≤ _
      omega
    · rw [upd_ne (ne_of ec h3 (fun z => nomatch z))]
      exact ec
    · rw [hp]
      exact q5
/-! by None and numbers -/
theorem dictOf_at {P : Program} {w : World} {h h' : Heap} {a : Addr} {vs : List (Option Key × Value)} (R : h.DictOf (noneKind P w) a vs) (k : ∀ o, h.get? a = some o → h'.get? a = some o) : h'.DictOf (noneKind P w) a vs := by
  obtain ⟨o, es, ep, ho, more⟩ := R
  exact ⟨o, es, ep, k o ho, more⟩
theorem ndo_ok {P : Program} {w : World} {H : Hp} {h : Heap} {a : Addr} {ks : List (Option Int)} {vs : List (Option Key × Value)} (hd : (a == sysModules) = false) (r : KV (numV keyN ks) vs) (R : h.DictOf (noneKind P w) a vs) : ObjOk P w H h a (NDO P w a ks) := by
  refine ⟨⟨hd, vs, r, R⟩, ?_, fun h1 h2 ⟨g1, v2, g2, g3⟩ g4 => ⟨g1, v2, g2, dictOf_at g3 g4⟩⟩
  obtain ⟨o, _, _, ho, _⟩ := R
  exact ⟨o, ho⟩
theorem ndo_get {pins : List (Addr × Obj)} {σ : L2.St} {H : Hp} {s : Shared} {a : Addr} {ks : List (Option Int)} (I : Inv X pins σ H s) (h : H a = some (NDO X.prog X.w a ks)) : (a == sysModules) = false ∧ ∃ vs : List (Option Key × Value), KV (numV keyN ks) vs ∧ s.heap.DictOf (noneKind X.prog X.w) a vs := (I.hok a _ h).1
theorem none_is {o : Option Int} {u : Value} (h : RelV (optV o) u) : (noneKind X.prog X.w).is (keyN o) u = true := by
  cases o with
  | none =>
    obtain rfl : u = .none := h
    rfl
  | some i => exact kV_is (P := X.prog) (w := X.w) (k := Sum.inl i) h
theorem pe_numNewN : PE X (.Dict [] [] pos) (tNumNew (nkN X.prog X.w)) := ⟨fun pins s σ H Q I h =>
  wpAny_Dict_empty ⟨.ref s.heap.objs.size, _, I.laid (a := s.heap.objs.size) (o := NDO X.prog X.w s.heap.objs.size []) (t' := s.toks) (fun _ _ q => Heap.get?_push_of_some _ q) (Nat.le_refl _) (ndo_ok (beq_eq_false_iff_ne.mpr (Ne.symm (Nat.ne_of_lt I.big))) .nil (Heap.DictOf.new s.heap)), rfl, h _ (I.hok.fresh (Nat.le_refl _))⟩⟩
theorem call_numLenN : CallR X (.builtin "len") (rNumLen (nkN X.prog X.w)) := by
  intro pins s σ H xs us Q I r h
  obtain ⟨p, ks, rfl, hp, hz, q⟩ := h
  obtain ⟨u, rfl, rx⟩ := vals1 r
  obtain rfl : u = .ref p := rx
  obtain ⟨hd, vs, rel, dd⟩ := ndo_get I hp
  have hl : ks.length = vs.length := by rw [← Paired.length rel, numV_len]
  refine call_len_dict hd dd (by omega) ?_
  rw [← hl]
  exact ⟨.int (ks.length : Nat), H, I.tok _, ⟨_, rfl⟩, q⟩
theorem pe_numGetN (ho : PE X o td) (hi : PE X e ty) (hs : NoSl e) : PE X (.Subscript o e pos) (tNumGet (nkN X.prog X.w) td ty) := by
  refine ⟨fun pins s σ H Q I h => subD_of PySem.F.slot_dict_getitem.lookup hs (thn (ho.run pins s σ H _ I h) fun u s1 ⟨x, H1, I1, rx, q1⟩ => thn (hi.run pins s1 σ H1 _ I1 q1) fun iv s2 ⟨y, H2, I2, ry, a, ks, k, ex, h2, ey, hm, q2⟩ => ?_)⟩
  subst ex
  obtain rfl : u = Value.ref a := rx
  have ey : y = optV k := ey
  subst ey
  obtain ⟨hd, vs, rel, dd⟩ := ndo_get I2 h2
  have rv := rel.val (keyN k)
  rw [num_val keyN_inj, if_pos hm] at rv
  obtain ⟨w', hw, rw'⟩ := RelO.some_of (v := .int (ixk k ks : Nat)) (o := valueAt vs (keyN k)) rv
  exact ⟨dd.typeIs, wpAny_getItem_of (none_is ry) dd.mapOf hw ⟨_, H2, I2.tok _, rw', q2⟩⟩
theorem pe_numSetN (ho : PE X o td) (he : PE X e ty) (hf : PE X f tx) (m : M2 X o "setdefault" apos e f cpos) : PE X (.Call (.Attribute o "setdefault" apos) [e, f] [] cpos) (tNumSet (nkN X.prog X.w) td ty tx) := by
  refine ⟨fun pins s σ H Q I h => ?_⟩
  refine wpAny_Call_method m.base m.few m.line PySem.F.plainAttrs_dict PySem.F.slot_dict_setdefault PySem.F.type_dict_setdefault (thn (ho.run pins s σ H _ I h) fun u s1 ⟨x, H1, I1, rx, ⟨a, ks0, ex, h1⟩, q1⟩ => ?_)
  subst ex
  obtain rfl : u = Value.ref a := rx
  obtain ⟨_, vs0, _, dd0⟩ := ndo_get I1 h1
  refine ⟨dd0.typeIs, fun b q => ?_, ?_⟩
  · cases q
    obtain ⟨ob, _, _, g1, g2, _⟩ := dd0
    exact ⟨ob, g1, g2.2.1⟩
  rw [m.trees]
  refine Calls.callWith_builtin rfl (Calls.evalArgs_plain (Calls.spliced_cons (thn (he.run pins s1 σ H1 _ I1 q1) fun iv s2 ⟨y, H2, I2, ry, q2⟩ =>
    Calls.spliced_cons (thn (hf.run pins s2 σ H2 _ I2 q2) fun fv s3 ⟨z, H3, I3, rz, a2, ks, k, ea, h3, ey, hz, q3, q4⟩ => Calls.spliced_nil ?_))))
  cases ea
  have ey : y = optV k := ey
  subst ey
  obtain ⟨hd, vs, rel, dd⟩ := ndo_get I3 h3
  have hlen : vs.length = ks.length := by rw [← Paired.length rel, numV_len]
  have rv := rel.val (keyN k)
  rw [num_val keyN_inj] at rv
  refine call_meetsIn PySem.F.slot_dict_setdefault dd.typeIs PySem.F.entry_dict_setdefault (PySem.F.args_dict_setdefault_3 _ _ _) (kt_meets_setdefault (noneKind X.prog X.w) a (none_is ry) hd fv) ⟨vs, dd, by rw [hlen, PySem.sizeLine_eq]; omega, fun v hv => ?_, fun hn h' dd' hs => ?_⟩
  · rw [hv] at rv
    by_cases c : k ∈ ks
    · rw [if_pos c] at rv
      exact ⟨.int (ixk k ks : Nat), H3, I3.tok _, rv, q3 c⟩
    · rw [if_neg c] at rv
      exact (show False from rv).elim
  · have c : k ∉ ks := fun c => by
      rw [if_pos c, hn] at rv
      exact (show False from rv).elim
    obtain ⟨ez, q5⟩ := q4 c
    subst ez
    have hp := num_put keyN_inj c
    have r2 := rel.put (keyN k) rz
    rw [hp] at r2
    have he : ∃ q, h'.get? a = some q := let ⟨q, _, _, hq, _⟩ := dd'; ⟨q, hq⟩
    exact ⟨_, _, d_write (t' := s3.toks + 1) (ob := NDO X.prog X.w a (ks ++ [k])) I3 (by rw [h3]; exact True.intro) hs he (ndo_ok hd r2 dd'), rz, q5⟩
end
end Ab
namespace Ab
open PySem PySem.Spec PyProof.Rows L2
theorem Env.putO_get {e : Env} {i : Nat} {o : O} (h : e.m[i]? = some (some o)) : e.putO i o = e := by
  show (⟨e.s, e.m.set i (some o)⟩ : Env) = e
  have q : e.m.set i (some o) = e.m := by
    refine List.ext_getElem? fun j => ?_
    by_cases hj : i = j
    · subst hj
      rw [h, List.getElem?_set_self (List.getElem?_eq_some_iff.mp h).1]
    · rw [List.getElem?_set_ne hj]
  rw [q]
section
variable {K : PySem.W.Frag} {w : Nat} {D : AEnds} {e : Env} {td ty tx ta tb te : TE} {κ : Type} [DecidableEq κ] {N : NK κ} {kd : κ → Ab.D} {Q : A → Env → Prop}
/-! ### numbering dicts of one's own -/
def KeyD (K : PySem.W.Frag) (N : NK κ) (kd : κ → Ab.D) : Prop := ∀ (G H : Hp) (v : V) (k : κ), Same G H → RD K G v (kd k) → N.Is k v H
theorem keyD_T : KeyD K nkT .kt := fun G H v k s r => by
  cases r with
  | kt h => exact ⟨_, rfl, s _ _ h⟩
theorem keyD_N {P : Program} {wd : World} : KeyD K (nkN P wd) optI := fun G H v k s r => by
  cases k with
  | none => cases r; rfl
  | some i => cases r; rfl
abbrev ndO (N : NK κ) (ks : List κ) : O := .hf fun l => N.HN l ks
theorem ax_numNew (q : Q (.o e.m.length) (e.addO (ndO N []))) : AX K (tNumNew N) e Q := fun B σ G H ad R C c => by
  intro p hp
  have hb := R.apart hp
  have X := Xt.drop (o := N.HN p []) R.gh hp
  have R1 := R.ext X
  refine c _ _ _ G _ (ad ++ [p]) q (Same.refl _) (List.prefix_append _ _) (R1.addO hb.1 hb.2 (R.fresh hp) upd_same) ⟨p, ?_, rfl⟩
  rw [← R.al, List.getElem?_append_right (Nat.le_refl _), Nat.sub_self]
  rfl
theorem ax_numSet {i : Nat} {ks : List κ} {k : κ} (hK : KeyD K N kd) (hd : AE K td e (.o i)) (hi : e.m[i]? = some (some (ndO N ks))) (hk : AE K ty e (.d (kd k))) (hx : AE K tx e (.d (natD ks.length))) (hz : ks.length < 900000)
    (q : Q (.d (natD (ixk k (addK ks k)))) (e.putO i (ndO N (addK ks k)))) : AX K (tNumSet N td ty tx) e Q := fun B σ G H ad R C c =>
  hd B σ G H ad R _ fun v G1 H1 X1 r1 => by
    obtain ⟨l, hl, rfl⟩ := r1
    have R1 := R.ext X1
    obtain ⟨_, _, h1⟩ := R1.op i l _ hl hi
    refine ⟨⟨l, ks, rfl, h1⟩, hk B σ G1 H1 ad R1 _ fun y G2 H2 X2 r2 => hx B σ G2 H2 ad (R1.ext X2) _ fun z G3 H3 X3 r3 => ?_⟩
    have R3 := (R1.ext X2).ext X3
    obtain ⟨_, _, h3⟩ := R3.op i l _ hl hi
    cases r3
    refine ⟨l, ks, k, rfl, h3, hK G3 H3 y k X3.gh (RD.mono X3.gg r2), hz, fun hm => ?_, fun hm => ⟨rfl, ?_⟩⟩
    · have ea : addK ks k = ks := if_pos hm
      rw [ea, Env.putO_get hi] at q
      exact c _ e _ G3 H3 ad q (X1.gg.trans (X2.gg.trans X3.gg)) (List.prefix_refl _) R3 RD.int
    · have ea : addK ks k = ks ++ [k] := if_neg hm
      rw [ea, ixk_new hm] at q
      exact c _ _ _ G3 _ ad q (X1.gg.trans (X2.gg.trans X3.gg)) (List.prefix_refl _) (R3.putO hl hi upd_same) RD.int
theorem ac_numLen {i : Nat} {ks : List κ} (hi : e.m[i]? = some (some (ndO N ks))) (hz : ks.length < 900000) : AC K (rNumLen N) [.o i] e (.d (natD ks.length)) := fun B σ G H ad R vs rv C c => by
  obtain ⟨v, rfl, l, hl, rfl⟩ := rv1 rv
  obtain ⟨_, _, h1⟩ := R.op i l _ hl hi
  exact ⟨l, ks, rfl, h1, hz, c _ G H (Xt.refl R.gh) RD.int⟩
theorem ae_numGet {i : Nat} {ks : List κ} {k : κ} (hK : KeyD K N kd) (hd : AE K td e (.o i)) (hi : e.m[i]? = some (some (ndO N ks))) (hk : AE K ty e (.d (kd k))) (hm : k ∈ ks) : AE K (tNumGet N td ty) e (.d (natD (ixk k ks))) := fun B σ G H ad R C c =>
  hd B σ G H ad R _ fun v G1 H1 X1 r1 => hk B σ G1 H1 ad (R.ext X1) _ fun y G2 H2 X2 r2 => by
    obtain ⟨l, hl, rfl⟩ := r1
    obtain ⟨_, _, h2⟩ := ((R.ext X1).ext X2).op i l _ hl hi
    exact ⟨l, ks, k, rfl, h2, hK G2 H2 y k X2.gh r2, hm, c _ G2 H2 (X1.trans X2) RD.int⟩
/-! ### sets of numbers -/
abbrev stO (P : Program) (wd : World) (S : Key → Bool) (n : Nat) : O := .hf fun l => SetK P wd l S n
def tSet2K (P : Program) (wd : World) (ta tb : TE) : TE := fun σ H Q => ∀ p, H p = none → ta σ (upd H p (SetK P wd p (fun _ => false) 0)) fun x H1 => tb σ H1 fun y H2 => ∃ i j : Int, x = .int i ∧ y = .int j ∧ H2 p = some (SetK P wd p (fun _ => false) 0) ∧
  ∀ (S : Key → Bool) n, (∀ k, S k = true ↔ k = .inl i ∨ k = .inl j) → n ≤ 2 → Q (.ref p) (upd H2 p (SetK P wd p S n))
end
section
variable {X : Cx} {a b : Expr} {ta tb : TE}
theorem add_two {A : Around} {E : Value → Shared → Prop} {s : Shared} {d : Addr} {u v : Value} {i j : Int} {P : Program} {wd : World} {Q : Value → Shared → Prop} (hS : s.heap.SetOf (mixKind P wd) d (fun _ => false) 0) (hu : RelV (.int i) u) (hv : RelV (.int j) v)
    (q : ∀ h' tk S n, h'.SetOf (mixKind P wd) d S n → (∀ k, S k = true ↔ k = .inl i ∨ k = .inl j) → n ≤ 2 → Heap.SameBut d s.heap h' → Q (.ref d) { s with heap := h', toks := tk }) :
    PySem.W.KdsFill (model P wd) A E false d Q [u, v] s := by
  have k1 : (mixKind P wd).is (.inl i) u = true := kV_is (P := P) (w := wd) (k := .inl i) hu
  have k2 : (mixKind P wd).is (.inl j) v = true := kV_is (P := P) (w := wd) (k := .inl j) hv
  refine PySem.W.kds_fill_cons ?_
  unfold setAdd
  refine wpAny_holding (wpAny_bind ((mixKind P wd).pyHash k1 ?_))
  refine wpAny_setAddHashed_of (knd := mixKind P wd) (s := { s with toks := s.toks + 1 }) k1 (key_scan (k := .inl i) hu) hS (by decide) fun h1 sb1 S1 => ?_
  refine PySem.W.kds_fill_cons ?_
  unfold setAdd
  refine wpAny_holding (wpAny_bind ((mixKind P wd).pyHash k2 ?_))
  refine wpAny_setAddHashed_of (knd := mixKind P wd) (s := { s with heap := h1, toks := s.toks + 1 + 1 }) k2 (key_scan (k := .inl j) hv) S1 (by decide) fun h2 sb2 S2 => ?_
  refine PySem.W.kds_fill_nil rfl (q h2 _ _ _ S2 (fun k => ?_) (by split <;> decide) (sb1.trans sb2))
  rw [Bool.or_eq_true, Bool.or_eq_true, decide_eq_true_eq, decide_eq_true_eq]
  simp
theorem pe_set2K {pos : Pos} (ha : PE X a ta) (hb : PE X b tb) (hp : [a, b].all PySem.W.kdsPlain = true) (hcd : PySem.W.kdsCode X.K X.env.code = true) : PE X (.Set [a, b] 0 pos) (tSet2K X.prog X.w ta tb) := by
  refine ⟨fun pins s σ H Q I h => ?_⟩
  rw [arm_eval_Set]
  refine wpAny_bind (wpAny_standAt (wpAny_bind (PySem.W.kds_main I.kIn hcd fun bb => ?_)))
  rw [PySem.W.kds_star [a, b] hp, List.map_map]
  refine PySem.W.kds_core (ts := (evalEach [a, b] X.env).map fun t => do let v ← t; standAt pos; pure v) (by rfl) ?_ (by show 2 ≤ 30; decide) (by rfl) fun led => ?_
  · rfl
  · have new : (s.heap.push { cls := .type "set", dict := none, data := .set #[] 0 (.fresh 0 0 led) }).SetOf (mixKind X.prog X.w) s.heap.objs.size (fun _ => false) 0 :=
      ⟨_, #[], 0, _, Heap.get?_push_size _ rfl, ⟨rfl, rfl, rfl⟩, rfl, (fun e he => by simp at he), (fun k => by simp), (by decide), (by rfl), rfl⟩
    have hn : H s.heap.objs.size = none := I.hok.fresh (Nat.le_refl _)
    have J : Inv X pins σ (upd H s.heap.objs.size (SetK X.prog X.w s.heap.objs.size (fun _ => false) 0)) { s with heap := s.heap.push { cls := .type "set", dict := none, data := .set #[] 0 (.fresh 0 0 led) } } := I.laid (t' := s.toks) (fun b u e => Heap.get?_push_of_some _ e) (Nat.le_refl _) (setK_new new)
    refine PySem.W.kds_all pos [a, b] _ _ ?_
    refine thn (ha.run pins _ σ _ _ J (h _ hn)) fun u s1 ⟨x, H1, I1, rx, q1⟩ => ?_
    refine thn (hb.run pins s1 σ H1 _ I1 q1) fun v s2 ⟨y, H2, I2, ry, i, j, ex, ey, h2, q2⟩ => ?_
    subst ex
    subst ey
    refine add_two (setK_get I2 h2) rx ry fun h' tk S n S' hS hn sb => ?_
    have he : ∃ q, h'.get? s.heap.objs.size = some q := let ⟨q, _, _, _, hq, _⟩ := S'; ⟨q, hq⟩
    exact ⟨.ref s.heap.objs.size, _, I2.write (e := s.heap.objs.size) (t' := tk) (by rw [h2]; exact True.intro) (.inl rfl) (fun b u hb hu => (sb.2 b hb).trans hu) he (setK_new S'), rfl, q2 S n hS hn⟩
end
section
variable {K : PySem.W.Frag} {e : Env} {td ty tx ta tb te : TE} {Q : A → Env → Prop} {P : Program} {wd : World}
theorem ax_set2 {i j : Int} (ha : AE K ta (e.addO (stO P wd (fun _ => false) 0)) (.d (.int i))) (hb : AE K tb (e.addO (stO P wd (fun _ => false) 0)) (.d (.int j)))
    (q : ∀ (S : Key → Bool) n, (∀ k : Int, S (.inl k) = decide (k = i ∨ k = j)) → n ≤ 2 → Q (.o e.m.length) (e.addO (stO P wd S n))) : AX K (tSet2K P wd ta tb) e Q := fun B σ G H ad R C c => by
  intro p hp
  have hb0 := R.apart hp
  have X := Xt.drop (o := SetK P wd p (fun _ => false) 0) R.gh hp
  have R1 := R.ext X
  have R2 : Rep K B (e.addO (stO P wd (fun _ => false) 0)) σ G (upd H p (SetK P wd p (fun _ => false) 0)) (ad ++ [p]) := R1.addO (o := stO P wd (fun _ => false) 0) hb0.1 hb0.2 (R.fresh hp) upd_same
  have hl : (ad ++ [p])[e.m.length]? = some p := by
    rw [← R.al, List.getElem?_append_right (Nat.le_refl _), Nat.sub_self]
    rfl
  have hm : (e.addO (stO P wd (fun _ => false) 0)).m[e.m.length]? = some (some (stO P wd (fun _ => false) 0)) := by
    show (e.m ++ [some (stO P wd (fun _ => false) 0)])[e.m.length]? = _
    rw [List.getElem?_append_right (Nat.le_refl _), Nat.sub_self]
    rfl
  refine ha B σ G _ _ R2 _ fun x G3 H3 X3 r3 => hb B σ G3 H3 _ (R2.ext X3) _ fun y G4 H4 X4 r4 => ?_
  cases r3
  cases r4
  have R4 := (R2.ext X3).ext X4
  obtain ⟨_, _, h4⟩ := R4.op _ p _ hl hm
  refine ⟨i, j, rfl, rfl, h4, fun S n hS hn => ?_⟩
  have R5 := R4.putO (o' := stO P wd S n) (u := SetK P wd p S n) hl hm upd_same
  have ee : (e.addO (stO P wd (fun _ => false) 0)).putO e.m.length (stO P wd S n) = e.addO (stO P wd S n) := by
    show (⟨e.s, (e.m ++ [_]).set e.m.length _⟩ : Env) = ⟨e.s, e.m ++ [_]⟩
    rw [List.set_append_right _ _ (Nat.le_refl _), Nat.sub_self]
    rfl
  rw [ee] at R5
  refine c _ _ _ G4 _ (ad ++ [p]) (q S n (fun k => ?_) hn) (X3.gg.trans X4.gg) (List.prefix_append _ _) R5 ⟨p, hl, rfl⟩
  rw [Bool.eq_iff_iff, hS, decide_eq_true_eq]
  simp
theorem ax_sadd {i : Nat} {S : Key → Bool} {n : Nat} {z : Int} (ho : AE K ta e (.o i)) (hi : e.m[i]? = some (some (stO P wd S n))) (hz : AE K tb e (.d (.int z))) (hn : n < 4000)
    (q : Q (.d .non) (e.putO i (stO P wd (fun j => S j || decide (j = .inl z)) (if S (.inl z) = true then n else n + 1)))) : AX K (tSAddK P wd ta (tCons tb tNil)) e Q := fun B σ G H ad R C c =>
  ho B σ G H ad R _ fun v G1 H1 X1 r1 => by
    obtain ⟨l, hl, rfl⟩ := r1
    have R1 := R.ext X1
    obtain ⟨_, _, h1⟩ := R1.op i l _ hl hi
    refine ⟨⟨l, S, n, rfl, h1⟩, hz B σ G1 H1 ad R1 _ fun y G2 H2 X2 r2 => ?_⟩
    cases r2
    have R2 := R1.ext X2
    obtain ⟨_, _, h2⟩ := R2.op i l _ hl hi
    exact ⟨l, .inl z, S, n, rfl, rfl, h2, by unfold scanBound; omega, c _ _ _ G2 _ ad q (X1.gg.trans X2.gg) (List.prefix_refl _) (R2.putO hl hi upd_same) RD.non⟩
theorem a2_inSt {i : Nat} {S : Key → Bool} {n : Nat} {z : Int} {neg : Bool} (hi : e.m[i]? = some (some (stO P wd S n))) : A2 K (rSInK P wd neg) (.d (.int z)) (.o i) e (.d (.bl (if neg = true then !S (.inl z) else S (.inl z)))) := fun B σ G H ad R v w rv rw C c => by
  cases rv
  obtain ⟨l, hl, rfl⟩ := rw
  obtain ⟨_, _, h1⟩ := R.op i l _ hl hi
  exact ⟨.inl z, l, S, n, rfl, rfl, h1, c _ G H (Xt.refl R.gh) RD.bl⟩
/-! ### tuples of numbers that are keys -/
theorem RDs.ints_of {G : Hp} : ∀ {vs : List V} {ns : List Int}, RDs K G vs (ns.map .int) → vs = ns.map V.int := RD.ints
theorem ae_tupK {t : TA} {ns : List Int} (h : AL K t e (ns.map fun n => .d (.int n))) (hl : ns.length ≤ 1000000) : AE K (tTup t) e (.d (.kt ns)) := fun B σ G H ad R C c => by
  refine h B σ G H ad R _ fun vs G1 H1 X1 r1 => ?_
  have r1 : RepVs K G1 ad vs ((ns.map D.int).map .d) := by rw [List.map_map]; exact r1
  have e1 := RD.ints r1.toRDs
  subst e1
  refine ⟨sz_of (by rw [List.length_map]; exact hl), fun p hp => ?_⟩
  have X2 := Xt.new (o := .tup (ns.map V.int)) X1.gh hp
  exact c (.ref p) _ _ (X1.trans X2) (RD.kt upd_same)
theorem AE.untup {te : TE} {ns : List Int} (h : AE K te e (.d (.kt ns))) : AE K te e (.d (.tup (ns.map .int))) := fun B σ G H ad R C c =>
  h B σ G H ad R C fun v G1 H1 X1 r1 => c v G1 H1 X1 (by
    cases r1 with
    | kt hq => exact RD.tup (.inl (.inl hq)) (RDs.ofInts ns))
/-- *xs in a display -/
theorem al_star {tr : TA} {as : List A} {ds : List Ab.D} (h : AE K te e (.d (.lst ds))) (hr : AL K tr e as) : AL K (StX.tStar K te tr) e (ds.map .d ++ as) := fun B σ G H ad R C c =>
  h B σ G H ad R _ fun v G1 H1 X1 r1 => by
    cases r1 with
    | lst hq rd =>
      rename_i a xs
      refine ⟨a, xs, rfl, .inr (.inl (.inl (X1.gh _ _ hq))), hr B σ G1 H1 ad (R.ext X1) _ fun vs G2 H2 X2 r2 => c (xs ++ vs) G2 H2 (X1.trans X2) ?_⟩
      have app : ∀ {us : List V} {bs : List Ab.D}, RDs K G2 us bs → RepVs K G2 ad (us ++ vs) (bs.map .d ++ as) := by
        intro us bs q
        induction bs generalizing us with
        | nil => cases q; exact r2
        | cons b t ih => cases q with | cons q1 q2 => exact .cons q1 (ih q2)
      exact app (rd.mono X2.gg)
/-! ### bodies that know their code -/
end
section
variable {P : Program} {w : World} {K : PySem.W.Frag} {mg : Str → Option Value} {base : Heap} {x : Str} {st : Stmt} {N ps : List Str} {k : Nat}
theorem kdsCode_of {cd : Value} {q : Str} (h : PySem.W.codeIn K cd q = true) : PySem.W.kdsCode K cd = true := by
  unfold PySem.W.codeIn at h
  unfold PySem.W.kdsCode
  split at h
  · split at h
    · rename_i c o od vs sl hl
      dsimp only
      rw [hl]
    · cases h
  · cases h
def BodyC (P : Program) (w : World) (K : PySem.W.Frag) (mg : Str → Option Value) (base : Heap) (N : List Str) (x : Str) (st : Stmt) (k : Nat) (go : TS → Prop) : Prop :=
  ∀ (f : Addr) (cdv : Value) (A : Around) (outer : List PySem.Env) (s : Shared) (H : Hp) (E : XK), PySem.W.kdsCode K cdv = true → Room k (A.deeper (envOfC x (defScope st) s.heap.objs.size f cdv)) →
    ∃ t, PSs (cxOf CX0 P w K mg base N x (defScope st) f cdv A outer s H E).nox (defBody st) t ∧ go t
theorem okNC {R : List A → List D → Prop} (DD : DefAt K mg x st ps) (S : FnScope N ps (defScope st)) (hl : ∀ as r, R as r → as.length = ps.length)
    (hb : BodyC P w K mg base N x st k fun t => ∀ as r, R as r → AS K 0 t (endN r) ⟨env0 N as, []⟩) : Has P w K mg base x ps (k + 1) (SpN K R) :=
  DD.has fun f fd F => by
    obtain ⟨oc, od, kV, doc, pm, an, cdv, ct, osl, rfl, lk, hcd⟩ := F.ex
    refine fn_of lk hcd S (SpN.len hl) fun A outer s H vs Q E hr h => ?_
    obtain ⟨t, ht, go⟩ := hb f cdv A outer s H E (kdsCode_of hcd) hr
    exact ⟨t, ht.nox, run_N h fun as r hR => ⟨by rw [hl as r hR]; exact FnScope.le S, go as r hR⟩⟩
end
end Ab
namespace Ab
open PySem PySem.Spec PyProof.Rows L2
section
variable {K : PySem.W.Frag} {e : Env} {td ty tk tv te : TE} {Q : A → Env → Prop}
/-! ### dict comprehensions -/
def dcK (kk : Nat → Key) (vv : Nat → D) : Nat → List (Key × D)
  | 0 => []
  | i + 1 => putD (dcK kk vv i) (kk i) (vv i)
theorem putD_len (kds : List (Key × D)) (k : Key) (v : D) : (putD kds k v).length ≤ kds.length + 1 := by
  unfold putD
  split
  · rw [List.length_map]
    omega
  · rw [List.length_append]
    exact Nat.le_refl _
theorem dcK_len (kk : Nat → Key) (vv : Nat → D) : ∀ i, (dcK kk vv i).length ≤ i
  | 0 => Nat.le_refl _
  | i + 1 => by
    have := dcK_len kk vv i
    have := putD_len (dcK kk vv i) (kk i) (vv i)
    show (putD _ _ _).length ≤ _
    omega
theorem RKs.mono {G G' : Hp} (s : Same G G') {kvs : List (Key × V)} {kds : List (Key × D)} (h : RKs K G kvs kds) : RKs K G' kvs kds := Paired.mapP h fun _ _ z => ⟨z.1, RD.mono s z.2⟩
theorem ax_dc {wi : TI} {g : TG} {vs : List Nat} {n : Nat} {f : Nat → D} (kk : Nat → Key) (vv : Nat → D) (h : AI K wi e n f) (hn : n ≤ 900000)
    (hs : ∀ i, i < n → ∃ e2, AGw K g (f i) vs e e2 ∧ AE K tk e2 (.d (kD (kk i))) ∧ AE K tv e2 (.d (vv i))) (q : Q (.o e.m.length) (e.addO (.dk (dcK kk vv n)))) : AX K (tDc wi g tYes tk tv vs) e Q := fun B σ G H ad R C c =>
  h B σ G H ad R _ fun J G1 H1 X1 W Dl hD => by
    have R1 := R.ext X1
    have R1w := R1.wipe vs
    have gD : G1 Dl = none := Same.none X1.gh hD
    refine ⟨fun i m H => i + m = n ∧ ∃ G' kvs, Xt G1 H1 G' H ∧ G' Dl = none ∧ H Dl = some (.dK kvs) ∧ RKs K G' kvs (dcK kk vv i), ⟨n, by omega, G1, [], Xt.drop X1.gh hD, gD, upd_same, .nil⟩, ?_⟩
    rintro i m H' ⟨hm, G', kvs, X, g0, hq, rk⟩
    by_cases hlt : i < n
    · refine .inr ⟨W.go i G' H' X.gg X.gh hlt, fun H => ∃ G' kvs, Xt G1 H1 G' H ∧ G' Dl = none ∧ H Dl = some (.dK kvs) ∧ RKs K G' kvs (dcK kk vv (i + 1)), fun H'' q => ⟨m - 1, by omega, by omega, q⟩, fun x H2 y => ?_⟩
      obtain ⟨G2, X2, rx⟩ := W.yld i G' H' x H2 X.gg X.gh hlt y
      obtain ⟨e2, hg, hk, hv⟩ := hs i hlt
      refine hg B σ G2 H2 ad ((R1w.ext X).ext X2) x rx _ fun σ2 hw R2 => ⟨hw, ?_⟩
      show tk σ2 H2 _
      refine hk B σ2 G2 H2 ad R2 _ fun v3 G3 H3 X3 r3 => hv B σ2 G3 H3 ad (R2.ext X3) _ fun v4 G4 H4 X4 r4 => ?_
      have X24 := (X2.trans X3).trans X4
      have g4 : G4 Dl = none := X24.out g0 hq
      have rk4 := RKs.mono X24.gg rk
      refine ⟨kvs, kk i, RD.key r3, X24.hh _ _ hq, sz_lt ?_, G4, _, ?_, g4, upd_same, rk_put r4 rk4⟩
      · have := dcK_len kk vv i
        rw [rk_len rk]
        omega
      · have X5 := X.trans X24
        exact ⟨X5.gg, fun b o q => by
          rw [upd_ne (ne_of_none q g4)]
          exact X4.gh _ _ q, fun b o q => by
          rw [upd_ne (ne_of_none q hD)]
          exact X5.hh _ _ q, X5.fr⟩
    · have e1 : i = n := by omega
      subst e1
      refine .inl ⟨W.stop i G' H' X.gg X.gh (Nat.le_refl _), ?_⟩
      have Rf := R1.ext X
      have hb := R1.apart hD
      refine c _ _ _ G' H' (ad ++ [Dl]) q ((X1.trans X).gg) (List.prefix_append _ _) (Rf.addO g0 hb.2 (R1.fresh hD) ⟨kvs, hq, rk⟩) ⟨Dl, ?_, rfl⟩
      rw [← R.al, List.getElem?_append_right (Nat.le_refl _), Nat.sub_self]
      rfl
/-! ### reading a dict of one's own -/
theorem ae_dgetO {i : Nat} {kds : List (Key × D)} {k : Key} {d : D} (hd : AE K td e (.o i)) (hi : e.m[i]? = some (some (.dk kds))) (hk : AE K ty e (.d (kD k))) (hv : valD kds k = some d) : AE K (tDGet td ty) e (.d d) := fun B σ G H ad R c q =>
  hd B σ G H ad R _ fun v G1 H1 X1 r1 => hk B σ G1 H1 ad (R.ext X1) _ fun y G2 H2 X2 r2 => by
    obtain ⟨l, hl, rfl⟩ := r1
    have ey := RD.key r2
    subst ey
    obtain ⟨_, _, kvs, h2, rk⟩ := ((R.ext X1).ext X2).op i l _ hl hi
    rcases rk_val (k := k) rk with ⟨h3, _⟩ | ⟨d', v', h3, h4, h5⟩
    · rw [hv] at h3
      cases h3
    · rw [hv] at h3
      cases h3
      refine ⟨l, v', rfl, ?_, q _ G2 H2 (X1.trans X2) h5⟩
      have := DGet.k (k := k) h2
      rw [h4] at this
      exact this
theorem dget_o {G : Hp} {kvs : List (Key × V)} {kds : List (Key × D)} {k : Key} (rk : RKs K G kvs kds) : (valV kvs k).isSome = (valD kds k).isSome ∧ RD K G ((valV kvs k).getD .non) ((valD kds k).getD .non) := by
  rcases rk_val (k := k) rk with ⟨h3, h4⟩ | ⟨d, v, h3, h4, h5⟩
  · rw [h3, h4]
    exact ⟨rfl, .non⟩
  · rw [h3, h4]
    exact ⟨rfl, h5⟩
theorem ae_get1O {i : Nat} {kds : List (Key × D)} {k : Key} (hd : AE K td e (.o i)) (hi : e.m[i]? = some (some (.dk kds))) (hk : AE K ty e (.d (kD k))) : AE K (tDGet1 td ty) e (.d ((valD kds k).getD .non)) := fun B σ G H ad R c q =>
  hd B σ G H ad R _ fun v G1 H1 X1 r1 => by
    obtain ⟨l, hl, rfl⟩ := r1
    obtain ⟨_, _, kvs1, h1, _⟩ := (R.ext X1).op i l _ hl hi
    refine ⟨l, rfl, .inl ⟨kvs1, .inl h1⟩, hk B σ G1 H1 ad (R.ext X1) _ fun y G2 H2 X2 r2 => ?_⟩
    have ey := RD.key r2
    subst ey
    obtain ⟨_, _, kvs, h2, rk⟩ := ((R.ext X1).ext X2).op i l _ hl hi
    exact ⟨_, DGet.k (k := k) h2, q _ G2 H2 (X1.trans X2) (dget_o (k := k) rk).2⟩
theorem ae_notInD {i : Nat} {kds : List (Key × D)} {k : Key} (hk : AE K ty e (.d (kD k))) (hd : AE K td e (.o i)) (hi : e.m[i]? = some (some (.dk kds))) : AE K (tDNotIn ty td) e (.d (.bl (!(valD kds k).isSome))) := fun B σ G H ad R c q =>
  hk B σ G H ad R _ fun y G1 H1 X1 r1 => hd B σ G1 H1 ad (R.ext X1) _ fun v G2 H2 X2 r2 => by
    obtain ⟨l, hl, rfl⟩ := r2
    have ey := RD.key (r1 : RD K G1 y (kD k))
    subst ey
    obtain ⟨_, _, kvs, h2, rk⟩ := ((R.ext X1).ext X2).op i l _ hl hi
    refine ⟨l, _, rfl, DGet.k (k := k) h2, ?_⟩
    rw [(dget_o (k := k) rk).1]
    exact q _ G2 H2 (X1.trans X2) RD.bl
/-! ### i, (j, l) as a comprehension's target -/
theorem agw_nest {d1 d2 d3 : D} {i j l : Nat} (hij : i ≠ j) (hil : i ≠ l) (hjl : j ≠ l) : AGw K (gTup K 2 (gCons (gName i) (gCons (gTup K 2 (gCons (gName j) (gCons (gName l) gNil))) gNil))) (.tup [d1, .tup [d2, d3]]) [i, j, l] e (((e.set i (.d d1)).set j (.d d2)).set l (.d d3)) := fun B σ G H ad R v rv C c => by
  cases rv with
  | tup hq rd =>
    cases rd with
    | cons r1 rd =>
      cases rd with
      | cons r2 rd =>
        cases rd
        cases r2 with
        | tup hq2 rd2 =>
          cases rd2 with
          | cons s1 rd2 =>
            cases rd2 with
            | cons s2 rd2 =>
              cases rd2
              refine ⟨_, _, rfl, seqT R.gh hq, rfl, _, _, rfl, _, _, rfl, ⟨_, _, rfl, seqT R.gh hq2, rfl, _, _, rfl, _, _, rfl, rfl, ?_⟩⟩
              refine ⟨rfl, c _ ?_ ?_⟩
              · show (((((((((σ.set l none).set j none).set i none).set i (some _)).set j (some _)).set l (some _)).set l none).set j none).set i none) = ((σ.set l none).set j none).set i none
                refine List.ext_getElem? fun n => ?_
                simp only [List.getElem?_set, List.length_set]
                grind
              · have R1 := ((R.set (i := i) (a := .d d1) r1).set (i := j) (a := .d d2) s1).set (i := l) (a := .d d3) s2
                have : (((e.wipe [i, j, l]).set i (.d d1)).set j (.d d2)).set l (.d d3) = ((e.set i (.d d1)).set j (.d d2)).set l (.d d3) := by
                  show (⟨(((((e.s.set l .no).set j .no).set i .no).set i (.d d1)).set j (.d d2)).set l (.d d3), e.m⟩ : Env) = ⟨((e.s.set i (.d d1)).set j (.d d2)).set l (.d d3), e.m⟩
                  congr 1
                  refine List.ext_getElem? fun n => ?_
                  simp only [List.getElem?_set, List.length_set]
                  grind
                rw [this] at R1
                exact R1
end
section
variable {X : Cx} {P : Program} {w : World} {o e f : Expr} {td ty tx : TE} {apos cpos pos : Pos}
theorem pe_numGetNK (hP : X.prog = P) (hw : X.w = w) (ho : PE X o td) (hi : PE X e ty) (hs : NoSl e) : PE X (.Subscript o e pos) (tNumGet (nkN P w) td ty) := by subst hP; subst hw; exact pe_numGetN ho hi hs
theorem call_numLenNK (hP : X.prog = P) (hw : X.w = w) : CallR X (.builtin "len") (rNumLen (nkN P w)) := by subst hP; subst hw; exact call_numLenN
theorem pe_numSetNK (hP : X.prog = P) (hw : X.w = w) (ho : PE X o td) (he : PE X e ty) (hf : PE X f tx) (m : M2 X o "setdefault" apos e f cpos) : PE X (.Call (.Attribute o "setdefault" apos) [e, f] [] cpos) (tNumSet (nkN P w) td ty tx) := by subst hP; subst hw; exact pe_numSetN ho he hf m
end
end Ab
namespace Ab
open PySem PySem.Spec PyProof.Rows L2
/-! ### own things within own things -/
mutual
/-- what an own thing reads as -/
inductive Rd (m : List (Option O)) : A → D → Prop
  | d {x : D} : Rd m (.d x) x
  | lst {k : Nat} {ds : List D} : m[k]? = some (some (.lst ds)) → Rd m (.o k) (.lst ds)
  | tp {k : Nat} {as : List A} {ds : List D} : m[k]? = some (some (.tp as)) → Rds m as ds → Rd m (.o k) (.tup ds)
  | ls {k : Nat} {as : List A} {ds : List D} : m[k]? = some (some (.ls as)) → Rds m as ds → Rd m (.o k) (.lst ds)
inductive Rds (m : List (Option O)) : List A → List D → Prop
  | nil : Rds m [] []
  | cons {a : A} {as : List A} {d : D} {ds : List D} : Rd m a d → Rds m as ds → Rds m (a :: as) (d :: ds)
end
/-- the data with the own things among them -/
def borG (G H : Hp) (ad : List Addr) : Hp := fun a => if a ∈ ad then H a else G a
theorem borG_in {G H : Hp} {ad : List Addr} {a : Addr} (h : a ∈ ad) : borG G H ad a = H a := if_pos h
theorem borG_out {G H : Hp} {ad : List Addr} {a : Addr} (h : a ∉ ad) : borG G H ad a = G a := if_neg h
theorem borG_gg {G H : Hp} {ad : List Addr} (s : Same G H) : Same G (borG G H ad) := fun a o ha => by
  by_cases hn : a ∈ ad
  · rw [borG_in hn]; exact s _ _ ha
  · rw [borG_out hn]; exact ha
theorem borG_gh {G H : Hp} {ad : List Addr} (s : Same G H) : Same (borG G H ad) H := fun a o ha => by
  by_cases hn : a ∈ ad
  · rw [borG_in hn] at ha; exact ha
  · rw [borG_out hn] at ha; exact s _ _ ha
section
variable {K : PySem.W.Frag} {G H : Hp} {ad : List Addr} {m : List (Option O)}
mutual
theorem Rd.rd (s : Same G H) (op : ∀ (k : Nat) (l : Addr) (o : O), ad[k]? = some l → m[k]? = some (some o) → ObR K G H ad l o) : ∀ {a : A} {d : D} {v : V}, Rd m a d → RepV K G ad v a → RD K (borG G H ad) v d
  | _, _, _, .d, h => RD.mono (borG_gg s) h
  | _, _, _, .lst hk, h => by
    obtain ⟨l, hl, rfl⟩ := h
    obtain ⟨vs, h1, h2⟩ := op _ l _ hl hk
    exact .lst (by rw [borG_in (List.mem_of_getElem? hl)]; exact h1) (h2.mono (borG_gg s))
  | _, _, _, .tp hk r, h => by
    obtain ⟨l, hl, rfl⟩ := h
    obtain ⟨vs, h1, h2⟩ := op _ l _ hl hk
    exact .tup (.inl (.inl (by rw [borG_in (List.mem_of_getElem? hl)]; exact h1))) (Rds.rd s op r h2)
  | _, _, _, .ls hk r, h => by
    obtain ⟨l, hl, rfl⟩ := h
    obtain ⟨vs, h1, h2⟩ := op _ l _ hl hk
    exact .lst (by rw [borG_in (List.mem_of_getElem? hl)]; exact h1) (Rds.rd s op r h2)
theorem Rds.rd (s : Same G H) (op : ∀ (k : Nat) (l : Addr) (o : O), ad[k]? = some l → m[k]? = some (some o) → ObR K G H ad l o) : ∀ {as : List A} {ds : List D} {vs : List V}, Rds m as ds → RepVs K G ad vs as → RDs K (borG G H ad) vs ds
  | _, _, _, .nil, .nil => .nil
  | _, _, _, .cons h r, .cons h2 r2 => .cons (Rd.rd s op h h2) (Rds.rd s op r r2)
end
end
/-- the slots as they read -/
def Bw (m : List (Option O)) : List A → List A → Prop
  | [], [] => True
  | b :: r, a :: s => (a = .no ∨ ∃ d, a = .d d ∧ Rd m b d) ∧ Bw m r s
  | _, _ => False
theorem Bw.len {m : List (Option O)} : ∀ {s t : List A}, Bw m s t → s.length = t.length
  | [], [], _ => rfl
  | _ :: _, _ :: _, h => by rw [List.length_cons, List.length_cons, Bw.len h.2]
theorem Bw.get {m : List (Option O)} : ∀ {s t : List A} {i : Nat} {a : A}, Bw m s t → t[i]? = some a → a = .no ∨ ∃ b d, s[i]? = some b ∧ a = .d d ∧ Rd m b d
  | [], [], _, _, _, h => by simp at h
  | b :: r, x :: s, 0, a, g, h => by
    simp at h
    subst h
    rcases g.1 with q | ⟨d, q, r⟩
    · exact .inl q
    · exact .inr ⟨b, d, rfl, q, r⟩
  | b :: r, x :: s, i + 1, a, g, h => by
    have := Bw.get (i := i) (a := a) g.2 (by simpa using h)
    simpa using this
section
variable {K : PySem.W.Frag} {e : Env} {w : Nat} {D : AEnds} {te : TE} {Q : A → Env → Prop}
theorem Rep.bor {B : Bs} {σ : L2.St} {G H : Hp} {ad : List Addr} (R : Rep K B e σ G H ad) {s' : List A} (b : Bw e.m e.s s') : Rep K ⟨borG G H ad, H, []⟩ ⟨s', []⟩ σ (borG G H ad) H [] where
  bg := Same.refl _
  gh := borG_gh R.gh
  fr := fun a h => .inl h
  kp := fun a o h _ => h
  nn := fun a h => h
  al := rfl
  nd := List.nodup_nil
  ah := fun l h => by cases h
  ow := List.prefix_refl _
  op := fun k l o h1 _ => by cases h1
  sl := by rw [R.sl]; exact b.len
  st := fun i a q => by
    rcases b.get q with rfl | ⟨x, d, hx, rfl, r⟩
    · exact .inl rfl
    · rcases R.st i x hx with rfl | ⟨v, z1, z2⟩
      · cases r
      · exact .inr ⟨v, z1, Rd.rd R.gh (fun k l o h1 h2 => (R.op k l o h1 h2).2.2) r z2⟩
/-- a test that only reads the own things -/
theorem AT.brw {tt : TT} {s' : List A} {i : Bool} (h : AT K tt ⟨s', []⟩ i) (b : Bw e.m e.s s') : AT K tt e i := fun B σ G H ad R C c =>
  h _ σ _ H [] (R.bor b) C fun G' H' X => c G H' ⟨Same.refl _, R.gh.trans X.hh, X.hh, fun _ h => .inl h⟩
/-- an own tuple -/
theorem ax_tupO {t : TA} (h : AXL K t e fun as e' => as.length ≤ 1000000 ∧ Q (.o e'.m.length) (e'.addO (.tp as))) : AX K (tTup t) e Q := fun B σ G H ad R C c =>
  h B σ G H ad R _ fun as e' vs G1 H1 ad1 ⟨hl, q⟩ s1 p1 R1 r1 => by
    refine ⟨sz_of ?_, fun p hp => ?_⟩
    · rw [r1.length]
      exact hl
    · have R2 := R1.ext (Xt.drop (o := .tup vs) R1.gh hp)
      obtain ⟨gp, bp⟩ := R1.apart hp
      have na := R1.fresh hp
      have pre : ad1 <+: ad1 ++ [p] := List.prefix_append _ _
      refine c _ _ (.ref p) G1 _ (ad1 ++ [p]) q s1 (p1.trans pre) (R2.addO gp bp na ⟨vs, upd_same, r1.pre pre⟩) ⟨p, ?_, rfl⟩
      rw [← R1.al, List.getElem?_append_right (Nat.le_refl _), Nat.sub_self]
      rfl
/-- an own list of own things -/
theorem as_ls (k : Nat) {ds : List Ab.D} {t : TS} (hk : e.m[k]? = some (some (.lst ds))) (h : AS K w t D (e.putO k (.ls (ds.map .d)))) : AS K w t D e := fun B hB C co σ G H ad R => by
  have hkl : k < ad.length := by
    rw [R.al]
    exact (List.getElem?_eq_some_iff.mp hk).1
  have hl : ad[k]? = some ad[k] := List.getElem?_eq_getElem hkl
  obtain ⟨g, bw, vs, hq, rd⟩ := R.op k _ _ hl hk
  have hu : upd H ad[k] (.lst vs) = H := by
    funext b
    by_cases e1 : b = ad[k]
    · subst e1
      rw [upd_same, hq]
    · rw [upd_ne e1]
  have R2 := R.putO (u := .lst vs) (o' := .ls (ds.map .d)) hl hk ⟨vs, upd_same, RepVs.of rd⟩
  rw [hu] at R2
  exact h B hB C co σ G H ad R2
theorem ax_appO {k : Nat} {to te : TE} {as0 : List A} (ho : AE K to e (.o k)) (hk : e.m[k]? = some (some (.ls as0)))
    (h : AX K te e fun a e' => ∃ as, e'.m[k]? = some (some (.ls as)) ∧ as.length < 1000000 ∧ Q (.d .non) (e'.putO k (.ls (as ++ [a])))) : AX K (tBM K "list" rAppend to (tCons te tNil)) e Q := fun B σ G H ad R C c =>
  ho B σ G H ad R _ fun v G1 H1 X1 r1 => by
    obtain ⟨l, hl, rfl⟩ := r1
    have R1 := R.ext X1
    obtain ⟨_, _, vs0, h0, _⟩ := R1.op k l _ hl hk
    refine ⟨Or.inl ⟨rfl, vs0, Or.inl (Or.inl h0)⟩, ?_⟩
    refine h B σ G1 H1 ad R1 _ fun a e' v' G2 H2 ad' q gg pre R2 r2 => ?_
    obtain ⟨as, hk2, hz, q⟩ := q
    have hl2 : ad'[k]? = some l := pre_get pre hl
    obtain ⟨_, _, vs, h2, rd⟩ := R2.op k l _ hl2 hk2
    refine ⟨l, vs, v', rfl, rfl, h2, sz_lt (by rw [rd.length]; exact hz), ?_⟩
    refine c _ _ _ G2 _ ad' q (X1.gg.trans gg) pre (R2.putO hl2 hk2 ⟨vs ++ [v'], upd_same, ?_⟩) RD.non
    clear hz h2 hk2 q
    induction rd with
    | nil => exact .cons r2 .nil
    | cons h _ ih => exact .cons h ih
theorem as_appO {k : Nat} {to te : TE} {as0 : List A} (ho : AE K to e (.o k)) (hk : e.m[k]? = some (some (.ls as0)))
    (h : AX K te e fun a e' => ∃ as, e'.m[k]? = some (some (.ls as)) ∧ as.length < 1000000 ∧ D.nx (e'.putO k (.ls (as ++ [a])))) :
    AS K w (tDrop (tBM K "list" rAppend to (tCons te tNil))) D e := as_dropX (ax_appO ho hk h)
/-! ### reading them -/
theorem RepVs.atI {G : Hp} {ad : List Addr} {vs : List V} {as : List A} (h : RepVs K G ad vs as) {i : Int} {a : A} (q : L2.atI as i = some a) : ∃ v, L2.atI vs i = some v ∧ RepV K G ad v a := by
  unfold L2.atI at q ⊢
  rw [h.length]
  cases z : ixN as.length i with
  | none =>
    rw [z] at q
    cases q
  | some j =>
    rw [z] at q
    obtain ⟨v, h1, h2⟩ := h.get (show as[j]? = some a from q)
    exact ⟨v, h1, h2⟩
theorem a2_ixTO {k : Nat} {as : List A} {i : Int} {a : A} (hk : e.m[k]? = some (some (.tp as))) (h : atI as i = some a) : A2 K (rIxT K) (.o k) (.d (.int i)) e a := fun B σ G H ad R v w rv rw C c => by
  cases rw
  obtain ⟨l, hl, rfl⟩ := rv
  obtain ⟨_, _, vs, hq, rd⟩ := R.op k l _ hl hk
  obtain ⟨u, h1, h2⟩ := rd.atI h
  exact ⟨_, _, i, u, rfl, rfl, .inl (.inl hq), h1, c _ G H (Xt.refl R.gh) h2⟩
theorem a2_ixLO {k : Nat} {as : List A} {i : Int} {a : A} (hk : e.m[k]? = some (some (.ls as))) (h : atI as i = some a) : A2 K (rIxL K) (.o k) (.d (.int i)) e a := fun B σ G H ad R v w rv rw C c => by
  cases rw
  obtain ⟨l, hl, rfl⟩ := rv
  obtain ⟨_, _, vs, hq, rd⟩ := R.op k l _ hl hk
  obtain ⟨u, h1, h2⟩ := rd.atI h
  exact ⟨_, _, i, u, rfl, rfl, .inl (.inl hq), h1, c _ G H (Xt.refl R.gh) h2⟩
/-- a new list of data, from a list of own things -/
theorem an_lcO {tl te : TE} {j k n : Nat} {as : List A} (x : Nat → Ab.D) (h : AE K tl e (.o k)) (hk : e.m[k]? = some (some (.ls as))) (hl : as.length = n) (hn : n ≤ 900000)
    (hs : ∀ i a, as[i]? = some a → AE K te (e.set j a) (.d (x i))) : AN K (tLc (iList K tl) (gName j) tYes te [j]) e ((List.range n).map x) := fun B σ G H ad R C c => by
  refine h B σ G H ad R _ fun v G1 H1 X1 r1 => ?_
  obtain ⟨l, hal, rfl⟩ := r1
  have R1 := R.ext X1
  obtain ⟨_, _, vs, hq0, rv0⟩ := R1.op k l _ hal hk
  refine ⟨l, rfl, ⟨vs, .inl (.inl hq0)⟩, fun Dl hD => ?_⟩
  have gD : G1 Dl = none := Same.none X1.gh hD
  have nl : l ≠ Dl := ne_of_none hq0 hD
  refine ⟨fun i m H => i + m = n ∧ ∃ G' acc, Xt G1 H1 G' H ∧ G' Dl = none ∧ H Dl = some (.lst acc) ∧ RDs K G' acc ((List.range i).map x), ⟨n, by omega, G1, [], Xt.drop X1.gh hD, gD, upd_same, .nil⟩, ?_⟩
  rintro i m H' ⟨hm, G', acc, X, g0, hq, rd⟩
  have hql : H' l = some (.lst vs) := X.hh _ _ hq0
  by_cases hlt : i < n
  · have hi : i < as.length := by omega
    obtain ⟨u, hu, ru⟩ := rv0.get (List.getElem?_eq_getElem hi)
    refine .inr ⟨⟨vs, u, .inl (.inl hql), hu⟩, fun H => ∃ G' acc, Xt G1 H1 G' H ∧ G' Dl = none ∧ H Dl = some (.lst acc) ∧ RDs K G' acc ((List.range (i + 1)).map x), fun H'' q => ⟨m - 1, by omega, by omega, q⟩, fun x2 H2 y => ?_⟩
    obtain ⟨rfl, y⟩ := y
    have hy := y vs (.inl (.inl hql))
    rw [hu] at hy
    cases hy
    have R2 := R1.ext X
    have R3 := (R2.wipe [j]).set (i := j) (a := as[i]) (ru.mono X.gg)
    have he : (e.wipe [j]).set j as[i] = e.set j as[i] := by
      show (⟨(e.s.set j .no).set j _, e.m⟩ : Env) = ⟨e.s.set j _, e.m⟩
      rw [List.set_set]
    rw [he] at R3
    refine ⟨?_, ?_⟩
    · show (((σ.set j none).set j (some _)).set j none) = σ.set j none
      rw [List.set_set, List.set_set]
    · show te _ H2 _
      refine hs i as[i] (List.getElem?_eq_getElem hi) B _ G' H2 ad R3 _ fun v G4 H4 X4 rv => ?_
      have g4 : G4 Dl = none := X4.out g0 hq
      refine ⟨acc, X4.hh _ _ hq, sz_lt ?_, G4, acc ++ [v], ?_, g4, upd_same, ?_⟩
      · rw [rd.length, List.length_map, List.length_range]
        omega
      · have X5 := X.trans X4
        exact ⟨X5.gg, fun b o q => by
          rw [upd_ne (ne_of_none q g4)]
          exact X4.gh _ _ q, fun b o q => by
          rw [upd_ne (ne_of_none q hD)]
          exact X5.hh _ _ q, X5.fr⟩
      · rw [List.range_succ, List.map_append]
        exact (rd.mono X4.gg).append (.cons rv .nil)
  · have e1 : i = n := by omega
    subst e1
    exact .inl ⟨⟨vs, .inl (.inl hql), by rw [rv0.length]; omega⟩, c Dl acc G' H' (X1.trans X) (Same.none X1.hh hD) g0 hq rd⟩
end
/-! ### own things given away as data -/
section
variable {P : Program} {w : World} {K : PySem.W.Frag} {mg : Str → Option Value} {base : Heap} {x : Str} {ps : List Str} {k : Nat} {sp sp' : Sp}
theorem Has.imp (h : Has P w K mg base x ps k sp) (q : ∀ vs H Q E, sp' vs H Q E → sp vs H Q E) : Has P w K mg base x ps k sp' := by
  obtain ⟨f, fd, F, g, b⟩ := h
  exact ⟨f, fd, FnOk.imp F q, g, b⟩
theorem has_frz {R : List A → List O → Prop} {T : List A → List O → A → List O → Prop} {R' : List A → A → Prop} (h : Has P w K mg base x ps k (SpX K R T))
    (hR : ∀ as r, R' as r → R as [] ∧ ∀ a M', T as [] a M' → ∃ d, r = .d d ∧ Rd (M'.map some) a d) : Has P w K mg base x ps k (SpF K R') := by
  refine h.imp fun vs H Q E ⟨G, as, r, s, rv, hr, q⟩ => ?_
  obtain ⟨h1, h2⟩ := hR as r hr
  refine ⟨G, [], as, [], s, List.nodup_nil, rfl, fun k l o z _ => (by cases z), rv, h1, fun a M' v G' H' ad' hT b rv' => ?_⟩
  obtain ⟨d, rfl, rd⟩ := h2 a M' hT
  refine q v (borG G' H' ad') H' ⟨b.gg.trans (borG_gg b.gh), borG_gh b.gh, fun a o e => b.kp a o e (by simp), fun a ha => ?_⟩ (Rd.rd b.gh (fun k l o e1 e2 => ?_) rd rv')
  · by_cases hn : a ∈ ad'
    · exact .inr (b.nw a hn (by simp))
    · rw [borG_out hn] at ha
      exact b.fr a ha
  · rw [List.getElem?_map] at e2
    cases z : M'[k]? with
    | none =>
      rw [z] at e2
      cases e2
    | some o' =>
      rw [z] at e2
      cases e2
      exact (b.ob k l o e1 z).2
end
end Ab
namespace Ab
open PySem PySem.Spec PyProof.Rows L2
/-! ### len(set(numbers)), list(range(n)), tuple(an own list) -/
theorem firstMet_uniq (ns : List Int) : ∀ i, i ≤ ns.length → PyProof.Rows.firstMet (fun i => ns.getD i 0) i = uniqK (ns.take i)
  | 0, _ => rfl
  | i + 1, h => by
    have hi : i < ns.length := by omega
    have hg : ns[i]? = some (ns.getD i 0) := by
      rw [List.getD_eq_getElem?_getD, List.getElem?_eq_getElem hi]
      rfl
    have tk : ns.take (i + 1) = ns.take i ++ [ns.getD i 0] := by rw [List.take_add_one, hg]; rfl
    rw [PyProof.Rows.firstMet_succ, firstMet_uniq ns i (by omega), tk, uniqK_snoc]
    unfold addK
    by_cases c : ns.getD i 0 ∈ uniqK (ns.take i)
    · have c2 : (uniqK (ns.take i)).any (· == ns.getD i 0) = true := List.any_eq_true.mpr ⟨_, c, beq_self_eq_true _⟩
      rw [if_pos c]
      show (if (uniqK (ns.take i)).any (· == ns.getD i 0) = true then _ else _) = _
      rw [if_pos c2]
    · have c2 : ¬ (uniqK (ns.take i)).any (· == ns.getD i 0) = true := fun z => by
        obtain ⟨x, h1, h2⟩ := List.any_eq_true.mp z
        exact c ((beq_iff_eq.mp h2) ▸ h1)
      rw [if_neg c]
      show (if (uniqK (ns.take i)).any (· == ns.getD i 0) = true then _ else _) = _
      rw [if_neg c2]
theorem uniqK_sz {κ : Type} [DecidableEq κ] (ms : List κ) : (uniqK ms).length ≤ ms.length := by
  suffices h : ∀ (ms u : List κ), (ms.foldl addK u).length ≤ u.length + ms.length by
    have := h ms []
    rw [List.length_nil, Nat.zero_add] at this
    exact this
  intro ms
  induction ms with
  | nil => intro u; exact Nat.le_refl _
  | cons a r ih =>
    intro u
    rw [List.foldl_cons]
    have := ih (addK u a)
    have h2 : (addK u a).length ≤ u.length + 1 := by
      unfold addK
      split
      · omega
      · rw [List.length_append]
        exact Nat.le_refl _
    rw [List.length_cons]
    omega
def tLenSetL (K : PySem.W.Frag) (ta : TE) : TE := fun σ H Q => ta σ H fun x H1 => ∃ (l : Addr) (ns : List Int), x = .ref l ∧ SqL K H1 l (ns.map V.int) ∧ ns.length ≤ 4000 ∧ Q (.int ((uniqK ns).length : Nat)) H1
theorem pe_lenSetL {X : Cx} {a : Expr} {ta : TE} {p p2 q pos : Pos} (hc : X.calm = true) (hg : Gl X "len") (hm : X.mg "len" = none) (hg2 : Gl X "set") (hm2 : X.mg "set" = none) (ha : PE X a ta)
    (na : starEach [a] X.env = (false, eval a X.env) :: starEach [] X.env := by rfl) : PE X (.Call (.Name "len" p) [.Call (.Name "set" p2) [a] [] q] [] pos) (tLenSetL X.K ta) := by
  refine ⟨fun pins s σ H Q I h => ?_⟩
  refine Call_ (ld_blt I hg hm boot_len ?_)
  refine PyProof.Rows.callWith_builtin1 (PyProof.Rows.args_cons ?_ rfl) rfl rfl
  refine Call_ (ld_blt I hg2 hm2 boot_set ?_)
  refine PyProof.Rows.callWith_type1 (PyProof.Rows.args_cons (thn (ha.run pins s σ H _ I h) fun v s1 ⟨x, H1, I1, r1, q1⟩ => PyProof.Rows.args_nil ?_) na) na rfl
  obtain ⟨l, ns, rfl, hq, hl, q1⟩ := q1
  cases r1
  obtain ⟨its, r, pl, hz⟩ := I1.list hq
  have hlen : its.toArray.size = ns.length := by rw [List.size_toArray, ← r.length, List.length_map]
  refine call_set_list (I1.ok.hd hc) pl.isList (ns := ns) (by simpa using r.ints) (by rw [hlen]; unfold scanBound; omega) fun h' tk hS hk => ?_
  refine PyProof.Rows.args_nil ?_
  rw [hlen, firstMet_uniq ns ns.length (Nat.le_refl _), List.take_length] at hS
  obtain ⟨o, es, ep, t, ho, hex, hd, _, _, _, hf, hn⟩ := hS
  have I2 : Inv X pins σ H1 { s1 with heap := h', toks := tk } := I1.kept fun b o e => hk b o (Heap.lt_size e) e
  have := uniqK_sz ns
  exact call_len_set ho hex hd hf (by rw [hn]; omega) ⟨.int ((uniqK ns).length : Nat), H1, I2.tok _, ⟨_, by rw [hn]⟩, q1⟩
section
variable {K : PySem.W.Frag} {e : Env} {ta te : TE}
theorem ae_lenSetL {ns : List Int} (h : AE K te e (.d (.lst (ns.map .int)))) (hl : ns.length ≤ 4000) : AE K (tLenSetL K te) e (.d (natD (uniqK ns).length)) := fun B σ G H ad R C c =>
  h B σ G H ad R _ fun v G1 H1 X1 r1 => by
    cases r1 with
    | lst hq rd =>
      rename_i p vs
      refine ⟨p, ns, rfl, .inl (.inl (X1.gh _ _ ?_)), hl, c _ G1 H1 X1 RD.int⟩
      rw [← RD.ints rd]
      exact hq
theorem an_listRg {n : Int} (h : AE K te e (.d (.int n))) (h0 : 0 ≤ n) (hn : n ≤ 1000000) : AN K (tLstRg (tRg1 te)) e ((List.range n.toNat).map natD) := fun B σ G H ad R C c =>
  h B σ G H ad R _ fun v G1 H1 X1 r1 => by
    cases r1
    refine ⟨n, rfl, RgOk.of_le (by omega) (by omega) (by omega) h0, fun q hq => ?_⟩
    refine c q _ G1 _ (X1.trans (Xt.drop X1.gh hq)) (Same.none X1.hh hq) (Same.none X1.gh hq) upd_same ?_
    unfold rgV
    rw [Int.sub_zero]
    suffices hh : ∀ l : List Nat, RDs K G1 (l.map fun i => V.int (0 + (i : Nat))) (l.map natD) from hh _
    intro l
    induction l with
    | nil => exact .nil
    | cons x r ih => exact .cons (by show RD K G1 (V.int (0 + (x : Nat))) (natD x); rw [Int.zero_add]; exact RD.int) ih
abbrev rTupG (K : PySem.W.Frag) : List V → Hp → VK → Prop := fun xs H Q => ∃ p ys, xs = [.ref p] ∧ ((SqL K H p ys ∧ ∀ l, H l = none → Q (.ref l) (upd H l (.tup ys))) ∨ (SqT K H p ys ∧ Q (.ref p) H))
theorem ac_tupO {k : Nat} {ns : List Int} (hk : e.m[k]? = some (some (.lst (ns.map .int)))) : AC K (rTupG K) [.o k] e (.d (.kt ns)) := fun B σ G H ad R vs rv C c => by
  obtain ⟨v, rfl, l, hl, rfl⟩ := rv1 rv
  obtain ⟨_, _, vs, hq, rd⟩ := R.op k l _ hl hk
  refine ⟨l, vs, rfl, .inl ⟨.inl (.inl hq), fun p hp => ?_⟩⟩
  rw [RD.ints rd]
  have X2 := Xt.new (o := .tup (ns.map V.int)) R.gh hp
  exact c (.ref p) _ _ X2 (RD.kt upd_same)
theorem a2_inNO {neg : Bool} {i k : Nat} {ns : List Nat} (hk : e.m[k]? = some (some (.lst (ns.map natD)))) : A2 K (rIn K neg) (.d (natD i)) (.o k) e (.d (.bl (if neg = true then !decide (i ∈ ns) else decide (i ∈ ns)))) := by
  have e0 : ns.map natD = (ns.map Int.ofNat).map D.int := by rw [List.map_map]; rfl
  have h := a2_inIO (K := K) (e := e) (neg := neg) (i := (i : Int)) (ns := ns.map Int.ofNat) (k := k) (by rw [hk, e0])
  have e1 : decide ((i : Int) ∈ ns.map Int.ofNat) = decide (i ∈ ns) := by
    rw [decide_eq_decide, List.mem_map]
    constructor
    · rintro ⟨a, ha, q⟩
      have : a = i := Int.ofNat.inj q
      exact this ▸ ha
    · exact fun h => ⟨i, h, rfl⟩
  rw [e1] at h
  exact h
end
/-! ### own things that are let go -/
theorem as_cut {K : PySem.W.Frag} {w : Nat} {t : TS} {D : AEnds} {e : Env} (k : Nat) {s' : List A} {m' : List (Option O)} (h : AS K w t D ⟨s', m'⟩) (hw : w ≤ k) (hs : Wk e.s s') (hc : s'.all (clA k) = true) (hm : m' = e.m.take k) (hcm : ∀ o, some o ∈ m' → clO k o = true) : AS K w t D e := fun B hB C co σ G H ad R => by
  have hlen : m'.length ≤ k := by rw [hm, List.length_take]; omega
  have pre : ∀ {i : Nat} {l : Addr}, (ad.take k)[i]? = some l → i < k ∧ ad[i]? = some l := fun {i l} q => by
    have h1 := (List.getElem?_eq_some_iff.mp q).1
    rw [List.length_take] at h1
    have h2 : i < k := by omega
    rw [take_get h2] at q
    exact ⟨h2, q⟩
  refine h B hB C co σ G H (ad.take k) {
    bg := R.bg
    gh := R.gh
    fr := R.fr
    kp := R.kp
    nn := R.nn
    al := by
      show (ad.take k).length = m'.length
      rw [hm, List.length_take, List.length_take, R.al]
    nd := R.nd.sublist (List.take_sublist _ _)
    ah := fun l q => R.ah l (List.mem_of_mem_take q)
    ow := by
      obtain ⟨tl, e1⟩ := R.ow
      refine List.prefix_of_prefix_length_le ⟨tl, e1⟩ (List.take_prefix _ _) ?_
      have : ad.length = B.ow.length + tl.length := by rw [← e1, List.length_append]
      rw [List.length_take]
      omega
    op := fun i l o q1 q2 => by
      obtain ⟨hi, q1⟩ := pre q1
      have q3 : m'[i]? = some (some o) := q2
      have q4 : e.m[i]? = some (some o) := by
        rw [hm, List.getElem?_take_of_lt hi] at q3
        exact q3
      obtain ⟨a, b, c⟩ := R.op i l o q1 q4
      exact ⟨a, b, c.cut (hcm o (List.mem_of_getElem? q3))⟩
    sl := by rw [R.sl]; exact hs.len
    st := fun i a q => by
      rcases hs.get q with rfl | z
      · exact .inl rfl
      · rcases R.st i a z with z | ⟨v, z1, z2⟩
        · exact .inl z
        · exact .inr ⟨v, z1, z2.cut (List.all_eq_true.mp hc a (List.mem_of_getElem? q))⟩ }
end Ab
namespace Ab
open PySem PySem.Spec PyProof.Rows L2
/-! ### items by their places -/
theorem range_map {α β : Type} {xs : List α} {f : α → β} {g : Nat → β} (h : ∀ i x, xs[i]? = some x → g i = f x) : (List.range xs.length).map g = xs.map f := by
  refine List.ext_getElem? fun i => ?_
  rw [List.getElem?_map, List.getElem?_map]
  by_cases hi : i < xs.length
  · rw [List.getElem?_range hi, List.getElem?_eq_getElem hi]
    show some (g i) = some (f xs[i])
    rw [h i _ (List.getElem?_eq_getElem hi)]
  · rw [List.getElem?_eq_none (by rw [List.length_range]; omega), List.getElem?_eq_none (by omega)]
    rfl
theorem getD_get {α : Type} {xs : List α} {i : Nat} (d : α) (hi : i < xs.length) : xs[i]? = some (xs.getD i d) := by
  rw [List.getD_eq_getElem?_getD, List.getElem?_eq_getElem hi]
  rfl
theorem getD_of {α : Type} {xs : List α} {i : Nat} {x : α} (d : α) (h : xs[i]? = some x) : xs.getD i d = x := by
  rw [List.getD_eq_getElem?_getD, h]
  rfl
/-! ### == of lists of numbers -/
theorem eqv_nats : ∀ a b : List Nat, PyData.eqvAll (D.pys (a.map natD)) (D.pys (b.map natD)) = decide (a = b)
  | [], [] => by
    rw [decide_eq_true rfl]
    simp [D.pys, PyData.eqvAll]
  | [], _ :: _ => by
    rw [decide_eq_false (fun h => by cases h)]
    simp [D.pys, PyData.eqvAll]
  | _ :: _, [] => by
    rw [decide_eq_false (fun h => by cases h)]
    simp [D.pys, PyData.eqvAll]
  | x :: a, y :: b => by
    show PyData.eqvAll (PyData.int (x : Nat) :: D.pys (a.map natD)) (PyData.int (y : Nat) :: D.pys (b.map natD)) = _
    rw [PyData.eqvAll, eqv_nats a b]
    have : PyData.eqv (.int (x : Nat)) (.int (y : Nat)) = decide (x = y) := by
      by_cases e : x = y
      · subst e
        rw [decide_eq_true rfl]
        simp [PyData.eqv]
      · rw [decide_eq_false e]
        have : ¬ (x : Int) = (y : Int) := by omega
        simp [PyData.eqv, this]
    rw [this, ← Bool.decide_and, decide_eq_decide]
    exact ⟨fun h => by rw [h.1, h.2], fun h => ⟨(List.cons.inj h).1, (List.cons.inj h).2⟩⟩
theorem eqv_natsD (a b : List Nat) : PyData.eqv (natsD a).py (natsD b).py = decide (a = b) := by
  show PyData.eqv (.list (D.pys (a.map natD))) (.list (D.pys (b.map natD))) = _
  rw [← eqv_nats a b]
  simp [PyData.eqv]
theorem nats_ok (a : List Nat) : okD (natsD a) := (Good.lst (n := 0) fun d hd => by
  obtain ⟨x, _, rfl⟩ := List.mem_map.mp hd
  exact Good.int).ok
/-! ### numbering -/
section
variable {κ κ' : Type} [DecidableEq κ] [DecidableEq κ']
theorem uniqK_app (a : List κ) : ∀ b : List κ, ∃ r, uniqK (a ++ b) = uniqK a ++ r := fun b => by
  unfold uniqK
  rw [List.foldl_append]
  generalize a.foldl addK [] = u
  induction b generalizing u with
  | nil => exact ⟨[], (List.append_nil _).symm⟩
  | cons x b ih =>
    obtain ⟨r, hr⟩ := ih (addK u x)
    rw [List.foldl_cons, hr]
    unfold addK
    by_cases h : x ∈ u
    · rw [if_pos h]
      exact ⟨r, rfl⟩
    · rw [if_neg h]
      exact ⟨x :: r, by rw [List.append_assoc]; rfl⟩
theorem uniqK_mem {ms : List κ} {x : κ} : x ∈ uniqK ms ↔ x ∈ ms := by
  suffices h : ∀ (ms u : List κ), x ∈ ms.foldl addK u ↔ x ∈ u ∨ x ∈ ms by
    have := h ms []
    exact this.trans ⟨fun z => z.elim (fun z => (nomatch z)) id, .inr⟩
  intro ms
  induction ms with
  | nil => intro u; exact ⟨.inl, fun z => z.elim id fun z => (nomatch z)⟩
  | cons a r ih =>
    intro u
    rw [List.foldl_cons, ih, List.mem_cons]
    unfold addK
    by_cases h : a ∈ u
    · rw [if_pos h]
      exact ⟨fun z => z.imp id .inr, fun z => z.elim .inl fun z => z.elim (fun z => .inl (z ▸ h)) .inr⟩
    · rw [if_neg h, List.mem_append, List.mem_singleton, or_assoc]
theorem uniqK_len (ms : List κ) : (uniqK ms).length ≤ ms.length := by
  suffices h : ∀ (ms u : List κ), (ms.foldl addK u).length ≤ u.length + ms.length by
    have := h ms []
    rw [List.length_nil, Nat.zero_add] at this
    exact this
  intro ms
  induction ms with
  | nil => intro u; exact Nat.le_refl _
  | cons a r ih =>
    intro u
    rw [List.foldl_cons]
    have := ih (addK u a)
    have h2 : (addK u a).length ≤ u.length + 1 := by
      unfold addK
      split
      · omega
      · rw [List.length_append]
        exact Nat.le_refl _
    rw [List.length_cons]
    omega
theorem numK_len (ms : List κ) : (numK ms).length = ms.length := List.length_map _
theorem numK_get {ms : List κ} {i : Nat} {m : κ} (h : ms[i]? = some m) : (numK ms)[i]? = some (ixk m (uniqK ms)) := by
  unfold numK
  rw [List.getElem?_map, h]
  rfl
theorem numK_eq {ms : List κ} {i j : Nat} {a b : κ} (hi : ms[i]? = some a) (hj : ms[j]? = some b) : (numK ms).getD i 0 = (numK ms).getD j 0 ↔ a = b := by
  rw [List.getD_eq_getElem?_getD, List.getD_eq_getElem?_getD, numK_get hi, numK_get hj]
  show ixk a (uniqK ms) = ixk b (uniqK ms) ↔ a = b
  exact ⟨fun h => ixk_inj (uniqK_mem.mpr (List.mem_of_getElem? hi)) (uniqK_mem.mpr (List.mem_of_getElem? hj)) h, fun h => by rw [h]⟩
theorem numK_snoc (ms : List κ) (m : κ) : numK (ms ++ [m]) = numK ms ++ [ixk m (addK (uniqK ms) m)] := by
  unfold numK
  rw [List.map_append, uniqK_snoc]
  congr 1
  refine List.map_congr_left fun x hx => ?_
  have hu := uniqK_mem.mpr hx
  unfold addK
  split
  · rfl
  · exact ixk_app [m] hu
/-- a finer list has as many unlike things at least; as many only where it is numbered likewise -/
theorem finer_len : ∀ (n : Nat) (ms : List κ) (ms' : List κ'), ms.length = n → ms'.length = n → (∀ (i j : Nat) (a b : κ) (a' b' : κ'), ms[i]? = some a → ms[j]? = some b → ms'[i]? = some a' → ms'[j]? = some b' → a = b → a' = b') →
    (uniqK ms').length ≤ (uniqK ms).length ∧ ((uniqK ms).length ≤ (uniqK ms').length → numK ms = numK ms')
  | 0, ms, ms', h1, h2, _ => by
    obtain rfl := List.eq_nil_of_length_eq_zero h1
    obtain rfl := List.eq_nil_of_length_eq_zero h2
    exact ⟨Nat.le_refl _, fun _ => rfl⟩
  | n + 1, ms, ms', h1, h2, hf => by
    obtain ⟨r, m, rfl⟩ : ∃ r m, ms = r ++ [m] := ⟨ms.dropLast, ms.getLast (fun z => by rw [z] at h1; cases h1), (List.dropLast_concat_getLast _).symm⟩
    obtain ⟨r', m', rfl⟩ : ∃ r m, ms' = r ++ [m] := ⟨ms'.dropLast, ms'.getLast (fun z => by rw [z] at h2; cases h2), (List.dropLast_concat_getLast _).symm⟩
    have l1 : r.length = n := by rw [List.length_append] at h1; exact Nat.succ.inj h1
    have l2 : r'.length = n := by rw [List.length_append] at h2; exact Nat.succ.inj h2
    have g : ∀ {α : Type} {s : List α} {x y : α} {i : Nat}, s[i]? = some x → (s ++ [y])[i]? = some x := fun {α s x y i} h => by
      rw [List.getElem?_append_left (List.getElem?_eq_some_iff.mp h).1]
      exact h
    have gl : (r ++ [m])[n]? = some m := by rw [List.getElem?_append_right (by omega), l1, Nat.sub_self]; rfl
    have gl' : (r' ++ [m'])[n]? = some m' := by rw [List.getElem?_append_right (by omega), l2, Nat.sub_self]; rfl
    obtain ⟨i1, i2⟩ := finer_len n r r' l1 l2 fun i j a b a' b' c1 c2 c3 c4 => hf i j a b a' b' (g c1) (g c2) (g c3) (g c4)
    rw [uniqK_snoc, uniqK_snoc, numK_snoc, numK_snoc]
    have old : m ∈ uniqK r → m' ∈ uniqK r' := fun hm => by
      obtain ⟨j, hj⟩ := List.mem_iff_getElem?.mp (uniqK_mem.mp hm)
      have hj2 : j < r'.length := by rw [l2, ← l1]; exact (List.getElem?_eq_some_iff.mp hj).1
      have e := hf j n m m (r'[j]) m' (g hj) gl (g (List.getElem?_eq_getElem hj2)) gl' rfl
      rw [← e]
      exact uniqK_mem.mpr (List.getElem_mem _)
    by_cases hm : m ∈ uniqK r
    · have hm' := old hm
      have e1 : addK (uniqK r) m = uniqK r := if_pos hm
      have e2 : addK (uniqK r') m' = uniqK r' := if_pos hm'
      rw [e1, e2]
      refine ⟨i1, fun h => ?_⟩
      have hk := i2 h
      obtain ⟨j, hj⟩ := List.mem_iff_getElem?.mp (uniqK_mem.mp hm)
      have hj2 : j < r'.length := by rw [l2, ← l1]; exact (List.getElem?_eq_some_iff.mp hj).1
      have e := hf j n m m (r'[j]) m' (g hj) gl (g (List.getElem?_eq_getElem hj2)) gl' rfl
      have q1 := numK_get hj
      have q2 := numK_get (List.getElem?_eq_getElem hj2)
      rw [hk, q2] at q1
      rw [hk, ← e, Option.some.inj q1]
    · have e1 : addK (uniqK r) m = uniqK r ++ [m] := if_neg hm
      rw [e1, List.length_append]
      by_cases hm' : m' ∈ uniqK r'
      · have e2 : addK (uniqK r') m' = uniqK r' := if_pos hm'
        rw [e2]
        refine ⟨by omega, fun h => ?_⟩
        have : (uniqK r).length + 1 ≤ (uniqK r').length := h
        omega
      · have e2 : addK (uniqK r') m' = uniqK r' ++ [m'] := if_neg hm'
        rw [e2, List.length_append]
        refine ⟨Nat.succ_le_succ i1, fun h => ?_⟩
        have h : (uniqK r).length + 1 ≤ (uniqK r').length + 1 := h
        rw [i2 (by omega), ixk_new hm, ixk_new hm', Nat.le_antisymm (Nat.le_of_succ_le_succ h) i1]
end
/-! ### the rows with nowhere as one more -/
abbrev CRow := Option Int × List Nat
def closeR (n : Nat) (r : Row) : CRow := (r.1, r.2.map fun w => w.getD n)
def closed (t : Tbl) : List CRow := t.rows.map (closeR t.rows.length) ++ [(none, List.replicate t.signs.length t.rows.length)]
def crowD (r : CRow) : D := .tup [optI r.1, natsD r.2]
/-- rows whose ways are rows -/
structure COk (rs : List CRow) : Prop where
  pos : 0 < rs.length
  ins : ∀ r ∈ rs, ∀ w ∈ r.2, w < rs.length
  few : rs.length ≤ 2000
  wid : ∀ r ∈ rs, r.2.length ≤ 1000
theorem closed_len (t : Tbl) : (closed t).length = t.rows.length + 1 := by
  unfold closed
  rw [List.length_append, List.length_map]
  rfl
theorem closed_ok {t : Tbl} (h : t.Ok) : COk (closed t) where
  pos := by rw [closed_len]; omega
  ins := fun r hr w hw => by
    rw [closed_len]
    rcases List.mem_append.mp hr with hr | hr
    · obtain ⟨q, hq, rfl⟩ := List.mem_map.mp hr
      obtain ⟨o, ho, rfl⟩ := List.mem_map.mp hw
      cases o with
      | none => exact Nat.lt_succ_self _
      | some n => exact Nat.lt_succ_of_lt (h.ins q hq n ho)
    · rw [List.mem_singleton.mp hr] at hw
      rw [(List.mem_replicate.mp hw).2]
      exact Nat.lt_succ_self _
  few := by rw [closed_len]; have := h.many; omega
  wid := fun r hr => by
    have hf := h.few
    rcases List.mem_append.mp hr with hr | hr
    · obtain ⟨q, hq, rfl⟩ := List.mem_map.mp hr
      show (q.2.map _).length ≤ _
      rw [List.length_map, h.wid q hq]
      exact hf
    · rw [List.mem_singleton.mp hr]
      show (List.replicate _ _).length ≤ _
      rw [List.length_replicate]
      exact hf
/-! ### groups, finer and finer -/
def markC (gs : List Nat) (i : Nat) (ws : List Nat) : List Int := (gs.getD i 0 :: ws.map fun w => gs.getD w 0).map Int.ofNat
def marksC (rs : List CRow) (gs : List Nat) : List (List Int) := (List.range rs.length).map fun i => markC gs i (rs.getD i (none, [])).2
def grpC (rs : List CRow) : Nat → List Nat
  | 0 => numK (rs.map (·.1))
  | k + 1 => numK (marksC rs (grpC rs k))
theorem marksC_len (rs : List CRow) (gs : List Nat) : (marksC rs gs).length = rs.length := by
  unfold marksC
  rw [List.length_map, List.length_range]
theorem marksC_get {rs : List CRow} (gs : List Nat) {i : Nat} (h : i < rs.length) : (marksC rs gs)[i]? = some (markC gs i (rs.getD i (none, [])).2) := by
  unfold marksC
  rw [List.getElem?_map, List.getElem?_range h]
  rfl
theorem grpC_len (rs : List CRow) : ∀ k, (grpC rs k).length = rs.length
  | 0 => by
    show (numK _).length = _
    rw [numK_len, List.length_map]
  | k + 1 => by
    show (numK _).length = _
    rw [numK_len, marksC_len]
/-- how many groups -/
def cntC (rs : List CRow) : Nat → Nat
  | 0 => (uniqK (rs.map (·.1))).length
  | k + 1 => (uniqK (marksC rs (grpC rs k))).length
theorem cntC_le (rs : List CRow) : ∀ k, cntC rs k ≤ rs.length
  | 0 => by
    have := uniqK_len (rs.map (·.1))
    rw [List.length_map] at this
    exact this
  | k + 1 => by
    have := uniqK_len (marksC rs (grpC rs k))
    rw [marksC_len] at this
    exact this
theorem markC_head {gs : List Nat} {i j : Nat} {v w : List Nat} (h : markC gs i v = markC gs j w) : gs.getD i 0 = gs.getD j 0 := Int.ofNat.inj (List.cons.inj h).1
theorem grpC_cnt (rs : List CRow) (k : Nat) : cntC rs k ≤ cntC rs (k + 1) ∧ (cntC rs (k + 1) ≤ cntC rs k → grpC rs (k + 1) = grpC rs k) := by
  cases k with
  | zero =>
    refine finer_len rs.length (marksC rs (grpC rs 0)) (rs.map (·.1)) (marksC_len _ _) (List.length_map _) fun i j a b a' b' h1 h2 h3 h4 e => ?_
    have hi : i < rs.length := by rw [← marksC_len rs (grpC rs 0)]; exact (List.getElem?_eq_some_iff.mp h1).1
    have hj : j < rs.length := by rw [← marksC_len rs (grpC rs 0)]; exact (List.getElem?_eq_some_iff.mp h2).1
    rw [marksC_get _ hi] at h1
    rw [marksC_get _ hj] at h2
    cases h1
    cases h2
    exact (numK_eq h3 h4).mp (markC_head e)
  | succ k =>
    refine finer_len rs.length (marksC rs (grpC rs (k + 1))) (marksC rs (grpC rs k)) (marksC_len _ _) (marksC_len _ _) fun i j a b a' b' h1 h2 h3 h4 e => ?_
    have hi : i < rs.length := by rw [← marksC_len rs (grpC rs (k + 1))]; exact (List.getElem?_eq_some_iff.mp h1).1
    have hj : j < rs.length := by rw [← marksC_len rs (grpC rs (k + 1))]; exact (List.getElem?_eq_some_iff.mp h2).1
    rw [marksC_get _ hi] at h1
    rw [marksC_get _ hj] at h2
    cases h1
    cases h2
    exact (numK_eq h3 h4).mp (markC_head e)
/-- the round at which nothing is parted any more -/
theorem grpC_stop (rs : List CRow) : ∃ k, k ≤ rs.length ∧ grpC rs (k + 1) = grpC rs k := by
  apply Classical.byContradiction
  intro hn
  have : ∀ k, k ≤ rs.length + 1 → k ≤ cntC rs k := by
    intro k
    induction k with
    | zero => intro _; exact Nat.zero_le _
    | succ k ih =>
      intro hk
      have h1 := ih (by omega)
      obtain ⟨h2, h3⟩ := grpC_cnt rs k
      have : ¬ cntC rs (k + 1) ≤ cntC rs k := fun z => hn ⟨k, by omega, h3 z⟩
      omega
  have h1 := this (rs.length + 1) (Nat.le_refl _)
  have h2 := cntC_le rs (rs.length + 1)
  omega
theorem grpC_after {rs : List CRow} {k : Nat} (h : grpC rs (k + 1) = grpC rs k) : ∀ j, k ≤ j → grpC rs j = grpC rs k
  | j, hj => by
    induction j with
    | zero =>
      have : k = 0 := by omega
      rw [this]
    | succ j ih =>
      by_cases e : k = j + 1
      · rw [e]
      · have ih := ih (by omega)
        show numK (marksC rs (grpC rs j)) = _
        rw [ih]
        exact h
/-- the groups -/
def grpsC (rs : List CRow) : List Nat := grpC rs rs.length
theorem grpsC_of {rs : List CRow} {k : Nat} (h : grpC rs (k + 1) = grpC rs k) : grpC rs k = grpsC rs := by
  unfold grpsC
  by_cases hk : k ≤ rs.length
  · exact (grpC_after h _ hk).symm
  · obtain ⟨j, hj, e⟩ := grpC_stop rs
    rw [grpC_after e k (by omega), grpC_after e rs.length hj]
theorem grpsC_fix (rs : List CRow) : numK (marksC rs (grpsC rs)) = grpsC rs := by
  obtain ⟨j, hj, e⟩ := grpC_stop rs
  have h1 : grpsC rs = grpC rs j := (grpsC_of e).symm
  rw [h1]
  exact e
theorem grpsC_len (rs : List CRow) : (grpsC rs).length = rs.length := grpC_len rs _
end Ab
namespace Ab
open PySem PySem.Spec PyProof.Rows L2
/-! ### the rows met, one for each group -/
def grp (gs : List Nat) (m : Nat) : Nat := gs.getD m 0
def seenG (gs : List Nat) (dead : Nat) (met : List Nat) (z : Nat) : Bool := decide (z = dead) || met.any fun m => decide (grp gs m = z)
def addG (gs : List Nat) (dead : Nat) (met : List Nat) (w : Nat) : List Nat := if seenG gs dead met (grp gs w) = true then met else met ++ [w]
def waysC (rs : List CRow) (m : Nat) : List Nat := (rs.getD m (none, [])).2
def stepG (rs : List CRow) (gs : List Nat) (dead k : Nat) (met : List Nat) : List Nat := (waysC rs (met.getD k 0)).foldl (addG gs dead) met
def metK (rs : List CRow) (gs : List Nat) (dead : Nat) : Nat → List Nat
  | 0 => [0]
  | k + 1 => if k < (metK rs gs dead k).length then stepG rs gs dead k (metK rs gs dead k) else metK rs gs dead k
def metG (rs : List CRow) (gs : List Nat) (dead : Nat) : List Nat := metK rs gs dead rs.length
structure MetOk (n : Nat) (gs : List Nat) (dead : Nat) (met : List Nat) : Prop where
  ins : ∀ m ∈ met, m < n
  one : met.Pairwise fun a b => grp gs a ≠ grp gs b
  hd : ∃ r, met = 0 :: r ∧ ∀ m ∈ r, grp gs m ≠ dead
theorem seenG_true {gs : List Nat} {dead : Nat} {met : List Nat} {z : Nat} : seenG gs dead met z = true ↔ z = dead ∨ ∃ m ∈ met, grp gs m = z := by
  unfold seenG
  rw [Bool.or_eq_true, decide_eq_true_eq, List.any_eq_true]
  refine or_congr Iff.rfl ⟨fun ⟨m, h, q⟩ => ⟨m, h, of_decide_eq_true q⟩, fun ⟨m, h, q⟩ => ⟨m, h, decide_eq_true q⟩⟩
theorem MetOk.add {n : Nat} {gs : List Nat} {dead : Nat} {met : List Nat} (h : MetOk n gs dead met) {w : Nat} (hw : w < n) : MetOk n gs dead (addG gs dead met w) := by
  unfold addG
  by_cases s : seenG gs dead met (grp gs w) = true
  · rw [if_pos s]
    exact h
  · rw [if_neg s]
    have s := fun z => s (seenG_true.mpr z)
    refine ⟨fun m hm => ?_, ?_, ?_⟩
    · rcases List.mem_append.mp hm with q | q
      · exact h.ins m q
      · rw [List.mem_singleton.mp q]; exact hw
    · rw [List.pairwise_append]
      exact ⟨h.one, List.pairwise_singleton _ _, fun a ha b hb e => by
        rw [List.mem_singleton.mp hb] at e
        exact s (.inr ⟨a, ha, e⟩)⟩
    · obtain ⟨r, rfl, hr⟩ := h.hd
      refine ⟨r ++ [w], rfl, fun m hm => ?_⟩
      rcases List.mem_append.mp hm with q | q
      · exact hr m q
      · rw [List.mem_singleton.mp q]
        exact fun e => s (.inl e)
theorem MetOk.fold {n : Nat} {gs : List Nat} {dead : Nat} : ∀ {ws : List Nat} {met : List Nat}, MetOk n gs dead met → (∀ w ∈ ws, w < n) → MetOk n gs dead (ws.foldl (addG gs dead) met)
  | [], _, h, _ => h
  | w :: ws, _, h, hw => MetOk.fold (ws := ws) (h.add (hw w List.mem_cons_self)) fun x hx => hw x (List.mem_cons_of_mem _ hx)
theorem waysC_in {rs : List CRow} (h : COk rs) (m : Nat) : ∀ w ∈ waysC rs m, w < rs.length := fun w hw => by
  unfold waysC at hw
  by_cases hm : m < rs.length
  · exact h.ins _ (List.mem_of_getElem? (getD_get (none, []) hm)) w hw
  · rw [List.getD_eq_getElem?_getD, List.getElem?_eq_none (by omega)] at hw
    cases hw
theorem waysC_wid {rs : List CRow} (h : COk rs) (m : Nat) : (waysC rs m).length ≤ 1000 := by
  unfold waysC
  by_cases hm : m < rs.length
  · exact h.wid _ (List.mem_of_getElem? (getD_get (none, []) hm))
  · rw [List.getD_eq_getElem?_getD, List.getElem?_eq_none (by omega)]
    exact Nat.zero_le _
theorem metK_ok {rs : List CRow} (h : COk rs) (gs : List Nat) (dead : Nat) : ∀ k, MetOk rs.length gs dead (metK rs gs dead k)
  | 0 => ⟨fun m hm => by rw [List.mem_singleton.mp hm]; exact h.pos, List.pairwise_singleton _ _, ⟨[], rfl, fun m hm => nomatch hm⟩⟩
  | k + 1 => by
    unfold metK
    split
    · exact (metK_ok h gs dead k).fold (waysC_in h _)
    · exact metK_ok h gs dead k
theorem addG_pre (gs : List Nat) (dead : Nat) (met : List Nat) (w : Nat) : met <+: addG gs dead met w := by
  unfold addG
  split
  · exact List.prefix_refl _
  · exact List.prefix_append _ _
theorem foldG_pre (gs : List Nat) (dead : Nat) : ∀ (ws met : List Nat), met <+: ws.foldl (addG gs dead) met
  | [], _ => List.prefix_refl _
  | w :: ws, met => (addG_pre gs dead met w).trans (foldG_pre gs dead ws _)
theorem metK_pre (rs : List CRow) (gs : List Nat) (dead k : Nat) : metK rs gs dead k <+: metK rs gs dead (k + 1) := by
  rw [metK]
  split
  · exact foldG_pre gs dead _ _
  · exact List.prefix_refl _
theorem metK_preLe (rs : List CRow) (gs : List Nat) (dead : Nat) {j : Nat} : ∀ {k : Nat}, j ≤ k → metK rs gs dead j <+: metK rs gs dead k
  | 0, h => by
    obtain rfl : j = 0 := by omega
    exact List.prefix_refl _
  | k + 1, h => by
    by_cases e : j = k + 1
    · rw [e]
      exact List.prefix_refl _
    · exact (metK_preLe rs gs dead (k := k) (by omega)).trans (metK_pre rs gs dead k)
theorem MetOk.few {n : Nat} {gs : List Nat} {dead : Nat} {met : List Nat} (h : MetOk n gs dead met) : met.length ≤ n := nodup_few n met (h.one.imp fun z e => z (by rw [e])) h.ins
theorem MetOk.pos {n : Nat} {gs : List Nat} {dead : Nat} {met : List Nat} (h : MetOk n gs dead met) : 0 < met.length := by
  obtain ⟨r, rfl, _⟩ := h.hd
  exact Nat.succ_pos _
theorem metK_stop {rs : List CRow} {gs : List Nat} {dead k : Nat} (h : (metK rs gs dead k).length ≤ k) : ∀ {j : Nat}, k ≤ j → metK rs gs dead j = metK rs gs dead k
  | 0, hj => by
    obtain rfl : k = 0 := by omega
    rfl
  | j + 1, hj => by
    by_cases e : k = j + 1
    · rw [e]
    · have ih := metK_stop h (j := j) (by omega)
      rw [metK, ih, if_neg (by omega)]
theorem metG_of {rs : List CRow} (h : COk rs) {gs : List Nat} {dead k : Nat} (hk : (metK rs gs dead k).length = k) : metK rs gs dead k = metG rs gs dead := by
  unfold metG
  have := (metK_ok h gs dead k).few
  exact (metK_stop (by omega) (by omega)).symm
theorem metG_ok {rs : List CRow} (h : COk rs) (gs : List Nat) (dead : Nat) : MetOk rs.length gs dead (metG rs gs dead) := metK_ok h gs dead _
/-! ### all that is met is seen -/
theorem seenG_pre {gs : List Nat} {dead : Nat} {a b : List Nat} (p : a <+: b) {z : Nat} (h : seenG gs dead a z = true) : seenG gs dead b z = true := by
  rw [seenG_true] at h ⊢
  rcases h with h | ⟨m, h1, h2⟩
  · exact .inl h
  · obtain ⟨t, rfl⟩ := p
    exact .inr ⟨m, List.mem_append_left _ h1, h2⟩
theorem addG_seen (gs : List Nat) (dead : Nat) (met : List Nat) (w : Nat) : seenG gs dead (addG gs dead met w) (grp gs w) = true := by
  unfold addG
  split
  · rename_i h
    exact h
  · exact seenG_true.mpr (.inr ⟨w, List.mem_append_right _ (List.mem_singleton.mpr rfl), rfl⟩)
theorem foldG_seen (gs : List Nat) (dead : Nat) : ∀ (ws met : List Nat), ∀ w ∈ ws, seenG gs dead (ws.foldl (addG gs dead) met) (grp gs w) = true
  | x :: ws, met, w, h => by
    rcases List.mem_cons.mp h with rfl | h
    · exact seenG_pre (foldG_pre gs dead ws _) (addG_seen gs dead met w)
    · exact foldG_seen gs dead ws _ w h
theorem metG_pre (rs : List CRow) (gs : List Nat) (dead k : Nat) (h : k ≤ rs.length) : metK rs gs dead k <+: metG rs gs dead := metK_preLe rs gs dead h
theorem getD_pre {a b : List Nat} (p : a <+: b) {k : Nat} (h : k < a.length) : b.getD k 0 = a.getD k 0 := by
  obtain ⟨t, rfl⟩ := p
  rw [List.getD_eq_getElem?_getD, List.getD_eq_getElem?_getD, List.getElem?_append_left h]
theorem metK_long {rs : List CRow} (hc : COk rs) {gs : List Nat} {dead k : Nat} (h : k < (metG rs gs dead).length) : k < (metK rs gs dead k).length := by
  apply Classical.byContradiction
  intro hn
  have hf := (metG_ok hc gs dead).few
  have : metG rs gs dead = metK rs gs dead k := metK_stop (by omega) (by omega)
  rw [this] at h
  exact hn h
theorem metG_closed {rs : List CRow} (hc : COk rs) {gs : List Nat} {dead : Nat} {m : Nat} (h : m ∈ metG rs gs dead) : ∀ w ∈ waysC rs m, seenG gs dead (metG rs gs dead) (grp gs w) = true := fun w hw => by
  obtain ⟨k, hk⟩ := List.mem_iff_getElem?.mp h
  have hkl := (List.getElem?_eq_some_iff.mp hk).1
  have hf := (metG_ok hc gs dead).few
  have h1 := metK_long hc hkl
  have e1 : metK rs gs dead (k + 1) = (waysC rs m).foldl (addG gs dead) (metK rs gs dead k) := by
    rw [metK, if_pos h1]
    unfold stepG
    rw [← getD_pre (metG_pre rs gs dead k (by omega)) h1, getD_of 0 hk]
  refine seenG_pre (metG_pre rs gs dead (k + 1) (by omega)) ?_
  rw [e1]
  exact foldG_seen gs dead _ _ w hw
/-! ### the least table -/
def leastRow (rs : List CRow) (gs : List Nat) (dead : Nat) (met : List Nat) (m : Nat) : Row := ((rs.getD m (none, [])).1, (waysC rs m).map fun w => if grp gs w = dead then none else some (ixk (grp gs w) (met.map (grp gs))))
def grpT (t : Tbl) : List Nat := grpsC (closed t)
def deadT (t : Tbl) : Nat := grp (grpT t) t.rows.length
def metT (t : Tbl) : List Nat := metG (closed t) (grpT t) (deadT t)
def leastT (t : Tbl) : Tbl := ⟨t.signs, (metT t).map (leastRow (closed t) (grpT t) (deadT t) (metT t))⟩
theorem grpT_len (t : Tbl) : (grpT t).length = t.rows.length + 1 := by
  unfold grpT
  rw [grpsC_len, closed_len]
/-! ### a dict of numbers -/
theorem valD_put (kds : List (Key × D)) (k k' : Key) (v : D) : valD (putD kds k v) k' = if k = k' then some v else valD kds k' := by
  unfold valD putD
  by_cases h : (kds.any fun kv => decide (kv.1 = k)) = true
  · rw [if_pos h]
    induction kds with
    | nil => cases h
    | cons a r ih =>
      rw [List.map_cons, List.find?_cons, List.find?_cons]
      by_cases ha : a.1 = k
      · rw [if_pos ha]
        by_cases hk : k = k'
        · rw [if_pos hk]
          rw [show decide ((a.1, v).1 = k') = true from decide_eq_true (ha.trans hk)]
          rfl
        · rw [if_neg hk]
          rw [show decide ((a.1, v).1 = k') = false from decide_eq_false fun z => hk (ha ▸ z)]
          show Option.map _ (List.find? _ (r.map _)) = Option.map _ (List.find? _ r)
          by_cases hr : (r.any fun kv => decide (kv.1 = k)) = true
          · have := ih hr
            rw [if_neg hk] at this
            exact this
          · have hr : ∀ x ∈ r, ¬ x.1 = k := fun x hx q => hr (List.any_eq_true.mpr ⟨x, hx, decide_eq_true q⟩)
            congr 2
            refine (List.map_congr_left fun x hx => ?_).trans (List.map_id r)
            rw [if_neg (hr x hx)]
            rfl
      · rw [if_neg ha]
        have hr : (r.any fun kv => decide (kv.1 = k)) = true := by
          rw [List.any_cons, decide_eq_false ha] at h
          exact h
        by_cases hak : a.1 = k'
        · rw [decide_eq_true hak]
          rw [if_neg fun z => ha (hak.trans z.symm)]
        · rw [decide_eq_false hak]
          exact ih hr
  · rw [if_neg h]
    have hr : ∀ x ∈ kds, ¬ x.1 = k := fun x hx q => h (List.any_eq_true.mpr ⟨x, hx, decide_eq_true q⟩)
    rw [List.find?_append]
    by_cases hk : k = k'
    · rw [if_pos hk]
      subst hk
      rw [List.find?_eq_none.mpr fun x hx => by simpa using hr x hx]
      rw [Option.none_or, List.find?_cons, decide_eq_true rfl]
      rfl
    · rw [if_neg hk]
      have : List.find? (fun kv => decide (kv.1 = k')) [(k, v)] = none := by
        rw [List.find?_cons, decide_eq_false hk]
        rfl
      rw [this]
      cases List.find? (fun kv => decide (kv.1 = k')) kds <;> rfl
/-- numbers by groups -/
theorem dcK_val (g : Nat → Nat) : ∀ (n : Nat), (∀ i j, i < n → j < n → g i = g j → i = j) → ∀ i, i < n → valD (dcK (fun i => .inl (g i : Nat)) (fun i => natD i) n) (.inl (g i : Nat)) = some (natD i)
  | n + 1, hg, i, hi => by
    show valD (putD _ _ _) _ = _
    rw [valD_put]
    by_cases e : i = n
    · subst e
      rw [if_pos rfl]
    · have : ¬ (Sum.inl ((g n : Nat) : Int) : Key) = .inl (g i : Nat) := fun z => e (hg i n hi (Nat.lt_succ_self n) (Int.ofNat.inj (Sum.inl.inj z)).symm)
      rw [if_neg this]
      exact dcK_val g n (fun a b ha hb => hg a b (by omega) (by omega)) i (by omega)
theorem MetOk.inj {n : Nat} {gs : List Nat} {dead : Nat} {met : List Nat} (h : MetOk n gs dead met) {i j : Nat} (hi : i < met.length) (hj : j < met.length) (e : grp gs (met.getD i 0) = grp gs (met.getD j 0)) : i = j := by
  have hp := List.pairwise_iff_getElem.mp h.one
  have g : ∀ k, (hk : k < met.length) → met.getD k 0 = met[k] := fun k hk => getD_of 0 (List.getElem?_eq_getElem hk)
  rw [g i hi, g j hj] at e
  rcases Nat.lt_trichotomy i j with q | q | q
  · exact absurd e (hp i j hi hj q)
  · exact q
  · exact absurd e.symm (hp j i hj hi q)
/-- a seen group's place among the rows met -/
theorem MetOk.ix {n : Nat} {gs : List Nat} {dead : Nat} {met : List Nat} (h : MetOk n gs dead met) {z : Nat} (hs : seenG gs dead met z = true) (hd : ¬ z = dead) : ixk z (met.map (grp gs)) < met.length ∧ grp gs (met.getD (ixk z (met.map (grp gs))) 0) = z := by
  obtain ⟨m, h1, h2⟩ := (seenG_true.mp hs).resolve_left hd
  have hm : z ∈ met.map (grp gs) := List.mem_map.mpr ⟨m, h1, h2⟩
  have hl := ixk_lt hm
  rw [List.length_map] at hl
  have hg := ixk_get hm
  rw [List.getElem?_map, getD_get 0 hl] at hg
  exact ⟨hl, Option.some.inj hg⟩
/-- the dict of least -/
def leastK (t : Tbl) : List (Key × D) := putD (dcK (fun i => .inl (grp (grpT t) ((metT t).getD i 0) : Nat)) (fun i => natD i) (metT t).length) (.inl (deadT t : Nat)) .non
theorem metT_ok {t : Tbl} (ht : t.Ok) : MetOk (closed t).length (grpT t) (deadT t) (metT t) := metG_ok (closed_ok ht) _ _
theorem leastK_val {t : Tbl} (ht : t.Ok) {z : Nat} (hs : seenG (grpT t) (deadT t) (metT t) z = true) : valD (leastK t) (.inl (z : Nat)) = some (optN (if z = deadT t then none else some (ixk z ((metT t).map (grp (grpT t)))))) := by
  unfold leastK
  rw [valD_put]
  by_cases hd : z = deadT t
  · rw [if_pos hd, if_pos (by rw [hd])]
    rfl
  · have hq : ¬ (Sum.inl ((deadT t : Nat) : Int) : Key) = .inl (z : Nat) := fun q => hd (Int.ofNat.inj (Sum.inl.inj q)).symm
    rw [if_neg hd, if_neg hq]
    obtain ⟨h1, h2⟩ := (metT_ok ht).ix hs hd
    have := dcK_val (fun i => grp (grpT t) ((metT t).getD i 0)) (metT t).length (fun i j hi hj e => (metT_ok ht).inj hi hj e) _ h1
    rw [h2] at this
    exact this
/-! ### tables by their data -/
theorem optI_inj {a b : Option Int} (h : optI a = optI b) : a = b := by
  cases a <;> cases b <;> first | rfl | cases h
  rfl
theorem optN_inj {a b : Option Nat} (h : optN a = optN b) : a = b := by
  cases a <;> cases b <;> first | rfl | cases h
  rfl
theorem map_inj1 {α β : Type} {f : α → β} (hf : ∀ a b, f a = f b → a = b) : ∀ {xs ys : List α}, xs.map f = ys.map f → xs = ys
  | [], [], _ => rfl
  | [], _ :: _, h => by cases h
  | _ :: _, [], h => by cases h
  | x :: xs, y :: ys, h => by
    rw [List.map_cons, List.map_cons] at h
    injection h with h1 h2
    rw [hf _ _ h1, map_inj1 hf h2]
theorem rowD_inj {a b : Row} (h : rowD a = rowD b) : a = b := by
  obtain ⟨a1, a2⟩ := a
  obtain ⟨b1, b2⟩ := b
  unfold rowD at h
  injection h with h
  injection h with h1 h
  injection h with h2 _
  injection h2 with h2
  have h1 : a1 = b1 := optI_inj h1
  have h2 : a2 = b2 := map_inj1 (fun _ _ => optN_inj) h2
  rw [h1, h2]
theorem tblD_inj {a b : Tbl} (h : tblD a = tblD b) : a = b := by
  obtain ⟨a1, a2⟩ := a
  obtain ⟨b1, b2⟩ := b
  unfold tblD at h
  injection h with h
  injection h with h1 h
  injection h with h2 _
  injection h1 with h1
  injection h2 with h2
  have h1 : a1 = b1 := h1
  have h2 : a2 = b2 := map_inj1 (fun _ _ => rowD_inj) h2
  rw [h1, h2]
end Ab
namespace Ab
open PySem PySem.Spec PyProof.Rows L2
theorem AL.eq {K : PySem.W.Frag} {t : TA} {e : Env} {as bs : List A} (h : AL K t e as) (q : as = bs) : AL K t e bs := q ▸ h
theorem ixNN {n i : Nat} (h : i < n) : L2.ixN n (i : Nat) = some i := by
  unfold L2.ixN
  rw [if_pos (by omega), if_pos (by omega)]
  rfl
/-! ### busy rows -/
inductive Busy (t : Tbl) : Nat → Prop
  | told {i : Nat} {r : Row} {v : Int} : t.rows[i]? = some r → r.1 = some v → Busy t i
  | way {i j : Nat} {r : Row} : t.rows[i]? = some r → some j ∈ r.2 → Busy t j → Busy t i
noncomputable def busyB (t : Tbl) (i : Nat) : Bool := @decide (Busy t i) (Classical.propDecidable _)
theorem busyB_true {t : Tbl} {i : Nat} : busyB t i = true ↔ Busy t i := @decide_eq_true_iff _ (Classical.propDecidable _)
noncomputable def busyL (t : Tbl) : List Bool := (List.range t.rows.length).map (busyB t)
structure BInv (t : Tbl) (b : List Bool) : Prop where
  len : b.length = t.rows.length
  snd : ∀ i, b[i]? = some true → Busy t i
  tol : ∀ (i : Nat) (r : Row) (v : Int), t.rows[i]? = some r → r.1 = some v → b[i]? = some true
def BCl (t : Tbl) (b : List Bool) (k : Nat) : Prop := ∀ (r : Row), t.rows[k]? = some r → ∀ w : Nat, some w ∈ r.2 → b[w]? = some true → b[k]? = some true
theorem BInv.eq {t : Tbl} (ht : t.Ok) {b : List Bool} (h : BInv t b) (c : ∀ k, k < t.rows.length → BCl t b k) : b = busyL t := by
  have all : ∀ i, Busy t i → b[i]? = some true := fun i hb => by
    induction hb with
    | told h1 h2 => exact h.tol _ _ _ h1 h2
    | way h1 h2 _ ih => exact c _ (List.getElem?_eq_some_iff.mp h1).1 _ h1 _ h2 ih
  refine List.ext_getElem? fun i => ?_
  unfold busyL
  by_cases hi : i < t.rows.length
  · have hb : i < b.length := by rw [h.len]; exact hi
    rw [List.getElem?_map, List.getElem?_range hi]
    show _ = some (busyB t i)
    cases hv : busyB t i with
    | true => exact all i (busyB_true.mp hv)
    | false =>
      rw [List.getElem?_eq_getElem hb]
      cases hq : b[i] with
      | false => rfl
      | true =>
        have := busyB_true.mpr (h.snd i (by rw [List.getElem?_eq_getElem hb, hq]))
        rw [hv] at this
        cases this
  · rw [List.getElem?_eq_none (by rw [h.len]; omega), List.getElem?_eq_none (by rw [List.length_map, List.length_range]; omega)]
def cntF : List Bool → Nat
  | [] => 0
  | true :: r => cntF r
  | false :: r => cntF r + 1
theorem cntF_set : ∀ {b : List Bool} {k : Nat}, b[k]? = some false → cntF (b.set k true) + 1 = cntF b
  | false :: r, 0, _ => rfl
  | true :: r, 0, h => by cases h
  | false :: r, k + 1, h => by
    show cntF (r.set k true) + 1 + 1 = cntF r + 1
    rw [cntF_set (b := r) (k := k) h]
  | true :: r, k + 1, h => cntF_set (b := r) (k := k) h
theorem BInv.set {t : Tbl} {b : List Bool} (h : BInv t b) {k : Nat} (hk : Busy t k) : BInv t (b.set k true) where
  len := by rw [List.length_set]; exact h.len
  snd := fun i hi => by
    by_cases e : k = i
    · rw [← e]; exact hk
    · rw [List.getElem?_set_ne e] at hi
      exact h.snd i hi
  tol := fun i r v h1 h2 => by
    have := h.tol i r v h1 h2
    by_cases e : k = i
    · subst e
      rw [List.getElem?_set_self (List.getElem?_eq_some_iff.mp this).1]
    · rw [List.getElem?_set_ne e]
      exact this
theorem busyB_get {t : Tbl} {b : List Bool} (h : BInv t b) {i : Nat} (hi : i < t.rows.length) : b[i]? = some (b.getD i false) := getD_get false (by rw [h.len]; exact hi)
/-! ### rows met as they stand -/
theorem grp_range {n w : Nat} (h : w < n) : grp (List.range n) w = w := getD_of 0 (List.getElem?_range h)
def idG (n : Nat) : List Nat := List.range (n + 1)
theorem seen_id {n : Nat} {met : List Nat} (hm : ∀ m ∈ met, m < n + 1) {w : Nat} : seenG (idG n) n met w = true ↔ w = n ∨ w ∈ met := by
  rw [seenG_true]
  refine or_congr Iff.rfl ⟨fun ⟨m, h1, h2⟩ => ?_, fun h => ⟨w, h, grp_range (hm w h)⟩⟩
  rw [show grp (idG n) m = m from grp_range (hm m h1)] at h2
  rw [← h2]
  exact h1
def metI (t : Tbl) (k : Nat) : List Nat := metK (closed t) (idG t.rows.length) t.rows.length k
theorem waysC_row {t : Tbl} {m : Nat} {r : Row} (h : t.rows[m]? = some r) : waysC (closed t) m = r.2.map fun w => w.getD t.rows.length := by
  unfold waysC closed
  have hm := (List.getElem?_eq_some_iff.mp h).1
  rw [List.getD_eq_getElem?_getD, List.getElem?_append_left (by rw [List.length_map]; exact hm), List.getElem?_map, h]
  rfl
theorem metI_ok {t : Tbl} (ht : t.Ok) (k : Nat) : MetOk (t.rows.length + 1) (idG t.rows.length) t.rows.length (metI t k) := by
  have := metK_ok (closed_ok ht) (idG t.rows.length) t.rows.length k
  rw [closed_len] at this
  exact this
/-- among the rows met none is nowhere -/
theorem met_lt {n : Nat} (hn : 0 < n) {met : List Nat} (h : MetOk (n + 1) (idG n) n met) : ∀ m ∈ met, m < n := fun m hm => by
  have h1 := h.ins m hm
  obtain ⟨r, rfl, hr⟩ := h.hd
  rcases List.mem_cons.mp hm with rfl | hm
  · exact hn
  · have := hr m hm
    rw [show grp (idG n) m = m from grp_range h1] at this
    omega
end Ab
namespace Ab
open PySem PySem.Spec PyProof.Rows L2
/-! ### what the groups say -/
def toldC (rs : List CRow) (m : Nat) : Option Int := (rs.getD m (none, [])).1
theorem grp_of {gs : List Nat} {i x : Nat} (h : gs[i]? = some x) : grp gs i = x := getD_of 0 h
theorem mark_eq {gs : List Nat} {i j : Nat} {v w : List Nat} : markC gs i v = markC gs j w ↔ grp gs i = grp gs j ∧ v.map (grp gs) = w.map (grp gs) := by
  unfold markC
  constructor
  · intro h
    have h := map_inj1 (fun a b e => Int.ofNat.inj e) h
    exact ⟨(List.cons.inj h).1, (List.cons.inj h).2⟩
  · rintro ⟨h1, h2⟩
    have h1 : gs.getD i 0 = gs.getD j 0 := h1
    have h2 : v.map (fun w => gs.getD w 0) = w.map (fun w => gs.getD w 0) := h2
    rw [h1, h2]
theorem grpC_eq0 {rs : List CRow} {i j : Nat} (hi : i < rs.length) (hj : j < rs.length) : grp (grpC rs 0) i = grp (grpC rs 0) j ↔ toldC rs i = toldC rs j := by
  have h1 : (rs.map fun r => r.1)[i]? = some (toldC rs i) := by rw [List.getElem?_map, getD_get (none, []) hi]; rfl
  have h2 : (rs.map fun r => r.1)[j]? = some (toldC rs j) := by rw [List.getElem?_map, getD_get (none, []) hj]; rfl
  exact numK_eq h1 h2
theorem grpC_eqS {rs : List CRow} (k : Nat) {i j : Nat} (hi : i < rs.length) (hj : j < rs.length) : grp (grpC rs (k + 1)) i = grp (grpC rs (k + 1)) j ↔ grp (grpC rs k) i = grp (grpC rs k) j ∧ (waysC rs i).map (grp (grpC rs k)) = (waysC rs j).map (grp (grpC rs k)) :=
  (numK_eq (marksC_get _ hi) (marksC_get _ hj)).trans mark_eq
theorem grpC_down {rs : List CRow} {i j : Nat} (hi : i < rs.length) (hj : j < rs.length) : ∀ {a b : Nat}, a ≤ b → grp (grpC rs b) i = grp (grpC rs b) j → grp (grpC rs a) i = grp (grpC rs a) j
  | a, 0, h, e => by
    obtain rfl : a = 0 := by omega
    exact e
  | a, b + 1, h, e => by
    by_cases q : a = b + 1
    · rw [q]; exact e
    · exact grpC_down hi hj (b := b) (by omega) ((grpC_eqS b hi hj).mp e).1
theorem grps_all {rs : List CRow} {i j : Nat} (hi : i < rs.length) (hj : j < rs.length) (e : grp (grpsC rs) i = grp (grpsC rs) j) (k : Nat) : grp (grpC rs k) i = grp (grpC rs k) j := by
  by_cases hk : k ≤ rs.length
  · exact grpC_down hi hj hk e
  · have : grpC rs k = grpsC rs := grpC_after (k := rs.length) (grpsC_fix rs) k (by omega)
    rw [this]
    exact e
theorem grps_told {rs : List CRow} {i j : Nat} (hi : i < rs.length) (hj : j < rs.length) (e : grp (grpsC rs) i = grp (grpsC rs) j) : toldC rs i = toldC rs j := (grpC_eq0 hi hj).mp (grps_all hi hj e 0)
theorem grps_ways {rs : List CRow} {i j : Nat} (hi : i < rs.length) (hj : j < rs.length) (e : grp (grpsC rs) i = grp (grpsC rs) j) : (waysC rs i).map (grp (grpsC rs)) = (waysC rs j).map (grp (grpsC rs)) := by
  have h := grps_all hi hj e (rs.length + 1)
  exact ((grpC_eqS rs.length hi hj).mp h).2
/-! ### the rows of the table and nowhere -/
section
variable {t : Tbl} (ht : t.Ok)
theorem told_row {m : Nat} {r : Row} (h : t.rows[m]? = some r) : toldC (closed t) m = r.1 := by
  unfold toldC closed
  have hm := (List.getElem?_eq_some_iff.mp h).1
  rw [List.getD_eq_getElem?_getD, List.getElem?_append_left (by rw [List.length_map]; exact hm), List.getElem?_map, h]
  rfl
theorem row_none : (closed t)[t.rows.length]? = some (none, List.replicate t.signs.length t.rows.length) := by
  unfold closed
  rw [List.getElem?_append_right (by rw [List.length_map]; exact Nat.le_refl _), List.length_map, Nat.sub_self]
  rfl
theorem toldC_none : toldC (closed t) t.rows.length = none := by
  unfold toldC
  rw [getD_of (none, []) row_none]
theorem ways_none : waysC (closed t) t.rows.length = List.replicate t.signs.length t.rows.length := by
  unfold waysC
  rw [getD_of (none, []) row_none]
include ht
theorem ways_len {m : Nat} (h : m < (closed t).length) : (waysC (closed t) m).length = t.signs.length := by
  rw [closed_len] at h
  by_cases e : m = t.rows.length
  · rw [e, ways_none, List.length_replicate]
  · have hr := getD_get (xs := t.rows) (none, []) (show m < t.rows.length by omega)
    rw [waysC_row hr, List.length_map]
    exact ht.wid _ (List.mem_of_getElem? hr)
/-- a row is busy where its group is not nowhere's -/
theorem busy_grp {m : Nat} (hb : Busy t m) : ¬ grp (grpT t) m = deadT t := by
  have hn : t.rows.length < (closed t).length := by rw [closed_len]; omega
  induction hb with
  | told h1 h2 =>
    intro e
    have hi := (List.getElem?_eq_some_iff.mp h1).1
    have := grps_told (rs := closed t) (by rw [closed_len]; omega) hn e
    rw [told_row h1, toldC_none, h2] at this
    cases this
  | @way i j r h1 h2 hb ih =>
    intro e
    have hi := (List.getElem?_eq_some_iff.mp h1).1
    have := grps_ways (rs := closed t) (by rw [closed_len]; omega) hn e
    rw [waysC_row h1, ways_none, List.map_map] at this
    obtain ⟨c, hc⟩ := List.mem_iff_getElem?.mp h2
    have q := congrArg (fun l => l[c]?) this
    have hcl := (List.getElem?_eq_some_iff.mp hc).1
    rw [ht.wid _ (List.mem_of_getElem? h1)] at hcl
    have q : ((r.2.map (grp (grpsC (closed t)) ∘ fun w => w.getD t.rows.length))[c]?) = ((List.replicate t.signs.length t.rows.length).map (grp (grpsC (closed t))))[c]? := q
    rw [List.getElem?_map, List.getElem?_map, hc, List.getElem?_replicate_of_lt hcl] at q
    exact ih (Option.some.inj q)
theorem idle_grp {m : Nat} (hm : m < t.rows.length) (hb : ¬ Busy t m) : ∀ k, grp (grpC (closed t) k) m = grp (grpC (closed t) k) t.rows.length := by
  have hn : t.rows.length < (closed t).length := by rw [closed_len]; omega
  have hm' : m < (closed t).length := by rw [closed_len]; omega
  intro k
  induction k generalizing m with
  | zero =>
    refine (grpC_eq0 hm' hn).mpr ?_
    have hr := getD_get (xs := t.rows) (none, []) hm
    rw [told_row hr, toldC_none]
    cases h : (t.rows.getD m (none, [])).1 with
    | none => rfl
    | some v => exact absurd (.told hr h) hb
  | succ k ih =>
    refine (grpC_eqS k hm' hn).mpr ⟨ih hm hb hm', ?_⟩
    have hr := getD_get (xs := t.rows) (none, []) hm
    rw [waysC_row hr, ways_none, List.map_map]
    refine List.ext_getElem? fun c => ?_
    rw [List.getElem?_map, List.getElem?_map]
    have hl := ht.wid _ (List.mem_of_getElem? hr)
    by_cases hc : c < t.signs.length
    · rw [List.getElem?_replicate_of_lt hc, List.getElem?_eq_getElem (by rw [hl]; exact hc)]
      show some _ = some _
      congr 1
      show grp (grpC (closed t) k) (((t.rows.getD m (none, [])).2[c]'(by rw [hl]; exact hc)).getD t.rows.length) = _
      generalize hw : ((t.rows.getD m (none, [])).2[c]'(by rw [hl]; exact hc)) = w
      have hwm : w ∈ (t.rows.getD m (none, [])).2 := by rw [← hw]; exact List.getElem_mem _
      cases w with
      | none => rfl
      | some j =>
        have hj := ht.ins _ (List.mem_of_getElem? hr) j hwm
        exact ih hj (fun z => hb (.way hr hwm z)) (show j < (closed t).length by rw [closed_len]; omega)
    · rw [List.getElem?_eq_none (by rw [hl]; omega), List.getElem?_eq_none (by rw [List.length_replicate]; omega)]
      rfl
theorem busy_iff {m : Nat} (hm : m < t.rows.length) : Busy t m ↔ ¬ grp (grpT t) m = deadT t :=
  ⟨busy_grp ht, fun h => Classical.byContradiction fun z => h (idle_grp ht hm z _)⟩
theorem metT_lt : ∀ m ∈ metT t, m < t.rows.length := fun m hm => by
  have mo := metT_ok ht
  have h1 := mo.ins m hm
  rw [closed_len] at h1
  obtain ⟨r, e, hr⟩ := mo.hd
  have hm0 := hm
  rw [e] at hm
  rcases List.mem_cons.mp hm with rfl | hm
  · exact ht.pos
  · have := hr m hm
    by_cases q : m = t.rows.length
    · subst q
      exact absurd rfl this
    · omega
theorem leastT_rows : (leastT t).rows.length = (metT t).length := List.length_map _
theorem metT_few : (metT t).length ≤ t.rows.length := nodup_few _ _ ((metT_ok ht).one.imp fun z e => z (by rw [e])) (metT_lt ht)
theorem leastT_get {b : Nat} (hb : b < (metT t).length) : (leastT t).rows[b]? = some (leastRow (closed t) (grpT t) (deadT t) (metT t) ((metT t).getD b 0)) := by
  unfold leastT
  show (List.map _ _)[b]? = _
  rw [List.getElem?_map, getD_get 0 hb]
  rfl
/-- a way of the least table -/
def lway (t : Tbl) (w : Nat) : Option Nat := if grp (grpT t) w = deadT t then none else some (ixk (grp (grpT t) w) ((metT t).map (grp (grpT t))))
theorem leastRow_eq (m : Nat) : leastRow (closed t) (grpT t) (deadT t) (metT t) m = (toldC (closed t) m, (waysC (closed t) m).map (lway t)) := rfl
theorem lway_ok {m w : Nat} (hm : m ∈ metT t) (hw : w ∈ waysC (closed t) m) (hd : ¬ grp (grpT t) w = deadT t) : ∃ i, lway t w = some i ∧ i < (metT t).length ∧ grp (grpT t) ((metT t).getD i 0) = grp (grpT t) w := by
  have hs := metG_closed (closed_ok ht) hm w hw
  obtain ⟨h1, h2⟩ := (metT_ok ht).ix hs hd
  exact ⟨_, if_neg hd, h1, h2⟩
theorem leastT_ok : (leastT t).Ok where
  pos := by rw [leastT_rows ht]; exact (metT_ok ht).pos
  wid := fun r hr => by
    obtain ⟨m, hm, rfl⟩ := List.mem_map.mp hr
    show ((waysC (closed t) m).map _).length = t.signs.length
    rw [List.length_map]
    exact ways_len ht ((metT_ok ht).ins m hm)
  ins := fun r hr n hn => by
    obtain ⟨m, hm, rfl⟩ := List.mem_map.mp hr
    obtain ⟨w, hw, e⟩ := List.mem_map.mp hn
    rw [leastT_rows ht]
    by_cases hd : grp (grpT t) w = deadT t
    · rw [if_pos hd] at e
      cases e
    · obtain ⟨i, h1, h2, _⟩ := lway_ok ht hm hw hd
      have e : lway t w = some n := e
      rw [h1] at e
      cases e
      exact h2
  few := ht.few
  many := by
    rw [leastT_rows ht]
    have := metT_few ht
    have := ht.many
    omega
  lt := ht.lt
end
end Ab
namespace Ab
open PySem PySem.Spec PyProof.Rows L2
/-! ### rows that lead alike -/
def SimT (t u : Tbl) (Rel : Nat → Nat → Prop) : Prop := ∀ a b, Rel a b → ∃ ra rb, t.rows[a]? = some ra ∧ u.rows[b]? = some rb ∧ ra.1 = rb.1 ∧ ra.2.length = rb.2.length ∧
  ∀ (c : Nat) (x y : Option Nat), ra.2[c]? = some x → rb.2[c]? = some y → ((∃ m, x = some m ∧ Busy t m) ↔ y.isSome = true) ∧ ∀ m n, x = some m → y = some n → Rel m n
theorem SimT.busy {t u : Tbl} {Rel : Nat → Nat → Prop} (h : SimT t u Rel) {a b : Nat} (hb : Busy t a) (r : Rel a b) : Busy u b := by
  induction hb generalizing b with
  | told h1 h2 =>
    obtain ⟨ra, rb, q1, q2, q3, _⟩ := h _ _ r
    rw [h1] at q1
    cases q1
    exact .told q2 (by rw [← q3]; exact h2)
  | @way i j ro h1 h2 hb ih =>
    obtain ⟨ra, rb, q1, q2, q3, q4, q5⟩ := h _ _ r
    rw [h1] at q1
    cases q1
    obtain ⟨c, hc⟩ := List.mem_iff_getElem?.mp h2
    have hcl : c < rb.2.length := by rw [← q4]; exact (List.getElem?_eq_some_iff.mp hc).1
    have hy := List.getElem?_eq_getElem hcl
    obtain ⟨p1, p2⟩ := q5 c _ _ hc hy
    have := p1.mp ⟨j, rfl, hb⟩
    generalize rb.2[c] = y at hy this p2
    cases y with
    | none => cases this
    | some n => exact .way q2 (List.mem_of_getElem? hy) (ih (p2 j n rfl rfl))
section
variable {t : Tbl} (ht : t.Ok)
def RelT (t : Tbl) (a b : Nat) : Prop := a < t.rows.length ∧ b < (metT t).length ∧ grp (grpT t) a = grp (grpT t) ((metT t).getD b 0)
include ht
theorem met_at {b : Nat} (hb : b < (metT t).length) : (metT t).getD b 0 ∈ metT t := List.mem_of_getElem? (getD_get 0 hb)
theorem lt_cl {a : Nat} (h : a < t.rows.length) : a < (closed t).length := by rw [closed_len]; omega
theorem simT : SimT t (leastT t) (RelT t) := by
  rintro a b ⟨ha, hb, e⟩
  have hm := met_at ht hb
  have hmn := metT_lt ht _ hm
  have hr := getD_get (xs := t.rows) (none, []) ha
  have hwl := ways_len ht (lt_cl ht hmn)
  have hral := ht.wid _ (List.mem_of_getElem? hr)
  refine ⟨_, _, hr, leastT_get ht hb, ?_, ?_, ?_⟩
  · rw [leastRow_eq ht, ← told_row hr]
    exact grps_told (lt_cl ht ha) (lt_cl ht hmn) e
  · rw [leastRow_eq ht]
    show _ = ((waysC _ _).map _).length
    rw [List.length_map, hwl, hral]
  · intro c x y hx hy
    rw [leastRow_eq ht] at hy
    have hy : ((waysC (closed t) ((metT t).getD b 0)).map (lway t))[c]? = some y := hy
    rw [List.getElem?_map] at hy
    have hw := grps_ways (lt_cl ht ha) (lt_cl ht hmn) e
    have hwc := congrArg (fun l => l[c]?) hw
    have hwc : ((waysC (closed t) a).map (grp (grpsC (closed t))))[c]? = ((waysC (closed t) ((metT t).getD b 0)).map (grp (grpsC (closed t))))[c]? := hwc
    rw [List.getElem?_map, List.getElem?_map, waysC_row hr, List.getElem?_map, hx] at hwc
    cases hq : (waysC (closed t) ((metT t).getD b 0))[c]? with
    | none =>
      rw [hq] at hy
      cases hy
    | some w =>
      rw [hq] at hy hwc
      have hy : lway t w = y := Option.some.inj hy
      have hg : grp (grpT t) (x.getD t.rows.length) = grp (grpT t) w := Option.some.inj hwc
      subst hy
      by_cases hd : grp (grpT t) w = deadT t
      · have e0 : lway t w = none := if_pos hd
        rw [e0]
        refine ⟨⟨?_, fun h => (by cases h)⟩, fun m n _ h => (by cases h)⟩
        rintro ⟨m, rfl, hbm⟩
        exact absurd (hg.trans hd) (busy_grp ht hbm)
      · obtain ⟨i, h1, h2, h3⟩ := lway_ok ht hm (List.mem_of_getElem? hq) hd
        rw [h1]
        cases x with
        | none => exact absurd hg.symm hd
        | some j =>
          have hj := ht.ins _ (List.mem_of_getElem? hr) j (List.mem_of_getElem? hx)
          have hg : grp (grpT t) j = grp (grpT t) w := hg
          refine ⟨⟨fun _ => rfl, fun _ => ⟨j, rfl, (busy_iff ht hj).mpr (by rw [hg]; exact hd)⟩⟩, ?_⟩
          rintro m n ⟨⟩ ⟨⟩
          exact ⟨hj, h2, hg.trans h3.symm⟩
theorem relT0 : RelT t 0 0 := by
  have mo := metT_ok ht
  obtain ⟨r, e, _⟩ := mo.hd
  refine ⟨ht.pos, mo.pos, ?_⟩
  rw [e]
  rfl
theorem least_busyAt {b : Nat} (hb : b < (metT t).length) (hd : ¬ grp (grpT t) ((metT t).getD b 0) = deadT t) : Busy (leastT t) b :=
  (simT ht).busy ((busy_iff ht (metT_lt ht _ (met_at ht hb))).mpr hd) ⟨metT_lt ht _ (met_at ht hb), hb, rfl⟩
theorem least_busy {b : Nat} (hb : b + 1 < (metT t).length) : Busy (leastT t) (b + 1) := by
  refine least_busyAt ht hb ?_
  obtain ⟨r, e, hr⟩ := (metT_ok ht).hd
  rw [e] at hb ⊢
  rw [List.getD_cons_succ]
  exact hr _ (List.mem_of_getElem? (getD_get 0 (by rw [List.length_cons] at hb; omega)))
theorem least_wayBusy {r : Row} {n : Nat} (hr : r ∈ (leastT t).rows) (hn : some n ∈ r.2) : Busy (leastT t) n := by
  obtain ⟨m, hm, rfl⟩ := List.mem_map.mp hr
  obtain ⟨w, hw, e⟩ := List.mem_map.mp hn
  by_cases hd : grp (grpT t) w = deadT t
  · rw [if_pos hd] at e
    cases e
  · obtain ⟨i, h1, h2, h3⟩ := lway_ok ht hm hw hd
    have e : lway t w = some n := e
    rw [h1] at e
    cases e
    exact least_busyAt ht h2 (by rw [h3]; exact hd)
/-! ### numbered as they are met -/
theorem bfs_one {M : List Nat} {w : Nat} (hp : addG (grpT t) (deadT t) M w <+: metT t) : addG (idG (metT t).length) (metT t).length (List.range M.length) ((lway t w).getD (metT t).length) = List.range (addG (grpT t) (deadT t) M w).length := by
  have mo := metT_ok ht
  have hMp : M <+: metT t := (addG_pre _ _ M w).trans hp
  have hMl := hMp.length_le
  have hin : ∀ m ∈ List.range M.length, m < (metT t).length + 1 := fun m hm => by have := List.mem_range.mp hm; omega
  by_cases hd : grp (grpT t) w = deadT t
  · have e0 : lway t w = none := if_pos hd
    have e1 : addG (grpT t) (deadT t) M w = M := if_pos (seenG_true.mpr (.inl hd))
    rw [e0, e1]
    exact if_pos (seenG_true.mpr (.inl (grp_range (Nat.lt_succ_self _))))
  · by_cases hs : seenG (grpT t) (deadT t) M (grp (grpT t) w) = true
    · have e1 : addG (grpT t) (deadT t) M w = M := if_pos hs
      obtain ⟨h1, h2⟩ := mo.ix (seenG_pre hMp hs) hd
      obtain ⟨m, hm, q⟩ := (seenG_true.mp hs).resolve_left hd
      obtain ⟨p, hpm⟩ := List.mem_iff_getElem?.mp hm
      have hpl := (List.getElem?_eq_some_iff.mp hpm).1
      have e2 : (metT t).getD p 0 = m := by rw [getD_pre hMp hpl, getD_of 0 hpm]
      have e3 := mo.inj h1 (show p < (metT t).length by omega) (by rw [h2, e2, q])
      have e0 : lway t w = some (ixk (grp (grpT t) w) ((metT t).map (grp (grpT t)))) := if_neg hd
      rw [e1, e0]
      refine if_pos ?_
      show seenG _ _ _ (grp (idG (metT t).length) (ixk (grp (grpT t) w) ((metT t).map (grp (grpT t))))) = true
      rw [show grp (idG (metT t).length) (ixk (grp (grpT t) w) ((metT t).map (grp (grpT t)))) = ixk (grp (grpT t) w) ((metT t).map (grp (grpT t))) from grp_range (by omega)]
      exact (seen_id hin).mpr (.inr (List.mem_range.mpr (by omega)))
    · have e1 : addG (grpT t) (deadT t) M w = M ++ [w] := if_neg hs
      rw [e1] at hp ⊢
      have hpl := hp.length_le
      rw [List.length_append] at hpl
      have hpl : M.length + 1 ≤ (metT t).length := hpl
      have e2 : (metT t).getD M.length 0 = w := by
        rw [getD_pre hp (by rw [List.length_append]; exact Nat.lt_succ_self _)]
        exact getD_of 0 (by rw [List.getElem?_append_right (Nat.le_refl _), Nat.sub_self]; rfl)
      have hwm : w ∈ metT t := by rw [← e2]; exact met_at ht (by omega)
      obtain ⟨h1, h2⟩ := mo.ix (seenG_true.mpr (.inr ⟨w, hwm, rfl⟩)) hd
      have e3 := mo.inj h1 (show M.length < (metT t).length by omega) (by rw [h2, e2])
      have e0 : lway t w = some (ixk (grp (grpT t) w) ((metT t).map (grp (grpT t)))) := if_neg hd
      rw [e0, e3, List.length_append]
      show addG _ _ _ M.length = List.range (M.length + 1)
      rw [List.range_succ]
      refine if_neg fun z => ?_
      rw [show grp (idG (metT t).length) M.length = M.length from grp_range (by omega)] at z
      rcases (seen_id hin).mp z with z | z
      · omega
      · exact absurd (List.mem_range.mp z) (Nat.lt_irrefl _)
theorem bfs_fold : ∀ (ws M : List Nat), ws.foldl (addG (grpT t) (deadT t)) M <+: metT t → (ws.map fun w => (lway t w).getD (metT t).length).foldl (addG (idG (metT t).length) (metT t).length) (List.range M.length) = List.range (ws.foldl (addG (grpT t) (deadT t)) M).length
  | [], M, _ => rfl
  | w :: ws, M, h => by
    have h : ws.foldl (addG (grpT t) (deadT t)) (addG (grpT t) (deadT t) M w) <+: metT t := h
    show (ws.map _).foldl _ (addG _ _ (List.range M.length) ((lway t w).getD (metT t).length)) = _
    rw [bfs_one ht ((foldG_pre _ _ ws _).trans h)]
    exact bfs_fold ws _ h
theorem bfs : ∀ k, k ≤ (closed t).length → metI (leastT t) k = List.range (metK (closed t) (grpT t) (deadT t) k).length
  | 0, _ => rfl
  | k + 1, hk => by
    have ih := bfs k (by omega)
    have hN := leastT_rows ht
    have hpre : metK (closed t) (grpT t) (deadT t) k <+: metT t := metG_pre _ _ _ k (by omega)
    have hpl := hpre.length_le
    have hil : (metI (leastT t) k).length = (metK (closed t) (grpT t) (deadT t) k).length := by rw [ih, List.length_range]
    by_cases hlt : k < (metK (closed t) (grpT t) (deadT t) k).length
    · have e1 : metI (leastT t) (k + 1) = stepG (closed (leastT t)) (idG (leastT t).rows.length) (leastT t).rows.length k (metI (leastT t) k) := if_pos (show k < (metI (leastT t) k).length by omega)
      have e2 : metK (closed t) (grpT t) (deadT t) (k + 1) = stepG (closed t) (grpT t) (deadT t) k (metK (closed t) (grpT t) (deadT t) k) := if_pos hlt
      have hp2 : metK (closed t) (grpT t) (deadT t) (k + 1) <+: metT t := metG_pre _ _ _ (k + 1) hk
      rw [e1, e2, ih]
      rw [e2] at hp2
      unfold stepG at hp2 ⊢
      have e3 : (List.range (metK (closed t) (grpT t) (deadT t) k).length).getD k 0 = k := getD_of 0 (List.getElem?_range hlt)
      have e4 : (metK (closed t) (grpT t) (deadT t) k).getD k 0 = (metT t).getD k 0 := (getD_pre hpre hlt).symm
      have hrow := leastT_get ht (show k < (metT t).length by omega)
      rw [e3, waysC_row hrow, leastRow_eq ht, hN, ← e4, List.map_map]
      exact bfs_fold ht _ _ hp2
    · have e1 : metI (leastT t) (k + 1) = metI (leastT t) k := if_neg (show ¬ k < (metI (leastT t) k).length by omega)
      have e2 : metK (closed t) (grpT t) (deadT t) (k + 1) = metK (closed t) (grpT t) (deadT t) k := if_neg hlt
      rw [e1, e2, ih]
theorem least_numbered : metG (closed (leastT t)) (idG (leastT t).rows.length) (leastT t).rows.length = List.range (leastT t).rows.length := by
  have hN := leastT_rows ht
  have hf := metT_few ht
  have hcl := closed_len t
  have h1 : metG (closed (leastT t)) (idG (leastT t).rows.length) (leastT t).rows.length = metI (leastT t) ((leastT t).rows.length + 1) := by
    unfold metG
    rw [closed_len]
    rfl
  have hle : ∀ k, k ≤ (closed t).length → (metK (closed t) (grpT t) (deadT t) k).length ≤ (metT t).length := fun k hk => (metG_pre _ _ _ k hk).length_le
  have h2 : metT t = metK (closed t) (grpT t) (deadT t) (metT t).length := metK_stop (hle _ (by omega)) (by omega)
  have h3 : metK (closed t) (grpT t) (deadT t) ((metT t).length + 1) = metK (closed t) (grpT t) (deadT t) (metT t).length := metK_stop (hle _ (by omega)) (by omega)
  rw [h1, hN, bfs ht _ (by omega), h3, ← h2]
/-! ### no two rows alike -/
theorem discrete (E : Nat → Nat → Prop) (hE : ∀ i j, i < (metT t).length → j < (metT t).length → E i j → ∃ ri rj, (leastT t).rows[i]? = some ri ∧ (leastT t).rows[j]? = some rj ∧ ri.1 = rj.1 ∧
    ∀ (c : Nat) (x y : Option Nat), ri.2[c]? = some x → rj.2[c]? = some y → (x = none ↔ y = none) ∧ ∀ a b, x = some a → y = some b → E a b) {i j : Nat} (hi : i < (metT t).length) (hj : j < (metT t).length) (e : E i j) : i = j := by
  have key : ∀ k i j, i < (metT t).length → j < (metT t).length → E i j → grp (grpC (closed t) k) ((metT t).getD i 0) = grp (grpC (closed t) k) ((metT t).getD j 0) := by
    intro k
    induction k with
    | zero =>
      intro i j hi hj e
      obtain ⟨ri, rj, h1, h2, h3, _⟩ := hE i j hi hj e
      rw [leastT_get ht hi] at h1
      rw [leastT_get ht hj] at h2
      cases h1
      cases h2
      exact (grpC_eq0 (lt_cl ht (metT_lt ht _ (met_at ht hi))) (lt_cl ht (metT_lt ht _ (met_at ht hj)))).mpr h3
    | succ k ih =>
      intro i j hi hj e
      have hmi := met_at ht hi
      have hmj := met_at ht hj
      have li := lt_cl ht (metT_lt ht _ hmi)
      have lj := lt_cl ht (metT_lt ht _ hmj)
      refine (grpC_eqS k li lj).mpr ⟨ih i j hi hj e, ?_⟩
      obtain ⟨ri, rj, h1, h2, _, h4⟩ := hE i j hi hj e
      rw [leastT_get ht hi, leastRow_eq ht] at h1
      rw [leastT_get ht hj, leastRow_eq ht] at h2
      cases h1
      cases h2
      have wi := ways_len ht li
      have wj := ways_len ht lj
      refine List.ext_getElem? fun c => ?_
      rw [List.getElem?_map, List.getElem?_map]
      by_cases hc : c < t.signs.length
      · have q1 : (waysC (closed t) ((metT t).getD i 0))[c]? = some ((waysC (closed t) ((metT t).getD i 0))[c]'(by rw [wi]; exact hc)) := List.getElem?_eq_getElem _
        have q2 : (waysC (closed t) ((metT t).getD j 0))[c]? = some ((waysC (closed t) ((metT t).getD j 0))[c]'(by rw [wj]; exact hc)) := List.getElem?_eq_getElem _
        generalize (waysC (closed t) ((metT t).getD i 0))[c]'(by rw [wi]; exact hc) = w at q1
        generalize (waysC (closed t) ((metT t).getD j 0))[c]'(by rw [wj]; exact hc) = w' at q2
        have hw := List.mem_of_getElem? q1
        have hw' := List.mem_of_getElem? q2
        have lw := waysC_in (closed_ok ht) _ w hw
        have lw' := waysC_in (closed_ok ht) _ w' hw'
        obtain ⟨p1, p2⟩ := h4 c (lway t w) (lway t w') (by show ((waysC _ _).map _)[c]? = _; rw [List.getElem?_map, q1]; rfl) (by show ((waysC _ _).map _)[c]? = _; rw [List.getElem?_map, q2]; rfl)
        rw [q1, q2]
        show some _ = some _
        congr 1
        by_cases hd : grp (grpT t) w = deadT t
        · have e0 : lway t w = none := if_pos hd
          have hd' : grp (grpT t) w' = deadT t := by
            apply Classical.byContradiction
            intro z
            obtain ⟨b, hb, _⟩ := lway_ok ht hmj hw' z
            rw [p1.mp e0] at hb
            cases hb
          exact grps_all lw lw' (hd.trans hd'.symm) k
        · have hd' : ¬ grp (grpT t) w' = deadT t := fun z => by
            have e0 : lway t w' = none := if_pos z
            obtain ⟨a, ha, _⟩ := lway_ok ht hmi hw hd
            rw [p1.mpr e0] at ha
            cases ha
          obtain ⟨a, ha, la, ga⟩ := lway_ok ht hmi hw hd
          obtain ⟨b, hb, lb, gb⟩ := lway_ok ht hmj hw' hd'
          have ma := lt_cl ht (metT_lt ht _ (met_at ht la))
          have mb := lt_cl ht (metT_lt ht _ (met_at ht lb))
          exact (grps_all lw ma ga.symm k).trans ((ih a b la lb (p2 a b ha hb)).trans (grps_all mb lw' gb k))
      · rw [List.getElem?_eq_none (by rw [wi]; omega), List.getElem?_eq_none (by rw [wj]; omega)]
  exact (metT_ok ht).inj hi hj (key _ i j hi hj e)
end
end Ab
namespace Ab
open PySem PySem.Spec PyProof.Rows L2
/-! ### the classes of a table -/
/-- the classes of a table, round by round -/
def keyL (t : Tbl) (cs : List Nat) (k : Nat) : List Int := ((cs.getD k 0 : Nat) : Int) :: (t.rows.getD k (none, [])).2.map fun w => match w with
  | none => (-1 : Int)
  | some w => ((cs.getD w 0 : Nat) : Int)
def keysL (t : Tbl) (cs : List Nat) : List (List Int) := (List.range t.rows.length).map (keyL t cs)
def clsL (t : Tbl) : Nat → List Nat
  | 0 => numK (t.rows.map (·.1))
  | k + 1 => numK (keysL t (clsL t k))
def cntL (t : Tbl) : Nat → Nat
  | 0 => 0
  | k + 1 => (uniqK ((clsL t k).map Int.ofNat)).length
theorem clsL_len (t : Tbl) : ∀ k, (clsL t k).length = t.rows.length
  | 0 => by
    show (numK _).length = _
    rw [numK_len, List.length_map]
  | k + 1 => by
    show (numK _).length = _
    unfold keysL
    rw [numK_len, List.length_map, List.length_range]
/-! ### numbering -/
section
variable {κ κ' : Type} [DecidableEq κ] [DecidableEq κ']
theorem cnt_eq (ms : List κ) (ms' : List κ') (hl : ms.length = ms'.length) (h : ∀ (i j : Nat) (a b : κ) (a' b' : κ'), ms[i]? = some a → ms[j]? = some b → ms'[i]? = some a' → ms'[j]? = some b' → (a = b ↔ a' = b')) : (uniqK ms).length = (uniqK ms').length ∧ numK ms = numK ms' := by
  obtain ⟨h1, h2⟩ := finer_len ms.length ms ms' rfl hl.symm fun i j a b a' b' q1 q2 q3 q4 => (h i j a b a' b' q1 q2 q3 q4).mp
  obtain ⟨h3, _⟩ := finer_len ms.length ms' ms hl.symm rfl fun i j a' b' a b q1 q2 q3 q4 => (h i j a b a' b' q3 q4 q1 q2).mpr
  exact ⟨Nat.le_antisymm h3 h1, h2 h3⟩
theorem numK_same (ms : List κ) : (uniqK ms).length = (uniqK (numK ms)).length ∧ numK ms = numK (numK ms) := by
  refine cnt_eq ms (numK ms) (numK_len ms).symm fun i j a b a' b' h1 h2 h3 h4 => ?_
  have e1 := numK_eq h1 h2
  rw [getD_of 0 h3, getD_of 0 h4] at e1
  exact e1.symm
theorem uniq_ints (cs : List Nat) : (uniqK (cs.map Int.ofNat)).length = (uniqK cs).length :=
  (cnt_eq _ _ (List.length_map _) fun i j a b a' b' h1 h2 h3 h4 => by
    rw [List.getElem?_map, h3] at h1
    rw [List.getElem?_map, h4] at h2
    cases h1
    cases h2
    exact ⟨fun e => Int.ofNat.inj e, fun e => by rw [e]⟩).1
theorem nodup_num : ∀ (n : Nat) (ms : List κ), ms.length = n → ms.Nodup → uniqK ms = ms ∧ numK ms = List.range ms.length
  | 0, ms, h, _ => by
    obtain rfl := List.eq_nil_of_length_eq_zero h
    exact ⟨rfl, rfl⟩
  | n + 1, ms, h, nd => by
    obtain ⟨r, m, rfl⟩ : ∃ r m, ms = r ++ [m] := ⟨ms.dropLast, ms.getLast (fun z => by rw [z] at h; cases h), (List.dropLast_concat_getLast _).symm⟩
    have hl : r.length = n := by rw [List.length_append] at h; exact Nat.succ.inj h
    obtain ⟨n1, _, n3⟩ := List.nodup_append.mp nd
    have hm : m ∉ r := fun z => n3 m z m (List.mem_singleton.mpr rfl) rfl
    obtain ⟨h1, h2⟩ := nodup_num n r hl n1
    have ea : addK (uniqK r) m = uniqK r ++ [m] := if_neg fun z => hm (uniqK_mem.mp z)
    rw [uniqK_snoc, numK_snoc, ea, ixk_new fun z => hm (uniqK_mem.mp z), h1, h2, List.length_append]
    exact ⟨rfl, List.range_succ.symm⟩
end
theorem least_nat (P : Nat → Prop) : ∀ k, P k → ∃ k, P k ∧ ∀ j, j < k → ¬ P j := by
  intro k
  induction k using Nat.strongRecOn with
  | ind k ih =>
    intro h
    by_cases q : ∃ j, j < k ∧ P j
    · obtain ⟨j, h1, h2⟩ := q
      exact ih j h1 h2
    · exact ⟨k, h, fun j hj z => q ⟨j, hj, z⟩⟩
/-! ### its fixed point -/
theorem keysL_get {t : Tbl} (cs : List Nat) {i : Nat} (h : i < t.rows.length) : (keysL t cs)[i]? = some (keyL t cs i) := by
  unfold keysL
  rw [List.getElem?_map, List.getElem?_range h]
  rfl
theorem keysL_len (t : Tbl) (cs : List Nat) : (keysL t cs).length = t.rows.length := by
  unfold keysL
  rw [List.length_map, List.length_range]
theorem keyL_head {t : Tbl} {cs : List Nat} {i j : Nat} (h : keyL t cs i = keyL t cs j) : cs.getD i 0 = cs.getD j 0 := Int.ofNat.inj (List.cons.inj h).1
theorem clsL_eqS {t : Tbl} (k : Nat) {i j : Nat} (hi : i < t.rows.length) (hj : j < t.rows.length) : (clsL t (k + 1)).getD i 0 = (clsL t (k + 1)).getD j 0 ↔ keyL t (clsL t k) i = keyL t (clsL t k) j := numK_eq (keysL_get _ hi) (keysL_get _ hj)
theorem clsL_down {t : Tbl} {i j : Nat} (hi : i < t.rows.length) (hj : j < t.rows.length) : ∀ k, (clsL t k).getD i 0 = (clsL t k).getD j 0 → (clsL t 0).getD i 0 = (clsL t 0).getD j 0
  | 0, h => h
  | k + 1, h => clsL_down hi hj k (keyL_head ((clsL_eqS k hi hj).mp h))
theorem cntL_S (t : Tbl) (k : Nat) : cntL t (k + 1) = (uniqK (clsL t k)).length := uniq_ints _
theorem clsL_stay {t : Tbl} {k : Nat} (h : cntL t (k + 2) ≤ cntL t (k + 1)) : clsL t (k + 1) = clsL t k := by
  rw [cntL_S, cntL_S] at h
  have h0 : (uniqK (clsL t (k + 1))).length = (uniqK (keysL t (clsL t k))).length := (numK_same (keysL t (clsL t k))).1.symm
  obtain ⟨_, h2⟩ := finer_len t.rows.length (keysL t (clsL t k)) (clsL t k) (keysL_len _ _) (clsL_len _ _) fun i j a b a' b' q1 q2 q3 q4 e => by
    have hi : i < t.rows.length := by rw [← keysL_len t (clsL t k)]; exact (List.getElem?_eq_some_iff.mp q1).1
    have hj : j < t.rows.length := by rw [← keysL_len t (clsL t k)]; exact (List.getElem?_eq_some_iff.mp q2).1
    rw [keysL_get _ hi] at q1
    rw [keysL_get _ hj] at q2
    cases q1
    cases q2
    have := keyL_head e
    rw [getD_of 0 q3, getD_of 0 q4] at this
    exact this
  have h3 := h2 (by rw [← h0]; exact h)
  show numK (keysL t (clsL t k)) = clsL t k
  rw [h3]
  cases k with
  | zero => exact (numK_same _).2.symm
  | succ k => exact (numK_same _).2.symm
/-- the round at which nothing is parted any more -/
theorem clsL_ends {t : Tbl} (ht : t.Ok) : ∃ k, (∀ j, j < k → cntL t j < cntL t (j + 1)) ∧ cntL t (k + 1) ≤ cntL t k ∧ clsL t (k + 1) = clsL t k := by
  have hex : ∃ k, cntL t (k + 1) ≤ cntL t k := by
    apply Classical.byContradiction
    intro hn
    have : ∀ k, k ≤ cntL t k := by
      intro k
      induction k with
      | zero => exact Nat.zero_le _
      | succ k ih =>
        have : ¬ cntL t (k + 1) ≤ cntL t k := fun z => hn ⟨k, z⟩
        omega
    have h1 := this (t.rows.length + 1)
    rw [cntL_S] at h1
    have h2 := uniqK_len (clsL t t.rows.length)
    rw [clsL_len] at h2
    omega
  obtain ⟨k0, hk0⟩ := hex
  obtain ⟨k, h1, h2⟩ := least_nat (fun k => cntL t (k + 1) ≤ cntL t k) k0 hk0
  refine ⟨k, fun j hj => by have := h2 j hj; omega, h1, ?_⟩
  cases k with
  | zero =>
    have h1 : cntL t 1 ≤ 0 := h1
    rw [cntL_S] at h1
    have hp := ht.pos
    have hl := clsL_len t 0
    have hm : (clsL t 0).getD 0 0 ∈ uniqK (clsL t 0) := uniqK_mem.mpr (List.mem_of_getElem? (getD_get 0 (by omega)))
    have := List.length_pos_of_mem hm
    omega
  | succ k =>
    have h3 := clsL_stay (k := k) h1
    show numK (keysL t (clsL t (k + 1))) = numK (keysL t (clsL t k))
    rw [h3]
section
variable {t : Tbl} (ht : t.Ok)
include ht
theorem least_classes {k : Nat} (hk : clsL (leastT t) (k + 1) = clsL (leastT t) k) : clsL (leastT t) k = List.range (leastT t).rows.length := by
  have hN := leastT_rows ht
  have hu := leastT_ok ht
  have hr : ∀ i, i < (metT t).length → ∃ r, (leastT t).rows[i]? = some r ∧ (leastT t).rows.getD i (none, []) = r := fun i hi => ⟨_, leastT_get ht hi, getD_of _ (leastT_get ht hi)⟩
  have inj : ∀ i j, i < (metT t).length → j < (metT t).length → (clsL (leastT t) k).getD i 0 = (clsL (leastT t) k).getD j 0 → i = j := fun i j hi hj e => by
    refine discrete ht (fun i j => (clsL (leastT t) k).getD i 0 = (clsL (leastT t) k).getD j 0) (fun i j hi hj e => ?_) hi hj e
    obtain ⟨ri, h1, g1⟩ := hr i hi
    obtain ⟨rj, h2, g2⟩ := hr j hj
    have hi' : i < (leastT t).rows.length := by omega
    have hj' : j < (leastT t).rows.length := by omega
    refine ⟨ri, rj, h1, h2, ?_, fun c x y hx hy => ?_⟩
    · have q1 : ((leastT t).rows.map fun r => r.1)[i]? = some ri.1 := by rw [List.getElem?_map, h1]; rfl
      have q2 : ((leastT t).rows.map fun r => r.1)[j]? = some rj.1 := by rw [List.getElem?_map, h2]; rfl
      exact (numK_eq q1 q2).mp (clsL_down hi' hj' k e)
    · have e2 : (clsL (leastT t) (k + 1)).getD i 0 = (clsL (leastT t) (k + 1)).getD j 0 := by rw [hk]; exact e
      have e3 := (List.cons.inj ((clsL_eqS k hi' hj').mp e2)).2
      rw [g1, g2] at e3
      have e4 := congrArg (fun l => l[c]?) e3
      simp only [List.getElem?_map, hx, hy, Option.map_some] at e4
      have e4 := Option.some.inj e4
      cases x with
      | none =>
        cases y with
        | none => exact ⟨Iff.rfl, fun a b h => (by cases h)⟩
        | some b =>
          have e4 : (-1 : Int) = ((clsL (leastT t) k).getD b 0 : Nat) := e4
          omega
      | some a =>
        cases y with
        | none =>
          have e4 : (((clsL (leastT t) k).getD a 0 : Nat) : Int) = -1 := e4
          omega
        | some b =>
          have e4 : (((clsL (leastT t) k).getD a 0 : Nat) : Int) = ((clsL (leastT t) k).getD b 0 : Nat) := e4
          refine ⟨⟨fun h => (by cases h), fun h => (by cases h)⟩, ?_⟩
          rintro _ _ ⟨⟩ ⟨⟩
          exact Int.ofNat.inj e4
  have hl := clsL_len (leastT t) k
  have nd : (clsL (leastT t) k).Nodup := by
    refine List.pairwise_iff_getElem.mpr fun i j hi hj hij e => ?_
    have := inj i j (by omega) (by omega) (by rw [getD_of 0 (List.getElem?_eq_getElem hi), getD_of 0 (List.getElem?_eq_getElem hj)]; exact e)
    omega
  have h1 := (nodup_num _ _ rfl nd).2
  have h2 : numK (clsL (leastT t) k) = clsL (leastT t) k := by
    rw [← hk]
    exact (numK_same (keysL (leastT t) (clsL (leastT t) k))).2.symm
  rw [h2, hl] at h1
  exact h1
/-! ### the least of the least -/
omit ht in
theorem numK_take {κ : Type} [DecidableEq κ] (a : List κ) (x : κ) (nd : a.Nodup) {i : Nat} (hi : i < a.length) : grp (numK (a ++ [x])) i = i := by
  rw [numK_snoc, (nodup_num _ a rfl nd).2]
  exact getD_of 0 (by rw [List.getElem?_append_left (by rw [List.length_range]; exact hi), List.getElem?_range hi])
theorem grp_least {i : Nat} (hi : i < (metT t).length) : grp (grpT (leastT t)) i = i := by
  have hN := leastT_rows ht
  have hu := leastT_ok ht
  have inj : ∀ i j, i < (metT t).length → j < (metT t).length → grp (grpT (leastT t)) i = grp (grpT (leastT t)) j → i = j := fun i j hi hj e => by
    refine discrete ht (fun i j => grp (grpT (leastT t)) i = grp (grpT (leastT t)) j) (fun i j hi hj e => ?_) hi hj e
    have li : i < (closed (leastT t)).length := by rw [closed_len]; omega
    have lj : j < (closed (leastT t)).length := by rw [closed_len]; omega
    obtain ⟨ri, h1⟩ : ∃ r, (leastT t).rows[i]? = some r := ⟨_, leastT_get ht hi⟩
    obtain ⟨rj, h2⟩ : ∃ r, (leastT t).rows[j]? = some r := ⟨_, leastT_get ht hj⟩
    refine ⟨ri, rj, h1, h2, ?_, fun c x y hx hy => ?_⟩
    · rw [← told_row h1, ← told_row h2]
      exact grps_told li lj e
    · have e3 := grps_ways li lj e
      rw [waysC_row h1, waysC_row h2] at e3
      have e4 := congrArg (fun l => l[c]?) e3
      simp only [List.getElem?_map, hx, hy, Option.map_some] at e4
      have e4 : grp (grpT (leastT t)) (x.getD (leastT t).rows.length) = grp (grpT (leastT t)) (y.getD (leastT t).rows.length) := Option.some.inj e4
      cases x with
      | none =>
        cases y with
        | none => exact ⟨Iff.rfl, fun a b h => (by cases h)⟩
        | some b => exact absurd e4.symm (busy_grp hu (least_wayBusy ht (List.mem_of_getElem? h2) (List.mem_of_getElem? hy)))
      | some a =>
        cases y with
        | none => exact absurd e4 (busy_grp hu (least_wayBusy ht (List.mem_of_getElem? h1) (List.mem_of_getElem? hx)))
        | some b =>
          refine ⟨⟨fun h => (by cases h), fun h => (by cases h)⟩, ?_⟩
          rintro _ _ ⟨⟩ ⟨⟩
          exact e4
  have hfix : numK (marksC (closed (leastT t)) (grpT (leastT t))) = grpT (leastT t) := grpsC_fix _
  have hml : (marksC (closed (leastT t)) (grpT (leastT t))).length = (metT t).length + 1 := by rw [marksC_len, closed_len, hN]
  have hsp : marksC (closed (leastT t)) (grpT (leastT t)) = (marksC (closed (leastT t)) (grpT (leastT t))).dropLast ++ [(marksC (closed (leastT t)) (grpT (leastT t))).getLast (fun z => by rw [z] at hml; cases hml)] := (List.dropLast_concat_getLast _).symm
  have hdl : (marksC (closed (leastT t)) (grpT (leastT t))).dropLast.length = (metT t).length := by rw [List.length_dropLast, hml]; rfl
  have nd : (marksC (closed (leastT t)) (grpT (leastT t))).dropLast.Nodup := by
    refine List.pairwise_iff_getElem.mpr fun a b ha hb hab e => ?_
    rw [hdl] at ha hb
    rw [List.getElem_dropLast, List.getElem_dropLast] at e
    have q1 := marksC_get (rs := closed (leastT t)) (grpT (leastT t)) (show a < (closed (leastT t)).length by rw [closed_len]; omega)
    have q2 := marksC_get (rs := closed (leastT t)) (grpT (leastT t)) (show b < (closed (leastT t)).length by rw [closed_len]; omega)
    rw [List.getElem?_eq_getElem (by omega)] at q1 q2
    have e := (Option.some.inj q1).symm.trans (e.trans (Option.some.inj q2))
    have := inj a b ha hb (mark_eq.mp e).1
    omega
  have := numK_take _ ((marksC (closed (leastT t)) (grpT (leastT t))).getLast (fun z => by rw [z] at hml; cases hml)) nd (i := i) (by rw [hdl]; exact hi)
  rw [← hsp, hfix] at this
  exact this
theorem least_dead {b : Nat} (hb : Busy (leastT t) b) : ¬ grp (grpT (leastT t)) b = deadT (leastT t) := busy_grp (leastT_ok ht) hb
theorem met_same : ∀ k, metK (closed (leastT t)) (grpT (leastT t)) (deadT (leastT t)) k = metI (leastT t) k ∧ ∀ m ∈ metI (leastT t) k, m < (leastT t).rows.length := by
  have hN := leastT_rows ht
  have hu := leastT_ok ht
  have one : ∀ (M : List Nat) (w : Nat), (∀ m ∈ M, m < (leastT t).rows.length) → (w = (leastT t).rows.length ∨ (w < (leastT t).rows.length ∧ Busy (leastT t) w)) →
      addG (grpT (leastT t)) (deadT (leastT t)) M w = addG (idG (leastT t).rows.length) (leastT t).rows.length M w ∧ ∀ m ∈ addG (idG (leastT t).rows.length) (leastT t).rows.length M w, m < (leastT t).rows.length := by
    intro M w hM hw
    have hM1 : ∀ m ∈ M, m < (leastT t).rows.length + 1 := fun m hm => Nat.lt_succ_of_lt (hM m hm)
    rcases hw with rfl | ⟨hw, hb⟩
    · have e1 : addG (grpT (leastT t)) (deadT (leastT t)) M (leastT t).rows.length = M := if_pos (seenG_true.mpr (.inl rfl))
      have e2 : addG (idG (leastT t).rows.length) (leastT t).rows.length M (leastT t).rows.length = M := if_pos (seenG_true.mpr (.inl (grp_range (Nat.lt_succ_self _))))
      rw [e1, e2]
      exact ⟨rfl, hM⟩
    · have g1 := grp_least ht (show w < (metT t).length by omega)
      have s1 : seenG (grpT (leastT t)) (deadT (leastT t)) M (grp (grpT (leastT t)) w) = true ↔ w ∈ M := by
        rw [seenG_true]
        constructor
        · rintro (h | ⟨m, h1, h2⟩)
          · exact absurd h (least_dead ht hb)
          · rw [g1, grp_least ht (by have := hM m h1; omega)] at h2
            exact h2 ▸ h1
        · exact fun h => .inr ⟨w, h, rfl⟩
      have s2 : seenG (idG (leastT t).rows.length) (leastT t).rows.length M (grp (idG (leastT t).rows.length) w) = true ↔ w ∈ M := by
        rw [show grp (idG (leastT t).rows.length) w = w from grp_range (by omega), seen_id hM1]
        exact ⟨fun h => h.elim (fun z => absurd z (by omega)) id, .inr⟩
      by_cases h : w ∈ M
      · rw [show addG (grpT (leastT t)) (deadT (leastT t)) M w = M from if_pos (s1.mpr h), show addG (idG (leastT t).rows.length) (leastT t).rows.length M w = M from if_pos (s2.mpr h)]
        exact ⟨rfl, hM⟩
      · rw [show addG (grpT (leastT t)) (deadT (leastT t)) M w = M ++ [w] from if_neg fun z => h (s1.mp z), show addG (idG (leastT t).rows.length) (leastT t).rows.length M w = M ++ [w] from if_neg fun z => h (s2.mp z)]
        refine ⟨rfl, fun m hm => ?_⟩
        rcases List.mem_append.mp hm with hm | hm
        · exact hM m hm
        · rw [List.mem_singleton.mp hm]
          exact hw
  have fold : ∀ (ws M : List Nat), (∀ m ∈ M, m < (leastT t).rows.length) → (∀ w ∈ ws, w = (leastT t).rows.length ∨ (w < (leastT t).rows.length ∧ Busy (leastT t) w)) →
      ws.foldl (addG (grpT (leastT t)) (deadT (leastT t))) M = ws.foldl (addG (idG (leastT t).rows.length) (leastT t).rows.length) M ∧ ∀ m ∈ ws.foldl (addG (idG (leastT t).rows.length) (leastT t).rows.length) M, m < (leastT t).rows.length := by
    intro ws
    induction ws with
    | nil => exact fun M hM _ => ⟨rfl, hM⟩
    | cons w ws ih =>
      intro M hM hw
      obtain ⟨h1, h2⟩ := one M w hM (hw w List.mem_cons_self)
      rw [List.foldl_cons, List.foldl_cons, h1]
      exact ih _ h2 fun x hx => hw x (List.mem_cons_of_mem _ hx)
  intro k
  induction k with
  | zero =>
    refine ⟨rfl, fun m hm => ?_⟩
    rw [List.mem_singleton.mp hm]
    exact hu.pos
  | succ k ih =>
    obtain ⟨h1, h2⟩ := ih
    by_cases hlt : k < (metI (leastT t) k).length
    · have e1 : metK (closed (leastT t)) (grpT (leastT t)) (deadT (leastT t)) (k + 1) = stepG (closed (leastT t)) (grpT (leastT t)) (deadT (leastT t)) k (metK (closed (leastT t)) (grpT (leastT t)) (deadT (leastT t)) k) := if_pos (by rw [h1]; exact hlt)
      have e2 : metI (leastT t) (k + 1) = stepG (closed (leastT t)) (idG (leastT t).rows.length) (leastT t).rows.length k (metI (leastT t) k) := if_pos hlt
      rw [e1, e2, h1]
      refine fold _ _ h2 fun w hw => ?_
      have hr := getD_get (xs := (leastT t).rows) (none, []) (h2 _ (List.mem_of_getElem? (getD_get 0 hlt)))
      rw [waysC_row hr] at hw
      obtain ⟨o, ho, rfl⟩ := List.mem_map.mp hw
      cases o with
      | none => exact .inl rfl
      | some b => exact .inr ⟨hu.ins _ (List.mem_of_getElem? hr) b ho, least_wayBusy ht (List.mem_of_getElem? hr) ho⟩
    · have e1 : metK (closed (leastT t)) (grpT (leastT t)) (deadT (leastT t)) (k + 1) = metK (closed (leastT t)) (grpT (leastT t)) (deadT (leastT t)) k := if_neg (by rw [h1]; exact hlt)
      have e2 : metI (leastT t) (k + 1) = metI (leastT t) k := if_neg hlt
      rw [e1, e2]
      exact ⟨h1, h2⟩
theorem metT_least : metT (leastT t) = List.range (leastT t).rows.length := by
  rw [← least_numbered ht]
  exact (met_same ht _).1
theorem least_least : leastT (leastT t) = leastT t := by
  have hN := leastT_rows ht
  have hm := metT_least ht
  have hgr : (List.range (leastT t).rows.length).map (grp (grpT (leastT t))) = List.range (leastT t).rows.length := by
    refine (List.map_congr_left fun i hi => ?_).trans (List.map_id _)
    exact grp_least ht (by have := List.mem_range.mp hi; omega)
  show (⟨(leastT t).signs, (metT (leastT t)).map _⟩ : Tbl) = leastT t
  rw [hm]
  have : (List.range (leastT t).rows.length).map (leastRow (closed (leastT t)) (grpT (leastT t)) (deadT (leastT t)) (List.range (leastT t).rows.length)) = (leastT t).rows.map id := by
    refine range_map fun i r hr => ?_
    have hi := (List.getElem?_eq_some_iff.mp hr).1
    show (toldC (closed (leastT t)) i, (waysC (closed (leastT t)) i).map _) = r
    rw [told_row hr, waysC_row hr, List.map_map, hgr]
    obtain ⟨o, ws⟩ := r
    show (o, _) = (o, ws)
    congr 1
    refine (List.map_congr_left fun w hw => ?_).trans (List.map_id _)
    cases w with
    | none => exact if_pos rfl
    | some b =>
      have hb := least_wayBusy ht (List.mem_of_getElem? hr) hw
      have hbl := (leastT_ok ht).ins _ (List.mem_of_getElem? hr) b hw
      refine (if_neg (least_dead ht hb)).trans ?_
      congr 1
      show ixk (grp (grpT (leastT t)) b) _ = b
      rw [grp_least ht (by omega)]
      have h1 := ixk_get (k := b) (ks := List.range (leastT t).rows.length) (List.mem_range.mpr hbl)
      have h2 := (List.getElem?_eq_some_iff.mp h1).1
      rw [List.length_range] at h2
      rw [List.getElem?_range h2] at h1
      exact Option.some.inj h1
  rw [this, List.map_id]
theorem least_tnat (h : ∀ r ∈ t.rows, ∀ v, r.1 = some v → 0 ≤ v) : ∀ r ∈ (leastT t).rows, ∀ v, r.1 = some v → 0 ≤ v := fun r hr v hv => by
  obtain ⟨m, hm, rfl⟩ := List.mem_map.mp hr
  have hq := getD_get (xs := t.rows) (none, []) (metT_lt ht m hm)
  have hv : toldC (closed t) m = some v := hv
  rw [told_row hq] at hv
  exact h _ (List.mem_of_getElem? hq) v hv
end
end Ab
namespace Ab
open PySem PySem.Spec PyProof.Rows L2
/-! ### the drawn table tells whole numbers -/
theorem r_told {p : TP} (h : p.Ok) (n0 : Int) : ∀ k, ∀ r ∈ (rState p n0 k).1, ∀ v, r.1 = some v → 0 ≤ v
  | 0, r, hr, _, _ => by cases hr
  | k + 1, r, hr, v, hv => by
    rcases List.mem_append.mp hr with q | q
    · exact r_told h n0 k r q v hv
    · rw [List.mem_singleton.mp q] at hv
      have hv : toldO p _ = some v := hv
      unfold toldO at hv
      split at hv
      · cases hv
      · cases hv
        refine Int.mul_nonneg ?_ h.al.1
        unfold toldV
        have hth : ∀ x ∈ thr, 0 < x := by decide
        have hst := h.st
        have hlt : p.style.toNat < thr.length := by show _ < 4; omega
        refine mod_lo _ ?_
        rw [List.getD_eq_getElem?_getD, List.getElem?_eq_getElem hlt]
        exact hth _ (List.getElem_mem hlt)
theorem tableBy_told {ns : List Int} {ls : List (List Nat)} {most : Int} (h : LetOk ls) (hm : 0 ≤ most ∧ most ≤ 40) : ∀ r ∈ (tableBy ns ls most).rows, ∀ v, r.1 = some v → 0 ≤ v := r_told (tpOf_ok (ns := ns) h hm) _ _
theorem tableBy_many {ns : List Int} {ls : List (List Nat)} {most : Int} : (tableBy ns ls most).rows.length ≤ 64 := by
  have hl : (tableBy ns ls most).rows.length = (tpMany ns).toNat := r_len _ _ _
  have hb := tpMany_b ns
  rw [hl]
  omega
/-! ### truths in a list -/
section
variable {K : PySem.W.Frag} {e : Env}
theorem RD.bls {G : Hp} : ∀ {vs : List V} {xs : List Bool}, RDs K G vs (xs.map .bl) → vs = xs.map V.bl
  | _, [], .nil => rfl
  | _, x :: r, .cons a b => by
    cases a
    rw [RD.bls b]
    rfl
theorem inV_bls (i : Bool) : ∀ ns : List Bool, inV (.bl i) (ns.map V.bl) = decide (i ∈ ns)
  | [] => by
    rw [decide_eq_false (by simp)]
    rfl
  | n :: r => by
    show (eqV (.bl n) (.bl i) || inV (.bl i) (r.map V.bl)) = _
    rw [inV_bls i r]
    have : eqV (.bl n) (.bl i) = decide (n = i) := by cases n <;> cases i <;> rfl
    rw [this, ← Bool.decide_or, decide_eq_decide, List.mem_cons]
    exact ⟨fun h => h.imp Eq.symm id, fun h => h.imp Eq.symm id⟩
theorem flat_bls : ∀ ns : List Bool, (ns.map V.bl).all flatV = true
  | [] => rfl
  | n :: r => by
    show (true && (r.map V.bl).all flatV) = true
    rw [flat_bls r]
    rfl
theorem a2_inB {neg : Bool} {i : Bool} {ns : List Bool} : A2 K (rIn K neg) (.d (.bl i)) (.d (.lst (ns.map .bl))) e (.d (.bl (if neg = true then !decide (i ∈ ns) else decide (i ∈ ns)))) := fun B σ G H ad R v w rv rw C c => by
  cases rv
  cases rw with
  | lst hq rd =>
    have e1 := RD.bls rd
    subst e1
    refine ⟨_, ns.map V.bl, rfl, .inl (.inl (.inl (R.gh _ _ hq))), rfl, flat_bls ns, ?_⟩
    rw [inV_bls]
    exact c _ G H (Xt.refl R.gh) .bl
end
theorem cutG_fromN {α : Type} (xs : List α) (n : Nat) : cutG xs (some (n : Int)) none = xs.drop n := by
  unfold cutG
  rw [HT.sIx_none, HT.sIx_nat]
  by_cases h : n ≤ xs.length
  · rw [Nat.min_eq_left h, List.take_of_length_le (by rw [List.length_drop]; exact Nat.le_refl _)]
  · rw [Nat.min_eq_right (by omega), List.drop_of_length_le (Nat.le_refl _), List.drop_of_length_le (by omega), List.take_nil]
theorem rows_good (rs : List Row) : okD (.lst (rs.map rowD)) := (Good.lst (n := 2) fun d hd => by
  obtain ⟨r, _, rfl⟩ := List.mem_map.mp hd
  exact rowD_good r).ok
end Ab
namespace Ab
open PySem PySem.Spec PyProof.Rows L2
def topS (i : Nat) : Stmt := PySem.Challenge.pw_rulescan_k09_whole_least.main.body.getD i (.Pass ⟨0, 0, 0, 0⟩)
section
variable {P : Program} {w : World} {K : PySem.W.Frag} {mg : Str → Option Value} {base : Heap}
/-! ### with_nowhere -/
abbrev s_with_nowhere : Stmt := topS 1
theorem sc_with_nowhere : FnScope ["made", "signs", "rows", "nowhere", "closed", "told", "ways", "way"] ["made"] (defScope s_with_nowhere) := ⟨rfl, rfl, rfl, by decide +kernel, rfl, by decide +kernel, by decide +kernel⟩
def R_with_nowhere (as : List A) (r : List D) : Prop := ∃ t : Tbl, as = [.d (tblD t)] ∧ t.Ok ∧ r = (closed t).map crowD
abbrev Has_with_nowhere (P : Program) (w : World) (K : PySem.W.Frag) (mg : Str → Option Value) (base : Heap) : Prop := Has P w K mg base "with_nowhere" ["made"] 1 (SpN K R_with_nowhere)
theorem ok_with_nowhere (DD : DefAt K mg "with_nowhere" s_with_nowhere ["made"]) (m_len : mg "len" = none) : Has_with_nowhere P w K mg base := by
  refine okN DD sc_with_nowhere (by rintro as r ⟨_, rfl, _⟩; rfl) fun _ _ _ _ _ _ _ hr => ⟨_, (pss_cons (ps_asg (pv 0) (pg_tup rfl (pgs_cons (pg_name (i := 1) sc_with_nowhere.nd rfl (.inl rfl)) (pgs_cons (pg_name (i := 2) sc_with_nowhere.nd rfl (.inl rfl)) pgs_nil))))
      (pss_cons (ps_set (i := 3) sc_with_nowhere.nd rfl (.inr rfl) (pe_callB call_len (by rfl) m_len (by decide +kernel) (pa_cons (pv 2) pa_nil)))
      (pss_cons (ps_set (i := 4) sc_with_nowhere.nd rfl (.inl rfl) (pe_lst pa_nil))
      (pss_cons (ps_for PassesOwn.never rfl (pi_list (pv 2)) (pg_tup rfl (pgs_cons (pg_name (i := 5) sc_with_nowhere.nd rfl (.inl rfl)) (pgs_cons (pg_name (i := 6) sc_with_nowhere.nd rfl (.inl rfl)) pgs_nil))) (pss_one (ps_expr (pe_bm PySem.F.plainAttrs_list PySem.F.slot_list_append PySem.F.type_list_append mt_append (pv 4) (pa_cons (pe_tup (pa_cons (pv 5) (pa_cons (pe_lc (own := [("way", 7)]) (g := (gName 7)) (tt := tYes) (by rfl) sc_with_nowhere.nd (pi_list (pv 6)) (blkOk_by (own := [("way", 7)]) (N := ["made", "signs", "rows", "nowhere", "closed", "told", "ways", "way"]) (sc := defScope s_with_nowhere) (by decide +kernel)) (fun _ _ _ _ _ => pg_name (i := 7) sc_with_nowhere.nd rfl (Or.inl rfl)) (fun _ _ _ _ _ => pts_nil) (fun _ _ _ _ _ => (pe_ifExp (pt_cmpR op_isN (pv 7) pe_non (nomark _)) (pv 3) (pv 7)))) pa_nil))) pa_nil)))))
      (pss_cons (ps_expr (pe_bm PySem.F.plainAttrs_list PySem.F.slot_list_append PySem.F.type_list_append mt_append (pv 4) (pa_cons (pe_tup (pa_cons pe_non (pa_cons (pe_op op_rep (pe_lst (pa_cons (pv 3) pa_nil)) (pe_callB call_len (by rfl) m_len (by decide +kernel) (pa_cons (pv 1) pa_nil))) pa_nil))) pa_nil)))
      (pss_one (ps_ret (pv 4)))))))), ?_⟩
  rintro as r ⟨t, rfl, ht, rfl⟩
  have hm := ht.many
  have hf := ht.few
  refine as_seq (as_asgG (ae_var rfl rfl) (ag_tup (ags_name (ags_name (ags_nil ?_)))))
  refine as_seq (as_asg ((ae_cb (al_cons (ae_var rfl rfl) al_nil) ac_lenL).eq (b := .d (.int (t.rows.length : Nat))) (by rw [List.length_map])) ?_)
  refine as_seq (as_asgN (an_lst' (ds := []) ald_nil) ?_)
  refine as_forE_seq (fun i => ⟨[.d (tblD t), .d (.str t.signs), .d (.lst (t.rows.map rowD)), .d (.int (t.rows.length : Nat)), .o 0, .no, .no, .no], [some (.lst ((t.rows.take i).map fun r => crowD (closeR t.rows.length r)))]⟩) (ai_list (n := t.rows.length) (f := fun i => rowD (t.rows.getD i (none, []))) (ae_var rfl rfl) (List.length_map ..) (fun i hi => by rw [List.getElem?_map, getD_get (none, []) hi]; rfl)) ⟨⟨.inr rfl, .inr rfl, .inr rfl, .inr rfl, .inr rfl, .inl rfl, .inl rfl, .inl rfl, trivial⟩, rfl⟩ (fun i hi => ?_) ?_
  · have hq := getD_get (none, []) hi
    have hr := List.mem_of_getElem? hq
    have hw := ht.wid _ hr
    have tk : t.rows.take (i + 1) = t.rows.take i ++ [t.rows.getD i (none, [])] := by rw [List.take_add_one, hq]; rfl
    rw [tk]
    generalize t.rows.getD i (none, []) = q at *
    refine ag_tup (ags_name (ags_name (ags_nil ?_)))
    refine as_app (k := 0) (x := crowD (closeR t.rows.length q)) (ae_var rfl rfl) (ae_tup' (ald_cons (ae_var rfl rfl) (ald_cons ((an_lcN (n := q.2.length) (f := fun j => optN (q.2.getD j none)) (fun j => natD ((q.2.getD j none).getD t.rows.length)) (ai_list (xs := q.2.map optN) (ae_var rfl rfl) (List.length_map ..) (fun j hj => by rw [List.getElem?_map, getD_get none hj]; rfl)) (by omega) fun j hj => ?_).eq (es := (q.2.map fun w => w.getD t.rows.length).map natD) ?_).ae ald_nil))) rfl (by rw [List.length_map, List.length_take]; omega) ?_
    · cases q.2.getD j none with
      | none => exact (ae_if (at_val (ae_op (ae_var rfl rfl) ae_non a2_isN)) (fun h => ae_var rfl rfl) (fun h => (by cases h)))
      | some n => exact (ae_if (at_val (ae_op (ae_var rfl rfl) ae_non a2_isN)) (fun h => (by cases h)) (fun h => ae_var rfl rfl))
    · rw [List.map_map]
      exact range_map fun j x hx => by rw [getD_of none hx]; rfl
    · refine ⟨⟨.inr rfl, .inr rfl, .inr rfl, .inr rfl, .inr rfl, .inl rfl, .inl rfl, .inl rfl, trivial⟩, ?_⟩
      show [some (O.lst (_ ++ [_]))] = [some (O.lst ((t.rows.take i ++ [q]).map _))]
      rw [List.map_append]
      rfl
  · rw [List.take_of_length_le (Nat.le_refl _)]
    refine as_seq (as_app (k := 0) (x := crowD (none, List.replicate t.signs.length t.rows.length)) (ae_var rfl rfl) (ae_tup' (ald_cons ae_non (ald_cons ((an_op (an_lst' (ds := [natD t.rows.length]) (ald_cons (ae_var rfl rfl) ald_nil)).ae (ae_cb (al_cons (ae_var rfl rfl) al_nil) (ac_lenS (by omega))) (n2_rep (by omega) (by omega) (by show 1 * _ ≤ _; omega))).eq (es := (List.replicate t.signs.length t.rows.length).map natD) ?_).ae ald_nil))) rfl (by rw [List.length_map]; omega) ?_)
    · rw [Int.toNat_natCast, List.map_replicate]
      generalize t.signs.length = n
      induction n with
      | zero => rfl
      | succ n ih => rw [List.replicate_succ, List.flatten_cons, ih, List.replicate_succ]; rfl
    · refine as_ret (ae_var rfl rfl) ⟨0, rfl, ?_⟩
      show some (some (O.lst (_ ++ [_]))) = some (some (O.lst ((closed t).map crowD)))
      unfold closed
      rw [List.map_append, List.map_map]
      rfl
/-! ### _numbered -/
abbrev s_numbered : Stmt := topS 6
theorem sc_numbered : FnScope ["marks", "numbers", "mark"] ["marks"] (defScope s_numbered) := ⟨rfl, rfl, rfl, by decide +kernel, rfl, by decide +kernel, by decide +kernel⟩
def R_numberedN (as : List A) (r : A) : Prop := ∃ ms : List (Option Int), as = [.d (.lst (ms.map optI))] ∧ ms.length ≤ 100000 ∧ r = .d (natsD (numK ms))
def R_numberedT (as : List A) (r : A) : Prop := ∃ ms : List (List Int), as = [.d (.lst (ms.map .kt))] ∧ ms.length ≤ 100000 ∧ r = .d (natsD (numK ms))
abbrev Has_numberedN (P : Program) (w : World) (K : PySem.W.Frag) (mg : Str → Option Value) (base : Heap) : Prop := Has P w K mg base "_numbered" ["marks"] 1 (SpF K R_numberedN)
abbrev Has_numberedT (P : Program) (w : World) (K : PySem.W.Frag) (mg : Str → Option Value) (base : Heap) : Prop := Has P w K mg base "_numbered" ["marks"] 1 (SpF K R_numberedT)
theorem numbered_go {κ : Type} [DecidableEq κ] {N : NK κ} {kd : κ → D} (hK : KeyD K N kd) (ms : List κ) (hl : ms.length ≤ 100000) : AS K 0 (tSeq (tAsg (tNumNew N) (gName 1)) (tSeq (tFor (iList K (tVar 0)) (gName 2) (tDrop (tNumSet N (tVar 1) (tVar 2) (tCB (rNumLen N) (tCons (tVar 1) tNil))))) (tRet (tLc (iList K (tVar 0)) (gName 2) tYes (tNumGet N (tVar 1) (tVar 2)) [2])))) (endF (.d (natsD (numK ms)))) ⟨[.d (.lst (ms.map kd)), .no, .no], []⟩ := by
  refine as_seq (as_asgX (ax_numNew ?_))
  have get : ∀ i, i < ms.length → ∃ m, ms[i]? = some m := fun i hi => ⟨_, List.getElem?_eq_getElem hi⟩
  cases ms with
  | nil =>
    refine as_seq (as_for (fun i e' => Le e' ⟨[.d (.lst []), .o 0, .no], [some (ndO N [])]⟩) (ai_list (n := 0) (f := fun _ => .non) (ae_var rfl rfl) rfl (fun i hi => absurd hi (Nat.not_lt_zero _))) ⟨⟨.inr rfl, .inr rfl, .inl rfl, trivial⟩, rfl⟩ (fun i e' hi => absurd hi (Nat.not_lt_zero _)) fun e' le => ?_)
    refine AS.le (as_ret ((an_lcN (n := 0) (f := fun _ => .non) (fun _ => .non) (ai_list (xs := []) (ae_var rfl rfl) rfl (fun i hi => absurd hi (Nat.not_lt_zero _))) (by decide) fun i hi => absurd hi (Nat.not_lt_zero _)).eq (es := []) rfl).ae ⟨rfl, rfl⟩) le
  | cons m0 r0 =>
    generalize hms : m0 :: r0 = ms at *
    have hg : ∀ i, i < ms.length → ms[i]? = some (ms.getD i m0) := fun i hi => by rw [List.getD_eq_getElem?_getD, List.getElem?_eq_getElem hi]; rfl
    have hu : ∀ i, (uniqK (ms.take i)).length < 900000 := fun i => by
      have h1 := uniqK_len (ms.take i)
      rw [List.length_take] at h1
      omega
    refine as_seq (as_forE (fun i => ⟨[.d (.lst (ms.map kd)), .o 0, .no], [some (ndO N (uniqK (ms.take i)))]⟩) (ai_list (n := ms.length) (f := fun i => kd (ms.getD i m0)) (ae_var rfl rfl) (List.length_map ..) (fun i hi => by rw [List.getElem?_map, hg i hi]; rfl)) ⟨⟨.inr rfl, .inr rfl, .inl rfl, trivial⟩, rfl⟩ (fun i hi => ?_) fun e' le => ?_)
    · have tk : ms.take (i + 1) = ms.take i ++ [ms.getD i m0] := by rw [List.take_add_one, hg i hi]; rfl
      refine ag_name ?_
      rw [tk, uniqK_snoc]
      exact as_dropX (ax_numSet (i := 0) hK (ae_var rfl rfl) rfl (ae_var rfl rfl) (ae_cb (al_cons (ae_var rfl rfl) al_nil) (ac_numLen rfl (hu i))) (hu i) ⟨⟨.inr rfl, .inr rfl, .inl rfl, trivial⟩, rfl⟩)
    · rw [List.take_of_length_le (Nat.le_refl _)] at le
      refine AS.le (as_ret ((an_lcN (n := ms.length) (f := fun i => kd (ms.getD i m0)) (fun i => natD (ixk (ms.getD i m0) (uniqK ms))) (ai_list (xs := ms.map kd) (ae_var rfl rfl) (List.length_map ..) (fun i hi => by rw [List.getElem?_map, hg i hi]; rfl)) (by omega) fun i hi => ae_numGet hK (ae_var rfl rfl) rfl (ae_var rfl rfl) (uniqK_mem.mpr (List.mem_of_getElem? (hg i hi)))).eq (es := (numK ms).map natD) ?_).ae ⟨rfl, rfl⟩) le
      unfold numK
      rw [List.map_map]
      exact range_map fun i x hx => by rw [getD_of m0 hx]; rfl
theorem ok_numberedN (DD : DefAt K mg "_numbered" s_numbered ["marks"]) (m_len : mg "len" = none) : Has_numberedN P w K mg base := by
  refine okF DD sc_numbered (by rintro as r ⟨_, rfl, _⟩; rfl) fun _ _ _ _ _ _ _ hr => ⟨_, (pss_cons (ps_set (i := 1) sc_numbered.nd rfl (.inr rfl) pe_numNewN)
      (pss_cons (ps_for PassesOwn.never rfl (pi_list (pv 0)) (pg_name (i := 2) sc_numbered.nd rfl (.inl rfl)) (pss_one (ps_expr (pe_numSetNK (P := P) (w := w) rfl rfl (pv 1) (pv 2) (pe_callB (call_numLenNK (P := P) (w := w) rfl rfl) (by rfl) m_len (by decide +kernel) (pa_cons (pv 1) pa_nil)) ⟨rfl, rfl, rfl, rfl⟩))))
      (pss_one (ps_ret (pe_lc (own := [("mark", 2)]) (g := (gName 2)) (tt := tYes) (by rfl) sc_numbered.nd (pi_list (pv 0)) (blkOk_by (own := [("mark", 2)]) (N := ["marks", "numbers", "mark"]) (sc := defScope s_numbered) (by decide +kernel)) (fun _ _ _ _ _ => pg_name (i := 2) sc_numbered.nd rfl (Or.inl rfl)) (fun _ _ _ _ _ => pts_nil) (fun _ _ _ _ _ => (pe_numGetNK (P := P) (w := w) rfl rfl (pv 1) (pv 2) (fun _ _ => rfl)))))))), ?_⟩
  rintro as r ⟨ms, rfl, hl, rfl⟩
  exact numbered_go keyD_N ms hl
theorem ok_numberedT (DD : DefAt K mg "_numbered" s_numbered ["marks"]) (m_len : mg "len" = none) : Has_numberedT P w K mg base := by
  refine okF DD sc_numbered (by rintro as r ⟨_, rfl, _⟩; rfl) fun _ _ _ _ _ _ _ hr => ⟨_, (pss_cons (ps_set (i := 1) sc_numbered.nd rfl (.inr rfl) pe_numNewT)
      (pss_cons (ps_for PassesOwn.never rfl (pi_list (pv 0)) (pg_name (i := 2) sc_numbered.nd rfl (.inl rfl)) (pss_one (ps_expr (pe_numSetT (hu_of hr) (pv 1) (pv 2) (pe_callB call_numLenT (by rfl) m_len (by decide +kernel) (pa_cons (pv 1) pa_nil)) ⟨rfl, rfl, rfl, rfl⟩))))
      (pss_one (ps_ret (pe_lc (own := [("mark", 2)]) (g := (gName 2)) (tt := tYes) (by rfl) sc_numbered.nd (pi_list (pv 0)) (blkOk_by (own := [("mark", 2)]) (N := ["marks", "numbers", "mark"]) (sc := defScope s_numbered) (by decide +kernel)) (fun _ _ _ _ _ => pg_name (i := 2) sc_numbered.nd rfl (Or.inl rfl)) (fun _ _ _ _ _ => pts_nil) (fun _ _ _ _ _ => (pe_numGetT (hu_of hr) (pv 1) (pv 2) (fun _ _ => rfl)))))))), ?_⟩
  rintro as r ⟨ms, rfl, hl, rfl⟩
  exact numbered_go keyD_T ms hl
/-! ### _mark -/
abbrev s_mark : Stmt := topS 5
theorem sc_mark : FnScope ["groups", "at", "ways", "way"] ["groups", "at", "ways"] (defScope s_mark) := ⟨rfl, rfl, rfl, by decide +kernel, rfl, by decide +kernel, by decide +kernel⟩
def R_mark (as : List A) (r : A) : Prop := ∃ (gs : List Nat) (i : Nat) (ws : List Nat), as = [.d (natsD gs), .d (natD i), .d (natsD ws)] ∧ i < gs.length ∧ (∀ w ∈ ws, w < gs.length) ∧ ws.length ≤ 1000 ∧ r = .d (.kt (markC gs i ws))
abbrev Has_mark (P : Program) (w : World) (K : PySem.W.Frag) (mg : Str → Option Value) (base : Heap) : Prop := Has P w K mg base "_mark" ["groups", "at", "ways"] 1 (SpF K R_mark)
theorem natG {l : List Nat} {i : Nat} (h : i < l.length) : atI (l.map natD) (i : Nat) = some (natD (l.getD i 0)) := atI_of (j := i) rfl (by rw [List.getElem?_map, getD_get 0 h]; rfl)
theorem ok_mark (DD : DefAt K mg "_mark" s_mark ["groups", "at", "ways"]) : Has_mark P w K mg base := by
  refine okF DD sc_mark (by rintro as r ⟨_, _, _, rfl, _⟩; rfl) fun _ _ _ _ _ _ _ hr => ⟨_, (pss_one (ps_ret (pe_tup (pa_cons (pe_ix ix_list (pv 0) (pv 1) (fun _ _ => rfl)) (StX.pa_star (pe_lc (own := [("way", 3)]) (g := (gName 3)) (tt := tYes) (by rfl) sc_mark.nd (pi_list (pv 2)) (blkOk_by (own := [("way", 3)]) (N := ["groups", "at", "ways", "way"]) (sc := defScope s_mark) (by decide +kernel)) (fun _ _ _ _ _ => pg_name (i := 3) sc_mark.nd rfl (Or.inl rfl)) (fun _ _ _ _ _ => pts_nil) (fun _ _ _ _ _ => (pe_ix (ixlK (K := K) rfl) (pv 0) (pv 3) (fun _ _ => rfl)))) pa_nil))))), ?_⟩
  rintro as r ⟨gs, i, ws, rfl, hi, hw, hl, rfl⟩
  refine as_ret (ae_tupK (ns := markC gs i ws) ?_ (by unfold markC; rw [List.length_map, List.length_cons, List.length_map]; omega)) ⟨rfl, rfl⟩
  have e : (markC gs i ws).map (fun n => A.d (.int n)) = .d (natD (gs.getD i 0)) :: ((ws.map fun w => natD (gs.getD w 0)).map A.d ++ []) := by
    unfold markC
    rw [List.map_cons, List.map_cons, List.append_nil, List.map_map, List.map_map, List.map_map]
    rfl
  rw [e]
  refine al_cons (ae_op (ae_var rfl rfl) (ae_var rfl rfl) (a2_ixL (natG hi))) (al_star ((an_lcN (n := ws.length) (f := fun j => natD (ws.getD j 0)) (fun j => natD (gs.getD (ws.getD j 0) 0)) (ai_list (xs := ws.map natD) (ae_var rfl rfl) (List.length_map ..) (fun j hj => by rw [List.getElem?_map, getD_get 0 hj]; rfl)) (by omega) fun j hj => ?_).eq ?_).ae al_nil)
  · exact ae_op (ae_var rfl rfl) (ae_var rfl rfl) (a2_ixL (natG (hw _ (List.mem_of_getElem? (getD_get 0 hj)))))
  · exact range_map fun j x hx => by rw [getD_of 0 hx]
/-! ### _groups -/
abbrev s_groups : Stmt := topS 4
theorem sc_groups : FnScope ["rows", "groups", "finer", "told", "_", "at", "ways"] ["rows"] (defScope s_groups) := ⟨rfl, rfl, rfl, by decide +kernel, rfl, by decide +kernel, by decide +kernel⟩
def R_groups (as : List A) (r : A) : Prop := ∃ rs : List CRow, as = [.d (.lst (rs.map crowD))] ∧ COk rs ∧ r = .d (natsD (grpsC rs))
abbrev Has_groups (P : Program) (w : World) (K : PySem.W.Frag) (mg : Str → Option Value) (base : Heap) : Prop := Has P w K mg base "_groups" ["rows"] 2 (SpF K R_groups)
theorem ok_groups (DD : DefAt K mg "_groups" s_groups ["rows"]) (H_numberedN : Has_numberedN P w K mg base) (H_numberedT : Has_numberedT P w K mg base) (H_mark : Has_mark P w K mg base) (m_enumerate : mg "enumerate" = none) : Has_groups P w K mg base := by
  refine okF DD sc_groups (by rintro as r ⟨_, rfl, _⟩; rfl) fun _ _ _ _ _ _ _ hr => ⟨_, (pss_cons (ps_set (i := 1) sc_groups.nd rfl (.inr rfl) (pe_lst pa_nil))
      (pss_cons (ps_set (i := 2) sc_groups.nd rfl (.inl rfl) (pe_has H_numberedN (hr.mono (by decide)) (by rfl) (pa_cons (pe_lc (own := [("told", 3), ("_", 4)]) (g := (gTup K 2 (gCons (gName 3) (gCons (gName 4) gNil)))) (tt := tYes) (by rfl) sc_groups.nd (pi_list (pv 0)) (blkOk_by (own := [("told", 3), ("_", 4)]) (N := ["rows", "groups", "finer", "told", "_", "at", "ways"]) (sc := defScope s_groups) (by decide +kernel)) (fun _ _ _ _ _ => (pg_tup rfl (pgs_cons (pg_name (i := 3) sc_groups.nd rfl (.inl rfl)) (pgs_cons (pg_name (i := 4) sc_groups.nd rfl (.inl rfl)) pgs_nil)))) (fun _ _ _ _ _ => pts_nil) (fun _ _ _ _ _ => (pv 3))) pa_nil)))
      (pss_cons (ps_while PassesOwn.never (pt_cmpR (op_neD hr.units) (pv 2) (pv 1) (nomark _)) (pss_cons (ps_set (i := 1) sc_groups.nd rfl (.inr rfl) (pv 2))
      (pss_one (ps_set (i := 2) sc_groups.nd rfl (.inl rfl) (pe_has H_numberedT (hr.mono (by decide)) (by rfl) (pa_cons (pe_lc (own := [("at", 5), ("_", 4), ("ways", 6)]) (g := (gTup K 2 (gCons (gName 5) (gCons (gTup K 2 (gCons (gName 4) (gCons (gName 6) gNil))) gNil)))) (tt := tYes) (by rfl) sc_groups.nd (pi_enum (by rfl) m_enumerate (pa_cons (pv 0) pa_nil)) (blkOk_by (own := [("at", 5), ("_", 4), ("ways", 6)]) (N := ["rows", "groups", "finer", "told", "_", "at", "ways"]) (sc := defScope s_groups) (by decide +kernel)) (fun _ _ _ _ _ => (pg_tup rfl (pgs_cons (pg_name (i := 5) sc_groups.nd rfl (.inl rfl)) (pgs_cons (pg_tup rfl (pgs_cons (pg_name (i := 4) sc_groups.nd rfl (.inl rfl)) (pgs_cons (pg_name (i := 6) sc_groups.nd rfl (.inl rfl)) pgs_nil))) pgs_nil)))) (fun _ _ _ _ _ => pts_nil) (fun _ _ _ _ _ => (pe_has H_mark (hr.mono (by decide)) (by rfl) (pa_cons (pv 1) (pa_cons (pv 5) (pa_cons (pv 6) pa_nil)))))) pa_nil))))))
      (pss_one (ps_ret (pv 1)))))), ?_⟩
  rintro as r ⟨rs, rfl, hc, rfl⟩
  have hf := hc.few
  have hcrow : ∀ i, i < rs.length → (rs.map crowD)[i]? = some (crowD (rs.getD i (none, []))) := fun i hi => by rw [List.getElem?_map, getD_get (none, []) hi]; rfl
  refine as_seq (as_asg (an_lst' (ds := []) ald_nil).ae ?_)
  refine as_seq (as_asg (ae_call (al_cons ((an_lc (n := rs.length) (f := fun i => crowD (rs.getD i (none, []))) (fun i => some (optI (rs.getD i (none, [])).1)) (ai_list (ae_var rfl rfl) (List.length_map ..) hcrow) (by omega) fun i hi => ⟨_, agw_two (by decide), fun B σ G H ad R C c => c G H (Xt.refl R.gh), fun x hx => by cases hx; exact ae_var rfl rfl⟩).eq (es := (rs.map (·.1)).map optI) ?_).ae al_nil) rfl ⟨rs.map (·.1), rfl, by rw [List.length_map]; omega, rfl⟩) ?_)
  · rw [givenD_some, List.map_map]
    exact range_map fun i x hx => by rw [getD_of (none, []) hx]; rfl
  refine as_seq (as_while (fun m e' => ∃ (k : Nat) (gs : List Nat), (k = 0 → m = rs.length + 2) ∧ (∀ j, k = j + 1 → gs = grpC rs j ∧ m = if grpC rs (j + 1) = grpC rs j then 0 else rs.length + 1 - cntC rs (j + 1)) ∧ (k = 0 → gs = []) ∧ Le e' ⟨[.d (.lst (rs.map crowD)), .d (natsD gs), .d (natsD (grpC rs k)), .no, .no, .no, .no], []⟩) ?_ (fun m e' I => ?_))
  · exact ⟨_, 0, [], fun _ => rfl, fun j h => (by cases h), fun _ => rfl, ⟨⟨.inr rfl, .inr rfl, .inr rfl, .inl rfl, .inl rfl, .inl rfl, .inl rfl, trivial⟩, rfl⟩⟩
  · obtain ⟨k, gs, h0, h1, h2, le⟩ := I
    refine ⟨!decide (grpC rs k = gs), AT.le le ((at_val (ae_op (ae_var rfl rfl) (ae_var rfl rfl) (a2_neD (nats_ok _) (nats_ok _)))).eq (by rw [eqv_natsD])), fun hb => ?_, fun hb => ?_⟩
    · have hne : grpC rs k ≠ gs := by simpa using hb
      have hgl := grpC_len rs k
      refine AS.le ?_ le
      refine as_seq (as_asg (ae_var rfl rfl) ?_)
      refine as_asg (ae_call (al_cons ((an_lc (n := rs.length) (f := fun i => .tup [.int (i : Nat), crowD (rs.getD i (none, []))]) (fun i => some (.kt (markC (grpC rs k) i (rs.getD i (none, [])).2))) (ai_enum (al_cons (ae_var rfl rfl) al_nil) (List.length_map ..) hcrow) (by omega) fun i hi => ⟨_, agw_nest (by decide) (by decide) (by decide), fun B σ G H ad R C c => c G H (Xt.refl R.gh), fun x hx => ?_⟩).eq (es := (marksC rs (grpC rs k)).map .kt) ?_).ae al_nil) rfl ⟨marksC rs (grpC rs k), rfl, by rw [marksC_len]; omega, rfl⟩) ?_
      · cases hx
        have hrm := List.mem_of_getElem? (getD_get (none, []) hi)
        exact ae_call (al_cons (ae_var rfl rfl) (al_cons (ae_var rfl rfl) (al_cons (ae_var rfl rfl) al_nil))) rfl ⟨grpC rs k, i, (rs.getD i (none, [])).2, rfl, by omega, fun w hw => by rw [hgl]; exact hc.ins _ hrm w hw, hc.wid _ hrm, rfl⟩
      · rw [givenD_some]
        unfold marksC
        rw [List.map_map]
        rfl
      · refine ⟨if grpC rs (k + 1) = grpC rs k then 0 else rs.length + 1 - cntC rs (k + 1), ?_, k + 1, grpC rs k, fun h => (by cases h), fun j hj => by cases hj; exact ⟨rfl, rfl⟩, fun h => (by cases h), ⟨⟨.inr rfl, .inr rfl, .inr rfl, .inl rfl, .inl rfl, .inl rfl, .inl rfl, trivial⟩, rfl⟩⟩
        have c1 := cntC_le rs (k + 1)
        cases k with
        | zero =>
          rw [h0 rfl]
          split <;> omega
        | succ j =>
          obtain ⟨e1, e2⟩ := h1 j rfl
          rw [e1] at hne
          rw [if_neg hne] at e2
          have c2 := cntC_le rs (j + 1)
          obtain ⟨c3, c4⟩ := grpC_cnt rs (j + 1)
          rw [e2]
          by_cases z : grpC rs (j + 1 + 1) = grpC rs (j + 1)
          · rw [if_pos z]
            omega
          · rw [if_neg z]
            have : ¬ cntC rs (j + 1 + 1) ≤ cntC rs (j + 1) := fun y => z (c4 y)
            omega
    · have he : grpC rs k = gs := by simpa using hb
      refine AS.le (as_ret (ae_var rfl rfl) ⟨?_, rfl⟩) le
      cases k with
      | zero =>
        have hgl := grpC_len rs 0
        rw [he, h2 rfl] at hgl
        have := hc.pos
        rw [← hgl] at this
        exact absurd this (Nat.lt_irrefl 0)
      | succ j =>
        obtain ⟨e1, _⟩ := h1 j rfl
        rw [e1] at he
        rw [e1, grpsC_of he]
/-! ### _met -/
abbrev s_met : Stmt := topS 7
theorem sc_met : FnScope ["rows", "groups", "met", "seen", "at", "_", "ways", "way"] ["rows", "groups"] (defScope s_met) := ⟨rfl, rfl, rfl, by decide +kernel, rfl, by decide +kernel, by decide +kernel⟩
def R_met (as : List A) (ds : List D) : Prop := ∃ (rs : List CRow) (gs : List Nat), as = [.d (.lst (rs.map crowD)), .d (natsD gs)] ∧ COk rs ∧ gs.length = rs.length ∧ ds = (metG rs gs (grp gs (rs.length - 1))).map natD
abbrev Has_met (P : Program) (w : World) (K : PySem.W.Frag) (mg : Str → Option Value) (base : Heap) : Prop := Has P w K mg base "_met" ["rows", "groups"] 1 (SpN K R_met)
theorem ok_met (DD : DefAt K mg "_met" s_met ["rows", "groups"]) (m_len : mg "len" = none) : Has_met P w K mg base := by
  refine okNC DD sc_met (by rintro as r ⟨_, _, rfl, _⟩; rfl) fun _ _ _ _ _ _ _ hcd hr => ⟨_, (pss_cons (ps_set (i := 2) sc_met.nd rfl (.inl rfl) (pe_lst (pa_cons pe_int pa_nil)))
      (pss_cons (ps_set (i := 3) sc_met.nd rfl (.inl rfl) (pe_set2K (pe_ix ix_list (pv 1) pe_int (fun _ _ => rfl)) (pe_ix ix_list (pv 1) (pe_un un_neg pe_int) (fun _ _ => rfl)) (by rfl) hcd))
      (pss_cons (ps_set (i := 4) sc_met.nd rfl (.inl rfl) pe_int)
      (pss_cons (ps_while PassesOwn.never (pt_cmpR op_lt (pv 4) (pe_callB call_len (by rfl) m_len (by decide +kernel) (pa_cons (pv 2) pa_nil)) (nomark _)) (pss_cons (ps_asg (pe_ix ix_list (pv 0) (pe_ix ix_list (pv 2) (pv 4) (fun _ _ => rfl)) (fun _ _ => rfl)) (pg_tup rfl (pgs_cons (pg_name (i := 5) sc_met.nd rfl (.inl rfl)) (pgs_cons (pg_name (i := 6) sc_met.nd rfl (.inl rfl)) pgs_nil))))
      (pss_cons (ps_for PassesOwn.never rfl (pi_list (pv 6)) (pg_name (i := 7) sc_met.nd rfl (.inl rfl)) (pss_one (ps_if (pt_cmpR or_snotinK (pe_ix ix_list (pv 1) (pv 7) (fun _ _ => rfl)) (pv 3) rfl) (pss_cons (ps_expr (pe_saddK (pv 3) (pa_cons (pe_ix ix_list (pv 1) (pv 7) (fun _ _ => rfl)) pa_nil)))
      (pss_one (ps_expr (pe_bm PySem.F.plainAttrs_list PySem.F.slot_list_append PySem.F.type_list_append mt_append (pv 2) (pa_cons (pv 7) pa_nil))))) pss_nil)))
      (pss_one (ps_aug (i := 4) sc_met.nd rfl (.inl rfl) pe_int ip_add)))))
      (pss_one (ps_ret (pv 2))))))), ?_⟩
  rintro as r ⟨rs, gs, rfl, hc, hgl, rfl⟩
  have hp := hc.pos
  have hf := hc.few
  let dead := grp gs (rs.length - 1)
  have hrow : ∀ i, i < rs.length → L2.atI (rs.map crowD) (i : Nat) = some (.tup [optI (rs.getD i (none, [])).1, natsD (waysC rs i)]) := fun i hi => atI_of (j := i) rfl (by rw [List.getElem?_map, getD_get (none, []) hi]; rfl)
  have hgrp : ∀ i, i < rs.length → L2.atI (gs.map natD) (i : Nat) = some (natD (grp gs i)) := fun i hi => atI_of (j := i) rfl (by rw [List.getElem?_map, getD_get 0 (by rw [hgl]; exact hi)]; rfl)
  -- met = [0]
  refine as_seq (as_asgN (an_lst' (ald_cons ae_int ald_nil)) ?_)
  -- seen = {groups[0], groups[-1]}
  refine as_seq (as_asgX (ax_set2 (i := (grp gs 0 : Nat)) (j := (dead : Nat)) (ae_op (ae_var rfl rfl) ae_int (a2_ixL (hgrp 0 hp))) (ae_op (ae_var rfl rfl) (ae_un ae_int a1_neg) (a2_ixL ?_)) fun S n hS hn => ?_))
  · unfold L2.atI
    rw [List.length_map, hgl]
    have : L2.ixN rs.length (-1) = some (rs.length - 1) := by
      unfold L2.ixN
      rw [if_neg (by decide), if_pos (by omega)]
      congr 1
      omega
    show (L2.ixN rs.length (-1)).bind _ = _
    rw [this]
    show (gs.map natD)[rs.length - 1]? = _
    rw [List.getElem?_map, getD_get 0 (by omega)]
    rfl
  -- at = 0
  refine as_seq (as_asg ae_int ?_)
  refine as_seq (as_while (fun m e' => ∃ (k n : Nat) (S : Key → Bool), k ≤ (metK rs gs dead k).length ∧ m + k = rs.length + 1 ∧ (∀ z : Nat, S (.inl z) = seenG gs dead (metK rs gs dead k) z) ∧ n ≤ (metK rs gs dead k).length + 2 ∧
      Le e' ⟨[.d (.lst (rs.map crowD)), .d (natsD gs), .o 0, .o 1, .d (natD k), .no, .no, .no], [some (.lst ((metK rs gs dead k).map natD)), some (stO P w S n)]⟩) ?_ (fun m e' I => ?_))
  · refine ⟨_, 0, n, S, Nat.zero_le _, rfl, fun z => ?_, by have : (metK rs gs dead 0).length = 1 := rfl; omega, ⟨⟨.inr rfl, .inr rfl, .inr rfl, .inr rfl, .inr rfl, .inl rfl, .inl rfl, .inl rfl, trivial⟩, rfl⟩⟩
    rw [hS, Bool.eq_iff_iff, seenG_true, decide_eq_true_eq]
    constructor
    · rintro (e | e)
      · exact .inr ⟨0, List.mem_singleton.mpr rfl, (Int.ofNat.inj e).symm⟩
      · exact .inl (Int.ofNat.inj e)
    · rintro (e | ⟨m, hm, e⟩)
      · exact .inr (by rw [e])
      · have : m = 0 := List.mem_singleton.mp hm
        subst this
        exact .inl (by rw [← e])
  · obtain ⟨k, n, S, hk, hm, hS, hn, le⟩ := I
    have mo := metK_ok hc gs dead k
    have hfew := mo.few
    refine ⟨decide (k < (metK rs gs dead k).length), AT.le le ((at_val (ae_op (ae_var rfl rfl) (ae_cb (al_cons (ae_var rfl rfl) al_nil) (ac_lenO rfl)) a2_I0b)).eq (by rw [List.length_map]; exact decide_eq_decide.mpr (Int.ofNat_lt))), fun hb => ?_, fun hb => ?_⟩
    · have hlt := of_decide_eq_true hb
      have hm0 : (metK rs gs dead k).getD k 0 < rs.length := mo.ins _ (List.mem_of_getElem? (getD_get 0 hlt))
      have hmetk : L2.atI ((metK rs gs dead k).map natD) (k : Nat) = some (natD ((metK rs gs dead k).getD k 0)) := atI_of (j := k) rfl (by rw [List.getElem?_map, getD_get 0 hlt]; rfl)
      refine AS.le ?_ le
      let m0 := (metK rs gs dead k).getD k 0
      let ws := waysC rs m0
      have hwn := waysC_wid hc m0
      refine as_seq (as_asgG (ae_op (ae_var rfl rfl) (ae_op (ae_var rfl rfl) (ae_var rfl rfl) (a2_ixO rfl hmetk)) (a2_ixL (hrow _ hm0))) (ag_tup (ags_name (ags_name (ags_nil ?_)))))
      refine as_seq (as_for (fun i e' => ∃ (n : Nat) (S : Key → Bool), (∀ z : Nat, S (.inl z) = seenG gs dead ((ws.take i).foldl (addG gs dead) (metK rs gs dead k)) z) ∧ n ≤ ((ws.take i).foldl (addG gs dead) (metK rs gs dead k)).length + 2 ∧
          Le e' ⟨[.d (.lst (rs.map crowD)), .d (natsD gs), .o 0, .o 1, .d (natD k), .no, .no, .no], [some (.lst (((ws.take i).foldl (addG gs dead) (metK rs gs dead k)).map natD)), some (stO P w S n)]⟩)
        (ai_list (n := ws.length) (f := fun i => natD (ws.getD i 0)) (ae_var rfl rfl) (List.length_map ..) (fun i hi => by rw [List.getElem?_map, getD_get 0 hi]; rfl)) ?_ (fun i e' hi I => ?_) fun e' I => ?_)
      · exact ⟨n, S, hS, hn, ⟨⟨.inr rfl, .inr rfl, .inr rfl, .inr rfl, .inr rfl, .inl rfl, .inl rfl, .inl rfl, trivial⟩, rfl⟩⟩
      · obtain ⟨n, S, hS, hn, le⟩ := I
        have tk : ws.take (i + 1) = ws.take i ++ [ws.getD i 0] := by rw [List.take_add_one, getD_get 0 hi]; rfl
        rw [tk, List.foldl_append]
        generalize hmt : (ws.take i).foldl (addG gs dead) (metK rs gs dead k) = mt at *
        have mt_ok : MetOk rs.length gs dead mt := by
          rw [← hmt]
          exact mo.fold fun x hx => waysC_in hc m0 x (List.mem_of_mem_take hx)
        have mfew := mt_ok.few
        have hwi : ws.getD i 0 < rs.length := waysC_in hc m0 _ (List.mem_of_getElem? (getD_get 0 hi))
        refine AG.le le (ag_name ?_)
        show AS K 0 _ _ _
        refine as_if ((at_val (ae_op (ae_op (ae_var rfl rfl) (ae_var rfl rfl) (a2_ixL (hgrp _ hwi))) (ae_var rfl rfl) (a2_inSt rfl))).eq (j := !seenG gs dead mt (grp gs (ws.getD i 0))) (by rw [if_pos rfl]; exact congrArg _ (hS _))) (fun h => ?_) (fun h => ?_)
        · have hs : seenG gs dead mt (grp gs (ws.getD i 0)) = false := by simpa using h
          have ha : [ws.getD i 0].foldl (addG gs dead) mt = mt ++ [ws.getD i 0] := by
            show addG gs dead mt _ = _
            unfold addG
            rw [if_neg (by rw [hs]; exact Bool.false_ne_true)]
          rw [ha]
          refine as_seq (as_dropX (ax_sadd (i := 1) (ae_var rfl rfl) rfl (ae_op (ae_var rfl rfl) (ae_var rfl rfl) (a2_ixL (hgrp _ hwi))) (by omega) ?_))
          refine as_app (ae_var rfl rfl) (ae_var rfl rfl) rfl (by rw [List.length_map]; omega) ?_
          refine ⟨if S (.inl (grp gs (ws.getD i 0) : Nat)) = true then n else n + 1, fun j => S j || decide (j = .inl (grp gs (ws.getD i 0) : Nat)), fun z => ?_, ?_, ⟨⟨.inr rfl, .inr rfl, .inr rfl, .inr rfl, .inr rfl, .inl rfl, .inl rfl, .inl rfl, trivial⟩, ?_⟩⟩
          · show (S (.inl (z : Nat)) || decide ((Sum.inl (z : Int) : Key) = .inl (grp gs (ws.getD i 0) : Nat))) = _
            rw [hS, Bool.eq_iff_iff, Bool.or_eq_true, seenG_true, seenG_true, decide_eq_true_eq]
            constructor
            · rintro ((q | ⟨m, q1, q2⟩) | q)
              · exact .inl q
              · exact .inr ⟨m, List.mem_append_left _ q1, q2⟩
              · exact .inr ⟨_, List.mem_append_right _ (List.mem_singleton.mpr rfl), (Int.ofNat.inj (Sum.inl.inj q)).symm⟩
            · rintro (q | ⟨m, q1, q2⟩)
              · exact .inl (.inl q)
              · rcases List.mem_append.mp q1 with q1 | q1
                · exact .inl (.inr ⟨m, q1, q2⟩)
                · rw [List.mem_singleton.mp q1] at q2
                  exact .inr (by rw [← q2])
          · rw [List.length_append]
            split
            · omega
            · show n + 1 ≤ mt.length + 1 + 2
              omega
          · rw [List.map_append]
            rfl
        · have hs : seenG gs dead mt (grp gs (ws.getD i 0)) = true := by simpa using h
          have ha : [ws.getD i 0].foldl (addG gs dead) mt = mt := by
            show addG gs dead mt _ = _
            unfold addG
            rw [if_pos hs]
          rw [ha]
          exact as_next ⟨n, S, hS, hn, ⟨⟨.inr rfl, .inr rfl, .inr rfl, .inr rfl, .inr rfl, .inl rfl, .inl rfl, .inl rfl, trivial⟩, rfl⟩⟩
      · obtain ⟨n, S, hS, hn, le⟩ := I
        rw [List.take_of_length_le (Nat.le_refl _)] at hS hn le
        have e1 : metK rs gs dead (k + 1) = ws.foldl (addG gs dead) (metK rs gs dead k) := by
          rw [metK, if_pos hlt]
          rfl
        refine AS.le (as_augN rfl ae_int a2_I0 ?_) le
        refine ⟨m - 1, by omega, k + 1, n, S, ?_, by omega, fun z => by rw [e1]; exact hS z, by rw [e1]; exact hn, ⟨⟨.inr rfl, .inr rfl, .inr rfl, .inr rfl, .inr rfl, .inl rfl, .inl rfl, .inl rfl, trivial⟩, by rw [e1]; rfl⟩⟩
        have := (metK_pre rs gs dead k).length_le
        omega
    · have hlt : ¬ k < (metK rs gs dead k).length := of_decide_eq_false hb
      have he : (metK rs gs dead k).length = k := by omega
      rw [metG_of hc he] at le
      exact AS.le (as_ret (ae_var rfl rfl) ⟨0, rfl, rfl⟩) le
/-! ### least -/
abbrev s_least : Stmt := topS 3
theorem sc_least : FnScope ["made", "signs", "_", "rows", "groups", "met", "numbers", "number", "row", "kept", "told", "ways", "way"] ["made"] (defScope s_least) := ⟨rfl, rfl, rfl, by decide +kernel, rfl, by decide +kernel, by decide +kernel⟩
def rowsM : Nat → List (D × List D) → List O
  | _, [] => []
  | b, r :: rest => .lst r.2 :: .tp [.d r.1, .o b] :: rowsM (b + 2) rest
theorem rowsM_len : ∀ (b : Nat) (rs : List (D × List D)), (rowsM b rs).length = 2 * rs.length
  | _, [] => rfl
  | b, _ :: r => by
    show (rowsM (b + 2) r).length + 1 + 1 = 2 * (r.length + 1)
    rw [rowsM_len (b + 2) r]
    omega
theorem rowsM_snoc : ∀ (b : Nat) (rs : List (D × List D)) (r : D × List D), rowsM b (rs ++ [r]) = rowsM b rs ++ [.lst r.2, .tp [.d r.1, .o (b + 2 * rs.length)]]
  | _, [], _ => rfl
  | b, x :: rs, r => by
    show _ :: _ :: rowsM (b + 2) (rs ++ [r]) = _ :: _ :: (rowsM (b + 2) rs ++ _)
    rw [rowsM_snoc (b + 2) rs r, show b + 2 * (x :: rs).length = b + 2 + 2 * rs.length from by rw [List.length_cons]; omega]
def tpsM (n : Nat) : List A := (List.range n).map fun i => .o (2 * i + 3)
def fndM (kds : List (Key × D)) (s : List Nat) (rs : List (D × List D)) : List O := .dk kds :: .ls (tpsM rs.length) :: (rowsM 2 rs ++ [.tp [.d (.str s), .o 1]])
def cells (t : Tbl) : List (D × List D) := t.rows.map fun r => (optI r.1, r.2.map optN)
def R_least (as : List A) (M : List O) : Prop := M = [] ∧ ∃ t : Tbl, as = [.d (tblD t)] ∧ t.Ok
def T_least (as : List A) (_ : List O) (r : A) (M' : List O) : Prop := ∃ (t : Tbl) (kds : List (Key × D)), as = [.d (tblD t)] ∧ t.Ok ∧ r = .o (2 * (leastT t).rows.length + 2) ∧ M' = fndM kds t.signs (cells (leastT t))
abbrev Has_leastO (P : Program) (w : World) (K : PySem.W.Frag) (mg : Str → Option Value) (base : Heap) : Prop := Has P w K mg base "least" ["made"] 3 (SpX K R_least T_least)
theorem rowsM_cl : ∀ (b n : Nat) (rs : List (D × List D)), b + 2 * rs.length ≤ n → (rowsM b rs).all (clO n) = true
  | _, _, [], _ => rfl
  | b, n, r :: rs, h => by
    rw [List.length_cons] at h
    show (true && ((true && (decide (b < n) && true)) && (rowsM (b + 2) rs).all (clO n))) = true
    rw [rowsM_cl (b + 2) n rs (by omega), decide_eq_true (by omega)]
    rfl
theorem fndM_len (kds : List (Key × D)) (s : List Nat) (rs : List (D × List D)) : (fndM kds s rs).length = 2 * rs.length + 3 := by
  show (rowsM 2 rs ++ [_]).length + 1 + 1 = _
  rw [List.length_append, rowsM_len]
  rfl
theorem fndM_cl (kds : List (Key × D)) (s : List Nat) (rs : List (D × List D)) : (fndM kds s rs).all (clO (fndM kds s rs).length) = true := by
  rw [fndM_len]
  show (true && ((tpsM rs.length).all (clA _) && (rowsM 2 rs ++ [_]).all _)) = true
  rw [List.all_append, rowsM_cl 2 _ rs (by omega)]
  have : (tpsM rs.length).all (clA (2 * rs.length + 3)) = true := by
    refine List.all_eq_true.mpr fun a ha => ?_
    obtain ⟨i, hi, rfl⟩ := List.mem_map.mp ha
    exact decide_eq_true (by have := List.mem_range.mp hi; omega)
  rw [this]
  show (true && (true && (true && (true && (decide (1 < 2 * rs.length + 3) && true))))) = true
  rw [decide_eq_true (by omega)]
  rfl
theorem ok_leastO (DD : DefAt K mg "least" s_least ["made"]) (H_with_nowhere : Has_with_nowhere P w K mg base) (H_groups : Has_groups P w K mg base) (H_met : Has_met P w K mg base) (m_enumerate : mg "enumerate" = none) : Has_leastO P w K mg base := by
  refine okX DD sc_least (by rintro as M ⟨_, _, rfl, _⟩; rfl) fun _ _ _ _ _ _ _ hr => ⟨_, (pss_cons (ps_asg (pv 0) (pg_tup rfl (pgs_cons (pg_name (i := 1) sc_least.nd rfl (.inl rfl)) (pgs_cons (pg_name (i := 2) sc_least.nd rfl (.inl rfl)) pgs_nil))))
      (pss_cons (ps_set (i := 3) sc_least.nd rfl (.inl rfl) (pe_has H_with_nowhere (hr.mono (by decide)) (by rfl) (pa_cons (pv 0) pa_nil)))
      (pss_cons (ps_set (i := 4) sc_least.nd rfl (.inr rfl) (pe_has H_groups (hr.mono (by decide)) (by rfl) (pa_cons (pv 3) pa_nil)))
      (pss_cons (ps_set (i := 5) sc_least.nd rfl (.inl rfl) (pe_has H_met (hr.mono (by decide)) (by rfl) (pa_cons (pv 3) (pa_cons (pv 4) pa_nil))))
      (pss_cons (ps_set (i := 6) sc_least.nd rfl (.inr rfl) (pe_dc (own := [("number", 7), ("row", 8)]) (g := (gTup K 2 (gCons (gName 7) (gCons (gName 8) gNil)))) (tt := tYes) (by rfl) sc_least.nd (pi_enum (by rfl) m_enumerate (pa_cons (pv 5) pa_nil)) (blkOk_by (own := [("number", 7), ("row", 8)]) (N := ["made", "signs", "_", "rows", "groups", "met", "numbers", "number", "row", "kept", "told", "ways", "way"]) (sc := defScope s_least) (by decide +kernel)) (fun _ _ _ _ _ => (pg_tup rfl (pgs_cons (pg_name (i := 7) sc_least.nd rfl (.inl rfl)) (pgs_cons (pg_name (i := 8) sc_least.nd rfl (.inl rfl)) pgs_nil)))) (fun _ _ _ _ _ => pts_nil) (fun _ _ _ _ _ => (pe_ix (ixlK (K := K) rfl) (pv 4) (pv 8) (fun _ _ => rfl))) (fun _ _ _ _ _ => (pv 7))))
      (pss_cons (ps_dput (hu_of hr) (pv 6) (pe_ix ix_list (pv 4) (pe_un un_neg pe_int) (fun _ _ => rfl)) pe_non rfl)
      (pss_cons (ps_set (i := 9) sc_least.nd rfl (.inl rfl) (pe_lst pa_nil))
      (pss_cons (ps_for PassesOwn.never rfl (pi_list (pv 5)) (pg_name (i := 8) sc_least.nd rfl (.inl rfl)) (pss_cons (ps_asg (pe_ix ix_list (pv 3) (pv 8) (fun _ _ => rfl)) (pg_tup rfl (pgs_cons (pg_name (i := 10) sc_least.nd rfl (.inl rfl)) (pgs_cons (pg_name (i := 11) sc_least.nd rfl (.inl rfl)) pgs_nil))))
      (pss_one (ps_expr (pe_bm PySem.F.plainAttrs_list PySem.F.slot_list_append PySem.F.type_list_append mt_append (pv 9) (pa_cons (pe_tup (pa_cons (pv 10) (pa_cons (pe_lc (own := [("way", 12)]) (g := (gName 12)) (tt := tYes) (by rfl) sc_least.nd (pi_list (pv 11)) (blkOk_by (own := [("way", 12)]) (N := ["made", "signs", "_", "rows", "groups", "met", "numbers", "number", "row", "kept", "told", "ways", "way"]) (sc := defScope s_least) (by decide +kernel)) (fun _ _ _ _ _ => pg_name (i := 12) sc_least.nd rfl (Or.inl rfl)) (fun _ _ _ _ _ => pts_nil) (fun _ _ _ _ _ => (pe_dget (hu_of hr) (pv 6) (pe_ix (ixlK (K := K) rfl) (pv 4) (pv 12) (fun _ _ => rfl)) (fun _ _ => rfl)))) pa_nil))) pa_nil))))))
      (pss_one (ps_ret (pe_tup (pa_cons (pv 1) (pa_cons (pv 9) pa_nil))))))))))))), ?_⟩
  rintro as M ⟨rfl, t, rfl, ht⟩
  have hc := closed_ok ht
  have hm := ht.many
  have hgl := grpT_len t
  have hcl := closed_len t
  have hmo : MetOk (closed t).length (grpT t) (deadT t) (metT t) := metG_ok hc _ _
  have hmf := hmo.few
  refine ⟨?_, ?_⟩
  · rintro r M' ⟨t', kds, _, _, rfl, rfl⟩
    refine ⟨Nat.zero_le _, ?_, fndM_cl _ _ _⟩
    rw [fndM_len]
    exact decide_eq_true (by unfold cells; rw [List.length_map]; omega)
  let gs := grpT t
  let met := metT t
  have hrow : ∀ i, i < (closed t).length → L2.atI ((closed t).map crowD) (i : Nat) = some (.tup [optI ((closed t).getD i (none, [])).1, natsD (waysC (closed t) i)]) := fun i hi => atI_of (j := i) rfl (by rw [List.getElem?_map, getD_get (none, []) hi]; rfl)
  have hgrp : ∀ i, i < (closed t).length → L2.atI (gs.map natD) (i : Nat) = some (natD (grp gs i)) := fun i hi => atI_of (j := i) rfl (by rw [List.getElem?_map, getD_get 0 (by show i < (grpT t).length; omega)]; rfl)
  have hmet : ∀ i, i < met.length → met.getD i 0 < (closed t).length := fun i hi => hmo.ins _ (List.mem_of_getElem? (getD_get 0 hi))
  refine as_seq (as_asgG (ae_var rfl rfl) (ag_tup (ags_name (ags_name (ags_nil ?_)))))
  refine as_seq (as_asg (an_call (al_cons (ae_var rfl rfl) al_nil) rfl ⟨t, rfl, ht, rfl⟩).ae ?_)
  refine as_seq (as_asg (ae_call (al_cons (ae_var rfl rfl) al_nil) rfl ⟨closed t, rfl, hc, rfl⟩) ?_)
  refine as_seq (as_asg (an_call (al_cons (ae_var rfl rfl) (al_cons (ae_var rfl rfl) al_nil)) rfl ⟨closed t, gs, rfl, hc, by show (grpT t).length = _; omega, rfl⟩).ae ?_)
  have hdead : grp gs ((closed t).length - 1) = deadT t := by rw [hcl]; rfl
  show AS K 0 _ _ ⟨[.d (tblD t), .d (.str t.signs), .d (.lst (t.rows.map rowD)), .d (.lst ((closed t).map crowD)), .d (natsD gs), .d (natsD (metG (closed t) gs (grp gs ((closed t).length - 1)))), .no, .no, .no, .no, .no, .no, .no], []⟩
  rw [hdead]
  show AS K 0 _ _ ⟨[.d (tblD t), .d (.str t.signs), .d (.lst (t.rows.map rowD)), .d (.lst ((closed t).map crowD)), .d (natsD gs), .d (natsD met), .no, .no, .no, .no, .no, .no, .no], []⟩
  -- numbers
  let kd0 := dcK (fun i => .inl (grp gs (met.getD i 0) : Nat)) (fun i => natD i) met.length
  refine as_seq (as_asgX (ax_dc (n := met.length) (f := fun i => .tup [.int (i : Nat), natD (met.getD i 0)]) (fun i => .inl (grp gs (met.getD i 0) : Nat)) (fun i => natD i) (ai_enum (al_cons (ae_var rfl rfl) al_nil) (List.length_map ..) (fun i hi => by rw [List.getElem?_map, getD_get 0 hi]; rfl)) (by show (metT t).length ≤ _; omega)
    (fun i hi => ⟨_, agw_two (by decide), ae_op (ae_var rfl rfl) (ae_var rfl rfl) (a2_ixL (hgrp _ (hmet i hi))), ae_var rfl rfl⟩) ?_))
  have hkl : kd0.length ≤ (metT t).length := dcK_len _ _ _
  refine as_seq (as_dput (k := .inl (deadT t : Nat)) ae_non (ae_var rfl rfl) (ae_op (ae_var rfl rfl) (ae_un ae_int a1_neg) (a2_ixL (d := natD (deadT t)) ?_)) rfl (by show kd0.length < _; omega) ?_)
  · unfold L2.atI
    rw [List.length_map]
    have hgs : gs.length = t.rows.length + 1 := hgl
    have : L2.ixN gs.length (-1) = some t.rows.length := by
      unfold L2.ixN
      rw [if_neg (by decide), if_pos (by omega)]
      congr 1
      omega
    rw [this]
    show (gs.map natD)[t.rows.length]? = _
    rw [List.getElem?_map, getD_get 0 (by show _ < (grpT t).length; omega)]
    rfl
  refine as_seq (as_asgN (an_lst' (ds := []) ald_nil) ?_)
  refine as_ls 1 rfl ?_
  have hul : (leastT t).rows.length = met.length := List.length_map _
  have hcell : ∀ i, i < met.length → (cells (leastT t))[i]? = some (optI ((closed t).getD (met.getD i 0) (none, [])).1, ((waysC (closed t) (met.getD i 0)).map fun w => optN (if grp gs w = deadT t then none else some (ixk (grp gs w) (met.map (grp gs)))))) := fun i hi => by
    unfold cells leastT
    show (List.map _ (List.map _ _))[i]? = _
    rw [List.getElem?_map, List.getElem?_map, getD_get (xs := metT t) 0 hi]
    show some (_, List.map _ (List.map _ _)) = _
    rw [List.map_map]
    rfl
  have hcl2 : (cells (leastT t)).length = met.length := by
    unfold cells
    rw [List.length_map, hul]
  refine as_forE_seq (fun i => ⟨[.d (tblD t), .d (.str t.signs), .no, .d (.lst ((closed t).map crowD)), .d (natsD gs), .d (natsD met), .o 0, .no, .no, .o 1, .no, .no, .no], some (.dk (leastK t)) :: some (.ls (tpsM i)) :: (rowsM 2 ((cells (leastT t)).take i)).map some⟩)
    (ai_list (n := met.length) (f := fun i => natD (met.getD i 0)) (ae_var rfl rfl) (List.length_map ..) (fun i hi => by rw [List.getElem?_map, getD_get 0 hi]; rfl))
    ⟨⟨.inr rfl, .inr rfl, .inl rfl, .inr rfl, .inr rfl, .inr rfl, .inr rfl, .inl rfl, .inl rfl, .inr rfl, .inl rfl, .inl rfl, .inl rfl, trivial⟩, rfl⟩ (fun i hi => ?_) ?_
  · refine ag_name ?_
    have hmi := hmet i hi
    have hwin := waysC_in hc (met.getD i 0)
    have hwid := waysC_wid hc (met.getD i 0)
    have hml : (metT t).length = met.length := rfl
    refine as_seq (as_asgG (ae_op (ae_var rfl rfl) (ae_var rfl rfl) (a2_ixL (hrow _ hmi))) (ag_tup (ags_name (ags_name (ags_nil ?_)))))
    refine as_appO (k := 1) (ae_var rfl rfl) rfl (ax_tupO (axl_cons ((ae_var rfl rfl).ax (axl_cons (((an_lcN (n := (waysC (closed t) (met.getD i 0)).length) (f := fun j => natD ((waysC (closed t) (met.getD i 0)).getD j 0)) (fun j => optN (if grp gs ((waysC (closed t) (met.getD i 0)).getD j 0) = deadT t then none else some (ixk (grp gs ((waysC (closed t) (met.getD i 0)).getD j 0)) (met.map (grp gs)))))
      (ai_list (ae_var rfl rfl) (List.length_map ..) (fun j hj => by rw [List.getElem?_map, getD_get 0 hj]; rfl)) (by omega) fun j hj => ?_).eq (range_map (f := fun w => optN (if grp gs w = deadT t then none else some (ixk (grp gs w) (met.map (grp gs))))) fun j x hx => by rw [getD_of 0 hx])).ax (axl_nil ⟨by show 2 ≤ 1000000; decide, tpsM i, rfl, ?_, ?_⟩))))))
    · have hw := List.mem_of_getElem? (getD_get 0 hj)
      exact ae_dgetO (k := .inl (grp gs ((waysC (closed t) (met.getD i 0)).getD j 0) : Nat)) (ae_var rfl rfl) rfl (ae_op (ae_var rfl rfl) (ae_var rfl rfl) (a2_ixL (hgrp _ (hwin _ hw)))) (leastK_val ht (metG_closed hc (List.mem_of_getElem? (getD_get 0 hi)) _ hw))
    · unfold tpsM
      rw [List.length_map, List.length_range]
      omega
    · have hci := hcell i hi
      have tk : (cells (leastT t)).take (i + 1) = (cells (leastT t)).take i ++ [(optI ((closed t).getD (met.getD i 0) (none, [])).1, ((waysC (closed t) (met.getD i 0)).map fun w => optN (if grp gs w = deadT t then none else some (ixk (grp gs w) (met.map (grp gs))))))] := by
        rw [List.take_add_one, hci]
        rfl
      have hti : ((cells (leastT t)).take i).length = i := by rw [List.length_take]; omega
      have hri : (rowsM 2 ((cells (leastT t)).take i)).length = 2 * i := by rw [rowsM_len, hti]
      rw [tk, rowsM_snoc, hti]
      have htp : tpsM (i + 1) = tpsM i ++ [.o (2 * i + 3)] := by
        unfold tpsM
        rw [List.range_succ, List.map_append]
        rfl
      rw [htp]
      refine ⟨⟨.inr rfl, .inr rfl, .inr rfl, .inr rfl, .inr rfl, .inr rfl, .inr rfl, .inr rfl, .inl rfl, .inr rfl, .inl rfl, .inl rfl, .inr rfl, trivial⟩, ?_⟩
      generalize hR : (rowsM 2 ((cells (leastT t)).take i)).map some = R
      have hRl : R.length = 2 * i := by rw [← hR, List.length_map, hri]
      rw [List.map_append, hR]
      have hL : (some (O.dk (leastK t)) :: some (O.ls (tpsM i)) :: R).length = 2 * i + 2 := by rw [List.length_cons, List.length_cons, hRl]
      have hL' : ((some (O.dk (leastK t)) :: some (O.ls (tpsM i)) :: R) ++ [some (O.lst ((waysC (closed t) (met.getD i 0)).map fun w => optN (if grp gs w = deadT t then none else some (ixk (grp gs w) (met.map (grp gs))))))]).length = 2 * i + 3 := by rw [List.length_append, hL]; rfl
      show some _ :: some (O.ls (tpsM i ++ [.o ((some (O.dk (leastK t)) :: some (O.ls (tpsM i)) :: R) ++ [some (O.lst ((waysC (closed t) (met.getD i 0)).map fun w => optN (if grp gs w = deadT t then none else some (ixk (grp gs w) (met.map (grp gs))))))]).length])) :: ((R ++ [_]) ++ [some (O.tp [_, .o (some (O.dk (leastK t)) :: some (O.ls (tpsM i)) :: R).length])]) = _
      rw [hL, hL', List.append_assoc, Nat.add_comm (2 * i) 2]
      rfl
  · have hti : (cells (leastT t)).take met.length = cells (leastT t) := List.take_of_length_le (by omega)
    rw [hti]
    refine as_retX (ax_tupO (axl_cons ((ae_var rfl rfl).ax (axl_cons ((ae_var rfl rfl).ax (axl_nil ⟨by show 2 ≤ 1000000; decide, fndM (leastK t) t.signs (cells (leastT t)), ⟨t, leastK t, rfl, ht, ?_, rfl⟩, ?_⟩))))))
    · show A.o (some (O.dk (leastK t)) :: some (O.ls (tpsM met.length)) :: (rowsM 2 (cells (leastT t))).map some).length = _
      rw [List.length_cons, List.length_cons, List.length_map, rowsM_len, hcl2, hul]
    · refine ⟨[], ?_⟩
      rw [List.append_nil]
      unfold fndM
      rw [hcl2, List.map_cons, List.map_cons, List.map_append]
      rfl
theorem rowsM_get : ∀ (b : Nat) (rs : List (D × List D)) (i : Nat) (r : D × List D), rs[i]? = some r → (rowsM b rs)[2 * i]? = some (.lst r.2) ∧ (rowsM b rs)[2 * i + 1]? = some (.tp [.d r.1, .o (b + 2 * i)])
  | b, x :: rs, 0, r, h => by
    cases h
    exact ⟨rfl, rfl⟩
  | b, x :: rs, i + 1, r, h => by
    obtain ⟨h1, h2⟩ := rowsM_get (b + 2) rs i r h
    rw [show 2 * (i + 1) = 2 * i + 1 + 1 from by omega]
    refine ⟨h1, ?_⟩
    show (rowsM (b + 2) rs)[2 * i + 1]? = _
    rw [h2, show b + 2 + 2 * i = b + (2 * i + 1 + 1) from by omega]
/-- where the parts of it stand -/
theorem fndM_get (kds : List (Key × D)) (s : List Nat) (rs : List (D × List D)) : (fndM kds s rs)[1]? = some (.ls (tpsM rs.length)) ∧ (fndM kds s rs)[2 * rs.length + 2]? = some (.tp [.d (.str s), .o 1]) ∧
    ∀ i r, rs[i]? = some r → (fndM kds s rs)[2 * i + 2]? = some (.lst r.2) ∧ (fndM kds s rs)[2 * i + 3]? = some (.tp [.d r.1, .o (2 * i + 2)]) := by
  refine ⟨rfl, ?_, fun i r h => ?_⟩
  · show (rowsM 2 rs ++ [_])[2 * rs.length]? = _
    rw [List.getElem?_append_right (by rw [rowsM_len]; exact Nat.le_refl _), rowsM_len, Nat.sub_self]
    rfl
  · have hi := (List.getElem?_eq_some_iff.mp h).1
    obtain ⟨h1, h2⟩ := rowsM_get 2 rs i r h
    refine ⟨?_, ?_⟩
    · show (rowsM 2 rs ++ [_])[2 * i]? = _
      rw [List.getElem?_append_left (by rw [rowsM_len]; omega)]
      exact h1
    · show (rowsM 2 rs ++ [_])[2 * i + 1]? = _
      rw [List.getElem?_append_left (by rw [rowsM_len]; omega), h2, Nat.add_comm 2 (2 * i)]
def cellD (r : D × List D) : D := .tup [r.1, .lst r.2]
theorem rds_of {m : List (Option O)} : ∀ {as : List A} {ds : List D}, as.length = ds.length → (∀ (i : Nat) (a : A) (d : D), as[i]? = some a → ds[i]? = some d → Rd m a d) → Rds m as ds
  | [], [], _, _ => .nil
  | a :: as, d :: ds, hl, h => .cons (h 0 a d rfl rfl) (rds_of (Nat.succ.inj hl) fun i a d h1 h2 => h (i + 1) a d h1 h2)
theorem fndM_rd (kds : List (Key × D)) (s : List Nat) (rs : List (D × List D)) : Rd ((fndM kds s rs).map some) (.o (2 * rs.length + 2)) (.tup [.str s, .lst (rs.map cellD)]) := by
  obtain ⟨h1, h2, h3⟩ := fndM_get kds s rs
  have up : ∀ {k : Nat} {o : O}, (fndM kds s rs)[k]? = some o → ((fndM kds s rs).map some)[k]? = some (some o) := fun {k o} h => by rw [List.getElem?_map, h]; rfl
  refine .tp (up h2) (.cons .d (.cons (.ls (up h1) (rds_of ?_ fun i a d ha hd => ?_)) .nil))
  · unfold tpsM
    rw [List.length_map, List.length_map, List.length_range]
  · rw [List.getElem?_map] at hd
    cases hr : rs[i]? with
    | none =>
      rw [hr] at hd
      cases hd
    | some r =>
      rw [hr] at hd
      cases hd
      have hi := (List.getElem?_eq_some_iff.mp hr).1
      unfold tpsM at ha
      rw [List.getElem?_map, List.getElem?_range hi] at ha
      cases ha
      obtain ⟨h4, h5⟩ := h3 i r hr
      exact .tp (up h5) (.cons .d (.cons (.lst (up h4)) .nil))
theorem cells_D (t : Tbl) : (.tup [.str t.signs, .lst ((cells t).map cellD)] : D) = tblD t := by
  unfold cells tblD
  rw [List.map_map]
  rfl
def R_leastF (as : List A) (r : A) : Prop := ∃ t : Tbl, as = [.d (tblD t)] ∧ t.Ok ∧ r = .d (tblD (leastT t))
abbrev Has_least (P : Program) (w : World) (K : PySem.W.Frag) (mg : Str → Option Value) (base : Heap) : Prop := Has P w K mg base "least" ["made"] 3 (SpF K R_leastF)
theorem Has_leastO.data (h : Has_leastO P w K mg base) : Has_least P w K mg base := has_frz h (by
  rintro as r ⟨t, rfl, ht, rfl⟩
  refine ⟨⟨rfl, t, rfl, ht⟩, ?_⟩
  rintro a M' ⟨t', kds, e, ht', rfl, rfl⟩
  refine ⟨_, rfl, ?_⟩
  have e : t = t' := tblD_inj (A.d.inj (List.cons.inj e).1)
  subst e
  rw [← cells_D]
  have hl : (leastT t).rows.length = (cells (leastT t)).length := (List.length_map _).symm
  rw [hl]
  exact fndM_rd _ _ _)
/-! ### _law_cell_at -/
abbrev s_law_cell_at : Stmt := topS 9
theorem sc_law_cell_at : FnScope ["_law_script", "_law_k"] ["_law_script", "_law_k"] (defScope s_law_cell_at) := ⟨rfl, rfl, rfl, by decide +kernel, rfl, by decide +kernel, by decide +kernel⟩
def R_law_cell_at (K : PySem.W.Frag) (as : List A) (r : A) : Prop := ∃ (ns : List Int) (k : Int), as = [.p (ScP K ns), .d (.int k)] ∧ 0 ≤ k ∧ r = .d (.int (cell ns k))
abbrev Has_law_cell_at (P : Program) (w : World) (K : PySem.W.Frag) (mg : Str → Option Value) (base : Heap) : Prop := Has P w K mg base "_law_cell_at" ["_law_script", "_law_k"] 1 (SpF K (R_law_cell_at K))
theorem ok_law_cell_at (DD : DefAt K mg "_law_cell_at" s_law_cell_at ["_law_script", "_law_k"]) (m_len : mg "len" = none) : Has_law_cell_at P w K mg base := by
  refine okF DD sc_law_cell_at (by rintro as r ⟨_, _, rfl, _⟩; rfl) fun _ _ _ _ _ _ _ hr => ⟨_, (pss_cons (ps_if (pt_cmpR op_lt (pv 1) (pe_callB call_len (by rfl) m_len (by decide +kernel) (pa_cons (pv 0) pa_nil)) (nomark _)) (pss_one (ps_ret (pe_ix ix_list (pv 0) (pv 1) (fun _ _ => rfl)))) pss_nil)
      (pss_one (ps_ret pe_int))), ?_⟩
  rintro as r ⟨ns, k, rfl, h0, rfl⟩
  -- if _law_k < len(_law_script):
  refine as_seq (as_if (at_val (ae_op (ae_var rfl rfl) (ae_cb (al_cons (ae_var rfl rfl) al_nil) ac_lenP) a2_I0b)) (fun h => ?_) (fun h => ?_))
  · exact as_ret (ae_op (ae_var rfl rfl) (ae_var rfl rfl) (a2_ixP (cell_at h0 (of_decide_eq_true h)))) ⟨rfl, rfl⟩
  · refine as_next (as_ret ae_int ⟨?_, rfl⟩)
    rw [cell_out (of_decide_eq_false h)]
/-! ### _law_whole -/
abbrev s_law_whole : Stmt := topS 10
theorem sc_law_whole : FnScope ["_law_found"] ["_law_found"] (defScope s_law_whole) := ⟨rfl, rfl, rfl, by decide +kernel, rfl, by decide +kernel, by decide +kernel⟩
def isInt : D → Bool
  | .int _ => true
  | _ => false
def R_law_whole (as : List A) (r : A) : Prop := ∃ d : D, as = [.d d] ∧ r = .d (.bl (isInt d))
abbrev Has_law_whole (P : Program) (w : World) (K : PySem.W.Frag) (mg : Str → Option Value) (base : Heap) : Prop := Has P w K mg base "_law_whole" ["_law_found"] 1 (SpF K R_law_whole)
theorem kit_int (d : D) : kitB (tyD d) "int" = some (match d with | .int _ => true | .bl _ => true | _ => false) := by
  cases d with
  | non => exact (by decide +kernel : kitB "NoneType" "int" = some false)
  | bl _ => exact (by decide +kernel : kitB "bool" "int" = some true)
  | int _ => exact (by decide +kernel : kitB "int" "int" = some true)
  | str _ => exact (by decide +kernel : kitB "str" "int" = some false)
  | lst _ => exact (by decide +kernel : kitB "list" "int" = some false)
  | tup _ => exact (by decide +kernel : kitB "tuple" "int" = some false)
  | kt _ => exact (by decide +kernel : kitB "tuple" "int" = some false)
theorem kit_bool (d : D) : kitB (tyD d) "bool" = some (match d with | .bl _ => true | _ => false) := by
  cases d with
  | non => exact (by decide +kernel : kitB "NoneType" "bool" = some false)
  | bl _ => exact (by decide +kernel : kitB "bool" "bool" = some true)
  | int _ => exact (by decide +kernel : kitB "int" "bool" = some false)
  | str _ => exact (by decide +kernel : kitB "str" "bool" = some false)
  | lst _ => exact (by decide +kernel : kitB "list" "bool" = some false)
  | tup _ => exact (by decide +kernel : kitB "tuple" "bool" = some false)
  | kt _ => exact (by decide +kernel : kitB "tuple" "bool" = some false)
theorem ok_law_whole (DD : DefAt K mg "_law_whole" s_law_whole ["_law_found"]) (m_isinstance : mg "isinstance" = none) (m_bool : mg "bool" = none) (m_int : mg "int" = none) : Has_law_whole P w K mg base := by
  refine okF DD sc_law_whole (by rintro as r ⟨_, rfl, _⟩; rfl) fun _ _ _ _ _ _ _ hr => ⟨_, (pss_one (ps_ret (pe_and (pe_callB call_isi (by rfl) m_isinstance (by decide +kernel) (pa_cons (pv 0) (pa_cons (pe_bltn (v := .ty "int") (by rfl) m_int (by decide +kernel) rfl) pa_nil))) (pe_one (pe_not (pe_callB call_isi (by rfl) m_isinstance (by decide +kernel) (pa_cons (pv 0) (pa_cons (pe_bltn (v := .ty "bool") (by rfl) m_bool (by decide +kernel) rfl) pa_nil)))))))), ?_⟩
  rintro as r ⟨d, rfl, rfl⟩
  refine as_ret (ae_and2 (ae_cb (al_cons (ae_var rfl rfl) (al_cons ae_ty al_nil)) (ac_isi (kit_int d))) fun h => (ae_notV (ae_cb (al_cons (ae_var rfl rfl) (al_cons ae_ty al_nil)) (ac_isi (kit_bool d))))) ⟨?_, rfl⟩
  cases d <;> rfl
/-! ### _law_sign_by -/
abbrev s_law_sign_by : Stmt := topS 11
theorem sc_law_sign_by : FnScope ["_law_cell", "_law_some"] ["_law_cell"] (defScope s_law_sign_by) := ⟨rfl, rfl, rfl, by decide +kernel, rfl, by decide +kernel, by decide +kernel⟩
def R_law_sign_by (as : List A) (r : A) : Prop := ∃ c : Int, as = [.d (.int c)] ∧ r = .d (.str [sgn c])
abbrev Has_law_sign_by (P : Program) (w : World) (K : PySem.W.Frag) (mg : Str → Option Value) (base : Heap) : Prop := Has P w K mg base "_law_sign_by" ["_law_cell"] 1 (SpF K R_law_sign_by)
theorem ok_law_sign_by (DD : DefAt K mg "_law_sign_by" s_law_sign_by ["_law_cell"]) : Has_law_sign_by P w K mg base := by
  refine okF DD sc_law_sign_by (by rintro as r ⟨_, rfl, _⟩; rfl) fun _ _ _ _ _ _ _ hr => ⟨_, (pss_cons (ps_set (i := 1) sc_law_sign_by.nd rfl (.inl rfl) pe_str)
      (pss_cons (ps_set (i := 1) sc_law_sign_by.nd rfl (.inl rfl) (pe_op op_add_str (pv 1) pe_str))
      (pss_one (ps_ret (pe_ix ix_str (pv 1) (pe_op op_mod (pv 0) pe_int) (fun _ _ => rfl)))))), ?_⟩
  rintro as r ⟨c, rfl, rfl⟩
  refine as_seq (as_asg (ae_str (s := abc1) (by decide +kernel)) ?_)
  refine as_seq (as_asg (ae_op (ae_var rfl rfl) (ae_str (s := abc2) (by decide +kernel)) (a2_addS (by decide +kernel))) ?_)
  exact as_ret (ae_op (ae_var rfl rfl) (ae_op (ae_var rfl rfl) ae_int (a2_I (by decide))) (a2_ixS (s := abc1 ++ abc2) (by decide +kernel) (sgn_at c))) ⟨rfl, rfl⟩
/-! ### _law_letters -/
abbrev s_law_letters : Stmt := topS 12
theorem sc_law_letters : FnScope ["_law_cell", "_law_gap", "_law_size", "_law_signs", "_law_k"] ["_law_cell"] (defScope s_law_letters) := ⟨rfl, rfl, rfl, by decide +kernel, rfl, by decide +kernel, by decide +kernel⟩
abbrev strsD (ls : List (List Nat)) : D := .lst (ls.map .str)
def R_law_letters (as : List A) (r : A) : Prop := ∃ c : Int, as = [.d (.int c)] ∧ r = .d (strsD (letters c))
abbrev Has_law_letters (P : Program) (w : World) (K : PySem.W.Frag) (mg : Str → Option Value) (base : Heap) : Prop := Has P w K mg base "_law_letters" ["_law_cell"] 2 (SpF K R_law_letters)
theorem cut_letter (c : Int) {k : Nat} (hk : k < 5) : cutG (lsigns c) (some ((k : Int) * gsize c)) (some ((k : Int) * gsize c + gsize c)) = letter c k := by
  have h := gsize_b c
  have e : gsize c = ((gsize c).toNat : Int) := by omega
  have h1 : k * (gsize c).toNat ≤ 4 * (gsize c).toNat := Nat.mul_le_mul_right _ (by omega)
  have hl := lsigns_len c
  have e1 : (k : Int) * gsize c = ((k * (gsize c).toNat : Nat) : Int) := by
    rw [Int.natCast_mul, ← e]
  have e2 : (k : Int) * gsize c + gsize c = ((k * (gsize c).toNat + (gsize c).toNat : Nat) : Int) := by
    rw [Int.natCast_add, ← e1, ← e]
  unfold cutG letter
  rw [e2, e1, HT.sIx_nat, HT.sIx_nat, Nat.min_eq_left (by omega), Nat.min_eq_left (by omega), Nat.add_sub_cancel_left]
theorem ok_law_letters (DD : DefAt K mg "_law_letters" s_law_letters ["_law_cell"]) (H_law_sign_by : Has_law_sign_by P w K mg base) (m_range : mg "range" = none) : Has_law_letters P w K mg base := by
  refine okF DD sc_law_letters (by rintro as r ⟨_, rfl, _⟩; rfl) fun _ _ _ _ _ _ _ hr => ⟨_, (pss_cons (ps_set (i := 1) sc_law_letters.nd rfl (.inr rfl) (pe_ix ix_list (pe_lst (pa_cons pe_int (pa_cons pe_int (pa_cons pe_int (pa_cons pe_int (pa_cons pe_int (pa_cons pe_int (pa_cons pe_int (pa_cons pe_int pa_nil))))))))) (pe_op op_mod (pe_op op_fdiv (pv 0) pe_int) pe_int) (fun _ _ => rfl)))
      (pss_cons (ps_set (i := 2) sc_law_letters.nd rfl (.inr rfl) pe_int)
      (pss_cons (ps_if (pt_cmpR op_eq (pe_op op_mod (pe_op op_fdiv (pv 0) pe_int) pe_int) pe_int (nomark _)) (pss_one (ps_set (i := 2) sc_law_letters.nd rfl (.inr rfl) (pe_op op_add (pe_op op_add pe_int (pe_op op_mod (pe_op op_fdiv (pv 0) pe_int) pe_int)) (pe_op op_mul pe_int (pe_op op_mod (pe_op op_fdiv (pv 0) pe_int) pe_int))))) pss_nil)
      (pss_cons (ps_set (i := 3) sc_law_letters.nd rfl (.inr rfl) (pe_lc (own := [("_law_k", 4)]) (g := gName 4) (tt := tYes) (by rfl) sc_law_letters.nd (pi_range1 (by rfl) m_range (pa_cons (pe_op op_mul pe_int (pv 2)) pa_nil)) (blkOk_by (own := [("_law_k", 4)]) (N := ["_law_cell", "_law_gap", "_law_size", "_law_signs", "_law_k"]) (sc := defScope s_law_letters) (by decide +kernel)) (fun _ _ _ _ _ => pg_name (i := 4) sc_law_letters.nd rfl (Or.inl rfl)) (fun _ _ _ _ _ => pts_nil) (fun _ _ _ _ _ => (pe_has H_law_sign_by (hr.mono (by decide)) (by rfl) (pa_cons (pe_op op_add (pv 0) (pe_op op_mul (pv 4) (pv 1))) pa_nil)))))
      (pss_one (ps_ret (pe_lc (own := [("_law_k", 4)]) (g := gName 4) (tt := tYes) (by rfl) sc_law_letters.nd (pi_range1 (by rfl) m_range (pa_cons pe_int pa_nil)) (blkOk_by (own := [("_law_k", 4)]) (N := ["_law_cell", "_law_gap", "_law_size", "_law_signs", "_law_k"]) (sc := defScope s_law_letters) (by decide +kernel)) (fun _ _ _ _ _ => pg_name (i := 4) sc_law_letters.nd rfl (Or.inl rfl)) (fun _ _ _ _ _ => pts_nil) (fun _ _ _ _ _ => (pe_joinK (K := K) rfl pe_str (pe_slice (sllK (K := K) rfl) (pv 3) (po_some (pe_op op_mul (pv 4) (pv 2))) (po_some (pe_op op_add (pe_op op_mul (pv 4) (pv 2)) (pv 2))))))))))))), ?_⟩
  rintro as r ⟨c, rfl, rfl⟩
  have hg := gap_b c
  have hs := gsize_b c
  -- _law_gap = [..][_law_cell // 96 % 8]
  refine as_seq (as_asg (ae_op (an_lst' (ald_cons ae_int (ald_cons ae_int (ald_cons ae_int (ald_cons ae_int (ald_cons ae_int (ald_cons ae_int (ald_cons ae_int (ald_cons ae_int ald_nil))))))))).ae (ae_op (ae_op (ae_var rfl rfl) ae_int (a2_I ⟨by decide, by decide⟩)) ae_int (a2_I (by decide))) (a2_ixL (gap_at c))) ?_)
  -- _law_size
  refine as_seq (as_asg ae_int ?_)
  refine as_seq (as_ifset (at_val (ae_op (ae_op (ae_op (ae_var rfl rfl) ae_int (a2_I ⟨by decide, by decide⟩)) ae_int (a2_I (by decide))) ae_int a2_eqI)) (fun h => (ae_op (ae_op ae_int (ae_op (ae_op (ae_var rfl rfl) ae_int (a2_I ⟨by decide, by decide⟩)) ae_int (a2_I (by decide))) a2_I0) (ae_op ae_int (ae_op (ae_op (ae_var rfl rfl) ae_int (a2_I ⟨by decide, by decide⟩)) ae_int (a2_I (by decide))) (a2_I (.inl ⟨by decide, by decide⟩))) a2_I0)) rfl ?_)
  have e2 : (if decide (c / 768 % 4 = 1) = true then (D.int (2 + c / 3072 % 8 + 10 * (c / 24576 % 2))) else .int 1) = .int (gsize c) := by
    unfold gsize
    split <;> rfl
  rw [e2]
  -- _law_signs
  refine as_seq (as_asg (AN.ae (an_lcN (fun i => .str [sgn (c + (i : Nat) * gap c)]) (ai_rng1 (al_cons (ae_op ae_int (ae_var rfl rfl) (a2_I (.inl ⟨by decide, by decide⟩))) al_nil) (by omega) (by omega)) (by omega) fun i hi => (ae_call (al_cons (ae_op (ae_var rfl rfl) (ae_op (ae_var rfl rfl) (ae_var rfl rfl) (a2_I (.inr ⟨by omega, by omega⟩))) a2_I0) al_nil) rfl ⟨_, rfl, rfl⟩))) ?_)
  have e3 : ((List.range (5 * gsize c).toNat).map fun i => D.str [sgn (c + (i : Nat) * gap c)]) = (((lsigns c).map fun x => [x]).map D.str) := by
    unfold lsigns
    rw [List.map_map, List.map_map]
    rfl
  rw [e3]
  -- the groups
  refine as_ret (AN.ae (an_lcN (fun k => .str (letter c k)) (ai_rng1 (al_cons ae_int al_nil) (by decide) (by decide)) (by decide) fun i hi => ?_)) ⟨?_, rfl⟩
  · have hi : i < 5 := hi
    refine ae_m1 ae_str (AN.ae (an_slL (ae_var rfl rfl) (ao_some (ae_op (ae_var rfl rfl) (ae_var rfl rfl) (a2_I (.inr ⟨by omega, by omega⟩)))) (ao_some (ae_op (ae_op (ae_var rfl rfl) (ae_var rfl rfl) (a2_I (.inr ⟨by omega, by omega⟩))) (ae_var rfl rfl) a2_I0)))) (am_joinT ((letter c i).map fun x => [x]) ?_ ?_ ones_join)
    · rw [cutG_map, cutG_map, cut_letter c hi]
    · rw [ones_sum, letter_len c hi]
      show _ + _ * 0 ≤ _
      omega
  · unfold letters strsD
    rw [List.map_map]
    rfl
/-! ### _law_table_form -/
abbrev s_law_table_form : Stmt := topS 13
theorem sc_law_table_form : FnScope ["_law_found", "_law_row", "_law_way"] ["_law_found"] (defScope s_law_table_form) := ⟨rfl, rfl, rfl, by decide +kernel, rfl, by decide +kernel, by decide +kernel⟩
def TNat (t : Tbl) : Prop := ∀ r ∈ t.rows, ∀ v, r.1 = some v → 0 ≤ v
def R_law_table_form (as : List A) (r : A) : Prop := ∃ t : Tbl, as = [.d (tblD t)] ∧ t.Ok ∧ TNat t ∧ r = .d (.bl true)
abbrev Has_law_table_form (P : Program) (w : World) (K : PySem.W.Frag) (mg : Str → Option Value) (base : Heap) : Prop := Has P w K mg base "_law_table_form" ["_law_found"] 2 (SpF K R_law_table_form)
theorem kitTT : kitB "tuple" "tuple" = some true := by decide +kernel
theorem kitSS : kitB "str" "str" = some true := by decide +kernel
theorem kitLL : kitB "list" "list" = some true := by decide +kernel
theorem ok_law_table_form (DD : DefAt K mg "_law_table_form" s_law_table_form ["_law_found"]) (H_law_whole : Has_law_whole P w K mg base) (m_len : mg "len" = none) (m_isinstance : mg "isinstance" = none) (m_tuple : mg "tuple" = none) (m_list : mg "list" = none) (m_str : mg "str" = none) : Has_law_table_form P w K mg base := by
  refine okF DD sc_law_table_form (by rintro as r ⟨_, rfl, _⟩; rfl) fun _ _ _ _ _ _ _ hr => ⟨_, (pss_cons (ps_if (PW.pt (pw_or (pt_not (pt_val (pe_callB call_isi (by rfl) m_isinstance (by decide +kernel) (pa_cons (pv 0) (pa_cons (pe_bltn (v := .ty "tuple") (by rfl) m_tuple (by decide +kernel) rfl) pa_nil))))) (pw_or1 (pt_cmpR op_ne (pe_callB call_len (by rfl) m_len (by decide +kernel) (pa_cons (pv 0) pa_nil)) pe_int (nomark _))))) (pss_one (ps_ret pe_bl)) pss_nil)
      (pss_cons (ps_if (PW.pt (pw_or (pt_not (pt_val (pe_callB call_isi (by rfl) m_isinstance (by decide +kernel) (pa_cons (pe_ix ix_tup (pv 0) pe_int (fun _ _ => rfl)) (pa_cons (pe_bltn (v := .ty "str") (by rfl) m_str (by decide +kernel) rfl) pa_nil))))) (pw_or (pt_not (pt_val (pe_callB call_isi (by rfl) m_isinstance (by decide +kernel) (pa_cons (pe_ix ix_tup (pv 0) pe_int (fun _ _ => rfl)) (pa_cons (pe_bltn (v := .ty "list") (by rfl) m_list (by decide +kernel) rfl) pa_nil))))) (pw_or1 (pt_cmpR op_eq (pe_callB call_len (by rfl) m_len (by decide +kernel) (pa_cons (pe_ix ix_tup (pv 0) pe_int (fun _ _ => rfl)) pa_nil)) pe_int (nomark _)))))) (pss_one (ps_ret pe_bl)) pss_nil)
      (pss_cons (ps_for PassesOwn.never rfl (pi_list (pe_ix ix_tup (pv 0) pe_int (fun _ _ => rfl))) (pg_name (i := 1) sc_law_table_form.nd rfl (.inl rfl)) (pss_cons (ps_if (PW.pt (pw_or (pt_not (pt_val (pe_callB call_isi (by rfl) m_isinstance (by decide +kernel) (pa_cons (pv 1) (pa_cons (pe_bltn (v := .ty "tuple") (by rfl) m_tuple (by decide +kernel) rfl) pa_nil))))) (pw_or (pt_cmpR op_ne (pe_callB call_len (by rfl) m_len (by decide +kernel) (pa_cons (pv 1) pa_nil)) pe_int (nomark _)) (pw_or1 (pt_not (pt_val (pe_callB call_isi (by rfl) m_isinstance (by decide +kernel) (pa_cons (pe_ix ix_tup (pv 1) pe_int (fun _ _ => rfl)) (pa_cons (pe_bltn (v := .ty "list") (by rfl) m_list (by decide +kernel) rfl) pa_nil))))))))) (pss_one (ps_ret pe_bl)) pss_nil)
      (pss_cons (ps_if (PW.pt (pw_or (PW.pt (pw_and (pt_cmpR op_notN (pe_ix ix_tup (pv 1) pe_int (fun _ _ => rfl)) pe_non (nomark _)) (pw_and1 (PW.pt (pw_or (pt_not (pt_val (pe_has H_law_whole (hr.mono (by decide)) (by rfl) (pa_cons (pe_ix ix_tup (pv 1) pe_int (fun _ _ => rfl)) pa_nil)))) (pw_or1 (pt_cmpR op_lt (pe_ix ix_tup (pv 1) pe_int (fun _ _ => rfl)) pe_int (nomark _)))))))) (pw_or1 (pt_cmpR op_ne (pe_callB call_len (by rfl) m_len (by decide +kernel) (pa_cons (pe_ix ix_tup (pv 1) pe_int (fun _ _ => rfl)) pa_nil)) (pe_callB call_len (by rfl) m_len (by decide +kernel) (pa_cons (pe_ix ix_tup (pv 0) pe_int (fun _ _ => rfl)) pa_nil)) (nomark _))))) (pss_one (ps_ret pe_bl)) pss_nil)
      (pss_one (ps_for PassesOwn.never rfl (pi_list (pe_ix ix_tup (pv 1) pe_int (fun _ _ => rfl))) (pg_name (i := 2) sc_law_table_form.nd rfl (.inl rfl)) (pss_one (ps_if (PW.pt (pw_and (pt_cmpR op_notN (pv 2) pe_non (nomark _)) (pw_and1 (PW.pt (pw_or (pt_not (pt_val (pe_has H_law_whole (hr.mono (by decide)) (by rfl) (pa_cons (pv 2) pa_nil)))) (pw_or (pt_cmpR op_lt (pv 2) pe_int (nomark _)) (pw_or1 (pt_cmpR op_ge (pv 2) (pe_callB call_len (by rfl) m_len (by decide +kernel) (pa_cons (pe_ix ix_tup (pv 0) pe_int (fun _ _ => rfl)) pa_nil)) (nomark _))))))))) (pss_one (ps_ret pe_bl)) pss_nil)))))))
      (pss_one (ps_ret pe_bl))))), ?_⟩
  rintro as r ⟨t, rfl, ht, hn, rfl⟩
  have hf := ht.few
  have hm := ht.many
  refine as_seq (as_if (at_or (at_not (at_B (ae_cb (al_cons (ae_var rfl rfl) (al_cons ae_ty al_nil)) (ac_isi (b := true) kitTT)))) fun h => (at_val (ae_op (ae_cb (al_cons (ae_var rfl rfl) al_nil) ac_lenT) ae_int a2_neI))) (fun h => by simp at h) (fun h => ?_))
  refine as_next ?_
  refine as_seq (as_if (at_or (at_not (at_B (ae_cb (al_cons (ae_op (ae_var rfl rfl) ae_int (a2_ixT rfl)) (al_cons ae_ty al_nil)) (ac_isi (b := true) kitSS)))) fun h => (at_or (at_not (at_B (ae_cb (al_cons (ae_op (ae_var rfl rfl) ae_int (a2_ixT rfl)) (al_cons ae_ty al_nil)) (ac_isi (b := true) kitLL)))) fun h => (at_val (ae_op (ae_cb (al_cons (ae_op (ae_var rfl rfl) ae_int (a2_ixT rfl)) al_nil) ac_lenL) ae_int a2_eqI)))) (fun h => ?_) (fun h => ?_))
  · have hp := ht.pos
    rw [List.length_map] at h
    simp at h
    rw [h] at hp
    cases hp
  refine as_next ?_
  have get : ∀ i, i < t.rows.length → t.rows[i]? = some (t.rows.getD i (none, [])) := fun i hi => getD_get (none, []) hi
  refine as_forE_seq (fun i => ⟨[.d (tblD t), .no, .no], []⟩) (ai_list (n := t.rows.length) (f := fun i => rowD (t.rows.getD i (none, []))) (ae_op (ae_var rfl rfl) ae_int (a2_ixT rfl)) (List.length_map ..) (fun i hi => by rw [List.getElem?_map, get i hi]; rfl)) (Le.refl _) (fun i hi => ?_) ?_
  · refine ag_name ?_
    have hrm := List.mem_of_getElem? (get i hi)
    generalize t.rows.getD i (none, []) = row at hrm
    have hw := ht.wid row hrm
    have hin := ht.ins row hrm
    have hnn := hn row hrm
    obtain ⟨o, ws⟩ := row
    refine as_seq (as_if (at_or (at_not (at_B (ae_cb (al_cons (ae_var rfl rfl) (al_cons ae_ty al_nil)) (ac_isi (b := true) kitTT)))) fun h => (at_or (at_val (ae_op (ae_cb (al_cons (ae_var rfl rfl) al_nil) ac_lenT) ae_int a2_neI)) fun h => (at_not (at_B (ae_cb (al_cons (ae_op (ae_var rfl rfl) ae_int (a2_ixT rfl)) (al_cons ae_ty al_nil)) (ac_isi (b := true) kitLL)))))) (fun h => by simp at h) (fun h => ?_))
    refine as_next ?_
    have hlen : ((ws.map optN).length : Int) = t.signs.length := by rw [List.length_map]; exact congrArg _ hw
    refine as_seq (as_if (b := false) ?_ (fun h => by cases h) (fun h => ?_))
    · cases o with
      | none => exact (at_or (at_and (j := false) (at_val (ae_op (ae_op (ae_var rfl rfl) ae_int (a2_ixT rfl)) ae_non a2_notN)) fun h => by cases h) fun h => (at_val (ae_op (ae_cb (al_cons (ae_op (ae_var rfl rfl) ae_int (a2_ixT rfl)) al_nil) ac_lenL) (ae_cb (al_cons (ae_op (ae_var rfl rfl) ae_int (a2_ixT rfl)) al_nil) (ac_lenS (by omega))) a2_neI))).eq (by rw [hlen]; simp)
      | some v =>
        have hv := hnn v rfl
        exact (at_or (at_and (at_val (ae_op (ae_op (ae_var rfl rfl) ae_int (a2_ixT rfl)) ae_non a2_notN)) fun h => (at_or (at_not (at_B (ae_call (al_cons (ae_op (ae_var rfl rfl) ae_int (a2_ixT rfl)) al_nil) rfl ⟨_, rfl, rfl⟩))) fun h => (at_val (ae_op (ae_op (ae_var rfl rfl) ae_int (a2_ixT rfl)) ae_int a2_I0b)))) fun h => (at_val (ae_op (ae_cb (al_cons (ae_op (ae_var rfl rfl) ae_int (a2_ixT rfl)) al_nil) ac_lenL) (ae_cb (al_cons (ae_op (ae_var rfl rfl) ae_int (a2_ixT rfl)) al_nil) (ac_lenS (by omega))) a2_neI))).eq (by
          have e1 : decide (v < 0) = false := decide_eq_false (by omega)
          rw [hlen]
          simp [isInt, e1, optI])
    refine as_next ?_
    refine as_forE (fun j => ⟨[.d (tblD t), .d (rowD (o, ws)), .no], []⟩) (ai_list (n := ws.length) (f := fun j => optN (ws.getD j none)) (ae_op (ae_var rfl rfl) ae_int (a2_ixT rfl)) (List.length_map ..) (fun j hj => by rw [List.getElem?_map, getD_get none hj]; rfl)) (Le.refl _) (fun j hj => ?_) (fun e' l => l.trans ⟨⟨.inr rfl, .inl rfl, .inl rfl, trivial⟩, rfl⟩)
    refine ag_name ?_
    have hwm := List.mem_of_getElem? (getD_get none hj)
    generalize ws.getD j none = wy at hwm
    refine as_if (b := false) ?_ (fun h => by cases h) (fun h => as_next ⟨⟨.inr rfl, .inr rfl, .inl rfl, trivial⟩, rfl⟩)
    cases wy with
    | none => exact (at_and (j := false) (at_val (ae_op (ae_var rfl rfl) ae_non a2_notN)) fun h => by cases h).eq rfl
    | some n =>
      have hnl := hin n hwm
      exact (at_and (at_val (ae_op (ae_var rfl rfl) ae_non a2_notN)) fun h => (at_or (at_not (at_B (ae_call (al_cons (ae_var rfl rfl) al_nil) rfl ⟨_, rfl, rfl⟩))) fun h => (at_or (at_val (ae_op (ae_var rfl rfl) ae_int a2_I0b)) fun h => (at_val (ae_op (ae_var rfl rfl) (ae_cb (al_cons (ae_op (ae_var rfl rfl) ae_int (a2_ixT rfl)) al_nil) ac_lenL) a2_I0b))))).eq (by
        have e1 : decide (((n : Nat) : Int) < 0) = false := decide_eq_false (by omega)
        have e2 : decide (((n : Nat) : Int) ≥ ((t.rows.map rowD).length : Nat)) = false := decide_eq_false (by rw [List.length_map]; omega)
        rw [e1, e2]
        rfl)
  · exact as_ret ae_bl ⟨rfl, rfl⟩
/-! ### _law_busy -/
abbrev s_law_busy : Stmt := topS 15
theorem sc_law_busy : FnScope ["_law_made", "_law_busy_here", "_law_row", "_law_changed", "_law_k", "_law_way"] ["_law_made"] (defScope s_law_busy) := ⟨rfl, rfl, rfl, by decide +kernel, rfl, by decide +kernel, by decide +kernel⟩
def R_law_busy (as : List A) (r : List D) : Prop := ∃ t : Tbl, as = [.d (tblD t)] ∧ t.Ok ∧ r = (busyL t).map .bl
abbrev Has_law_busy (P : Program) (w : World) (K : PySem.W.Frag) (mg : Str → Option Value) (base : Heap) : Prop := Has P w K mg base "_law_busy" ["_law_made"] 1 (SpN K R_law_busy)
theorem ok_law_busy (DD : DefAt K mg "_law_busy" s_law_busy ["_law_made"]) (m_range : mg "range" = none) (m_len : mg "len" = none) : Has_law_busy P w K mg base := by
  refine okN DD sc_law_busy (by rintro as r ⟨_, rfl, _⟩; rfl) fun _ _ _ _ _ _ _ hr => ⟨_, (pss_cons (ps_setLc (i := 1) (own := [("_law_row", 2)]) (g := (gName 2)) (tt := tYes) (by rfl) sc_law_busy.nd rfl rfl (sw_true rfl rfl rfl (by decide +kernel)) (pi_list (pe_ix ix_tup (pv 0) pe_int (fun _ _ => rfl))) (blkOk_by (own := [("_law_row", 2)]) (N := ["_law_made", "_law_busy_here", "_law_row", "_law_changed", "_law_k", "_law_way"]) (sc := defScope s_law_busy) (by decide +kernel)) (fun _ _ _ _ _ => pg_name (i := 2) sc_law_busy.nd rfl (Or.inl rfl)) (fun _ _ _ _ _ => pts_nil) (fun _ _ _ _ _ => (pe_cmpR op_notN (pe_ix (ixtK (K := K) rfl) (pv 2) pe_int (fun _ _ => rfl)) pe_non (nomark _))))
      (pss_cons (ps_set (i := 3) sc_law_busy.nd rfl (.inl rfl) pe_bl)
      (pss_cons (ps_while PassesOwn.never (pt_val (pv 3)) (pss_cons (ps_set (i := 3) sc_law_busy.nd rfl (.inl rfl) pe_bl)
      (pss_one (ps_for PassesOwn.never rfl (pi_range1 (by rfl) m_range (pa_cons (pe_callB call_len (by rfl) m_len (by decide +kernel) (pa_cons (pv 1) pa_nil)) pa_nil)) (pg_name (i := 4) sc_law_busy.nd rfl (.inl rfl)) (pss_one (ps_for PassesOwn.never rfl (pi_list (pe_ix ix_tup (pe_ix ix_list (pe_ix ix_tup (pv 0) pe_int (fun _ _ => rfl)) (pv 4) (fun _ _ => rfl)) pe_int (fun _ _ => rfl))) (pg_name (i := 5) sc_law_busy.nd rfl (.inl rfl)) (pss_one (ps_if (PW.pt (pw_and (pt_cmpR op_notN (pv 5) pe_non (nomark _)) (pw_and (pt_val (pe_ix ix_list (pv 1) (pv 5) (fun _ _ => rfl))) (pw_and1 (pt_not (pt_val (pe_ix ix_list (pv 1) (pv 4) (fun _ _ => rfl)))))))) (pss_cons (ps_asg pe_bl (pg_sub (pv 1) (pv 4) set_list))
      (pss_one (ps_set (i := 3) sc_law_busy.nd rfl (.inl rfl) pe_bl))) pss_nil))))))))
      (pss_one (ps_ret (pv 1)))))), ?_⟩
  rintro as r ⟨t, rfl, ht, rfl⟩
  have hm := ht.many
  have get : ∀ i, i < t.rows.length → t.rows[i]? = some (t.rows.getD i (none, [])) := fun i hi => getD_get (none, []) hi
  have hrow : ∀ i, i < t.rows.length → L2.atI (t.rows.map rowD) (i : Nat) = some (rowD (t.rows.getD i (none, []))) := fun i hi => atI_of (j := i) rfl (by rw [List.getElem?_map, get i hi]; rfl)
  let b0 : List Bool := t.rows.map fun r => !isN (optI r.1)
  have inv0 : BInv t b0 := ⟨List.length_map .., fun i hi => by
      rw [List.getElem?_map] at hi
      cases hr : t.rows[i]? with
      | none =>
        rw [hr] at hi
        cases hi
      | some r =>
        rw [hr] at hi
        obtain ⟨o, ws⟩ := r
        cases o with
        | none => cases hi
        | some v => exact .told hr rfl, fun i r v h1 h2 => by
      rw [List.getElem?_map, h1]
      show some (!isN (optI r.1)) = _
      rw [h2]
      rfl⟩
  refine as_seq (as_asgN ((an_lcN (n := t.rows.length) (f := fun i => rowD (t.rows.getD i (none, []))) (fun i => .bl (!isN (optI (t.rows.getD i (none, [])).1))) (ai_list (ae_op (ae_var rfl rfl) ae_int (a2_ixT rfl)) (List.length_map ..) (fun i hi => by rw [List.getElem?_map, get i hi]; rfl)) (by omega) fun i hi => (ae_op (ae_op (ae_var rfl rfl) ae_int (a2_ixT rfl)) ae_non a2_notN)).eq (es := b0.map .bl) ?_) ?_)
  · rw [List.map_map]
    exact range_map fun i x hx => by rw [getD_of (none, []) hx]; rfl
  refine as_seq (as_asg ae_bl ?_)
  refine as_seq (as_while (fun m e' => ∃ (b : List Bool) (ch : Bool), BInv t b ∧ (ch = false → ∀ k, k < t.rows.length → BCl t b k) ∧ m = (if ch = true then cntF b + 1 else 0) ∧ Le e' ⟨[.d (tblD t), .o 0, .no, .d (.bl ch), .no, .no], [some (.lst (b.map .bl))]⟩) ?_ (fun m e' I => ?_))
  · exact ⟨_, b0, true, inv0, fun h => (by cases h), rfl, ⟨⟨.inr rfl, .inr rfl, .inl rfl, .inr rfl, .inl rfl, .inl rfl, trivial⟩, rfl⟩⟩
  obtain ⟨b, ch, inv, hcl, hm2, le⟩ := I
  refine ⟨ch, AT.le le (at_B (ae_var rfl rfl)), fun hb => ?_, fun hb => ?_⟩
  · subst hb
    rw [if_pos rfl] at hm2
    refine AS.le ?_ le
    refine as_seq (as_asg ae_bl ?_)
    have hN : ∀ b' : List Bool, BInv t b' → ∀ i, i < t.rows.length → L2.atI (b'.map D.bl) (i : Nat) = some (.bl (b'.getD i false)) := fun b' h i hi => atI_of (j := i) rfl (by rw [List.getElem?_map, busyB_get h hi]; rfl)
    refine as_for (fun i e' => ∃ (b' : List Bool) (ch : Bool), BInv t b' ∧ (ch = true → cntF b' < cntF b) ∧ (ch = false → b' = b ∧ ∀ k, k < i → BCl t b k) ∧ Le e' ⟨[.d (tblD t), .o 0, .no, .d (.bl ch), .no, .no], [some (.lst (b'.map .bl))]⟩)
      ((ai_rng1 (n := (t.rows.length : Nat)) ((al_cons (ae_cb (al_cons (ae_var rfl rfl) al_nil) (ac_lenO rfl)) al_nil).eq (by rw [List.length_map, inv.len])) (by omega) (by omega)).n (Int.toNat_natCast _)) ?_ (fun i e' hi I => ?_) fun e' I => ?_
    · exact ⟨b, false, inv, fun h => (by cases h), fun _ => ⟨rfl, fun k h => absurd h (Nat.not_lt_zero k)⟩, ⟨⟨.inr rfl, .inr rfl, .inr rfl, .inr rfl, .inr rfl, .inr rfl, trivial⟩, rfl⟩⟩
    · obtain ⟨b1, ch1, inv1, h1, h2, le1⟩ := I
      refine AG.le le1 (ag_name ?_)
      have hgi := get i hi
      have hri := hrow i hi
      generalize t.rows.getD i (none, []) = row at hgi hri
      obtain ⟨o, ws⟩ := row
      refine as_for (fun j e' => ∃ (b' : List Bool) (ch : Bool), BInv t b' ∧ (ch = true → cntF b' < cntF b) ∧ (ch = false → b' = b ∧ (∀ k, k < i → BCl t b k) ∧ ∀ j' w, j' < j → ws[j']? = some (some w) → b[w]? = some true → b[i]? = some true) ∧ Le e' ⟨[.d (tblD t), .o 0, .no, .d (.bl ch), .d (natD i), .no], [some (.lst (b'.map .bl))]⟩)
        (ai_list (n := ws.length) (f := fun j => optN (ws.getD j none)) (ae_op (ae_op (ae_op (ae_var rfl rfl) ae_int (a2_ixT rfl)) (ae_var rfl rfl) (a2_ixL hri)) ae_int (a2_ixT rfl)) (List.length_map ..) (fun j hj => by rw [List.getElem?_map, getD_get none hj]; rfl)) ?_ (fun j e' hj I => ?_) fun e' I => ?_
      · exact ⟨b1, ch1, inv1, h1, fun hc => ⟨(h2 hc).1, (h2 hc).2, fun j' w hj => absurd hj (Nat.not_lt_zero j')⟩, ⟨⟨.inr rfl, .inr rfl, .inr rfl, .inr rfl, .inr rfl, .inr rfl, trivial⟩, rfl⟩⟩
      · obtain ⟨b2, ch2, inv2, g1, g2, le2⟩ := I
        refine AG.le le2 (ag_name ?_)
        have hwj := getD_get none hj
        generalize ws.getD j none = wy at hwj
        have hi2 : b2[i]? = some (b2.getD i false) := busyB_get inv2 hi
        -- the next turn, nothing changed
        have stay : ∀ (hs : ∀ w, wy = some w → b[w]? = some true → b2 = b → b[i]? = some true), ∃ (b' : List Bool) (ch : Bool), BInv t b' ∧ (ch = true → cntF b' < cntF b) ∧ (ch = false → b' = b ∧ (∀ k, k < i → BCl t b k) ∧ ∀ j' w, j' < j + 1 → ws[j']? = some (some w) → b[w]? = some true → b[i]? = some true) ∧ Le (Env.set ⟨[.d (tblD t), .o 0, .no, .d (.bl ch2), .d (natD i), .no], [some (.lst (b2.map .bl))]⟩ 5 (.d (optN wy))) ⟨[.d (tblD t), .o 0, .no, .d (.bl ch), .d (natD i), .no], [some (.lst (b'.map .bl))]⟩ := fun hs =>
          ⟨b2, ch2, inv2, g1, fun hc => by
            obtain ⟨q1, q2, q3⟩ := g2 hc
            refine ⟨q1, q2, fun j' w hj' hw hb => ?_⟩
            by_cases e : j' = j
            · subst e
              rw [hwj] at hw
              exact hs w (Option.some.inj hw) hb q1
            · exact q3 j' w (by omega) hw hb, ⟨⟨.inr rfl, .inr rfl, .inr rfl, .inr rfl, .inr rfl, .inl rfl, trivial⟩, rfl⟩⟩
        cases wy with
        | none => exact as_if (b := false) ((at_and (j := false) (at_val (ae_op (ae_var rfl rfl) ae_non a2_notN)) fun h => by cases h).eq rfl) (fun h => by cases h) fun _ => as_next (stay fun w e => by cases e)
        | some w =>
          have hwl : w < t.rows.length := ht.ins _ (List.mem_of_getElem? hgi) w (List.mem_of_getElem? hwj)
          have hw2 : b2[w]? = some (b2.getD w false) := busyB_get inv2 hwl
          refine as_if ((at_and (at_val (ae_op (ae_var rfl rfl) ae_non a2_notN)) fun h => (at_and (at_B (ae_op (ae_var rfl rfl) (ae_var rfl rfl) (a2_ixO rfl (hN b2 inv2 w hwl)))) fun h => (at_not (at_B (ae_op (ae_var rfl rfl) (ae_var rfl rfl) (a2_ixO rfl (hN b2 inv2 i hi))))))).eq (j := b2.getD w false && !b2.getD i false) (by show (true && _) = _; rw [Bool.true_and])) (fun h => ?_) (fun h => as_next (stay fun w' e hb q => ?_))
          · rw [Bool.and_eq_true] at h
            obtain ⟨c1, c2⟩ := h
            have c2 : b2.getD i false = false := by simpa using c2
            rw [c1] at hw2
            rw [c2] at hi2
            have hil : i < b2.length := by rw [inv2.len]; exact hi
            have hbu : Busy t i := .way hgi (List.mem_of_getElem? hwj) (inv2.snd w hw2)
            have hcs := cntF_set hi2
            have hle : cntF b2 ≤ cntF b := by
              cases hc2 : ch2 with
              | true => exact Nat.le_of_lt (g1 hc2)
              | false =>
                rw [(g2 hc2).1]
                exact Nat.le_refl _
            refine as_seq (as_setI (j := i) ae_bl (ae_var rfl rfl) (ae_var rfl rfl) rfl (by rw [List.length_map]; exact ixNN hil) ?_)
            refine as_asg ae_bl ⟨b2.set i true, true, inv2.set hbu, fun _ => by omega, fun h => (by cases h), ⟨⟨.inr rfl, .inr rfl, .inr rfl, .inr rfl, .inr rfl, .inl rfl, trivial⟩, ?_⟩⟩
            show [some (O.lst ((b2.map D.bl).set i (.bl true)))] = [some (.lst ((b2.set i true).map .bl))]
            rw [List.map_set]
          · cases e
            rw [q] at h
            have hb2 : b.getD w false = true := getD_of false hb
            rw [hb2, Bool.true_and] at h
            have : b.getD i false = true := by simpa using h
            rw [← q] at this ⊢
            rw [hi2, this]
      · obtain ⟨b2, ch2, inv2, g1, g2, le2⟩ := I
        refine ⟨b2, ch2, inv2, g1, fun hc => ⟨(g2 hc).1, fun k hk => ?_⟩, le2.trans ⟨⟨.inr rfl, .inr rfl, .inr rfl, .inr rfl, .inl rfl, .inr rfl, trivial⟩, rfl⟩⟩
        obtain ⟨q1, q2, q3⟩ := g2 hc
        by_cases e : k = i
        · subst e
          intro r hr w hw hb
          rw [hgi] at hr
          cases hr
          obtain ⟨j', hj'⟩ := List.mem_iff_getElem?.mp hw
          exact q3 j' w (List.getElem?_eq_some_iff.mp hj').1 hj' hb
        · exact q2 k (by omega)
    · obtain ⟨b2, ch2, inv2, g1, g2, le2⟩ := I
      refine ⟨if ch2 = true then cntF b2 + 1 else 0, ?_, b2, ch2, inv2, fun hc k hk => ?_, rfl, le2⟩
      · rw [hm2]
        split
        · rename_i hc
          have := g1 hc
          omega
        · omega
      · obtain ⟨q1, q2⟩ := g2 hc
        rw [q1]
        exact q2 k hk
  · subst hb
    rw [inv.eq ht (hcl rfl)] at le
    exact AS.le (as_ret (ae_var rfl rfl) ⟨0, rfl, rfl⟩) le
/-! ### _law_numbers -/
abbrev s_law_numbers : Stmt := topS 16
theorem sc_law_numbers : FnScope ["_law_keys", "_law_known", "_law_key"] ["_law_keys"] (defScope s_law_numbers) := ⟨rfl, rfl, rfl, by decide +kernel, rfl, by decide +kernel, by decide +kernel⟩
def R_law_numbersN (as : List A) (r : List D) : Prop := ∃ ms : List (Option Int), as = [.d (.lst (ms.map optI))] ∧ ms.length ≤ 100000 ∧ r = (numK ms).map natD
def R_law_numbersT (as : List A) (r : List D) : Prop := ∃ ms : List (List Int), as = [.d (.lst (ms.map .kt))] ∧ ms.length ≤ 100000 ∧ r = (numK ms).map natD
abbrev Has_law_numbersN (P : Program) (w : World) (K : PySem.W.Frag) (mg : Str → Option Value) (base : Heap) : Prop := Has P w K mg base "_law_numbers" ["_law_keys"] 1 (SpN K R_law_numbersN)
abbrev Has_law_numbersT (P : Program) (w : World) (K : PySem.W.Frag) (mg : Str → Option Value) (base : Heap) : Prop := Has P w K mg base "_law_numbers" ["_law_keys"] 1 (SpN K R_law_numbersT)
theorem numbers_go {κ : Type} [DecidableEq κ] {N : NK κ} {kd : κ → D} (hK : KeyD K N kd) (ms : List κ) (hl : ms.length ≤ 100000) : AS K 0 (tSeq (tAsg (tNumNew N) (gName 1)) (tRet (tLc (iList K (tVar 0)) (gName 2) tYes (tNumSet N (tVar 1) (tVar 2) (tCB (rNumLen N) (tCons (tVar 1) tNil))) [2]))) (endN ((numK ms).map natD)) ⟨[.d (.lst (ms.map kd)), .no, .no], []⟩ := by
  refine as_seq (as_asgX (ax_numNew ?_))
  cases ms with
  | nil => exact as_retX (ax_lcX (n := 0) (f := fun _ => .non) (fun i acc m => acc = []) (ai_list (xs := []) (ae_var rfl rfl) rfl (fun i hi => absurd hi (Nat.not_lt_zero _))) (by decide) rfl (fun i acc m hi => absurd hi (Nat.not_lt_zero _)) fun acc m _ _ h => ⟨_, rfl, by
      subst h
      show (m ++ [some (O.lst [])])[1]? = _
      rename_i hm _
      rw [List.getElem?_append_right (by rw [hm]; exact Nat.le_refl _), hm]
      rfl⟩)
  | cons m0 r0 =>
    generalize hms : m0 :: r0 = ms at *
    have hg : ∀ i, i < ms.length → ms[i]? = some (ms.getD i m0) := fun i hi => getD_get m0 hi
    have hu : ∀ i, (uniqK (ms.take i)).length < 900000 := fun i => by
      have h1 := uniqK_len (ms.take i)
      rw [List.length_take] at h1
      omega
    refine as_retX (ax_lcX (n := ms.length) (f := fun i => kd (ms.getD i m0)) (fun i acc m => acc = (numK (ms.take i)).map natD ∧ m = [some (ndO N (uniqK (ms.take i)))]) (ai_list (ae_var rfl rfl) (List.length_map ..) (fun i hi => by rw [List.getElem?_map, hg i hi]; rfl)) (by omega) ⟨rfl, rfl⟩ (fun i acc m hi _ _ h => ?_) fun acc m _ _ h => ?_)
    · obtain ⟨rfl, rfl⟩ := h
      have tk : ms.take (i + 1) = ms.take i ++ [ms.getD i m0] := by rw [List.take_add_one, hg i hi]; rfl
      rw [tk, uniqK_snoc, numK_snoc]
      refine ax_numSet (i := 0) hK (ae_var rfl rfl) rfl (ae_var rfl rfl) (ae_cb (al_cons (ae_var rfl rfl) al_nil) (ac_numLen rfl (hu i))) (hu i) ⟨_, [some (ndO N (addK (uniqK (ms.take i)) (ms.getD i m0)))], rfl, rfl, rfl, ?_, rfl⟩
      rw [List.map_append]
      rfl
    · obtain ⟨rfl, rfl⟩ := h
      refine ⟨1, rfl, ?_⟩
      rw [List.take_of_length_le (Nat.le_refl _)]
      rfl
theorem ok_law_numbersN (DD : DefAt K mg "_law_numbers" s_law_numbers ["_law_keys"]) (m_len : mg "len" = none) : Has_law_numbersN P w K mg base := by
  refine okN DD sc_law_numbers (by rintro as r ⟨_, rfl, _⟩; rfl) fun _ _ _ _ _ _ _ hr => ⟨_, (pss_cons (ps_set (i := 1) sc_law_numbers.nd rfl (.inr rfl) pe_numNewN)
      (pss_one (ps_ret (pe_lc (own := [("_law_key", 2)]) (g := (gName 2)) (tt := tYes) (by rfl) sc_law_numbers.nd (pi_list (pv 0)) (blkOk_by (own := [("_law_key", 2)]) (N := ["_law_keys", "_law_known", "_law_key"]) (sc := defScope s_law_numbers) (by decide +kernel)) (fun _ _ _ _ _ => pg_name (i := 2) sc_law_numbers.nd rfl (Or.inl rfl)) (fun _ _ _ _ _ => pts_nil) (fun _ _ _ _ _ => (pe_numSetNK (P := P) (w := w) rfl rfl (pv 1) (pv 2) (pe_callB (call_numLenNK (P := P) (w := w) rfl rfl) (by rfl) m_len (by decide +kernel) (pa_cons (pv 1) pa_nil)) ⟨rfl, rfl, rfl, rfl⟩)))))), ?_⟩
  rintro as r ⟨ms, rfl, hl, rfl⟩
  exact numbers_go keyD_N ms hl
theorem ok_law_numbersT (DD : DefAt K mg "_law_numbers" s_law_numbers ["_law_keys"]) (m_len : mg "len" = none) : Has_law_numbersT P w K mg base := by
  refine okN DD sc_law_numbers (by rintro as r ⟨_, rfl, _⟩; rfl) fun _ _ _ _ _ _ _ hr => ⟨_, (pss_cons (ps_set (i := 1) sc_law_numbers.nd rfl (.inr rfl) pe_numNewT)
      (pss_one (ps_ret (pe_lc (own := [("_law_key", 2)]) (g := (gName 2)) (tt := tYes) (by rfl) sc_law_numbers.nd (pi_list (pv 0)) (blkOk_by (own := [("_law_key", 2)]) (N := ["_law_keys", "_law_known", "_law_key"]) (sc := defScope s_law_numbers) (by decide +kernel)) (fun _ _ _ _ _ => pg_name (i := 2) sc_law_numbers.nd rfl (Or.inl rfl)) (fun _ _ _ _ _ => pts_nil) (fun _ _ _ _ _ => (pe_numSetT (hu_of hr) (pv 1) (pv 2) (pe_callB call_numLenT (by rfl) m_len (by decide +kernel) (pa_cons (pv 1) pa_nil)) ⟨rfl, rfl, rfl, rfl⟩)))))), ?_⟩
  rintro as r ⟨ms, rfl, hl, rfl⟩
  exact numbers_go keyD_T ms hl
/-! ### _law_numbered -/
abbrev s_law_numbered : Stmt := topS 18
theorem sc_law_numbered : FnScope ["_law_made", "_law_met", "_law_at", "_law_way"] ["_law_made"] (defScope s_law_numbered) := ⟨rfl, rfl, rfl, by decide +kernel, rfl, by decide +kernel, by decide +kernel⟩
def numberedB (t : Tbl) : Bool := decide (metG (closed t) (idG t.rows.length) t.rows.length = List.range t.rows.length)
def R_law_numbered (as : List A) (r : A) : Prop := ∃ t : Tbl, as = [.d (tblD t)] ∧ t.Ok ∧ r = .d (.bl (numberedB t))
abbrev Has_law_numbered (P : Program) (w : World) (K : PySem.W.Frag) (mg : Str → Option Value) (base : Heap) : Prop := Has P w K mg base "_law_numbered" ["_law_made"] 1 (SpF K R_law_numbered)
theorem ok_law_numbered (DD : DefAt K mg "_law_numbered" s_law_numbered ["_law_made"]) (m_len : mg "len" = none) (m_list : mg "list" = none) (m_range : mg "range" = none) : Has_law_numbered P w K mg base := by
  refine okF DD sc_law_numbered (by rintro as r ⟨_, rfl, _⟩; rfl) fun _ _ _ _ _ _ _ hr => ⟨_, (pss_cons (ps_set (i := 1) sc_law_numbered.nd rfl (.inl rfl) (pe_lst (pa_cons pe_int pa_nil)))
      (pss_cons (ps_set (i := 2) sc_law_numbered.nd rfl (.inl rfl) pe_int)
      (pss_cons (ps_while PassesOwn.never (pt_cmpR op_lt (pv 2) (pe_callB call_len (by rfl) m_len (by decide +kernel) (pa_cons (pv 1) pa_nil)) (nomark _)) (pss_cons (ps_for PassesOwn.never rfl (pi_list (pe_ix ix_tup (pe_ix ix_list (pe_ix ix_tup (pv 0) pe_int (fun _ _ => rfl)) (pe_ix ix_list (pv 1) (pv 2) (fun _ _ => rfl)) (fun _ _ => rfl)) pe_int (fun _ _ => rfl))) (pg_name (i := 3) sc_law_numbered.nd rfl (.inl rfl)) (pss_one (ps_if (PW.pt (pw_and (pt_cmpR op_notN (pv 3) pe_non (nomark _)) (pw_and1 (pt_cmpR op_notIn_seq (pv 3) (pv 1) rfl)))) (pss_one (ps_expr (pe_bm PySem.F.plainAttrs_list PySem.F.slot_list_append PySem.F.type_list_append mt_append (pv 1) (pa_cons (pv 3) pa_nil)))) pss_nil)))
      (pss_one (ps_set (i := 2) sc_law_numbered.nd rfl (.inl rfl) (pe_op op_add (pv 2) pe_int)))))
      (pss_one (ps_ret (pe_cmpR (op_eqD hr.units) (pv 1) (pe_listRg rfl (by rfl) m_list (prg_1 (by rfl) m_range (pe_callB call_len (by rfl) m_len (by decide +kernel) (pa_cons (pe_ix ix_tup (pv 0) pe_int (fun _ _ => rfl)) pa_nil)))) (nomark _))))))), ?_⟩
  rintro as r ⟨t, rfl, ht, rfl⟩
  have hc := closed_ok ht
  have hm := ht.many
  have hp := ht.pos
  have hcl := closed_len t
  let n := t.rows.length
  have get : ∀ i, i < n → t.rows[i]? = some (t.rows.getD i (none, [])) := fun i hi => getD_get (none, []) hi
  have hrow : ∀ i, i < n → L2.atI (t.rows.map rowD) (i : Nat) = some (rowD (t.rows.getD i (none, []))) := fun i hi => atI_of (j := i) rfl (by rw [List.getElem?_map, get i hi]; rfl)
  refine as_seq (as_asgN (an_lst' (ald_cons ae_int ald_nil)) ?_)
  refine as_seq (as_asg ae_int ?_)
  refine as_seq (as_while (fun m e' => ∃ k : Nat, k ≤ (metI t k).length ∧ m + k = n + 2 ∧ Le e' ⟨[.d (tblD t), .o 0, .d (natD k), .no], [some (.lst ((metI t k).map natD))]⟩) ?_ (fun m e' I => ?_))
  · exact ⟨_, 0, Nat.zero_le _, rfl, ⟨⟨.inr rfl, .inr rfl, .inr rfl, .inl rfl, trivial⟩, rfl⟩⟩
  · obtain ⟨k, hk, hmk, le⟩ := I
    have mo := metI_ok ht k
    have hfew := mo.few
    have hlt' := met_lt hp mo
    refine ⟨decide (k < (metI t k).length), AT.le le ((at_val (ae_op (ae_var rfl rfl) (ae_cb (al_cons (ae_var rfl rfl) al_nil) (ac_lenO rfl)) a2_I0b)).eq (by rw [List.length_map]; exact decide_eq_decide.mpr (Int.ofNat_lt))), fun hb => ?_, fun hb => ?_⟩
    · have hlt := of_decide_eq_true hb
      have hm0 : (metI t k).getD k 0 < n := hlt' _ (List.mem_of_getElem? (getD_get 0 hlt))
      have hmetk : L2.atI ((metI t k).map natD) (k : Nat) = some (natD ((metI t k).getD k 0)) := atI_of (j := k) rfl (by rw [List.getElem?_map, getD_get 0 hlt]; rfl)
      have e1 : metI t (k + 1) = (waysC (closed t) ((metI t k).getD k 0)).foldl (addG (idG n) n) (metI t k) := by
        exact if_pos hlt
      have hg0 := get _ hm0
      have hr0 := hrow _ hm0
      generalize t.rows.getD ((metI t k).getD k 0) (none, []) = row at hg0 hr0
      obtain ⟨o, ws⟩ := row
      have hwid : ws.length ≤ 1000 := by
        have h1 := ht.wid _ (List.mem_of_getElem? hg0)
        have h2 := ht.few
        have h1 : ws.length = t.signs.length := h1
        omega
      have hin := ht.ins _ (List.mem_of_getElem? hg0)
      have e2 : waysC (closed t) ((metI t k).getD k 0) = ws.map fun w => w.getD n := waysC_row hg0
      rw [e2] at e1
      refine AS.le ?_ le
      refine as_forE_seq (fun i => ⟨[.d (tblD t), .o 0, .d (natD k), .no], [some (.lst ((((ws.take i).map fun w => w.getD n).foldl (addG (idG n) n) (metI t k)).map natD))]⟩)
        (ai_list (n := ws.length) (f := fun i => optN (ws.getD i none)) (ae_op (ae_op (ae_op (ae_var rfl rfl) ae_int (a2_ixT rfl)) (ae_op (ae_var rfl rfl) (ae_var rfl rfl) (a2_ixO rfl hmetk)) (a2_ixL hr0)) ae_int (a2_ixT rfl)) (List.length_map ..) (fun i hi => by rw [List.getElem?_map, getD_get none hi]; rfl)) ⟨⟨.inr rfl, .inr rfl, .inr rfl, .inr rfl, trivial⟩, rfl⟩ (fun i hi => ?_) ?_
      · refine ag_name ?_
        have hwi := getD_get none hi
        have tk : ws.take (i + 1) = ws.take i ++ [ws.getD i none] := by rw [List.take_add_one, hwi]; rfl
        rw [tk, List.map_append, List.foldl_append]
        have mt_ok : MetOk (n + 1) (idG n) n (((ws.take i).map fun w => w.getD n).foldl (addG (idG n) n) (metI t k)) := mo.fold fun x hx => by
          obtain ⟨y, hy, rfl⟩ := List.mem_map.mp hx
          cases y with
          | none => exact Nat.lt_succ_self _
          | some y => exact Nat.lt_succ_of_lt (hin y (List.mem_of_mem_take hy))
        generalize ((ws.take i).map fun w => w.getD n).foldl (addG (idG n) n) (metI t k) = mt at mt_ok
        have mfew := mt_ok.few
        generalize ws.getD i none = wy at hwi
        cases wy with
        | none =>
          have ha : ([none].map fun w : Option Nat => w.getD n).foldl (addG (idG n) n) mt = mt := by
            show addG (idG n) n mt n = mt
            unfold addG
            rw [if_pos (show seenG (idG n) n mt (grp (idG n) n) = true from seenG_true.mpr (.inl (grp_range (Nat.lt_succ_self n))))]
          rw [ha]
          exact as_if (b := false) ((at_and (j := false) (at_val (ae_op (ae_var rfl rfl) ae_non a2_notN)) fun h => by cases h).eq rfl) (fun h => by cases h) fun _ => as_next ⟨⟨.inr rfl, .inr rfl, .inr rfl, .inl rfl, trivial⟩, rfl⟩
        | some wy =>
          have hw : wy < n := hin wy (List.mem_of_getElem? hwi)
          have hs : seenG (idG n) n mt (grp (idG n) wy) = decide (wy ∈ mt) := by
            rw [show grp (idG n) wy = wy from grp_range (by omega), Bool.eq_iff_iff, seen_id mt_ok.ins, decide_eq_true_eq]
            exact ⟨fun z => z.elim (fun q => absurd q (by omega)) id, .inr⟩
          have ha : ([some wy].map fun w : Option Nat => w.getD n).foldl (addG (idG n) n) mt = if wy ∈ mt then mt else mt ++ [wy] := by
            show addG (idG n) n mt wy = _
            unfold addG
            rw [hs]
            by_cases q : wy ∈ mt
            · rw [if_pos (decide_eq_true q), if_pos q]
            · rw [if_neg (by rw [decide_eq_false q]; exact Bool.false_ne_true), if_neg q]
          rw [ha]
          refine as_if ((at_and (at_val (ae_op (ae_var rfl rfl) ae_non a2_notN)) fun h => (at_val (ae_op (ae_var rfl rfl) (ae_var rfl rfl) (a2_inNO rfl)))).eq (j := !decide (wy ∈ mt)) (by show (true && _) = _; rw [Bool.true_and]; rfl)) (fun h => ?_) (fun h => ?_)
          · have q : ¬ wy ∈ mt := by simpa using h
            rw [if_neg q]
            refine as_app (ae_var rfl rfl) (ae_var rfl rfl) rfl (by rw [List.length_map]; omega) ⟨⟨.inr rfl, .inr rfl, .inr rfl, .inl rfl, trivial⟩, ?_⟩
            rw [List.map_append]
            rfl
          · have q : wy ∈ mt := by simpa using h
            rw [if_pos q]
            exact as_next ⟨⟨.inr rfl, .inr rfl, .inr rfl, .inl rfl, trivial⟩, rfl⟩
      · rw [List.take_of_length_le (Nat.le_refl _), ← e1]
        refine as_asg (ae_op (ae_var rfl rfl) ae_int a2_I0) ⟨m - 1, by omega, k + 1, ?_, by omega, ⟨⟨.inr rfl, .inr rfl, .inr rfl, .inl rfl, trivial⟩, rfl⟩⟩
        have : (metI t k).length ≤ (metI t (k + 1)).length := (metK_pre (closed t) (idG n) n k).length_le
        omega
    · have hlt : ¬ k < (metI t k).length := of_decide_eq_false hb
      have he : (metI t k).length = k := by omega
      have hg : metI t k = metG (closed t) (idG n) n := metG_of hc he
      rw [hg] at le
      refine AS.le (as_frz 0 rfl (Nat.zero_le _) (as_ret (ae_op (ae_var rfl rfl) (an_listRg (ae_cb (al_cons (ae_op (ae_var rfl rfl) ae_int (a2_ixT rfl)) al_nil) ac_lenL) (Int.natCast_nonneg _) (by rw [List.length_map]; omega)).ae (a2_eqD (nats_ok _) (nats_ok _))) ⟨?_, rfl⟩)) le
      rw [List.length_map, Int.toNat_natCast]
      exact congrArg (fun b => A.d (D.bl b)) (eqv_natsD _ _)
/-! ### _law_classes -/
abbrev s_law_classes : Stmt := topS 17
theorem sc_law_classes : FnScope ["_law_made", "_law_classes_here", "_law_row", "_law_many", "_law_keys", "_law_k", "_law_key", "_law_way"] ["_law_made"] (defScope s_law_classes) := ⟨rfl, rfl, rfl, by decide +kernel, rfl, by decide +kernel, by decide +kernel⟩
def R_law_classes (as : List A) (r : A) : Prop := ∃ (t : Tbl) (k : Nat), as = [.d (tblD t)] ∧ t.Ok ∧ (∀ j, j < k → cntL t j < cntL t (j + 1)) ∧ cntL t (k + 1) ≤ cntL t k ∧ r = .d (natsD (clsL t k))
abbrev Has_law_classes (P : Program) (w : World) (K : PySem.W.Frag) (mg : Str → Option Value) (base : Heap) : Prop := Has P w K mg base "_law_classes" ["_law_made"] 2 (SpF K R_law_classes)
theorem tr_intD {K : PySem.W.Frag} {G H : Hp} {v : V} {i : Int} (s : Same G H) (r : RD K G v (.int i)) : TruV K v H (i != 0) := by cases r; rfl
theorem ok_law_classes (DD : DefAt K mg "_law_classes" s_law_classes ["_law_made"]) (H_law_numbersN : Has_law_numbersN P w K mg base) (H_law_numbersT : Has_law_numbersT P w K mg base) (m_len : mg "len" = none) (m_set : mg "set" = none) (m_range : mg "range" = none) (m_int : mg "int" = none) (m_tuple : mg "tuple" = none) : Has_law_classes P w K mg base := by
  refine okF DD sc_law_classes (by rintro as r ⟨_, _, rfl, _⟩; rfl) fun _ _ _ _ _ _ _ hr => ⟨_, (pss_cons (ps_set (i := 1) sc_law_classes.nd rfl (.inl rfl) (pe_has H_law_numbersN (hr.mono (by decide)) (by rfl) (pa_cons (pe_lc (own := [("_law_row", 2)]) (g := (gName 2)) (tt := tYes) (by rfl) sc_law_classes.nd (pi_list (pe_ix ix_tup (pv 0) pe_int (fun _ _ => rfl))) (blkOk_by (own := [("_law_row", 2)]) (N := ["_law_made", "_law_classes_here", "_law_row", "_law_many", "_law_keys", "_law_k", "_law_key", "_law_way"]) (sc := defScope s_law_classes) (by decide +kernel)) (fun _ _ _ _ _ => pg_name (i := 2) sc_law_classes.nd rfl (Or.inl rfl)) (fun _ _ _ _ _ => pts_nil) (fun _ _ _ _ _ => (pe_ix (ixtK (K := K) rfl) (pv 2) pe_int (fun _ _ => rfl)))) pa_nil)))
      (pss_cons (ps_set (i := 3) sc_law_classes.nd rfl (.inl rfl) pe_int)
      (pss_cons (ps_while PassesOwn.never (pt_cmpR op_lt (pv 3) (pe_lenSetL (by rfl) (by rfl) m_len (by rfl) m_set (pv 1)) (nomark _)) (pss_cons (ps_set (i := 3) sc_law_classes.nd rfl (.inl rfl) (pe_lenSetL (by rfl) (by rfl) m_len (by rfl) m_set (pv 1)))
      (pss_cons (ps_set (i := 4) sc_law_classes.nd rfl (.inl rfl) (pe_lst pa_nil))
      (pss_cons (ps_for PassesOwn.never rfl (pi_range1 (by rfl) m_range (pa_cons (pe_callB call_len (by rfl) m_len (by decide +kernel) (pa_cons (pv 1) pa_nil)) pa_nil)) (pg_name (i := 5) sc_law_classes.nd rfl (.inl rfl)) (pss_cons (ps_set (i := 6) sc_law_classes.nd rfl (.inl rfl) (pe_lst (pa_cons (pe_ix ix_list (pv 1) (pv 5) (fun _ _ => rfl)) pa_nil)))
      (pss_cons (ps_for PassesOwn.never rfl (pi_list (pe_ix ix_tup (pe_ix ix_list (pe_ix ix_tup (pv 0) pe_int (fun _ _ => rfl)) (pv 5) (fun _ _ => rfl)) pe_int (fun _ _ => rfl))) (pg_name (i := 7) sc_law_classes.nd rfl (.inl rfl)) (pss_one (ps_expr (pe_bm PySem.F.plainAttrs_list PySem.F.slot_list_append PySem.F.type_list_append mt_append (pv 6) (pa_cons (pe_ix ix_list (pe_lst (pa_cons (pe_un un_neg pe_int) (pa_cons (pe_ix ix_list (pv 1) (pe_orT (pv 7) (pe_one pe_int)) (fun _ _ => rfl)) pa_nil))) (pe_callTy call_int1 (by rfl) m_int (by decide +kernel) (pa_cons (pe_cmpR op_notN (pv 7) pe_non (nomark _)) pa_nil)) (fun _ _ => rfl)) pa_nil)))))
      (pss_one (ps_expr (pe_bm PySem.F.plainAttrs_list PySem.F.slot_list_append PySem.F.type_list_append mt_append (pv 4) (pa_cons (pe_callTy call_tuple_of (by rfl) m_tuple (by decide +kernel) (pa_cons (pv 6) pa_nil)) pa_nil)))))))
      (pss_one (ps_set (i := 1) sc_law_classes.nd rfl (.inl rfl) (pe_has H_law_numbersT (hr.mono (by decide)) (by rfl) (pa_cons (pv 4) pa_nil))))))))
      (pss_one (ps_ret (pv 1)))))), ?_⟩
  rintro as r ⟨t, k, rfl, ht, hup, hend, rfl⟩
  have hm := ht.many
  have hf := ht.few
  have get : ∀ i, i < t.rows.length → t.rows[i]? = some (t.rows.getD i (none, [])) := fun i hi => getD_get (none, []) hi
  have hrow : ∀ i, i < t.rows.length → L2.atI (t.rows.map rowD) (i : Nat) = some (rowD (t.rows.getD i (none, []))) := fun i hi => atI_of (j := i) rfl (by rw [List.getElem?_map, get i hi]; rfl)
  have hlenS : ∀ (e : Env) (i : Nat), e.s[1]? = some (.d (natsD (clsL t i))) → AE K (tLenSetL K (tVar 1)) e (.d (.int (cntL t (i + 1) : Nat))) := fun e i he => by
    have e0 : (clsL t i).map natD = ((clsL t i).map Int.ofNat).map D.int := by rw [List.map_map]; rfl
    refine ae_lenSetL (ns := (clsL t i).map Int.ofNat) ?_ (by rw [List.length_map, clsL_len]; omega)
    refine ae_var ?_ rfl
    rw [he]
    unfold natsD
    rw [e0]
  refine as_seq (as_asg (an_call (al_cons ((an_lcN (n := t.rows.length) (f := fun i => rowD (t.rows.getD i (none, []))) (fun i => optI (t.rows.getD i (none, [])).1) (ai_list (ae_op (ae_var rfl rfl) ae_int (a2_ixT rfl)) (List.length_map ..) (fun i hi => by rw [List.getElem?_map, get i hi]; rfl)) (by omega) fun i hi => (ae_op (ae_var rfl rfl) ae_int (a2_ixT rfl))).eq (es := (t.rows.map (·.1)).map optI) ?_).ae al_nil) rfl ⟨t.rows.map (·.1), rfl, by rw [List.length_map]; omega, rfl⟩).ae ?_)
  · rw [List.map_map]
    exact range_map fun i x hx => by rw [getD_of (none, []) hx]; rfl
  refine as_seq (as_asg ae_int ?_)
  refine as_seq (as_while (fun m e' => ∃ (i : Nat) (g : List (Option O)), i + m = k ∧ Le e' ⟨[.d (tblD t), .d (natsD (clsL t i)), .no, .d (.int (cntL t i : Nat)), .no, .no, .no, .no], g⟩) ?_ (fun m e' I => ?_))
  · exact ⟨k, 0, [], by omega, ⟨⟨.inr rfl, .inr rfl, .inl rfl, .inr rfl, .inl rfl, .inl rfl, .inl rfl, .inl rfl, trivial⟩, rfl⟩⟩
  obtain ⟨i, g, hi, le⟩ := I
  refine ⟨decide (i < k), AT.le le ((at_val (ae_op (ae_var rfl rfl) (hlenS _ i rfl) a2_I0b)).eq ?_), fun hb => ?_, fun hb => ?_⟩
  · rw [decide_eq_decide]
    constructor
    · intro h
      apply Classical.byContradiction
      intro hn
      have : i = k := by omega
      subst this
      omega
    · intro h
      have := hup i h
      omega
  · have hlt := of_decide_eq_true hb
    refine as_cut 0 (s' := [.d (tblD t), .d (natsD (clsL t i)), .no, .no, .no, .no, .no, .no]) (m' := []) ?_ (Nat.zero_le _) (Wk.trans le.s ⟨.inr rfl, .inr rfl, .inr rfl, .inl rfl, .inr rfl, .inr rfl, .inr rfl, .inr rfl, trivial⟩) rfl rfl (fun o h => by cases h)
    refine as_seq (as_asg (hlenS _ i rfl) ?_)
    refine as_seq (as_asgN (an_lst' (ds := []) ald_nil) ?_)
    have hcl := clsL_len t i
    have hcat : ∀ j, j < t.rows.length → L2.atI ((clsL t i).map natD) (j : Nat) = some (natD ((clsL t i).getD j 0)) := fun j hj => atI_of (j := j) rfl (by rw [List.getElem?_map, getD_get 0 (by rw [hcl]; exact hj)]; rfl)
    refine as_seq (as_for (fun j e' => ∃ g, Le e' ⟨[.d (tblD t), .d (natsD (clsL t i)), .no, .d (.int (cntL t (i + 1) : Nat)), .o 0, .no, .no, .no], some (.lst (((List.range j).map (keyL t (clsL t i))).map .kt)) :: g⟩)
      ((ai_rng1 (n := (t.rows.length : Nat)) ((al_cons (ae_cb (al_cons (ae_var rfl rfl) al_nil) ac_lenL) al_nil).eq (by rw [List.length_map, hcl])) (by omega) (by omega)).n (Int.toNat_natCast _)) ?_ (fun j e' hj I => ?_) fun e' I => ?_)
    · exact ⟨[], ⟨⟨.inr rfl, .inr rfl, .inr rfl, .inr rfl, .inr rfl, .inr rfl, .inr rfl, .inr rfl, trivial⟩, rfl⟩⟩
    · obtain ⟨g, le⟩ := I
      refine AG.le le (ag_name ?_)
      refine as_cut 1 (s' := [.d (tblD t), .d (natsD (clsL t i)), .no, .d (.int (cntL t (i + 1) : Nat)), .o 0, .d (natD j), .no, .no]) (m' := [some (.lst (((List.range j).map (keyL t (clsL t i))).map .kt))]) ?_ (Nat.zero_le _) ⟨.inr rfl, .inr rfl, .inr rfl, .inr rfl, .inr rfl, .inr rfl, .inr rfl, .inr rfl, trivial⟩ rfl rfl (fun o h => by
        have h : some o = some (O.lst (((List.range j).map (keyL t (clsL t i))).map .kt)) := List.mem_singleton.mp h
        cases h
        rfl)
      have hgj := get j hj
      have hrj := hrow j hj
      have hkey : keyL t (clsL t i) j = (((clsL t i).getD j 0 : Nat) : Int) :: (t.rows.getD j (none, [])).2.map fun w => match w with
        | none => (-1 : Int)
        | some w => (((clsL t i).getD w 0 : Nat) : Int) := rfl
      generalize t.rows.getD j (none, []) = row at hgj hrj hkey
      obtain ⟨o, ws⟩ := row
      have hwid : ws.length = t.signs.length := ht.wid _ (List.mem_of_getElem? hgj)
      have hin := ht.ins _ (List.mem_of_getElem? hgj)
      refine as_seq (as_asgN (an_lst' (ald_cons (ae_op (ae_var rfl rfl) (ae_var rfl rfl) (a2_ixL (hcat j hj))) ald_nil)) ?_)
      refine as_forE_seq (fun a => ⟨[.d (tblD t), .d (natsD (clsL t i)), .no, .d (.int (cntL t (i + 1) : Nat)), .o 0, .d (natD j), .o 1, .no], [some (.lst (((List.range j).map (keyL t (clsL t i))).map .kt)), some (.lst (((((clsL t i).getD j 0 : Nat) : Int) :: (ws.take a).map fun w => match w with
          | none => (-1 : Int)
          | some w => (((clsL t i).getD w 0 : Nat) : Int)).map .int))]⟩)
        (ai_list (n := ws.length) (f := fun a => optN (ws.getD a none)) (ae_op (ae_op (ae_op (ae_var rfl rfl) ae_int (a2_ixT rfl)) (ae_var rfl rfl) (a2_ixL hrj)) ae_int (a2_ixT rfl)) (List.length_map ..) (fun a ha => by rw [List.getElem?_map, getD_get none ha]; rfl)) ⟨⟨.inr rfl, .inr rfl, .inr rfl, .inr rfl, .inr rfl, .inr rfl, .inr rfl, .inr rfl, trivial⟩, rfl⟩ (fun a ha => ?_) ?_
      · refine ag_name ?_
        have hwa := getD_get none ha
        have tk : ws.take (a + 1) = ws.take a ++ [ws.getD a none] := by rw [List.take_add_one, hwa]; rfl
        rw [tk, List.map_append]
        generalize ws.getD a none = wy at hwa
        have hz : ((((((clsL t i).getD j 0 : Nat) : Int) :: (ws.take a).map fun w => match w with
          | none => (-1 : Int)
          | some w => (((clsL t i).getD w 0 : Nat) : Int)).map D.int).length < 1000000) := by
          rw [List.length_map, List.length_cons, List.length_map, List.length_take]
          omega
        have hp0 := ht.pos
        cases wy with
        | none =>
          refine as_app (x := .int (-1)) (ae_var rfl rfl) (ae_op (an_lst' (ald_cons (ae_un ae_int a1_neg) (ald_cons (ae_op (ae_var rfl rfl) (ae_orT (b := false) (z := .d (.int 0)) (ae_var rfl rfl) (fun G H v s r => tr_non s r) (fun h => by cases h) (fun _ => ae_int)) (a2_ixL (hcat 0 hp0))) ald_nil))).ae (ae_cb (al_cons (ae_op (ae_var rfl rfl) ae_non a2_notN) al_nil) ac_intB) (a2_ixL rfl)) rfl hz ⟨⟨.inr rfl, .inr rfl, .inr rfl, .inr rfl, .inr rfl, .inr rfl, .inr rfl, .inl rfl, trivial⟩, ?_⟩
          rw [← List.cons_append, List.map_append]
          rfl
        | some wy =>
          have hw : wy < t.rows.length := hin wy (List.mem_of_getElem? hwa)
          refine as_app (x := .int (((clsL t i).getD wy 0 : Nat) : Int)) (ae_var rfl rfl) (ae_op (an_lst' (ald_cons (ae_un ae_int a1_neg) (ald_cons (ae_op (ae_var rfl rfl) (ae_orT (b := ((wy : Nat) : Int) != 0) (z := .d (.int (wy : Nat))) (ae_var rfl rfl) (fun G H v s r => tr_intD s r) (fun h => rfl) (fun h => ae_int.eq ?_)) (a2_ixL (hcat wy hw))) ald_nil))).ae (ae_cb (al_cons (ae_op (ae_var rfl rfl) ae_non a2_notN) al_nil) ac_intB) (a2_ixL rfl)) rfl hz ⟨⟨.inr rfl, .inr rfl, .inr rfl, .inr rfl, .inr rfl, .inr rfl, .inr rfl, .inl rfl, trivial⟩, ?_⟩
          · have : ((wy : Nat) : Int) = 0 := by simpa using h
            rw [this]
          · rw [← List.cons_append, List.map_append]
            rfl
      · rw [List.take_of_length_le (Nat.le_refl _), ← hkey]
        refine as_app (x := .kt (keyL t (clsL t i) j)) (ae_var rfl rfl) (ae_cb (al_cons (ae_var rfl rfl) al_nil) (ac_tupO rfl)) rfl (by rw [List.length_map, List.length_map, List.length_range]; omega) ⟨[some (.lst ((keyL t (clsL t i) j).map .int))], ⟨⟨.inr rfl, .inr rfl, .inr rfl, .inr rfl, .inr rfl, .inl rfl, .inl rfl, .inl rfl, trivial⟩, ?_⟩⟩
        rw [List.range_succ, List.map_append, List.map_append]
        rfl
    · obtain ⟨g, le⟩ := I
      refine AS.le (as_frz 0 rfl (Nat.zero_le _) ?_) le
      refine as_asg (an_call (al_cons (ae_var rfl rfl) al_nil) rfl ⟨keysL t (clsL t i), rfl, by unfold keysL; rw [List.length_map, List.length_range]; omega, rfl⟩).ae ?_
      exact ⟨m - 1, by omega, i + 1, none :: g, by omega, ⟨⟨.inr rfl, .inr rfl, .inr rfl, .inr rfl, .inl rfl, .inr rfl, .inr rfl, .inr rfl, trivial⟩, rfl⟩⟩
  · have hlt : ¬ i < k := of_decide_eq_false hb
    have : i = k := by omega
    subst this
    exact AS.le (as_ret (ae_var rfl rfl) ⟨rfl, rfl⟩) le
/-! ### _law_leads_alike -/
abbrev s_law_leads_alike : Stmt := topS 19
theorem sc_law_leads_alike : FnScope ["_law_kept", "_law_found", "_law_busy_here", "_law_pairs", "_law_at", "_law_old", "_law_new", "_law_one", "_law_other", "_law_alive"] ["_law_kept", "_law_found"] (defScope s_law_leads_alike) := ⟨rfl, rfl, rfl, by decide +kernel, rfl, by decide +kernel, by decide +kernel⟩
def R_law_leads_alike (as : List A) (r : A) : Prop := ∃ (t u : Tbl) (Rel : Nat → Nat → Prop), as = [.d (tblD t), .d (tblD u)] ∧ t.Ok ∧ u.Ok ∧ t.rows.length ≤ 900 ∧ u.rows.length ≤ 900 ∧ SimT t u Rel ∧ Rel 0 0 ∧ r = .d (.bl true)
abbrev Has_law_leads_alike (P : Program) (w : World) (K : PySem.W.Frag) (mg : Str → Option Value) (base : Heap) : Prop := Has P w K mg base "_law_leads_alike" ["_law_kept", "_law_found"] 2 (SpF K R_law_leads_alike)
def pairD (p : Nat × Nat) : D := .tup [natD p.1, natD p.2]
theorem pair_eqv (p q : Nat × Nat) : PyData.eqv (pairD p).py (pairD q).py = decide (p = q) := by
  obtain ⟨a, b⟩ := p
  obtain ⟨c, d⟩ := q
  have e1 : ∀ x y : Nat, PyData.eqv (.int (x : Nat)) (.int (y : Nat)) = decide (x = y) := fun x y => by
    by_cases e : x = y
    · subst e
      rw [decide_eq_true rfl]
      simp [PyData.eqv]
    · rw [decide_eq_false e]
      have : ¬ (x : Int) = (y : Int) := by omega
      simp [PyData.eqv, this]
  show PyData.eqv (.tuple [.int (a : Nat), .int (b : Nat)]) (.tuple [.int (c : Nat), .int (d : Nat)]) = _
  rw [PyData.eqv, PyData.eqvAll, PyData.eqvAll, PyData.eqvAll, e1, e1, Bool.and_true, ← Bool.decide_and, decide_eq_decide]
  exact ⟨fun h => by rw [h.1, h.2], fun h => ⟨(Prod.mk.inj h).1, (Prod.mk.inj h).2⟩⟩
theorem pairs_any (q : Nat × Nat) : ∀ ps : List (Nat × Nat), ((D.pys (ps.map pairD)).any fun z => PyData.eqv z (pairD q).py) = decide (q ∈ ps)
  | [] => rfl
  | p :: ps => by
    show (PyData.eqv (pairD p).py (pairD q).py || ((D.pys (ps.map pairD)).any fun z => PyData.eqv z (pairD q).py)) = _
    rw [pair_eqv, pairs_any q ps, Bool.eq_iff_iff, Bool.or_eq_true, decide_eq_true_eq, decide_eq_true_eq, decide_eq_true_eq, List.mem_cons]
    exact or_congr ⟨Eq.symm, Eq.symm⟩ Iff.rfl
theorem pairs_few (n m : Nat) (ps : List (Nat × Nat)) (nd : ps.Nodup) (h : ∀ p ∈ ps, p.1 < n ∧ p.2 < m) : ps.length ≤ n * m := by
  have := nodup_few (n * m) (ps.map fun p => p.1 * m + p.2) ?_ ?_
  · rwa [List.length_map] at this
  · refine List.Pairwise.map _ ?_ (List.Pairwise.and_mem.mp nd)
    rintro ⟨a, b⟩ ⟨c, d⟩ ⟨h1, h2, h3⟩ e
    have e : a * m + b = c * m + d := e
    have b1 : b < m := (h _ h1).2
    have b2 : d < m := (h _ h2).2
    have e1 : (a * m + b) / m = a := by rw [Nat.mul_comm, Nat.mul_add_div (by omega), Nat.div_eq_of_lt b1, Nat.add_zero]
    have e2 : (c * m + d) / m = c := by rw [Nat.mul_comm, Nat.mul_add_div (by omega), Nat.div_eq_of_lt b2, Nat.add_zero]
    have hac : a = c := by rw [← e1, ← e2, e]
    subst hac
    exact h3 (by rw [show b = d by omega])
  · intro x hx
    obtain ⟨⟨a, b⟩, hp, rfl⟩ := List.mem_map.mp hx
    obtain ⟨h1, h2⟩ := h _ hp
    have h1 : a < n := h1
    have h2 : b < m := h2
    show a * m + b < n * m
    calc a * m + b < a * m + m := by omega
      _ = (a + 1) * m := by rw [Nat.add_mul, Nat.one_mul]
      _ ≤ n * m := Nat.mul_le_mul_right m h1
theorem pairs_ok (ps : List (Nat × Nat)) : okD (.lst (ps.map pairD)) := (Good.lst (n := 1) fun d hd => by
  obtain ⟨x, _, rfl⟩ := List.mem_map.mp hd
  exact Good.tup fun d hd => by
    rcases List.mem_cons.mp hd with rfl | hd
    · exact Good.int
    · rw [List.mem_singleton.mp hd]
      exact Good.int).ok
theorem pair_ok (p : Nat × Nat) : okD (pairD p) := (Good.tup (n := 0) fun d hd => by
    rcases List.mem_cons.mp hd with rfl | hd
    · exact Good.int
    · rw [List.mem_singleton.mp hd]
      exact Good.int).ok
theorem ok_law_leads_alike (DD : DefAt K mg "_law_leads_alike" s_law_leads_alike ["_law_kept", "_law_found"]) (H_law_busy : Has_law_busy P w K mg base) (m_len : mg "len" = none) (m_zip : mg "zip" = none) : Has_law_leads_alike P w K mg base := by
  refine okF DD sc_law_leads_alike (by rintro as r ⟨_, _, _, rfl, _⟩; rfl) fun _ _ _ _ _ _ _ hr => ⟨_, (pss_cons (ps_set (i := 2) sc_law_leads_alike.nd rfl (.inl rfl) (pe_has H_law_busy (hr.mono (by decide)) (by rfl) (pa_cons (pv 0) pa_nil)))
      (pss_cons (ps_set (i := 3) sc_law_leads_alike.nd rfl (.inl rfl) (pe_lst (pa_cons (pe_tup (pa_cons pe_int (pa_cons pe_int pa_nil))) pa_nil)))
      (pss_cons (ps_set (i := 4) sc_law_leads_alike.nd rfl (.inl rfl) pe_int)
      (pss_cons (ps_while PassesOwn.never (pt_cmpR op_lt (pv 4) (pe_callB call_len (by rfl) m_len (by decide +kernel) (pa_cons (pv 3) pa_nil)) (nomark _)) (pss_cons (ps_asg (pe_ix ix_list (pv 3) (pv 4) (fun _ _ => rfl)) (pg_tup rfl (pgs_cons (pg_name (i := 5) sc_law_leads_alike.nd rfl (.inl rfl)) (pgs_cons (pg_name (i := 6) sc_law_leads_alike.nd rfl (.inl rfl)) pgs_nil))))
      (pss_cons (ps_if (pt_cmpR op_ne (pe_ix ix_tup (pe_ix ix_list (pe_ix ix_tup (pv 0) pe_int (fun _ _ => rfl)) (pv 5) (fun _ _ => rfl)) pe_int (fun _ _ => rfl)) (pe_ix ix_tup (pe_ix ix_list (pe_ix ix_tup (pv 1) pe_int (fun _ _ => rfl)) (pv 6) (fun _ _ => rfl)) pe_int (fun _ _ => rfl)) (nomark _)) (pss_one (ps_ret pe_bl)) pss_nil)
      (pss_cons (ps_for PassesOwn.never rfl (pi_zip (by rfl) m_zip (pa_cons (pe_ix ix_tup (pe_ix ix_list (pe_ix ix_tup (pv 0) pe_int (fun _ _ => rfl)) (pv 5) (fun _ _ => rfl)) pe_int (fun _ _ => rfl)) (pa_cons (pe_ix ix_tup (pe_ix ix_list (pe_ix ix_tup (pv 1) pe_int (fun _ _ => rfl)) (pv 6) (fun _ _ => rfl)) pe_int (fun _ _ => rfl)) pa_nil))) (pg_tup rfl (pgs_cons (pg_name (i := 7) sc_law_leads_alike.nd rfl (.inl rfl)) (pgs_cons (pg_name (i := 8) sc_law_leads_alike.nd rfl (.inl rfl)) pgs_nil))) (pss_cons (ps_set (i := 9) sc_law_leads_alike.nd rfl (.inl rfl) (pe_and (pe_cmpR op_notN (pv 7) pe_non (nomark _)) (pe_one (pe_ix ix_list (pv 2) (pv 7) (fun _ _ => rfl)))))
      (pss_cons (ps_if (pt_cmpR op_ne (pv 9) (pe_cmpR op_notN (pv 8) pe_non (nomark _)) (nomark _)) (pss_one (ps_ret pe_bl)) pss_nil)
      (pss_one (ps_if (PW.pt (pw_and (pt_val (pv 9)) (pw_and1 (pt_cmpR (op_notInD (room65 hr)) (pe_tup (pa_cons (pv 7) (pa_cons (pv 8) pa_nil))) (pv 3) rfl)))) (pss_one (ps_expr (pe_bm PySem.F.plainAttrs_list PySem.F.slot_list_append PySem.F.type_list_append mt_append (pv 3) (pa_cons (pe_tup (pa_cons (pv 7) (pa_cons (pv 8) pa_nil))) pa_nil)))) pss_nil)))))
      (pss_one (ps_set (i := 4) sc_law_leads_alike.nd rfl (.inl rfl) (pe_op op_add (pv 4) pe_int)))))))
      (pss_one (ps_ret pe_bl)))))), ?_⟩
  rintro as r ⟨t, u, Rel, rfl, ht, hu, hm1, hm2, hsim, h00, rfl⟩
  have hrow : ∀ (t : Tbl) (i : Nat) (r : Row), t.rows[i]? = some r → L2.atI (t.rows.map rowD) (i : Nat) = some (rowD r) := fun t i r h => atI_of (j := i) rfl (by rw [List.getElem?_map, h]; rfl)
  have hbl : (busyL t).length = t.rows.length := by unfold busyL; rw [List.length_map, List.length_range]
  have hbat : ∀ i, i < t.rows.length → L2.atI ((busyL t).map D.bl) (i : Nat) = some (.bl (busyB t i)) := fun i hi => atI_of (j := i) rfl (by
    unfold busyL
    rw [List.map_map, List.getElem?_map, List.getElem?_range hi]
    rfl)
  refine as_seq (as_asg (an_call (al_cons (ae_var rfl rfl) al_nil) rfl ⟨t, rfl, ht, rfl⟩).ae ?_)
  refine as_seq (as_asgN (an_lst' (ald_cons (ae_tup' (ald_cons ae_int (ald_cons ae_int ald_nil))) ald_nil)) ?_)
  refine as_seq (as_asg ae_int ?_)
  refine as_seq (as_while (fun m e' => ∃ (k : Nat) (ps : List (Nat × Nat)), ps.Nodup ∧ (∀ p ∈ ps, Rel p.1 p.2) ∧ k ≤ ps.length ∧ m + k = t.rows.length * u.rows.length ∧
      Le e' ⟨[.d (tblD t), .d (tblD u), .d (.lst ((busyL t).map .bl)), .o 0, .d (natD k), .no, .no, .no, .no, .no], [some (.lst (ps.map pairD))]⟩) ?_ (fun m e' I => ?_))
  · exact ⟨_, 0, [(0, 0)], List.pairwise_singleton _ _, fun p hp => by rw [List.mem_singleton.mp hp]; exact h00, Nat.zero_le _, rfl, ⟨⟨.inr rfl, .inr rfl, .inr rfl, .inr rfl, .inr rfl, .inl rfl, .inl rfl, .inl rfl, .inl rfl, .inl rfl, trivial⟩, rfl⟩⟩
  obtain ⟨k, ps, nd, hrel, hk, hmk, le⟩ := I
  have few : ∀ ps : List (Nat × Nat), ps.Nodup → (∀ p ∈ ps, Rel p.1 p.2) → ps.length ≤ t.rows.length * u.rows.length := fun ps nd hrel => pairs_few _ _ ps nd fun p hp => by
    obtain ⟨ra, rb, h1, h2, _⟩ := hsim _ _ (hrel p hp)
    exact ⟨(List.getElem?_eq_some_iff.mp h1).1, (List.getElem?_eq_some_iff.mp h2).1⟩
  have hbig : t.rows.length * u.rows.length ≤ 900 * 900 := Nat.mul_le_mul hm1 hm2
  refine ⟨decide (k < ps.length), AT.le le ((at_val (ae_op (ae_var rfl rfl) (ae_cb (al_cons (ae_var rfl rfl) al_nil) (ac_lenO rfl)) a2_I0b)).eq (by rw [List.length_map]; exact decide_eq_decide.mpr (Int.ofNat_lt))), fun hb => ?_, fun hb => ?_⟩
  · have hlt := of_decide_eq_true hb
    have hfew := few ps nd hrel
    refine AS.le ?_ le
    have hpk : ps[k]? = some ps[k] := List.getElem?_eq_getElem hlt
    have hpm := hrel _ (List.mem_of_getElem? hpk)
    have hatk : L2.atI (ps.map pairD) (k : Nat) = some (pairD ps[k]) := atI_of (j := k) rfl (by rw [List.getElem?_map, hpk]; rfl)
    generalize ps[k] = pq at hpm hatk
    obtain ⟨a, b⟩ := pq
    obtain ⟨ra, rb, h1, h2, h3, h4, h5⟩ := hsim _ _ hpm
    have hra := hrow t a ra h1
    have hrb := hrow u b rb h2
    have hina := ht.ins _ (List.mem_of_getElem? h1)
    obtain ⟨o, ws⟩ := ra
    obtain ⟨o', vs⟩ := rb
    have h3 : o = o' := h3
    subst h3
    have h4 : ws.length = vs.length := h4
    refine as_seq (as_asgG (ae_op (ae_var rfl rfl) (ae_var rfl rfl) (a2_ixO rfl hatk)) (ag_tup (ags_name (ags_name (ags_nil ?_)))))
    refine as_seq (as_if ((at_val (ae_op (ae_op (ae_op (ae_op (ae_var rfl rfl) ae_int (a2_ixT rfl)) (ae_var rfl rfl) (a2_ixL hra)) ae_int (a2_ixT rfl)) (ae_op (ae_op (ae_op (ae_var rfl rfl) ae_int (a2_ixT rfl)) (ae_var rfl rfl) (a2_ixL hrb)) ae_int (a2_ixT rfl)) (a2_ne (p := optI o) (q := optI o) (by cases o <;> rfl) (by cases o <;> rfl) (by cases o <;> rfl)))).eq (j := false) (by rw [decide_eq_true rfl]; rfl)) (fun h => by cases h) (fun h => as_next ?_))
    refine as_seq (as_for (fun i e' => ∃ ps' : List (Nat × Nat), ps'.Nodup ∧ (∀ p ∈ ps', Rel p.1 p.2) ∧ ps.length ≤ ps'.length ∧
        Le e' ⟨[.d (tblD t), .d (tblD u), .d (.lst ((busyL t).map .bl)), .o 0, .d (natD k), .d (natD a), .d (natD b), .no, .no, .no], [some (.lst (ps'.map pairD))]⟩)
      (ai_zip (n := ws.length) (f := fun i => optN (ws.getD i none)) (g := fun i => optN (vs.getD i none)) (al_cons (ae_op (ae_op (ae_op (ae_var rfl rfl) ae_int (a2_ixT rfl)) (ae_var rfl rfl) (a2_ixL hra)) ae_int (a2_ixT rfl)) (al_cons (ae_op (ae_op (ae_op (ae_var rfl rfl) ae_int (a2_ixT rfl)) (ae_var rfl rfl) (a2_ixL hrb)) ae_int (a2_ixT rfl)) al_nil)) (List.length_map ..) (by rw [List.length_map]; exact h4.symm) (fun i hi => by rw [List.getElem?_map, getD_get none hi]; rfl) (fun i hi => by rw [List.getElem?_map, getD_get none (h4 ▸ hi)]; rfl)) ?_ (fun i e' hi I => ?_) fun e' I => ?_)
    · exact ⟨ps, nd, hrel, Nat.le_refl _, ⟨⟨.inr rfl, .inr rfl, .inr rfl, .inr rfl, .inr rfl, .inr rfl, .inr rfl, .inr rfl, .inr rfl, .inr rfl, trivial⟩, rfl⟩⟩
    · obtain ⟨ps', nd', hrel', hl', le'⟩ := I
      refine AG.le le' (ag_tup (ags_name (ags_name (ags_nil ?_))))
      have hw := getD_get none hi
      have hv := getD_get none (h4 ▸ hi : i < vs.length)
      generalize ws.getD i none = x at hw
      generalize vs.getD i none = y at hv
      obtain ⟨c1, c2⟩ := h5 i x y hw hv
      -- what is alive
      have hal : AE K (tAndV (tOp (fun x y H Q => y = .non ∧ Q (.bl (!decide (x = .non))) H) (tVar 7) (tC .non)) (tOp (rIxL K) (tVar 2) (tVar 7))) ⟨[.d (tblD t), .d (tblD u), .d (.lst ((busyL t).map .bl)), .o 0, .d (natD k), .d (natD a), .d (natD b), .d (optN x), .d (optN y), .no], [some (.lst (ps'.map pairD))]⟩ (.d (.bl y.isSome)) := by
        cases x with
        | none =>
          refine (ae_and2 (j := false) (ae_op (ae_var rfl rfl) ae_non a2_notN) fun h => by cases h).eq ?_
          cases hy : y.isSome with
          | false => rfl
          | true =>
            obtain ⟨m, hm, _⟩ := c1.mpr hy
            cases hm
        | some m =>
          refine (ae_and2 (ae_op (ae_var rfl rfl) ae_non a2_notN) fun h => (ae_op (ae_var rfl rfl) (ae_var rfl rfl) (a2_ixL (hbat m (hina m (List.mem_of_getElem? hw)))))).eq ?_
          show A.d (.bl (true && busyB t m)) = _
          rw [Bool.true_and]
          congr 2
          rw [Bool.eq_iff_iff, busyB_true, ← c1]
          exact ⟨fun h => ⟨m, rfl, h⟩, fun ⟨m', e, h⟩ => by cases e; exact h⟩
      refine as_seq (as_asg hal ?_)
      refine as_seq (as_if ((at_val (ae_op (ae_var rfl rfl) (ae_op (ae_var rfl rfl) ae_non a2_notN) a2_neB)).eq (j := false) (by cases y <;> rfl)) (fun h => by cases h) (fun h => as_next ?_))
      cases y with
      | none => exact as_if (b := false) ((at_and (j := false) (at_B (ae_var rfl rfl)) fun h => by cases h).eq rfl) (fun h => by cases h) fun _ => as_next ⟨ps', nd', hrel', hl', ⟨⟨.inr rfl, .inr rfl, .inr rfl, .inr rfl, .inr rfl, .inr rfl, .inr rfl, .inl rfl, .inl rfl, .inl rfl, trivial⟩, rfl⟩⟩
      | some n =>
        obtain ⟨m, rfl, hbm⟩ := c1.mpr rfl
        have hmn := c2 m n rfl rfl
        have hf' := few ps' nd' hrel'
        refine as_if ((at_and (at_B (ae_var rfl rfl)) fun h => (at_val (ae_op (ae_tup' (ald_cons (ae_var rfl rfl) (ald_cons (ae_var rfl rfl) ald_nil))) (ae_var rfl rfl) (a2_notInDO rfl (pair_ok (m, n)) (pairs_ok ps'))))).eq (j := !decide ((m, n) ∈ ps')) (by
          show (true && !((D.pys (ps'.map pairD)).any fun z => PyData.eqv z (pairD (m, n)).py)) = _
          rw [pairs_any, Bool.true_and])) (fun h => ?_) (fun h => ?_)
        · have hn : ¬ (m, n) ∈ ps' := by simpa using h
          refine as_app (x := pairD (m, n)) (ae_var rfl rfl) (ae_tup' (ald_cons (ae_var rfl rfl) (ald_cons (ae_var rfl rfl) ald_nil))) rfl (by rw [List.length_map]; omega) ⟨ps' ++ [(m, n)], ?_, fun p hp => ?_, by rw [List.length_append]; omega, ⟨⟨.inr rfl, .inr rfl, .inr rfl, .inr rfl, .inr rfl, .inr rfl, .inr rfl, .inl rfl, .inl rfl, .inl rfl, trivial⟩, ?_⟩⟩
          · exact List.nodup_append.mpr ⟨nd', List.pairwise_singleton _ _, fun p hp q hq e => by
              rw [List.mem_singleton.mp hq] at e
              exact hn (e ▸ hp)⟩
          · rcases List.mem_append.mp hp with hp | hp
            · exact hrel' p hp
            · rw [List.mem_singleton.mp hp]
              exact hmn
          · rw [List.map_append]
            rfl
        · exact as_next ⟨ps', nd', hrel', hl', ⟨⟨.inr rfl, .inr rfl, .inr rfl, .inr rfl, .inr rfl, .inr rfl, .inr rfl, .inl rfl, .inl rfl, .inl rfl, trivial⟩, rfl⟩⟩
    · obtain ⟨ps', nd', hrel', hl', le'⟩ := I
      have hf' := few ps' nd' hrel'
      refine AS.le ?_ le'
      refine as_asg (ae_op (ae_var rfl rfl) ae_int a2_I0) ⟨m - 1, by omega, k + 1, ps', nd', hrel', by omega, by omega, ⟨⟨.inr rfl, .inr rfl, .inr rfl, .inr rfl, .inr rfl, .inl rfl, .inl rfl, .inr rfl, .inr rfl, .inr rfl, trivial⟩, rfl⟩⟩
  · exact AS.le (as_ret ae_bl ⟨rfl, rfl⟩) le
/-! ### _law_table_by -/
abbrev s_law_table_by : Stmt := topS 14
theorem sc_law_table_by : FnScope ["_law_script", "_law_letters_here", "_law_most_signs", "_law_many", "_law_signs", "_law_style", "_law_most", "_law_alone", "_law_number", "_law_rows", "_law_k", "_law_ways", "_law_sign", "_law_way", "_law_told"] ["_law_script", "_law_letters_here", "_law_most_signs"] (defScope s_law_table_by) := ⟨rfl, rfl, rfl, by decide +kernel, rfl, by decide +kernel, by decide +kernel⟩
def R_law_table_by (K : PySem.W.Frag) (as : List A) (r : A) : Prop := ∃ (ns : List Int) (ls : List (List Nat)) (most : Int), as = [.p (ScP K ns), .d (strsD ls), .d (.int most)] ∧ LetOk ls ∧ (0 ≤ most ∧ most ≤ 40) ∧ r = .d (tblD (tableBy ns ls most))
abbrev Has_law_table_by (P : Program) (w : World) (K : PySem.W.Frag) (mg : Str → Option Value) (base : Heap) : Prop := Has P w K mg base "_law_table_by" ["_law_script", "_law_letters_here", "_law_most_signs"] 2 (SpF K (R_law_table_by K))
theorem wayD {p : TP} (h : p.Ok) {k n : Int} (hk : 0 ≤ k) (i : Nat) : (if decide (p.many ≤ wayV p k n i) = true then D.non else .int (wayV p k n i)) = optN (wayO p k n i) := by
  unfold wayO
  have := wayV_lo h (n := n) hk i
  split
  · rfl
  · show D.int _ = D.int (((wayV p k n i).toNat : Nat) : Int)
    rw [Int.toNat_of_nonneg this]
theorem toldD (p : TP) (n : Int) : (if decide (2 < toldV p n) = true then D.non else .int (toldV p n * p.alone)) = optI (toldO p n) := by
  unfold toldO
  split <;> rfl
theorem ok_law_table_by (DD : DefAt K mg "_law_table_by" s_law_table_by ["_law_script", "_law_letters_here", "_law_most_signs"]) (H_law_cell_at : Has_law_cell_at P w K mg base) (m_range : mg "range" = none) (m_len : mg "len" = none) (m_int : mg "int" = none) : Has_law_table_by P w K mg base := by
  refine okF DD sc_law_table_by (by rintro as r ⟨_, _, _, rfl, _⟩; rfl) fun _ _ _ _ _ _ _ hr => ⟨_, (pss_cons (ps_set (i := 3) sc_law_table_by.nd rfl (.inl rfl) (pe_op op_add pe_int (pe_op op_mod (pe_has H_law_cell_at (hr.mono (by decide)) (by rfl) (pa_cons (pv 0) (pa_cons pe_int pa_nil))) pe_int)))
      (pss_cons (ps_if (pt_cmpR op_eq (pe_op op_mod (pe_op op_fdiv (pe_has H_law_cell_at (hr.mono (by decide)) (by rfl) (pa_cons (pv 0) (pa_cons pe_int pa_nil))) pe_int) pe_int) pe_int (nomark _)) (pss_one (ps_set (i := 3) sc_law_table_by.nd rfl (.inl rfl) (pe_op op_add pe_int (pe_op op_mod (pe_op op_fdiv (pe_has H_law_cell_at (hr.mono (by decide)) (by rfl) (pa_cons (pv 0) (pa_cons pe_int pa_nil))) pe_int) pe_int)))) pss_nil)
      (pss_cons (ps_set (i := 4) sc_law_table_by.nd rfl (.inl rfl) (pe_slice sl_str (pe_join pe_str (pe_slice sl_list (pv 1) po_none (po_some (pe_op op_mod (pe_has H_law_cell_at (hr.mono (by decide)) (by rfl) (pa_cons (pv 0) (pa_cons pe_int pa_nil))) pe_int)))) po_none (po_some (pe_ix ix_list (pe_lst (pa_cons pe_int (pa_cons (pv 2) pa_nil))) (pe_callTy call_int1 (by rfl) m_int (by decide +kernel) (pa_cons (pe_cmpR op_gt (pv 3) pe_int (nomark _)) pa_nil)) (fun _ _ => rfl)))))
      (pss_cons (ps_set (i := 5) sc_law_table_by.nd rfl (.inl rfl) (pe_op op_mod (pe_op op_fdiv (pe_has H_law_cell_at (hr.mono (by decide)) (by rfl) (pa_cons (pv 0) (pa_cons pe_int pa_nil))) pe_int) pe_int))
      (pss_cons (ps_set (i := 6) sc_law_table_by.nd rfl (.inl rfl) (pe_op op_add (pv 3) (pe_ix ix_list (pe_lst (pa_cons pe_int (pa_cons pe_int (pa_cons (pe_op op_add pe_int (pe_op op_fdiv (pv 3) pe_int)) pa_nil)))) (pe_op op_mod (pe_op op_fdiv (pe_has H_law_cell_at (hr.mono (by decide)) (by rfl) (pa_cons (pv 0) (pa_cons pe_int pa_nil))) pe_int) pe_int) (fun _ _ => rfl))))
      (pss_cons (ps_set (i := 7) sc_law_table_by.nd rfl (.inl rfl) (pe_ix ix_list (pe_lst (pa_cons pe_int (pa_cons pe_int (pa_cons pe_int (pa_cons (pe_op op_pow pe_int pe_int) pa_nil))))) (pe_op op_mod (pe_op op_fdiv (pe_has H_law_cell_at (hr.mono (by decide)) (by rfl) (pa_cons (pv 0) (pa_cons pe_int pa_nil))) pe_int) pe_int) (fun _ _ => rfl)))
      (pss_cons (ps_set (i := 8) sc_law_table_by.nd rfl (.inl rfl) (pe_op op_mod (pe_has H_law_cell_at (hr.mono (by decide)) (by rfl) (pa_cons (pv 0) (pa_cons pe_int pa_nil))) pe_int))
      (pss_cons (ps_set (i := 9) sc_law_table_by.nd rfl (.inl rfl) (pe_lst pa_nil))
      (pss_cons (ps_for PassesOwn.never rfl (pi_range1 (by rfl) m_range (pa_cons (pv 3) pa_nil)) (pg_name (i := 10) sc_law_table_by.nd rfl (.inl rfl)) (pss_cons (ps_set (i := 11) sc_law_table_by.nd rfl (.inl rfl) (pe_lst pa_nil))
      (pss_cons (ps_for PassesOwn.never rfl (pi_str (pv 4)) (pg_name (i := 12) sc_law_table_by.nd rfl (.inl rfl)) (pss_cons (ps_set (i := 8) sc_law_table_by.nd rfl (.inl rfl) (pe_op op_mod (pe_op op_add (pe_op op_mul (pv 8) pe_int) pe_int) pe_int))
      (pss_cons (ps_set (i := 13) sc_law_table_by.nd rfl (.inl rfl) (pe_op op_mod (pe_op op_fdiv (pv 8) pe_int) (pv 6)))
      (pss_cons (ps_if (PW.pt (pw_and (pt_chain op_lt op_lt pe_int (pv 5) pe_int) (pw_and1 (pt_cmpR op_eq (pe_callB call_len (by rfl) m_len (by decide +kernel) (pa_cons (pv 11) pa_nil)) pe_int (nomark _))))) (pss_one (ps_set (i := 13) sc_law_table_by.nd rfl (.inl rfl) (pe_op op_add (pv 10) pe_int))) pss_nil)
      (pss_one (ps_expr (pe_bm PySem.F.plainAttrs_list PySem.F.slot_list_append PySem.F.type_list_append mt_append (pv 11) (pa_cons (pe_ix ix_list (pe_lst (pa_cons (pv 13) (pa_cons pe_non pa_nil))) (pe_callTy call_int1 (by rfl) m_int (by decide +kernel) (pa_cons (pe_cmpR op_ge (pv 13) (pv 3) (nomark _)) pa_nil)) (fun _ _ => rfl)) pa_nil))))))))
      (pss_cons (ps_set (i := 8) sc_law_table_by.nd rfl (.inl rfl) (pe_op op_mod (pe_op op_add (pe_op op_mul (pv 8) pe_int) pe_int) pe_int))
      (pss_cons (ps_set (i := 14) sc_law_table_by.nd rfl (.inl rfl) (pe_op op_mod (pe_op op_fdiv (pv 8) pe_int) (pe_ix ix_list (pe_lst (pa_cons pe_int (pa_cons pe_int (pa_cons pe_int (pa_cons pe_int pa_nil))))) (pv 5) (fun _ _ => rfl))))
      (pss_one (ps_expr (pe_bm PySem.F.plainAttrs_list PySem.F.slot_list_append PySem.F.type_list_append mt_append (pv 9) (pa_cons (pe_tup (pa_cons (pe_ix ix_list (pe_lst (pa_cons (pe_op op_mul (pv 14) (pv 7)) (pa_cons pe_non pa_nil))) (pe_callTy call_int1 (by rfl) m_int (by decide +kernel) (pa_cons (pe_cmpR op_gt (pv 14) pe_int (nomark _)) pa_nil)) (fun _ _ => rfl)) (pa_cons (pv 11) pa_nil))) pa_nil)))))))))
      (pss_one (ps_ret (pe_tup (pa_cons (pv 4) (pa_cons (pv 9) pa_nil)))))))))))))), ?_⟩
  rintro as r ⟨ns, ls, most, rfl, hl, hm, rfl⟩
  have hp := tpOf_ok (ns := ns) hl hm
  have hb := tpMany_b ns
  -- _law_many
  refine as_seq (as_asg (ae_op ae_int (ae_op (ae_call (al_cons (ae_var rfl rfl) (al_cons ae_int al_nil)) rfl ⟨_, _, rfl, by decide, rfl⟩) ae_int (a2_I (by decide))) a2_I0) ?_)
  refine as_seq (as_ifset (at_val (ae_op (ae_op (ae_op (ae_call (al_cons (ae_var rfl rfl) (al_cons ae_int al_nil)) rfl ⟨_, _, rfl, by decide, rfl⟩) ae_int (a2_I ⟨by decide, by decide⟩)) ae_int (a2_I (by decide))) ae_int a2_eqI)) (fun h => (ae_op ae_int (ae_op (ae_op (ae_call (al_cons (ae_var rfl rfl) (al_cons ae_int al_nil)) rfl ⟨_, _, rfl, by decide, rfl⟩) ae_int (a2_I ⟨by decide, by decide⟩)) ae_int (a2_I (by decide))) a2_I0)) rfl ?_)
  have e1 : (if decide (cell ns 1 / 7 % 6 = 1) = true then (D.int (1 + cell ns 1 / 42 % 64)) else .int (1 + cell ns 1 % 7)) = .int (tpMany ns) := by
    unfold tpMany
    split <;> rfl
  rw [e1]
  -- _law_signs
  have hc2 := mod_lo (cell ns 2) (n := 5) (by decide)
  have hc2' := mod_hi (cell ns 2) (n := 5) (by decide)
  have hj : ((cutG ls none (some (cell ns 2 % 5))).map (·.length)).sum ≤ 100 := by
    have h1 := joined (ls := cutG ls none (some (cell ns 2 % 5))) fun g hg => (hl.it g (cutG_mem hg)).2
    have h2 := cutG_to_len ls hc2
    omega
  refine as_seq (as_asg (ae_slS (ae_m1 (ae_str (s := []) (by decide +kernel)) (an_slL (ae_var rfl rfl) ao_none (ao_some (ae_op (ae_call (al_cons (ae_var rfl rfl) (al_cons ae_int al_nil)) rfl ⟨_, _, rfl, by decide, rfl⟩) ae_int (a2_I (by decide))))).ae (am_joinT (cutG ls none (some (cell ns 2 % 5))) (cutG_map _ _ _ _) ?_ rfl)) ?_ ao_none (ao_some (ae_op (an_lst' (ald_cons ae_int (ald_cons (ae_var rfl rfl) ald_nil))).ae (ae_cb (al_cons (ae_op (ae_var rfl rfl) ae_int a2_I0b) al_nil) ac_intB) (a2_ixL (d := .int (if decide (7 < tpMany ns) = true then most else 40)) ?_)))) ?_)
  · show _ + _ * 0 ≤ _
    omega
  · rw [joinL_nil, flat_len]
    omega
  · rw [pick2]
    split <;> rfl
  -- _law_style
  refine as_seq (as_asg (ae_op (ae_op (ae_call (al_cons (ae_var rfl rfl) (al_cons ae_int al_nil)) rfl ⟨_, _, rfl, by decide, rfl⟩) ae_int (a2_I ⟨by decide, by decide⟩)) ae_int (a2_I (by decide))) ?_)
  -- _law_most
  refine as_seq (as_asg (ae_op (ae_var rfl rfl) (ae_op (an_lst' (ald_cons ae_int (ald_cons ae_int (ald_cons (ae_op ae_int (ae_op (ae_var rfl rfl) ae_int (a2_I ⟨by decide, by decide⟩)) a2_I0) ald_nil)))).ae (ae_op (ae_op (ae_call (al_cons (ae_var rfl rfl) (al_cons ae_int al_nil)) rfl ⟨_, _, rfl, by decide, rfl⟩) ae_int (a2_I ⟨by decide, by decide⟩)) ae_int (a2_I (by decide))) (a2_ixL (atI_map (l := [0, 1, 1 + tpMany ns / 3]) (g := D.int) (pick_at 0 (mod_lo _ (n := 3) (by decide)) (mod_hi _ (n := 3) (by decide)))))) a2_I0) ?_)
  -- _law_alone
  refine as_seq (as_asg (ae_op (an_lst' (ald_cons ae_int (ald_cons ae_int (ald_cons ae_int (ald_cons (ae_op ae_int ae_int (a2_I ⟨by decide, by decide, by decide⟩)) ald_nil))))).ae (ae_op (ae_op (ae_call (al_cons (ae_var rfl rfl) (al_cons ae_int al_nil)) rfl ⟨_, _, rfl, by decide, rfl⟩) ae_int (a2_I ⟨by decide, by decide⟩)) ae_int (a2_I (by decide))) (a2_ixL (atI_map (l := [0, 1, 7, 10 ^ 9]) (g := D.int) (pick_at 0 (mod_lo _ (by decide)) (mod_hi _ (by decide)))))) ?_)
  -- _law_number
  refine as_seq (as_asg (ae_op (ae_call (al_cons (ae_var rfl rfl) (al_cons ae_int al_nil)) rfl ⟨_, _, rfl, by decide, rfl⟩) ae_int (a2_I (by decide))) ?_)
  -- _law_rows = []
  refine as_seq (as_asgN (an_lst' ald_nil) ?_)
  -- the rows
  refine as_forE_seq (fun k => ⟨[.p (ScP K ns), .d (strsD ls), .d (.int most), .d (.int (tpMany ns)), .d (.str (tpSigns ns ls most)), .d (.int (tpOf ns ls most).style), .d (.int (tpOf ns ls most).mst), .d (.int (tpOf ns ls most).alone), .d (.int (rState (tpOf ns ls most) (cell ns 3 % 2147483647) k).2), .o 0, .no, .no, .no, .no, .no], some (.lst ((rState (tpOf ns ls most) (cell ns 3 % 2147483647) k).1.map rowD)) :: List.replicate k none⟩) (ai_rng1 (al_cons (ae_var rfl rfl) al_nil) (by omega) (by omega)) ?_ (fun k hk => ?_) ?_
  · exact ⟨⟨.inr rfl, .inr rfl, .inr rfl, .inr rfl, .inr rfl, .inr rfl, .inr rfl, .inr rfl, .inr rfl, .inr rfl, .inl rfl, .inl rfl, .inl rfl, .inl rfl, .inl rfl, trivial⟩, rfl⟩
  · refine ag_name ?_
    generalize hN : (rState (tpOf ns ls most) (cell ns 3 % 2147483647) k).2 = n0
    generalize hR : (rState (tpOf ns ls most) (cell ns 3 % 2147483647) k).1 = rs
    -- _law_ways = []
    refine as_seq (as_asgN (an_lst' ald_nil) ?_)
    have hml : ∀ x : Option O, (x :: List.replicate k (none : Option O)).length = k + 1 := fun x => by rw [List.length_cons, List.length_replicate]
    -- the ways
    refine as_forE_seq (fun i => ⟨[.p (ScP K ns), .d (strsD ls), .d (.int most), .d (.int (tpMany ns)), .d (.str (tpSigns ns ls most)), .d (.int (tpOf ns ls most).style), .d (.int (tpOf ns ls most).mst), .d (.int (tpOf ns ls most).alone), .d (.int (wState (tpOf ns ls most) k n0 i).2), .o 0, .d (.int (k : Nat)), .o (k + 1), .no, .no, .no], some (.lst (rs.map rowD)) :: List.replicate k none ++ [some (.lst ((wState (tpOf ns ls most) k n0 i).1.map optN))]⟩) (ai_str (n := (tpSigns ns ls most).length) (f := fun i => (tpSigns ns ls most).getD i 0) (ae_var rfl rfl) rfl (fun i hi => by rw [List.getD_eq_getElem?_getD, List.getElem?_eq_getElem hi]; rfl)) ?_ (fun i hi => ?_) ?_
    · refine ⟨⟨.inr rfl, .inr rfl, .inr rfl, .inr rfl, .inr rfl, .inr rfl, .inr rfl, .inr rfl, .inr rfl, .inr rfl, .inr rfl, .inr ?_, .inl rfl, .inl rfl, .inl rfl, trivial⟩, rfl⟩
      show A.o (some (.lst (rs.map rowD)) :: List.replicate k none).length = A.o (k + 1)
      rw [hml]
    · refine ag_name ?_
      have hw : ∀ ds : List D, (some (O.lst (rs.map rowD)) :: List.replicate k none ++ [some (.lst ds)])[k + 1]? = some (some (.lst ds)) := fun ds => by
        rw [List.getElem?_append_right (by rw [hml]; exact Nat.le_refl _), hml, Nat.sub_self]
        rfl
      refine as_seq (as_asg (ae_op (ae_op (ae_op (ae_var rfl rfl) ae_int (a2_I (.inr ⟨by decide, by decide⟩))) ae_int a2_I0) ae_int (a2_I (by decide))) ?_)
      refine as_seq (as_asg (ae_op (ae_op (ae_var rfl rfl) ae_int (a2_I ⟨by decide, by decide⟩)) (ae_var rfl rfl) (a2_I (by have := hp.mo; omega))) ?_)
      refine as_seq (as_ifset (at_and (at_val (ae_chain ae_int (ae_var rfl rfl) a2_I0b (fun h => ae_int) (fun h => a2_I0b))) fun h => (at_val (ae_op (ae_cb (al_cons (ae_var rfl rfl) al_nil) (ac_lenO (hw _))) ae_int a2_eqI))) (fun h => (ae_op (ae_var rfl rfl) ae_int a2_I0)) rfl ?_)
      have e2 : (if (decide (0 < (tpOf ns ls most).style) && decide ((tpOf ns ls most).style < 3) && decide ((((wState (tpOf ns ls most) k n0 i).1.map optN).length : Int) = 0)) = true then D.int ((k : Int) + 1) else D.int ((((wState (tpOf ns ls most) k n0 i).2 * 48271 + 11) % 2147483647) / 7 % (tpOf ns ls most).mst)) = .int (wayV (tpOf ns ls most) k (nxt (wState (tpOf ns ls most) k n0 i).2) i) := by
        rw [List.length_map, w_len]
        unfold wayV nxt
        split <;> rfl
      rw [e2]
      refine as_app (ae_var rfl rfl) (ae_op (an_lst' (ald_cons (ae_var rfl rfl) (ald_cons ae_non ald_nil))).ae (ae_cb (al_cons (ae_op (ae_var rfl rfl) (ae_var rfl rfl) a2_I0b) al_nil) ac_intB) (a2_ixL (pick2 _))) (hw _) ?_ ?_
      · rw [List.length_map, w_len]
        have := hp.s
        have e : (tpOf ns ls most).signs = tpSigns ns ls most := rfl
        rw [e] at this
        omega
      · refine ⟨⟨.inr rfl, .inr rfl, .inr rfl, .inr rfl, .inr rfl, .inr rfl, .inr rfl, .inr rfl, .inr rfl, .inr rfl, .inr rfl, .inr rfl, .inl rfl, .inl rfl, .inl rfl, trivial⟩, ?_⟩
        show List.set (some (O.lst (rs.map rowD)) :: List.replicate k none ++ [_]) (k + 1) _ = _
        rw [List.set_append_right _ _ (by rw [hml]; exact Nat.le_refl _), hml, Nat.sub_self]
        show _ ++ [some (O.lst _)] = _ ++ [some (O.lst _)]
        have e3 := wayD hp (k := k) (n := nxt (wState (tpOf ns ls most) k n0 i).2) (Int.natCast_nonneg k) i
        have e4 : (tpOf ns ls most).many = tpMany ns := rfl
        rw [e4] at e3
        rw [e3]
        show _ = _ ++ [some (O.lst (((wState (tpOf ns ls most) k n0 i).1 ++ [wayO (tpOf ns ls most) k (nxt (wState (tpOf ns ls most) k n0 i).2) i]).map optN))]
        rw [List.map_append]
        rfl
    · -- behind the ways
      have hw : ∀ ds : List D, (some (O.lst (rs.map rowD)) :: List.replicate k none ++ [some (.lst ds)])[k + 1]? = some (some (.lst ds)) := fun ds => by
        rw [List.getElem?_append_right (by rw [hml]; exact Nat.le_refl _), hml, Nat.sub_self]
        rfl
      refine as_seq (as_asg (ae_op (ae_op (ae_op (ae_var rfl rfl) ae_int (a2_I (.inr ⟨by decide, by decide⟩))) ae_int a2_I0) ae_int (a2_I (by decide))) ?_)
      have hst := hp.st
      have hth : 0 < thr.getD (tpOf ns ls most).style.toNat 0 := by
        have h : ∀ x ∈ thr, 0 < x := by decide
        have hlt : (tpOf ns ls most).style.toNat < thr.length := by show _ < 4; omega
        rw [List.getD_eq_getElem?_getD, List.getElem?_eq_getElem hlt]
        exact h _ (List.getElem_mem hlt)
      refine as_seq (as_asg (ae_op (ae_op (ae_var rfl rfl) ae_int (a2_I ⟨by decide, by decide⟩)) (ae_op (an_lst' (ald_cons ae_int (ald_cons ae_int (ald_cons ae_int (ald_cons ae_int ald_nil))))).ae (ae_var rfl rfl) (a2_ixL (atI_map (l := thr) (g := D.int) (pick_at 0 hst.1 hst.2)))) (a2_I hth)) ?_)
      have hal : -(2 ^ 64) < (tpOf ns ls most).alone ∧ (tpOf ns ls most).alone < 2 ^ 64 := by
        have := hp.al
        exact ⟨by omega, by omega⟩
      refine as_frz (k + 1) (hw _) (Nat.zero_le _) (AS.le (e' := ⟨[.p (ScP K ns), .d (strsD ls), .d (.int most), .d (.int (tpMany ns)), .d (.str (tpSigns ns ls most)), .d (.int (tpOf ns ls most).style), .d (.int (tpOf ns ls most).mst), .d (.int (tpOf ns ls most).alone), .d (.int (nxt (wState (tpOf ns ls most) k n0 (tpOf ns ls most).signs.length).2)), .o 0, .no, .d (.lst ((wState (tpOf ns ls most) k n0 (tpSigns ns ls most).length).1.map optN)), .no, .no, .d (.int (toldV (tpOf ns ls most) (nxt (wState (tpOf ns ls most) k n0 (tpOf ns ls most).signs.length).2)))], some (.lst (rs.map rowD)) :: List.replicate (k + 1) none⟩) ?_ ⟨?_, ?_⟩)
      · refine as_app (k := 0) (ae_var rfl rfl) (ae_tup' (ald_cons (ae_op (an_lst' (ald_cons (ae_op (ae_var rfl rfl) (ae_var rfl rfl) (a2_I (.inr hal))) (ald_cons ae_non ald_nil))).ae (ae_cb (al_cons (ae_op (ae_var rfl rfl) ae_int a2_I0b) al_nil) ac_intB) (a2_ixL (pick2 _))) (ald_cons (ae_var rfl rfl) ald_nil))) rfl ?_ ?_
        · rw [List.length_map, ← hR, r_len]
          omega
        · refine ⟨⟨.inr rfl, .inr rfl, .inr rfl, .inr rfl, .inr rfl, .inr rfl, .inr rfl, .inr rfl, .inr ?_, .inr rfl, .inl rfl, .inl rfl, .inl rfl, .inl rfl, .inl rfl, trivial⟩, ?_⟩
          · show A.d _ = A.d (.int (nxt (wState (tpOf ns ls most) k (rState (tpOf ns ls most) (cell ns 3 % 2147483647) k).2 (tpOf ns ls most).signs.length).2))
            rw [hN]
          · rw [toldD]
            show some (O.lst (rs.map rowD ++ [_])) :: List.replicate (k + 1) none = some (O.lst (((rState (tpOf ns ls most) (cell ns 3 % 2147483647) k).1 ++ [_]).map rowD)) :: List.replicate (k + 1) none
            rw [hR, hN, List.map_append]
            rfl
      · refine ⟨.inr rfl, .inr rfl, .inr rfl, .inr rfl, .inr rfl, .inr rfl, .inr rfl, .inr rfl, .inr rfl, .inr ?_, .inl rfl, .inr ?_, .inl rfl, .inl rfl, .inr rfl, trivial⟩
        · show (if 0 = k + 1 then A.d (.lst ((wState (tpOf ns ls most) k n0 (tpSigns ns ls most).length).1.map optN)) else A.o 0) = A.o 0
          rw [if_neg (by omega)]
        · exact if_pos rfl
      · show List.set (some (O.lst (rs.map rowD)) :: List.replicate k none ++ [_]) (k + 1) none = _
        rw [List.set_append_right _ _ (by rw [hml]; exact Nat.le_refl _), hml, Nat.sub_self, List.replicate_succ']
        rfl
  · refine as_frz 0 rfl (Nat.zero_le _) ?_
    exact as_ret (ae_tup' (ald_cons (ae_var rfl rfl) (ald_cons (ae_var rfl rfl) ald_nil))) ⟨rfl, rfl⟩
/-! ### law -/
abbrev s_law : Stmt := topS 20
theorem sc_law : FnScope ["_law_script", "_law_letters_here", "_law_made", "_law_kept", "_law_found", "_law_due", "_law_row", "_law_k"] ["_law_script"] (defScope s_law) := ⟨rfl, rfl, rfl, by decide +kernel, rfl, by decide +kernel, by decide +kernel⟩
theorem rowsM_set : ∀ (b : Nat) (rs : List (D × List D)) (i : Nat) (r : D × List D) (ws : List D), rs[i]? = some r → (rowsM b rs).set (2 * i) (.lst ws) = rowsM b (rs.set i (r.1, ws))
  | b, x :: rs, 0, r, ws, h => by
    cases h
    rfl
  | b, x :: rs, i + 1, r, ws, h => by
    rw [show 2 * (i + 1) = 2 * i + 1 + 1 from by omega]
    show O.lst x.2 :: .tp [.d x.1, .o b] :: (rowsM (b + 2) rs).set (2 * i) (.lst ws) = .lst x.2 :: .tp [.d x.1, .o b] :: rowsM (b + 2) (rs.set i (r.1, ws))
    rw [rowsM_set (b + 2) rs i r ws h]
theorem fndM_set (kds : List (Key × D)) (s : List Nat) (rs : List (D × List D)) (i : Nat) (r : D × List D) (ws : List D) (h : rs[i]? = some r) : (fndM kds s rs).set (2 * i + 2) (.lst ws) = fndM kds s (rs.set i (r.1, ws)) := by
  have hi := (List.getElem?_eq_some_iff.mp h).1
  unfold fndM
  rw [List.length_set]
  show _ :: _ :: (rowsM 2 rs ++ [_]).set (2 * i) (.lst ws) = _
  rw [List.set_append_left _ _ (by rw [rowsM_len]; omega), rowsM_set 2 rs i r ws h]
/-- the first rows spoiled -/
def spoil : Nat → List (D × List D) → List (D × List D)
  | 0, rs => rs
  | _, [] => []
  | n + 1, r :: rs => (r.1, r.2 ++ [.non]) :: spoil n rs
theorem spoil_len : ∀ (n : Nat) (rs : List (D × List D)), (spoil n rs).length = rs.length
  | 0, _ => rfl
  | _ + 1, [] => rfl
  | n + 1, _ :: rs => congrArg (· + 1) (spoil_len n rs)
theorem spoil_drop : ∀ (n : Nat) (rs : List (D × List D)), (spoil n rs).drop n = rs.drop n
  | 0, _ => rfl
  | _ + 1, [] => rfl
  | n + 1, _ :: rs => spoil_drop n rs
theorem spoil_at : ∀ (n : Nat) (rs : List (D × List D)), (spoil n rs)[n]? = rs[n]?
  | 0, _ => rfl
  | _ + 1, [] => rfl
  | n + 1, _ :: rs => spoil_at n rs
theorem spoil_S : ∀ (n : Nat) (rs : List (D × List D)) (r : D × List D), rs[n]? = some r → spoil (n + 1) rs = (spoil n rs).set n (r.1, r.2 ++ [.non])
  | 0, x :: rs, r, h => by
    cases h
    rfl
  | n + 1, x :: rs, r, h => congrArg ((x.1, x.2 ++ [D.non]) :: ·) (spoil_S n rs r h)
theorem ok_law {f : Addr} {fd : FuncData} (F : Fun K "law" "law" s_law f fd) (H_law_letters : Has_law_letters P w K mg base) (H_law_cell_at : Has_law_cell_at P w K mg base) (H_law_table_by : Has_law_table_by P w K mg base) (H_leastO : Has_leastO P w K mg base)
    (H_law_table_form : Has_law_table_form P w K mg base) (H_law_busy : Has_law_busy P w K mg base) (H_law_numbered : Has_law_numbered P w K mg base) (H_law_leads_alike : Has_law_leads_alike P w K mg base) (H_law_classes : Has_law_classes P w K mg base) (m_list : mg "list" = none) (m_range : mg "range" = none) (m_len : mg "len" = none) : FnOk P w K mg base CX0 20 f fd ["_law_script"] (spLaw K) := by
  refine okLaw F sc_law fun _ _ _ _ _ _ _ hr => ⟨_, (pss_cons (ps_set (i := 1) sc_law.nd rfl (.inl rfl) (pe_has H_law_letters (hr.mono (by decide)) (by rfl) (pa_cons (pe_has H_law_cell_at (hr.mono (by decide)) (by rfl) (pa_cons (pv 0) (pa_cons pe_int pa_nil))) pa_nil)))
      (pss_cons (ps_set (i := 2) sc_law.nd rfl (.inl rfl) (pe_has H_law_table_by (hr.mono (by decide)) (by rfl) (pa_cons (pv 0) (pa_cons (pv 1) (pa_cons pe_int pa_nil)))))
      (pss_cons (ps_set (i := 3) sc_law.nd rfl (.inl rfl) (pe_has H_law_table_by (hr.mono (by decide)) (by rfl) (pa_cons (pv 0) (pa_cons (pv 1) (pa_cons pe_int pa_nil)))))
      (pss_cons (ps_set (i := 4) sc_law.nd rfl (.inl rfl) (pe_has H_leastO (hr.mono (by decide)) (by rfl) (pa_cons (pv 2) pa_nil)))
      (pss_cons (ps_if (PW.pt (pw_or (pt_cmpR (op_neD hr.units) (pv 2) (pv 3) (nomark _)) (pw_or (pt_not (pt_val (pe_has H_law_table_form (hr.mono (by decide)) (by rfl) (pa_cons (pv 4) pa_nil)))) (pw_or (pt_cmpR op_ne (pe_ix ix_tup (pv 4) pe_int (fun _ _ => rfl)) (pe_ix ix_tup (pv 3) pe_int (fun _ _ => rfl)) (nomark _)) (pw_or1 (pt_cmpR (op_neD hr.units) (pe_has H_leastO.data (hr.mono (by decide)) (by rfl) (pa_cons (pv 4) pa_nil)) (pv 4) (nomark _))))))) (pss_one (ps_ret pe_bl)) pss_nil)
      (pss_cons (ps_if (PW.pt (pw_or (pt_not (pt_val (pe_has H_law_leads_alike (hr.mono (by decide)) (by rfl) (pa_cons (pv 3) (pa_cons (pv 4) pa_nil))))) (pw_or (pt_not (pt_val (pe_has H_law_numbered (hr.mono (by decide)) (by rfl) (pa_cons (pv 4) pa_nil)))) (pw_or1 (pt_cmpR op_in_seq pe_bl (pe_slice sl_list (pe_has H_law_busy (hr.mono (by decide)) (by rfl) (pa_cons (pv 4) pa_nil)) (po_some pe_int) po_none) rfl))))) (pss_one (ps_ret pe_bl)) pss_nil)
      (pss_cons (ps_if (pt_cmpR (op_neD hr.units) (pe_has H_law_classes (hr.mono (by decide)) (by rfl) (pa_cons (pv 4) pa_nil)) (pe_listRg rfl (by rfl) m_list (prg_1 (by rfl) m_range (pe_callB call_len (by rfl) m_len (by decide +kernel) (pa_cons (pe_ix ix_tup (pv 4) pe_int (fun _ _ => rfl)) pa_nil)))) (nomark _)) (pss_one (ps_ret pe_bl)) pss_nil)
      (pss_cons (ps_set (i := 5) sc_law.nd rfl (.inl rfl) (pe_tup (pa_cons (pe_ix ix_tup (pv 4) pe_int (fun _ _ => rfl)) (pa_cons (pe_lc (own := [("_law_row", 6)]) (g := (gName 6)) (tt := tYes) (by rfl) sc_law.nd (pi_list (pe_ix ix_tup (pv 4) pe_int (fun _ _ => rfl))) (blkOk_by (own := [("_law_row", 6)]) (N := ["_law_script", "_law_letters_here", "_law_made", "_law_kept", "_law_found", "_law_due", "_law_row", "_law_k"]) (sc := defScope s_law) (by decide +kernel)) (fun _ _ _ _ _ => pg_name (i := 6) sc_law.nd rfl (Or.inl rfl)) (fun _ _ _ _ _ => pts_nil) (fun _ _ _ _ _ => (pe_tup (pa_cons (pe_ix (ixtK (K := K) rfl) (pv 6) pe_int (fun _ _ => rfl)) (pa_cons (pe_callTy (listK (K := K) rfl) (by rfl) m_list (by decide +kernel) (pa_cons (pe_ix (ixtK (K := K) rfl) (pv 6) pe_int (fun _ _ => rfl)) pa_nil)) pa_nil))))) pa_nil))))
      (pss_cons (ps_for PassesOwn.never rfl (pi_range1 (by rfl) m_range (pa_cons (pe_callB call_len (by rfl) m_len (by decide +kernel) (pa_cons (pe_ix ix_tup (pv 5) pe_int (fun _ _ => rfl)) pa_nil)) pa_nil)) (pg_name (i := 7) sc_law.nd rfl (.inl rfl)) (pss_cons (ps_expr (pe_bm PySem.F.plainAttrs_list PySem.F.slot_list_append PySem.F.type_list_append mt_append (pe_ix ix_tup (pe_ix ix_list (pe_ix ix_tup (pv 4) pe_int (fun _ _ => rfl)) (pv 7) (fun _ _ => rfl)) pe_int (fun _ _ => rfl)) (pa_cons pe_non pa_nil)))
      (pss_one (ps_if (pt_cmpR (op_neD hr.units) (pe_slice sl_list (pe_ix ix_tup (pv 4) pe_int (fun _ _ => rfl)) (po_some (pe_op op_add (pv 7) pe_int)) po_none) (pe_slice sl_list (pe_ix ix_tup (pv 5) pe_int (fun _ _ => rfl)) (po_some (pe_op op_add (pv 7) pe_int)) po_none) (nomark _)) (pss_one (ps_ret pe_bl)) pss_nil))))
      (pss_cons (ps_expr (pe_bm PySem.F.plainAttrs_list PySem.F.slot_list_append PySem.F.type_list_append mt_append (pe_ix ix_tup (pv 4) pe_int (fun _ _ => rfl)) (pa_cons pe_non pa_nil)))
      (pss_one (ps_ret (pe_and (pe_cmpR (op_eqD hr.units) (pe_has H_leastO.data (hr.mono (by decide)) (by rfl) (pa_cons (pv 2) pa_nil)) (pv 5) (nomark _)) (pe_one (pe_cmpR (op_eqD hr.units) (pv 2) (pv 3) (nomark _)))))))))))))))), ?_⟩
  rintro as r ⟨ns, rfl, _, rfl⟩
  have hlo := letters_ok (cell ns 0)
  have hto := tableBy_ok (ns := ns) (most := 4) hlo ⟨by decide, by decide⟩
  have htn := tableBy_told (ns := ns) (most := 4) hlo ⟨by decide, by decide⟩
  have htm := tableBy_many (ns := ns) (ls := letters (cell ns 0)) (most := 4)
  refine as_seq (as_asg (ae_call (al_cons (ae_call (al_cons (ae_var rfl rfl) (al_cons ae_int al_nil)) rfl ⟨_, _, rfl, by decide, rfl⟩) al_nil) rfl ⟨_, rfl, rfl⟩) ?_)
  refine as_seq (as_asg (ae_call (al_cons (ae_var rfl rfl) (al_cons (ae_var rfl rfl) (al_cons ae_int al_nil))) rfl ⟨ns, letters (cell ns 0), 4, rfl, hlo, ⟨by decide, by decide⟩, rfl⟩) ?_)
  refine as_seq (as_asg (ae_call (al_cons (ae_var rfl rfl) (al_cons (ae_var rfl rfl) (al_cons ae_int al_nil))) rfl ⟨ns, letters (cell ns 0), 4, rfl, hlo, ⟨by decide, by decide⟩, rfl⟩) ?_)
  generalize tableBy ns (letters (cell ns 0)) 4 = t at hto htn htm
  have hu := leastT_ok hto
  have hun := least_tnat hto htn
  have hul := leastT_rows hto
  have hmf := metT_few hto
  generalize letters (cell ns 0) = ls
  -- found
  refine as_seq (as_asgX (ax_callX [] [] (al_cons (ae_var rfl rfl) al_nil) rfl (fun r M' _ => .inr rfl) rfl rfl ⟨rfl, t, rfl, hto⟩ (fun r M' hT => ?_)))
  obtain ⟨t', kds, e0, _, rfl, rfl⟩ := hT
  have e0 : t = t' := tblD_inj (A.d.inj (List.cons.inj e0).1)
  subst e0
  rw [List.append_nil]
  have hcl : (cells (leastT t)).length = (leastT t).rows.length := List.length_map _
  rw [← hcl]
  have hrd : ∀ (kds : List (Key × D)) (rs : List (D × List D)), rs.length = (cells (leastT t)).length → Rd ((fndM kds t.signs rs).map some) (.o (2 * (cells (leastT t)).length + 2)) (.tup [.str t.signs, .lst (rs.map cellD)]) := fun kds rs h => by rw [← h]; exact fndM_rd _ _ _
  have hrd0 := hrd kds _ rfl
  have hD : (.tup [.str t.signs, .lst ((cells (leastT t)).map cellD)] : D) = tblD (leastT t) := cells_D (leastT t)
  rw [hD] at hrd0
  have bw0 : Bw ((fndM kds t.signs (cells (leastT t))).map some) [.p (ScP K ns), .d (strsD ls), .d (tblD t), .d (tblD t), .o (2 * (cells (leastT t)).length + 2), .no, .no, .no] [.no, .no, .d (tblD t), .d (tblD t), .d (tblD (leastT t)), .no, .no, .no] :=
    ⟨.inl rfl, .inl rfl, .inr ⟨_, rfl, .d⟩, .inr ⟨_, rfl, .d⟩, .inr ⟨_, rfl, hrd0⟩, .inl rfl, .inl rfl, .inl rfl, trivial⟩
  refine as_seq (as_if (b := false) (AT.brw ((at_or (at_val (ae_op (ae_var rfl rfl) (ae_var rfl rfl) (a2_neSame (tblD_good hto).ok))) fun h => (at_or (at_not (at_B (ae_call (al_cons (ae_var rfl rfl) al_nil) rfl ⟨leastT t, rfl, hu, hun, rfl⟩))) fun h => (at_or (at_val (ae_op (ae_op (ae_var rfl rfl) ae_int (a2_ixT rfl)) (ae_op (ae_var rfl rfl) ae_int (a2_ixT rfl)) a2_neS)) fun h => (at_val (ae_op ((ae_call (al_cons (ae_var rfl rfl) al_nil) rfl ⟨leastT t, rfl, hu, rfl⟩).eq (by rw [least_least hto])) (ae_var rfl rfl) (a2_neSame (tblD_good hu).ok)))))).eq ?_) bw0) (fun h => by cases h) (fun h => as_next ?_))
  · show (false || (!true || (!decide (t.signs = t.signs) || false))) = false
    rw [decide_eq_true rfl]
    rfl
  -- it leads alike, is numbered, busy
  have hsim := simT hto
  have hnum : numberedB (leastT t) = true := decide_eq_true (least_numbered hto)
  have hfb : decide (false ∈ (busyL (leastT t)).drop 1) = false := decide_eq_false fun h => by
    obtain ⟨i, hi⟩ := List.mem_iff_getElem?.mp h
    rw [List.getElem?_drop] at hi
    have hil := (List.getElem?_eq_some_iff.mp hi).1
    unfold busyL at hi hil
    rw [List.length_map, List.length_range] at hil
    rw [List.getElem?_map, List.getElem?_range hil] at hi
    have hb := least_busy hto (b := i) (by omega)
    have := busyB_true.mpr hb
    rw [Nat.add_comm 1 i] at hi
    have hi := Option.some.inj hi
    rw [this] at hi
    cases hi
  refine as_seq (as_if (b := false) (AT.brw ((at_or (at_not (at_B (ae_call (al_cons (ae_var rfl rfl) (al_cons (ae_var rfl rfl) al_nil)) rfl ⟨t, leastT t, RelT t, rfl, hto, hu, by omega, by omega, hsim, relT0 hto, rfl⟩))) fun h => (at_or (at_not (at_B (ae_call (al_cons (ae_var rfl rfl) al_nil) rfl ⟨leastT t, rfl, hu, rfl⟩))) fun h => (at_val (ae_op ae_bl ((an_slL (an_call (al_cons (ae_var rfl rfl) al_nil) rfl ⟨leastT t, rfl, hu, rfl⟩).ae (ao_some ae_int) ao_none).eq (es := ((busyL (leastT t)).drop 1).map .bl) (by rw [cutG_map0]; exact congrArg _ (cutG_fromN _ 1))).ae a2_inB)))).eq ?_) bw0) (fun h => by cases h) (fun h => as_next ?_))
  · rw [hnum]
    exact hfb
  -- no two alike
  obtain ⟨k, hk1, hk2, hk3⟩ := clsL_ends hu
  have hcls := least_classes hto hk3
  refine as_seq (as_if (b := false) (AT.brw ((at_val (ae_op (ae_call (al_cons (ae_var rfl rfl) al_nil) rfl ⟨leastT t, k, rfl, hu, hk1, hk2, rfl⟩) ((an_listRg (ae_cb (al_cons (ae_op (ae_var rfl rfl) ae_int (a2_ixT rfl)) al_nil) ac_lenL) (Int.natCast_nonneg _) (by rw [List.length_map]; omega)).ae.eq (b := .d (natsD (clsL (leastT t) k))) (by rw [List.length_map, Int.toNat_natCast, hcls]; rfl)) (a2_neSame (nats_ok _))))) bw0) (fun h => by cases h) (fun h => as_next ?_))
  -- due
  obtain ⟨g1, g2, g3⟩ := fndM_get kds t.signs (cells (leastT t))
  have up : ∀ {M : List O} {k : Nat} {o : O}, M[k]? = some o → (M.map some)[k]? = some (some o) := fun {M k o} h => by rw [List.getElem?_map, h]; rfl
  have tps : ∀ i, i < (cells (leastT t)).length → (tpsM (cells (leastT t)).length)[i]? = some (.o (2 * i + 3)) := fun i hi => by
    unfold tpsM
    rw [List.getElem?_map, List.getElem?_range hi]
    rfl
  have cget : ∀ i, i < (cells (leastT t)).length → (cells (leastT t))[i]? = some ((cells (leastT t)).getD i (.non, [])) := fun i hi => getD_get _ hi
  refine as_seq (as_asg ((ae_tup' (ald_cons (ae_op (ae_var rfl rfl) ae_int (a2_ixTO (up g2) rfl)) (ald_cons (((an_lcO (n := (cells (leastT t)).length) (fun i => cellD ((cells (leastT t)).getD i (.non, []))) (ae_op (ae_var rfl rfl) ae_int (a2_ixTO (up g2) rfl)) (up g1) (by unfold tpsM; rw [List.length_map, List.length_range]) (by omega) fun i a ha => ?_).eq (es := (cells (leastT t)).map cellD) (range_map fun i x hx => by rw [getD_of _ hx])).ae) ald_nil))).eq (b := .d (tblD (leastT t))) (by rw [← hD])) ?_)
  · have hi := (List.getElem?_eq_some_iff.mp ha).1
    unfold tpsM at hi
    rw [List.length_map, List.length_range] at hi
    rw [tps i hi] at ha
    cases ha
    obtain ⟨q1, q2⟩ := g3 i _ (cget i hi)
    exact ae_tup' (ald_cons (ae_op (ae_var rfl rfl) ae_int (a2_ixTO (up q2) rfl)) (ald_cons (an_cb (al_cons (ae_op (ae_var rfl rfl) ae_int (a2_ixTO (up q2) rfl)) al_nil) (nc_listO (up q1))).ae ald_nil))
  -- spoiled
  refine as_forE_seq (fun k => ⟨[.p (ScP K ns), .d (strsD ls), .d (tblD t), .d (tblD t), .o (2 * (cells (leastT t)).length + 2), .d (tblD (leastT t)), .no, .no], (fndM kds t.signs (spoil k (cells (leastT t)))).map some⟩)
    ((ai_rng1 (n := ((cells (leastT t)).length : Nat)) ((al_cons (ae_cb (al_cons (ae_op (ae_var rfl rfl) ae_int (a2_ixT rfl)) al_nil) ac_lenL) al_nil).eq (by rw [List.length_map, hcl])) (by omega) (by omega)).n (Int.toNat_natCast _)) (Le.refl _) (fun k hk => ?_) ?_
  · refine ag_name ?_
    have hsl := spoil_len k (cells (leastT t))
    obtain ⟨s1, s2, s3⟩ := fndM_get kds t.signs (spoil k (cells (leastT t)))
    rw [hsl] at s1 s2
    have hck := cget k hk
    have hck2 : (spoil k (cells (leastT t)))[k]? = some ((cells (leastT t)).getD k (.non, [])) := by rw [spoil_at]; exact hck
    obtain ⟨q1, q2⟩ := s3 k _ hck2
    have hS := spoil_S k _ _ hck
    have hws : ((cells (leastT t)).getD k (.non, [])).2.length ≤ 1000 := by
      unfold cells at hck
      rw [List.getElem?_map] at hck
      cases hq : (leastT t).rows[k]? with
      | none =>
        rw [hq] at hck
        cases hck
      | some ro =>
        rw [hq] at hck
        have hck := Option.some.inj hck
        have hwid := hu.wid _ (List.mem_of_getElem? hq)
        have hfew := hu.few
        show (((cells (leastT t)).getD k (.non, [])).2).length ≤ 1000
        have : ((cells (leastT t)).getD k (.non, [])).2 = ro.2.map optN := by
          show (((leastT t).rows.map fun r => (optI r.1, r.2.map optN)).getD k (.non, [])).2 = _
          rw [← hck]
        rw [this, List.length_map]
        omega
    generalize (cells (leastT t)).getD k (.non, []) = ro at hck hck2 q1 q2 hS hws
    obtain ⟨o, ws⟩ := ro
    refine as_seq (as_app (k := 2 * k + 2) (ae_op (ae_op (ae_op (ae_var rfl rfl) ae_int (a2_ixTO (up s2) rfl)) (ae_var rfl rfl) (a2_ixLO (up s1) (atI_of (j := k) rfl (tps k hk)))) ae_int (a2_ixTO (up q2) rfl)) ae_non (up q1) (by have : ws.length ≤ 1000 := hws; omega) ?_)
    have hM : ((fndM kds t.signs (spoil k (cells (leastT t)))).map some).set (2 * k + 2) (some (.lst (ws ++ [.non]))) = (fndM kds t.signs (spoil (k + 1) (cells (leastT t)))).map some := by
      rw [hS, ← fndM_set kds t.signs _ k _ _ hck2, List.map_set]
    show AS K 0 _ _ ⟨_, ((fndM kds t.signs (spoil k (cells (leastT t)))).map some).set (2 * k + 2) (some (.lst (ws ++ [.non])))⟩
    rw [hM]
    have hrdk := hrd kds (spoil (k + 1) (cells (leastT t))) (spoil_len _ _)
    have hdr : ((spoil (k + 1) (cells (leastT t))).map cellD).drop (k + 1) = ((leastT t).rows.map rowD).drop (k + 1) := by
      have : (leastT t).rows.map rowD = (cells (leastT t)).map cellD := by
        unfold cells
        rw [List.map_map]
        rfl
      rw [this, ← List.map_drop, ← List.map_drop, spoil_drop]
    refine as_if (b := false) (AT.brw (s' := [.no, .no, .no, .no, .d (.tup [.str t.signs, .lst ((spoil (k + 1) (cells (leastT t))).map cellD)]), .d (tblD (leastT t)), .no, .d (.int (k : Nat))]) ((at_val (ae_op ((an_slL (ae_op (ae_var rfl rfl) ae_int (a2_ixT rfl)) (ao_some (ae_op (ae_var rfl rfl) ae_int a2_I0)) ao_none).eq (es := ((leastT t).rows.drop (k + 1)).map rowD) ?_).ae ((an_slL (ae_op (ae_var rfl rfl) ae_int (a2_ixT rfl)) (ao_some (ae_op (ae_var rfl rfl) ae_int a2_I0)) ao_none).eq (es := ((leastT t).rows.drop (k + 1)).map rowD) ?_).ae (a2_neSame (rows_good _))))) ?_) (fun h => by cases h) (fun h => as_next ⟨⟨.inr rfl, .inr rfl, .inr rfl, .inr rfl, .inr rfl, .inr rfl, .inr rfl, .inl rfl, trivial⟩, rfl⟩)
    · rw [List.map_drop, ← hdr]
      exact cutG_fromN _ (k + 1)
    · rw [List.map_drop]
      exact cutG_fromN _ (k + 1)
    · exact ⟨.inl rfl, .inl rfl, .inl rfl, .inl rfl, .inr ⟨_, rfl, hrdk⟩, .inr ⟨_, rfl, .d⟩, .inl rfl, .inr ⟨_, rfl, .d⟩, trivial⟩
  · have hsl := spoil_len (cells (leastT t)).length (cells (leastT t))
    obtain ⟨s1, s2, _⟩ := fndM_get kds t.signs (spoil (cells (leastT t)).length (cells (leastT t)))
    rw [hsl] at s1 s2
    refine as_seq (as_appO (k := 1) (ae_op (ae_var rfl rfl) ae_int (a2_ixTO (up s2) rfl)) (up s1) (ae_non.ax ⟨_, up s1, by unfold tpsM; rw [List.length_map, List.length_range]; omega, ?_⟩))
    exact as_ret (ae_and2 (ae_op ((ae_call (al_cons (ae_var rfl rfl) al_nil) rfl ⟨t, rfl, hto, rfl⟩)) (ae_var rfl rfl) (a2_eqSame (tblD_good hu).ok)) fun h => (ae_op (ae_var rfl rfl) (ae_var rfl rfl) (a2_eqSame (tblD_good hto).ok))) ⟨rfl, rfl⟩
end
end Ab
namespace Ab
open PySem PySem.Spec PyProof.Rows L2
theorem all_mk {l : PySem.W.OpenLaw} {w : World} {K : PySem.W.Frag} {h : Heap} {mg : Str → Option Value} {fa : Addr} (X : K.In h) (G : h.Ns mainGlobals mg) (hfa : mg "law" = some (.ref fa))
    {f_with_nowhere : Addr} {od_with_nowhere an_with_nowhere : Option Addr} {sl_with_nowhere : Array (Option Value)} {oc_with_nowhere kV_with_nowhere dc_with_nowhere pm_with_nowhere cd_with_nowhere ct_with_nowhere : Value}
    (a_with_nowhere : PySem.W.nsIn K mainGlobals "with_nowhere" = some (some (.ref f_with_nowhere))) (l_with_nowhere : K.lookup f_with_nowhere = some ⟨oc_with_nowhere, od_with_nowhere, .func (PySem.W.fnOf "with_nowhere" "with_nowhere" (defArgs s_with_nowhere) (defBody s_with_nowhere) (defScope s_with_nowhere) .none kV_with_nowhere dc_with_nowhere pm_with_nowhere an_with_nowhere cd_with_nowhere ct_with_nowhere), sl_with_nowhere⟩) (c_with_nowhere : PySem.W.codeIn K cd_with_nowhere "with_nowhere" = true) (k_with_nowhere : PySem.W.keepIn K (.ref f_with_nowhere) = true)
    {f_numbered : Addr} {od_numbered an_numbered : Option Addr} {sl_numbered : Array (Option Value)} {oc_numbered kV_numbered dc_numbered pm_numbered cd_numbered ct_numbered : Value}
    (a_numbered : PySem.W.nsIn K mainGlobals "_numbered" = some (some (.ref f_numbered))) (l_numbered : K.lookup f_numbered = some ⟨oc_numbered, od_numbered, .func (PySem.W.fnOf "_numbered" "_numbered" (defArgs s_numbered) (defBody s_numbered) (defScope s_numbered) .none kV_numbered dc_numbered pm_numbered an_numbered cd_numbered ct_numbered), sl_numbered⟩) (c_numbered : PySem.W.codeIn K cd_numbered "_numbered" = true) (k_numbered : PySem.W.keepIn K (.ref f_numbered) = true)
    {f_mark : Addr} {od_mark an_mark : Option Addr} {sl_mark : Array (Option Value)} {oc_mark kV_mark dc_mark pm_mark cd_mark ct_mark : Value}
    (a_mark : PySem.W.nsIn K mainGlobals "_mark" = some (some (.ref f_mark))) (l_mark : K.lookup f_mark = some ⟨oc_mark, od_mark, .func (PySem.W.fnOf "_mark" "_mark" (defArgs s_mark) (defBody s_mark) (defScope s_mark) .none kV_mark dc_mark pm_mark an_mark cd_mark ct_mark), sl_mark⟩) (c_mark : PySem.W.codeIn K cd_mark "_mark" = true) (k_mark : PySem.W.keepIn K (.ref f_mark) = true)
    {f_groups : Addr} {od_groups an_groups : Option Addr} {sl_groups : Array (Option Value)} {oc_groups kV_groups dc_groups pm_groups cd_groups ct_groups : Value}
    (a_groups : PySem.W.nsIn K mainGlobals "_groups" = some (some (.ref f_groups))) (l_groups : K.lookup f_groups = some ⟨oc_groups, od_groups, .func (PySem.W.fnOf "_groups" "_groups" (defArgs s_groups) (defBody s_groups) (defScope s_groups) .none kV_groups dc_groups pm_groups an_groups cd_groups ct_groups), sl_groups⟩) (c_groups : PySem.W.codeIn K cd_groups "_groups" = true) (k_groups : PySem.W.keepIn K (.ref f_groups) = true)
    {f_met : Addr} {od_met an_met : Option Addr} {sl_met : Array (Option Value)} {oc_met kV_met dc_met pm_met cd_met ct_met : Value}
    (a_met : PySem.W.nsIn K mainGlobals "_met" = some (some (.ref f_met))) (l_met : K.lookup f_met = some ⟨oc_met, od_met, .func (PySem.W.fnOf "_met" "_met" (defArgs s_met) (defBody s_met) (defScope s_met) .none kV_met dc_met pm_met an_met cd_met ct_met), sl_met⟩) (c_met : PySem.W.codeIn K cd_met "_met" = true) (k_met : PySem.W.keepIn K (.ref f_met) = true)
    {f_least : Addr} {od_least an_least : Option Addr} {sl_least : Array (Option Value)} {oc_least kV_least dc_least pm_least cd_least ct_least : Value}
    (a_least : PySem.W.nsIn K mainGlobals "least" = some (some (.ref f_least))) (l_least : K.lookup f_least = some ⟨oc_least, od_least, .func (PySem.W.fnOf "least" "least" (defArgs s_least) (defBody s_least) (defScope s_least) .none kV_least dc_least pm_least an_least cd_least ct_least), sl_least⟩) (c_least : PySem.W.codeIn K cd_least "least" = true) (k_least : PySem.W.keepIn K (.ref f_least) = true)
    {f_law_cell_at : Addr} {od_law_cell_at an_law_cell_at : Option Addr} {sl_law_cell_at : Array (Option Value)} {oc_law_cell_at kV_law_cell_at dc_law_cell_at pm_law_cell_at cd_law_cell_at ct_law_cell_at : Value}
    (a_law_cell_at : PySem.W.nsIn K mainGlobals "_law_cell_at" = some (some (.ref f_law_cell_at))) (l_law_cell_at : K.lookup f_law_cell_at = some ⟨oc_law_cell_at, od_law_cell_at, .func (PySem.W.fnOf "_law_cell_at" "_law_cell_at" (defArgs s_law_cell_at) (defBody s_law_cell_at) (defScope s_law_cell_at) .none kV_law_cell_at dc_law_cell_at pm_law_cell_at an_law_cell_at cd_law_cell_at ct_law_cell_at), sl_law_cell_at⟩) (c_law_cell_at : PySem.W.codeIn K cd_law_cell_at "_law_cell_at" = true) (k_law_cell_at : PySem.W.keepIn K (.ref f_law_cell_at) = true)
    {f_law_whole : Addr} {od_law_whole an_law_whole : Option Addr} {sl_law_whole : Array (Option Value)} {oc_law_whole kV_law_whole dc_law_whole pm_law_whole cd_law_whole ct_law_whole : Value}
    (a_law_whole : PySem.W.nsIn K mainGlobals "_law_whole" = some (some (.ref f_law_whole))) (l_law_whole : K.lookup f_law_whole = some ⟨oc_law_whole, od_law_whole, .func (PySem.W.fnOf "_law_whole" "_law_whole" (defArgs s_law_whole) (defBody s_law_whole) (defScope s_law_whole) .none kV_law_whole dc_law_whole pm_law_whole an_law_whole cd_law_whole ct_law_whole), sl_law_whole⟩) (c_law_whole : PySem.W.codeIn K cd_law_whole "_law_whole" = true) (k_law_whole : PySem.W.keepIn K (.ref f_law_whole) = true)
    {f_law_sign_by : Addr} {od_law_sign_by an_law_sign_by : Option Addr} {sl_law_sign_by : Array (Option Value)} {oc_law_sign_by kV_law_sign_by dc_law_sign_by pm_law_sign_by cd_law_sign_by ct_law_sign_by : Value}
    (a_law_sign_by : PySem.W.nsIn K mainGlobals "_law_sign_by" = some (some (.ref f_law_sign_by))) (l_law_sign_by : K.lookup f_law_sign_by = some ⟨oc_law_sign_by, od_law_sign_by, .func (PySem.W.fnOf "_law_sign_by" "_law_sign_by" (defArgs s_law_sign_by) (defBody s_law_sign_by) (defScope s_law_sign_by) .none kV_law_sign_by dc_law_sign_by pm_law_sign_by an_law_sign_by cd_law_sign_by ct_law_sign_by), sl_law_sign_by⟩) (c_law_sign_by : PySem.W.codeIn K cd_law_sign_by "_law_sign_by" = true) (k_law_sign_by : PySem.W.keepIn K (.ref f_law_sign_by) = true)
    {f_law_letters : Addr} {od_law_letters an_law_letters : Option Addr} {sl_law_letters : Array (Option Value)} {oc_law_letters kV_law_letters dc_law_letters pm_law_letters cd_law_letters ct_law_letters : Value}
    (a_law_letters : PySem.W.nsIn K mainGlobals "_law_letters" = some (some (.ref f_law_letters))) (l_law_letters : K.lookup f_law_letters = some ⟨oc_law_letters, od_law_letters, .func (PySem.W.fnOf "_law_letters" "_law_letters" (defArgs s_law_letters) (defBody s_law_letters) (defScope s_law_letters) .none kV_law_letters dc_law_letters pm_law_letters an_law_letters cd_law_letters ct_law_letters), sl_law_letters⟩) (c_law_letters : PySem.W.codeIn K cd_law_letters "_law_letters" = true) (k_law_letters : PySem.W.keepIn K (.ref f_law_letters) = true)
    {f_law_table_form : Addr} {od_law_table_form an_law_table_form : Option Addr} {sl_law_table_form : Array (Option Value)} {oc_law_table_form kV_law_table_form dc_law_table_form pm_law_table_form cd_law_table_form ct_law_table_form : Value}
    (a_law_table_form : PySem.W.nsIn K mainGlobals "_law_table_form" = some (some (.ref f_law_table_form))) (l_law_table_form : K.lookup f_law_table_form = some ⟨oc_law_table_form, od_law_table_form, .func (PySem.W.fnOf "_law_table_form" "_law_table_form" (defArgs s_law_table_form) (defBody s_law_table_form) (defScope s_law_table_form) .none kV_law_table_form dc_law_table_form pm_law_table_form an_law_table_form cd_law_table_form ct_law_table_form), sl_law_table_form⟩) (c_law_table_form : PySem.W.codeIn K cd_law_table_form "_law_table_form" = true) (k_law_table_form : PySem.W.keepIn K (.ref f_law_table_form) = true)
    {f_law_busy : Addr} {od_law_busy an_law_busy : Option Addr} {sl_law_busy : Array (Option Value)} {oc_law_busy kV_law_busy dc_law_busy pm_law_busy cd_law_busy ct_law_busy : Value}
    (a_law_busy : PySem.W.nsIn K mainGlobals "_law_busy" = some (some (.ref f_law_busy))) (l_law_busy : K.lookup f_law_busy = some ⟨oc_law_busy, od_law_busy, .func (PySem.W.fnOf "_law_busy" "_law_busy" (defArgs s_law_busy) (defBody s_law_busy) (defScope s_law_busy) .none kV_law_busy dc_law_busy pm_law_busy an_law_busy cd_law_busy ct_law_busy), sl_law_busy⟩) (c_law_busy : PySem.W.codeIn K cd_law_busy "_law_busy" = true) (k_law_busy : PySem.W.keepIn K (.ref f_law_busy) = true)
    {f_law_numbers : Addr} {od_law_numbers an_law_numbers : Option Addr} {sl_law_numbers : Array (Option Value)} {oc_law_numbers kV_law_numbers dc_law_numbers pm_law_numbers cd_law_numbers ct_law_numbers : Value}
    (a_law_numbers : PySem.W.nsIn K mainGlobals "_law_numbers" = some (some (.ref f_law_numbers))) (l_law_numbers : K.lookup f_law_numbers = some ⟨oc_law_numbers, od_law_numbers, .func (PySem.W.fnOf "_law_numbers" "_law_numbers" (defArgs s_law_numbers) (defBody s_law_numbers) (defScope s_law_numbers) .none kV_law_numbers dc_law_numbers pm_law_numbers an_law_numbers cd_law_numbers ct_law_numbers), sl_law_numbers⟩) (c_law_numbers : PySem.W.codeIn K cd_law_numbers "_law_numbers" = true) (k_law_numbers : PySem.W.keepIn K (.ref f_law_numbers) = true)
    {f_law_numbered : Addr} {od_law_numbered an_law_numbered : Option Addr} {sl_law_numbered : Array (Option Value)} {oc_law_numbered kV_law_numbered dc_law_numbered pm_law_numbered cd_law_numbered ct_law_numbered : Value}
    (a_law_numbered : PySem.W.nsIn K mainGlobals "_law_numbered" = some (some (.ref f_law_numbered))) (l_law_numbered : K.lookup f_law_numbered = some ⟨oc_law_numbered, od_law_numbered, .func (PySem.W.fnOf "_law_numbered" "_law_numbered" (defArgs s_law_numbered) (defBody s_law_numbered) (defScope s_law_numbered) .none kV_law_numbered dc_law_numbered pm_law_numbered an_law_numbered cd_law_numbered ct_law_numbered), sl_law_numbered⟩) (c_law_numbered : PySem.W.codeIn K cd_law_numbered "_law_numbered" = true) (k_law_numbered : PySem.W.keepIn K (.ref f_law_numbered) = true)
    {f_law_classes : Addr} {od_law_classes an_law_classes : Option Addr} {sl_law_classes : Array (Option Value)} {oc_law_classes kV_law_classes dc_law_classes pm_law_classes cd_law_classes ct_law_classes : Value}
    (a_law_classes : PySem.W.nsIn K mainGlobals "_law_classes" = some (some (.ref f_law_classes))) (l_law_classes : K.lookup f_law_classes = some ⟨oc_law_classes, od_law_classes, .func (PySem.W.fnOf "_law_classes" "_law_classes" (defArgs s_law_classes) (defBody s_law_classes) (defScope s_law_classes) .none kV_law_classes dc_law_classes pm_law_classes an_law_classes cd_law_classes ct_law_classes), sl_law_classes⟩) (c_law_classes : PySem.W.codeIn K cd_law_classes "_law_classes" = true) (k_law_classes : PySem.W.keepIn K (.ref f_law_classes) = true)
    {f_law_leads_alike : Addr} {od_law_leads_alike an_law_leads_alike : Option Addr} {sl_law_leads_alike : Array (Option Value)} {oc_law_leads_alike kV_law_leads_alike dc_law_leads_alike pm_law_leads_alike cd_law_leads_alike ct_law_leads_alike : Value}
    (a_law_leads_alike : PySem.W.nsIn K mainGlobals "_law_leads_alike" = some (some (.ref f_law_leads_alike))) (l_law_leads_alike : K.lookup f_law_leads_alike = some ⟨oc_law_leads_alike, od_law_leads_alike, .func (PySem.W.fnOf "_law_leads_alike" "_law_leads_alike" (defArgs s_law_leads_alike) (defBody s_law_leads_alike) (defScope s_law_leads_alike) .none kV_law_leads_alike dc_law_leads_alike pm_law_leads_alike an_law_leads_alike cd_law_leads_alike ct_law_leads_alike), sl_law_leads_alike⟩) (c_law_leads_alike : PySem.W.codeIn K cd_law_leads_alike "_law_leads_alike" = true) (k_law_leads_alike : PySem.W.keepIn K (.ref f_law_leads_alike) = true)
    {f_law_table_by : Addr} {od_law_table_by an_law_table_by : Option Addr} {sl_law_table_by : Array (Option Value)} {oc_law_table_by kV_law_table_by dc_law_table_by pm_law_table_by cd_law_table_by ct_law_table_by : Value}
    (a_law_table_by : PySem.W.nsIn K mainGlobals "_law_table_by" = some (some (.ref f_law_table_by))) (l_law_table_by : K.lookup f_law_table_by = some ⟨oc_law_table_by, od_law_table_by, .func (PySem.W.fnOf "_law_table_by" "_law_table_by" (defArgs s_law_table_by) (defBody s_law_table_by) (defScope s_law_table_by) .none kV_law_table_by dc_law_table_by pm_law_table_by an_law_table_by cd_law_table_by ct_law_table_by), sl_law_table_by⟩) (c_law_table_by : PySem.W.codeIn K cd_law_table_by "_law_table_by" = true) (k_law_table_by : PySem.W.keepIn K (.ref f_law_table_by) = true)
    {f_law : Addr} {od_law an_law : Option Addr} {sl_law : Array (Option Value)} {oc_law kV_law dc_law pm_law cd_law ct_law : Value}
    (a_law : PySem.W.nsIn K mainGlobals "law" = some (some (.ref f_law))) (l_law : K.lookup f_law = some ⟨oc_law, od_law, .func (PySem.W.fnOf "law" "law" (defArgs s_law) (defBody s_law) (defScope s_law) .none kV_law dc_law pm_law an_law cd_law ct_law), sl_law⟩) (c_law : PySem.W.codeIn K cd_law "law" = true) (k_law : PySem.W.keepIn K (.ref f_law) = true)

    (z_len : PySem.W.nsIn K mainGlobals "len" = some none) (z_enumerate : PySem.W.nsIn K mainGlobals "enumerate" = some none) (z_isinstance : PySem.W.nsIn K mainGlobals "isinstance" = some none) (z_bool : PySem.W.nsIn K mainGlobals "bool" = some none) (z_int : PySem.W.nsIn K mainGlobals "int" = some none) (z_range : PySem.W.nsIn K mainGlobals "range" = some none) (z_tuple : PySem.W.nsIn K mainGlobals "tuple" = some none) (z_list : PySem.W.nsIn K mainGlobals "list" = some none) (z_str : PySem.W.nsIn K mainGlobals "str" = some none) (z_set : PySem.W.nsIn K mainGlobals "set" = some none) (z_zip : PySem.W.nsIn K mainGlobals "zip" = some none)
    : ∃ fd : FuncData, (∀ (s : Shared) (v : Value), BindsTo s fd ⟨[v], []⟩ [("_law_script", v)]) ∧ ∀ base : Heap, K.In base → base.Ns mainGlobals mg → FnOk l.prog w K mg base CX0 20 fa fd ["_law_script"] (spLaw K) := by
  have e := hfa.symm.trans (PySem.W.mg_of X G a_law)
  cases e
  have m_len := PySem.W.mg_none_of X G z_len
  have m_enumerate := PySem.W.mg_none_of X G z_enumerate
  have m_isinstance := PySem.W.mg_none_of X G z_isinstance
  have m_bool := PySem.W.mg_none_of X G z_bool
  have m_int := PySem.W.mg_none_of X G z_int
  have m_range := PySem.W.mg_none_of X G z_range
  have m_tuple := PySem.W.mg_none_of X G z_tuple
  have m_list := PySem.W.mg_none_of X G z_list
  have m_str := PySem.W.mg_none_of X G z_str
  have m_set := PySem.W.mg_none_of X G z_set
  have m_zip := PySem.W.mg_none_of X G z_zip
  have D_with_nowhere : DefAt K mg "with_nowhere" s_with_nowhere ["made"] := mk_def l_with_nowhere c_with_nowhere k_with_nowhere (PySem.W.mg_of X G a_with_nowhere) fun _ _ _ _ _ _ us hl => match us, hl with | [_], _ => rfl
  have D_numbered : DefAt K mg "_numbered" s_numbered ["marks"] := mk_def l_numbered c_numbered k_numbered (PySem.W.mg_of X G a_numbered) fun _ _ _ _ _ _ us hl => match us, hl with | [_], _ => rfl
  have D_mark : DefAt K mg "_mark" s_mark ["groups", "at", "ways"] := mk_def l_mark c_mark k_mark (PySem.W.mg_of X G a_mark) fun _ _ _ _ _ _ us hl => match us, hl with | [_, _, _], _ => rfl
  have D_groups : DefAt K mg "_groups" s_groups ["rows"] := mk_def l_groups c_groups k_groups (PySem.W.mg_of X G a_groups) fun _ _ _ _ _ _ us hl => match us, hl with | [_], _ => rfl
  have D_met : DefAt K mg "_met" s_met ["rows", "groups"] := mk_def l_met c_met k_met (PySem.W.mg_of X G a_met) fun _ _ _ _ _ _ us hl => match us, hl with | [_, _], _ => rfl
  have D_least : DefAt K mg "least" s_least ["made"] := mk_def l_least c_least k_least (PySem.W.mg_of X G a_least) fun _ _ _ _ _ _ us hl => match us, hl with | [_], _ => rfl
  have D_law_cell_at : DefAt K mg "_law_cell_at" s_law_cell_at ["_law_script", "_law_k"] := mk_def l_law_cell_at c_law_cell_at k_law_cell_at (PySem.W.mg_of X G a_law_cell_at) fun _ _ _ _ _ _ us hl => match us, hl with | [_, _], _ => rfl
  have D_law_whole : DefAt K mg "_law_whole" s_law_whole ["_law_found"] := mk_def l_law_whole c_law_whole k_law_whole (PySem.W.mg_of X G a_law_whole) fun _ _ _ _ _ _ us hl => match us, hl with | [_], _ => rfl
  have D_law_sign_by : DefAt K mg "_law_sign_by" s_law_sign_by ["_law_cell"] := mk_def l_law_sign_by c_law_sign_by k_law_sign_by (PySem.W.mg_of X G a_law_sign_by) fun _ _ _ _ _ _ us hl => match us, hl with | [_], _ => rfl
  have D_law_letters : DefAt K mg "_law_letters" s_law_letters ["_law_cell"] := mk_def l_law_letters c_law_letters k_law_letters (PySem.W.mg_of X G a_law_letters) fun _ _ _ _ _ _ us hl => match us, hl with | [_], _ => rfl
  have D_law_table_form : DefAt K mg "_law_table_form" s_law_table_form ["_law_found"] := mk_def l_law_table_form c_law_table_form k_law_table_form (PySem.W.mg_of X G a_law_table_form) fun _ _ _ _ _ _ us hl => match us, hl with | [_], _ => rfl
  have D_law_busy : DefAt K mg "_law_busy" s_law_busy ["_law_made"] := mk_def l_law_busy c_law_busy k_law_busy (PySem.W.mg_of X G a_law_busy) fun _ _ _ _ _ _ us hl => match us, hl with | [_], _ => rfl
  have D_law_numbers : DefAt K mg "_law_numbers" s_law_numbers ["_law_keys"] := mk_def l_law_numbers c_law_numbers k_law_numbers (PySem.W.mg_of X G a_law_numbers) fun _ _ _ _ _ _ us hl => match us, hl with | [_], _ => rfl
  have D_law_numbered : DefAt K mg "_law_numbered" s_law_numbered ["_law_made"] := mk_def l_law_numbered c_law_numbered k_law_numbered (PySem.W.mg_of X G a_law_numbered) fun _ _ _ _ _ _ us hl => match us, hl with | [_], _ => rfl
  have D_law_classes : DefAt K mg "_law_classes" s_law_classes ["_law_made"] := mk_def l_law_classes c_law_classes k_law_classes (PySem.W.mg_of X G a_law_classes) fun _ _ _ _ _ _ us hl => match us, hl with | [_], _ => rfl
  have D_law_leads_alike : DefAt K mg "_law_leads_alike" s_law_leads_alike ["_law_kept", "_law_found"] := mk_def l_law_leads_alike c_law_leads_alike k_law_leads_alike (PySem.W.mg_of X G a_law_leads_alike) fun _ _ _ _ _ _ us hl => match us, hl with | [_, _], _ => rfl
  have D_law_table_by : DefAt K mg "_law_table_by" s_law_table_by ["_law_script", "_law_letters_here", "_law_most_signs"] := mk_def l_law_table_by c_law_table_by k_law_table_by (PySem.W.mg_of X G a_law_table_by) fun _ _ _ _ _ _ us hl => match us, hl with | [_, _, _], _ => rfl
  refine ⟨PySem.W.fnOf "law" "law" (defArgs s_law) (defBody s_law) (defScope s_law) .none kV_law dc_law pm_law an_law cd_law ct_law, fun s v => .of_eq rfl, fun base _ _ => ?_⟩
  have H_with_nowhere := ok_with_nowhere (P := l.prog) (w := w) (base := base) D_with_nowhere m_len
  have H_numberedN := ok_numberedN (P := l.prog) (w := w) (base := base) D_numbered m_len
  have H_numberedT := ok_numberedT (P := l.prog) (w := w) (base := base) D_numbered m_len
  have H_mark := ok_mark (P := l.prog) (w := w) (base := base) D_mark
  have H_groups := ok_groups (P := l.prog) (w := w) (base := base) D_groups H_numberedN H_numberedT H_mark m_enumerate
  have H_met := ok_met (P := l.prog) (w := w) (base := base) D_met m_len
  have H_leastO := ok_leastO (P := l.prog) (w := w) (base := base) D_least H_with_nowhere H_groups H_met m_enumerate
  have H_law_cell_at := ok_law_cell_at (P := l.prog) (w := w) (base := base) D_law_cell_at m_len
  have H_law_whole := ok_law_whole (P := l.prog) (w := w) (base := base) D_law_whole m_isinstance m_bool m_int
  have H_law_sign_by := ok_law_sign_by (P := l.prog) (w := w) (base := base) D_law_sign_by
  have H_law_letters := ok_law_letters (P := l.prog) (w := w) (base := base) D_law_letters H_law_sign_by m_range
  have H_law_table_form := ok_law_table_form (P := l.prog) (w := w) (base := base) D_law_table_form H_law_whole m_len m_isinstance m_tuple m_list m_str
  have H_law_busy := ok_law_busy (P := l.prog) (w := w) (base := base) D_law_busy m_range m_len
  have H_law_numbersN := ok_law_numbersN (P := l.prog) (w := w) (base := base) D_law_numbers m_len
  have H_law_numbersT := ok_law_numbersT (P := l.prog) (w := w) (base := base) D_law_numbers m_len
  have H_law_numbered := ok_law_numbered (P := l.prog) (w := w) (base := base) D_law_numbered m_len m_list m_range
  have H_law_classes := ok_law_classes (P := l.prog) (w := w) (base := base) D_law_classes H_law_numbersN H_law_numbersT m_len m_set m_range m_int m_tuple
  have H_law_leads_alike := ok_law_leads_alike (P := l.prog) (w := w) (base := base) D_law_leads_alike H_law_busy m_len m_zip
  have H_law_table_by := ok_law_table_by (P := l.prog) (w := w) (base := base) D_law_table_by H_law_cell_at m_range m_len m_int
  exact ok_law (fun_mk l_law c_law k_law) H_law_letters H_law_cell_at H_law_table_by H_leastO H_law_table_form H_law_busy H_law_numbered H_law_leads_alike H_law_classes m_list m_range m_len
end Ab
open PySem PySem.W PyProof.Rows
set_option maxHeartbeats 0 in
theorem PySem.Challenge.cw_rulescan_k09_whole_least_holds : PySem.Challenge.rw_rulescan_k09_whole_least.Holds := by
  w_on; o_law; k_head; (case hw => w_witness2)
  k_fill
  refine L2.walk_of (l := PySem.Challenge.rw_rulescan_k09_whole_least) (n := 63) (k := 20) (x := "_law_script") (CX := fun _ => L2.CX0) (sp := fun w => Ab.spLaw _) rfl (by decide) rfl ⟨rfl, by decide, by decide⟩ (fun w h Y => PySem.W.kIn_of Y) ?F (fun _ _ a ns hl _ hS => ⟨a, ns, rfl, hS, hl, fun _ => rfl⟩) (fun _ _ _ _ _ h => h)
  case F =>
    intro w mg fa h KX G hmg
    refine' Ab.all_mk KX G hmg ?a_with_nowhere ?l_with_nowhere ?c_with_nowhere ?k_with_nowhere ?a_numbered ?l_numbered ?c_numbered ?k_numbered ?a_mark ?l_mark ?c_mark ?k_mark ?a_groups ?l_groups ?c_groups ?k_groups ?a_met ?l_met ?c_met ?k_met ?a_least ?l_least ?c_least ?k_least ?a_law_cell_at ?l_law_cell_at ?c_law_cell_at ?k_law_cell_at ?a_law_whole ?l_law_whole ?c_law_whole ?k_law_whole ?a_law_sign_by ?l_law_sign_by ?c_law_sign_by ?k_law_sign_by ?a_law_letters ?l_law_letters ?c_law_letters ?k_law_letters ?a_law_table_form ?l_law_table_form ?c_law_table_form ?k_law_table_form ?a_law_busy ?l_law_busy ?c_law_busy ?k_law_busy ?a_law_numbers ?l_law_numbers ?c_law_numbers ?k_law_numbers ?a_law_numbered ?l_law_numbered ?c_law_numbered ?k_law_numbered ?a_law_classes ?l_law_classes ?c_law_classes ?k_law_classes ?a_law_leads_alike ?l_law_leads_alike ?c_law_leads_alike ?k_law_leads_alike ?a_law_table_by ?l_law_table_by ?c_law_table_by ?k_law_table_by ?a_law ?l_law ?c_law ?k_law ?z_len ?z_enumerate ?z_isinstance ?z_bool ?z_int ?z_range ?z_tuple ?z_list ?z_str ?z_set ?z_zip
    (case a_with_nowhere => k_is); (case l_with_nowhere => k_is); (case c_with_nowhere => k_is); (case k_with_nowhere => k_is); (case a_numbered => k_is); (case l_numbered => k_is); (case c_numbered => k_is); (case k_numbered => k_is); (case a_mark => k_is); (case l_mark => k_is); (case c_mark => k_is); (case k_mark => k_is); (case a_groups => k_is); (case l_groups => k_is); (case c_groups => k_is); (case k_groups => k_is); (case a_met => k_is); (case l_met => k_is); (case c_met => k_is); (case k_met => k_is); (case a_least => k_is); (case l_least => k_is); (case c_least => k_is); (case k_least => k_is); (case a_law_cell_at => k_is); (case l_law_cell_at => k_is); (case c_law_cell_at => k_is); (case k_law_cell_at => k_is); (case a_law_whole => k_is); (case l_law_whole => k_is); (case c_law_whole => k_is); (case k_law_whole => k_is); (case a_law_sign_by => k_is); (case l_law_sign_by => k_is); (case c_law_sign_by => k_is); (case k_law_sign_by => k_is); (case a_law_letters => k_is); (case l_law_letters => k_is); (case c_law_letters => k_is); (case k_law_letters => k_is); (case a_law_table_form => k_is); (case l_law_table_form => k_is); (case c_law_table_form => k_is); (case k_law_table_form => k_is); (case a_law_busy => k_is); (case l_law_busy => k_is); (case c_law_busy => k_is); (case k_law_busy => k_is); (case a_law_numbers => k_is); (case l_law_numbers => k_is); (case c_law_numbers => k_is); (case k_law_numbers => k_is); (case a_law_numbered => k_is); (case l_law_numbered => k_is); (case c_law_numbered => k_is); (case k_law_numbered => k_is); (case a_law_classes => k_is); (case l_law_classes => k_is); (case c_law_classes => k_is); (case k_law_classes => k_is); (case a_law_leads_alike => k_is); (case l_law_leads_alike => k_is); (case c_law_leads_alike => k_is); (case k_law_leads_alike => k_is); (case a_law_table_by => k_is); (case l_law_table_by => k_is); (case c_law_table_by => k_is); (case k_law_table_by => k_is); (case a_law => k_is); (case l_law => k_is); (case c_law => k_is); (case k_law => k_is); (case z_len => k_is); (case z_enumerate => k_is); (case z_isinstance => k_is); (case z_bool => k_is); (case z_int => k_is); (case z_range => k_is); (case z_tuple => k_is); (case z_list => k_is); (case z_str => k_is); (case z_set => k_is); (case z_zip => k_is)
