/-
  MATH OF lattices: joins and meets of an order, the law of distribution, the order the other way about.
  MATH OF lattices: what New answers, and the other way about.
  MATH OF lattices: bottom, top, joins of many; names of the other order.
-/
import Derived.Test.YthdfoahnkkkbmaaOlJ
import Derived.Test.YthdfoahnkkkbmaaOrS
namespace Go.Proofs.Ythdfoahnkkkbmaa
set_option linter.unusedVariables false
set_option linter.unusedSimpArgs false
open Go.RowKit

structure Pord (n : Nat) (F : Nat → Nat → Bool) : Prop where
  refl : ∀ {a}, a < n → F a a = true
  trans : ∀ {a b c}, a < n → b < n → c < n → F a b = true → F b c = true → F a c = true
  anti : ∀ {a b}, a < n → b < n → F a b = true → F b a = true → a = b
theorem Pord.flip {n : Nat} {F : Nat → Nat → Bool} (h : Pord n F) : Pord n (oflip F) := ⟨fun ha => h.refl ha, fun ha hb hc h1 h2 => h.trans hc hb ha h2 h1, fun ha hb h1 h2 => h.anti ha hb h2 h1⟩
/-- i is the least that both are at most. -/
structure IsJ (F : Nat → Nat → Bool) (n a b i : Nat) : Prop where
  lt : i < n
  l : F a i = true
  r : F b i = true
  least : ∀ {k}, k < n → F a k = true → F b k = true → F i k = true
theorem IsJ.uniq {F : Nat → Nat → Bool} {n a b i j : Nat} (h : Pord n F) (hi : IsJ F n a b i) (hj : IsJ F n a b j) : i = j :=
  h.anti hi.lt hj.lt (hi.least hj.lt hj.l hj.r) (hj.least hi.lt hi.l hi.r)
theorem jall_iff {F : Nat → Nat → Bool} {a b i m : Nat} : jall F a b i m = true ↔ ∀ k, k < m → F a k = true → F b k = true → F i k = true := by
  unfold jall
  rw [List.all_eq_true]
  constructor
  · intro h k hk h1 h2
    have := h k (List.mem_range.2 hk)
    simpa [h1, h2] using this
  · intro h k hk
    have hk := List.mem_range.1 hk
    cases h1 : F a k <;> cases h2 : F b k <;> simp
    exact h k hk h1 h2
theorem jcand_iff {F : Nat → Nat → Bool} {n a b i : Nat} (hi : i < n) : jcand F n a b i = true ↔ IsJ F n a b i := by
  unfold jcand
  rw [Bool.and_eq_true, Bool.and_eq_true, jall_iff]
  exact ⟨fun ⟨⟨h1, h2⟩, h3⟩ => ⟨hi, h1, h2, fun hk => h3 _ hk⟩, fun h => ⟨⟨h.l, h.r⟩, fun k hk => h.least hk⟩⟩
theorem rjoin_cases (F : Nat → Nat → Bool) (n a b : Nat) : (∃ i : Nat, rjoinI F n a b = (i : Int) ∧ IsJ F n a b i) ∨ (rjoinI F n a b = -1 ∧ ∀ i : Nat, ¬ IsJ F n a b i) := by
  cases h : (List.range n).find? (jcand F n a b) with
  | some i =>
    left
    have h' := h
    rw [List.find?_range_eq_some] at h
    refine ⟨i, by unfold rjoinI; rw [h'], (jcand_iff (List.mem_range.1 h.2.1)).1 h.1⟩
  | none =>
    right
    have h' := h
    rw [List.find?_range_eq_none] at h
    refine ⟨by unfold rjoinI; rw [h'], fun i hi => ?_⟩
    have := h i hi.lt
    rw [(jcand_iff hi.lt).2 hi] at this
    cases this
theorem IsJ.rjoin {F : Nat → Nat → Bool} {n a b i : Nat} (h : Pord n F) (hi : IsJ F n a b i) : rjoinI F n a b = (i : Int) := by
  rcases rjoin_cases F n a b with ⟨j, e, hj⟩ | ⟨_, h2⟩
  · rw [e, hi.uniq h hj]
  · exact absurd hi (h2 i)
theorem IsJ.comm {F : Nat → Nat → Bool} {n a b i : Nat} (h : IsJ F n a b i) : IsJ F n b a i := ⟨h.lt, h.r, h.l, fun hk h1 h2 => h.least hk h2 h1⟩
def jn (F : Nat → Nat → Bool) (n a b : Nat) : Nat := (rjoinI F n a b).toNat
def mn (F : Nat → Nat → Bool) (n a b : Nat) : Nat := (rjoinI (oflip F) n a b).toNat
/-- The first fault of an order that is no lattice. -/
def lbad1 (F : Nat → Nat → Bool) (n a b : Nat) : Bool := decide (a ≤ b) && (decide (rjoinI F n a b < 0) || decide (rjoinI (oflip F) n a b < 0))
def lbad3 (F : Nat → Nat → Bool) (n a b c : Nat) : Bool := !decide (mn F n a (jn F n b c) = jn F n (mn F n a b) (mn F n a c))
def lbad2 (F : Nat → Nat → Bool) (n a b : Nat) : Bool := (List.range n).any (lbad3 F n a b)
structure Fst (P : Nat → Nat → Bool) (n a b : Nat) : Prop where
  la : a < n
  lb : b < n
  yes : P a b = true
  no : ∀ x y, x < n → y < n → (x < a ∨ x = a ∧ y < b) → P x y = false
theorem Fst.uniq {P : Nat → Nat → Bool} {n a b c d : Nat} (h : Fst P n a b) (k : Fst P n c d) : a = c ∧ b = d := by
  have h1 := h.no c d k.la k.lb
  have h2 := k.no a b h.la h.lb
  rw [h.yes] at h2
  rw [k.yes] at h1
  simp at h1 h2
  omega
/-- What New answers: two elements, and an error's number. -/
inductive LNew (n : Nat) (F : Nat → Nat → Bool) : Nat → Nat → Nat → Prop
  | none : n = 0 → LNew n F 0 0 1
  | one {a b : Nat} : Fst (lbad1 F n) n a b → LNew n F a b 17
  | two {a b : Nat} : (∀ x y, x < n → y < n → lbad1 F n x y = false) → Fst (lbad2 F n) n a b → LNew n F a b 17
  | ok : 0 < n → (∀ x y, x < n → y < n → lbad1 F n x y = false) → (∀ x y, x < n → y < n → lbad2 F n x y = false) → LNew n F 0 0 0
theorem LNew.uniq {n : Nat} {F : Nat → Nat → Bool} {a b e c d f : Nat} (h : LNew n F a b e) (k : LNew n F c d f) : a = c ∧ b = d ∧ e = f := by
  have no : ∀ {P : Nat → Nat → Bool} {x y : Nat}, Fst P n x y → (∀ x y, x < n → y < n → P x y = false) → False := fun h k => by
    have := k _ _ h.la h.lb
    rw [h.yes] at this
    cases this
  cases h with
  | none h =>
    cases k with
    | none k => exact ⟨rfl, rfl, rfl⟩
    | one k => have := k.la; omega
    | two _ k => have := k.la; omega
    | ok k => omega
  | one h =>
    cases k with
    | none k => have := h.la; omega
    | one k => exact ⟨(h.uniq k).1, (h.uniq k).2, rfl⟩
    | two k _ => exact (no h k).elim
    | ok _ k => exact (no h k).elim
  | two h0 h =>
    cases k with
    | none k => have := h.la; omega
    | one k => exact (no k h0).elim
    | two _ k => exact ⟨(h.uniq k).1, (h.uniq k).2, rfl⟩
    | ok _ _ k => exact (no h k).elim
  | ok hn h0 h =>
    cases k with
    | none k => omega
    | one k => exact (no k h0).elim
    | two _ k => exact (no k h).elim
    | ok => exact ⟨rfl, rfl, rfl⟩
/-- A lattice that is distributive. -/
structure Lat (n : Nat) (F : Nat → Nat → Bool) (J M : Nat → Nat → Nat) : Prop where
  ord : Pord n F
  j : ∀ {a b}, a < n → b < n → IsJ F n a b (J a b)
  m : ∀ {a b}, a < n → b < n → IsJ (oflip F) n a b (M a b)
  d : ∀ {a b c}, a < n → b < n → c < n → M a (J b c) = J (M a b) (M a c)
variable {n : Nat} {F : Nat → Nat → Bool} {J M : Nat → Nat → Nat}
theorem Lat.of (h : Pord n F) (h1 : ∀ x y, x < n → y < n → lbad1 F n x y = false) (h2 : ∀ x y, x < n → y < n → lbad2 F n x y = false) : Lat n F (jn F n) (mn F n) := by
  have key : ∀ {G : Nat → Nat → Bool} {a b : Nat}, ¬ rjoinI G n a b < 0 → IsJ G n a b (jn G n a b) := fun {G a b} hn => by
    rcases rjoin_cases G n a b with ⟨i, e, hi⟩ | ⟨e, _⟩
    · unfold jn; rw [e]; exact hi
    · rw [e] at hn; exact absurd (by decide) hn
  have b1 : ∀ {a b : Nat}, a < n → b < n → a ≤ b → ¬ rjoinI F n a b < 0 ∧ ¬ rjoinI (oflip F) n a b < 0 := fun {a b} ha hb hab => by
    have := h1 a b ha hb
    unfold lbad1 at this
    rw [decide_eq_true hab] at this
    simp at this
    omega
  have cm : ∀ {G : Nat → Nat → Bool} {a b : Nat}, Pord n G → IsJ G n b a (jn G n b a) → IsJ G n a b (jn G n a b) := fun {G a b} hG hi => by
    have := hi.comm
    have e := this.rjoin hG
    unfold jn
    rw [e]
    exact this
  refine ⟨h, fun {a b} ha hb => ?_, fun {a b} ha hb => ?_, fun {a b c} ha hb hc => ?_⟩
  · rcases Nat.le_total a b with e | e
    · exact key (b1 ha hb e).1
    · exact cm h (key (b1 hb ha e).1)
  · rcases Nat.le_total a b with e | e
    · exact key (b1 ha hb e).2
    · exact cm h.flip (key (b1 hb ha e).2)
  · have := h2 a b ha hb
    unfold lbad2 at this
    rw [List.any_eq_false] at this
    have := this c (List.mem_range.2 hc)
    unfold lbad3 at this
    simpa using this
namespace Lat
theorem jl (h : Lat n F J M) {a b : Nat} (ha : a < n) (hb : b < n) : J a b < n := (h.j ha hb).lt
theorem ml (h : Lat n F J M) {a b : Nat} (ha : a < n) (hb : b < n) : M a b < n := (h.m ha hb).lt
theorem jeq (h : Lat n F J M) {a b i : Nat} (ha : a < n) (hb : b < n) (hi : IsJ F n a b i) : J a b = i := (h.j ha hb).uniq h.ord hi
theorem meq (h : Lat n F J M) {a b i : Nat} (ha : a < n) (hb : b < n) (hi : IsJ (oflip F) n a b i) : M a b = i := (h.m ha hb).uniq h.ord.flip hi
theorem jc (h : Lat n F J M) {a b : Nat} (ha : a < n) (hb : b < n) : J a b = J b a := h.jeq ha hb (h.j hb ha).comm
theorem mc (h : Lat n F J M) {a b : Nat} (ha : a < n) (hb : b < n) : M a b = M b a := h.meq ha hb (h.m hb ha).comm
theorem ja (h : Lat n F J M) {a b c : Nat} (ha : a < n) (hb : b < n) (hc : c < n) : J (J a b) c = J a (J b c) := by
  have j1 := h.j ha hb
  have j2 := h.j hb hc
  have j3 := h.j ha j2.lt
  have T := @Pord.trans _ _ h.ord
  refine h.jeq j1.lt hc ⟨j3.lt, j1.least j3.lt j3.l (T hb j2.lt j3.lt j2.l j3.r), T hc j2.lt j3.lt j2.r j3.r, fun {k} hk h1 h2 => ?_⟩
  exact j3.least hk (T ha j1.lt hk j1.l h1) (j2.least hk (T hb j1.lt hk j1.r h1) h2)
theorem ma (h : Lat n F J M) {a b c : Nat} (ha : a < n) (hb : b < n) (hc : c < n) : M (M a b) c = M a (M b c) := by
  have j1 := h.m ha hb
  have j2 := h.m hb hc
  have j3 := h.m ha j2.lt
  have T := @Pord.trans _ _ h.ord.flip
  refine h.meq j1.lt hc ⟨j3.lt, j1.least j3.lt j3.l (T hb j2.lt j3.lt j2.l j3.r), T hc j2.lt j3.lt j2.r j3.r, fun {k} hk h1 h2 => ?_⟩
  exact j3.least hk (T ha j1.lt hk j1.l h1) (j2.least hk (T hb j1.lt hk j1.r h1) h2)
theorem jm (h : Lat n F J M) {a b : Nat} (ha : a < n) (hb : b < n) : J a (M a b) = a := by
  have m1 := h.m ha hb
  exact h.jeq ha m1.lt ⟨ha, h.ord.refl ha, m1.l, fun hk h1 _ => h1⟩
theorem mj (h : Lat n F J M) {a b : Nat} (ha : a < n) (hb : b < n) : M a (J a b) = a := by
  have j1 := h.j ha hb
  exact h.meq ha j1.lt ⟨ha, h.ord.refl ha, j1.l, fun hk h1 _ => h1⟩
theorem d2 (h : Lat n F J M) {a b c : Nat} (ha : a < n) (hb : b < n) (hc : c < n) : J a (M b c) = M (J a b) (J a c) := by
  have j1 := h.jl ha hb
  have j2 := h.jl ha hc
  rw [h.d j1 ha hc, h.mc j1 ha, h.mj ha hb, h.mc j1 hc, h.d hc ha hb, ← h.ja ha (h.ml hc ha) (h.ml hc hb), h.mc hc ha, h.jm ha hc, h.mc hc hb]
theorem le (h : Lat n F J M) {a b : Nat} (ha : a < n) (hb : b < n) : F a b = true ↔ J a b = b := by
  constructor
  · intro h1
    exact h.jeq ha hb ⟨hb, h1, h.ord.refl hb, fun hk _ h2 => h2⟩
  · intro e
    have := (h.j ha hb).l
    rw [e] at this
    exact this
end Lat
/-- The least of all. -/
theorem Pord.bot_ex (h : Lat n F J M) (hn : 0 < n) : ∃ i, i < n ∧ ∀ k, k < n → F i k = true := by
  have : ∀ m, m ≤ n → ∃ i, i < n ∧ ∀ k, k < m → F i k = true := by
    intro m
    induction m with
    | zero => exact fun _ => ⟨0, hn, fun k hk => absurd hk (Nat.not_lt_zero _)⟩
    | succ m ih =>
      intro hm
      obtain ⟨i, hi, hk⟩ := ih (by omega)
      have q := h.m hi (show m < n by omega)
      refine ⟨M i m, q.lt, fun k hk2 => ?_⟩
      rcases Nat.lt_or_ge k m with e | e
      · exact h.ord.trans q.lt hi (by omega) q.l (hk k e)
      · obtain rfl : k = m := by omega
        exact q.r
  exact this n (Nat.le_refl _)
/-- The other way about it is a lattice, too. -/
theorem Lat.flip (h : Lat n F J M) : Lat n (oflip F) M J := ⟨h.ord.flip, fun ha hb => h.m ha hb, fun ha hb => h.j ha hb, fun ha hb hc => h.d2 ha hb hc⟩
end Go.Proofs.Ythdfoahnkkkbmaa
namespace Go.Proofs.Ythdfoahnkkkbmaa
set_option linter.unusedVariables false
set_option linter.unusedSimpArgs false
open Go.RowKit

theorem Osd.pord {o : Od} (h : Osd o) : Pord o.ns.length (fun a b => o.most a b) := by
  refine ⟨fun {a} ha => ?_, fun {a b c} ha hb hc h1 h2 => ?_, fun {a b} ha hb h1 h2 => ?_⟩
  · rw [most_bit ha ha]; exact h.self a ha
  · rw [most_bit ha hb] at h1
    rw [most_bit hb hc] at h2
    rw [most_bit ha hc]
    exact h.tr c b a hc hb h2 h1
  · rw [most_bit ha hb] at h1
    rw [most_bit hb ha] at h2
    exact h.anti a b ha hb h2 h1
variable {n : Nat} {F : Nat → Nat → Bool} {J M : Nat → Nat → Nat}
theorem Lat.jn_eq (h : Lat n F J M) {a b : Nat} (ha : a < n) (hb : b < n) : jn F n a b = J a b := by
  unfold jn
  rw [(h.j ha hb).rjoin h.ord]
  rfl
theorem Lat.mn_eq (h : Lat n F J M) {a b : Nat} (ha : a < n) (hb : b < n) : mn F n a b = M a b := by
  unfold mn
  rw [(h.m ha hb).rjoin h.ord.flip]
  rfl
theorem Lat.std (h : Lat n F J M) : Lat n F (jn F n) (mn F n) := by
  refine ⟨h.ord, fun {a b} ha hb => ?_, fun {a b} ha hb => ?_, fun {a b c} ha hb hc => ?_⟩
  · rw [h.jn_eq ha hb]; exact h.j ha hb
  · rw [h.mn_eq ha hb]; exact h.m ha hb
  · rw [h.jn_eq hb hc, h.mn_eq ha (h.jl hb hc), h.mn_eq ha hb, h.mn_eq ha hc, h.jn_eq (h.ml ha hb) (h.ml ha hc)]
    exact h.d ha hb hc
theorem Lat.good1 (h : Lat n F J M) {a b : Nat} (ha : a < n) (hb : b < n) : lbad1 F n a b = false := by
  unfold lbad1
  rw [(h.j ha hb).rjoin h.ord, (h.m ha hb).rjoin h.ord.flip]
  simp
theorem Lat.good2 (h : Lat n F J M) {a b : Nat} (ha : a < n) (hb : b < n) : lbad2 F n a b = false := by
  unfold lbad2
  rw [List.any_eq_false]
  intro c hc
  have hc := List.mem_range.1 hc
  unfold lbad3
  rw [h.std.d ha hb hc]
  simp
theorem LNew.zero_iff (h : Pord n F) {a b e : Nat} (k : LNew n F a b e) : e = 0 ↔ 0 < n ∧ Lat n F (jn F n) (mn F n) := by
  cases k with
  | none k => exact ⟨fun e => (by cases e), fun ⟨h, _⟩ => by omega⟩
  | one k =>
    refine ⟨fun e => (by cases e), fun ⟨_, h⟩ => ?_⟩
    have := h.good1 k.la k.lb
    rw [k.yes] at this
    cases this
  | two _ k =>
    refine ⟨fun e => (by cases e), fun ⟨_, h⟩ => ?_⟩
    have := h.good2 k.la k.lb
    rw [k.yes] at this
    cases this
  | ok hn h1 h2 => exact ⟨fun _ => ⟨hn, Lat.of h h1 h2⟩, fun _ => rfl⟩
/-- Two orders with the elements in other places. -/
structure Iso (n : Nat) (F G : Nat → Nat → Bool) (s t : Nat → Nat) : Prop where
  sl : ∀ {a}, a < n → s a < n
  tl : ∀ {a}, a < n → t a < n
  ts : ∀ {a}, a < n → t (s a) = a
  st : ∀ {a}, a < n → s (t a) = a
  eq : ∀ {a b}, a < n → b < n → F a b = G (s a) (s b)
variable {G : Nat → Nat → Bool} {s t : Nat → Nat}
theorem Iso.back (h : Iso n F G s t) {a b : Nat} (ha : a < n) (hb : b < n) : G a b = F (t a) (t b) := by
  rw [h.eq (h.tl ha) (h.tl hb), h.st ha, h.st hb]
theorem Iso.symm (h : Iso n F G s t) : Iso n G F t s := ⟨h.tl, h.sl, h.st, h.ts, fun ha hb => h.back ha hb⟩
theorem Iso.flip (h : Iso n F G s t) : Iso n (oflip F) (oflip G) s t := ⟨h.sl, h.tl, h.ts, h.st, fun ha hb => h.eq hb ha⟩
theorem Iso.pord (h : Iso n F G s t) (k : Pord n F) : Pord n G := by
  refine ⟨fun {a} ha => ?_, fun {a b c} ha hb hc h1 h2 => ?_, fun {a b} ha hb h1 h2 => ?_⟩
  · rw [h.back ha ha]; exact k.refl (h.tl ha)
  · rw [h.back ha hb] at h1
    rw [h.back hb hc] at h2
    rw [h.back ha hc]
    exact k.trans (h.tl ha) (h.tl hb) (h.tl hc) h1 h2
  · rw [h.back ha hb] at h1
    rw [h.back hb ha] at h2
    have := k.anti (h.tl ha) (h.tl hb) h1 h2
    rw [← h.st ha, this, h.st hb]
theorem Iso.isj (h : Iso n F G s t) {a b i : Nat} (ha : a < n) (hb : b < n) (k : IsJ F n (t a) (t b) i) : IsJ G n a b (s i) := by
  refine ⟨h.sl k.lt, ?_, ?_, fun {c} hc h1 h2 => ?_⟩
  · rw [h.back ha (h.sl k.lt), h.ts k.lt]; exact k.l
  · rw [h.back hb (h.sl k.lt), h.ts k.lt]; exact k.r
  · rw [h.back ha hc] at h1
    rw [h.back hb hc] at h2
    rw [h.back (h.sl k.lt) hc, h.ts k.lt]
    exact k.least (h.tl hc) h1 h2
theorem Iso.lat (h : Iso n F G s t) (k : Lat n F J M) : Lat n G (fun a b => s (J (t a) (t b))) (fun a b => s (M (t a) (t b))) := by
  refine ⟨h.pord k.ord, fun ha hb => h.isj ha hb (k.j (h.tl ha) (h.tl hb)), fun ha hb => h.flip.isj ha hb (k.m (h.tl ha) (h.tl hb)), fun {a b c} ha hb hc => ?_⟩
  have a1 := h.tl ha
  have b1 := h.tl hb
  have c1 := h.tl hc
  show s (M (t a) (t (s (J (t b) (t c))))) = s (J (t (s (M (t a) (t b)))) (t (s (M (t a) (t c)))))
  rw [h.ts (k.jl b1 c1), h.ts (k.ml a1 b1), h.ts (k.ml a1 c1), k.d a1 b1 c1]
/-- Pairs the other way about: elements in other places, the order turned. -/
theorem turned_iso {l : List OPr} (h : ∀ p ∈ l, p.1.size ≠ 0) {x y : Od} (hx : (newO l).1 = some x) (hy : (newO (l.map oturn)).1 = some y) :
    x.ns.length = y.ns.length ∧ Iso x.ns.length (fun a b => x.most a b) (oflip fun a b => y.most a b) (fun i => y.num (x.ns.getD i ⟨#[]⟩)) (fun i => x.num (y.ns.getD i ⟨#[]⟩)) := by
  obtain ⟨hl, hm⟩ := turned_same h hx hy
  obtain ⟨e1, _, f1, _⟩ := newO_some hx
  obtain ⟨e2, _, f2, _⟩ := newO_some hy
  have hv := Oiv.adds Oiv.zero e1
  have hv' := Oiv.adds Oiv.zero e2
  rw [List.nil_append] at hv hv'
  have hs : ∀ s, s ∈ x.ns ↔ s ∈ y.ns := fun s => by
    rw [f1, f2]
    show s ∈ (Od.zero.adds l 0).1.ns ↔ s ∈ (Od.zero.adds (l.map oturn) 0).1.ns
    rw [hv.men, hv'.men, oturn_men h]
  have ndx : x.ns.Nodup := by rw [f1]; exact hv.wf.nd
  have ndy : y.ns.Nodup := by rw [f2]; exact hv'.wf.nd
  have gx : ∀ {i}, i < x.ns.length → x.ns.getD i ⟨#[]⟩ ∈ x.ns := fun {i} hi => by
    rw [List.getD_eq_getElem?_getD, List.getElem?_eq_getElem hi]
    exact List.getElem_mem _
  have gy : ∀ {i}, i < y.ns.length → y.ns.getD i ⟨#[]⟩ ∈ y.ns := fun {i} hi => by
    rw [List.getD_eq_getElem?_getD, List.getElem?_eq_getElem hi]
    exact List.getElem_mem _
  have rt : ∀ {u v : Od}, u.ns.Nodup → v.ns.Nodup → (∀ s, s ∈ u.ns ↔ s ∈ v.ns) → ∀ {i}, i < u.ns.length → u.num (v.ns.getD (v.num (u.ns.getD i ⟨#[]⟩)) ⟨#[]⟩) = i := fun {u v} hu hv hs {i} hi => by
    have e : u.ns.getD i ⟨#[]⟩ = u.ns[i] := by rw [List.getD_eq_getElem?_getD, List.getElem?_eq_getElem hi]; rfl
    have m : u.ns[i] ∈ v.ns := (hs _).1 (List.getElem_mem _)
    rw [e, List.getD_eq_getElem?_getD, Od.num_get m]
    show u.num u.ns[i] = i
    unfold Od.num
    rw [opos_get hu hi]
    rfl
  refine ⟨hl, fun {a} ha => ?_, fun {a} ha => ?_, fun {a} ha => rt ndx ndy hs ha, fun {a} ha => rt ndy ndx (fun s => (hs s).symm) (by omega), fun {a b} ha hb => ?_⟩
  · rw [hl]; exact Od.num_lt ((hs _).1 (gx ha))
  · exact Od.num_lt ((hs _).2 (gy (by omega)))
  · show x.most a b = y.most (y.num (x.ns.getD b ⟨#[]⟩)) (y.num (x.ns.getD a ⟨#[]⟩))
    rw [hm a b ha hb]
    have e : ∀ {i}, (hi : i < x.ns.length) → x.ns.getD i ⟨#[]⟩ = x.ns[i] := fun {i} hi => by rw [List.getD_eq_getElem?_getD, List.getElem?_eq_getElem hi]; rfl
    rw [e ha, e hb]
/-- Of the order the other way about the joins are the meets. -/
theorem lat_turned {l : List OPr} (h : ∀ p ∈ l, p.1.size ≠ 0) {x y : Od} (hx : (newO l).1 = some x) (hy : (newO (l.map oturn)).1 = some y) {a b e c d f : Nat} (h1 : LNew x.ns.length (fun a b => x.most a b) a b e) (h2 : LNew y.ns.length (fun a b => y.most a b) c d f) :
    e = f ∧ (e = 0 → 0 < x.ns.length ∧ Lat x.ns.length (fun a b => x.most a b) (jn (fun a b => x.most a b) x.ns.length) (mn (fun a b => x.most a b) x.ns.length) ∧ Lat y.ns.length (fun a b => y.most a b) (jn (fun a b => y.most a b) y.ns.length) (mn (fun a b => y.most a b) y.ns.length)) := by
  obtain ⟨hl, hi⟩ := turned_iso h hx hy
  have p1 := (newO_osd hx).pord
  have p2 := (newO_osd hy).pord
  have z1 := h1.zero_iff p1
  have z2 := h2.zero_iff p2
  have key : (0 < x.ns.length ∧ Lat x.ns.length (fun a b => x.most a b) (jn (fun a b => x.most a b) x.ns.length) (mn (fun a b => x.most a b) x.ns.length)) ↔ (0 < y.ns.length ∧ Lat y.ns.length (fun a b => y.most a b) (jn (fun a b => y.most a b) y.ns.length) (mn (fun a b => y.most a b) y.ns.length)) := by
    rw [← hl]
    constructor
    · rintro ⟨h0, hL⟩
      exact ⟨h0, (hi.lat hL).flip.std⟩
    · rintro ⟨h0, hL⟩
      exact ⟨h0, (hi.symm.lat hL.flip).std⟩
  have n1 : ∀ {n F a b e}, LNew n F a b e → (e = 1 ↔ n = 0) ∧ (e = 0 ∨ e = 1 ∨ e = 17) := fun k => by
    cases k with
    | none h => exact ⟨by simp [h], .inr (.inl rfl)⟩
    | one h => have := h.la; exact ⟨⟨fun e => (by cases e), fun e => by omega⟩, .inr (.inr rfl)⟩
    | two _ h => have := h.la; exact ⟨⟨fun e => (by cases e), fun e => by omega⟩, .inr (.inr rfl)⟩
    | ok h => exact ⟨⟨fun e => (by cases e), fun e => by omega⟩, .inl rfl⟩
  have q1 := n1 h1
  have q2 := n1 h2
  refine ⟨?_, fun e0 => ⟨(z1.1 e0).1, (z1.1 e0).2, (key.1 (z1.1 e0)).2⟩⟩
  have z3 : e = 0 ↔ f = 0 := z1.trans (key.trans z2.symm)
  omega
end Go.Proofs.Ythdfoahnkkkbmaa
namespace Go.Proofs.Ythdfoahnkkkbmaa
set_option linter.unusedVariables false
set_option linter.unusedSimpArgs false
open Go.RowKit

def brow (F : Nat → Nat → Bool) (i m : Nat) : Bool := (List.range m).all fun k => F i k
theorem brow_zero (F : Nat → Nat → Bool) (i : Nat) : brow F i 0 = true := rfl
theorem brow_succ (F : Nat → Nat → Bool) (i m : Nat) : brow F i (m + 1) = (brow F i m && F i m) := by
  unfold brow
  rw [List.range_succ, List.all_append]
  simp
theorem brow_iff {F : Nat → Nat → Bool} {i m : Nat} : brow F i m = true ↔ ∀ k, k < m → F i k = true := by
  unfold brow
  rw [List.all_eq_true]
  exact ⟨fun h k hk => h k (List.mem_range.2 hk), fun h k hk => h k (List.mem_range.1 hk)⟩
/-- The first that is at most all. -/
def botI (F : Nat → Nat → Bool) (n : Nat) : Int := match (List.range n).find? (fun i => brow F i n) with | some i => (i : Int) | none => -1
theorem botI_yes {F : Nat → Nat → Bool} {n i : Nat} (hi : i < n) (h : brow F i n = true) (hno : ∀ j, j < i → brow F j n = false) : botI F n = (i : Int) := by
  have : (List.range n).find? (fun i => brow F i n) = some i := by
    rw [List.find?_range_eq_some]
    exact ⟨h, List.mem_range.2 hi, fun j hj => by rw [hno j hj]; rfl⟩
  unfold botI
  rw [this]
theorem botI_no {F : Nat → Nat → Bool} {n : Nat} (hno : ∀ j, j < n → brow F j n = false) : botI F n = -1 := by
  have : (List.range n).find? (fun i => brow F i n) = none := by
    rw [List.find?_range_eq_none]
    exact fun j hj => by rw [hno j hj]; rfl
  unfold botI
  rw [this]
theorem botI_is {F : Nat → Nat → Bool} {n i : Nat} (h : Pord n F) (hi : i < n) (hk : ∀ k, k < n → F i k = true) : botI F n = (i : Int) := by
  refine botI_yes hi (brow_iff.2 hk) fun j hj => ?_
  cases e : brow F j n with
  | false => rfl
  | true =>
    have := h.anti (by omega) hi (brow_iff.1 e i hi) (hk j (by omega))
    omega
variable {n : Nat} {F : Nat → Nat → Bool} {J M : Nat → Nat → Nat}
theorem Lat.bot (h : Lat n F J M) (hn : 0 < n) : ∃ i : Nat, i < n ∧ botI F n = (i : Int) ∧ (∀ k, k < n → F i k = true) ∧ (∀ k, k < n → M k i = i ∧ J i k = k) := by
  obtain ⟨i, hi, hk⟩ := Pord.bot_ex h hn
  refine ⟨i, hi, botI_is h.ord hi hk, hk, fun k hk2 => ⟨?_, (h.le hi hk2).1 (hk k hk2)⟩⟩
  exact h.meq hk2 hi ⟨hi, hk k hk2, h.ord.refl hi, fun hc _ h2 => h2⟩
theorem Lat.top (h : Lat n F J M) (hn : 0 < n) : ∃ i : Nat, i < n ∧ botI (oflip F) n = (i : Int) ∧ (∀ k, k < n → F k i = true) ∧ (∀ k, k < n → J k i = i ∧ M i k = k) := h.flip.bot hn
variable {G : Nat → Nat → Bool} {s t : Nat → Nat}
theorem Iso.jn (h : Iso n F G s t) (k : Lat n F J M) {a b : Nat} (ha : a < n) (hb : b < n) : jn G n (s a) (s b) = s (jn F n a b) := by
  rw [(h.lat k).jn_eq (h.sl ha) (h.sl hb), h.ts ha, h.ts hb, k.jn_eq ha hb]
theorem Iso.mn (h : Iso n F G s t) (k : Lat n F J M) {a b : Nat} (ha : a < n) (hb : b < n) : mn G n (s a) (s b) = s (mn F n a b) := by
  rw [(h.lat k).mn_eq (h.sl ha) (h.sl hb), h.ts ha, h.ts hb, k.mn_eq ha hb]
theorem Iso.bot (h : Iso n F G s t) (k : Lat n F J M) {i : Nat} (hi : i < n) (hk : ∀ k, k < n → F i k = true) : botI G n = (s i : Nat) :=
  botI_is (h.pord k.ord) (h.sl hi) fun c hc => by rw [h.back (h.sl hi) hc, h.ts hi]; exact hk _ (h.tl hc)
/-- Joins of elements, one behind the other. -/
def jfold (F : Nat → Nat → Bool) (n : Nat) (l : List Nat) (x : Nat) : Nat := l.foldl (jn F n) x
theorem jfold_lt (h : Lat n F J M) : ∀ {l : List Nat} {x : Nat}, x < n → (∀ a ∈ l, a < n) → jfold F n l x < n
  | [], x, hx, _ => hx
  | a :: l, x, hx, hl => jfold_lt h (l := l) (h.std.jl hx (hl a (by simp))) fun b hb => hl b (by simp [hb])
theorem jfold_snoc (l : List Nat) (a x : Nat) : jfold F n (l ++ [a]) x = jn F n (jfold F n l x) a := by
  unfold jfold
  rw [List.foldl_append]
  rfl
/-- All that LatticeTurned asks. -/
theorem turned_names {l : List OPr} (h : ∀ p ∈ l, p.1.size ≠ 0) {x y : Od} (hx : (newO l).1 = some x) (hy : (newO (l.map oturn)).1 = some y) (hn : 0 < x.ns.length) (hL : Lat x.ns.length (fun a b => x.most a b) J M) {a b : Nat} (ha : a < x.ns.length) (hb : b < x.ns.length) :
    let s := fun i => y.num (x.ns.getD i ⟨#[]⟩)
    (s a < y.ns.length ∧ s b < y.ns.length) ∧
    (mn (fun a b => y.most a b) y.ns.length (s a) (s b) = s (jn (fun a b => x.most a b) x.ns.length a b)) ∧ (jn (fun a b => y.most a b) y.ns.length (s a) (s b) = s (mn (fun a b => x.most a b) x.ns.length a b)) ∧
    (∃ i : Nat, i < x.ns.length ∧ botI (oflip fun a b => x.most a b) x.ns.length = (i : Int) ∧ botI (fun a b => y.most a b) y.ns.length = (s i : Nat)) ∧
    (∀ i, i < x.ns.length → x.ns.getD i ⟨#[]⟩ ∈ y.ns ∧ y.ns[s i]? = x.ns[i]?) := by
  intro s
  obtain ⟨hl, hi⟩ := turned_iso h hx hy
  have hm : ∀ i, i < x.ns.length → x.ns.getD i ⟨#[]⟩ ∈ y.ns := fun i hi2 => by
    obtain ⟨e1, _, f1, _⟩ := newO_some hx
    obtain ⟨e2, _, f2, _⟩ := newO_some hy
    have hv := Oiv.adds Oiv.zero e1
    have hv' := Oiv.adds Oiv.zero e2
    rw [List.nil_append] at hv hv'
    have g : x.ns.getD i ⟨#[]⟩ ∈ x.ns := by
      rw [List.getD_eq_getElem?_getD, List.getElem?_eq_getElem hi2]
      exact List.getElem_mem _
    rw [f1] at g
    have g : x.ns.getD i ⟨#[]⟩ ∈ (Od.zero.adds l 0).1.ns := by rw [f1]; exact g
    rw [hv.men] at g
    rw [f2]
    show _ ∈ (Od.zero.adds (l.map oturn) 0).1.ns
    rw [hv'.men, oturn_men h]
    exact g
  have sl : ∀ {c}, c < x.ns.length → s c < x.ns.length := fun hc => hi.sl hc
  have hLf := hL.flip
  have i2 : Iso x.ns.length (oflip fun a b => x.most a b) (fun a b => y.most a b) s _ := hi.flip
  refine ⟨⟨hl ▸ sl ha, hl ▸ sl hb⟩, ?_, ?_, ?_, fun i h2 => ⟨hm i h2, ?_⟩⟩
  · rw [← hl]
    exact i2.mn hLf ha hb
  · rw [← hl]
    exact i2.jn hLf ha hb
  · obtain ⟨i, hi3, e, hk, _⟩ := hLf.bot hn
    exact ⟨i, hi3, e, by rw [← hl]; exact i2.bot hLf hi3 hk⟩
  · have := Od.num_get (hm i h2)
    show y.ns[y.num (x.ns.getD i ⟨#[]⟩)]? = x.ns[i]?
    rw [this, List.getD_eq_getElem?_getD, List.getElem?_eq_getElem h2]
    rfl
end Go.Proofs.Ythdfoahnkkkbmaa
