/-
  THE MATH OF A STABLE SORT: the same edits of each From, in their order ('Fl'), by rising From ('Srt'): one list alone.
-/
import Derived.Test.YtopeechbgblndaaDoorSpM
import Derived.Sort.LotA
namespace Go.Proofs.YtopeechbgblndaaDoor
set_option linter.unusedVariables false
set_option linter.unusedSimpArgs false
open Go.Sort

def kf (f : Int) (x : Ed) : Bool := x.1 == f
def Fl (A B : List Ed) : Prop := A.length = B.length ∧ ∀ f, A.filter (kf f) = B.filter (kf f)
theorem Fl.refl (A : List Ed) : Fl A A := ⟨rfl, fun _ => rfl⟩
theorem Fl.symm {A B : List Ed} (h : Fl A B) : Fl B A := ⟨h.1.symm, fun f => (h.2 f).symm⟩
theorem Fl.trans {A B C : List Ed} (h : Fl A B) (k : Fl B C) : Fl A C := ⟨h.1.trans k.1, fun f => (h.2 f).trans (k.2 f)⟩
theorem Fl.app {A B C D : List Ed} (h : Fl A B) (k : Fl C D) : Fl (A ++ C) (B ++ D) := ⟨by rw [List.length_append, List.length_append, h.1, k.1], fun f => by rw [List.filter_append, List.filter_append, h.2, k.2]⟩
theorem Fl.left {A C D : List Ed} (h : Fl C D) : Fl (A ++ C) (A ++ D) := (Fl.refl A).app h
theorem Fl.right {A B C : List Ed} (h : Fl A B) : Fl (A ++ C) (B ++ C) := h.app (Fl.refl C)
theorem Fl.cancel {P A B R : List Ed} (h : Fl (P ++ A ++ R) (P ++ B ++ R)) : Fl A B := by
  refine ⟨?_, fun f => ?_⟩
  · have := h.1
    simp only [List.length_append] at this
    omega
  · have := h.2 f
    simp only [List.filter_append] at this
    exact List.append_cancel_left (List.append_cancel_right this)
theorem Fl.swap {U V : List Ed} (h : ∀ u ∈ U, ∀ v ∈ V, u.1 ≠ v.1) : Fl (U ++ V) (V ++ U) := by
  refine ⟨by simp [Nat.add_comm], fun f => ?_⟩
  rw [List.filter_append, List.filter_append]
  by_cases hu : ∃ u ∈ U, u.1 = f
  · obtain ⟨u, hu, rfl⟩ := hu
    have : V.filter (kf u.1) = [] := List.filter_eq_nil_iff.2 fun v hv e => h u hu v hv (by simpa [kf] using e : v.1 = u.1).symm
    rw [this, List.append_nil, List.nil_append]
  · have : U.filter (kf f) = [] := List.filter_eq_nil_iff.2 fun u hU e => hu ⟨u, hU, by simpa [kf] using e⟩
    rw [this, List.append_nil, List.nil_append]
def Srt (L : List Ed) : Prop := L.Pairwise (fun x y => x.1 ≤ y.1)
theorem Srt.app {A B : List Ed} (h : Srt A) (k : Srt B) (hab : ∀ x ∈ A, ∀ y ∈ B, x.1 ≤ y.1) : Srt (A ++ B) := List.pairwise_append.2 ⟨h, k, hab⟩
theorem Srt.left {A B : List Ed} (h : Srt (A ++ B)) : Srt A := (List.pairwise_append.1 h).1
theorem Srt.right {A B : List Ed} (h : Srt (A ++ B)) : Srt B := (List.pairwise_append.1 h).2.1
theorem Srt.between {A B : List Ed} (h : Srt (A ++ B)) : ∀ x ∈ A, ∀ y ∈ B, x.1 ≤ y.1 := (List.pairwise_append.1 h).2.2
theorem Fl.mem {A B : List Ed} (h : Fl A B) {x : Ed} (hx : x ∈ A) : x ∈ B := by
  have : x ∈ A.filter (kf x.1) := List.mem_filter.2 ⟨hx, by simp [kf]⟩
  rw [h.2] at this
  exact (List.mem_filter.1 this).1
theorem srt_one {A B : List Ed} (ha : Srt A) (hb : Srt B) (h : Fl A B) : A = B := by
  induction A generalizing B with
  | nil => exact (List.eq_nil_of_length_eq_zero h.1.symm).symm
  | cons x A ih =>
    cases B with
    | nil => exact absurd h.1 (by simp)
    | cons y B =>
      have hxy : y.1 ≤ x.1 := by
        rcases List.mem_cons.1 (h.mem (List.mem_cons_self (a := x) (l := A))) with e | e
        · rw [e]; exact Int.le_refl _
        · exact (List.pairwise_cons.1 hb).1 x e
      have hyx : x.1 ≤ y.1 := by
        rcases List.mem_cons.1 (h.symm.mem (List.mem_cons_self (a := y) (l := B))) with e | e
        · rw [e]; exact Int.le_refl _
        · exact (List.pairwise_cons.1 ha).1 y e
      have e : x.1 = y.1 := by omega
      have hf := h.2 x.1
      have k1 : kf x.1 x = true := by simp [kf]
      have k2 : kf x.1 y = true := by simp [kf, e]
      rw [List.filter_cons_of_pos k1, List.filter_cons_of_pos k2] at hf
      obtain ⟨rfl, _⟩ := List.cons.inj hf
      rw [ih (List.pairwise_cons.1 ha).2 (List.pairwise_cons.1 hb).2 ⟨by simpa using h.1, fun f => ?_⟩]
      have := h.2 f
      by_cases hk : kf f x = true
      · rw [List.filter_cons_of_pos hk, List.filter_cons_of_pos hk] at this
        exact (List.cons.inj this).2
      · rw [List.filter_cons_of_neg hk, List.filter_cons_of_neg hk] at this
        exact this

/-! ### arrays by their lists -/
instance : Inhabited Ed := ⟨(0, 0, [])⟩
theorem get_mid {d : Array Ed} {A B : List Ed} {x : Ed} {i : Nat} (h : d.toList = A ++ x :: B) (hi : i = A.length) : d[i]! = x := by
  subst hi
  have hs : A.length < d.size := by rw [← Array.length_toList, h]; simp
  rw [getElem!_pos d A.length hs, ← Array.getElem_toList]
  simp [h]
theorem size_of {d : Array Ed} {L : List Ed} (h : d.toList = L) : d.size = L.length := by rw [← h, Array.length_toList]
theorem set_mid (P : List Ed) (x v : Ed) (T : List Ed) : (P ++ x :: T).set P.length v = P ++ v :: T := by
  induction P with
  | nil => rfl
  | cons a P ih => simp
theorem swp_mid {d : Array Ed} {P Q R : List Ed} {x y : Ed} {i j : Nat} (h : d.toList = P ++ x :: (Q ++ y :: R)) (hi : i = P.length) (hj : j = P.length + 1 + Q.length) : (swp d i j).toList = P ++ y :: (Q ++ x :: R) := by
  have h2 : d.toList = (P ++ x :: Q) ++ y :: R := by rw [h]; simp
  have e1 : d[i]! = x := get_mid h hi
  have e2 : d[j]! = y := get_mid h2 (by rw [hj]; simp; omega)
  unfold swp
  rw [e1, e2, Array.toList_setIfInBounds, Array.toList_setIfInBounds, h, hi, set_mid]
  have e3 : P ++ y :: (Q ++ y :: R) = (P ++ y :: Q) ++ y :: R := by simp
  have e4 : j = (P ++ y :: Q).length := by rw [hj]; simp; omega
  rw [e3, e4, set_mid]
  simp
theorem swp_mid' {d : Array Ed} {P Q R : List Ed} {x y : Ed} {i j : Nat} (h : d.toList = P ++ x :: (Q ++ y :: R)) (hi : i = P.length) (hj : j = P.length + 1 + Q.length) : (swp d j i).toList = P ++ y :: (Q ++ x :: R) := by
  have h2 : d.toList = (P ++ x :: Q) ++ y :: R := by rw [h]; simp
  have e1 : d[i]! = x := get_mid h hi
  have e2 : d[j]! = y := get_mid h2 (by rw [hj]; simp; omega)
  unfold swp
  rw [e1, e2, Array.toList_setIfInBounds, Array.toList_setIfInBounds, h2]
  have e4 : j = (P ++ x :: Q).length := by rw [hj]; simp; omega
  rw [e4, set_mid]
  have e3 : (P ++ x :: Q) ++ x :: R = P ++ x :: (Q ++ x :: R) := by simp
  rw [e3, hi, set_mid]
theorem split_at {L : List Ed} {k : Nat} (h : k < L.length) : ∃ x, L[k]? = some x ∧ L = L.take k ++ x :: L.drop (k + 1) := by
  refine ⟨L[k], List.getElem?_eq_getElem h, ?_⟩
  rw [← List.drop_eq_getElem_cons h, List.take_append_drop]

/-! ### the insertion sort -/
def ltE (x y : Ed) : Bool := decide (x.1 < y.1)
theorem ltE_swo : SWO ltE where
  irrefl x := by simp [ltE]
  trans x y z h1 h2 := by simp [ltE] at *; omega
  ntrans x y z h1 h2 := by simp [ltE] at *; omega
theorem split2 {L : List Ed} {j : Nat} (h : j + 1 < L.length) : ∃ A x y B, L = A ++ x :: y :: B ∧ A.length = j := by
  obtain ⟨x, _, e⟩ := split_at (show j < L.length by omega)
  obtain ⟨y, _, e2⟩ := split_at (show 0 < (L.drop (j + 1)).length by rw [List.length_drop]; omega)
  rw [List.take_zero, List.nil_append] at e2
  rw [e2] at e
  exact ⟨_, x, y, _, e, by rw [List.length_take]; omega⟩
theorem swp_fl {d : Array Ed} {j : Nat} (hj : j + 1 < d.size) (hl : ltE d[j + 1]! d[j]! = true) : Fl (swp d (j + 1) j).toList d.toList := by
  obtain ⟨A, x, y, B, e, hA⟩ := split2 (L := d.toList) (j := j) (by rw [Array.length_toList]; exact hj)
  have ex : d[j]! = x := get_mid e hA.symm
  have ey : d[j + 1]! = y := get_mid (A := A ++ [x]) (B := B) (by rw [e]; simp) (by simp; omega)
  rw [ex, ey] at hl
  have hlt : y.1 < x.1 := by simpa [ltE] using hl
  rw [swp_mid' (Q := []) (x := x) (y := y) (R := B) (i := j) (j := j + 1) (by simpa using e) hA.symm (by simp; omega), e]
  show Fl (A ++ ([y] ++ [x] ++ B)) (A ++ ([x] ++ [y] ++ B))
  refine Fl.left (Fl.right (Fl.swap fun u hu v hv => ?_))
  rw [List.mem_singleton.1 hu, List.mem_singleton.1 hv]
  omega
theorem insInner_fl (a : Nat) : ∀ (j : Nat) (d : Array Ed), j < d.size → Fl (insInner ltE a j d).toList d.toList
  | 0, d, _ => Fl.refl _
  | j + 1, d, hj => by
    unfold insInner
    split
    · rename_i h
      rw [Bool.and_eq_true] at h
      exact (insInner_fl a j (swp d (j + 1) j) (by rw [size_swp]; omega)).trans (swp_fl hj h.2)
    · exact Fl.refl _
theorem insOuter_fl (a b : Nat) : ∀ (n i : Nat) (d : Array Ed), b - i = n → b ≤ d.size → Fl (insOuter ltE a b i d).toList d.toList
  | 0, i, d, hn, hb => by
    unfold insOuter
    rw [if_neg (by omega)]
    exact Fl.refl _
  | n + 1, i, d, hn, hb => by
    unfold insOuter
    rw [if_pos (by omega)]
    have h1 := insInner_fl a i d (by omega)
    have hs : (insInner ltE a i d).size = d.size := by
      have := h1.1
      simpa using this
    exact (insOuter_fl a b n (i + 1) _ (by omega) (by rw [hs]; exact hb)).trans h1
theorem ins_fl (a b : Nat) (d : Array Ed) (hb : b ≤ d.size) : Fl (insertionSort ltE d a b).toList d.toList := insOuter_fl a b _ _ d rfl hb
theorem getD_list {d : Array Ed} {i : Nat} (h : i < d.size) : d.toList[i]? = some d[i]! := by
  rw [getElem!_pos d i h, Array.getElem?_toList, Array.getElem?_eq_getElem h]
/-- The insertion sort of a piece. -/
theorem ins_list {d : Array Ed} {P U R : List Ed} {a b : Nat} (h : d.toList = P ++ U ++ R) (ha : a = P.length) (hb : b = P.length + U.length) :
    ∃ M, (insertionSort ltE d a b).toList = P ++ M ++ R ∧ Srt M ∧ Fl M U := by
  have hsz := size_of h
  simp only [List.length_append] at hsz
  obtain ⟨⟨hs, ho, _⟩, hsort⟩ := insertionSort_holds ltE_swo d a b (by omega) (by omega)
  have hfl := ins_fl a b d (by omega)
  obtain ⟨d', hd'⟩ : ∃ d', insertionSort ltE d a b = d' := ⟨_, rfl⟩
  rw [hd'] at hs ho hsort hfl ⊢
  have hlen : d'.toList.length = P.length + U.length + R.length := by rw [Array.length_toList, hs, hsz]
  have e1 : d'.toList.take a = P := by
    apply List.ext_getElem?
    intro i
    rw [List.getElem?_take]
    by_cases hi : i < a
    · rw [if_pos hi, getD_list (by omega), ho i (.inl hi), ← getD_list (by omega), h, List.append_assoc, List.getElem?_append_left (by omega)]
    · rw [if_neg hi, List.getElem?_eq_none (by omega)]
  have e2 : d'.toList.drop b = R := by
    apply List.ext_getElem?
    intro i
    rw [List.getElem?_drop]
    by_cases hi : b + i < d.size
    · rw [getD_list (by omega), ho _ (.inr (by omega)), ← getD_list hi, h, List.getElem?_append_right (by simp; omega)]
      congr 1
      simp
      omega
    · rw [List.getElem?_eq_none (by rw [hlen]; omega), List.getElem?_eq_none (by omega)]
  have e3 : d'.toList = P ++ (d'.toList.take b).drop a ++ R := by
    conv => lhs; rw [← List.take_append_drop b d'.toList, ← List.take_append_drop a (d'.toList.take b)]
    rw [List.take_take, Nat.min_eq_left (by omega), e1, e2]
  refine ⟨(d'.toList.take b).drop a, e3, ?_, ?_⟩
  · refine List.pairwise_iff_getElem.2 fun i j hi hj hij => ?_
    have hj' : a + j < b := by rw [List.length_drop, List.length_take] at hj; omega
    have := hsort (a + i) (a + j) (by omega) (by omega) hj'
    have g : ∀ k (hk : k < ((d'.toList.take b).drop a).length), ((d'.toList.take b).drop a)[k] = d'[a + k]! := fun k hk => by
      have hk' : a + k < b := by rw [List.length_drop, List.length_take] at hk; omega
      rw [List.getElem_drop, List.getElem_take, getElem!_pos d' (a + k) (by omega), Array.getElem_toList]
    rw [g, g]
    simp only [ltE, decide_eq_false_iff_not] at this
    omega
  · rw [e3, h] at hfl
    exact hfl.cancel

/-! ### blocks -/
def BS (bs : Nat) (L : List Ed) : Prop := ∀ k, Srt ((L.drop (k * bs)).take bs)
theorem BS.app {bs : Nat} {A M : List Ed} (h : BS bs A) {t : Nat} (ht : A.length = t * bs) (hm : Srt M) (hl : M.length ≤ bs) : BS bs (A ++ M) := by
  intro k
  rcases Nat.lt_trichotomy k t with hk | hk | hk
  · have h1 : (k + 1) * bs ≤ t * bs := Nat.mul_le_mul_right _ hk
    rw [Nat.add_mul, Nat.one_mul] at h1
    rw [List.drop_append_of_le_length (by omega), List.take_append_of_le_length (by rw [List.length_drop]; omega)]
    exact h k
  · subst hk
    rw [← ht, List.drop_left, List.take_of_length_le hl]
    exact hm
  · have h1 : (t + 1) * bs ≤ k * bs := Nat.mul_le_mul_right _ hk
    rw [Nat.add_mul, Nat.one_mul] at h1
    rw [List.drop_eq_nil_iff.2 (by rw [List.length_append]; omega), List.take_nil]
    exact List.Pairwise.nil
theorem BS.drop {bs : Nat} {L : List Ed} (h : BS bs L) (t : Nat) : BS bs (L.drop (t * bs)) := by
  intro k
  rw [List.drop_drop, ← Nat.add_mul]
  exact h (t + k)
theorem BS.first {bs : Nat} {L : List Ed} (h : BS bs L) : Srt (L.take bs) := by
  have := h 0
  rwa [Nat.zero_mul, List.drop_zero] at this
theorem BS.all {bs : Nat} {L : List Ed} (h : BS bs L) (hl : L.length ≤ bs) : Srt L := by
  have := h.first
  rwa [List.take_of_length_le hl] at this
theorem BS.nil (bs : Nat) : BS bs [] := fun k => by simp [Srt]

/-! ### the merge -/
/-- What is taken out of the middle. -/
theorem srt_mid {A B C : List Ed} (h : Srt (A ++ B ++ C)) : Srt B := h.left.right
theorem srt_insert {V1 V2 : List Ed} {x : Ed} (h : Srt (V1 ++ V2)) (h1 : ∀ v ∈ V1, v.1 ≤ x.1) (h2 : ∀ v ∈ V2, x.1 ≤ v.1) : Srt (V1 ++ x :: V2) := by
  refine Srt.app h.left (List.pairwise_cons.2 ⟨h2, h.right⟩) fun u hu v hv => ?_
  rcases List.mem_cons.1 hv with rfl | hv
  · exact h1 u hu
  · exact h.between u hu v hv
theorem srt_get {L : List Ed} (h : Srt L) {i j : Nat} {x y : Ed} (hi : L[i]? = some x) (hj : L[j]? = some y) (hij : i ≤ j) : x.1 ≤ y.1 := by
  rcases Nat.lt_or_ge i j with hlt | hge
  · obtain ⟨h1, rfl⟩ := List.getElem?_eq_some_iff.1 hi
    obtain ⟨h2, rfl⟩ := List.getElem?_eq_some_iff.1 hj
    exact List.pairwise_iff_getElem.1 h i j h1 h2 hlt
  · obtain rfl : i = j := by omega
    rw [hi] at hj; cases hj; exact Int.le_refl _
theorem mem_take {L : List Ed} {k : Nat} {x : Ed} (h : x ∈ L.take k) : ∃ i, i < k ∧ L[i]? = some x := by
  obtain ⟨i, hi, rfl⟩ := List.mem_iff_getElem.1 h
  have h2 : i < k := by rw [List.length_take] at hi; omega
  exact ⟨i, h2, by rw [List.getElem_take]; exact List.getElem?_eq_getElem _⟩
theorem mem_drop {L : List Ed} {k : Nat} {x : Ed} (h : x ∈ L.drop k) : ∃ i, k ≤ i ∧ L[i]? = some x := by
  obtain ⟨i, hi, rfl⟩ := List.mem_iff_getElem.1 h
  exact ⟨k + i, by omega, by rw [List.getElem_drop]; exact List.getElem?_eq_getElem _⟩

/-- THE CUT of two sorted rows at s in the first and e in the second: what comes ahead is at most what comes behind, and what goes over the middle is strictly less. -/
theorem cut_ok {U V : List Ed} {s e : Nat} (hU : Srt U) (hV : Srt V) (hs : s ≤ U.length) (he : e ≤ V.length)
    (h1 : ∀ k x y, k + 1 = s → U[k]? = some x → V[e]? = some y → x.1 ≤ y.1) (h2 : ∀ k x y, k + 1 = e → V[k]? = some y → U[s]? = some x → y.1 < x.1) {M1 M2 : List Ed}
    (hM1 : Srt M1) (f1 : Fl M1 (U.take s ++ V.take e)) (hM2 : Srt M2) (f2 : Fl M2 (U.drop s ++ V.drop e)) : Srt (M1 ++ M2) ∧ Fl (M1 ++ M2) (U ++ V) := by
  have c1 : ∀ x ∈ U.take s, ∀ y ∈ V.drop e, x.1 ≤ y.1 := fun x hx y hy => by
    obtain ⟨i, hi, gi⟩ := mem_take hx
    obtain ⟨j, hj, gj⟩ := mem_drop hy
    obtain ⟨u, hu⟩ : ∃ u, U[s - 1]? = some u := ⟨_, List.getElem?_eq_getElem (by omega)⟩
    obtain ⟨v, hv⟩ : ∃ v, V[e]? = some v := ⟨_, List.getElem?_eq_getElem (by have := (List.getElem?_eq_some_iff.1 gj).1; omega)⟩
    have a1 := srt_get hU gi hu (by omega)
    have a2 := h1 (s - 1) u v (by omega) hu hv
    have a3 := srt_get hV hv gj hj
    omega
  have c2 : ∀ y ∈ V.take e, ∀ x ∈ U.drop s, y.1 < x.1 := fun y hy x hx => by
    obtain ⟨i, hi, gi⟩ := mem_take hy
    obtain ⟨j, hj, gj⟩ := mem_drop hx
    obtain ⟨u, hu⟩ : ∃ u, U[s]? = some u := ⟨_, List.getElem?_eq_getElem (by have := (List.getElem?_eq_some_iff.1 gj).1; omega)⟩
    obtain ⟨v, hv⟩ : ∃ v, V[e - 1]? = some v := ⟨_, List.getElem?_eq_getElem (by omega)⟩
    have a1 := srt_get hV gi hv (by omega)
    have a2 := h2 (e - 1) u v (by omega) hv hu
    have a3 := srt_get hU hu gj hj
    omega
  have c3 : ∀ x ∈ U.take s, ∀ y ∈ U.drop s, x.1 ≤ y.1 := by
    have := hU
    rw [← List.take_append_drop s U] at this
    exact this.between
  have c4 : ∀ x ∈ V.take e, ∀ y ∈ V.drop e, x.1 ≤ y.1 := by
    have := hV
    rw [← List.take_append_drop e V] at this
    exact this.between
  refine ⟨hM1.app hM2 fun x hx y hy => ?_, ?_⟩
  · rcases List.mem_append.1 (f1.mem hx) with hx | hx <;> rcases List.mem_append.1 (f2.mem hy) with hy | hy
    · exact c3 x hx y hy
    · exact c1 x hx y hy
    · exact Int.le_of_lt (c2 x hx y hy)
    · exact c4 x hx y hy
  · refine (f1.app f2).trans ?_
    have e1 : U ++ V = U.take s ++ (U.drop s ++ V.take e) ++ V.drop e := by
      conv => lhs; rw [← List.take_append_drop s U, ← List.take_append_drop e V]
      simp only [List.append_assoc]
    have e2 : U.take s ++ V.take e ++ (U.drop s ++ V.drop e) = U.take s ++ (V.take e ++ U.drop s) ++ V.drop e := by simp [List.append_assoc]
    rw [e1, e2]
    refine Fl.right (Fl.left (Fl.swap fun y hy x hx => ?_))
    have := c2 y hy x hx
    omega
end Go.Proofs.YtopeechbgblndaaDoor
