/-
  CONTRACTS OF 'span.Check', 'span.follows', 'span.growth', 'span.Place', 'blazonref07.Check', 'blazonref07.Great', 'blazonref07.Same'.
-/
import Derived.Test.YtopeechbgblndaaDoorSpE
import Derived.BigRegion
import Derived.Deep.RegionHeld3
import Derived.Deep.RegionWith
namespace Go.Proofs.YtopeechbgblndaaDoor
set_option linter.unusedVariables false
set_option linter.unusedSimpArgs false
open Go.RowKit

set_option maxRecDepth 10000 in
set_option maxHeartbeats 800000 in
theorem growth_any (f t : Int) (s : ByteArray) (w : World) (h0 : 0 ≤ f) (h1 : f ≤ t) (h2 : t ≤ 1000000) (h3 : s.size ≤ 1000000) :
    Calls Tryd.prog 25 #[.agg #[.int .i64 f, .int .i64 t, .string s]] w fun e w' => e = .returned (.int .i64 ((s.size : Int) - (t - f))) ∧ Below w.heap.size w w' := by
  have HB : Hid (Below w.heap.size w (w.alloc (.cells #[.int .i64 f, .int .i64 t, .string s] 38))) := Lib.hid ((Below.refl _ _).alloc (Nat.le_refl _) _)
  go_enter Tryd.func25, Tryd.ntmps25
  go_wp2
  go_ret
  exact ⟨rfl, HB.out⟩

/-- May an edit stand behind another one? -/
def folB (f1 t1 f2 : Int) : Bool := decide (t1 ≤ f2) && (f2 != f1)
set_option maxRecDepth 10000 in
set_option maxHeartbeats 800000 in
theorem follows_any (f1 t1 f2 t2 : Int) (s1 s2 : ByteArray) (w : World) :
    Calls Tryd.prog 23 #[.agg #[.int .i64 f1, .int .i64 t1, .string s1], .agg #[.int .i64 f2, .int .i64 t2, .string s2]] w fun e w' => e = .returned (.bool (folB f1 t1 f2)) ∧ Below w.heap.size w w' := by
  have HB : Hid (Below w.heap.size w ((w.alloc (.cells #[.int .i64 f1, .int .i64 t1, .string s1] 38)).alloc (.cells #[.int .i64 f2, .int .i64 t2, .string s2] 38))) := Lib.hid (((Below.refl _ _).alloc (Nat.le_refl _) _).alloc (by simp) _)
  unfold folB
  by_cases h : t1 ≤ f2
  · have h' : decide (t1 ≤ f2) = true := decide_eq_true h
    rw [h', Bool.true_and]
    cases hn : (f2 != f1) with
    | true =>
      go_enter Tryd.func23, Tryd.ntmps23
      go_wp2
      go_ret
      exact ⟨rfl, HB.out⟩
    | false =>
      go_enter Tryd.func23, Tryd.ntmps23
      go_wp2
      go_ret
      exact ⟨rfl, HB.out⟩
  · have h' : decide (t1 ≤ f2) = false := decide_eq_false h
    rw [h', Bool.false_and]
    go_enter Tryd.func23, Tryd.ntmps23
    go_wp2
    go_ret
    exact ⟨rfl, HB.out⟩

/-- What Check's tests say of an edit alone. -/
theorem okAt_cases {n : Int} {L : List Ed} {k : Nat} {x : Ed} (h : L[k]? = some x) :
    x.1 < 0 ∨ (¬ x.1 < 0 ∧ x.2.1 < x.1) ∨ (¬ x.1 < 0 ∧ ¬ x.2.1 < x.1 ∧ n < x.2.1) ∨ (¬ x.1 < 0 ∧ ¬ x.2.1 < x.1 ∧ ¬ n < x.2.1) := by omega
theorem not_okAt1 {n : Int} {L : List Ed} {k : Nat} {x : Ed} (h : L[k]? = some x) (hb : x.1 < 0 ∨ (¬ x.1 < 0 ∧ x.2.1 < x.1) ∨ (¬ x.1 < 0 ∧ ¬ x.2.1 < x.1 ∧ n < x.2.1)) : ¬ okAt n L k := fun ho => by
  have := (ho x h).1
  omega
theorem not_okAt2 {n : Int} {L : List Ed} {j : Nat} {x y : Ed} (h : L[j + 1]? = some x) (hj : L[j]? = some y) (hb : folB y.1 y.2.1 x.1 = false) : ¬ okAt n L (j + 1) := fun ho => by
  have := (ho x h).2 j y rfl hj
  unfold folB at hb
  rw [decide_eq_true this.1, Bool.true_and] at hb
  simp at hb
  exact this.2 hb
theorem okAt_zero {n : Int} {L : List Ed} {x : Ed} (h : L[0]? = some x) (hb : ¬ x.1 < 0 ∧ ¬ x.2.1 < x.1 ∧ ¬ n < x.2.1) : okAt n L 0 := fun y hy => by
  rw [h] at hy; cases hy
  exact ⟨by omega, fun j z hj => by omega⟩
theorem okAt_succ {n : Int} {L : List Ed} {j : Nat} {x y : Ed} (h : L[j + 1]? = some x) (hj : L[j]? = some y) (hb : ¬ x.1 < 0 ∧ ¬ x.2.1 < x.1 ∧ ¬ n < x.2.1) (hf : folB y.1 y.2.1 x.1 = true) : okAt n L (j + 1) := fun z hz => by
  rw [h] at hz; cases hz
  refine ⟨by omega, fun i u hi hu => ?_⟩
  obtain rfl : i = j := by omega
  rw [hj] at hu; cases hu
  unfold folB at hf
  simpa using hf
theorem prev_ed {L : List Ed} {k : Nat} (hk : k < L.length) : ∃ y, L[k]? = some y := ⟨_, List.getElem?_eq_getElem hk⟩

set_option maxRecDepth 10000 in
set_option maxHeartbeats 1600000 in
theorem check_any (A : Option Addr) (n m c : Nat) (L : List Ed) (w : World) (hx : ShE w w.heap.size A m L) (hm : m ≤ 1000000) (hn : n ≤ 1000000) :
    Calls Tryd.prog 13 #[.int .i64 n, .slice A m c] w fun e w' => e = .returned (.int .i64 (chk n L)) ∧ Below w.heap.size w w' := by
  have hl : L.length = m := hx.1
  have HL := Lib.hid hl
  have HX := Lib.hid hx
  have hz := zeroEd
  clear hx
  by_cases h5 : 512 < m
  · have h5' : (512 : Int) < (m : Int) := by omega
    have HE := Lib.hid (chk_long (n := n) (L := L) (by omega))
    clear hl
    go_enter Tryd.func13, Tryd.ntmps13
    go_wp2
    go_ret
    exact ⟨ret_int HE.out.symm, Below.refl _ _⟩
  · have h5' : ¬ (512 : Int) < (m : Int) := by omega
    have HLE := Lib.hid (show ¬ 512 < L.length by omega)
    clear hl
    go_enter Tryd.func13, Tryd.ntmps13
    go_wp2
    go_loopw [12] (fun i wr => ∃ k : Nat, i = .int .i64 (k : Int) ∧ k ≤ m ∧ (∀ j, j < k → okAt n L j) ∧ Below w.heap.size w wr) (fun i _ => m - (intOf i).toNat)
    case atStart => exact ⟨0, rfl, Nat.zero_le _, (fun j hj => absurd hj (by omega)), Below.refl _ _⟩
    case round =>
      obtain ⟨k, rfl, hk, hok, hb⟩ := hrel
      have HB := Lib.hid hb
      have HK := Lib.hid hok
      have hge := hb.size
      clear hok hb
      by_cases hlt : k < m
      · obtain ⟨b, off, x, rfl, hbb, hx, c0, c1, c2⟩ := (HX.out.up HB.out (Nat.le_refl _)).at hlt
        have HXX := Lib.hid hx
        have HBA := Lib.hid (HB.out.alloc hge (.cells #[.int .i64 x.1, .int .i64 x.2.1, .string (strOfNums x.2.2)] 38))
        have hkl := Lib.hid (show k < L.length by rw [HL.out]; exact hlt)
        rcases okAt_cases (n := n) hx with h | h | h | h
        · have HE := Lib.hid (chk_bad HLE.out hkl.out (not_okAt1 (n := n) HXX.out (.inl h)))
          clear hx
          go_wp2
          go_ret
          exact ⟨ret_int HE.out.symm, HBA.out⟩
        · have HE := Lib.hid (chk_bad HLE.out hkl.out (not_okAt1 (n := n) HXX.out (.inr (.inl h))))
          obtain ⟨h1, h2⟩ := h
          clear hx
          go_wp2
          go_ret
          exact ⟨ret_int HE.out.symm, HBA.out⟩
        · have HE := Lib.hid (chk_bad HLE.out hkl.out (not_okAt1 (n := n) HXX.out (.inr (.inr h))))
          obtain ⟨h1, h2, h3⟩ := h
          clear hx
          go_wp2
          go_ret
          exact ⟨ret_int HE.out.symm, HBA.out⟩
        · obtain ⟨h1, h2, h3⟩ := h
          clear hx
          rcases Nat.eq_zero_or_pos k with hk0 | hk0
          · subst hk0
            have HE := Lib.hid (okAt_zero (n := n) HXX.out ⟨h1, h2, h3⟩)
            have hk0' : ¬ (0 : Int) < 0 := by omega
            rw [Nat.zero_mul, Nat.add_zero] at c0 c1 c2
            go_wp2
            go_quiet (fail)
            go_wp2
            go_roundw
            case rel => exact ⟨1, by go_num, by omega, (fun j hj => by obtain rfl : j = 0 := by omega
                                                                       exact HE.out), HBA.out.trans ((Quiet.one _ _).below _)⟩
            case measure => simp [intOf]; omega
          · obtain ⟨j, rfl⟩ : ∃ j, k = j + 1 := ⟨k - 1, by omega⟩
            obtain ⟨b', off', y, e, _, hy, d0, d1, d2⟩ := (HX.out.up HB.out (Nat.le_refl _)).at (show j < m by omega)
            cases e
            have HY := Lib.hid hy
            clear hy
            have hk1 : (0 : Int) < ((j + 1 : Nat) : Int) := by omega
            have hk2 : (0 : Int) < (j : Int) + 1 := by omega
            have hk3 : (j : Int) < (m : Int) := by omega
            have hk6 : j < m := by omega
            have hk7 : (0 : Int) ≤ (j : Int) := by omega
            have hk8 : IntKind.i64.wrap ((j : Int) + 1 - 1) = (j : Int) := (IntWalk.i64_in _ (by omega)).trans (by omega)
            have hk9 : IntKind.i64.wrap (j : Int) = (j : Int) := IntWalk.i64_in _ (by omega)
            have hk4 : ((j + 1 : Nat) : Int) - 1 = (j : Int) := by omega
            have hk5 : (j : Int) + 1 - 1 = (j : Int) := by omega
            have hp : ∀ i, (wr.alloc (.cells #[.int .i64 x.1, .int .i64 x.2.1, .string (strOfNums x.2.2)] 38)).cell? ⟨wr.heap.size, i, none⟩ = #[.int .i64 x.1, .int .i64 x.2.1, .string (strOfNums x.2.2)][i]? := fun i => World.cell?_alloc_at _ _ _ _ rfl
            have p0 := hp 0
            have p1 := hp 1
            have p2 := hp 2
            have q0 := (World.cell?_alloc_past (.cells #[.int .i64 x.1, .int .i64 x.2.1, .string (strOfNums x.2.2)] 38) b (off + j * 3) (show b < wr.heap.size by omega)).trans d0
            have q1 := (World.cell?_alloc_past (.cells #[.int .i64 x.1, .int .i64 x.2.1, .string (strOfNums x.2.2)] 38) b (off + j * 3 + 1) (show b < wr.heap.size by omega)).trans d1
            have q2 := (World.cell?_alloc_past (.cells #[.int .i64 x.1, .int .i64 x.2.1, .string (strOfNums x.2.2)] 38) b (off + j * 3 + 2) (show b < wr.heap.size by omega)).trans d2
            have hsz : (wr.alloc (.cells #[.int .i64 x.1, .int .i64 x.2.1, .string (strOfNums x.2.2)] 38)).heap.size = wr.heap.size + 1 := by simp
            clear hp d0 d1 d2
            have HFO : Hid (∀ W, W.heap.size = wr.heap.size + 1 → W.cell? ⟨wr.heap.size, 0, none⟩ = some (.int .i64 x.1) → W.cell? ⟨wr.heap.size, 1, none⟩ = some (.int .i64 x.2.1) → W.cell? ⟨wr.heap.size, 2, none⟩ = some (.string (strOfNums x.2.2)) →
                W.cell? ⟨b, off + j * 3, none⟩ = some (.int .i64 y.1) → W.cell? ⟨b, off + j * 3 + 1, none⟩ = some (.int .i64 y.2.1) → W.cell? ⟨b, off + j * 3 + 2, none⟩ = some (.string (strOfNums y.2.2)) → Hid (Below w.heap.size w W) →
                Calls Tryd.prog 23 #[.agg #[.int .i64 y.1, .int .i64 y.2.1, .string (strOfNums y.2.2)], .agg #[.int .i64 x.1, .int .i64 x.2.1, .string (strOfNums x.2.2)]] W fun e W' => e = .returned (.bool (folB y.1 y.2.1 x.1)) ∧
                  W'.cell? ⟨wr.heap.size, 0, none⟩ = some (.int .i64 x.1) ∧ W'.cell? ⟨wr.heap.size, 1, none⟩ = some (.int .i64 x.2.1) ∧ W'.cell? ⟨wr.heap.size, 2, none⟩ = some (.string (strOfNums x.2.2)) ∧
                  W'.cell? ⟨b, off + j * 3, none⟩ = some (.int .i64 y.1) ∧ W'.cell? ⟨b, off + j * 3 + 1, none⟩ = some (.int .i64 y.2.1) ∧ W'.cell? ⟨b, off + j * 3 + 2, none⟩ = some (.string (strOfNums y.2.2)) ∧ Hid (Below w.heap.size w W')) :=
              Lib.hid fun W hs r0 r1 r2 r3 r4 r5 hB => (follows_any y.1 y.2.1 x.1 x.2.1 (strOfNums y.2.2) (strOfNums x.2.2) W).mono fun e W' ⟨he, hb'⟩ =>
                ⟨he, (hb'.cell (p := ⟨wr.heap.size, _, none⟩) (show wr.heap.size < W.heap.size by omega)).trans r0, (hb'.cell (p := ⟨wr.heap.size, _, none⟩) (show wr.heap.size < W.heap.size by omega)).trans r1, (hb'.cell (p := ⟨wr.heap.size, _, none⟩) (show wr.heap.size < W.heap.size by omega)).trans r2,
                  (hb'.cell (p := ⟨b, _, none⟩) (show b < W.heap.size by omega)).trans r3, (hb'.cell (p := ⟨b, _, none⟩) (show b < W.heap.size by omega)).trans r4, (hb'.cell (p := ⟨b, _, none⟩) (show b < W.heap.size by omega)).trans r5, Lib.hid (hB.out.trans (hb'.mono (hB.out.size)))⟩
            obtain ⟨fb, hfb⟩ : ∃ fb, folB y.1 y.2.1 x.1 = fb := ⟨_, rfl⟩
            have HFB := Lib.hid hfb
            rw [hfb] at HFO
            clear hfb
            cases fb with
            | true =>
              have HE := Lib.hid (okAt_succ (n := n) HXX.out HY.out ⟨h1, h2, h3⟩ HFB.out)
              go_wp2
              obtain ⟨W, hW⟩ : ∃ W, wr.alloc (.cells #[.int .i64 x.1, .int .i64 x.2.1, .string (strOfNums x.2.2)] 38) = W := ⟨_, rfl⟩
              rw [hW] at p0 p1 p2 q0 q1 q2 HBA hsz ⊢
              have HF := Lib.hid (HFO.out W.drew hsz p0 p1 p2 q0 q1 q2 (Lib.hid (HBA.out.trans (show Below w.heap.size W W.drew from ⟨rfl, rfl, rfl, Nat.le_refl _, fun _ _ => rfl⟩))))
              clear hW HFO hsz
              go_region_held3 (fun w' => w'.cell? ⟨wr.heap.size, 0, none⟩ = some (.int .i64 x.1) ∧ w'.cell? ⟨wr.heap.size, 1, none⟩ = some (.int .i64 x.2.1) ∧ w'.cell? ⟨wr.heap.size, 2, none⟩ = some (.string (strOfNums x.2.2)) ∧ w'.cell? ⟨b, off + j * 3, none⟩ = some (.int .i64 y.1) ∧ w'.cell? ⟨b, off + j * 3 + 1, none⟩ = some (.int .i64 y.2.1) ∧ w'.cell? ⟨b, off + j * 3 + 2, none⟩ = some (.string (strOfNums y.2.2))) (((try dsimp only); (repeat' apply And.intro) <;> first | assumption | go_keep)) (first
                | (go_at_call 23; refine (HF.out).mono ?_; rintro e w2 ⟨rfl, e0, e1, e2, e3, e4, e5, H2⟩)
                | fail)
              go_wp2
              go_roundw
              case rel => exact ⟨j + 1 + 1, by go_num, by omega, (fun i hi => by
                rcases Nat.lt_or_ge i (j + 1) with h | h
                · exact HK.out i h
                · obtain rfl : i = j + 1 := by omega
                  exact HE.out), H2.out⟩
              case measure => simp [intOf]; omega
            | false =>
              have HE := Lib.hid (chk_bad HLE.out hkl.out (not_okAt2 (n := n) HXX.out HY.out HFB.out))
              go_wp2
              obtain ⟨W, hW⟩ : ∃ W, wr.alloc (.cells #[.int .i64 x.1, .int .i64 x.2.1, .string (strOfNums x.2.2)] 38) = W := ⟨_, rfl⟩
              rw [hW] at p0 p1 p2 q0 q1 q2 HBA hsz ⊢
              have HF := Lib.hid (HFO.out W.drew hsz p0 p1 p2 q0 q1 q2 (Lib.hid (HBA.out.trans (show Below w.heap.size W W.drew from ⟨rfl, rfl, rfl, Nat.le_refl _, fun _ _ => rfl⟩))))
              clear hW HFO hsz
              go_region_held3 (fun w' => w'.cell? ⟨wr.heap.size, 0, none⟩ = some (.int .i64 x.1) ∧ w'.cell? ⟨wr.heap.size, 1, none⟩ = some (.int .i64 x.2.1) ∧ w'.cell? ⟨wr.heap.size, 2, none⟩ = some (.string (strOfNums x.2.2)) ∧ w'.cell? ⟨b, off + j * 3, none⟩ = some (.int .i64 y.1) ∧ w'.cell? ⟨b, off + j * 3 + 1, none⟩ = some (.int .i64 y.2.1) ∧ w'.cell? ⟨b, off + j * 3 + 2, none⟩ = some (.string (strOfNums y.2.2))) (((try dsimp only); (repeat' apply And.intro) <;> first | assumption | go_keep)) (first
                | (go_at_call 23; refine (HF.out).mono ?_; rintro e w2 ⟨rfl, e0, e1, e2, e3, e4, e5, H2⟩)
                | fail)
              go_wp2
              go_ret
              exact ⟨ret_int HE.out.symm, H2.out⟩
      · obtain rfl : k = m := by omega
        have HE := Lib.hid (chk_ok HLE.out (show okAll n L from fun j hj => HK.out j (by rw [HL.out] at hj; exact hj)))
        go_wp2
        go_ret
        exact ⟨ret_int HE.out.symm, HB.out⟩
end Go.Proofs.YtopeechbgblndaaDoor
