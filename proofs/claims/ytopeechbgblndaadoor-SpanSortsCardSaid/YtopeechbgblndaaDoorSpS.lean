/-
  CONTRACTS OF 'blazonref07.Apply', 'blazonref07.Same'.
-/
import Derived.Test.YtopeechbgblndaaDoorSpP
import Derived.BigQuiet
import Derived.Laws.Concat
namespace Go.Proofs.YtopeechbgblndaaDoor
set_option linter.unusedVariables false
set_option linter.unusedSimpArgs false
open Go.RowKit

theorem appl_len_bound {bs : List Int} {L : List Ed} (hn : bs.length ≤ 1000000) (hm : L.length ≤ 600) (hs : ∀ x ∈ L, x.2.2.length ≤ 1000) (k : Nat) (p : Int) : (appl bs p (L.drop k)).length ≤ 700000000 := by
  have h := appl_len_le 1000 bs (L.drop k) p (fun x hx => hs x (List.mem_of_mem_drop hx))
  have hl : (L.drop k).length ≤ 600 := by rw [List.length_drop]; omega
  have h1 : bs.length * ((L.drop k).length + 1) ≤ 1000000 * 601 := Nat.mul_le_mul hn (by omega)
  have h2 : 1000 * (L.drop k).length ≤ 1000 * 600 := Nat.mul_le_mul (Nat.le_refl _) hl
  omega
theorem WOk_at {n p : Int} {L : List Ed} (h : WOk n p L) {k : Nat} {x : Ed} (hk : L[k]? = some x) : WOk n x.1 (L.drop k) ∧ p ≤ x.1 ∧ x.1 ≤ x.2.1 ∧ x.2.1 ≤ n ∧ WOk n x.2.1 (L.drop (k + 1)) := by
  induction L generalizing p k with
  | nil => simp at hk
  | cons y r ih =>
    obtain ⟨h1, h2, h3, h4⟩ := h
    cases k with
    | zero => cases hk; exact ⟨⟨Int.le_refl _, h2, h3, h4⟩, h1, h2, h3, h4⟩
    | succ k =>
      obtain ⟨a, b, c, d, e⟩ := ih h4 (k := k) (by simpa using hk)
      exact ⟨a, by omega, c, d, e⟩

theorem rstep {bs Z R W s : List Int} {F T : Nat} (hW : W = seg bs 0 F ++ s ++ R) (hZ : Z = seg bs 0 T ++ R) (hFT : F ≤ T) (hTn : T ≤ bs.length) :
    (strOfNums Z).extract 0 F ++ strOfNums s ++ (strOfNums Z).extract T (strOfNums Z).size = strOfNums W := by
  have e1 : (strOfNums Z).extract 0 F = strOfNums (seg bs 0 F) := by
    have := str_seg Z 0 F
    rw [← this]
    congr 1
    have hl := seg_len (bs := bs) (p := 0) (q := T) (Int.le_refl _) (by omega) (by omega)
    rw [hZ, show ((0 : Nat) : Int) = 0 from rfl, seg_left _ (by omega)]
    unfold seg
    rw [show (0 : Int).toNat = 0 from rfl, List.drop_zero, List.drop_zero, List.take_take]
    congr 1
    omega
  have e2 : (strOfNums Z).extract T (strOfNums Z).size = strOfNums R := by
    have := str_seg Z T (strOfNums Z).size
    rw [← this]
    congr 1
    have hl := seg_len (bs := bs) (p := 0) (q := T) (Int.le_refl _) (by omega) (by omega)
    rw [strOfNums_size, hZ, List.length_append, seg_right _ (by omega) (by omega)]
    rw [show ((T : Int)) - ((seg bs 0 T).length : Int) = 0 by omega]
    exact seg_whole (by omega)
  rw [e1, e2, hW, str_app, str_app]

set_option maxRecDepth 10000 in
set_option maxHeartbeats 1600000 in
theorem rapply_any (P : Option Addr) (m d : Nat) (bs : List Int) (L : List Ed) (w : World) (hx : ShE w w.heap.size P m L) (hn : bs.length ≤ 1000000) (hm : m ≤ 600) (hw : WOk bs.length 0 L) (hs : ∀ x ∈ L, x.2.2.length ≤ 1000) :
    Calls Tryd.prog 15 #[.string (strOfNums bs), .slice P m d] w fun e w' => e = .returned (.string (strOfNums (appl bs 0 L))) ∧ Quiet w w' := by
  have hl : L.length = m := hx.1
  have HL := Lib.hid hl
  have HX := Lib.hid hx
  have HW := Lib.hid hw
  have HS := Lib.hid hs
  have HLB := Lib.hid (fun k => appl_len_bound hn (by omega) hs k 0)
  have hend : strOfNums bs = strOfNums (appl bs 0 (L.drop m)) := by
    rw [List.drop_eq_nil_iff.2 (by omega)]
    show _ = strOfNums (seg bs 0 bs.length)
    rw [seg_all]
  obtain ⟨S0, hS0⟩ : ∃ S0, strOfNums bs = S0 := ⟨_, rfl⟩
  rw [hS0] at hend ⊢
  have HE := Lib.hid hend
  clear hl hx hw hs hend hS0
  go_enter Tryd.func15, Tryd.ntmps15
  go_wp2
  go_loopw [0, 5] (fun s i wr => ∃ (k : Nat) (X : ByteArray), i = .int .i64 ((k : Int) - 1) ∧ k ≤ m ∧ s = .string X ∧ X = strOfNums (appl bs 0 (L.drop k)) ∧ Quiet w wr) (fun _ i _ => (intOf i + 1).toNat)
  case atStart => exact ⟨m, S0, rfl, Nat.le_refl _, rfl, HE.out, Quiet.refl _⟩
  case round =>
    obtain ⟨k, X, rfl, hk, rfl, hX, hq⟩ := hrel
    obtain ⟨q, rfl⟩ := hq
    have HX1 := Lib.hid hX
    rcases Nat.eq_zero_or_pos k with h0 | h0
    · subst h0
      have hng : ¬ ((0 : Nat) : Int) - 1 ≥ 0 := by omega
      clear hX
      go_wp2
      go_ret
      exact ⟨by rw [HX1.out]; rfl, ⟨_, rfl⟩⟩
    · obtain ⟨j, rfl⟩ : ∃ j, k = j + 1 := ⟨k - 1, by omega⟩
      obtain ⟨b, off, x, rfl, hbb, hx, c0, c1, c2⟩ := HX.out.at (show j < m by omega)
      obtain ⟨f, t, s⟩ := x
      dsimp only at c0 c1 c2
      obtain ⟨q1, q2, q3, q4, q5⟩ := WOk_at HW.out hx
      dsimp only at q1 q2 q3 q4 q5
      have HS3 := Lib.hid (appl_split q5 (Int.le_refl 0) (by omega) q4)
      have HAD := Lib.hid (appl_drop (bs := bs) hx 0)
      have hsl := HS.out _ (List.mem_of_getElem? hx)
      dsimp only at hsl
      have hsz : (strOfNums s).size = s.length := strOfNums_size _
      obtain ⟨Y, hY⟩ : ∃ Y, strOfNums s = Y := ⟨_, rfl⟩
      rw [hY] at c2 hsz
      have HY := Lib.hid hY
      have hXs : X.size = (appl bs 0 (L.drop (j + 1))).length := by rw [hX, strOfNums_size]
      have hXb := HLB.out (j + 1)
      have hXt : t ≤ (X.size : Int) := by
        have := seg_len (bs := bs) (p := 0) (q := t) (Int.le_refl _) (by omega) q4
        rw [hXs, HS3.out, List.length_append]
        omega
      obtain ⟨F, rfl⟩ : ∃ F : Nat, f = F := ⟨f.toNat, by omega⟩
      obtain ⟨T, rfl⟩ : ∃ T : Nat, t = T := ⟨t.toNat, by omega⟩
      have hFT : F ≤ T := by omega
      have hTX : T ≤ X.size := by omega
      have hTn : T ≤ bs.length := by omega
      have hXc : X.size ≤ 700000000 := by omega
      have hYc : Y.size ≤ 1000 := by omega
      have hj0 : ((j + 1 : Nat) : Int) - 1 = (j : Int) := by omega
      rw [hj0]
      have hjm : (j : Int) < (m : Int) := by omega
      have hj1 : (0 : Int) ≤ (j : Int) := by omega
      clear hX hY hXs hXb hXt hsz hx q1 q2 q3 q4 q5
      go_wp2
      go_quiet (fail)
      go_wp2
      go_roundw
      case rel =>
        refine ⟨j, _, rfl, by omega, rfl, ?_, Quiet.one _ _⟩
        rw [HX1.out, ← HY.out]
        exact rstep HAD.out HS3.out hFT (by omega)
      case measure => simp [intOf]

set_option maxRecDepth 10000 in
set_option maxHeartbeats 1600000 in
/-- The same edits: yes. -/
theorem sameE_yes (A B : Option Addr) (n c d : Nat) (L : List Ed) (w : World) (hx : ShE w w.heap.size A n L) (hy : ShE w w.heap.size B n L) (hn : n ≤ 1000000) :
    Calls Tryd.prog 19 #[.slice A n c, .slice B n d] w fun e w' => e = .returned (.bool true) ∧ Quiet w w' := by
  have HX := Lib.hid hx
  have HY := Lib.hid hy
  clear hx hy
  go_enter Tryd.func19, Tryd.ntmps19
  go_wp2
  go_loopw [5] (fun i wr => ∃ k : Nat, k ≤ n ∧ i = .int .i64 k ∧ Quiet w wr) (fun i _ => n - (intOf i).toNat)
  case atStart => exact ⟨0, Nat.zero_le _, rfl, Quiet.refl _⟩
  case round =>
    obtain ⟨k, hk, rfl, hq⟩ := hrel
    obtain ⟨q, rfl⟩ := hq
    by_cases hlt : k < n
    · obtain ⟨b, off, t, rfl, _, ht, c0, c1, c2⟩ := HX.out.at hlt
      obtain ⟨b', off', t', rfl, _, ht', d0, d1, d2⟩ := HY.out.at hlt
      rw [ht] at ht'
      cases ht'
      clear ht
      obtain ⟨x, y, z⟩ := t
      dsimp only at c0 c1 c2 d0 d1 d2
      obtain ⟨Z, hZ⟩ : ∃ Z, strOfNums z = Z := ⟨_, rfl⟩
      rw [hZ] at c2 d2
      clear hZ
      have r1 : (x != x) = false := by simp
      have r2 : (y != y) = false := by simp
      have r3 : (Z.toList == Z.toList) = true := by simp
      go_wp2
      go_quiet (fail)
      go_wp2
      go_roundw
      case rel => exact ⟨k + 1, by omega, by go_num, ⟨_, rfl⟩⟩
      case measure => simp [intOf]; omega
    · obtain rfl : k = n := by omega
      go_wp2
      go_ret
      exact ⟨rfl, ⟨_, rfl⟩⟩
end Go.Proofs.YtopeechbgblndaaDoor
