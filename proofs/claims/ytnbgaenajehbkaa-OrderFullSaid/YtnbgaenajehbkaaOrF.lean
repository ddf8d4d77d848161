/-
  CONTRACT OF follow: what follows is found element by element.
-/
import Derived.Test.YtnbgaenajehbkaaOrD
namespace Go.Proofs.Ytnbgaenajehbkaa
set_option linter.unusedVariables false
set_option linter.unusedSimpArgs false
open Go.RowKit Go.Maps

section
variable {w w1 : World} {X : Nat → Prop} {g : Nat} {o : Od} {ns : List ByteArray} {f a : Nat → Nat} {n k i : Nat}
theorem ofol_b (T : OrTo w X g ⟨ns, opart n k i f, a⟩ w1) (hn : n ≤ 64) (hi : i < n) (hk : k < n) : w1.cell? ⟨g, 2 + i, none⟩ = some (.int .u64 (f i : Int)) ∧ w1.cell? ⟨g, 2 + k, none⟩ = some (.int .u64 (f k : Int)) ∧ w1.frozen? ⟨g, 2 + i, none⟩ = false ∧
    (bits .and .u64 ((f i : Int) / 2 ^ k) 1 == 1) = (f i).testBit k ∧ ((f i).testBit k = true → OrTo w X g ⟨ns, opart n k (i + 1) f, a⟩ (w1.setCell ⟨g, 2 + i, none⟩ (.int .u64 (bits .or .u64 (f i : Int) (f k : Int)))).drew) ∧
    ((f i).testBit k = false → OrTo w X g ⟨ns, opart n k (i + 1) f, a⟩ w1) := by
  have e1 : opart n k i f i = f i := opart_at n k i f
  have e2 : opart n k i f k = f k := opart_self n k i f
  have b1 := T.1.wf.be i
  have b2 := T.1.wf.be k
  have c1 := T.1.cb (i := i) (by omega)
  have c2 := T.1.cb (i := k) (by omega)
  dsimp only at b1 b2 c1 c2
  rw [e1] at b1 c1
  rw [e2] at b2 c2
  refine ⟨c1, c2, T.1.nfA _, otest b1 (by omega), fun h => ?_, fun h => ?_⟩
  · have := (T.trans (T.1.setB (i := i) (by omega) (Nat.or_lt_two_pow b1 b2) (or_u64 b1 b2))).drewN 1
    dsimp only at this
    rw [opart_yes hi h] at this
    exact this
  · rw [← opart_no h]
    exact T
theorem ofol_a {b : Nat → Nat} (T : OrTo w X g ⟨ns, b, opart n k i f⟩ w1) (hn : n ≤ 64) (hi : i < n) (hk : k < n) : w1.cell? ⟨g, 66 + i, none⟩ = some (.int .u64 (f i : Int)) ∧ w1.cell? ⟨g, 66 + k, none⟩ = some (.int .u64 (f k : Int)) ∧ w1.frozen? ⟨g, 66 + i, none⟩ = false ∧
    (bits .and .u64 ((f i : Int) / 2 ^ k) 1 == 1) = (f i).testBit k ∧ ((f i).testBit k = true → OrTo w X g ⟨ns, b, opart n k (i + 1) f⟩ (w1.setCell ⟨g, 66 + i, none⟩ (.int .u64 (bits .or .u64 (f i : Int) (f k : Int)))).drew) ∧
    ((f i).testBit k = false → OrTo w X g ⟨ns, b, opart n k (i + 1) f⟩ w1) := by
  have e1 : opart n k i f i = f i := opart_at n k i f
  have e2 : opart n k i f k = f k := opart_self n k i f
  have b1 := T.1.wf.ab i
  have b2 := T.1.wf.ab k
  have c1 := T.1.ca (i := i) (by omega)
  have c2 := T.1.ca (i := k) (by omega)
  dsimp only at b1 b2 c1 c2
  rw [e1] at b1 c1
  rw [e2] at b2 c2
  refine ⟨c1, c2, T.1.nfA _, otest b1 (by omega), fun h => ?_, fun h => ?_⟩
  · have := (T.trans (T.1.setA (i := i) (by omega) (Nat.or_lt_two_pow b1 b2) (or_u64 b1 b2))).drewN 1
    dsimp only at this
    rw [opart_yes hi h] at this
    exact this
  · rw [← opart_no h]
    exact T

set_option maxRecDepth 100000 in
set_option maxHeartbeats 3200000 in
theorem ofollow_any (h : OrdAt w X g o) : Calls Try.prog 19 #[.pointer (some ⟨g, 0, none⟩)] w fun e w' => e = .returned (.tuple #[]) ∧ OrTo w X g o.fol w' := by
  have hl := h.wf.len
  have HL := Lib.hid (fun (w1 : World) (b a : Nat → Nat) (T : OrTo w X g ⟨o.ns, b, a⟩ w1) => olen_any T.1)
  have hL0 := Lib.hid (olen_any h)
  have H0 : Hid (OrTo w X g ⟨o.ns, orun o.ns.length o.be 0, orun o.ns.length o.ab 0⟩ w) := Lib.hid (OrTo.refl h)
  clear h
  go_enter Try.func19, Try.ntmps19
  go_wp2_with (first
    | (go_at_call 10; with_reducible refine hL0.out.mono ?_; rintro e w2 ⟨rfl, rfl⟩)
    | go_in)
  go_loopw [6] (fun i wr => ∃ k : Nat, i = .int .i64 (k : Int) ∧ k ≤ o.ns.length ∧ Hid (OrTo w X g ⟨o.ns, orun o.ns.length o.be k, orun o.ns.length o.ab k⟩ wr)) (fun i _ => o.ns.length - (intOf i).toNat)
  case atStart => exact ⟨0, rfl, Nat.zero_le _, H0⟩
  case round =>
    obtain ⟨k, rfl, hk, T0⟩ := hrel
    obtain ⟨wa, hwa⟩ : ∃ wa, wa = wr := ⟨_, rfl⟩
    subst hwa
    by_cases hlt : k < o.ns.length
    · go_wp2_with (first
        | (go_at_call 10; with_reducible refine (HL.out _ _ _ T0.out).mono ?_; rintro e w2 ⟨rfl, rfl⟩)
        | go_in)
      have HS := Lib.hid (show orun o.ns.length o.be (k + 1) = opart o.ns.length k o.ns.length (orun o.ns.length o.be k) by rw [opart_full]; rfl)
      have HT := Lib.hid (show orun o.ns.length o.ab (k + 1) = opart o.ns.length k o.ns.length (orun o.ns.length o.ab k) by rw [opart_full]; rfl)
      have T1 : Hid (OrTo w X g ⟨o.ns, opart o.ns.length k 0 (orun o.ns.length o.be k), opart o.ns.length k 0 (orun o.ns.length o.ab k)⟩ wa) := by rw [opart_zero, opart_zero]; exact T0
      obtain ⟨fb, hfb⟩ : ∃ f, orun o.ns.length o.be k = f := ⟨_, rfl⟩
      obtain ⟨fa, hfa⟩ : ∃ f, orun o.ns.length o.ab k = f := ⟨_, rfl⟩
      rw [hfb, hfa] at T1
      rw [hfb] at HS
      rw [hfa] at HT
      clear hfb hfa T0
      go_loopw [11] (fun i wr => ∃ j : Nat, i = .int .i64 (j : Int) ∧ j ≤ o.ns.length ∧ Hid (OrTo w X g ⟨o.ns, opart o.ns.length k j fb, opart o.ns.length k j fa⟩ wr)) (fun i _ => o.ns.length - (intOf i).toNat)
      case atStart => exact ⟨0, rfl, Nat.zero_le _, T1⟩
      case round =>
        obtain ⟨j, rfl, hj, T2⟩ := hrel
        obtain ⟨wb, hwb⟩ : ∃ wb, wb = wr := ⟨_, rfl⟩
        subst hwb
        by_cases hlt2 : j < o.ns.length
        · obtain ⟨c1, c2, nf, ht, hy, hn⟩ := ofol_b T2.out hl hlt2 hlt
          cases hb : (fb j).testBit k with
          | true =>
            rw [hb] at ht
            have T3 := Lib.hid (hy hb)
            have HB := Lib.hid hb
            clear hy hn hb
            go_wp2
            go_region
            obtain ⟨wc, hwc⟩ : ∃ wc, (wb.setCell ⟨g, 2 + j, none⟩ (.int .u64 (bits .or .u64 (fb j : Int) (fb k : Int)))).drew = wc := ⟨_, rfl⟩
            rw [hwc] at T3
            rw [hwc]
            clear hwc c1 c2 nf
            obtain ⟨c1', c2', nf', ht', hy', hn'⟩ := ofol_a T3.out hl hlt2 hlt
            cases ha : (fa j).testBit k with
            | true =>
              rw [ha] at ht'
              have T4 := Lib.hid (hy' ha)
              have HA := Lib.hid ha
              clear hy' hn' ha
              go_wp2
              go_region
              go_wp2
              go_roundw
              case rel => exact ⟨j + 1, by go_num, hlt2, T4⟩
              case measure => simp [intOf]; omega
            | false =>
              rw [ha] at ht'
              have T4 := Lib.hid (hn' ha)
              have HA := Lib.hid ha
              clear hy' hn' ha
              go_wp2
              go_roundw
              case rel => exact ⟨j + 1, by go_num, hlt2, T4⟩
              case measure => simp [intOf]; omega
          | false =>
            rw [hb] at ht
            have T3 := Lib.hid (hn hb)
            have HB := Lib.hid hb
            clear hy hn hb
            obtain ⟨c1', c2', nf', ht', hy', hn'⟩ := ofol_a T3.out hl hlt2 hlt
            cases ha : (fa j).testBit k with
            | true =>
              rw [ha] at ht'
              have T4 := Lib.hid (hy' ha)
              have HA := Lib.hid ha
              clear hy' hn' ha
              go_wp2
              go_region
              go_wp2
              go_roundw
              case rel => exact ⟨j + 1, by go_num, hlt2, T4⟩
              case measure => simp [intOf]; omega
            | false =>
              rw [ha] at ht'
              have T4 := Lib.hid (hn' ha)
              have HA := Lib.hid ha
              clear hy' hn' ha
              go_wp2
              go_roundw
              case rel => exact ⟨j + 1, by go_num, hlt2, T4⟩
              case measure => simp [intOf]; omega
        · obtain rfl : j = o.ns.length := by omega
          go_wp2
          go_roundw
          case rel => exact ⟨k + 1, by go_num, hlt, by rw [HS.out, HT.out]; exact T2⟩
          case measure => simp [intOf]; omega
    · obtain rfl : k = o.ns.length := by omega
      go_wp2
      first | go_ret | go_end0
      exact ⟨rfl, T0.out⟩
end
end Go.Proofs.Ytnbgaenajehbkaa
