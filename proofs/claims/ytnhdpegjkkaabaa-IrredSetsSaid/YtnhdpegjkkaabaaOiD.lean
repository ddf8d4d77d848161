/-
  CONTRACT OF the document's Down.
-/
import Derived.Test.YtnhdpegjkkaabaaOiC
namespace Go.Proofs.Ytnhdpegjkkaabaa
set_option linter.unusedVariables false
set_option linter.unusedSimpArgs false
open Go.RowKit

def downK (F : Nat → Nat → Bool) (n s i k : Nat) : Bool := (List.range k).any fun c => s.testBit c && F (ir F n i) (ir F n c)
theorem downK_succ (F : Nat → Nat → Bool) (n s i k : Nat) : downK F n s i (k + 1) = (downK F n s i k || (s.testBit k && F (ir F n i) (ir F n k))) := by
  unfold downK
  rw [List.range_succ, List.any_append]
  simp
set_option maxRecDepth 100000 in
set_option maxHeartbeats 800000 in
theorem rdown_any {w : World} {o : Od} {v m js ms : Value} (h : LatAt w o v m js ms) (hL : Lat o.ns.length (rmost o) (jn (rmost o) o.ns.length) (mn (rmost o) o.ns.length)) (h0 : 0 < o.ns.length) {s : Nat} (hs : s < 2 ^ 64) :
    Calls Try.prog 22 #[.agg #[v, m, js, ms], .int .u64 (s : Int)] w fun e w' => e = .returned (.int .u64 (downS (rmost o) o.ns.length s : Int)) ∧ Below w.heap.size w w' := by
  have hl := h.ref.wf.len
  obtain ⟨⟨J, cJ, rfl, _⟩, ⟨K, cK, rfl, _⟩⟩ := And.intro h.jt h.mt
  obtain ⟨⟨A, cA, rfl, _⟩, ⟨M, cM, rfl, _⟩⟩ := And.intro h.ref.nm h.ref.mt
  have hBX : Blk (w.alloc (.cells #[.slice A o.ns.length cA, .slice M o.ns.length cM, .slice J o.ns.length cJ, .slice K o.ns.length cK] 33)) w.heap.size 33 [.slice A o.ns.length cA, .slice M o.ns.length cM, .slice J o.ns.length cJ, .slice K o.ns.length cK] := Blk.new _ _ _
  have hb1 : Below w.heap.size w (w.alloc (.cells #[.slice A o.ns.length cA, .slice M o.ns.length cM, .slice J o.ns.length cJ, .slice K o.ns.length cK] 33)) := (Below.refl _ _).alloc (Nat.le_refl _) _
  have HMT := Lib.hid (fun (wx : World) (bx : Below w.heap.size w wx) (x y : Nat) (hx : x < o.ns.length) (hy : y < o.ns.length) => (by
    obtain ⟨M', c', e, hM⟩ := (h.ref.stay bx).mt
    cases e
    exact hM.at hx hy : ∃ mb mo pb po c, M = some ⟨mb, mo, none⟩ ∧ wx.cell? ⟨mb, mo + x, none⟩ = some (.slice (some ⟨pb, po, none⟩) o.ns.length c) ∧ wx.cell? ⟨pb, po + y, none⟩ = some (.bool (rmost o x y))))
  have HLS := Lib.hid (rlist_any (h.stay hb1) hL h0)
  obtain ⟨F, hF⟩ : ∃ F : Nat → Nat → Bool, rmost o = F := ⟨_, rfl⟩
  rw [hF] at HLS ⊢
  simp only [hF] at HMT
  have HBX := Lib.hid hBX
  have HB1 := Lib.hid hb1
  obtain ⟨n, hn⟩ : ∃ n, o.ns.length = n := ⟨_, rfl⟩
  rw [hn] at hl h0 HBX HB1 HLS ⊢
  simp only [hn] at HMT
  clear hF hBX hb1 h hL hn
  have HLE := Lib.hid (show (irr F n).length ≤ n from irr_len)
  have HIR := Lib.hid (fun (j : Nat) (hj : j < (irr F n).length) => (ir_lt hj : ir F n j < n))
  have HRES := Lib.hid (show downS F n s = bset (fun i => downK F n s i (irr F n).length) (irr F n).length from rfl)
  have HHAS := Lib.hid (fun (wx : World) (i : Nat) (hi : i < 64) => rhas_any wx s i hs hi)
  go_enter Try.func22, Try.ntmps22
  go_wp2_with (first
    | (go_at_call 12; (with_reducible refine HLS.out.mono ?_); rintro e w2 ⟨u2, rfl, ho2, b2⟩; obtain ⟨A2, c2, rfl⟩ := ho2.form; have HO2 := Lib.hid ho2; have HB2 := Lib.hid b2; clear ho2 b2)
    | go_in)
  obtain ⟨w1, hw1⟩ : ∃ w1, w.alloc (.cells #[.slice A n cA, .slice M n cM, .slice J n cJ, .slice K n cK] 33) = w1 := ⟨_, rfl⟩
  rw [hw1] at HBX HB1 HLS HO2 HB2
  clear hw1
  obtain ⟨k, hk⟩ : ∃ k, (irr F n).length = k := ⟨_, rfl⟩
  rw [hk] at HO2 HLE HRES ⊢
  simp only [hk] at HIR
  have hle := HLE.out
  go_loopw [6, 7] (fun t i wr => ∃ j : Nat, t = .int .u64 (bset (fun i => downK F n s i k) j : Int) ∧ i = .int .i64 (j : Int) ∧ j ≤ k ∧ Hid (Quiet w2 wr)) (fun _ i _ => k - (intOf i).toNat)
  case atStart => exact ⟨0, rfl, rfl, Nat.zero_le _, Lib.hid (Quiet.refl _)⟩
  case round =>
    obtain ⟨j, rfl, rfl, hj, HQ⟩ := hrel
    obtain ⟨wa, hwa⟩ : ∃ wa, wa = wr := ⟨_, rfl⟩
    subst hwa
    by_cases hlt : j < k
    · have HAD := Lib.hid (fun h : downK F n s j k = true => add_bit (p := fun i => downK F n s i k) (show j < 64 by omega) h)
      have HNO := Lib.hid (fun h : downK F n s j k = false => no_bit (p := fun i => downK F n s i k) (j := j) h)
      obtain ⟨s0, hs0⟩ : ∃ s0, bset (fun i => downK F n s i k) j = s0 := ⟨_, rfl⟩
      obtain ⟨t, ht⟩ : ∃ t, bset (fun i => downK F n s i k) (j + 1) = t := ⟨_, rfl⟩
      rw [hs0, ht] at HAD HNO
      have HT := Lib.hid ht
      rw [hs0]
      clear hs0 ht
      have HBT := Lib.hid (fun wx => rbit_any wx j (show j < 64 by omega))
      go_wp2
      go_loopw [8, 9] (fun z i wr => ∃ c : Nat, z = .bool (downK F n s j c) ∧ i = .int .i64 (c : Int) ∧ c ≤ k ∧ Hid (Quiet w2 wr)) (fun _ i _ => k - (intOf i).toNat)
      case atStart => exact ⟨0, rfl, rfl, Nat.zero_le _, HQ⟩
      case round =>
        obtain ⟨c, rfl, rfl, hc, HQ2⟩ := hrel
        obtain ⟨wb, hwb⟩ : ∃ wb, wb = wr := ⟨_, rfl⟩
        subst hwb
        by_cases hltc : c < k
        · have HBB := Lib.hid (HB2.out.trans (HQ2.out.below _))
          obtain ⟨lb, lo, u, rfl, _, hu, c0⟩ := (HO2.out.quiet HQ2.out).sh.at hlt
          rw [ints_get hu, show (irr F n).getD j 0 = ir F n j from rfl] at c0
          obtain ⟨_, _, u, e0, _, hu, c1⟩ := (HO2.out.quiet HQ2.out).sh.at hltc
          cases e0
          rw [ints_get hu, show (irr F n).getD c 0 = ir F n c from rfl] at c1
          have hq := HIR.out j hlt
          have hr := HIR.out c hltc
          obtain ⟨mb, mo, pb, po, pc, rfl, m1, m2⟩ := HMT.out wb (HB1.out.trans (HBB.out.mono HB1.out.size)) (ir F n j) (ir F n c) hq hr
          have hbx := HBX.out.stay (HBB.out.block _ HBX.out.lt)
          have e1 : wb.cell? ⟨w.heap.size, 1, none⟩ = some (.slice (some ⟨mb, mo, none⟩) n cM) := hbx.cell 1
          have HS := Lib.hid (downK_succ F n s j c)
          have HHC := Lib.hid (fun q => Calls.quiet_of_same ((HHAS.out (wb.drewN q) c (show c < 64 by omega)).mono fun e w' ⟨h1, h2⟩ => ⟨h1, h2.symm⟩))
          obtain ⟨f, hf⟩ : ∃ f, F (ir F n j) (ir F n c) = f := ⟨_, rfl⟩
          obtain ⟨b, hb⟩ : ∃ b, s.testBit c = b := ⟨_, rfl⟩
          obtain ⟨z, hz⟩ : ∃ z, downK F n s j c = z := ⟨_, rfl⟩
          rw [hf, hb, hz] at HS
          rw [hf] at m2
          simp only [hb] at HHC
          rw [hz]
          obtain ⟨q, hq2⟩ : ∃ q, ir F n j = q := ⟨_, rfl⟩
          obtain ⟨r, hr2⟩ : ∃ r, ir F n c = r := ⟨_, rfl⟩
          rw [hq2] at c0 m1 hq
          rw [hr2] at c1 m2 hr
          clear hf hb hz hq2 hr2 hu hbx
          cases z with
          | true =>
            go_wp2
            go_quiet (fail)
            go_wp2
            go_roundw
            case rel => exact ⟨c + 1, by rw [HS.out]; rfl, by go_num, hltc, Lib.hid (HQ2.out.trans (Quiet.one _ _))⟩
            case measure => simp [intOf]; omega
          | false =>
            cases b
            all_goals
              go_wp2
              go_quiet (first
                | (go_at_call 35; with_reducible exact HHC.out _))
              go_wp2
              go_roundw
              case rel => exact ⟨c + 1, by rw [HS.out]; rfl, by go_num, hltc, Lib.hid (HQ2.out.trans (Quiet.one _ _))⟩
              case measure => simp [intOf]; omega
        · obtain rfl : c = k := by omega
          obtain ⟨z, hz⟩ : ∃ z, downK F n s j c = z := ⟨_, rfl⟩
          rw [hz] at HAD HNO ⊢
          clear hz
          cases z with
          | false =>
            have HE := Lib.hid (HNO.out rfl)
            go_wp2
            go_roundw
            case rel => exact ⟨j + 1, by rw [HT.out, HE.out], by go_num, hlt, HQ2⟩
            case measure => simp [intOf]; omega
          | true =>
            have HE := Lib.hid (HAD.out rfl)
            go_wp2_with (first
              | (go_at_call 33; (with_reducible refine (HBT.out _).mono ?_); rintro e w5 ⟨rfl, hw5⟩; cases hw5)
              | go_in)
            go_roundw
            case rel => exact ⟨j + 1, by rw [HT.out]; exact congrArg (Value.int .u64) HE.out, by go_num, hlt, HQ2⟩
            case measure => simp [intOf]; omega
    · obtain rfl : j = k := by omega
      have HBF := Lib.hid (HB1.out.trans ((HB2.out.trans (HQ.out.below _)).mono HB1.out.size))
      go_wp2
      go_ret
      exact ⟨by rw [HRES.out]; rfl, HBF.out⟩
end Go.Proofs.Ytnhdpegjkkaabaa
