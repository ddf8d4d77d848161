/-
  CONTRACT OF the document's Of.
-/
import Derived.Test.YtnhdpegjkkaabaaOiC
namespace Go.Proofs.Ytnhdpegjkkaabaa
set_option linter.unusedVariables false
set_option linter.unusedSimpArgs false
open Go.RowKit

set_option maxRecDepth 100000 in
set_option maxHeartbeats 800000 in
theorem rof_any {w : World} {o : Od} {v m js ms : Value} (h : LatAt w o v m js ms) (hL : Lat o.ns.length (rmost o) (jn (rmost o) o.ns.length) (mn (rmost o) o.ns.length)) (h0 : 0 < o.ns.length) {s : Nat} (hs : s < 2 ^ 64) :
    Calls Try.prog 20 #[.agg #[v, m, js, ms], .int .u64 (s : Int)] w fun e w' => e = .returned (.int .i64 (ofS (rmost o) o.ns.length s : Int)) ∧ Below w.heap.size w w' := by
  have hl := h.ref.wf.len
  obtain ⟨⟨J, cJ, rfl, _⟩, ⟨K, cK, rfl, _⟩⟩ := And.intro h.jt h.mt
  obtain ⟨⟨A, cA, rfl, _⟩, ⟨M, cM, rfl, _⟩⟩ := And.intro h.ref.nm h.ref.mt
  have hBX : Blk (w.alloc (.cells #[.slice A o.ns.length cA, .slice M o.ns.length cM, .slice J o.ns.length cJ, .slice K o.ns.length cK] 33)) w.heap.size 33 [.slice A o.ns.length cA, .slice M o.ns.length cM, .slice J o.ns.length cJ, .slice K o.ns.length cK] := Blk.new _ _ _
  have hb1 : Below w.heap.size w (w.alloc (.cells #[.slice A o.ns.length cA, .slice M o.ns.length cM, .slice J o.ns.length cJ, .slice K o.ns.length cK] 33)) := (Below.refl _ _).alloc (Nat.le_refl _) _
  have HJA := Lib.hid (fun (wx : World) (bx : Below w.heap.size w wx) (S : Option Addr) (c : Nat) (l : List Nat) (hs : Sh wx wx.heap.size S l.length (ints l)) (hi : ∀ a ∈ l, a < o.ns.length) (hsl : l.length ≤ 1000000) => (rjoinAll_any (h.stay bx) hL h0 S c l hs hi hsl : Calls Try.prog 31 #[.agg #[.slice A o.ns.length cA, .slice M o.ns.length cM, .slice J o.ns.length cJ, .slice K o.ns.length cK], .slice S l.length c] wx fun e w' => e = .returned (.int .i64 (jfold (rmost o) o.ns.length l (bt (rmost o) o.ns.length) : Nat)) ∧ Below wx.heap.size wx w'))
  have HLS := Lib.hid (rlist_any (h.stay hb1) hL h0)
  obtain ⟨F, hF⟩ : ∃ F : Nat → Nat → Bool, rmost o = F := ⟨_, rfl⟩
  rw [hF] at HLS ⊢
  simp only [hF] at HJA
  have HBX := Lib.hid hBX
  have HB1 := Lib.hid hb1
  obtain ⟨n, hn⟩ : ∃ n, o.ns.length = n := ⟨_, rfl⟩
  rw [hn] at hl h0 HBX HB1 HLS ⊢
  simp only [hn] at HJA
  clear hF hBX hb1 h hL hn
  have HLE := Lib.hid (show (irr F n).length ≤ n from irr_len)
  have HIR := Lib.hid (fun (j : Nat) (hj : j < (irr F n).length) => (ir_lt hj : ir F n j < n))
  have HRES := Lib.hid (show ofS F n s = jfold F n (selK F n s (irr F n).length) (botI F n).toNat from rfl)
  have HHAS := Lib.hid (fun (wx : World) (i : Nat) (hi : i < 64) => rhas_any wx s i hs hi)
  go_enter Try.func20, Try.ntmps20
  go_wp2_with (first
    | (go_at_call 12; (with_reducible refine HLS.out.mono ?_); rintro e w2 ⟨u2, rfl, ho2, b2⟩; obtain ⟨A2, c2, rfl⟩ := ho2.form; have HO2 := Lib.hid ho2; have HB2 := Lib.hid b2; clear ho2 b2)
    | go_in)
  obtain ⟨w1, hw1⟩ : ∃ w1, w.alloc (.cells #[.slice A n cA, .slice M n cM, .slice J n cJ, .slice K n cK] 33) = w1 := ⟨_, rfl⟩
  rw [hw1] at HBX HB1 HLS HO2 HB2
  clear hw1
  have HSL := Lib.hid (fun (x : Nat) (hx : x ∈ selK F n s (irr F n).length) => (sel_lt x hx : x < n))
  obtain ⟨k, hk⟩ : ∃ k, (irr F n).length = k := ⟨_, rfl⟩
  rw [hk] at HO2 HLE HRES ⊢
  simp only [hk] at HIR HSL
  have hle := HLE.out
  go_loopw [6, 7] (fun u i wr => ∃ (j : Nat) (ux : Value), u = ux ∧ i = .int .i64 (j : Int) ∧ j ≤ k ∧ (selK F n s j).length ≤ j ∧ Hid (Own wr w2.heap.size 3 1 ux (selK F n s j).length (ints (selK F n s j))) ∧ Hid (Below w2.heap.size w2 wr)) (fun _ i _ => k - (intOf i).toNat)
  case atStart => exact ⟨0, _, rfl, rfl, Nat.zero_le _, Nat.le_refl _, Lib.hid (Own.nil _ _ _ _ (Nat.le_refl _)), Lib.hid (Below.refl _ _)⟩
  case round =>
    obtain ⟨j, ux, rfl, rfl, hj, hsj, HOW, HQ⟩ := hrel
    obtain ⟨wa, hwa⟩ : ∃ wa, wa = wr := ⟨_, rfl⟩
    subst hwa
    obtain ⟨Ax, cx, rfl⟩ := HOW.out.form
    have HBB := Lib.hid (HB2.out.trans (HQ.out.mono HB2.out.size))
    by_cases hlt : j < k
    · obtain ⟨lb, lo, u, rfl, _, hu, c0⟩ := (HO2.out.below HQ.out).sh.at hlt
      rw [ints_get hu] at c0
      rw [show (irr F n).getD j 0 = ir F n j from rfl] at c0
      have HHC := Lib.hid (HHAS.out wa j (by omega))
      have HS := Lib.hid (selK_succ (F := F) (n := n) s j)
      have hown := HOW.out
      obtain ⟨f, hf⟩ : ∃ f, s.testBit j = f := ⟨_, rfl⟩
      obtain ⟨q, hq2⟩ : ∃ q, ir F n j = q := ⟨_, rfl⟩
      obtain ⟨L, hL⟩ : ∃ L, selK F n s j = L := ⟨_, rfl⟩
      rw [hf] at HHC
      rw [hf, hq2, hL] at HS
      rw [hq2] at c0
      rw [hL] at hown hsj ⊢
      clear hf hq2 hL hu
      cases f with
      | false =>
        have HE := Lib.hid (show selK F n s (j + 1) = L by rw [HS.out]; simp)
        have HO5 := Lib.hid hown
        go_wp2_with (first
          | (go_at_call 35; (with_reducible refine HHC.out.mono ?_); rintro e w5 ⟨rfl, rfl⟩)
          | go_in)
        go_roundw
        case rel => exact ⟨j + 1, _, rfl, by go_num, hlt, by rw [HE.out]; omega, by rw [HE.out]; exact HO5, HQ⟩
        case measure => simp [intOf]; omega
      | true =>
        have HE := Lib.hid (show selK F n s (j + 1) = L ++ [q] by rw [HS.out]; simp)
        go_wp2_with (first
          | (go_at_call 35; (with_reducible refine HHC.out.mono ?_); rintro e w5 ⟨rfl, hw5⟩; cases hw5)
          | (at_builtin; refine wpList_wanted rfl fun KK hKK => ?_; refine wp_push_f (.tmp 19) (.tmp 24) 36 rfl rowI _ w2.heap.size _ L.length _ [.int .i64 (q : Int)] rfl hown rfl rfl rfl (by intro u hu; rw [List.mem_singleton.1 hu]; rfl) (by omega) (by omega) ?_; intro v4 w4 ho4 hg4 hv4; refine hKK _ _ ?_; clear hKK KK; have HB8 := Lib.hid (push_below (us := [.int .i64 (q : Int)]) hown HQ.out (Nat.le_refl _) HQ.out.size hg4); have HO8 := Lib.hid (ho4.cast (show L.length + 1 = (L ++ [q]).length by simp) (ints_snoc L q).symm); clear ho4 hg4 hv4)
          | go_in)
        go_roundw
        case rel => exact ⟨j + 1, _, rfl, by go_num, hlt, by rw [HE.out, List.length_append]; show L.length + 1 ≤ j + 1; omega, by rw [HE.out]; exact HO8, HB8⟩
        case measure => simp [intOf]; omega
    · obtain rfl : j = k := by omega
      have HBF := Lib.hid (HB1.out.trans (HBB.out.mono HB1.out.size))
      have hbx := HBX.out.stay (HBB.out.block _ HBX.out.lt)
      have q0 := hbx.cell 0
      have q1 := hbx.cell 1
      have q2 := hbx.cell 2
      have q3 := hbx.cell 3
      have HJ3 := Lib.hid (HJA.out wa HBF.out Ax cx _ HOW.out.sh HSL.out (by omega))
      rw [← HRES.out] at HJ3
      clear hbx
      go_wp2_with (first
        | (go_at_call 31; (with_reducible refine HJ3.out.mono ?_); rintro e w5 ⟨rfl, b5⟩; have HB7 := Lib.hid (HBF.out.trans (b5.mono HBF.out.size)); clear b5)
        | go_in)
      go_ret
      exact ⟨rfl, HB7.out⟩
end Go.Proofs.Ytnhdpegjkkaabaa
