/-
  CONTRACTS OF the document's Set and Of.
-/
import Derived.Test.YtnhdpegjkkaabaaOiB
namespace Go.Proofs.Ytnhdpegjkkaabaa
set_option linter.unusedVariables false
set_option linter.unusedSimpArgs false
open Go.RowKit

theorem ints_get {S : List Nat} {k : Nat} {u : Value} (h : (ints S)[k]? = some u) : u = .int .i64 ((S.getD k 0 : Nat) : Int) := by
  unfold ints at h
  rw [List.getElem?_map] at h
  rw [List.getD_eq_getElem?_getD]
  cases e : S[k]? with
  | none => rw [e] at h; cases h
  | some x => rw [e] at h; cases h; rfl
theorem add_bit {p : Nat → Bool} {j : Nat} (hj : j < 64) (hp : p j = true) : IntKind.u64.wrap ((bset p j : Int) + (obitN j : Int)) = (bset p (j + 1) : Int) := by
  rw [IntKind.wrap_u64]
  have e : bset p (j + 1) = bset p j + obitN j := by
    show bset p j + (if p j then 2 ^ j else 0) = bset p j + obitN j
    rw [if_pos hp]; rfl
  have l : bset p (j + 1) < 18446744073709551616 := Nat.lt_of_lt_of_le (bset_lt p (j + 1)) (Nat.pow_le_pow_right (n := 2) (by omega) (show j + 1 ≤ 64 by omega))
  rw [e] at l ⊢
  omega
theorem no_bit {p : Nat → Bool} {j : Nat} (hp : p j = false) : bset p (j + 1) = bset p j := by
  show bset p j + (if p j then 2 ^ j else 0) = bset p j
  rw [hp]; rfl

set_option maxRecDepth 100000 in
set_option maxHeartbeats 800000 in
theorem rset_any {w : World} {o : Od} {v m js ms : Value} (h : LatAt w o v m js ms) (hL : Lat o.ns.length (rmost o) (jn (rmost o) o.ns.length) (mn (rmost o) o.ns.length)) (h0 : 0 < o.ns.length) {x : Nat} (hx : x < o.ns.length) :
    Calls Try.prog 16 #[.agg #[v, m, js, ms], .int .i64 (x : Int)] w fun e w' => e = .returned (.int .u64 (setS (rmost o) o.ns.length x : Int)) ∧ Below w.heap.size w w' := by
  have hl := h.ref.wf.len
  obtain ⟨⟨J, cJ, rfl, _⟩, ⟨K, cK, rfl, _⟩⟩ := And.intro h.jt h.mt
  obtain ⟨⟨A, cA, rfl, _⟩, ⟨M, cM, rfl, _⟩⟩ := And.intro h.ref.nm h.ref.mt
  have hBX : Blk (w.alloc (.cells #[.slice A o.ns.length cA, .slice M o.ns.length cM, .slice J o.ns.length cJ, .slice K o.ns.length cK] 33)) w.heap.size 33 [.slice A o.ns.length cA, .slice M o.ns.length cM, .slice J o.ns.length cJ, .slice K o.ns.length cK] := Blk.new _ _ _
  have hb1 : Below w.heap.size w (w.alloc (.cells #[.slice A o.ns.length cA, .slice M o.ns.length cM, .slice J o.ns.length cJ, .slice K o.ns.length cK] 33)) := (Below.refl _ _).alloc (Nat.le_refl _) _
  have HMT := Lib.hid (fun (wx : World) (bx : Below w.heap.size w wx) (x y : Nat) (hx : x < o.ns.length) (hy : y < o.ns.length) => (by
    obtain ⟨M', c', e, hM⟩ := (h.ref.stay bx).mt
    cases e
    exact hM.at hx hy : ∃ mb mo pb po c, M = some ⟨mb, mo, none⟩ ∧ wx.cell? ⟨mb, mo + x, none⟩ = some (.slice (some ⟨pb, po, none⟩) o.ns.length c) ∧ wx.cell? ⟨pb, po + y, none⟩ = some (.bool (rmost o x y))))
  have HLS := Lib.hid (rlist_any (h.stay hb1) hL h0)
  obtain ⟨F, hF⟩ : ∃ F : Nat → Nat → Bool, rmost o = F := ⟨_, rfl⟩
  rw [hF] at HLS ⊢
  simp only [hF] at HMT
  have HBX := Lib.hid hBX
  have HB1 := Lib.hid hb1
  obtain ⟨n, hn⟩ : ∃ n, o.ns.length = n := ⟨_, rfl⟩
  rw [hn] at hl h0 hx HBX HB1 HLS ⊢
  simp only [hn] at HMT
  clear hF hBX hb1 h hL hn
  have HLE := Lib.hid (show (irr F n).length ≤ n from irr_len)
  have HIR := Lib.hid (fun (j : Nat) (hj : j < (irr F n).length) => (ir_lt hj : ir F n j < n))
  have HRES := Lib.hid (show setS F n x = bset (fun i => F (ir F n i) x) (irr F n).length from rfl)
  go_enter Try.func16, Try.ntmps16
  go_wp2_with (first
    | (go_at_call 12; (with_reducible refine HLS.out.mono ?_); rintro e w2 ⟨u2, rfl, ho2, b2⟩; obtain ⟨A2, c2, rfl⟩ := ho2.form; have HO2 := Lib.hid ho2; have HB2 := Lib.hid b2; clear ho2 b2)
    | go_in)
  obtain ⟨w1, hw1⟩ : ∃ w1, w.alloc (.cells #[.slice A n cA, .slice M n cM, .slice J n cJ, .slice K n cK] 33) = w1 := ⟨_, rfl⟩
  rw [hw1] at HBX HB1 HLS HO2 HB2
  clear hw1
  obtain ⟨k, hk⟩ : ∃ k, (irr F n).length = k := ⟨_, rfl⟩
  rw [hk] at HO2 HLE HRES ⊢
  simp only [hk] at HIR
  have hle := HLE.out
  go_loopw [6, 7] (fun s i wr => ∃ j : Nat, s = .int .u64 (bset (fun i => F (ir F n i) x) j : Int) ∧ i = .int .i64 (j : Int) ∧ j ≤ k ∧ Hid (Quiet w2 wr)) (fun _ i _ => k - (intOf i).toNat)
  case atStart => exact ⟨0, rfl, rfl, Nat.zero_le _, Lib.hid (Quiet.refl _)⟩
  case round =>
    obtain ⟨j, rfl, rfl, hj, HQ⟩ := hrel
    obtain ⟨wa, hwa⟩ : ∃ wa, wa = wr := ⟨_, rfl⟩
    subst hwa
    have HBB := Lib.hid (HB2.out.trans (HQ.out.below _))
    by_cases hlt : j < k
    · obtain ⟨lb, lo, u, rfl, _, hu, c0⟩ := (HO2.out.quiet HQ.out).sh.at hlt
      rw [ints_get hu] at c0
      rw [show (irr F n).getD j 0 = ir F n j from rfl] at c0
      have hq := HIR.out j hlt
      obtain ⟨mb, mo, pb, po, pc, rfl, m1, m2⟩ := HMT.out wa (HB1.out.trans (HBB.out.mono HB1.out.size)) (ir F n j) x hq hx
      have hbx := HBX.out.stay (HBB.out.block _ HBX.out.lt)
      have e1 : wa.cell? ⟨w.heap.size, 1, none⟩ = some (.slice (some ⟨mb, mo, none⟩) n cM) := hbx.cell 1
      have HAD := Lib.hid (fun h : F (ir F n j) x = true => add_bit (p := fun i => F (ir F n i) x) (show j < 64 by omega) h)
      have HNO := Lib.hid (fun h : F (ir F n j) x = false => no_bit (p := fun i => F (ir F n i) x) (j := j) h)
      obtain ⟨f, hf⟩ : ∃ f, F (ir F n j) x = f := ⟨_, rfl⟩
      rw [hf] at m2 HAD HNO
      obtain ⟨q, hq2⟩ : ∃ q, ir F n j = q := ⟨_, rfl⟩
      rw [hq2] at c0 m1 hq
      obtain ⟨s, hs⟩ : ∃ s, bset (fun i => F (ir F n i) x) j = s := ⟨_, rfl⟩
      obtain ⟨t, ht⟩ : ∃ t, bset (fun i => F (ir F n i) x) (j + 1) = t := ⟨_, rfl⟩
      rw [hs, ht] at HAD HNO
      have HT := Lib.hid ht
      rw [hs]
      clear hf hq2 hs ht hu hbx
      have HBT := Lib.hid (fun wx => rbit_any wx j (show j < 64 by omega))
      cases f with
      | false =>
        have HE := Lib.hid (HNO.out rfl)
        go_wp2
        go_quiet (fail)
        go_wp2
        go_roundw
        case rel => exact ⟨j + 1, by rw [HT.out, HE.out], by go_num, hlt, Lib.hid (HQ.out.trans (Quiet.one _ _))⟩
        case measure => simp [intOf]; omega
      | true =>
        have HE := Lib.hid (HAD.out rfl)
        go_wp2
        go_quiet (fail)
        go_wp2_with (first
          | (go_at_call 33; (with_reducible refine (HBT.out _).mono ?_); rintro e w5 ⟨rfl, rfl⟩)
          | go_in)
        go_roundw
        case rel => exact ⟨j + 1, by rw [HT.out]; exact congrArg (Value.int .u64) HE.out, by go_num, hlt, Lib.hid (HQ.out.trans (Quiet.one _ _))⟩
        case measure => simp [intOf]; omega
    · obtain rfl : j = k := by omega
      have HBF := Lib.hid (HB1.out.trans (HBB.out.mono HB1.out.size))
      go_wp2
      go_ret
      exact ⟨by rw [HRES.out]; rfl, HBF.out⟩
end Go.Proofs.Ytnhdpegjkkaabaa
