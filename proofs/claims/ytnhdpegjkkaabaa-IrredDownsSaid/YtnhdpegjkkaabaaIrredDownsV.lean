/-
  blazonlaw15.IrredDowns: the walk, over what is asked of irreducibles: the join of any set, that set with all below it, and whether it is down.
-/
import Derived.Test.YtnhdpegjkkaabaaIrE
import Derived.BigQuiet
import Derived.Deep.QuietTactic
import Derived.Deep.RegionHeld3
import Derived.Deep.DeepCutAuto
namespace Go.Proofs.Ytnhdpegjkkaabaa
set_option linter.unusedVariables false
set_option linter.unusedSimpArgs false
open Go.RowKit Go.Maps

set_option maxRecDepth 100000 in
set_option maxHeartbeats 1600000 in
theorem irredDowns_over (HI : IrNew) (A : Option Addr) (n c : Nat) (L : List OPa) (s_ : Int) (hs_ : (Lit.int .u64 s_).wf = true) (w : World) (hn : n ≤ maxLen) (hL : ShP w w.heap.size A n L) (hs : ∀ t ∈ L, t.1.1.size ≤ maxLen ∧ t.1.2.size ≤ maxLen) (hnc : n ≤ c) :
    Calls Try.prog 4 #[.slice A n c, .int .u64 s_] w fun e w' => e = .returned (.bool true) ∧ Below w.heap.size w w' := by
  obtain ⟨hs0, hs1⟩ := bounds_u64 hs_
  obtain ⟨s, rfl⟩ : ∃ s : Nat, s_ = s := ⟨s_.toNat, by omega⟩
  have hs64 : s < 2 ^ 64 := by omega
  have HG := Lib.hid (ogreat_any A n c 12 L w hL hn (by decide) hs)
  cases hg : oGreat (L.map (·.1)) 12 with
  | true =>
    rw [hg] at HG
    clear hg hL hs
    go_enter Try.func4, Try.ntmps4
    go_wp2_with (first
      | (go_at_call 8; refine HG.out.mono ?_; rintro e w1 ⟨rfl, b1⟩; have B1 := Lib.hid b1; clear b1)
      | (go_at_call 10; refine (awake15_any HI _).mono ?_; rintro e w9 ⟨rfl, b9⟩)
      | go_in)
    go_ret
    exact ⟨rfl, B1.out.trans (b9.mono B1.out.size)⟩
  | false =>
    rw [hg] at HG
    have hg2 := oGreat_no hg
    have hn12 : n ≤ 12 := by have := hg2.1; rw [List.length_map, hL.len] at this; exact this
    have hs6 : ∀ t ∈ L, t.1.1.size ≤ 1000000 ∧ t.1.2.size ≤ 1000000 := fun t ht => by have := hg2.2 t.1 (List.mem_map_of_mem ht); omega
    rcases right_cases (l := L.map (·.1)) with hR | hR
    · have HRT := Lib.hid (fun (w1 : World) (b : Below w.heap.size w w1) => right_yes A n c L w1 (hL.up b) (by omega) hnc hs6 hR)
      obtain ⟨o, ho, h0, hLt⟩ := hR
      have HMD := Lib.hid (fun (w1 : World) (b : Below w.heap.size w w1) => made_any HI A n c L w1 (hL.up b) (by omega) hnc hs6 ho h0 hLt)
      have hl64 := (newO_osd ho).wf.len
      have H0 := Lib.hid h0
      have HLT := Lib.hid hLt
      clear hg hg2 hs hL hs6 ho h0 hLt
      go_enter Try.func4, Try.ntmps4
      go_upto_region 4 with (first
        | (go_at_call 8; refine HG.out.mono ?_; rintro e w1 ⟨rfl, b1⟩; have B1 := Lib.hid b1; clear b1)
        | (go_at_call 9; (with_reducible refine (HRT.out _ B1.out).mono ?_); rintro e w2 ⟨rfl, b2⟩; have B2 := Lib.hid (B1.out.trans (b2.mono B1.out.size)); clear b2)
        | (go_at_call 11; (with_reducible refine (HMD.out _ B2.out).mono ?_); rintro e w3 ⟨b3, g, B, M, D, N, P, w5, A1, A2, A3, A4, c1, c2, c3, c4, rfl, hc, hp, hM, hr⟩; have HS := Lib.hid (IrS.start (B2.out.trans (b3.mono B2.out.size)) hc hp B2.out.size hM hr); clear b3 hc hp hM hr)
        | fail)
      obtain ⟨G, hG⟩ : ∃ G, w3.heap.size = G := ⟨_, rfl⟩
      rw [hG] at HS
      rw [hG]
      obtain ⟨W0, hW0⟩ : ∃ W0, w3.alloc (.cells #[.slice A1 o.ns.length c1, .slice A2 o.ns.length c2, .slice A3 o.ns.length c3, .slice A4 o.ns.length c4] 33) = W0 := ⟨_, rfl⟩
      rw [hW0] at HS
      rw [hW0]
      clear hG hW0 HRT HMD
      obtain ⟨x, hx⟩ : ∃ x, ofS (rmost o) o.ns.length s = x := ⟨_, rfl⟩
      obtain ⟨d, hd⟩ : ∃ d, downS (rmost o) o.ns.length s = d := ⟨_, rfl⟩
      have HOF := Lib.hid (fun W (h : IrS w w5 N M D B g G P o (.slice A1 o.ns.length c1) (.slice A2 o.ns.length c2) (.slice A3 o.ns.length c3) (.slice A4 o.ns.length c4) W) => h.c.of s hs64 h.p)
      have HDN := Lib.hid (fun W (h : IrS w w5 N M D B g G P o (.slice A1 o.ns.length c1) (.slice A2 o.ns.length c2) (.slice A3 o.ns.length c3) (.slice A4 o.ns.length c4) W) => h.c.down s hs64 h.p)
      have HIS := Lib.hid (fun W (h : IrS w w5 N M D B g G P o (.slice A1 o.ns.length c1) (.slice A2 o.ns.length c2) (.slice A3 o.ns.length c3) (.slice A4 o.ns.length c4) W) => h.c.is_ s hs64 h.p)
      have HRO := Lib.hid (fun W (h : LatAt W o (.slice A1 o.ns.length c1) (.slice A2 o.ns.length c2) (.slice A3 o.ns.length c3) (.slice A4 o.ns.length c4)) => rof_any h HLT.out H0.out hs64)
      have HRD := Lib.hid (fun W (h : LatAt W o (.slice A1 o.ns.length c1) (.slice A2 o.ns.length c2) (.slice A3 o.ns.length c3) (.slice A4 o.ns.length c4)) => rdown_any h HLT.out H0.out hs64)
      unfold IrTo at HOF HDN HIS
      rw [hx] at HOF HRO
      rw [hd] at HDN HIS HRD
      have hb : decide (d = s) = ((d : Int) == (s : Int)) := by rw [Bool.eq_iff_iff]; simp; omega
      rw [hb] at HIS
      clear hx hd hb
      obtain ⟨z, hz⟩ : ∃ z, ((d : Int) == (s : Int)) = z := ⟨_, rfl⟩
      rw [hz] at HIS
      have HS := Lib.hid HS.out.drew
      obtain ⟨q0, q1, q2, q3⟩ := HS.out.cells
      go_region_held3 (fun W => W.cell? ⟨G, 0, none⟩ = some (.slice A1 o.ns.length c1) ∧ W.cell? ⟨G, 1, none⟩ = some (.slice A2 o.ns.length c2) ∧ W.cell? ⟨G, 2, none⟩ = some (.slice A3 o.ns.length c3) ∧ W.cell? ⟨G, 3, none⟩ = some (.slice A4 o.ns.length c4)) (((try dsimp only); (repeat' apply And.intro) <;> first | (with_reducible assumption) | go_keep)) (first
        | (go_at_call 19; (with_reducible refine (HOF.out _ HS.out).mono ?_); rintro e w7 ⟨rfl, hp, ht⟩; have HS := Lib.hid (HS.out.tr hp ht); clear hp ht; obtain ⟨q0, q1, q2, q3⟩ := HS.out.cells)
        | (go_at_call 21; (with_reducible refine (HDN.out _ HS.out).mono ?_); rintro e w7 ⟨rfl, hp, ht⟩; have HS := Lib.hid (HS.out.tr hp ht); clear hp ht; obtain ⟨q0, q1, q2, q3⟩ := HS.out.cells)
        | (go_at_call 23; (with_reducible refine (HIS.out _ HS.out).mono ?_); rintro e w7 ⟨rfl, hp, ht⟩; have HS := Lib.hid (HS.out.tr hp ht); clear hp ht; obtain ⟨q0, q1, q2, q3⟩ := HS.out.cells)
        | (go_at_call 20; (with_reducible refine (HRO.out _ HS.out.r.lat).mono ?_); rintro e w7 ⟨rfl, hb⟩; have HS := Lib.hid (HS.out.below hb); clear hb; obtain ⟨q0, q1, q2, q3⟩ := HS.out.cells)
        | (go_at_call 22; (with_reducible refine (HRD.out _ HS.out.r.lat).mono ?_); rintro e w7 ⟨rfl, hb⟩; have HS := Lib.hid (HS.out.below hb); clear hb; obtain ⟨q0, q1, q2, q3⟩ := HS.out.cells)
        | (go_at_call 10; (with_reducible refine (awake15_any HI _).mono ?_); rintro e w9 ⟨rfl, b9⟩; have HS := Lib.hid (HS.out.below b9); clear b9; obtain ⟨q0, q1, q2, q3⟩ := HS.out.cells)
        | fail)
      go_wp2
      go_ret
      exact ⟨rfl, HS.out.b⟩
    · have HRF := Lib.hid (fun (w1 : World) (b : Below w.heap.size w w1) => right_not A n c L w1 (hL.up b) (by omega) hnc hs6 hR)
      clear hg hg2 hs hL hs6 hR
      go_enter Try.func4, Try.ntmps4
      go_wp2_with (first
        | (go_at_call 8; refine HG.out.mono ?_; rintro e w1 ⟨rfl, b1⟩; have B1 := Lib.hid b1; clear b1)
        | (go_at_call 9; (with_reducible refine (HRF.out _ B1.out).mono ?_); rintro e w2 ⟨rfl, b2⟩; have B2 := Lib.hid (B1.out.trans (b2.mono B1.out.size)); clear b2)
        | (go_at_call 10; refine (awake15_any HI _).mono ?_; rintro e w9 ⟨rfl, b9⟩)
        | go_in)
      go_ret
      exact ⟨rfl, B2.out.trans (b9.mono B2.out.size)⟩
end Go.Proofs.Ytnhdpegjkkaabaa
