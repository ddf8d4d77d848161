/-
  blazonlaw15.IrredSets: the walk, over what is asked of irreducibles: the irreducibles, the sets, by how many two are apart.
-/
import Derived.Test.YtnhdpegjkkaabaaIrE
import Derived.BigQuiet
import Derived.Deep.QuietTactic
import Derived.Deep.RegionHeld3
import Derived.Deep.DeepCutAuto
namespace Go.Proofs.Ytnhdpegjkkaabaa
set_option linter.unusedVariables false
set_option linter.unusedSimpArgs false
open Go.RowKit Go.Maps

theorem apartS_le (a b : Nat) : apartS a b ≤ 64 := by
  have : ∀ k, apartK a b k ≤ k := fun k => by
    unfold apartK
    have := List.countP_le_length (p := fun i => a.testBit i != b.testBit i) (l := List.range k)
    simpa using this
  exact this 64
theorem ap_el {w w5 W : World} {N M D : Nat → Prop} {B g G : Nat} {P : World → Prop} {o : Od} {v m js ms : Value} (h : IrS w w5 N M D B g G P o v m js ms W) {a b c : Nat} (ha : a < o.ns.length) (hb : b < o.ns.length) (e : apartS (setS (rmost o) o.ns.length a) (setS (rmost o) o.ns.length b) = c) :
    Calls Try.prog 17 #[.pointer (some ⟨g, 0, none⟩), .int .i64 (a : Int), .int .i64 (b : Int)] W (IrTo M P W (.int .i64 (c : Int))) := by
  have := h.c.apart (a : Int) (b : Int) h.p
  rwa [irApart_in ha hb, e] at this
theorem list_at {B ln c : Nat} {A : Option Addr} {l : List Nat} {w0 : World} (hl : l.length = ln) {j : Nat} (hj : j < ln) (h0 : Own w0 B 3 1 (.slice A ln c) ln (ints l)) :
    ∃ lb, A = some ⟨lb, 0, none⟩ ∧ ∀ w, Own w B 3 1 (.slice A ln c) ln (ints l) → w.cell? ⟨lb, j, none⟩ = some (.int .i64 ((l.getD j 0 : Nat) : Int)) := by
  rcases h0.1.2 with ⟨h1, h2⟩ | ⟨g, cap, cur, h1, _⟩
  · injection h1 with _ h2 _
    omega
  · injection h1 with h1 _ _
    refine ⟨g, h1, fun w h => ?_⟩
    obtain ⟨lb, lo, u, hA, _, hu, hc⟩ := h.sh.at hj
    rw [h1] at hA
    injection hA with hA
    injection hA with hA hA2 _
    subst hA
    subst hA2
    rw [ints_get hu] at hc
    simpa using hc

set_option maxRecDepth 100000 in
set_option maxHeartbeats 1600000 in
theorem irredSets_over (HI : IrNew) (A : Option Addr) (n c : Nat) (L : List OPa) (a b : Int) (ha_ : (Lit.int .i64 a).wf = true) (hb_ : (Lit.int .i64 b).wf = true) (w : World) (hn : n ≤ maxLen) (hL : ShP w w.heap.size A n L) (hs : ∀ t ∈ L, t.1.1.size ≤ maxLen ∧ t.1.2.size ≤ maxLen) (hnc : n ≤ c) :
    Calls Try.prog 3 #[.slice A n c, .int .i64 a, .int .i64 b] w fun e w' => e = .returned (.bool true) ∧ Below w.heap.size w w' := by
  have HG := Lib.hid (ogreat_any A n c 12 L w hL hn (by decide) hs)
  cases hg : oGreat (L.map (·.1)) 12 with
  | true =>
    rw [hg] at HG
    clear hg hL hs
    go_enter Try.func3, Try.ntmps3
    go_wp2_with (first
      | (go_at_call 8; refine HG.out.mono ?_; rintro e w1 ⟨rfl, b1⟩; have B1 := Lib.hid b1; clear b1)
      | (go_at_call 10; refine (awake15_any HI _).mono ?_; rintro e w9 ⟨rfl, b9⟩)
      | go_in)
    go_ret
    exact ⟨rfl, B1.out.trans (b9.mono B1.out.size)⟩
  | false =>
    rw [hg] at HG
    have hg2 := oGreat_no hg
    have hn12 : n ≤ 12 := by have := hg2.1; rw [List.length_map, hL.len] at this; exact this
    have hs6 : ∀ t ∈ L, t.1.1.size ≤ 1000000 ∧ t.1.2.size ≤ 1000000 := fun t ht => by have := hg2.2 t.1 (List.mem_map_of_mem ht); omega
    rcases right_cases (l := L.map (·.1)) with hR | hR
    · have HRT := Lib.hid (fun (w1 : World) (b : Below w.heap.size w w1) => right_yes A n c L w1 (hL.up b) (by omega) hnc hs6 hR)
      obtain ⟨o, ho, h0, hLt⟩ := hR
      have HMD := Lib.hid (fun (w1 : World) (b : Below w.heap.size w w1) => made_any HI A n c L w1 (hL.up b) (by omega) hnc hs6 ho h0 hLt)
      have hl64 := (newO_osd ho).wf.len
      have H0 := Lib.hid h0
      have HLT := Lib.hid hLt
      clear hg hg2 hs hL hs6 ho h0 hLt
      go_enter Try.func3, Try.ntmps3
      go_upto_region 4 with (first
        | (go_at_call 8; refine HG.out.mono ?_; rintro e w1 ⟨rfl, b1⟩; have B1 := Lib.hid b1; clear b1)
        | (go_at_call 9; (with_reducible refine (HRT.out _ B1.out).mono ?_); rintro e w2 ⟨rfl, b2⟩; have B2 := Lib.hid (B1.out.trans (b2.mono B1.out.size)); clear b2)
        | (go_at_call 11; (with_reducible refine (HMD.out _ B2.out).mono ?_); rintro e w3 ⟨b3, g, B, M, D, N, P, w5, A1, A2, A3, A4, c1, c2, c3, c4, rfl, hc, hp, hM, hr⟩; have HS := Lib.hid (IrS.start (B2.out.trans (b3.mono B2.out.size)) hc hp B2.out.size hM hr); have HML := Lib.hid (fun k (hk : M k) => (hM k hk).2.1); clear b3 hc hp hM hr)
        | fail)
      obtain ⟨G, hG⟩ : ∃ G, w3.heap.size = G := ⟨_, rfl⟩
      rw [hG] at HS HML
      rw [hG]
      obtain ⟨W0, hW0⟩ : ∃ W0, w3.alloc (.cells #[.slice A1 o.ns.length c1, .slice A2 o.ns.length c2, .slice A3 o.ns.length c3, .slice A4 o.ns.length c4] 33) = W0 := ⟨_, rfl⟩
      rw [hW0] at HS
      rw [hW0]
      clear hG hW0 HRT HMD
      have hGW := HS.out.y.lt
      have HMW0 := HML.out
      have HMW := Lib.hid (fun k (hk : M k) => (Nat.lt_trans (HMW0 k hk) hGW : k < W0.heap.size))
      clear HMW0 HML
      have HLS := Lib.hid (rlist_any HS.out.r.lat HLT.out H0.out)
      obtain ⟨S, hS⟩ : ∃ S : Nat → Nat, setS (rmost o) o.ns.length = S := ⟨_, rfl⟩
      have hS64 : ∀ a, S a < 18446744073709551616 := fun a => by rw [← hS]; exact setS_lt hl64 a
      have HLN := Lib.hid (fun W (h : IrS w w5 N M D B g G P o (.slice A1 o.ns.length c1) (.slice A2 o.ns.length c2) (.slice A3 o.ns.length c3) (.slice A4 o.ns.length c4) W) => h.c.len h.p)
      have HE := Lib.hid (fun W (h : IrS w w5 N M D B g G P o (.slice A1 o.ns.length c1) (.slice A2 o.ns.length c2) (.slice A3 o.ns.length c3) (.slice A4 o.ns.length c4) W) (j : Nat) (hj : j < (irr (rmost o) o.ns.length).length) => (by
        have := h.c.elem (j : Int) h.p
        rwa [irElem_in hj] at this : Calls Try.prog 14 #[.pointer (some ⟨g, 0, none⟩), .int .i64 (j : Int)] W (IrTo M P W (.int .i64 ((irr (rmost o) o.ns.length).getD j 0 : Nat)))))
      have HEM := Lib.hid (fun W (h : IrS w w5 N M D B g G P o (.slice A1 o.ns.length c1) (.slice A2 o.ns.length c2) (.slice A3 o.ns.length c3) (.slice A4 o.ns.length c4) W) => (by
        have := h.c.elem (-1) h.p
        rwa [irElem_out (by unfold inI; simp)] at this : Calls Try.prog 14 #[.pointer (some ⟨g, 0, none⟩), .int .i64 (-1)] W (IrTo M P W (.int .i64 (-1)))))
      have HEN := Lib.hid (fun W (h : IrS w w5 N M D B g G P o (.slice A1 o.ns.length c1) (.slice A2 o.ns.length c2) (.slice A3 o.ns.length c3) (.slice A4 o.ns.length c4) W) => (by
        have := h.c.elem ((irr (rmost o) o.ns.length).length : Int) h.p
        rwa [irElem_out (by unfold inI; simp)] at this : Calls Try.prog 14 #[.pointer (some ⟨g, 0, none⟩), .int .i64 ((irr (rmost o) o.ns.length).length : Int)] W (IrTo M P W (.int .i64 (-1)))))
      have HSE := Lib.hid (fun W (h : IrS w w5 N M D B g G P o (.slice A1 o.ns.length c1) (.slice A2 o.ns.length c2) (.slice A3 o.ns.length c3) (.slice A4 o.ns.length c4) W) (x : Nat) (hx : x < o.ns.length) => (by
        have := h.c.set (x : Int) h.p
        rwa [irSet_in hx, hS] at this : Calls Try.prog 15 #[.pointer (some ⟨g, 0, none⟩), .int .i64 (x : Int)] W (IrTo M P W (.int .u64 (S x : Int)))))
      have HSN := Lib.hid (fun W (h : IrS w w5 N M D B g G P o (.slice A1 o.ns.length c1) (.slice A2 o.ns.length c2) (.slice A3 o.ns.length c3) (.slice A4 o.ns.length c4) W) => (by
        have := h.c.set (o.ns.length : Int) h.p
        rw [irSet_out (by unfold inI; simp)] at this
        exact this : Calls Try.prog 15 #[.pointer (some ⟨g, 0, none⟩), .int .i64 (o.ns.length : Int)] W (IrTo M P W (.int .u64 0))))
      have HSM := Lib.hid (fun W (h : IrS w w5 N M D B g G P o (.slice A1 o.ns.length c1) (.slice A2 o.ns.length c2) (.slice A3 o.ns.length c3) (.slice A4 o.ns.length c4) W) => (by
        have := h.c.set (-1) h.p
        rw [irSet_out (by unfold inI; simp)] at this
        exact this : Calls Try.prog 15 #[.pointer (some ⟨g, 0, none⟩), .int .i64 (-1)] W (IrTo M P W (.int .u64 0))))
      have HRS := Lib.hid (fun W (h : LatAt W o (.slice A1 o.ns.length c1) (.slice A2 o.ns.length c2) (.slice A3 o.ns.length c3) (.slice A4 o.ns.length c4)) (x : Nat) (hx : x < o.ns.length) => (by
        have := rset_any h HLT.out H0.out hx
        rwa [hS] at this : Calls Try.prog 16 #[.agg #[.slice A1 o.ns.length c1, .slice A2 o.ns.length c2, .slice A3 o.ns.length c3, .slice A4 o.ns.length c4], .int .i64 (x : Int)] W fun e w' => e = .returned (.int .u64 (S x : Int)) ∧ Below W.heap.size W w'))
      have HAP := Lib.hid (fun W (h : IrS w w5 N M D B g G P o (.slice A1 o.ns.length c1) (.slice A2 o.ns.length c2) (.slice A3 o.ns.length c3) (.slice A4 o.ns.length c4) W) (x y : Nat) (hx : x < o.ns.length) (hy : y < o.ns.length) => (by
        have := ap_el h hx hy rfl
        rwa [hS] at this : Calls Try.prog 17 #[.pointer (some ⟨g, 0, none⟩), .int .i64 (x : Int), .int .i64 (y : Int)] W (IrTo M P W (.int .i64 (apartS (S x) (S y) : Nat)))))
      have HAN := Lib.hid (fun (hin : (inI o.ns.length a && inI o.ns.length b) = false) W (h : IrS w w5 N M D B g G P o (.slice A1 o.ns.length c1) (.slice A2 o.ns.length c2) (.slice A3 o.ns.length c3) (.slice A4 o.ns.length c4) W) => (by
        have := h.c.apart a b h.p
        rwa [irApart_out hin] at this : Calls Try.prog 17 #[.pointer (some ⟨g, 0, none⟩), .int .i64 a, .int .i64 b] W (IrTo M P W (.int .i64 (-1)))))
      unfold IrTo at HLN HE HEM HEN HSE HSN HSM HAP HAN
      obtain ⟨IL, hIL⟩ : ∃ IL, irr (rmost o) o.ns.length = IL := ⟨_, rfl⟩
      rw [hIL] at HLS HLN HE HEN
      obtain ⟨ln, hln⟩ : ∃ ln, IL.length = ln := ⟨_, rfl⟩
      rw [hln] at HLN HE HEN
      have hlb : ln ≤ 64 := by rw [← hln, ← hIL]; exact Nat.le_trans irr_len hl64
      obtain ⟨BB, hBB⟩ : ∃ BB, W0.heap.size = BB := ⟨_, rfl⟩
      rw [hBB] at HMW
      obtain ⟨q0, q1, q2, q3⟩ := HS.out.cells
      go_upto_region 5 with (first
        | (go_at_call 12; (with_reducible refine HLS.out.mono ?_); rintro e w2 ⟨u2, rfl, ho2, b2⟩; rw [hBB, hln] at ho2; obtain ⟨AL, cl, rfl⟩ := ho2.form; have HO := Lib.hid ho2; have HS := Lib.hid (HS.out.below b2); clear ho2 b2)
        | fail)
      clear q0 q1 q2 q3 HLS hIL hS hBB
      have hvm : ((-1 : Int) != -1) = false := by decide
      have hvl : ((ln : Int) != (ln : Int)) = false := by simp
      go_wp2_with (first
        | (go_at_call 13; (with_reducible refine (HLN.out _ HS.out).mono ?_); rintro e w7 ⟨rfl, hp, ht⟩; have HO := Lib.hid (HO.out.tr ht HMW.out); have HS := Lib.hid (HS.out.tr hp ht); clear hp ht)
        | (go_at_call 14; (with_reducible refine (HEM.out _ HS.out).mono ?_); rintro e w7 ⟨rfl, hp, ht⟩; have HO := Lib.hid (HO.out.tr ht HMW.out); have HS := Lib.hid (HS.out.tr hp ht); clear hp ht)
        | (go_at_call 14; (with_reducible refine (HEN.out _ HS.out).mono ?_); rintro e w7 ⟨rfl, hp, ht⟩; have HO := Lib.hid (HO.out.tr ht HMW.out); have HS := Lib.hid (HS.out.tr hp ht); clear hp ht)
        | fail)
      go_loopw [10] (fun i wr => ∃ j : Nat, i = .int .i64 (j : Int) ∧ j ≤ ln ∧ Hid (IrS w w5 N M D B g G P o (.slice A1 o.ns.length c1) (.slice A2 o.ns.length c2) (.slice A3 o.ns.length c3) (.slice A4 o.ns.length c4) wr) ∧ Hid (Own wr BB 3 1 (.slice AL ln cl) ln (ints IL))) (fun i _ => ln - (intOf i).toNat)
      case atStart => exact ⟨0, rfl, Nat.zero_le _, HS, HO⟩
      case round =>
        obtain ⟨j, rfl, hj, HS, HO⟩ := hrel
        obtain ⟨wz, hwz⟩ : ∃ wz, wz = wr := ⟨_, rfl⟩
        subst hwz
        by_cases hlt : j < ln
        · obtain ⟨lb, rfl, hcell⟩ := list_at hln hlt HO.out
          have C1 := Lib.hid (fun W h => HE.out W h j hlt)
          obtain ⟨v, hv⟩ : ∃ v, IL.getD j 0 = v := ⟨_, rfl⟩
          rw [hv] at C1 hcell
          have HCE := Lib.hid hcell
          have hvv : ((v : Int) != (v : Int)) = false := by simp
          clear hv hcell
          go_upto_region 10 with fail
          have HS := Lib.hid HS.out.drew
          have HO := Lib.hid (HO.out.quiet (Quiet.one _ 1))
          have q0 : wz.drew.cell? ⟨lb, j, none⟩ = some (.int .i64 (v : Int)) := HCE.out _ HO.out
          go_region_held3 (fun W => W.cell? ⟨lb, j, none⟩ = some (.int .i64 (v : Int))) (((try dsimp only); first | (with_reducible assumption) | go_keep)) (first
            | (go_at_call 14; (with_reducible refine (C1.out _ HS.out).mono ?_); rintro e w7 ⟨rfl, hp, ht⟩; have HO := Lib.hid (HO.out.tr ht HMW.out); have HS := Lib.hid (HS.out.tr hp ht); clear hp ht; have q0 := HCE.out _ HO.out)
            | fail)
          go_wp2
          go_roundw
          case rel => exact ⟨j + 1, by go_num, hlt, HS, HO⟩
          case measure => simp [intOf]; omega
        · have hnl : ¬ (j : Int) < (ln : Int) := by omega
          clear HO HLN HE HEM HEN
          obtain ⟨q0, q1, q2, q3⟩ := HS.out.cells
          go_upto_region 13 with fail
          clear q0 q1 q2 q3
          go_wp2_with fail
          go_loopw [12] (fun i wr => ∃ x : Nat, i = .int .i64 (x : Int) ∧ x ≤ o.ns.length ∧ Hid (IrS w w5 N M D B g G P o (.slice A1 o.ns.length c1) (.slice A2 o.ns.length c2) (.slice A3 o.ns.length c3) (.slice A4 o.ns.length c4) wr)) (fun i _ => o.ns.length - (intOf i).toNat)
          case atStart => exact ⟨0, rfl, Nat.zero_le _, HS⟩
          case round =>
            obtain ⟨x, rfl, hx, HS⟩ := hrel
            obtain ⟨wy, hwy⟩ : ∃ wy, wy = wr := ⟨_, rfl⟩
            subst hwy
            by_cases hltx : x < o.ns.length
            · have C1 := Lib.hid (fun W h => HSE.out W h x hltx)
              have C2 := Lib.hid (fun W h => HRS.out W h x hltx)
              obtain ⟨y, hy⟩ : ∃ y, S x = y := ⟨_, rfl⟩
              rw [hy] at C1 C2
              have hvv : ((y : Int) != (y : Int)) = false := by simp
              clear hy
              go_upto_region 16 with fail
              have HS := Lib.hid HS.out.drew
              obtain ⟨q0, q1, q2, q3⟩ := HS.out.cells
              go_region_held3 (fun W => W.cell? ⟨G, 0, none⟩ = some (.slice A1 o.ns.length c1) ∧ W.cell? ⟨G, 1, none⟩ = some (.slice A2 o.ns.length c2) ∧ W.cell? ⟨G, 2, none⟩ = some (.slice A3 o.ns.length c3) ∧ W.cell? ⟨G, 3, none⟩ = some (.slice A4 o.ns.length c4)) (((try dsimp only); (repeat' apply And.intro) <;> first | (with_reducible assumption) | go_keep)) (first
                | (go_at_call 15; (with_reducible refine (C1.out _ HS.out).mono ?_); rintro e w7 ⟨rfl, hp, ht⟩; have HS := Lib.hid (HS.out.tr hp ht); clear hp ht; obtain ⟨q0, q1, q2, q3⟩ := HS.out.cells)
                | (go_at_call 16; (with_reducible refine (C2.out _ HS.out.r.lat).mono ?_); rintro e w7 ⟨rfl, hb⟩; have HS := Lib.hid (HS.out.below hb); clear hb; obtain ⟨q0, q1, q2, q3⟩ := HS.out.cells)
                | fail)
              go_wp2
              go_roundw
              case rel => exact ⟨x + 1, by go_num, hltx, HS⟩
              case measure => simp [intOf]; omega
            · have e : x = o.ns.length := by omega
              subst e
              by_cases h1 : 0 ≤ a
              · have d1 : decide (a < 0) = false := decide_eq_false (by omega)
                by_cases h2 : 0 ≤ b
                · have d2 : decide (b < 0) = false := decide_eq_false (by omega)
                  by_cases h3 : a < (o.ns.length : Int)
                  · have d3 : decide ((o.ns.length : Int) ≤ a) = false := decide_eq_false (by omega)
                    by_cases h4 : b < (o.ns.length : Int)
                    · have d4 : decide ((o.ns.length : Int) ≤ b) = false := decide_eq_false (by omega)
                      obtain ⟨i, hi⟩ : ∃ i : Nat, a = i := ⟨a.toNat, by omega⟩
                      obtain ⟨k, hk⟩ : ∃ k : Nat, b = k := ⟨b.toNat, by omega⟩
                      have il : i < o.ns.length := by omega
                      have kl : k < o.ns.length := by omega
                      have C1 := Lib.hid (fun W h => HAP.out W h i k il kl)
                      have C2 := Lib.hid (fun W h => HRS.out W h i il)
                      have C3 := Lib.hid (fun W h => HRS.out W h k kl)
                      have C4 := Lib.hid (fun W => rapart_any W (S i) (S k) (hS64 i) (hS64 k))
                      rw [← hi, ← hk] at C1
                      rw [← hi] at C2
                      rw [← hk] at C3
                      obtain ⟨x1, hx1⟩ : ∃ y, S i = y := ⟨_, rfl⟩
                      obtain ⟨x2, hx2⟩ : ∃ y, S k = y := ⟨_, rfl⟩
                      rw [hx1, hx2] at C1 C4
                      rw [hx1] at C2
                      rw [hx2] at C3
                      obtain ⟨d, hd⟩ : ∃ d, apartS x1 x2 = d := ⟨_, rfl⟩
                      rw [hd] at C1 C4
                      have hdd : ((d : Int) == (d : Int)) = true := by simp
                      clear hx1 hx2 hd hi hk
                      go_upto_region 20 with fail
                      have HS := Lib.hid HS.out.drew
                      obtain ⟨q0, q1, q2, q3⟩ := HS.out.cells
                      go_region_held3 (fun W => W.cell? ⟨G, 0, none⟩ = some (.slice A1 o.ns.length c1) ∧ W.cell? ⟨G, 1, none⟩ = some (.slice A2 o.ns.length c2) ∧ W.cell? ⟨G, 2, none⟩ = some (.slice A3 o.ns.length c3) ∧ W.cell? ⟨G, 3, none⟩ = some (.slice A4 o.ns.length c4)) (((try dsimp only); (repeat' apply And.intro) <;> first | (with_reducible assumption) | go_keep)) (first
                        | (go_at_call 17; (with_reducible refine (C1.out _ HS.out).mono ?_); rintro e w7 ⟨rfl, hp, ht⟩; have HS := Lib.hid (HS.out.tr hp ht); clear hp ht; obtain ⟨q0, q1, q2, q3⟩ := HS.out.cells)
                        | (go_at_call 16; (with_reducible refine (C2.out _ HS.out.r.lat).mono ?_); rintro e w7 ⟨rfl, hb⟩; have HS := Lib.hid (HS.out.below hb); clear hb; obtain ⟨q0, q1, q2, q3⟩ := HS.out.cells)
                        | (go_at_call 16; (with_reducible refine (C3.out _ HS.out.r.lat).mono ?_); rintro e w7 ⟨rfl, hb⟩; have HS := Lib.hid (HS.out.below hb); clear hb; obtain ⟨q0, q1, q2, q3⟩ := HS.out.cells)
                        | (go_at_call 18; (with_reducible refine (C4.out _).mono ?_); rintro e w7 ⟨rfl, rfl⟩)
                        | (go_at_call 10; (with_reducible refine (awake15_any HI _).mono ?_); rintro e w9 ⟨rfl, b9⟩; have HS := Lib.hid (HS.out.below b9); clear b9; obtain ⟨q0, q1, q2, q3⟩ := HS.out.cells)
                        | fail)
                      go_wp2
                      go_ret
                      exact ⟨rfl, HS.out.b⟩
                    · have d4 : decide ((o.ns.length : Int) ≤ b) = true := decide_eq_true (by omega)
                      have HAO := Lib.hid (HAN.out (by unfold inI; simp; omega))
                      go_wp2_with (first
                        | (go_at_call 17; (with_reducible refine (HAO.out _ HS.out).mono ?_); rintro e w7 ⟨rfl, hp, ht⟩; have HS := Lib.hid (HS.out.tr hp ht); clear hp ht)
                        | (go_at_call 15; (with_reducible refine (HSN.out _ HS.out).mono ?_); rintro e w7 ⟨rfl, hp, ht⟩; have HS := Lib.hid (HS.out.tr hp ht); clear hp ht)
                        | (go_at_call 15; (with_reducible refine (HSM.out _ HS.out).mono ?_); rintro e w7 ⟨rfl, hp, ht⟩; have HS := Lib.hid (HS.out.tr hp ht); clear hp ht)
                        | (go_at_call 10; (with_reducible refine (awake15_any HI _).mono ?_); rintro e w9 ⟨rfl, b9⟩; have HS := Lib.hid (HS.out.below b9); clear b9)
                        | fail)
                      go_ret
                      exact ⟨rfl, HS.out.b⟩
                  · have d3 : decide ((o.ns.length : Int) ≤ a) = true := decide_eq_true (by omega)
                    have HAO := Lib.hid (HAN.out (by unfold inI; simp; omega))
                    go_wp2_with (first
                      | (go_at_call 17; (with_reducible refine (HAO.out _ HS.out).mono ?_); rintro e w7 ⟨rfl, hp, ht⟩; have HS := Lib.hid (HS.out.tr hp ht); clear hp ht)
                      | (go_at_call 15; (with_reducible refine (HSN.out _ HS.out).mono ?_); rintro e w7 ⟨rfl, hp, ht⟩; have HS := Lib.hid (HS.out.tr hp ht); clear hp ht)
                      | (go_at_call 15; (with_reducible refine (HSM.out _ HS.out).mono ?_); rintro e w7 ⟨rfl, hp, ht⟩; have HS := Lib.hid (HS.out.tr hp ht); clear hp ht)
                      | (go_at_call 10; (with_reducible refine (awake15_any HI _).mono ?_); rintro e w9 ⟨rfl, b9⟩; have HS := Lib.hid (HS.out.below b9); clear b9)
                      | fail)
                    go_ret
                    exact ⟨rfl, HS.out.b⟩
                · have d2 : decide (b < 0) = true := decide_eq_true (by omega)
                  have HAO := Lib.hid (HAN.out (by unfold inI; simp; omega))
                  go_wp2_with (first
                    | (go_at_call 17; (with_reducible refine (HAO.out _ HS.out).mono ?_); rintro e w7 ⟨rfl, hp, ht⟩; have HS := Lib.hid (HS.out.tr hp ht); clear hp ht)
                    | (go_at_call 15; (with_reducible refine (HSN.out _ HS.out).mono ?_); rintro e w7 ⟨rfl, hp, ht⟩; have HS := Lib.hid (HS.out.tr hp ht); clear hp ht)
                    | (go_at_call 15; (with_reducible refine (HSM.out _ HS.out).mono ?_); rintro e w7 ⟨rfl, hp, ht⟩; have HS := Lib.hid (HS.out.tr hp ht); clear hp ht)
                    | (go_at_call 10; (with_reducible refine (awake15_any HI _).mono ?_); rintro e w9 ⟨rfl, b9⟩; have HS := Lib.hid (HS.out.below b9); clear b9)
                    | fail)
                  go_ret
                  exact ⟨rfl, HS.out.b⟩
              · have d1 : decide (a < 0) = true := decide_eq_true (by omega)
                have HAO := Lib.hid (HAN.out (by unfold inI; simp; omega))
                go_wp2_with (first
                  | (go_at_call 17; (with_reducible refine (HAO.out _ HS.out).mono ?_); rintro e w7 ⟨rfl, hp, ht⟩; have HS := Lib.hid (HS.out.tr hp ht); clear hp ht)
                  | (go_at_call 15; (with_reducible refine (HSN.out _ HS.out).mono ?_); rintro e w7 ⟨rfl, hp, ht⟩; have HS := Lib.hid (HS.out.tr hp ht); clear hp ht)
                  | (go_at_call 15; (with_reducible refine (HSM.out _ HS.out).mono ?_); rintro e w7 ⟨rfl, hp, ht⟩; have HS := Lib.hid (HS.out.tr hp ht); clear hp ht)
                  | (go_at_call 10; (with_reducible refine (awake15_any HI _).mono ?_); rintro e w9 ⟨rfl, b9⟩; have HS := Lib.hid (HS.out.below b9); clear b9)
                  | fail)
                go_ret
                exact ⟨rfl, HS.out.b⟩
    · have HRF := Lib.hid (fun (w1 : World) (b : Below w.heap.size w w1) => right_not A n c L w1 (hL.up b) (by omega) hnc hs6 hR)
      clear hg hg2 hs hL hs6 hR
      go_enter Try.func3, Try.ntmps3
      go_wp2_with (first
        | (go_at_call 8; refine HG.out.mono ?_; rintro e w1 ⟨rfl, b1⟩; have B1 := Lib.hid b1; clear b1)
        | (go_at_call 9; (with_reducible refine (HRF.out _ B1.out).mono ?_); rintro e w2 ⟨rfl, b2⟩; have B2 := Lib.hid (B1.out.trans (b2.mono B1.out.size)); clear b2)
        | (go_at_call 10; refine (awake15_any HI _).mono ?_; rintro e w9 ⟨rfl, b9⟩)
        | go_in)
      go_ret
      exact ⟨rfl, B2.out.trans (b9.mono B2.out.size)⟩
end Go.Proofs.Ytnhdpegjkkaabaa
