/-
  blazonlaw15.IrredWhole: the walk, over what is asked of irreducibles: each element is the join of its set.
-/
import Derived.Test.YtnhdpegjkkaabaaIrE
import Derived.BigQuiet
import Derived.Deep.QuietTactic
import Derived.Deep.RegionHeld3
import Derived.Deep.DeepCutAuto
namespace Go.Proofs.Ytnhdpegjkkaabaa
set_option linter.unusedVariables false
set_option linter.unusedSimpArgs false
open Go.RowKit Go.Maps

theorem apartS_le (a b : Nat) : apartS a b ≤ 64 := by
  have : ∀ k, apartK a b k ≤ k := fun k => by
    unfold apartK
    have := List.countP_le_length (p := fun i => a.testBit i != b.testBit i) (l := List.range k)
    simpa using this
  exact this 64
theorem ap_el {w w5 W : World} {N M D : Nat → Prop} {B g G : Nat} {P : World → Prop} {o : Od} {v m js ms : Value} (h : IrS w w5 N M D B g G P o v m js ms W) {a b c : Nat} (ha : a < o.ns.length) (hb : b < o.ns.length) (e : apartS (setS (rmost o) o.ns.length a) (setS (rmost o) o.ns.length b) = c) :
    Calls Try.prog 17 #[.pointer (some ⟨g, 0, none⟩), .int .i64 (a : Int), .int .i64 (b : Int)] W (IrTo M P W (.int .i64 (c : Int))) := by
  have := h.c.apart (a : Int) (b : Int) h.p
  rwa [irApart_in ha hb, e] at this
theorem downS_lt {n : Nat} {F : Nat → Nat → Bool} (h64 : n ≤ 64) (s : Nat) : downS F n s < 2 ^ 64 :=
  Nat.lt_of_lt_of_le (bset_lt _ _) (Nat.pow_le_pow_right (by omega) (Nat.le_trans irr_len h64))
theorem rowsB_lo {w : World} {B n : Nat} {f : Nat → Nat → Bool} {rows : List Value} {M : Option Addr} {c : Nat} (hv : Own w B 52 1 (.slice M n c) n rows) (hl : rows.length = n) (h : RowsAt w B n f rows) (hn : 0 < n) :
    ∃ (mb : Nat) (rb rc : Nat → Nat), M = some ⟨mb, 0, none⟩ ∧ B ≤ mb ∧ ∀ x, x < n → B ≤ rb x ∧ w.cell? ⟨mb, x, none⟩ = some (.slice (some ⟨rb x, 0, none⟩) n (rc x)) ∧ ∀ y, y < n → w.cell? ⟨rb x, y, none⟩ = some (.bool (f x y)) := by
  obtain ⟨g, cap, hg, hgB, _⟩ := hv.1.form hn
  have hM : M = some ⟨g, 0, none⟩ := by injection hg
  subst hM
  have h2 : ∀ x, ∃ r : Nat × Nat, x < n → B ≤ r.1 ∧ w.cell? ⟨g, x, none⟩ = some (.slice (some ⟨r.1, 0, none⟩) n r.2) ∧ ∀ y, y < n → w.cell? ⟨r.1, y, none⟩ = some (.bool (f x y)) := by
    intro x
    by_cases hx : x < n
    · obtain ⟨P, d, e, ho⟩ := h x (by omega)
      obtain ⟨q, cap2, hq, hqB, _⟩ := ho.1.form hn
      have hP : P = some ⟨q, 0, none⟩ := by injection hq
      subst hP
      refine ⟨(q, d), fun _ => ⟨hqB, ?_, fun y hy => ?_⟩⟩
      · obtain ⟨b, off, eb, _, hc⟩ := hv.sh.2 hn
        cases eb
        have := hc x _ e
        rwa [Nat.zero_add] at this
      · obtain ⟨b, off, eb, _, hc⟩ := ho.sh.2 hn
        cases eb
        have := hc y (.bool (f x y)) (by unfold bools; rw [List.getElem?_map, List.getElem?_range hy]; rfl)
        rwa [Nat.zero_add] at this
    · exact ⟨(0, 0), fun h => absurd h hx⟩
  obtain ⟨r, hr⟩ := Classical.axiomOfChoice h2
  exact ⟨g, fun x => (r x).1, fun x => (r x).2, rfl, hgB, hr⟩
theorem RefOwn.rows {w : World} {B : Nat} {o : Od} {v m : Value} (h : RefOwn w B o v m) (hn : 0 < o.ns.length) :
    ∃ (mb : Nat) (rb rc : Nat → Nat) (c : Nat), m = .slice (some ⟨mb, 0, none⟩) o.ns.length c ∧ B ≤ mb ∧ ∀ x, x < o.ns.length → B ≤ rb x ∧ w.cell? ⟨mb, x, none⟩ = some (.slice (some ⟨rb x, 0, none⟩) o.ns.length (rc x)) ∧ ∀ y, y < o.ns.length → w.cell? ⟨rb x, y, none⟩ = some (.bool (o.most x y)) := by
  obtain ⟨_, B1, A, c, M, d, B2, rows, h1, h2, _, rfl, _, h3, h4, h5⟩ := h
  obtain ⟨mb, rb, rc, rfl, hb, hr⟩ := rowsB_lo h3 h4 h5 hn
  exact ⟨mb, rb, rc, d, rfl, Nat.le_trans h2 hb, fun x hx => ⟨Nat.le_trans h2 (hr x hx).1, (hr x hx).2⟩⟩

set_option maxRecDepth 100000 in
set_option maxHeartbeats 1600000 in
theorem irredWhole_over (HI : IrNew) (A : Option Addr) (n c : Nat) (L : List OPa) (s_ : Int) (hs_ : (Lit.int .u64 s_).wf = true) (w : World) (hn : n ≤ maxLen) (hL : ShP w w.heap.size A n L) (hs : ∀ t ∈ L, t.1.1.size ≤ maxLen ∧ t.1.2.size ≤ maxLen) (hnc : n ≤ c) :
    Calls Try.prog 5 #[.slice A n c, .int .u64 s_] w fun e w' => e = .returned (.bool true) ∧ Below w.heap.size w w' := by
  obtain ⟨hs0, hs1⟩ := bounds_u64 hs_
  obtain ⟨s, rfl⟩ : ∃ s : Nat, s_ = s := ⟨s_.toNat, by omega⟩
  have hs64 : s < 2 ^ 64 := by omega
  have HG := Lib.hid (ogreat_any A n c 12 L w hL hn (by decide) hs)
  cases hg : oGreat (L.map (·.1)) 12 with
  | true =>
    rw [hg] at HG
    clear hg hL hs
    go_enter Try.func5, Try.ntmps5
    go_wp2_with (first
      | (go_at_call 8; refine HG.out.mono ?_; rintro e w1 ⟨rfl, b1⟩; have B1 := Lib.hid b1; clear b1)
      | (go_at_call 10; refine (awake15_any HI _).mono ?_; rintro e w9 ⟨rfl, b9⟩)
      | go_in)
    go_ret
    exact ⟨rfl, B1.out.trans (b9.mono B1.out.size)⟩
  | false =>
    rw [hg] at HG
    have hg2 := oGreat_no hg
    have hn12 : n ≤ 12 := by have := hg2.1; rw [List.length_map, hL.len] at this; exact this
    have hs6 : ∀ t ∈ L, t.1.1.size ≤ 1000000 ∧ t.1.2.size ≤ 1000000 := fun t ht => by have := hg2.2 t.1 (List.mem_map_of_mem ht); omega
    rcases right_cases (l := L.map (·.1)) with hR | hR
    · have HRT := Lib.hid (fun (w1 : World) (b : Below w.heap.size w w1) => right_yes A n c L w1 (hL.up b) (by omega) hnc hs6 hR)
      obtain ⟨o, ho, h0, hLt⟩ := hR
      have HMD := Lib.hid (fun (w1 : World) (b : Below w.heap.size w w1) => made_any HI A n c L w1 (hL.up b) (by omega) hnc hs6 ho h0 hLt)
      have hl64 := (newO_osd ho).wf.len
      have H0 := Lib.hid h0
      have HLT := Lib.hid hLt
      clear hg hg2 hs hL hs6 ho h0 hLt
      go_enter Try.func5, Try.ntmps5
      go_upto_region 4 with (first
        | (go_at_call 8; refine HG.out.mono ?_; rintro e w1 ⟨rfl, b1⟩; have B1 := Lib.hid b1; clear b1)
        | (go_at_call 9; (with_reducible refine (HRT.out _ B1.out).mono ?_); rintro e w2 ⟨rfl, b2⟩; have B2 := Lib.hid (B1.out.trans (b2.mono B1.out.size)); clear b2)
        | (go_at_call 11; (with_reducible refine (HMD.out _ B2.out).mono ?_); rintro e w3 ⟨b3, g, B, M, D, N, P, w5, A1, A2, A3, A4, c1, c2, c3, c4, rfl, hc, hp, hM, hr⟩; have HS := Lib.hid (IrS.start (B2.out.trans (b3.mono B2.out.size)) hc hp B2.out.size hM hr); clear b3 hc hp hM hr)
        | fail)
      obtain ⟨G, hG⟩ : ∃ G, w3.heap.size = G := ⟨_, rfl⟩
      rw [hG] at HS
      rw [hG]
      obtain ⟨W0, hW0⟩ : ∃ W0, w3.alloc (.cells #[.slice A1 o.ns.length c1, .slice A2 o.ns.length c2, .slice A3 o.ns.length c3, .slice A4 o.ns.length c4] 33) = W0 := ⟨_, rfl⟩
      rw [hW0] at HS
      rw [hW0]
      clear hG hW0 HRT HMD
      obtain ⟨nb, nr, nc, cc, en, g1, hrw⟩ := RefOwn.rows HS.out.r.hr H0.out
      injection en with en1 _ en2
      subst en1
      have HTB := Lib.hid hrw
      clear hrw en2
      obtain ⟨S, hS⟩ : ∃ S : Nat → Nat, setS (rmost o) o.ns.length = S := ⟨_, rfl⟩
      have hS64 : ∀ a, S a < 18446744073709551616 := fun a => by rw [← hS]; exact setS_lt hl64 a
      have HSE := Lib.hid (fun W (h : IrS w w5 N M D B g G P o (.slice A1 o.ns.length c1) (.slice (some ⟨nb, 0, none⟩) o.ns.length c2) (.slice A3 o.ns.length c3) (.slice A4 o.ns.length c4) W) (a : Nat) (ha : a < o.ns.length) => (by
        have := h.c.set (a : Int) h.p
        rwa [irSet_in ha, hS] at this : Calls Try.prog 15 #[.pointer (some ⟨g, 0, none⟩), .int .i64 (a : Int)] W (IrTo M P W (.int .u64 (S a : Int)))))
      have HOF := Lib.hid (fun W (h : IrS w w5 N M D B g G P o (.slice A1 o.ns.length c1) (.slice (some ⟨nb, 0, none⟩) o.ns.length c2) (.slice A3 o.ns.length c3) (.slice A4 o.ns.length c4) W) (s : Nat) (hs : s < 2 ^ 64) => h.c.of s hs h.p)
      have HDN := Lib.hid (fun W (h : IrS w w5 N M D B g G P o (.slice A1 o.ns.length c1) (.slice (some ⟨nb, 0, none⟩) o.ns.length c2) (.slice A3 o.ns.length c3) (.slice A4 o.ns.length c4) W) (s : Nat) (hs : s < 2 ^ 64) => h.c.down s hs h.p)
      have HIS := Lib.hid (fun W (h : IrS w w5 N M D B g G P o (.slice A1 o.ns.length c1) (.slice (some ⟨nb, 0, none⟩) o.ns.length c2) (.slice A3 o.ns.length c3) (.slice A4 o.ns.length c4) W) (s : Nat) (hs : s < 2 ^ 64) => h.c.is_ s hs h.p)
      have HAP := Lib.hid (fun W (h : IrS w w5 N M D B g G P o (.slice A1 o.ns.length c1) (.slice (some ⟨nb, 0, none⟩) o.ns.length c2) (.slice A3 o.ns.length c3) (.slice A4 o.ns.length c4) W) (a b : Nat) (ha : a < o.ns.length) (hb : b < o.ns.length) => (by
        have := ap_el h ha hb rfl
        rwa [hS] at this : Calls Try.prog 17 #[.pointer (some ⟨g, 0, none⟩), .int .i64 (a : Int), .int .i64 (b : Int)] W (IrTo M P W (.int .i64 (apartS (S a) (S b) : Nat)))))
      unfold IrTo at HSE HOF HDN HIS HAP
      have HQ1 := Lib.hid (fun a (ha : a < o.ns.length) => (by rw [← hS]; exact ofS_setS HLT.out H0.out ha : ofS (rmost o) o.ns.length (S a) = a))
      have HQ2 := Lib.hid (fun a (ha : a < o.ns.length) => (by rw [← hS]; exact downS_setS HLT.out ha : downS (rmost o) o.ns.length (S a) = S a))
      have HQ3 := Lib.hid (fun a b (ha : a < o.ns.length) (hb : b < o.ns.length) => (by rw [← hS]; exact setS_within HLT.out H0.out ha hb : rmost o a b = true ↔ S a &&& S b = S a))
      have HQ4 := Lib.hid (fun a b (ha : a < o.ns.length) (hb : b < o.ns.length) => (by rw [← hS]; exact apart_zero HLT.out H0.out hl64 ha hb : apartS (S a) (S b) = 0 ↔ a = b))
      have HQ5 := Lib.hid (by rw [← hS]; exact setS_ofS HLT.out H0.out s : S (ofS (rmost o) o.ns.length s) = downS (rmost o) o.ns.length s)
      have hdl : downS (rmost o) o.ns.length s < 2 ^ 64 := downS_lt hl64 s
      have HQ6 := Lib.hid (downS_two HLT.out s)
      have HQ7 := Lib.hid (ofS_downS HLT.out H0.out s)
      have hol := ofS_lt HLT.out H0.out s
      clear hS
      obtain ⟨q0, q1, q2, q3⟩ := HS.out.cells
      go_upto_region 5 with fail
      clear q0 q1 q2 q3
      go_wp2_with fail
      go_loopw [8] (fun i wr => ∃ a : Nat, i = .int .i64 (a : Int) ∧ a ≤ o.ns.length ∧ Hid (IrS w w5 N M D B g G P o (.slice A1 o.ns.length c1) (.slice (some ⟨nb, 0, none⟩) o.ns.length c2) (.slice A3 o.ns.length c3) (.slice A4 o.ns.length c4) wr)) (fun i _ => o.ns.length - (intOf i).toNat)
      case atStart => exact ⟨0, rfl, Nat.zero_le _, HS⟩
      case round =>
        obtain ⟨a, rfl, ha, HS⟩ := hrel
        obtain ⟨wz, hwz⟩ : ∃ wz, wz = wr := ⟨_, rfl⟩
        subst hwz
        by_cases hlta : a < o.ns.length
        · have C1 := Lib.hid (fun W h => HSE.out W h a hlta)
          have C2 := Lib.hid (fun W h => HOF.out W h (S a) (hS64 a))
          have C3 := Lib.hid (fun W h => HIS.out W h (S a) (hS64 a))
          rw [HQ1.out a hlta] at C2
          rw [decide_eq_true (HQ2.out a hlta)] at C3
          have HSa := hS64 a
          obtain ⟨x, hx⟩ : ∃ x, S a = x := ⟨_, rfl⟩
          have HX := Lib.hid hx
          rw [hx] at C1 C2 C3 HSa
          clear hx
          go_wp2_with (first
            | (go_at_call 15; (with_reducible refine (C1.out _ HS.out).mono ?_); rintro e w7 ⟨rfl, hp, ht⟩; have HS := Lib.hid (HS.out.tr hp ht); clear hp ht)
            | (go_at_call 19; (with_reducible refine (C2.out _ HS.out).mono ?_); rintro e w7 ⟨rfl, hp, ht⟩; have HS := Lib.hid (HS.out.tr hp ht); clear hp ht)
            | (go_at_call 23; (with_reducible refine (C3.out _ HS.out).mono ?_); rintro e w7 ⟨rfl, hp, ht⟩; have HS := Lib.hid (HS.out.tr hp ht); clear hp ht)
            | fail)
          go_loopw [9] (fun i wr => ∃ b : Nat, i = .int .i64 (b : Int) ∧ b ≤ o.ns.length ∧ Hid (IrS w w5 N M D B g G P o (.slice A1 o.ns.length c1) (.slice (some ⟨nb, 0, none⟩) o.ns.length c2) (.slice A3 o.ns.length c3) (.slice A4 o.ns.length c4) wr)) (fun i _ => o.ns.length - (intOf i).toNat)
          case atStart => exact ⟨0, rfl, Nat.zero_le _, HS⟩
          case round =>
            obtain ⟨b, rfl, hb, HS⟩ := hrel
            obtain ⟨wy, hwy⟩ : ∃ wy, wy = wr := ⟨_, rfl⟩
            subst hwy
            by_cases hltb : b < o.ns.length
            · have tr1 := HTB.out a hlta
              have tr2 := tr1.2.2 b hltb
              have E1 := Lib.hid (fun W h => HSE.out W h b hltb)
              have E2 := Lib.hid (fun W h => HAP.out W h a b hlta hltb)
              have hw := HQ3.out a b hlta hltb
              have hz0 := HQ4.out a b hlta hltb
              rw [HX.out] at E2 hw hz0
              have hSb := hS64 b
              obtain ⟨y, hy⟩ : ∃ y, S b = y := ⟨_, rfl⟩
              rw [hy] at E1 E2 hw hz0 hSb
              obtain ⟨z, hz⟩ : ∃ z, rmost o a b = z := ⟨_, rfl⟩
              have tr2 : w5.cell? ⟨nr a, b, none⟩ = some (.bool z) := by rw [← hz]; exact tr2
              rw [hz] at hw
              have hand := u64_and_nat x y HSa hSb
              obtain ⟨xy, hxy⟩ : ∃ xy, x &&& y = xy := ⟨_, rfl⟩
              rw [hxy] at hw hand
              obtain ⟨ap, hap⟩ : ∃ ap, apartS x y = ap := ⟨_, rfl⟩
              rw [hap] at E2 hz0
              have d1 : ((xy : Int) == (x : Int)) = z := by rw [Bool.eq_iff_iff, hw]; simp; omega
              obtain ⟨e, he⟩ : ∃ e, ((a : Int) == (b : Int)) = e := ⟨_, rfl⟩
              have d2 : ((ap : Int) == 0) = e := by rw [← he, Bool.eq_iff_iff]; simp; omega
              have d3 : (z != z) = false := by simp
              have d4 : (e != e) = false := by simp
              obtain ⟨R1, hR1⟩ : ∃ R, nr a = R := ⟨_, rfl⟩
              obtain ⟨R2, hR2⟩ : ∃ R, nc a = R := ⟨_, rfl⟩
              rw [hR1, hR2] at tr1
              rw [hR1] at tr2
              have HC6 := Lib.hid (fun W (h : IrS w w5 N M D B g G P o (.slice A1 o.ns.length c1) (.slice (some ⟨nb, 0, none⟩) o.ns.length c2) (.slice A3 o.ns.length c3) (.slice A4 o.ns.length c4) W) => (⟨(h.cells).2.1, h.r.cell g1 tr1.2.1, h.r.cell tr1.1 tr2⟩ : W.cell? ⟨G, 1, none⟩ = some (.slice (some ⟨nb, 0, none⟩) o.ns.length c2) ∧ W.cell? ⟨nb, a, none⟩ = some (.slice (some ⟨R1, 0, none⟩) o.ns.length R2) ∧ W.cell? ⟨R1, b, none⟩ = some (.bool z)))
              clear hw hz0 hy hz hxy hap tr1 tr2 hR1 hR2
              go_upto_region 13 with fail
              have HS := Lib.hid HS.out.drew
              obtain ⟨q0, q1, q2⟩ := HC6.out _ HS.out
              go_region_held3 (fun W => W.cell? ⟨G, 1, none⟩ = some (.slice (some ⟨nb, 0, none⟩) o.ns.length c2) ∧ W.cell? ⟨nb, a, none⟩ = some (.slice (some ⟨R1, 0, none⟩) o.ns.length R2) ∧ W.cell? ⟨R1, b, none⟩ = some (.bool z)) (((try dsimp only); (repeat' apply And.intro) <;> first | (with_reducible assumption) | go_keep)) (first
                | (go_at_call 15; (with_reducible refine (C1.out _ HS.out).mono ?_); rintro e w7 ⟨rfl, hp, ht⟩; have HS := Lib.hid (HS.out.tr hp ht); clear hp ht; obtain ⟨q0, q1, q2⟩ := HC6.out _ HS.out)
                | (go_at_call 15; (with_reducible refine (E1.out _ HS.out).mono ?_); rintro e w7 ⟨rfl, hp, ht⟩; have HS := Lib.hid (HS.out.tr hp ht); clear hp ht; obtain ⟨q0, q1, q2⟩ := HC6.out _ HS.out)
                | (go_at_call 17; (with_reducible refine (E2.out _ HS.out).mono ?_); rintro e w7 ⟨rfl, hp, ht⟩; have HS := Lib.hid (HS.out.tr hp ht); clear hp ht; obtain ⟨q0, q1, q2⟩ := HC6.out _ HS.out)
                | fail)
              go_wp2
              go_roundw
              case rel => exact ⟨b + 1, by go_num, hltb, HS⟩
              case measure => simp [intOf]; omega
            · obtain e : b = o.ns.length := by omega
              subst e
              go_wp2
              go_roundw
              case rel => exact ⟨a + 1, by go_num, hlta, HS⟩
              case measure => simp [intOf]; omega
        · obtain e : a = o.ns.length := by omega
          have F1 := Lib.hid (fun W h => HDN.out W h s hs64)
          have F2 := Lib.hid (fun W h => HIS.out W h (downS (rmost o) o.ns.length s) hdl)
          have F3 := Lib.hid (fun W h => HOF.out W h (downS (rmost o) o.ns.length s) hdl)
          have F4 := Lib.hid (fun W h => HOF.out W h s hs64)
          have F5 := Lib.hid (fun W h => HSE.out W h (ofS (rmost o) o.ns.length s) hol)
          rw [decide_eq_true HQ6.out] at F2
          rw [HQ7.out] at F3
          rw [HQ5.out] at F5
          obtain ⟨d, hd⟩ : ∃ d, downS (rmost o) o.ns.length s = d := ⟨_, rfl⟩
          obtain ⟨x, hx⟩ : ∃ x, ofS (rmost o) o.ns.length s = x := ⟨_, rfl⟩
          rw [hd] at F1 F2 F3 F5
          rw [hx] at F3 F4 F5
          have hnl : ¬ a < o.ns.length := hlta
          clear hd hx hdl hol e
          go_wp2_with (first
            | (go_at_call 21; (with_reducible refine (F1.out _ HS.out).mono ?_); rintro e w7 ⟨rfl, hp, ht⟩; have HS := Lib.hid (HS.out.tr hp ht); clear hp ht)
            | (go_at_call 23; (with_reducible refine (F2.out _ HS.out).mono ?_); rintro e w7 ⟨rfl, hp, ht⟩; have HS := Lib.hid (HS.out.tr hp ht); clear hp ht)
            | (go_at_call 19; (with_reducible refine (F3.out _ HS.out).mono ?_); rintro e w7 ⟨rfl, hp, ht⟩; have HS := Lib.hid (HS.out.tr hp ht); clear hp ht)
            | (go_at_call 19; (with_reducible refine (F4.out _ HS.out).mono ?_); rintro e w7 ⟨rfl, hp, ht⟩; have HS := Lib.hid (HS.out.tr hp ht); clear hp ht)
            | (go_at_call 15; (with_reducible refine (F5.out _ HS.out).mono ?_); rintro e w7 ⟨rfl, hp, ht⟩; have HS := Lib.hid (HS.out.tr hp ht); clear hp ht)
            | (go_at_call 10; (with_reducible refine (awake15_any HI _).mono ?_); rintro e w9 ⟨rfl, b9⟩; have HS := Lib.hid (HS.out.below b9); clear b9)
            | fail)
          go_ret
          exact ⟨rfl, HS.out.b⟩
    · have HRF := Lib.hid (fun (w1 : World) (b : Below w.heap.size w w1) => right_not A n c L w1 (hL.up b) (by omega) hnc hs6 hR)
      clear hg hg2 hs hL hs6 hR
      go_enter Try.func5, Try.ntmps5
      go_wp2_with (first
        | (go_at_call 8; refine HG.out.mono ?_; rintro e w1 ⟨rfl, b1⟩; have B1 := Lib.hid b1; clear b1)
        | (go_at_call 9; (with_reducible refine (HRF.out _ B1.out).mono ?_); rintro e w2 ⟨rfl, b2⟩; have B2 := Lib.hid (B1.out.trans (b2.mono B1.out.size)); clear b2)
        | (go_at_call 10; refine (awake15_any HI _).mono ?_; rintro e w9 ⟨rfl, b9⟩)
        | go_in)
      go_ret
      exact ⟨rfl, B2.out.trans (b9.mono B2.out.size)⟩
end Go.Proofs.Ytnhdpegjkkaabaa
