/-
  blazonlaw15.IrredFar: the walk, over what is asked of irreducibles: by how much two elements are apart.
-/
import Derived.Test.YtnhdpegjkkaabaaIrE
import Derived.BigQuiet
import Derived.Deep.QuietTactic
import Derived.Deep.RegionHeld3
import Derived.Deep.DeepCutAuto
namespace Go.Proofs.Ytnhdpegjkkaabaa
set_option linter.unusedVariables false
set_option linter.unusedSimpArgs false
open Go.RowKit Go.Maps

theorem apartS_le (a b : Nat) : apartS a b ≤ 64 := by
  have : ∀ k, apartK a b k ≤ k := fun k => by
    unfold apartK
    have := List.countP_le_length (p := fun i => a.testBit i != b.testBit i) (l := List.range k)
    simpa using this
  exact this 64
theorem ap_el {w w5 W : World} {N M D : Nat → Prop} {B g G : Nat} {P : World → Prop} {o : Od} {v m js ms : Value} (h : IrS w w5 N M D B g G P o v m js ms W) {a b c : Nat} (ha : a < o.ns.length) (hb : b < o.ns.length) (e : apartS (setS (rmost o) o.ns.length a) (setS (rmost o) o.ns.length b) = c) :
    Calls Try.prog 17 #[.pointer (some ⟨g, 0, none⟩), .int .i64 (a : Int), .int .i64 (b : Int)] W (IrTo M P W (.int .i64 (c : Int))) := by
  have := h.c.apart (a : Int) (b : Int) h.p
  rwa [irApart_in ha hb, e] at this

set_option maxRecDepth 100000 in
set_option maxHeartbeats 1600000 in
theorem irredFar_over (HI : IrNew) (A : Option Addr) (n c : Nat) (L : List OPa) (a1 a2 a3 : Int) (hb1 : (Lit.int .u8 a1).wf = true) (hb2 : (Lit.int .u8 a2).wf = true) (hb3 : (Lit.int .u8 a3).wf = true) (w : World) (hn : n ≤ maxLen) (hL : ShP w w.heap.size A n L) (hs : ∀ t ∈ L, t.1.1.size ≤ maxLen ∧ t.1.2.size ≤ maxLen) (hnc : n ≤ c) :
    Calls Try.prog 7 #[.slice A n c, .int .u8 a1, .int .u8 a2, .int .u8 a3] w fun e w' => e = .returned (.bool true) ∧ Below w.heap.size w w' := by
  obtain ⟨hb10, hb11⟩ := bounds_u8 hb1
  obtain ⟨hb20, hb21⟩ := bounds_u8 hb2
  obtain ⟨hb30, hb31⟩ := bounds_u8 hb3
  obtain ⟨m1, rfl⟩ : ∃ m1 : Nat, a1 = m1 := ⟨a1.toNat, by omega⟩
  obtain ⟨m2, rfl⟩ : ∃ m2 : Nat, a2 = m2 := ⟨a2.toNat, by omega⟩
  obtain ⟨m3, rfl⟩ : ∃ m3 : Nat, a3 = m3 := ⟨a3.toNat, by omega⟩
  have HG := Lib.hid (ogreat_any A n c 12 L w hL hn (by decide) hs)
  cases hg : oGreat (L.map (·.1)) 12 with
  | true =>
    rw [hg] at HG
    clear hg hL hs
    go_enter Try.func7, Try.ntmps7
    go_wp2_with (first
      | (go_at_call 8; refine HG.out.mono ?_; rintro e w1 ⟨rfl, b1⟩; have B1 := Lib.hid b1; clear b1)
      | (go_at_call 10; refine (awake15_any HI _).mono ?_; rintro e w9 ⟨rfl, b9⟩)
      | go_in)
    go_ret
    exact ⟨rfl, B1.out.trans (b9.mono B1.out.size)⟩
  | false =>
    rw [hg] at HG
    have hg2 := oGreat_no hg
    have hn12 : n ≤ 12 := by have := hg2.1; rw [List.length_map, hL.len] at this; exact this
    have hs6 : ∀ t ∈ L, t.1.1.size ≤ 1000000 ∧ t.1.2.size ≤ 1000000 := fun t ht => by have := hg2.2 t.1 (List.mem_map_of_mem ht); omega
    rcases right_cases (l := L.map (·.1)) with hR | hR
    · have HRT := Lib.hid (fun (w1 : World) (b : Below w.heap.size w w1) => right_yes A n c L w1 (hL.up b) (by omega) hnc hs6 hR)
      obtain ⟨o, ho, h0, hLt⟩ := hR
      have HMD := Lib.hid (fun (w1 : World) (b : Below w.heap.size w w1) => made_any HI A n c L w1 (hL.up b) (by omega) hnc hs6 ho h0 hLt)
      have hl64 := (newO_osd ho).wf.len
      have H0 := Lib.hid h0
      have HLT := Lib.hid hLt
      clear hg hg2 hs hL hs6 ho h0 hLt
      go_enter Try.func7, Try.ntmps7
      go_upto_region 5 with (first
        | (go_at_call 8; refine HG.out.mono ?_; rintro e w1 ⟨rfl, b1⟩; have B1 := Lib.hid b1; clear b1)
        | (go_at_call 9; (with_reducible refine (HRT.out _ B1.out).mono ?_); rintro e w2 ⟨rfl, b2⟩; have B2 := Lib.hid (B1.out.trans (b2.mono B1.out.size)); clear b2)
        | (go_at_call 11; (with_reducible refine (HMD.out _ B2.out).mono ?_); rintro e w3 ⟨b3, g, B, M, D, N, P, w5, A1, A2, A3, A4, c1, c2, c3, c4, rfl, hc, hp, hM, hr⟩; have HS := Lib.hid (IrS.start (B2.out.trans (b3.mono B2.out.size)) hc hp B2.out.size hM hr); clear b3 hc hp hM hr)
        | fail)
      obtain ⟨G, hG⟩ : ∃ G, w3.heap.size = G := ⟨_, rfl⟩
      rw [hG] at HS
      rw [hG]
      obtain ⟨W0, hW0⟩ : ∃ W0, w3.alloc (.cells #[.slice A1 o.ns.length c1, .slice A2 o.ns.length c2, .slice A3 o.ns.length c3, .slice A4 o.ns.length c4] 33) = W0 := ⟨_, rfl⟩
      rw [hW0] at HS
      rw [hW0]
      clear hG hW0 HRT HMD
      obtain ⟨jb, jc, mb, mc, rb, rc, sb, sc, ej, em, g1, g2, hj, hm⟩ := HS.out.r.ht.rows H0.out
      injection ej with ej1 _ ej2
      injection em with em1 _ em2
      subst ej1 ej2 em1 em2
      have HTJ := Lib.hid hj
      have HTM := Lib.hid hm
      clear hj hm
      obtain ⟨nn, hnn⟩ : ∃ nn, o.ns.length = nn := ⟨_, rfl⟩
      obtain ⟨i, hi⟩ : ∃ i, m1 % nn = i := ⟨_, rfl⟩
      obtain ⟨k, hk⟩ : ∃ k, m2 % nn = k := ⟨_, rfl⟩
      obtain ⟨m, hm⟩ : ∃ m, m3 % nn = m := ⟨_, rfl⟩
      have h0 := H0.out
      have il : i < o.ns.length := by rw [hnn, ← hi]; exact Nat.mod_lt _ (by omega)
      have kl : k < o.ns.length := by rw [hnn, ← hk]; exact Nat.mod_lt _ (by omega)
      have ml : m < o.ns.length := by rw [hnn, ← hm]; exact Nat.mod_lt _ (by omega)
      have rx : ((m1 : Int) % (o.ns.length : Int)) = (i : Int) := by rw [hnn, ← hi]; rfl
      have ry : ((m2 : Int) % (o.ns.length : Int)) = (k : Int) := by rw [hnn, ← hk]; rfl
      have rz : ((m3 : Int) % (o.ns.length : Int)) = (m : Int) := by rw [hnn, ← hm]; rfl
      obtain ⟨tp, htl, etp, htk, _⟩ := HLT.out.top h0
      obtain ⟨bt', hbl, ebt, _, _⟩ := HLT.out.bot h0
      have ebt2 : bt (rmost o) o.ns.length = bt' := by unfold bt; rw [ebt]; rfl
      obtain ⟨S, hS⟩ : ∃ S : Nat → Nat, setS (rmost o) o.ns.length = S := ⟨_, rfl⟩
      have jl := HLT.out.jl il kl
      have ql := HLT.out.ml il kl
      have f1 : apartS (S k) (S i) = apartS (S i) (S k) := apart_comm _ _
      have f2 : apartS (S (jn (rmost o) o.ns.length i k)) (S (mn (rmost o) o.ns.length i k)) = apartS (S i) (S k) := by rw [← hS]; exact apart_jm HLT.out h0 il kl
      have f3 : apartS (S bt') (S tp) = (irr (rmost o) o.ns.length).length := by rw [← hS, ← ebt2]; exact apart_ends HLT.out h0 hl64 htl htk
      have f4 : apartS (S i) (S k) ≤ apartS (S i) (S m) + apartS (S m) (S k) := apart_tri _ _ _ 64
      have HLN := Lib.hid (fun W (h : IrS w w5 N M D B g G P o (.slice A1 o.ns.length c1) (.slice A2 o.ns.length c2) (.slice (some ⟨jb, 0, none⟩) o.ns.length c3) (.slice (some ⟨mb, 0, none⟩) o.ns.length c4) W) => h.c.len h.p)
      have HRB := Lib.hid (fun W (h : LatAt W o (.slice A1 o.ns.length c1) (.slice A2 o.ns.length c2) (.slice (some ⟨jb, 0, none⟩) o.ns.length c3) (.slice (some ⟨mb, 0, none⟩) o.ns.length c4)) => (show Calls Try.prog 25 #[.agg #[.slice A1 o.ns.length c1, .slice A2 o.ns.length c2, .slice (some ⟨jb, 0, none⟩) o.ns.length c3, .slice (some ⟨mb, 0, none⟩) o.ns.length c4]] W fun e w' => e = .returned (.int .i64 (botI (rmost o) o.ns.length)) ∧ Below W.heap.size W w' from rbottom_any h))
      have HRT := Lib.hid (fun W (h : LatAt W o (.slice A1 o.ns.length c1) (.slice A2 o.ns.length c2) (.slice (some ⟨jb, 0, none⟩) o.ns.length c3) (.slice (some ⟨mb, 0, none⟩) o.ns.length c4)) => (show Calls Try.prog 26 #[.agg #[.slice A1 o.ns.length c1, .slice A2 o.ns.length c2, .slice (some ⟨jb, 0, none⟩) o.ns.length c3, .slice (some ⟨mb, 0, none⟩) o.ns.length c4]] W fun e w' => e = .returned (.int .i64 (botI (oflip (rmost o)) o.ns.length)) ∧ Below W.heap.size W w' from rtop_any h))
      unfold IrTo at HLN
      rw [ebt] at HRB
      rw [etp] at HRT
      obtain ⟨ln, hln⟩ : ∃ ln, (irr (rmost o) o.ns.length).length = ln := ⟨_, rfl⟩
      rw [hln] at HLN f3
      obtain ⟨d, hd⟩ : ∃ d, apartS (S i) (S k) = d := ⟨_, rfl⟩
      obtain ⟨d1, hd1⟩ : ∃ d, apartS (S i) (S m) = d := ⟨_, rfl⟩
      obtain ⟨d2, hd2⟩ : ∃ d, apartS (S m) (S k) = d := ⟨_, rfl⟩
      rw [hd] at f1 f2 f4
      rw [hd1, hd2] at f4
      have HA1 := Lib.hid (fun W (h : IrS w w5 N M D B g G P o (.slice A1 o.ns.length c1) (.slice A2 o.ns.length c2) (.slice (some ⟨jb, 0, none⟩) o.ns.length c3) (.slice (some ⟨mb, 0, none⟩) o.ns.length c4) W) => ap_el h il kl (show _ = d by rw [hS]; exact hd))
      have HA2 := Lib.hid (fun W (h : IrS w w5 N M D B g G P o (.slice A1 o.ns.length c1) (.slice A2 o.ns.length c2) (.slice (some ⟨jb, 0, none⟩) o.ns.length c3) (.slice (some ⟨mb, 0, none⟩) o.ns.length c4) W) => ap_el h kl il (show _ = d by rw [hS]; exact f1))
      have HA3 := Lib.hid (fun W (h : IrS w w5 N M D B g G P o (.slice A1 o.ns.length c1) (.slice A2 o.ns.length c2) (.slice (some ⟨jb, 0, none⟩) o.ns.length c3) (.slice (some ⟨mb, 0, none⟩) o.ns.length c4) W) => ap_el h il ml (show _ = d1 by rw [hS]; exact hd1))
      have HA4 := Lib.hid (fun W (h : IrS w w5 N M D B g G P o (.slice A1 o.ns.length c1) (.slice A2 o.ns.length c2) (.slice (some ⟨jb, 0, none⟩) o.ns.length c3) (.slice (some ⟨mb, 0, none⟩) o.ns.length c4) W) => ap_el h ml kl (show _ = d2 by rw [hS]; exact hd2))
      have HA5 := Lib.hid (fun W (h : IrS w w5 N M D B g G P o (.slice A1 o.ns.length c1) (.slice A2 o.ns.length c2) (.slice (some ⟨jb, 0, none⟩) o.ns.length c3) (.slice (some ⟨mb, 0, none⟩) o.ns.length c4) W) => ap_el h jl ql (show _ = d by rw [hS]; exact f2))
      have HA6 := Lib.hid (fun W (h : IrS w w5 N M D B g G P o (.slice A1 o.ns.length c1) (.slice A2 o.ns.length c2) (.slice (some ⟨jb, 0, none⟩) o.ns.length c3) (.slice (some ⟨mb, 0, none⟩) o.ns.length c4) W) => ap_el h hbl htl (show _ = ln by rw [hS]; exact f3))
      have b1 := apartS_le (S i) (S m)
      have b2 := apartS_le (S m) (S k)
      rw [hd1] at b1
      rw [hd2] at b2
      have hle : decide ((d : Int) ≤ (d1 : Int) + (d2 : Int)) = true := decide_eq_true (by omega)
      have hwr : IntKind.i64.wrap ((d1 : Int) + (d2 : Int)) = (d1 : Int) + (d2 : Int) := IntWalk.i64_in _ (by omega)
      have eJ : rjoinI (rmost o) o.ns.length i k = (jn (rmost o) o.ns.length i k : Nat) := (HLT.out.j il kl).rjoin HLT.out.ord
      have eQ : rjoinI (oflip (rmost o)) o.ns.length i k = (mn (rmost o) o.ns.length i k : Nat) := (HLT.out.m il kl).rjoin HLT.out.ord.flip
      have tj := HTJ.out i il
      have tm := HTM.out i il
      have tj3 := tj.2.2 k kl
      have tm3 := tm.2.2 k kl
      rw [eJ] at tj3
      rw [eQ] at tm3
      obtain ⟨J, hJ⟩ : ∃ J, jn (rmost o) o.ns.length i k = J := ⟨_, rfl⟩
      obtain ⟨Q, hQ⟩ : ∃ Q, mn (rmost o) o.ns.length i k = Q := ⟨_, rfl⟩
      obtain ⟨R1, hR1⟩ : ∃ R, rb i = R := ⟨_, rfl⟩
      obtain ⟨R2, hR2⟩ : ∃ R, rc i = R := ⟨_, rfl⟩
      obtain ⟨S1, hS1⟩ : ∃ R, sb i = R := ⟨_, rfl⟩
      obtain ⟨S2, hS2⟩ : ∃ R, sc i = R := ⟨_, rfl⟩
      rw [hJ, hQ] at HA5
      rw [hJ] at tj3
      rw [hQ] at tm3
      rw [hR1, hR2] at tj
      rw [hR1] at tj3
      rw [hS1, hS2] at tm
      rw [hS1] at tm3
      have HC8 := Lib.hid (fun W (h : IrS w w5 N M D B g G P o (.slice A1 o.ns.length c1) (.slice A2 o.ns.length c2) (.slice (some ⟨jb, 0, none⟩) o.ns.length c3) (.slice (some ⟨mb, 0, none⟩) o.ns.length c4) W) => (by
        obtain ⟨z0, z1, z2, z3⟩ := h.cells
        exact ⟨z0, z1, z2, z3, h.r.cell g1 tj.2.1, h.r.cell tj.1 tj3, h.r.cell g2 tm.2.1, h.r.cell tm.1 tm3⟩ : W.cell? ⟨G, 0, none⟩ = some (.slice A1 o.ns.length c1) ∧ W.cell? ⟨G, 1, none⟩ = some (.slice A2 o.ns.length c2) ∧ W.cell? ⟨G, 2, none⟩ = some (.slice (some ⟨jb, 0, none⟩) o.ns.length c3) ∧ W.cell? ⟨G, 3, none⟩ = some (.slice (some ⟨mb, 0, none⟩) o.ns.length c4) ∧ W.cell? ⟨jb, i, none⟩ = some (.slice (some ⟨R1, 0, none⟩) o.ns.length R2) ∧ W.cell? ⟨R1, k, none⟩ = some (.int .i64 (J : Int)) ∧ W.cell? ⟨mb, i, none⟩ = some (.slice (some ⟨S1, 0, none⟩) o.ns.length S2) ∧ W.cell? ⟨S1, k, none⟩ = some (.int .i64 (Q : Int))))
      have hnz : ¬ (o.ns.length : Int) = 0 := by omega
      have hnz1 : ((o.ns.length : Int) == 0) = false := by rw [beq_eq_false_iff_ne]; omega
      clear hi hk hm hnn htk etp ebt ebt2 hS jl ql f1 f2 f3 f4 hln hd hd1 hd2 eJ eQ tj tm tj3 tm3 hJ hQ hR1 hR2 hS1 hS2 HTJ HTM g1 g2 htl hbl h0
      unfold IrTo at HA1 HA2 HA3 HA4 HA5 HA6
      go_quiet (fail)
      rw [rx, ry, rz]
      have HS := Lib.hid (HS.out.below ((Quiet.one _ nq).below _))
      obtain ⟨W1, hW1⟩ : ∃ W1, W0.drewN nq = W1 := ⟨_, rfl⟩
      rw [hW1] at HS
      rw [hW1]
      clear hW1 rx ry rz
      go_upto_region 7 with (first
        | (go_at_call 17; (with_reducible refine (HA1.out _ HS.out).mono ?_); rintro e w7 ⟨rfl, hp, ht⟩; have HS := Lib.hid (HS.out.tr hp ht); clear hp ht)
        | fail)
      have HS := Lib.hid HS.out.drew
      obtain ⟨q0, q1, q2, q3, q4, q5, q6, q7⟩ := HC8.out _ HS.out
      go_region_held3 (fun W => W.cell? ⟨G, 0, none⟩ = some (.slice A1 o.ns.length c1) ∧ W.cell? ⟨G, 1, none⟩ = some (.slice A2 o.ns.length c2) ∧ W.cell? ⟨G, 2, none⟩ = some (.slice (some ⟨jb, 0, none⟩) o.ns.length c3) ∧ W.cell? ⟨G, 3, none⟩ = some (.slice (some ⟨mb, 0, none⟩) o.ns.length c4) ∧ W.cell? ⟨jb, i, none⟩ = some (.slice (some ⟨R1, 0, none⟩) o.ns.length R2) ∧ W.cell? ⟨R1, k, none⟩ = some (.int .i64 (J : Int)) ∧ W.cell? ⟨mb, i, none⟩ = some (.slice (some ⟨S1, 0, none⟩) o.ns.length S2) ∧ W.cell? ⟨S1, k, none⟩ = some (.int .i64 (Q : Int))) (((try dsimp only); (repeat' apply And.intro) <;> first | (with_reducible assumption) | go_keep)) (first
        | (go_at_call 17; (with_reducible refine (HA2.out _ HS.out).mono ?_); rintro e w7 ⟨rfl, hp, ht⟩; have HS := Lib.hid (HS.out.tr hp ht); clear hp ht; obtain ⟨q0, q1, q2, q3, q4, q5, q6, q7⟩ := HC8.out _ HS.out)
        | (go_at_call 17; (with_reducible refine (HA1.out _ HS.out).mono ?_); rintro e w7 ⟨rfl, hp, ht⟩; have HS := Lib.hid (HS.out.tr hp ht); clear hp ht; obtain ⟨q0, q1, q2, q3, q4, q5, q6, q7⟩ := HC8.out _ HS.out)
        | (go_at_call 17; (with_reducible refine (HA3.out _ HS.out).mono ?_); rintro e w7 ⟨rfl, hp, ht⟩; have HS := Lib.hid (HS.out.tr hp ht); clear hp ht; obtain ⟨q0, q1, q2, q3, q4, q5, q6, q7⟩ := HC8.out _ HS.out)
        | (go_at_call 17; (with_reducible refine (HA4.out _ HS.out).mono ?_); rintro e w7 ⟨rfl, hp, ht⟩; have HS := Lib.hid (HS.out.tr hp ht); clear hp ht; obtain ⟨q0, q1, q2, q3, q4, q5, q6, q7⟩ := HC8.out _ HS.out)
        | (go_at_call 17; (with_reducible refine (HA5.out _ HS.out).mono ?_); rintro e w7 ⟨rfl, hp, ht⟩; have HS := Lib.hid (HS.out.tr hp ht); clear hp ht; obtain ⟨q0, q1, q2, q3, q4, q5, q6, q7⟩ := HC8.out _ HS.out)
        | (go_at_call 17; (with_reducible refine (HA6.out _ HS.out).mono ?_); rintro e w7 ⟨rfl, hp, ht⟩; have HS := Lib.hid (HS.out.tr hp ht); clear hp ht; obtain ⟨q0, q1, q2, q3, q4, q5, q6, q7⟩ := HC8.out _ HS.out)
        | (go_at_call 13; (with_reducible refine (HLN.out _ HS.out).mono ?_); rintro e w7 ⟨rfl, hp, ht⟩; have HS := Lib.hid (HS.out.tr hp ht); clear hp ht; obtain ⟨q0, q1, q2, q3, q4, q5, q6, q7⟩ := HC8.out _ HS.out)
        | (go_at_call 25; (with_reducible refine (HRB.out _ HS.out.r.lat).mono ?_); rintro e w7 ⟨rfl, hb⟩; have HS := Lib.hid (HS.out.below hb); clear hb; obtain ⟨q0, q1, q2, q3, q4, q5, q6, q7⟩ := HC8.out _ HS.out)
        | (go_at_call 26; (with_reducible refine (HRT.out _ HS.out.r.lat).mono ?_); rintro e w7 ⟨rfl, hb⟩; have HS := Lib.hid (HS.out.below hb); clear hb; obtain ⟨q0, q1, q2, q3, q4, q5, q6, q7⟩ := HC8.out _ HS.out)
        | (go_at_call 10; (with_reducible refine (awake15_any HI _).mono ?_); rintro e w9 ⟨rfl, b9⟩; have HS := Lib.hid (HS.out.below b9); clear b9; obtain ⟨q0, q1, q2, q3, q4, q5, q6, q7⟩ := HC8.out _ HS.out)
        | fail)
      go_wp2
      go_ret
      exact ⟨rfl, HS.out.b⟩
    · have HRF := Lib.hid (fun (w1 : World) (b : Below w.heap.size w w1) => right_not A n c L w1 (hL.up b) (by omega) hnc hs6 hR)
      clear hg hg2 hs hL hs6 hR
      go_enter Try.func7, Try.ntmps7
      go_wp2_with (first
        | (go_at_call 8; refine HG.out.mono ?_; rintro e w1 ⟨rfl, b1⟩; have B1 := Lib.hid b1; clear b1)
        | (go_at_call 9; (with_reducible refine (HRF.out _ B1.out).mono ?_); rintro e w2 ⟨rfl, b2⟩; have B2 := Lib.hid (B1.out.trans (b2.mono B1.out.size)); clear b2)
        | (go_at_call 10; refine (awake15_any HI _).mono ?_; rintro e w9 ⟨rfl, b9⟩)
        | go_in)
      go_ret
      exact ⟨rfl, B2.out.trans (b9.mono B2.out.size)⟩
end Go.Proofs.Ytnhdpegjkkaabaa
