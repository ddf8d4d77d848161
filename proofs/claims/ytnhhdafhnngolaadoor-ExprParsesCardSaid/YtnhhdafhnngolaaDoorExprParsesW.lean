/-
  CONTRACT OF blazonref08.Parse.
  blazonlaw08.ExprParses is true for every input: any bytes are read as the expression that they are, or refused at the place, as the document says; they stay.
  Conditions: package-level variables start as the program's text lays them; none beyond.
-/
import Derived.Test.YtnhhdafhnngolaaDoorEqT
import Derived.Test.YtnhhdafhnngolaaDoorStM
import Derived.Test.YtnhhdafhnngolaaDoorEpX
import Derived.Test.YtnhhdafhnngolaaDoorEpI
import Derived.Test.YtnhhdafhnngolaaDoorEpS
namespace Go.Proofs.YtnhhdafhnngolaaDoor
set_option linter.unusedVariables false
set_option linter.unusedSimpArgs false
open Go.RowKit

theorem v_done3 {F : Func} {i j k : Nat} (T : TypeId) (hr : F.results = #[.cell i T, .tmp j, .tmp k]) {a : Act} {W : World} {G : Nat} {cs : List Value} {d : TypeDesc} {s r : Int} {Q : Ending → World → Prop} (hp : a.tmps.getD i undef = .pointer (some ⟨G, 0, none⟩)) (hj : a.tmps.getD j undef = .int .i64 s) (hk : a.tmps.getD k undef = .int .i64 r) (hd : a.defers = []) (hs : Var W G cs)
    (hu : Tryd.prog.underlying T = some d) (hrow : d.isRow = true) (hT : (Tryd.prog.info? T).map (·.size) = some cs.length) (hQ : Q (.returned (.tuple #[.agg cs.toArray, .int .i64 s, .int .i64 r])) W) : bodyPost Tryd.prog F Q Exit.ret a W := by
  have hl := ldV (P := Tryd.prog) T hs.rg hu hrow hT
  have hp' : a.tmps[i]?.getD undef = .pointer (some ⟨G, 0, none⟩) := by simpa using hp
  have hj' : a.tmps[j]?.getD undef = .int .i64 s := by simpa using hj
  have hk' : a.tmps[k]?.getD undef = .int .i64 r := by simpa using hk
  exact bodyPost_ret (v := .tuple #[.agg cs.toArray, .int .i64 s, .int .i64 r]) (by simp [results, hr, hp', hj', hk', asAddr, hl]) hd hQ
theorem Ry.fit {X : Ry} {T : ByteArray} {bs : List Int} (hT : X.T = T) (hL : X.L = live bs 0) (hb : bts T = bs) (hm : T.size ≤ 1000000) : X.Fit := by
  have hn : bs.length ≤ 1000000 := by rw [← hb, bts_len]; exact hm
  have hok := live_ok hb hn
  have hR : X.R = rowT T (live bs 0) := by show rowT X.T X.L = _; rw [hT, hL]
  rw [← hL, ← hT] at hok
  exact ⟨fun i => wd_size hok i, fun i hi => by rw [hR] at hi ⊢; exact live_dig hb i hi⟩
theorem bad_pos {T : ByteArray} {bs : List Int} (hb : bts T = bs) (hm : T.size ≤ 1000000) : 0 ≤ (badOf (live bs 0)).2.1 := by
  have hn : bs.length ≤ 1000000 := by rw [← hb, bts_len]; exact hm
  have hok := live_ok hb hn
  unfold badOf
  cases h : (live bs 0).find? fun t => t.1 == 5 with
  | none => exact Int.le_refl _
  | some t => exact (hok.tok t (List.mem_of_find?_eq_some h)).1
theorem info_rw : (Tryd.prog.info? 39).map (·.size) = some 2 := by kernel_rfl
theorem gC_one' {x : Ex} {lv : Value} {p r : Int} (h : lv.oneCell' = true) : ∀ u ∈ gC x lv p r, u.oneCell' = true := gC_one h
/-- The row, what was read, the answer's variable. -/
structure PQ (X : Ry) (g : Gt) (lv : Value) (w : World) (K Rb Gb : Nat) (W : World) : Prop where
  vb : Below w.heap.size w W
  vr : Var W Rb [.string X.T, .slice X.A X.L.length X.c]
  vg : Var W Gb (gC g.e lv (g.p : Int) g.r)
  vk : Var W K (exC Ex.nul (.slice none 0 0))
  vx : Shx W (fun b => w.heap.size < b ∧ b < Gb) lv g.e.l
  vo : w.heap.size ≤ K ∧ K < Rb ∧ Rb < Gb
theorem PQ.under {X : Ry} {g : Gt} {lv : Value} {w : World} {K Rb Gb : Nat} {W W' : World} (h : PQ X g lv w K Rb Gb W) (hb : Below W.heap.size W W') : PQ X g lv w K Rb Gb W' :=
  ⟨h.vb.trans (hb.mono h.vb.size), h.vr.under hb, h.vg.under hb, h.vk.under hb, h.vx.under hb (fun b _ h => by assumption), h.vo⟩
set_option maxRecDepth 100000 in
set_option maxHeartbeats 3200000 in
theorem rParse_any (T : ByteArray) (bs : List Int) (w : World) (hb : bts T = bs) (hm : T.size ≤ 1000000) (f : Nat) (hf : 16 * T.size + 9 ≤ f) :
    Calls Tryd.prog 13 #[.string T] w (ParseTo (parseG (rowT T (live bs 0)) (live bs 0) f) w) := by
  have hz := zeroEx'
  have hzr := zeroRow
  have hzg := zeroGot
  have hl : bs.length = T.size := by rw [← hb, bts_len]
  have hll := live_len bs
  have hbp := bad_pos hb hm
  have HBD : Hid (∀ W, Calls Tryd.prog 44 #[.string T] W fun e w' => e = .returned (.int .i64 (if isBad (live bs 0) = true then (badOf (live bs 0)).2.1 else -1)) ∧ Below W.heap.size W w') := Lib.hid fun W => rBad_any T bs W hb hm
  have HNW : Hid (∀ W, Calls Tryd.prog 18 #[.string T] W (RNewTo T bs W)) := Lib.hid fun W => rNew_any T bs W hb hm
  have HFT : Hid (∀ X : Ry, X.T = T → X.L = live bs 0 → X.Fit) := Lib.hid fun X h1 h2 => Ry.fit h1 h2 hb hm
  obtain ⟨Y, hY⟩ : ∃ Y, parseG (rowT T (live bs 0)) (live bs 0) f = Y := ⟨_, rfl⟩
  rw [hY]
  have HY := Lib.hid hY
  have HL := Lib.hid hl
  have J : Hid (Below w.heap.size w (w.alloc (.cells #[.int .i64 0, .int .i64 0, .int .i64 0, .string ⟨#[]⟩, .string ⟨#[]⟩, .slice none 0 0] 27))) := Lib.hid ((Below.refl _ w).alloc (Nat.le_refl _) _)
  have JV : Hid (Var (w.alloc (.cells #[.int .i64 0, .int .i64 0, .int .i64 0, .string ⟨#[]⟩, .string ⟨#[]⟩, .slice none 0 0] 27)) w.heap.size (exC Ex.nul (.slice none 0 0))) := Lib.hid (Var.new w (exC Ex.nul (.slice none 0 0)) 27 rfl)
  clear hb hY hl
  cases hbd : isBad (live bs 0) with
  | true =>
    obtain ⟨q, hq⟩ : ∃ q, (badOf (live bs 0)).2.1 = q := ⟨_, rfl⟩
    rw [hbd, if_pos rfl, hq] at HBD
    rw [hq] at hbp
    have HYY : Hid ((Ex.nul, q, 10) = Y) := Lib.hid (by rw [← HY.out, ← hq]; unfold parseG; rw [if_pos hbd])
    clear hbd hq HY
    go_enter Tryd.func13, Tryd.ntmps13
    go_wp2_with (first
      | (go_at_call 44; refine (HBD.out _).mono ?_; rintro e w2 ⟨rfl, b⟩; have JV := Lib.hid (JV.out.under b); have J := Lib.hid (J.out.trans (b.mono J.out.size)); clear b; dsimp only)
      | (refine wpList_stV rfl 27 (.tmp 2) (.tmp 12) rfl (G := w.heap.size) (off := 0) rfl (us := exC Ex.nul (.slice none 0 0)) JV.out rfl info_ex (Nat.le_refl 6) (exC_one _ rfl) ?_; intro w3 ht hs; have J := Lib.hid (J.out.trans (ht.below (J.out.size) (by intro k hk e; omega))); have JV := Lib.hid (show Var w3 w.heap.size (exC Ex.nul (.slice none 0 0)) from hs); clear ht hs)
      | fail)
    rw [← HYY.out]
    exact v_done3 27 rfl rfl rfl rfl rfl JV.out Tryd.underlying27 rfl info_ex ⟨.slice none 0 0, rfl, .nil, J.out⟩
  | false =>
    rw [hbd, if_neg (by decide)] at HBD
    go_enter Tryd.func13, Tryd.ntmps13
    go_wp2_with (first
      | (go_at_call 44; refine (HBD.out _).mono ?_; rintro e w2 ⟨rfl, b⟩; have JV := Lib.hid (JV.out.under b); have J := Lib.hid (J.out.trans (b.mono J.out.size)); clear b; dsimp only)
      | (go_at_call 18; refine (HNW.out _).mono ?_; rintro e w3 ⟨X, rfl, hXT, hXL, hXI, b⟩; have JV := Lib.hid (JV.out.under b); have J := Lib.hid (J.out.trans (b.mono J.out.size)); have JI := Lib.hid hXI; clear b hXI; dsimp only; refine Hid.out ?_)
      | fail)
    have hKw := JV.out.lt
    have hR : X.R = rowT T (live bs 0) := by show rowT X.T X.L = _; rw [hXT, hXL]
    have hXn : X.L.length ≤ T.size := by rw [hXL]; have := HL.out; omega
    have HE := Lib.hid (rall_step X (HFT.out X hXT hXL) f).1
    obtain ⟨g, hg⟩ : ∃ g, rd X.R f (.lev 1) 0 0 = g := ⟨_, rfl⟩
    have HEX : Hid (∀ W, X.In W W.heap.size → Calls Tryd.prog 32 #[X.val, .int .i64 0, .int .i64 1, .int .i64 0] W (RgTo W g)) := Lib.hid fun W hW => by
      rw [← hg]
      exact HE.out 1 0 0 W (by omega) (by omega) (by omega) (by omega) hW (by omega)
    have HYY : Hid ((if g.r = 0 ∧ g.p ≠ X.R.n then (Ex.nul, X.R.ps g.p, 11) else (g.e, X.R.ps g.p, g.r)) = Y) := Lib.hid (by
      rw [← HY.out, ← hg, hR]
      unfold parseG
      rw [if_neg (show ¬ isBad (live bs 0) = true by rw [hbd]; decide)])
    have hin := rd_in (row_ok X.T X.L) f (.lev 1) 0 0 (Nat.zero_le _) (fun h => by cases h)
    rw [hg] at hin
    have hgp : g.p ≤ X.L.length := hin.2.1
    have HNU : Hid (¬ g.r = 0 → g.e = Ex.nul) := Lib.hid (by rw [← hg]; exact rd_nul (R := X.R) f (.lev 1) 0 0)
    have hrow1 : ∀ u ∈ [Value.string X.T, .slice X.A X.L.length X.c], u.oneCell' = true := by
      intro u hu
      simp at hu
      rcases hu with rfl | rfl <;> rfl
    have HR1 := Lib.hid hrow1
    have HXT := Lib.hid hXT
    have HXL := Lib.hid hXL
    have JI2 : Hid (X.In (w3.alloc (.cells #[.string ⟨#[]⟩, .slice none 0 0] 39)) (w3.alloc (.cells #[.string ⟨#[]⟩, .slice none 0 0] 39)).heap.size) := Lib.hid ((JI.out.up ((Below.refl _ _).alloc (Nat.le_refl _) _) (Nat.le_refl _)).more (by simp))
    clear hin hg hbd HE hrow1 hXT hXL hR HY
    refine Lib.hid ?_
    go_wp2_with (first
      | (refine wpList_stV rfl 39 (.tmp 6) (.tmp 15) rfl (G := w3.heap.size) (off := 0) rfl (us := [.string X.T, .slice X.A X.L.length X.c]) (Var.new w3 [.string ⟨#[]⟩, .slice none 0 0] 39 rfl) rfl info_rw (Nat.le_refl 2) HR1.out ?_; intro w4 ht hs; have ta := Tn.alloc (fun k => k = w3.heap.size) w3 (.cells #[.string ⟨#[]⟩, .slice none 0 0] 39); have tb := ta.trans ht; have bb := tb.below (Nat.le_refl _) (by intro k hk e; omega); have JV := Lib.hid (JV.out.under bb); have J := Lib.hid (J.out.trans (bb.mono J.out.size)); have JI := Lib.hid ((JI.out.up bb (Nat.le_refl _)).more bb.size); have JR := Lib.hid (show Var w4 w3.heap.size [.string X.T, .slice X.A X.L.length X.c] from hs); have hs4 := ht.size; rw [row_size] at hs4; clear ht hs ta tb bb)
      | (refine wpList_ldV rfl 39 (.tmp 6) rfl w3.heap.size 0 rfl [.string X.T, .slice X.A X.L.length X.c] JR.out.rg Tryd.underlying39 rfl info_rw ?_)
      | (go_at_call 32; refine (HEX.out _ JI.out).mono ?_; rintro e w5 ⟨lv, rfl, hx, bb⟩; obtain ⟨A5, c5, rfl, _⟩ := hx.len; have hone := hx.one; have JX := Lib.hid (hx.weak (S' := fun b => w.heap.size < b ∧ b < w5.heap.size) (fun b hb h2 => ⟨by have hb : w4.heap.size ≤ b := hb; omega, h2⟩)); have JR := Lib.hid (JR.out.under bb); have JV := Lib.hid (JV.out.under bb); have J := Lib.hid (J.out.trans (bb.mono J.out.size)); have JI := Lib.hid ((JI.out.up bb (Nat.le_refl _)).more bb.size); have hs5 := bb.size; clear bb hx; dsimp only)
      | (refine wpList_stV rfl 56 (.tmp 7) (.tmp 17) rfl (G := w5.heap.size) (off := 0) rfl (us := gC g.e (.slice A5 g.e.l.length c5) (g.p : Int) g.r) (Var.new w5 (gC Ex.nul (.slice none 0 0) 0 0) 56 rfl) rfl info_got (Nat.le_refl 8) (gC_one' hone) ?_; intro w6 ht hs; have ta := Tn.alloc (fun k => k = w5.heap.size) w5 (.cells #[.int .i64 0, .int .i64 0, .int .i64 0, .string ⟨#[]⟩, .string ⟨#[]⟩, .slice none 0 0, .int .i64 0, .int .i64 0] 56); have tb := ta.trans ht; have bb := tb.below (Nat.le_refl _) (by intro k hk e; omega); have HQ : Hid (PQ X g (.slice A5 g.e.l.length c5) w w.heap.size w3.heap.size w5.heap.size w6) := Lib.hid ⟨J.out.trans (bb.mono J.out.size), JR.out.under bb, hs, JV.out.under bb, JX.out.under bb (fun b _ h => h), Nat.le_refl _, by omega, by omega⟩; have JI := Lib.hid ((JI.out.up bb (Nat.le_refl _)).more bb.size); clear ht hs ta tb bb; have g7 := HQ.out.vg.at 7 (v := .int .i64 g.r) rfl; refine Hid.out ?_)
      | fail)
    obtain ⟨K, hK⟩ : ∃ K, w.heap.size = K := ⟨_, rfl⟩
    obtain ⟨Rb, hRb⟩ : ∃ Rb, w3.heap.size = Rb := ⟨_, rfl⟩
    obtain ⟨Gb, hGb⟩ : ∃ Gb, w5.heap.size = Gb := ⟨_, rfl⟩
    have HQ : Hid (PQ X g (.slice A5 g.e.l.length c5) w K Rb Gb w6) := Lib.hid (by rw [← hK, ← hRb, ← hGb]; exact HQ.out)
    rw [hGb] at g7
    rw [hK, hRb, hGb]
    have HKK := Lib.hid hK
    have HPO : Hid (∀ W, X.In W W.heap.size → Calls Tryd.prog 24 #[X.val, .int .i64 (g.p : Int)] W fun e w' => e = .returned (.int .i64 (X.R.ps g.p)) ∧ Below W.heap.size W w') := Lib.hid fun W hW => rPos_any X g.p W hW (by omega)
    clear hK hRb hGb JV J JR JX hs4 hs5 hKw JI2
    by_cases hr : g.r = 0
    · have hr1 : (g.r == 0) = true := by simp [hr]
      have hr2 : decide (g.r = 0) = true := by simp [hr]
      have hr3 : (g.r != 0) = false := by simp [hr]
      have g6 := HQ.out.vg.at 6 (v := .int .i64 (g.p : Int)) rfl
      have r1 := HQ.out.vr.at 1 (v := .slice X.A X.L.length X.c) rfl
      by_cases hlt : g.p < X.L.length
      · have hlt1 : (g.p : Int) < (X.L.length : Int) := by omega
        have HYY2 : Hid ((Ex.nul, X.R.ps g.p, 11) = Y) := Lib.hid (by rw [← HYY.out, if_pos ⟨hr, fun h => by have h : g.p = X.L.length := h; omega⟩])
        clear hr HYY
        refine Lib.hid ?_
        go_wp2_with (first
          | (refine wpList_ldV rfl 39 (.tmp 6) rfl Rb 0 rfl [.string X.T, .slice X.A X.L.length X.c] HQ.out.vr.rg Tryd.underlying39 rfl info_rw ?_)
          | (go_at_call 24; refine (HPO.out _ JI.out).mono ?_; rintro e w7 ⟨rfl, b⟩; have HQ := Lib.hid (HQ.out.under b); clear b; dsimp only)
          | (refine wpList_stV rfl 27 (.tmp 2) (.tmp 34) rfl (G := K) (off := 0) rfl (us := exC Ex.nul (.slice none 0 0)) HQ.out.vk rfl info_ex (Nat.le_refl 6) (exC_one _ rfl) ?_; intro w8 ht hs; have J := Lib.hid (HQ.out.vb.trans (ht.below HQ.out.vb.size (by intro k hk e; have := HQ.out.vo.1; omega))); have JV := Lib.hid (show Var w8 K (exC Ex.nul (.slice none 0 0)) from hs); clear ht hs)
          | fail)
        rw [← HYY2.out]
        exact v_done3 27 rfl rfl rfl rfl rfl JV.out Tryd.underlying27 rfl info_ex ⟨.slice none 0 0, rfl, .nil, J.out⟩
      · have hlt1 : ¬ (g.p : Int) < (X.L.length : Int) := by omega
        have hpe : g.p = X.R.n := by show g.p = X.L.length; omega
        have hps : X.R.ps g.p = (T.size : Int) := by
          rw [hpe]
          show (rowT X.T X.L).ps X.L.length = _
          rw [← HXT.out]
          simp [rowT]
        have HYY2 : Hid ((g.e, (T.size : Int), (0 : Int)) = Y) := Lib.hid (by rw [← HYY.out, if_neg (fun h => h.2 hpe), hps, hr])
        have hone := HQ.out.vx.one
        clear hr HYY hpe hps
        refine Lib.hid ?_
        go_wp2_with (first
          | (refine wpList_ldV rfl 27 (.tmp 39) rfl Gb 0 rfl (exC g.e (.slice A5 g.e.l.length c5)) (fun i u hu => HQ.out.vg.rg i u (by unfold gC; rw [List.getElem?_append_left (List.getElem?_eq_some_iff.1 hu).1]; exact hu)) Tryd.underlying27 rfl info_ex ?_)
          | (refine wpList_stV rfl 27 (.tmp 2) (.tmp 40) rfl (G := K) (off := 0) rfl (us := exC g.e (.slice A5 g.e.l.length c5)) HQ.out.vk rfl info_ex (Nat.le_refl 6) (exC_one _ hone) ?_; intro w8 ht hs; have J := Lib.hid (HQ.out.vb.trans (ht.below HQ.out.vb.size (by intro k hk e; have := HQ.out.vo.1; omega))); have JX := Lib.hid (HQ.out.vx.turn (S' := fun b => w.heap.size ≤ b) ht (fun b hb _ => ⟨Nat.le_of_lt hb.1, fun e => by have := HKK.out; omega⟩)); have JV := Lib.hid (show Var w8 K (exC g.e (.slice A5 g.e.l.length c5)) from hs); clear ht hs)
          | fail)
        rw [← HYY2.out]
        exact v_done3 27 rfl rfl rfl rfl rfl JV.out Tryd.underlying27 rfl info_ex ⟨_, rfl, JX.out, J.out⟩
    · have hr1 : (g.r == 0) = false := by simp [hr]
      have hr2 : decide (g.r = 0) = false := by simp [hr]
      have hr3 : (g.r != 0) = true := by simp [hr]
      have HYY2 : Hid ((Ex.nul, X.R.ps g.p, g.r) = Y) := Lib.hid (by rw [← HYY.out, if_neg (fun h => hr h.1), HNU.out hr])
      have HK8 : Hid (∀ W, PQ X g (.slice A5 g.e.l.length c5) w K Rb Gb W → (W.cell? ⟨Rb, 0, none⟩ = some (.string X.T) ∧ W.cell? ⟨Rb, 1, none⟩ = some (.slice X.A X.L.length X.c) ∧ W.cell? ⟨Gb, 6, none⟩ = some (.int .i64 (g.p : Int)) ∧ W.cell? ⟨Gb, 7, none⟩ = some (.int .i64 g.r) ∧ W.cell? ⟨K, 0, none⟩ = some (.int .i64 0) ∧ W.cell? ⟨K, 1, none⟩ = some (.int .i64 0) ∧ W.cell? ⟨K, 2, none⟩ = some (.int .i64 0) ∧ W.cell? ⟨K, 3, none⟩ = some (.string ⟨#[]⟩) ∧ W.cell? ⟨K, 4, none⟩ = some (.string ⟨#[]⟩) ∧ W.cell? ⟨K, 5, none⟩ = some (.slice none 0 0))) := Lib.hid fun W h => ⟨h.vr.at 0 rfl, h.vr.at 1 rfl, h.vg.at 6 rfl, h.vg.at 7 rfl, h.vk.at 0 rfl, h.vk.at 1 rfl, h.vk.at 2 rfl, h.vk.at 3 rfl, h.vk.at 4 rfl, h.vk.at 5 rfl⟩
      have HK9 : Hid (∀ W, PQ X g (.slice A5 g.e.l.length c5) w K Rb Gb W → PQ X g (.slice A5 g.e.l.length c5) w K Rb Gb ((((((W.setCell ⟨K, 0, none⟩ (.int .i64 0)).setCell ⟨K, 1, none⟩ (.int .i64 0)).setCell ⟨K, 2, none⟩ (.int .i64 0)).setCell ⟨K, 3, none⟩ (.string ⟨#[]⟩)).setCell ⟨K, 4, none⟩ (.string ⟨#[]⟩)).setCell ⟨K, 5, none⟩ (.slice none 0 0))) := Lib.hid fun W h => by
        have ht := Tn.sets (M := fun k => k = K) K (exC Ex.nul (.slice none 0 0)) rfl 0 W
        have hk := h.vk.sets 0 (exC Ex.nul (.slice none 0 0)) (Nat.le_refl 6)
        have ho := h.vo
        refine ⟨h.vb.trans (ht.below h.vb.size (by intro k hk e; omega)), h.vr.turn ht (by omega), h.vg.turn ht (by omega), hk, ?_, ho⟩
        · exact h.vx.turn ht (fun b hb _ => ⟨hb, fun e => by have := HKK.out; omega⟩)
      clear hr HYY
      have HQ := Lib.hid (HQ.out.under (below_drew _ _))
      have JI := Lib.hid ((JI.out.up (below_drew _ _) (Nat.le_refl _)).more (Nat.le_refl w6.heap.size))
      refine Lib.hid ?_
      go_wp2_with fail
      obtain ⟨r0, r1, g6, g7, k0, k1, k2, k3, k4, k5⟩ := HK8.out _ HQ.out
      go_region_held3 (fun W => (W.cell? ⟨Rb, 0, none⟩ = some (.string X.T) ∧ W.cell? ⟨Rb, 1, none⟩ = some (.slice X.A X.L.length X.c) ∧ W.cell? ⟨Gb, 6, none⟩ = some (.int .i64 (g.p : Int)) ∧ W.cell? ⟨Gb, 7, none⟩ = some (.int .i64 g.r) ∧ W.cell? ⟨K, 0, none⟩ = some (.int .i64 0) ∧ W.cell? ⟨K, 1, none⟩ = some (.int .i64 0) ∧ W.cell? ⟨K, 2, none⟩ = some (.int .i64 0) ∧ W.cell? ⟨K, 3, none⟩ = some (.string ⟨#[]⟩) ∧ W.cell? ⟨K, 4, none⟩ = some (.string ⟨#[]⟩) ∧ W.cell? ⟨K, 5, none⟩ = some (.slice none 0 0))) (((try dsimp only); first | (with_reducible exact HK8.out _ (HK9.out _ HQ.out)) | (with_reducible exact HK8.out _ HQ.out) | ((repeat' apply And.intro) <;> first | (with_reducible assumption) | go_keep))) (first
        | (go_at_call 24; (with_reducible refine (HPO.out _ JI.out).mono ?_); rintro e wp ⟨rfl, b⟩; have HQ := Lib.hid (HQ.out.under b); clear b; obtain ⟨r0, r1, g6, g7, k0, k1, k2, k3, k4, k5⟩ := HK8.out _ HQ.out; have f0 := HQ.out.vk.fz 0 (by show 0 < 6; omega); have f1 := HQ.out.vk.fz 1 (by show 1 < 6; omega); have f2 := HQ.out.vk.fz 2 (by show 2 < 6; omega); have f3 := HQ.out.vk.fz 3 (by show 3 < 6; omega); have f4 := HQ.out.vk.fz 4 (by show 4 < 6; omega); have f5 := HQ.out.vk.fz 5 (by show 5 < 6; omega))
        | fail)
      go_wp2
      rw [← HYY2.out]
      have HQ := Lib.hid (HK9.out _ HQ.out)
      exact v_done3 27 rfl rfl rfl rfl rfl HQ.out.vk Tryd.underlying27 rfl info_ex ⟨.slice none 0 0, rfl, .nil, HQ.out.vb⟩
end Go.Proofs.YtnhhdafhnngolaaDoor
namespace Go.Proofs.YtnhhdafhnngolaaDoor
set_option linter.unusedVariables false
set_option linter.unusedSimpArgs false
open Go.RowKit

theorem nul_wfx : Ex.nul.wfx := by
  rw [Ex.wfx_eq]
  exact ⟨fun _ => rfl, Nat.zero_le _, fun x hx => by cases hx⟩
theorem nul_ht : Ex.nul.ht = 1 := by rw [Ex.ht_eq]; rfl
theorem nul_cnt : Ex.nul.cnt = 1 := by rw [Ex.cnt_eq]; rfl
theorem parse_wf {T : ByteArray} {bs : List Int} (hb : bts T = bs) (hn : bs.length ≤ 1000000) (f : Nat) : (parseG (rowT T (live bs 0)) (live bs 0) f).1.wfx ∧ (parseG (rowT T (live bs 0)) (live bs 0) f).1.cnt ≤ 1000000 ∧ (parseG (rowT T (live bs 0)) (live bs 0) f).1.ht ≤ 1000000 := by
  by_cases h : (parseG (rowT T (live bs 0)) (live bs 0) f).2.2 = 0
  · obtain ⟨h1, h2, _⟩ := (parse_facts hb hn f).1 h
    exact ⟨h1.1, h2, by have := h1.2; omega⟩
  · have he : (parseG (rowT T (live bs 0)) (live bs 0) f).1 = Ex.nul := by
      unfold parseG at h ⊢
      split
      · rfl
      · rename_i h1
        rw [if_neg h1] at h
        split
        · rfl
        · rename_i h2
          rw [if_neg h2] at h
          exact rd_nul f (.lev 1) 0 0 h
    rw [he]
    exact ⟨nul_wfx, by rw [nul_cnt]; omega, by rw [nul_ht]; omega⟩

theorem exprParses_long (A : Option Addr) (n c : Nat) (w : World) (h : 1000 < n) (hm : n ≤ maxLen) (hv : Vars w) :
    Calls Tryd.prog 3 #[.slice A n c] w fun e w' => e = .returned (.bool true) ∧ Below w.heap.size w w' := by
  unfold maxLen at hm
  have hlt : (1000 : Int) < (n : Int) := by omega
  go_enter Tryd.func3, Tryd.ntmps3
  go_wp2_with (go_at_call 10; refine (awake_any _ hv).mono ?_; rintro e w1 ⟨rfl, b1⟩)
  go_ret
  exact ⟨rfl, b1⟩
/-- Both expressions, the bytes that were lent. -/
structure PP (x : Ex) (lv kv : Value) (w : World) (G1 G2 : Nat) (G : Option Addr) (n : Nat) (bs : List Int) (W : World) : Prop where
  b : Below w.heap.size w W
  s1 : Slot W G1 x lv
  s2 : Slot W G2 x kv
  x1 : Shx W (fun _ => True) lv x.l
  x2 : Shx W (fun _ => True) kv x.l
  fk : Sh W W.heap.size G (n + 3) (by8 (bs ++ [77, 78, 79]))
theorem PP.under {x : Ex} {lv kv : Value} {w : World} {G1 G2 : Nat} {G : Option Addr} {n : Nat} {bs : List Int} {W W' : World} (h : PP x lv kv w G1 G2 G n bs W) (hb : Below W.heap.size W W') : PP x lv kv w G1 G2 G n bs W' :=
  ⟨h.b.trans (hb.mono h.b.size), h.s1.below hb h.s1.lt, h.s2.below hb h.s2.lt, h.x1.under hb (fun b _ h => h), h.x2.under hb (fun b _ h => h), (h.fk.below hb).more hb.size⟩
set_option maxRecDepth 100000 in
set_option maxHeartbeats 3200000 in
theorem exprParses_short (A : Option Addr) (n c : Nat) (bs : List Int) (w : World) (h : ¬ 1000 < n) (hx : Sh w w.heap.size A n (by8 bs)) (hb : Byt8 bs) (hnc : n ≤ c) (hcm : c ≤ maxLen) (hv : Vars w) :
    Calls Tryd.prog 3 #[.slice A n c] w fun e w' => e = .returned (.bool true) ∧ Below w.heap.size w w' := by
  have hz := zeroEx'
  have hl : bs.length = n := by have := hx.len; rwa [by8_len] at this
  have HL := Lib.hid hl
  have hlt : ¬ (1000 : Int) < (n : Int) := by omega
  have hvs := hv.size
  have HAW : Hid (∀ W, Below w.heap.size w W → Calls Tryd.prog 10 #[] W fun e w' => e = .returned (.bool true) ∧ Below W.heap.size W w') := Lib.hid fun W hW => awake_any W (hv.under hW hvs)
  obtain ⟨X, hX⟩ : ∃ X, parseG (rowT (strOfNums bs) (live bs 0)) (live bs 0) (16 * n + 9) = X := ⟨_, rfl⟩
  have HPA : Hid (∀ W G g, Below w.heap.size w W → Sh W W.heap.size G n (by8 bs) → n ≤ g → g ≤ maxLen → Calls Tryd.prog 12 #[.slice G n g] W (ParseTo X W)) := Lib.hid fun W G g hW hs h1 h2 => by
    rw [← hX]
    exact parse_any G n g bs W hs hb (by omega) h1 h2 (hv.under hW hvs) _ (Nat.le_refl _)
  have hsz : (strOfNums bs).size = n := by rw [strOfNums_size, hl]
  have HRP : Hid (∀ W, Calls Tryd.prog 13 #[.string (strOfNums bs)] W (ParseTo X W)) := Lib.hid fun W => by
    rw [← hX]
    exact rParse_any (strOfNums bs) bs W (bts_str hb) (by omega) _ (by omega)
  have hwf := parse_wf (bts_str hb) (by omega) (16 * n + 9)
  rw [hX] at hwf
  obtain ⟨x, y, z⟩ := X
  obtain ⟨hw1, hw2, hw3⟩ := hwf
  dsimp only at hw1 hw2 hw3 HPA HRP
  have HSA : Hid (SameC x) := Lib.hid (sameX_any x hw1)
  have HHE : Hid (∀ lv W, Shx W (fun _ => True) lv x.l → Calls Tryd.prog 15 #[exV x lv] W fun e w' => e = .returned (.int .i64 (x.ht : Int)) ∧ Below W.heap.size W w') := Lib.hid fun lv W hs => height_any x hw1 hw2 lv W _ hs
  have HRH : Hid (∀ lv W, Shx W (fun _ => True) lv x.l → Calls Tryd.prog 16 #[exV x lv] W fun e w' => e = .returned (.int .i64 (x.ht : Int)) ∧ Below W.heap.size W w') := Lib.hid fun lv W hs => rHeight_any x hw1 hw3 lv W _ hs
  have HX := Lib.hid (fun w' (b : Below w.heap.size w w') => hx.below b)
  have HB := Lib.hid (Below.refl w.heap.size w)
  have hhead : ∀ {w' : World} {U : Nat} {G : Option Addr}, Sh w' U G (n + 3) (by8 (bs ++ [77, 78, 79])) → Sh w' U G n (by8 bs) := fun {w' U G} h => by
    have hh := h.head (k := n) (by omega)
    rwa [by8_take, List.take_append_of_le_length (by rw [HL.out]; omega), List.take_of_length_le (by rw [HL.out]; omega)] at hh
  have HH := Lib.hid (fun w' U G h => hhead (w' := w') (U := U) (G := G) h)
  have hone0 : (Value.slice none 0 0).oneCell' = true := rfl
  have HSZ := Lib.hid hsz
  obtain ⟨T, hT⟩ : ∃ T, strOfNums bs = T := ⟨_, rfl⟩
  rw [hT] at HRP
  have HCV : Hid (∀ w' c, Below w.heap.size w w' → (convert 22 9 (.slice A n c)).run Tryd.prog w' = .ok (.string T) w') := Lib.hid fun w' c b => by
    rw [← hT]
    exact convert_sh (HX.out _ b) c
  have HLE : Hid (Calls Tryd.prog 11 #[.slice A n c] w fun e w' => ∃ G g, e = .returned (.slice G n g) ∧ Own w' w.heap.size 5 1 (.slice G (n + 3) g) (n + 3) (by8 (bs ++ [77, 78, 79])) ∧ Below w.heap.size w w') := Lib.hid (lent_any A n c bs w w.heap.size hx (by omega) (Nat.le_refl _))
  clear hl hx hb hv hX hsz hw1 hw2 hhead hT
  go_enter Tryd.func3, Tryd.ntmps3
  go_wp2_with (first
    | (go_at_call 11; refine HLE.out.mono ?_; rintro e w1 ⟨G, g, rfl, ho1, b1⟩; have hcap := ho1.cap; have hc1 : n + 3 ≤ g := hcap.1; have HC := Lib.hid hcap.2; have HF := Lib.hid ho1.sh; have HB := Lib.hid b1; clear ho1 b1 hcap; dsimp only)
    | (go_at_call 12; refine (HPA.out _ _ _ HB.out (HH.out _ _ _ HF.out) (by omega) HC.out).mono ?_; rintro e w2 ⟨lv, rfl, hx2, b⟩; obtain ⟨A3, c3, rfl, _⟩ := hx2.len; have hone := hx2.one; have HX1 := Lib.hid (hx2.weak (S' := fun b => b < w2.heap.size) (by intro b _ h; exact h)); have HF := Lib.hid ((HF.out.below b).more b.size); have HB := Lib.hid (HB.out.trans (b.mono HB.out.size)); clear b hx2; dsimp only; refine Hid.out ?_)
    | fail)
  refine Lib.hid ?_
  go_wp2_with (first
    | (refine wpList_stx rfl (.tmp 4) (.tmp 19) rfl w2.heap.size rfl (entry_slot w2) (e := x) (lv := .slice A3 x.l.length c3) rfl hone ?_; intro w3 hg3 hs3; have bb := Tn.below ((Tn.alloc (fun k => k = w2.heap.size) w2 (.cells #[.int .i64 0, .int .i64 0, .int .i64 0, .string ⟨#[]⟩, .string ⟨#[]⟩, .slice none 0 0] 27)).trans (Tn.of_gb hg3 (fun k e _ => by injection e with e; exact e.symm))) (Nat.le_refl _) (by intro k hk e; omega); have HF := Lib.hid ((HF.out.below bb).more bb.size); have HB := Lib.hid (HB.out.trans (bb.mono HB.out.size)); have HX1 := Lib.hid (HX1.out.under bb (fun b hb _ => hb)); have HS1 := Lib.hid hs3; have hcv := HCV.out w3 c HB.out; have hs3' := hs3.lt; clear hg3 hs3 bb; refine Hid.out ?_)
    | fail)
  obtain ⟨G1, hG1⟩ : ∃ G1, w2.heap.size = G1 := ⟨_, rfl⟩
  rw [hG1] at HS1 HX1 hs3' ⊢
  clear hG1
  refine Lib.hid ?_
  go_wp2_with (first
    | (go_at_call 13; refine (HRP.out _).mono ?_; rintro e w4 ⟨kv, rfl, hx4, b⟩; obtain ⟨A4, c4, rfl, _⟩ := hx4.len; have hone4 := hx4.one; have HX2 := Lib.hid (hx4.weak (S' := fun b => b < w4.heap.size) (by intro b _ h; exact h)); have HF := Lib.hid ((HF.out.below b).more b.size); have HS1 := Lib.hid (HS1.out.below b hs3'); have HX1 := Lib.hid (HX1.out.under b (fun b hb h2 => h2)); have HB := Lib.hid (HB.out.trans (b.mono HB.out.size)); have hs4 := b.size; clear b hx4; dsimp only; refine Hid.out ?_)
    | fail)
  refine Lib.hid ?_
  go_wp2_with (first
    | (refine wpList_stx rfl (.tmp 7) (.tmp 26) rfl w4.heap.size rfl (entry_slot w4) (e := x) (lv := .slice A4 x.l.length c4) rfl hone4 ?_; intro w5 hg5 hs5; have bb := Tn.below ((Tn.alloc (fun k => k = w4.heap.size) w4 (.cells #[.int .i64 0, .int .i64 0, .int .i64 0, .string ⟨#[]⟩, .string ⟨#[]⟩, .slice none 0 0] 27)).trans (Tn.of_gb hg5 (fun k e _ => by injection e with e; exact e.symm))) (Nat.le_refl _) (by intro k hk e; omega); have J : Hid (PP x (.slice A3 x.l.length c3) (.slice A4 x.l.length c4) w G1 w4.heap.size G n bs w5) := Lib.hid ⟨HB.out.trans (bb.mono HB.out.size), HS1.out.below bb (by omega), hs5, (HX1.out.under bb (fun b hb h2 => h2)).weak (fun _ _ _ => trivial), (HX2.out.under bb (fun b hb h2 => h2)).weak (fun _ _ _ => trivial), (HF.out.below bb).more bb.size⟩; clear hg5 hs5 bb; refine Hid.out ?_)
    | fail)
  obtain ⟨G2, hG2⟩ : ∃ G2, w4.heap.size = G2 := ⟨_, rfl⟩
  rw [hG2] at J ⊢
  have KS : Hid (∀ W, PP x (.slice A3 x.l.length c3) (.slice A4 x.l.length c4) w G1 G2 G n bs W → (W.cell? ⟨G1, 0, none⟩ = some (.int .i64 x.k) ∧ W.cell? ⟨G1, 1, none⟩ = some (.int .i64 x.a) ∧ W.cell? ⟨G1, 2, none⟩ = some (.int .i64 x.m) ∧ W.cell? ⟨G1, 3, none⟩ = some (.string x.nm) ∧ W.cell? ⟨G1, 4, none⟩ = some (.string x.lb) ∧ W.cell? ⟨G1, 5, none⟩ = some (.slice A3 x.l.length c3) ∧ W.cell? ⟨G2, 0, none⟩ = some (.int .i64 x.k) ∧ W.cell? ⟨G2, 1, none⟩ = some (.int .i64 x.a) ∧ W.cell? ⟨G2, 2, none⟩ = some (.int .i64 x.m) ∧ W.cell? ⟨G2, 3, none⟩ = some (.string x.nm) ∧ W.cell? ⟨G2, 4, none⟩ = some (.string x.lb) ∧ W.cell? ⟨G2, 5, none⟩ = some (.slice A4 x.l.length c4))) := Lib.hid fun W h => by
    obtain ⟨a0, a1, a2, a3, a4, a5⟩ := h.s1.six
    obtain ⟨b0, b1, b2, b3, b4, b5⟩ := h.s2.six
    exact ⟨a0, a1, a2, a3, a4, a5, b0, b1, b2, b3, b4, b5⟩
  have J := Lib.hid (J.out.under (below_drew _ _))
  clear hG2 HX1 HX2 HF HS1 HB HPA HRP HLE HCV hcv hs3' hs4 hone hone4
  refine Lib.hid ?_
  go_wp2_with fail
  obtain ⟨a0, a1, a2, a3, a4, a5, b0, b1, b2, b3, b4, b5⟩ := KS.out _ J.out
  go_region_held3 (fun W => (W.cell? ⟨G1, 0, none⟩ = some (.int .i64 x.k) ∧ W.cell? ⟨G1, 1, none⟩ = some (.int .i64 x.a) ∧ W.cell? ⟨G1, 2, none⟩ = some (.int .i64 x.m) ∧ W.cell? ⟨G1, 3, none⟩ = some (.string x.nm) ∧ W.cell? ⟨G1, 4, none⟩ = some (.string x.lb) ∧ W.cell? ⟨G1, 5, none⟩ = some (.slice A3 x.l.length c3) ∧ W.cell? ⟨G2, 0, none⟩ = some (.int .i64 x.k) ∧ W.cell? ⟨G2, 1, none⟩ = some (.int .i64 x.a) ∧ W.cell? ⟨G2, 2, none⟩ = some (.int .i64 x.m) ∧ W.cell? ⟨G2, 3, none⟩ = some (.string x.nm) ∧ W.cell? ⟨G2, 4, none⟩ = some (.string x.lb) ∧ W.cell? ⟨G2, 5, none⟩ = some (.slice A4 x.l.length c4))) (((try dsimp only); first | (with_reducible exact KS.out _ J.out) | ((repeat' apply And.intro) <;> first | (with_reducible assumption) | go_keep))) (first
    | (go_at_call 14; refine (HSA.out _ _ _ _ _ J.out.x1 J.out.x2).mono ?_; rintro e wt ⟨rfl, b⟩; have J := Lib.hid (J.out.under b); clear b)
    | (go_at_call 15; refine (HHE.out _ _ J.out.x1).mono ?_; rintro e wt ⟨rfl, b⟩; have J := Lib.hid (J.out.under b); clear b)
    | (go_at_call 16; refine (HRH.out _ _ J.out.x2).mono ?_; rintro e wt ⟨rfl, b⟩; have J := Lib.hid (J.out.under b); clear b)
    | (go_at_call 17; refine (kept_yes _ _ n _ _ bs _ _ _ J.out.fk hc1 (HX.out _ J.out.b) (by omega)).mono ?_; rintro e wt ⟨rfl, q⟩; have J := Lib.hid (J.out.under (q.below _)); clear q)
    | (go_at_call 10; refine (HAW.out _ J.out.b).mono ?_; rintro e wt ⟨rfl, b⟩; have J := Lib.hid (J.out.under b); clear b)
    | fail)
  go_wp2
  go_ret
  exact ⟨rfl, J.out.b⟩

theorem exprParses_walk (A : Option Addr) (n c : Nat) (zs : List Int) (w : World) (hr : IsRow .u8 w A n c zs) (hv : Vars w) :
    Calls Tryd.prog 3 #[.slice A n c] w fun e w' => e = .returned (.bool true) ∧ Below w.heap.size w w' := by
  obtain ⟨hnc, hcm, _, hx, hwf⟩ := hr.sh
  by_cases h : 1000 < n
  · exact exprParses_long A n c w h (Nat.le_trans hnc hcm) hv
  · exact exprParses_short A n c (zs.take n) w h hx (byt8_of hwf) hnc hcm hv
end Go.Proofs.YtnhhdafhnngolaaDoor
