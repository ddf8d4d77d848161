/-
  CONTRACT OF the document's lattice 'New': the walk.
-/
import Derived.Test.YtnhdpegjkkaabaaOlN
namespace Go.Proofs.Ytnhdpegjkkaabaa
set_option linter.unusedVariables false
set_option linter.unusedSimpArgs false
open Go.RowKit

theorem rjoin_rm {w : World} {o : Od} {v m : Value} (h : RefAt w o v m) {a b : Nat} (ha : a < o.ns.length) (hb : b < o.ns.length) :
    Calls Try.prog 44 #[.agg #[v, m], .int .i64 (a : Int), .int .i64 (b : Int)] w fun e w' => e = .returned (.int .i64 (rjoinI (rmost o) o.ns.length a b)) ∧ Below w.heap.size w w' := rjoin_any h ha hb
theorem rmeet_rm {w : World} {o : Od} {v m : Value} (h : RefAt w o v m) {a b : Nat} (ha : a < o.ns.length) (hb : b < o.ns.length) :
    Calls Try.prog 45 #[.agg #[v, m], .int .i64 (a : Int), .int .i64 (b : Int)] w fun e w' => e = .returned (.int .i64 (rjoinI (oflip (rmost o)) o.ns.length a b)) ∧ Below w.heap.size w w' := rmeet_any h ha hb
theorem rjoinI_comm (F : Nat → Nat → Bool) (n a b : Nat) : rjoinI F n a b = rjoinI F n b a := by
  have : jcand F n a b = jcand F n b a := by
    funext i
    have e : ∀ m, jall F a b i m = jall F b a i m := fun m => by
      unfold jall
      congr 1
      funext k
      cases F a k <;> cases F b k <;> rfl
    unfold jcand
    rw [e, Bool.and_comm (F a i)]
  unfold rjoinI
  rw [this]
theorem good_all {F : Nat → Nat → Bool} {n : Nat} (h : ∀ x y, x < n → y < n → lbad1 F n x y = false) {x y : Nat} (hx : x < n) (hy : y < n) :
    rjoinI F n x y = ((jn F n x y : Nat) : Int) ∧ jn F n x y < n ∧ rjoinI (oflip F) n x y = ((mn F n x y : Nat) : Int) ∧ mn F n x y < n := by
  have key : ∀ {a b : Nat}, a < n → b < n → a ≤ b → ¬ rjoinI F n a b < 0 ∧ ¬ rjoinI (oflip F) n a b < 0 := fun {a b} ha hb hab => by
    have := h a b ha hb
    unfold lbad1 at this
    rw [decide_eq_true hab] at this
    simp at this
    omega
  have k2 : ¬ rjoinI F n x y < 0 ∧ ¬ rjoinI (oflip F) n x y < 0 := by
    rcases Nat.le_total x y with e | e
    · exact key hx hy e
    · rw [rjoinI_comm F n x y, rjoinI_comm (oflip F) n x y]
      exact key hy hx e
  have k3 : ∀ {G : Nat → Nat → Bool}, ¬ rjoinI G n x y < 0 → rjoinI G n x y = (((rjoinI G n x y).toNat : Nat) : Int) ∧ (rjoinI G n x y).toNat < n := fun {G} hn => by
    rcases rjoin_cases G n x y with ⟨i, e, hi⟩ | ⟨e, _⟩
    · rw [e]; exact ⟨rfl, hi.lt⟩
    · rw [e] at hn; exact absurd (by decide) hn
  exact ⟨(k3 k2.1).1, (k3 k2.1).2, (k3 k2.2).1, (k3 k2.2).2⟩
theorem lbad1_val {F : Nat → Nat → Bool} {n x y : Nat} (h : x ≤ y) {p q : Int} (hp : rjoinI F n x y = p) (hq : rjoinI (oflip F) n x y = q) : lbad1 F n x y = (decide (p < 0) || decide (q < 0)) := by
  unfold lbad1
  rw [hp, hq, decide_eq_true h, Bool.true_and]
theorem lbad2_no {F : Nat → Nat → Bool} {n x y : Nat} (h : ∀ c, c < n → lbad3 F n x y c = false) : lbad2 F n x y = false := by
  unfold lbad2
  rw [List.any_eq_false]
  intro c hc
  rw [h c (List.mem_range.1 hc)]
  simp
theorem lbad2_yes {F : Nat → Nat → Bool} {n x y c : Nat} (hc : c < n) (h : lbad3 F n x y c = true) : lbad2 F n x y = true := by
  unfold lbad2
  rw [List.any_eq_true]
  exact ⟨c, List.mem_range.2 hc, h⟩
set_option maxRecDepth 100000 in
set_option maxHeartbeats 800000 in
theorem rlnew_any {w : World} {o : Od} {v m : Value} (h : RefAt w o v m) : Calls Try.prog 28 #[.agg #[v, m]] w (RLatTo w o v m) := by
  have hz := zeroLA
  have hl := h.wf.len
  obtain ⟨A, cA, rfl, _⟩ := h.nm
  obtain ⟨M, cM, rfl, _⟩ := h.mt
  have HREF := Lib.hid h
  have HJN := Lib.hid (fun (wx : World) (bx : Below w.heap.size w wx) (a b : Nat) (ha : a < o.ns.length) (hb : b < o.ns.length) => rjoin_rm (h.stay bx) ha hb)
  have HMN := Lib.hid (fun (wx : World) (bx : Below w.heap.size w wx) (a b : Nat) (ha : a < o.ns.length) (hb : b < o.ns.length) => rmeet_rm (h.stay bx) ha hb)
  have HBAD := Lib.hid (fun (w' : World) (a b c : Nat) (hb : Below w.heap.size w w') (h : LNew o.ns.length (rmost o) a b c) (hc : c ≠ 0) => rlat_bad (v := .slice A o.ns.length cA) (m := .slice M o.ns.length cM) hb h hc)
  have HOK := Lib.hid (fun (W : World) (R B : Nat) (J M' : Option Addr) (c d : Nat) (rj rm : List Value) (x0 x1 x2 x3 : Value) (hN : LNew o.ns.length (rmost o) 0 0 0) (hb : Below w.heap.size w W) (hR : w.heap.size ≤ R) (hB : R < B) 
    (hj : Own W B 36 1 (.slice J o.ns.length c) o.ns.length rj) (lj : rj.length = o.ns.length) (tj : RowsI W B o.ns.length (rjoinI (rmost o) o.ns.length) rj)
    (hm : Own W B 36 1 (.slice M' o.ns.length d) o.ns.length rm) (lm : rm.length = o.ns.length) (tm : RowsI W B o.ns.length (rjoinI (oflip (rmost o)) o.ns.length) rm) => rlat_ok (set4_below hb hR) hN (lat_close (x0 := x0) (x1 := x1) (x2 := x2) (x3 := x3) h hb hR hB hj lj tj hm lm tm))
  obtain ⟨F, hF⟩ : ∃ F, rmost o = F := ⟨_, rfl⟩
  obtain ⟨n, hn⟩ : ∃ n, o.ns.length = n := ⟨_, rfl⟩
  rw [hn] at hl HREF
  simp only [hF, hn] at HJN HMN HBAD HOK
  have h0 : (w.alloc (.cells #[.slice A n cA, .slice M n cM] 30)).heap.size = w.heap.size + 1 := by simp
  have hX : Blk (w.alloc (.cells #[.slice A n cA, .slice M n cM] 30)) w.heap.size 30 [.slice A n cA, .slice M n cM] := Blk.new _ _ _
  have hR := Blk.new (w.alloc (.cells #[.slice A n cA, .slice M n cM] 30)) 33 [.slice none 0 0, .slice none 0 0, .slice none 0 0, .slice none 0 0]
  rw [h0] at hR
  have hbX := (Below.refl w.heap.size w).alloc (Nat.le_refl _) (.cells #[.slice A n cA, .slice M n cM] 30)
  have hb1 := hbX.alloc (show w.heap.size ≤ _ by simp) (.cells #[.slice none 0 0, .slice none 0 0, .slice none 0 0, .slice none 0 0] 33)
  have hX1 : Blk ((w.alloc (.cells #[.slice A n cA, .slice M n cM] 30)).alloc (.cells #[.slice none 0 0, .slice none 0 0, .slice none 0 0, .slice none 0 0] 33)) w.heap.size 30 [.slice A n cA, .slice M n cM] := hX.stay (Below.heap_alloc _ _ _ hX.lt)
  rw [hn]
  clear hF h
  by_cases hz0 : n = 0
  · subst hz0
    have HN1 := Lib.hid (LNew.none (F := F) (rfl : 0 = 0))
    have HB1 := Lib.hid hb1
    have HR := Lib.hid hR
    obtain ⟨⟨r0, r1, r2, r3⟩, g0, g1, g2, g3⟩ := la_cells hR (Below.refl _ _)
    clear hn hX hX1 hb1 hbX
    go_enter Try.func28, Try.ntmps28
    go_wp2
    refine bodyPost_ret (results_la rfl rfl rfl rfl r0 r1 r2 r3) rfl ?_
    exact HBAD.out _ 0 0 1 HB1.out HN1.out (by decide)
  · have hp0 : ¬ (n : Int) = 0 := by omega
    have h2 : ((w.alloc (.cells #[.slice A n cA, .slice M n cM] 30)).alloc (.cells #[.slice none 0 0, .slice none 0 0, .slice none 0 0, .slice none 0 0] 33)).heap.size = w.heap.size + 1 + 1 := by simp
    have hL := Blk.new ((w.alloc (.cells #[.slice A n cA, .slice M n cM] 30)).alloc (.cells #[.slice none 0 0, .slice none 0 0, .slice none 0 0, .slice none 0 0] 33)) 33 [.slice A n cA, .slice M n cM, .slice none 0 0, .slice none 0 0]
    rw [h2] at hL
    have hbL := hb1.alloc (show w.heap.size ≤ _ by simp; omega) (.cells #[.slice A n cA, .slice M n cM, .slice none 0 0, .slice none 0 0] 33)
    have hX3 : Blk (((w.alloc (.cells #[.slice A n cA, .slice M n cM] 30)).alloc (.cells #[.slice none 0 0, .slice none 0 0, .slice none 0 0, .slice none 0 0] 33)).alloc (.cells #[.slice A n cA, .slice M n cM, .slice none 0 0, .slice none 0 0] 33)) w.heap.size 30 [.slice A n cA, .slice M n cM] := hX1.stay (Below.heap_alloc _ _ _ hX1.lt)
    have hR3 : Blk (((w.alloc (.cells #[.slice A n cA, .slice M n cM] 30)).alloc (.cells #[.slice none 0 0, .slice none 0 0, .slice none 0 0, .slice none 0 0] 33)).alloc (.cells #[.slice A n cA, .slice M n cM, .slice none 0 0, .slice none 0 0] 33)) (w.heap.size + 1) 33 [.slice none 0 0, .slice none 0 0, .slice none 0 0, .slice none 0 0] := hR.stay (Below.heap_alloc _ _ _ hR.lt)
    clear hn hX hX1 hb1 hbX hR h2
    have HHL := Lib.hid hL
    have HHX := Lib.hid hX3
    have HHR := Lib.hid hR3
    have HBW := Lib.hid hbL
    clear hL hX3 hR3 hbL
    go_enter Try.func28, Try.ntmps28
    go_wp2
    rw [show ((n : Int) == 0) = false by simpa using hz0]
    obtain ⟨w3, hw3⟩ : ∃ w3, ((w.alloc (.cells #[.slice A n cA, .slice M n cM] 30)).alloc (.cells #[.slice none 0 0, .slice none 0 0, .slice none 0 0, .slice none 0 0] 33)).alloc (.cells #[.slice A n cA, .slice M n cM, .slice none 0 0, .slice none 0 0] 33) = w3 := ⟨_, rfl⟩
    rw [hw3] at HHL HHX HHR HBW
    rw [hw3]
    obtain ⟨X, hX⟩ : ∃ X, w.heap.size = X := ⟨_, rfl⟩
    rw [hX] at HHL HHX HHR
    rw [hX]
    have HXE := Lib.hid hX
    obtain ⟨R, hR⟩ : ∃ R, X + 1 = R := ⟨_, rfl⟩
    rw [hR] at HHL HHR
    rw [hR]
    obtain ⟨L, hL⟩ : ∃ L, R + 1 = L := ⟨_, rfl⟩
    rw [hL] at HHL
    rw [hL]
    clear hw3
    go_loopw [8] (fun i wr => ∃ (a : Nat) (vj vm : Value) (rj rm : List Value), i = .int .i64 (a : Int) ∧ a ≤ n ∧ rj.length = a ∧ rm.length = a ∧ Hid (Blk wr L 33 [.slice A n cA, .slice M n cM, vj, vm]) ∧ Hid (Own wr (L + 1) 36 1 vj a rj) ∧ Hid (Own wr (L + 1) 36 1 vm a rm) ∧ Hid (Ap vj vm) ∧ Hid (RowsI wr (L + 1) n (rjoinI F n) rj) ∧ Hid (RowsI wr (L + 1) n (rjoinI (oflip F) n) rm) ∧ Hid (Below L w3 wr)) (fun i _ => n - (intOf i).toNat)
    case atStart => exact ⟨0, _, _, [], [], rfl, Nat.zero_le _, rfl, rfl, HHL, Lib.hid (Own.nil _ _ _ _ HHL.out.lt), Lib.hid (Own.nil _ _ _ _ HHL.out.lt), Lib.hid Ap.none, Lib.hid (RowsI.nil _ _ _ _), Lib.hid (RowsI.nil _ _ _ _), Lib.hid (Below.refl _ _)⟩
    case round =>
      obtain ⟨a, vj, vm, rj, rm, rfl, ha, lj, lm, HBL, HOJ, HOM, HAP, HTJ, HTM, HB4⟩ := hrel
      obtain ⟨wa, hwa⟩ : ∃ wa, wa = wr := ⟨_, rfl⟩
      subst hwa
      by_cases hlt : a < n
      · have hLa : L < wa.heap.size := HBL.out.lt
        go_wp2
        go_loopw [9, 10, 11] (fun j m i wr => ∃ (b : Nat) (uj um : Value), j = uj ∧ m = um ∧ i = .int .i64 (b : Int) ∧ b ≤ n ∧ Hid (Own wr wa.heap.size 3 1 uj b (tints b (rjoinI F n a))) ∧ Hid (Own wr wa.heap.size 3 1 um b (tints b (rjoinI (oflip F) n a))) ∧ Hid (Ap uj um) ∧ Hid (Below wa.heap.size wa wr)) (fun _ _ i _ => n - (intOf i).toNat)
        case atStart => exact ⟨0, _, _, rfl, rfl, rfl, Nat.zero_le _, Lib.hid (Own.nil _ _ _ _ (Nat.le_refl _)), Lib.hid (Own.nil _ _ _ _ (Nat.le_refl _)), Lib.hid Ap.none, Lib.hid (Below.refl _ _)⟩
        case round =>
          obtain ⟨b, uj, um, rfl, rfl, rfl, hb, HJ, HM, HA2, HB⟩ := hrel
          obtain ⟨wb, hwb⟩ : ∃ wb, wb = wr := ⟨_, rfl⟩
          subst hwb
          have HBB := Lib.hid (HB4.out.trans (HB.out.mono (Nat.le_of_lt hLa)))
          have HBQ := Lib.hid (fun (wx : World) (bx : Below L w3 wx) => HBW.out.trans (bx.mono (by rw [HXE.out]; have := HBW.out.size; have := HHL.out.lt; omega)))
          by_cases hlt2 : b < n
          · have hx := HHX.out.stay (HBB.out.block X (by omega))
            have k0 : wb.cell? ⟨X, 0, none⟩ = some (.slice A n cA) := hx.cell 0
            have k1 : wb.cell? ⟨X, 1, none⟩ = some (.slice M n cM) := hx.cell 1
            have HJC := Lib.hid (HJN.out wb (HBQ.out wb HBB.out) a b hlt hlt2)
            obtain ⟨Aj, cj, rfl⟩ := HJ.out.form
            obtain ⟨Am, cm, rfl⟩ := HM.out.form
            clear hx
            go_wp2_with (first
              | (go_at_call 44; (with_reducible refine HJC.out.mono ?_); rintro e w2 ⟨rfl, b2⟩; have HJ2 := Lib.hid (HJ.out.below b2); have HM2 := Lib.hid (HM.out.below b2); have HB2 := Lib.hid (HB.out.trans (b2.mono HB.out.size)); clear b2)
              | (go_at_call 45; (with_reducible refine HMC.out.mono ?_); rintro e w5 ⟨rfl, b5⟩; have HJ5 := Lib.hid (HJ4.out.below b5); have HM5 := Lib.hid (HM4.out.below b5); have HB5 := Lib.hid (HB4'.out.trans (b5.mono HB4'.out.size)); clear b5)
              | (at_builtin; refine wpList_wanted rfl fun KK hKK => ?_; refine wp_push_f (.tmp 35) (.tmp 40) 36 rfl rowI w2 wa.heap.size _ b _ [.int .i64 (rjoinI F n a b)] rfl HJ2.out rfl rfl rfl (by intro u hu; rw [List.mem_singleton.1 hu]; rfl) (by omega) (by omega) ?_; intro v4 w4 ho4 hg4 hv4; refine hKK _ _ ?_; clear hKK KK; obtain ⟨hm4, ha4⟩ := pair_push (us := [.int .i64 (rjoinI F n a b)]) HJ2.out HM2.out HA2.out hg4 hv4; have HB4' := Lib.hid (push_below (us := [.int .i64 (rjoinI F n a b)]) HJ2.out HB2.out (Nat.le_refl _) HB2.out.size hg4); have HJ4 := Lib.hid (ho4.cast rfl (tints_snoc b (rjoinI F n a)).symm); have HM4 := Lib.hid hm4; have HA4 := Lib.hid ha4; have HBC := Lib.hid (HB4.out.trans (HB4'.out.mono (Nat.le_of_lt hLa))); have hx4 := HHX.out.stay (HBC.out.block X (by omega)); have k40 : w4.cell? ⟨X, 0, none⟩ = some (.slice A n cA) := hx4.cell 0; have k41 : w4.cell? ⟨X, 1, none⟩ = some (.slice M n cM) := hx4.cell 1; have HMC := Lib.hid (HMN.out w4 (HBQ.out w4 HBC.out) a b hlt hlt2); clear hx4 hm4 ha4 ho4 hg4 hv4)
              | (at_builtin; refine wpList_wanted rfl fun KK hKK => ?_; refine wp_push_f (.tmp 42) (.tmp 47) 36 rfl rowI w5 wa.heap.size _ b _ [.int .i64 (rjoinI (oflip F) n a b)] rfl HM5.out rfl rfl rfl (by intro u hu; rw [List.mem_singleton.1 hu]; rfl) (by omega) (by omega) ?_; intro v6 w6 ho6 hg6 hv6; refine hKK _ _ ?_; clear hKK KK; obtain ⟨hj6, ha6⟩ := pair_push (us := [.int .i64 (rjoinI (oflip F) n a b)]) HM5.out HJ5.out HA4.out.symm hg6 hv6; have HB6 := Lib.hid (push_below (us := [.int .i64 (rjoinI (oflip F) n a b)]) HM5.out HB5.out (Nat.le_refl _) HB5.out.size hg6); have HM6 := Lib.hid (ho6.cast rfl (tints_snoc b (rjoinI (oflip F) n a)).symm); have HJ6 := Lib.hid hj6; have HA6 := Lib.hid ha6.symm; clear hj6 ha6 ho6 hg6 hv6)
              | go_in)
            go_roundw
            case rel => exact ⟨b + 1, _, _, rfl, rfl, by go_num, hlt2, HJ6, HM6, HA6, HB6⟩
            case measure => simp [intOf]; omega
          · obtain rfl : b = n := by omega
            have hJo := HOJ.out.below HB.out
            have hMo := HOM.out.below HB.out
            have hTJ := HTJ.out.below HB.out
            have hTM := HTM.out.below HB.out
            have hbl : Blk wb L 33 [.slice A b cA, .slice M b cM, vj, vm] := HBL.out.stay (HB.out.block L hLa)
            obtain ⟨Aj, cj, rfl⟩ := HJ.out.form
            obtain ⟨Am, cm, rfl⟩ := HM.out.form
            obtain ⟨Vj, dj, rfl⟩ := hJo.form
            obtain ⟨Vm, dm, rfl⟩ := hMo.form
            have k2 : wb.cell? ⟨L, 2, none⟩ = some (.slice Vj a dj) := hbl.cell 2
            have HPJ := Lib.hid (HJ.out.lower (B' := L + 1) (by omega))
            have HPM := Lib.hid (HM.out.lower (B' := L + 1) (by omega))
            have HJO := Lib.hid hJo
            have HMO := Lib.hid hMo
            have HTJ2 := Lib.hid hTJ
            have HTM2 := Lib.hid hTM
            have HBLK := Lib.hid hbl
            clear hJo hMo hTJ hTM hbl
            go_wp2_with (first
              | (at_builtin; refine wpList_wanted rfl fun KK hKK => ?_; refine wp_push_f (.tmp 50) (.tmp 52) 31 rfl rowII wb (L + 1) _ a _ [.slice Aj b cj] rfl HJO.out rfl rfl rfl (by intro u hu; rw [List.mem_singleton.1 hu]; rfl) (by omega) (by omega) ?_; intro v7 w7 ho7 hg7 hv7; obtain ⟨A7, c7, rfl⟩ := ho7.form; refine hKK _ _ ?_; clear hKK KK; have bl7 := row_block (us := [.slice Aj b cj]) HBLK.out HJO.out (by omega) hg7; have k7 : w7.cell? ⟨L, 2, none⟩ = some (.slice Vj a dj) := bl7.cell 2; have f7 : w7.frozen? ⟨L, 2, none⟩ = false := bl7.nf 2; have k3 : (w7.setCell ⟨L, 2, none⟩ (.slice A7 (a + 1) c7)).cell? ⟨L, 3, none⟩ = some (.slice Vm a dm) := (bl7.set 2 (.slice A7 (a + 1) c7)).cell 3; have HB7 := Lib.hid bl7; have HO7 := Lib.hid ho7; have HG7 := Lib.hid hg7; have HV7 := Lib.hid hv7; have HM7 := Lib.hid ((pair_push (us := [.slice Aj b cj]) HJO.out HMO.out HAP.out hg7 hv7).1.setq (p := ⟨L, 2, none⟩) (by show L < L + 1; omega) (.slice A7 (a + 1) c7)); clear bl7 ho7 hg7 hv7)
              | (at_builtin; refine wpList_wanted rfl fun KK hKK => ?_; refine wp_push_f (.tmp 56) (.tmp 58) 31 rfl rowII (w7.setCell ⟨L, 2, none⟩ (.slice A7 (a + 1) c7)) (L + 1) _ a _ [.slice Am b cm] rfl HM7.out rfl (by simp) rfl (by intro u hu; rw [List.mem_singleton.1 hu]; rfl) (by omega) (by omega) ?_; intro v8 w8 ho8 hg8 hv8; obtain ⟨A8, c8, rfl⟩ := ho8.form; refine hKK _ _ ?_; clear hKK KK; have bl8 := row_block (us := [.slice Am b cm]) (HB7.out.set 2 (.slice A7 (a + 1) c7)) HM7.out (by omega) hg8; have k8 : w8.cell? ⟨L, 3, none⟩ = some (.slice Vm a dm) := bl8.cell 3; have f8 : w8.frozen? ⟨L, 3, none⟩ = false := bl8.nf 3; clear bl8; have HO8 := Lib.hid ho8; have HG8 := Lib.hid hg8; have HV8 := Lib.hid hv8; clear ho8 hg8 hv8)
              | go_in)
            obtain ⟨q1, q2, q3, q4, q5, q6, q7⟩ := tab_close HBLK.out HJO.out HMO.out HAP.out HTJ2.out HTM2.out lj lm HPJ.out HPM.out HO7.out HG7.out HV7.out HO8.out HG8.out HV8.out
            have Q1 := Lib.hid q1
            have Q2 := Lib.hid q2
            have Q3 := Lib.hid q3
            have Q4 := Lib.hid q4
            have Q5 := Lib.hid q5
            have Q6 := Lib.hid q6
            have Q7 := Lib.hid (q7 HBB.out (Nat.le_refl _))
            have lj2 : (rj ++ [Value.slice Aj b cj]).length = a + 1 := by rw [List.length_append, lj]; rfl
            have lm2 : (rm ++ [Value.slice Am b cm]).length = a + 1 := by rw [List.length_append, lm]; rfl
            clear q1 q2 q3 q4 q5 q6 q7
            go_roundw
            case rel => exact ⟨a + 1, _, _, _, _, by go_num, hlt, lj2, lm2, Q1, Q2, Q3, Q4, Q5, Q6, Q7⟩
            case measure => simp [intOf]; omega
      · obtain rfl : a = n := by omega
        have hn0 : 0 < a := by omega
        obtain ⟨Vj, dj, rfl⟩ := HOJ.out.form
        obtain ⟨Vm, dm, rfl⟩ := HOM.out.form
        obtain ⟨jb, jo, jr, jro, jrc, rfl, hjr⟩ := (TabAt.of_rows HOJ.out lj HTJ.out).rows hn0
        obtain ⟨mb, mo, mr, mro, mrc, rfl, hmr⟩ := (TabAt.of_rows HOM.out lm HTM.out).rows hn0
        have HJ1 := Lib.hid (fun x hx => (hjr x hx).1)
        have HJ2 := Lib.hid (fun x y hx hy => (hjr x hx).2 y hy)
        have HM1 := Lib.hid (fun x hx => (hmr x hx).1)
        have HM2 := Lib.hid (fun x y hx hy => (hmr x hx).2 y hy)
        clear hjr hmr
        have k0 := HBL.out.cell 0
        have k1 := HBL.out.cell 1
        have k2 : wa.cell? ⟨L, 2, none⟩ = some (.slice (some ⟨jb, jo, none⟩) a dj) := HBL.out.cell 2
        have k3 : wa.cell? ⟨L, 3, none⟩ = some (.slice (some ⟨mb, mo, none⟩) a dm) := HBL.out.cell 3
        have hRL : R < L := by omega
        have hwR : w.heap.size ≤ R := by rw [HXE.out]; omega
        have HWA := Lib.hid (HBW.out.trans (HB4.out.mono (show w.heap.size ≤ L by rw [HXE.out]; omega)))
        have HRA := Lib.hid (HHR.out.stay (HB4.out.block R hRL))
        clear HJN HMN HHL HHX HHR
        go_wp2
        go_loopw [12] (fun i wr => ∃ x : Nat, i = .int .i64 (x : Int) ∧ x ≤ a ∧ Hid (∀ p q, p < x → q < a → lbad1 F a p q = false) ∧ wr = wa) (fun i _ => a - (intOf i).toNat)
        case atStart => exact ⟨0, rfl, Nat.zero_le _, Lib.hid (fun p q hp => absurd hp (Nat.not_lt_zero _)), rfl⟩
        case round =>
          obtain ⟨x, rfl, hx, HNO, rfl⟩ := hrel
          obtain ⟨wz, hwz⟩ : ∃ wz, wz = wr := ⟨_, rfl⟩
          subst hwz
          by_cases hltx : x < a
          · go_wp2
            go_loopw [13] (fun i wr => ∃ y : Nat, i = .int .i64 (y : Int) ∧ x ≤ y ∧ y ≤ a ∧ Hid (∀ q, q < y → lbad1 F a x q = false) ∧ wr = wz) (fun i _ => a - (intOf i).toNat)
            case atStart => exact ⟨x, rfl, Nat.le_refl _, hx, Lib.hid (fun q hq => by unfold lbad1; rw [decide_eq_false (by omega)]; rfl), rfl⟩
            case round =>
              obtain ⟨y, rfl, hxy, hy, HNY, rfl⟩ := hrel
              by_cases hlty : y < a
              · have r1 := HJ1.out x hltx
                have r2 := HJ2.out x y hltx hlty
                have r3 := HM1.out x hltx
                have r4 := HM2.out x y hltx hlty
                obtain ⟨p, hp⟩ : ∃ p, rjoinI F a x y = p := ⟨_, rfl⟩
                obtain ⟨q, hq⟩ : ∃ q, rjoinI (oflip F) a x y = q := ⟨_, rfl⟩
                have HV := Lib.hid (lbad1_val hxy hp hq)
                rw [hp] at r2
                rw [hq] at r4
                clear hp hq
                obtain ⟨⟨c0, c1, c2, c3⟩, g0, g1, g2, g3⟩ := la_cells HRA.out (Below.refl _ _)
                have HFS := Lib.hid (fun h : lbad1 F a x y = true => LNew.one (F := F) (Fst.mk hltx hlty h (fun u v hu hv h => by
                  rcases h with h | ⟨h1, h2⟩
                  · exact HNO.out u v h hv
                  · subst h1; exact HNY.out v h2)))
                by_cases hpn : p < 0
                · have HF := Lib.hid (HFS.out (by rw [HV.out, decide_eq_true hpn]; rfl))
                  clear HFS
                  go_wp2
                  refine la_done rfl rfl rfl rfl rfl HRA.out (Below.refl _ _) ?_
                  exact HBAD.out _ x y 17 (set4_below HWA.out hwR) HF.out (by decide)
                · by_cases hqn : q < 0
                  · have HF := Lib.hid (HFS.out (by rw [HV.out, decide_eq_true hqn, Bool.or_true]))
                    clear HFS
                    go_wp2
                    refine la_done rfl rfl rfl rfl rfl HRA.out (Below.refl _ _) ?_
                    exact HBAD.out _ x y 17 (set4_below HWA.out hwR) HF.out (by decide)
                  · have hN := HNY.out
                    have HN2 := Lib.hid (fun q' (hq' : q' < y + 1) => (by
                      rcases Nat.lt_or_ge q' y with e | e
                      · exact hN q' e
                      · obtain rfl : q' = y := by omega
                        rw [HV.out, decide_eq_false hpn, decide_eq_false hqn]; rfl : lbad1 F a x q' = false))
                    clear HFS hN
                    go_wp2
                    go_roundw
                    case rel => exact ⟨y + 1, by go_num, by omega, hlty, HN2, (by trivial)⟩
                    case measure => simp [intOf]; omega
              · obtain rfl : y = a := by omega
                have hN := HNO.out
                have hM := HNY.out
                have HN2 := Lib.hid (fun p' q' (hp' : p' < x + 1) (hq' : q' < y) => (by
                  rcases Nat.lt_or_ge p' x with e | e
                  · exact hN p' q' e hq'
                  · obtain rfl : p' = x := by omega
                    exact hM q' hq' : lbad1 F y p' q' = false))
                clear hN hM
                go_wp2
                go_roundw
                case rel => exact ⟨x + 1, by go_num, hltx, HN2, (by trivial)⟩
                case measure => simp [intOf]; omega
          · obtain rfl : x = a := by omega
            have hg := HNO.out
            have HLB := Lib.hid (fun p q hp hq => hg p q hp hq)
            have HGA := Lib.hid (fun (p q : Nat) (hp : p < x) (hq : q < x) => good_all (F := F) (fun p q hp hq => hg p q hp hq) hp hq)
            clear hg HNO
            go_wp2
            go_loopw [14] (fun i wr => ∃ u : Nat, i = .int .i64 (u : Int) ∧ u ≤ x ∧ Hid (∀ p q, p < u → q < x → lbad2 F x p q = false) ∧ Hid (Quiet wz wr)) (fun i _ => x - (intOf i).toNat)
            case atStart => exact ⟨0, rfl, Nat.zero_le _, Lib.hid (fun p q hp => absurd hp (Nat.not_lt_zero _)), Lib.hid (Quiet.refl _)⟩
            case round =>
              obtain ⟨u, rfl, hu, HN1, HQ1⟩ := hrel
              obtain ⟨w5, hw5⟩ : ∃ w5, w5 = wr := ⟨_, rfl⟩
              subst hw5
              by_cases hltu : u < x
              · go_wp2
                go_loopw [15] (fun i wr => ∃ y : Nat, i = .int .i64 (y : Int) ∧ y ≤ x ∧ Hid (∀ q, q < y → lbad2 F x u q = false) ∧ Hid (Quiet wz wr)) (fun i _ => x - (intOf i).toNat)
                case atStart => exact ⟨0, rfl, Nat.zero_le _, Lib.hid (fun q hq => absurd hq (Nat.not_lt_zero _)), HQ1⟩
                case round =>
                  obtain ⟨y, rfl, hy, HN2, HQ2⟩ := hrel
                  obtain ⟨w6, hw6⟩ : ∃ w6, w6 = wr := ⟨_, rfl⟩
                  subst hw6
                  by_cases hlty : y < x
                  · go_wp2
                    go_loopw [16] (fun i wr => ∃ c : Nat, i = .int .i64 (c : Int) ∧ c ≤ x ∧ Hid (∀ q, q < c → lbad3 F x u y q = false) ∧ Hid (Quiet wz wr)) (fun i _ => x - (intOf i).toNat)
                    case atStart => exact ⟨0, rfl, Nat.zero_le _, Lib.hid (fun q hq => absurd hq (Nat.not_lt_zero _)), HQ2⟩
                    case round =>
                      obtain ⟨c, rfl, hc, HN3, HQ3⟩ := hrel
                      obtain ⟨w7, hw7⟩ : ∃ w7, w7 = wr := ⟨_, rfl⟩
                      subst hw7
                      by_cases hltc : c < x
                      · have hB := HQ3.out.below wz.heap.size
                        have hBL := HQ3.out.below (L + 1)
                        have hbl := HBL.out.stay (hBL.block L (Nat.lt_succ_self _))
                        have l2 : w7.cell? ⟨L, 2, none⟩ = some (.slice (some ⟨jb, jo, none⟩) x dj) := hbl.cell 2
                        have l3 : w7.cell? ⟨L, 3, none⟩ = some (.slice (some ⟨mb, mo, none⟩) x dm) := hbl.cell 3
                        have hqc : ∀ {p : Addr} {v : Value}, wz.cell? p = some v → w7.cell? p = some v := fun {p v} h => by
                          have := HQ3.out.below (p.block + 1)
                          exact (this.cell (p := p) (Nat.lt_succ_self _)).trans h
                        obtain ⟨e1, b1, _, _⟩ := HGA.out y c hlty hltc
                        obtain ⟨_, _, e2, b2⟩ := HGA.out u y hltu hlty
                        obtain ⟨_, _, e3, b3⟩ := HGA.out u c hltu hltc
                        obtain ⟨_, _, e4, _⟩ := HGA.out u _ hltu b1
                        obtain ⟨e5, _, _, _⟩ := HGA.out _ _ b2 b3
                        have m1 := hqc (HM1.out u hltu)
                        have j1 := hqc (HJ1.out y hlty)
                        have j2 := hqc (HJ2.out y c hlty hltc)
                        have m2 := hqc (HM2.out u _ hltu b1)
                        have m3 := hqc (HM2.out u y hltu hlty)
                        have j3 := hqc (HJ1.out _ b2)
                        have m4 := hqc (HM2.out u c hltu hltc)
                        have j4 := hqc (HJ2.out _ _ b2 b3)
                        rw [e1] at j2
                        rw [e4] at m2
                        rw [e2] at m3
                        rw [e3] at m4
                        rw [e5] at j4
                        have HL3 := Lib.hid (show lbad3 F x u y c = !decide (mn F x u (jn F x y c) = jn F x (mn F x u y) (mn F x u c)) from rfl)
                        obtain ⟨p, hp⟩ : ∃ p, jn F x y c = p := ⟨_, rfl⟩
                        obtain ⟨q, hq⟩ : ∃ q, mn F x u y = q := ⟨_, rfl⟩
                        obtain ⟨r, hr⟩ : ∃ r, mn F x u c = r := ⟨_, rfl⟩
                        rw [hp] at j2 m2 b1 HL3
                        rw [hq] at m3 j3 j4 b2 HL3
                        rw [hr] at m4 j4 b3 HL3
                        clear e1 e2 e3 e4 e5
                        rw [hp, hq, hr] at *
                        obtain ⟨s, hs⟩ : ∃ s, mn F x u p = s := ⟨_, rfl⟩
                        obtain ⟨t, ht⟩ : ∃ t, jn F x q r = t := ⟨_, rfl⟩
                        rw [hs] at m2 HL3
                        rw [ht] at j4 HL3
                        clear hp hq hr hs ht hB hBL hbl
                        by_cases hst : s = t
                        · subst hst
                          have hN := HN3.out
                          have HN4 := Lib.hid (fun q' (hq' : q' < c + 1) => (by
                            rcases Nat.lt_or_ge q' c with e | e
                            · exact hN q' e
                            · obtain rfl : q' = c := by omega
                              rw [HL3.out]; simp : lbad3 F x u y q' = false))
                          clear hN
                          go_wp2
                          go_quiet (fail)
                          go_wp2
                          go_roundw
                          case rel => exact ⟨c + 1, by go_num, hltc, HN4, Lib.hid (HQ3.out.trans (Quiet.one _ _))⟩
                          case measure => simp [intOf]; omega
                        · have hne : ¬ (s : Int) = (t : Int) := by omega
                          have HF := Lib.hid (LNew.two (F := F) HLB.out (Fst.mk hltu hlty (lbad2_yes hltc (by rw [HL3.out, decide_eq_false hst]; rfl)) (fun p' q' hp' hq' h => by
                            rcases h with h | ⟨h1, h2⟩
                            · exact HN1.out p' q' h hq'
                            · subst h1; exact HN2.out q' h2)))
                          go_wp2
                          go_quiet (fail)
                          have HBD := Lib.hid ((HQ3.out.trans (Quiet.one w7 nq)).below wz.heap.size)
                          obtain ⟨wd, hwd⟩ : ∃ wd, w7.drewN nq = wd := ⟨_, rfl⟩
                          rw [hwd] at HBD
                          rw [hwd]
                          clear hwd
                          obtain ⟨⟨c0, c1, c2, c3⟩, g0, g1, g2, g3⟩ := la_cells HRA.out HBD.out
                          go_wp2
                          refine la_done rfl rfl rfl rfl rfl HRA.out HBD.out ?_
                          exact HBAD.out _ u y 17 (set4_below (HWA.out.trans (HBD.out.mono HWA.out.size)) hwR) HF.out (by decide)
                      · obtain rfl : c = x := by omega
                        have hN := HN2.out
                        have hM := HN3.out
                        have HN4 := Lib.hid (fun q' (hq' : q' < y + 1) => (by
                          rcases Nat.lt_or_ge q' y with e | e
                          · exact hN q' e
                          · obtain rfl : q' = y := by omega
                            exact lbad2_no hM : lbad2 F c u q' = false))
                        clear hN hM
                        go_wp2
                        go_roundw
                        case rel => exact ⟨y + 1, by go_num, hlty, HN4, HQ3⟩
                        case measure => simp [intOf]; omega
                  · obtain rfl : y = x := by omega
                    have hN := HN1.out
                    have hM := HN2.out
                    have HN4 := Lib.hid (fun p' q' (hp' : p' < u + 1) (hq' : q' < y) => (by
                      rcases Nat.lt_or_ge p' u with e | e
                      · exact hN p' q' e hq'
                      · obtain rfl : p' = u := by omega
                        exact hM q' hq' : lbad2 F y p' q' = false))
                    clear hN hM
                    go_wp2
                    go_roundw
                    case rel => exact ⟨u + 1, by go_num, hltu, HN4, HQ2⟩
                    case measure => simp [intOf]; omega
              · obtain rfl : u = x := by omega
                have HF := Lib.hid (LNew.ok (F := F) hn0 HLB.out (fun p q hp hq => HN1.out p q hp hq))
                have HBD := Lib.hid (HQ1.out.below wz.heap.size)
                have hbl := HBL.out.stay ((HQ1.out.below (L + 1)).block L (Nat.lt_succ_self _))
                have l0 : w5.cell? ⟨L, 0, none⟩ = some (.slice A u cA) := hbl.cell 0
                have l1 : w5.cell? ⟨L, 1, none⟩ = some (.slice M u cM) := hbl.cell 1
                have l2 : w5.cell? ⟨L, 2, none⟩ = some (.slice (some ⟨jb, jo, none⟩) u dj) := hbl.cell 2
                have l3 : w5.cell? ⟨L, 3, none⟩ = some (.slice (some ⟨mb, mo, none⟩) u dm) := hbl.cell 3
                obtain ⟨⟨c0, c1, c2, c3⟩, g0, g1, g2, g3⟩ := la_cells HRA.out HBD.out
                have HOJ5 := Lib.hid (HOJ.out.quiet HQ1.out)
                have HOM5 := Lib.hid (HOM.out.quiet HQ1.out)
                have HTJ5 := Lib.hid (HTJ.out.below HBD.out)
                have HTM5 := Lib.hid (HTM.out.below HBD.out)
                have HRES := Lib.hid (HOK.out w5 R (L + 1) _ _ _ _ rj rm (.slice A u cA) (.slice M u cM) (.slice (some ⟨jb, jo, none⟩) u dj) (.slice (some ⟨mb, mo, none⟩) u dm) HF.out (HWA.out.trans (HBD.out.mono HWA.out.size)) hwR (by omega) HOJ5.out lj HTJ5.out HOM5.out lm HTM5.out)
                clear hbl k0 k1 k2 k3
                go_wp2
                refine la_done rfl rfl rfl rfl rfl HRA.out HBD.out ?_
                exact HRES.out
end Go.Proofs.Ytnhdpegjkkaabaa
