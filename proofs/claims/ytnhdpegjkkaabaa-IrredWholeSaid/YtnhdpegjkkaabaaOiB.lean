/-
  CONTRACT OF the document's List: the irreducibles of a lattice.
-/
import Derived.Test.YtnhdpegjkkaabaaOiA
import Derived.Test.YtnhdpegjkkaabaaOlN
namespace Go.Proofs.Ytnhdpegjkkaabaa
set_option linter.unusedVariables false
set_option linter.unusedSimpArgs false
open Go.RowKit

def underK (F : Nat → Nat → Bool) (e k : Nat) : List Nat := (List.range k).filter fun i => !decide (i = e) && F i e
theorem underK_succ (F : Nat → Nat → Bool) (e k : Nat) : underK F e (k + 1) = underK F e k ++ if !decide (k = e) && F k e then [k] else [] := by
  unfold underK
  rw [List.range_succ, List.filter_append]
  congr 1
  rw [List.filter_cons]
  split <;> rfl
theorem underK_lt {F : Nat → Nat → Bool} {e k : Nat} : ∀ a ∈ underK F e k, a < k := fun a h => by
  unfold underK at h
  exact List.mem_range.1 (List.mem_filter.1 h).1
def irrK (F : Nat → Nat → Bool) (n k : Nat) : List Nat := (List.range k).filter (irrB F n)
theorem irrK_succ (F : Nat → Nat → Bool) (n k : Nat) : irrK F n (k + 1) = irrK F n k ++ if irrB F n k then [k] else [] := by
  unfold irrK
  rw [List.range_succ, List.filter_append]
  congr 1
  rw [List.filter_cons]
  split <;> rfl
theorem len_le_of {p : Nat → Bool} {k : Nat} : ((List.range k).filter p).length ≤ k := by
  have := List.length_filter_le p (List.range k)
  simpa using this
theorem ints_len (l : List Nat) : (ints l).length = l.length := by simp [ints]
def ListTo (w : World) (l : List Nat) (e : Ending) (w' : World) : Prop := ∃ u, e = .returned u ∧ Own w' w.heap.size 3 1 u l.length (ints l) ∧ Below w.heap.size w w'

set_option maxRecDepth 100000 in
set_option maxHeartbeats 800000 in
theorem rlist_any {w : World} {o : Od} {v m js ms : Value} (h : LatAt w o v m js ms) (hL : Lat o.ns.length (rmost o) (jn (rmost o) o.ns.length) (mn (rmost o) o.ns.length)) (h0 : 0 < o.ns.length) :
    Calls Try.prog 12 #[.agg #[v, m, js, ms]] w (ListTo w (irr (rmost o) o.ns.length)) := by
  have hl := h.ref.wf.len
  obtain ⟨⟨J, cJ, rfl, _⟩, ⟨K, cK, rfl, _⟩⟩ := And.intro h.jt h.mt
  obtain ⟨⟨A, cA, rfl, _⟩, ⟨M, cM, rfl, _⟩⟩ := And.intro h.ref.nm h.ref.mt
  have hBX : Blk (w.alloc (.cells #[.slice A o.ns.length cA, .slice M o.ns.length cM, .slice J o.ns.length cJ, .slice K o.ns.length cK] 33)) w.heap.size 33 [.slice A o.ns.length cA, .slice M o.ns.length cM, .slice J o.ns.length cJ, .slice K o.ns.length cK] := Blk.new _ _ _
  have hb1 : Below w.heap.size w (w.alloc (.cells #[.slice A o.ns.length cA, .slice M o.ns.length cM, .slice J o.ns.length cJ, .slice K o.ns.length cK] 33)) := (Below.refl _ _).alloc (Nat.le_refl _) _
  have HMT := Lib.hid (fun (wx : World) (bx : Below w.heap.size w wx) (x y : Nat) (hx : x < o.ns.length) (hy : y < o.ns.length) => (by
    obtain ⟨M', c', e, hM⟩ := (h.ref.stay bx).mt
    cases e
    exact hM.at hx hy : ∃ mb mo pb po c, M = some ⟨mb, mo, none⟩ ∧ wx.cell? ⟨mb, mo + x, none⟩ = some (.slice (some ⟨pb, po, none⟩) o.ns.length c) ∧ wx.cell? ⟨pb, po + y, none⟩ = some (.bool (rmost o x y))))
  have HBOT := Lib.hid (fun (wx : World) (bx : Below w.heap.size w wx) => (rbottom_any (h.stay bx)))
  have HJA := Lib.hid (fun (wx : World) (bx : Below w.heap.size w wx) (S : Option Addr) (c : Nat) (s : List Nat) (hs : Sh wx wx.heap.size S s.length (ints s)) (hi : ∀ a ∈ s, a < o.ns.length) (hsl : s.length ≤ 1000000) => rjoinAll_any (h.stay bx) hL h0 S c s hs hi hsl)
  obtain ⟨bt0, hbt, ebt, _, _⟩ := hL.bot h0
  have hbt2 : bt (rmost o) o.ns.length = bt0 := by unfold bt; rw [ebt]; rfl
  rw [show (fun a b => o.most a b) = rmost o from rfl] at HBOT
  simp only [ebt] at HBOT HJA
  obtain ⟨F, hF⟩ : ∃ F : Nat → Nat → Bool, rmost o = F := ⟨_, rfl⟩
  rw [hF] at hbt2 ⊢
  simp only [hF] at HMT HJA
  have HBX := Lib.hid hBX
  have HB1 := Lib.hid hb1
  obtain ⟨n, hn⟩ : ∃ n, o.ns.length = n := ⟨_, rfl⟩
  rw [hn] at hl h0 hbt hbt2 HBX HB1 ⊢
  simp only [hn] at HMT HBOT HJA
  clear hF hBX hb1 h hL ebt hn
  go_enter Try.func12, Try.ntmps12
  go_wp2
  obtain ⟨w1, hw1⟩ : ∃ w1, w.alloc (.cells #[.slice A n cA, .slice M n cM, .slice J n cJ, .slice K n cK] 33) = w1 := ⟨_, rfl⟩
  rw [hw1] at HBX HB1
  rw [hw1]
  clear hw1
  go_loopw [3, 4] (fun u i wr => ∃ (k : Nat) (uu : Value), u = uu ∧ i = .int .i64 (k : Int) ∧ k ≤ n ∧ Hid (Own wr w1.heap.size 3 1 uu (irrK F n k).length (ints (irrK F n k))) ∧ Hid (Below w1.heap.size w1 wr)) (fun _ i _ => n - (intOf i).toNat)
  case atStart => exact ⟨0, _, rfl, rfl, Nat.zero_le _, Lib.hid (Own.nil _ _ _ _ (Nat.le_refl _)), Lib.hid (Below.refl _ _)⟩
  case round =>
    obtain ⟨k, uu, rfl, rfl, hk, HOW, HB⟩ := hrel
    obtain ⟨wa, hwa⟩ : ∃ wa, wa = wr := ⟨_, rfl⟩
    subst hwa
    obtain ⟨Au, cu, rfl⟩ := HOW.out.form
    have HBW := Lib.hid (fun (wx : World) (bx : Below w1.heap.size w1 wx) => HB1.out.trans (bx.mono HB1.out.size))
    have hbx := HBX.out.stay (HB.out.block _ HBX.out.lt)
    have d0 : wa.cell? ⟨w.heap.size, 0, none⟩ = some (.slice A n cA) := hbx.cell 0
    by_cases hlt : k < n
    · go_wp2
      go_loopw [5, 6] (fun u i wr => ∃ (j : Nat) (ux : Value), u = ux ∧ i = .int .i64 (j : Int) ∧ j ≤ n ∧ Hid (Own wr wa.heap.size 3 1 ux (underK F k j).length (ints (underK F k j))) ∧ Hid (Below wa.heap.size wa wr)) (fun _ i _ => n - (intOf i).toNat)
      case atStart => exact ⟨0, _, rfl, rfl, Nat.zero_le _, Lib.hid (Own.nil _ _ _ _ (Nat.le_refl _)), Lib.hid (Below.refl _ _)⟩
      case round =>
        obtain ⟨j, ux, rfl, rfl, hj, HOU, HB2⟩ := hrel
        obtain ⟨wb, hwb⟩ : ∃ wb, wb = wr := ⟨_, rfl⟩
        subst hwb
        obtain ⟨Ax, cx, rfl⟩ := HOU.out.form
        have HB3 := Lib.hid (HB.out.trans (HB2.out.mono HB.out.size))
        have hbx2 := HBX.out.stay (HB3.out.block _ HBX.out.lt)
        have e0 : wb.cell? ⟨w.heap.size, 0, none⟩ = some (.slice A n cA) := hbx2.cell 0
        have e1 : wb.cell? ⟨w.heap.size, 1, none⟩ = some (.slice M n cM) := hbx2.cell 1
        have HLU := Lib.hid (show (underK F k j).length ≤ j from len_le_of)
        by_cases hlt2 : j < n
        · obtain ⟨mb, mo, pb, po, pc, rfl, m1, m2⟩ := HMT.out wb (HBW.out wb HB3.out) j k hlt2 hlt
          have HS := Lib.hid (underK_succ F k j)
          obtain ⟨f, hf⟩ : ∃ f, F j k = f := ⟨_, rfl⟩
          rw [hf] at m2 HS
          have hown := HOU.out
          obtain ⟨L, hLx⟩ : ∃ L, underK F k j = L := ⟨_, rfl⟩
          rw [hLx] at HS hown HLU ⊢
          have hll := HLU.out
          clear hf hLx hbx hbx2
          by_cases hjk : j = k
          · subst hjk
            have HE := Lib.hid (show underK F j (j + 1) = L by rw [HS.out]; simp)
            have HO2 := Lib.hid hown
            go_wp2
            go_roundw
            case rel => exact ⟨j + 1, _, rfl, by go_num, hlt2, by rw [HE.out]; exact HO2, HB2⟩
            case measure => simp [intOf]; omega
          · have hne : ¬ (j : Int) = (k : Int) := by omega
            cases f with
            | false =>
              have HE := Lib.hid (show underK F k (j + 1) = L by rw [HS.out]; simp)
              have HO2 := Lib.hid hown
              go_wp2
              go_roundw
              case rel => exact ⟨j + 1, _, rfl, by go_num, hlt2, by rw [HE.out]; exact HO2, HB2⟩
              case measure => simp [intOf]; omega
            | true =>
              have HE := Lib.hid (show underK F k (j + 1) = L ++ [j] by rw [HS.out]; simp [hjk])
              go_wp2_with (first
                | (at_builtin; refine wpList_wanted rfl fun KK hKK => ?_; refine wp_push_f (.tmp 37) (.tmp 39) 36 rfl rowI wb wa.heap.size _ L.length _ [.int .i64 (j : Int)] rfl hown rfl rfl rfl (by intro u hu; rw [List.mem_singleton.1 hu]; rfl) (by omega) (by omega) ?_; intro v4 w4 ho4 hg4 hv4; refine hKK _ _ ?_; clear hKK KK; have HB4 := Lib.hid (push_below (us := [.int .i64 (j : Int)]) hown HB2.out (Nat.le_refl _) HB2.out.size hg4); have HO4 := Lib.hid (ho4.cast (show L.length + 1 = (L ++ [j]).length by simp) (ints_snoc L j).symm); clear ho4 hg4 hv4)
                | go_in)
              go_roundw
              case rel => exact ⟨j + 1, _, rfl, by go_num, hlt2, by rw [HE.out]; exact HO4, HB4⟩
              case measure => simp [intOf]; omega
        · obtain rfl : j = n := by omega
          have e2 : wb.cell? ⟨w.heap.size, 2, none⟩ = some (.slice J j cJ) := hbx2.cell 2
          have e3 : wb.cell? ⟨w.heap.size, 3, none⟩ = some (.slice K j cK) := hbx2.cell 3
          have HUK := Lib.hid (show underK F k j = under F j k from rfl)
          have HJC := Lib.hid (HJA.out)
          have HKS := Lib.hid (irrK_succ F j k)
          have hown := HOU.out
          have HLK := Lib.hid (show (irrK F j k).length ≤ k from len_le_of)
          obtain ⟨L, hLx⟩ : ∃ L, underK F k j = L := ⟨_, rfl⟩
          obtain ⟨L2, hL2⟩ : ∃ L2, irrK F j k = L2 := ⟨_, rfl⟩
          have hul : ∀ a ∈ L, a < j := fun a ha => underK_lt a (hLx ▸ ha)
          rw [hLx] at hown HLU HUK ⊢
          rw [hL2] at HKS HLK HOW ⊢
          have hll := HLU.out
          have hlk := HLK.out
          have HBC := Lib.hid (HBOT.out wb (HBW.out wb HB3.out))
          have HIB := Lib.hid (show irrB F j k = (!decide (k = bt0) && !decide (jfold F j L bt0 = k)) by unfold irrB; rw [hbt2, ← HUK.out])
          have HOUT := Lib.hid (HOW.out.below HB2.out)
          clear hLx hL2 hbx hbx2 HUK
          by_cases hkb : k = bt0
          · subst hkb
            have HE := Lib.hid (show irrK F j (k + 1) = L2 by rw [HKS.out, HIB.out]; simp)
            go_wp2_with (first
              | (go_at_call 25; (with_reducible refine HBC.out.mono ?_); rintro e w2 ⟨rfl, b2⟩; have HO2 := Lib.hid (HOUT.out.below b2); have HB5 := Lib.hid (HB3.out.trans (b2.mono HB3.out.size)); clear b2)
              | go_in)
            go_roundw
            case rel => exact ⟨k + 1, _, rfl, by go_num, hlt, by rw [HE.out]; exact HO2, HB5⟩
            case measure => simp [intOf]; omega
          · have hne : ¬ (k : Int) = (bt0 : Int) := by omega
            have HJA2 := Lib.hid (fun (wx : World) (bx : Below w1.heap.size w1 wx) (S : Option Addr) (c : Nat) (hs : Sh wx wx.heap.size S L.length (ints L)) => HJC.out wx (HBW.out wx bx) S c L hs hul (by omega))
            have HFE := Lib.hid (fun (wx : World) (bx : Below w1.heap.size w1 wx) => HBX.out.stay (bx.block _ HBX.out.lt))
            simp only [Int.toNat_natCast] at HJA2
            have HIB2 := Lib.hid (show irrB F j k = !decide (jfold F j L bt0 = k) by rw [HIB.out, decide_eq_false hkb]; rfl)
            obtain ⟨t, ht⟩ : ∃ t, jfold F j L bt0 = t := ⟨_, rfl⟩
            rw [ht] at HIB2
            simp only [ht] at HJA2
            clear ht
            by_cases hkt : t = k
            · subst hkt
              have HE := Lib.hid (show irrK F j (t + 1) = L2 by rw [HKS.out, HIB2.out]; simp)
              go_wp2_with (first
                | (go_at_call 25; (with_reducible refine HBC.out.mono ?_); rintro e w2 ⟨rfl, b2⟩; have HO2 := Lib.hid (HOUT.out.below b2); have HU2 := Lib.hid (hown.below b2); have HB5 := Lib.hid (HB3.out.trans (b2.mono HB3.out.size)); have q0 := (HFE.out w2 HB5.out).cell 0; have q1 := (HFE.out w2 HB5.out).cell 1; have q2 := (HFE.out w2 HB5.out).cell 2; have q3 := (HFE.out w2 HB5.out).cell 3; have HJ3 := Lib.hid (HJA2.out w2 HB5.out _ cx HU2.out.sh); clear b2)
                | (go_at_call 31; (with_reducible refine HJ3.out.mono ?_); rintro e w5 ⟨rfl, b5⟩; have HO5 := Lib.hid (HO2.out.below b5); have HB7 := Lib.hid (HB5.out.trans (b5.mono HB5.out.size)); clear b5)
                | go_in)
              go_roundw
              case rel => exact ⟨t + 1, _, rfl, by go_num, hlt, by rw [HE.out]; exact HO5, HB7⟩
              case measure => simp [intOf]; omega
            · have HE := Lib.hid (show irrK F j (k + 1) = L2 ++ [k] by rw [HKS.out, HIB2.out]; simp [hkt])
              have hne2 : ¬ (t : Int) = (k : Int) := by omega
              have hq1 : ((k : Int) != (bt0 : Int)) = true := by rw [bne_iff_ne]; omega
              have hq2 : ((t : Int) != (k : Int)) = true := by rw [bne_iff_ne]; omega
              go_wp2_with (first
                | (go_at_call 25; (with_reducible refine HBC.out.mono ?_); rintro e w2 ⟨rfl, b2⟩; have HO2 := Lib.hid (HOUT.out.below b2); have HU2 := Lib.hid (hown.below b2); have HB5 := Lib.hid (HB3.out.trans (b2.mono HB3.out.size)); have q0 := (HFE.out w2 HB5.out).cell 0; have q1 := (HFE.out w2 HB5.out).cell 1; have q2 := (HFE.out w2 HB5.out).cell 2; have q3 := (HFE.out w2 HB5.out).cell 3; have HJ3 := Lib.hid (HJA2.out w2 HB5.out _ cx HU2.out.sh); clear b2)
                | (go_at_call 31; (with_reducible refine HJ3.out.mono ?_); rintro e w5 ⟨rfl, b5⟩; have HO5 := Lib.hid (HO2.out.below b5); have HB7 := Lib.hid (HB5.out.trans (b5.mono HB5.out.size)); clear b5)
                | (at_builtin; refine wpList_wanted rfl fun KK hKK => ?_; refine wp_push_f (.tmp 52) (.tmp 54) 36 rfl rowI w5 w1.heap.size _ L2.length _ [.int .i64 (k : Int)] rfl HO5.out rfl rfl rfl (by intro u hu; rw [List.mem_singleton.1 hu]; rfl) (by omega) (by omega) ?_; intro v4 w4 ho4 hg4 hv4; refine hKK _ _ ?_; clear hKK KK; have HB8 := Lib.hid (push_below (us := [.int .i64 (k : Int)]) HO5.out HB7.out (Nat.le_refl _) HB7.out.size hg4); have HO8 := Lib.hid (ho4.cast (show L2.length + 1 = (L2 ++ [k]).length by simp) (ints_snoc L2 k).symm); clear ho4 hg4 hv4)
                | go_in)
              go_roundw
              case rel => exact ⟨k + 1, _, rfl, by go_num, hlt, by rw [HE.out]; exact HO8, HB8⟩
              case measure => simp [intOf]; omega
    · obtain rfl : k = n := by omega
      have HRES := Lib.hid (show Own wa w.heap.size 3 1 (.slice Au (irr F k).length cu) (irr F k).length (ints (irr F k)) from HOW.out.lower HB1.out.size)
      have HBF := Lib.hid (HBW.out wa HB.out)
      obtain ⟨L2, hL2⟩ : ∃ L2, irr F k = L2 := ⟨_, rfl⟩
      rw [show irrK F k k = L2 from hL2] at HOW ⊢
      rw [hL2] at HRES
      clear hbx
      go_wp2
      go_ret
      refine ⟨.slice Au L2.length cu, rfl, ?_, HBF.out⟩
      rw [hL2]
      exact HRES.out
end Go.Proofs.Ytnhdpegjkkaabaa
