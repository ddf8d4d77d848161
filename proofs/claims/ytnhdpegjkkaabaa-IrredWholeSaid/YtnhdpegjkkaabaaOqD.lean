/-
  CONTRACT OF the document's 'New': the walk.
-/
import Derived.Test.YtnhdpegjkkaabaaOqA
namespace Go.Proofs.Ytnhdpegjkkaabaa
set_option linter.unusedVariables false
set_option linter.unusedSimpArgs false
open Go.RowKit

set_option maxRecDepth 100000 in
set_option maxHeartbeats 800000 in
theorem rnew_any (A : Option Addr) (n c : Nat) (L : List OPa) (w : World) (hL : ShP w w.heap.size A n L) (hn : n ≤ 1000) (hnc : n ≤ c) (hs : ∀ t ∈ L, t.1.1.size ≤ 1000000 ∧ t.1.2.size ≤ 1000000) :
    Calls Try.prog 27 #[.slice A n c] w (RnewTo w (L.map (·.1))) := by
  have hz := zeroRO
  have HLn := Lib.hid hL.len
  have HS := Lib.hid hs
  have HN1 := Lib.hid (fun (o : Od) (k : Nat) (p : OPr) (r : List OPr) (w' : World) => rnewTo_add (w := w) (w' := w') (l := L.map (·.1)) (o := o) (k := k) (p := p) (r := r))
  have HN2 := Lib.hid (fun (o : Od) (k : Nat) (w' : World) => rnewTo_bad (w := w) (w' := w') (l := L.map (·.1)) (o := o) (k := k))
  have HN3 := Lib.hid (fun (o : Od) (v m : Value) (w' : World) => rnewTo_ok (w := w) (w' := w') (l := L.map (·.1)) (o := o) (v := v) (m := m))
  have hR0 : Blk (w.alloc (.cells #[.slice none 0 0, .slice none 0 0] 30)) w.heap.size 30 [.slice none 0 0, .slice none 0 0] := Blk.new _ _ _
  have HBW := Lib.hid ((Below.refl w.heap.size w).alloc (Nat.le_refl _) (.cells #[.slice none 0 0, .slice none 0 0] 30))
  have hL0 := (hL.below HBW.out).more (show w.heap.size ≤ (w.alloc (.cells #[.slice none 0 0, .slice none 0 0] 30)).heap.size by simp)
  have HR0 := Lib.hid hR0
  have HL0 := Lib.hid hL0
  clear hs hR0 hL0
  go_enter Try.func27, Try.ntmps27
  go_wp2
  obtain ⟨w0, hw0⟩ : ∃ w0, w.alloc (.cells #[.slice none 0 0, .slice none 0 0] 30) = w0 := ⟨_, rfl⟩
  rw [hw0] at HBW HR0 HL0
  rw [hw0]
  obtain ⟨R, hR⟩ : ∃ R, w.heap.size = R := ⟨_, rfl⟩
  rw [hR] at HR0 HBW
  rw [hR]
  have HRR := Lib.hid hR
  have HFIN := Lib.hid (fun (W : World) (x v : Value) (b : Below w0.heap.size w0 W) => (by
    have h1 : Below w.heap.size w W := by
      rw [hR]
      exact HBW.out.trans (b.mono (by rw [← hR]; exact HBW.out.size))
    exact (h1.setCell (p := ⟨R, 0, none⟩) (by rw [hR]; exact Nat.le_refl _) x).setCell (p := ⟨R, 1, none⟩) (by rw [hR]; exact Nat.le_refl _) v : Below w.heap.size w ((W.setCell ⟨R, 0, none⟩ x).setCell ⟨R, 1, none⟩ v)))
  clear hw0 hR hL
  go_loopw [5] (fun i wr => ∃ (k : Nat) (o : Od), i = .int .i64 (k : Int) ∧ k ≤ n ∧ Hid (Od.zero.adds (L.map (·.1)) 0 = o.adds ((L.map (·.1)).drop k) k) ∧ Hid (o.Wf) ∧ Hid (o.ns = rnames ((L.map (·.1)).take k)) ∧ Hid (Below w0.heap.size w0 wr)) (fun i _ => n - (intOf i).toNat)
  case atStart => exact ⟨0, Od.zero, rfl, Nat.zero_le _, Lib.hid rfl, Lib.hid Od.Wf.zero, Lib.hid rfl, Lib.hid (Below.refl _ _)⟩
  case round =>
    obtain ⟨k, o, rfl, hk, HE, HW, HNS, HB⟩ := hrel
    obtain ⟨wa, hwa⟩ : ∃ wa, wa = wr := ⟨_, rfl⟩
    subst hwa
    by_cases hlt : k < n
    · obtain ⟨b, off, t, rfl, hb, hget, hdr, c0, c1, c2⟩ := (HL0.out.below HB.out).at hlt
      obtain ⟨⟨lo, hi⟩, at_⟩ := t
      have hsz := HS.out _ (List.mem_of_getElem? hget)
      dsimp only at c0 c1 hsz
      have HC1 := Lib.hid (fun (wx : World) (bx : Below wa.heap.size wa wx) => (bx.cell (p := ⟨b, off + k * 3 + 1, none⟩) (Nat.lt_of_lt_of_le hb HB.out.size)).trans c1)
      have HD := Lib.hid (show (L.map (·.1)).drop k = (lo, hi) :: (L.map (·.1)).drop (k + 1) by rw [← List.map_drop, hdr, List.map_cons, List.map_drop])
      have htk : (L.map (·.1)).take (k + 1) = (L.map (·.1)).take k ++ [(lo, hi)] := by
        rw [List.take_add_one, List.getElem?_map, hget]
        rfl
      have HTK := Lib.hid (show rnames ((L.take (k + 1)).map (·.1)) = rstep o.ns (lo, hi) by rw [List.map_take, htk, rnames_snoc, HNS.out])
      have HTK2 := Lib.hid (show rnames ((L.map (·.1)).take (k + 1)) = rstep o.ns (lo, hi) by rw [htk, rnames_snoc, HNS.out])
      have HNM := Lib.hid (fun (wx : World) (bx : Below w0.heap.size w0 wx) => rnames_any (some ⟨b, off, none⟩) (k + 1) c (L.take (k + 1)) wx (((HL0.out.below bx).head (by omega)).more bx.size) (by omega))
      obtain ⟨code, cns⟩ := add_code HW.out (lo, hi)
      have HCD := Lib.hid code
      have HCN := Lib.hid cns
      have HI1 := Lib.hid (fun wx => rident_any lo wx hsz.1)
      have HI2 := Lib.hid (fun wx => rident_any hi wx hsz.2)
      have HNX := Lib.hid (fun (h : (o.add (lo, hi)).2 = 0) => (show Od.zero.adds (L.map (·.1)) 0 = (o.add (lo, hi)).1.adds ((L.map (·.1)).drop (k + 1)) (k + 1) by rw [HE.out, HD.out, Od.adds, if_neg (fun e => e h)]))
      have HWX := Lib.hid (HW.out.add (lo, hi))
      have HER := Lib.hid (fun (w2 : World) (he : (o.add (lo, hi)).2 ≠ 0) (hb : Below w.heap.size w w2) => HN1.out o k (lo, hi) ((L.map (·.1)).drop (k + 1)) w2 (by rw [HE.out, HD.out]) he hb)
      clear htk hget hdr code cns c1 hsz
      cases i1 : idB lo with
      | false =>
        have HB8 := Lib.hid (show (o.add (lo, hi)).2 = 1 by rw [HCD.out, if_pos (by unfold oBad; simp [i1])])
        have I1 := Lib.hid i1
        clear i1
        go_wp2_with (first
          | (go_at_call 40; with_reducible refine (HI1.out _).mono ?_; rintro e w2 ⟨rfl, b2⟩; rw [I1.out]; have HB2 := Lib.hid (HB.out.trans (b2.mono HB.out.size)); obtain ⟨r0, r1, g0, g1⟩ := ro_cells HR0.out HB2.out; clear b2)
          | go_in)
        refine ro_done rfl rfl rfl rfl HR0.out HB2.out ?_
        have h := HER.out _ (by rw [HB8.out]; decide) (HFIN.out w2 (.slice none 0 0) (.slice none 0 0) HB2.out)
        rw [HB8.out] at h
        exact h
      | true =>
        have I1 := Lib.hid i1
        by_cases h2 : hi.size ≠ 0 ∧ idB hi = false
        · have HB8 := Lib.hid (show (o.add (lo, hi)).2 = 1 by rw [HCD.out, if_pos (by unfold oBad; simp only [i1, h2.2, decide_eq_false h2.1]; rfl)])
          have hz : (hi.toList == []) = false := by rw [toList_nil]; simpa using h2.1
          have I2 := Lib.hid h2.2
          clear i1 h2
          go_wp2_with (first
            | (go_at_call 40; with_reducible refine (HI1.out _).mono ?_; rintro e w2 ⟨rfl, b2⟩; rw [I1.out]; have c1 := HC1.out w2 b2; have HB2 := Lib.hid (HB.out.trans (b2.mono HB.out.size)); clear b2)
            | (go_at_call 40; with_reducible refine (HI2.out _).mono ?_; rintro e w3 ⟨rfl, b3⟩; rw [I2.out]; have HB3 := Lib.hid (HB2.out.trans (b3.mono HB2.out.size)); obtain ⟨r0, r1, g0, g1⟩ := ro_cells HR0.out HB3.out; clear b3)
            | go_in)
          refine ro_done rfl rfl rfl rfl HR0.out HB3.out ?_
          have h := HER.out _ (by rw [HB8.out]; decide) (HFIN.out w3 (.slice none 0 0) (.slice none 0 0) HB3.out)
          rw [HB8.out] at h
          exact h
        · have hnb : oBad (lo, hi) = false := by
            rw [oBad_false]
            refine ⟨i1, ?_⟩
            by_cases h0 : hi.size = 0
            · exact .inl h0
            · exact .inr (by cases hx : idB hi with | true => rfl | false => exact absurd ⟨h0, hx⟩ h2)
          have hcs : ((hi.toList == []) = true) ∨ ((hi.toList == []) = false ∧ idB hi = true) := by
            rw [toList_nil]
            by_cases h0 : hi.size = 0
            · exact .inl (by simpa using h0)
            · exact .inr ⟨by simpa using h0, by cases hx : idB hi with | true => rfl | false => exact absurd ⟨h0, hx⟩ h2⟩
          have hcode := HCD.out
          rw [if_neg (by rw [hnb]; decide)] at hcode
          obtain ⟨M, hM⟩ : ∃ M, rstep o.ns (lo, hi) = M := ⟨_, rfl⟩
          rw [hM] at hcode HTK HTK2 HCN
          by_cases h64 : 64 < M.length
          · have hgt : (64 : Int) < (M.length : Int) := by omega
            rw [if_pos h64] at hcode
            have HB8 := Lib.hid hcode
            clear hcode hnb h2 i1 hM h64
            rcases hcs with hz | ⟨hz, hi2⟩
            · go_wp2_with (first
                | (go_at_call 40; with_reducible refine (HI1.out _).mono ?_; rintro e w2 ⟨rfl, b2⟩; rw [I1.out]; have c1 := HC1.out w2 b2; have HB2 := Lib.hid (HB.out.trans (b2.mono HB.out.size)); clear b2)
                | (go_at_call 41; (with_reducible refine (HNM.out _ HB2.out).mono ?_); rintro e w4 ⟨v4, rfl, ho4, b4⟩; rw [HTK.out] at ho4; obtain ⟨A4, c4, rfl⟩ := ho4.form; have HB4 := Lib.hid (HB2.out.trans (b4.mono HB2.out.size)); obtain ⟨r0, r1, g0, g1⟩ := ro_cells HR0.out HB4.out; clear b4 ho4)
                | go_in)
              refine ro_done rfl rfl rfl rfl HR0.out HB4.out ?_
              have h := HER.out _ (by rw [HB8.out]; decide) (HFIN.out w4 (.slice none 0 0) (.slice none 0 0) HB4.out)
              rw [HB8.out] at h
              exact h
            · have I2 := Lib.hid hi2
              clear hi2
              go_wp2_with (first
                | (go_at_call 40; with_reducible refine (HI1.out _).mono ?_; rintro e w2 ⟨rfl, b2⟩; rw [I1.out]; have c1 := HC1.out w2 b2; have HB2 := Lib.hid (HB.out.trans (b2.mono HB.out.size)); clear b2)
                | (go_at_call 40; with_reducible refine (HI2.out _).mono ?_; rintro e w3 ⟨rfl, b3⟩; rw [I2.out]; have HB2 := Lib.hid (HB2.out.trans (b3.mono HB2.out.size)); clear b3)
                | (go_at_call 41; (with_reducible refine (HNM.out _ HB2.out).mono ?_); rintro e w4 ⟨v4, rfl, ho4, b4⟩; rw [HTK.out] at ho4; obtain ⟨A4, c4, rfl⟩ := ho4.form; have HB4 := Lib.hid (HB2.out.trans (b4.mono HB2.out.size)); obtain ⟨r0, r1, g0, g1⟩ := ro_cells HR0.out HB4.out; clear b4 ho4)
                | go_in)
              refine ro_done rfl rfl rfl rfl HR0.out HB4.out ?_
              have h := HER.out _ (by rw [HB8.out]; decide) (HFIN.out w4 (.slice none 0 0) (.slice none 0 0) HB4.out)
              rw [HB8.out] at h
              exact h
          · have hgt : ¬ (64 : Int) < (M.length : Int) := by omega
            rw [if_neg h64] at hcode
            have HN2 := Lib.hid (show (o.add (lo, hi)).1.ns = rnames ((L.map (·.1)).take (k + 1)) by rw [HTK2.out, HCN.out hcode])
            have HE2 := Lib.hid (HNX.out hcode)
            clear hcode hnb h2 i1 hM h64
            rcases hcs with hz | ⟨hz, hi2⟩
            · go_wp2_with (first
                | (go_at_call 40; with_reducible refine (HI1.out _).mono ?_; rintro e w2 ⟨rfl, b2⟩; rw [I1.out]; have c1 := HC1.out w2 b2; have HB2 := Lib.hid (HB.out.trans (b2.mono HB.out.size)); clear b2)
                | (go_at_call 41; (with_reducible refine (HNM.out _ HB2.out).mono ?_); rintro e w4 ⟨v4, rfl, ho4, b4⟩; rw [HTK.out] at ho4; obtain ⟨A4, c4, rfl⟩ := ho4.form; have HB4 := Lib.hid (HB2.out.trans (b4.mono HB2.out.size)); clear b4 ho4)
                | go_in)
              go_roundw
              case rel => exact ⟨k + 1, _, by go_num, hlt, HE2, HWX, HN2, HB4⟩
              case measure => simp [intOf]; omega
            · have I2 := Lib.hid hi2
              clear hi2
              go_wp2_with (first
                | (go_at_call 40; with_reducible refine (HI1.out _).mono ?_; rintro e w2 ⟨rfl, b2⟩; rw [I1.out]; have c1 := HC1.out w2 b2; have HB2 := Lib.hid (HB.out.trans (b2.mono HB.out.size)); clear b2)
                | (go_at_call 40; with_reducible refine (HI2.out _).mono ?_; rintro e w3 ⟨rfl, b3⟩; rw [I2.out]; have HB2 := Lib.hid (HB2.out.trans (b3.mono HB2.out.size)); clear b3)
                | (go_at_call 41; (with_reducible refine (HNM.out _ HB2.out).mono ?_); rintro e w4 ⟨v4, rfl, ho4, b4⟩; rw [HTK.out] at ho4; obtain ⟨A4, c4, rfl⟩ := ho4.form; have HB4 := Lib.hid (HB2.out.trans (b4.mono HB2.out.size)); clear b4 ho4)
                | go_in)
              go_roundw
              case rel => exact ⟨k + 1, _, by go_num, hlt, HE2, HWX, HN2, HB4⟩
              case measure => simp [intOf]; omega
    · obtain rfl : k = n := by omega
      have hlen : (L.map (·.1)).length = k := by rw [List.length_map, HLn.out]
      have he0 : Od.zero.adds (L.map (·.1)) 0 = (o, 0, 0) := by rw [HE.out, List.drop_of_length_le (by rw [hlen]; exact Nat.le_refl _)]; rfl
      have hv : Oiv o (L.map (·.1)) := by
        have := Oiv.adds (r := L.map (·.1)) (i := 0) Oiv.zero (by rw [he0])
        rw [he0, List.nil_append] at this
        exact this
      have hns : o.ns = rnames (L.map (·.1)) := by rw [HNS.out, List.take_of_length_le (by rw [hlen]; exact Nat.le_refl _)]
      have hRn : Rnm o.ns (L.map (·.1)) := ⟨hv.wf.nd, fun s hs => (hv.men s).2 hs⟩
      have hN64 : o.ns.length ≤ 64 := hv.wf.len
      have HNM := Lib.hid (rnames_any A k c L wa ((HL0.out.below HB.out).more HB.out.size) (by omega))
      have HE0 := Lib.hid he0
      have HV := Lib.hid hv
      have HNE := Lib.hid hns
      have HRN := Lib.hid hRn
      clear hlen he0 hv hns hRn HE HNS HW HN1
      go_wp2_with (first
        | (go_at_call 41; (with_reducible refine HNM.out.mono ?_); rintro e w4 ⟨v4, rfl, ho4, b4⟩; rw [← HNE.out] at ho4; obtain ⟨A4, c4, rfl⟩ := ho4.form; have HO4 := Lib.hid ho4; have HB4 := Lib.hid (HB.out.trans (b4.mono HB.out.size)); clear b4 ho4)
        | go_in)
      have hO : Blk (w4.alloc (.cells #[.slice A4 o.ns.length c4, .slice none 0 0] 30)) w4.heap.size 30 [.slice A4 o.ns.length c4, .slice none 0 0] := Blk.new _ _ _
      have HB5 := Lib.hid ((Below.refl w4.heap.size w4).alloc (Nat.le_refl _) (.cells #[.slice A4 o.ns.length c4, .slice none 0 0] 30))
      have hv0 : Own (w4.alloc (.cells #[.slice A4 o.ns.length c4, .slice none 0 0] 30)) (w4.heap.size + 1) 52 1 (.slice none 0 0) 0 [] := Own.nil _ _ _ _ (by simp)
      have HBK := Lib.hid hO
      have HV0 := Lib.hid hv0
      obtain ⟨w5, hw5⟩ : ∃ w5, w4.alloc (.cells #[.slice A4 o.ns.length c4, .slice none 0 0] 30) = w5 := ⟨_, rfl⟩
      rw [hw5] at HBK HB5 HV0
      rw [hw5]
      obtain ⟨O, hOO⟩ : ∃ O, w4.heap.size = O := ⟨_, rfl⟩
      rw [hOO] at HBK HB5 HV0
      rw [hOO]
      have HOO := Lib.hid hOO
      clear hw5 hOO hO hv0
      go_loopw [8] (fun i wr => ∃ (a : Nat) (v : Value) (rows : List Value), i = .int .i64 (a : Int) ∧ a ≤ o.ns.length ∧ rows.length = a ∧ Hid (Own wr (O + 1) 52 1 v a rows) ∧ Hid (RowsAt wr (O + 1) o.ns.length (fun a b => o.fol.most a b) rows) ∧ Hid (Blk wr O 30 [.slice A4 o.ns.length c4, v]) ∧ Hid (Below O w4 wr)) (fun i _ => o.ns.length - (intOf i).toNat)
      case atStart => exact ⟨0, _, [], rfl, Nat.zero_le _, rfl, HV0, Lib.hid (fun j hj => absurd hj (Nat.not_lt_zero _)), HBK, HB5⟩
      case round =>
        obtain ⟨a, v, rows, rfl, ha, hrl, HOW, HRO, HBL, HBW4⟩ := hrel
        obtain ⟨wb, hwb⟩ : ∃ wb, wb = wr := ⟨_, rfl⟩
        subst hwb
        by_cases hlt2 : a < o.ns.length
        · obtain ⟨Av, cv, rfl⟩ := HOW.out.form
          have k1 : wb.cell? ⟨O, 1, none⟩ = some (.slice Av a cv) := HBL.out.cell 1
          have f1 := HBL.out.nf 1
          have HSTR := Lib.hid (show Sh wb wb.heap.size A4 o.ns.length (strs o.ns) from by
            have h1 := HO4.out.sh
            have h2 := HBW4.out
            rw [← HOO.out] at h2
            exact h1.grow h2)
          have hB45 : Below w0.heap.size w0 wb := by
            have h2 := HBW4.out
            rw [← HOO.out] at h2
            exact HB4.out.trans (h2.mono HB4.out.size)
          have HRE := Lib.hid (reached_any A A4 k o.ns.length c c4 L o.ns a wb.drew ((HL0.out.below hB45.drew).more hB45.size) (by omega) HSTR.out.drew (by omega) hlt2 HRN.out)
          have hrm := rows_most HV.out hlt2
          unfold RchTo at HRE
          rw [hrm] at HRE
          have hOb : O < wb.heap.size := HBL.out.lt
          have HOB := Lib.hid hOb
          have k1d : wb.drew.cell? ⟨O, 1, none⟩ = some (.slice Av a cv) := k1
          clear hrm hB45 hOb
          go_wp2
          go_region_law (first
            | (refine step_push_q rfl (.tmp 62) (.tmp 67) 28 rfl rowBB w2 (O + 1) _ a rows [.slice P2 o.ns.length c2] rfl HV2.out rfl (by simp) rfl (by intro u hu; rw [List.mem_singleton.1 hu]; rfl) (by omega) (by omega) ?_; intro v3 w3 ho3 hg3; obtain ⟨A5, c5, rfl⟩ := ho3.form; have BK3 := row_block (us := [.slice P2 o.ns.length c2]) HBL2.out HV2.out (by omega) hg3; have k3 : w3.cell? ⟨O, 1, none⟩ = some (.slice Av a cv) := BK3.cell 1; have f3 := BK3.nf 1; have HG3 := Lib.hid hg3; have HO3 := Lib.hid ho3; clear hg3 ho3 BK3)
            | (go_simp; go_at_call 42; refine HRE.out.mono ?_; rintro e w2 ⟨v2, rfl, ho2, b2⟩; obtain ⟨P2, c2, rfl⟩ := ho2.form; have HV2 := Lib.hid (HOW.out.drew.below b2); have HR2 := Lib.hid (RowsAt.below (w := wb.drew) HRO.out b2); have HBL2 := Lib.hid (Blk.stay (w := wb.drew) HBL.out (b2.block O HOB.out)); have HRW2 := Lib.hid (ho2.lower (B' := O + 1) HOB.out); have k2 : w2.cell? ⟨O, 1, none⟩ = some (.slice Av a cv) := (b2.cell (p := ⟨O, 1, none⟩) HOB.out).trans k1d; have hO2 : O < w2.heap.size := Nat.lt_of_lt_of_le HOB.out b2.size; have HB42 := Lib.hid (HBW4.out.drew.trans (b2.mono (Nat.le_of_lt HOB.out))); clear ho2 b2))
          all_goals
            obtain ⟨q1, q2, q3, q4⟩ := row_close HBL2.out HV2.out HR2.out hrl HRW2.out HB42.out HO3.out HG3.out
            have Q1 := Lib.hid q1
            have Q2 := Lib.hid q2
            have Q3 := Lib.hid q3
            have Q4 := Lib.hid q4
            have hrl3 : (rows ++ [Value.slice P2 o.ns.length c2]).length = a + 1 := by rw [List.length_append, hrl]; rfl
            clear q1 q2 q3 q4
            go_wp2
            go_roundw
            case rel => exact ⟨a + 1, _, _, by go_num, hlt2, hrl3, Q1, Q2, Q3, Q4⟩
            case measure => simp [intOf]; omega
        · obtain rfl : a = o.ns.length := by omega
          obtain ⟨Am, cm, rfl⟩ := HOW.out.form
          have hB45 : Below w0.heap.size w0 wb := by
            have h2 := HBW4.out
            rw [← HOO.out] at h2
            exact HB4.out.trans (h2.mono HB4.out.size)
          have hnm : Own wb wa.heap.size 9 1 (.slice A4 o.ns.length c4) o.ns.length (strs o.ns) := by
            have h2 := HBW4.out
            rw [← HOO.out] at h2
            exact HO4.out.below h2
          have HNO := Lib.hid hnm
          have HMA := Lib.hid (MatAt.of_rows HOW.out hrl HRO.out)
          have HB5' := Lib.hid hB45
          have HFI := Lib.hid (fun (wx : World) (b : Quiet wb wx) (s : ByteArray) (hs : s ∈ o.ns) => (by
            have := rfind_any A4 o.ns.length c4 o.ns s wx wx.heap.size (hnm.quiet b).sh (by unfold maxLen; omega)
            rw [rfind_in hs] at this
            exact this : Calls Try.prog 43 #[.slice A4 o.ns.length c4, .string s] wx fun e w' => e = .returned (.int .i64 (rnum o.ns s : Int)) ∧ wx = w'))
          clear hB45 hnm
          go_wp2
          go_loopw [9] (fun i wr => ∃ j : Nat, i = .int .i64 (j : Int) ∧ j ≤ k ∧ Hid (o.fol.bad (L.map (·.1)) 0 = o.fol.bad ((L.map (·.1)).drop j) j) ∧ Hid (Quiet wb wr)) (fun i _ => k - (intOf i).toNat)
          case atStart => exact ⟨0, rfl, Nat.zero_le _, Lib.hid rfl, Lib.hid (Quiet.refl _)⟩
          case round =>
            obtain ⟨j, rfl, hj, HBD, HQ⟩ := hrel
            obtain ⟨wc, hwc⟩ : ∃ wc, wc = wr := ⟨_, rfl⟩
            subst hwc
            have HBC := Lib.hid (HB5'.out.trans (HQ.out.below _))
            by_cases hlt3 : j < k
            · obtain ⟨b, off, t, rfl, hb, hget, hdr, c0, c1, c2⟩ := (HL0.out.below HBC.out).at hlt3
              obtain ⟨⟨lo, hi⟩, at_⟩ := t
              dsimp only at c0 c1
              have hmem : (lo, hi) ∈ L.map (·.1) := List.mem_map.2 ⟨((lo, hi), at_), List.mem_of_getElem? hget, rfl⟩
              have HD := Lib.hid (show (L.map (·.1)).drop j = (lo, hi) :: (L.map (·.1)).drop (j + 1) by rw [← List.map_drop, hdr, List.map_cons, List.map_drop])
              have HST := Lib.hid (show o.fol.bad ((L.map (·.1)).drop j) j = if !(decide (hi.size = 0)) && o.fol.most (rnum o.ns hi) (rnum o.ns lo) then some j else o.fol.bad ((L.map (·.1)).drop (j + 1)) (j + 1) by rw [HD.out]; rfl)
              have ko : wc.cell? ⟨O, 1, none⟩ = some (.slice Am o.ns.length cm) := (Blk.stay (w := wb) HBL.out ((HQ.out.below (O + 1)).block O (Nat.lt_succ_self _))).cell 1
              by_cases h0 : hi.size = 0
              · have hz : (hi.toList == []) = true := by rw [toList_nil]; simpa using h0
                have HE2 := Lib.hid (show o.fol.bad (L.map (·.1)) 0 = o.fol.bad ((L.map (·.1)).drop (j + 1)) (j + 1) by rw [HBD.out, HST.out]; simp [h0])
                clear hget hdr hmem h0
                go_wp2
                go_quiet (fail)
                go_wp2
                go_roundw
                case rel => exact ⟨j + 1, by go_num, hlt3, HE2, Lib.hid (HQ.out.trans (Quiet.one _ _))⟩
                case measure => simp [intOf]; omega
              · have hz : (hi.toList == []) = false := by rw [toList_nil]; simpa using h0
                have m1 : lo ∈ o.ns := HRN.out.men _ ⟨_, hmem, .inl rfl⟩
                have m2 : hi ∈ o.ns := HRN.out.men _ ⟨_, hmem, .inr ⟨h0, rfl⟩⟩
                have F1 := Lib.hid (fun q => Calls.quiet_of_same ((HFI.out (wc.drewN q) (HQ.out.trans (Quiet.one _ _)) lo m1).mono fun e w' ⟨h1, h2⟩ => ⟨h1, h2.symm⟩))
                have F2 := Lib.hid (fun q => Calls.quiet_of_same ((HFI.out (wc.drewN q) (HQ.out.trans (Quiet.one _ _)) hi m2).mono fun e w' ⟨h1, h2⟩ => ⟨h1, h2.symm⟩))
                have l1 := rnum_lt m1
                have l2 := rnum_lt m2
                obtain ⟨mb, mo, pb, po, pc, rfl, e1, e2⟩ := ((HMA.out.stay (HQ.out.below _)).at l2 l1)
                obtain ⟨x, hx⟩ : ∃ x, rnum o.ns lo = x := ⟨_, rfl⟩
                obtain ⟨y, hy⟩ : ∃ y, rnum o.ns hi = y := ⟨_, rfl⟩
                rw [hx, hy] at HST
                rw [hx] at F1 l1 e2
                rw [hy] at F2 l2 e1 e2
                obtain ⟨Mb, hMb⟩ : ∃ Mb, o.fol.most y x = Mb := ⟨_, rfl⟩
                rw [hMb] at HST e2
                clear hx hy hMb hget hdr hmem
                cases Mb with
                | false =>
                  have HE2 := Lib.hid (show o.fol.bad (L.map (·.1)) 0 = o.fol.bad ((L.map (·.1)).drop (j + 1)) (j + 1) by rw [HBD.out, HST.out]; simp)
                  clear h0
                  go_wp2
                  go_quiet (first
                    | (go_at_call 43; with_reducible exact F1.out _)
                    | (go_at_call 43; with_reducible exact F2.out _))
                  go_wp2
                  go_roundw
                  case rel => exact ⟨j + 1, by go_num, hlt3, HE2, Lib.hid (HQ.out.trans (Quiet.one _ _))⟩
                  case measure => simp [intOf]; omega
                | true =>
                  have HE2 := Lib.hid (show o.fol.bad (L.map (·.1)) 0 = some j by rw [HBD.out, HST.out]; simp [h0])
                  clear h0
                  go_wp2
                  go_quiet (first
                    | (go_at_call 43; with_reducible exact F1.out _)
                    | (go_at_call 43; with_reducible exact F2.out _))
                  have HBD' := Lib.hid (HBC.out.trans ((Quiet.one wc nq).below _))
                  obtain ⟨wd, hwd⟩ : ∃ wd, wc.drewN nq = wd := ⟨_, rfl⟩
                  rw [hwd] at HBD'
                  rw [hwd]
                  clear hwd
                  obtain ⟨r0, r1, g0, g1⟩ := ro_cells HR0.out HBD'.out
                  go_wp2
                  refine ro_done rfl rfl rfl rfl HR0.out HBD'.out ?_
                  exact HN2.out o j _ HE0.out HE2.out (HFIN.out wd _ _ HBD'.out)
            · obtain rfl : j = k := by omega
              have HE2 := Lib.hid (show o.fol.bad (L.map (·.1)) 0 = none by rw [HBD.out, List.drop_of_length_le (by rw [List.length_map, HLn.out]; exact Nat.le_refl _)]; rfl)
              have hbc : Blk wc O 30 [.slice A4 o.ns.length c4, .slice Am o.ns.length cm] := Blk.stay (w := wb) HBL.out ((HQ.out.below (O + 1)).block O (Nat.lt_succ_self _))
              have ko0 : wc.cell? ⟨O, 0, none⟩ = some (.slice A4 o.ns.length c4) := hbc.cell 0
              have ko : wc.cell? ⟨O, 1, none⟩ = some (.slice Am o.ns.length cm) := hbc.cell 1
              obtain ⟨r0, r1, g0, g1⟩ := ro_cells HR0.out HBC.out
              have hR1 : R < wa.heap.size := Nat.lt_of_lt_of_le HR0.out.lt HB.out.size
              have hR2 : R < O + 1 := by
                have := HB4.out.size
                have := HR0.out.lt
                have := HOO.out
                omega
              have HCL := Lib.hid (ref_close (x := .slice A4 o.ns.length c4) (y := .slice Am o.ns.length cm) (o := o.fol) HV.out.wf.fol (HNO.out.quiet HQ.out) (HOW.out.quiet HQ.out) hrl (RowsAt.below HRO.out (HQ.out.below _)) hR1 hR2)
              clear hbc hR1 hR2
              go_wp2
              refine ro_done rfl rfl rfl rfl HR0.out HBC.out ?_
              exact HN3.out o _ _ _ HE0.out HE2.out (HFIN.out wc _ _ HBC.out) (by rw [HRR.out]; exact HCL.out)
end Go.Proofs.Ytnhdpegjkkaabaa
