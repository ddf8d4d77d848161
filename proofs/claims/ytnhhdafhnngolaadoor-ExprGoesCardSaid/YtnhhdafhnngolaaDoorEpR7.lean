/-
  CONTRACT OF (*expr.Cursor).named, from those of less fuel.
-/
import Derived.Test.YtnhhdafhnngolaaDoorEpR6
namespace Go.Proofs.YtnhhdafhnngolaaDoor
set_option linter.unusedVariables false
set_option linter.unusedSimpArgs false
open Go.RowKit

theorem rd_nm {R : Rw} {f a d : Nat} {y : Bool × ByteArray × Nat} {g : Gt} (hn : R.name a = y) (hg : rd R f .ar y.2.2 d = g) : rd R (f + 1) .nm a d =
    if y.1 = true then (if R.is y.2.2 [40] = true then (if g.r = 0 then hld (eCall (R.ps a) y.2.1 g.e.l) g.p a else bad g.p g.r) else good (eName (R.ps a) y.2.1) y.2.2) else bad y.2.2 11 := by
  simp only [rd]
  rw [hn, hg]

theorem wd_size {T : ByteArray} {L : List Tk} (h : TokOk T L) (i : Nat) : ((rowT T L).wd i).size ≤ 1000000 := by
  have hs := h.sz
  show (wdT T L i).size ≤ _
  unfold wdT
  cases L[i]? with
  | none => exact Nat.zero_le _
  | some t =>
    show (T.extract t.2.1.toNat t.2.2.toNat).size ≤ _
    rw [ByteArray.size_extract]
    omega

set_option maxRecDepth 10000 in
set_option maxHeartbeats 3200000 in
theorem named_step (C : Cx) (hC : TokOk C.T C.L) (f : Nat) (hA : ArC C f) : NmC C (f + 1) := by
  intro d p w hd h hf
  have hz := zeroEx'
  have hlt := h.lt
  have hle := h.le
  have hln := hC.len
  have HC0 := Lib.hid (h.under (entry_below w)).drew
  have HE := Lib.hid (entry_slot w).drew
  have HES := Lib.hid (show ((w.alloc (.cells #[.int .i64 0, .int .i64 0, .int .i64 0, .string ⟨#[]⟩, .string ⟨#[]⟩, .slice none 0 0] 27)).drew).heap.size = w.heap.size + 1 from entry_size w)
  have HEB := Lib.hid ((entry_below w).trans (below_drew _ _))
  have HPO : Hid (∀ W, Cur C W p → Calls Tryd.prog 23 #[C.ptr] W fun e w' => e = .returned (.int .i64 (C.R.ps p)) ∧ Below W.heap.size W w') := Lib.hid fun W h2 => pos_any C hC p W h2
  have HID : Hid (∀ W q, Cur C W q → Calls Tryd.prog 28 #[C.ptr] W (IdTo C q W)) := Lib.hid fun W q hc => identC_any C hC q W hc
  have HTK : Hid (∀ W q, Cur C W q → Calls Tryd.prog 27 #[C.ptr, .string ⟨#[46]⟩] W (TakeTo C q (C.R.is q [46]) W)) := Lib.hid fun W q hc => by
    have := takeL C hC q W hc ⟨#[46]⟩ (by decide)
    rwa [tl46] at this
  have HPK : Hid (∀ W q, Cur C W q → Calls Tryd.prog 22 #[C.ptr] W fun e w' => e = .returned (.string (C.R.wd q)) ∧ Below W.heap.size W w') := Lib.hid fun W q h2 => peek_any C hC q W h2
  have c0 := HC0.out.pl
  obtain ⟨W0, hW0⟩ : ∃ W0, w.alloc (.cells #[.int .i64 0, .int .i64 0, .int .i64 0, .string ⟨#[]⟩, .string ⟨#[]⟩, .slice none 0 0] 27) = W0 := ⟨_, rfl⟩
  have HW := Lib.hid hW0
  rw [hW0] at HC0 HE HES HEB c0
  clear h hW0
  obtain ⟨y, hy⟩ : ∃ y, C.R.name p = y := ⟨_, rfl⟩
  obtain ⟨g, hg⟩ : ∃ g, rd C.R f .ar y.2.2 d = g := ⟨_, rfl⟩
  have HRD := Lib.hid (rd_nm hy hg)
  have hnl := (row_ok C.T C.L).name_lt hle
  rw [hy] at hnl
  have HAR : Hid (C.R.is y.2.2 [40] = true → y.1 = true → (∀ W, Cur C W y.2.2 → Calls Tryd.prog 102 #[C.ptr, .int .i64 (d : Int)] W (ArTo C W g)) ∧ g.p ≤ C.L.length ∧ (g.r = 0 → (eCall (C.R.ps p) y.2.1 g.e.l).wfx ∧ (eCall (C.R.ps p) y.2.1 g.e.l).cnt ≤ 1000000)) := Lib.hid fun h40 h1 => by
    have hk := hnl.2.2 h1
    have hkn : y.2.2 ≤ C.L.length := hnl.1
    have hin := rd_in (row_ok C.T C.L) f .ar y.2.2 d hnl.1 (fun _ => (row_ok C.T C.L).is_lt h40)
    have hfi := rd_fine (row_ok C.T C.L) hC.len f .ar y.2.2 d hnl.1 (fun _ => (row_ok C.T C.L).is_lt h40) trivial
    rw [hg] at hin hfi
    have hgp : g.p ≤ C.L.length := hin.2.1
    refine ⟨fun W hc => ?_, hgp, fun h0 => ?_⟩
    · have h2 := hA d y.2.2 W hd hc h40 (by omega)
      rwa [hg] at h2
    · have h3 := hfi h0
      have h4 := h3.2
      have h5 := cnts_len g.e.l
      exact ⟨call_wfx h3.1 (by omega), by rw [call_cnt]; omega⟩
  have HY := Lib.hid hy
  clear hA hg hy hnl
  go_enter Tryd.func96, Tryd.ntmps96
  go_wp2_with fail
  rw [HW.out]
  go_region_held3 (fun w' => w'.cell? ⟨C.g, 2, none⟩ = some (.int .i64 (p : Int))) (((try dsimp only); first | assumption | go_keep)) (first
    | (go_at_call 23; refine (HPO.out _ HC0.out).mono ?_; rintro e w2 ⟨rfl, b2⟩; have HC2 := Lib.hid (HC0.out.under b2); have B2 := Lib.hid b2; have c2 := HC2.out.pl; clear b2)
    | fail)
  have J1 := Lib.hid (show w.grownBy w2 (some C.g) from gb_trans (below_fr HEB.out _) (below_fr B2.out _))
  have J2 := Lib.hid (show Slot w2 w.heap.size Ex.nul (.slice none 0 0) from HE.out.below B2.out (by have := HES.out; show w.heap.size < W0.drew.heap.size; omega))
  have hsz2 : w.heap.size + 1 ≤ w2.heap.size := by have := HES.out; have := B2.out.size; omega
  clear c0 c2 HC0 HE HES HEB HW B2 HPO
  cases h0 : C.R.idn p with
  | false =>
    have hy := HY.out
    unfold Rw.name at hy
    rw [if_pos h0] at hy
    have HX : Hid (rd C.R (f + 1) .nm p d = bad p 11) := Lib.hid (by rw [HRD.out, ← hy]; rfl)
    clear hy
    go_wp2_with (first
      | (go_at_call 28; refine (HID.out _ p HC2.out).mono ?_; rintro e w3 ⟨rfl, hc, hg⟩; have Cw3 := Lib.hid (show Cur C w3 p from (by simpa [h0] using hc)); have Gw3 := Lib.hid hg; have hsw3 := hg.size; clear hc hg; rw [h0]; dsimp only)
      | (refine wpList_stx rfl (.tmp 4) (.tmp 40) rfl w.heap.size rfl (J2.out.grown Gw3.out (by intro e; injection e; omega)) (e := Ex.nul) (lv := .slice none 0 0) rfl rfl ?_; intro w9 hg8 hs8; have Gw9 := Lib.hid hg8; have Sw9 := Lib.hid hs8; clear hg8 hs8)
      | fail)
    rw [HX.out]
    refine ex_done rfl rfl rfl rfl Sw9.out ⟨.slice none 0 0, rfl, .nil, ?_, ?_⟩
    · exact fr_new (gb_trans J1.out Gw3.out) Gw9.out (Nat.le_refl _)
    · exact Cw3.out.grown Gw9.out (fun k e => by cases e; omega)
  | true =>
    have hplt : p < C.L.length := (row_ok C.T C.L).id_lt h0
    cases h46 : C.R.is (p + 1) [46] with
    | false =>
      have hy := HY.out
      unfold Rw.name at hy
      rw [if_neg (by rw [h0]; decide), if_neg (by rw [h46]; decide)] at hy
      have HN : Hid (y = (true, C.R.wd p, p + 1)) := Lib.hid hy.symm
      clear hy
      rw [HN.out] at HRD HAR
      dsimp only at HRD HAR
      cases h40 : C.R.is (p + 1) [40] with
      | false =>
        have h40' : ((C.R.wd (p + 1)).toList == [40]) = false := h40
        have HX : Hid (rd C.R (f + 1) .nm p d = good (eName (C.R.ps p) (C.R.wd p)) (p + 1)) := Lib.hid (by rw [HRD.out, if_pos rfl, if_neg (by rw [h40]; decide)])
        go_wp2_with (first
          | (go_at_call 28; refine (HID.out _ p HC2.out).mono ?_; rintro e w3 ⟨rfl, hc, hg⟩; have Cw3 := Lib.hid (show Cur C w3 (p + 1) from (by simpa [h0] using hc)); have Gw3 := Lib.hid hg; have hsw3 := hg.size; clear hc hg; rw [h0]; dsimp only)
          | (go_at_call 27; refine (HTK.out _ (p + 1) Cw3.out).mono ?_; rintro e w4 ⟨rfl, hc, hg, _⟩; have Cw4 := Lib.hid (show Cur C w4 (p + 1) from (by simpa [h46] using hc)); have Gw4 := Lib.hid hg; have hsw4 := hg.size; clear hc hg; rw [h46]; dsimp only)
          | (go_at_call 22; refine (HPK.out _ _ Cw4.out).mono ?_; rintro e w6 ⟨rfl, b6⟩; have Cw6 := Lib.hid (Cw4.out.under b6); have Gw6 := Lib.hid (below_fr b6 (some C.g)); have hs6 := b6.size; clear b6; dsimp only)
          | (refine wpList_stx rfl (.tmp 4) (.tmp 46) rfl w.heap.size rfl (((J2.out.grown Gw3.out (by intro e; injection e; omega)).grown Gw4.out (by intro e; injection e; omega)).grown Gw6.out (by intro e; injection e; omega)) (e := eName (C.R.ps p) (C.R.wd p)) (lv := .slice none 0 0) rfl rfl ?_; intro w9 hg8 hs8; have Gw9 := Lib.hid hg8; have Sw9 := Lib.hid hs8; clear hg8 hs8)
          | fail)
        rw [HX.out]
        refine ex_done rfl rfl rfl rfl Sw9.out ⟨.slice none 0 0, rfl, .nil, ?_, ?_⟩
        · exact fr_new (gb_trans (gb_trans (gb_trans J1.out Gw3.out) Gw4.out) Gw6.out) Gw9.out (Nat.le_refl _)
        · exact Cw6.out.grown Gw9.out (fun k e => by cases e; omega)
      | true =>
        have h40' : ((C.R.wd (p + 1)).toList == [40]) = true := h40
        obtain ⟨hcall, hgp, hfin⟩ := HAR.out h40 rfl
        have HCALL := Lib.hid hcall
        have HFIN := Lib.hid hfin
        clear hcall hfin
        by_cases hr : g.r = 0
        · have hr2' : (g.r == 0) = true := by simp [hr]
          have hr2'' : decide (g.r = 0) = true := by simp [hr]
          obtain ⟨G2, hG2⟩ : ∃ G2, hld (eCall (C.R.ps p) (C.R.wd p) g.e.l) g.p p = G2 := ⟨_, rfl⟩
          have HPU : Hid (∀ W lv (S : Nat → Prop), Cur C W g.p → Shx W S lv g.e.l → (∀ b, S b → b ≠ C.g) → Calls Tryd.prog 69 #[C.ptr, .int .i64 (p : Int), exV (eCall (C.R.ps p) (C.R.wd p) g.e.l) lv] W (PutTo C S W G2)) := Lib.hid fun W lv S h1 h2 h3 => by
            have := put_any C hC g.p p W h1 hle (eCall (C.R.ps p) (C.R.wd p) g.e.l) lv S (HFIN.out hr).1 (HFIN.out hr).2 h2 h3
            rwa [hG2] at this
          have HX : Hid (rd C.R (f + 1) .nm p d = G2) := Lib.hid (by rw [HRD.out, if_pos rfl, if_pos h40, if_pos hr, hG2])
          clear hG2
          go_wp2_with (first
            | (go_at_call 28; refine (HID.out _ p HC2.out).mono ?_; rintro e w3 ⟨rfl, hc, hg⟩; have Cw3 := Lib.hid (show Cur C w3 (p + 1) from (by simpa [h0] using hc)); have Gw3 := Lib.hid hg; have hsw3 := hg.size; clear hc hg; rw [h0]; dsimp only)
            | (go_at_call 27; refine (HTK.out _ (p + 1) Cw3.out).mono ?_; rintro e w4 ⟨rfl, hc, hg, _⟩; have Cw4 := Lib.hid (show Cur C w4 (p + 1) from (by simpa [h46] using hc)); have Gw4 := Lib.hid hg; have hsw4 := hg.size; clear hc hg; rw [h46]; dsimp only)
            | (go_at_call 22; refine (HPK.out _ _ Cw4.out).mono ?_; rintro e w6 ⟨rfl, b6⟩; have Cw6 := Lib.hid (Cw4.out.under b6); have Gw6 := Lib.hid (below_fr b6 (some C.g)); have hs6 := b6.size; clear b6; dsimp only)
            | (go_at_call 102; refine (HCALL.out _ Cw6.out).mono ?_; rintro e w7 ⟨lv, rfl, hx7, hg7, hc7⟩; have Xw7 := Lib.hid hx7; have Gw7 := Lib.hid hg7; have Cw7 := Lib.hid hc7; have hs7 := hg7.size; clear hx7 hg7 hc7; obtain ⟨A7, c7, rfl, _⟩ := (Xw7.out hr).len; dsimp only)
            | (go_at_call 69; refine (HPU.out _ _ (fun b => w.heap.size < b) Cw7.out ((Xw7.out hr).weak (by intro b h1 h2; omega)) (by intro b hb; omega)).mono ?_; rintro e w8 ⟨lv8, rfl, hx8, hg8, hc8⟩; have hone8 := hx8.one; have Xw8 := Lib.hid hx8; have Gw8 := Lib.hid hg8; have Cw8 := Lib.hid hc8; have hs8 := hg8.size; clear hx8 hg8 hc8; dsimp only [exV])
            | (refine wpList_stx rfl (.tmp 4) (.tmp 64) rfl w.heap.size rfl (((((J2.out.grown Gw3.out (by intro e; injection e; omega)).grown Gw4.out (by intro e; injection e; omega)).grown Gw6.out (by intro e; injection e; omega)).grown Gw7.out (by intro e; injection e; omega)).grown Gw8.out (by intro e; injection e; omega)) (e := G2.e) (lv := lv8) rfl hone8 ?_; intro w9 hg8 hs8; have Gw9 := Lib.hid hg8; have Sw9 := Lib.hid hs8; clear hg8 hs8)
            | fail)
          rw [HX.out]
          refine ex_done rfl rfl rfl rfl Sw9.out ⟨lv8, rfl, ?_, ?_, ?_⟩
          · exact (Xw8.out.grown Gw9.out (fun b hb _ e => by injection e with e; omega)).weak (fun b hb _ => by omega)
          · exact fr_new (gb_trans (gb_trans (gb_trans (gb_trans (gb_trans J1.out Gw3.out) Gw4.out) Gw6.out) Gw7.out) Gw8.out) Gw9.out (Nat.le_refl _)
          · exact Cw8.out.grown Gw9.out (fun k e => by cases e; omega)
        · have hr2' : (g.r == 0) = false := by simp [hr]
          have hr2'' : decide (g.r = 0) = false := by simp [hr]
          have HX : Hid (rd C.R (f + 1) .nm p d = bad g.p g.r) := Lib.hid (by rw [HRD.out, if_pos rfl, if_pos h40, if_neg hr])
          go_wp2_with (first
            | (go_at_call 28; refine (HID.out _ p HC2.out).mono ?_; rintro e w3 ⟨rfl, hc, hg⟩; have Cw3 := Lib.hid (show Cur C w3 (p + 1) from (by simpa [h0] using hc)); have Gw3 := Lib.hid hg; have hsw3 := hg.size; clear hc hg; rw [h0]; dsimp only)
            | (go_at_call 27; refine (HTK.out _ (p + 1) Cw3.out).mono ?_; rintro e w4 ⟨rfl, hc, hg, _⟩; have Cw4 := Lib.hid (show Cur C w4 (p + 1) from (by simpa [h46] using hc)); have Gw4 := Lib.hid hg; have hsw4 := hg.size; clear hc hg; rw [h46]; dsimp only)
            | (go_at_call 22; refine (HPK.out _ _ Cw4.out).mono ?_; rintro e w6 ⟨rfl, b6⟩; have Cw6 := Lib.hid (Cw4.out.under b6); have Gw6 := Lib.hid (below_fr b6 (some C.g)); have hs6 := b6.size; clear b6; dsimp only)
            | (go_at_call 102; refine (HCALL.out _ Cw6.out).mono ?_; rintro e w7 ⟨lv, rfl, hx7, hg7, hc7⟩; have Xw7 := Lib.hid hx7; have Gw7 := Lib.hid hg7; have Cw7 := Lib.hid hc7; have hs7 := hg7.size; clear hx7 hg7 hc7; dsimp only)
            | (refine wpList_stx rfl (.tmp 4) (.tmp 55) rfl w.heap.size rfl ((((J2.out.grown Gw3.out (by intro e; injection e; omega)).grown Gw4.out (by intro e; injection e; omega)).grown Gw6.out (by intro e; injection e; omega)).grown Gw7.out (by intro e; injection e; omega)) (e := Ex.nul) (lv := .slice none 0 0) rfl rfl ?_; intro w9 hg8 hs8; have Gw9 := Lib.hid hg8; have Sw9 := Lib.hid hs8; clear hg8 hs8)
            | fail)
          rw [HX.out]
          refine ex_done rfl rfl rfl rfl Sw9.out ⟨.slice none 0 0, rfl, .nil, ?_, ?_⟩
          · exact fr_new (gb_trans (gb_trans (gb_trans (gb_trans J1.out Gw3.out) Gw4.out) Gw6.out) Gw7.out) Gw9.out (Nat.le_refl _)
          · exact Cw7.out.grown Gw9.out (fun k e => by cases e; omega)
    | true =>
      have h46l : p + 1 < C.L.length := (row_ok C.T C.L).is_lt h46
      have z0 := wd_size hC p
      have z2 := wd_size hC (p + 2)
      have n1 : ¬ 9223372036854775807 < (C.R.wd p).size + 1 := by show ¬ 9223372036854775807 < ((rowT C.T C.L).wd p).size + 1; omega
      have n2 : ¬ 9223372036854775807 < (C.R.wd p).size + (1 + (C.R.wd (p + 2)).size) := by show ¬ 9223372036854775807 < ((rowT C.T C.L).wd p).size + (1 + ((rowT C.T C.L).wd (p + 2)).size); omega
      have n3 : ¬ 9223372036854775807 < (C.R.wd p).size + ((C.R.wd (p + 2)).size + 1) := by show ¬ 9223372036854775807 < ((rowT C.T C.L).wd p).size + (((rowT C.T C.L).wd (p + 2)).size + 1); omega
      have n4 : ¬ 9223372036854775807 < 1 + (C.R.wd (p + 2)).size := by show ¬ 9223372036854775807 < 1 + ((rowT C.T C.L).wd (p + 2)).size; omega
      have n5 : ¬ 9223372036854775807 < (C.R.wd (p + 2)).size + 1 := by show ¬ 9223372036854775807 < ((rowT C.T C.L).wd (p + 2)).size + 1; omega
      clear z0 z2
      cases h2 : C.R.idn (p + 2) with
      | false =>
        have hy := HY.out
        unfold Rw.name at hy
        rw [if_neg (by rw [h0]; decide), if_pos h46, if_neg (by rw [h2]; decide)] at hy
        have HX : Hid (rd C.R (f + 1) .nm p d = bad (p + 2) 11) := Lib.hid (by rw [HRD.out, ← hy]; rfl)
        clear hy
        go_wp2_with (first
          | (go_at_call 28; refine (HID.out _ p HC2.out).mono ?_; rintro e w3 ⟨rfl, hc, hg⟩; have Cw3 := Lib.hid (show Cur C w3 (p + 1) from (by simpa [h0] using hc)); have Gw3 := Lib.hid hg; have hsw3 := hg.size; clear hc hg; rw [h0]; dsimp only)
          | (go_at_call 27; refine (HTK.out _ (p + 1) Cw3.out).mono ?_; rintro e w4 ⟨rfl, hc, hg, _⟩; have Cw4 := Lib.hid (show Cur C w4 (p + 2) from (by simpa [h46] using hc)); have Gw4 := Lib.hid hg; have hsw4 := hg.size; clear hc hg; rw [h46]; dsimp only; refine Hid.out ?_)
          | fail)
        refine Lib.hid ?_
        go_wp2_with (first
          | (go_at_call 28; refine (HID.out _ (p + 2) Cw4.out).mono ?_; rintro e w5 ⟨rfl, hc, hg⟩; have Cw5 := Lib.hid (show Cur C w5 (p + 2) from (by simpa [h2] using hc)); have Gw5 := Lib.hid hg; have hsw5 := hg.size; clear hc hg; rw [h2]; dsimp only)
          | (refine wpList_stx rfl (.tmp 4) (.tmp 40) rfl w.heap.size rfl (((J2.out.grown Gw3.out (by intro e; injection e; omega)).grown Gw4.out (by intro e; injection e; omega)).grown Gw5.out (by intro e; injection e; omega)) (e := Ex.nul) (lv := .slice none 0 0) rfl rfl ?_; intro w9 hg8 hs8; have Gw9 := Lib.hid hg8; have Sw9 := Lib.hid hs8; clear hg8 hs8)
          | fail)
        rw [HX.out]
        refine ex_done rfl rfl rfl rfl Sw9.out ⟨.slice none 0 0, rfl, .nil, ?_, ?_⟩
        · exact fr_new (gb_trans (gb_trans (gb_trans J1.out Gw3.out) Gw4.out) Gw5.out) Gw9.out (Nat.le_refl _)
        · exact Cw5.out.grown Gw9.out (fun k e => by cases e; omega)
      | true =>
        have hy := HY.out
        unfold Rw.name at hy
        rw [if_neg (by rw [h0]; decide), if_pos h46, if_pos h2] at hy
        have HN : Hid (y = (true, dot (C.R.wd p) (C.R.wd (p + 2)), p + 3)) := Lib.hid hy.symm
        clear hy
        rw [HN.out] at HRD HAR
        dsimp only at HRD HAR
        cases h40 : C.R.is (p + 3) [40] with
        | false =>
          have h40' : ((C.R.wd (p + 3)).toList == [40]) = false := h40
          have HX : Hid (rd C.R (f + 1) .nm p d = good (eName (C.R.ps p) (dot (C.R.wd p) (C.R.wd (p + 2)))) (p + 3)) := Lib.hid (by rw [HRD.out, if_pos rfl, if_neg (by rw [h40]; decide)])
          go_wp2_with (first
            | (go_at_call 28; refine (HID.out _ p HC2.out).mono ?_; rintro e w3 ⟨rfl, hc, hg⟩; have Cw3 := Lib.hid (show Cur C w3 (p + 1) from (by simpa [h0] using hc)); have Gw3 := Lib.hid hg; have hsw3 := hg.size; clear hc hg; rw [h0]; dsimp only)
            | (go_at_call 27; refine (HTK.out _ (p + 1) Cw3.out).mono ?_; rintro e w4 ⟨rfl, hc, hg, _⟩; have Cw4 := Lib.hid (show Cur C w4 (p + 2) from (by simpa [h46] using hc)); have Gw4 := Lib.hid hg; have hsw4 := hg.size; clear hc hg; rw [h46]; dsimp only; refine Hid.out ?_)
            | fail)
          refine Lib.hid ?_
          go_wp2_with (first
            | (go_at_call 28; refine (HID.out _ (p + 2) Cw4.out).mono ?_; rintro e w5 ⟨rfl, hc, hg⟩; have Cw5 := Lib.hid (show Cur C w5 (p + 3) from (by simpa [h2] using hc)); have Gw5 := Lib.hid hg; have hsw5 := hg.size; clear hc hg; rw [h2]; dsimp only)
            | (go_at_call 22; refine (HPK.out _ _ Cw5.out).mono ?_; rintro e w6 ⟨rfl, b6⟩; have Cw6 := Lib.hid (Cw5.out.under b6); have Gw6 := Lib.hid (below_fr b6 (some C.g)); have hs6 := b6.size; clear b6; dsimp only)
            | (refine wpList_stx rfl (.tmp 4) (.tmp 46) rfl w.heap.size rfl ((((J2.out.grown Gw3.out (by intro e; injection e; omega)).grown Gw4.out (by intro e; injection e; omega)).grown Gw5.out (by intro e; injection e; omega)).grown Gw6.out (by intro e; injection e; omega)) (e := eName (C.R.ps p) (dot (C.R.wd p) (C.R.wd (p + 2)))) (lv := .slice none 0 0) rfl rfl ?_; intro w9 hg8 hs8; have Gw9 := Lib.hid hg8; have Sw9 := Lib.hid hs8; clear hg8 hs8)
            | fail)
          rw [HX.out]
          refine ex_done rfl rfl rfl rfl Sw9.out ⟨.slice none 0 0, rfl, .nil, ?_, ?_⟩
          · exact fr_new (gb_trans (gb_trans (gb_trans (gb_trans J1.out Gw3.out) Gw4.out) Gw5.out) Gw6.out) Gw9.out (Nat.le_refl _)
          · exact Cw6.out.grown Gw9.out (fun k e => by cases e; omega)
        | true =>
          have h40' : ((C.R.wd (p + 3)).toList == [40]) = true := h40
          obtain ⟨hcall, hgp, hfin⟩ := HAR.out h40 rfl
          have HCALL := Lib.hid hcall
          have HFIN := Lib.hid hfin
          clear hcall hfin
          by_cases hr : g.r = 0
          · have hr2' : (g.r == 0) = true := by simp [hr]
            have hr2'' : decide (g.r = 0) = true := by simp [hr]
            obtain ⟨G2, hG2⟩ : ∃ G2, hld (eCall (C.R.ps p) (dot (C.R.wd p) (C.R.wd (p + 2))) g.e.l) g.p p = G2 := ⟨_, rfl⟩
            have HPU : Hid (∀ W lv (S : Nat → Prop), Cur C W g.p → Shx W S lv g.e.l → (∀ b, S b → b ≠ C.g) → Calls Tryd.prog 69 #[C.ptr, .int .i64 (p : Int), exV (eCall (C.R.ps p) (dot (C.R.wd p) (C.R.wd (p + 2))) g.e.l) lv] W (PutTo C S W G2)) := Lib.hid fun W lv S h1 h2 h3 => by
              have := put_any C hC g.p p W h1 hle (eCall (C.R.ps p) (dot (C.R.wd p) (C.R.wd (p + 2))) g.e.l) lv S (HFIN.out hr).1 (HFIN.out hr).2 h2 h3
              rwa [hG2] at this
            have HX : Hid (rd C.R (f + 1) .nm p d = G2) := Lib.hid (by rw [HRD.out, if_pos rfl, if_pos h40, if_pos hr, hG2])
            clear hG2
            go_wp2_with (first
              | (go_at_call 28; refine (HID.out _ p HC2.out).mono ?_; rintro e w3 ⟨rfl, hc, hg⟩; have Cw3 := Lib.hid (show Cur C w3 (p + 1) from (by simpa [h0] using hc)); have Gw3 := Lib.hid hg; have hsw3 := hg.size; clear hc hg; rw [h0]; dsimp only)
              | (go_at_call 27; refine (HTK.out _ (p + 1) Cw3.out).mono ?_; rintro e w4 ⟨rfl, hc, hg, _⟩; have Cw4 := Lib.hid (show Cur C w4 (p + 2) from (by simpa [h46] using hc)); have Gw4 := Lib.hid hg; have hsw4 := hg.size; clear hc hg; rw [h46]; dsimp only; refine Hid.out ?_)
              | fail)
            refine Lib.hid ?_
            go_wp2_with (first
              | (go_at_call 28; refine (HID.out _ (p + 2) Cw4.out).mono ?_; rintro e w5 ⟨rfl, hc, hg⟩; have Cw5 := Lib.hid (show Cur C w5 (p + 3) from (by simpa [h2] using hc)); have Gw5 := Lib.hid hg; have hsw5 := hg.size; clear hc hg; rw [h2]; dsimp only)
              | (go_at_call 22; refine (HPK.out _ _ Cw5.out).mono ?_; rintro e w6 ⟨rfl, b6⟩; have Cw6 := Lib.hid (Cw5.out.under b6); have Gw6 := Lib.hid (below_fr b6 (some C.g)); have hs6 := b6.size; clear b6; dsimp only)
              | (go_at_call 102; refine (HCALL.out _ Cw6.out).mono ?_; rintro e w7 ⟨lv, rfl, hx7, hg7, hc7⟩; have Xw7 := Lib.hid hx7; have Gw7 := Lib.hid hg7; have Cw7 := Lib.hid hc7; have hs7 := hg7.size; clear hx7 hg7 hc7; obtain ⟨A7, c7, rfl, _⟩ := (Xw7.out hr).len; dsimp only)
              | (go_at_call 69; refine (HPU.out _ _ (fun b => w.heap.size < b) Cw7.out ((Xw7.out hr).weak (by intro b h1 h2; omega)) (by intro b hb; omega)).mono ?_; rintro e w8 ⟨lv8, rfl, hx8, hg8, hc8⟩; have hone8 := hx8.one; have Xw8 := Lib.hid hx8; have Gw8 := Lib.hid hg8; have Cw8 := Lib.hid hc8; have hs8 := hg8.size; clear hx8 hg8 hc8; dsimp only [exV])
              | (refine wpList_stx rfl (.tmp 4) (.tmp 64) rfl w.heap.size rfl ((((((J2.out.grown Gw3.out (by intro e; injection e; omega)).grown Gw4.out (by intro e; injection e; omega)).grown Gw5.out (by intro e; injection e; omega)).grown Gw6.out (by intro e; injection e; omega)).grown Gw7.out (by intro e; injection e; omega)).grown Gw8.out (by intro e; injection e; omega)) (e := G2.e) (lv := lv8) rfl hone8 ?_; intro w9 hg8 hs8; have Gw9 := Lib.hid hg8; have Sw9 := Lib.hid hs8; clear hg8 hs8)
              | fail)
            rw [HX.out]
            refine ex_done rfl rfl rfl rfl Sw9.out ⟨lv8, rfl, ?_, ?_, ?_⟩
            · exact (Xw8.out.grown Gw9.out (fun b hb _ e => by injection e with e; omega)).weak (fun b hb _ => by omega)
            · exact fr_new (gb_trans (gb_trans (gb_trans (gb_trans (gb_trans (gb_trans J1.out Gw3.out) Gw4.out) Gw5.out) Gw6.out) Gw7.out) Gw8.out) Gw9.out (Nat.le_refl _)
            · exact Cw8.out.grown Gw9.out (fun k e => by cases e; omega)
          · have hr2' : (g.r == 0) = false := by simp [hr]
            have hr2'' : decide (g.r = 0) = false := by simp [hr]
            have HX : Hid (rd C.R (f + 1) .nm p d = bad g.p g.r) := Lib.hid (by rw [HRD.out, if_pos rfl, if_pos h40, if_neg hr])
            go_wp2_with (first
              | (go_at_call 28; refine (HID.out _ p HC2.out).mono ?_; rintro e w3 ⟨rfl, hc, hg⟩; have Cw3 := Lib.hid (show Cur C w3 (p + 1) from (by simpa [h0] using hc)); have Gw3 := Lib.hid hg; have hsw3 := hg.size; clear hc hg; rw [h0]; dsimp only)
              | (go_at_call 27; refine (HTK.out _ (p + 1) Cw3.out).mono ?_; rintro e w4 ⟨rfl, hc, hg, _⟩; have Cw4 := Lib.hid (show Cur C w4 (p + 2) from (by simpa [h46] using hc)); have Gw4 := Lib.hid hg; have hsw4 := hg.size; clear hc hg; rw [h46]; dsimp only; refine Hid.out ?_)
              | fail)
            refine Lib.hid ?_
            go_wp2_with (first
              | (go_at_call 28; refine (HID.out _ (p + 2) Cw4.out).mono ?_; rintro e w5 ⟨rfl, hc, hg⟩; have Cw5 := Lib.hid (show Cur C w5 (p + 3) from (by simpa [h2] using hc)); have Gw5 := Lib.hid hg; have hsw5 := hg.size; clear hc hg; rw [h2]; dsimp only)
              | (go_at_call 22; refine (HPK.out _ _ Cw5.out).mono ?_; rintro e w6 ⟨rfl, b6⟩; have Cw6 := Lib.hid (Cw5.out.under b6); have Gw6 := Lib.hid (below_fr b6 (some C.g)); have hs6 := b6.size; clear b6; dsimp only)
              | (go_at_call 102; refine (HCALL.out _ Cw6.out).mono ?_; rintro e w7 ⟨lv, rfl, hx7, hg7, hc7⟩; have Xw7 := Lib.hid hx7; have Gw7 := Lib.hid hg7; have Cw7 := Lib.hid hc7; have hs7 := hg7.size; clear hx7 hg7 hc7; dsimp only)
              | (refine wpList_stx rfl (.tmp 4) (.tmp 55) rfl w.heap.size rfl (((((J2.out.grown Gw3.out (by intro e; injection e; omega)).grown Gw4.out (by intro e; injection e; omega)).grown Gw5.out (by intro e; injection e; omega)).grown Gw6.out (by intro e; injection e; omega)).grown Gw7.out (by intro e; injection e; omega)) (e := Ex.nul) (lv := .slice none 0 0) rfl rfl ?_; intro w9 hg8 hs8; have Gw9 := Lib.hid hg8; have Sw9 := Lib.hid hs8; clear hg8 hs8)
              | fail)
            rw [HX.out]
            refine ex_done rfl rfl rfl rfl Sw9.out ⟨.slice none 0 0, rfl, .nil, ?_, ?_⟩
            · exact fr_new (gb_trans (gb_trans (gb_trans (gb_trans (gb_trans J1.out Gw3.out) Gw4.out) Gw5.out) Gw6.out) Gw7.out) Gw9.out (Nat.le_refl _)
            · exact Cw7.out.grown Gw9.out (fun k e => by cases e; omega)
end Go.Proofs.YtnhhdafhnngolaaDoor
