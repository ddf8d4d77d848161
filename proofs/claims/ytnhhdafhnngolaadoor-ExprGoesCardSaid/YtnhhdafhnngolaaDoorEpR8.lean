/-
  CONTRACT OF (*expr.Cursor).primary, from those of less fuel; all of them, by induction; Expr.
-/
import Derived.Test.YtnhhdafhnngolaaDoorEpR7
namespace Go.Proofs.YtnhhdafhnngolaaDoor
set_option linter.unusedVariables false
set_option linter.unusedSimpArgs false
open Go.RowKit

theorem rd_pr_num {R : Rw} {f a d : Nat} (h : R.kd a = 3) : rd R (f + 1) .pr a d = numG R a := by
  simp only [rd]
  rw [if_pos h]
  rfl
theorem rd_pr_true {R : Rw} {f a d : Nat} (h : ¬ R.kd a = 3) (ht : R.is a [116, 114, 117, 101] = true) : rd R (f + 1) .pr a d = good (eBool (R.ps a) 1) (a + 1) := by
  simp only [rd]
  rw [if_neg h, if_pos ht]
theorem rd_pr_false {R : Rw} {f a d : Nat} (h : ¬ R.kd a = 3) (ht : R.is a [116, 114, 117, 101] = false) (hf : R.is a [102, 97, 108, 115, 101] = true) : rd R (f + 1) .pr a d = good (eBool (R.ps a) 0) (a + 1) := by
  simp only [rd]
  rw [if_neg h, if_neg (by rw [ht]; decide), if_pos hf]
theorem rd_pr_group {R : Rw} {f a d : Nat} (h : ¬ R.kd a = 3) (ht : R.is a [116, 114, 117, 101] = false) (hf : R.is a [102, 97, 108, 115, 101] = false) (hb : R.is a [40] = true) : rd R (f + 1) .pr a d = wiG R (rd R f .gr a d) [⟨#[41]⟩] := by
  simp only [rd]
  rw [if_neg h, if_neg (by rw [ht]; decide), if_neg (by rw [hf]; decide), if_pos hb]
  unfold wiG
  rw [must_one R _ _ _ tl41]
  by_cases h0 : (rd R f .gr a d).r = 0
  · rw [if_pos h0, if_pos h0]
    by_cases h1 : R.is (rd R f .gr a d).p [41] = true
    · rw [if_pos h1, if_pos h1]; rfl
    · rw [if_neg h1, if_neg h1]; rfl
  · rw [if_neg h0, if_neg h0]
theorem rd_pr_open {R : Rw} {f a d : Nat} (h : ¬ R.kd a = 3) (ht : R.is a [116, 114, 117, 101] = false) (hf : R.is a [102, 97, 108, 115, 101] = false) (hb : R.is a [40] = false) (hd : R.is a [100, 101, 99, 108, 97, 115, 115, 105, 102, 121] = true) : rd R (f + 1) .pr a d = rd R f .op a d := by
  simp only [rd]
  rw [if_neg h, if_neg (by rw [ht]; decide), if_neg (by rw [hf]; decide), if_neg (by rw [hb]; decide), if_pos hd]
theorem rd_pr_named {R : Rw} {f a d : Nat} (h : ¬ R.kd a = 3) (ht : R.is a [116, 114, 117, 101] = false) (hf : R.is a [102, 97, 108, 115, 101] = false) (hb : R.is a [40] = false) (hd : R.is a [100, 101, 99, 108, 97, 115, 115, 105, 102, 121] = false) : rd R (f + 1) .pr a d = rd R f .nm a d := by
  simp only [rd]
  rw [if_neg h, if_neg (by rw [ht]; decide), if_neg (by rw [hf]; decide), if_neg (by rw [hb]; decide), if_neg (by rw [hd]; decide)]
theorem tlT : (⟨#[116, 114, 117, 101]⟩ : ByteArray).toList = [116, 114, 117, 101] := by rw [ByteArray.toList_eq]
theorem tlF : (⟨#[102, 97, 108, 115, 101]⟩ : ByteArray).toList = [102, 97, 108, 115, 101] := by rw [ByteArray.toList_eq]

set_option maxRecDepth 10000 in
set_option maxHeartbeats 3200000 in
theorem primary_step (C : Cx) (hC : TokOk C.T C.L) (hDg : DigOk C) (f : Nat) (hW : WiC C f) (hO : OpC C f) (hN : NmC C f) : PrC C (f + 1) := by
  intro d p w hd h hf
  have hz := zeroEx'
  have hlt := h.lt
  have hle := h.le
  have hln := hC.len
  have HC := Lib.hid (h.under (entry_below w))
  have HS := Lib.hid (entry_slot w)
  have HF := Lib.hid (below_fr (entry_below w) (some C.g))
  have HPO : Hid (∀ W, Cur C W p → Calls Tryd.prog 23 #[C.ptr] W fun e w' => e = .returned (.int .i64 (C.R.ps p)) ∧ Below W.heap.size W w') := Lib.hid fun W h2 => pos_any C hC p W h2
  have HKI : Hid (∀ W, Cur C W p → Calls Tryd.prog 25 #[C.ptr] W fun e w' => e = .returned (.int .i64 (C.R.kd p)) ∧ Below W.heap.size W w') := Lib.hid fun W h2 => kind_any C hC p W h2
  have HPK : Hid (∀ W, Cur C W p → Calls Tryd.prog 22 #[C.ptr] W fun e w' => e = .returned (.string (C.R.wd p)) ∧ Below W.heap.size W w') := Lib.hid fun W h2 => peek_any C hC p W h2
  have HTK : Hid (∀ W s, s.size ≠ 0 → Cur C W p → Calls Tryd.prog 27 #[C.ptr, .string s] W (TakeTo C p (C.R.is p s.toList) W)) := Lib.hid fun W s hs hc => takeL C hC p W hc s hs
  clear h
  by_cases hk : C.R.kd p = 3
  · have hplt : p < C.L.length := (row_ok C.T C.L).kd_lt hk
    have HR := Lib.hid (rd_pr_num (f := f) (d := d) hk)
    have HNU : Hid (∀ W, Cur C W p → Calls Tryd.prog 93 #[C.ptr] W (PutTo C (fun b => W.heap.size ≤ b) W (numG C.R p))) := Lib.hid fun W h2 => number_any C hC p W h2 hplt (hDg p hk) (wd_size hC p) _
    have hk1 : (C.R.kd p == 3) = true := by simp [hk]
    have hk2 : decide (C.R.kd p = 3) = true := by simp [hk]
    go_enter Tryd.func81, Tryd.ntmps81
    go_wp2_with (first
      | (go_at_call 23; refine (HPO.out _ HC.out).mono ?_; rintro e wt ⟨rfl, b⟩; have HF := Lib.hid (gb_trans HF.out (below_fr b _)); have HC := Lib.hid (HC.out.under b); have HS := Lib.hid (HS.out.below b HS.out.lt); clear b)
      | (go_at_call 25; refine (HKI.out _ HC.out).mono ?_; rintro e wt ⟨rfl, b⟩; have HF := Lib.hid (gb_trans HF.out (below_fr b _)); have HC := Lib.hid (HC.out.under b); have HS := Lib.hid (HS.out.below b HS.out.lt); clear b)
      | (go_at_call 93; refine (HNU.out _ HC.out).mono ?_; rintro e wt ⟨lv, rfl, hx, hg, hc⟩; have hone := hx.one; have HX := Lib.hid (hx.weak (S' := fun b => w.heap.size < b) (by intro b h1 _; have := HS.out.lt; omega)); have HS := Lib.hid (HS.out.grown hg (by intro e; injection e; omega)); have HF := Lib.hid (gb_trans HF.out hg); have HC := Lib.hid hc; clear hx hg hc; dsimp only)
      | (refine wpList_stx rfl (.tmp 4) (.tmp 15) rfl w.heap.size rfl HS.out (e := (numG C.R p).e) (lv := lv) rfl hone ?_; intro w8 hg8 hs8; have HG8 := Lib.hid hg8; have HS8 := Lib.hid hs8; clear hg8 hs8)
      | fail)
    rw [HR.out]
    refine ex_done rfl rfl rfl rfl HS8.out ⟨lv, rfl, ?_, ?_, ?_⟩
    · exact (HX.out.grown HG8.out (fun b hb _ e => by injection e with e; first | omega | (simp at hb; omega))).weak (fun b hb _ => by first | omega | (simp at hb; omega))
    · exact fr_new HF.out HG8.out (Nat.le_refl _)
    · exact HC.out.grown HG8.out (fun k e => by cases e; omega)
  · have hk1 : (C.R.kd p == 3) = false := by simp [hk]
    have hk2 : decide (C.R.kd p = 3) = false := by simp [hk]
    cases ht : C.R.is p [116, 114, 117, 101] with
    | true =>
      have HR := Lib.hid (rd_pr_true (f := f) (d := d) hk ht)
      have eT : C.R.is p (⟨#[116, 114, 117, 101]⟩ : ByteArray).toList = true := by rw [tlT]; exact ht
      clear hk
      go_enter Tryd.func81, Tryd.ntmps81
      go_wp2_with (first
        | (go_at_call 23; refine (HPO.out _ HC.out).mono ?_; rintro e wt ⟨rfl, b⟩; have HF := Lib.hid (gb_trans HF.out (below_fr b _)); have HC := Lib.hid (HC.out.under b); have HS := Lib.hid (HS.out.below b HS.out.lt); clear b)
        | (go_at_call 25; refine (HKI.out _ HC.out).mono ?_; rintro e wt ⟨rfl, b⟩; have HF := Lib.hid (gb_trans HF.out (below_fr b _)); have HC := Lib.hid (HC.out.under b); have HS := Lib.hid (HS.out.below b HS.out.lt); clear b)
        | (go_at_call 27; refine (HTK.out _ _ (by decide) HC.out).mono ?_; rintro e wt ⟨rfl, hc, hg, hb⟩; first | (have hc' : Cur C wt (p + 1) := (by rw [eT] at hc; exact hc); have HS := Lib.hid (HS.out.grown hg (by intro e; injection e; omega)); have HF := Lib.hid (gb_trans HF.out hg); have HC := Lib.hid hc'; clear hc hg hb hc'; rw [eT]); dsimp only)
        | (refine wpList_stx rfl (.tmp 4) (.tmp 21) rfl w.heap.size rfl HS.out (e := eBool (C.R.ps p) 1) (lv := .slice none 0 0) rfl rfl ?_; intro w8 hg8 hs8; have HG8 := Lib.hid hg8; have HS8 := Lib.hid hs8; clear hg8 hs8)
        | fail)
      rw [HR.out]
      refine ex_done rfl rfl rfl rfl HS8.out ⟨.slice none 0 0, rfl, .nil, ?_, ?_⟩
      · exact fr_new HF.out HG8.out (Nat.le_refl _)
      · exact HC.out.grown HG8.out (fun k e => by cases e; omega)
    | false =>
      have eT : C.R.is p (⟨#[116, 114, 117, 101]⟩ : ByteArray).toList = false := by rw [tlT]; exact ht
      cases hff : C.R.is p [102, 97, 108, 115, 101] with
      | true =>
        have HR := Lib.hid (rd_pr_false (f := f) (d := d) hk ht hff)
        have eF : C.R.is p (⟨#[102, 97, 108, 115, 101]⟩ : ByteArray).toList = true := by rw [tlF]; exact hff
        clear hk
        go_enter Tryd.func81, Tryd.ntmps81
        go_wp2_with (first
          | (go_at_call 23; refine (HPO.out _ HC.out).mono ?_; rintro e wt ⟨rfl, b⟩; have HF := Lib.hid (gb_trans HF.out (below_fr b _)); have HC := Lib.hid (HC.out.under b); have HS := Lib.hid (HS.out.below b HS.out.lt); clear b)
          | (go_at_call 25; refine (HKI.out _ HC.out).mono ?_; rintro e wt ⟨rfl, b⟩; have HF := Lib.hid (gb_trans HF.out (below_fr b _)); have HC := Lib.hid (HC.out.under b); have HS := Lib.hid (HS.out.below b HS.out.lt); clear b)
          | (go_at_call 27; refine (HTK.out _ _ (by decide) HC.out).mono ?_; rintro e wt ⟨rfl, hc, hg, hb⟩; first | (have b := hb eT; clear hc hg hb; rw [eT]; have HF := Lib.hid (gb_trans HF.out (below_fr b _)); have HC := Lib.hid (HC.out.under b); have HS := Lib.hid (HS.out.below b HS.out.lt); clear b) | (have hc' : Cur C wt (p + 1) := (by rw [eF] at hc; exact hc); have HS := Lib.hid (HS.out.grown hg (by intro e; injection e; omega)); have HF := Lib.hid (gb_trans HF.out hg); have HC := Lib.hid hc'; clear hc hg hb hc'; rw [eF]); dsimp only)
          | (refine wpList_stx rfl (.tmp 4) (.tmp 26) rfl w.heap.size rfl HS.out (e := eBool (C.R.ps p) 0) (lv := .slice none 0 0) rfl rfl ?_; intro w8 hg8 hs8; have HG8 := Lib.hid hg8; have HS8 := Lib.hid hs8; clear hg8 hs8)
          | fail)
        rw [HR.out]
        refine ex_done rfl rfl rfl rfl HS8.out ⟨.slice none 0 0, rfl, .nil, ?_, ?_⟩
        · exact fr_new HF.out HG8.out (Nat.le_refl _)
        · exact HC.out.grown HG8.out (fun k e => by cases e; omega)
      | false =>
        have eF : C.R.is p (⟨#[102, 97, 108, 115, 101]⟩ : ByteArray).toList = false := by rw [tlF]; exact hff
        cases h40 : C.R.is p [40] with
        | true =>
          have HR := Lib.hid (rd_pr_group (f := f) (d := d) hk ht hff h40)
          have h40' : ((C.R.wd p).toList == [40]) = true := h40
          obtain ⟨V, hV⟩ : ∃ V, wiG C.R (rd C.R f .gr p d) [⟨#[41]⟩] = V := ⟨_, rfl⟩
          have HWC : Hid (∀ W, Cur C W p → Calls Tryd.prog 94 #[C.ptr, .int .i64 (d : Int), .slice (some ⟨W.heap.size, 0, none⟩) 1 1] (W.alloc (.cells #[.string ⟨#[41]⟩] 9)) (RdTo C (W.alloc (.cells #[.string ⟨#[41]⟩] 9)) V)) := Lib.hid fun W hc => by
            have h1 := hW d p (W.alloc (.cells #[.string ⟨#[41]⟩] 9)) [⟨#[41]⟩] (some ⟨W.heap.size, 0, none⟩) 1 1 hd (hc.under ((Below.refl _ _).alloc (Nat.le_refl _) _)) (by omega) (fun t ht => by rw [List.mem_singleton.1 ht]; decide) (by
              have := Sh.lit W [.string ⟨#[41]⟩] 9
              simpa using this) (by omega) (fun b off e => by cases e; have := hc.lt; omega)
            rwa [hV] at h1
          rw [hV] at HR
          clear hk hV
          go_enter Tryd.func81, Tryd.ntmps81
          go_wp2_with (first
            | (go_at_call 23; refine (HPO.out _ HC.out).mono ?_; rintro e wt ⟨rfl, b⟩; have HF := Lib.hid (gb_trans HF.out (below_fr b _)); have HC := Lib.hid (HC.out.under b); have HS := Lib.hid (HS.out.below b HS.out.lt); clear b)
            | (go_at_call 25; refine (HKI.out _ HC.out).mono ?_; rintro e wt ⟨rfl, b⟩; have HF := Lib.hid (gb_trans HF.out (below_fr b _)); have HC := Lib.hid (HC.out.under b); have HS := Lib.hid (HS.out.below b HS.out.lt); clear b)
            | (go_at_call 27; refine (HTK.out _ _ (by decide) HC.out).mono ?_; rintro e wt ⟨rfl, hc, hg, hb⟩; first | (have b := hb eT; clear hc hg hb; rw [eT]; have HF := Lib.hid (gb_trans HF.out (below_fr b _)); have HC := Lib.hid (HC.out.under b); have HS := Lib.hid (HS.out.below b HS.out.lt); clear b) | (have b := hb eF; clear hc hg hb; rw [eF]; have HF := Lib.hid (gb_trans HF.out (below_fr b _)); have HC := Lib.hid (HC.out.under b); have HS := Lib.hid (HS.out.below b HS.out.lt); clear b); dsimp only)
            | (go_at_call 22; refine (HPK.out _ HC.out).mono ?_; rintro e wt ⟨rfl, b⟩; have HF := Lib.hid (gb_trans HF.out (below_fr b _)); have HC := Lib.hid (HC.out.under b); have HS := Lib.hid (HS.out.below b HS.out.lt); clear b)
            | (go_at_call 94; refine (HWC.out _ HC.out).mono ?_; rintro e wt ⟨lv, rfl, hx, hg, hc⟩; have hone := hx.one; have HX := Lib.hid (hx.weak (S' := fun b => w.heap.size < b) (by intro b h1 _; have := HS.out.lt; simp at h1; omega)); have HS := Lib.hid ((HS.out.below ((Below.refl _ _).alloc (Nat.le_refl _) _) HS.out.lt).grown hg (by intro e; injection e; omega)); have HF := Lib.hid (gb_trans (gb_trans HF.out (below_fr ((Below.refl _ _).alloc (Nat.le_refl _) _) _)) hg); have HC := Lib.hid hc; clear hx hg hc; dsimp only)
            | (refine wpList_stx rfl (.tmp 4) (.tmp 35) rfl w.heap.size rfl HS.out (e := V.e) (lv := lv) rfl hone ?_; intro w8 hg8 hs8; have HG8 := Lib.hid hg8; have HS8 := Lib.hid hs8; clear hg8 hs8)
            | fail)
          rw [HR.out]
          refine ex_done rfl rfl rfl rfl HS8.out ⟨lv, rfl, ?_, ?_, ?_⟩
          · exact (HX.out.grown HG8.out (fun b hb _ e => by injection e with e; first | omega | (simp at hb; omega))).weak (fun b hb _ => by first | omega | (simp at hb; omega))
          · exact fr_new HF.out HG8.out (Nat.le_refl _)
          · exact HC.out.grown HG8.out (fun k e => by cases e; omega)
        | false =>
          have h40' : ((C.R.wd p).toList == [40]) = false := h40
          cases hdc : C.R.is p [100, 101, 99, 108, 97, 115, 115, 105, 102, 121] with
          | true =>
            have HR := Lib.hid (rd_pr_open (f := f) (d := d) hk ht hff h40 hdc)
            have hdc' : ((C.R.wd p).toList == [100, 101, 99, 108, 97, 115, 115, 105, 102, 121]) = true := hdc
            have hplt : p < C.L.length := (row_ok C.T C.L).is_lt hdc
            obtain ⟨V, hV⟩ : ∃ V, rd C.R f .op p d = V := ⟨_, rfl⟩
            have HOC : Hid (∀ W, Cur C W p → Calls Tryd.prog 95 #[C.ptr, .int .i64 (d : Int)] W (RdTo C W V)) := Lib.hid fun W hc => by
              have h1 := hO d p W hd hc hplt (by omega)
              rwa [hV] at h1
            rw [hV] at HR
            clear hk hV
            go_enter Tryd.func81, Tryd.ntmps81
            go_wp2_with (first
              | (go_at_call 23; refine (HPO.out _ HC.out).mono ?_; rintro e wt ⟨rfl, b⟩; have HF := Lib.hid (gb_trans HF.out (below_fr b _)); have HC := Lib.hid (HC.out.under b); have HS := Lib.hid (HS.out.below b HS.out.lt); clear b)
              | (go_at_call 25; refine (HKI.out _ HC.out).mono ?_; rintro e wt ⟨rfl, b⟩; have HF := Lib.hid (gb_trans HF.out (below_fr b _)); have HC := Lib.hid (HC.out.under b); have HS := Lib.hid (HS.out.below b HS.out.lt); clear b)
              | (go_at_call 27; refine (HTK.out _ _ (by decide) HC.out).mono ?_; rintro e wt ⟨rfl, hc, hg, hb⟩; first | (have b := hb eT; clear hc hg hb; rw [eT]; have HF := Lib.hid (gb_trans HF.out (below_fr b _)); have HC := Lib.hid (HC.out.under b); have HS := Lib.hid (HS.out.below b HS.out.lt); clear b) | (have b := hb eF; clear hc hg hb; rw [eF]; have HF := Lib.hid (gb_trans HF.out (below_fr b _)); have HC := Lib.hid (HC.out.under b); have HS := Lib.hid (HS.out.below b HS.out.lt); clear b); dsimp only)
              | (go_at_call 22; refine (HPK.out _ HC.out).mono ?_; rintro e wt ⟨rfl, b⟩; have HF := Lib.hid (gb_trans HF.out (below_fr b _)); have HC := Lib.hid (HC.out.under b); have HS := Lib.hid (HS.out.below b HS.out.lt); clear b)
              | (go_at_call 95; refine (HOC.out _ HC.out).mono ?_; rintro e wt ⟨lv, rfl, hx, hg, hc⟩; have hone := hx.one; have HX := Lib.hid (hx.weak (S' := fun b => w.heap.size < b) (by intro b h1 _; have := HS.out.lt; omega)); have HS := Lib.hid (HS.out.grown hg (by intro e; injection e; omega)); have HF := Lib.hid (gb_trans HF.out hg); have HC := Lib.hid hc; clear hx hg hc; dsimp only)
              | (refine wpList_stx rfl (.tmp 4) (.tmp 44) rfl w.heap.size rfl HS.out (e := V.e) (lv := lv) rfl hone ?_; intro w8 hg8 hs8; have HG8 := Lib.hid hg8; have HS8 := Lib.hid hs8; clear hg8 hs8)
              | fail)
            rw [HR.out]
            refine ex_done rfl rfl rfl rfl HS8.out ⟨lv, rfl, ?_, ?_, ?_⟩
            · exact (HX.out.grown HG8.out (fun b hb _ e => by injection e with e; first | omega | (simp at hb; omega))).weak (fun b hb _ => by first | omega | (simp at hb; omega))
            · exact fr_new HF.out HG8.out (Nat.le_refl _)
            · exact HC.out.grown HG8.out (fun k e => by cases e; omega)
          | false =>
            have HR := Lib.hid (rd_pr_named (f := f) (d := d) hk ht hff h40 hdc)
            have hdc' : ((C.R.wd p).toList == [100, 101, 99, 108, 97, 115, 115, 105, 102, 121]) = false := hdc
            obtain ⟨V, hV⟩ : ∃ V, rd C.R f .nm p d = V := ⟨_, rfl⟩
            have HOC : Hid (∀ W, Cur C W p → Calls Tryd.prog 96 #[C.ptr, .int .i64 (d : Int)] W (RdTo C W V)) := Lib.hid fun W hc => by
              have h1 := hN d p W hd hc (by omega)
              rwa [hV] at h1
            rw [hV] at HR
            clear hk hV
            go_enter Tryd.func81, Tryd.ntmps81
            go_wp2_with (first
              | (go_at_call 23; refine (HPO.out _ HC.out).mono ?_; rintro e wt ⟨rfl, b⟩; have HF := Lib.hid (gb_trans HF.out (below_fr b _)); have HC := Lib.hid (HC.out.under b); have HS := Lib.hid (HS.out.below b HS.out.lt); clear b)
              | (go_at_call 25; refine (HKI.out _ HC.out).mono ?_; rintro e wt ⟨rfl, b⟩; have HF := Lib.hid (gb_trans HF.out (below_fr b _)); have HC := Lib.hid (HC.out.under b); have HS := Lib.hid (HS.out.below b HS.out.lt); clear b)
              | (go_at_call 27; refine (HTK.out _ _ (by decide) HC.out).mono ?_; rintro e wt ⟨rfl, hc, hg, hb⟩; first | (have b := hb eT; clear hc hg hb; rw [eT]; have HF := Lib.hid (gb_trans HF.out (below_fr b _)); have HC := Lib.hid (HC.out.under b); have HS := Lib.hid (HS.out.below b HS.out.lt); clear b) | (have b := hb eF; clear hc hg hb; rw [eF]; have HF := Lib.hid (gb_trans HF.out (below_fr b _)); have HC := Lib.hid (HC.out.under b); have HS := Lib.hid (HS.out.below b HS.out.lt); clear b); dsimp only)
              | (go_at_call 22; refine (HPK.out _ HC.out).mono ?_; rintro e wt ⟨rfl, b⟩; have HF := Lib.hid (gb_trans HF.out (below_fr b _)); have HC := Lib.hid (HC.out.under b); have HS := Lib.hid (HS.out.below b HS.out.lt); clear b)
              | (go_at_call 96; refine (HOC.out _ HC.out).mono ?_; rintro e wt ⟨lv, rfl, hx, hg, hc⟩; have hone := hx.one; have HX := Lib.hid (hx.weak (S' := fun b => w.heap.size < b) (by intro b h1 _; have := HS.out.lt; omega)); have HS := Lib.hid (HS.out.grown hg (by intro e; injection e; omega)); have HF := Lib.hid (gb_trans HF.out hg); have HC := Lib.hid hc; clear hx hg hc; dsimp only)
              | (refine wpList_stx rfl (.tmp 4) (.tmp 49) rfl w.heap.size rfl HS.out (e := V.e) (lv := lv) rfl hone ?_; intro w8 hg8 hs8; have HG8 := Lib.hid hg8; have HS8 := Lib.hid hs8; clear hg8 hs8)
              | fail)
            rw [HR.out]
            refine ex_done rfl rfl rfl rfl HS8.out ⟨lv, rfl, ?_, ?_, ?_⟩
            · exact (HX.out.grown HG8.out (fun b hb _ e => by injection e with e; first | omega | (simp at hb; omega))).weak (fun b hb _ => by first | omega | (simp at hb; omega))
            · exact fr_new HF.out HG8.out (Nat.le_refl _)
            · exact HC.out.grown HG8.out (fun k e => by cases e; omega)

/-- All of them, whatever the fuel. -/
theorem all_step (C : Cx) (hC : TokOk C.T C.L) (hDg : DigOk C) : ∀ f, BinC C f ∧ SgC C f ∧ PrC C f ∧ WiC C f ∧ OpC C f ∧ NmC C f ∧ ArC C f := by
  intro f
  induction f using Nat.strongRecOn with
  | _ f ih =>
    cases f with
    | zero => exact ⟨fun l d p w h1 h6 hd h hf => by omega, fun d p w hd h hf => by omega, fun d p w hd h hf => by omega, fun d p w ss A n c hd h hf => by omega, fun d p w hd h hp hf => by omega, fun d p w hd h hf => by omega, fun d p w hd h h40 hf => by omega⟩
    | succ f =>
      have hB : ∀ f' ≤ f, BinC C f' := fun f' h => (ih f' (by omega)).1
      obtain ⟨h1, h2, h3, h4, h5, h6, h7⟩ := ih f (by omega)
      exact ⟨bin_step C hC f hB h2, signed_step C hC f h2 h3, primary_step C hC hDg f h4 h5 h6, within_step C hC f h1, open_step C hC f h4, named_step C hC f h7, args_step C hC f hB⟩
end Go.Proofs.YtnhhdafhnngolaaDoor
