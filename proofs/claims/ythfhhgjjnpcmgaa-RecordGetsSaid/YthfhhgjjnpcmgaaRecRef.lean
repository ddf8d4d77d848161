/-
  CONTRACTS OF the document's own record, 'blazonref04.Form' and 'blazonref04.Get'.
-/
import Derived.Test.YthfhhgjjnpcmgaaRecGet
import Derived.Test.YthfhhgjjnpcmgaaCrcRef
import Derived.Test.YthfhhgjjnpcmgaaRegion
namespace Go.Proofs.Ythfhhgjjnpcmgaa
set_option linter.unusedVariables false
set_option linter.unusedSimpArgs false
open Go.RowKit

theorem Own.lit1 (w : World) (x : Int) : Own (w.alloc (.cells #[.int .u8 x] 5)) w.heap.size 5 1 (.slice (some ⟨w.heap.size, 0, none⟩) 1 1) 1 (by8 [x]) :=
  Own.mk_ (cur := [.int .u8 x]) (Nat.le_refl _) (heap_alloc_new w _) (Nat.le_refl _) (by unfold maxLen; omega) rfl rfl

set_option maxRecDepth 10000 in
set_option maxHeartbeats 800000 in
theorem refForm_any (K : Nat) (P : Option Addr) (m pc : Nat) (xs : List Int) (w : World) (U : Nat) (hp : Sh w U P m (by8 xs)) (hb : Byt xs) (hU : U ≤ w.heap.size) (hK : K ≤ 255) (hm : m ≤ 65536) :
    Calls Try.prog 11 #[.int .i64 (K : Int), .slice P m pc] w fun e w' => ∃ v, e = .returned v ∧ Own w' w.heap.size 5 1 v (9 + m) (by8 (form K xs)) ∧ Below w.heap.size w w' := by
  have hK8 : (K : Int) % 256 = K := by omega
  have hm32 : (m : Int) % 4294967296 = m := by omega
  have hcr := crc_lt 0 ((K : Int) :: xs)
  have hbk : Byt ((K : Int) :: xs) := fun x hx => by
    rcases List.mem_cons.1 hx with rfl | hx
    · omega
    · exact hb x hx
  have hxl : xs.length = m := by have := hp.len; rwa [by8_len] at this
  have HXL := Lib.hid hxl
  clear hxl
  obtain ⟨C, hC⟩ : ∃ C, C = crcOf 0 ((K : Int) :: xs) := ⟨_, rfl⟩
  rw [← hC] at hcr
  have HC := Lib.hid hC
  clear hC
  go_enter Try.func11, Try.ntmps11
  go_wp2_with (first
    | (at_builtin; refine wpList_more rfl (.tmp 9) (.tmp 10) 22 rfl rowB w (w.alloc (.cells #[.int .u8 (K : Int)] 5)) w.heap.size _ 1 (by8 [(K : Int)]) (by8 xs) rfl (Own.lit1 w K) U P m pc rfl (hp.alloc hU _) (by8_one _) ((Below.refl _ _).alloc (Nat.le_refl _) _) (by omega) (by omega) ?_; intro v1 w1 ho1 hb1; have ho1 := ho1.cast rfl (by8_append [(K : Int)] xs).symm; obtain ⟨B1, c1, rfl⟩ := ho1.form; have ho1' : ∀ w', Below w1.heap.size w1 w' → Sh w' w1.heap.size B1 (1 + m) (by8 ((K : Int) :: xs)) := fun w' b => ho1.sh.below b)
    | (go_at_call 22; with_reducible refine (four_any m w1 (by unfold U32; omega)).mono ?_; rintro e w2 ⟨v2, rfl, ho2, hb2⟩; obtain ⟨B2, c2, rfl⟩ := ho2.form; have ho1 := ho1.below hb2)
    | (go_at_call 23; refine (refOf_any B1 (1 + m) c1 ((K : Int) :: xs) w2 w2.heap.size ho1.sh hbk (by omega)).mono ?_; rw [← HC.out]; rintro e w' ⟨rfl, rfl⟩)
    | (go_at_call 22; with_reducible refine (four_any C w2 (by unfold U32; omega)).mono ?_; rintro e w3 ⟨v3, rfl, ho3, hb3⟩; obtain ⟨B3, c3, rfl⟩ := ho3.form; have ho1 := ho1.below hb3)
    | (at_builtin; refine wpList_more rfl (.tmp 16) (.tmp 19) 22 rfl rowB w1 w3 w1.heap.size _ 4 (by8 (digs 4 m)) (by8 (digs 4 C)) rfl (ho2.below hb3) w3.heap.size B3 4 c3 rfl ho3.sh (by8_one _) (hb2.trans (hb3.mono hb2.size)) (by omega) (by omega) ?_; intro v4 w4 ho4 hb4; have ho4 := ho4.cast rfl (by8_append _ _).symm; obtain ⟨B4, c4, rfl⟩ := ho4.form; have hs1 := ho1' w4 hb4)
    | (at_builtin; refine wpList_more rfl (.tmp 21) (.tmp 22) 22 rfl rowB w1 w4 w1.heap.size _ 8 (by8 (digs 4 m ++ digs 4 C)) (by8 ((K : Int) :: xs)) rfl ho4 w1.heap.size B1 (1 + m) c1 rfl hs1 (by8_one _) hb4 (by omega) (by omega) ?_; intro v5 w5 ho5 hb5)
    | fail)
  go_ret
  exact ⟨_, rfl, (ho5.cast (by omega) (by rw [← by8_append, form, HXL.out, HC.out, List.append_assoc])).lower hb1.size, hb1.trans (hb5.mono hb1.size)⟩

theorem results_tmp4 {fn : Func} {t u v x : Tmp} (h : fn.results = #[.tmp t, .tmp u, .tmp v, .tmp x]) (tmps : Array Value) (P : Program) (w : World) :
    (results fn tmps).run P w = .ok (.tuple #[tmps.getD t undef, tmps.getD u undef, tmps.getD v undef, tmps.getD x undef]) w := by
  simp [results, h]

/-- What the document's Get answers. -/
def RefTo (w : World) (U : Nat) (R : RG) (e : Ending) (w' : World) : Prop :=
  ∃ T t c, e = .returned (.tuple #[.int .i64 R.kind, .slice T t c, .int .i64 (R.used : Int), .int .i64 R.err]) ∧ Sh w' U T t (by8 R.pay) ∧ Below w.heap.size w w'

set_option maxRecDepth 10000 in
set_option maxHeartbeats 1600000 in
theorem refGet_any (A : Option Addr) (n c : Nat) (bs : List Int) (w : World) (U : Nat) (hnc : n ≤ c) (hn : n ≤ 1000000) (hb : Byt bs) (hU : U ≤ w.heap.size) (hx : Sh w U A n (by8 bs)) :
    Calls Try.prog 14 #[.slice A n c] w (RefTo w U (rget bs)) := by
  have hl : bs.length = n := by have := hx.len; rwa [by8_len] at this
  by_cases h9 : n < 9
  · rw [rget_short (by omega)]
    clear hl hx
    go_enter Try.func14, Try.ntmps14
    go_wp2
    refine bodyPost_ret (results_tmp4 rfl _ _ _) rfl ?_
    exact ⟨_, _, _, rfl, Sh.nil _ _ _, Below.refl _ _⟩
  · have HN := Lib.hid (number_any A 4 c (bs.take 4) w U (by have := hx.head (k := 4) (by omega); rwa [by8_take] at this) (by omega) (by omega) (hb.take 4).bytes)
    rw [List.take_take, Nat.min_self] at HN
    obtain ⟨b, off, rfl, _⟩ := hx.2 (by omega)
    have hv1 := rget_long (l := bs) (by omega)
    have hv2 := rget_end (l := bs) (by omega)
    have hv3 := rget_sum (l := bs) (by omega)
    have hv4 := rget_ok (l := bs) (by omega)
    have hif := rget_iff bs hb.bytes (by omega)
    obtain ⟨L, hL⟩ : ∃ L, L = val (bs.take 4) := ⟨_, rfl⟩
    rw [← hL] at HN hv1 hv2 hv3 hv4 hif
    have hLlt : L < 4294967296 := by
      have := val_lt (bs.take 4) (hb.take 4).bytes
      rw [List.length_take, Nat.min_eq_left (by omega)] at this
      have e : (256 : Nat) ^ 4 = 4294967296 := (by decide)
      omega
    by_cases h1 : 65536 < L
    · rw [hv1 h1]
      clear hl hx hv1 hv2 hv3 hv4 hL hif
      go_enter Try.func14, Try.ntmps14
      go_wp2_with (first | (go_at_call 25; refine HN.out.mono ?_; rintro e w' ⟨rfl, rfl⟩) | fail)
      refine bodyPost_ret (results_tmp4 rfl _ _ _) rfl ?_
      exact ⟨_, _, _, rfl, Sh.nil _ _ _, Below.refl _ _⟩
    · by_cases h2 : n < 9 + L
      · rw [hv2 h1 (by omega)]
        clear hl hx hv1 hv2 hv3 hv4 hL hif
        go_enter Try.func14, Try.ntmps14
        go_wp2_with (first | (go_at_call 25; refine HN.out.mono ?_; rintro e w' ⟨rfl, rfl⟩) | fail)
        refine bodyPost_ret (results_tmp4 rfl _ _ _) rfl ?_
        exact ⟨_, _, _, rfl, Sh.nil _ _ _, Below.refl _ _⟩
      · have h8 := hb.at (k := 8) (by omega)
        obtain ⟨K, hK⟩ : ∃ K : Nat, bs.getD 8 0 = (K : Int) := ⟨(bs.getD 8 0).toNat, by omega⟩
        obtain ⟨pay, hpay⟩ : ∃ pay, pay = (bs.drop 9).take L := ⟨_, rfl⟩
        rw [hK, ← hpay] at hv3 hv4 hif
        rw [hK] at h8
        have hc8 : w.cell? ⟨b, off + 8, none⟩ = some (.int .u8 (K : Int)) := by
          obtain ⟨_, _, e, _, hc⟩ := hx.byte (k := 8) (by omega)
          cases e
          rw [hK] at hc
          exact hc
        have hUd : U ≤ w.drew.heap.size := hU
        have hbl : b < w.heap.size := World.block_lt_of_cell? _ _ hc8
        have hpb : Byt pay := by rw [hpay]; exact (hb.drop 9).take L
        have HXP : Hid (∀ w' T m, Below U w w' → (0 < L → T = some ⟨b, off + 9, none⟩) → m = L → Sh w' U T m (by8 pay)) := Lib.hid fun w' T m u hT hm => by
          rw [hm]
          have := (hx.below u).piece (lo := 9) (hi := 9 + L) (by omega) (by omega) (A' := T) (fun b' off' e h => by cases e; exact hT (by omega))
          rw [by8_take, by8_drop, List.drop_take, show 9 + L - 9 = L by omega, ← hpay] at this
          exact this
        have HXH : Hid (∀ w' m, Below U w w' → m = 9 + L → Sh w' U (some ⟨b, off, none⟩) m (by8 (bs.take (9 + L)))) := Lib.hid fun w' m u hm => by
          rw [hm]
          have := (hx.below u).head (k := 9 + L) (by omega)
          rwa [by8_take] at this
        have HFO : Hid (∀ T m c', (0 < L → T = some ⟨b, off + 9, none⟩) → m = L → Calls Try.prog 11 #[.int .i64 (K : Int), .slice T m c'] w.drew fun e w' => ∃ B1 m1 c1, e = .returned (.slice B1 m1 c1) ∧ m1 = 9 + L ∧ Sh w' w'.heap.size B1 m1 (by8 (form (K : Int) pay)) ∧ Below w.heap.size w w') := Lib.hid fun T m c' hT hm =>
          (refForm_any K T m c' pay w.drew U (HXP.out _ _ _ (below_drew _ w) hT hm) hpb hUd (by omega) (by omega)).mono fun e w' ⟨v, he, ho, hb'⟩ => by
            obtain ⟨B1, c1, rfl⟩ := ho.form
            exact ⟨B1, _, c1, he, by omega, ho.sh, (below_drew _ w).trans hb'⟩
        by_cases h3 : form (K : Int) pay = bs.take (9 + L)
        · rw [hv4 h1 (by omega) ((hif h1 (by omega)).1 h3)]
          have H3 := Lib.hid h3
          clear hl hx hv1 hv2 hv3 hv4 hL hif h3 hK hpay
          have HM : Hid ((9 + (L : Int)).toNat = 9 + L) := Lib.hid (by omega)
          by_cases hc9 : c = 9
          · subst hc9
            have HL0 : Hid (L = 0) := Lib.hid (by omega)
            have HLn : Hid (¬ 0 < L) := Lib.hid (by omega)
            go_enter Try.func14, Try.ntmps14
            go_wp2_with (first | (go_at_call 25; refine HN.out.mono ?_; rintro e w' ⟨rfl, rfl⟩) | fail)
            refine region_start (by kernel_rfl) 15 rfl ?_
            refine wpAny_next 0 2 13 (by kernel_rfl) (fun _ _ d _ _ h => by cases d <;> exact h) ?_
            simp only [List.drop_succ_cons, List.drop_zero, List.take_succ_cons, List.take_zero]
            repeat (go_big_quiet_step (fail))
            refine wpQuiet_nil ?_
            refine wpAny_next 4 4 9 (by kernel_rfl) (fun _ _ d _ _ h => by cases d <;> exact h) ?_
            simp only [List.drop_succ_cons, List.drop_zero, List.take_succ_cons, List.take_zero]
            repeat (go_big_quiet_step (fail))
            refine wpQuiet_nil ?_
            refine wpAny_next 9 4 5 (by kernel_rfl) (fun _ _ d _ _ h => by cases d <;> exact h) ?_
            simp only [List.drop_succ_cons, List.drop_zero, List.take_succ_cons, List.take_zero]
            repeat (go_big_quiet_step (fail))
            refine wpQuiet_nil ?_
            refine wpAny_one (i := 2) (fuel := 4) (by kernel_rfl) rfl (fun KK hKK => ?_)
            go_simp
            refine hKK _ _ ?_
            clear hKK KK
            refine wpAny_next 3 1 3 (by kernel_rfl) (fun _ _ d _ _ h => by cases d <;> exact h) ?_
            simp only [List.drop_succ_cons, List.drop_zero, List.take_succ_cons, List.take_zero]
            repeat (go_big_quiet_step (fail))
            refine wpQuiet_nil ?_
            refine wpAny_one (i := 8) (fuel := 2) (by kernel_rfl) rfl (fun KK hKK => ?_)
            go_simp
            refine Calls.mono (HFO.out _ _ _ ?_ ?_) ?_
            · exact fun h => absurd h HLn.out
            · rfl
            rintro e w1 ⟨B1, m1, c1, rfl, rfl, ho1, hb1⟩
            refine hKK _ _ ?_
            clear hKK KK
            refine wpAny_one (i := 13) (fuel := 1) (by kernel_rfl) rfl (fun KK hKK => ?_)
            go_simp
            refine Calls.mono (same_yes _ _ _ _ _ _ (form (K : Int) pay) (bs.take (9 + L)) _ _ U ho1 (HXH.out _ _ (hb1.mono hU) ?_) ?_ H3.out) ?_
            · exact HM.out
            · unfold maxLen; omega
            rintro e w2 ⟨rfl, hq2⟩
            have hb2 : Below w.heap.size w w2 := hb1.trans (hq2.below _)
            have hc2 : w2.cell? ⟨b, off + 8, none⟩ = some (.int .u8 (K : Int)) := (hb2.cell (p := ⟨b, off + 8, none⟩) hbl).trans hc8
            refine hKK _ _ ?_
            clear hKK KK
            refine wpAny_next 14 1 0 (by kernel_rfl) (fun _ _ d _ _ h => by cases d <;> exact h) ?_
            simp only [List.drop_succ_cons, List.drop_zero, List.take_succ_cons, List.take_zero]
            repeat (go_big_quiet_step (fail))
            refine wpQuiet_nil ?_
            refine wpAny_done (by kernel_rfl) ?_ _
            go_wp2
            go_quiet (fail)
            go_wp2
            refine bodyPost_ret (results_tmp4 rfl _ _ _) rfl ?_
            exact ⟨some ⟨b, off, none⟩, L, 0, by simp, HXP.out _ _ _ ((hb2.mono hU).trans ((Quiet.one _ _).below _)) (fun h => absurd h HLn.out) rfl, hb2.trans ((Quiet.one _ _).below _)⟩
          · go_enter Try.func14, Try.ntmps14
            go_wp2_with (first | (go_at_call 25; refine HN.out.mono ?_; rintro e w' ⟨rfl, rfl⟩) | fail)
            refine region_start (by kernel_rfl) 15 rfl ?_
            refine wpAny_next 0 2 13 (by kernel_rfl) (fun _ _ d _ _ h => by cases d <;> exact h) ?_
            simp only [List.drop_succ_cons, List.drop_zero, List.take_succ_cons, List.take_zero]
            repeat (go_big_quiet_step (fail))
            refine wpQuiet_nil ?_
            refine wpAny_next 4 4 9 (by kernel_rfl) (fun _ _ d _ _ h => by cases d <;> exact h) ?_
            simp only [List.drop_succ_cons, List.drop_zero, List.take_succ_cons, List.take_zero]
            repeat (go_big_quiet_step (fail))
            refine wpQuiet_nil ?_
            refine wpAny_next 9 4 5 (by kernel_rfl) (fun _ _ d _ _ h => by cases d <;> exact h) ?_
            simp only [List.drop_succ_cons, List.drop_zero, List.take_succ_cons, List.take_zero]
            repeat (go_big_quiet_step (fail))
            refine wpQuiet_nil ?_
            refine wpAny_one (i := 2) (fuel := 4) (by kernel_rfl) rfl (fun KK hKK => ?_)
            go_simp
            refine hKK _ _ ?_
            clear hKK KK
            refine wpAny_next 3 1 3 (by kernel_rfl) (fun _ _ d _ _ h => by cases d <;> exact h) ?_
            simp only [List.drop_succ_cons, List.drop_zero, List.take_succ_cons, List.take_zero]
            repeat (go_big_quiet_step (fail))
            refine wpQuiet_nil ?_
            refine wpAny_one (i := 8) (fuel := 2) (by kernel_rfl) rfl (fun KK hKK => ?_)
            go_simp
            refine Calls.mono (HFO.out _ _ _ ?_ ?_) ?_
            · exact fun _ => rfl
            · rfl
            rintro e w1 ⟨B1, m1, c1, rfl, rfl, ho1, hb1⟩
            refine hKK _ _ ?_
            clear hKK KK
            refine wpAny_one (i := 13) (fuel := 1) (by kernel_rfl) rfl (fun KK hKK => ?_)
            go_simp
            refine Calls.mono (same_yes _ _ _ _ _ _ (form (K : Int) pay) (bs.take (9 + L)) _ _ U ho1 (HXH.out _ _ (hb1.mono hU) ?_) ?_ H3.out) ?_
            · exact HM.out
            · unfold maxLen; omega
            rintro e w2 ⟨rfl, hq2⟩
            have hb2 : Below w.heap.size w w2 := hb1.trans (hq2.below _)
            have hc2 : w2.cell? ⟨b, off + 8, none⟩ = some (.int .u8 (K : Int)) := (hb2.cell (p := ⟨b, off + 8, none⟩) hbl).trans hc8
            refine hKK _ _ ?_
            clear hKK KK
            refine wpAny_next 14 1 0 (by kernel_rfl) (fun _ _ d _ _ h => by cases d <;> exact h) ?_
            simp only [List.drop_succ_cons, List.drop_zero, List.take_succ_cons, List.take_zero]
            repeat (go_big_quiet_step (fail))
            refine wpQuiet_nil ?_
            refine wpAny_done (by kernel_rfl) ?_ _
            go_wp2
            go_quiet (fail)
            go_wp2
            refine bodyPost_ret (results_tmp4 rfl _ _ _) rfl ?_
            exact ⟨some ⟨b, off + 9, none⟩, L, c - 9, by simp, HXP.out _ _ _ ((hb2.mono hU).trans ((Quiet.one _ _).below _)) (fun _ => rfl) rfl, hb2.trans ((Quiet.one _ _).below _)⟩
        · have hcn : ¬ val ((bs.drop 4).take 4) = crcOf 0 ((K : Int) :: pay) := fun h => h3 ((hif h1 (by omega)).2 h)
          rw [hv3 h1 (by omega) hcn]
          have H3 := Lib.hid h3
          clear hl hx hv1 hv2 hv3 hv4 hL hif h3 hK hpay hcn
          have HM : Hid ((9 + (L : Int)).toNat = 9 + L) := Lib.hid (by omega)
          by_cases hc9 : c = 9
          · subst hc9
            have HL0 : Hid (L = 0) := Lib.hid (by omega)
            have HLn : Hid (¬ 0 < L) := Lib.hid (by omega)
            go_enter Try.func14, Try.ntmps14
            go_wp2_with (first | (go_at_call 25; refine HN.out.mono ?_; rintro e w' ⟨rfl, rfl⟩) | fail)
            refine region_start (by kernel_rfl) 15 rfl ?_
            refine wpAny_next 0 2 13 (by kernel_rfl) (fun _ _ d _ _ h => by cases d <;> exact h) ?_
            simp only [List.drop_succ_cons, List.drop_zero, List.take_succ_cons, List.take_zero]
            repeat (go_big_quiet_step (fail))
            refine wpQuiet_nil ?_
            refine wpAny_next 4 4 9 (by kernel_rfl) (fun _ _ d _ _ h => by cases d <;> exact h) ?_
            simp only [List.drop_succ_cons, List.drop_zero, List.take_succ_cons, List.take_zero]
            repeat (go_big_quiet_step (fail))
            refine wpQuiet_nil ?_
            refine wpAny_next 9 4 5 (by kernel_rfl) (fun _ _ d _ _ h => by cases d <;> exact h) ?_
            simp only [List.drop_succ_cons, List.drop_zero, List.take_succ_cons, List.take_zero]
            repeat (go_big_quiet_step (fail))
            refine wpQuiet_nil ?_
            refine wpAny_one (i := 2) (fuel := 4) (by kernel_rfl) rfl (fun KK hKK => ?_)
            go_simp
            refine hKK _ _ ?_
            clear hKK KK
            refine wpAny_next 3 1 3 (by kernel_rfl) (fun _ _ d _ _ h => by cases d <;> exact h) ?_
            simp only [List.drop_succ_cons, List.drop_zero, List.take_succ_cons, List.take_zero]
            repeat (go_big_quiet_step (fail))
            refine wpQuiet_nil ?_
            refine wpAny_one (i := 8) (fuel := 2) (by kernel_rfl) rfl (fun KK hKK => ?_)
            go_simp
            refine Calls.mono (HFO.out _ _ _ ?_ ?_) ?_
            · exact fun h => absurd h HLn.out
            · rfl
            rintro e w1 ⟨B1, m1, c1, rfl, rfl, ho1, hb1⟩
            refine hKK _ _ ?_
            clear hKK KK
            refine wpAny_one (i := 13) (fuel := 1) (by kernel_rfl) rfl (fun KK hKK => ?_)
            go_simp
            refine Calls.mono (same_no _ _ _ _ _ _ (form (K : Int) pay) (bs.take (9 + L)) _ _ U ho1 (HXH.out _ _ (hb1.mono hU) ?_) ?_ H3.out) ?_
            · exact HM.out
            · unfold maxLen; omega
            rintro e w2 ⟨rfl, hq2⟩
            have hb2 : Below w.heap.size w w2 := hb1.trans (hq2.below _)
            have hc2 : w2.cell? ⟨b, off + 8, none⟩ = some (.int .u8 (K : Int)) := (hb2.cell (p := ⟨b, off + 8, none⟩) hbl).trans hc8
            refine hKK _ _ ?_
            clear hKK KK
            refine wpAny_next 14 1 0 (by kernel_rfl) (fun _ _ d _ _ h => by cases d <;> exact h) ?_
            simp only [List.drop_succ_cons, List.drop_zero, List.take_succ_cons, List.take_zero]
            repeat (go_big_quiet_step (fail))
            refine wpQuiet_nil ?_
            refine wpAny_done (by kernel_rfl) ?_ _
            go_wp2
            refine bodyPost_ret (results_tmp4 rfl _ _ _) rfl ?_
            exact ⟨_, _, _, rfl, Sh.nil _ _ _, hb2⟩
          · go_enter Try.func14, Try.ntmps14
            go_wp2_with (first | (go_at_call 25; refine HN.out.mono ?_; rintro e w' ⟨rfl, rfl⟩) | fail)
            refine region_start (by kernel_rfl) 15 rfl ?_
            refine wpAny_next 0 2 13 (by kernel_rfl) (fun _ _ d _ _ h => by cases d <;> exact h) ?_
            simp only [List.drop_succ_cons, List.drop_zero, List.take_succ_cons, List.take_zero]
            repeat (go_big_quiet_step (fail))
            refine wpQuiet_nil ?_
            refine wpAny_next 4 4 9 (by kernel_rfl) (fun _ _ d _ _ h => by cases d <;> exact h) ?_
            simp only [List.drop_succ_cons, List.drop_zero, List.take_succ_cons, List.take_zero]
            repeat (go_big_quiet_step (fail))
            refine wpQuiet_nil ?_
            refine wpAny_next 9 4 5 (by kernel_rfl) (fun _ _ d _ _ h => by cases d <;> exact h) ?_
            simp only [List.drop_succ_cons, List.drop_zero, List.take_succ_cons, List.take_zero]
            repeat (go_big_quiet_step (fail))
            refine wpQuiet_nil ?_
            refine wpAny_one (i := 2) (fuel := 4) (by kernel_rfl) rfl (fun KK hKK => ?_)
            go_simp
            refine hKK _ _ ?_
            clear hKK KK
            refine wpAny_next 3 1 3 (by kernel_rfl) (fun _ _ d _ _ h => by cases d <;> exact h) ?_
            simp only [List.drop_succ_cons, List.drop_zero, List.take_succ_cons, List.take_zero]
            repeat (go_big_quiet_step (fail))
            refine wpQuiet_nil ?_
            refine wpAny_one (i := 8) (fuel := 2) (by kernel_rfl) rfl (fun KK hKK => ?_)
            go_simp
            refine Calls.mono (HFO.out _ _ _ ?_ ?_) ?_
            · exact fun _ => rfl
            · rfl
            rintro e w1 ⟨B1, m1, c1, rfl, rfl, ho1, hb1⟩
            refine hKK _ _ ?_
            clear hKK KK
            refine wpAny_one (i := 13) (fuel := 1) (by kernel_rfl) rfl (fun KK hKK => ?_)
            go_simp
            refine Calls.mono (same_no _ _ _ _ _ _ (form (K : Int) pay) (bs.take (9 + L)) _ _ U ho1 (HXH.out _ _ (hb1.mono hU) ?_) ?_ H3.out) ?_
            · exact HM.out
            · unfold maxLen; omega
            rintro e w2 ⟨rfl, hq2⟩
            have hb2 : Below w.heap.size w w2 := hb1.trans (hq2.below _)
            have hc2 : w2.cell? ⟨b, off + 8, none⟩ = some (.int .u8 (K : Int)) := (hb2.cell (p := ⟨b, off + 8, none⟩) hbl).trans hc8
            refine hKK _ _ ?_
            clear hKK KK
            refine wpAny_next 14 1 0 (by kernel_rfl) (fun _ _ d _ _ h => by cases d <;> exact h) ?_
            simp only [List.drop_succ_cons, List.drop_zero, List.take_succ_cons, List.take_zero]
            repeat (go_big_quiet_step (fail))
            refine wpQuiet_nil ?_
            refine wpAny_done (by kernel_rfl) ?_ _
            go_wp2
            refine bodyPost_ret (results_tmp4 rfl _ _ _) rfl ?_
            exact ⟨_, _, _, rfl, Sh.nil _ _ _, hb2⟩
end Go.Proofs.Ythfhhgjjnpcmgaa
