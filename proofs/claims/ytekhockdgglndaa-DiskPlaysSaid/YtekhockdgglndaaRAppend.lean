/-
  CONTRACT OF the document's Append.
-/
import Derived.Test.YtekhockdgglndaaRCreate
import Derived.Test.YtekhockdgglndaaHeld
namespace Go.Proofs.Ytekhockdgglndaa
set_option linter.unusedVariables false
set_option linter.unusedSimpArgs false
open Go.RowKit

/-- What Append answers, and what it leaves; the new bytes lie at A, with room for c. -/
def RS.append (R : RS) (s : ByteArray) (b : List Int) (A : Option Addr) (c : Nat) : Int × RS :=
  if R.begun.1 = 0 then
    if rfind R.begun.2.now s < 0 then (6, R.begun.2)
    else if R.cap - (R.begun.2.used : Int) < (b.length : Int) then (8, R.begun.2)
    else match R.begun.2.files[(rfind R.begun.2.now s).toNat]? with
      | some f => (0, R.begun.2.setFile (rfind R.begun.2.now s).toNat ⟨A, f.n + b.length, c, f.data ++ b, f.sure⟩)
      | none => (0, R.begun.2)
  else R.begun
theorem by8_one' (l : List Int) : ∀ u ∈ by8 l, u.oneCell' = true := by
  intro u hu
  obtain ⟨y, _, rfl⟩ := List.mem_map.1 hu
  rfl

set_option maxRecDepth 10000 in
set_option maxHeartbeats 3200000 in
theorem rappend_any (X : Nat → Prop) (x : Nat) (V : RL) (R : RS) (s : ByteArray) (w : World) (h : RAt w X x V R) (hc : R.calls ≤ 1000000) (hf : R.fuse ≤ 1099511627776) (hg : R.fault ≤ 1099511627776)
    (hn : R.now.length ≤ 900) (hnf : R.files.length ≤ 900) (hp : ∀ q ∈ R.now, q.2 < R.files.length) (hb : ∀ f ∈ R.files, f.n ≤ 1100000) (hcap : 0 ≤ R.cap ∧ R.cap ≤ 1048576)
    (A : Option Addr) (n c : Nat) (b : List Int) (hx : SX w (out X x) A n 1 (by8 b)) (hbr : ∀ y ∈ b, 0 ≤ y ∧ y < 256) (hnm : n ≤ 1000000) :
    Calls Try.prog 28 #[.pointer (some ⟨x, 0, none⟩), .string s, .slice A n c] w fun e w' => ∃ A' c', RTo X x w (R.append s b A' c') e w' := by
  have HB := Lib.hid (rbegin_any X x V R w h hc hf hg)
  have HXX := Lib.hid (fun (w' : World) (g : w.grownBy w' (some x)) => hx.stay fun k hk => g.block k (h.old k hk.1) (fun e => hk.2 (by injection e)))
  have hbl : b.length = n := by have := hx.1; rw [by8_len] at this; omega
  obtain ⟨en, ef, _, _, ec, _⟩ := R.begun_now
  obtain ⟨B, hB⟩ : ∃ B, R.begun = B := ⟨_, rfl⟩
  rw [hB] at HB en ef ec
  obtain ⟨a, R2⟩ := B
  simp only at en ef ec
  rw [← en] at hn hp
  rw [← ef] at hnf hp hb
  have HBE := Lib.hid hb
  clear h en ef hx hb
  by_cases ha : a = 0
  · subst ha
    obtain ⟨r, hr⟩ : ∃ r, rfind R2.now s = r := ⟨_, rfl⟩
    by_cases hneg : r < 0
    · have HR : Hid (∀ A' c', R.append s b A' c' = (6, R2)) := Lib.hid (fun A' c' => by simp [RS.append, hB, hr, hneg])
      have HRF := Lib.hid hr
      clear hB hr
      go_enter Try.func28, Try.ntmps28
      go_wp2_with (first
        | (go_at_call 56; refine HB.out.mono ?_; rintro e w1 ⟨rfl, h1, g1⟩; have c1 : w1.cell? ⟨x, 1, none⟩ = some (.slice V.nA R2.now.length V.nc) := h1.cell 1; have H1 := Lib.hid h1; clear h1)
        | (go_at_call 25; refine (find_any (out X x) V.nA R2.now.length V.nc R2.now s w1 rfl (by omega) H1.out.nr.sh).mono ?_; rw [HRF.out]; rintro e w' ⟨rfl, rfl⟩)
        | fail)
      go_ret
      exact ⟨none, 0, by rw [HR.out]; exact ⟨rfl, ⟨_, H1.out.widen w⟩, g1⟩⟩
    · obtain ⟨q, hq, e⟩ := rfind_mem (by rw [hr]; exact hneg)
      rw [hr] at e
      have hlt := hp q hq
      obtain ⟨f, hf⟩ : ∃ f, R2.files[q.2]? = some f := ⟨_, List.getElem?_eq_getElem hlt⟩
      obtain ⟨u, hu⟩ : ∃ u, u = R2.used := ⟨_, rfl⟩
      have hub : u ≤ 990000000 := by
        have := usedOf_le HBE.out R2.now
        rw [hu]
        unfold RS.used
        omega
      have HU : Hid (∀ w1, RAt w1 X x V R2 → Calls Try.prog 44 #[.pointer (some ⟨x, 0, none⟩)] w1 fun e w' => e = .returned (.int .i64 (u : Nat)) ∧ Quiet w1 w') := Lib.hid fun w1 h1 => by
        rw [hu]
        exact rused_any X x V R2 w1 h1 hn hp HBE.out
      have HCP : Hid (R2.cap = R.cap) := Lib.hid ec
      subst e
      have HRF := Lib.hid hr
      have HFF := Lib.hid hf
      have HFN := Lib.hid (HBE.out f (List.mem_of_getElem? hf))
      have HM : Hid (f ∈ R2.files) := Lib.hid (List.mem_of_getElem? hf)
      have hwr : IntKind.i64.wrap (R.cap - (u : Int)) = R.cap - (u : Int) := IntWalk.i64_in _ (by omega)
      by_cases hfull : R.cap - (u : Int) < (n : Int)
      · have HR : Hid (∀ A' c', R.append s b A' c' = (8, R2)) := Lib.hid (fun A' c' => by simp only [RS.append, hB, hr, hneg, hbl, ← hu, hfull, if_true, if_false])
        have hdf : decide (R.cap - (u : Int) < (n : Int)) = true := by simpa using hfull
        clear hB hr hf hneg hu ec
        go_enter Try.func28, Try.ntmps28
        go_wp2_with (first
          | (go_at_call 56; refine HB.out.mono ?_; rintro e w1 ⟨rfl, h1, g1⟩; have c1 : w1.cell? ⟨x, 1, none⟩ = some (.slice V.nA R2.now.length V.nc) := h1.cell 1; have c4 : w1.cell? ⟨x, 4, none⟩ = some (.int .i64 R.cap) := (h1.cell 4).trans (by rw [← HCP.out]; rfl); have H1 := Lib.hid h1; clear h1)
          | (go_at_call 25; refine (find_any (out X x) V.nA R2.now.length V.nc R2.now s w1 rfl (by omega) H1.out.nr.sh).mono ?_; rw [HRF.out]; rintro e w' ⟨rfl, rfl⟩)
          | fail)
        go_quiet ((go_at_call 44; exact Calls.quiet_of (HU.out _ (H1.out.quiet (Quiet.one _ _)))))
        go_wp2
        go_ret
        exact ⟨none, 0, by rw [HR.out]; exact ⟨rfl, ⟨_, (H1.out.quiet (Quiet.one _ _)).widen w⟩, grownx_below g1 ((Quiet.one _ _).below _)⟩⟩
      · obtain ⟨i, hi⟩ : ∃ i, i = q.2 := ⟨_, rfl⟩
        have HR : Hid (∀ A' c', R.append s b A' c' = (0, R2.setFile i ⟨A', f.n + n, c', f.data ++ b, f.sure⟩)) := Lib.hid (fun A' c' => by simp only [RS.append, hB, hr, hneg, hbl, ← hu, hfull, if_true, if_false, Int.toNat_natCast, hf, hi])
        have hdf : decide (R.cap - (u : Int) < (n : Int)) = false := by simpa using hfull
        rw [← hi] at HRF HFF hlt hneg
        obtain ⟨nf, hnn⟩ : ∃ nf, nf = R2.files.length := ⟨_, rfl⟩
        rw [← hnn] at hlt hnf
        have HNN := Lib.hid hnn
        clear hB hr hf hneg hu ec hi hnn
        go_enter Try.func28, Try.ntmps28
        go_wp2_with (first
          | (go_at_call 56; refine HB.out.mono ?_; rintro e w1 ⟨rfl, h1, g1⟩; have c1 : w1.cell? ⟨x, 1, none⟩ = some (.slice V.nA R2.now.length V.nc) := h1.cell 1; have c4 : w1.cell? ⟨x, 4, none⟩ = some (.int .i64 R.cap) := (h1.cell 4).trans (by rw [← HCP.out]; rfl); have H1 := Lib.hid h1; clear h1)
          | (go_at_call 25; refine (find_any (out X x) V.nA R2.now.length V.nc R2.now s w1 rfl (by omega) H1.out.nr.sh).mono ?_; rw [HRF.out]; rintro e w' ⟨rfl, rfl⟩)
          | fail)
        go_quiet ((go_at_call 44; exact Calls.quiet_of (HU.out _ (H1.out.quiet (Quiet.one _ _)))))
        have h2 := H1.out.quiet (Quiet.one w1 nq)
        have g2 := grownx_below g1 ((Quiet.one w1 nq).below _)
        clear c1 c4
        go_wp2_with fail
        obtain ⟨w2, hw2⟩ : ∃ w2, w2 = w1.drewN nq := ⟨_, rfl⟩
        rw [← hw2] at h2 g2 ⊢
        clear hw2
        obtain ⟨bb, off, hA2, d0, d1⟩ := h2.file HFF.out
        have c0 : w2.cell? ⟨x, 0, none⟩ = some (.slice (some ⟨bb, off, none⟩) nf V.fc) := by rw [← hA2, HNN.out]; exact h2.cell 0
        have hx2 := HXX.out w2 g2
        have hfo := h2.fo f HM.out
        have hfn := HFN.out
        have HFO := Lib.hid hfo
        have H2 := Lib.hid h2
        have G2 := Lib.hid g2
        have hxl : x < w2.heap.size := h2.lt
        have HK : Hid (∀ w', Below w2.heap.size w2 w' → w'.cell? ⟨x, 0, none⟩ = some (.slice (some ⟨bb, off, none⟩) nf V.fc) ∧ w'.cell? ⟨bb, off + i * 2, none⟩ = some (.slice f.A f.n f.c) ∧ w'.cell? ⟨bb, off + i * 2 + 1, none⟩ = some (.int .i64 (f.sure : Int))) := Lib.hid fun w' b' =>
          ⟨(b'.cell (p := ⟨x, 0, none⟩) hxl).trans c0, (b'.cell (p := ⟨bb, _, none⟩) (World.block_lt_of_cell? _ _ d0)).trans d0, (b'.cell (p := ⟨bb, _, none⟩) (World.block_lt_of_cell? _ _ d1)).trans d1⟩
        have HX2 : Hid (∀ w', Below w2.heap.size w2 w' → SX w' (out X x) A n 1 (by8 b)) := Lib.hid fun w' b' => hx2.stay fun k hk => b'.block k (h2.old k hk.1)
        have BA : Hid (Below w2.heap.size w2 (w2.drew.alloc (.cells #[] 5))) := Lib.hid ((below_drewR _ w2).trans ((Below.refl w2.heap.size w2.drew).alloc (Nat.le_refl _) _))
        have OA : Hid (Own (w2.drew.alloc (.cells #[] 5)) w2.heap.size 5 1 (.slice (some ⟨w2.heap.size, 0, none⟩) 0 0) 0 []) := Lib.hid (Own.empty w2.drew w2.heap.size 5 1 (Nat.le_refl _))
        have HS1 : Hid (SX (w2.drew.alloc (.cells #[] 5)) (out X x) f.A f.n 1 (by8 f.data)) := Lib.hid (hfo.sh.stay fun k hk => BA.out.block k (h2.old k hk.1))
        have hbx : bb ≠ x := by
          obtain ⟨b', off', e', hX', _⟩ := h2.fr.sh.2 (by rw [← HNN.out]; omega)
          rw [hA2] at e'
          cases e'
          exact hX'.2
        have HW : Hid (∀ w5 A5 c5, Below w2.heap.size w2 w5 → Own w5 w2.heap.size 5 1 (.slice A5 (f.n + n) c5) (f.n + n) (by8 f.data ++ by8 b) → Calls Try.prog 58 #[.pointer (some ⟨x, 0, none⟩), .int .i64 (i : Int), .agg #[.slice A5 (f.n + n) c5, .int .i64 (f.sure : Int)]] w5 fun e w' => e = .returned (.tuple #[]) ∧
            w'.cell? ⟨bb, off + i * 2, none⟩ = some (.slice f.A f.n f.c) ∧ w'.cell? ⟨bb, off + i * 2 + 1, none⟩ = some (.int .i64 (f.sure : Int)) ∧ Hid ((∃ V', RAt w' (wid X w w') x V' (R2.setFile i ⟨A5, f.n + n, c5, f.data ++ b, f.sure⟩)) ∧ w.grownBy w' (some x))) := Lib.hid fun w5 A5 c5 b5 o5 => by
          have h5 := h2.wider b5
          have hk5 := HK.out w5 b5
          refine (rwith_any (wid X w2 w5) x V R2 i ⟨A5, f.n + n, c5, f.data ++ b, f.sure⟩ w5 h5 ⟨?_, o5.cap.1, o5.cap.2, ?_⟩ (by rw [← HNN.out]; exact hlt) (by rw [← HNN.out]; omega)).mono ?_
          · exact SX.of_own (c := c5) (o5.cast rfl (by8_append _ _).symm) fun k k1 k2 => ⟨.inr ⟨k1, k2⟩, by omega⟩
          · intro y hy
            rcases List.mem_append.1 hy with hy | hy
            · exact HFO.out.by_ y hy
            · exact hbr y hy
          · rintro e w' ⟨he, ⟨A6, c6, h6⟩, g6⟩
            refine ⟨he, ?_, ?_, Lib.hid ⟨⟨_, (wid_wid h6 b5.size g6.size H2.out.old).narrow G2.out.size⟩, grownx_trans (grownx_below G2.out b5) g6⟩⟩
            · exact (World.cell?_of_block (w := w5) (a := ⟨bb, _, none⟩) (g6.block bb (World.block_lt_of_cell? _ _ hk5.2.1) (fun e => hbx (by injection e)))).trans hk5.2.1
            · exact (World.cell?_of_block (w := w5) (a := ⟨bb, _, none⟩) (g6.block bb (World.block_lt_of_cell? _ _ hk5.2.1) (fun e => hbx (by injection e)))).trans hk5.2.2
        have hif : (i : Int) < (nf : Int) := by omega
        clear hfo h2 g2 hx2 hA2 hbx HB HU
        obtain ⟨S, hSd⟩ : ∃ S : World → Prop, S = fun w' => w'.cell? ⟨x, 0, none⟩ = some (.slice (some ⟨bb, off, none⟩) nf V.fc) ∧ w'.cell? ⟨bb, off + i * 2, none⟩ = some (.slice f.A f.n f.c) ∧ w'.cell? ⟨bb, off + i * 2 + 1, none⟩ = some (.int .i64 (f.sure : Int)) := ⟨_, rfl⟩
        have HS : Hid (∀ w', Below w2.heap.size w2 w' → S w') := Lib.hid fun w' b' => by rw [hSd]; exact HK.out w' b'
        have hSF : ∀ w', S w' → w'.cell? ⟨x, 0, none⟩ = some (.slice (some ⟨bb, off, none⟩) nf V.fc) ∧ w'.cell? ⟨bb, off + i * 2, none⟩ = some (.slice f.A f.n f.c) ∧ w'.cell? ⟨bb, off + i * 2 + 1, none⟩ = some (.int .i64 (f.sure : Int)) := by rw [hSd]; exact fun w' h => h
        have s0 : ∀ s : SW S, s.w.cell? ⟨x, 0, none⟩ = some (.slice (some ⟨bb, off, none⟩) nf V.fc) := fun s => (hSF _ s.h).1
        have s1 : ∀ s : SW S, s.w.cell? ⟨bb, off + i * 2, none⟩ = some (.slice f.A f.n f.c) := fun s => (hSF _ s.h).2.1
        have s2 : ∀ s : SW S, s.w.cell? ⟨bb, off + i * 2 + 1, none⟩ = some (.int .i64 (f.sure : Int)) := fun s => (hSF _ s.h).2.2
        have hS0 : S w2.drew := HS.out _ (below_drewR _ w2)
        have hSA := HS.out _ BA.out
        clear hSd hSF c0 d0 d1
        refine regionL_start (by kernel_rfl) 24 rfl S 23 ?_
        refine wpL_next 0 2 22 (by kernel_rfl) (fun _ _ d _ _ h => by cases d <;> exact h) hS0 (fun hne => ?_)
        simp only [List.drop_succ_cons, List.drop_zero, List.take_succ_cons, List.take_zero]
        repeat (go_big_quiet_step (fail))
        refine wpQuiet_nil ?_
        refine wpL_next 3 8 14 (by kernel_rfl) (fun _ _ d _ _ h => by cases d <;> exact h) hS0 (fun hne => ?_)
        simp only [List.drop_succ_cons, List.drop_zero, List.take_succ_cons, List.take_zero]
        repeat (go_big_quiet_step (fail))
        refine wpQuiet_nil ?_
        refine wpL_next 12 1 13 (by kernel_rfl) (fun _ _ d _ _ h => by cases d <;> exact h) hS0 (fun hne => ?_)
        simp only [List.drop_succ_cons, List.drop_zero, List.take_succ_cons, List.take_zero]
        repeat (go_big_quiet_step (fail))
        refine wpQuiet_nil ?_
        refine wpL_next 14 8 5 (by kernel_rfl) (fun _ _ d _ _ h => by cases d <;> exact h) hS0 (fun hne => ?_)
        simp only [List.drop_succ_cons, List.drop_zero, List.take_succ_cons, List.take_zero]
        repeat (go_big_quiet_step (fail))
        refine wpQuiet_nil ?_
        refine wpL_one (i := 2) (fuel := 4) (by kernel_rfl) rfl (fun KK hKK => ?_)
        go_simp
        refine hKK _ _ hSA ?_
        clear hKK KK
        refine wpL_one (i := 11) (fuel := 3) (by kernel_rfl) rfl (fun KK hKK => ?_)
        refine step_more_s rfl (.tmp 34) (.tmp 42) 32 rfl rowB (w2.drew.alloc (.cells #[] 5)) w2.heap.size (.slice (some ⟨w2.heap.size, 0, none⟩) 0 0) 0 [] (by8 f.data) rfl OA.out (out X x) f.A f.n f.c rfl HS1.out (by8_one' _) (by omega) (by omega) ?_
        intro v4 w4 ho4 hg4
        have hb4 := BA.out.grown hg4 BA.out.size OA.out.block_ge
        have hS4 := HS.out w4 hb4
        have O4 := Lib.hid (ho4.cast (Nat.zero_add _) (List.nil_append _))
        have B4 := Lib.hid hb4
        clear ho4 hb4 hg4
        refine hKK _ _ hS4 ?_
        clear hKK KK
        refine wpL_one (i := 13) (fuel := 2) (by kernel_rfl) rfl (fun KK hKK => ?_)
        refine step_more_s rfl (.tmp 43) (.tmp 44) 32 rfl rowB w4 w2.heap.size _ f.n (by8 f.data) (by8 b) rfl O4.out (out X x) A n c rfl (HX2.out w4 B4.out) (by8_one' _) (by omega) (by omega) ?_
        intro v5 w5 ho5 hg5
        have hb5 := B4.out.grown hg5 B4.out.size O4.out.block_ge
        have hS0 := HS.out w5 hb5
        obtain ⟨A5, c5, rfl⟩ := ho5.form
        have O5 := Lib.hid ho5
        have B5 := Lib.hid hb5
        clear ho5 hb5 hg5
        refine hKK _ _ hS0 ?_
        clear hKK KK
        refine wpL_one (i := 22) (fuel := 1) (by kernel_rfl) rfl (fun KK hKK => ?_)
        go_simp
        refine hKK _ _ hS0 ?_
        clear hKK KK
        refine wpL_last (fuel := 0) (by kernel_rfl) (by kernel_rfl) rfl (fun KK hKK => ?_)
        go_simp
        refine (HW.out w5 A5 c5 B5.out O5.out).mono ?_
        rintro e w6 ⟨rfl, k0, k1, H6⟩
        refine hKK _ _ ?_
        clear hKK KK
        go_wp2
        go_ret
        exact ⟨A5, c5, by rw [HR.out]; exact ⟨rfl, H6.out.1, H6.out.2⟩⟩
  · have hne : (a != 0) = true := by simpa using ha
    have HR : Hid (∀ A' c', R.append s b A' c' = (a, R2)) := Lib.hid (fun A' c' => by simp [RS.append, hB, ha])
    clear hB ha
    go_enter Try.func28, Try.ntmps28
    go_wp2_with (first
      | (go_at_call 56; refine HB.out.mono ?_; rintro e w1 ⟨rfl, h1, g1⟩)
      | fail)
    go_ret
    exact ⟨none, 0, by rw [HR.out]; exact ⟨rfl, ⟨_, h1.widen w⟩, g1⟩⟩
end Go.Proofs.Ytekhockdgglndaa
