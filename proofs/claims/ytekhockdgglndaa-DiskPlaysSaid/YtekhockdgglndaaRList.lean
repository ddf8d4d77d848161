/-
  CONTRACT OF the document's List.
-/
import Derived.Test.YtekhockdgglndaaRAppend
namespace Go.Proofs.Ytekhockdgglndaa
set_option linter.unusedVariables false
set_option linter.unusedSimpArgs false
open Go.RowKit

theorem rowA : RowT Try.prog 22 46 2 40 := RowT.mk (z := .agg #[.string ByteArray.empty, .slice none 0 0]) Try.underlying22 (by kernel_rfl) rfl (by omega)
/-- A name, and its file. -/
abbrev LF := ByteArray × RFl
def LF.cells (q : LF) : List Value := [.string q.1, .slice q.2.A q.2.n q.2.c]
def lfcells (l : List LF) : List Value := l.flatMap LF.cells
theorem lfcells_snoc (l : List LF) (q : LF) : lfcells (l ++ [q]) = lfcells l ++ q.cells := by simp [lfcells]
theorem lfcells_at {l : List LF} {j : Nat} {q : LF} (h : l[j]? = some q) : (lfcells l)[j * 2]? = some (.string q.1) ∧ (lfcells l)[j * 2 + 1]? = some (.slice q.2.A q.2.n q.2.c) := by
  induction l generalizing j with
  | nil => simp at h
  | cons p l ih =>
    have e : lfcells (p :: l) = .string p.1 :: .slice p.2.A p.2.n p.2.c :: lfcells l := by simp [lfcells, LF.cells]
    cases j with
    | zero => cases h; rw [e]; exact ⟨rfl, rfl⟩
    | succ j =>
      have := ih (j := j) (by simpa using h)
      rw [e, show (j + 1) * 2 = j * 2 + 1 + 1 by omega]
      simpa using this
/-- The files with names. -/
def fileAt (l : List RFl) (i : Nat) : RFl := match l[i]? with | some f => f | none => ⟨none, 0, 0, [], 0⟩
theorem fileAt_of {l : List RFl} {i : Nat} {f : RFl} (h : l[i]? = some f) : fileAt l i = f := by simp [fileAt, h]
def RS.list (R : RS) : List LF := R.now.map fun q => (q.1, fileAt R.files q.2)
theorem list_next {R : RS} {k : Nat} {q : RE} (h : R.now[k]? = some q) : R.list.take (k + 1) = R.list.take k ++ [(q.1, fileAt R.files q.2)] := by
  unfold RS.list
  rw [← List.map_take, take_more h, List.map_append, List.map_take]
  rfl

set_option maxRecDepth 10000 in
set_option maxHeartbeats 1600000 in
theorem rlist_any (X : Nat → Prop) (x : Nat) (V : RL) (R : RS) (w : World) (h : RAt w X x V R) (hn : R.now.length ≤ 900) (hp : ∀ q ∈ R.now, q.2 < R.files.length) :
    Calls Try.prog 43 #[.pointer (some ⟨x, 0, none⟩)] w fun e w' => ∃ v, e = .returned v ∧ Own w' w.heap.size 46 2 v R.now.length (lfcells R.list) ∧ Below w.heap.size w w' := by
  obtain ⟨n, hnn⟩ : ∃ n, n = R.now.length := ⟨_, rfl⟩
  obtain ⟨nf, hnf⟩ : ∃ nf, nf = R.files.length := ⟨_, rfl⟩
  have c1 : w.cell? ⟨x, 1, none⟩ = some (.slice V.nA n V.nc) := by rw [hnn]; exact h.cell 1
  rw [← hnn] at hn ⊢
  have HN := Lib.hid hnn
  have HNF := Lib.hid hnf
  have H := Lib.hid h
  have HP := Lib.hid hp
  have hxl : x < w.heap.size := h.lt
  have HC1 : Hid (∀ w', Below w.heap.size w w' → w'.cell? ⟨x, 1, none⟩ = some (.slice V.nA n V.nc)) := Lib.hid fun w' b => (b.cell (p := ⟨x, 1, none⟩) hxl).trans c1
  clear h hp hnn hnf
  go_enter Try.func43, Try.ntmps43
  go_wp2
  go_loopw [3, 4] (fun v i wr => ∃ k : Nat, k ≤ n ∧ i = .int .i64 k ∧ Own wr w.heap.size 46 2 v k (lfcells (R.list.take k)) ∧ Below w.heap.size w wr) (fun _ i _ => n - (intOf i).toNat)
  case atStart => exact ⟨0, Nat.zero_le _, rfl, Own.nil _ _ _ _ (Nat.le_refl _), Below.refl _ _⟩
  case round =>
    obtain ⟨k, hk, rfl, ho, hb⟩ := hrel
    have e1 := HC1.out wr hb
    by_cases hlt : k < n
    · obtain ⟨q, hq⟩ : ∃ q, R.now[k]? = some q := ⟨_, List.getElem?_eq_getElem (by rw [← HN.out]; exact hlt)⟩
      have hqf := HP.out q (List.mem_of_getElem? hq)
      obtain ⟨f, hf⟩ : ∃ f, R.files[q.2]? = some f := ⟨_, List.getElem?_eq_getElem hqf⟩
      have HX := Lib.hid (list_next (R := R) hq)
      rw [fileAt_of hf] at HX
      obtain ⟨b, off, hA, _, d0, d1⟩ := NX.at H.out.nr.sh rfl hq
      obtain ⟨b2, off2, hA2, d2, _⟩ := H.out.file hf
      rw [← HNF.out] at hqf
      obtain ⟨i, hi⟩ : ∃ i, i = q.2 := ⟨_, rfl⟩
      rw [← hi] at d1 d2 hqf
      have hS : ∀ w', Below w.heap.size w w' → w'.cell? ⟨x, 0, none⟩ = some (.slice (some ⟨b2, off2, none⟩) nf V.fc) ∧ w'.cell? ⟨x, 1, none⟩ = some (.slice (some ⟨b, off, none⟩) n V.nc) ∧ w'.cell? ⟨b, off + k * 2, none⟩ = some (.string q.1) ∧ w'.cell? ⟨b, off + k * 2 + 1, none⟩ = some (.int .i64 (i : Int)) ∧ w'.cell? ⟨b2, off2 + i * 2, none⟩ = some (.slice f.A f.n f.c) := fun w' b' =>
        ⟨(b'.cell (p := ⟨x, 0, none⟩) hxl).trans (by rw [← hA2, HNF.out]; exact H.out.cell 0), by rw [← hA]; exact HC1.out w' b',
          (b'.cell (p := ⟨b, _, none⟩) (World.block_lt_of_cell? _ _ d0)).trans d0, (b'.cell (p := ⟨b, _, none⟩) (World.block_lt_of_cell? _ _ d1)).trans d1, (b'.cell (p := ⟨b2, _, none⟩) (World.block_lt_of_cell? _ _ d2)).trans d2⟩
      rw [hA] at e1
      obtain ⟨S, hSd⟩ : ∃ S : World → Prop, S = fun w' => w'.cell? ⟨x, 0, none⟩ = some (.slice (some ⟨b2, off2, none⟩) nf V.fc) ∧ w'.cell? ⟨x, 1, none⟩ = some (.slice (some ⟨b, off, none⟩) n V.nc) ∧ w'.cell? ⟨b, off + k * 2, none⟩ = some (.string q.1) ∧ w'.cell? ⟨b, off + k * 2 + 1, none⟩ = some (.int .i64 (i : Int)) ∧ w'.cell? ⟨b2, off2 + i * 2, none⟩ = some (.slice f.A f.n f.c) := ⟨_, rfl⟩
      have HS : Hid (∀ w', Below w.heap.size w w' → S w') := Lib.hid (by rw [hSd]; exact hS)
      have hSF : ∀ w', S w' → w'.cell? ⟨x, 0, none⟩ = some (.slice (some ⟨b2, off2, none⟩) nf V.fc) ∧ w'.cell? ⟨x, 1, none⟩ = some (.slice (some ⟨b, off, none⟩) n V.nc) ∧ w'.cell? ⟨b, off + k * 2, none⟩ = some (.string q.1) ∧ w'.cell? ⟨b, off + k * 2 + 1, none⟩ = some (.int .i64 (i : Int)) ∧ w'.cell? ⟨b2, off2 + i * 2, none⟩ = some (.slice f.A f.n f.c) := by rw [hSd]; exact fun w' h => h
      have s0 : ∀ s : SW S, s.w.cell? ⟨x, 0, none⟩ = some (.slice (some ⟨b2, off2, none⟩) nf V.fc) := fun s => (hSF _ s.h).1
      have s1 : ∀ s : SW S, s.w.cell? ⟨x, 1, none⟩ = some (.slice (some ⟨b, off, none⟩) n V.nc) := fun s => (hSF _ s.h).2.1
      have s2 : ∀ s : SW S, s.w.cell? ⟨b, off + k * 2, none⟩ = some (.string q.1) := fun s => (hSF _ s.h).2.2.1
      have s3 : ∀ s : SW S, s.w.cell? ⟨b, off + k * 2 + 1, none⟩ = some (.int .i64 (i : Int)) := fun s => (hSF _ s.h).2.2.2.1
      have s4 : ∀ s : SW S, s.w.cell? ⟨b2, off2 + i * 2, none⟩ = some (.slice f.A f.n f.c) := fun s => (hSF _ s.h).2.2.2.2
      have HBD := Lib.hid (hb.trans ((below_drewR wr.heap.size wr).mono hb.size))
      have hS0 := HS.out wr.drew HBD.out
      have hS1 := HS.out _ (HBD.out.alloc HBD.out.size (.cells #[.string q.1, .slice f.A f.n f.c] 46))
      have hkn : (k : Int) < (n : Int) := by omega
      have hif : (i : Int) < (nf : Int) := by omega
      have HO := Lib.hid ho.drew
      have HB := Lib.hid hb
      clear hS hSd hSF hA hA2 hq hf hi d0 d1 d2 c1 ho hb
      go_wp2
      refine regionL_start (by kernel_rfl) 28 rfl S 27 ?_
      refine wpL_next 0 24 4 (by kernel_rfl) (fun _ _ d _ _ h => by cases d <;> exact h) hS0 (fun hne => ?_)
      simp only [List.drop_succ_cons, List.drop_zero, List.take_succ_cons, List.take_zero]
      repeat (go_big_quiet_step (fail))
      refine wpQuiet_nil ?_
      refine wpL_one (i := 24) (fuel := 3) (by kernel_rfl) rfl (fun KK hKK => ?_)
      go_simp
      refine hKK _ _ hS0 ?_
      clear hKK KK
      refine wpL_one (i := 25) (fuel := 2) (by kernel_rfl) rfl (fun KK hKK => ?_)
      go_simp
      refine hKK _ _ hS1 ?_
      clear hKK KK
      refine wpL_one (i := 26) (fuel := 1) (by kernel_rfl) rfl (fun KK hKK => ?_)
      refine step_push_g rfl (.tmp 14) (.tmp 39) 22 rfl rowA wr.drew w.heap.size _ k (lfcells (R.list.take k)) [.string q.1, .slice f.A f.n f.c] rfl HO.out rfl rfl rfl (by intro z hz; simp at hz; rcases hz with rfl | rfl <;> rfl) (by omega) (by omega) ?_
      intro v2 w2 ho2 hg2
      have hb2 := ((HBD.out.alloc HBD.out.size _).grown hg2 (by have := HB.out.size; simp; omega) HO.out.block_ge)
      refine hKK _ _ (HS.out w2 hb2) ?_
      clear hKK KK
      refine wpL_last (fuel := 0) (by kernel_rfl) (by kernel_rfl) rfl (fun KK hKK => ?_)
      go_simp
      refine hKK _ _ ?_
      clear hKK KK
      go_wp2
      go_roundw
      case rel => exact ⟨k + 1, by omega, by go_num, by rw [HX.out, lfcells_snoc]; exact ho2, hb2⟩
      case measure => simp [intOf]; omega
    · obtain rfl : k = n := by omega
      have HT : Hid (R.list.take k = R.list) := Lib.hid (List.take_of_length_le (by rw [HN.out]; simp [RS.list]))
      rw [HT.out] at ho
      go_wp2
      go_ret
      exact ⟨_, rfl, ho, hb⟩
end Go.Proofs.Ytekhockdgglndaa
