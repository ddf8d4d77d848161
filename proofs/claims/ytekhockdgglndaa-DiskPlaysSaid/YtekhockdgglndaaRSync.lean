/-
  CONTRACT OF the document's Sync.
-/
import Derived.Test.YtekhockdgglndaaRUsed
namespace Go.Proofs.Ytekhockdgglndaa
set_option linter.unusedVariables false
set_option linter.unusedSimpArgs false
open Go.RowKit

def RS.setFile (R : RS) (i : Nat) (f : RFl) : RS := { R with files := R.files.set i f }
/-- What Sync answers, and what it leaves. -/
def RS.syncd (R : RS) (s : ByteArray) : Int × RS :=
  if R.begun.1 = 0 then
    if rfind R.begun.2.now s < 0 then (6, R.begun.2)
    else match R.begun.2.files[(rfind R.begun.2.now s).toNat]? with
      | some f => (0, R.begun.2.setFile (rfind R.begun.2.now s).toNat { f with sure := f.n })
      | none => (0, R.begun.2)
  else R.begun
theorem RS.begun_now (R : RS) : R.begun.2.now = R.now ∧ R.begun.2.files = R.files ∧ R.begun.2.sure = R.sure ∧ R.begun.2.waits = R.waits ∧ R.begun.2.cap = R.cap ∧ R.begun.2.e = R.e := by
  unfold RS.begun
  split
  · exact ⟨rfl, rfl, rfl, rfl, rfl, rfl⟩
  · split
    · exact ⟨rfl, rfl, rfl, rfl, rfl, rfl⟩
    · split <;> exact ⟨rfl, rfl, rfl, rfl, rfl, rfl⟩

theorem grownx_drew {a b : World} {x : Nat} (h : a.drew.grownBy b (some x)) : a.grownBy b (some x) := ⟨h.os, h.tape, h.output, h.size, h.block⟩
theorem RAt.narrow {w w1 w' : World} {X : Nat → Prop} {x : Nat} {V : RL} {R : RS} (h : RAt w' (wid X w1 w') x V R) (hs : w.heap.size ≤ w1.heap.size) : RAt w' (wid X w w') x V R :=
  h.more (fun b hb => hb.elim .inl fun hb => .inr ⟨Nat.le_trans hs hb.1, hb.2⟩) fun b hb => hb.elim (fun hb => h.old b (.inl hb)) fun hb => hb.2

set_option maxRecDepth 10000 in
set_option maxHeartbeats 1600000 in
theorem rsync_any (X : Nat → Prop) (x : Nat) (V : RL) (R : RS) (s : ByteArray) (w : World) (h : RAt w X x V R) (hc : R.calls ≤ 1000000) (hf : R.fuse ≤ 1099511627776) (hg : R.fault ≤ 1099511627776)
    (hn : R.now.length ≤ 900) (hnf : R.files.length ≤ 900) (hp : ∀ q ∈ R.now, q.2 < R.files.length) :
    Calls Try.prog 29 #[.pointer (some ⟨x, 0, none⟩), .string s] w (RTo X x w (R.syncd s)) := by
  have HB := Lib.hid (rbegin_any X x V R w h hc hf hg)
  obtain ⟨en, ef, _⟩ := R.begun_now
  obtain ⟨B, hB⟩ : ∃ B, R.begun = B := ⟨_, rfl⟩
  rw [hB] at HB en ef
  obtain ⟨a, R2⟩ := B
  simp only at en ef
  rw [← en] at hn hp
  rw [← ef] at hnf hp
  clear h en ef
  by_cases ha : a = 0
  · subst ha
    obtain ⟨r, hr⟩ : ∃ r, rfind R2.now s = r := ⟨_, rfl⟩
    by_cases hneg : r < 0
    · have HR : Hid (R.syncd s = (6, R2)) := Lib.hid (by simp [RS.syncd, hB, hr, hneg])
      rw [HR.out]
      have HRF := Lib.hid hr
      clear hB hr
      go_enter Try.func29, Try.ntmps29
      go_wp2_with (first
        | (go_at_call 56; refine HB.out.mono ?_; rintro e w1 ⟨rfl, h1, g1⟩; have c1 : w1.cell? ⟨x, 1, none⟩ = some (.slice V.nA R2.now.length V.nc) := h1.cell 1; have H1 := Lib.hid h1; clear h1)
        | (go_at_call 25; refine (find_any (out X x) V.nA R2.now.length V.nc R2.now s w1 rfl (by omega) H1.out.nr.sh).mono ?_; rw [HRF.out]; rintro e w' ⟨rfl, rfl⟩)
        | fail)
      go_ret
      exact ⟨rfl, ⟨_, H1.out.widen w⟩, g1⟩
    · obtain ⟨q, hq, e⟩ := rfind_mem (by rw [hr]; exact hneg)
      rw [hr] at e
      have hlt := hp q hq
      obtain ⟨f, hf⟩ : ∃ f, R2.files[q.2]? = some f := ⟨_, List.getElem?_eq_getElem hlt⟩
      have HR : Hid (R.syncd s = (0, R2.setFile q.2 { f with sure := f.n })) := Lib.hid (by simp [RS.syncd, hB, hr, hneg, e, hf])
      have HM : Hid (f ∈ R2.files) := Lib.hid (List.mem_of_getElem? hf)
      rw [HR.out]
      subst e
      have HRF := Lib.hid hr
      have HFF := Lib.hid hf
      obtain ⟨i, hi⟩ : ∃ i, i = q.2 := ⟨_, rfl⟩
      rw [← hi] at HRF HFF hlt ⊢
      obtain ⟨nf, hnn⟩ : ∃ nf, nf = R2.files.length := ⟨_, rfl⟩
      rw [← hnn] at hlt hnf
      have HNN := Lib.hid hnn
      clear hB hr hf hneg hi hnn
      go_enter Try.func29, Try.ntmps29
      go_wp2_with (first
        | (go_at_call 56; refine HB.out.mono ?_; rintro e w1 ⟨rfl, h1, g1⟩; have c1 : w1.cell? ⟨x, 1, none⟩ = some (.slice V.nA R2.now.length V.nc) := h1.cell 1; have H1 := Lib.hid h1; clear h1)
        | (go_at_call 25; refine (find_any (out X x) V.nA R2.now.length V.nc R2.now s w1 rfl (by omega) H1.out.nr.sh).mono ?_; rw [HRF.out]; rintro e w' ⟨rfl, rfl⟩)
        | fail)
      obtain ⟨b, off, hA, d0, d1⟩ := H1.out.file HFF.out
      have c0 : w1.drew.cell? ⟨x, 0, none⟩ = some (.slice (some ⟨b, off, none⟩) nf V.fc) := by rw [← hA, HNN.out]; exact H1.out.cell 0
      have d0 : w1.drew.cell? ⟨b, off + i * 2, none⟩ = some (.slice f.A f.n f.c) := d0
      have HW : Hid (Calls Try.prog 58 #[.pointer (some ⟨x, 0, none⟩), .int .i64 (i : Int), .agg #[.slice f.A f.n f.c, .int .i64 (f.n : Int)]] w1.drew fun e w' => e = .returned (.tuple #[]) ∧ (w'.cell? ⟨x, 0, none⟩).isSome = true ∧ Hid ((∃ V', RAt w' (wid X w1.drew w') x V' (R2.setFile i { f with sure := f.n })) ∧ w1.drew.grownBy w' (some x))) := Lib.hid (by
        have hfo := H1.out.drew.fo f HM.out
        refine (rwith_any X x V R2 i { f with sure := f.n } w1.drew H1.out.drew ⟨hfo.sh, hfo.le, hfo.cm, hfo.by_⟩ (by rw [← HNN.out]; exact hlt) (by rw [← HNN.out]; omega)).mono ?_
        rintro e w' ⟨he, ⟨A, c, h2⟩, g2⟩
        exact ⟨he, by rw [h2.cell 0]; rfl, Lib.hid ⟨⟨_, h2⟩, g2⟩⟩)
      have hif : (i : Int) < (nf : Int) := by omega
      clear hA d1 c1
      go_region_with (first
        | (go_at_call 58; refine HW.out.mono ?_; rintro e w2 ⟨rfl, k0, H2⟩)
        | fail)
      all_goals
        obtain ⟨⟨V', h2⟩, g2⟩ := H2.out
        go_wp2
        go_ret
        exact ⟨rfl, ⟨V', h2.narrow g1.size⟩, grownx_trans g1 (grownx_drew g2)⟩
  · have hne : (a != 0) = true := by simpa using ha
    have HR : Hid (R.syncd s = (a, R2)) := Lib.hid (by simp [RS.syncd, hB, ha])
    rw [HR.out]
    clear hB ha
    go_enter Try.func29, Try.ntmps29
    go_wp2_with (first
      | (go_at_call 56; refine HB.out.mono ?_; rintro e w1 ⟨rfl, h1, g1⟩)
      | fail)
    go_ret
    exact ⟨rfl, ⟨_, h1.widen w⟩, g1⟩
end Go.Proofs.Ytekhockdgglndaa
