/-
  CONTRACT OF the document's Rename.
-/
import Derived.Test.YtekhockdgglndaaRRemove
import Derived.Test.YtekhockdgglndaaDName
namespace Go.Proofs.Ytekhockdgglndaa
set_option linter.unusedVariables false
set_option linter.unusedSimpArgs false
open Go.RowKit

/-- What Rename answers, and what it leaves. -/
def RS.rename (R : RS) (s t : ByteArray) : Int × RS :=
  if R.begun.1 = 0 then
    if rfind R.begun.2.now s < 0 then (6, R.begun.2) else if nameB t.data.toList = true then (0, R.begun.2.turned ⟨s, t, -1⟩) else (1, R.begun.2)
  else R.begun

set_option maxRecDepth 10000 in
set_option maxHeartbeats 800000 in
theorem rrename_any (X : Nat → Prop) (x : Nat) (V : RL) (R : RS) (s t : ByteArray) (w : World) (h : RAt w X x V R) (hc : R.calls ≤ 1000000) (hf : R.fuse ≤ 1099511627776) (hg : R.fault ≤ 1099511627776)
    (hn : R.now.length ≤ 800) (hwl : R.waits.length ≤ 1000) (ht : t.size ≤ maxLen) :
    Calls Try.prog 33 #[.pointer (some ⟨x, 0, none⟩), .string s, .string t] w (RTo X x w (R.rename s t)) := by
  have HB := Lib.hid (rbegin_any X x V R w h hc hf hg)
  obtain ⟨en, _, _, ew, _⟩ := R.begun_now
  obtain ⟨B, hB⟩ : ∃ B, R.begun = B := ⟨_, rfl⟩
  rw [hB] at HB en ew
  obtain ⟨a, R2⟩ := B
  simp only at en ew
  rw [← en] at hn
  rw [← ew] at hwl
  clear h en ew
  by_cases ha : a = 0
  · subst ha
    obtain ⟨r, hr⟩ : ∃ r, rfind R2.now s = r := ⟨_, rfl⟩
    by_cases hneg : r < 0
    · have HR : Hid (R.rename s t = (6, R2)) := Lib.hid (by simp [RS.rename, hB, hr, hneg])
      rw [HR.out]
      have HRF := Lib.hid hr
      clear hB hr
      go_enter Try.func33, Try.ntmps33
      go_wp2_with (first
        | (go_at_call 56; refine HB.out.mono ?_; rintro e w1 ⟨rfl, h1, g1⟩; have c1 : w1.cell? ⟨x, 1, none⟩ = some (.slice V.nA R2.now.length V.nc) := h1.cell 1; have H1 := Lib.hid h1; clear h1)
        | (go_at_call 25; refine (find_any (out X x) V.nA R2.now.length V.nc R2.now s w1 rfl (by omega) H1.out.nr.sh).mono ?_; rw [HRF.out]; rintro e w' ⟨rfl, rfl⟩)
        | fail)
      go_ret
      exact ⟨rfl, ⟨_, H1.out.widen w⟩, g1⟩
    · obtain ⟨g, hgn⟩ : ∃ g, nameB t.data.toList = g := ⟨_, rfl⟩
      have HN := Lib.hid hgn
      have HRF := Lib.hid hr
      cases g
      · have HR : Hid (R.rename s t = (1, R2)) := Lib.hid (by simp [RS.rename, hB, hr, hneg, hgn])
        rw [HR.out]
        clear hB hr hgn
        go_enter Try.func33, Try.ntmps33
        go_wp2_with (first
          | (go_at_call 56; refine HB.out.mono ?_; rintro e w1 ⟨rfl, h1, g1⟩; have c1 : w1.cell? ⟨x, 1, none⟩ = some (.slice V.nA R2.now.length V.nc) := h1.cell 1; have H1 := Lib.hid h1; clear h1)
          | (go_at_call 25; refine (find_any (out X x) V.nA R2.now.length V.nc R2.now s w1 rfl (by omega) H1.out.nr.sh).mono ?_; rw [HRF.out]; rintro e w' ⟨rfl, rfl⟩)
          | (go_at_call 15; refine (refName_any t w1 ht).mono ?_; rw [HN.out]; rintro e w' ⟨rfl, rfl⟩)
          | fail)
        go_ret
        exact ⟨rfl, ⟨_, H1.out.widen w⟩, g1⟩
      · have HR : Hid (R.rename s t = (0, R2.turned ⟨s, t, -1⟩)) := Lib.hid (by simp [RS.rename, hB, hr, hneg, hgn])
        rw [HR.out]
        clear hB hr hgn
        go_enter Try.func33, Try.ntmps33
        go_wp2_with (first
          | (go_at_call 56; refine HB.out.mono ?_; rintro e w1 ⟨rfl, h1, g1⟩; have c1 : w1.cell? ⟨x, 1, none⟩ = some (.slice V.nA R2.now.length V.nc) := h1.cell 1; have H1 := Lib.hid h1; clear h1)
          | (go_at_call 25; refine (find_any (out X x) V.nA R2.now.length V.nc R2.now s w1 rfl (by omega) H1.out.nr.sh).mono ?_; rw [HRF.out]; rintro e w' ⟨rfl, rfl⟩)
          | (go_at_call 15; refine (refName_any t w1 ht).mono ?_; rw [HN.out]; rintro e w' ⟨rfl, rfl⟩)
          | (go_at_call 57; refine (rturn_to X x V R2 ⟨s, t, -1⟩ w w1 g1 H1.out hn hwl).mono ?_; rintro e w2 ⟨rfl, H2⟩)
          | fail)
        go_ret
        exact ⟨rfl, H2.out.1, H2.out.2⟩
  · have hne : (a != 0) = true := by simpa using ha
    have HR : Hid (R.rename s t = (a, R2)) := Lib.hid (by simp [RS.rename, hB, ha])
    rw [HR.out]
    clear hB ha
    go_enter Try.func33, Try.ntmps33
    go_wp2_with (first
      | (go_at_call 56; refine HB.out.mono ?_; rintro e w1 ⟨rfl, h1, g1⟩)
      | fail)
    go_ret
    exact ⟨rfl, ⟨_, h1.widen w⟩, g1⟩
end Go.Proofs.Ytekhockdgglndaa
