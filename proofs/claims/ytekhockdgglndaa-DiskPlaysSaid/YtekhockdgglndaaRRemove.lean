/-
  CONTRACTS OF the document's Remove, SetFault.
-/
import Derived.Test.YtekhockdgglndaaRTurn2
import Derived.Test.YtekhockdgglndaaRSync
namespace Go.Proofs.Ytekhockdgglndaa
set_option linter.unusedVariables false
set_option linter.unusedSimpArgs false
open Go.RowKit

/-- A turn more. -/
def RS.turned (R : RS) (t : RT) : RS := { R with now := rdo R.now t, waits := R.waits ++ [t] }
/-- What Remove answers, and what it leaves. -/
def RS.remove (R : RS) (s : ByteArray) : Int × RS :=
  if R.begun.1 = 0 then
    if rfind R.begun.2.now s < 0 then (6, R.begun.2) else (0, R.begun.2.turned ⟨s, ByteArray.empty, -1⟩)
  else R.begun
theorem rturn_to (X : Nat → Prop) (x : Nat) (V : RL) (R : RS) (t : RT) (w0 w : World) (g : w0.grownBy w (some x)) (h : RAt w X x V R) (hn : R.now.length ≤ 800) (hwl : R.waits.length ≤ 1000) :
    Calls Try.prog 57 #[.pointer (some ⟨x, 0, none⟩), .agg #[.string t.fr, .string t.to, .int .i64 t.file]] w fun e w' => e = .returned (.tuple #[]) ∧ Hid ((∃ V', RAt w' (wid X w0 w') x V' (R.turned t)) ∧ w0.grownBy w' (some x)) :=
  (rturn_any X x V R t w h hn hwl).mono fun e w' ⟨he, ⟨V', h2⟩, g2⟩ => ⟨he, Lib.hid ⟨⟨V', h2.narrow g.size⟩, grownx_trans g g2⟩⟩

set_option maxRecDepth 10000 in
set_option maxHeartbeats 800000 in
theorem rremove_any (X : Nat → Prop) (x : Nat) (V : RL) (R : RS) (s : ByteArray) (w : World) (h : RAt w X x V R) (hc : R.calls ≤ 1000000) (hf : R.fuse ≤ 1099511627776) (hg : R.fault ≤ 1099511627776)
    (hn : R.now.length ≤ 800) (hwl : R.waits.length ≤ 1000) :
    Calls Try.prog 34 #[.pointer (some ⟨x, 0, none⟩), .string s] w (RTo X x w (R.remove s)) := by
  have HB := Lib.hid (rbegin_any X x V R w h hc hf hg)
  obtain ⟨en, _, _, ew, _⟩ := R.begun_now
  obtain ⟨B, hB⟩ : ∃ B, R.begun = B := ⟨_, rfl⟩
  rw [hB] at HB en ew
  obtain ⟨a, R2⟩ := B
  simp only at en ew
  rw [← en] at hn
  rw [← ew] at hwl
  clear h en ew
  by_cases ha : a = 0
  · subst ha
    obtain ⟨r, hr⟩ : ∃ r, rfind R2.now s = r := ⟨_, rfl⟩
    by_cases hneg : r < 0
    · have HR : Hid (R.remove s = (6, R2)) := Lib.hid (by simp [RS.remove, hB, hr, hneg])
      rw [HR.out]
      have HRF := Lib.hid hr
      clear hB hr
      go_enter Try.func34, Try.ntmps34
      go_wp2_with (first
        | (go_at_call 56; refine HB.out.mono ?_; rintro e w1 ⟨rfl, h1, g1⟩; have c1 : w1.cell? ⟨x, 1, none⟩ = some (.slice V.nA R2.now.length V.nc) := h1.cell 1; have H1 := Lib.hid h1; clear h1)
        | (go_at_call 25; refine (find_any (out X x) V.nA R2.now.length V.nc R2.now s w1 rfl (by omega) H1.out.nr.sh).mono ?_; rw [HRF.out]; rintro e w' ⟨rfl, rfl⟩)
        | fail)
      go_ret
      exact ⟨rfl, ⟨_, H1.out.widen w⟩, g1⟩
    · have HR : Hid (R.remove s = (0, R2.turned ⟨s, ByteArray.empty, -1⟩)) := Lib.hid (by simp [RS.remove, hB, hr, hneg])
      rw [HR.out]
      have HRF := Lib.hid hr
      clear hB hr
      go_enter Try.func34, Try.ntmps34
      go_wp2_with (first
        | (go_at_call 56; refine HB.out.mono ?_; rintro e w1 ⟨rfl, h1, g1⟩; have c1 : w1.cell? ⟨x, 1, none⟩ = some (.slice V.nA R2.now.length V.nc) := h1.cell 1; have H1 := Lib.hid h1; clear h1)
        | (go_at_call 25; refine (find_any (out X x) V.nA R2.now.length V.nc R2.now s w1 rfl (by omega) H1.out.nr.sh).mono ?_; rw [HRF.out]; rintro e w' ⟨rfl, rfl⟩)
        | (go_at_call 57; refine (rturn_to X x V R2 ⟨s, ByteArray.empty, -1⟩ w w1 g1 H1.out hn hwl).mono ?_; rintro e w2 ⟨rfl, H2⟩)
        | fail)
      go_ret
      exact ⟨rfl, H2.out.1, H2.out.2⟩
  · have hne : (a != 0) = true := by simpa using ha
    have HR : Hid (R.remove s = (a, R2)) := Lib.hid (by simp [RS.remove, hB, ha])
    rw [HR.out]
    clear hB ha
    go_enter Try.func34, Try.ntmps34
    go_wp2_with (first
      | (go_at_call 56; refine HB.out.mono ?_; rintro e w1 ⟨rfl, h1, g1⟩)
      | fail)
    go_ret
    exact ⟨rfl, ⟨_, h1.widen w⟩, g1⟩
end Go.Proofs.Ytekhockdgglndaa
