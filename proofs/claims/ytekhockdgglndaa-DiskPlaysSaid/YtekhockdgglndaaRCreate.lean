/-
  CONTRACT OF the document's Create.
-/
import Derived.Test.YtekhockdgglndaaRRename
namespace Go.Proofs.Ytekhockdgglndaa
set_option linter.unusedVariables false
set_option linter.unusedSimpArgs false
open Go.RowKit

/-- A file more, that is empty. -/
def RS.filed (R : RS) : RS := { R with files := R.files ++ [⟨none, 0, 0, [], 0⟩] }
/-- What Create answers, and what it leaves. -/
def RS.create (R : RS) (s : ByteArray) : Int × RS :=
  if R.begun.1 = 0 then
    if nameB s.data.toList = false then (1, R.begun.2)
    else if ¬ rfind R.begun.2.now s < 0 then (7, R.begun.2)
    else if 64 ≤ R.begun.2.now.length then (8, R.begun.2)
    else (0, R.begun.2.filed.turned ⟨ByteArray.empty, s, (R.begun.2.files.length : Int)⟩)
  else R.begun
theorem files_end {X : Nat → Prop} {x : Nat} {V : RL} {R : RS} {w w1 w5 : World} {A5 : Option Addr} {c5 : Nat} {e : TypeId} (H : RAt w1 X x V R) (G : w.grownBy w1 (some x)) (B : Below w1.heap.size w1 w5)
    (O : Own w5 w1.heap.size e 2 (.slice A5 (R.files.length + 1) c5) (R.files.length + 1) (fcells R.files ++ [.slice none 0 0, .int .i64 0])) :
    RAt (w5.setCell ⟨x, 0, none⟩ (.slice A5 (R.files.length + 1) c5)) (wid X w (w5.setCell ⟨x, 0, none⟩ (.slice A5 (R.files.length + 1) c5))) x { V with fA := A5, fc := c5 } R.filed ∧ w.grownBy (w5.setCell ⟨x, 0, none⟩ (.slice A5 (R.files.length + 1) c5)) (some x) := by
  have hlen : R.filed.files.length = R.files.length + 1 := by simp [RS.filed]
  have hx := H.lt
  have hs := G.size
  have h5 : RAt w5 (wid X w w5) x V R := (H.below B).more (fun b hb => .inl hb) (fun b hb => by
    rcases hb with hb | hb
    · have := H.old b hb
      have := B.size
      omega
    · exact hb.2)
  refine ⟨?_, grownx_set (grownx_below G B) 0 _⟩
  have key := RAt.widSet (w0 := w) (h5.setFiles (l := R.filed.files) (A := A5) (c := c5) ⟨?_, by rw [hlen]; exact O.cap.1, O.cap.2⟩ fun f hf => ?_)
  · rw [hlen] at key
    exact key
  · rw [hlen]
    refine SX.of_own (c := c5) (e := e) (O.cast rfl (by simp [RS.filed, fcells_snoc, RFl.cells])) fun k h1 h2 => ⟨.inr ⟨by omega, h2⟩, by omega⟩
  · rcases List.mem_append.1 hf with hf | hf
    · exact h5.fo f hf
    · simp at hf
      subst hf
      exact ⟨SX.nil _ _ _ _, Nat.le_refl 0, Nat.zero_le _, by simp⟩
theorem wid_wid {X : Nat → Prop} {x : Nat} {V : RL} {R : RS} {w w1 w' : World} (h : RAt w' (wid (wid X w w1) w1 w') x V R) (h0 : w.heap.size ≤ w1.heap.size) (h1 : w1.heap.size ≤ w'.heap.size) (ho : ∀ b, X b → b < w.heap.size) : RAt w' (wid X w w') x V R :=
  h.more (fun b hb => wid_trans h0 h1 hb) (wid_old ho (Nat.le_trans h0 h1))

set_option maxRecDepth 10000 in
set_option maxHeartbeats 1600000 in
theorem rcreate_any (X : Nat → Prop) (x : Nat) (V : RL) (R : RS) (s : ByteArray) (w : World) (h : RAt w X x V R) (hc : R.calls ≤ 1000000) (hf : R.fuse ≤ 1099511627776) (hg : R.fault ≤ 1099511627776)
    (hn : R.now.length ≤ 800) (hwl : R.waits.length ≤ 1000) (hfl : R.files.length ≤ 1000) (hs : s.size ≤ maxLen) :
    Calls Try.prog 27 #[.pointer (some ⟨x, 0, none⟩), .string s] w (RTo X x w (R.create s)) := by
  have HB := Lib.hid (rbegin_any X x V R w h hc hf hg)
  have HOLD := Lib.hid h.old
  obtain ⟨en, ef, _, ew, _⟩ := R.begun_now
  obtain ⟨B, hB⟩ : ∃ B, R.begun = B := ⟨_, rfl⟩
  rw [hB] at HB en ew ef
  obtain ⟨a, R2⟩ := B
  simp only at en ew ef
  rw [← en] at hn
  rw [← ew] at hwl
  rw [← ef] at hfl
  clear h en ew ef
  by_cases ha : a = 0
  · subst ha
    obtain ⟨g, hgn⟩ : ∃ g, nameB s.data.toList = g := ⟨_, rfl⟩
    have HN := Lib.hid hgn
    cases g
    · have HR : Hid (R.create s = (1, R2)) := Lib.hid (by simp [RS.create, hB, hgn])
      rw [HR.out]
      clear hB hgn
      go_enter Try.func27, Try.ntmps27
      go_wp2_with (first
        | (go_at_call 56; refine HB.out.mono ?_; rintro e w1 ⟨rfl, h1, g1⟩; have c1 : w1.cell? ⟨x, 1, none⟩ = some (.slice V.nA R2.now.length V.nc) := h1.cell 1; have H1 := Lib.hid h1; clear h1)
        | (go_at_call 15; refine (refName_any s w1 hs).mono ?_; rw [HN.out]; rintro e w' ⟨rfl, rfl⟩)
        | fail)
      go_ret
      exact ⟨rfl, ⟨_, H1.out.widen w⟩, g1⟩
    · obtain ⟨r, hr⟩ : ∃ r, rfind R2.now s = r := ⟨_, rfl⟩
      have HRF := Lib.hid hr
      by_cases hneg : r < 0
      · by_cases hbig : 64 ≤ R2.now.length
        · have HR : Hid (R.create s = (8, R2)) := Lib.hid (by simp [RS.create, hB, hgn, hr, hneg, hbig])
          rw [HR.out]
          clear hB hr hgn
          go_enter Try.func27, Try.ntmps27
          go_wp2_with (first
            | (go_at_call 56; refine HB.out.mono ?_; rintro e w1 ⟨rfl, h1, g1⟩; have c1 : w1.cell? ⟨x, 1, none⟩ = some (.slice V.nA R2.now.length V.nc) := h1.cell 1; have H1 := Lib.hid h1; clear h1)
            | (go_at_call 15; refine (refName_any s w1 hs).mono ?_; rw [HN.out]; rintro e w' ⟨rfl, rfl⟩)
            | (go_at_call 25; refine (find_any (out X x) V.nA R2.now.length V.nc R2.now s w1 rfl (by omega) H1.out.nr.sh).mono ?_; rw [HRF.out]; rintro e w' ⟨rfl, rfl⟩)
            | fail)
          go_ret
          exact ⟨rfl, ⟨_, H1.out.widen w⟩, g1⟩
        · have HR : Hid (R.create s = (0, R2.filed.turned ⟨ByteArray.empty, s, (R2.files.length : Int)⟩)) := Lib.hid (by simp [RS.create, hB, hgn, hr, hneg, hbig])
          rw [HR.out]
          obtain ⟨nf, hnf⟩ : ∃ nf, nf = R2.files.length := ⟨_, rfl⟩
          have HNF := Lib.hid hnf
          have hnf1 : R2.filed.files.length = nf + 1 := by rw [hnf]; simp [RS.filed]
          have HN1 := Lib.hid hnf1
          rw [← hnf] at hfl
          clear hB hr hgn hnf hnf1
          go_enter Try.func27, Try.ntmps27
          go_wp2_with (first
            | (go_at_call 56; refine HB.out.mono ?_; rintro e w1 ⟨rfl, h1, g1⟩; have c1 : w1.cell? ⟨x, 1, none⟩ = some (.slice V.nA R2.now.length V.nc) := h1.cell 1; have hbe : Below w1.heap.size w1 (w1.alloc (.cells #[] 74)) := (Below.refl _ _).alloc (Nat.le_refl _) _; have BE := Lib.hid hbe; have OE : Hid (Own (w1.alloc (.cells #[] 74)) w1.heap.size 74 2 (.slice (some ⟨w1.heap.size, 0, none⟩) 0 0) 0 []) := Lib.hid (Own.empty w1 w1.heap.size 74 2 (Nat.le_refl _)); have HC : Hid (∀ w', Below w1.heap.size w1 w' → w'.cell? ⟨x, 0, none⟩ = some (.slice V.fA nf V.fc) ∧ w'.frozen? ⟨x, 0, none⟩ = false) := Lib.hid (fun w' hb' => ⟨(hb'.cell (p := ⟨x, 0, none⟩) h1.lt).trans ((h1.cell 0).trans (by rw [HNF.out]; rfl)), (hb'.frozen (p := ⟨x, 0, none⟩) h1.lt).trans (h1.nf 0)⟩); have HSF : Hid (SX (w1.alloc (.cells #[] 74)) (out X x) V.fA nf 2 (fcells R2.files)) := Lib.hid (by rw [HNF.out]; exact h1.fr.sh.stay fun k hk => hbe.block k (h1.old k hk.1)); obtain ⟨u0, z0⟩ := HC.out _ hbe; have H1 := Lib.hid h1; have hxl : x < w1.heap.size := h1.lt; clear h1 hbe)
            | (go_at_call 15; refine (refName_any s w1 hs).mono ?_; rw [HN.out]; rintro e w' ⟨rfl, rfl⟩)
            | (go_at_call 25; refine (find_any (out X x) V.nA R2.now.length V.nc R2.now s w1 rfl (by omega) H1.out.nr.sh).mono ?_; rw [HRF.out]; rintro e w' ⟨rfl, rfl⟩)
            | (at_builtin; refine wpList_more_s rfl (.tmp 28) (.tmp 32) 67 rfl rowF _ w1.heap.size _ 0 [] (fcells R2.files) rfl OE.out (out X x) V.fA nf V.fc rfl HSF.out (fcells_one _) (by omega) (by omega) ?_; intro v4 w4 ho4 hg4; have ho4 := ho4.cast (Nat.zero_add _) (List.nil_append _); have hb4 := BE.out.grown hg4 (by simp) OE.out.block_ge; obtain ⟨e4, z4⟩ := HC.out w4 hb4; have hx4 : x < w4.heap.size := Nat.lt_of_lt_of_le hxl hb4.size; have O4 := Lib.hid ho4; have B4 := Lib.hid hb4; clear ho4 hb4 hg4)
            | (at_builtin; refine wpList_push_g rfl (.tmp 33) (.tmp 35) 67 rfl rowF w4 w1.heap.size _ nf (fcells R2.files) [.slice none 0 0, .int .i64 0] rfl O4.out rfl rfl rfl (by intro z hz; simp at hz; rcases hz with rfl | rfl <;> rfl) (by omega) (by omega) ?_; intro v5 w5 ho5 hg5; have hb5 := (B4.out.alloc B4.out.size _).grown hg5 (by have := B4.out.size; simp; omega) O4.out.block_ge; obtain ⟨e5, z5⟩ := HC.out w5 hb5; have hx5 : x < w5.heap.size := Nat.lt_of_lt_of_le hxl hb5.size; obtain ⟨A5, c5, rfl⟩ := ho5.form; have O5 := Lib.hid ho5; have B5 := Lib.hid hb5; clear ho5 hb5 hg5)
            | (go_at_call 57; have HE := Lib.hid (files_end (w := w1) H1.out (grownx_refl w1 x) B5.out (by have := O5.out; rw [HNF.out] at this; exact this)); rw [← HNF.out] at HE; refine (rturn_any (wid X w1 _) x _ R2.filed ⟨ByteArray.empty, s, (nf : Int)⟩ _ HE.out.1 hn hwl).mono ?_; rintro e w2 ⟨rfl, ⟨V', h2⟩, g2⟩; have H2 := Lib.hid h2; have G2 := Lib.hid g2; clear h2 g2)
            | fail)
          go_ret
          exact ⟨rfl, ⟨_, (by have := HNF.out; subst this; exact (wid_wid H2.out HE.out.2.size G2.out.size H1.out.old).narrow g1.size)⟩, grownx_trans g1 (grownx_trans HE.out.2 G2.out)⟩
      · have HR : Hid (R.create s = (7, R2)) := Lib.hid (by simp [RS.create, hB, hgn, hr, hneg])
        rw [HR.out]
        clear hB hr hgn
        go_enter Try.func27, Try.ntmps27
        go_wp2_with (first
          | (go_at_call 56; refine HB.out.mono ?_; rintro e w1 ⟨rfl, h1, g1⟩; have c1 : w1.cell? ⟨x, 1, none⟩ = some (.slice V.nA R2.now.length V.nc) := h1.cell 1; have H1 := Lib.hid h1; clear h1)
          | (go_at_call 15; refine (refName_any s w1 hs).mono ?_; rw [HN.out]; rintro e w' ⟨rfl, rfl⟩)
          | (go_at_call 25; refine (find_any (out X x) V.nA R2.now.length V.nc R2.now s w1 rfl (by omega) H1.out.nr.sh).mono ?_; rw [HRF.out]; rintro e w' ⟨rfl, rfl⟩)
          | fail)
        go_ret
        exact ⟨rfl, ⟨_, H1.out.widen w⟩, g1⟩
  · have hne : (a != 0) = true := by simpa using ha
    have HR : Hid (R.create s = (a, R2)) := Lib.hid (by simp [RS.create, hB, ha])
    rw [HR.out]
    clear hB ha
    go_enter Try.func27, Try.ntmps27
    go_wp2_with (first
      | (go_at_call 56; refine HB.out.mono ?_; rintro e w1 ⟨rfl, h1, g1⟩)
      | fail)
    go_ret
    exact ⟨rfl, ⟨_, h1.widen w⟩, g1⟩
end Go.Proofs.Ytekhockdgglndaa
