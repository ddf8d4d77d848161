/-
  THE EXAMPLES, read: 1+2*x and f(.
  'awake' of layer 8: the document's examples: true.
-/
import Derived.Test.YtpllkjfdaenalaaDoorMEu
import Derived.Test.YtpllkjfdaenalaaDoorLent
import Derived.Lib.SmallJoins
import Derived.Lib.ConvBytes
import Derived.BigRegion
namespace Go.Proofs.YtpllkjfdaenalaaDoor
set_option linter.unusedVariables false
set_option linter.unusedSimpArgs false
open Go.RowKit

section
variable {R : Rw} {f l a d p q : Nat} {e : Ex}
theorem up_good (h : rd R f (.lev (l + 1)) a d = good e p) (hl : l < 6) (hs : sgnL l (R.wd p) = false) (hf : 1 ≤ f) : rd R (f + 1) (.lev l) a d = good e p := by
  obtain ⟨k, rfl⟩ : ∃ k, f = k + 1 := ⟨f - 1, by omega⟩
  rw [rd_lev (by omega), h, if_pos (show (good e p).r = 0 from rfl)]
  exact rd_loop_no hs
theorem up_bad {r : Int} (h : rd R f (.lev (l + 1)) a d = bad p r) (hl : l < 6) (hr : r ≠ 0) : rd R (f + 1) (.lev l) a d = bad p r := by
  rw [rd_lev (by omega), h, if_neg (show ¬ (bad p r).r = 0 from hr)]
  rfl
theorem up_one {e2 : Ex} (h : rd R (f + 1) (.lev (l + 1)) a d = good e p) (hl : l < 6) (hs : sgnL l (R.wd p) = true) (h2 : rd R f (.lev (l + 1)) (p + 1) d = good e2 q) (hh : (eBin (R.wd p) e e2).ht ≤ 32) (hs2 : sgnL l (R.wd q) = false) (hf : 1 ≤ f) :
    rd R (f + 2) (.lev l) a d = good (eBin (R.wd p) e e2) q := by
  obtain ⟨k, rfl⟩ : ∃ k, f = k + 1 := ⟨f - 1, by omega⟩
  rw [rd_lev (by omega), h, if_pos (show (good e p).r = 0 from rfl)]
  show rd R (k + 1 + 1) (.loop l e) p d = _
  rw [rd_loop_yes hs h2, if_pos (show (good e2 q).r = 0 from rfl)]
  have hq : hld (eBin (R.wd p) e e2) q p = good (eBin (R.wd p) e e2) q := by unfold hld; rw [if_neg (by omega)]
  show (if (hld (eBin (R.wd p) e e2) q p).r = 0 then rd R (k + 1) (.loop l (hld (eBin (R.wd p) e e2) q p).e) (hld (eBin (R.wd p) e e2) q p).p d else bad (hld (eBin (R.wd p) e e2) q p).p (hld (eBin (R.wd p) e e2) q p).r) = _
  rw [hq]
  exact (if_pos rfl).trans (rd_loop_no hs2)
end
theorem low_pr {R : Rw} {f a d : Nat} (hs : (R.is a [33] || R.is a [45]) = false) : rd R (f + 2) (.lev 6) a d = rd R f .pr a d := by
  rw [rd_lev6 (Nat.le_refl _), rd_sg_no hs]

def exT : List Int := [49, 43, 50, 42, 120]
theorem live_exT : live exT 0 = [(3, 0, 1), (4, 1, 2), (3, 2, 3), (4, 3, 4), (2, 4, 5)] := by
  unfold live exT
  simp [toks_at, toks_end, tk, tl, kd, goes, runB, pairsL, pairB, lv]
def exF : List Int := [102, 40]
theorem live_exF : live exF 0 = [(2, 0, 1), (4, 1, 2)] := by
  unfold live exF
  simp [toks_at, toks_end, tk, tl, kd, goes, runB, pairsL, pairB, lv]
abbrev RT : Rw := rowT (strOfNums exT) [(3, 0, 1), (4, 1, 2), (3, 2, 3), (4, 3, 4), (2, 4, 5)]
abbrev RF : Rw := rowT (strOfNums exF) [(2, 0, 1), (4, 1, 2)]
theorem t0 : RT.wd 0 = ⟨#[49]⟩ := by rfl
theorem t1 : RT.wd 1 = ⟨#[43]⟩ := by rfl
theorem t2 : RT.wd 2 = ⟨#[50]⟩ := by rfl
theorem t3 : RT.wd 3 = ⟨#[42]⟩ := by rfl
theorem t4 : RT.wd 4 = ⟨#[120]⟩ := by rfl
theorem t5 : RT.wd 5 = ⟨#[]⟩ := by rfl
theorem f0 : RF.wd 0 = ⟨#[102]⟩ := by rfl
theorem f1 : RF.wd 1 = ⟨#[40]⟩ := by rfl
theorem f2 : RF.wd 2 = ⟨#[]⟩ := by rfl
theorem isT (R : Rw) (i : Nat) (a : List UInt8) (l : List UInt8) {s : ByteArray} (h : R.wd i = s) (hs : s.data.toList = a) : R.is i l = (a == l) := by unfold Rw.is; rw [h, ByteArray.toList_eq, hs]
theorem idb_x : idB ⟨#[120]⟩ = true := by
  simp [idB, kwB, kws, ByteArray.toList_eq, identL, bts, kd]
  decide
theorem idb_f : idB ⟨#[102]⟩ = true := by
  simp [idB, kwB, kws, ByteArray.toList_eq, identL, bts, kd]
  decide
theorem idb_e : idB ⟨#[]⟩ = false := by simp [idB, identL, bts]
theorem sgn_no {l : Nat} {s : ByteArray} (h : ∀ x ∈ [[124, 124], [38, 38], [61, 61], [60], [43], [45], [(42 : UInt8)]], (s.toList == x) = false) : sgnL l s = false := by
  simp at h
  unfold sgnL
  simp [h]
theorem s5 (l : Nat) : sgnL l (⟨#[]⟩ : ByteArray) = false := sgn_no (by rw [empty_toList]; decide)
theorem num_T0 (f : Nat) (a : Nat) (v : Int) (hk : RT.kd a = 3) (hn : numB (RT.wd a) = some v) (hs : (RT.is a [33] || RT.is a [45]) = false) : rd RT (f + 3) (.lev 6) a 0 = good (eNum (RT.ps a) v) (a + 1) := by
  rw [low_pr hs, rd_pr_num hk, numG_some hn]
theorem T0 (f : Nat) : rd RT (f + 3) (.lev 6) 0 0 = good (eNum 0 1) 1 := num_T0 f 0 1 rfl (by rw [t0]; decide) (by rw [isT RT 0 [49] _ t0 rfl, isT RT 0 [49] _ t0 rfl]; decide)
theorem T2 (f : Nat) : rd RT (f + 3) (.lev 6) 2 0 = good (eNum 2 2) 3 := num_T0 f 2 2 rfl (by rw [t2]; decide) (by rw [isT RT 2 [50] _ t2 rfl, isT RT 2 [50] _ t2 rfl]; decide)
theorem name_T4 : RT.name 4 = (true, ⟨#[120]⟩, 5) := by
  have h : RT.idn 4 = true := by show idB (RT.wd 4) = true; rw [t4]; exact idb_x
  have h5 : RT.is 5 [46] = false := by rw [isT RT 5 [] _ t5 rfl]; decide
  unfold Rw.name
  rw [if_neg (by rw [h]; decide), if_neg (by rw [h5]; decide), t4]
theorem T4 (f : Nat) : rd RT (f + 4) (.lev 6) 4 0 = good (eName 4 ⟨#[120]⟩) 5 := by
  have hi : ∀ l, RT.is 4 l = ([120] == l) := fun l => isT RT 4 [120] l t4 rfl
  have hi5 : RT.is 5 [40] = false := by rw [isT RT 5 [] _ t5 rfl]; decide
  rw [low_pr (by rw [hi, hi]; decide), rd_pr_named (by decide) (by rw [hi]; decide) (by rw [hi]; decide) (by rw [hi]; decide) (by rw [hi]; decide), rd_nm name_T4 rfl, if_pos rfl, if_neg (by show ¬ RT.is 5 [40] = true; rw [hi5]; decide)]
  rfl
def e2x : Ex := eBin ⟨#[42]⟩ (eNum 2 2) (eName 4 ⟨#[120]⟩)
def eTop : Ex := eBin ⟨#[43]⟩ (eNum 0 1) e2x
theorem leaf_ht {e : Ex} (h : e.l = []) : e.ht = 1 := by rw [Ex.ht_eq, h]; rfl
theorem bin_ht (s : ByteArray) (x y : Ex) : (eBin s x y).ht = max x.ht (max y.ht 0) + 1 := by rw [Ex.ht_eq]; rfl
theorem e2x_ht : e2x.ht = 2 := by unfold e2x; rw [bin_ht, leaf_ht rfl, leaf_ht rfl]; rfl
theorem eTop_ht : eTop.ht = 3 := by unfold eTop; rw [bin_ht, leaf_ht rfl, e2x_ht]; rfl
theorem T_5_2 (f : Nat) : rd RT (f + 6) (.lev 5) 2 0 = good e2x 5 := by
  have h1 := T2 (f + 2)
  have h2 := T4 f
  have h := up_one (l := 5) (f := f + 4) h1 (by omega) (by rw [t3]; unfold sgnL; rw [ByteArray.toList_eq]; decide) h2 (by rw [t3]; exact Nat.le_trans (Nat.le_of_eq e2x_ht) (by omega)) (by rw [t5]; exact s5 _) (by omega)
  rw [t3] at h
  exact h
theorem T_4_0 (f : Nat) : rd RT (f + 8) (.lev 4) 0 0 = good eTop 5 := by
  have h1 : rd RT (f + 7) (.lev 5) 0 0 = good (eNum 0 1) 1 := up_good (f := f + 6) (l := 5) (T0 (f + 3)) (by omega) (by rw [t1]; unfold sgnL; rw [ByteArray.toList_eq]; decide) (by omega)
  have h := up_one (l := 4) (f := f + 6) h1 (by omega) (by rw [t1]; unfold sgnL; rw [ByteArray.toList_eq]; decide) (T_5_2 f) (by rw [t1]; exact Nat.le_trans (Nat.le_of_eq eTop_ht) (by omega)) (by rw [t5]; exact s5 _) (by omega)
  rw [t1] at h
  exact h
theorem T_1_0 (f : Nat) : rd RT (f + 11) (.lev 1) 0 0 = good eTop 5 :=
  up_good (f := f + 10) (l := 1) (up_good (f := f + 9) (l := 2) (up_good (f := f + 8) (l := 3) (T_4_0 f) (by omega) (by rw [t5]; exact s5 _) (by omega)) (by omega) (by rw [t5]; exact s5 _) (by omega)) (by omega) (by rw [t5]; exact s5 _) (by omega)
theorem nameF2 : RF.name 2 = (false, ⟨#[]⟩, 2) := by
  have h : RF.idn 2 = false := by show idB (RF.wd 2) = false; rw [f2]; exact idb_e
  unfold Rw.name
  rw [if_pos h]
theorem nameF0 : RF.name 0 = (true, ⟨#[102]⟩, 1) := by
  have h : RF.idn 0 = true := by show idB (RF.wd 0) = true; rw [f0]; exact idb_f
  have h5 : RF.is 1 [46] = false := by rw [isT RF 1 [40] _ f1 rfl]; decide
  unfold Rw.name
  rw [if_neg (by rw [h]; decide), if_neg (by rw [h5]; decide), f0]
theorem F2 (f : Nat) : rd RF (f + 9) (.lev 1) 2 1 = bad 2 11 := by
  have hi : ∀ l, RF.is 2 l = ([] == l) := fun l => isT RF 2 [] l f2 rfl
  have h6 : rd RF (f + 4) (.lev 6) 2 1 = bad 2 11 := by
    rw [low_pr (by rw [hi, hi]; decide), rd_pr_named (by decide) (by rw [hi]; decide) (by rw [hi]; decide) (by rw [hi]; decide) (by rw [hi]; decide), rd_nm nameF2 rfl, if_neg (by decide)]
  exact up_bad (up_bad (up_bad (up_bad (up_bad h6 (by omega) (by decide)) (by omega) (by decide)) (by omega) (by decide)) (by omega) (by decide)) (by omega) (by decide)
theorem F0 (f : Nat) : rd RF (f + 20) (.lev 1) 0 0 = bad 2 11 := by
  have hi : ∀ l, RF.is 0 l = ([102] == l) := fun l => isT RF 0 [102] l f0 rfl
  have hi1 : RF.is 1 [40] = true := by rw [isT RF 1 [40] _ f1 rfl]; decide
  have hi2 : RF.is 2 [41] = false := by rw [isT RF 2 [] _ f2 rfl]; decide
  have har : rd RF (f + 11) .ar 1 0 = bad 2 11 := by
    rw [rd_ar_yes (by decide) hi2, rd_an (F2 f), if_neg (by decide)]
    rfl
  have h6 : rd RF (f + 15) (.lev 6) 0 0 = bad 2 11 := by
    rw [low_pr (f := f + 13) (by rw [hi, hi]; decide), rd_pr_named (by decide) (by rw [hi]; decide) (by rw [hi]; decide) (by rw [hi]; decide) (by rw [hi]; decide), rd_nm nameF0 har, if_pos rfl, if_pos hi1, if_neg (by decide)]
    rfl
  exact up_bad (up_bad (up_bad (up_bad (up_bad h6 (by omega) (by decide)) (by omega) (by decide)) (by omega) (by decide)) (by omega) (by decide)) (by omega) (by decide)
theorem parseT : parseG (rowT (strOfNums exT) (live exT 0)) (live exT 0) 100 = (eTop, 5, 0) := by
  rw [live_exT]
  unfold parseG
  rw [if_neg (by decide), T_1_0 89, if_neg (fun h => h.2 rfl)]
  rfl
theorem parseF : parseG (rowT (strOfNums exF) (live exF 0)) (live exF 0) 100 = (Ex.nul, 2, 11) := by
  rw [live_exF]
  unfold parseG
  rw [if_neg (by decide), F0 80, if_neg (fun h => by cases h.1)]
  rfl
end Go.Proofs.YtpllkjfdaenalaaDoor
namespace Go.Proofs.YtpllkjfdaenalaaDoor
set_option linter.unusedVariables false
set_option linter.unusedSimpArgs false
open Go.RowKit

theorem cell_mark6 (w : World) (C : Array Value) (t : TypeId) (fr : Nat × Nat) (g j : Nat) (hg : g = w.heap.size) : (w.alloc (.cells C t fr)).cell? ⟨g, j, none⟩ = C[j]? := by
  subst hg
  exact World.cell?_alloc_mark w C t fr j
theorem Sh.mark6 (w : World) (xs : List Value) (e : TypeId) (fr : Nat × Nat) : Sh (w.alloc (.cells xs.toArray e fr)) (w.heap.size + 1) (some ⟨w.heap.size, 0, none⟩) xs.length xs :=
  ⟨rfl, fun _ => ⟨w.heap.size, 0, rfl, by omega, fun k u hu => by
    rw [Nat.zero_add, cell_mark6 _ _ _ _ _ _ rfl]
    simpa using hu⟩⟩
theorem convC {w : World} {B : Nat} (xs : List Int) (n : Nat) (hn : xs.length = n) (hB : B ≤ w.heap.size) : ∃ wl, (convert 22 22 (.slice (some ⟨w.heap.size, 0, none⟩) n n)).run Tryd.prog (w.alloc (.cells (by8 xs).toArray 5)) = .ok (.slice (some ⟨w.heap.size, 0, none⟩) n n) wl ∧
    Sh wl wl.heap.size (some ⟨w.heap.size, 0, none⟩) n (by8 xs) ∧ Below B w wl := by
  refine ⟨w.alloc (.cells (by8 xs).toArray 5 (n, n + 1)), ?_, ?_, (Below.refl _ _).alloc hB _⟩
  · have h := Joins.run_convert_bytes_const_at (P := Tryd.prog) w 22 5 (by8 xs).toArray n n w.heap.size rfl Tryd.underlying22 (by kernel_rfl)
    have hsz : (by8 xs).toArray.size = n := by simp [by8, hn]
    rw [hsz] at h
    exact h
  · have := Sh.mark6 w (by8 xs) 5 (n, n + 1)
    rw [by8_len, hn] at this
    exact this.more (by simp)


theorem exT_byt : Byt8 exT := fun x hx => by simp [exT] at hx; omega
theorem exF_byt : Byt8 exF := fun x hx => by simp [exF] at hx; omega
end Go.Proofs.YtpllkjfdaenalaaDoor
