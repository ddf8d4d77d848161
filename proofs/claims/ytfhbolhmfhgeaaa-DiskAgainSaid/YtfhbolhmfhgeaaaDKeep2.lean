/-
  CONTRACT OF keepNames: the walk.
-/
import Derived.Test.YtfhbolhmfhgeaaaDKeep
namespace Go.Proofs.Ytfhbolhmfhgeaaa
set_option linter.unusedVariables false
set_option linter.unusedSimpArgs false
open Go.RowKit Go.Maps

section
variable {w : World} {X : Nat → Prop} {g : Nat} {L : Lay} {S : St}
/-- Behind the copy of the names. -/
theorem keep_copy (h : DAt w X g L S) {w1 : World} (hn : NamesAt w1 w.heap.size S.names) (hb : Below w.heap.size w w1) :
    w1.cell? ⟨g, 3, none⟩ = some (.map (some L.sm)) ∧ w1.frozen? ⟨g, 3, none⟩ = false ∧ w1.cell? ⟨g, 4, none⟩ = some L.wr ∧ w1.frozen? ⟨g, 4, none⟩ = false ∧
      Lies X g { L with sm := w.heap.size, wr := .slice none 0 0 } { S with sure := S.names, waits := [] } w ((w1.setCell ⟨g, 3, none⟩ (.map (some w.heap.size))).setCell ⟨g, 4, none⟩ (.slice none 0 0)) := by
  have hl : Lies X g L S w w := ⟨h, Keeps.refl _ _⟩
  have h1 := hl.below hb
  have hnX : ¬ X w.heap.size := fun hx => by have := h.old _ hx; omega
  have hlt := h.nm.lt
  refine ⟨h1.1.c3, h1.1.cells.nf 3, h1.1.c4, h1.1.cells.nf 4, h1.sure hn hnX (by omega)⟩

/-- The disk within keepNames, its files being fs. -/
def kst (S : St) (fs : List Fl) : St := { S with sure := S.names, waits := [], fs := fs }
set_option maxRecDepth 10000 in
set_option maxHeartbeats 3200000 in
theorem keepNames_any (h : DAt w X g L S) (hcl : Closed S.names S.fs) (hn : S.names.length ≤ 1000) (hf : S.fs.length ≤ 100000) :
    Calls Try.prog 54 #[ptrTo g] w fun e w' => e = .returned (.tuple #[]) ∧ (∃ L', DAt w' X g L' S.keptNames) ∧ Keeps X w w' := by
  have c2 := h.c2
  have HC := Lib.hid (copied_any L.nm S.names w h.nm (by omega))
  obtain ⟨A, cc, hfr, _, _⟩ := h.fr.form
  have HFR := Lib.hid hfr
  obtain ⟨n, hnl⟩ : ∃ n, n = S.fs.length := ⟨_, rfl⟩
  rw [← hnl] at HFR
  obtain ⟨L1, hL1⟩ : ∃ L1 : Lay, L1 = { L with sm := w.heap.size, wr := .slice none 0 0 } := ⟨_, rfl⟩
  have HK := Lib.hid (fun w1 (hn : NamesAt w1 w.heap.size S.names) (hb : Below w.heap.size w w1) => keep_copy h hn hb)
  rw [← hL1] at HK
  have HF1 := Lib.hid (show L1.fr = .slice A n cc by rw [hL1]; exact HFR.out)
  have HNM := Lib.hid (show L1.nm = L.nm by rw [hL1])
  have HN := Lib.hid hnl.symm
  have hn2 : n ≤ 100000 := by omega
  have HRIS := Lib.hid h.nm.ris
  have HCL := Lib.hid hcl
  have HO := Lib.hid h.old
  clear h hfr hnl hcl hL1
  unfold ptrTo
  go_enter Try.func54, Try.ntmps54
  go_wp2_with (first
    | (go_at_call 37; refine HC.out.mono ?_; rintro e w1 ⟨rfl, h1, hb1⟩; obtain ⟨c3, f3, c4, f4, hl⟩ := HK.out w1 h1 hb1; have c1 := hl.1.c1.trans (congrArg some HF1.out); have HL := Lib.hid hl; clear hl h1 hb1)
    | go_in)
  go_loopw [22] (fun i wr => ∃ k : Nat, k ≤ n ∧ i = .int .i64 k ∧ Lies X g L1 (kst S (unN k S.fs)) w wr) (fun i _ => n - (intOf i).toNat)
  case atStart => exact ⟨0, Nat.zero_le _, rfl, HL.out⟩
  case round =>
    obtain ⟨k, hk, rfl, hl⟩ := hrel
    by_cases hlt : k < n
    · obtain ⟨b, off, f, rfl, hfk, hcell⟩ := hl.1.ptr HF1.out (by show (unN k S.fs).length = n; rw [unN_len, HN.out]) hlt
      have hfa := hl.1.fo f (List.mem_of_getElem? hfk)
      have m2 := hfa.c2
      have z2 := hfa.blk.nf 2
      have HFK := Lib.hid hfk
      have HL1 := Lib.hid hl
      clear hl hfk hfa
      unfold ptrTo at *
      go_wp2
      go_roundw
      case rel =>
        refine ⟨k + 1, by omega, by go_num, ?_⟩
        have h1 := HL1.out.mark HFK.out false
        have e : (kst S (unN k S.fs)).fs.set k (setN false f) = unN (k + 1) S.fs := unN_step (by rw [← unN_at (by rw [HN.out]; exact hlt)]; exact HFK.out)
        rw [e] at h1
        exact h1
      case measure => simp [intOf]; omega
    · obtain rfl : k = n := by omega
      obtain ⟨wu, hwu⟩ : ∃ wu, wu = wr := ⟨_, rfl⟩
      subst hwu
      have hl2 : Lies X g L1 (kst S (markF S.names (fun k => (nat? k S.names).isSome) S.fs)) w wu := by
        rw [← mark_start HRIS.out, ← unN_end, HN.out]
        exact hl
      have hnm := hl2.1.nm
      have c2' := hl2.1.c2
      rw [HNM.out] at hnm c2'
      have HL2 := Lib.hid hl2
      clear hl hl2
      go_wp2_with (first
        | (at_range; refine wpList_range_names _ rfl _ rfl rfl hnm ?_; intro w0 hrg0 hg0 hs0)
        | go_in)
      go_frame
      go_loopw [5] (fun _ wq => ∃ (left : Nm → Bool) (cnt : Nat), NRange wq L.nm wu.heap.size S.names left cnt ∧ DAt wq (With X wu w0) g L1 (kst S (markF S.names left S.fs)) ∧ Keeps X w wq) (fun _ wq => wq.rangeLeft L.nm wu.heap.size)
      case atStart => exact ⟨_, _, hrg0, HL2.out.1.wider hg0 (fun j e => by cases e), HL2.out.2.grown hg0 HL2.out.1.old (fun j e => by cases e)⟩
      case round =>
        obtain ⟨left, cnt, hrg, hd, hkp⟩ := hrel
        have hin : With X wu w0 wu.heap.size := .inr ⟨Nat.le_refl _, by omega⟩
        have HIN := Lib.hid hin
        clear hin
        go_wp2_with (first
          | (at_next; refine wpList_next_names _ rfl _ rfl rfl hrg ?_ ?_)
          | go_in)
        · intro hc0 hl0
          go_wp2
          go_end0
          refine ⟨rfl, ⟨L1, ?_⟩, hkp⟩
          have := hd.fewer (Y := X) (fun b hb => .inl hb)
          rw [mark_end hl0] at this
          exact this
        · intro s c wn cnt1 hs hlx hm hrg1 hlt1 hg1 hs1 hen
          have hd1 : DAt wn (With X wu w0) g L1 (kst S (markF S.names left S.fs)) := hd.foreign hg1 (fun j hj => by cases hj; exact HIN.out)
          obtain ⟨i, f, hi, hfb⟩ := mark_mem (left := left) (HCL.out _ hm)
          simp only at hfb
          have hfa := hd1.fo f (List.mem_of_getElem? hi)
          have m2 := hfa.c2
          have z2 := hfa.blk.nf 2
          have hkp1 : Keeps X w wn := ⟨hg1.os.trans hkp.os, hg1.tape.trans hkp.tape, hg1.output.trans hkp.output, Nat.le_trans hkp.size hg1.size, fun k hk => (hg1.block k (hd.old k (.inl hk)) (fun e => by
            injection e with e
            have := HL2.out.1.old k hk
            omega)).trans (hkp.block k hk)⟩
          have hmk := hd1.mark hi true
          have hset : (kst S (markF S.names left S.fs)).fs.set i (setN true f) = markF S.names (fun m => left m && !(m == s.data.toList)) S.fs := by
            have e1 := set_upd (fs := markF S.names left S.fs) hd1.nd hi (setN true)
            rw [hfb, mark_step HRIS.out hm] at e1
            exact e1
          rw [hset] at hmk
          have hfX := hfa.out
          have hne : f.blk ≠ wu.heap.size := fun e => hfX (by rw [e]; exact HIN.out)
          have hrg2 := hrg1.keep (grown_set wn f.blk 2 (.bool true)) (fun e => by
            injection e with e
            have := hd1.nm.ne_blk hfa.blk
            rw [HNM.out] at this
            exact this e.symm) (fun e => by injection e with e; exact hne e)
          have HM := Lib.hid hmk
          have HR2 := Lib.hid hrg2
          have HK2 := Lib.hid (hkp1.grown (grown_set wn f.blk 2 (.bool true)) (fun b hb => hd1.old b (.inl hb)) (fun k hk => by cases hk; exact fun hx => hfX (.inl hx)))
          rw [hfb] at m2 z2 HM HR2 HK2
          clear hs1 hm hfa hset hmk hrg2 hne hfX hi hd1 hfb hrg1 hkp1
          unfold ptrTo at *
          go_wp2
          go_roundw
          case rel => exact ⟨_, cnt1, HR2.out, HM.out, HK2.out⟩
          case measure => rw [HR2.out.left_eq, hrg.left_eq]; exact hlt1
end
end Go.Proofs.Ytfhbolhmfhgeaaa
