/-
  CONTRACT OF keepNames.
  CONTRACT OF keepNames: the walk.
  CONTRACTS OF slices.IndexFunc and slices.DeleteFunc at files.
  CONTRACT OF slices.DeleteFunc at files.
  CONTRACTS OF forgetBytes and SyncDir.
-/
import Derived.Test.YtekhockdgglndaaDM2
import Derived.Lib.SliceRun
namespace Go.Proofs.Ytekhockdgglndaa
set_option linter.unusedVariables false
set_option linter.unusedSimpArgs false
open Go.RowKit Go.Maps

theorem Lay.up_self (L : Lay) (b : Nat) : L.up b (L.row b) = L := by
  cases L
  simp only [Lay.up, Lay.mk.injEq, true_and]
  funext c
  split
  · rename_i h; rw [h]
  · rfl
def setN (v : Bool) (f : Fl) : Fl := { f with named := v }
def unN (k : Nat) (fs : List Fl) : List Fl := (fs.take k).map (setN false) ++ fs.drop k
theorem unN_len (k : Nat) (fs : List Fl) : (unN k fs).length = fs.length := by simp [unN]; omega
theorem unN_at {k : Nat} {fs : List Fl} (hk : k < fs.length) : (unN k fs)[k]? = fs[k]? := by
  unfold unN
  rw [List.getElem?_append_right (by simp; omega)]
  simp
  congr 1
  omega
theorem unN_step {k : Nat} {fs : List Fl} {f : Fl} (hf : fs[k]? = some f) : (unN k fs).set k (setN false f) = unN (k + 1) fs := by
  obtain ⟨hk, he⟩ := List.getElem?_eq_some_iff.1 hf
  refine List.ext_getElem? fun j => ?_
  have hl : (unN k fs).length = fs.length := unN_len k fs
  by_cases e : k = j
  · subst e
    rw [List.getElem?_set_self (by omega)]
    unfold unN
    rw [List.getElem?_append_left (by simp; omega), List.getElem?_map, List.getElem?_take, if_pos (by omega), hf]
    rfl
  · rw [List.getElem?_set_ne e]
    unfold unN
    rw [List.getElem?_append, List.getElem?_append]
    simp only [List.length_map, List.length_take, List.getElem?_map, List.getElem?_take, List.getElem?_drop]
    by_cases h1 : j < k
    · rw [if_pos (by omega), if_pos h1, if_pos (by omega), if_pos (by omega)]
    · rw [if_neg (by omega), if_neg (by omega)]
      congr 1
      omega
theorem unN_end (fs : List Fl) : unN fs.length fs = fs.map (setN false) := by simp [unN]
/-- Is the block some name's, of those that have come? -/
def markF (N : NL) (left : Nm → Bool) (fs : List Fl) : List Fl := fs.map fun f => { f with named := N.any fun p => p.2 == f.blk && !left p.1 }
def marked (N : NL) (fs : List Fl) : List Fl := fs.map fun f => { f with named := N.any fun p => p.2 == f.blk }
theorem mark_start {N : NL} (h : Ris N) (fs : List Fl) : fs.map (setN false) = markF N (fun k => (nat? k N).isSome) fs := by
  unfold markF
  refine List.map_congr_left fun f _ => ?_
  unfold setN
  congr 1
  symm
  rw [List.any_eq_false]
  intro p hp
  have := h.at (k := p.1) (b := p.2) hp
  simp [this]
theorem mark_end {N : NL} {left : Nm → Bool} (h : ∀ k, left k = false) (fs : List Fl) : markF N left fs = marked N fs := by
  unfold markF marked
  simp [h]
theorem mark_step {N : NL} (h : Ris N) {k : Nm} {b : Nat} (hm : (k, b) ∈ N) (left : Nm → Bool) (fs : List Fl) : updF b (setN true) (markF N left fs) = markF N (fun m => left m && !(m == k)) fs := by
  unfold updF markF
  rw [List.map_map]
  refine List.map_congr_left fun f _ => ?_
  simp only [Function.comp]
  by_cases e : f.blk = b
  · rw [if_pos e]
    unfold setN
    simp only [Fl.mk.injEq, true_and]
    symm
    rw [List.any_eq_true]
    exact ⟨(k, b), hm, by simp [e]⟩
  · rw [if_neg e]
    simp only [Fl.mk.injEq, true_and]
    rw [Bool.eq_iff_iff, List.any_eq_true, List.any_eq_true]
    constructor
    · rintro ⟨p, hp, h1⟩
      refine ⟨p, hp, ?_⟩
      simp only [Bool.and_eq_true, beq_iff_eq, Bool.not_eq_true'] at h1 ⊢
      exact ⟨h1.1, by simp [h1.2]⟩
    · rintro ⟨p, hp, h1⟩
      refine ⟨p, hp, ?_⟩
      simp only [Bool.and_eq_true, beq_iff_eq, Bool.not_eq_true', Bool.and_eq_false_iff] at h1 ⊢
      refine ⟨h1.1, ?_⟩
      rcases h1.2 with h2 | h2
      · exact h2
      · have hpk : p.1 = k := by simpa using h2
        have := h.key hp hm hpk
        rw [this] at h1
        exact absurd h1.1.symm e
theorem mark_mem {N : NL} {left : Nm → Bool} {fs : List Fl} {b : Nat} (h : ∃ f ∈ fs, f.blk = b) : ∃ (i : Nat) (f : Fl), (markF N left fs)[i]? = some f ∧ f.blk = b := by
  obtain ⟨f, hf, e⟩ := h
  obtain ⟨i, hi⟩ := List.getElem?_of_mem hf
  exact ⟨i, { f with named := N.any fun p => p.2 == f.blk && !left p.1 }, by unfold markF; rw [List.getElem?_map, hi]; rfl, e⟩

def St.keptNames (S : St) : St := { S with sure := S.names, waits := [], fs := marked S.names S.fs }

section
variable {w : World} {X : Nat → Prop} {g : Nat} {L : Lay} {S : St}
/-- The file behind the k-th pointer. -/
theorem DAt.ptr (h : DAt w X g L S) {A : Option Addr} {n c : Nat} (hf : L.fr = .slice A n c) (hn : S.fs.length = n) {k : Nat} (hk : k < n) :
    ∃ b off f, A = some ⟨b, off, none⟩ ∧ S.fs[k]? = some f ∧ w.cell? ⟨b, off + k, none⟩ = some (ptrTo f.blk) := by
  subst hn
  have hr := h.fr
  rw [hf] at hr
  obtain ⟨b, off, u, e, _, hu, hc⟩ := hr.sh.at hk
  rw [List.getElem?_map] at hu
  obtain ⟨f, hf', rfl⟩ := Option.map_eq_some_iff.1 hu
  exact ⟨b, off, f, e, hf', hc⟩
/-- A file's mark is set. -/
theorem DAt.mark (h : DAt w X g L S) {i : Nat} {f : Fl} (hi : S.fs[i]? = some f) (v : Bool) : DAt (w.setCell ⟨f.blk, 2, none⟩ (.bool v)) X g L { S with fs := S.fs.set i (setN v f) } := by
  have hfa := h.fo f (List.mem_of_getElem? hi)
  have := h.file (w' := w.setCell ⟨f.blk, 2, none⟩ (.bool v)) hi (f' := setN v f) rfl (v := L.row f.blk) (by simp) (fun k _ hk _ => Below.heap_setCell _ _ _ _ hk) (hfa.blk.set 2 (.bool v))
    (hfa.row.stay fun j hj => Below.heap_setCell _ _ _ _ (fun e => hfa.row.ne_blk hfa.blk (by decide) (by rw [hj]; simp at e; rw [e]))) (fun j hj => .inl hj)
  rwa [Lay.up_self] at this
theorem Lies.mark {w1 : World} (h : Lies X g L S w w1) {i : Nat} {f : Fl} (hi : S.fs[i]? = some f) (v : Bool) : Lies X g L { S with fs := S.fs.set i (setN v f) } w (w1.setCell ⟨f.blk, 2, none⟩ (.bool v)) :=
  ⟨h.1.mark hi v, h.2.grown (grown_set w1 f.blk 2 _) h.1.old (fun k hk => by cases hk; exact (h.1.fo f (List.mem_of_getElem? hi)).out)⟩
/-- The sure names are others, and nothing waits. -/
theorem Lies.sure {w1 : World} (h : Lies X g L S w w1) {sm : Nat} {N : NL} (hs : NamesAt w1 sm N) (hX : ¬ X sm) (hne : L.nm ≠ sm) :
    Lies X g { L with sm := sm, wr := .slice none 0 0 } { S with sure := N, waits := [] } w ((w1.setCell ⟨g, 3, none⟩ (.map (some sm))).setCell ⟨g, 4, none⟩ (.slice none 0 0)) := by
  have hgs : sm ≠ g := hs.ne_blk h.1.cells
  have hgn : L.nm ≠ g := h.1.nm.ne_blk h.1.cells
  have h1 := h.1.maps (w' := w1.setCell ⟨g, 3, none⟩ (.map (some sm))) (N := S.names) (M := N) (nm := L.nm) (sm := sm) (by simp) (fun k _ hk => Below.heap_setCell _ _ _ _ hk) (h.1.cells.set 3 (.map (some sm)))
    (h.1.nm.stay (Below.heap_setCell _ _ _ _ hgn)) h.1.nmX (hs.stay (Below.heap_setCell _ _ _ _ hgs)) hX hne
  have h2 := h1.turns (w' := (w1.setCell ⟨g, 3, none⟩ (.map (some sm))).setCell ⟨g, 4, none⟩ (.slice none 0 0)) (ts' := []) (v := .slice none 0 0) (by simp) (fun k _ hk _ => Below.heap_setCell _ _ _ _ hk) (h1.cells.set 4 (.slice none 0 0)) ⟨[], Row.nil _ _ _, trivial⟩
  refine ⟨h2, (h.2.grown (grown_set w1 g 3 _) h.1.old (fun k hk => by cases hk; exact h.1.gX)).grown (grown_set _ g 4 _) h1.old (fun k hk => by cases hk; exact h.1.gX)⟩
end
end Go.Proofs.Ytekhockdgglndaa
namespace Go.Proofs.Ytekhockdgglndaa
set_option linter.unusedVariables false
set_option linter.unusedSimpArgs false
open Go.RowKit Go.Maps

section
variable {w : World} {X : Nat → Prop} {g : Nat} {L : Lay} {S : St}
/-- Behind the copy of the names. -/
theorem keep_copy (h : DAt w X g L S) {w1 : World} (hn : NamesAt w1 w.heap.size S.names) (hb : Below w.heap.size w w1) :
    w1.cell? ⟨g, 3, none⟩ = some (.map (some L.sm)) ∧ w1.frozen? ⟨g, 3, none⟩ = false ∧ w1.cell? ⟨g, 4, none⟩ = some L.wr ∧ w1.frozen? ⟨g, 4, none⟩ = false ∧
      Lies X g { L with sm := w.heap.size, wr := .slice none 0 0 } { S with sure := S.names, waits := [] } w ((w1.setCell ⟨g, 3, none⟩ (.map (some w.heap.size))).setCell ⟨g, 4, none⟩ (.slice none 0 0)) := by
  have hl : Lies X g L S w w := ⟨h, Keeps.refl _ _⟩
  have h1 := hl.below hb
  have hnX : ¬ X w.heap.size := fun hx => by have := h.old _ hx; omega
  have hlt := h.nm.lt
  refine ⟨h1.1.c3, h1.1.cells.nf 3, h1.1.c4, h1.1.cells.nf 4, h1.sure hn hnX (by omega)⟩

/-- The disk within keepNames, its files being fs. -/
def kst (S : St) (fs : List Fl) : St := { S with sure := S.names, waits := [], fs := fs }
set_option maxRecDepth 10000 in
set_option maxHeartbeats 3200000 in
theorem keepNames_any (h : DAt w X g L S) (hcl : Closed S.names S.fs) (hn : S.names.length ≤ 1000) (hf : S.fs.length ≤ 100000) :
    Calls Try.prog 51 #[ptrTo g] w fun e w' => e = .returned (.tuple #[]) ∧ (∃ L', DAt w' X g L' S.keptNames) ∧ Keeps X w w' := by
  have c2 := h.c2
  have HC := Lib.hid (copied_any L.nm S.names w h.nm (by omega))
  obtain ⟨A, cc, hfr, _, _⟩ := h.fr.form
  have HFR := Lib.hid hfr
  obtain ⟨n, hnl⟩ : ∃ n, n = S.fs.length := ⟨_, rfl⟩
  rw [← hnl] at HFR
  obtain ⟨L1, hL1⟩ : ∃ L1 : Lay, L1 = { L with sm := w.heap.size, wr := .slice none 0 0 } := ⟨_, rfl⟩
  have HK := Lib.hid (fun w1 (hn : NamesAt w1 w.heap.size S.names) (hb : Below w.heap.size w w1) => keep_copy h hn hb)
  rw [← hL1] at HK
  have HF1 := Lib.hid (show L1.fr = .slice A n cc by rw [hL1]; exact HFR.out)
  have HNM := Lib.hid (show L1.nm = L.nm by rw [hL1])
  have HN := Lib.hid hnl.symm
  have hn2 : n ≤ 100000 := by omega
  have HRIS := Lib.hid h.nm.ris
  have HCL := Lib.hid hcl
  have HO := Lib.hid h.old
  clear h hfr hnl hcl hL1
  unfold ptrTo
  go_enter Try.func51, Try.ntmps51
  go_wp2_with (first
    | (go_at_call 24; refine HC.out.mono ?_; rintro e w1 ⟨rfl, h1, hb1⟩; obtain ⟨c3, f3, c4, f4, hl⟩ := HK.out w1 h1 hb1; have c1 := hl.1.c1.trans (congrArg some HF1.out); have HL := Lib.hid hl; clear hl h1 hb1)
    | go_in)
  go_loopw [22] (fun i wr => ∃ k : Nat, k ≤ n ∧ i = .int .i64 k ∧ Lies X g L1 (kst S (unN k S.fs)) w wr) (fun i _ => n - (intOf i).toNat)
  case atStart => exact ⟨0, Nat.zero_le _, rfl, HL.out⟩
  case round =>
    obtain ⟨k, hk, rfl, hl⟩ := hrel
    by_cases hlt : k < n
    · obtain ⟨b, off, f, rfl, hfk, hcell⟩ := hl.1.ptr HF1.out (by show (unN k S.fs).length = n; rw [unN_len, HN.out]) hlt
      have hfa := hl.1.fo f (List.mem_of_getElem? hfk)
      have m2 := hfa.c2
      have z2 := hfa.blk.nf 2
      have HFK := Lib.hid hfk
      have HL1 := Lib.hid hl
      clear hl hfk hfa
      unfold ptrTo at *
      go_wp2
      go_roundw
      case rel =>
        refine ⟨k + 1, by omega, by go_num, ?_⟩
        have h1 := HL1.out.mark HFK.out false
        have e : (kst S (unN k S.fs)).fs.set k (setN false f) = unN (k + 1) S.fs := unN_step (by rw [← unN_at (by rw [HN.out]; exact hlt)]; exact HFK.out)
        rw [e] at h1
        exact h1
      case measure => simp [intOf]; omega
    · obtain rfl : k = n := by omega
      obtain ⟨wu, hwu⟩ : ∃ wu, wu = wr := ⟨_, rfl⟩
      subst hwu
      have hl2 : Lies X g L1 (kst S (markF S.names (fun k => (nat? k S.names).isSome) S.fs)) w wu := by
        rw [← mark_start HRIS.out, ← unN_end, HN.out]
        exact hl
      have hnm := hl2.1.nm
      have c2' := hl2.1.c2
      rw [HNM.out] at hnm c2'
      have HL2 := Lib.hid hl2
      clear hl hl2
      go_wp2_with (first
        | (at_range; refine wpList_range_names _ rfl _ rfl rfl hnm ?_; intro w0 hrg0 hg0 hs0)
        | go_in)
      go_frame
      go_loopw [5] (fun _ wq => ∃ (left : Nm → Bool) (cnt : Nat), NRange wq L.nm wu.heap.size S.names left cnt ∧ DAt wq (With X wu w0) g L1 (kst S (markF S.names left S.fs)) ∧ Keeps X w wq) (fun _ wq => wq.rangeLeft L.nm wu.heap.size)
      case atStart => exact ⟨_, _, hrg0, HL2.out.1.wider hg0 (fun j e => by cases e), HL2.out.2.grown hg0 HL2.out.1.old (fun j e => by cases e)⟩
      case round =>
        obtain ⟨left, cnt, hrg, hd, hkp⟩ := hrel
        have hin : With X wu w0 wu.heap.size := .inr ⟨Nat.le_refl _, by omega⟩
        have HIN := Lib.hid hin
        clear hin
        go_wp2_with (first
          | (at_next; refine wpList_next_names _ rfl _ rfl rfl hrg ?_ ?_)
          | go_in)
        · intro hc0 hl0
          go_wp2
          go_end0
          refine ⟨rfl, ⟨L1, ?_⟩, hkp⟩
          have := hd.fewer (Y := X) (fun b hb => .inl hb)
          rw [mark_end hl0] at this
          exact this
        · intro s c wn cnt1 hs hlx hm hrg1 hlt1 hg1 hs1 hen
          have hd1 : DAt wn (With X wu w0) g L1 (kst S (markF S.names left S.fs)) := hd.foreign hg1 (fun j hj => by cases hj; exact HIN.out)
          obtain ⟨i, f, hi, hfb⟩ := mark_mem (left := left) (HCL.out _ hm)
          simp only at hfb
          have hfa := hd1.fo f (List.mem_of_getElem? hi)
          have m2 := hfa.c2
          have z2 := hfa.blk.nf 2
          have hkp1 : Keeps X w wn := ⟨hg1.os.trans hkp.os, hg1.tape.trans hkp.tape, hg1.output.trans hkp.output, Nat.le_trans hkp.size hg1.size, fun k hk => (hg1.block k (hd.old k (.inl hk)) (fun e => by
            injection e with e
            have := HL2.out.1.old k hk
            omega)).trans (hkp.block k hk)⟩
          have hmk := hd1.mark hi true
          have hset : (kst S (markF S.names left S.fs)).fs.set i (setN true f) = markF S.names (fun m => left m && !(m == s.data.toList)) S.fs := by
            have e1 := set_upd (fs := markF S.names left S.fs) hd1.nd hi (setN true)
            rw [hfb, mark_step HRIS.out hm] at e1
            exact e1
          rw [hset] at hmk
          have hfX := hfa.out
          have hne : f.blk ≠ wu.heap.size := fun e => hfX (by rw [e]; exact HIN.out)
          have hrg2 := hrg1.keep (grown_set wn f.blk 2 (.bool true)) (fun e => by
            injection e with e
            have := hd1.nm.ne_blk hfa.blk
            rw [HNM.out] at this
            exact this e.symm) (fun e => by injection e with e; exact hne e)
          have HM := Lib.hid hmk
          have HR2 := Lib.hid hrg2
          have HK2 := Lib.hid (hkp1.grown (grown_set wn f.blk 2 (.bool true)) (fun b hb => hd1.old b (.inl hb)) (fun k hk => by cases hk; exact fun hx => hfX (.inl hx)))
          rw [hfb] at m2 z2 HM HR2 HK2
          clear hs1 hm hfa hset hmk hrg2 hne hfX hi hd1 hfb hrg1 hkp1
          unfold ptrTo at *
          go_wp2
          go_roundw
          case rel => exact ⟨_, cnt1, HR2.out, HM.out, HK2.out⟩
          case measure => rw [HR2.out.left_eq, hrg.left_eq]; exact hlt1
end
end Go.Proofs.Ytekhockdgglndaa
namespace Go.Proofs.Ytekhockdgglndaa
set_option linter.unusedVariables false
set_option linter.unusedSimpArgs false
open Go.RowKit Go.Maps

/-- What a test of a file reads. -/
def Reads (w : World) (f : Fl) : Prop := w.cell? ⟨f.blk, 1, none⟩ = some (.int .i64 (f.unsure : Int)) ∧ w.cell? ⟨f.blk, 2, none⟩ = some (.bool f.named)
/-- Files that are forgotten when names become sure; files that go when the power comes back. -/
def goneSure (f : Fl) : Bool := !f.named && f.unsure == 0
def goneBoot (f : Fl) : Bool := !f.named
theorem test_sure (f : Fl) (w : World) (h : Reads w f) (hu : f.unsure ≤ 1048576) : Calls Try.prog 68 #[ptrTo f.blk] w fun e w' => e = .returned (.bool (goneSure f)) ∧ w = w' := by
  obtain ⟨b, d, u, nm⟩ := f
  obtain ⟨h1, h2⟩ := h
  simp only at h1 h2 hu
  unfold ptrTo
  cases nm with
  | true =>
    go_enter Try.func68, Try.ntmps68
    go_wp2
    go_ret
    exact ⟨rfl, rfl⟩
  | false =>
    by_cases h0 : u = 0
    · subst h0
      go_enter Try.func68, Try.ntmps68
      go_wp2
      go_ret
      exact ⟨rfl, rfl⟩
    · have e : ((u : Int) == 0) = false := by simp; omega
      have H := Lib.hid (show goneSure ⟨b, d, u, false⟩ = false by simp [goneSure, h0])
      go_enter Try.func68, Try.ntmps68
      go_wp2
      go_ret
      exact ⟨ret_bool H.out.symm, rfl⟩
theorem test_boot (f : Fl) (w : World) (h : Reads w f) : Calls Try.prog 54 #[ptrTo f.blk] w fun e w' => e = .returned (.bool (goneBoot f)) ∧ w = w' := by
  obtain ⟨b, d, u, nm⟩ := f
  obtain ⟨h1, h2⟩ := h
  simp only at h1 h2
  unfold ptrTo
  cases nm
  all_goals
    go_enter Try.func54, Try.ntmps54
    go_wp2
    go_ret
    exact ⟨rfl, rfl⟩

/-- The first file that is to go. -/
def firstGone (p : Fl → Bool) (fs : List Fl) : Int := match fs.findIdx? p with | some i => (i : Int) | none => -1
def Tests (F : FuncId) (p : Fl → Bool) (fs : List Fl) : Prop := ∀ f ∈ fs, ∀ w, Reads w f → Calls Try.prog F #[ptrTo f.blk] w fun e w' => e = .returned (.bool (p f)) ∧ w = w'
/-- The slice shows pointers to the files. -/
def Ptrs (w : World) (A : Option Addr) (n : Nat) (fs : List Fl) : Prop := fs.length = n ∧ ∀ k, k < n → ∃ b off f, A = some ⟨b, off, none⟩ ∧ fs[k]? = some f ∧ w.cell? ⟨b, off + k, none⟩ = some (ptrTo f.blk)

set_option maxRecDepth 10000 in
set_option maxHeartbeats 1600000 in
theorem index_any (F : FuncId) (hF : F = 68 ∨ F = 54) (p : Fl → Bool) (A : Option Addr) (n c : Nat) (fs : List Fl) (w : World) (hn : n ≤ 1000000) (hp : Ptrs w A n fs) (hr : ∀ f ∈ fs, Reads w f) (hT : Tests F p fs) :
    Calls Try.prog 67 #[.slice A n c, .func (.func F) #[] #[]] w fun e w' => e = .returned (.int .i64 (firstGone p fs)) ∧ w = w' := by
  have HT := Lib.hid hT
  have HR := Lib.hid hr
  have HP := Lib.hid hp
  clear hT hr hp
  rcases hF with rfl | rfl
  all_goals
    go_enter Try.func67, Try.ntmps67
    go_wp2
    go_loop [8] (fun i => ∃ k : Nat, k ≤ n ∧ i = .int .i64 k ∧ Hid (∀ j, j < k → ∀ f, fs[j]? = some f → p f = false)) (fun i => n - (intOf i).toNat)
    case atStart => exact ⟨0, Nat.zero_le _, rfl, fun j hj => absurd hj (by omega)⟩
    case round =>
      obtain ⟨k, hk, rfl, hall⟩ := hrel
      by_cases hlt : k < n
      · obtain ⟨b, off, f, rfl, hf, hcell⟩ := HP.out.2 k hlt
        have HC := Lib.hid (HT.out f (List.mem_of_getElem? hf) w (HR.out f (List.mem_of_getElem? hf)))
        have HFF := Lib.hid hf
        obtain ⟨v, hv⟩ : ∃ v, v = p f := ⟨_, rfl⟩
        rw [← hv] at HC
        unfold ptrTo at *
        cases v with
        | true =>
          have HV := Lib.hid (show firstGone p fs = (k : Int) by
            unfold firstGone
            have : fs.findIdx? p = some k := by
              rw [List.findIdx?_eq_some_iff_getElem]
              obtain ⟨h1, h2⟩ := List.getElem?_eq_some_iff.1 HFF.out
              refine ⟨h1, by rw [h2]; exact hv.symm, fun j hj => ?_⟩
              have := hall.out j hj fs[j] (List.getElem?_eq_getElem (by omega))
              simp [this]
            rw [this])
          clear hf hv
          go_wp2_with (first | (go_at_call 68; refine HC.out.mono ?_; rintro e w' ⟨rfl, rfl⟩) | (go_at_call 54; refine HC.out.mono ?_; rintro e w' ⟨rfl, rfl⟩) | go_in)
          go_ret
          exact ⟨ret_int64 HV.out.symm, rfl⟩
        | false =>
          have HV := Lib.hid hv.symm
          clear hf hv
          go_wp2_with (first | (go_at_call 68; refine HC.out.mono ?_; rintro e w' ⟨rfl, rfl⟩) | (go_at_call 54; refine HC.out.mono ?_; rintro e w' ⟨rfl, rfl⟩) | go_in)
          go_round
          case rel =>
            refine ⟨k + 1, by omega, by go_num, fun j hj f' hf' => ?_⟩
            by_cases e : j = k
            · subst e
              rw [HFF.out] at hf'
              cases hf'
              exact HV.out
            · exact hall.out j (by omega) f' hf'
          case measure => simp [intOf]; omega
      · obtain rfl : k = n := by omega
        have HV := Lib.hid (show firstGone p fs = -1 by
          unfold firstGone
          have : fs.findIdx? p = none := by
            rw [List.findIdx?_eq_none_iff]
            intro f hf
            obtain ⟨j, hj⟩ := List.getElem?_of_mem hf
            have := HP.out.1
            exact hall.out j (by have := (List.getElem?_eq_some_iff.1 hj).1; omega) f hj
          rw [this])
        go_wp2
        go_ret
        exact ⟨ret_int64 HV.out.symm, rfl⟩
end Go.Proofs.Ytekhockdgglndaa
namespace Go.Proofs.Ytekhockdgglndaa
set_option linter.unusedVariables false
set_option linter.unusedSimpArgs false
open Go.RowKit Go.Maps

def ptrs (fs : List Fl) : List Value := fs.map fun f => ptrTo f.blk
def keep (p : Fl → Bool) (fs : List Fl) : List Fl := fs.filter fun f => !p f
section
variable {w : World} {X : Nat → Prop} {t : TypeId} {g n c : Nat} {xs : List Value}
theorem Row.set (h : Row w X t (.slice (some ⟨g, 0, none⟩) n c) n xs) (j : Nat) (u : Value) : Row (w.setCell ⟨g, j, none⟩ u) X t (.slice (some ⟨g, 0, none⟩) n c) n (xs.set j u) ∧ w.grownBy (w.setCell ⟨g, j, none⟩ u) (some g) :=
  ⟨⟨(h.1.stored j u).1, h.2⟩, (h.1.stored j u).2⟩
theorem Row.sets : ∀ (vs : List Value) (o : Nat) {w : World} {xs : List Value}, Row w X t (.slice (some ⟨g, 0, none⟩) n c) n xs → ∀ i, i ≤ o → ∃ xs', Row (w.setCells g o vs) X t (.slice (some ⟨g, 0, none⟩) n c) n xs' ∧ xs'.take i = xs.take i ∧ w.grownBy (w.setCells g o vs) (some g)
  | [], o, w, xs, h, i, hi => ⟨xs, h, rfl, grown_refl _ _⟩
  | v :: r, o, w, xs, h, i, hi => by
    obtain ⟨h1, h2⟩ := h.set o v
    obtain ⟨xs', h3, h4, h5⟩ := Row.sets r (o + 1) h1 i (by omega)
    refine ⟨xs', h3, ?_, grown_trans h2 h5⟩
    rw [h4, List.take_set, List.set_eq_of_length_le (by simp; omega)]
theorem Row.ptr {A : Option Addr} {fs : List Fl} (h : Row w X t (.slice A n c) n (ptrs fs)) : Ptrs w A n fs := by
  refine ⟨by have := h.len; simpa [ptrs] using this, fun k hk => ?_⟩
  obtain ⟨b, off, u, e, _, hu, hc⟩ := h.sh.at hk
  unfold ptrs at hu
  rw [List.getElem?_map] at hu
  obtain ⟨f, hf', rfl⟩ := Option.map_eq_some_iff.1 hu
  exact ⟨b, off, f, e, hf', hc⟩
theorem Row.cellAt (h : Row w X t (.slice (some ⟨g, 0, none⟩) n c) n xs) {k : Nat} (hk : k < n) : ∃ u, xs[k]? = some u ∧ w.cell? ⟨g, k, none⟩ = some u ∧ w.frozen? ⟨g, k, none⟩ = false := by
  have h1 := h.1.cellAt k (by omega)
  have h2 := h.1.frozenAt k
  have hl : k < xs.length := by rw [h.len]; exact hk
  refine ⟨xs[k], List.getElem?_eq_getElem hl, ?_, h2⟩
  rw [h1, List.getElem?_eq_getElem hl]
end
theorem keep_snoc (p : Fl → Bool) {fs : List Fl} {j : Nat} {f : Fl} (hf : fs[j]? = some f) : keep p (fs.take (j + 1)) = keep p (fs.take j) ++ (if p f = true then [] else [f]) := by
  obtain ⟨h1, h2⟩ := List.getElem?_eq_some_iff.1 hf
  rw [List.take_succ_eq_append_getElem h1, h2]
  unfold keep
  rw [List.filter_append]
  congr 1
  cases h : p f <;> simp [h]
theorem keep_len (p : Fl → Bool) (fs : List Fl) (j : Nat) : (keep p (fs.take j)).length ≤ j := by
  unfold keep
  have := List.length_filter_le (fun f => !p f) (fs.take j)
  have := List.length_take_le j fs
  omega
/-- How far DeleteFunc has come: the first i cells are the files that stay of the first j ones; the others, from j on, are as they were. -/
structure Come (w w' : World) (X : Nat → Prop) (g n c : Nat) (p : Fl → Bool) (fs : List Fl) (i j : Nat) (cs : List Value) : Prop where
  row : Row w' X 62 (.slice (some ⟨g, 0, none⟩) n c) n cs
  head : cs.take i = ptrs (keep p (fs.take j))
  tail : cs.drop j = ptrs (fs.drop j)
  len : (keep p (fs.take j)).length = i
  lt : i < j
  le : j ≤ n
  grown : w.grownBy w' (some g)
section
variable {w w' : World} {X : Nat → Prop} {g n c i j : Nat} {p : Fl → Bool} {fs : List Fl} {cs : List Value}
theorem Come.at (h : Come w w' X g n c p fs i j cs) (hn : fs.length = n) (hj : j < n) : ∃ f, fs[j]? = some f ∧ w'.cell? ⟨g, j, none⟩ = some (ptrTo f.blk) := by
  obtain ⟨u, h1, h2, _⟩ := h.row.cellAt hj
  have e : cs[j]? = (ptrs (fs.drop j))[0]? := by rw [← h.tail, List.getElem?_drop]; rfl
  unfold ptrs at e
  rw [List.getElem?_map, List.getElem?_drop, h1] at e
  obtain ⟨f, hf, hfe⟩ := Option.map_eq_some_iff.1 e.symm
  exact ⟨f, hf, by rw [h2, ← hfe]⟩
theorem Come.skip (h : Come w w' X g n c p fs i j cs) (hj : j < n) {f : Fl} (hf : fs[j]? = some f) (hp : p f = true) : Come w w' X g n c p fs i (j + 1) cs := by
  have e := keep_snoc p hf
  rw [if_pos hp, List.append_nil] at e
  refine ⟨h.row, by rw [e]; exact h.head, ?_, by rw [e]; exact h.len, by have := h.lt; omega, by omega, h.grown⟩
  have := congrArg (List.drop 1) h.tail
  unfold ptrs at this ⊢
  rw [List.drop_drop, ← List.map_drop, List.drop_drop] at this
  exact this
theorem Come.take (h : Come w w' X g n c p fs i j cs) (hj : j < n) {f : Fl} (hf : fs[j]? = some f) (hp : p f = false) : ∃ cs', Come w (w'.setCell ⟨g, i, none⟩ (ptrTo f.blk)) X g n c p fs (i + 1) (j + 1) cs' := by
  have e := keep_snoc p hf
  rw [if_neg (by rw [hp]; simp)] at e
  obtain ⟨h1, h2⟩ := h.row.set i (ptrTo f.blk)
  have hlt := h.lt
  have hl : cs.length = n := h.row.len
  refine ⟨cs.set i (ptrTo f.blk), h1, ?_, ?_, by rw [e, List.length_append, h.len]; rfl, by omega, by omega, grown_trans h.grown h2⟩
  · rw [e]
    unfold ptrs
    rw [List.map_append, List.take_succ_eq_append_getElem (by simp; omega), List.getElem_set_self, List.take_set, List.set_eq_of_length_le (by simp; omega), h.head]
    rfl
  · rw [List.drop_set_of_lt (by omega)]
    have := congrArg (List.drop 1) h.tail
    unfold ptrs at this ⊢
    rw [List.drop_drop, ← List.map_drop, List.drop_drop] at this
    exact this
end

set_option maxRecDepth 10000 in
set_option maxHeartbeats 3200000 in
theorem delete_any (F : FuncId) (hF : F = 68 ∨ F = 54) (p : Fl → Bool) (A : Option Addr) (n c : Nat) (fs : List Fl) (w : World) (X : Nat → Prop) (hn : n ≤ 1000000)
    (hrow : Row w X 62 (.slice A n c) n (ptrs fs)) (hr : ∀ w', w.grownBy w' (Value.ownBlock (.slice A n c)) → ∀ f ∈ fs, Reads w' f) (hT : Tests F p fs) :
    Calls Try.prog 53 #[.slice A n c, .func (.func F) #[] #[]] w fun e w' => e = .returned (.slice A (keep p fs).length c) ∧ Row w' X 62 (.slice A (keep p fs).length c) (keep p fs).length (ptrs (keep p fs)) ∧ w.grownBy w' (Value.ownBlock (.slice A n c)) := by
  have hlen : fs.length = n := by have := hrow.len; simpa [ptrs] using this
  have HI := Lib.hid (index_any F hF p A n c fs w hn hrow.ptr (hr w (grown_refl _ _)) hT)
  have HT := Lib.hid hT
  have HR := Lib.hid hr
  have HW := Lib.hid hrow
  have HL := Lib.hid hlen
  clear hT hr
  cases hfi : fs.findIdx? p with
  | none =>
    have hk : keep p fs = fs := by
      rw [List.findIdx?_eq_none_iff] at hfi
      unfold keep
      rw [List.filter_eq_self]
      intro f hf
      simp [hfi f hf]
    have hv : firstGone p fs = -1 := by unfold firstGone; rw [hfi]
    rw [hv] at HI
    have HK := Lib.hid hk
    clear hk hv hfi hrow hlen
    go_enter Try.func53, Try.ntmps53
    go_wp2_with (first | (go_at_call 67; refine HI.out.mono ?_; rintro e w' ⟨rfl, rfl⟩) | go_in)
    go_ret
    rw [HK.out, HL.out]
    exact ⟨rfl, HW.out, grown_refl _ _⟩
  | some i0 =>
    have hv : firstGone p fs = (i0 : Int) := by unfold firstGone; rw [hfi]
    rw [List.findIdx?_eq_some_iff_getElem] at hfi
    obtain ⟨hi0, hp0, hall⟩ := hfi
    rw [hv] at HI
    obtain ⟨g, hA⟩ : ∃ g, A = some ⟨g, 0, none⟩ := by
      obtain ⟨g', cap', e, _⟩ := hrow.1.form (by omega)
      injection e with e _ _
      exact ⟨g', e⟩
    subst hA
    have hgc : n ≤ c ∧ c ≤ maxLen := by
      obtain ⟨A', c', e, h1, h2⟩ := hrow.form
      injection e with _ _ e
      subst e
      exact ⟨h1, h2⟩
    have hstart : Come w w X g n c p fs i0 (i0 + 1) (ptrs fs) := by
      have e0 : keep p (fs.take i0) = fs.take i0 := by
        unfold keep
        rw [List.filter_eq_self]
        intro f hf
        obtain ⟨j, hj⟩ := List.getElem?_of_mem hf
        have hj1 : j < i0 := by have := (List.getElem?_eq_some_iff.1 hj).1; simp at this; omega
        have := hall j hj1
        rw [List.getElem?_take, if_pos hj1, List.getElem?_eq_getElem (by omega)] at hj
        cases hj
        simpa using this
      have e := keep_snoc p (List.getElem?_eq_getElem hi0)
      rw [if_pos hp0, List.append_nil, e0] at e
      refine ⟨hrow, ?_, ?_, ?_, by omega, by omega, grown_refl _ _⟩
      · rw [e]
        unfold ptrs
        rw [List.map_take]
      · unfold ptrs
        rw [List.map_drop]
      · rw [e, List.length_take]
        omega
    have HS := Lib.hid hstart
    have hi0n : i0 < n := by omega
    have hn2 : c ≤ 9223372036854775807 := by unfold maxLen at hgc; omega
    have hnc : n ≤ c := hgc.1
    clear hv hi0 hp0 hall hstart hrow hlen hgc
    rcases hF with rfl | rfl
    all_goals
      go_enter Try.func53, Try.ntmps53
      have hne : ((i0 : Int) == -1) = false := by simp
      go_wp2_with (first | (go_at_call 67; refine HI.out.mono ?_; rintro e w' ⟨rfl, rfl⟩) | go_in)
      go_loopw [5, 6] (fun x y wr => ∃ (i j : Nat) (cs : List Value), x = .int .i64 i ∧ y = .int .i64 j ∧ Come w wr X g n c p fs i j cs) (fun _ y _ => n - (intOf y).toNat)
      case atStart => exact ⟨i0, i0 + 1, _, rfl, by go_num, HS.out⟩
      case round =>
        obtain ⟨i, j, cs, rfl, rfl, hc⟩ := hrel
        have hij := hc.lt
        have hjn := hc.le
        by_cases hlt : j < n
        · obtain ⟨f, hf, hcell⟩ := hc.at HL.out hlt
          obtain ⟨u, _, hci, hfz⟩ := hc.row.cellAt (k := i) (by omega)
          have HC := Lib.hid (HT.out f (List.mem_of_getElem? hf) wr (HR.out wr hc.grown f (List.mem_of_getElem? hf)))
          have HSK := Lib.hid (hc.skip hlt hf)
          have HTK := Lib.hid (hc.take hlt hf)
          obtain ⟨v, hv⟩ : ∃ v, v = p f := ⟨_, rfl⟩
          rw [← hv] at HC HSK HTK
          clear hc hf hv
          unfold ptrTo at *
          cases v with
          | true =>
            go_wp2_with (first | (go_at_call 68; refine HC.out.mono ?_; rintro e w' ⟨rfl, rfl⟩) | (go_at_call 54; refine HC.out.mono ?_; rintro e w' ⟨rfl, rfl⟩) | go_in)
            go_roundw
            case rel => exact ⟨i, j + 1, cs, rfl, by go_num, HSK.out trivial⟩
            case measure => simp [intOf]; omega
          | false =>
            go_wp2_with (first | (go_at_call 68; refine HC.out.mono ?_; rintro e w' ⟨rfl, rfl⟩) | (go_at_call 54; refine HC.out.mono ?_; rintro e w' ⟨rfl, rfl⟩) | go_in)
            go_roundw
            case rel =>
              obtain ⟨cs', h'⟩ := HTK.out trivial
              exact ⟨i + 1, j + 1, cs', by go_num, by go_num, h'⟩
            case measure => simp [intOf]; omega
        · obtain rfl : j = n := by omega
          obtain ⟨w9, hw9⟩ : ∃ w9, w9 = wr.setCells g i (List.replicate (j - i) (.pointer none)) := ⟨_, rfl⟩
          have hclr : ∀ ty, (Builtin.clear_ #[53] ty #[.slice (some ⟨g, i, none⟩) (j - i) (c - i)]).run Try.prog wr = .ok (.tuple #[]) w9 := fun ty => by
            rw [hw9]
            exact Lib.run_clear_slice wr 53 62 ty (.pointer none) Try.underlying53 zeroPtr rfl rfl g i (j - i) (c - i) (by omega)
              (fun q hq => by obtain ⟨u, _, h2, _⟩ := hc.row.cellAt (k := i + q) (by omega); rw [h2]; rfl) (fun q hq => by obtain ⟨u, _, _, h3⟩ := hc.row.cellAt (k := i + q) (by omega); exact h3)
          have hend : Row w9 X 62 (.slice (some ⟨g, 0, none⟩) i c) i (ptrs (keep p fs)) ∧ w.grownBy w9 (some g) ∧ (keep p fs).length = i := by
            obtain ⟨xs', h1, h2, h3⟩ := Row.sets (List.replicate (j - i) (.pointer none)) i hc.row i (Nat.le_refl _)
            rw [← hw9] at h1 h3
            have h4 := h1.head (k := i) (by omega)
            have h5 := hc.head
            have h6 := hc.len
            have h7 : fs.take j = fs := List.take_of_length_le (by rw [HL.out]; exact Nat.le_refl _)
            rw [h7] at h5 h6
            rw [h2, h5] at h4
            exact ⟨h4, grown_trans hc.grown h3, h6⟩
          have HE := Lib.hid hend
          clear hc hw9 hend
          go_wp2
          go_ret
          rw [HE.out.2.2]
          exact ⟨rfl, HE.out.1, HE.out.2.1⟩
end Go.Proofs.Ytekhockdgglndaa
namespace Go.Proofs.Ytekhockdgglndaa
set_option linter.unusedVariables false
set_option linter.unusedSimpArgs false
open Go.RowKit Go.Maps

/-- The first k files are turned. -/
def mapN (u : Fl → Fl) (k : Nat) (fs : List Fl) : List Fl := (fs.take k).map u ++ fs.drop k
theorem mapN_len (u : Fl → Fl) (k : Nat) (fs : List Fl) : (mapN u k fs).length = fs.length := by simp [mapN]; omega
theorem mapN_at {u : Fl → Fl} {k : Nat} {fs : List Fl} (hk : k < fs.length) : (mapN u k fs)[k]? = fs[k]? := by
  unfold mapN
  rw [List.getElem?_append_right (by simp; omega)]
  simp
  congr 1
  omega
theorem mapN_step {u : Fl → Fl} {k : Nat} {fs : List Fl} {f : Fl} (hf : fs[k]? = some f) : (mapN u k fs).set k (u f) = mapN u (k + 1) fs := by
  obtain ⟨hk, he⟩ := List.getElem?_eq_some_iff.1 hf
  refine List.ext_getElem? fun j => ?_
  have hl : (mapN u k fs).length = fs.length := mapN_len u k fs
  by_cases e : k = j
  · subst e
    rw [List.getElem?_set_self (by omega)]
    unfold mapN
    rw [List.getElem?_append_left (by simp; omega), List.getElem?_map, List.getElem?_take, if_pos (by omega), hf]
    rfl
  · rw [List.getElem?_set_ne e]
    unfold mapN
    rw [List.getElem?_append, List.getElem?_append]
    simp only [List.length_map, List.length_take, List.getElem?_map, List.getElem?_take, List.getElem?_drop]
    by_cases h1 : j < k
    · rw [if_pos (by omega), if_pos h1, if_pos (by omega), if_pos (by omega)]
    · rw [if_neg (by omega), if_neg (by omega)]
      congr 1
      omega
theorem mapN_end (u : Fl → Fl) (fs : List Fl) : mapN u fs.length fs = fs.map u := by simp [mapN]
theorem mapN_same {u : Fl → Fl} {k : Nat} {fs : List Fl} {f : Fl} (hf : fs[k]? = some f) (hu : u f = f) : mapN u (k + 1) fs = mapN u k fs := by
  rw [← mapN_step hf, hu]
  obtain ⟨hk, he⟩ := List.getElem?_eq_some_iff.1 hf
  refine List.ext_getElem? fun j => ?_
  by_cases e : k = j
  · subst e
    rw [List.getElem?_set_self (by rw [mapN_len]; exact hk), mapN_at hk, hf]
  · rw [List.getElem?_set_ne e]
/-- Bytes of a file without a name go. -/
def clr (f : Fl) : Fl := if f.named = true then f else { f with data := [] }
def St.forgot (S : St) : St := { S with fs := (keep goneSure S.fs).map clr }

section
variable {w : World} {X : Nat → Prop} {g : Nat} {L : Lay} {S : St}
theorem DAt.reads (h : DAt w X g L S) (w' : World) (hg : w.grownBy w' L.fr.ownBlock) : ∀ f ∈ S.fs, Reads w' f := fun f hf => by
  have hfa := h.fo f hf
  have := hfa.blk.keep hg (fun e => h.fr.ne_blk hfa.blk (by decide) e)
  exact ⟨this.cell 1, this.cell 2⟩
/-- Behind DeleteFunc. -/
theorem delete_close (h : DAt w X g L S) {A : Option Addr} {n m c : Nat} (hfr : L.fr = .slice A n c) (p : Fl → Bool) {w1 : World} (hm : m = (keep p S.fs).length) (hr : Row w1 X 62 (.slice A m c) m (ptrs (keep p S.fs))) (hg : w.grownBy w1 (Value.ownBlock (.slice A n c))) :
    w1.cell? ⟨g, 1, none⟩ = some (.slice A n c) ∧ w1.frozen? ⟨g, 1, none⟩ = false ∧ Lies X g { L with fr := .slice A m c } { S with fs := keep p S.fs } w (w1.setCell ⟨g, 1, none⟩ (.slice A m c)) := by
  rw [← hfr] at hg
  subst hm
  have hc1 : Blk w1 g 61 (cellsOf L S) := h.cells.keep hg (fun e => h.fr.ne_blk h.cells (by decide) e)
  have hown : Value.ownBlock (.slice A (keep p S.fs).length c) = L.fr.ownBlock := by rw [hfr]; cases A <;> rfl
  refine ⟨by have := hc1.cell 1; rw [this]; show some L.fr = _; rw [hfr], hc1.nf 1, ?_, ?_⟩
  · exact h.files (w' := w1.setCell ⟨g, 1, none⟩ (.slice A (keep p S.fs).length c)) (fs' := keep p S.fs) (v := .slice A (keep p S.fs).length c) (by simpa using hg.size)
      (fun k h1 h2 h3 => (Below.heap_setCell _ _ _ _ h2).trans (hg.block k h1 (fun e => h3 e.symm))) (hc1.set 1 _)
      (hr.stay fun j hj => Below.heap_setCell _ _ _ _ (fun e => hr.ne_blk hc1 (by decide) (by rw [hj]; simp at e; rw [e])))
      (fun j hj => .inl (by rw [← hown]; exact hj)) (fun f hf => .inl ((List.mem_filter.1 hf).1)) (h.nd.sublist List.filter_sublist)
  · exact ((Keeps.refl X w).grown hg h.old (fun k hk => h.fr.2 k hk)).grown (grown_set w1 g 1 _) (fun b hb => Nat.lt_of_lt_of_le (h.old b hb) hg.size) (fun k hk => by cases hk; exact h.gX)
/-- A file's bytes go. -/
theorem Lies.clear {w1 : World} (h : Lies X g L S w w1) {i : Nat} {f : Fl} (hi : S.fs[i]? = some f) : Lies X g (L.up f.blk (.slice none 0 0)) { S with fs := S.fs.set i { f with data := [] } } w (w1.setCell ⟨f.blk, 0, none⟩ (.slice none 0 0)) := by
  have hfa := h.1.fo f (List.mem_of_getElem? hi)
  refine ⟨h.1.file (w' := w1.setCell ⟨f.blk, 0, none⟩ (.slice none 0 0)) hi (f' := { f with data := [] }) rfl (v := .slice none 0 0) (by simp) (fun k _ hk _ => Below.heap_setCell _ _ _ _ hk) (hfa.blk.set 0 _) (Row.nil _ _ _) (fun j hj => by cases hj), ?_⟩
  exact h.2.grown (grown_set w1 f.blk 0 _) h.1.old (fun k hk => by cases hk; exact hfa.out)
theorem Lies.trans {w0 w1 w2 : World} (hk : Keeps X w0 w1) (h : Lies X g L S w1 w2) : Lies X g L S w0 w2 := ⟨h.1, hk.trans h.2⟩

set_option maxRecDepth 10000 in
set_option maxHeartbeats 1600000 in
theorem forget_any (h : DAt w X g L S) (hf : S.fs.length ≤ 100000) (hun : ∀ f ∈ S.fs, f.unsure ≤ 1048576) :
    Calls Try.prog 59 #[ptrTo g] w fun e w' => e = .returned (.tuple #[]) ∧ (∃ L', DAt w' X g L' S.forgot) ∧ Keeps X w w' := by
  obtain ⟨A, cc, hfr, _, _⟩ := h.fr.form
  have c1 := h.c1
  rw [hfr] at c1
  have hrow := h.fr
  rw [hfr] at hrow
  have hreads := h.reads
  rw [hfr] at hreads
  have HD := Lib.hid (delete_any 68 (.inl rfl) goneSure A S.fs.length cc S.fs w X (by omega) hrow hreads (fun f hf w hr => test_sure f w hr (hun f hf)))
  obtain ⟨m, hm⟩ : ∃ m, m = (keep goneSure S.fs).length := ⟨_, rfl⟩
  rw [← hm] at HD
  have hm2 : m ≤ 100000 := by
    rw [hm]
    unfold keep
    have := List.length_filter_le (fun f => !goneSure f) S.fs
    omega
  have HC := Lib.hid (fun w1 hr hg => delete_close (w1 := w1) h hfr goneSure hm hr hg)
  have HM := Lib.hid hm
  clear h hrow hreads hm hfr hun
  unfold ptrTo
  go_enter Try.func59, Try.ntmps59
  go_wp2_with (first
    | (go_at_call 53; refine HD.out.mono ?_; rintro e w1 ⟨rfl, hr1, hg1⟩; obtain ⟨d1, z1, hl⟩ := HC.out w1 hr1 hg1; have e1 := hl.1.c1; have HL := Lib.hid hl; clear hl hr1 hg1)
    | go_in)
  go_loopw [17] (fun i wr => ∃ (k : Nat) (L' : Lay), k ≤ m ∧ i = .int .i64 k ∧ Hid (L'.fr = .slice A m cc) ∧ Lies X g L' { S with fs := mapN clr k (keep goneSure S.fs) } w wr) (fun i _ => m - (intOf i).toNat)
  case atStart => exact ⟨0, { L with fr := .slice A m cc }, Nat.zero_le _, rfl, (rfl : ({ L with fr := .slice A m cc } : Lay).fr = .slice A m cc), HL.out⟩
  case round =>
    obtain ⟨k, L', hk, rfl, hf1, hl⟩ := hrel
    by_cases hlt : k < m
    · obtain ⟨b, off, f, rfl, hfk, hcell⟩ := hl.1.ptr hf1.out (by show (mapN clr k (keep goneSure S.fs)).length = m; rw [mapN_len, HM.out]) hlt
      have hfk' : (keep goneSure S.fs)[k]? = some f := by rw [← mapN_at (u := clr) (by rw [← HM.out]; exact hlt)]; exact hfk
      have hfa := hl.1.fo f (List.mem_of_getElem? hfk)
      have m2 := hfa.c2
      obtain ⟨Af, cf, hrf, _, _⟩ := hfa.row.form
      have m0 := hfa.c0
      rw [hrf] at m0
      have z0 := hfa.blk.nf 0
      have HL1 := Lib.hid hl
      have HFK := Lib.hid hfk
      have HFK' := Lib.hid hfk'
      obtain ⟨nm, hnm⟩ : ∃ nm, nm = f.named := ⟨_, rfl⟩
      rw [← hnm] at m2
      have HNM := Lib.hid hnm
      clear hl hfk hfk' hfa hrf hnm
      unfold ptrTo at *
      cases nm with
      | true =>
        go_wp2
        go_roundw
        case rel => exact ⟨k + 1, L', by omega, by go_num, hf1, by rw [mapN_same HFK'.out (by unfold clr; rw [if_pos HNM.out.symm])]; exact HL1.out⟩
        case measure => simp [intOf]; omega
      | false =>
        go_wp2
        go_roundw
        case rel =>
          refine ⟨k + 1, L'.up f.blk (.slice none 0 0), by omega, by go_num, hf1, ?_⟩
          have h1 := HL1.out.clear HFK.out
          have e := mapN_step (u := clr) HFK'.out
          have e2 : clr f = { f with data := [] } := by unfold clr; rw [if_neg (by rw [← HNM.out]; simp)]
          rw [e2] at e
          rw [← e]
          exact h1
        case measure => simp [intOf]; omega
    · obtain rfl : k = m := by omega
      have hk2 := hl.2
      have hd2 := hl.1
      have e : mapN clr k (keep goneSure S.fs) = (keep goneSure S.fs).map clr := by rw [HM.out, mapN_end]
      rw [e] at hd2
      have HD2 := Lib.hid hd2
      clear hl hd2 e
      go_wp2
      go_end0
      exact ⟨rfl, ⟨L', HD2.out⟩, hk2⟩

def St.syncDir (S : St) : St × Int := if S.berr ≠ 0 then (S.begun, S.berr) else (S.begun.keptNames.forgot, 0)
set_option maxRecDepth 10000 in
theorem syncDir_any (h : DAt w X g L S) (hc : S.calls ≤ 100000) (hcl : Closed S.names S.fs) (hn : S.names.length ≤ 1000) (hf : S.fs.length ≤ 100000) (hun : ∀ f ∈ S.fs, f.unsure ≤ 1048576) :
    Calls Try.prog 30 #[ptrTo g] w fun e w' => e = .returned (.int .i64 S.syncDir.2) ∧ (∃ L', DAt w' X g L' S.syncDir.1) ∧ Keeps X w w' := by
  have HB := Lib.hid (begin_any h (by omega))
  have HK := Lib.hid (fun w1 (D1 : DAt w1 X g L S.begun) => keepNames_any D1 (by rw [S.begun_names, S.begun_fs]; exact hcl) (by rw [S.begun_names]; exact hn) (by rw [S.begun_fs]; exact hf))
  have HFG := Lib.hid (fun w2 L2 (D2 : DAt w2 X g L2 S.begun.keptNames) => forget_any D2 (by show (marked S.begun.names S.begun.fs).length ≤ 100000; unfold marked; rw [List.length_map, S.begun_fs]; exact hf) (fun f hf => by
    have hf' : f ∈ marked S.begun.names S.begun.fs := hf
    unfold marked at hf'
    obtain ⟨f0, h0, rfl⟩ := List.mem_map.1 hf'
    rw [S.begun_fs] at h0
    exact hun f0 h0))
  clear h hcl hun
  by_cases hb : S.berr = 0
  · rw [hb] at HB
    have HS := Lib.hid (show S.syncDir = (S.begun.keptNames.forgot, 0) by unfold St.syncDir; rw [if_neg (by omega)])
    clear hb
    unfold ptrTo at *
    go_enter Try.func30, Try.ntmps30
    go_wp2_with (first
      | (go_at_call 45; refine HB.out.mono ?_; rintro e w1 ⟨rfl, D1, K1⟩; have H2 := Lib.hid (HK.out w1 D1); have K1 := Lib.hid K1; clear D1)
      | (go_at_call 51; refine H2.out.mono ?_; rintro e w2 ⟨rfl, ⟨L2, D2⟩, K2⟩; have H3 := Lib.hid (HFG.out w2 L2 D2); have K2 := Lib.hid K2; clear D2)
      | (go_at_call 59; refine H3.out.mono ?_; rintro e w3 ⟨rfl, D3, K3⟩; have D3 := Lib.hid D3; have K3 := Lib.hid K3)
      | go_in)
    go_ret
    exact ⟨ret_int64 (by rw [HS.out]), by rw [HS.out]; exact D3.out, (K1.out.trans K2.out).trans K3.out⟩
  · have hb1 : (S.berr != 0) = true := by simpa using hb
    have HS := Lib.hid (show S.syncDir = (S.begun, S.berr) by unfold St.syncDir; rw [if_pos hb])
    obtain ⟨y, hy⟩ : ∃ y, y = S.berr := ⟨_, rfl⟩
    rw [← hy] at hb1 HB HS
    clear hb hy
    unfold ptrTo at *
    go_enter Try.func30, Try.ntmps30
    go_wp2_with (first
      | (go_at_call 45; refine HB.out.mono ?_; rintro e w1 ⟨rfl, D1, K1⟩; have D1 := Lib.hid D1; have K1 := Lib.hid K1)
      | go_in)
    go_ret
    exact ⟨ret_int64 (by rw [HS.out]), ⟨L, by rw [HS.out]; exact D1.out⟩, K1.out⟩
end
end Go.Proofs.Ytekhockdgglndaa
