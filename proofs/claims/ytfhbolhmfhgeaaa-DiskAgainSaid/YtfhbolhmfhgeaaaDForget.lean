/-
  CONTRACTS OF forgetBytes and SyncDir.
-/
import Derived.Test.YtfhbolhmfhgeaaaDDelete2
namespace Go.Proofs.Ytfhbolhmfhgeaaa
set_option linter.unusedVariables false
set_option linter.unusedSimpArgs false
open Go.RowKit Go.Maps

/-- The first k files are turned. -/
def mapN (u : Fl → Fl) (k : Nat) (fs : List Fl) : List Fl := (fs.take k).map u ++ fs.drop k
theorem mapN_len (u : Fl → Fl) (k : Nat) (fs : List Fl) : (mapN u k fs).length = fs.length := by simp [mapN]; omega
theorem mapN_at {u : Fl → Fl} {k : Nat} {fs : List Fl} (hk : k < fs.length) : (mapN u k fs)[k]? = fs[k]? := by
  unfold mapN
  rw [List.getElem?_append_right (by simp; omega)]
  simp
  congr 1
  omega
theorem mapN_step {u : Fl → Fl} {k : Nat} {fs : List Fl} {f : Fl} (hf : fs[k]? = some f) : (mapN u k fs).set k (u f) = mapN u (k + 1) fs := by
  obtain ⟨hk, he⟩ := List.getElem?_eq_some_iff.1 hf
  refine List.ext_getElem? fun j => ?_
  have hl : (mapN u k fs).length = fs.length := mapN_len u k fs
  by_cases e : k = j
  · subst e
    rw [List.getElem?_set_self (by omega)]
    unfold mapN
    rw [List.getElem?_append_left (by simp; omega), List.getElem?_map, List.getElem?_take, if_pos (by omega), hf]
    rfl
  · rw [List.getElem?_set_ne e]
    unfold mapN
    rw [List.getElem?_append, List.getElem?_append]
    simp only [List.length_map, List.length_take, List.getElem?_map, List.getElem?_take, List.getElem?_drop]
    by_cases h1 : j < k
    · rw [if_pos (by omega), if_pos h1, if_pos (by omega), if_pos (by omega)]
    · rw [if_neg (by omega), if_neg (by omega)]
      congr 1
      omega
theorem mapN_end (u : Fl → Fl) (fs : List Fl) : mapN u fs.length fs = fs.map u := by simp [mapN]
theorem mapN_same {u : Fl → Fl} {k : Nat} {fs : List Fl} {f : Fl} (hf : fs[k]? = some f) (hu : u f = f) : mapN u (k + 1) fs = mapN u k fs := by
  rw [← mapN_step hf, hu]
  obtain ⟨hk, he⟩ := List.getElem?_eq_some_iff.1 hf
  refine List.ext_getElem? fun j => ?_
  by_cases e : k = j
  · subst e
    rw [List.getElem?_set_self (by rw [mapN_len]; exact hk), mapN_at hk, hf]
  · rw [List.getElem?_set_ne e]
/-- Bytes of a file without a name go. -/
def clr (f : Fl) : Fl := if f.named = true then f else { f with data := [] }
def St.forgot (S : St) : St := { S with fs := (keep goneSure S.fs).map clr }

section
variable {w : World} {X : Nat → Prop} {g : Nat} {L : Lay} {S : St}
theorem DAt.reads (h : DAt w X g L S) (w' : World) (hg : w.grownBy w' L.fr.ownBlock) : ∀ f ∈ S.fs, Reads w' f := fun f hf => by
  have hfa := h.fo f hf
  have := hfa.blk.keep hg (fun e => h.fr.ne_blk hfa.blk (by decide) e)
  exact ⟨this.cell 1, this.cell 2⟩
/-- Behind DeleteFunc. -/
theorem delete_close (h : DAt w X g L S) {A : Option Addr} {n m c : Nat} (hfr : L.fr = .slice A n c) (p : Fl → Bool) {w1 : World} (hm : m = (keep p S.fs).length) (hr : Row w1 X 78 (.slice A m c) m (ptrs (keep p S.fs))) (hg : w.grownBy w1 (Value.ownBlock (.slice A n c))) :
    w1.cell? ⟨g, 1, none⟩ = some (.slice A n c) ∧ w1.frozen? ⟨g, 1, none⟩ = false ∧ Lies X g { L with fr := .slice A m c } { S with fs := keep p S.fs } w (w1.setCell ⟨g, 1, none⟩ (.slice A m c)) := by
  rw [← hfr] at hg
  subst hm
  have hc1 : Blk w1 g 77 (cellsOf L S) := h.cells.keep hg (fun e => h.fr.ne_blk h.cells (by decide) e)
  have hown : Value.ownBlock (.slice A (keep p S.fs).length c) = L.fr.ownBlock := by rw [hfr]; cases A <;> rfl
  refine ⟨by have := hc1.cell 1; rw [this]; show some L.fr = _; rw [hfr], hc1.nf 1, ?_, ?_⟩
  · exact h.files (w' := w1.setCell ⟨g, 1, none⟩ (.slice A (keep p S.fs).length c)) (fs' := keep p S.fs) (v := .slice A (keep p S.fs).length c) (by simpa using hg.size)
      (fun k h1 h2 h3 => (Below.heap_setCell _ _ _ _ h2).trans (hg.block k h1 (fun e => h3 e.symm))) (hc1.set 1 _)
      (hr.stay fun j hj => Below.heap_setCell _ _ _ _ (fun e => hr.ne_blk hc1 (by decide) (by rw [hj]; simp at e; rw [e])))
      (fun j hj => .inl (by rw [← hown]; exact hj)) (fun f hf => .inl ((List.mem_filter.1 hf).1)) (h.nd.sublist List.filter_sublist)
  · exact ((Keeps.refl X w).grown hg h.old (fun k hk => h.fr.2 k hk)).grown (grown_set w1 g 1 _) (fun b hb => Nat.lt_of_lt_of_le (h.old b hb) hg.size) (fun k hk => by cases hk; exact h.gX)
/-- A file's bytes go. -/
theorem Lies.clear {w1 : World} (h : Lies X g L S w w1) {i : Nat} {f : Fl} (hi : S.fs[i]? = some f) : Lies X g (L.up f.blk (.slice none 0 0)) { S with fs := S.fs.set i { f with data := [] } } w (w1.setCell ⟨f.blk, 0, none⟩ (.slice none 0 0)) := by
  have hfa := h.1.fo f (List.mem_of_getElem? hi)
  refine ⟨h.1.file (w' := w1.setCell ⟨f.blk, 0, none⟩ (.slice none 0 0)) hi (f' := { f with data := [] }) rfl (v := .slice none 0 0) (by simp) (fun k _ hk _ => Below.heap_setCell _ _ _ _ hk) (hfa.blk.set 0 _) (Row.nil _ _ _) (fun j hj => by cases hj), ?_⟩
  exact h.2.grown (grown_set w1 f.blk 0 _) h.1.old (fun k hk => by cases hk; exact hfa.out)
theorem Lies.trans {w0 w1 w2 : World} (hk : Keeps X w0 w1) (h : Lies X g L S w1 w2) : Lies X g L S w0 w2 := ⟨h.1, hk.trans h.2⟩

set_option maxRecDepth 10000 in
set_option maxHeartbeats 1600000 in
theorem forget_any (h : DAt w X g L S) (hf : S.fs.length ≤ 100000) (hun : ∀ f ∈ S.fs, f.unsure ≤ 1048576) :
    Calls Try.prog 55 #[ptrTo g] w fun e w' => e = .returned (.tuple #[]) ∧ (∃ L', DAt w' X g L' S.forgot) ∧ Keeps X w w' := by
  obtain ⟨A, cc, hfr, _, _⟩ := h.fr.form
  have c1 := h.c1
  rw [hfr] at c1
  have hrow := h.fr
  rw [hfr] at hrow
  have hreads := h.reads
  rw [hfr] at hreads
  have HD := Lib.hid (delete_any 73 (.inl rfl) goneSure A S.fs.length cc S.fs w X (by omega) hrow hreads (fun f hf w hr => test_sure f w hr (hun f hf)))
  obtain ⟨m, hm⟩ : ∃ m, m = (keep goneSure S.fs).length := ⟨_, rfl⟩
  rw [← hm] at HD
  have hm2 : m ≤ 100000 := by
    rw [hm]
    unfold keep
    have := List.length_filter_le (fun f => !goneSure f) S.fs
    omega
  have HC := Lib.hid (fun w1 hr hg => delete_close (w1 := w1) h hfr goneSure hm hr hg)
  have HM := Lib.hid hm
  clear h hrow hreads hm hfr hun
  unfold ptrTo
  go_enter Try.func55, Try.ntmps55
  go_wp2_with (first
    | (go_at_call 59; refine HD.out.mono ?_; rintro e w1 ⟨rfl, hr1, hg1⟩; obtain ⟨d1, z1, hl⟩ := HC.out w1 hr1 hg1; have e1 := hl.1.c1; have HL := Lib.hid hl; clear hl hr1 hg1)
    | go_in)
  go_loopw [17] (fun i wr => ∃ (k : Nat) (L' : Lay), k ≤ m ∧ i = .int .i64 k ∧ Hid (L'.fr = .slice A m cc) ∧ Lies X g L' { S with fs := mapN clr k (keep goneSure S.fs) } w wr) (fun i _ => m - (intOf i).toNat)
  case atStart => exact ⟨0, { L with fr := .slice A m cc }, Nat.zero_le _, rfl, (rfl : ({ L with fr := .slice A m cc } : Lay).fr = .slice A m cc), HL.out⟩
  case round =>
    obtain ⟨k, L', hk, rfl, hf1, hl⟩ := hrel
    by_cases hlt : k < m
    · obtain ⟨b, off, f, rfl, hfk, hcell⟩ := hl.1.ptr hf1.out (by show (mapN clr k (keep goneSure S.fs)).length = m; rw [mapN_len, HM.out]) hlt
      have hfk' : (keep goneSure S.fs)[k]? = some f := by rw [← mapN_at (u := clr) (by rw [← HM.out]; exact hlt)]; exact hfk
      have hfa := hl.1.fo f (List.mem_of_getElem? hfk)
      have m2 := hfa.c2
      obtain ⟨Af, cf, hrf, _, _⟩ := hfa.row.form
      have m0 := hfa.c0
      rw [hrf] at m0
      have z0 := hfa.blk.nf 0
      have HL1 := Lib.hid hl
      have HFK := Lib.hid hfk
      have HFK' := Lib.hid hfk'
      obtain ⟨nm, hnm⟩ : ∃ nm, nm = f.named := ⟨_, rfl⟩
      rw [← hnm] at m2
      have HNM := Lib.hid hnm
      clear hl hfk hfk' hfa hrf hnm
      unfold ptrTo at *
      cases nm with
      | true =>
        go_wp2
        go_roundw
        case rel => exact ⟨k + 1, L', by omega, by go_num, hf1, by rw [mapN_same HFK'.out (by unfold clr; rw [if_pos HNM.out.symm])]; exact HL1.out⟩
        case measure => simp [intOf]; omega
      | false =>
        go_wp2
        go_roundw
        case rel =>
          refine ⟨k + 1, L'.up f.blk (.slice none 0 0), by omega, by go_num, hf1, ?_⟩
          have h1 := HL1.out.clear HFK.out
          have e := mapN_step (u := clr) HFK'.out
          have e2 : clr f = { f with data := [] } := by unfold clr; rw [if_neg (by rw [← HNM.out]; simp)]
          rw [e2] at e
          rw [← e]
          exact h1
        case measure => simp [intOf]; omega
    · obtain rfl : k = m := by omega
      have hk2 := hl.2
      have hd2 := hl.1
      have e : mapN clr k (keep goneSure S.fs) = (keep goneSure S.fs).map clr := by rw [HM.out, mapN_end]
      rw [e] at hd2
      have HD2 := Lib.hid hd2
      clear hl hd2 e
      go_wp2
      go_end0
      exact ⟨rfl, ⟨L', HD2.out⟩, hk2⟩

def St.syncDir (S : St) : St × Int := if S.berr ≠ 0 then (S.begun, S.berr) else (S.begun.keptNames.forgot, 0)
set_option maxRecDepth 10000 in
theorem syncDir_any (h : DAt w X g L S) (hc : S.calls ≤ 100000) (hcl : Closed S.names S.fs) (hn : S.names.length ≤ 1000) (hf : S.fs.length ≤ 100000) (hun : ∀ f ∈ S.fs, f.unsure ≤ 1048576) :
    Calls Try.prog 23 #[ptrTo g] w fun e w' => e = .returned (.int .i64 S.syncDir.2) ∧ (∃ L', DAt w' X g L' S.syncDir.1) ∧ Keeps X w w' := by
  have HB := Lib.hid (begin_any h (by omega))
  have HK := Lib.hid (fun w1 (D1 : DAt w1 X g L S.begun) => keepNames_any D1 (by rw [S.begun_names, S.begun_fs]; exact hcl) (by rw [S.begun_names]; exact hn) (by rw [S.begun_fs]; exact hf))
  have HFG := Lib.hid (fun w2 L2 (D2 : DAt w2 X g L2 S.begun.keptNames) => forget_any D2 (by show (marked S.begun.names S.begun.fs).length ≤ 100000; unfold marked; rw [List.length_map, S.begun_fs]; exact hf) (fun f hf => by
    have hf' : f ∈ marked S.begun.names S.begun.fs := hf
    unfold marked at hf'
    obtain ⟨f0, h0, rfl⟩ := List.mem_map.1 hf'
    rw [S.begun_fs] at h0
    exact hun f0 h0))
  clear h hcl hun
  by_cases hb : S.berr = 0
  · rw [hb] at HB
    have HS := Lib.hid (show S.syncDir = (S.begun.keptNames.forgot, 0) by unfold St.syncDir; rw [if_neg (by omega)])
    clear hb
    unfold ptrTo at *
    go_enter Try.func23, Try.ntmps23
    go_wp2_with (first
      | (go_at_call 51; refine HB.out.mono ?_; rintro e w1 ⟨rfl, D1, K1⟩; have H2 := Lib.hid (HK.out w1 D1); have K1 := Lib.hid K1; clear D1)
      | (go_at_call 54; refine H2.out.mono ?_; rintro e w2 ⟨rfl, ⟨L2, D2⟩, K2⟩; have H3 := Lib.hid (HFG.out w2 L2 D2); have K2 := Lib.hid K2; clear D2)
      | (go_at_call 55; refine H3.out.mono ?_; rintro e w3 ⟨rfl, D3, K3⟩; have D3 := Lib.hid D3; have K3 := Lib.hid K3)
      | go_in)
    go_ret
    exact ⟨ret_int64 (by rw [HS.out]), by rw [HS.out]; exact D3.out, (K1.out.trans K2.out).trans K3.out⟩
  · have hb1 : (S.berr != 0) = true := by simpa using hb
    have HS := Lib.hid (show S.syncDir = (S.begun, S.berr) by unfold St.syncDir; rw [if_pos hb])
    obtain ⟨y, hy⟩ : ∃ y, y = S.berr := ⟨_, rfl⟩
    rw [← hy] at hb1 HB HS
    clear hb hy
    unfold ptrTo at *
    go_enter Try.func23, Try.ntmps23
    go_wp2_with (first
      | (go_at_call 51; refine HB.out.mono ?_; rintro e w1 ⟨rfl, D1, K1⟩; have D1 := Lib.hid D1; have K1 := Lib.hid K1)
      | go_in)
    go_ret
    exact ⟨ret_int64 (by rw [HS.out]), ⟨L, by rw [HS.out]; exact D1.out⟩, K1.out⟩
end
end Go.Proofs.Ytfhbolhmfhgeaaa
