/-
  CONTRACT OF Boot: the walk.
-/
import Derived.Test.YtfhbolhmfhgeaaaDBoot
namespace Go.Proofs.Ytfhbolhmfhgeaaa
set_option linter.unusedVariables false
set_option linter.unusedSimpArgs false
open Go.RowKit Go.Maps

section
variable {w : World} {X : Nat → Prop} {g : Nat} {L : Lay} {S : St}
/-- The disk while turns are done again. -/
def bst (S : St) (N : NL) : St := { S with names := N }
theorem boot_turn {L1 : Lay} {N : NL} {wr : World} (h : Lies X g L1 (bst S N) w wr) {A : Option Addr} {n c : Nat} (hw : L1.wr = .slice A n c) (hn : S.waits.length = n) {k : Nat} (hk : k < n) (hlen : N.length ≤ 64) (hok : ∀ t, S.waits[k]? = some t → t.ok N) :
    ∃ b off t f caps, A = some ⟨b, off, none⟩ ∧ S.waits[k]? = some t ∧ wr.cell? ⟨b, off + k, none⟩ = some (.func (.func f) #[] caps) ∧ Calls Try.prog f (#[.map (some L1.nm)] ++ caps) wr (Turns wr L1.nm N t) ∧
      ((f = 53 ∧ ∃ p q, caps = #[ptrTo p, ptrTo q]) ∨ (f = 61 ∧ ∃ p q, caps = #[ptrTo p, ptrTo q]) ∨ (f = 62 ∧ ∃ p, caps = #[ptrTo p])) := by
  obtain ⟨b, off, v, t, e, ht, hc, hta⟩ := h.1.turn hw hn hk
  have ht' : S.waits[k]? = some t := ht
  have hnm : NamesAt wr L1.nm N := h.1.nm
  cases t with
  | create k1 b1 =>
    obtain ⟨p, q, s, hv, ⟨hp, _⟩, ⟨hq, _⟩, hk1, hs⟩ := hta
    subst hv
    refine ⟨b, off, _, _, _, e, ht', hc, ?_, .inl ⟨rfl, p, q, rfl⟩⟩
    rw [← hk1]
    exact create1_any L1.nm p q b1 s N wr hnm hp hq hs (by omega)
  | rename k1 m1 =>
    obtain ⟨p, q, s, r, hv, ⟨hp, _⟩, ⟨hq, _⟩, hk1, hs, hm1, hr⟩ := hta
    subst hv
    obtain ⟨b1, hb1⟩ := hok _ ht'
    refine ⟨b, off, _, _, _, e, ht', hc, ?_, .inr (.inl ⟨rfl, p, q, rfl⟩)⟩
    have ea : Tn.act (.rename k1 m1) N = nput m1 b1 (ndel k1 N) := by simp only [Tn.act, hb1]
    show Calls Try.prog _ _ wr (Turns wr L1.nm N (.rename k1 m1))
    unfold Turns
    rw [ea, ← hk1, ← hm1]
    exact rename1_any L1.nm p q b1 s r N wr hnm hp hq hs hr (by rw [hk1]; exact hb1) (by omega)
  | remove k1 =>
    obtain ⟨p, s, hv, ⟨hp, _⟩, hk1, hs⟩ := hta
    subst hv
    refine ⟨b, off, _, _, _, e, ht', hc, ?_, .inr (.inr ⟨rfl, p, rfl⟩)⟩
    rw [← hk1]
    exact remove1_any L1.nm p s N wr hnm hp hs

theorem boot_delete (h : DAt w X g L S) (hf : S.fs.length ≤ 100000) :
    ∃ A n c m, w.cell? ⟨g, 1, none⟩ = some (.slice A n c) ∧
      Calls Try.prog 59 #[.slice A n c, .func (.func 60) #[] #[]] w (fun e w' => e = .returned (.slice A m c) ∧ Row w' X 78 (.slice A m c) m (ptrs (keep goneBoot S.fs)) ∧ w.grownBy w' (Value.ownBlock (.slice A n c))) ∧
      ∀ w1, Row w1 X 78 (.slice A m c) m (ptrs (keep goneBoot S.fs)) → w.grownBy w1 (Value.ownBlock (.slice A n c)) → w1.cell? ⟨g, 1, none⟩ = some (.slice A n c) ∧ w1.frozen? ⟨g, 1, none⟩ = false ∧
        w1.cell? ⟨g, 6, none⟩ = some (.int .i64 (S.fuse : Int)) ∧ w1.cell? ⟨g, 7, none⟩ = some (.int .i64 (S.fault : Int)) ∧ w1.cell? ⟨g, 9, none⟩ = some (.bool S.dead) ∧ w1.frozen? ⟨g, 6, none⟩ = false ∧ w1.frozen? ⟨g, 7, none⟩ = false ∧ w1.frozen? ⟨g, 9, none⟩ = false ∧
        Lies X g { L with fr := .slice A m c } { S with fs := keep goneBoot S.fs, fuse := 0, fault := 0, dead := false } w ((((w1.setCell ⟨g, 1, none⟩ (.slice A m c)).setCell ⟨g, 6, none⟩ (.int .i64 0)).setCell ⟨g, 7, none⟩ (.int .i64 0)).setCell ⟨g, 9, none⟩ (.bool false)) := by
  obtain ⟨A, cc, hfr, _, _⟩ := h.fr.form
  have c1 := h.c1
  rw [hfr] at c1
  have hrow := h.fr
  rw [hfr] at hrow
  have hreads := h.reads
  rw [hfr] at hreads
  refine ⟨A, S.fs.length, cc, (keep goneBoot S.fs).length, c1, delete_any 60 (.inr rfl) goneBoot A S.fs.length cc S.fs w X (by omega) hrow hreads (fun f hf w hr => test_boot f w hr), fun w1 hr hg => ?_⟩
  obtain ⟨h1, h2, h3⟩ := delete_close h hfr goneBoot rfl hr hg
  have hg' := hg
  rw [← hfr] at hg'
  have hc1 : Blk w1 g 77 (cellsOf L S) := h.cells.keep hg' (fun e => h.fr.ne_blk h.cells (by decide) e)
  exact ⟨h1, h2, hc1.cell 6, hc1.cell 7, hc1.cell 9, hc1.nf 6, hc1.nf 7, hc1.nf 9, h3.on⟩
set_option maxRecDepth 10000 in
set_option maxHeartbeats 3200000 in
theorem boot_any (h : DAt w X g L S) (hdd : S.dead = true) (hf : S.fs.length ≤ 100000) (hwl : S.waits.length ≤ 100000) (hun : ∀ f ∈ S.fs, f.unsure ≤ 1048576) (hda : ∀ f ∈ S.fs, f.data.length ≤ 1048576)
    (hgood : Good S.waits S.sure) (hsound : ∀ k, k ≤ S.waits.length → Sound (acts (S.waits.take k) S.sure) S.fs) (turns : Int) (B : Option Addr) (m c : Nat) (nums : List Int) (hx : ShX w X B m (by64 nums)) (hm : m ≤ 1000000000) :
    Calls Try.prog 25 #[ptrTo g, .int .i64 turns, .slice B m c] w fun e w' => e = .returned (.int .i64 (S.boot turns nums).2) ∧ (∃ L', DAt w' X g L' (S.boot turns nums).1) ∧ Keeps X w w' := by
  obtain ⟨A, cc, hwr, hcc, hcm⟩ := h.wr.choose_spec.1.form
  obtain ⟨n, hn⟩ : ∃ n, n = S.waits.length := ⟨_, rfl⟩
  rw [← hn] at hwr hcc hwl
  obtain ⟨r, hr⟩ : ∃ r, r = withinN turns n := ⟨_, rfl⟩
  have hrn : r ≤ n := by rw [hr]; exact within_le _ _
  obtain ⟨N0, hN0⟩ : ∃ N0, N0 = acts (S.waits.take r) S.sure := ⟨_, rfl⟩
  have HS := Lib.hid (show S.boot turns nums = ({ ((bst S N0).keptNames.bytesKept nums) with fs := keep goneBoot ((bst S N0).keptNames.bytesKept nums).fs, fuse := 0, fault := 0, dead := false }, 0) by
    unfold St.boot
    rw [if_pos hdd, ← hn, ← hr, ← hN0]
    rfl)
  have c9 := h.c9
  rw [hdd] at c9
  have c3 := h.c3
  have hsl : S.sure.length ≤ 64 := hgood.len
  have HCP := Lib.hid (copied_any L.sm S.sure w h.sm (by omega))
  have HBC := Lib.hid (fun w1 (hn : NamesAt w1 w.heap.size S.sure) (hb : Below w.heap.size w w1) => boot_copy h hn hb)
  obtain ⟨L1, hL1⟩ : ∃ L1 : Lay, L1 = { L with nm := w.heap.size } := ⟨_, rfl⟩
  rw [← hL1] at HBC
  have HWR := Lib.hid (show L1.wr = .slice A n cc by rw [hL1]; exact hwr)
  have HWN := Lib.hid (fun w => within_any turns n w)
  rw [← hr] at HWN
  have HXK := Lib.hid (fun w' (k : Keeps X w w') => hx.keep k)
  have HN := Lib.hid hn.symm
  have HG := Lib.hid (fun k (hk : k ≤ n) => hgood.at (k := k) (by rw [← hn]; exact hk))
  have HSO := Lib.hid (hsound r (by rw [← hn]; exact hrn))
  rw [← hN0] at HSO
  have HN0 := Lib.hid hN0
  have HF := Lib.hid (And.intro hf (And.intro hun hda))
  have hwr1 : ∀ w1, Lies X g L1 (bst S S.sure) w w1 → w1.cell? ⟨g, 4, none⟩ = some (.slice A n cc) := fun w1 hl => hl.1.c4.trans (congrArg some HWR.out)
  have HW4 := Lib.hid hwr1
  clear h hdd hf hun hda hgood hsound hx hwr hn hr hN0 hL1 hwr1
  unfold ptrTo
  go_enter Try.func25, Try.ntmps25
  go_wp2_with (first
    | (go_at_call 37; refine HCP.out.mono ?_; rintro e w1 ⟨rfl, h1, hb1⟩; obtain ⟨k2, z2, hl⟩ := HBC.out w1 h1 hb1; have HL := Lib.hid hl; clear hl h1 hb1)
    | go_in)
  obtain ⟨w2, hw2⟩ : ∃ w2, w2 = w1.setCell ⟨g, 2, none⟩ (.map (some w.heap.size)) := ⟨_, rfl⟩
  rw [← hw2] at HL ⊢
  have k4 := HW4.out w2 HL.out
  have hc2n : n ≤ 100000 := hwl
  clear hw2 k2 z2
  go_quiet ((go_at_call 57; exact Calls.quiet_of_same ((HWN.out _).mono fun e w' ⟨h1, h2⟩ => ⟨h1, h2.symm⟩)))
  have HLQ := Lib.hid (show Lies X g L1 (bst S S.sure) w (w2.drewN nq) from ⟨HL.out.1.drewN nq, HL.out.2.quiet ⟨nq, rfl⟩⟩)
  go_wp2
  go_loopw [39] (fun i wr => ∃ k : Nat, k ≤ r ∧ i = .int .i64 k ∧ Lies X g L1 (bst S (acts (S.waits.take k) S.sure)) w wr) (fun i _ => r - (intOf i).toNat)
  case atStart => exact ⟨0, Nat.zero_le _, rfl, HLQ.out⟩
  case round =>
    obtain ⟨k, hk, rfl, hl⟩ := hrel
    by_cases hlt : k < r
    · obtain ⟨hlen, hok⟩ := HG.out k (by omega)
      obtain ⟨b, off, t, f, caps, rfl, ht, hcell, hcall, hcase⟩ := boot_turn hl HWR.out HN.out (by omega) hlen hok
      have c2 := hl.1.c2
      have HT := Lib.hid (acts_snoc ht S.sure)
      have HC := Lib.hid hcall
      have HL1 := Lib.hid hl
      clear hl ht hcall hok
      rcases hcase with ⟨rfl, p, q, rfl⟩ | ⟨rfl, p, q, rfl⟩ | ⟨rfl, p, rfl⟩
      all_goals
        unfold ptrTo at *
        go_wp2_with (first
          | (go_at_call 53; refine HC.out.mono ?_; rintro e w3 ⟨rfl, h3, hg3⟩; have HA := Lib.hid (HL1.out.acted h3 hg3); clear h3 hg3)
          | (go_at_call 61; refine HC.out.mono ?_; rintro e w3 ⟨rfl, h3, hg3⟩; have HA := Lib.hid (HL1.out.acted h3 hg3); clear h3 hg3)
          | (go_at_call 62; refine HC.out.mono ?_; rintro e w3 ⟨rfl, h3, hg3⟩; have HA := Lib.hid (HL1.out.acted h3 hg3); clear h3 hg3)
          | go_in)
        go_roundw
        case rel => exact ⟨k + 1, by omega, by go_num, by rw [HT.out]; exact HA.out⟩
        case measure => simp [intOf]; omega
    · obtain rfl : k = r := by omega
      have hl2 : Lies X g L1 (bst S N0) w wr := by rw [HN0.out]; exact hl
      obtain ⟨hlen, _⟩ := HG.out k (by omega)
      rw [← HN0.out] at hlen
      obtain ⟨hf, hun, hda⟩ := HF.out
      have HKN := Lib.hid (keepNames_any hl2.1 HSO.out.closed (by show N0.length ≤ 1000; omega) hf)
      have HKK := Lib.hid hl2.2
      have hfs : ∀ f ∈ (bst S N0).keptNames.fs, ∃ f0 ∈ S.fs, f = { f0 with named := N0.any fun p => p.2 == f0.blk } := fun f hf' => by
        obtain ⟨f0, h0, h1⟩ := List.mem_map.1 hf'
        exact ⟨f0, h0, h1.symm⟩
      have hkl : (bst S N0).keptNames.fs.length = S.fs.length := by show (marked N0 S.fs).length = _; unfold marked; rw [List.length_map]
      have hun1 : ∀ f ∈ (bst S N0).keptNames.fs, f.unsure ≤ 1048576 := fun f hf' => by
        obtain ⟨f0, h0, rfl⟩ := hfs f hf'
        exact hun f0 h0
      have hda1 : ∀ f ∈ (bst S N0).keptNames.fs, f.data.length ≤ 1048576 := fun f hf' => by
        obtain ⟨f0, h0, rfl⟩ := hfs f hf'
        exact hda f0 h0
      have hnu1 : ∀ f ∈ (bst S N0).keptNames.fs, f.named = true → f.unsure ≤ f.data.length := fun f hf' hnm => by
        obtain ⟨f0, h0, rfl⟩ := hfs f hf'
        obtain ⟨p, hp, hpe⟩ := List.any_eq_true.1 hnm
        obtain ⟨f1, h1, h2, h3⟩ := HSO.out p hp
        have hfb : f1.blk = f0.blk := by rw [h2]; simpa using hpe
        have e1 := find_blk hl2.1.nd h1
        have e0 := find_blk hl2.1.nd h0
        rw [hfb] at e1
        rw [e1] at e0
        cases e0
        exact h3
      have HKB := Lib.hid (fun w3 L3 (D3 : DAt w3 X g L3 (bst S N0).keptNames) (K3 : Keeps X w w3) => keepBytes_any D3 (by omega) hun1 hda1 hnu1 B m c nums (HXK.out w3 K3) hm)
      have hkb : ∀ f ∈ ((bst S N0).keptNames.bytesKept nums).fs, f.unsure ≤ 1048576 := fun f hf' => by
        obtain ⟨j, hj⟩ := List.getElem?_of_mem hf'
        have hj' : (keepB nums 0 (bst S N0).keptNames.fs)[j]? = some f := hj
        rw [keepB_at] at hj'
        obtain ⟨f0, h0, h1⟩ := Option.map_eq_some_iff.1 hj'
        have h2 := hun1 f0 (List.mem_of_getElem? h0)
        rw [← h1]
        unfold keepAt
        split
        · exact h2
        · split
          · exact Nat.zero_le _
          · exact h2
      have HDL := Lib.hid (fun w4 L4 (D4 : DAt w4 X g L4 ((bst S N0).keptNames.bytesKept nums)) => boot_delete D4 (by show (keepB nums 0 _).length ≤ 100000; rw [keepB_len, hkl]; exact hf))
      clear hl hl2 hfs hun1 hda1 hnu1 hkb hf hun hda hlen
      unfold ptrTo at *
      go_wp2_with (first
        | (go_at_call 54; refine HKN.out.mono ?_; rintro e w3 ⟨rfl, ⟨L3, D3⟩, K3⟩; have K3 := HKK.out.trans K3; have HKB3 := Lib.hid (HKB.out w3 L3 D3 K3); have HK3 := Lib.hid K3; clear D3 K3)
        | (go_at_call 58; refine HKB3.out.mono ?_; rintro e w4 ⟨rfl, ⟨L4, D4⟩, K4⟩; have HK4 := Lib.hid (HK3.out.trans K4); obtain ⟨A4, n4, c4, m4, d1, hdc, hcl4⟩ := HDL.out w4 L4 D4; have HDC := Lib.hid hdc; have HCL4 := Lib.hid hcl4; clear D4 K4 hdc hcl4)
        | (go_at_call 59; refine HDC.out.mono ?_; rintro e w5 ⟨rfl, hr5, hg5⟩; obtain ⟨d5, z5, q6, q7, q9, y6, y7, y9, hfin⟩ := HCL4.out w5 hr5 hg5; have HFIN := Lib.hid hfin; clear hr5 hg5 hfin)
        | go_in)
      go_ret
      exact ⟨ret_int64 (by rw [HS.out]), by rw [HS.out]; exact ⟨_, HFIN.out.1⟩, HK4.out.trans HFIN.out.2⟩
end
end Go.Proofs.Ytfhbolhmfhgeaaa
