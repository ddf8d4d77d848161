/-
  CONTRACT OF Rename.
-/
import Derived.Test.YtfhbolhmfhgeaaaDSync
namespace Go.Proofs.Ytfhbolhmfhgeaaa
set_option linter.unusedVariables false
set_option linter.unusedSimpArgs false
open Go.RowKit Go.Maps

section
variable {w : World} {X : Nat → Prop} {g : Nat} {L : Lay} {S : St}
theorem Keeps.unwide {X : Nat → Prop} {w c d : World} (h : Keeps (With X w d) d c) (hb : Below w.heap.size w d) (hX : ∀ b, X b → b < w.heap.size) : Keeps X w c :=
  ⟨h.os.trans hb.os, h.tape.trans hb.tape, h.output.trans hb.output, Nat.le_trans hb.size h.size, fun k hk => (h.block k (.inl hk)).trans (hb.block k (hX k hk))⟩
theorem DAt.wide {d : World} (h : DAt w X g L S) (hb : Below w.heap.size w d) : DAt d (With X w d) g L S := h.wider (grown_of_below hb none) (fun j e => by cases e)

set_option maxRecDepth 10000 in
set_option maxHeartbeats 1600000 in
theorem rename_any (h : DAt w X g L S) (hc : S.calls ≤ 100000) (s r : ByteArray) (hs : s.size ≤ maxLen) (hr : r.size ≤ maxLen) (hn : S.names.length ≤ 1000) (hw : S.waits.length ≤ 100000) :
    Calls Try.prog 29 #[ptrTo g, .string s, .string r] w fun e w' => e = .returned (.int .i64 (S.rename s.data.toList r.data.toList).2) ∧ (∃ L', DAt w' X g L' (S.rename s.data.toList r.data.toList).1) ∧ Keeps X w w' := by
  have hmf : ∀ (fn : Fn) (first cap : Array Value) (w : World), (Instr.makeFunc fn first cap).run Try.prog w = .ok (.func fn first cap) w := fun _ _ _ _ => rfl
  obtain ⟨d, hd⟩ : ∃ d, d = (w.alloc (.cells #[.string s] 9)).alloc (.cells #[.string r] 9) := ⟨_, rfl⟩
  have hbd : Below w.heap.size w d := by
    rw [hd]
    exact ((Below.refl _ w).alloc (Nat.le_refl _) _).alloc (by simp) _
  have hb1 : Blk d w.heap.size 9 [.string s] := by
    rw [hd]
    exact (Blk.new w _ _).keep (World.grownBy_alloc _ _ none) (by simp)
  have hb2 : Blk d (w.heap.size + 1) 9 [.string r] := by
    rw [hd]
    have := Blk.new (w.alloc (.cells #[.string s] 9)) 9 [.string r]
    simpa using this
  have hds : d.heap.size = w.heap.size + 2 := by rw [hd]; simp
  have HB := Lib.hid (begin_any (h.wide hbd) (by omega))
  have HO := Lib.hid h.old
  have HBD := Lib.hid hbd
  have HP := Lib.hid (fun w1 (K : Keeps (With X w d) d w1) => (⟨K.blk hb1 (.inr ⟨Nat.le_refl _, by omega⟩), K.blk hb2 (.inr ⟨by omega, by omega⟩)⟩ : Blk w1 w.heap.size 9 [.string s] ∧ Blk w1 (w.heap.size + 1) 9 [.string r]))
  have HX := Lib.hid (⟨fun hx => by have := h.old _ hx; omega, fun hx => by have := h.old _ hx; omega⟩ : ¬ X w.heap.size ∧ ¬ X (w.heap.size + 1))
  clear h hb1 hb2 hbd hds
  subst hd
  by_cases hb : S.berr = 0
  · rw [hb] at HB
    have hbx : ¬ S.berr ≠ 0 := by omega
    cases hk : nat? s.data.toList S.names with
    | none =>
      have HS := Lib.hid (show S.rename s.data.toList r.data.toList = (S.begun, 6) by unfold St.rename; rw [if_neg hbx, hk])
      have HN := Lib.hid (show ptrOf (nat? s.data.toList S.begun.names) = .pointer none by rw [S.begun_names, hk]; rfl)
      clear hb hbx hk
      unfold ptrTo at *
      go_enter Try.func29, Try.ntmps29
      go_wp2_with (first
        | (go_at_call 51; refine HB.out.mono ?_; rintro e w1 ⟨rfl, D1, K1⟩; have c2 := D1.c2; have cb := (HP.out w1 K1).1.cell 0; have hl := looks D1.nm hs HN.out; have D1 := Lib.hid D1; have K1 := Lib.hid K1)
        | go_in)
      go_quiet (fail)
      go_wp2
      go_ret
      exact ⟨ret_int64 (by rw [HS.out]), ⟨L, by rw [HS.out]; exact (D1.out.drewN _).fewer (fun b hb => .inl hb)⟩, (K1.out.unwide HBD.out HO.out).quiet ⟨_, rfl⟩⟩
    | some b =>
      have hn' : S.begun.names.length ≤ 1000000 := by rw [S.begun_names]; omega
      have hw' : S.begun.waits.length ≤ 1000000 := by rw [S.begun_waits]; omega
      have HN := Lib.hid (show ptrOf (nat? s.data.toList S.begun.names) = .pointer (some ⟨b, 0, none⟩) by rw [S.begun_names, hk]; rfl)
      obtain ⟨d, hd⟩ : ∃ d, d = (w.alloc (.cells #[.string s] 9)).alloc (.cells #[.string r] 9) := ⟨_, rfl⟩
      rw [← hd] at HB HP HBD
      have HD := Lib.hid (fun w1 (D1 : DAt w1 (With X w d) g L S.begun) (K1 : Keeps (With X w d) d w1) q =>
        do_any ((D1.drewN q).fewer (fun b hb => .inl hb)) (v := .func (.func 61) #[] #[ptrTo w.heap.size, ptrTo (w.heap.size + 1)]) (t := .rename s.data.toList r.data.toList) ⟨w.heap.size, w.heap.size + 1, s, r, rfl, ⟨(HP.out w1 K1).1.drewN q, HX.out.1⟩, ⟨(HP.out w1 K1).2.drewN q, HX.out.2⟩, rfl, hs, rfl, hr⟩ ⟨b, by rw [S.begun_names]; exact hk⟩ hn' hw')
      subst hd
      by_cases hm : nameB r.data.toList = true
      · have HS := Lib.hid (show S.rename s.data.toList r.data.toList = (S.begun.turned (.rename s.data.toList r.data.toList), 0) by unfold St.rename; rw [if_neg hbx, hk]; simp only [hm, if_true])
        have HM := Lib.hid hm
        clear hb hbx hk hn' hw' hm
        unfold ptrTo at *
        go_enter Try.func29, Try.ntmps29
        go_wp2_with (first
          | (go_at_call 51; refine HB.out.mono ?_; rintro e w1 ⟨rfl, D1, K1⟩; have c2 := D1.c2; have cb := (HP.out w1 K1).1.cell 0; have cb2 := (HP.out w1 K1).2.cell 0; have hl := looks D1.nm hs HN.out; have D1 := Lib.hid D1; have K1 := Lib.hid K1)
          | go_in)
        go_quiet (fail)
        go_wp2_with (first
          | (go_at_call 18; refine (name_any r _ hr).mono ?_; rintro e w2 ⟨rfl, rfl⟩; rw [HM.out])
          | (go_at_call 52; refine (HD.out w1 D1.out K1.out _).mono ?_; rintro e w2 ⟨rfl, D2, K2⟩; have D2 := Lib.hid D2; have K2 := Lib.hid K2)
          | go_in)
        go_ret
        exact ⟨ret_int64 (by rw [HS.out]), by rw [HS.out]; exact D2.out, ((K1.out.unwide HBD.out HO.out).quiet ⟨_, rfl⟩).trans K2.out⟩
      · have hm' : nameB r.data.toList = false := by simpa using hm
        have HS := Lib.hid (show S.rename s.data.toList r.data.toList = (S.begun, 1) by unfold St.rename; rw [if_neg hbx, hk]; simp only [hm', Bool.false_eq_true, if_false])
        have HM := Lib.hid hm'
        clear hb hbx hk hn' hw' hm hm' HD
        unfold ptrTo at *
        go_enter Try.func29, Try.ntmps29
        go_wp2_with (first
          | (go_at_call 51; refine HB.out.mono ?_; rintro e w1 ⟨rfl, D1, K1⟩; have c2 := D1.c2; have cb := (HP.out w1 K1).1.cell 0; have cb2 := (HP.out w1 K1).2.cell 0; have hl := looks D1.nm hs HN.out; have D1 := Lib.hid D1; have K1 := Lib.hid K1)
          | go_in)
        go_quiet (fail)
        go_wp2_with (first
          | (go_at_call 18; refine (name_any r _ hr).mono ?_; rintro e w2 ⟨rfl, rfl⟩; rw [HM.out])
          | go_in)
        go_ret
        exact ⟨ret_int64 (by rw [HS.out]), ⟨L, by rw [HS.out]; exact (D1.out.drewN _).fewer (fun b hb => .inl hb)⟩, (K1.out.unwide HBD.out HO.out).quiet ⟨_, rfl⟩⟩
  · have hb1 : (S.berr != 0) = true := by simpa using hb
    have HS := Lib.hid (show S.rename s.data.toList r.data.toList = (S.begun, S.berr) by unfold St.rename; rw [if_pos hb])
    obtain ⟨y, hy⟩ : ∃ y, y = S.berr := ⟨_, rfl⟩
    rw [← hy] at hb1 HB HS
    clear hb hy
    unfold ptrTo at *
    go_enter Try.func29, Try.ntmps29
    go_wp2_with (first
      | (go_at_call 51; refine HB.out.mono ?_; rintro e w1 ⟨rfl, D1, K1⟩; have D1 := Lib.hid D1; have K1 := Lib.hid K1)
      | go_in)
    go_ret
    exact ⟨ret_int64 (by rw [HS.out]), ⟨L, by rw [HS.out]; exact D1.out.fewer (fun b hb => .inl hb)⟩, K1.out.unwide HBD.out HO.out⟩
end
end Go.Proofs.Ytfhbolhmfhgeaaa
