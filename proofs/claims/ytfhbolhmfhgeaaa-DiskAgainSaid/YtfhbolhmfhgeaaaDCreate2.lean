/-
  CONTRACT OF Create: the walks.
-/
import Derived.Test.YtfhbolhmfhgeaaaDCreate
namespace Go.Proofs.Ytfhbolhmfhgeaaa
set_option linter.unusedVariables false
set_option linter.unusedSimpArgs false
open Go.RowKit Go.Maps

theorem zeroFile (w : World) : (zeroValue 80).run Try.prog w = .ok (.agg #[.slice none 0 0, .int .i64 0, .bool false]) w := by kernel_rfl
section
variable {w : World} {X : Nat → Prop} {g : Nat} {L : Lay} {S : St}
/-- What comes of a Create. -/
def Created (w : World) (X : Nat → Prop) (g : Nat) (S : St) (k : Nm) (e : Ending) (w' : World) : Prop := ∃ b, Free S.fs b ∧ w.heap.size ≤ b ∧ e = .returned (.int .i64 (S.create k b).2) ∧ (∃ L', DAt w' X g L' (S.create k b).1) ∧ Keeps X w w'

theorem Quiet.keeps (X : Nat → Prop) (w : World) (q : Nat) : Keeps X w (w.drewN q) := (Keeps.refl X w).quiet ⟨q, rfl⟩
set_option maxRecDepth 100000 in
set_option maxHeartbeats 3200000 in
theorem create_any (h : DAt w X g L S) (hc : S.calls ≤ 100000) (s : ByteArray) (hs : s.size ≤ maxLen) (hn : S.names.length ≤ 1000) (hw : S.waits.length ≤ 100000) (hf : S.fs.length ≤ 100000) :
    Calls Try.prog 20 #[ptrTo g, .string s] w (Created w X g S s.data.toList) := by
  have hmf : ∀ (fn : Fn) (first cap : Array Value) (w : World), (Instr.makeFunc fn first cap).run Try.prog w = .ok (.func fn first cap) w := fun _ _ _ _ => rfl
  have hzf := zeroFile
  have HB := Lib.hid (begin_any (h.box (.cells #[.string s] 9)) (by omega))
  have HO := Lib.hid h.old
  have hnew : Blk (w.alloc (.cells #[.string s] 9)) w.heap.size 9 [.string s] := Blk.new w _ _
  have hin : With X w (w.alloc (.cells #[.string s] 9)) w.heap.size := .inr ⟨Nat.le_refl _, by simp⟩
  have HP := Lib.hid (fun w1 (K : Keeps (With X w (w.alloc (.cells #[.string s] 9))) (w.alloc (.cells #[.string s] 9)) w1) => K.blk hnew hin)
  have hnX : ¬ X w.heap.size := fun hx => by have := h.old _ hx; omega
  have HX := Lib.hid hnX
  have HFR := Lib.hid (show Free S.fs w.heap.size from fun f hf e => by have := (h.fo f hf).blk.lt; omega)
  clear h hnew hin hnX
  by_cases hb : S.berr = 0
  · rw [hb] at HB
    have hbx : ¬ S.berr ≠ 0 := by omega
    by_cases hnb : nameB s.data.toList = false
    · have HS := Lib.hid (show S.create s.data.toList w.heap.size = (S.begun, 1) by unfold St.create; rw [if_neg hbx, if_pos hnb])
      have HM := Lib.hid hnb
      clear hb hbx hnb
      unfold ptrTo at *
      go_enter Try.func20, Try.ntmps20
      go_wp2_with (first
        | (go_at_call 51; refine HB.out.mono ?_; rintro e w1 ⟨rfl, D1, K1⟩; have cb := (HP.out w1 K1).cell 0; have D1 := Lib.hid D1; have K1 := Lib.hid K1)
        | (go_at_call 18; refine (name_any s _ hs).mono ?_; rintro e w2 ⟨rfl, rfl⟩; rw [HM.out])
        | go_in)
      go_ret
      exact ⟨_, HFR.out, Nat.le_refl _, ret_int64 (by rw [HS.out]), ⟨L, by rw [HS.out]; exact D1.out.fewer (fun b hb => .inl hb)⟩, K1.out.unbox HO.out⟩
    · have hnb' : nameB s.data.toList = true := by simpa using hnb
      have HM := Lib.hid hnb'
      cases hk : nat? s.data.toList S.names with
      | some b =>
        have HS := Lib.hid (show S.create s.data.toList w.heap.size = (S.begun, 7) by unfold St.create; rw [if_neg hbx, if_neg hnb, hk])
        have HN := Lib.hid (show ptrOf (nat? s.data.toList S.begun.names) = .pointer (some ⟨b, 0, none⟩) by rw [S.begun_names, hk]; rfl)
        clear hb hbx hnb hnb' hk
        unfold ptrTo at *
        go_enter Try.func20, Try.ntmps20
        go_wp2_with (first
          | (go_at_call 51; refine HB.out.mono ?_; rintro e w1 ⟨rfl, D1, K1⟩; have cb := (HP.out w1 K1).cell 0; have c2 := D1.c2; have hl := looks D1.nm hs HN.out; have D1 := Lib.hid D1; have K1 := Lib.hid K1)
          | (go_at_call 18; refine (name_any s _ hs).mono ?_; rintro e w2 ⟨rfl, rfl⟩; rw [HM.out])
          | go_in)
        go_quiet (fail)
        go_wp2
        go_ret
        exact ⟨_, HFR.out, Nat.le_refl _, ret_int64 (by rw [HS.out]), ⟨L, by rw [HS.out]; exact (D1.out.drewN _).fewer (fun b hb => .inl hb)⟩, (K1.out.unbox HO.out).quiet ⟨_, rfl⟩⟩
      | none =>
        have HN := Lib.hid (show ptrOf (nat? s.data.toList S.begun.names) = .pointer none by rw [S.begun_names, hk]; rfl)
        have HLEN := Lib.hid (show S.begun.names.length = S.names.length by rw [S.begun_names])
        by_cases hfull : 64 ≤ S.names.length
        · have HS := Lib.hid (show S.create s.data.toList w.heap.size = (S.begun, 8) by unfold St.create; rw [if_neg hbx, if_neg hnb, hk]; simp only [hfull, if_true])
          clear hb hbx hnb hnb' hk
          unfold ptrTo at *
          go_enter Try.func20, Try.ntmps20
          go_wp2_with (first
            | (go_at_call 51; refine HB.out.mono ?_; rintro e w1 ⟨rfl, D1, K1⟩; have cb := (HP.out w1 K1).cell 0; have c2 := D1.c2; have hnm := D1.nm; have hl := looks D1.nm hs HN.out; have D1 := Lib.hid D1; have K1 := Lib.hid K1)
            | (go_at_call 18; refine (name_any s _ hs).mono ?_; rintro e w2 ⟨rfl, rfl⟩; rw [HM.out])
            | go_in)
          go_quiet (fail)
          go_wp2_with (first
            | (at_len; refine wpList_names_len _ rfl _ rfl rfl hnm ?_; rw [HLEN.out])
            | go_in)
          go_ret
          exact ⟨_, HFR.out, Nat.le_refl _, ret_int64 (by rw [HS.out]), ⟨L, by rw [HS.out]; exact (D1.out.drewN _).fewer (fun b hb => .inl hb)⟩, (K1.out.unbox HO.out).quiet ⟨_, rfl⟩⟩
        · have hws : S.begun.waits.length ≤ 1000000 := by rw [S.begun_waits]; omega
          have hns : S.begun.names.length ≤ 1000000 := by rw [S.begun_names]; omega
          have hfl : S.begun.fs.length ≤ 1099511627776 := by rw [S.begun_fs]; omega
          have HFS := Lib.hid S.begun_fs
          clear hb hnb'
          have HHH := Lib.hid (And.intro hbx (And.intro hnb hk))
          clear hbx hnb hk
          unfold ptrTo at HB HN
          unfold ptrTo
          go_enter Try.func20, Try.ntmps20
          go_wp2_with (first
            | (go_at_call 51; refine HB.out.mono ?_; rintro e w1 ⟨rfl, D1, K1⟩; have cb := (HP.out w1 K1).cell 0; have c2 := D1.c2; have hnm := D1.nm; have hl := looks D1.nm hs HN.out; have D1 := Lib.hid D1; have K1 := Lib.hid K1)
            | (go_at_call 18; refine (name_any s _ hs).mono ?_; rintro e w2 ⟨rfl, rfl⟩; rw [HM.out])
            | go_in)
          go_quiet (fail)
          go_wp2_with (first
            | (at_len; refine wpList_names_len _ rfl _ rfl rfl hnm ?_; rw [HLEN.out])
            | go_in)
          obtain ⟨W5, hW5⟩ : ∃ W5, W5 = fileBox (w1.drewN nq) := ⟨_, rfl⟩
          have D5 : DAt W5 X g L S.begun := by
            rw [hW5]
            exact ((D1.out.drewN nq).fewer (fun b hb => .inl hb)).fileBox
          have hcell : W5.cell? ⟨w1.heap.size + 1, 0, none⟩ = some (.pointer (some ⟨w1.heap.size, 0, none⟩)) := by
            rw [hW5]
            unfold fileBox
            have := (Blk.new ((w1.drewN nq).alloc (.cells #[.slice none 0 0, .int .i64 0, .bool false] 80)) 78 [ptrTo (w1.drewN nq).heap.size]).cell 0
            simpa [ptrTo] using this
          have c1 := D5.c1
          have hrow := D5.fr
          have hold := D5.old
          have f1 := D5.cells.nf 1
          have hgl := D5.cells.lt
          have HB5 := Lib.hid D5.cells
          have FIN := Lib.hid (fun (w6 : World) (v : Value) (hr : Row w6 X 78 v (S.begun.fs.length + 1) ((S.begun.fs.map fun f => ptrTo f.blk) ++ [ptrTo w1.heap.size])) (hg : (W5.alloc (.cells #[ptrTo w1.heap.size] 78)).grownBy w6 L.fr.ownBlock) (hl : v.ownBlock = L.fr.ownBlock ∨ v.ownBlock = some (W5.heap.size + 1)) =>
            create_close (w := w1.drewN nq) (w0 := w) (X0 := X) ((D1.out.drewN nq).fewer (fun b hb => .inl hb)) ((HP.out w1 K1.out).drewN nq) HX.out hs hr (by rw [← hW5]; exact hg) (by rw [← hW5]; exact hl))
          have CEL := Lib.hid (fun (w6 : World) (hg : (W5.alloc (.cells #[ptrTo w1.heap.size] 78)).grownBy w6 L.fr.ownBlock) => (⟨((D5.alloc (.cells #[ptrTo w1.heap.size] 78)).cells.keep hg (fun e => hrow.ne_blk D5.cells (by decide) e)).cell 1, ((D5.alloc (.cells #[ptrTo w1.heap.size] 78)).cells.keep hg (fun e => hrow.ne_blk D5.cells (by decide) e)).nf 1⟩ : w6.cell? ⟨g, 1, none⟩ = some L.fr ∧ w6.frozen? ⟨g, 1, none⟩ = false))
          have hWW : (((w1.drewN nq).alloc (.cells #[.slice none 0 0, .int .i64 0, .bool false] 80)).alloc (.cells #[.pointer (some ⟨w1.heap.size, 0, none⟩)] 78)) = W5 := by rw [hW5]; rfl
          rw [hWW]
          have HWW := Lib.hid hW5
          clear hWW hW5 D5 hl c2 hnm
          unfold ptrTo at hrow FIN CEL
          go_region_law (refine step_rowpush rfl (.tmp 37) (.tmp 39) 69 rfl rowF W5.drew X L.fr _ _ _ rfl hrow rfl rfl hold hfl (by omega) ?_; intro v6 w6 hrow6 hg6 hl6; obtain ⟨A6, cc6, rfl, _, _⟩ := hrow6.form; have hg6 : (W5.alloc (.cells #[.pointer (some ⟨w1.heap.size, 0, none⟩)] 78)).grownBy w6 L.fr.ownBlock := ⟨hg6.os, hg6.tape, hg6.output, hg6.size, hg6.block⟩; obtain ⟨d1, z1⟩ := CEL.out w6 hg6; have HL6 := Lib.hid hl6; clear hl6)
          all_goals
            obtain ⟨L7, D7, T7, K7⟩ := FIN.out w6 _ hrow6 hg6 HL6.out
            have HD7 := Lib.hid (do_any D7 T7 trivial hns hws)
            have HK7 := Lib.hid ((K1.out.unbox HO.out).trans (((Quiet.keeps X w1 nq)).trans K7))
            clear D7 T7 K7
            unfold ptrTo at HD7
            go_wp2_with (first
              | (go_at_call 52; refine HD7.out.mono ?_; rintro e w8 ⟨rfl, D8, K8⟩; have D8 := Lib.hid D8; have K8 := Lib.hid K8)
              | go_in)
            go_ret
            have hle : w.heap.size ≤ w1.heap.size := by
              have := (K1.out.unbox HO.out).size
              omega
            have hfree : Free S.fs w1.heap.size := fun f hf e => by
              have := (D1.out.fo f (by rw [HFS.out]; exact hf)).blk.lt
              omega
            have HS : S.create s.data.toList w1.heap.size = (({ S.begun with fs := S.fs ++ [newFl w1.heap.size] } : St).turned (.create s.data.toList w1.heap.size), 0) := by
              unfold St.create
              rw [if_neg HHH.out.1, if_neg HHH.out.2.1, HHH.out.2.2]
              simp only [hfull, if_false]
            refine ⟨w1.heap.size, hfree, hle, ret_int64 (by rw [HS]), ?_, HK7.out.trans K8.out⟩
            rw [HS]
            have := D8.out
            rw [HFS.out] at this
            exact this
  · have hb1 : (S.berr != 0) = true := by simpa using hb
    have HS := Lib.hid (show S.create s.data.toList w.heap.size = (S.begun, S.berr) by unfold St.create; rw [if_pos hb])
    obtain ⟨y, hy⟩ : ∃ y, y = S.berr := ⟨_, rfl⟩
    rw [← hy] at hb1 HB HS
    clear hb hy
    unfold ptrTo at *
    go_enter Try.func20, Try.ntmps20
    go_wp2_with (first
      | (go_at_call 51; refine HB.out.mono ?_; rintro e w1 ⟨rfl, D1, K1⟩; have D1 := Lib.hid D1; have K1 := Lib.hid K1)
      | go_in)
    go_ret
    exact ⟨_, HFR.out, Nat.le_refl _, ret_int64 (by rw [HS.out]), ⟨L, by rw [HS.out]; exact D1.out.fewer (fun b hb => .inl hb)⟩, K1.out.unbox HO.out⟩
end
end Go.Proofs.Ytfhbolhmfhgeaaa
